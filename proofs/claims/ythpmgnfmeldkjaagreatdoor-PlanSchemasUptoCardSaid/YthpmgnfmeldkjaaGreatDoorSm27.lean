/-
  How deep a query's node is at most. No program is named here.
-/
import Derived.Test.YthpmgnfmeldkjaaGreatDoorSm6
import Derived.Test.YthpmgnfmeldkjaaGreatDoorSm26
import Derived.Test.YthpmgnfmeldkjaaGreatDoorSm10
import Derived.Test.YthpmgnfmeldkjaaGreatDoorSm4
import Derived.Test.YthpmgnfmeldkjaaGreatDoorSm23
import Derived.Test.YthpmgnfmeldkjaaGreatDoorSm24
import Derived.Test.YthpmgnfmeldkjaaGreatDoorSm7
set_option maxRecDepth 100000
set_option maxHeartbeats 16000000
set_option linter.unusedVariables false
set_option linter.unusedSimpArgs false
open Go.Lib (hid)
namespace Go.Proofs.YthpmgnfmeldkjaaGreatDoor.Code
open Val
theorem deepL_le {k : Nat} : ∀ {l : List Nod}, (∀ t ∈ l, t.deep ≤ k) → Nod.deepL l ≤ k
 | [], _ => Nat.zero_le _
 | x :: l, h => by
  rw [Nod.deepL]
  exact Nat.max_le.2 ⟨h x (List.mem_cons_self ..), deepL_le fun t ht => h t (List.mem_cons_of_mem _ ht)⟩
theorem mk_deep (o t : List UInt8) (ks : List Nod) : (Nod.mk o t ks).deep = Nod.deepL ks + 1 := by rw [Nod.deep]
theorem leaf_deep (o t : List UInt8) : (Nod.mk o t []).deep = 1 := by rw [Nod.deep, Nod.deepL]
section
variable {L : List V} {i : Nat} {b : Bool}
theorem exprQ_deep (h : i ≤ L.length) : (exprQ L i b).1.n.deep + i ≤ 1 + (exprQ L i b).2.1 := by
 rw [Tr.n_deep]
 exact P_deep L (stepsN L) (.expr 1) i b h
theorem item_deep (h : i ≤ L.length) : (itemQ L i b).1.deep + i ≤ 2 + (itemQ L i b).2.1 := by
 have h1 := nm_ends (b := b) h
 have h2 := must_ends (b := (nmQ L i b).2.2) (s := [61]) h1.2.1
 have h3 := exprQ_deep (b := (mustQ L (nmQ L i b).2.1 (nmQ L i b).2.2 [61]).2) h2.2.1
 have e1 := h1.1
 have e2 := h2.1
 unfold itemQ
 rw [mk_deep, Nod.deepL, Nod.deepL]
 dsimp only
 omega
theorem pair_deep (h : i ≤ L.length) : (pairQ L i b).1.deep + i ≤ 2 + (pairQ L i b).2.1 := by
 have h1 := (pair_ends (b := b) h).1
 have h2 : (pairQ L i b).1.deep = 2 := by unfold pairQ; rw [mk_deep, Nod.deepL, leaf_deep, Nod.deepL]; rfl
 omega
theorem agg_deep (h : i ≤ L.length) : (aggQ L i b).1.deep + i ≤ 2 + (aggQ L i b).2.1 := by
 have h1 := (agg_ends (b := b) h).1
 have h2 : (aggQ L i b).1.deep ≤ 2 := by
  unfold aggQ agg2Q
  split
  ·show zeroN.deep ≤ 2
   unfold zeroN
   rw [leaf_deep]
   decide
  ·rw [mk_deep, Nod.deepL, leaf_deep, Nod.deepL]
   decide
 omega
theorem names_deep : ∀ (f i : Nat) (b : Bool), ∀ t ∈ (namesQ L f i b).1, t.deep ≤ 1
 | 0, i, b, t, ht => by cases ht
 | f + 1, i, b, t, ht => by
  rw [namesQ] at ht
  split at ht
  ·rcases List.mem_cons.1 ht with rfl | ht
   ·rw [leaf_deep]; exact Nat.le_refl _
   ·exact names_deep f _ _ t ht
  ·obtain rfl := List.mem_singleton.1 ht
   rw [leaf_deep]; exact Nat.le_refl _
theorem by_deep : (byQ L i b).1.deep ≤ 2 := by
 unfold byQ
 split
 ·rw [mk_deep]
  have := deepL_le (fun t ht => names_deep (L := L) (L.length + 1) (i + 1) b t ht)
  omega
 ·rw [leaf_deep]; decide
theorem loop_deep {el : Nat → Bool → Res} {k : Nat} (he : ∀ j c, j ≤ L.length → Ends L.length j c (el j c).2) (hd : ∀ j c, j ≤ L.length → (el j c).1.deep + j ≤ k + (el j c).2.1) : ∀ (f : Nat) (first : Bool) (i : Nat) (b : Bool), i ≤ L.length → ∀ t ∈ (loopQ L el f first i b).1, t.deep + i ≤ k + (loopQ L el f first i b).2.1
 | 0, _, i, b, h, t, ht => by cases ht
 | f + 1, first, i, b, h, t, ht => by
  rw [loopQ] at ht ⊢
  have h1 := more_ends (b := b) (first := first) h
  by_cases hm : (moreQ L i b first).1 = false
  ·rw [if_pos hm] at ht
   cases ht
  rw [if_neg hm] at ht ⊢
  have h2 := he _ (moreQ L i b first).2.2 h1.2.1
  have h3 := loop_ends he f false _ (el (moreQ L i b first).2.1 (moreQ L i b first).2.2).2.2 h2.2.1
  have e1 := h1.1
  have e2 := h2.1
  have e3 := h3.1
  dsimp only at ht ⊢
  rcases List.mem_cons.1 ht with rfl | ht
  ·have := hd _ (moreQ L i b first).2.2 h1.2.1
   omega
  ·have := loop_deep he hd f false _ _ h2.2.1 t ht
   omega
theorem tail_deep {q : Nat → Bool → Res} (hq : ∀ j c, j ≤ L.length → Ends L.length j c (q j c).2) (hd : ∀ j c, j ≤ L.length → (q j c).1.deep + j ≤ 2 + (q j c).2.1) {o : List UInt8} (h : i ≤ L.length) : ∀ t ∈ (tailQ L q o i b).1, t.deep + i ≤ 2 + (tailQ L q o i b).2.1 := by
 have h1 := must_ends (b := b) (s := [44]) h
 have e1 := h1.1
 have hT := tail_ends (b := b) (o := o) hq h
 have eT := hT.1
 intro t ht
 unfold tailQ at ht eT ⊢
 split at ht
 ·rename_i c1
  rw [if_pos c1] at eT ⊢
  obtain rfl := List.mem_singleton.1 ht
  have h2 := exprQ_deep (b := (mustQ L i b [44]).2) h1.2.1
  have h3 := expr_ends (b := (mustQ L i b [44]).2) h1.2.1
  have h4 := (must_ends (b := (exprQ L (mustQ L i b [44]).1 (mustQ L i b [44]).2).2.2) (s := [41]) h3.2.1).1
  dsimp only
  omega
 rename_i c1
 rw [if_neg c1] at eT ⊢
 split at ht
 ·cases ht
 rename_i c2
 rw [if_neg c2] at eT ⊢
 split at ht
 ·rename_i c3
  rw [if_pos c3] at eT ⊢
  exact loop_deep (fun j c hj => item_ends hj) (fun j c hj => item_deep hj) _ _ _ _ h t ht
 rename_i c3
 rw [if_neg c3] at eT ⊢
 split at ht
 ·rename_i c4
  rw [if_pos c4] at eT ⊢
  exact loop_deep hq hd _ _ _ _ h t ht
 rename_i c4
 rw [if_neg c4] at eT ⊢
 split at ht
 ·rename_i c5
  rw [if_pos c5] at eT ⊢
  have h2 := hq _ (mustQ L i b [44]).2 h1.2.1
  have e2 := h2.1
  have h3 := loop_ends (L := L) (el := pairQ L) (fun j c hj => pair_ends hj) (L.length + 1) true _ (q (mustQ L i b [44]).1 (mustQ L i b [44]).2).2.2 h2.2.1
  have e3 := h3.1
  dsimp only at ht ⊢
  rcases List.mem_cons.1 ht with rfl | ht
  ·have := hd _ (mustQ L i b [44]).2 h1.2.1
   omega
  ·have := loop_deep (L := L) (el := pairQ L) (fun j c hj => pair_ends hj) (fun j c hj => pair_deep hj) _ _ _ _ h2.2.1 t ht
   omega
 ·rename_i c5
  rw [if_neg c5] at eT ⊢
  unfold groupQ at ht eT ⊢
  have h2 := by_ends (b := (mustQ L i b [44]).2) h1.2.1
  have h3 := agg_ends (L := L) (b := (byQ L (mustQ L i b [44]).1 (mustQ L i b [44]).2).2.2) h2.2.1
  have h4 := loop_ends (L := L) (el := aggQ L) (fun j c hj => agg_ends hj) (L.length + 1) false _ (aggQ L (byQ L (mustQ L i b [44]).1 (mustQ L i b [44]).2).2.1 (byQ L (mustQ L i b [44]).1 (mustQ L i b [44]).2).2.2).2.2 h3.2.1
  have e2 := h2.1
  have e3 := h3.1
  have e4 := h4.1
  dsimp only at ht eT ⊢
  rcases List.mem_cons.1 ht with rfl | ht
  ·have := by_deep (L := L) (i := (mustQ L i b [44]).1) (b := (mustQ L i b [44]).2)
   omega
  rcases List.mem_cons.1 ht with rfl | ht
  ·have := agg_deep (L := L) (b := (byQ L (mustQ L i b [44]).1 (mustQ L i b [44]).2).2.2) h2.2.1
   omega
  ·have := loop_deep (L := L) (el := aggQ L) (fun j c hj => agg_ends hj) (fun j c hj => agg_deep hj) _ _ _ _ h3.2.1 t ht
   omega
end
theorem qq_deep (L : List V) : ∀ (f i : Nat) (b : Bool), i ≤ L.length → (qq L f i b).1.deep + i ≤ 1 + (qq L f i b).2.1
 | 0, i, b, h => by rw [qq]; unfold zeroN; rw [leaf_deep]; exact Nat.le_refl _
 | f + 1, i, b, h => by
  rw [qq]
  by_cases ho : opQ L i b opsQ = []
  ·rw [if_pos ho]
   have := (nm_ends (b := b) h).1
   dsimp only
   rw [leaf_deep]
   omega
  ·rw [if_neg ho]
   have hs := op_lt ho
   have h1 := qq_ends L f (i + 2) b hs.1
   have d1 := qq_deep L f (i + 2) b hs.1
   have h2 := tail_ends (b := (qq L f (i + 2) b).2.2) (o := opQ L i b opsQ) (fun j c hj => qq_ends L f j c hj) h1.2.1
   have e1 := h1.1
   have e2 := h2.1
   dsimp only
   rw [mk_deep, Nod.deepL]
   have := deepL_le (k := 2 + (tailQ L (qq L f) (opQ L i b opsQ) (qq L f (i + 2) b).2.1 (qq L f (i + 2) b).2.2).2.1 - (qq L f (i + 2) b).2.1) (l := (tailQ L (qq L f) (opQ L i b opsQ) (qq L f (i + 2) b).2.1 (qq L f (i + 2) b).2.2).1) (fun t ht => by
    have := tail_deep (L := L) (fun j c hj => qq_ends L f j c hj) (fun j c hj => by have := qq_deep L f j c hj; omega) h1.2.1 t ht
    omega)
   omega
theorem topQ_deep (L : List V) : (topQ L).1.deep ≤ 1 + L.length := by
 have h := qq_deep L (L.length + 1) 0 false (Nat.zero_le _)
 have h2 := topQ_le L
 unfold topQ at h2 ⊢
 omega
open Go.ChangeShapes Go.WideShapes Go.ChangeAt Go.RowKit Elems
def WordsIs (s : ByteArray) (l : List W) (p ee : Int) : Prop := ∀ w, Calls Tryz.prog 40 #[.string s] w (fun e w' => ∃ (A : Option Addr) (cap : Nat), e = .returned (.tuple #[.slice A l.length cap, .int .i64 p, .int .i64 ee]) ∧ At wc 3 w' w'.heap.size A l ∧ Below w.heap.size w w')
theorem words_is (s : ByteArray) (hs : s.size ≤ 4194304) : WordsIs s (wL s.data.toList) (wP s.data.toList) (wE s.data.toList) := fun w => rwords_any s w hs
theorem bytes_len (s : ByteArray) : s.data.toList.length = s.size := Array.length_toList
theorem rreadQ_none (A : Option Addr) (cap : Nat) (w : World) :
  Calls Tryz.prog 41 #[.slice A 0 cap, .int .i64 0] w (ReadQPost w (zeroN, 0, 91)) := by
 go_enter Tryz.func41, Tryz.ntmps41
 go_wp2
 have Y := NBox.fresh w (.string ⟨#[]⟩) (.string ⟨#[]⟩) (.slice none 0 0) 24
 exact bodyPost_ret (v := .tuple #[.agg #[.string ⟨#[]⟩, .string ⟨#[]⟩, .slice none 0 0], .int .i64 0, .int .i64 91]) (by simp [results, Tryz.results41, go_sem, Y.c0, Y.c1, Y.c2]) rfl
  ⟨⟨#[]⟩, ⟨#[]⟩, none, 0, 0, rfl, RIn.leafN _ _ ⟨#[]⟩ ⟨#[]⟩, (Below.refl _ _).alloc (Nat.le_refl _) _⟩
def ParseQPost (w : World) (res : Nod × Int × Int) (e : Ending) (w' : World) : Prop :=
 ∃ (op tx : ByteArray) (X : Option Addr) (n m : Nat), e = .returned (.tuple #[.agg #[.string op, .string tx, .slice X n m], .int .i64 res.2.1, .int .i64 res.2.2]) ∧ RIn w' (New w w') res.1 (op, tx, X, n, m) ∧ Below w.heap.size w w'
theorem rparseQ_lex (s : ByteArray) (w : World) (j : Int) (hw : WordsIs s [] j 81) :
  Calls Tryz.prog 23 #[.string s] w (ParseQPost w (zeroN, j, 81)) := by
 have HW := hid hw
 clear hw
 go_enter Tryz.func23, Tryz.ntmps23
 have N0 := hid (NBox.fresh w (.string ⟨#[]⟩) (.string ⟨#[]⟩) (.slice none 0 0) 24)
 have B0 := hid ((Below.refl w.heap.size w).alloc (Nat.le_refl _) (.cells #[.string ⟨#[]⟩, .string ⟨#[]⟩, .slice none 0 0] 24))
 go_wp2_with fail
 refine (HW.out _).mono ?_
 rintro e w1 ⟨A, cap, rfl, hat, hb1⟩
 have N1 := hid (N0.out.below hb1)
 have B1 := hid (B0.out.trans (hb1.mono (by simp)))
 have A1 := hid hat
 have z1 := N1.out.lt
 clear hb1 hat
 obtain ⟨x0, x1, x2, xf⟩ := N1.out
 go_wp2
 have N3 := N1
 have B3 := B1
 replace N3 := hid N3.out
 have Y := N3.out.set (.string ⟨#[]⟩) (.string ⟨#[]⟩) (.slice none 0 0)
 exact bodyPost_ret (v := .tuple #[.agg #[.string ⟨#[]⟩, .string ⟨#[]⟩, .slice none 0 0], .int .i64 j, .int .i64 81]) (by simp [results, Tryz.results23, go_sem, Y.c0, Y.c1, Y.c2]) rfl
  ⟨⟨#[]⟩, ⟨#[]⟩, none, 0, 0, rfl, RIn.leafN _ _ ⟨#[]⟩ ⟨#[]⟩, ((B3.out.setCell (Nat.le_refl _) _).setCell (Nat.le_refl _) _).setCell (Nat.le_refl _) _⟩
theorem rparseQ_bad (s : ByteArray) (w : World) (l : List W) (hw : WordsIs s l 0 0) (x : Nod) (j : Nat) (hr : ∀ A cap w, At wc 3 w w.heap.size A l → Calls Tryz.prog 41 #[.slice A l.length cap, .int .i64 0] w (ReadQPost w (x, j, 91))) (hl : l.length ≤ 4194304) (hj : j ≤ l.length) :
  Calls Tryz.prog 23 #[.string s] w (ParseQPost w (zeroN, placeL s.size l j, 91)) := by
 have HW := hid hw
 have HR := hid hr
 have HP := hid (fun (A : Option Addr) (cap : Nat) (w : World) h => rplace_any s A cap l j w h hl hj)
 obtain ⟨p, hp⟩ : ∃ p, placeL s.size l j = p := ⟨_, rfl⟩
 rw [hp] at HP ⊢
 clear hw hr hp
 go_enter Tryz.func23, Tryz.ntmps23
 have N0 := hid (NBox.fresh w (.string ⟨#[]⟩) (.string ⟨#[]⟩) (.slice none 0 0) 24)
 have B0 := hid ((Below.refl w.heap.size w).alloc (Nat.le_refl _) (.cells #[.string ⟨#[]⟩, .string ⟨#[]⟩, .slice none 0 0] 24))
 go_wp2_with fail
 refine (HW.out _).mono ?_
 rintro e w1 ⟨A, cap, rfl, hat, hb1⟩
 have N1 := hid (N0.out.below hb1)
 have B1 := hid (B0.out.trans (hb1.mono (by simp)))
 have A1 := hid hat
 have z1 := N1.out.lt
 clear hb1 hat
 go_wp2_with fail
 refine (HR.out A cap _ A1.out).mono ?_
 rintro e w2 ⟨op, tx, X, n, m, rfl, hn2, hb2⟩
 have N2 := hid ((N1.out.below hb2).alloc (.cells #[.string op, .string tx, .slice X n m] 24))
 have B2 := hid ((B1.out.trans (hb2.mono (by omega))).alloc (by have := hb2.size; omega) (.cells #[.string op, .string tx, .slice X n m] 24))
 have A2 := hid (show At wc 3 (w2.alloc (.cells #[.string op, .string tx, .slice X n m] 24)) (w2.alloc (.cells #[.string op, .string tx, .slice X n m] 24)).heap.size A l from ((((A1.out.below hb2).more hb2.size).below ((Below.refl _ _).alloc (Nat.le_refl _) (.cells #[.string op, .string tx, .slice X n m] 24))).more (by simp)))
 have I2 := hid ((hn2.imp (S' := fun g => w.heap.size < g ∧ g < w2.heap.size) (fun g hg => ⟨by have := hg.1; omega, hg.2⟩)).alloc (fun g hg => hg.2) (.cells #[.string op, .string tx, .slice X n m] 24))
 have V2 := hid (NBox.fresh w2 (.string op) (.string tx) (.slice X n m) 24)
 have z2 := hb2.size
 have zn := N2.out.lt
 clear hb2 hn2
 obtain ⟨x0, x1, x2, xf⟩ := N2.out
 have A3 := A2
 go_wp2_with fail
 refine (HP.out A cap _ A2.out).mono ?_
 rintro e w3 ⟨rfl, hb3⟩
 have N3 := hid (N2.out.below hb3)
 have B3 := hid (B2.out.trans (hb3.mono (by omega)))
 have z3 := N3.out.lt
 clear hb3 x0 x1 x2 xf
 obtain ⟨x0, x1, x2, xf⟩ := N3.out
 go_wp2
 have Y := N3.out.set (.string ⟨#[]⟩) (.string ⟨#[]⟩) (.slice none 0 0)
 exact bodyPost_ret (v := .tuple #[.agg #[.string ⟨#[]⟩, .string ⟨#[]⟩, .slice none 0 0], .int .i64 p, .int .i64 91]) (by simp [results, Tryz.results23, go_sem, Y.c0, Y.c1, Y.c2]) rfl
  ⟨⟨#[]⟩, ⟨#[]⟩, none, 0, 0, rfl, RIn.leafN _ _ ⟨#[]⟩ ⟨#[]⟩, ((B3.out.setCell (Nat.le_refl _) _).setCell (Nat.le_refl _) _).setCell (Nat.le_refl _) _⟩
theorem rparseQ_short (s : ByteArray) (w : World) (l : List W) (hw : WordsIs s l 0 0) (x : Nod) (j : Nat) (hr : ∀ A cap w, At wc 3 w w.heap.size A l → Calls Tryz.prog 41 #[.slice A l.length cap, .int .i64 0] w (ReadQPost w (x, j, 0))) (hl : l.length ≤ 4194304) (hj : j < l.length) :
  Calls Tryz.prog 23 #[.string s] w (ParseQPost w (zeroN, placeL s.size l j, 91)) := by
 have HW := hid hw
 have HR := hid hr
 have HP := hid (fun (A : Option Addr) (cap : Nat) (w : World) h => rplace_any s A cap l j w h hl (Nat.le_of_lt hj))
 obtain ⟨p, hp⟩ : ∃ p, placeL s.size l j = p := ⟨_, rfl⟩
 rw [hp] at HP ⊢
 have e1 : decide ((j : Int) < (l.length : Int)) = true := by simp; omega
 clear hw hr hp
 go_enter Tryz.func23, Tryz.ntmps23
 have N0 := hid (NBox.fresh w (.string ⟨#[]⟩) (.string ⟨#[]⟩) (.slice none 0 0) 24)
 have B0 := hid ((Below.refl w.heap.size w).alloc (Nat.le_refl _) (.cells #[.string ⟨#[]⟩, .string ⟨#[]⟩, .slice none 0 0] 24))
 go_wp2_with fail
 refine (HW.out _).mono ?_
 rintro e w1 ⟨A, cap, rfl, hat, hb1⟩
 have N1 := hid (N0.out.below hb1)
 have B1 := hid (B0.out.trans (hb1.mono (by simp)))
 have A1 := hid hat
 have z1 := N1.out.lt
 clear hb1 hat
 go_wp2_with fail
 refine (HR.out A cap _ A1.out).mono ?_
 rintro e w2 ⟨op, tx, X, n, m, rfl, hn2, hb2⟩
 have N2 := hid ((N1.out.below hb2).alloc (.cells #[.string op, .string tx, .slice X n m] 24))
 have B2 := hid ((B1.out.trans (hb2.mono (by omega))).alloc (by have := hb2.size; omega) (.cells #[.string op, .string tx, .slice X n m] 24))
 have A2 := hid (show At wc 3 (w2.alloc (.cells #[.string op, .string tx, .slice X n m] 24)) (w2.alloc (.cells #[.string op, .string tx, .slice X n m] 24)).heap.size A l from ((((A1.out.below hb2).more hb2.size).below ((Below.refl _ _).alloc (Nat.le_refl _) (.cells #[.string op, .string tx, .slice X n m] 24))).more (by simp)))
 have I2 := hid ((hn2.imp (S' := fun g => w.heap.size < g ∧ g < w2.heap.size) (fun g hg => ⟨by have := hg.1; omega, hg.2⟩)).alloc (fun g hg => hg.2) (.cells #[.string op, .string tx, .slice X n m] 24))
 have V2 := hid (NBox.fresh w2 (.string op) (.string tx) (.slice X n m) 24)
 have z2 := hb2.size
 have zn := N2.out.lt
 clear hb2 hn2
 obtain ⟨x0, x1, x2, xf⟩ := N2.out
 have A3 := A2
 go_wp2_with fail
 refine (HP.out A cap _ A2.out).mono ?_
 rintro e w3 ⟨rfl, hb3⟩
 have N3 := hid (N2.out.below hb3)
 have B3 := hid (B2.out.trans (hb3.mono (by omega)))
 have z3 := N3.out.lt
 clear hb3 x0 x1 x2 xf
 obtain ⟨x0, x1, x2, xf⟩ := N3.out
 go_wp2
 have Y := N3.out.set (.string ⟨#[]⟩) (.string ⟨#[]⟩) (.slice none 0 0)
 exact bodyPost_ret (v := .tuple #[.agg #[.string ⟨#[]⟩, .string ⟨#[]⟩, .slice none 0 0], .int .i64 p, .int .i64 91]) (by simp [results, Tryz.results23, go_sem, Y.c0, Y.c1, Y.c2]) rfl
  ⟨⟨#[]⟩, ⟨#[]⟩, none, 0, 0, rfl, RIn.leafN _ _ ⟨#[]⟩ ⟨#[]⟩, ((B3.out.setCell (Nat.le_refl _) _).setCell (Nat.le_refl _) _).setCell (Nat.le_refl _) _⟩
theorem rparseQ_deep (s : ByteArray) (w : World) (l : List W) (hw : WordsIs s l 0 0) (x : Nod) (hr : ∀ A cap w, At wc 3 w w.heap.size A l → Calls Tryz.prog 41 #[.slice A l.length cap, .int .i64 0] w (ReadQPost w (x, l.length, 0))) (hd : x.deep ≤ 1000000000) (h16 : 16 < x.deep) :
  Calls Tryz.prog 23 #[.string s] w (ParseQPost w (zeroN, 0, 92)) := by
 have HW := hid hw
 have HR := hid hr
 have HD := hid (rdeepN_any 1000000000 x hd (Nat.le_refl _))
 obtain ⟨d, hdd⟩ : ∃ d, x.deep = d := ⟨_, rfl⟩
 rw [hdd] at HD h16 hd
 clear hw hr hdd
 have e1 : decide ((16 : Int) < (d : Int)) = true := by simp; omega
 go_enter Tryz.func23, Tryz.ntmps23
 have N0 := hid (NBox.fresh w (.string ⟨#[]⟩) (.string ⟨#[]⟩) (.slice none 0 0) 24)
 have B0 := hid ((Below.refl w.heap.size w).alloc (Nat.le_refl _) (.cells #[.string ⟨#[]⟩, .string ⟨#[]⟩, .slice none 0 0] 24))
 go_wp2_with fail
 refine (HW.out _).mono ?_
 rintro e w1 ⟨A, cap, rfl, hat, hb1⟩
 have N1 := hid (N0.out.below hb1)
 have B1 := hid (B0.out.trans (hb1.mono (by simp)))
 have A1 := hid hat
 have z1 := N1.out.lt
 clear hb1 hat
 go_wp2_with fail
 refine (HR.out A cap _ A1.out).mono ?_
 rintro e w2 ⟨op, tx, X, n, m, rfl, hn2, hb2⟩
 have N2 := hid ((N1.out.below hb2).alloc (.cells #[.string op, .string tx, .slice X n m] 24))
 have B2 := hid ((B1.out.trans (hb2.mono (by omega))).alloc (by have := hb2.size; omega) (.cells #[.string op, .string tx, .slice X n m] 24))
 have A2 := hid (show At wc 3 (w2.alloc (.cells #[.string op, .string tx, .slice X n m] 24)) (w2.alloc (.cells #[.string op, .string tx, .slice X n m] 24)).heap.size A l from ((((A1.out.below hb2).more hb2.size).below ((Below.refl _ _).alloc (Nat.le_refl _) (.cells #[.string op, .string tx, .slice X n m] 24))).more (by simp)))
 have I2 := hid ((hn2.imp (S' := fun g => w.heap.size < g ∧ g < w2.heap.size) (fun g hg => ⟨by have := hg.1; omega, hg.2⟩)).alloc (fun g hg => hg.2) (.cells #[.string op, .string tx, .slice X n m] 24))
 have V2 := hid (NBox.fresh w2 (.string op) (.string tx) (.slice X n m) 24)
 have z2 := hb2.size
 have zn := N2.out.lt
 clear hb2 hn2
 obtain ⟨x0, x1, x2, xf⟩ := N2.out
 obtain ⟨v0, v1, v2, vf⟩ := V2.out
 go_wp2_with fail
 refine (HD.out _ _ _ _ _ _ _ (fun g hg => by have := hg.2; simp; omega) I2.out).mono ?_
 rintro e w3 ⟨rfl, hb3⟩
 have N3 := hid (N2.out.below hb3)
 have V3 := hid (V2.out.below hb3)
 have I3 := hid (I2.out.bel (fun g hg => by have := hg.2; simp; omega) hb3)
 have B3 := hid (B2.out.trans (hb3.mono (by omega)))
 have z3 := N3.out.lt
 have z4 : w2.heap.size < w3.heap.size := V3.out.lt
 clear hb3 x0 x1 x2 xf v0 v1 v2 vf
 obtain ⟨x0, x1, x2, xf⟩ := N3.out
 obtain ⟨v0, v1, v2, vf⟩ := V3.out
 go_wp2
 have Y := N3.out.set (.string ⟨#[]⟩) (.string ⟨#[]⟩) (.slice none 0 0)
 exact bodyPost_ret (v := .tuple #[.agg #[.string ⟨#[]⟩, .string ⟨#[]⟩, .slice none 0 0], .int .i64 0, .int .i64 92]) (by simp [results, Tryz.results23, go_sem, Y.c0, Y.c1, Y.c2]) rfl
  ⟨⟨#[]⟩, ⟨#[]⟩, none, 0, 0, rfl, RIn.leafN _ _ ⟨#[]⟩ ⟨#[]⟩, ((B3.out.setCell (Nat.le_refl _) _).setCell (Nat.le_refl _) _).setCell (Nat.le_refl _) _⟩
theorem rparseQ_ok (s : ByteArray) (w : World) (l : List W) (hw : WordsIs s l 0 0) (x : Nod) (hr : ∀ A cap w, At wc 3 w w.heap.size A l → Calls Tryz.prog 41 #[.slice A l.length cap, .int .i64 0] w (ReadQPost w (x, l.length, 0))) (hd : x.deep ≤ 1000000000) (h16 : x.deep ≤ 16) :
  Calls Tryz.prog 23 #[.string s] w (ParseQPost w (x, 0, 0)) := by
 have HW := hid hw
 have HR := hid hr
 have HD := hid (rdeepN_any 1000000000 x hd (Nat.le_refl _))
 obtain ⟨d, hdd⟩ : ∃ d, x.deep = d := ⟨_, rfl⟩
 rw [hdd] at HD h16 hd
 clear hw hr hdd
 have e1 : decide ((16 : Int) < (d : Int)) = false := by simp; omega
 go_enter Tryz.func23, Tryz.ntmps23
 have N0 := hid (NBox.fresh w (.string ⟨#[]⟩) (.string ⟨#[]⟩) (.slice none 0 0) 24)
 have B0 := hid ((Below.refl w.heap.size w).alloc (Nat.le_refl _) (.cells #[.string ⟨#[]⟩, .string ⟨#[]⟩, .slice none 0 0] 24))
 go_wp2_with fail
 refine (HW.out _).mono ?_
 rintro e w1 ⟨A, cap, rfl, hat, hb1⟩
 have N1 := hid (N0.out.below hb1)
 have B1 := hid (B0.out.trans (hb1.mono (by simp)))
 have A1 := hid hat
 have z1 := N1.out.lt
 clear hb1 hat
 go_wp2_with fail
 refine (HR.out A cap _ A1.out).mono ?_
 rintro e w2 ⟨op, tx, X, n, m, rfl, hn2, hb2⟩
 have N2 := hid ((N1.out.below hb2).alloc (.cells #[.string op, .string tx, .slice X n m] 24))
 have B2 := hid ((B1.out.trans (hb2.mono (by omega))).alloc (by have := hb2.size; omega) (.cells #[.string op, .string tx, .slice X n m] 24))
 have A2 := hid (show At wc 3 (w2.alloc (.cells #[.string op, .string tx, .slice X n m] 24)) (w2.alloc (.cells #[.string op, .string tx, .slice X n m] 24)).heap.size A l from ((((A1.out.below hb2).more hb2.size).below ((Below.refl _ _).alloc (Nat.le_refl _) (.cells #[.string op, .string tx, .slice X n m] 24))).more (by simp)))
 have I2 := hid ((hn2.imp (S' := fun g => w.heap.size < g ∧ g < w2.heap.size) (fun g hg => ⟨by have := hg.1; omega, hg.2⟩)).alloc (fun g hg => hg.2) (.cells #[.string op, .string tx, .slice X n m] 24))
 have V2 := hid (NBox.fresh w2 (.string op) (.string tx) (.slice X n m) 24)
 have z2 := hb2.size
 have zn := N2.out.lt
 clear hb2 hn2
 obtain ⟨x0, x1, x2, xf⟩ := N2.out
 obtain ⟨v0, v1, v2, vf⟩ := V2.out
 go_wp2_with fail
 refine (HD.out _ _ _ _ _ _ _ (fun g hg => by have := hg.2; simp; omega) I2.out).mono ?_
 rintro e w3 ⟨rfl, hb3⟩
 have N3 := hid (N2.out.below hb3)
 have V3 := hid (V2.out.below hb3)
 have I3 := hid (I2.out.bel (fun g hg => by have := hg.2; simp; omega) hb3)
 have B3 := hid (B2.out.trans (hb3.mono (by omega)))
 have z3 := N3.out.lt
 have z4 : w2.heap.size < w3.heap.size := V3.out.lt
 clear hb3 x0 x1 x2 xf v0 v1 v2 vf
 obtain ⟨x0, x1, x2, xf⟩ := N3.out
 obtain ⟨v0, v1, v2, vf⟩ := V3.out
 go_wp2
 have Y := N3.out.set (.string op) (.string tx) (.slice X n m)
 exact bodyPost_ret (v := .tuple #[.agg #[.string op, .string tx, .slice X n m], .int .i64 0, .int .i64 0]) (by simp [results, Tryz.results23, go_sem, Y.c0, Y.c1, Y.c2]) rfl
  ⟨op, tx, X, n, m, rfl, (RIn.w3 (g := w.heap.size) I3.out (fun hg => Nat.lt_irrefl _ hg.1) (.string op) (.string tx) (.slice X n m)).imp (fun g hg => ⟨Nat.le_of_lt hg.1, by show g < (W3 w3 w.heap.size (.string op) (.string tx) (.slice X n m)).heap.size; rw [W3.size]; have := hg.2; omega⟩), ((B3.out.setCell (Nat.le_refl _) _).setCell (Nat.le_refl _) _).setCell (Nat.le_refl _) _⟩
theorem rparseQ_any (s : ByteArray) (hs : s.size ≤ 4194304) (w : World) :
  Calls Tryz.prog 23 #[.string s] w (ParseQPost w (parseQ s.data.toList)) := by
 have hw := words_is s hs
 have hL := bytes_len s
 unfold parseQ
 cases e : wordsL s.data.toList 0 with
 | error j =>
  have h1 : wL s.data.toList = [] := by unfold wL; rw [e]
  have h2 : wP s.data.toList = j := by unfold wP; rw [e]
  have h3 : wE s.data.toList = 81 := by unfold wE; rw [e]
  rw [h1, h2, h3] at hw
  exact rparseQ_lex s w j hw
 | ok l =>
  have h1 : wL s.data.toList = l := by unfold wL; rw [e]
  have h2 : wP s.data.toList = 0 := by unfold wP; rw [e]
  have h3 : wE s.data.toList = 0 := by unfold wE; rw [e]
  rw [h1, h2, h3] at hw
  have hlen := words_len _ _ _ e
  have hcf := came_fig (words_came _ _ _ e)
  have hfg : FigW l := fun v hv hk => ⟨(hcf v hv hk).1, by have := (hcf v hv hk).2; omega⟩
  have hl : l.length ≤ 4194304 := by omega
  show Calls Tryz.prog 23 #[.string s] w (ParseQPost w (parseQW s.data.toList.length l))
  rw [hL]
  by_cases hl0 : l = []
  ·subst hl0
   have := rparseQ_bad s w [] hw zeroN 0 (fun A cap w _ => rreadQ_none A cap w) hl (Nat.zero_le _)
   exact this
  ·have hpos : 0 < l.length := List.length_pos_iff.2 hl0
   obtain ⟨R, hx⟩ : ∃ R, fromQ (bare l) 0 = R := ⟨_, rfl⟩
   obtain ⟨x, j, b⟩ := R
   have htop : topQ (bare l) = (x, j, b) := hx
   have hrd : readQ l 0 = if b = true then (zeroN, j, 91) else (x, j, 0) := by unfold readQ; rw [hx]
   have hr := fun (A : Option Addr) (cap : Nat) (w : World) h => rreadQ_any A cap l 0 w h hl hfg hpos
   rw [hrd] at hr
   have hj : j ≤ l.length := by have := topQ_le (bare l); rw [htop, bare_length] at this; exact this
   have hd : x.deep ≤ 1 + l.length := by have := topQ_deep (bare l); rw [htop, bare_length] at this; exact this
   unfold parseQW
   rw [if_neg hl0, htop]
   cases b
   ·by_cases hjl : j < l.length
    ·rw [if_pos (Or.inr hjl)]
     exact rparseQ_short s w l hw x j hr hl hjl
    ·obtain rfl : j = l.length := by omega
     rw [if_neg (by simp)]
     by_cases h16 : 16 < x.deep
     ·rw [if_pos h16]
      exact rparseQ_deep s w l hw x hr (by omega) h16
     ·rw [if_neg h16]
      exact rparseQ_ok s w l hw x hr (by omega) (by omega)
   ·rw [if_pos (Or.inl rfl)]
    exact rparseQ_bad s w l hw zeroN j hr hl hj
theorem live14_shows : EShows live14E := eshow_of _ fun b mb m => enodeE_two [62] _ _ _ rfl (by decide) (by decide) _ _ (enodeE_col [97]) (enodeE_num [49])
theorem live14_fit : fitP live14P := by
 unfold live14P live14C
 rw [fitP]
 refine ⟨⟨by decide, by decide, by decide, by decide, by decide, by decide, by decide, fun x h => (by cases h), fun x h => ?_⟩, ⟨by decide, fun c h => ?_⟩, (fitPL_iff _).2 fun p hp => ?_⟩
 ·simp [Pl.ag] at h
  rcases h with rfl | rfl <;> decide
 ·simp at h
  rcases h with rfl | rfl | rfl <;> decide
 ·obtain rfl := List.mem_singleton.1 hp
  rw [fitP]
  refine ⟨⟨by decide, by decide, by decide, by decide, by decide, by decide, by decide, fun x h => ?_, fun x h => (by cases h)⟩, ⟨by decide, fun c h => ?_⟩, (fitPL_iff _).2 fun p hp => ?_⟩
  ·obtain rfl := List.mem_singleton.1 h
   decide
  ·simp at h
   rcases h with rfl | rfl <;> decide
  ·obtain rfl := List.mem_singleton.1 hp
   rw [fitP]
   refine ⟨⟨by decide, by decide, by decide, by decide, by decide, by decide, by decide, fun x h => (by cases h), fun x h => (by cases h)⟩, ⟨by decide, fun c h => ?_⟩, (fitPL_iff _).2 fun p hp => (by cases hp)⟩
   simp at h
   rcases h with rfl | rfl <;> decide
theorem live14_plain : PlainP live14P := by
 unfold live14P
 rw [PlainP]
 refine ⟨⟨rfl, fun x h => (by cases h), fun n h => ?_, fun a h => ?_⟩, (PlainPL_iff _).2 fun p hp => ?_⟩
 ·obtain rfl := List.mem_singleton.1 h
  exact ⟨by decide, by decide⟩
 ·simp [Pl.ag] at h
  rcases h with rfl | rfl <;> exact ⟨by decide, by decide⟩
 ·obtain rfl := List.mem_singleton.1 hp
  rw [PlainP]
  refine ⟨⟨rfl, fun x h => ?_, fun n h => (by cases h), fun a h => (by cases h)⟩, (PlainPL_iff _).2 fun p hp => ?_⟩
  ·obtain rfl := List.mem_singleton.1 h
   exact ⟨live14_shows, by decide +kernel⟩
  ·obtain rfl := List.mem_singleton.1 hp
   rw [PlainP]
   exact ⟨⟨rfl, fun x h => (by cases h), fun n h => (by cases h), fun a h => (by cases h)⟩, (PlainPL_iff _).2 fun p hp => (by cases hp)⟩
def live14X : ByteArray := ⟨#[103, 114, 111, 117, 112, 91, 49, 59, 32, 99, 111, 117, 110, 116, 32, 48, 59, 32, 115, 117, 109, 32, 48, 93, 40, 102, 105, 108, 116, 101, 114, 91, 97, 32, 62, 32, 49, 93, 40, 116, 41, 41]⟩
theorem live14_show : (⟨(showP live14P).toArray⟩ : ByteArray) = live14X := by decide +kernel
theorem live14_len : (showP live14P).length ≤ 1000000 := by decide +kernel
theorem live14_bs : (⟨live14S.toArray⟩ : ByteArray) = ⟨#[103, 114, 111, 117, 112, 40, 102, 105, 108, 116, 101, 114, 40, 116, 44, 32, 97, 32, 62, 32, 49, 41, 44, 32, 98, 121, 32, 98, 44, 32, 110, 32, 61, 32, 99, 111, 117, 110, 116, 40, 41, 44, 32, 115, 32, 61, 32, 115, 117, 109, 40, 97, 41, 41]⟩ := by decide +kernel
theorem live14_br : (⟨live14R.toArray⟩ : ByteArray) = ⟨#[106, 111, 105, 110, 40, 116, 44, 32, 116, 44, 32, 97, 32, 61, 32, 97, 41]⟩ := by decide +kernel
theorem live14_tabs {w : World} {g c : Nat} (h0 : w.cell? ⟨g, 0, none⟩ = some (.string ⟨#[116]⟩)) (h1 : w.cell? ⟨g, 1, none⟩ = some (.slice (some ⟨c, 0, none⟩) 2 2)) (hg : g < w.heap.size) (hc : c < w.heap.size)
  (hcl : ∀ j u, ([.int .i64 7, .string ⟨#[97]⟩, .int .i64 2, .int .i64 2, .string ⟨#[98]⟩, .int .i64 4] : List Value)[j]? = some u → w.cell? ⟨c, j, none⟩ = some u) : TabsAt w w.heap.size (some ⟨g, 0, none⟩) live14T := by
 intro i hi
 obtain rfl : i = 0 := by have : live14T.length = 1 := rfl; omega
 refine ⟨⟨g, 0, none⟩, (some ⟨c, 0, none⟩, 2, 2), rfl, hg, h0, h1, rfl, ?_, Nat.le_refl _⟩
 have h2 : CellsG wc w c [(7, [97], 2), (2, [98], 4)] := fun q u hu => hcl q u hu
 exact cells_at wc_length hc h2
theorem live14_any (m : Int) (w : World) (hg : Glob w.heap.size m w) : Calls Tryz.prog 9 #[] w fun e w' => e = .returned (.bool true) ∧ Below w.heap.size w w' := by
 have H1 := hid (fun (w0 : World) => (show Calls Tryz.prog 23 #[.string ⟨#[103, 114, 111, 117, 112, 40, 102, 105, 108, 116, 101, 114, 40, 116, 44, 32, 97, 32, 62, 32, 49, 41, 44, 32, 98, 121, 32, 98, 44, 32, 110, 32, 61, 32, 99, 111, 117, 110, 116, 40, 41, 44, 32, 115, 32, 61, 32, 115, 117, 109, 40, 97, 41, 41]⟩] w0 (ParseQPost w0 (live14Q, 0, 0)) by
  have h := rparseQ_any ⟨live14S.toArray⟩ (by decide) w0
  rw [show (⟨live14S.toArray⟩ : ByteArray).data.toList = live14S from rfl, live14_1, live14_bs] at h
  exact h))
 have H2 := hid (fun (w0 : World) => (show Calls Tryz.prog 23 #[.string ⟨#[106, 111, 105, 110, 40, 116, 44, 32, 116, 44, 32, 97, 32, 61, 32, 97, 41]⟩] w0 (ParseQPost w0 (live14J, 0, 0)) by
  have h := rparseQ_any ⟨live14R.toArray⟩ (by decide) w0
  rw [show (⟨live14R.toArray⟩ : ByteArray).data.toList = live14R from rfl, live14_2, live14_br] at h
  exact h))
 unfold ParseQPost at H1 H2
 have HO1 := hid (fun (g : Nat) (Sn : Nat → Prop) (op tx : ByteArray) (X : Option Addr) (n k : Nat) (w0 : World) (hb : Below w.heap.size w w0) (hS : ∀ b, Sn b → b < w0.heap.size) (hn : RIn w0 Sn live14Q (op, tx, X, n, k)) (hT : TabsAt w0 w0.heap.size (some ⟨g, 0, none⟩) live14T) =>
  (show Calls Tryz.prog 10 #[.agg #[.string op, .string tx, .slice X n k], .slice (some ⟨g, 0, none⟩) 1 1] w0 (OfPost w0 ((live14P, 1), 0)) by
   have h := pof_any live14T live14_tab live14Q Sn op tx X n k (some ⟨g, 0, none⟩) 1 m w0 hS hn hT (hg.next hb).cell (by decide)
   rw [live14_plan] at h
   exact h))
 have HO2 := hid (fun (g : Nat) (Sn : Nat → Prop) (op tx : ByteArray) (X : Option Addr) (n k : Nat) (w0 : World) (hb : Below w.heap.size w w0) (hS : ∀ b, Sn b → b < w0.heap.size) (hn : RIn w0 Sn live14J (op, tx, X, n, k)) (hT : TabsAt w0 w0.heap.size (some ⟨g, 0, none⟩) live14T) =>
  (show Calls Tryz.prog 10 #[.agg #[.string op, .string tx, .slice X n k], .slice (some ⟨g, 0, none⟩) 1 1] w0 (OfPost w0 ((zeroP, 0), 122)) by
   have h := pof_any live14T live14_tab live14J Sn op tx X n k (some ⟨g, 0, none⟩) 1 m w0 hS hn hT (hg.next hb).cell (by decide)
   rw [live14_join] at h
   exact h))
 have HSH := hid (fun (S : Nat → Prop) (x : PV) (w0 : World) (hb : Below w.heap.size w w0) (hS : ∀ g, S g → g < w0.heap.size) (hn : PIn w0 S live14P x) =>
  (show Calls Tryz.prog 13 #[.agg (plcs x)] w0 (fun e w' => e = .returned (.string ⟨#[103, 114, 111, 117, 112, 91, 49, 59, 32, 99, 111, 117, 110, 116, 32, 48, 59, 32, 115, 117, 109, 32, 48, 93, 40, 102, 105, 108, 116, 101, 114, 91, 97, 32, 62, 32, 49, 93, 40, 116, 41, 41]⟩) ∧ Below w0.heap.size w0 w') by
   have h := pshow_any live14P live14_fit live14_plain S x m w0 hS hn (hg.next hb) live14_len
   rw [live14_show] at h
   exact h))
 unfold OfPost plcs at HO1 HO2
 unfold plcs at HSH
 clear hg
 -- the table
 obtain ⟨w1, hw1⟩ : ∃ w1, (w.alloc (.cells #[.int .i64 7, .string ⟨#[97]⟩, .int .i64 2, .int .i64 2, .string ⟨#[98]⟩, .int .i64 4] 54)).alloc (.cells #[.string ⟨#[116]⟩, .slice (some ⟨w.heap.size, 0, none⟩) 2 2] 48) = w1 := ⟨_, rfl⟩
 have B1 := hid (show Below w.heap.size w w1 by rw [← hw1]; exact (below_alloc w _).alloc (by simp) _)
 have z1 : w1.heap.size = w.heap.size + 2 := by rw [← hw1]; simp
 have t0 : w1.cell? ⟨w.heap.size + 1, 0, none⟩ = some (.string ⟨#[116]⟩) := by rw [← hw1]; simp [go_sem]
 have t1 : w1.cell? ⟨w.heap.size + 1, 1, none⟩ = some (.slice (some ⟨w.heap.size, 0, none⟩) 2 2) := by rw [← hw1]; simp [go_sem]
 have TC := hid (show ∀ j u, ([.int .i64 7, .string ⟨#[97]⟩, .int .i64 2, .int .i64 2, .string ⟨#[98]⟩, .int .i64 4] : List Value)[j]? = some u → w1.cell? ⟨w.heap.size, j, none⟩ = some u from fun j u hu => by
  rw [← hw1]
  refine ((below_alloc _ _).cell (p := ⟨w.heap.size, j, none⟩) (by simp)).trans ?_
  exact (HB.cell (HB.fresh w _ _) j).trans (by simpa using hu))
 have HW1 := hid hw1
 have T0 := hid t0
 have T1 := hid t1
 have Z1 := hid z1
 clear hw1 t0 t1
 go_enter Tryz.func9, Tryz.ntmps9
 go_upto_region 2 with fail
 rw [HW1.out]
 go_wp2_with fail
 refine (H1.out w1).mono ?_
 rintro e w2 ⟨op, tx, X, n, k, rfl, hn2, hb2⟩
 obtain ⟨W2, hW2⟩ : ∃ W2, w2.alloc (.cells #[.string op, .string tx, .slice X n k] 24) = W2 := ⟨_, rfl⟩
 have BW2 := hid (show Below w2.heap.size w2 W2 by rw [← hW2]; exact below_alloc _ _)
 have zW2 : W2.heap.size = w2.heap.size + 1 := by rw [← hW2]; simp
 have B2 := hid hb2
 have L2 := hid (B1.out.trans ((B2.out.trans (BW2.out.mono B2.out.size)).mono B1.out.size))
 have L12 := hid (B2.out.trans (BW2.out.mono B2.out.size))
 have V2 := hid (show NBox W2 w2.heap.size (.string op) (.string tx) (.slice X n k) by rw [← hW2]; exact NBox.fresh _ _ _ _ _)
 have I2 := hid (show RIn W2 (fun b => b < w2.heap.size) live14Q (op, tx, X, n, k) from (hn2.imp (S' := fun b => b < w2.heap.size) (fun b h => h.2)).bel (fun b h => h) BW2.out)
 have hs12 := B2.out.size
 have y0 := (L12.out.cell (p := ⟨w.heap.size + 1, 0, none⟩) (by have := Z1.out; show w.heap.size + 1 < _; omega)).trans T0.out
 have y1 := (L12.out.cell (p := ⟨w.heap.size + 1, 1, none⟩) (by have := Z1.out; show w.heap.size + 1 < _; omega)).trans T1.out
 have TC2 := hid (fun j u hu => (L12.out.cell (p := ⟨w.heap.size, j, none⟩) (by have := Z1.out; show w.heap.size < _; omega)).trans (TC.out j u hu))
 have ZW2 := hid zW2
 have HW2 := hid hW2
 clear hn2 hb2 hW2 H1
 go_upto_region 3 with fail
 rw [HW2.out]
 obtain ⟨x0, x1, x2, xf⟩ := V2.out
 obtain ⟨W3, hW3⟩ : ∃ W3, W2.alloc (.cells #[.string ⟨#[116]⟩, .slice (some ⟨w.heap.size, 0, none⟩) 2 2] 48) = W3 := ⟨_, rfl⟩
 have BW3 := hid (show Below W2.heap.size W2 W3 by rw [← hW3]; exact below_alloc _ _)
 have L3 := hid (L2.out.trans (BW3.out.mono L2.out.size))
 have zz22 : w.heap.size + 1 < W2.heap.size := by have := Z1.out; omega
 have zz2 : w.heap.size < W2.heap.size := by omega
 have zz3 : W3.heap.size = W2.heap.size + 1 := by rw [← hW3]; simp
 have TT3 := hid (show TabsAt W3 W3.heap.size (some ⟨W2.heap.size, 0, none⟩) live14T from live14_tabs (c := w.heap.size) (by rw [← hW3]; simp [go_sem]) (by rw [← hW3]; simp [go_sem]) (by omega) (by omega) (fun j u hu => (BW3.out.cell (p := ⟨w.heap.size, j, none⟩) zz2).trans (TC2.out j u hu)))
 have HO := hid (HO1.out W2.heap.size (fun b => b < w2.heap.size) op tx X n k W3 L3.out (fun b h => by have h9 : b < w2.heap.size := h; omega) (I2.out.bel (fun b h => by have h9 : b < w2.heap.size := h; omega) BW3.out) TT3.out)
 have HW3 := hid hW3
 have ZZ3 := hid zz3
 clear hW3 zz3 zW2
 go_wp2_with fail
 rw [HW3.out]
 refine HO.out.mono ?_
 rintro e w4 ⟨x, rfl, hb4, hok, -⟩
 obtain ⟨W5, hW5⟩ : ∃ W5, w4.alloc (.cells (plcs x) 35) = W5 := ⟨_, rfl⟩
 have BW5 := hid (show Below w4.heap.size w4 W5 by rw [← hW5]; exact below_alloc _ _)
 have P5 := hid (show PBox W5 w4.heap.size x by rw [← hW5]; exact PBox.fresh _ _ _)
 have B4 := hid hb4
 have hs4 := B4.out.size
 have hs5 := BW5.out.size
 have L4 := hid (L3.out.trans (B4.out.mono L3.out.size))
 have L5 := hid (L4.out.trans (BW5.out.mono L4.out.size))
 have L25 := hid (BW3.out.trans ((B4.out.trans (BW5.out.mono hs4)).mono BW3.out.size))
 have PI5 := hid ((hok (by first | exact rfl | exact trivial)).bel (fun b h => h.2) BW5.out)
 have hlt45 : w4.heap.size < W5.heap.size := P5.out.lt
 have y0 := (L25.out.cell (p := ⟨w.heap.size + 1, 0, none⟩) zz22).trans y0
 have y1 := (L25.out.cell (p := ⟨w.heap.size + 1, 1, none⟩) zz22).trans y1
 have TC5 := hid (fun j u hu => (L25.out.cell (p := ⟨w.heap.size, j, none⟩) zz2).trans (TC2.out j u hu))
 have zz5 : w.heap.size + 1 < W5.heap.size := Nat.lt_of_lt_of_le zz22 L25.out.size
 unfold plcs at hW5
 have HW5 := hid hW5
 clear hb4 hok hW5 x0 x1 x2 xf HO HO1 HW3 TC2 HW2
 go_upto_region 4 with fail
 rw [HW5.out]
 go_wp2_with fail
 refine (H2.out W5).mono ?_
 rintro e w6 ⟨op2, tx2, X2, n2, k2, rfl, hn6, hb6⟩
 obtain ⟨W7, hW7⟩ : ∃ W7, w6.alloc (.cells #[.string op2, .string tx2, .slice X2 n2 k2] 24) = W7 := ⟨_, rfl⟩
 have BW7 := hid (show Below w6.heap.size w6 W7 by rw [← hW7]; exact below_alloc _ _)
 have V7 := hid (show NBox W7 w6.heap.size (.string op2) (.string tx2) (.slice X2 n2 k2) by rw [← hW7]; exact NBox.fresh _ _ _ _ _)
 have B6 := hid hb6
 have hs6 := B6.out.size
 have hs7 := BW7.out.size
 have L57 := hid (B6.out.trans (BW7.out.mono hs6))
 have L7 := hid (L5.out.trans (L57.out.mono L5.out.size))
 have I7 := hid (show RIn W7 (fun b => b < w6.heap.size) live14J (op2, tx2, X2, n2, k2) from (hn6.imp (S' := fun b => b < w6.heap.size) (fun b h => h.2)).bel (fun b h => h) BW7.out)
 have P7 := hid (P5.out.below L57.out)
 have PI7 := hid (PI5.out.bel (fun b h => Nat.lt_of_lt_of_le h.2 hs5) L57.out)
 have y0 := (L57.out.cell (p := ⟨w.heap.size + 1, 0, none⟩) zz5).trans y0
 have y1 := (L57.out.cell (p := ⟨w.heap.size + 1, 1, none⟩) zz5).trans y1
 have hv7 := V7.out.lt
 have TT8 := hid (fun (W8 : World) (hb : Below W7.heap.size W7 W8) (h0 : W8.cell? ⟨W7.heap.size, 0, none⟩ = some (.string ⟨#[116]⟩)) (h1 : W8.cell? ⟨W7.heap.size, 1, none⟩ = some (.slice (some ⟨w.heap.size, 0, none⟩) 2 2)) (hz : W7.heap.size < W8.heap.size) => live14_tabs (c := w.heap.size) h0 h1 hz (by omega) (fun j u hu => (hb.cell (p := ⟨w.heap.size, j, none⟩) (by show w.heap.size < _; omega)).trans ((L57.out.cell (p := ⟨w.heap.size, j, none⟩) (by show w.heap.size < _; omega)).trans (TC5.out j u hu))))
 have HW7 := hid hW7
 clear hn6 hb6 hW7 H2
 go_upto_region 5 with fail
 rw [HW7.out]
 obtain ⟨x0, x1, x2, xf⟩ := V7.out
 obtain ⟨W8, hW8⟩ : ∃ W8, W7.alloc (.cells #[.string ⟨#[116]⟩, .slice (some ⟨w.heap.size, 0, none⟩) 2 2] 48) = W8 := ⟨_, rfl⟩
 have BW8 := hid (show Below W7.heap.size W7 W8 by rw [← hW8]; exact below_alloc _ _)
 have zz8 : W8.heap.size = W7.heap.size + 1 := by rw [← hW8]; simp
 have L8 := hid (L7.out.trans (BW8.out.mono L7.out.size))
 have HO := hid (HO2.out W7.heap.size (fun b => b < w6.heap.size) op2 tx2 X2 n2 k2 W8 L8.out (fun b h => by have h9 : b < w6.heap.size := h; omega) (I7.out.bel (fun b h => by have h9 : b < w6.heap.size := h; omega) BW8.out) (TT8.out W8 BW8.out (by rw [← hW8]; simp [go_sem]) (by rw [← hW8]; simp [go_sem]) (by omega)))
 have HW8 := hid hW8
 have hs8 := BW8.out.size
 clear hW8 zz8
 go_wp2_with fail
 rw [HW8.out]
 refine HO.out.mono ?_
 rintro e w9 ⟨x2', rfl, hb9, -, hze⟩
 obtain rfl := hze (by decide)
 obtain ⟨W10, hW10⟩ : ∃ W10, w9.alloc (.cells (plcs zPV) 35) = W10 := ⟨_, rfl⟩
 have BW10 := hid (show Below w9.heap.size w9 W10 by rw [← hW10]; exact below_alloc _ _)
 have B9 := hid hb9
 have hs9 := B9.out.size
 have hs10 := BW10.out.size
 have L710 := hid (BW8.out.trans ((B9.out.trans (BW10.out.mono hs9)).mono hs8))
 have L10 := hid (L7.out.trans (L710.out.mono L7.out.size))
 have P10 := hid (P7.out.below L710.out)
 have PI10 := hid (PI7.out.bel (fun b h => by have := h.2; omega) L710.out)
 have HSS := hid (HSH.out _ x W10 L10.out (fun b h => by have := h.2; omega) PI10.out)
 unfold plcs zPV zSl at hW10
 dsimp only at hW10
 have HW10 := hid hW10
 clear hb9 hze hW10 x0 x1 x2 xf y0 y1 HO HO2 HSH
 unfold zPV zSl
 dsimp only
 go_upto_region 6 with fail
 rw [HW10.out]
 have hco := PI10.out.cols
 obtain ⟨ad, eA, hSa, hcc⟩ := hco.2 2 (by decide)
 have hcl : x.co.2.1 = 3 := hco.1
 have hsa : ad.block < W10.heap.size := by have := hSa.2; omega
 have hk := hcc 2 _ rfl
 obtain ⟨xo, xt, ⟨c1, c2, c3⟩, xk, xe, xn, xb, xa⟩ := x
 dsimp only at hcl eA
 subst hcl eA
 have HSA := hid hsa
 have HK := hid hk
 obtain ⟨z0, z1, z2, z3, z4, z5, z6, z7, zf⟩ := P10.out
 dsimp only at z0 z1 z2 z3 z4 z5 z6 z7
 clear hco hSa hcc hk hsa
 go_wp2_with fail
 refine HSS.out.mono ?_
 rintro e w11 ⟨rfl, hb11⟩
 have L11 := hid (L10.out.trans (hb11.mono L10.out.size))
 have P11 := hid (P10.out.below hb11)
 have hk := (hb11.cell (p := ad.add (2 * 3 + 2)) HSA.out).trans HK.out
 rw [show ad.add (2 * 3 + 2) = (⟨ad.block, ad.off + 6 + 2, none⟩ : Addr) from rfl] at hk
 obtain ⟨z0, z1, z2, z3, z4, z5, z6, z7, zf⟩ := P11.out
 dsimp only at z2
 clear hb11 z0 z1 z3 z4 z5 z6 z7 zf HSS
 go_wp2
 go_ret
 exact ⟨rfl, L11.out⟩
end Go.Proofs.YthpmgnfmeldkjaaGreatDoor.Code
/-
  Names in order, each once, in plain words. No program is named here.
-/
namespace Go.Proofs.YthpmgnfmeldkjaaGreatDoor.Code
open Val
theorem bless_lt : ∀ a b : List UInt8, Op.bytesLess a b = decide (a < b)
 | [], [] => by simp [Op.bytesLess]
 | [], _ :: _ => by simp [Op.bytesLess]
 | _ :: _, [] => by simp [Op.bytesLess]
 | x :: a, y :: b => by
  rw [Op.bytesLess, bless_lt a b]
  rw [Bool.eq_iff_iff]
  simp [List.cons_lt_cons_iff]
theorem comp_rise {L : List (List UInt8)} (h : L.Pairwise fun x y => x ≤ y) : (Lib.compact L).Pairwise fun x y => x < y := by
 unfold Lib.compact Lib.compactUpTo
 rw [List.pairwise_map, List.pairwise_filter]
 refine List.Pairwise.imp_of_mem (R := fun a b => a < b) (fun {i j} hi hj hij hki hkj => ?_) List.pairwise_lt_range
 have hi := List.mem_range.1 hi
 have hj := List.mem_range.1 hj
 obtain ⟨k, rfl⟩ : ∃ k, j = k + 1 := ⟨j - 1, by omega⟩
 rw [getElem!_pos L.toArray i (by simpa using hi), getElem!_pos L.toArray (k + 1) (by simpa using hj)]
 have h1 := keeps_ne hj hkj
 have h2 := List.pairwise_iff_getElem.1 h k (k + 1) (by omega) hj (by omega)
 have h3 : L[i] ≤ L[k] := by
  by_cases e : i = k
  ·subst e; exact List.le_refl _
  ·exact List.pairwise_iff_getElem.1 h i k hi (by omega) (by omega)
 show L[i] < L[k + 1]
 have h4 : L[k] < L[k + 1] := List.not_le.1 (fun h5 => h1 (List.le_antisymm h5 h2))
 exact List.lt_of_le_of_lt h3 h4
theorem comp_mem {L : List (List UInt8)} {x : List UInt8} (h : x ∈ Lib.compact L) : x ∈ L := by
 unfold Lib.compact Lib.compactUpTo at h
 obtain ⟨i, hi, rfl⟩ := List.mem_map.1 h
 have hi := List.mem_range.1 (List.mem_filter.1 hi).1
 rw [getElem!_pos L.toArray i (by simpa using hi)]
 exact List.getElem_mem (l := L) hi
theorem comp_some {L : List (List UInt8)} (h : 0 < L.length) : 0 < (Lib.compact L).length := by
 rw [comp_len]
 refine List.length_pos_of_mem (a := 0) (List.mem_filter.2 ⟨List.mem_range.2 h, ?_⟩)
 simp [Lib.keeps]
def tabsL (L : List (List UInt8)) : List (List UInt8) := Lib.compact (sortL L)
theorem tabs_rise (L : List (List UInt8)) : (tabsL L).Pairwise fun x y => x < y := comp_rise (sort_rise L)
theorem tabs_mem {L : List (List UInt8)} {x : List UInt8} (h : x ∈ tabsL L) : x ∈ L := (sort_perm L).mem_iff.1 (comp_mem h)
theorem tabs_le (L : List (List UInt8)) : (tabsL L).length ≤ L.length := by
 unfold tabsL
 rw [comp_len]
 have := List.length_filter_le (Lib.keeps (sortL L).toArray) (List.range (sortL L).length)
 rw [List.length_range, sort_len] at this
 rw [sort_len]
 exact this
theorem tabs_some {L : List (List UInt8)} (h : 0 < L.length) : 0 < (tabsL L).length := comp_some (by rw [sort_len]; exact h)
theorem tabs_less (L : List (List UInt8)) (i : Nat) (h : i + 1 < (tabsL L).length) : Op.bytesLess (tabsL L)[i] (tabsL L)[i + 1] = true := by
 rw [bless_lt]
 exact decide_eq_true (List.pairwise_iff_getElem.1 (tabs_rise L) i (i + 1) (by omega) h (by omega))
open Go.ChangeShapes Go.WideShapes Go.ChangeAt Go.RowKit Elems
theorem cells_holds {w : World} {g : Nat} {L : List (List UInt8)} (h : CellsG sc w g L) (hf : ∀ j, w.frozen? ⟨g, j, none⟩ = false) : Sort.Holds encStr w g 0 L.toArray := by
 intro j hj
 rw [Nat.zero_add]
 have hj' : j < L.length := by simpa using hj
 refine ⟨?_, hf j⟩
 have h1 := h.at sc_length j hj' 0 (by omega) (.string ⟨L[j].toArray⟩) rfl
 rw [Nat.mul_one, Nat.add_zero] at h1
 rw [h1, getElem!_pos L.toArray j hj]
 rfl
theorem holds_cell {w : World} {g : Nat} {L : List (List UInt8)} {D : List (List UInt8)} (h : Sort.Holds encStr w g 0 (L ++ D).toArray) (i : Nat) (hi : i < L.length) : w.cell? ⟨g, i, none⟩ = some (.string ⟨L[i].toArray⟩) := by
 have h1 := (h i (by simp; omega)).1
 rw [Nat.zero_add, getElem!_pos (L ++ D).toArray i (by simp; omega)] at h1
 rw [h1]
 have e : (L ++ D).toArray[i]'(by simp; omega) = L[i] := by simp [List.getElem_append_left hi]
 rw [e]
theorem ptabs_any (p : Pl) (S : Nat → Prop) (x : PV) (w : World) (hS : ∀ b, S b → b < w.heap.size) (hn : PIn w S p x) (hfit : fitP p) (h1 : 0 < (namesP p).length) (h4 : (namesP p).length ≤ 100000) :
  Calls Tryz.prog 16 #[.agg (plcs x)] w fun e w' => ∃ g cap, e = .returned (.slice (some ⟨g, 0, none⟩) (tabsL (namesP p)).length cap) ∧ (∀ (i : Nat) (h : i < (tabsL (namesP p)).length), w'.cell? ⟨g, i, none⟩ = some (.string ⟨(tabsL (namesP p))[i].toArray⟩)) ∧ g < w'.heap.size ∧ Below w.heap.size w w' := by
 obtain ⟨w1, hw1⟩ : ∃ w1, w.alloc (.cells (plcs x) 35) = w1 := ⟨_, rfl⟩
 have B1 := hid (show Below w.heap.size w w1 by rw [← hw1]; exact below_alloc w _)
 have P1 := hid (show PBox w1 w.heap.size x by rw [← hw1]; exact PBox.fresh _ _ _)
 have HT := hid (ptables_any p.deep p (Nat.le_refl _) hfit S x w1 w.heap.size B1.out.size [] (.slice none 0 0) (World.ownsRow_nil _ _ _ _) hS (hn.bel hS B1.out) (by simp; omega))
 rw [List.nil_append] at HT
 obtain ⟨L, hL⟩ : ∃ L, namesP p = L := ⟨_, rfl⟩
 rw [hL] at HT h1 h4 ⊢
 unfold plcs at hw1 HT ⊢
 have HW1 := hid hw1
 have H1 := hid h1
 have H4 := hid h4
 clear hw1 hS hn hL h1 h4 hfit
 obtain ⟨p0, p1, p2, p3, p4, p5, p6, p7, pf⟩ := P1.out
 go_enter Tryz.func16, Tryz.ntmps16
 go_upto_region 1 with fail
 rw [HW1.out]
 go_wp2_with fail
 refine HT.out.mono ?_
 rintro e w2 ⟨v2, rfl, ho2, hb2⟩
 obtain ⟨g, cap, rfl, hg, hlt, hfr, hcl⟩ := own_cellsG ho2 H1.out
 have hcap : L.length ≤ cap := by
  obtain ⟨A9, cp9, e9, -, hl9⟩ := own_ats sc_length ho2
  injection e9 with _ _ e9
  rw [e9]
  exact hl9
 have L2 := hid (B1.out.trans hb2)
 have HS2 := hid (psort_any g cap L w2 (cells_holds hcl hfr) hlt (by have := H4.out; omega))
 have HG := hid hg
 have HLT := hid hlt
 have HCP := hid hcap
 clear p0 p1 p2 p3 p4 p5 p6 p7 pf ho2 hb2 hfr hcl hg hlt hcap
 go_wp2_with fail
 refine HS2.out.mono ?_
 rintro e w3 ⟨rfl, hso⟩
 have L3 := hid (L2.out.trans (hso.bel w.heap.size HG.out HLT.out))
 have HC3 := hid (pcompact_any g cap (sortL L) w3 hso.hold hso.lt (by rw [sort_len]; have := H4.out; omega) (by rw [sort_len]; exact HCP.out))
 rw [sort_len] at HC3
 have hz3 := hso.lt
 clear hso HS2
 go_wp2_with fail
 refine HC3.out.mono ?_
 rintro e w4 ⟨rfl, hco⟩
 have HE := hid (show ∃ g0 cap0, Ending.returned (.slice (some ⟨g, 0, none⟩) (Lib.compact (sortL L)).length cap) = .returned (.slice (some ⟨g0, 0, none⟩) (tabsL L).length cap0) ∧ (∀ (i : Nat) (h : i < (tabsL L).length), w4.cell? ⟨g0, i, none⟩ = some (.string ⟨(tabsL L)[i].toArray⟩)) ∧ g0 < w4.heap.size ∧ Below w.heap.size w w4 from
  ⟨g, cap, rfl, fun i h => holds_cell hco.hold i h, hco.lt, L3.out.trans (hco.bel w.heap.size HG.out hz3)⟩)
 clear hco HC3
 go_wp2
 go_ret
 exact HE.out
end Go.Proofs.YthpmgnfmeldkjaaGreatDoor.Code
