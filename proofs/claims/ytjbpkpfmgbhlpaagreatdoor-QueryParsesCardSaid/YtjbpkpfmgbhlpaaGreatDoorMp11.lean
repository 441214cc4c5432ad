/-
  How deep a query's node is at most. No program is named here.
-/
import Derived.Test.YtjbpkpfmgbhlpaaGreatDoorMp7
import Derived.Test.YtjbpkpfmgbhlpaaGreatDoorMp2
import Derived.Test.YtjbpkpfmgbhlpaaGreatDoorMp10
import Derived.Test.YtjbpkpfmgbhlpaaGreatDoorMp4
import Derived.Deep.RegionHeld3
import Derived.Test.YtjbpkpfmgbhlpaaGreatDoorMp5
import Derived.Test.YtjbpkpfmgbhlpaaGreatDoorMp1
set_option maxRecDepth 100000
set_option maxHeartbeats 16000000
open Go.Lib (hid)
namespace Go.Proofs.YtjbpkpfmgbhlpaaGreatDoor.Code
open Val
set_option linter.unusedVariables false
theorem deepL_le {k : Nat} : ∀ {l : List Nod}, (∀ t ∈ l, t.deep ≤ k) → Nod.deepL l ≤ k
 | [], _ => Nat.zero_le _
 | x :: l, h => by
  rw [Nod.deepL]
  exact Nat.max_le.2 ⟨h x (List.mem_cons_self ..), deepL_le fun t ht => h t (List.mem_cons_of_mem _ ht)⟩
theorem mk_deep (o t : List UInt8) (ks : List Nod) : (Nod.mk o t ks).deep = Nod.deepL ks + 1 := by rw [Nod.deep]
theorem leaf_deep (o t : List UInt8) : (Nod.mk o t []).deep = 1 := by rw [Nod.deep, Nod.deepL]
section
variable {L : List V} {i : Nat} {b : Bool}
theorem exprQ_deep (h : i ≤ L.length) : (exprQ L i b).1.n.deep + i ≤ 1 + (exprQ L i b).2.1 := by
 rw [Tr.n_deep]
 exact P_deep L (stepsN L) (.expr 1) i b h
theorem item_deep (h : i ≤ L.length) : (itemQ L i b).1.deep + i ≤ 2 + (itemQ L i b).2.1 := by
 have h1 := nm_ends (b := b) h
 have h2 := must_ends (b := (nmQ L i b).2.2) (s := [61]) h1.2.1
 have h3 := exprQ_deep (b := (mustQ L (nmQ L i b).2.1 (nmQ L i b).2.2 [61]).2) h2.2.1
 have e1 := h1.1
 have e2 := h2.1
 unfold itemQ
 rw [mk_deep, Nod.deepL, Nod.deepL]
 dsimp only
 omega
theorem pair_deep (h : i ≤ L.length) : (pairQ L i b).1.deep + i ≤ 2 + (pairQ L i b).2.1 := by
 have h1 := (pair_ends (b := b) h).1
 have h2 : (pairQ L i b).1.deep = 2 := by unfold pairQ; rw [mk_deep, Nod.deepL, leaf_deep, Nod.deepL]; rfl
 omega
theorem agg_deep (h : i ≤ L.length) : (aggQ L i b).1.deep + i ≤ 2 + (aggQ L i b).2.1 := by
 have h1 := (agg_ends (b := b) h).1
 have h2 : (aggQ L i b).1.deep ≤ 2 := by
  unfold aggQ agg2Q
  split
  ·show zeroN.deep ≤ 2
   unfold zeroN
   rw [leaf_deep]
   decide
  ·rw [mk_deep, Nod.deepL, leaf_deep, Nod.deepL]
   decide
 omega
theorem names_deep : ∀ (f i : Nat) (b : Bool), ∀ t ∈ (namesQ L f i b).1, t.deep ≤ 1
 | 0, i, b, t, ht => by cases ht
 | f + 1, i, b, t, ht => by
  rw [namesQ] at ht
  split at ht
  ·rcases List.mem_cons.1 ht with rfl | ht
   ·rw [leaf_deep]; exact Nat.le_refl _
   ·exact names_deep f _ _ t ht
  ·obtain rfl := List.mem_singleton.1 ht
   rw [leaf_deep]; exact Nat.le_refl _
theorem by_deep : (byQ L i b).1.deep ≤ 2 := by
 unfold byQ
 split
 ·rw [mk_deep]
  have := deepL_le (fun t ht => names_deep (L := L) (L.length + 1) (i + 1) b t ht)
  omega
 ·rw [leaf_deep]; decide
theorem loop_deep {el : Nat → Bool → Res} {k : Nat} (he : ∀ j c, j ≤ L.length → Ends L.length j c (el j c).2) (hd : ∀ j c, j ≤ L.length → (el j c).1.deep + j ≤ k + (el j c).2.1) : ∀ (f : Nat) (first : Bool) (i : Nat) (b : Bool), i ≤ L.length → ∀ t ∈ (loopQ L el f first i b).1, t.deep + i ≤ k + (loopQ L el f first i b).2.1
 | 0, _, i, b, h, t, ht => by cases ht
 | f + 1, first, i, b, h, t, ht => by
  rw [loopQ] at ht ⊢
  have h1 := more_ends (b := b) (first := first) h
  by_cases hm : (moreQ L i b first).1 = false
  ·rw [if_pos hm] at ht
   cases ht
  rw [if_neg hm] at ht ⊢
  have h2 := he _ (moreQ L i b first).2.2 h1.2.1
  have h3 := loop_ends he f false _ (el (moreQ L i b first).2.1 (moreQ L i b first).2.2).2.2 h2.2.1
  have e1 := h1.1
  have e2 := h2.1
  have e3 := h3.1
  dsimp only at ht ⊢
  rcases List.mem_cons.1 ht with rfl | ht
  ·have := hd _ (moreQ L i b first).2.2 h1.2.1
   omega
  ·have := loop_deep he hd f false _ _ h2.2.1 t ht
   omega
theorem tail_deep {q : Nat → Bool → Res} (hq : ∀ j c, j ≤ L.length → Ends L.length j c (q j c).2) (hd : ∀ j c, j ≤ L.length → (q j c).1.deep + j ≤ 2 + (q j c).2.1) {o : List UInt8} (h : i ≤ L.length) : ∀ t ∈ (tailQ L q o i b).1, t.deep + i ≤ 2 + (tailQ L q o i b).2.1 := by
 have h1 := must_ends (b := b) (s := [44]) h
 have e1 := h1.1
 have hT := tail_ends (b := b) (o := o) hq h
 have eT := hT.1
 intro t ht
 unfold tailQ at ht eT ⊢
 split at ht
 ·rename_i c1
  rw [if_pos c1] at eT ⊢
  obtain rfl := List.mem_singleton.1 ht
  have h2 := exprQ_deep (b := (mustQ L i b [44]).2) h1.2.1
  have h3 := expr_ends (b := (mustQ L i b [44]).2) h1.2.1
  have h4 := (must_ends (b := (exprQ L (mustQ L i b [44]).1 (mustQ L i b [44]).2).2.2) (s := [41]) h3.2.1).1
  dsimp only
  omega
 rename_i c1
 rw [if_neg c1] at eT ⊢
 split at ht
 ·cases ht
 rename_i c2
 rw [if_neg c2] at eT ⊢
 split at ht
 ·rename_i c3
  rw [if_pos c3] at eT ⊢
  exact loop_deep (fun j c hj => item_ends hj) (fun j c hj => item_deep hj) _ _ _ _ h t ht
 rename_i c3
 rw [if_neg c3] at eT ⊢
 split at ht
 ·rename_i c4
  rw [if_pos c4] at eT ⊢
  exact loop_deep hq hd _ _ _ _ h t ht
 rename_i c4
 rw [if_neg c4] at eT ⊢
 split at ht
 ·rename_i c5
  rw [if_pos c5] at eT ⊢
  have h2 := hq _ (mustQ L i b [44]).2 h1.2.1
  have e2 := h2.1
  have h3 := loop_ends (L := L) (el := pairQ L) (fun j c hj => pair_ends hj) (L.length + 1) true _ (q (mustQ L i b [44]).1 (mustQ L i b [44]).2).2.2 h2.2.1
  have e3 := h3.1
  dsimp only at ht ⊢
  rcases List.mem_cons.1 ht with rfl | ht
  ·have := hd _ (mustQ L i b [44]).2 h1.2.1
   omega
  ·have := loop_deep (L := L) (el := pairQ L) (fun j c hj => pair_ends hj) (fun j c hj => pair_deep hj) _ _ _ _ h2.2.1 t ht
   omega
 ·rename_i c5
  rw [if_neg c5] at eT ⊢
  unfold groupQ at ht eT ⊢
  have h2 := by_ends (b := (mustQ L i b [44]).2) h1.2.1
  have h3 := agg_ends (L := L) (b := (byQ L (mustQ L i b [44]).1 (mustQ L i b [44]).2).2.2) h2.2.1
  have h4 := loop_ends (L := L) (el := aggQ L) (fun j c hj => agg_ends hj) (L.length + 1) false _ (aggQ L (byQ L (mustQ L i b [44]).1 (mustQ L i b [44]).2).2.1 (byQ L (mustQ L i b [44]).1 (mustQ L i b [44]).2).2.2).2.2 h3.2.1
  have e2 := h2.1
  have e3 := h3.1
  have e4 := h4.1
  dsimp only at ht eT ⊢
  rcases List.mem_cons.1 ht with rfl | ht
  ·have := by_deep (L := L) (i := (mustQ L i b [44]).1) (b := (mustQ L i b [44]).2)
   omega
  rcases List.mem_cons.1 ht with rfl | ht
  ·have := agg_deep (L := L) (b := (byQ L (mustQ L i b [44]).1 (mustQ L i b [44]).2).2.2) h2.2.1
   omega
  ·have := loop_deep (L := L) (el := aggQ L) (fun j c hj => agg_ends hj) (fun j c hj => agg_deep hj) _ _ _ _ h3.2.1 t ht
   omega
end
theorem qq_deep (L : List V) : ∀ (f i : Nat) (b : Bool), i ≤ L.length → (qq L f i b).1.deep + i ≤ 1 + (qq L f i b).2.1
 | 0, i, b, h => by rw [qq]; unfold zeroN; rw [leaf_deep]; exact Nat.le_refl _
 | f + 1, i, b, h => by
  rw [qq]
  by_cases ho : opQ L i b opsQ = []
  ·rw [if_pos ho]
   have := (nm_ends (b := b) h).1
   dsimp only
   rw [leaf_deep]
   omega
  ·rw [if_neg ho]
   have hs := op_lt ho
   have h1 := qq_ends L f (i + 2) b hs.1
   have d1 := qq_deep L f (i + 2) b hs.1
   have h2 := tail_ends (b := (qq L f (i + 2) b).2.2) (o := opQ L i b opsQ) (fun j c hj => qq_ends L f j c hj) h1.2.1
   have e1 := h1.1
   have e2 := h2.1
   dsimp only
   rw [mk_deep, Nod.deepL]
   have := deepL_le (k := 2 + (tailQ L (qq L f) (opQ L i b opsQ) (qq L f (i + 2) b).2.1 (qq L f (i + 2) b).2.2).2.1 - (qq L f (i + 2) b).2.1) (l := (tailQ L (qq L f) (opQ L i b opsQ) (qq L f (i + 2) b).2.1 (qq L f (i + 2) b).2.2).1) (fun t ht => by
    have := tail_deep (L := L) (fun j c hj => qq_ends L f j c hj) (fun j c hj => by have := qq_deep L f j c hj; omega) h1.2.1 t ht
    omega)
   omega
theorem topQ_deep (L : List V) : (topQ L).1.deep ≤ 1 + L.length := by
 have h := qq_deep L (L.length + 1) 0 false (Nat.zero_le _)
 have h2 := topQ_le L
 unfold topQ at h2 ⊢
 omega
end Go.Proofs.YtjbpkpfmgbhlpaaGreatDoor.Code
/-
  How deep a node is nested, as the document's reader reckons it.
-/
namespace Go.Proofs.YtjbpkpfmgbhlpaaGreatDoor.Code
open Go.ChangeShapes Go.WideShapes Go.ChangeAt Go.RowKit Val Elems
set_option linter.unusedVariables false
set_option linter.unusedSimpArgs false
def WordsIs (s : ByteArray) (l : List W) (p ee : Int) : Prop := ∀ w, Calls Tryz.prog 23 #[.string s] w (fun e w' => ∃ (A : Option Addr) (cap : Nat), e = .returned (.tuple #[.slice A l.length cap, .int .i64 p, .int .i64 ee]) ∧ At wc 3 w' w'.heap.size A l ∧ Below w.heap.size w w')
theorem words_is (s : ByteArray) (hs : s.size ≤ 4194304) : WordsIs s (wL s.data.toList) (wP s.data.toList) (wE s.data.toList) := fun w => rwords_any s w hs
theorem bytes_len (s : ByteArray) : s.data.toList.length = s.size := Array.length_toList
def SamePost (w : World) (q : Bool) (e : Ending) (w' : World) : Prop := e = .returned (.bool q) ∧ Below w.heap.size w w'
theorem deepL_snoc (x : Nod) : ∀ l : List Nod, Nod.deepL (l ++ [x]) = max (Nod.deepL l) x.deep
 | [] => by simp [Nod.deepL]
 | t :: l => by
  show max t.deep (Nod.deepL (l ++ [x])) = max (max t.deep (Nod.deepL l)) x.deep
  rw [deepL_snoc x l, Nat.max_assoc]
theorem deepL_take : ∀ (l : List Nod) (k : Nat), Nod.deepL (l.take k) ≤ Nod.deepL l
 | [], k => by simp
 | t :: l, 0 => Nat.zero_le _
 | t :: l, k + 1 => by
  show max t.deep (Nod.deepL (l.take k)) ≤ max t.deep (Nod.deepL l)
  have := deepL_take l k
  omega
theorem deepL_mem {x : Nod} : ∀ {l : List Nod}, x ∈ l → x.deep ≤ Nod.deepL l
 | [], h => absurd h (by simp)
 | t :: l, h => by
  show _ ≤ max t.deep (Nod.deepL l)
  rcases List.mem_cons.1 h with rfl | h
  ·exact Nat.le_max_left _ _
  ·exact Nat.le_trans (deepL_mem h) (Nat.le_max_right _ _)
theorem deep_ks (t : Nod) : t.deep = Nod.deepL t.ks + 1 := by cases t; rfl
theorem rdeepN_any : ∀ (d : Nat) (t : Nod), t.deep ≤ d → d ≤ 1000000000 → ∀ (S : Nat → Prop) (op tx : ByteArray) (X : Option Addr) (n m : Nat) (w : World), (∀ g, S g → g < w.heap.size) → RIn w S t (op, tx, X, n, m) →
  Calls Tryz.prog 25 #[.agg #[.string op, .string tx, .slice X n m]] w fun e w' => e = .returned (.int .i64 t.deep) ∧ Below w.heap.size w w'
 | 0, t, h, _, _, _, _, _, _, _, _, _, _ => absurd h (by rw [deep_ks]; omega)
 | d + 1, t, h, hd, S, op, tx, X, n, m, w, hS, hn => by
  have ih := hid (fun k (hk : k < t.ks.length) => rdeepN_any d t.ks[k] (by have := deepL_mem (List.getElem_mem hk); rw [deep_ks] at h; omega) (by omega))
  rw [deep_ks] at h ⊢
  have hNod.deepL : Nod.deepL t.ks ≤ d := by omega
  obtain ⟨-, -, en, hkl⟩ := hn.texts
  dsimp only at en
  have HS := hid hS
  subst en
  have HN := hid hn
  clear h hS hn
  go_enter Tryz.func25, Tryz.ntmps25
  go_wp2
  go_loopw [3, 4] (fun v t' wr => ∃ k : Nat, k ≤ t.ks.length ∧ t' = .int .i64 k ∧ v = .int .i64 (Nod.deepL (t.ks.take k)) ∧ Below w.heap.size w wr ∧ NBox wr w.heap.size (.string op) (.string tx) (.slice X t.ks.length m)) (fun _ t' _ => t.ks.length - (intOf t').toNat)
  case atStart => exact ⟨0, by omega, rfl, rfl, (Below.refl _ _).alloc (Nat.le_refl _) _, NBox.fresh _ _ _ _ _⟩
  case round =>
   obtain ⟨k, hk, rfl, rfl, hb, hv⟩ := hrel
   have HB := hid hb
   have HV := hid hv
   have hz := hb.size
   have hvl := hv.lt
   have HK := hid (HN.out.bel HS.out hb)
   obtain ⟨x0, x1, x2, xf⟩ := hv
   clear hb
   by_cases hlt : k < t.ks.length
   ·obtain ⟨ad, ⟨op', tx', X', n', m'⟩, eA, hS', q0, q1, q2, hk'⟩ := HK.out.kid k hlt
    dsimp only at eA q0 q1 q2
    subst eA
    have hKK := hid hk'
    have had := HS.out _ hS'
    have hdk : Nod.deepL (t.ks.take k) ≤ Nod.deepL t.ks := deepL_take _ _
    have hdx : t.ks[k].deep ≤ Nod.deepL t.ks := deepL_mem (List.getElem_mem hlt)
    have hdt : Nod.deepL (t.ks.take (k + 1)) = max (Nod.deepL (t.ks.take k)) t.ks[k].deep := by rw [List.take_succ_eq_append_getElem hlt, deepL_snoc]
    have HDT := hid hdt
    clear hk' hdt
    go_wp2_with fail
    refine (ih.out k hlt S op' tx' X' n' m' _ (fun g hg => Nat.lt_of_lt_of_le (HS.out g hg) hz) hKK.out).mono ?_
    rintro e w1 ⟨rfl, hb1⟩
    have HB1 := hid (HB.out.trans (hb1.mono hz))
    have HV1 := hid (HV.out.below hb1)
    clear hb1 q0 q1 q2 x0 x1 x2 xf
    go_wp2
    go_roundw
    case rel => exact ⟨k + 1, by omega, by go_num, by rw [HDT.out]; simp; omega, HB1.out, HV1.out⟩
    case measure => simp [intOf]; omega
   ·obtain rfl : k = t.ks.length := by omega
    rw [List.take_length]
    go_wp2
    go_ret
    exact ⟨by simp, HB.out⟩
theorem edeepN_any : ∀ (d : Nat) (t : Nod), t.deep ≤ d → d ≤ 1000000000 → ∀ (S : Nat → Prop) (op tx : ByteArray) (X : Option Addr) (n m : Nat) (w : World), (∀ g, S g → g < w.heap.size) → RIn w S t (op, tx, X, n, m) →
  Calls Tryz.prog 22 #[.agg #[.string op, .string tx, .slice X n m]] w fun e w' => e = .returned (.int .i64 t.deep) ∧ Below w.heap.size w w'
 | 0, t, h, _, _, _, _, _, _, _, _, _, _ => absurd h (by rw [deep_ks]; omega)
 | d + 1, t, h, hd, S, op, tx, X, n, m, w, hS, hn => by
  have ih := hid (fun k (hk : k < t.ks.length) => edeepN_any d t.ks[k] (by have := deepL_mem (List.getElem_mem hk); rw [deep_ks] at h; omega) (by omega))
  rw [deep_ks] at h ⊢
  have hNod.deepL : Nod.deepL t.ks ≤ d := by omega
  obtain ⟨-, -, en, hkl⟩ := hn.texts
  dsimp only at en
  have HS := hid hS
  subst en
  have HN := hid hn
  clear h hS hn
  go_enter Tryz.func22, Tryz.ntmps22
  go_wp2
  go_loopw [3, 9] (fun v t' wr => ∃ k : Nat, k ≤ t.ks.length ∧ t' = .int .i64 k ∧ v = .int .i64 (Nod.deepL (t.ks.take k)) ∧ Below w.heap.size w wr) (fun _ t' _ => t.ks.length - (intOf t').toNat)
  case atStart => exact ⟨0, by omega, rfl, rfl, (Below.refl _ _).alloc (Nat.le_refl _) _⟩
  case round =>
   obtain ⟨k, hk, rfl, rfl, hb⟩ := hrel
   have HB := hid hb
   have hz := hb.size
   have HK := hid (HN.out.bel HS.out hb)
   clear hb
   by_cases hlt : k < t.ks.length
   ·obtain ⟨ad, ⟨op', tx', X', n', m'⟩, eA, hS', q0, q1, q2, hk'⟩ := HK.out.kid k hlt
    dsimp only at eA q0 q1 q2
    subst eA
    have hKK := hid hk'
    have had := HS.out _ hS'
    have hdk : Nod.deepL (t.ks.take k) ≤ Nod.deepL t.ks := deepL_take _ _
    have hdx : t.ks[k].deep ≤ Nod.deepL t.ks := deepL_mem (List.getElem_mem hlt)
    have hdt : Nod.deepL (t.ks.take (k + 1)) = max (Nod.deepL (t.ks.take k)) t.ks[k].deep := by rw [List.take_succ_eq_append_getElem hlt, deepL_snoc]
    have HDT := hid hdt
    clear hk' hdt
    go_wp2_with fail
    refine (ih.out k hlt S op' tx' X' n' m' _ (fun g hg => by have := HS.out g hg; simp; omega) (hKK.out.alloc (fun g hg => Nat.lt_of_lt_of_le (HS.out g hg) hz) _)).mono ?_
    rintro e w1 ⟨rfl, hb1⟩
    have HB1 := hid ((HB.out.alloc hz _).trans (hb1.mono (by simp; omega)))
    clear hb1 q0 q1 q2
    go_wp2
    go_roundw
    case rel => exact ⟨k + 1, by omega, by go_num, by rw [HDT.out]; simp; omega, HB1.out⟩
    case measure => simp [intOf]; omega
   ·obtain rfl : k = t.ks.length := by omega
    rw [List.take_length]
    go_wp2
    go_ret
    exact ⟨by simp, HB.out⟩
theorem rreadQ_none (A : Option Addr) (cap : Nat) (w : World) :
  Calls Tryz.prog 13 #[.slice A 0 cap, .int .i64 0] w (ReadQPost w (zeroN, 0, 91)) := by
 go_enter Tryz.func13, Tryz.ntmps13
 go_wp2
 have Y := NBox.fresh w (.string ⟨#[]⟩) (.string ⟨#[]⟩) (.slice none 0 0) 25
 exact bodyPost_ret (v := .tuple #[.agg #[.string ⟨#[]⟩, .string ⟨#[]⟩, .slice none 0 0], .int .i64 0, .int .i64 91]) (by simp [results, Tryz.results13, go_sem, Y.c0, Y.c1, Y.c2]) rfl
  ⟨⟨#[]⟩, ⟨#[]⟩, none, 0, 0, rfl, RIn.leafN _ _ ⟨#[]⟩ ⟨#[]⟩, (Below.refl _ _).alloc (Nat.le_refl _) _⟩
def ParseQPost (w : World) (res : Nod × Int × Int) (e : Ending) (w' : World) : Prop :=
 ∃ (op tx : ByteArray) (X : Option Addr) (n m : Nat), e = .returned (.tuple #[.agg #[.string op, .string tx, .slice X n m], .int .i64 res.2.1, .int .i64 res.2.2]) ∧ RIn w' (New w w') res.1 (op, tx, X, n, m) ∧ Below w.heap.size w w'
theorem rparseQ_lex (s : ByteArray) (w : World) (j : Int) (hw : WordsIs s [] j 81) :
  Calls Tryz.prog 9 #[.string s] w (ParseQPost w (zeroN, j, 81)) := by
 have HW := hid hw
 clear hw
 go_enter Tryz.func9, Tryz.ntmps9
 have N0 := hid (NBox.fresh w (.string ⟨#[]⟩) (.string ⟨#[]⟩) (.slice none 0 0) 25)
 have B0 := hid ((Below.refl w.heap.size w).alloc (Nat.le_refl _) (.cells #[.string ⟨#[]⟩, .string ⟨#[]⟩, .slice none 0 0] 25))
 go_wp2_with fail
 refine (HW.out _).mono ?_
 rintro e w1 ⟨A, cap, rfl, hat, hb1⟩
 have N1 := hid (N0.out.below hb1)
 have B1 := hid (B0.out.trans (hb1.mono (by simp)))
 have A1 := hid hat
 have z1 := N1.out.lt
 clear hb1 hat
 obtain ⟨x0, x1, x2, xf⟩ := N1.out
 go_wp2
 have N3 := N1
 have B3 := B1
 replace N3 := hid N3.out
 have Y := N3.out.set (.string ⟨#[]⟩) (.string ⟨#[]⟩) (.slice none 0 0)
 exact bodyPost_ret (v := .tuple #[.agg #[.string ⟨#[]⟩, .string ⟨#[]⟩, .slice none 0 0], .int .i64 j, .int .i64 81]) (by simp [results, Tryz.results9, go_sem, Y.c0, Y.c1, Y.c2]) rfl
  ⟨⟨#[]⟩, ⟨#[]⟩, none, 0, 0, rfl, RIn.leafN _ _ ⟨#[]⟩ ⟨#[]⟩, ((B3.out.setCell (Nat.le_refl _) _).setCell (Nat.le_refl _) _).setCell (Nat.le_refl _) _⟩
theorem rparseQ_bad (s : ByteArray) (w : World) (l : List W) (hw : WordsIs s l 0 0) (x : Nod) (j : Nat) (hr : ∀ A cap w, At wc 3 w w.heap.size A l → Calls Tryz.prog 13 #[.slice A l.length cap, .int .i64 0] w (ReadQPost w (x, j, 91))) (hl : l.length ≤ 4194304) (hj : j ≤ l.length) :
  Calls Tryz.prog 9 #[.string s] w (ParseQPost w (zeroN, placeL s.size l j, 91)) := by
 have HW := hid hw
 have HR := hid hr
 have HP := hid (fun (A : Option Addr) (cap : Nat) (w : World) h => rplace_any s A cap l j w h hl hj)
 obtain ⟨p, hp⟩ : ∃ p, placeL s.size l j = p := ⟨_, rfl⟩
 rw [hp] at HP ⊢
 clear hw hr hp
 go_enter Tryz.func9, Tryz.ntmps9
 have N0 := hid (NBox.fresh w (.string ⟨#[]⟩) (.string ⟨#[]⟩) (.slice none 0 0) 25)
 have B0 := hid ((Below.refl w.heap.size w).alloc (Nat.le_refl _) (.cells #[.string ⟨#[]⟩, .string ⟨#[]⟩, .slice none 0 0] 25))
 go_wp2_with fail
 refine (HW.out _).mono ?_
 rintro e w1 ⟨A, cap, rfl, hat, hb1⟩
 have N1 := hid (N0.out.below hb1)
 have B1 := hid (B0.out.trans (hb1.mono (by simp)))
 have A1 := hid hat
 have z1 := N1.out.lt
 clear hb1 hat
 go_wp2_with fail
 refine (HR.out A cap _ A1.out).mono ?_
 rintro e w2 ⟨op, tx, X, n, m, rfl, hn2, hb2⟩
 have N2 := hid ((N1.out.below hb2).alloc (.cells #[.string op, .string tx, .slice X n m] 25))
 have B2 := hid ((B1.out.trans (hb2.mono (by omega))).alloc (by have := hb2.size; omega) (.cells #[.string op, .string tx, .slice X n m] 25))
 have A2 := hid (show At wc 3 (w2.alloc (.cells #[.string op, .string tx, .slice X n m] 25)) (w2.alloc (.cells #[.string op, .string tx, .slice X n m] 25)).heap.size A l from ((((A1.out.below hb2).more hb2.size).below ((Below.refl _ _).alloc (Nat.le_refl _) (.cells #[.string op, .string tx, .slice X n m] 25))).more (by simp)))
 have I2 := hid ((hn2.imp (S' := fun g => w.heap.size < g ∧ g < w2.heap.size) (fun g hg => ⟨by have := hg.1; omega, hg.2⟩)).alloc (fun g hg => hg.2) (.cells #[.string op, .string tx, .slice X n m] 25))
 have V2 := hid (NBox.fresh w2 (.string op) (.string tx) (.slice X n m) 25)
 have z2 := hb2.size
 have zn := N2.out.lt
 clear hb2 hn2
 obtain ⟨x0, x1, x2, xf⟩ := N2.out
 have A3 := A2
 go_wp2_with fail
 refine (HP.out A cap _ A2.out).mono ?_
 rintro e w3 ⟨rfl, hb3⟩
 have N3 := hid (N2.out.below hb3)
 have B3 := hid (B2.out.trans (hb3.mono (by omega)))
 have z3 := N3.out.lt
 clear hb3 x0 x1 x2 xf
 obtain ⟨x0, x1, x2, xf⟩ := N3.out
 go_wp2
 have Y := N3.out.set (.string ⟨#[]⟩) (.string ⟨#[]⟩) (.slice none 0 0)
 exact bodyPost_ret (v := .tuple #[.agg #[.string ⟨#[]⟩, .string ⟨#[]⟩, .slice none 0 0], .int .i64 p, .int .i64 91]) (by simp [results, Tryz.results9, go_sem, Y.c0, Y.c1, Y.c2]) rfl
  ⟨⟨#[]⟩, ⟨#[]⟩, none, 0, 0, rfl, RIn.leafN _ _ ⟨#[]⟩ ⟨#[]⟩, ((B3.out.setCell (Nat.le_refl _) _).setCell (Nat.le_refl _) _).setCell (Nat.le_refl _) _⟩
theorem rparseQ_short (s : ByteArray) (w : World) (l : List W) (hw : WordsIs s l 0 0) (x : Nod) (j : Nat) (hr : ∀ A cap w, At wc 3 w w.heap.size A l → Calls Tryz.prog 13 #[.slice A l.length cap, .int .i64 0] w (ReadQPost w (x, j, 0))) (hl : l.length ≤ 4194304) (hj : j < l.length) :
  Calls Tryz.prog 9 #[.string s] w (ParseQPost w (zeroN, placeL s.size l j, 91)) := by
 have HW := hid hw
 have HR := hid hr
 have HP := hid (fun (A : Option Addr) (cap : Nat) (w : World) h => rplace_any s A cap l j w h hl (Nat.le_of_lt hj))
 obtain ⟨p, hp⟩ : ∃ p, placeL s.size l j = p := ⟨_, rfl⟩
 rw [hp] at HP ⊢
 have e1 : decide ((j : Int) < (l.length : Int)) = true := by simp; omega
 clear hw hr hp
 go_enter Tryz.func9, Tryz.ntmps9
 have N0 := hid (NBox.fresh w (.string ⟨#[]⟩) (.string ⟨#[]⟩) (.slice none 0 0) 25)
 have B0 := hid ((Below.refl w.heap.size w).alloc (Nat.le_refl _) (.cells #[.string ⟨#[]⟩, .string ⟨#[]⟩, .slice none 0 0] 25))
 go_wp2_with fail
 refine (HW.out _).mono ?_
 rintro e w1 ⟨A, cap, rfl, hat, hb1⟩
 have N1 := hid (N0.out.below hb1)
 have B1 := hid (B0.out.trans (hb1.mono (by simp)))
 have A1 := hid hat
 have z1 := N1.out.lt
 clear hb1 hat
 go_wp2_with fail
 refine (HR.out A cap _ A1.out).mono ?_
 rintro e w2 ⟨op, tx, X, n, m, rfl, hn2, hb2⟩
 have N2 := hid ((N1.out.below hb2).alloc (.cells #[.string op, .string tx, .slice X n m] 25))
 have B2 := hid ((B1.out.trans (hb2.mono (by omega))).alloc (by have := hb2.size; omega) (.cells #[.string op, .string tx, .slice X n m] 25))
 have A2 := hid (show At wc 3 (w2.alloc (.cells #[.string op, .string tx, .slice X n m] 25)) (w2.alloc (.cells #[.string op, .string tx, .slice X n m] 25)).heap.size A l from ((((A1.out.below hb2).more hb2.size).below ((Below.refl _ _).alloc (Nat.le_refl _) (.cells #[.string op, .string tx, .slice X n m] 25))).more (by simp)))
 have I2 := hid ((hn2.imp (S' := fun g => w.heap.size < g ∧ g < w2.heap.size) (fun g hg => ⟨by have := hg.1; omega, hg.2⟩)).alloc (fun g hg => hg.2) (.cells #[.string op, .string tx, .slice X n m] 25))
 have V2 := hid (NBox.fresh w2 (.string op) (.string tx) (.slice X n m) 25)
 have z2 := hb2.size
 have zn := N2.out.lt
 clear hb2 hn2
 obtain ⟨x0, x1, x2, xf⟩ := N2.out
 have A3 := A2
 go_wp2_with fail
 refine (HP.out A cap _ A2.out).mono ?_
 rintro e w3 ⟨rfl, hb3⟩
 have N3 := hid (N2.out.below hb3)
 have B3 := hid (B2.out.trans (hb3.mono (by omega)))
 have z3 := N3.out.lt
 clear hb3 x0 x1 x2 xf
 obtain ⟨x0, x1, x2, xf⟩ := N3.out
 go_wp2
 have Y := N3.out.set (.string ⟨#[]⟩) (.string ⟨#[]⟩) (.slice none 0 0)
 exact bodyPost_ret (v := .tuple #[.agg #[.string ⟨#[]⟩, .string ⟨#[]⟩, .slice none 0 0], .int .i64 p, .int .i64 91]) (by simp [results, Tryz.results9, go_sem, Y.c0, Y.c1, Y.c2]) rfl
  ⟨⟨#[]⟩, ⟨#[]⟩, none, 0, 0, rfl, RIn.leafN _ _ ⟨#[]⟩ ⟨#[]⟩, ((B3.out.setCell (Nat.le_refl _) _).setCell (Nat.le_refl _) _).setCell (Nat.le_refl _) _⟩
theorem rparseQ_deep (s : ByteArray) (w : World) (l : List W) (hw : WordsIs s l 0 0) (x : Nod) (hr : ∀ A cap w, At wc 3 w w.heap.size A l → Calls Tryz.prog 13 #[.slice A l.length cap, .int .i64 0] w (ReadQPost w (x, l.length, 0))) (hd : x.deep ≤ 1000000000) (h16 : 16 < x.deep) :
  Calls Tryz.prog 9 #[.string s] w (ParseQPost w (zeroN, 0, 92)) := by
 have HW := hid hw
 have HR := hid hr
 have HD := hid (rdeepN_any 1000000000 x hd (Nat.le_refl _))
 obtain ⟨d, hdd⟩ : ∃ d, x.deep = d := ⟨_, rfl⟩
 rw [hdd] at HD h16 hd
 clear hw hr hdd
 have e1 : decide ((16 : Int) < (d : Int)) = true := by simp; omega
 go_enter Tryz.func9, Tryz.ntmps9
 have N0 := hid (NBox.fresh w (.string ⟨#[]⟩) (.string ⟨#[]⟩) (.slice none 0 0) 25)
 have B0 := hid ((Below.refl w.heap.size w).alloc (Nat.le_refl _) (.cells #[.string ⟨#[]⟩, .string ⟨#[]⟩, .slice none 0 0] 25))
 go_wp2_with fail
 refine (HW.out _).mono ?_
 rintro e w1 ⟨A, cap, rfl, hat, hb1⟩
 have N1 := hid (N0.out.below hb1)
 have B1 := hid (B0.out.trans (hb1.mono (by simp)))
 have A1 := hid hat
 have z1 := N1.out.lt
 clear hb1 hat
 go_wp2_with fail
 refine (HR.out A cap _ A1.out).mono ?_
 rintro e w2 ⟨op, tx, X, n, m, rfl, hn2, hb2⟩
 have N2 := hid ((N1.out.below hb2).alloc (.cells #[.string op, .string tx, .slice X n m] 25))
 have B2 := hid ((B1.out.trans (hb2.mono (by omega))).alloc (by have := hb2.size; omega) (.cells #[.string op, .string tx, .slice X n m] 25))
 have A2 := hid (show At wc 3 (w2.alloc (.cells #[.string op, .string tx, .slice X n m] 25)) (w2.alloc (.cells #[.string op, .string tx, .slice X n m] 25)).heap.size A l from ((((A1.out.below hb2).more hb2.size).below ((Below.refl _ _).alloc (Nat.le_refl _) (.cells #[.string op, .string tx, .slice X n m] 25))).more (by simp)))
 have I2 := hid ((hn2.imp (S' := fun g => w.heap.size < g ∧ g < w2.heap.size) (fun g hg => ⟨by have := hg.1; omega, hg.2⟩)).alloc (fun g hg => hg.2) (.cells #[.string op, .string tx, .slice X n m] 25))
 have V2 := hid (NBox.fresh w2 (.string op) (.string tx) (.slice X n m) 25)
 have z2 := hb2.size
 have zn := N2.out.lt
 clear hb2 hn2
 obtain ⟨x0, x1, x2, xf⟩ := N2.out
 obtain ⟨v0, v1, v2, vf⟩ := V2.out
 go_wp2_with fail
 refine (HD.out _ _ _ _ _ _ _ (fun g hg => by have := hg.2; simp; omega) I2.out).mono ?_
 rintro e w3 ⟨rfl, hb3⟩
 have N3 := hid (N2.out.below hb3)
 have V3 := hid (V2.out.below hb3)
 have I3 := hid (I2.out.bel (fun g hg => by have := hg.2; simp; omega) hb3)
 have B3 := hid (B2.out.trans (hb3.mono (by omega)))
 have z3 := N3.out.lt
 have z4 : w2.heap.size < w3.heap.size := V3.out.lt
 clear hb3 x0 x1 x2 xf v0 v1 v2 vf
 obtain ⟨x0, x1, x2, xf⟩ := N3.out
 obtain ⟨v0, v1, v2, vf⟩ := V3.out
 go_wp2
 have Y := N3.out.set (.string ⟨#[]⟩) (.string ⟨#[]⟩) (.slice none 0 0)
 exact bodyPost_ret (v := .tuple #[.agg #[.string ⟨#[]⟩, .string ⟨#[]⟩, .slice none 0 0], .int .i64 0, .int .i64 92]) (by simp [results, Tryz.results9, go_sem, Y.c0, Y.c1, Y.c2]) rfl
  ⟨⟨#[]⟩, ⟨#[]⟩, none, 0, 0, rfl, RIn.leafN _ _ ⟨#[]⟩ ⟨#[]⟩, ((B3.out.setCell (Nat.le_refl _) _).setCell (Nat.le_refl _) _).setCell (Nat.le_refl _) _⟩
theorem rparseQ_ok (s : ByteArray) (w : World) (l : List W) (hw : WordsIs s l 0 0) (x : Nod) (hr : ∀ A cap w, At wc 3 w w.heap.size A l → Calls Tryz.prog 13 #[.slice A l.length cap, .int .i64 0] w (ReadQPost w (x, l.length, 0))) (hd : x.deep ≤ 1000000000) (h16 : x.deep ≤ 16) :
  Calls Tryz.prog 9 #[.string s] w (ParseQPost w (x, 0, 0)) := by
 have HW := hid hw
 have HR := hid hr
 have HD := hid (rdeepN_any 1000000000 x hd (Nat.le_refl _))
 obtain ⟨d, hdd⟩ : ∃ d, x.deep = d := ⟨_, rfl⟩
 rw [hdd] at HD h16 hd
 clear hw hr hdd
 have e1 : decide ((16 : Int) < (d : Int)) = false := by simp; omega
 go_enter Tryz.func9, Tryz.ntmps9
 have N0 := hid (NBox.fresh w (.string ⟨#[]⟩) (.string ⟨#[]⟩) (.slice none 0 0) 25)
 have B0 := hid ((Below.refl w.heap.size w).alloc (Nat.le_refl _) (.cells #[.string ⟨#[]⟩, .string ⟨#[]⟩, .slice none 0 0] 25))
 go_wp2_with fail
 refine (HW.out _).mono ?_
 rintro e w1 ⟨A, cap, rfl, hat, hb1⟩
 have N1 := hid (N0.out.below hb1)
 have B1 := hid (B0.out.trans (hb1.mono (by simp)))
 have A1 := hid hat
 have z1 := N1.out.lt
 clear hb1 hat
 go_wp2_with fail
 refine (HR.out A cap _ A1.out).mono ?_
 rintro e w2 ⟨op, tx, X, n, m, rfl, hn2, hb2⟩
 have N2 := hid ((N1.out.below hb2).alloc (.cells #[.string op, .string tx, .slice X n m] 25))
 have B2 := hid ((B1.out.trans (hb2.mono (by omega))).alloc (by have := hb2.size; omega) (.cells #[.string op, .string tx, .slice X n m] 25))
 have A2 := hid (show At wc 3 (w2.alloc (.cells #[.string op, .string tx, .slice X n m] 25)) (w2.alloc (.cells #[.string op, .string tx, .slice X n m] 25)).heap.size A l from ((((A1.out.below hb2).more hb2.size).below ((Below.refl _ _).alloc (Nat.le_refl _) (.cells #[.string op, .string tx, .slice X n m] 25))).more (by simp)))
 have I2 := hid ((hn2.imp (S' := fun g => w.heap.size < g ∧ g < w2.heap.size) (fun g hg => ⟨by have := hg.1; omega, hg.2⟩)).alloc (fun g hg => hg.2) (.cells #[.string op, .string tx, .slice X n m] 25))
 have V2 := hid (NBox.fresh w2 (.string op) (.string tx) (.slice X n m) 25)
 have z2 := hb2.size
 have zn := N2.out.lt
 clear hb2 hn2
 obtain ⟨x0, x1, x2, xf⟩ := N2.out
 obtain ⟨v0, v1, v2, vf⟩ := V2.out
 go_wp2_with fail
 refine (HD.out _ _ _ _ _ _ _ (fun g hg => by have := hg.2; simp; omega) I2.out).mono ?_
 rintro e w3 ⟨rfl, hb3⟩
 have N3 := hid (N2.out.below hb3)
 have V3 := hid (V2.out.below hb3)
 have I3 := hid (I2.out.bel (fun g hg => by have := hg.2; simp; omega) hb3)
 have B3 := hid (B2.out.trans (hb3.mono (by omega)))
 have z3 := N3.out.lt
 have z4 : w2.heap.size < w3.heap.size := V3.out.lt
 clear hb3 x0 x1 x2 xf v0 v1 v2 vf
 obtain ⟨x0, x1, x2, xf⟩ := N3.out
 obtain ⟨v0, v1, v2, vf⟩ := V3.out
 go_wp2
 have Y := N3.out.set (.string op) (.string tx) (.slice X n m)
 exact bodyPost_ret (v := .tuple #[.agg #[.string op, .string tx, .slice X n m], .int .i64 0, .int .i64 0]) (by simp [results, Tryz.results9, go_sem, Y.c0, Y.c1, Y.c2]) rfl
  ⟨op, tx, X, n, m, rfl, (RIn.w3 (g := w.heap.size) I3.out (fun hg => Nat.lt_irrefl _ hg.1) (.string op) (.string tx) (.slice X n m)).imp (fun g hg => ⟨Nat.le_of_lt hg.1, by show g < (W3 w3 w.heap.size (.string op) (.string tx) (.slice X n m)).heap.size; rw [W3.size]; have := hg.2; omega⟩), ((B3.out.setCell (Nat.le_refl _) _).setCell (Nat.le_refl _) _).setCell (Nat.le_refl _) _⟩
theorem rparseQ_any (s : ByteArray) (hs : s.size ≤ 4194304) (w : World) :
  Calls Tryz.prog 9 #[.string s] w (ParseQPost w (parseQ s.data.toList)) := by
 have hw := words_is s hs
 have hL := bytes_len s
 unfold parseQ
 cases e : wordsL s.data.toList 0 with
 | error j =>
  have h1 : wL s.data.toList = [] := by unfold wL; rw [e]
  have h2 : wP s.data.toList = j := by unfold wP; rw [e]
  have h3 : wE s.data.toList = 81 := by unfold wE; rw [e]
  rw [h1, h2, h3] at hw
  exact rparseQ_lex s w j hw
 | ok l =>
  have h1 : wL s.data.toList = l := by unfold wL; rw [e]
  have h2 : wP s.data.toList = 0 := by unfold wP; rw [e]
  have h3 : wE s.data.toList = 0 := by unfold wE; rw [e]
  rw [h1, h2, h3] at hw
  have hlen := words_len _ _ _ e
  have hcf := came_fig (words_came _ _ _ e)
  have hfg : FigW l := fun v hv hk => ⟨(hcf v hv hk).1, by have := (hcf v hv hk).2; omega⟩
  have hl : l.length ≤ 4194304 := by omega
  show Calls Tryz.prog 9 #[.string s] w (ParseQPost w (parseQW s.data.toList.length l))
  rw [hL]
  by_cases hl0 : l = []
  ·subst hl0
   have := rparseQ_bad s w [] hw zeroN 0 (fun A cap w _ => rreadQ_none A cap w) hl (Nat.zero_le _)
   exact this
  ·have hpos : 0 < l.length := List.length_pos_iff.2 hl0
   obtain ⟨R, hx⟩ : ∃ R, fromQ (bare l) 0 = R := ⟨_, rfl⟩
   obtain ⟨x, j, b⟩ := R
   have htop : topQ (bare l) = (x, j, b) := hx
   have hrd : readQ l 0 = if b = true then (zeroN, j, 91) else (x, j, 0) := by unfold readQ; rw [hx]
   have hr := fun (A : Option Addr) (cap : Nat) (w : World) h => rreadQ_any A cap l 0 w h hl hfg hpos
   rw [hrd] at hr
   have hj : j ≤ l.length := by have := topQ_le (bare l); rw [htop, bare_length] at this; exact this
   have hd : x.deep ≤ 1 + l.length := by have := topQ_deep (bare l); rw [htop, bare_length] at this; exact this
   unfold parseQW
   rw [if_neg hl0, htop]
   cases b
   ·by_cases hjl : j < l.length
    ·rw [if_pos (Or.inr hjl)]
     exact rparseQ_short s w l hw x j hr hl hjl
    ·obtain rfl : j = l.length := by omega
     rw [if_neg (by simp)]
     by_cases h16 : 16 < x.deep
     ·rw [if_pos h16]
      exact rparseQ_deep s w l hw x hr (by omega) h16
     ·rw [if_neg h16]
      exact rparseQ_ok s w l hw x hr (by omega) (by omega)
   ·rw [if_pos (Or.inl rfl)]
    exact rparseQ_bad s w l hw zeroN j hr hl hj
def SaysSameN (fn : Nat) (x : Nod) : Prop := ∀ (S : Nat → Prop) (op tx : ByteArray) (X : Option Addr) (n m : Nat) (op' tx' : ByteArray) (X' : Option Addr) (n' m' : Nat) (w : World), (∀ g, S g → g < w.heap.size) → RIn w S x (op, tx, X, n, m) → RIn w S x (op', tx', X', n', m') →
  Calls Tryz.prog fn #[.agg #[.string op, .string tx, .slice X n m], .agg #[.string op', .string tx', .slice X' n' m']] w (SamePost w true)
theorem rsameN_any : ∀ (d : Nat) (x : Nod), x.deep ≤ d → SaysSameN 10 x
 | 0, x, h => absurd h (by rw [deep_ks]; omega)
 | d + 1, x, h => by
  intro S op tx X n m op' tx' X' n' m' w hS hx hy
  have ih := hid (fun k (hk : k < x.ks.length) => rsameN_any d x.ks[k] (by have := deepL_mem (List.getElem_mem hk); rw [deep_ks] at h; omega))
  obtain ⟨a1, a2, a3, hkx⟩ := hx.texts
  obtain ⟨b1, b2, b3, b4⟩ := hy.texts
  dsimp only at a1 a2 a3 b1 b2 b3
  have ho : op = op' := by rw [a1, b1]
  have ht : tx = tx' := by rw [a2, b2]
  subst ho ht a3 b3
  clear a1 a2 b1 b2 b4
  have HS := hid hS
  have HX := hid hx
  have HY := hid hy
  obtain ⟨N, hN⟩ : ∃ N, x.ks.length = N := ⟨_, rfl⟩
  rw [hN] at HX HY hkx
  rw [hN]
  clear h hS hx hy
  go_enter Tryz.func10, Tryz.ntmps10
  obtain ⟨w0, hw0⟩ : ∃ w0, (w.alloc (.cells #[.string op, .string tx, .slice X N m] 25)).alloc (.cells #[.string op, .string tx, .slice X' N m'] 25) = w0 := ⟨_, rfl⟩
  have hz0 : w0.heap.size = w.heap.size + 2 := by rw [← hw0]; simp
  have B0 := hid (show Below w.heap.size w w0 by rw [← hw0]; exact ((Below.refl _ _).alloc (Nat.le_refl _) _).alloc (by simp) _)
  have N0 := hid (show NBox w0 w.heap.size (.string op) (.string tx) (.slice X N m) by rw [← hw0]; exact (NBox.fresh _ _ _ _ _).alloc _)
  have N1 := hid (show NBox w0 (w.heap.size + 1) (.string op) (.string tx) (.slice X' N m') by
   rw [← hw0, show w.heap.size + 1 = (w.alloc (.cells #[.string op, .string tx, .slice X N m] 25)).heap.size by simp]; exact NBox.fresh _ _ _ _ _)
  obtain ⟨x0, x1, x2, xf⟩ := N0.out
  obtain ⟨y0, y1, y2, yf⟩ := N1.out
  go_wp2
  clear x0 x1 x2 xf y0 y1 y2 yf
  go_loopw [5] (fun t wr => ∃ k : Nat, k ≤ N ∧ t = .int .i64 k ∧ Below w.heap.size w wr ∧ NBox wr w.heap.size (.string op) (.string tx) (.slice X N m) ∧ NBox wr (w.heap.size + 1) (.string op) (.string tx) (.slice X' N m')) (fun t _ => N - (intOf t).toNat)
  case atStart => exact ⟨0, by omega, rfl, B0.out, N0.out, N1.out⟩
  case round =>
   obtain ⟨k, hk, rfl, hb, hn0, hn1⟩ := hrel
   have HB := hid hb
   have H0 := hid hn0
   have H1 := hid hn1
   have hz := hb.size
   have zg0 := hn0.lt
   have zg1 := hn1.lt
   have KX := hid (HX.out.bel HS.out hb)
   have KY := hid (HY.out.bel HS.out hb)
   obtain ⟨x0, x1, x2, xf⟩ := hn0
   obtain ⟨y0, y1, y2, yf⟩ := hn1
   clear hb
   by_cases hlt : k < N
   ·obtain ⟨ad, ⟨op1, tx1, X1, n1, m1⟩, eA, hS1, p0, p1, p2, hk1⟩ := KX.out.kid k (by omega)
    dsimp only at eA p0 p1 p2
    subst eA
    obtain ⟨bd, ⟨op2, tx2, X2, n2, m2⟩, eA, hS2, q0, q1, q2, hk2⟩ := KY.out.kid k (by omega)
    dsimp only at eA q0 q1 q2
    subst eA
    have za : (ad.add (k * 3)).block < wr.heap.size := by rw [add_block]; have := HS.out _ hS1; omega
    have zb : (bd.add (k * 3)).block < wr.heap.size := by rw [add_block]; have := HS.out _ hS2; omega
    have za0 : ad.block < wr.heap.size := by have := HS.out _ hS1; omega
    have zb0 : bd.block < wr.heap.size := by have := HS.out _ hS2; omega
    obtain ⟨p, hp⟩ : ∃ p, ad.add (k * 3) = p := ⟨_, rfl⟩
    obtain ⟨q, hq⟩ : ∃ q, bd.add (k * 3) = q := ⟨_, rfl⟩
    have hc := fun w' (h : Below wr.heap.size wr w') => ih.out k (by omega) S op1 tx1 X1 n1 m1 op2 tx2 X2 n2 m2 w' (fun g hg => by have := HS.out g hg; have := h.size; omega) (hk1.bel (fun g hg => by have := HS.out g hg; omega) h) (hk2.bel (fun g hg => by have := HS.out g hg; omega) h)
    unfold SamePost at hc
    have HC := hid hc
    clear hc hk1 hk2 hS1 hS2
    go_wp2_with fail
    rw [hp] at p0 p1 p2 za
    rw [hq] at q0 q1 q2 zb
    go_region_held3 (fun w' => (w'.cell? ⟨w.heap.size, 2, none⟩ = some (.slice (some ad) N m) ∧ w'.cell? ⟨w.heap.size + 1, 2, none⟩ = some (.slice (some bd) N m') ∧ w'.cell? p = some (.string op1) ∧ w'.cell? ⟨p.block, p.off + 1, none⟩ = some (.string tx1) ∧ w'.cell? ⟨p.block, p.off + 2, none⟩ = some (.slice X1 n1 m1) ∧ w'.cell? q = some (.string op2) ∧ w'.cell? ⟨q.block, q.off + 1, none⟩ = some (.string tx2) ∧ w'.cell? ⟨q.block, q.off + 2, none⟩ = some (.slice X2 n2 m2)) ∧ Below wr.heap.size wr w')
     (first | assumption | (refine keepP hb5 (by assumption) ?_; intro kk; exact ⟨(kk ⟨w.heap.size, 2, none⟩ zg0).trans x2, (kk ⟨w.heap.size + 1, 2, none⟩ zg1).trans y2, (kk p za).trans p0, (kk ⟨p.block, p.off + 1, none⟩ za).trans p1, (kk ⟨p.block, p.off + 2, none⟩ za).trans p2, (kk q zb).trans q0, (kk ⟨q.block, q.off + 1, none⟩ zb).trans q1, (kk ⟨q.block, q.off + 2, none⟩ zb).trans q2⟩) | (exact ⟨⟨x2, y2, p0, p1, p2, q0, q1, q2⟩, Below.drew (Below.refl _ _)⟩))
     (first | (go_at_call 10; with_reducible refine (HC.out _ ?cv).mono ?_; (case cv => exact (by assumption : _ ∧ Below wr.heap.size wr _).2); rintro e w5 ⟨rfl, hb5⟩))
    have M := hid (show Below wr.heap.size wr w5 by rename_i hS; exact hS.2)
    clear x0 x1 x2 xf y0 y1 y2 yf p0 p1 p2 q0 q1 q2 hb5
    go_wp2
    go_roundw
    case rel => exact ⟨k + 1, by omega, by go_num, bnext HB.out hz M.out, H0.out.below M.out, H1.out.below M.out⟩
    case measure => simp [intOf]; omega
   ·obtain rfl : k = N := by omega
    go_wp2
    go_ret
    exact ⟨rfl, HB.out⟩
end Go.Proofs.YtjbpkpfmgbhlpaaGreatDoor.Code
/-
  The walk of QueryParses, with the program's Parse and the live question by their contracts.
-/
namespace Go.Proofs.YtjbpkpfmgbhlpaaGreatDoor.queryParses
open Go.ChangeShapes Go.WideShapes Go.ChangeAt Go.RowKit Val Elems Go.Proofs.YtjbpkpfmgbhlpaaGreatDoor.Code
set_option linter.unusedVariables false
set_option linter.unusedSimpArgs false
theorem walk_of (s : ByteArray) (w : World) (hs : s.size ≤ 9223372036854775807)
  (hA : ∀ w0, Below w.heap.size w w0 → w.heap.size ≤ w0.heap.size → Calls Tryz.prog 7 #[] w0 (fun e w' => e = .returned (.bool true) ∧ Below w0.heap.size w0 w'))
  (hP : s.size ≤ 400 → ∀ w0, Below w.heap.size w w0 → Calls Tryz.prog 8 #[.string s] w0 (ParseQPost w0 (parseQ s.data.toList))) :
  Calls Tryz.prog 3 #[.string s] w fun e w' => e = .returned (.bool true) ∧ Below w.heap.size w w' := by
 have HA := hid hA
 clear hA
 by_cases hbig : 400 < s.size
 ·clear hP
  go_enter Tryz.func3, Tryz.ntmps3
  go_wp2_with fail
  refine (HA.out _ (Below.refl _ _) (Nat.le_refl _)).mono ?_
  rintro e w1 ⟨rfl, hb1⟩
  have L1 := hid hb1
  clear hb1
  go_wp2
  go_ret
  exact ⟨rfl, L1.out⟩
 ·have HP := hid (hP (by omega))
  have HR := hid (fun w0 => rparseQ_any s (by omega) w0)
  obtain ⟨res, hres⟩ : ∃ res, parseQ s.data.toList = res := ⟨_, rfl⟩
  rw [hres] at HP HR
  obtain ⟨x, p, ee⟩ := res
  have HS := hid (rsameN_any x.deep x (Nat.le_refl _))
  unfold SaysSameN at HS
  unfold ParseQPost at HP HR
  unfold SamePost at HS
  clear hP hres
  go_enter Tryz.func3, Tryz.ntmps3
  go_wp2_with fail
  refine (HP.out _ (Below.refl _ _)).mono ?_
  rintro e w1 ⟨op, tx, X, n, m, rfl, hn1, hb1⟩
  have L1 := hid (hb1.alloc hb1.size (.cells #[.string op, .string tx, .slice X n m] 25))
  have I1 := hid (hn1.alloc (fun g hg => hg.2) (.cells #[.string op, .string tx, .slice X n m] 25))
  have V1 := hid (NBox.fresh w1 (.string op) (.string tx) (.slice X n m) 25)
  have z1 := hb1.size
  clear hb1 hn1
  go_wp2_with fail
  refine (HR.out _).mono ?_
  rintro e w2 ⟨op2, tx2, X2, n2, m2, rfl, hn2, hb2⟩
  have z2 : w1.heap.size < w2.heap.size := by have := hb2.size; simp at this; omega
  have L2 := hid ((L1.out.trans (hb2.mono (by simp; omega))).alloc (by omega) (.cells #[.string op2, .string tx2, .slice X2 n2 m2] 25))
  have I2 := hid (((I1.out.bel (fun g hg => by have := hg.2; simp; omega) hb2).imp (S' := fun g => g < w2.heap.size) (fun g hg => by have := hg.2; omega)).alloc (fun g hg => hg) (.cells #[.string op2, .string tx2, .slice X2 n2 m2] 25))
  have J2 := hid ((hn2.imp (S' := fun g => g < w2.heap.size) (fun g hg => hg.2)).alloc (fun g hg => hg) (.cells #[.string op2, .string tx2, .slice X2 n2 m2] 25))
  have V2 := hid ((V1.out.below hb2).alloc (.cells #[.string op2, .string tx2, .slice X2 n2 m2] 25))
  have U2 := hid (NBox.fresh w2 (.string op2) (.string tx2) (.slice X2 n2 m2) 25)
  clear hb2 hn2
  obtain ⟨v0, v1, v2, vf⟩ := V2.out
  obtain ⟨u0, u1, u2, uf⟩ := U2.out
  go_wp2_with fail
  refine (HS.out _ _ _ _ _ _ _ _ _ _ _ _ (fun g hg => by have : g < w2.heap.size := hg; simp; omega) I2.out J2.out).mono ?_
  rintro e w3 ⟨rfl, hb3⟩
  have L3 := hid (L2.out.trans (hb3.mono (by simp; omega)))
  have z3 : w.heap.size ≤ w3.heap.size := by have := hb3.size; simp at this; omega
  clear hb3 v0 v1 v2 vf u0 u1 u2 uf
  go_wp2_with fail
  refine (HA.out _ L3.out z3).mono ?_
  rintro e w4 ⟨rfl, hb4⟩
  have L4 := hid (bnext L3.out z3 hb4)
  clear hb4
  go_wp2
  go_ret
  exact ⟨by simp, L4.out⟩
end Go.Proofs.YtjbpkpfmgbhlpaaGreatDoor.queryParses
/-
  How a node with any Kids is shown, in plain words. No program is named here.
-/
namespace Go.Proofs.YtjbpkpfmgbhlpaaGreatDoor.Code
open Val
set_option linter.unusedVariables false
abbrev RuleR := Int × List Int × Bool
def tblE : List (List UInt8 × RuleR) :=
 [(sOr, 0, [0, 1], false), (sAnd, 1, [1, 2], false), (sNot, 2, [2], false), ([61], 3, [4, 4], false), ([60, 62], 3, [4, 4], false), ([60], 3, [4, 4], false), ([60, 61], 3, [4, 4], false), ([62], 3, [4, 4], false), ([62, 61], 3, [4, 4], false), (sIsNull, 3, [4], false),
  ([43], 4, [4, 5], false), ([45], 4, [4, 5], false), ([42], 5, [5, 6], false), (sNeg, 6, [7], false), (sNum, 7, [], true), (sText, 7, [], true), (sCol, 7, [], true), (sTrue, 7, [], false), (sFalse, 7, [], false), (sNull, 7, [], false)]
def lookE (k : List UInt8) : List (List UInt8 × RuleR) → Option RuleR
 | [] => none
 | p :: l => if k = p.1 then some p.2 else lookE k l
def ruleE (k : List UInt8) : Option RuleR := lookE k tblE
theorem look_mem {k : List UInt8} {r : RuleR} : ∀ {l : List (List UInt8 × RuleR)}, lookE k l = some r → (k, r) ∈ l
 | [], h => by cases h
 | p :: l, h => by
  rw [lookE] at h
  split at h
  ·rename_i e
   cases h
   subst e
   exact List.mem_cons_self ..
  ·exact List.mem_cons_of_mem _ (look_mem h)
theorem look_none {k : List UInt8} : ∀ {l : List (List UInt8 × RuleR)}, lookE k l = none → ∀ p ∈ l, k ≠ p.1
 | [], _, p, hp => by cases hp
 | q :: l, h, p, hp => by
  rw [lookE] at h
  split at h
  ·cases h
  ·rename_i e
   rcases List.mem_cons.1 hp with rfl | hp
   ·exact e
   ·exact look_none h p hp
def rE (op tx : List UInt8) (n : Nat) : Option RuleR :=
 match ruleE op with
 | none => none
 | some r => if n = r.2.1.length ∧ (tx = [] ∨ r.2.2 = true) then some r else none
def lvE (t : Nod) : Int := match rE t.op t.tx t.ks.length with | some r => r.1 | none => 7
def kdE (al : Int) (p : List UInt8 × Int) : List UInt8 := if al ≤ p.2 then p.1 else 40 :: (p.1 ++ [41])
def sayE (op tx : List UInt8) (ls : List Int) : List (List UInt8 × Int) → List UInt8
 | [] => if op = sText then showL 4 0 ⟨tx.toArray⟩ else if op = sNum ∨ op = sCol then tx else op
 | [a] => if op = sNeg then 45 :: kdE (ls.getD 0 0) a else if op = sNot then [110, 111, 116, 32] ++ kdE (ls.getD 0 0) a else kdE (ls.getD 0 0) a ++ [32, 105, 115, 32, 110, 117, 108, 108]
 | a :: b :: _ => kdE (ls.getD 0 0) a ++ (32 :: (op ++ [32])) ++ kdE (ls.getD 1 0) b
mutual
def showE : Nod → List UInt8
 | .mk op tx ks => match rE op tx ks.length with
  | none => [63]
  | some r => sayE op tx r.2.1 (showEs ks)
def showEs : List Nod → List (List UInt8 × Int)
 | [] => []
 | t :: l => (showE t, lvE t) :: showEs l
end
theorem showE_good {op tx : List UInt8} {ks : List Nod} {r : RuleR} (h : rE op tx ks.length = some r) : showE (.mk op tx ks) = sayE op tx r.2.1 (showEs ks) := by rw [showE, h]
theorem rule_few {op : List UInt8} {r : RuleR} (h : ruleE op = some r) : r.2.1.length ≤ 2 ∧ op.length ≤ 100 := by
 have := look_mem h
 have hall : ∀ p ∈ tblE, p.2.2.1.length ≤ 2 ∧ p.1.length ≤ 100 := by decide
 exact hall _ this
def isE (n : Nod) (o : List UInt8) (k : Nat) : Bool := n.op == o && n.ks.length == k
def nthN (l : List Nod) (k : Nat) : Nod := l.getD k zeroN
def partQ (o : List UInt8) (n : Nod) (sh : List UInt8) : Option (List UInt8) :=
 if o = sFilter then some (showE n)
 else if o = sUnion then some sh
 else if o = sProject then if isE n sItem 1 = true then some (n.tx ++ [32, 61, 32] ++ showE (nthN n.ks 0)) else none
 else if o = sJoin then if (isE n sOn 1 && isE (nthN n.ks 0) sCol 0) = true then some (n.tx ++ [32, 61, 32] ++ (nthN n.ks 0).tx) else none
 else if o = sGroup then
  if (isE n sAgg 1 && (nthN n.ks 0).ks.length == 0 && ((nthN n.ks 0).op == sSum || (nthN n.ks 0).op == sMin || (nthN n.ks 0).op == sMax || ((nthN n.ks 0).op == sCount && (nthN n.ks 0).tx == []))) = true then some (n.tx ++ [32, 61, 32] ++ (nthN n.ks 0).op ++ [40] ++ (nthN n.ks 0).tx ++ [41]) else none
 else none
def namesE : List Nod → Option (List UInt8)
 | [] => some []
 | n :: l => if isE n sCol 0 = true then (match namesE l with | some s => some (32 :: (n.tx ++ s)) | none => none) else none
def byE (n : Nod) : Option (List UInt8) := match namesE n.ks with | some s => if (n.op == sBy && n.tx == []) = true then some (sBy ++ s) else none | none => none
def enoughE (n : Nod) : Bool :=
 n.tx == [] && (if n.op = sFilter then n.ks.length == 2 else if n.op = sDistinct then n.ks.length == 1 else if n.op = sProject ∨ n.op = sUnion then decide (2 ≤ n.ks.length) else if n.op = sJoin ∨ n.op = sGroup then decide (3 ≤ n.ks.length) else false)
def partsQ (o : List UInt8) : List Nod → List (List UInt8) → Option (List UInt8)
 | n :: l, s :: ss => match partQ o n s with | some t => (match partsQ o l ss with | some r => some (44 :: 32 :: (t ++ r)) | none => none) | none => none
 | _, _ => some []
def wholeQ (o s : List UInt8) (ks : List Nod) (ss : List (List UInt8)) : List UInt8 := match partsQ o ks ss with | some r => s ++ r ++ [41] | none => [63]
def showQ1 (n : Nod) (ss : List (List UInt8)) : List UInt8 :=
 if isE n sFrom 0 = true then n.tx
 else if enoughE n = false then [63]
 else if n.op = sJoin then wholeQ n.op (n.op ++ [40] ++ ss.getD 0 [] ++ [44, 32] ++ ss.getD 1 []) (n.ks.drop 2) (ss.drop 2)
 else if n.op = sGroup then
  match byE (nthN n.ks 1) with
  | some b => wholeQ n.op (n.op ++ [40] ++ ss.getD 0 [] ++ (if 0 < (nthN n.ks 1).ks.length then [44, 32] ++ b else [])) (n.ks.drop 2) (ss.drop 2)
  | none => [63]
 else wholeQ n.op (n.op ++ [40] ++ ss.getD 0 []) (n.ks.drop 1) (ss.drop 1)
mutual
def showQ : Nod → List UInt8
 | .mk o t ks => showQ1 (.mk o t ks) (showsQ ks)
def showsQ : List Nod → List (List UInt8)
 | [] => []
 | n :: l => showQ n :: showsQ l
end
mutual
def leavesQ : Nod → List (List UInt8)
 | .mk o t ks => (if o = sFrom then [t] else []) ++ leavessQ ks
def leavessQ : List Nod → List (List UInt8)
 | [] => []
 | n :: l => leavesQ n ++ leavessQ l
end
theorem leavessQ_take (l : List Nod) (i : Nat) (h : i < l.length) : leavessQ (l.take (i + 1)) = leavessQ (l.take i) ++ leavesQ l[i] := by
 induction l generalizing i with
 | nil => exact absurd h (Nat.not_lt_zero _)
 | cons n l ih =>
  cases i with
  | zero => simp [leavessQ]
  | succ i =>
   simp only [List.take_succ_cons, leavessQ, List.getElem_cons_succ]
   rw [ih i (by simpa using h), List.append_assoc]
def aliveQS : List UInt8 := [103, 114, 111, 117, 112, 40, 106, 111, 105, 110, 40, 116, 44, 32, 102, 105, 108, 116, 101, 114, 40, 117, 44, 32, 97, 32, 60, 32, 51, 41, 44, 32, 97, 32, 61, 32, 98, 41, 44, 32, 98, 121, 32, 97, 32, 98, 44, 32, 110, 32, 61, 32, 99, 111, 117, 110, 116, 40, 41, 44, 32, 109, 32, 61, 32, 109, 97, 120, 40, 99, 41, 41]
def aliveQT : Nod := .mk sGroup [] [.mk sJoin [] [.mk sFrom [116] [], .mk sFilter [] [.mk sFrom [117] [], (Tr.two [60] (.leaf sCol [97]) (.leaf sNum [51])).n], .mk sOn [97] [.mk sCol [98] []]], .mk sBy [] [.mk sCol [97] [], .mk sCol [98] []], .mk sAgg [110] [.mk sCount [] []], .mk sAgg [109] [.mk sMax [99] []]]
theorem aliveQ_1 : parseQ aliveQS = (aliveQT, 0, 0) := by kernel_rfl
theorem aliveQ_2 : parseQ [112, 114, 111, 106, 101, 99, 116, 40, 116, 41] = (zeroN, 9, 91) := by kernel_rfl
theorem aliveQ_show : showQ aliveQT = aliveQS := by decide +kernel
theorem aliveQ_leaves : leavesQ aliveQT = [[116], [117]] := by decide +kernel
end Go.Proofs.YtjbpkpfmgbhlpaaGreatDoor.Code
