/-
  The document's query: distinct, filter.
-/
import Derived.Test.YtjbpkpfmgbhlpaaGreatDoorMs26
import Derived.Deep.RegionLaw
import Derived.Test.YtjbpkpfmgbhlpaaGreatDoorMs21
import Derived.Test.YtjbpkpfmgbhlpaaGreatDoorMs4
import Derived.Test.YtjbpkpfmgbhlpaaGreatDoorMs3
import Derived.Test.YtjbpkpfmgbhlpaaGreatDoorMs18
set_option maxRecDepth 100000
set_option maxHeartbeats 16000000
open Go.Lib (hid)
namespace Go.Proofs.YtjbpkpfmgbhlpaaGreatDoor.Code
open Go.ChangeShapes Go.WideShapes Go.ChangeAt Go.RowKit Val Elems
set_option linter.unusedVariables false
set_option linter.unusedSimpArgs false
end Go.Proofs.YtjbpkpfmgbhlpaaGreatDoor.Code
/-
  The document's query, whatever comes.
-/
namespace Go.Proofs.YtjbpkpfmgbhlpaaGreatDoor.Code
open Go.ChangeShapes Go.WideShapes Go.ChangeAt Go.RowKit Val Elems
set_option linter.unusedVariables false
end Go.Proofs.YtjbpkpfmgbhlpaaGreatDoor.Code
/-
  The document's reader: the query from a place on.
-/
namespace Go.Proofs.YtjbpkpfmgbhlpaaGreatDoor.Code
open Go.ChangeShapes Go.WideShapes Go.ChangeAt Go.RowKit Val Elems
set_option linter.unusedVariables false
set_option linter.unusedSimpArgs false
def fromQ (L : List V) (i : Nat) : Res := qq L (L.length + 1) i false
def readQ (l : List W) (i : Nat) : Nod × Nat × Int := if (fromQ (bare l) i).2.2 = true then (zeroN, (fromQ (bare l) i).2.1, 91) else ((fromQ (bare l) i).1, (fromQ (bare l) i).2.1, 0)
def ReadQPost (w : World) (res : Nod × Nat × Int) (e : Ending) (w' : World) : Prop :=
 ∃ (op tx : ByteArray) (X : Option Addr) (n m : Nat), e = .returned (.tuple #[.agg #[.string op, .string tx, .slice X n m], .int .i64 res.2.1, .int .i64 res.2.2]) ∧ RIn w' (New w w') res.1 (op, tx, X, n, m) ∧ Below w.heap.size w w'
theorem preadQ_out (A : Option Addr) (cap n : Nat) (at9 : Int) (w : World) (h : at9 < 0 ∨ (n : Int) ≤ at9) :
  Calls Tryz.prog 12 #[.slice A n cap, .int .i64 at9] w fun e w' => e = .returned (.tuple #[.agg #[.string ⟨#[]⟩, .string ⟨#[]⟩, .slice none 0 0], .int .i64 at9, .int .i64 91]) ∧ Below w.heap.size w w' := by
 have Y := NBox.fresh w (.string ⟨#[]⟩) (.string ⟨#[]⟩) (.slice none 0 0) 25
 by_cases h1 : at9 < 0
 ·have e1 : decide (at9 < 0) = true := by simpa using h1
  clear h h1
  go_enter Tryz.func12, Tryz.ntmps12
  go_wp2
  exact bodyPost_ret (v := .tuple #[.agg #[.string ⟨#[]⟩, .string ⟨#[]⟩, .slice none 0 0], .int .i64 at9, .int .i64 91]) (by simp [results, Tryz.results12, go_sem, Y.c0, Y.c1, Y.c2]) rfl
   ⟨rfl, (Below.refl _ _).alloc (Nat.le_refl _) _⟩
 ·have e1 : decide (at9 < 0) = false := by simpa using h1
  have e2 : decide ((n : Int) ≤ at9) = true := by simp; omega
  clear h h1
  go_enter Tryz.func12, Tryz.ntmps12
  go_wp2
  exact bodyPost_ret (v := .tuple #[.agg #[.string ⟨#[]⟩, .string ⟨#[]⟩, .slice none 0 0], .int .i64 at9, .int .i64 91]) (by simp [results, Tryz.results12, go_sem, Y.c0, Y.c1, Y.c2]) rfl
   ⟨rfl, (Below.refl _ _).alloc (Nat.le_refl _) _⟩
theorem preadQ_any (A : Option Addr) (cap : Nat) (l : List W) (i : Nat) (m : Int) (w : World) (h : At wc 3 w w.heap.size A l) (hg : Good l) (he : Env w.heap.size m w) (hi : i < l.length) :
  Calls Tryz.prog 12 #[.slice A l.length cap, .int .i64 i] w (ReadQPost w (readQ l i)) := by
 obtain ⟨R, hx⟩ : ∃ R, fromQ (Code.bare l) i = R := ⟨_, rfl⟩
 obtain ⟨x, j, b⟩ := R
 have hrd : readQ l i = if b = true then (zeroN, j, 91) else (x, j, 0) := by unfold readQ; rw [hx]
 rw [hrd]
 obtain ⟨q, hq⟩ : ∃ q, (if b = true then (zeroN, j, (91 : Int)) else (x, j, 0)) = q := ⟨_, rfl⟩
 rw [hq]
 have HQ := hid hq
 have HA := hid h
 have HE := hid he
 have HTQ := hid (fun w0 => pqueries_any w0)
 have HTA := hid (fun w0 => paggs_any w0)
 have HX0 := hid (fun (r qb qa : Nat) w1 (hr : Rq w1 r m A cap l qb qa i) => pquery_all hg ((Code.bare l).length + 1) i w1 hr (by omega) (by rw [bare_length]; omega))
 rw [show qq (Code.bare l) ((Code.bare l).length + 1) i false = (x, j, b) from hx] at HX0
 have e1 : (i : Int) < (l.length : Int) := by omega
 have e0 : (0 : Int) ≤ (i : Int) := by omega
 have e2 : decide ((i : Int) < 0) = false := by simp
 have e3 : decide ((l.length : Int) ≤ (i : Int)) = false := by simp; omega
 clear h hx hrd hg hq he
 go_enter Tryz.func12, Tryz.ntmps12
 obtain ⟨w0, hw0⟩ : ∃ w0, w.alloc (.cells #[.string ⟨#[]⟩, .string ⟨#[]⟩, .slice none 0 0] 25) = w0 := ⟨_, rfl⟩
 have hz0 : w0.heap.size = w.heap.size + 1 := by rw [← hw0]; simp
 have N0 := hid (show NBox w0 w.heap.size (.string ⟨#[]⟩) (.string ⟨#[]⟩) (.slice none 0 0) by rw [← hw0]; exact NBox.fresh _ _ _ _ _)
 have B0 := hid (show Below w.heap.size w w0 by rw [← hw0]; exact below_alloc _ _)
 have HW0 := hid hw0
 clear hw0
 go_wp2_with fail
 try rw [HW0.out]
 refine (HTQ.out _).mono ?_
 rintro e wq ⟨qb, rfl, hmq, hqb, hbq⟩
 have zq := hbq.size
 have Nq := hid (N0.out.below hbq)
 have Bq := hid (bnext B0.out B0.out.size hbq)
 have MQ := hid hmq
 clear hmq hbq
 go_wp2_with fail
 refine (HTA.out _).mono ?_
 rintro e wa ⟨qa, rfl, hma, hqa, hba⟩
 have za := hba.size
 have Na := hid (Nq.out.below hba)
 have Ba := hid (bnext Bq.out Bq.out.size hba)
 have MQ2 := hid (MQ.out.below hba)
 have MA2 := hid hma
 have hlq := MQ2.out.lt
 have hla := hma.lt
 clear hma hba MQ
 obtain ⟨w1, hw1⟩ : ∃ w1, wa.alloc (.cells #[.slice A l.length cap, .int .i64 i, .map (some qb), .map (some qa)] 58) = w1 := ⟨_, rfl⟩
 have z1 : w1.heap.size = wa.heap.size + 1 := by rw [← hw1]; simp
 have N1 := hid (show NBox w1 w.heap.size (.string ⟨#[]⟩) (.string ⟨#[]⟩) (.slice none 0 0) by rw [← hw1]; exact Na.out.alloc _)
 have B1 := hid (show Below w.heap.size w w1 by rw [← hw1]; exact Ba.out.alloc Ba.out.size _)
 have R1 := hid (show Rq w1 wa.heap.size m A cap l qb qa i from by
  have hbw := below_alloc wa (.cells #[.slice A l.length cap, .int .i64 i, .map (some qb), .map (some qa)] 58)
  rw [hw1] at hbw
  refine ⟨⟨by rw [← hw1]; simp [go_sem], by rw [← hw1]; simp [go_sem], fun k => by rw [← hw1]; simp [go_sem], ?_, ?_⟩, by rw [← hw1]; simp [go_sem], by rw [← hw1]; simp [go_sem], MQ2.out.below hbw, MA2.out.below hbw, by omega, by omega⟩
  ·exact (HA.out.below B1.out).more (by have := Ba.out.size; omega)
  ·have h1 : Env wa.heap.size m wa := HE.out.next Ba.out
   exact h1.below hbw)
 have HW1 := hid hw1
 clear hw1
 go_upto_region 4 with fail
 rw [HW1.out]
 go_wp2_with fail
 refine (HX0.out _ _ _ _ R1.out).mono ?_
 rintro e w2 ⟨op, tx, X, n, k, rfl, hn2, hb2, hr2⟩
 dsimp only at hn2 hr2
 have N2 := hid ((N1.out.but (by have := Ba.out.size; omega) hb2).alloc (.cells #[.string op, .string tx, .slice X n k] 25))
 have R2 := hid (hr2.alloc (.cells #[.string op, .string tx, .slice X n k] 25))
 have hz2 : w1.heap.size ≤ w2.heap.size := hb2.size
 have zwa : w.heap.size < wa.heap.size := by omega
 have I2 := hid (fun hq : b = false => ((hn2 hq).imp (S' := fun g => w.heap.size < g ∧ g < w2.heap.size) (fun g hg => ⟨by have := hg.1; omega, hg.2⟩)).alloc (fun g hg => hg.2) (.cells #[.string op, .string tx, .slice X n k] 25))
 have B2 := hid ((B1.out.trans (hb2.below (B := w.heap.size) (by omega) (by omega))).alloc (by omega) (.cells #[.string op, .string tx, .slice X n k] 25))
 have V2 := hid (NBox.fresh w2 (.string op) (.string tx) (.slice X n k) 25)
 have zn := N2.out.lt
 have zr := R2.out.lt
 clear hb2 hr2 hn2
 obtain ⟨x0, x1, x2, xf⟩ := N2.out
 obtain ⟨w6, hw6⟩ : ∃ w6, w2.alloc (.cells #[.string op, .string tx, .slice X n k] 25) = w6 := ⟨_, rfl⟩
 rw [hw6] at N2 R2 I2 B2 V2 zn zr x0 x1 x2 xf
 obtain ⟨v0, v1, v2, vf⟩ := V2.out
 have c1 := R2.out.rd.c1
 have HO := hid (Ox.refl w.heap.size w6)
 have FQ := hid (fun w' (h : Ox w.heap.size w6 w') => show w'.cell? ⟨wa.heap.size, 1, none⟩ = some (.int .i64 j) ∧ w'.cell? ⟨w2.heap.size, 0, none⟩ = some (.string op) ∧ w'.cell? ⟨w2.heap.size, 1, none⟩ = some (.string tx) ∧ w'.cell? ⟨w2.heap.size, 2, none⟩ = some (.slice X n k) from
  ⟨(h.2 ⟨wa.heap.size, 1, none⟩ (by simp; omega)).trans c1, (h.2 ⟨w2.heap.size, 0, none⟩ (by simp; omega)).trans v0, (h.2 ⟨w2.heap.size, 1, none⟩ (by simp; omega)).trans v1, (h.2 ⟨w2.heap.size, 2, none⟩ (by simp; omega)).trans v2⟩)
 cases b
 ·go_upto_region 7 with fail
  go_region_held3 (fun w' => (w'.cell? ⟨wa.heap.size, 1, none⟩ = some (.int .i64 j) ∧ w'.cell? ⟨w2.heap.size, 0, none⟩ = some (.string op) ∧ w'.cell? ⟨w2.heap.size, 1, none⟩ = some (.string tx) ∧ w'.cell? ⟨w2.heap.size, 2, none⟩ = some (.slice X n k)) ∧ Ox w.heap.size w6 w')
   (first | assumption | (exact ⟨FQ.out _ HO.out.drew, HO.out.drew⟩) | (exact ⟨FQ.out _ HO.out, HO.out⟩) | (refine (fun hS9 : Ox w.heap.size w6 _ => ⟨FQ.out _ hS9, hS9⟩) (((HO.out.setCell _ rfl _).setCell _ rfl _).setCell _ rfl _).drew))
   (fail)
  go_wp2
  obtain rfl : q = (x, j, 0) := by have := HQ.out; simpa using this.symm
  have Y := N2.out.set (.string op) (.string tx) (.slice X n k)
  have h6 : w6.heap.size = w2.heap.size + 1 := by rw [← hw6]; simp
  exact bodyPost_ret (v := .tuple #[.agg #[.string op, .string tx, .slice X n k], .int .i64 j, .int .i64 0]) (by simp [results, Tryz.results12, go_sem, Y.c0, Y.c1, Y.c2]) rfl
   ⟨op, tx, X, n, k, rfl, RIn.keep (w := W3 w6 w.heap.size (.string op) (.string tx) (.slice X n k)) (w' := (W3 w6 w.heap.size (.string op) (.string tx) (.slice X n k)).drew) (fun g hg => ⟨by have := hg.1; omega, by show g < (W3 w6 w.heap.size (.string op) (.string tx) (.slice X n k)).heap.size; rw [W3.size, h6]; have := hg.2; omega⟩) (fun _ _ => rfl) ((I2.out (by first | exact trivial | rfl)).w3 (g := w.heap.size) (fun hg => Nat.lt_irrefl _ hg.1) _ _ _), (((B2.out.setCell (Nat.le_refl _) _).setCell (Nat.le_refl _) _).setCell (Nat.le_refl _) _).drew⟩
 ·go_upto_region 6 with fail
  go_region_held3 (fun w' => (w'.cell? ⟨wa.heap.size, 1, none⟩ = some (.int .i64 j) ∧ w'.cell? ⟨w2.heap.size, 0, none⟩ = some (.string op) ∧ w'.cell? ⟨w2.heap.size, 1, none⟩ = some (.string tx) ∧ w'.cell? ⟨w2.heap.size, 2, none⟩ = some (.slice X n k)) ∧ Ox w.heap.size w6 w')
   (first | assumption | (exact ⟨FQ.out _ HO.out.drew, HO.out.drew⟩) | (exact ⟨FQ.out _ HO.out, HO.out⟩) | (refine (fun hS9 : Ox w.heap.size w6 _ => ⟨FQ.out _ hS9, hS9⟩) (((HO.out.setCell _ rfl _).setCell _ rfl _).setCell _ rfl _).drew))
   (fail)
  go_wp2
  obtain rfl : q = (zeroN, j, 91) := by have := HQ.out; simpa using this.symm
  have Y := N2.out.set (.string ⟨#[]⟩) (.string ⟨#[]⟩) (.slice none 0 0)
  exact bodyPost_ret (v := .tuple #[.agg #[.string ⟨#[]⟩, .string ⟨#[]⟩, .slice none 0 0], .int .i64 j, .int .i64 91]) (by simp [results, Tryz.results12, go_sem, Y.c0, Y.c1, Y.c2]) rfl
   ⟨⟨#[]⟩, ⟨#[]⟩, none, 0, 0, rfl, RIn.leafN _ _ ⟨#[]⟩ ⟨#[]⟩, (((B2.out.setCell (Nat.le_refl _) _).setCell (Nat.le_refl _) _).setCell (Nat.le_refl _) _).drew⟩
end Go.Proofs.YtjbpkpfmgbhlpaaGreatDoor.Code
/-
  How deep a query's node is at most. No program is named here.
-/
namespace Go.Proofs.YtjbpkpfmgbhlpaaGreatDoor.Code
open Val
set_option linter.unusedVariables false
theorem deepL_le {k : Nat} : ∀ {l : List Nod}, (∀ t ∈ l, t.deep ≤ k) → Nod.deepL l ≤ k
 | [], _ => Nat.zero_le _
 | x :: l, h => by
  rw [Nod.deepL]
  exact Nat.max_le.2 ⟨h x (List.mem_cons_self ..), deepL_le fun t ht => h t (List.mem_cons_of_mem _ ht)⟩
theorem mk_deep (o t : List UInt8) (ks : List Nod) : (Nod.mk o t ks).deep = Nod.deepL ks + 1 := by rw [Nod.deep]
theorem leaf_deep (o t : List UInt8) : (Nod.mk o t []).deep = 1 := by rw [Nod.deep, Nod.deepL]
section
variable {L : List V} {i : Nat} {b : Bool}
theorem exprQ_deep (h : i ≤ L.length) : (exprQ L i b).1.n.deep + i ≤ 1 + (exprQ L i b).2.1 := by
 rw [Tr.n_deep]
 exact P_deep L (stepsN L) (.expr 1) i b h
theorem item_deep (h : i ≤ L.length) : (itemQ L i b).1.deep + i ≤ 2 + (itemQ L i b).2.1 := by
 have h1 := nm_ends (b := b) h
 have h2 := must_ends (b := (nmQ L i b).2.2) (s := [61]) h1.2.1
 have h3 := exprQ_deep (b := (mustQ L (nmQ L i b).2.1 (nmQ L i b).2.2 [61]).2) h2.2.1
 have e1 := h1.1
 have e2 := h2.1
 unfold itemQ
 rw [mk_deep, Nod.deepL, Nod.deepL]
 dsimp only
 omega
theorem pair_deep (h : i ≤ L.length) : (pairQ L i b).1.deep + i ≤ 2 + (pairQ L i b).2.1 := by
 have h1 := (pair_ends (b := b) h).1
 have h2 : (pairQ L i b).1.deep = 2 := by unfold pairQ; rw [mk_deep, Nod.deepL, leaf_deep, Nod.deepL]; rfl
 omega
theorem agg_deep (h : i ≤ L.length) : (aggQ L i b).1.deep + i ≤ 2 + (aggQ L i b).2.1 := by
 have h1 := (agg_ends (b := b) h).1
 have h2 : (aggQ L i b).1.deep ≤ 2 := by
  unfold aggQ agg2Q
  split
  ·show zeroN.deep ≤ 2
   unfold zeroN
   rw [leaf_deep]
   decide
  ·rw [mk_deep, Nod.deepL, leaf_deep, Nod.deepL]
   decide
 omega
theorem names_deep : ∀ (f i : Nat) (b : Bool), ∀ t ∈ (namesQ L f i b).1, t.deep ≤ 1
 | 0, i, b, t, ht => by cases ht
 | f + 1, i, b, t, ht => by
  rw [namesQ] at ht
  split at ht
  ·rcases List.mem_cons.1 ht with rfl | ht
   ·rw [leaf_deep]; exact Nat.le_refl _
   ·exact names_deep f _ _ t ht
  ·obtain rfl := List.mem_singleton.1 ht
   rw [leaf_deep]; exact Nat.le_refl _
theorem by_deep : (byQ L i b).1.deep ≤ 2 := by
 unfold byQ
 split
 ·rw [mk_deep]
  have := deepL_le (fun t ht => names_deep (L := L) (L.length + 1) (i + 1) b t ht)
  omega
 ·rw [leaf_deep]; decide
theorem loop_deep {el : Nat → Bool → Res} {k : Nat} (he : ∀ j c, j ≤ L.length → Ends L.length j c (el j c).2) (hd : ∀ j c, j ≤ L.length → (el j c).1.deep + j ≤ k + (el j c).2.1) : ∀ (f : Nat) (first : Bool) (i : Nat) (b : Bool), i ≤ L.length → ∀ t ∈ (loopQ L el f first i b).1, t.deep + i ≤ k + (loopQ L el f first i b).2.1
 | 0, _, i, b, h, t, ht => by cases ht
 | f + 1, first, i, b, h, t, ht => by
  rw [loopQ] at ht ⊢
  have h1 := more_ends (b := b) (first := first) h
  by_cases hm : (moreQ L i b first).1 = false
  ·rw [if_pos hm] at ht
   cases ht
  rw [if_neg hm] at ht ⊢
  have h2 := he _ (moreQ L i b first).2.2 h1.2.1
  have h3 := loop_ends he f false _ (el (moreQ L i b first).2.1 (moreQ L i b first).2.2).2.2 h2.2.1
  have e1 := h1.1
  have e2 := h2.1
  have e3 := h3.1
  dsimp only at ht ⊢
  rcases List.mem_cons.1 ht with rfl | ht
  ·have := hd _ (moreQ L i b first).2.2 h1.2.1
   omega
  ·have := loop_deep he hd f false _ _ h2.2.1 t ht
   omega
theorem tail_deep {q : Nat → Bool → Res} (hq : ∀ j c, j ≤ L.length → Ends L.length j c (q j c).2) (hd : ∀ j c, j ≤ L.length → (q j c).1.deep + j ≤ 2 + (q j c).2.1) {o : List UInt8} (h : i ≤ L.length) : ∀ t ∈ (tailQ L q o i b).1, t.deep + i ≤ 2 + (tailQ L q o i b).2.1 := by
 have h1 := must_ends (b := b) (s := [44]) h
 have e1 := h1.1
 have hT := tail_ends (b := b) (o := o) hq h
 have eT := hT.1
 intro t ht
 unfold tailQ at ht eT ⊢
 split at ht
 ·rename_i c1
  rw [if_pos c1] at eT ⊢
  obtain rfl := List.mem_singleton.1 ht
  have h2 := exprQ_deep (b := (mustQ L i b [44]).2) h1.2.1
  have h3 := expr_ends (b := (mustQ L i b [44]).2) h1.2.1
  have h4 := (must_ends (b := (exprQ L (mustQ L i b [44]).1 (mustQ L i b [44]).2).2.2) (s := [41]) h3.2.1).1
  dsimp only
  omega
 rename_i c1
 rw [if_neg c1] at eT ⊢
 split at ht
 ·cases ht
 rename_i c2
 rw [if_neg c2] at eT ⊢
 split at ht
 ·rename_i c3
  rw [if_pos c3] at eT ⊢
  exact loop_deep (fun j c hj => item_ends hj) (fun j c hj => item_deep hj) _ _ _ _ h t ht
 rename_i c3
 rw [if_neg c3] at eT ⊢
 split at ht
 ·rename_i c4
  rw [if_pos c4] at eT ⊢
  exact loop_deep hq hd _ _ _ _ h t ht
 rename_i c4
 rw [if_neg c4] at eT ⊢
 split at ht
 ·rename_i c5
  rw [if_pos c5] at eT ⊢
  have h2 := hq _ (mustQ L i b [44]).2 h1.2.1
  have e2 := h2.1
  have h3 := loop_ends (L := L) (el := pairQ L) (fun j c hj => pair_ends hj) (L.length + 1) true _ (q (mustQ L i b [44]).1 (mustQ L i b [44]).2).2.2 h2.2.1
  have e3 := h3.1
  dsimp only at ht ⊢
  rcases List.mem_cons.1 ht with rfl | ht
  ·have := hd _ (mustQ L i b [44]).2 h1.2.1
   omega
  ·have := loop_deep (L := L) (el := pairQ L) (fun j c hj => pair_ends hj) (fun j c hj => pair_deep hj) _ _ _ _ h2.2.1 t ht
   omega
 ·rename_i c5
  rw [if_neg c5] at eT ⊢
  unfold groupQ at ht eT ⊢
  have h2 := by_ends (b := (mustQ L i b [44]).2) h1.2.1
  have h3 := agg_ends (L := L) (b := (byQ L (mustQ L i b [44]).1 (mustQ L i b [44]).2).2.2) h2.2.1
  have h4 := loop_ends (L := L) (el := aggQ L) (fun j c hj => agg_ends hj) (L.length + 1) false _ (aggQ L (byQ L (mustQ L i b [44]).1 (mustQ L i b [44]).2).2.1 (byQ L (mustQ L i b [44]).1 (mustQ L i b [44]).2).2.2).2.2 h3.2.1
  have e2 := h2.1
  have e3 := h3.1
  have e4 := h4.1
  dsimp only at ht eT ⊢
  rcases List.mem_cons.1 ht with rfl | ht
  ·have := by_deep (L := L) (i := (mustQ L i b [44]).1) (b := (mustQ L i b [44]).2)
   omega
  rcases List.mem_cons.1 ht with rfl | ht
  ·have := agg_deep (L := L) (b := (byQ L (mustQ L i b [44]).1 (mustQ L i b [44]).2).2.2) h2.2.1
   omega
  ·have := loop_deep (L := L) (el := aggQ L) (fun j c hj => agg_ends hj) (fun j c hj => agg_deep hj) _ _ _ _ h3.2.1 t ht
   omega
end
theorem qq_deep (L : List V) : ∀ (f i : Nat) (b : Bool), i ≤ L.length → (qq L f i b).1.deep + i ≤ 1 + (qq L f i b).2.1
 | 0, i, b, h => by rw [qq]; unfold zeroN; rw [leaf_deep]; exact Nat.le_refl _
 | f + 1, i, b, h => by
  rw [qq]
  by_cases ho : opQ L i b opsQ = []
  ·rw [if_pos ho]
   have := (nm_ends (b := b) h).1
   dsimp only
   rw [leaf_deep]
   omega
  ·rw [if_neg ho]
   have hs := op_lt ho
   have h1 := qq_ends L f (i + 2) b hs.1
   have d1 := qq_deep L f (i + 2) b hs.1
   have h2 := tail_ends (b := (qq L f (i + 2) b).2.2) (o := opQ L i b opsQ) (fun j c hj => qq_ends L f j c hj) h1.2.1
   have e1 := h1.1
   have e2 := h2.1
   dsimp only
   rw [mk_deep, Nod.deepL]
   have := deepL_le (k := 2 + (tailQ L (qq L f) (opQ L i b opsQ) (qq L f (i + 2) b).2.1 (qq L f (i + 2) b).2.2).2.1 - (qq L f (i + 2) b).2.1) (l := (tailQ L (qq L f) (opQ L i b opsQ) (qq L f (i + 2) b).2.1 (qq L f (i + 2) b).2.2).1) (fun t ht => by
    have := tail_deep (L := L) (fun j c hj => qq_ends L f j c hj) (fun j c hj => by have := qq_deep L f j c hj; omega) h1.2.1 t ht
    omega)
   omega
theorem topQ_deep (L : List V) : (topQ L).1.deep ≤ 1 + L.length := by
 have h := qq_deep L (L.length + 1) 0 false (Nat.zero_le _)
 have h2 := topQ_le L
 unfold topQ at h2 ⊢
 omega
end Go.Proofs.YtjbpkpfmgbhlpaaGreatDoor.Code
/-
  The document's Parse of queries: a text's node, or what is wrong, and where.
-/
namespace Go.Proofs.YtjbpkpfmgbhlpaaGreatDoor.Code
open Go.ChangeShapes Go.WideShapes Go.ChangeAt Go.RowKit Val Elems
set_option linter.unusedVariables false
set_option linter.unusedSimpArgs false
def ParseQPost (w : World) (res : Nod × Int × Int) (e : Ending) (w' : World) : Prop :=
 ∃ (op tx : ByteArray) (X : Option Addr) (n m : Nat), e = .returned (.tuple #[.agg #[.string op, .string tx, .slice X n m], .int .i64 res.2.1, .int .i64 res.2.2]) ∧ RIn w' (New w w') res.1 (op, tx, X, n, m) ∧ Below w.heap.size w w'
def ReadQE (l : List W) (m : Int) (res : Nod × Nat × Int) : Prop := ∀ A cap w, At wc 3 w w.heap.size A l → Env w.heap.size m w → Calls Tryz.prog 12 #[.slice A l.length cap, .int .i64 0] w (ReadQPost w res)
theorem pparseQ_lex (s : ByteArray) (m : Int) (w : World) (he : Env w.heap.size m w) (j : Int) (hw : WordsE s [] j 81 m) :
  Calls Tryz.prog 8 #[.string s] w (ParseQPost w (zeroN, j, 81)) := by
 have HW := hid hw
 have HE := hid he
 clear hw he
 go_enter Tryz.func8, Tryz.ntmps8
 have N0 := hid (NBox.fresh w (.string ⟨#[]⟩) (.string ⟨#[]⟩) (.slice none 0 0) 25)
 have B0 := hid ((Below.refl w.heap.size w).alloc (Nat.le_refl _) (.cells #[.string ⟨#[]⟩, .string ⟨#[]⟩, .slice none 0 0] 25))
 go_wp2_with fail
 refine (HW.out _ (HE.out.next B0.out)).mono ?_
 rintro e w1 ⟨A, cap, rfl, hat, hb1⟩
 have N1 := hid (N0.out.below hb1)
 have B1 := hid (B0.out.trans (hb1.mono (by simp)))
 have A1 := hid hat
 have H1 := hid ((hb1.block w.heap.size (by simp)).trans (heap_alloc_new w (.cells #[.string ⟨#[]⟩, .string ⟨#[]⟩, .slice none 0 0] 25)))
 have z1 := N1.out.lt
 clear hb1 hat
 obtain ⟨x0, x1, x2, xf⟩ := N1.out
 go_wp2
 have Y := N1.out.set (.string ⟨#[]⟩) (.string ⟨#[]⟩) (.slice none 0 0)
 exact bodyPost_ret (v := .tuple #[.agg #[.string ⟨#[]⟩, .string ⟨#[]⟩, .slice none 0 0], .int .i64 j, .int .i64 81]) (by simp [results, Tryz.results8, go_sem, Y.c0, Y.c1, Y.c2]) rfl
  ⟨⟨#[]⟩, ⟨#[]⟩, none, 0, 0, rfl, RIn.leafN _ _ ⟨#[]⟩ ⟨#[]⟩, ((B1.out.setCell (Nat.le_refl _) _).setCell (Nat.le_refl _) _).setCell (Nat.le_refl _) _⟩
theorem pparseQ_at (s : ByteArray) (m : Int) (w : World) (he : Env w.heap.size m w) (l : List W) (hw : WordsE s l 0 0 m) (x : Nod) (j : Nat) (ee : Int) (hr : ReadQE l m (x, j, ee)) (hj : j < l.length) :
  Calls Tryz.prog 8 #[.string s] w (ParseQPost w (zeroN, placeL s.size l j, 91)) := by
 have hp : placeL s.size l j = l[j].2.2 := by unfold placeL; rw [List.getElem?_eq_getElem hj]
 rw [hp]
 obtain ⟨v, hv⟩ : ∃ v, l[j] = v := ⟨_, rfl⟩
 have HV := hid hv
 rw [hv]
 obtain ⟨vk, vt, p⟩ := v
 dsimp only
 unfold ReadQE at hr
 have HW := hid hw
 have HR := hid hr
 have HE := hid he
 have e1 : decide ((j : Int) < (l.length : Int)) = true := by simp; omega
 have e2 : (j : Int) < (l.length : Int) := by omega
 clear hw hr hp he hv
 go_enter Tryz.func8, Tryz.ntmps8
 have N0 := hid (NBox.fresh w (.string ⟨#[]⟩) (.string ⟨#[]⟩) (.slice none 0 0) 25)
 have B0 := hid ((Below.refl w.heap.size w).alloc (Nat.le_refl _) (.cells #[.string ⟨#[]⟩, .string ⟨#[]⟩, .slice none 0 0] 25))
 go_wp2_with fail
 refine (HW.out _ (HE.out.next B0.out)).mono ?_
 rintro e w1 ⟨A, cap, rfl, hat, hb1⟩
 have N1 := hid (N0.out.below hb1)
 have B1 := hid (B0.out.trans (hb1.mono (by simp)))
 have A1 := hid hat
 have H1 := hid ((hb1.block w.heap.size (by simp)).trans (heap_alloc_new w (.cells #[.string ⟨#[]⟩, .string ⟨#[]⟩, .slice none 0 0] 25)))
 have z1 := N1.out.lt
 clear hb1 hat
 go_wp2_with fail
 refine (HR.out A cap _ A1.out (HE.out.next B1.out)).mono ?_
 rintro e w2 ⟨op, tx, X, n, k, rfl, hn2, hb2⟩
 have N2w := hid (N1.out.below hb2)
 have N2 := hid ((N1.out.below hb2).alloc (.cells #[.string op, .string tx, .slice X n k] 25))
 have B2 := hid ((B1.out.trans (hb2.mono (by omega))).alloc (by have := hb2.size; omega) (.cells #[.string op, .string tx, .slice X n k] 25))
 have A2 := hid (show At wc 3 (w2.alloc (.cells #[.string op, .string tx, .slice X n k] 25)) w2.heap.size A l from (((A1.out.below hb2).more hb2.size).below ((Below.refl _ _).alloc (Nat.le_refl _) (.cells #[.string op, .string tx, .slice X n k] 25))))
 have I2 := hid ((hn2.imp (S' := fun g => w.heap.size < g ∧ g < w2.heap.size) (fun g hg => ⟨by have := hg.1; omega, hg.2⟩)).alloc (fun g hg => hg.2) (.cells #[.string op, .string tx, .slice X n k] 25))
 have V2 := hid (NBox.fresh w2 (.string op) (.string tx) (.slice X n k) 25)
 have z2 := hb2.size
 have znw := N2w.out.lt
 clear hb2 hn2
 obtain ⟨w6, hw6⟩ : ∃ w6, w2.alloc (.cells #[.string op, .string tx, .slice X n k] 25) = w6 := ⟨_, rfl⟩
 have hz6 : w6.heap.size = w2.heap.size + 1 := by rw [← hw6]; simp
 rw [hw6] at N2 B2 A2 I2 V2
 obtain ⟨x0, x1, x2, xf⟩ := N2.out
 obtain ⟨ad, rfl, ha, d0, d1, d2⟩ := at_word A2.out j hj
 rw [HV.out] at d2
 dsimp only at d2
 obtain ⟨q, hq⟩ : ∃ q, ad.add (j * 3) = q := ⟨_, rfl⟩
 have hbn : q.block ≠ w.heap.size := by
  obtain ⟨a1, h1, h2, c0, c1, c2⟩ := at_word A1.out j hj
  obtain rfl : ad = a1 := Option.some.inj h1
  rw [← hq]
  exact node_block_ne H1.out c0
 rw [hq] at d2
 have HO := hid (Ox.refl w.heap.size w6)
 have FQ := hid (fun w' (h : Ox w.heap.size w6 w') => show w'.cell? ⟨q.block, q.off + 2, none⟩ = some (.int .i64 p) from (h.2 ⟨q.block, q.off + 2, none⟩ hbn).trans d2)
 clear d0 d1
 go_upto_region 6 with fail
 try rw [hw6]
 clear hw6
 go_region_held3 (fun w' => (w'.cell? ⟨q.block, q.off + 2, none⟩ = some (.int .i64 p)) ∧ Ox w.heap.size w6 w')
  (first | assumption | (exact ⟨FQ.out _ HO.out.drew, HO.out.drew⟩) | (exact ⟨FQ.out _ HO.out, HO.out⟩) | (refine (fun hS9 : Ox w.heap.size w6 _ => ⟨FQ.out _ hS9, hS9⟩) (((HO.out.setCell _ rfl _).setCell _ rfl _).setCell _ rfl _).drew))
  (fail)
 go_wp2
 have Y := N2.out.set (.string ⟨#[]⟩) (.string ⟨#[]⟩) (.slice none 0 0)
 exact bodyPost_ret (v := .tuple #[.agg #[.string ⟨#[]⟩, .string ⟨#[]⟩, .slice none 0 0], .int .i64 p, .int .i64 91]) (by simp [results, Tryz.results8, go_sem, Y.c0, Y.c1, Y.c2]) rfl
  ⟨⟨#[]⟩, ⟨#[]⟩, none, 0, 0, rfl, RIn.leafN _ _ ⟨#[]⟩ ⟨#[]⟩, (((B2.out.setCell (Nat.le_refl _) _).setCell (Nat.le_refl _) _).setCell (Nat.le_refl _) _).drew⟩
theorem pparseQ_end (s : ByteArray) (m : Int) (w : World) (he : Env w.heap.size m w) (l : List W) (hw : WordsE s l 0 0 m) (x : Nod) (hr : ReadQE l m (x, l.length, 91)) :
  Calls Tryz.prog 8 #[.string s] w (ParseQPost w (zeroN, s.size, 91)) := by
 unfold ReadQE at hr
 have HW := hid hw
 have HR := hid hr
 have HE := hid he
 have e1 : decide ((l.length : Int) < (l.length : Int)) = false := by simp
 clear hw hr he
 go_enter Tryz.func8, Tryz.ntmps8
 have N0 := hid (NBox.fresh w (.string ⟨#[]⟩) (.string ⟨#[]⟩) (.slice none 0 0) 25)
 have B0 := hid ((Below.refl w.heap.size w).alloc (Nat.le_refl _) (.cells #[.string ⟨#[]⟩, .string ⟨#[]⟩, .slice none 0 0] 25))
 go_wp2_with fail
 refine (HW.out _ (HE.out.next B0.out)).mono ?_
 rintro e w1 ⟨A, cap, rfl, hat, hb1⟩
 have N1 := hid (N0.out.below hb1)
 have B1 := hid (B0.out.trans (hb1.mono (by simp)))
 have A1 := hid hat
 have H1 := hid ((hb1.block w.heap.size (by simp)).trans (heap_alloc_new w (.cells #[.string ⟨#[]⟩, .string ⟨#[]⟩, .slice none 0 0] 25)))
 have z1 := N1.out.lt
 clear hb1 hat
 go_wp2_with fail
 refine (HR.out A cap _ A1.out (HE.out.next B1.out)).mono ?_
 rintro e w2 ⟨op, tx, X, n, k, rfl, hn2, hb2⟩
 have N2w := hid (N1.out.below hb2)
 have N2 := hid ((N1.out.below hb2).alloc (.cells #[.string op, .string tx, .slice X n k] 25))
 have B2 := hid ((B1.out.trans (hb2.mono (by omega))).alloc (by have := hb2.size; omega) (.cells #[.string op, .string tx, .slice X n k] 25))
 have A2 := hid (show At wc 3 (w2.alloc (.cells #[.string op, .string tx, .slice X n k] 25)) w2.heap.size A l from (((A1.out.below hb2).more hb2.size).below ((Below.refl _ _).alloc (Nat.le_refl _) (.cells #[.string op, .string tx, .slice X n k] 25))))
 have I2 := hid ((hn2.imp (S' := fun g => w.heap.size < g ∧ g < w2.heap.size) (fun g hg => ⟨by have := hg.1; omega, hg.2⟩)).alloc (fun g hg => hg.2) (.cells #[.string op, .string tx, .slice X n k] 25))
 have V2 := hid (NBox.fresh w2 (.string op) (.string tx) (.slice X n k) 25)
 have z2 := hb2.size
 have znw := N2w.out.lt
 clear hb2 hn2
 obtain ⟨w6, hw6⟩ : ∃ w6, w2.alloc (.cells #[.string op, .string tx, .slice X n k] 25) = w6 := ⟨_, rfl⟩
 have hz6 : w6.heap.size = w2.heap.size + 1 := by rw [← hw6]; simp
 rw [hw6] at N2 B2 A2 I2 V2
 obtain ⟨x0, x1, x2, xf⟩ := N2.out
 have zn := N2.out.lt
 go_upto_region 5 with fail
 try rw [hw6]
 clear hw6
 go_wp2
 have Y := N2.out.set (.string ⟨#[]⟩) (.string ⟨#[]⟩) (.slice none 0 0)
 exact bodyPost_ret (v := .tuple #[.agg #[.string ⟨#[]⟩, .string ⟨#[]⟩, .slice none 0 0], .int .i64 s.size, .int .i64 91]) (by simp [results, Tryz.results8, go_sem, Y.c0, Y.c1, Y.c2]) rfl
  ⟨⟨#[]⟩, ⟨#[]⟩, none, 0, 0, rfl, RIn.leafN _ _ ⟨#[]⟩ ⟨#[]⟩, ((B2.out.setCell (Nat.le_refl _) _).setCell (Nat.le_refl _) _).setCell (Nat.le_refl _) _⟩
theorem pparseQ_deep (s : ByteArray) (m : Int) (w : World) (he : Env w.heap.size m w) (l : List W) (hw : WordsE s l 0 0 m) (x : Nod) (hr : ReadQE l m (x, l.length, 0)) (hd : x.deep ≤ 1000000000) (h16 : 16 < x.deep) :
  Calls Tryz.prog 8 #[.string s] w (ParseQPost w (zeroN, 0, 92)) := by
 unfold ReadQE at hr
 have HW := hid hw
 have HR := hid hr
 have HE := hid he
 have HD := hid (edeepN_any 1000000000 x hd (Nat.le_refl _))
 obtain ⟨d, hdd⟩ : ∃ d, x.deep = d := ⟨_, rfl⟩
 rw [hdd] at HD h16 hd
 have e1 : decide ((l.length : Int) < (l.length : Int)) = false := by simp
 have e2 : decide ((16 : Int) < (d : Int)) = true := by simp; omega
 clear hw hr he hdd
 go_enter Tryz.func8, Tryz.ntmps8
 have N0 := hid (NBox.fresh w (.string ⟨#[]⟩) (.string ⟨#[]⟩) (.slice none 0 0) 25)
 have B0 := hid ((Below.refl w.heap.size w).alloc (Nat.le_refl _) (.cells #[.string ⟨#[]⟩, .string ⟨#[]⟩, .slice none 0 0] 25))
 go_wp2_with fail
 refine (HW.out _ (HE.out.next B0.out)).mono ?_
 rintro e w1 ⟨A, cap, rfl, hat, hb1⟩
 have N1 := hid (N0.out.below hb1)
 have B1 := hid (B0.out.trans (hb1.mono (by simp)))
 have A1 := hid hat
 have H1 := hid ((hb1.block w.heap.size (by simp)).trans (heap_alloc_new w (.cells #[.string ⟨#[]⟩, .string ⟨#[]⟩, .slice none 0 0] 25)))
 have z1 := N1.out.lt
 clear hb1 hat
 go_wp2_with fail
 refine (HR.out A cap _ A1.out (HE.out.next B1.out)).mono ?_
 rintro e w2 ⟨op, tx, X, n, k, rfl, hn2, hb2⟩
 have N2w := hid (N1.out.below hb2)
 have N2 := hid ((N1.out.below hb2).alloc (.cells #[.string op, .string tx, .slice X n k] 25))
 have B2 := hid ((B1.out.trans (hb2.mono (by omega))).alloc (by have := hb2.size; omega) (.cells #[.string op, .string tx, .slice X n k] 25))
 have A2 := hid (show At wc 3 (w2.alloc (.cells #[.string op, .string tx, .slice X n k] 25)) w2.heap.size A l from (((A1.out.below hb2).more hb2.size).below ((Below.refl _ _).alloc (Nat.le_refl _) (.cells #[.string op, .string tx, .slice X n k] 25))))
 have I2 := hid ((hn2.imp (S' := fun g => w.heap.size < g ∧ g < w2.heap.size) (fun g hg => ⟨by have := hg.1; omega, hg.2⟩)).alloc (fun g hg => hg.2) (.cells #[.string op, .string tx, .slice X n k] 25))
 have V2 := hid (NBox.fresh w2 (.string op) (.string tx) (.slice X n k) 25)
 have z2 := hb2.size
 have znw := N2w.out.lt
 clear hb2 hn2
 obtain ⟨w6, hw6⟩ : ∃ w6, w2.alloc (.cells #[.string op, .string tx, .slice X n k] 25) = w6 := ⟨_, rfl⟩
 have hz6 : w6.heap.size = w2.heap.size + 1 := by rw [← hw6]; simp
 rw [hw6] at N2 B2 A2 I2 V2
 obtain ⟨x0, x1, x2, xf⟩ := N2.out
 obtain ⟨v0, v1, v2, vf⟩ := V2.out
 go_upto_region 5 with fail
 try rw [hw6]
 clear hw6
 go_wp2_with fail
 refine (HD.out _ _ _ _ _ _ _ (fun g hg => by have := hg.2; omega) I2.out).mono ?_
 rintro e w3 ⟨rfl, hb3⟩
 have N3 := hid (N2.out.below hb3)
 have V3 := hid (V2.out.below hb3)
 have I3 := hid (I2.out.bel (fun g hg => by have := hg.2; omega) hb3)
 have B3 := hid (B2.out.trans (hb3.mono (by omega)))
 have z3 := N3.out.lt
 have z4 : w2.heap.size < w3.heap.size := V3.out.lt
 clear hb3 x0 x1 x2 xf v0 v1 v2 vf
 obtain ⟨x0, x1, x2, xf⟩ := N3.out
 obtain ⟨v0, v1, v2, vf⟩ := V3.out
 go_wp2
 have Y := N3.out.set (.string ⟨#[]⟩) (.string ⟨#[]⟩) (.slice none 0 0)
 exact bodyPost_ret (v := .tuple #[.agg #[.string ⟨#[]⟩, .string ⟨#[]⟩, .slice none 0 0], .int .i64 0, .int .i64 92]) (by simp [results, Tryz.results8, go_sem, Y.c0, Y.c1, Y.c2]) rfl
  ⟨⟨#[]⟩, ⟨#[]⟩, none, 0, 0, rfl, RIn.leafN _ _ ⟨#[]⟩ ⟨#[]⟩, ((B3.out.setCell (Nat.le_refl _) _).setCell (Nat.le_refl _) _).setCell (Nat.le_refl _) _⟩
theorem pparseQ_ok (s : ByteArray) (m : Int) (w : World) (he : Env w.heap.size m w) (l : List W) (hw : WordsE s l 0 0 m) (x : Nod) (hr : ReadQE l m (x, l.length, 0)) (hd : x.deep ≤ 1000000000) (h16 : x.deep ≤ 16) :
  Calls Tryz.prog 8 #[.string s] w (ParseQPost w (x, 0, 0)) := by
 unfold ReadQE at hr
 have HW := hid hw
 have HR := hid hr
 have HE := hid he
 have HD := hid (edeepN_any 1000000000 x hd (Nat.le_refl _))
 obtain ⟨d, hdd⟩ : ∃ d, x.deep = d := ⟨_, rfl⟩
 rw [hdd] at HD h16 hd
 have e1 : decide ((l.length : Int) < (l.length : Int)) = false := by simp
 have e2 : decide ((16 : Int) < (d : Int)) = false := by simp; omega
 clear hw hr he hdd
 go_enter Tryz.func8, Tryz.ntmps8
 have N0 := hid (NBox.fresh w (.string ⟨#[]⟩) (.string ⟨#[]⟩) (.slice none 0 0) 25)
 have B0 := hid ((Below.refl w.heap.size w).alloc (Nat.le_refl _) (.cells #[.string ⟨#[]⟩, .string ⟨#[]⟩, .slice none 0 0] 25))
 go_wp2_with fail
 refine (HW.out _ (HE.out.next B0.out)).mono ?_
 rintro e w1 ⟨A, cap, rfl, hat, hb1⟩
 have N1 := hid (N0.out.below hb1)
 have B1 := hid (B0.out.trans (hb1.mono (by simp)))
 have A1 := hid hat
 have H1 := hid ((hb1.block w.heap.size (by simp)).trans (heap_alloc_new w (.cells #[.string ⟨#[]⟩, .string ⟨#[]⟩, .slice none 0 0] 25)))
 have z1 := N1.out.lt
 clear hb1 hat
 go_wp2_with fail
 refine (HR.out A cap _ A1.out (HE.out.next B1.out)).mono ?_
 rintro e w2 ⟨op, tx, X, n, k, rfl, hn2, hb2⟩
 have N2w := hid (N1.out.below hb2)
 have N2 := hid ((N1.out.below hb2).alloc (.cells #[.string op, .string tx, .slice X n k] 25))
 have B2 := hid ((B1.out.trans (hb2.mono (by omega))).alloc (by have := hb2.size; omega) (.cells #[.string op, .string tx, .slice X n k] 25))
 have A2 := hid (show At wc 3 (w2.alloc (.cells #[.string op, .string tx, .slice X n k] 25)) w2.heap.size A l from (((A1.out.below hb2).more hb2.size).below ((Below.refl _ _).alloc (Nat.le_refl _) (.cells #[.string op, .string tx, .slice X n k] 25))))
 have I2 := hid ((hn2.imp (S' := fun g => w.heap.size < g ∧ g < w2.heap.size) (fun g hg => ⟨by have := hg.1; omega, hg.2⟩)).alloc (fun g hg => hg.2) (.cells #[.string op, .string tx, .slice X n k] 25))
 have V2 := hid (NBox.fresh w2 (.string op) (.string tx) (.slice X n k) 25)
 have z2 := hb2.size
 have znw := N2w.out.lt
 clear hb2 hn2
 obtain ⟨w6, hw6⟩ : ∃ w6, w2.alloc (.cells #[.string op, .string tx, .slice X n k] 25) = w6 := ⟨_, rfl⟩
 have hz6 : w6.heap.size = w2.heap.size + 1 := by rw [← hw6]; simp
 rw [hw6] at N2 B2 A2 I2 V2
 obtain ⟨x0, x1, x2, xf⟩ := N2.out
 obtain ⟨v0, v1, v2, vf⟩ := V2.out
 go_upto_region 5 with fail
 try rw [hw6]
 clear hw6
 go_wp2_with fail
 refine (HD.out _ _ _ _ _ _ _ (fun g hg => by have := hg.2; omega) I2.out).mono ?_
 rintro e w3 ⟨rfl, hb3⟩
 have N3 := hid (N2.out.below hb3)
 have V3 := hid (V2.out.below hb3)
 have I3 := hid (I2.out.bel (fun g hg => by have := hg.2; omega) hb3)
 have B3 := hid (B2.out.trans (hb3.mono (by omega)))
 have z3 := N3.out.lt
 have z4 : w2.heap.size < w3.heap.size := V3.out.lt
 clear hb3 x0 x1 x2 xf v0 v1 v2 vf
 obtain ⟨x0, x1, x2, xf⟩ := N3.out
 obtain ⟨v0, v1, v2, vf⟩ := V3.out
 go_wp2
 have Y := N3.out.set (.string op) (.string tx) (.slice X n k)
 exact bodyPost_ret (v := .tuple #[.agg #[.string op, .string tx, .slice X n k], .int .i64 0, .int .i64 0]) (by simp [results, Tryz.results8, go_sem, Y.c0, Y.c1, Y.c2]) rfl
  ⟨op, tx, X, n, k, rfl, (RIn.w3 (g := w.heap.size) I3.out (fun hg => Nat.lt_irrefl _ hg.1) (.string op) (.string tx) (.slice X n k)).imp (fun g hg => ⟨Nat.le_of_lt hg.1, by show g < (W3 w3 w.heap.size (.string op) (.string tx) (.slice X n k)).heap.size; rw [W3.size]; have := hg.2; omega⟩), ((B3.out.setCell (Nat.le_refl _) _).setCell (Nat.le_refl _) _).setCell (Nat.le_refl _) _⟩
theorem preadQ_none (A : Option Addr) (cap : Nat) (w : World) : Calls Tryz.prog 12 #[.slice A 0 cap, .int .i64 0] w (ReadQPost w (zeroN, 0, 91)) := by
 refine (preadQ_out A cap 0 0 w (Or.inr (Int.le_refl _))).mono fun e w' hp => ?_
 exact ⟨⟨#[]⟩, ⟨#[]⟩, none, 0, 0, hp.1, RIn.leafN _ _ ⟨#[]⟩ ⟨#[]⟩, hp.2⟩
theorem pparseQ_any (s : ByteArray) (hs : s.size ≤ 1000000) (m : Int) (w : World) (he : Env w.heap.size m w) :
  Calls Tryz.prog 8 #[.string s] w (ParseQPost w (parseQ s.data.toList)) := by
 have hw := words_e s m (by omega)
 have hL := bytes_len s
 unfold parseQ
 cases e : wordsL s.data.toList 0 with
 | error j =>
  have h1 : wL s.data.toList = [] := by unfold wL; rw [e]
  have h2 : wP s.data.toList = j := by unfold wP; rw [e]
  have h3 : wE s.data.toList = 81 := by unfold wE; rw [e]
  rw [h1, h2, h3] at hw
  exact pparseQ_lex s m w he j hw
 | ok l =>
  have h1 : wL s.data.toList = l := by unfold wL; rw [e]
  have h2 : wP s.data.toList = 0 := by unfold wP; rw [e]
  have h3 : wE s.data.toList = 0 := by unfold wE; rw [e]
  rw [h1, h2, h3] at hw
  have hlen := words_len _ _ _ e
  have hl : l.length ≤ 1000000 := by omega
  have hgood : Good l := ⟨by omega, words_came _ _ _ e, came_short (words_came _ _ _ e)⟩
  show Calls Tryz.prog 8 #[.string s] w (ParseQPost w (parseQW s.data.toList.length l))
  rw [hL]
  by_cases hl0 : l = []
  ·subst hl0
   exact pparseQ_end s m w he [] hw zeroN (fun A cap w _ _ => preadQ_none A cap w)
  ·have hpos : 0 < l.length := List.length_pos_iff.2 hl0
   obtain ⟨R, hx⟩ : ∃ R, fromQ (Code.bare l) 0 = R := ⟨_, rfl⟩
   obtain ⟨x, j, b⟩ := R
   have htop : topQ (Code.bare l) = (x, j, b) := hx
   have hrd : readQ l 0 = if b = true then (zeroN, j, 91) else (x, j, 0) := by unfold readQ; rw [hx]
   have hr : ReadQE l m (readQ l 0) := fun A cap w h he => preadQ_any A cap l 0 m w h hgood he hpos
   rw [hrd] at hr
   have hj : j ≤ l.length := by have := topQ_le (Code.bare l); rw [htop, bare_length] at this; exact this
   have hd : x.deep ≤ 1 + l.length := by have := topQ_deep (Code.bare l); rw [htop, bare_length] at this; exact this
   unfold parseQW
   rw [if_neg hl0, htop]
   by_cases hjl : j < l.length
   ·rw [if_pos (Or.inr hjl)]
    cases b
    ·exact pparseQ_at s m w he l hw x j 0 hr hjl
    ·exact pparseQ_at s m w he l hw zeroN j 91 hr hjl
   ·obtain rfl : j = l.length := by omega
    cases b
    ·rw [if_neg (by simp)]
     by_cases h16 : 16 < x.deep
     ·rw [if_pos h16]
      exact pparseQ_deep s m w he l hw x hr (by omega) h16
     ·rw [if_neg h16]
      exact pparseQ_ok s m w he l hw x hr (by omega) (by omega)
    ·rw [if_pos (Or.inl rfl)]
     have hp : placeL s.size l l.length = s.size := by unfold placeL; rw [List.getElem?_eq_none (Nat.le_refl _)]
     show Calls _ _ _ _ (ParseQPost w (zeroN, placeL s.size l l.length, 91))
     rw [hp]
     exact pparseQ_end s m w he l hw zeroN hr
theorem info_strQ : (Tryz.prog.info? 9).map (fun i => (i.zero, i.size, i.bytes)) = some (some (.string ByteArray.empty), 1, 16) := by kernel_rfl
theorem sc_one : ∀ s : List UInt8, ∀ u ∈ sc s, u.oneCell' = true := by
 intro s u hu
 simp [sc] at hu
 subst hu
 rfl
theorem leavess_take (l : List Nod) (k : Nat) : (leavessQ (l.take k)).length ≤ (leavessQ l).length := by
 induction l generalizing k with
 | nil => simp [leavessQ]
 | cons n l ih =>
  cases k with
  | zero => simp [leavessQ]
  | succ k =>
   have := ih k
   simp only [List.take_succ_cons, leavessQ, List.length_append]
   omega
theorem leaves_is (t : Nod) : leavesQ t = (if t.op = sFrom then [t.tx] else []) ++ leavessQ t.ks := by
 cases t with
 | mk o x ks => exact leavesQ.eq_1 o x ks
theorem leavess_mem {x : Nod} : ∀ {l : List Nod}, x ∈ l → (leavesQ x).length ≤ (leavessQ l).length
 | [], h => absurd h (by simp)
 | t :: l, h => by
  simp only [leavessQ, List.length_append]
  rcases List.mem_cons.1 h with rfl | h
  ·omega
  ·have := leavess_mem h
   omega
theorem rleaves_any : ∀ (d : Nat) (t : Nod), t.deep ≤ d → (leavesQ t).length ≤ 100000000 → ∀ (S : Nat → Prop) (op tx : ByteArray) (X : Option Addr) (n m : Nat) (w : World), (∀ g, S g → g < w.heap.size) → RIn w S t (op, tx, X, n, m) →
  Calls Tryz.prog 20 #[.agg #[.string op, .string tx, .slice X n m]] w fun e w' => ∃ (A : Option Addr) (cap : Nat), e = .returned (.slice A (leavesQ t).length cap) ∧ At sc 1 w' w'.heap.size A (leavesQ t) ∧ Below w.heap.size w w'
 | 0, t, h, _, _, _, _, _, _, _, _, _, _ => absurd h (by rw [deep_ks]; omega)
 | d + 1, t, h, hln, S, op, tx, X, n, m, w, hS, hn => by
  have hlv := leaves_is t
  have ih := hid (fun k (hk : k < t.ks.length) => rleaves_any d t.ks[k] (by have := deepL_mem (List.getElem_mem hk); rw [deep_ks] at h; omega) (by have := leavess_mem (List.getElem_mem hk); rw [hlv, List.length_append] at hln; omega))
  obtain ⟨eo, et, en, hkl⟩ := hn.texts
  dsimp only at eo et en
  obtain ⟨i0, hi0, hz0, hz1, hz2⟩ := info_parts info_strQ
  obtain ⟨P0, hP0⟩ : ∃ P0, (if t.op = sFrom then [t.tx] else []) = P0 := ⟨_, rfl⟩
  rw [hP0] at hlv
  rw [hlv, List.length_append] at hln
  rw [hlv]
  have HS := hid hS
  have HLV := hid hlv
  have HLN := hid hln
  subst en
  have HN := hid hn
  obtain ⟨w0, hw0⟩ : ∃ w0, w.alloc (.cells #[.string op, .string tx, .slice X t.ks.length m] 25) = w0 := ⟨_, rfl⟩
  have N0 := hid (show NBox w0 w.heap.size (.string op) (.string tx) (.slice X t.ks.length m) by rw [← hw0]; exact NBox.fresh _ _ _ _ _)
  have B0 := hid (show Below w.heap.size w w0 by rw [← hw0]; exact below_alloc _ _)
  have zw0 : w0.heap.size = w.heap.size + 1 := by rw [← hw0]; simp
  have HW0 := hid hw0
  by_cases hf : t.op = sFrom
  ·rw [if_pos hf] at hP0
   have ho : op = ⟨#[102, 114, 111, 109]⟩ := by rw [eo, hf]; rfl
   subst ho
   have HP0 := hid hP0
   have HT := hid et
   clear h hln hS hn hlv hP0 eo et hf hw0
   go_enter Tryz.func20, Tryz.ntmps20
   go_wp2_with (at_builtin; rw [HW0.out]; refine wpList_append_lies _ rfl _ _ _ rfl (w.heap.size + 1) 9 i0 _ 1 16 Tryz.underlying42 hi0 hz0 hz1 hz2 rfl (by omega) _ 0 [] rfl (World.ownsRow_nil _ _ _ _) ⟨w.heap.size + 1, 0, none⟩ 1 1 [.string tx] rfl rfl ?cn ?co (by omega) ?cm ?cb ?cs (w.heap.size + 1 + 1) ?ch ?_)
   case cn => exact World.news_of_block (cs := #[.string tx]) (t := 9) (fr := (0, 0)) (by rw [← zw0]; exact heap_alloc_new w0 _)
   case co =>
    intro u hu
    simp at hu
    subst hu
    rfl
   case cm => unfold maxLen; omega
   case cb => omega
   case cs => simp; omega
   case ch => simp [zw0]
   intro gg cap9 w9 hown9 hgrow hat hlt9
   have B1 := hid (show Below w.heap.size w w9 from B0.out.trans (((Below.refl w.heap.size w0).alloc (by omega) _).trans ⟨hgrow.os, hgrow.tape, hgrow.output, hgrow.size, fun j hj => hgrow.block j (by simp; omega) (by simp [Value.ownBlock])⟩))
   have N1 := hid ((N0.out.alloc (.cells #[.string tx] 9)).grown hgrow (by simp [Value.ownBlock]))
   have O1 := hid (show w9.ownsRow (w.heap.size + 1) 9 1 (.slice (some ⟨gg, 0, none⟩) 1 cap9) (P0 ++ leavessQ (t.ks.take 0)).length (flatC sc (P0 ++ leavessQ (t.ks.take 0))) by
    rw [← HP0.out]
    have e : flatC sc ([t.tx] ++ leavessQ (t.ks.take 0)) = [.string tx] := by
     simp [leavessQ, flatC, sc, ← HT.out]
    rw [e]
    exact hown9)
   clear hown9 hgrow hat hlt9 HW0
   go_wp2
   go_loopw [3, 4] (fun v t' wr => ∃ (k : Nat), k ≤ t.ks.length ∧ t' = .int .i64 k ∧ wr.ownsRow (w.heap.size + 1) 9 1 v (P0 ++ leavessQ (t.ks.take k)).length (flatC sc (P0 ++ leavessQ (t.ks.take k))) ∧ Below w.heap.size w wr ∧ NBox wr w.heap.size (.string ⟨#[102, 114, 111, 109]⟩) (.string tx) (.slice X t.ks.length m)) (fun _ t' _ => t.ks.length - (intOf t').toNat)
   case atStart => exact ⟨0, by omega, rfl, O1.out, B1.out, N1.out⟩
   case round =>
    obtain ⟨k, hk, rfl, hown, hb, hv⟩ := hrel
    have HB := hid hb
    have HV := hid hv
    have HO := hid hown
    have hz := hb.size
    have hvl := hv.lt
    have HK := hid (HN.out.bel HS.out hb)
    obtain ⟨x0, x1, x2, xf⟩ := hv
    clear hb hown
    by_cases hlt : k < t.ks.length
    ·obtain ⟨ad, ⟨op', tx', X', n', m'⟩, eA, hS', q0, q1, q2, hk'⟩ := HK.out.kid k hlt
     dsimp only at eA q0 q1 q2
     subst eA
     have hKK := hid hk'
     have had := HS.out _ hS'
     have HDT := hid (leavessQ_take t.ks k hlt)
     have hb1 : (P0 ++ leavessQ (t.ks.take (k + 1))).length ≤ 100000000 := by
      have := leavess_take t.ks (k + 1)
      have := HLN.out
      rw [List.length_append]
      omega
     rw [leavessQ_take t.ks k hlt, ← List.append_assoc, List.length_append] at hb1
     obtain ⟨Q0, hQ0⟩ : ∃ Q0, P0 ++ leavessQ (t.ks.take k) = Q0 := ⟨_, rfl⟩
     rw [hQ0] at hb1 HO
     have HQ0 := hid hQ0
     obtain ⟨Y, hY⟩ : ∃ Y, leavesQ t.ks[k] = Y := ⟨_, rfl⟩
     have ihk := ih.out k hlt S op' tx' X' n' m' wr (fun g hg => Nat.lt_of_lt_of_le (HS.out g hg) hz) hKK.out
     rw [hY] at hb1 ihk HDT
     have HI := hid ihk
     clear hk' hQ0 hY ihk
     go_wp2_with fail
     refine HI.out.mono ?_
     rintro e w1 ⟨A1, cp1, rfl, hat1, hb1'⟩
     have HB1 := hid (HB.out.trans (hb1'.mono hz))
     have HV1 := hid (HV.out.below hb1')
     have O2 := hid (own_call HO.out hb1')
     have AT1 := hid hat1
     have hz1' := hb1'.size
     clear hb1' hat1 q0 q1 q2 x0 x1 x2 xf HI
     go_wp2_with (at_builtin; refine wpList_append_at (k := 1) (c := sc) sc_length (by decide) sc_one rfl _ _ 42 rfl (w.heap.size + 1) 9 i0 _ 16 Tryz.underlying42 hi0 hz0 hz1 hz2 rfl _ Q0.length (flatC sc Q0) rfl O2.out w1.heap.size A1 cp1 Y rfl AT1.out ?c3 ?c4 ?c5 ?_)
     case c3 => unfold maxLen; omega
     case c4 => omega
     case c5 => have := HV1.out.lt; omega
     intro v9 w9 hown9 hgrow
     have B9 := hid (HB1.out.trans (show Below w.heap.size w1 w9 from ⟨hgrow.os, hgrow.tape, hgrow.output, hgrow.size, fun j hj => hgrow.block j (by have := HV1.out.lt; omega) (fun e => by have := (O2.out.lt j e.symm).1; omega)⟩))
     have V9 := hid (HV1.out.grown hgrow (fun e => by have := (O2.out.lt _ e).1; omega))
     have O9 := hid (show w9.ownsRow (w.heap.size + 1) 9 1 v9 (P0 ++ leavessQ (t.ks.take (k + 1))).length (flatC sc (P0 ++ leavessQ (t.ks.take (k + 1)))) by
      rw [HDT.out, ← List.append_assoc, HQ0.out, List.length_append, flatC_append]
      exact hown9)
     clear hown9 hgrow
     go_wp2
     go_roundw
     case rel => exact ⟨k + 1, by omega, by go_num, O9.out, B9.out, V9.out⟩
     case measure => simp [intOf]; omega
    ·obtain rfl : k = t.ks.length := by omega
     rw [List.take_length] at HO
     obtain ⟨A', cap', rfl, hv'⟩ := own_at sc_length HO.out
     have HV' := hid hv'
     obtain ⟨N, hN⟩ : ∃ N, (P0 ++ leavessQ t.ks).length = N := ⟨_, rfl⟩
     rw [hN]
     have HNN := hid hN
     clear hv' hN
     go_wp2
     go_ret
     exact ⟨A', cap', congrArg (fun n => Ending.returned (.slice A' n cap')) HNN.out.symm, HV'.out, HB.out⟩
  ·rw [if_neg hf] at hP0
   subst hP0
   have f1 : (op.toList == [102, 114, 111, 109]) = false := by
    have : op ≠ ⟨#[102, 114, 111, 109]⟩ := fun e => hf (by
     have := congrArg (fun b => b.data.toList) (eo.symm.trans e)
     show t.op = [102, 114, 111, 109]
     simpa using this)
    have h := toList_ne this
    rw [ByteArray.toList_eq ⟨#[102, 114, 111, 109]⟩] at h
    exact h
   have O1 := hid (show w0.ownsRow (w.heap.size + 1) 9 1 (.slice none 0 0) (([] : List (List UInt8)) ++ leavessQ (t.ks.take 0)).length (flatC sc ([] ++ leavessQ (t.ks.take 0))) from World.ownsRow_nil _ _ _ _)
   have B1 := hid B0.out
   have N1 := hid N0.out
   obtain ⟨x0, x1, x2, xf⟩ := N0.out
   rw [← hw0] at x0
   obtain ⟨P0, hP0⟩ : ∃ P0 : List (List UInt8), [] = P0 := ⟨_, rfl⟩
   rw [hP0] at HLV HLN O1 ⊢
   clear h hln hS hn hlv eo et hf hw0 hP0
   go_enter Tryz.func20, Tryz.ntmps20
   go_wp2
   rw [HW0.out]
   clear x0 x1 x2 xf HW0
   go_loopw [3, 4] (fun v t' wr => ∃ (k : Nat), k ≤ t.ks.length ∧ t' = .int .i64 k ∧ wr.ownsRow (w.heap.size + 1) 9 1 v (P0 ++ leavessQ (t.ks.take k)).length (flatC sc (P0 ++ leavessQ (t.ks.take k))) ∧ Below w.heap.size w wr ∧ NBox wr w.heap.size (.string op) (.string tx) (.slice X t.ks.length m)) (fun _ t' _ => t.ks.length - (intOf t').toNat)
   case atStart => exact ⟨0, by omega, rfl, O1.out, B1.out, N1.out⟩
   case round =>
    obtain ⟨k, hk, rfl, hown, hb, hv⟩ := hrel
    have HB := hid hb
    have HV := hid hv
    have HO := hid hown
    have hz := hb.size
    have hvl := hv.lt
    have HK := hid (HN.out.bel HS.out hb)
    obtain ⟨x0, x1, x2, xf⟩ := hv
    clear hb hown
    by_cases hlt : k < t.ks.length
    ·obtain ⟨ad, ⟨op', tx', X', n', m'⟩, eA, hS', q0, q1, q2, hk'⟩ := HK.out.kid k hlt
     dsimp only at eA q0 q1 q2
     subst eA
     have hKK := hid hk'
     have had := HS.out _ hS'
     have HDT := hid (leavessQ_take t.ks k hlt)
     have hb1 : (P0 ++ leavessQ (t.ks.take (k + 1))).length ≤ 100000000 := by
      have := leavess_take t.ks (k + 1)
      have := HLN.out
      rw [List.length_append]
      omega
     rw [leavessQ_take t.ks k hlt, ← List.append_assoc, List.length_append] at hb1
     obtain ⟨Q0, hQ0⟩ : ∃ Q0, P0 ++ leavessQ (t.ks.take k) = Q0 := ⟨_, rfl⟩
     rw [hQ0] at hb1 HO
     have HQ0 := hid hQ0
     obtain ⟨Y, hY⟩ : ∃ Y, leavesQ t.ks[k] = Y := ⟨_, rfl⟩
     have ihk := ih.out k hlt S op' tx' X' n' m' wr (fun g hg => Nat.lt_of_lt_of_le (HS.out g hg) hz) hKK.out
     rw [hY] at hb1 ihk HDT
     have HI := hid ihk
     clear hk' hQ0 hY ihk
     go_wp2_with fail
     refine HI.out.mono ?_
     rintro e w1 ⟨A1, cp1, rfl, hat1, hb1'⟩
     have HB1 := hid (HB.out.trans (hb1'.mono hz))
     have HV1 := hid (HV.out.below hb1')
     have O2 := hid (own_call HO.out hb1')
     have AT1 := hid hat1
     have hz1' := hb1'.size
     clear hb1' hat1 q0 q1 q2 x0 x1 x2 xf HI
     go_wp2_with (at_builtin; refine wpList_append_at (k := 1) (c := sc) sc_length (by decide) sc_one rfl _ _ 42 rfl (w.heap.size + 1) 9 i0 _ 16 Tryz.underlying42 hi0 hz0 hz1 hz2 rfl _ Q0.length (flatC sc Q0) rfl O2.out w1.heap.size A1 cp1 Y rfl AT1.out ?c3 ?c4 ?c5 ?_)
     case c3 => unfold maxLen; omega
     case c4 => omega
     case c5 => have := HV1.out.lt; omega
     intro v9 w9 hown9 hgrow
     have B9 := hid (HB1.out.trans (show Below w.heap.size w1 w9 from ⟨hgrow.os, hgrow.tape, hgrow.output, hgrow.size, fun j hj => hgrow.block j (by have := HV1.out.lt; omega) (fun e => by have := (O2.out.lt j e.symm).1; omega)⟩))
     have V9 := hid (HV1.out.grown hgrow (fun e => by have := (O2.out.lt _ e).1; omega))
     have O9 := hid (show w9.ownsRow (w.heap.size + 1) 9 1 v9 (P0 ++ leavessQ (t.ks.take (k + 1))).length (flatC sc (P0 ++ leavessQ (t.ks.take (k + 1)))) by
      rw [HDT.out, ← List.append_assoc, HQ0.out, List.length_append, flatC_append]
      exact hown9)
     clear hown9 hgrow
     go_wp2
     go_roundw
     case rel => exact ⟨k + 1, by omega, by go_num, O9.out, B9.out, V9.out⟩
     case measure => simp [intOf]; omega
    ·obtain rfl : k = t.ks.length := by omega
     rw [List.take_length] at HO
     obtain ⟨A', cap', rfl, hv'⟩ := own_at sc_length HO.out
     have HV' := hid hv'
     obtain ⟨N, hN⟩ : ∃ N, (P0 ++ leavessQ t.ks).length = N := ⟨_, rfl⟩
     rw [hN]
     have HNN := hid hN
     clear hv' hN
     go_wp2
     go_ret
     exact ⟨A', cap', congrArg (fun n => Ending.returned (.slice A' n cap')) HNN.out.symm, HV'.out, HB.out⟩
end Go.Proofs.YtjbpkpfmgbhlpaaGreatDoor.Code
