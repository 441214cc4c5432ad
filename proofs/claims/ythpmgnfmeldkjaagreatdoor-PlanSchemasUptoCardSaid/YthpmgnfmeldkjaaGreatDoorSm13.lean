/-
  The program's ddl.literal, ddl.Literal and calc's literal, of a node with a literal's Op and no Kids.
-/
import Derived.Test.YthpmgnfmeldkjaaGreatDoorSm12
import Derived.Test.YthpmgnfmeldkjaaGreatDoorSm5
set_option maxRecDepth 100000
set_option maxHeartbeats 16000000
set_option linter.unusedVariables false
set_option linter.unusedSimpArgs false
open Go.Lib (hid)
namespace Go.Proofs.YthpmgnfmeldkjaaGreatDoor.Code
open Go.ChangeShapes Go.WideShapes Go.ChangeAt Go.RowKit Val Elems
theorem lits_cases {op : ByteArray} (hop : op.data.toList ∈ lits) : op = ⟨#[110, 117, 109]⟩ ∨ op = ⟨#[116, 101, 120, 116]⟩ ∨ op = ⟨#[116, 114, 117, 101]⟩ ∨ op = ⟨#[102, 97, 108, 115, 101]⟩ ∨ op = ⟨#[110, 117, 108, 108]⟩ := by
 have h : op.data.toList = [110, 117, 109] ∨ op.data.toList = [116, 101, 120, 116] ∨ op.data.toList = [116, 114, 117, 101] ∨ op.data.toList = [102, 97, 108, 115, 101] ∨ op.data.toList = [110, 117, 108, 108] := by simpa [lits, sNum, sText, sTrue, sFalse, sNull] using hop
 rcases h with h | h | h | h | h
 all_goals
  rw [← Lib.mk_data op, h]
  simp
theorem ok_if {w w' : World} {r : Option CV} {k n : Int} {s : ByteArray} {p : Bool} (h : r = if p = true then some (k, n, s) else none) (hb : Below w.heap.size w w') : OkPost w r (.returned (.tuple #[.agg #[.int .i64 k, .int .i64 n, .string s], .bool p])) w' := by
 cases p
 ·exact ok_none (by rw [h]; rfl) hb
 ·exact ok_some (by rw [h]; rfl) hb
theorem lset_far {w : World} {g : Nat} {a b c : Value} (h : NBox w g a b c) (p : Addr) (hp : p.block ≠ g) (z : Value) : NBox (w.setCell p z) g a b c :=
 ⟨(World.cell?_setCell_other _ _ _ _ (fun e => hp (by rw [e]))).trans h.c0, (World.cell?_setCell_other _ _ _ _ (fun e => hp (by rw [e]))).trans h.c1, (World.cell?_setCell_other _ _ _ _ (fun e => hp (by rw [e]))).trans h.c2, fun j => by rw [World.frozen?_setCell]; exact h.fr j⟩
theorem lset_zero {w : World} {g : Nat} {a b c : Value} (h : NBox w g a b c) (z : Value) : NBox (w.setCell ⟨g, 0, none⟩ z) g z b c :=
 ⟨World.cell?_setCell_same _ _ _ h.c0, (World.cell?_setCell_other _ _ _ _ (by simp)).trans h.c1, (World.cell?_setCell_other _ _ _ _ (by simp)).trans h.c2, fun j => by rw [World.frozen?_setCell]; exact h.fr j⟩
theorem lset_one {w : World} {g : Nat} {a b c : Value} (h : NBox w g a b c) (z : Value) : NBox (w.setCell ⟨g, 1, none⟩ z) g a z c :=
 ⟨(World.cell?_setCell_other _ _ _ _ (by simp)).trans h.c0, World.cell?_setCell_same _ _ _ h.c1, (World.cell?_setCell_other _ _ _ _ (by simp)).trans h.c2, fun j => by rw [World.frozen?_setCell]; exact h.fr j⟩
theorem dlit_any (op tx : ByteArray) (hop : op.data.toList ∈ lits) (X : Option Addr) (k : Nat) (w : World) : Calls Tryz.prog 227 #[.agg #[.string op, .string tx, .slice X 0 k]] w (OkPost w (litD op.data.toList tx.data.toList)) := by
 obtain ⟨w0, hw0⟩ : ∃ w0, (w.alloc (.cells #[.string op, .string tx, .slice X 0 k] 24)).alloc (.cells #[.int .i64 0, .int .i64 0, .string ⟨#[]⟩] 159) = w0 := ⟨_, rfl⟩
 have B0 := hid (show Below w.heap.size w w0 by rw [← hw0]; exact (below_alloc w _).alloc (by simp) _)
 have N0 := hid (show NBox w0 w.heap.size (.string op) (.string tx) (.slice X 0 k) by rw [← hw0]; exact ⟨by simp [go_sem], by simp [go_sem], by simp [go_sem], fun j => by simp [go_sem]⟩)
 have R0 := hid (show NBox w0 (w.heap.size + 1) (.int .i64 0) (.int .i64 0) (.string ⟨#[]⟩) by rw [← hw0]; exact ⟨by simp [go_sem], by simp [go_sem], by simp [go_sem], fun j => by simp [go_sem]⟩)
 have HI := hid (isLiteral_any op tx hop X k w0)
 have HNU := hid (fun w' => dnumber_any tx w')
 have HW0 := hid hw0
 obtain ⟨p, hp⟩ : ∃ p, (tx.toList == []) = p := ⟨_, rfl⟩
 have hpe : tx.data.isEmpty = p := by rw [← hp, ByteArray.toList_eq, Bool.eq_iff_iff]; simp
 have HLT := hid (show ∀ v : CV, (if tx.data.toList ≠ [] then none else some v) = if p = true then some v else none by
  intro v
  have : (tx.data.toList = []) ↔ p = true := by rw [← hp, ByteArray.toList_eq]; simp
  by_cases h : tx.data.toList = []
  ·rw [if_neg (fun h2 => h2 h), if_pos (this.1 h)]
  ·rw [if_pos h, if_neg (fun h2 => h (this.2 h2))])
 have hz : w.heap.size + 1 < w0.heap.size := by rw [← hw0]; simp
 clear hw0
 rcases lits_cases hop with rfl | rfl | rfl | rfl | rfl
 ·clear hop
  go_enter Tryz.func227, Tryz.ntmps227
  go_upto_region 1 with fail
  rw [HW0.out]
  obtain ⟨x0, x1, x2, xf⟩ := N0.out
  go_wp2_with fail
  refine HI.out.mono ?_
  rintro e w1 ⟨rfl, hb1⟩
  obtain ⟨w2, hw2⟩ : ∃ w2, w1.alloc (.cells #[.int .i64 0, .int .i64 0, .string ⟨#[]⟩] 159) = w2 := ⟨_, rfl⟩
  have B1 := hid (B0.out.trans (hb1.mono B0.out.size))
  have B2 := hid (show Below w.heap.size w w2 by rw [← hw2]; exact B1.out.alloc B1.out.size _)
  have N2 := hid (show NBox w2 w.heap.size _ _ _ by rw [← hw2]; exact (N0.out.below hb1).alloc _)
  have R2 := hid (show NBox w2 (w.heap.size + 1) (.int .i64 0) (.int .i64 0) (.string ⟨#[]⟩) by rw [← hw2]; exact (R0.out.below hb1).alloc _)
  have V2 := hid (show NBox w2 w1.heap.size (.int .i64 0) (.int .i64 0) (.string ⟨#[]⟩) by rw [← hw2]; exact NBox.fresh _ _ _ _ _)
  have z2 : w1.heap.size < w2.heap.size := V2.out.lt
  have z3 : w.heap.size + 1 < w1.heap.size := Nat.lt_of_lt_of_le hz hb1.size
  have z4 : w.heap.size + 1 < w2.heap.size := R2.out.lt
  have HW2 := hid hw2
  clear hb1 hw2 x0 x1 x2 xf
  go_upto_region 4 with fail
  rw [HW2.out]
  obtain ⟨x0, x1, x2, xf⟩ := N2.out
  obtain ⟨y0, y1, y2, yf⟩ := V2.out
  obtain ⟨r0, r1, r2, rf⟩ := R2.out
  clear r0 r1 r2 rf
  go_wp2_with fail
  refine (HNU.out w2).mono ?_
  rintro e w3 ⟨⟨vk, vn, vs⟩, b, rfl, hor, hb3⟩
  have B3 := hid (B2.out.trans (hb3.mono B2.out.size))
  have R3 := hid (R2.out.below hb3)
  have z5 := R3.out.lt
  have HOR := hid hor
  clear hb3 hor x0 x1 x2 xf y0 y1 y2 yf
  obtain ⟨r0, r1, r2, rf⟩ := R3.out
  go_wp2
  have Y9 := R3.out.set (.int .i64 vk) (.int .i64 vn) (.string vs)
  exact bodyPost_ret (v := .tuple #[.agg #[.int .i64 vk, .int .i64 vn, .string vs], .bool b]) (by simp [results, Tryz.results227, go_sem, Y9.c0, Y9.c1, Y9.c2]) rfl ⟨(vk, vn, vs), b, rfl, HOR.out, set3_below B3.out (by omega) _ _ _⟩
 ·clear hop
  go_enter Tryz.func227, Tryz.ntmps227
  go_upto_region 1 with fail
  rw [HW0.out]
  obtain ⟨x0, x1, x2, xf⟩ := N0.out
  go_wp2_with fail
  refine HI.out.mono ?_
  rintro e w1 ⟨rfl, hb1⟩
  obtain ⟨w2, hw2⟩ : ∃ w2, w1.alloc (.cells #[.int .i64 0, .int .i64 0, .string ⟨#[]⟩] 159) = w2 := ⟨_, rfl⟩
  have B1 := hid (B0.out.trans (hb1.mono B0.out.size))
  have B2 := hid (show Below w.heap.size w w2 by rw [← hw2]; exact B1.out.alloc B1.out.size _)
  have N2 := hid (show NBox w2 w.heap.size _ _ _ by rw [← hw2]; exact (N0.out.below hb1).alloc _)
  have R2 := hid (show NBox w2 (w.heap.size + 1) (.int .i64 0) (.int .i64 0) (.string ⟨#[]⟩) by rw [← hw2]; exact (R0.out.below hb1).alloc _)
  have V2 := hid (show NBox w2 w1.heap.size (.int .i64 0) (.int .i64 0) (.string ⟨#[]⟩) by rw [← hw2]; exact NBox.fresh _ _ _ _ _)
  have z2 : w1.heap.size < w2.heap.size := V2.out.lt
  have z3 : w.heap.size + 1 < w1.heap.size := Nat.lt_of_lt_of_le hz hb1.size
  have z4 : w.heap.size + 1 < w2.heap.size := R2.out.lt
  have HW2 := hid hw2
  clear hb1 hw2 x0 x1 x2 xf
  go_upto_region 4 with fail
  rw [HW2.out]
  obtain ⟨x0, x1, x2, xf⟩ := N2.out
  obtain ⟨y0, y1, y2, yf⟩ := V2.out
  obtain ⟨r0, r1, r2, rf⟩ := R2.out
  go_wp2
  have Y9 := R2.out.set (.int .i64 4) (.int .i64 0) (.string tx)
  exact bodyPost_ret (v := .tuple #[.agg #[.int .i64 4, .int .i64 0, .string tx], .bool true]) (by simp [results, Tryz.results227, go_sem, Y9.c0, Y9.c1, Y9.c2]) rfl (ok_some (by unfold litD; rw [if_neg (by decide), if_pos (by decide), Lib.mk_data]) (set3_below B2.out (by omega) _ _ _))
 ·clear hop
  go_enter Tryz.func227, Tryz.ntmps227
  go_upto_region 1 with fail
  rw [HW0.out]
  obtain ⟨x0, x1, x2, xf⟩ := N0.out
  go_wp2_with fail
  refine HI.out.mono ?_
  rintro e w1 ⟨rfl, hb1⟩
  obtain ⟨w2, hw2⟩ : ∃ w2, w1.alloc (.cells #[.int .i64 0, .int .i64 0, .string ⟨#[]⟩] 159) = w2 := ⟨_, rfl⟩
  have B1 := hid (B0.out.trans (hb1.mono B0.out.size))
  have B2 := hid (show Below w.heap.size w w2 by rw [← hw2]; exact B1.out.alloc B1.out.size _)
  have N2 := hid (show NBox w2 w.heap.size _ _ _ by rw [← hw2]; exact (N0.out.below hb1).alloc _)
  have R2 := hid (show NBox w2 (w.heap.size + 1) (.int .i64 0) (.int .i64 0) (.string ⟨#[]⟩) by rw [← hw2]; exact (R0.out.below hb1).alloc _)
  have V2 := hid (show NBox w2 w1.heap.size (.int .i64 0) (.int .i64 0) (.string ⟨#[]⟩) by rw [← hw2]; exact NBox.fresh _ _ _ _ _)
  have z2 : w1.heap.size < w2.heap.size := V2.out.lt
  have z3 : w.heap.size + 1 < w1.heap.size := Nat.lt_of_lt_of_le hz hb1.size
  have z4 : w.heap.size + 1 < w2.heap.size := R2.out.lt
  have HW2 := hid hw2
  clear hb1 hw2 x0 x1 x2 xf
  go_upto_region 4 with fail
  rw [HW2.out]
  obtain ⟨x0, x1, x2, xf⟩ := N2.out
  obtain ⟨y0, y1, y2, yf⟩ := V2.out
  obtain ⟨r0, r1, r2, rf⟩ := R2.out
  go_upto_region 20 with fail
  have B3 := hid (show Below w.heap.size w ((w2.setCell ⟨w1.heap.size, 1, none⟩ (.int .i64 1)).setCell ⟨w1.heap.size, 0, none⟩ (.int .i64 1)) from (B2.out.setCell (p := ⟨w1.heap.size, 1, none⟩) B1.out.size _).setCell (p := ⟨w1.heap.size, 0, none⟩) B1.out.size _)
  have z5 : w.heap.size + 1 < ((w2.setCell ⟨w1.heap.size, 1, none⟩ (.int .i64 1)).setCell ⟨w1.heap.size, 0, none⟩ (.int .i64 1)).heap.size := by simp; omega
  have N3 := hid (show NBox ((w2.setCell ⟨w1.heap.size, 1, none⟩ (.int .i64 1)).setCell ⟨w1.heap.size, 0, none⟩ (.int .i64 1)) w.heap.size _ _ _ from lset_far (lset_far N2.out _ (by show w1.heap.size ≠ w.heap.size; omega) _) _ (by show w1.heap.size ≠ w.heap.size; omega) _)
  have R3 := hid (show NBox ((w2.setCell ⟨w1.heap.size, 1, none⟩ (.int .i64 1)).setCell ⟨w1.heap.size, 0, none⟩ (.int .i64 1)) (w.heap.size + 1) (.int .i64 0) (.int .i64 0) (.string ⟨#[]⟩) from lset_far (lset_far R2.out _ (by show w1.heap.size ≠ w.heap.size + 1; omega) _) _ (by show w1.heap.size ≠ w.heap.size + 1; omega) _)
  have V3 := hid (show NBox ((w2.setCell ⟨w1.heap.size, 1, none⟩ (.int .i64 1)).setCell ⟨w1.heap.size, 0, none⟩ (.int .i64 1)) w1.heap.size (.int .i64 1) (.int .i64 1) (.string ⟨#[]⟩) from lset_zero (lset_one V2.out _) _)
  clear x0 x1 x2 xf y0 y1 y2 yf r0 r1 r2 rf
  obtain ⟨w3, hw3⟩ : ∃ w3, (w2.setCell ⟨w1.heap.size, 1, none⟩ (.int .i64 1)).setCell ⟨w1.heap.size, 0, none⟩ (.int .i64 1) = w3 := ⟨_, rfl⟩
  simp only [hw3] at B3 z5 N3 R3 V3
  rw [hw3]
  clear hw3
  obtain ⟨x0, x1, x2, xf⟩ := N3.out
  obtain ⟨y0, y1, y2, yf⟩ := V3.out
  obtain ⟨r0, r1, r2, rf⟩ := R3.out
  go_region_law (fail)
  all_goals
   go_wp2
   have Y9 := (R3.out.set (.int .i64 1) (.int .i64 1) (.string ⟨#[]⟩)).below (Below.drew (Below.refl _ _))
   have E9 := hid (show litD (ByteArray.data ⟨#[116, 114, 117, 101]⟩).toList tx.data.toList = if p = true then some (1, 1, ⟨#[]⟩) else none from HLT.out _)
   exact bodyPost_ret (v := .tuple #[.agg #[.int .i64 1, .int .i64 1, .string ⟨#[]⟩], .bool p]) (by simp [results, Tryz.results227, go_sem, Act.put, hpe, Y9.c0, Y9.c1, Y9.c2]) rfl (ok_if E9.out (Below.drew (set3_below B3.out (by omega) _ _ _)))
 ·clear hop
  go_enter Tryz.func227, Tryz.ntmps227
  go_upto_region 1 with fail
  rw [HW0.out]
  obtain ⟨x0, x1, x2, xf⟩ := N0.out
  go_wp2_with fail
  refine HI.out.mono ?_
  rintro e w1 ⟨rfl, hb1⟩
  obtain ⟨w2, hw2⟩ : ∃ w2, w1.alloc (.cells #[.int .i64 0, .int .i64 0, .string ⟨#[]⟩] 159) = w2 := ⟨_, rfl⟩
  have B1 := hid (B0.out.trans (hb1.mono B0.out.size))
  have B2 := hid (show Below w.heap.size w w2 by rw [← hw2]; exact B1.out.alloc B1.out.size _)
  have N2 := hid (show NBox w2 w.heap.size _ _ _ by rw [← hw2]; exact (N0.out.below hb1).alloc _)
  have R2 := hid (show NBox w2 (w.heap.size + 1) (.int .i64 0) (.int .i64 0) (.string ⟨#[]⟩) by rw [← hw2]; exact (R0.out.below hb1).alloc _)
  have V2 := hid (show NBox w2 w1.heap.size (.int .i64 0) (.int .i64 0) (.string ⟨#[]⟩) by rw [← hw2]; exact NBox.fresh _ _ _ _ _)
  have z2 : w1.heap.size < w2.heap.size := V2.out.lt
  have z3 : w.heap.size + 1 < w1.heap.size := Nat.lt_of_lt_of_le hz hb1.size
  have z4 : w.heap.size + 1 < w2.heap.size := R2.out.lt
  have HW2 := hid hw2
  clear hb1 hw2 x0 x1 x2 xf
  go_upto_region 4 with fail
  rw [HW2.out]
  obtain ⟨x0, x1, x2, xf⟩ := N2.out
  obtain ⟨y0, y1, y2, yf⟩ := V2.out
  obtain ⟨r0, r1, r2, rf⟩ := R2.out
  go_upto_region 20 with fail
  have B3 := hid (show Below w.heap.size w (w2.setCell ⟨w1.heap.size, 0, none⟩ (.int .i64 1)) from B2.out.setCell (p := ⟨w1.heap.size, 0, none⟩) B1.out.size _)
  have z5 : w.heap.size + 1 < (w2.setCell ⟨w1.heap.size, 0, none⟩ (.int .i64 1)).heap.size := by simp; omega
  have N3 := hid (show NBox (w2.setCell ⟨w1.heap.size, 0, none⟩ (.int .i64 1)) w.heap.size _ _ _ from lset_far N2.out _ (by show w1.heap.size ≠ w.heap.size; omega) _)
  have R3 := hid (show NBox (w2.setCell ⟨w1.heap.size, 0, none⟩ (.int .i64 1)) (w.heap.size + 1) (.int .i64 0) (.int .i64 0) (.string ⟨#[]⟩) from lset_far R2.out _ (by show w1.heap.size ≠ w.heap.size + 1; omega) _)
  have V3 := hid (show NBox (w2.setCell ⟨w1.heap.size, 0, none⟩ (.int .i64 1)) w1.heap.size (.int .i64 1) (.int .i64 0) (.string ⟨#[]⟩) from lset_zero V2.out _)
  clear x0 x1 x2 xf y0 y1 y2 yf r0 r1 r2 rf
  obtain ⟨w3, hw3⟩ : ∃ w3, w2.setCell ⟨w1.heap.size, 0, none⟩ (.int .i64 1) = w3 := ⟨_, rfl⟩
  simp only [hw3] at B3 z5 N3 R3 V3
  rw [hw3]
  clear hw3
  obtain ⟨x0, x1, x2, xf⟩ := N3.out
  obtain ⟨y0, y1, y2, yf⟩ := V3.out
  obtain ⟨r0, r1, r2, rf⟩ := R3.out
  go_region_law (fail)
  all_goals
   go_wp2
   have Y9 := (R3.out.set (.int .i64 1) (.int .i64 0) (.string ⟨#[]⟩)).below (Below.drew (Below.refl _ _))
   have E9 := hid (show litD (ByteArray.data ⟨#[102, 97, 108, 115, 101]⟩).toList tx.data.toList = if p = true then some (1, 0, ⟨#[]⟩) else none from HLT.out _)
   exact bodyPost_ret (v := .tuple #[.agg #[.int .i64 1, .int .i64 0, .string ⟨#[]⟩], .bool p]) (by simp [results, Tryz.results227, go_sem, Act.put, hpe, Y9.c0, Y9.c1, Y9.c2]) rfl (ok_if E9.out (Below.drew (set3_below B3.out (by omega) _ _ _)))
 ·clear hop
  go_enter Tryz.func227, Tryz.ntmps227
  go_upto_region 1 with fail
  rw [HW0.out]
  obtain ⟨x0, x1, x2, xf⟩ := N0.out
  go_wp2_with fail
  refine HI.out.mono ?_
  rintro e w1 ⟨rfl, hb1⟩
  obtain ⟨w2, hw2⟩ : ∃ w2, w1.alloc (.cells #[.int .i64 0, .int .i64 0, .string ⟨#[]⟩] 159) = w2 := ⟨_, rfl⟩
  have B1 := hid (B0.out.trans (hb1.mono B0.out.size))
  have B2 := hid (show Below w.heap.size w w2 by rw [← hw2]; exact B1.out.alloc B1.out.size _)
  have N2 := hid (show NBox w2 w.heap.size _ _ _ by rw [← hw2]; exact (N0.out.below hb1).alloc _)
  have R2 := hid (show NBox w2 (w.heap.size + 1) (.int .i64 0) (.int .i64 0) (.string ⟨#[]⟩) by rw [← hw2]; exact (R0.out.below hb1).alloc _)
  have V2 := hid (show NBox w2 w1.heap.size (.int .i64 0) (.int .i64 0) (.string ⟨#[]⟩) by rw [← hw2]; exact NBox.fresh _ _ _ _ _)
  have z2 : w1.heap.size < w2.heap.size := V2.out.lt
  have z3 : w.heap.size + 1 < w1.heap.size := Nat.lt_of_lt_of_le hz hb1.size
  have z4 : w.heap.size + 1 < w2.heap.size := R2.out.lt
  have HW2 := hid hw2
  clear hb1 hw2 x0 x1 x2 xf
  go_upto_region 4 with fail
  rw [HW2.out]
  obtain ⟨x0, x1, x2, xf⟩ := N2.out
  obtain ⟨y0, y1, y2, yf⟩ := V2.out
  obtain ⟨r0, r1, r2, rf⟩ := R2.out
  go_wp2_with fail
  go_region_law (fail)
  all_goals
   go_wp2
   have Y9 := (R2.out.set (.int .i64 0) (.int .i64 0) (.string ⟨#[]⟩)).below (Below.drew (Below.refl _ _))
   have E9 := hid (show litD (ByteArray.data ⟨#[110, 117, 108, 108]⟩).toList tx.data.toList = if p = true then some (0, 0, ⟨#[]⟩) else none from HLT.out _)
   exact bodyPost_ret (v := .tuple #[.agg #[.int .i64 0, .int .i64 0, .string ⟨#[]⟩], .bool p]) (by simp [results, Tryz.results227, go_sem, Act.put, hpe, Y9.c0, Y9.c1, Y9.c2]) rfl (ok_if E9.out (Below.drew (set3_below B2.out (by omega) _ _ _)))
def castV (v : CV) (k : Int) : CV × Int := ((castK v.1 v.2.1 v.2.2 k, castN v.1 v.2.1 v.2.2 k, castS v.1 v.2.1 v.2.2 k), castE v.1 v.2.1 v.2.2 k)
def litK (r : Option CV) (k : Int) : CV × Int := match r with | some v => castV v k | none => (nulV, 1)
theorem litD_fits {op tx : List UInt8} {v : CV} (h : litD op tx = some v) : Val.fits v.2.1 := by
 unfold litD numV at h
 unfold Val.fits
 repeat' split at h
 ·cases ha : amountL tx with
  | none => rw [ha] at h; cases h
  | some n =>
   rw [ha] at h
   have := amount_pos ha
   simp only [Option.map_some, Option.some.injEq] at h
   split at h <;> subst h <;> (dsimp only; omega)
 all_goals first | (cases h; done) | (simp only [Option.some.injEq] at h; subst h; exact ⟨by show (-9223372036854775808 : Int) ≤ _; decide, by show _ ≤ (9223372036854775807 : Int); decide⟩) | (simp only [Option.some.injEq] at h; subst h; show (-9223372036854775808 : Int) ≤ 0 ∧ (0 : Int) ≤ 9223372036854775807; decide)
theorem dLiteral_any (op tx : ByteArray) (hop : op.data.toList ∈ lits) (X : Option Addr) (k : Nat) (K : Int) (w : World) : Calls Tryz.prog 205 #[.agg #[.string op, .string tx, .slice X 0 k], .int .i64 K] w (SumPost w (litK (litD op.data.toList tx.data.toList) K)) := by
 obtain ⟨w0, hw0⟩ : ∃ w0, (w.alloc (.cells #[.string op, .string tx, .slice X 0 k] 24)).alloc (.cells #[.int .i64 0, .int .i64 0, .string ⟨#[]⟩] 159) = w0 := ⟨_, rfl⟩
 have B0 := hid (show Below w.heap.size w w0 by rw [← hw0]; exact (below_alloc w _).alloc (by simp) _)
 have N0 := hid (show NBox w0 w.heap.size (.string op) (.string tx) (.slice X 0 k) by rw [← hw0]; exact ⟨by simp [go_sem], by simp [go_sem], by simp [go_sem], fun j => by simp [go_sem]⟩)
 have R0 := hid (show NBox w0 (w.heap.size + 1) (.int .i64 0) (.int .i64 0) (.string ⟨#[]⟩) by rw [← hw0]; exact ⟨by simp [go_sem], by simp [go_sem], by simp [go_sem], fun j => by simp [go_sem]⟩)
 have HL := hid (dlit_any op tx hop X k w0)
 have HF := hid (fun v (h : litD op.data.toList tx.data.toList = some v) => litD_fits h)
 obtain ⟨r, hr⟩ : ∃ r, litD op.data.toList tx.data.toList = r := ⟨_, rfl⟩
 rw [hr] at HL HF
 rw [hr]
 have HW0 := hid hw0
 have hz : w.heap.size + 1 < w0.heap.size := by rw [← hw0]; simp
 clear hr hw0 hop
 go_enter Tryz.func205, Tryz.ntmps205
 go_upto_region 1 with fail
 rw [HW0.out]
 obtain ⟨x0, x1, x2, xf⟩ := N0.out
 go_wp2_with fail
 refine HL.out.mono ?_
 rintro e w1 ⟨⟨vk, vn, vs⟩, b, rfl, hor, hb1⟩
 have HOR := hid hor
 obtain ⟨w2, hw2⟩ : ∃ w2, w1.alloc (.cells #[.int .i64 vk, .int .i64 vn, .string vs] 159) = w2 := ⟨_, rfl⟩
 have B1 := hid (B0.out.trans (hb1.mono B0.out.size))
 have B2 := hid (show Below w.heap.size w w2 by rw [← hw2]; exact B1.out.alloc B1.out.size _)
 have R2 := hid (show NBox w2 (w.heap.size + 1) (.int .i64 0) (.int .i64 0) (.string ⟨#[]⟩) by rw [← hw2]; exact (R0.out.below hb1).alloc _)
 have V2 := hid (show NBox w2 w1.heap.size (.int .i64 vk) (.int .i64 vn) (.string vs) by rw [← hw2]; exact NBox.fresh _ _ _ _ _)
 have z2 : w1.heap.size < w2.heap.size := V2.out.lt
 have z4 : w.heap.size + 1 < w2.heap.size := R2.out.lt
 have HW2 := hid hw2
 clear hb1 hw2 x0 x1 x2 xf hor
 go_upto_region 2 with fail
 rw [HW2.out]
 obtain ⟨y0, y1, y2, yf⟩ := V2.out
 obtain ⟨r0, r1, r2, rf⟩ := R2.out
 rcases HOR.out with ⟨rfl, hr⟩ | ⟨rfl, hr⟩
 ·have HCA := hid (Val.cast_any vk vn vs K w2 (HF.out _ hr))
  have HRE := hid (show litK r K = ((castK vk vn vs K, castN vk vn vs K, castS vk vn vs K), castE vk vn vs K) by rw [hr]; rfl)
  unfold castP at HCA
  obtain ⟨ck, hck⟩ : ∃ c, castK vk vn vs K = c := ⟨_, rfl⟩
  obtain ⟨cn, hcn⟩ : ∃ c, castN vk vn vs K = c := ⟨_, rfl⟩
  obtain ⟨cs, hcs⟩ : ∃ c, castS vk vn vs K = c := ⟨_, rfl⟩
  obtain ⟨ce, hce⟩ : ∃ c, castE vk vn vs K = c := ⟨_, rfl⟩
  rw [hck, hcn, hcs, hce] at HCA HRE
  clear hck hcn hcs hce hr r0 r1 r2 rf
  go_wp2_with fail
  refine HCA.out.mono ?_
  rintro e w3 ⟨rfl, hb3⟩
  have B3 := hid (B2.out.trans (hb3.mono B2.out.size))
  have R3 := hid (R2.out.below hb3)
  have z5 := R3.out.lt
  clear hb3 y0 y1 y2 yf
  obtain ⟨r0, r1, r2, rf⟩ := R3.out
  go_wp2
  have Y9 := R3.out.set (.int .i64 ck) (.int .i64 cn) (.string cs)
  exact bodyPost_ret (v := .tuple #[.agg #[.int .i64 ck, .int .i64 cn, .string cs], .int .i64 ce]) (by simp [results, Tryz.results205, go_sem, Y9.c0, Y9.c1, Y9.c2]) rfl ⟨by rw [HRE.out], set3_below B3.out (by omega) _ _ _⟩
 ·have HRE := hid (show litK r K = (nulV, 1) by rw [hr]; rfl)
  clear hr
  go_wp2
  have Y9 := R2.out.set (.int .i64 0) (.int .i64 0) (.string ⟨#[]⟩)
  exact bodyPost_ret (v := .tuple #[.agg #[.int .i64 0, .int .i64 0, .string ⟨#[]⟩], .int .i64 1]) (by simp [results, Tryz.results205, go_sem, Y9.c0, Y9.c1, Y9.c2]) rfl ⟨by rw [HRE.out]; rfl, set3_below B2.out (by omega) _ _ _⟩
def litT (op tx : List UInt8) : CV × Int := ((litL op tx).getD nulV, if (litL op tx).isSome = true then 0 else 1)
theorem cast_self {v : CV} (h : rightB v.1 v.2.1 v.2.2 = true) (hc : columnB v.1 = true) : castV v v.1 = (v, 0) := by
 obtain ⟨k, n, s⟩ := v
 have e : castE k n s k = 0 := by
  unfold castE
  dsimp only at h hc
  rw [if_neg (by rw [h, hc]; simp), if_pos (.inr rfl)]
 unfold castV castK castN castS
 dsimp only
 rw [e, if_pos rfl, if_pos rfl, if_pos rfl]
 by_cases h0 : k = 0
 ·subst h0; cases hc
 ·rw [if_neg h0]
theorem lit_text (tx : List UInt8) : litK (litD sText tx) 4 = litT sText tx := by
 have e : litD sText tx = some (4, 0, ⟨tx.toArray⟩) := by unfold litD; rw [if_neg (by decide), if_pos rfl]
 have e2 : litL sText tx = if tx.length ≤ 200 then some (4, 0, ⟨tx.toArray⟩) else none := by unfold litL; rw [if_neg (by decide), if_pos rfl]
 rw [e]
 unfold litT
 rw [e2]
 have hsz : (⟨tx.toArray⟩ : ByteArray).size = tx.length := by show tx.toArray.size = _; simp
 by_cases h : tx.length ≤ 200
 ·rw [if_pos h]
  have hr : rightB 4 0 ⟨tx.toArray⟩ = true := by
   unfold rightB
   rw [if_pos rfl, decide_eq_true_eq, hsz]
   exact ⟨rfl, h⟩
  exact cast_self (v := (4, 0, ⟨tx.toArray⟩)) hr rfl
 ·rw [if_neg h]
  have hr : rightB 4 0 ⟨tx.toArray⟩ = false := by
   unfold rightB
   rw [if_pos rfl, decide_eq_false_iff_not, hsz]
   exact fun h2 => h h2.2
  have he : castE 4 0 ⟨tx.toArray⟩ 4 = 1 := by
   unfold castE
   rw [if_pos (.inl hr)]
  show castV (4, 0, ⟨tx.toArray⟩) 4 = _
  unfold castV castK castN castS
  dsimp only
  rw [he, if_neg (by decide), if_neg (by decide), if_neg (by decide)]
  rfl
theorem lit_bool {op : List UInt8} (hop : op = sTrue ∨ op = sFalse ∨ op = sNull) (tx : List UInt8) : litK (litD op tx) 1 = litT op tx := by
 by_cases h : tx = []
 ·subst h
  rcases hop with rfl | rfl | rfl <;> decide +kernel
 ·have h2 : op ≠ sNum ∧ op ≠ sText := by rcases hop with rfl | rfl | rfl <;> exact ⟨by decide, by decide⟩
  have e : litD op tx = none := by unfold litD; rw [if_neg h2.1, if_neg h2.2, if_pos h]
  have e2 : litL op tx = none := by unfold litL; rw [if_neg h2.1, if_neg h2.2, if_pos h]
  rw [e]
  unfold litT
  rw [e2]
  rfl
theorem lit_num (tx : List UInt8) : ((litK (litD sNum tx) 2).2 = 0 → litT sNum tx = ((litK (litD sNum tx) 2).1, 0)) ∧ ((litK (litD sNum tx) 2).2 ≠ 0 → litT sNum tx = litK (litD sNum tx) 3) := by
 have e : litD sNum tx = numV (amountL tx) := by unfold litD; rw [if_pos rfl]
 have e2 : litL sNum tx = numV (amountL tx) := by unfold litL numV; rw [if_pos rfl]
 rw [e]
 unfold litT
 rw [e2]
 cases ha : amountL tx with
 | none => exact ⟨fun h => absurd h (by decide), fun _ => rfl⟩
 | some n =>
  have hp := amount_pos ha
  by_cases hn : n ≤ 2147483647
  ·have e3 : numV (some n) = some (2, n, ⟨#[]⟩) := by unfold numV; rw [Option.map_some, if_pos hn]
   rw [e3]
   have hr : rightB 2 n ⟨#[]⟩ = true := by
    unfold rightB holdsB
    rw [if_neg (by decide), if_neg (by decide), if_neg (by decide), if_pos rfl, Bool.and_eq_true, decide_eq_true_eq, decide_eq_true_eq]
    exact ⟨rfl, by omega⟩
   have hc : litK (some (2, n, ⟨#[]⟩)) 2 = ((2, n, ⟨#[]⟩), 0) := cast_self (v := (2, n, ⟨#[]⟩)) hr rfl
   rw [hc]
   exact ⟨fun _ => rfl, fun h => absurd rfl h⟩
  ·have e3 : numV (some n) = some (3, n, ⟨#[]⟩) := by unfold numV; rw [Option.map_some, if_neg hn]
   rw [e3]
   have he : castE 3 n ⟨#[]⟩ 2 = 12 := by
    unfold castE
    rw [if_neg (by rw [show rightB 3 n ⟨#[]⟩ = true from rfl, show columnB 2 = true from rfl]; simp), if_neg (by decide), if_neg (by decide), if_neg]
    unfold holdsB
    rw [if_neg (by decide), if_pos rfl, decide_eq_true_eq]
    omega
   have hc : litK (some (3, n, ⟨#[]⟩)) 3 = ((3, n, ⟨#[]⟩), 0) := cast_self (v := (3, n, ⟨#[]⟩)) rfl rfl
   rw [hc]
   exact ⟨fun h => absurd (show castE 3 n ⟨#[]⟩ 2 = 0 from h) (by rw [he]; decide), fun _ => rfl⟩
theorem clit_any (op tx : ByteArray) (hop : op.data.toList ∈ lits) (X : Option Addr) (k : Nat) (w : World) : Calls Tryz.prog 186 #[.agg #[.string op, .string tx, .slice X 0 k]] w (SumPost w (litT op.data.toList tx.data.toList)) := by
 obtain ⟨w0, hw0⟩ : ∃ w0, (w.alloc (.cells #[.string op, .string tx, .slice X 0 k] 24)).alloc (.cells #[.int .i64 0, .int .i64 0, .string ⟨#[]⟩] 159) = w0 := ⟨_, rfl⟩
 have B0 := hid (show Below w.heap.size w w0 by rw [← hw0]; exact (below_alloc w _).alloc (by simp) _)
 have N0 := hid (show NBox w0 w.heap.size (.string op) (.string tx) (.slice X 0 k) by rw [← hw0]; exact ⟨by simp [go_sem], by simp [go_sem], by simp [go_sem], fun j => by simp [go_sem]⟩)
 have R0 := hid (show NBox w0 (w.heap.size + 1) (.int .i64 0) (.int .i64 0) (.string ⟨#[]⟩) by rw [← hw0]; exact ⟨by simp [go_sem], by simp [go_sem], by simp [go_sem], fun j => by simp [go_sem]⟩)
 have HL := hid (fun K w' => dLiteral_any op tx hop X k K w')
 unfold SumPost at HL
 have HW0 := hid hw0
 have hz : w.heap.size + 1 < w0.heap.size := by rw [← hw0]; simp
 clear hw0
 rcases lits_cases hop with rfl | rfl | hop2
 ·have HT := hid (show (litT (ByteArray.data ⟨#[110, 117, 109]⟩).toList tx.data.toList) = litT sNum tx.data.toList from rfl)
  rw [HT.out]
  have HN := hid (lit_num tx.data.toList)
  have HL2 := hid (show ∀ K w', Calls Tryz.prog 205 #[.agg #[.string ⟨#[110, 117, 109]⟩, .string tx, .slice X 0 k], .int .i64 K] w' (fun e w'' => e = .returned (.tuple #[.agg #[.int .i64 (litK (litD sNum tx.data.toList) K).1.1, .int .i64 (litK (litD sNum tx.data.toList) K).1.2.1, .string (litK (litD sNum tx.data.toList) K).1.2.2], .int .i64 (litK (litD sNum tx.data.toList) K).2]) ∧ Below w'.heap.size w' w'') from HL.out)
  have H2 := hid (fun w' => HL2.out 2 w')
  have H3 := hid (fun w' => HL2.out 3 w')
  obtain ⟨r2, hr2⟩ : ∃ r, litK (litD sNum tx.data.toList) 2 = r := ⟨_, rfl⟩
  obtain ⟨r3, hr3⟩ : ∃ r, litK (litD sNum tx.data.toList) 3 = r := ⟨_, rfl⟩
  obtain ⟨R, hR⟩ : ∃ r, litT sNum tx.data.toList = r := ⟨_, rfl⟩
  rw [hr2] at H2 HN
  rw [hr3] at H3 HN
  rw [hR] at HN ⊢
  obtain ⟨⟨ak, an, as'⟩, ae⟩ := r2
  obtain ⟨⟨bk, bn, bs⟩, be⟩ := r3
  dsimp only at H2 H3 HN
  clear hr2 hr3 hR HL HL2 HT hop
  go_enter Tryz.func186, Tryz.ntmps186
  go_upto_region 1 with fail
  rw [HW0.out]
  obtain ⟨x0, x1, x2, xf⟩ := N0.out
  go_wp2_with fail
  refine (H2.out w0).mono ?_
  rintro e w1 ⟨rfl, hb1⟩
  obtain ⟨w2, hw2⟩ : ∃ w2, w1.alloc (.cells #[.int .i64 ak, .int .i64 an, .string as'] 159) = w2 := ⟨_, rfl⟩
  have B1 := hid (B0.out.trans (hb1.mono B0.out.size))
  have B2 := hid (show Below w.heap.size w w2 by rw [← hw2]; exact B1.out.alloc B1.out.size _)
  have N2 := hid (show NBox w2 w.heap.size _ _ _ by rw [← hw2]; exact (N0.out.below hb1).alloc _)
  have R2 := hid (show NBox w2 (w.heap.size + 1) (.int .i64 0) (.int .i64 0) (.string ⟨#[]⟩) by rw [← hw2]; exact (R0.out.below hb1).alloc _)
  have V2 := hid (show NBox w2 w1.heap.size (.int .i64 ak) (.int .i64 an) (.string as') by rw [← hw2]; exact NBox.fresh _ _ _ _ _)
  have z2 : w1.heap.size < w2.heap.size := V2.out.lt
  have z4 : w.heap.size + 1 < w2.heap.size := R2.out.lt
  have HW2 := hid hw2
  clear hb1 hw2 x0 x1 x2 xf
  go_upto_region 6 with fail
  rw [HW2.out]
  obtain ⟨x0, x1, x2, xf⟩ := N2.out
  obtain ⟨y0, y1, y2, yf⟩ := V2.out
  obtain ⟨r0, r1, r2, rf⟩ := R2.out
  by_cases hae : ae = 0
  ·subst hae
   have HRE := hid (HN.out.1 rfl)
   go_wp2
   have Y9 := R2.out.set (.int .i64 ak) (.int .i64 an) (.string as')
   exact bodyPost_ret (v := .tuple #[.agg #[.int .i64 ak, .int .i64 an, .string as'], .int .i64 0]) (by simp [results, Tryz.results186, go_sem, Y9.c0, Y9.c1, Y9.c2]) rfl ⟨by rw [HRE.out], set3_below B2.out (by omega) _ _ _⟩
  ·have e1 : (ae == 0) = false := by simpa using hae
   have HRE := hid (HN.out.2 hae)
   clear hae y0 y1 y2 yf r0 r1 r2 rf
   go_wp2_with fail
   refine (H3.out w2).mono ?_
   rintro e w3 ⟨rfl, hb3⟩
   have B3 := hid (B2.out.trans (hb3.mono B2.out.size))
   have R3 := hid (R2.out.below hb3)
   have z5 := R3.out.lt
   clear hb3 x0 x1 x2 xf
   obtain ⟨r0, r1, r2, rf⟩ := R3.out
   go_wp2
   have Y9 := R3.out.set (.int .i64 bk) (.int .i64 bn) (.string bs)
   exact bodyPost_ret (v := .tuple #[.agg #[.int .i64 bk, .int .i64 bn, .string bs], .int .i64 be]) (by simp [results, Tryz.results186, go_sem, Y9.c0, Y9.c1, Y9.c2]) rfl ⟨by rw [HRE.out], set3_below B3.out (by omega) _ _ _⟩
 ·have HRE := hid (lit_text tx.data.toList)
  have H4 := hid (fun w' => HL.out 4 w')
  have HT : litK (litD (ByteArray.data ⟨#[116, 101, 120, 116]⟩).toList tx.data.toList) 4 = litT sText tx.data.toList := HRE.out
  rw [HT] at H4
  rw [show litT (ByteArray.data ⟨#[116, 101, 120, 116]⟩).toList tx.data.toList = litT sText tx.data.toList from rfl]
  obtain ⟨R, hR⟩ : ∃ r, litT sText tx.data.toList = r := ⟨_, rfl⟩
  rw [hR] at H4 ⊢
  obtain ⟨⟨bk, bn, bs⟩, be⟩ := R
  dsimp only at H4
  clear HL HRE HT hR hop
  go_enter Tryz.func186, Tryz.ntmps186
  go_upto_region 1 with fail
  rw [HW0.out]
  obtain ⟨x0, x1, x2, xf⟩ := N0.out
  go_wp2_with fail
  refine (H4.out w0).mono ?_
  rintro e w3 ⟨rfl, hb3⟩
  have B3 := hid (B0.out.trans (hb3.mono B0.out.size))
  have R3 := hid (R0.out.below hb3)
  have z5 := R3.out.lt
  clear hb3 x0 x1 x2 xf
  obtain ⟨r0, r1, r2, rf⟩ := R3.out
  go_wp2
  have Y9 := R3.out.set (.int .i64 bk) (.int .i64 bn) (.string bs)
  exact bodyPost_ret (v := .tuple #[.agg #[.int .i64 bk, .int .i64 bn, .string bs], .int .i64 be]) (by simp [results, Tryz.results186, go_sem, Y9.c0, Y9.c1, Y9.c2]) rfl ⟨rfl, set3_below B3.out (by omega) _ _ _⟩
 ·have HRE := hid (lit_bool (op := op.data.toList) (by rcases hop2 with rfl | rfl | rfl; exact .inl rfl; exact .inr (.inl rfl); exact .inr (.inr rfl)) tx.data.toList)
  have H4 := hid (fun w' => HL.out 1 w')
  rw [HRE.out] at H4
  obtain ⟨R, hR⟩ : ∃ r, litT op.data.toList tx.data.toList = r := ⟨_, rfl⟩
  rw [hR] at H4 ⊢
  obtain ⟨⟨bk, bn, bs⟩, be⟩ := R
  dsimp only at H4
  clear HL HRE hR hop
  rcases hop2 with rfl | rfl | rfl
  all_goals
   go_enter Tryz.func186, Tryz.ntmps186
   go_upto_region 1 with fail
   rw [HW0.out]
   obtain ⟨x0, x1, x2, xf⟩ := N0.out
   go_wp2_with fail
   refine (H4.out w0).mono ?_
   rintro e w3 ⟨rfl, hb3⟩
   have B3 := hid (B0.out.trans (hb3.mono B0.out.size))
   have R3 := hid (R0.out.below hb3)
   have z5 := R3.out.lt
   clear hb3 x0 x1 x2 xf
   obtain ⟨r0, r1, r2, rf⟩ := R3.out
   go_wp2
   have Y9 := R3.out.set (.int .i64 bk) (.int .i64 bn) (.string bs)
   exact bodyPost_ret (v := .tuple #[.agg #[.int .i64 bk, .int .i64 bn, .string bs], .int .i64 be]) (by simp [results, Tryz.results186, go_sem, Y9.c0, Y9.c1, Y9.c2]) rfl ⟨rfl, set3_below B3.out (by omega) _ _ _⟩
end Go.Proofs.YthpmgnfmeldkjaaGreatDoor.Code
/-
  A node's kind by its Kids' kinds, as the program tells it, in plain words.
-/
namespace Go.Proofs.YthpmgnfmeldkjaaGreatDoor.Code
open Val
theorem form_split {op tx : List UInt8} {n : Nat} (h : formB op tx n = true) : kidsN op = some n ∧ (tx = [] ∨ op ∈ [sNum, sText, sCol]) := by
 unfold formB at h
 rw [Bool.and_eq_true, Bool.or_eq_true, decide_eq_true_eq, decide_eq_true_eq, decide_eq_true_eq] at h
 exact h
theorem type_bad {cols : List W} {op tx : List UInt8} {l : List Int} (h : formB op tx l.length = false) : typeT cols op tx l = (0, 1) := by
 unfold typeT
 rw [if_pos]
 unfold formB at h
 rw [Bool.and_eq_false_iff, Bool.or_eq_false_iff, decide_eq_false_iff_not, decide_eq_false_iff_not, decide_eq_false_iff_not] at h
 exact h
theorem type_good {cols : List W} {op tx : List UInt8} {l : List Int} (h : formB op tx l.length = true) : ¬ (kidsN op ≠ some l.length ∨ (tx ≠ [] ∧ op ∉ [sNum, sText, sCol])) := by
 obtain ⟨h1, h2⟩ := form_split h
 rintro (h3 | ⟨h3, h4⟩)
 ·exact h3 h1
 ·rcases h2 with h2 | h2
  ·exact h3 h2
  ·exact h4 h2
theorem type_lit {cols : List W} {op tx : List UInt8} {l : List Int} (hop : op ∈ lits) (h : formB op tx l.length = true) : l = [] ∧ typeT cols op tx l = ((litT op tx).1.1, (litT op tx).2) := by
 have hk := (form_split h).1
 have h0 : kidsN op = some 0 ∧ op ≠ sCol := by
  simp only [lits, List.mem_cons, List.not_mem_nil, or_false] at hop
  rcases hop with rfl | rfl | rfl | rfl | rfl <;> decide
 rw [h0.1] at hk
 have hl : l = [] := List.eq_nil_of_length_eq_zero (Option.some.inj hk).symm
 subst hl
 refine ⟨rfl, ?_⟩
 unfold typeT
 rw [if_neg (type_good (cols := cols) (l := []) h)]
 dsimp only
 rw [if_neg h0.2]
 unfold litT
 cases litL op tx <;> rfl
theorem type_col {cols : List W} {tx : List UInt8} {l : List Int} (h : formB sCol tx l.length = true) : typeT cols sCol tx l = colK cols tx := by
 have hk := (form_split h).1
 rw [kidsN_col] at hk
 have hl : l = [] := List.eq_nil_of_length_eq_zero (Option.some.inj hk).symm
 subst hl
 unfold typeT
 rw [if_neg (type_good (cols := cols) (l := []) h)]
 dsimp only
 rw [if_pos rfl]
theorem kone_of {l : List Int} (h : l.length = 1) : ∃ a, l = [a] := by
 match l, h with
 | [a], _ => exact ⟨a, rfl⟩
theorem ktwo_of {l : List Int} (h : l.length = 2) : ∃ a b, l = [a, b] := by
 match l, h with
 | [a, b], _ => exact ⟨a, b, rfl⟩
theorem numK_cases {a : Int} (h : numK a = true) : a = 0 ∨ a = 2 ∨ a = 3 := by
 unfold numK at h
 simp at h
 omega
theorem widest_one {a : Int} (h : numK a = true) : widestK [a] = a := by rcases numK_cases h with rfl | rfl | rfl <;> decide
theorem widest_two {a b : Int} (h : numK a = true) (g : numK b = true) : widestK [a, b] = if a = 0 ∨ b = 3 then b else a := by
 rcases numK_cases h with rfl | rfl | rfl <;> rcases numK_cases g with rfl | rfl | rfl <;> decide
theorem type_num {cols : List W} {op tx : List UInt8} {l : List Int} (hop : op = sNeg ∨ op ∈ sums) (h : formB op tx l.length = true) : typeT cols op tx l = (if l.all numK = true then widestK l else 0, if l.all numK = true then 0 else 131) := by
 have hk := (form_split h).1
 have hg := type_good (cols := cols) h
 rcases hop with rfl | hop
 ·obtain ⟨a, rfl⟩ := kone_of (Option.some.inj (hk.symm.trans (show kidsN sNeg = some 1 by decide)))
  unfold typeT
  rw [if_neg hg]
  dsimp only
  rw [if_neg (by decide)]
  have e : [a].all numK = numK a := by simp
  rw [e]
  cases ha : numK a
  ·rw [if_neg (fun h => by simp at h), if_neg (fun h => absurd h.1 (by decide))]
   rfl
  ·rw [if_pos ⟨rfl, rfl⟩, if_pos rfl, if_pos rfl, widest_one ha]
 ·have h2 : kidsN op = some 2 := by
   simp only [sums, List.mem_cons, List.not_mem_nil, or_false] at hop
   rcases hop with rfl | rfl | rfl <;> decide
  obtain ⟨a, b, rfl⟩ := ktwo_of (Option.some.inj (hk.symm.trans h2))
  obtain ⟨d1, d2, -⟩ := sums_apart op hop
  unfold typeT
  rw [if_neg hg]
  dsimp only
  unfold twoT
  have e : [a, b].all numK = (numK a && numK b) := by simp
  rw [e]
  cases ha : numK a
  ·rw [if_neg (fun h => by simp at h), if_neg (fun h => d1 h.1), if_neg (fun h => d2 h.1)]
   rfl
  ·cases hb : numK b
   ·rw [if_neg (fun h => by simp at h), if_neg (fun h => d1 h.1), if_neg (fun h => d2 h.1)]
    rfl
   ·rw [if_pos ⟨hop, rfl, rfl⟩, Bool.and_self, if_pos rfl, if_pos rfl, widest_two ha hb]
    split <;> rfl
theorem truK_cases {a : Int} (h : truK a = true) : a = 0 ∨ a = 1 := by
 unfold truK at h
 simp at h
 omega
theorem type_log {cols : List W} {op tx : List UInt8} {l : List Int} (hop : op = sNot ∨ op ∈ [sAnd, sOr]) (h : formB op tx l.length = true) : typeT cols op tx l = (if l.all truK = true then (1, 0) else (0, 131)) ∧ (l.all truK = true → alikeK l = true) := by
 have hk := (form_split h).1
 have hg := type_good (cols := cols) h
 rcases hop with rfl | hop
 ·obtain ⟨a, rfl⟩ := kone_of (Option.some.inj (hk.symm.trans (show kidsN sNot = some 1 by decide)))
  have e : [a].all truK = truK a := by simp
  rw [e]
  unfold typeT
  rw [if_neg hg]
  dsimp only
  rw [if_neg (by decide), if_neg (fun h => absurd h.1 (by decide))]
  constructor
  ·cases ha : truK a
   ·rw [if_neg (fun h => by simp at h), if_neg (by decide)]
   ·rw [if_pos ⟨rfl, rfl⟩, if_pos rfl]
  ·intro h
   rcases truK_cases h with rfl | rfl <;> decide
 ·have h2 : kidsN op = some 2 := by
   simp only [List.mem_cons, List.not_mem_nil, or_false] at hop
   rcases hop with rfl | rfl <;> decide
  have d : op ∉ sums ∧ op ∉ tests := by
   simp only [List.mem_cons, List.not_mem_nil, or_false] at hop
   rcases hop with rfl | rfl <;> decide
  obtain ⟨a, b, rfl⟩ := ktwo_of (Option.some.inj (hk.symm.trans h2))
  have e : [a, b].all truK = (truK a && truK b) := by simp
  rw [e]
  unfold typeT
  rw [if_neg hg]
  dsimp only
  unfold twoT
  rw [if_neg (fun h => d.1 h.1), if_neg (fun h => d.2 h.1)]
  constructor
  ·cases ha : truK a
   ·rw [if_neg (fun h => by simp at h)]; rfl
   ·cases hb : truK b
    ·rw [if_neg (fun h => by simp at h)]; rfl
    ·rw [if_pos ⟨hop, rfl, rfl⟩]; rfl
  ·intro h
   rw [Bool.and_eq_true] at h
   rcases truK_cases h.1 with rfl | rfl <;> rcases truK_cases h.2 with rfl | rfl <;> decide
theorem type_test {cols : List W} {op tx : List UInt8} {l : List Int} (hop : op ∈ tests) (h : formB op tx l.length = true) : typeT cols op tx l = if alikeK l = true then (1, 0) else (0, 131) := by
 have hk := (form_split h).1
 have hg := type_good (cols := cols) h
 have h2 : kidsN op = some 2 := by
  simp only [tests, List.mem_cons, List.not_mem_nil, or_false] at hop
  rcases hop with rfl | rfl | rfl | rfl | rfl | rfl <;> decide
 obtain ⟨d1, d2, -⟩ := tests_apart op hop
 obtain ⟨a, b, rfl⟩ := ktwo_of (Option.some.inj (hk.symm.trans h2))
 unfold typeT
 rw [if_neg hg]
 dsimp only
 unfold twoT
 rw [if_neg (fun h => d1 h.1)]
 have e : alikeK [a, b] = true ↔ (a = b ∨ a = 0 ∨ b = 0 ∨ (numK a = true ∧ numK b = true)) := by
  unfold alikeK
  simp only [List.any_cons, List.any_nil, List.all_cons, List.all_nil, Bool.or_eq_true, Bool.and_eq_true, beq_iff_eq, List.getD_cons_zero, Bool.or_false, Bool.and_true]
  constructor
  ·rintro ((h | h) | h)
   ·rcases h with h | h
    ·exact .inr (.inl h.symm)
    ·exact .inr (.inr (.inl h.symm))
   ·exact .inr (.inr (.inr h))
   ·exact .inl h.2.symm
  ·rintro (h | h | h | h)
   ·exact .inr ⟨by first | exact rfl | exact trivial, h.symm⟩
   ·exact .inl (.inl (.inl h.symm))
   ·exact .inl (.inl (.inr h.symm))
   ·exact .inl (.inr h)
 by_cases h9 : alikeK [a, b] = true
 ·rw [if_pos ⟨hop, e.1 h9⟩, if_pos h9]
 ·rw [if_neg (fun h => h9 (e.2 h.2)), if_neg h9, if_neg (fun h => d2 h.1)]
theorem type_is0 {cols : List W} {tx : List UInt8} {l : List Int} (h : formB sIsNull tx l.length = true) : typeT cols sIsNull tx l = (1, 0) := by
 have hk := (form_split h).1
 have hg := type_good (cols := cols) h
 obtain ⟨a, rfl⟩ := kone_of (Option.some.inj (hk.symm.trans (show kidsN sIsNull = some 1 by decide)))
 unfold typeT
 rw [if_neg hg]
 dsimp only
 rw [if_pos rfl]
open Go.ChangeShapes Go.WideShapes Go.ChangeAt Go.RowKit Elems
def KindPost (w : World) (r : Int × Int) (e : Ending) (w' : World) : Prop := e = .returned (.tuple #[.int .i64 r.1, .int .i64 r.2]) ∧ Below w.heap.size w w'
theorem kind_as {w w' : World} {r : Int × Int} {a b : Int} (h : r = (a, b)) (hb : Below w.heap.size w w') : KindPost w r (.returned (.tuple #[.int .i64 a, .int .i64 b])) w' := by subst h; exact ⟨rfl, hb⟩
theorem colK_none {cols : List W} {tx : List UInt8} (h : findZ cols tx < 0) : colK cols tx = (0, 121) := by
 unfold findZ at h
 unfold colK
 cases hf : findC cols tx with
 | none => rfl
 | some i => rw [hf] at h; exact absurd h (by show ¬ ((i : Int) < 0); omega)
theorem colK_some {cols : List W} {tx : List UInt8} (h : ¬ findZ cols tx < 0) : ∃ (i : Nat) (hi : i < cols.length), findZ cols tx = (i : Int) ∧ findC cols tx = some i ∧ colK cols tx = (cols[i].2.2, 0) := by
 unfold findZ at h ⊢
 unfold colK
 cases hf : findC cols tx with
 | none => rw [hf] at h; exact absurd (show (-1 : Int) < 0 by decide) h
 | some i =>
  obtain ⟨hi, _⟩ := find_some hf
  refine ⟨i, hi, rfl, rfl, ?_⟩
  show ((cols.getD i (0, [], 0)).2.2, (0 : Int)) = _
  rw [List.getD_eq_getElem?_getD, List.getElem?_eq_getElem hi]
  rfl
theorem kind_any (op tx : ByteArray) (X : Option Addr) (n k : Nat) (A : Option Addr) (ca : Nat) (cols : List W) (B : Option Addr) (cb : Nat) (l : List Int) (w : World) (hv : At wc 3 w w.heap.size A cols) (hcl : cols.length ≤ 4194304) (hi : Ints w w.heap.size B l) (hl : l.length = n) (hn : n ≤ 2600000000000) :
  Calls Tryz.prog 153 #[.agg #[.string op, .string tx, .slice X n k], .slice A cols.length ca, .slice B n cb] w (KindPost w (typeT cols op.data.toList tx.data.toList l)) := by
 obtain ⟨w0, hw0⟩ : ∃ w0, w.alloc (.cells #[.string op, .string tx, .slice X n k] 24) = w0 := ⟨_, rfl⟩
 have B0 := hid (show Below w.heap.size w w0 by rw [← hw0]; exact below_alloc w _)
 have N0 := hid (show NBox w0 w.heap.size (.string op) (.string tx) (.slice X n k) by rw [← hw0]; exact NBox.fresh _ _ _ _ _)
 have HF := hid (formed_any op tx X n k w0 hn)
 have HV := hid (fun (w' : World) (hb : Below w.heap.size w w') => (hv.below hb).more hb.size)
 have HI := hid (fun (w' : World) (hb : Below w.heap.size w w') => (hi.below hb).more hb.size)
 obtain ⟨fb, hfb⟩ : ∃ fb, formB op.data.toList tx.data.toList n = fb := ⟨_, rfl⟩
 rw [hfb] at HF
 have HW0 := hid hw0
 have hz : w.heap.size < w0.heap.size := by rw [← hw0]; simp
 clear hw0 hv hi
 subst hl
 cases fb
 case false =>
  have HT := hid (type_bad (cols := cols) hfb)
  clear hfb
  go_enter Tryz.func153, Tryz.ntmps153
  go_upto_region 1 with fail
  rw [HW0.out]
  obtain ⟨x0, x1, x2, xf⟩ := N0.out
  go_wp2_with fail
  refine HF.out.mono ?_
  rintro e w1 ⟨rfl, hb1⟩
  have B1 := hid (B0.out.trans (hb1.mono B0.out.size))
  clear hb1
  go_wp2
  go_ret2
  exact kind_as HT.out B1.out
 have HFB := hid hfb
 by_cases hlit : op.data.toList ∈ lits
 ·obtain ⟨hl0, ht⟩ := type_lit (cols := cols) hlit hfb
  have HT := hid ht
  have hl9 : l.length = 0 := by rw [hl0]; rfl
  rw [hl9] at HF HW0 N0 ⊢
  have HL := hid (fun w' => clit_any op tx hlit X k w')
  unfold SumPost at HL
  obtain ⟨R, hR⟩ : ∃ R, litT op.data.toList tx.data.toList = R := ⟨_, rfl⟩
  rw [hR] at HL HT
  obtain ⟨⟨vk, vn, vs⟩, ve⟩ := R
  dsimp only at HL HT
  rw [HT.out]
  clear hR ht hl0 hl9 hfb HFB HT
  rcases lits_cases hlit with rfl | rfl | rfl | rfl | rfl
  all_goals
   clear hlit
   go_enter Tryz.func153, Tryz.ntmps153
   go_upto_region 1 with fail
   rw [HW0.out]
   obtain ⟨x0, x1, x2, xf⟩ := N0.out
   go_wp2_with fail
   refine HF.out.mono ?_
   rintro e w1 ⟨rfl, hb1⟩
   have B1 := hid (B0.out.trans (hb1.mono B0.out.size))
   have N1 := hid (N0.out.below hb1)
   have z1 := N1.out.lt
   clear hb1 x0 x1 x2 xf
   obtain ⟨x0, x1, x2, xf⟩ := N1.out
   go_wp2_with fail
   refine (HL.out w1).mono ?_
   rintro e w2 ⟨rfl, hb2⟩
   have B2 := hid ((B1.out.trans (hb2.mono B1.out.size)).alloc (Nat.le_trans B1.out.size hb2.size) (.cells #[.int .i64 vk, .int .i64 vn, .string vs] 159))
   clear hb2 x0 x1 x2 xf
   go_wp2
   go_ret2
   exact kind_as rfl B2.out
 by_cases hcol : op.data.toList = [99, 111, 108]
 ·obtain rfl : op = ⟨#[99, 111, 108]⟩ := by rw [← Lib.mk_data op, hcol]
  have HT := hid (show typeT cols (ByteArray.data ⟨#[99, 111, 108]⟩).toList tx.data.toList l = colK cols tx.data.toList from type_col (cols := cols) hfb)
  rw [HT.out]
  have HS := hid (fun (w' : World) (hb : Below w.heap.size w w') => sfind_any A ca cols tx w' (HV.out w' hb) hcl)
  unfold FindPost at HS
  have HCN := hid (fun h => colK_none (cols := cols) (tx := tx.data.toList) h)
  have HCS := hid (fun h => colK_some (cols := cols) (tx := tx.data.toList) h)
  obtain ⟨z, hz9⟩ : ∃ z, findZ cols tx.data.toList = z := ⟨_, rfl⟩
  rw [hz9] at HS HCN HCS
  clear hcol hlit HT hfb HFB hz9
  go_enter Tryz.func153, Tryz.ntmps153
  go_upto_region 1 with fail
  rw [HW0.out]
  obtain ⟨x0, x1, x2, xf⟩ := N0.out
  go_wp2_with fail
  refine HF.out.mono ?_
  rintro e w1 ⟨rfl, hb1⟩
  have B1 := hid (B0.out.trans (hb1.mono B0.out.size))
  have N1 := hid (N0.out.below hb1)
  have z1 := N1.out.lt
  clear hb1 x0 x1 x2 xf
  obtain ⟨x0, x1, x2, xf⟩ := N1.out
  go_wp2_with fail
  refine (HS.out w1 B1.out).mono ?_
  rintro e w2 ⟨rfl, hb2⟩
  have B2 := hid (B1.out.trans (hb2.mono B1.out.size))
  clear hb2 x0 x1 x2 xf
  by_cases hneg : z < 0
  ·have e1 : decide (0 ≤ z) = false := by simp; omega
   have HX := hid (HCN.out hneg)
   obtain ⟨m, hm⟩ : ∃ m, max z 0 = m := ⟨_, rfl⟩
   simp only [hm, e1]
   clear hneg hm
   go_wp2
   go_ret2
   exact kind_as HX.out B2.out
  ·have e1 : decide (0 ≤ z) = true := by simp; omega
   obtain ⟨i, hi9, hzi, -, hX⟩ := HCS.out (by first | exact hneg | omega)
   have HX := hid hX
   obtain ⟨ad, rfl, ga, c0, c1, c2⟩ := at_word (HV.out w2 B2.out) i hi9
   obtain ⟨x, hx⟩ : ∃ x, cols[i].2.2 = x := ⟨_, rfl⟩
   rw [hx] at c2 HX
   have hm : max z 0 = (i : Int) := by rw [hzi]; omega
   simp only [hm, e1]
   have hil : i < cols.length := hi9
   clear hneg hm hzi hX hx
   go_wp2
   go_ret2
   exact kind_as HX.out B2.out
 by_cases hnum : op.data.toList = sNeg ∨ op.data.toList ∈ sums
 ·have HT := hid (type_num (cols := cols) hnum hfb)
  rw [HT.out]
  have HN := hid (fun (w' : World) (hb : Below w.heap.size w w') => cnumber_any B cb l w' (HI.out w' hb) hn)
  obtain ⟨a9, ha9⟩ : ∃ a9, (if l.all numK = true then widestK l else 0) = a9 := ⟨_, rfl⟩
  obtain ⟨b9, hb9⟩ : ∃ b9, (if l.all numK = true then (0 : Int) else 131) = b9 := ⟨_, rfl⟩
  rw [ha9, hb9] at HN ⊢
  have hcs : op = ⟨#[110, 101, 103]⟩ ∨ op = ⟨#[43]⟩ ∨ op = ⟨#[45]⟩ ∨ op = ⟨#[42]⟩ := by
   have h : op.data.toList = [110, 101, 103] ∨ op.data.toList = [43] ∨ op.data.toList = [45] ∨ op.data.toList = [42] := by simpa [sums, sNeg] using hnum
   rcases h with h | h | h | h <;> (rw [← Lib.mk_data op, h]; simp)
  clear hnum HT ha9 hb9 hfb HFB hlit hcol
  rcases hcs with rfl | rfl | rfl | rfl
  all_goals
   go_enter Tryz.func153, Tryz.ntmps153
   go_upto_region 1 with fail
   rw [HW0.out]
   obtain ⟨x0, x1, x2, xf⟩ := N0.out
   go_wp2_with fail
   refine HF.out.mono ?_
   rintro e w1 ⟨rfl, hb1⟩
   have B1 := hid (B0.out.trans (hb1.mono B0.out.size))
   have N1 := hid (N0.out.below hb1)
   have z1 := N1.out.lt
   clear hb1 x0 x1 x2 xf
   obtain ⟨x0, x1, x2, xf⟩ := N1.out
   go_wp2_with fail
   refine (HN.out w1 B1.out).mono ?_
   rintro e w2 ⟨rfl, hb2⟩
   have B2 := hid (B1.out.trans (hb2.mono B1.out.size))
   clear hb2 x0 x1 x2 xf
   go_wp2
   go_ret2
   exact kind_as rfl B2.out
 by_cases hlog : op.data.toList = sNot ∨ op.data.toList ∈ [sAnd, sOr]
 ·have HT := hid (type_log (cols := cols) hlog hfb)
  rw [HT.out.1]
  have HA := hid (fun (w' : World) (hb : Below w.heap.size w w') => all_any 189 (enters_of Tryz.func189 (by kernel_rfl) rfl) #[] truK B cb l w' (HI.out w' hb) hn (truth_ask w'))
  have HK := hid (fun (w' : World) (hb : Below w.heap.size w w') => alike_any B cb l w' (HI.out w' hb) hn)
  have HTK := hid HT.out.2
  obtain ⟨a9, ha9⟩ : ∃ a9, l.all truK = a9 := ⟨_, rfl⟩
  rw [ha9] at HA HTK ⊢
  obtain ⟨R, hR⟩ : ∃ R : Int × Int, (if a9 = true then (1, 0) else (0, 131)) = R := ⟨_, rfl⟩
  have HR1 := hid (show a9 = true → R = (1, 0) from fun h => by rw [← hR, if_pos h])
  have HR0 := hid (show a9 = false → R = (0, 131) from fun h => by rw [← hR, if_neg (by rw [h]; decide)])
  rw [hR]
  clear hR
  have hcs : op = ⟨#[110, 111, 116]⟩ ∨ op = ⟨#[97, 110, 100]⟩ ∨ op = ⟨#[111, 114]⟩ := by
   have h : op.data.toList = [110, 111, 116] ∨ op.data.toList = [97, 110, 100] ∨ op.data.toList = [111, 114] := by simpa [sNot, sAnd, sOr] using hlog
   rcases h with h | h | h <;> (rw [← Lib.mk_data op, h]; simp)
  clear hlog HT ha9 hfb HFB hlit hcol hnum
  rcases hcs with rfl | rfl | rfl
  all_goals
   go_enter Tryz.func153, Tryz.ntmps153
   go_upto_region 1 with fail
   rw [HW0.out]
   obtain ⟨x0, x1, x2, xf⟩ := N0.out
   go_wp2_with fail
   refine HF.out.mono ?_
   rintro e w1 ⟨rfl, hb1⟩
   have B1 := hid (B0.out.trans (hb1.mono B0.out.size))
   have N1 := hid (N0.out.below hb1)
   have z1 := N1.out.lt
   clear hb1 x0 x1 x2 xf
   obtain ⟨x0, x1, x2, xf⟩ := N1.out
   go_wp2_with fail
   refine (HA.out w1 B1.out).mono ?_
   rintro e w2 ⟨rfl, hb2⟩
   have B2 := hid (B1.out.trans (hb2.mono B1.out.size))
   clear hb2 x0 x1 x2 xf
   cases a9
   ·have E0 := hid (HR0.out (by first | exact rfl | exact trivial))
    go_wp2
    go_ret2
    exact kind_as E0.out B2.out
   ·have E0 := hid (HR1.out (by first | exact rfl | exact trivial))
    have e5 := HTK.out (by first | exact rfl | exact trivial)
    have HK2 := HK.out w2 B2.out
    rw [e5] at HK2
    clear e5
    go_wp2_with fail
    refine HK2.mono ?_
    rintro e w3 ⟨rfl, hb3⟩
    have B3 := hid (B2.out.trans (hb3.mono B2.out.size))
    clear hb3
    go_wp2
    go_ret2
    exact kind_as E0.out B3.out
 by_cases htst : op.data.toList ∈ tests
 ·have HT := hid (type_test (cols := cols) (tx := tx.data.toList) htst hfb)
  rw [HT.out]
  have HK := hid (fun (w' : World) (hb : Below w.heap.size w w') => alike_any B cb l w' (HI.out w' hb) hn)
  obtain ⟨a9, ha9⟩ : ∃ a9, alikeK l = a9 := ⟨_, rfl⟩
  rw [ha9] at HK ⊢
  obtain ⟨R, hR⟩ : ∃ R : Int × Int, (if a9 = true then (1, 0) else (0, 131)) = R := ⟨_, rfl⟩
  have HR1 := hid (show a9 = true → R = (1, 0) from fun h => by rw [← hR, if_pos h])
  have HR0 := hid (show a9 = false → R = (0, 131) from fun h => by rw [← hR, if_neg (by rw [h]; decide)])
  rw [hR]
  clear hR
  have hcs : op = ⟨#[61]⟩ ∨ op = ⟨#[60, 62]⟩ ∨ op = ⟨#[60]⟩ ∨ op = ⟨#[60, 61]⟩ ∨ op = ⟨#[62]⟩ ∨ op = ⟨#[62, 61]⟩ := by
   have h : op.data.toList = [61] ∨ op.data.toList = [60, 62] ∨ op.data.toList = [60] ∨ op.data.toList = [60, 61] ∨ op.data.toList = [62] ∨ op.data.toList = [62, 61] := by simpa [tests] using htst
   rcases h with h | h | h | h | h | h <;> (rw [← Lib.mk_data op, h]; simp)
  clear htst HT ha9 hfb HFB hlit hcol hnum hlog
  rcases hcs with rfl | rfl | rfl | rfl | rfl | rfl
  all_goals
   go_enter Tryz.func153, Tryz.ntmps153
   go_upto_region 1 with fail
   rw [HW0.out]
   obtain ⟨x0, x1, x2, xf⟩ := N0.out
   go_wp2_with fail
   refine HF.out.mono ?_
   rintro e w1 ⟨rfl, hb1⟩
   have B1 := hid (B0.out.trans (hb1.mono B0.out.size))
   have N1 := hid (N0.out.below hb1)
   have z1 := N1.out.lt
   clear hb1 x0 x1 x2 xf
   obtain ⟨x0, x1, x2, xf⟩ := N1.out
   go_wp2_with fail
   refine (HK.out w1 B1.out).mono ?_
   rintro e w2 ⟨rfl, hb2⟩
   have B2 := hid (B1.out.trans (hb2.mono B1.out.size))
   clear hb2 x0 x1 x2 xf
   cases a9
   ·have E0 := hid (HR0.out (by first | exact rfl | exact trivial))
    go_wp2
    go_ret2
    exact kind_as E0.out B2.out
   ·have E0 := hid (HR1.out (by first | exact rfl | exact trivial))
    go_wp2
    go_ret2
    exact kind_as E0.out B2.out
 have his : op.data.toList = sIsNull := by
  have hk := (form_split hfb).1
  by_cases h9 : op.data.toList = sIsNull
  ·exact h9
  ·exfalso
   rw [kidsN_no (op := op.data.toList) (fun h => hlog (.inr (by rw [h]; decide))) (fun h => hlog (.inr (by rw [h]; decide))) (fun h => htst (by rw [h]; decide)) (fun h => htst (by rw [h]; decide)) (fun h => htst (by rw [h]; decide)) (fun h => htst (by rw [h]; decide)) (fun h => htst (by rw [h]; decide)) (fun h => htst (by rw [h]; decide)) (fun h => hnum (.inr (by rw [h]; decide))) (fun h => hnum (.inr (by rw [h]; decide))) (fun h => hnum (.inr (by rw [h]; decide))) (fun h => hlog (.inl h)) (fun h => hnum (.inl h)) h9 (fun h => hlit (by rw [h]; decide)) (fun h => hlit (by rw [h]; decide)) (fun h => hlit (by rw [h]; decide)) (fun h => hlit (by rw [h]; decide)) (fun h => hlit (by rw [h]; decide)) hcol] at hk
   cases hk
 obtain rfl : op = ⟨#[105, 115, 32, 110, 117, 108, 108]⟩ := by rw [← Lib.mk_data op, his]; rfl
 have HT := hid (show typeT cols (ByteArray.data ⟨#[105, 115, 32, 110, 117, 108, 108]⟩).toList tx.data.toList l = (1, 0) from type_is0 (cols := cols) hfb)
 rw [HT.out]
 clear his HT hfb HFB hlit hcol hnum hlog htst
 go_enter Tryz.func153, Tryz.ntmps153
 go_upto_region 1 with fail
 rw [HW0.out]
 obtain ⟨x0, x1, x2, xf⟩ := N0.out
 go_wp2_with fail
 refine HF.out.mono ?_
 rintro e w1 ⟨rfl, hb1⟩
 have B1 := hid (B0.out.trans (hb1.mono B0.out.size))
 have N1 := hid (N0.out.below hb1)
 have z1 := N1.out.lt
 clear hb1 x0 x1 x2 xf
 obtain ⟨x0, x1, x2, xf⟩ := N1.out
 go_wp2
 go_ret2
 exact kind_as rfl B1.out
end Go.Proofs.YthpmgnfmeldkjaaGreatDoor.Code
