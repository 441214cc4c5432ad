/-
  The program's ddl.literal, ddl.Literal and calc's literal, of a node with a literal's Op and no Kids.
-/
import Derived.Test.YtkibacolnagkcaaM23
namespace Go.Proofs.Ytkibacolnagkcaa.Code
open Go.ChangeShapes Go.WideShapes Go.ChangeAt Go.RowKit Val Elems
set_option linter.unusedVariables false
set_option linter.unusedSimpArgs false
theorem lits_cases {op : ByteArray} (hop : op.data.toList ∈ lits) : op = ⟨#[110, 117, 109]⟩ ∨ op = ⟨#[116, 101, 120, 116]⟩ ∨ op = ⟨#[116, 114, 117, 101]⟩ ∨ op = ⟨#[102, 97, 108, 115, 101]⟩ ∨ op = ⟨#[110, 117, 108, 108]⟩ := by
  have h : op.data.toList = [110, 117, 109] ∨ op.data.toList = [116, 101, 120, 116] ∨ op.data.toList = [116, 114, 117, 101] ∨ op.data.toList = [102, 97, 108, 115, 101] ∨ op.data.toList = [110, 117, 108, 108] := by simpa [lits, sNum, sText, sTrue, sFalse, sNull] using hop
  rcases h with h | h | h | h | h
  all_goals
    rw [← Lib.mk_data op, h]
    simp
theorem ok_if {w w' : World} {r : Option CV} {k n : Int} {s : ByteArray} {p : Bool} (h : r = if p = true then some (k, n, s) else none) (hb : Below w.heap.size w w') : OkPost w r (.returned (.tuple #[.agg #[.int .i64 k, .int .i64 n, .string s], .bool p])) w' := by
  cases p
  · exact ok_none (by rw [h]; rfl) hb
  · exact ok_some (by rw [h]; rfl) hb
theorem lset_far {w : World} {g : Nat} {a b c : Value} (h : NBox w g a b c) (p : Addr) (hp : p.block ≠ g) (z : Value) : NBox (w.setCell p z) g a b c :=
  ⟨(World.cell?_setCell_other _ _ _ _ (fun e => hp (by rw [e]))).trans h.c0, (World.cell?_setCell_other _ _ _ _ (fun e => hp (by rw [e]))).trans h.c1, (World.cell?_setCell_other _ _ _ _ (fun e => hp (by rw [e]))).trans h.c2, fun j => by rw [World.frozen?_setCell]; exact h.fr j⟩
theorem lset_zero {w : World} {g : Nat} {a b c : Value} (h : NBox w g a b c) (z : Value) : NBox (w.setCell ⟨g, 0, none⟩ z) g z b c :=
  ⟨World.cell?_setCell_same _ _ _ h.c0, (World.cell?_setCell_other _ _ _ _ (by simp)).trans h.c1, (World.cell?_setCell_other _ _ _ _ (by simp)).trans h.c2, fun j => by rw [World.frozen?_setCell]; exact h.fr j⟩
theorem lset_one {w : World} {g : Nat} {a b c : Value} (h : NBox w g a b c) (z : Value) : NBox (w.setCell ⟨g, 1, none⟩ z) g a z c :=
  ⟨(World.cell?_setCell_other _ _ _ _ (by simp)).trans h.c0, World.cell?_setCell_same _ _ _ h.c1, (World.cell?_setCell_other _ _ _ _ (by simp)).trans h.c2, fun j => by rw [World.frozen?_setCell]; exact h.fr j⟩
set_option maxHeartbeats 8000000 in
set_option maxRecDepth 100000 in
theorem dlit_any (op tx : ByteArray) (hop : op.data.toList ∈ lits) (X : Option Addr) (k : Nat) (w : World) : Calls Try.prog 72 #[.agg #[.string op, .string tx, .slice X 0 k]] w (OkPost w (litD op.data.toList tx.data.toList)) := by
  obtain ⟨w0, hw0⟩ : ∃ w0, (w.alloc (.cells #[.string op, .string tx, .slice X 0 k] 24)).alloc (.cells #[.int .i64 0, .int .i64 0, .string ⟨#[]⟩] 38) = w0 := ⟨_, rfl⟩
  have B0 := Lib.hid (show Below w.heap.size w w0 by rw [← hw0]; exact (below_alloc w _).alloc (by simp) _)
  have N0 := Lib.hid (show NBox w0 w.heap.size (.string op) (.string tx) (.slice X 0 k) by rw [← hw0]; exact ⟨by simp [go_sem], by simp [go_sem], by simp [go_sem], fun j => by simp [go_sem]⟩)
  have R0 := Lib.hid (show NBox w0 (w.heap.size + 1) (.int .i64 0) (.int .i64 0) (.string ⟨#[]⟩) by rw [← hw0]; exact ⟨by simp [go_sem], by simp [go_sem], by simp [go_sem], fun j => by simp [go_sem]⟩)
  have HI := Lib.hid (isLiteral_any op tx hop X k w0)
  have HNU := Lib.hid (fun w' => dnumber_any tx w')
  have HW0 := Lib.hid hw0
  obtain ⟨p, hp⟩ : ∃ p, (tx.toList == []) = p := ⟨_, rfl⟩
  have hpe : tx.data.isEmpty = p := by rw [← hp, ByteArray.toList_eq, Bool.eq_iff_iff]; simp
  have HLT := Lib.hid (show ∀ v : CV, (if tx.data.toList ≠ [] then none else some v) = if p = true then some v else none by
    intro v
    have : (tx.data.toList = []) ↔ p = true := by rw [← hp, ByteArray.toList_eq]; simp
    by_cases h : tx.data.toList = []
    · rw [if_neg (fun h2 => h2 h), if_pos (this.1 h)]
    · rw [if_pos h, if_neg (fun h2 => h (this.2 h2))])
  have hz : w.heap.size + 1 < w0.heap.size := by rw [← hw0]; simp
  clear hw0
  rcases lits_cases hop with rfl | rfl | rfl | rfl | rfl
  · clear hop
    go_enter Try.func72, Try.ntmps72
    go_upto_region 1 with fail
    rw [HW0.out]
    obtain ⟨x0, x1, x2, xf⟩ := N0.out
    go_wp2_with fail
    refine HI.out.mono ?_
    rintro e w1 ⟨rfl, hb1⟩
    obtain ⟨w2, hw2⟩ : ∃ w2, w1.alloc (.cells #[.int .i64 0, .int .i64 0, .string ⟨#[]⟩] 38) = w2 := ⟨_, rfl⟩
    have B1 := Lib.hid (B0.out.trans (hb1.mono B0.out.size))
    have B2 := Lib.hid (show Below w.heap.size w w2 by rw [← hw2]; exact B1.out.alloc B1.out.size _)
    have N2 := Lib.hid (show NBox w2 w.heap.size _ _ _ by rw [← hw2]; exact (N0.out.below hb1).alloc _)
    have R2 := Lib.hid (show NBox w2 (w.heap.size + 1) (.int .i64 0) (.int .i64 0) (.string ⟨#[]⟩) by rw [← hw2]; exact (R0.out.below hb1).alloc _)
    have V2 := Lib.hid (show NBox w2 w1.heap.size (.int .i64 0) (.int .i64 0) (.string ⟨#[]⟩) by rw [← hw2]; exact NBox.fresh _ _ _ _ _)
    have z2 : w1.heap.size < w2.heap.size := V2.out.lt
    have z3 : w.heap.size + 1 < w1.heap.size := Nat.lt_of_lt_of_le hz hb1.size
    have z4 : w.heap.size + 1 < w2.heap.size := R2.out.lt
    have HW2 := Lib.hid hw2
    clear hb1 hw2 x0 x1 x2 xf
    go_upto_region 4 with fail
    rw [HW2.out]
    obtain ⟨x0, x1, x2, xf⟩ := N2.out
    obtain ⟨y0, y1, y2, yf⟩ := V2.out
    obtain ⟨r0, r1, r2, rf⟩ := R2.out
    clear r0 r1 r2 rf
    go_wp2_with fail
    refine (HNU.out w2).mono ?_
    rintro e w3 ⟨⟨vk, vn, vs⟩, b, rfl, hor, hb3⟩
    have B3 := Lib.hid (B2.out.trans (hb3.mono B2.out.size))
    have R3 := Lib.hid (R2.out.below hb3)
    have z5 := R3.out.lt
    have HOR := Lib.hid hor
    clear hb3 hor x0 x1 x2 xf y0 y1 y2 yf
    obtain ⟨r0, r1, r2, rf⟩ := R3.out
    go_wp2
    have Y9 := R3.out.set (.int .i64 vk) (.int .i64 vn) (.string vs)
    exact bodyPost_ret (v := .tuple #[.agg #[.int .i64 vk, .int .i64 vn, .string vs], .bool b]) (by simp [results, Try.results72, go_sem, Y9.c0, Y9.c1, Y9.c2]) rfl ⟨(vk, vn, vs), b, rfl, HOR.out, set3_below B3.out (by omega) _ _ _⟩
  · clear hop
    go_enter Try.func72, Try.ntmps72
    go_upto_region 1 with fail
    rw [HW0.out]
    obtain ⟨x0, x1, x2, xf⟩ := N0.out
    go_wp2_with fail
    refine HI.out.mono ?_
    rintro e w1 ⟨rfl, hb1⟩
    obtain ⟨w2, hw2⟩ : ∃ w2, w1.alloc (.cells #[.int .i64 0, .int .i64 0, .string ⟨#[]⟩] 38) = w2 := ⟨_, rfl⟩
    have B1 := Lib.hid (B0.out.trans (hb1.mono B0.out.size))
    have B2 := Lib.hid (show Below w.heap.size w w2 by rw [← hw2]; exact B1.out.alloc B1.out.size _)
    have N2 := Lib.hid (show NBox w2 w.heap.size _ _ _ by rw [← hw2]; exact (N0.out.below hb1).alloc _)
    have R2 := Lib.hid (show NBox w2 (w.heap.size + 1) (.int .i64 0) (.int .i64 0) (.string ⟨#[]⟩) by rw [← hw2]; exact (R0.out.below hb1).alloc _)
    have V2 := Lib.hid (show NBox w2 w1.heap.size (.int .i64 0) (.int .i64 0) (.string ⟨#[]⟩) by rw [← hw2]; exact NBox.fresh _ _ _ _ _)
    have z2 : w1.heap.size < w2.heap.size := V2.out.lt
    have z3 : w.heap.size + 1 < w1.heap.size := Nat.lt_of_lt_of_le hz hb1.size
    have z4 : w.heap.size + 1 < w2.heap.size := R2.out.lt
    have HW2 := Lib.hid hw2
    clear hb1 hw2 x0 x1 x2 xf
    go_upto_region 4 with fail
    rw [HW2.out]
    obtain ⟨x0, x1, x2, xf⟩ := N2.out
    obtain ⟨y0, y1, y2, yf⟩ := V2.out
    obtain ⟨r0, r1, r2, rf⟩ := R2.out
    go_wp2
    have Y9 := R2.out.set (.int .i64 4) (.int .i64 0) (.string tx)
    exact bodyPost_ret (v := .tuple #[.agg #[.int .i64 4, .int .i64 0, .string tx], .bool true]) (by simp [results, Try.results72, go_sem, Y9.c0, Y9.c1, Y9.c2]) rfl (ok_some (by unfold litD; rw [if_neg (by decide), if_pos (by decide), Lib.mk_data]) (set3_below B2.out (by omega) _ _ _))
  · clear hop
    go_enter Try.func72, Try.ntmps72
    go_upto_region 1 with fail
    rw [HW0.out]
    obtain ⟨x0, x1, x2, xf⟩ := N0.out
    go_wp2_with fail
    refine HI.out.mono ?_
    rintro e w1 ⟨rfl, hb1⟩
    obtain ⟨w2, hw2⟩ : ∃ w2, w1.alloc (.cells #[.int .i64 0, .int .i64 0, .string ⟨#[]⟩] 38) = w2 := ⟨_, rfl⟩
    have B1 := Lib.hid (B0.out.trans (hb1.mono B0.out.size))
    have B2 := Lib.hid (show Below w.heap.size w w2 by rw [← hw2]; exact B1.out.alloc B1.out.size _)
    have N2 := Lib.hid (show NBox w2 w.heap.size _ _ _ by rw [← hw2]; exact (N0.out.below hb1).alloc _)
    have R2 := Lib.hid (show NBox w2 (w.heap.size + 1) (.int .i64 0) (.int .i64 0) (.string ⟨#[]⟩) by rw [← hw2]; exact (R0.out.below hb1).alloc _)
    have V2 := Lib.hid (show NBox w2 w1.heap.size (.int .i64 0) (.int .i64 0) (.string ⟨#[]⟩) by rw [← hw2]; exact NBox.fresh _ _ _ _ _)
    have z2 : w1.heap.size < w2.heap.size := V2.out.lt
    have z3 : w.heap.size + 1 < w1.heap.size := Nat.lt_of_lt_of_le hz hb1.size
    have z4 : w.heap.size + 1 < w2.heap.size := R2.out.lt
    have HW2 := Lib.hid hw2
    clear hb1 hw2 x0 x1 x2 xf
    go_upto_region 4 with fail
    rw [HW2.out]
    obtain ⟨x0, x1, x2, xf⟩ := N2.out
    obtain ⟨y0, y1, y2, yf⟩ := V2.out
    obtain ⟨r0, r1, r2, rf⟩ := R2.out
    go_upto_region 20 with fail
    have B3 := Lib.hid (show Below w.heap.size w ((w2.setCell ⟨w1.heap.size, 1, none⟩ (.int .i64 1)).setCell ⟨w1.heap.size, 0, none⟩ (.int .i64 1)) from (B2.out.setCell (p := ⟨w1.heap.size, 1, none⟩) B1.out.size _).setCell (p := ⟨w1.heap.size, 0, none⟩) B1.out.size _)
    have z5 : w.heap.size + 1 < ((w2.setCell ⟨w1.heap.size, 1, none⟩ (.int .i64 1)).setCell ⟨w1.heap.size, 0, none⟩ (.int .i64 1)).heap.size := by simp; omega
    have N3 := Lib.hid (show NBox ((w2.setCell ⟨w1.heap.size, 1, none⟩ (.int .i64 1)).setCell ⟨w1.heap.size, 0, none⟩ (.int .i64 1)) w.heap.size _ _ _ from lset_far (lset_far N2.out _ (by show w1.heap.size ≠ w.heap.size; omega) _) _ (by show w1.heap.size ≠ w.heap.size; omega) _)
    have R3 := Lib.hid (show NBox ((w2.setCell ⟨w1.heap.size, 1, none⟩ (.int .i64 1)).setCell ⟨w1.heap.size, 0, none⟩ (.int .i64 1)) (w.heap.size + 1) (.int .i64 0) (.int .i64 0) (.string ⟨#[]⟩) from lset_far (lset_far R2.out _ (by show w1.heap.size ≠ w.heap.size + 1; omega) _) _ (by show w1.heap.size ≠ w.heap.size + 1; omega) _)
    have V3 := Lib.hid (show NBox ((w2.setCell ⟨w1.heap.size, 1, none⟩ (.int .i64 1)).setCell ⟨w1.heap.size, 0, none⟩ (.int .i64 1)) w1.heap.size (.int .i64 1) (.int .i64 1) (.string ⟨#[]⟩) from lset_zero (lset_one V2.out _) _)
    clear x0 x1 x2 xf y0 y1 y2 yf r0 r1 r2 rf
    obtain ⟨w3, hw3⟩ : ∃ w3, (w2.setCell ⟨w1.heap.size, 1, none⟩ (.int .i64 1)).setCell ⟨w1.heap.size, 0, none⟩ (.int .i64 1) = w3 := ⟨_, rfl⟩
    simp only [hw3] at B3 z5 N3 R3 V3
    rw [hw3]
    clear hw3
    obtain ⟨x0, x1, x2, xf⟩ := N3.out
    obtain ⟨y0, y1, y2, yf⟩ := V3.out
    obtain ⟨r0, r1, r2, rf⟩ := R3.out
    go_region_law (fail)
    all_goals
      go_wp2
      have Y9 := (R3.out.set (.int .i64 1) (.int .i64 1) (.string ⟨#[]⟩)).below (Below.drew (Below.refl _ _))
      have E9 := Lib.hid (show litD (ByteArray.data ⟨#[116, 114, 117, 101]⟩).toList tx.data.toList = if p = true then some (1, 1, ⟨#[]⟩) else none from HLT.out _)
      exact bodyPost_ret (v := .tuple #[.agg #[.int .i64 1, .int .i64 1, .string ⟨#[]⟩], .bool p]) (by simp [results, Try.results72, go_sem, Act.put, hpe, Y9.c0, Y9.c1, Y9.c2]) rfl (ok_if E9.out (Below.drew (set3_below B3.out (by omega) _ _ _)))
  · clear hop
    go_enter Try.func72, Try.ntmps72
    go_upto_region 1 with fail
    rw [HW0.out]
    obtain ⟨x0, x1, x2, xf⟩ := N0.out
    go_wp2_with fail
    refine HI.out.mono ?_
    rintro e w1 ⟨rfl, hb1⟩
    obtain ⟨w2, hw2⟩ : ∃ w2, w1.alloc (.cells #[.int .i64 0, .int .i64 0, .string ⟨#[]⟩] 38) = w2 := ⟨_, rfl⟩
    have B1 := Lib.hid (B0.out.trans (hb1.mono B0.out.size))
    have B2 := Lib.hid (show Below w.heap.size w w2 by rw [← hw2]; exact B1.out.alloc B1.out.size _)
    have N2 := Lib.hid (show NBox w2 w.heap.size _ _ _ by rw [← hw2]; exact (N0.out.below hb1).alloc _)
    have R2 := Lib.hid (show NBox w2 (w.heap.size + 1) (.int .i64 0) (.int .i64 0) (.string ⟨#[]⟩) by rw [← hw2]; exact (R0.out.below hb1).alloc _)
    have V2 := Lib.hid (show NBox w2 w1.heap.size (.int .i64 0) (.int .i64 0) (.string ⟨#[]⟩) by rw [← hw2]; exact NBox.fresh _ _ _ _ _)
    have z2 : w1.heap.size < w2.heap.size := V2.out.lt
    have z3 : w.heap.size + 1 < w1.heap.size := Nat.lt_of_lt_of_le hz hb1.size
    have z4 : w.heap.size + 1 < w2.heap.size := R2.out.lt
    have HW2 := Lib.hid hw2
    clear hb1 hw2 x0 x1 x2 xf
    go_upto_region 4 with fail
    rw [HW2.out]
    obtain ⟨x0, x1, x2, xf⟩ := N2.out
    obtain ⟨y0, y1, y2, yf⟩ := V2.out
    obtain ⟨r0, r1, r2, rf⟩ := R2.out
    go_upto_region 20 with fail
    have B3 := Lib.hid (show Below w.heap.size w (w2.setCell ⟨w1.heap.size, 0, none⟩ (.int .i64 1)) from B2.out.setCell (p := ⟨w1.heap.size, 0, none⟩) B1.out.size _)
    have z5 : w.heap.size + 1 < (w2.setCell ⟨w1.heap.size, 0, none⟩ (.int .i64 1)).heap.size := by simp; omega
    have N3 := Lib.hid (show NBox (w2.setCell ⟨w1.heap.size, 0, none⟩ (.int .i64 1)) w.heap.size _ _ _ from lset_far N2.out _ (by show w1.heap.size ≠ w.heap.size; omega) _)
    have R3 := Lib.hid (show NBox (w2.setCell ⟨w1.heap.size, 0, none⟩ (.int .i64 1)) (w.heap.size + 1) (.int .i64 0) (.int .i64 0) (.string ⟨#[]⟩) from lset_far R2.out _ (by show w1.heap.size ≠ w.heap.size + 1; omega) _)
    have V3 := Lib.hid (show NBox (w2.setCell ⟨w1.heap.size, 0, none⟩ (.int .i64 1)) w1.heap.size (.int .i64 1) (.int .i64 0) (.string ⟨#[]⟩) from lset_zero V2.out _)
    clear x0 x1 x2 xf y0 y1 y2 yf r0 r1 r2 rf
    obtain ⟨w3, hw3⟩ : ∃ w3, w2.setCell ⟨w1.heap.size, 0, none⟩ (.int .i64 1) = w3 := ⟨_, rfl⟩
    simp only [hw3] at B3 z5 N3 R3 V3
    rw [hw3]
    clear hw3
    obtain ⟨x0, x1, x2, xf⟩ := N3.out
    obtain ⟨y0, y1, y2, yf⟩ := V3.out
    obtain ⟨r0, r1, r2, rf⟩ := R3.out
    go_region_law (fail)
    all_goals
      go_wp2
      have Y9 := (R3.out.set (.int .i64 1) (.int .i64 0) (.string ⟨#[]⟩)).below (Below.drew (Below.refl _ _))
      have E9 := Lib.hid (show litD (ByteArray.data ⟨#[102, 97, 108, 115, 101]⟩).toList tx.data.toList = if p = true then some (1, 0, ⟨#[]⟩) else none from HLT.out _)
      exact bodyPost_ret (v := .tuple #[.agg #[.int .i64 1, .int .i64 0, .string ⟨#[]⟩], .bool p]) (by simp [results, Try.results72, go_sem, Act.put, hpe, Y9.c0, Y9.c1, Y9.c2]) rfl (ok_if E9.out (Below.drew (set3_below B3.out (by omega) _ _ _)))
  · clear hop
    go_enter Try.func72, Try.ntmps72
    go_upto_region 1 with fail
    rw [HW0.out]
    obtain ⟨x0, x1, x2, xf⟩ := N0.out
    go_wp2_with fail
    refine HI.out.mono ?_
    rintro e w1 ⟨rfl, hb1⟩
    obtain ⟨w2, hw2⟩ : ∃ w2, w1.alloc (.cells #[.int .i64 0, .int .i64 0, .string ⟨#[]⟩] 38) = w2 := ⟨_, rfl⟩
    have B1 := Lib.hid (B0.out.trans (hb1.mono B0.out.size))
    have B2 := Lib.hid (show Below w.heap.size w w2 by rw [← hw2]; exact B1.out.alloc B1.out.size _)
    have N2 := Lib.hid (show NBox w2 w.heap.size _ _ _ by rw [← hw2]; exact (N0.out.below hb1).alloc _)
    have R2 := Lib.hid (show NBox w2 (w.heap.size + 1) (.int .i64 0) (.int .i64 0) (.string ⟨#[]⟩) by rw [← hw2]; exact (R0.out.below hb1).alloc _)
    have V2 := Lib.hid (show NBox w2 w1.heap.size (.int .i64 0) (.int .i64 0) (.string ⟨#[]⟩) by rw [← hw2]; exact NBox.fresh _ _ _ _ _)
    have z2 : w1.heap.size < w2.heap.size := V2.out.lt
    have z3 : w.heap.size + 1 < w1.heap.size := Nat.lt_of_lt_of_le hz hb1.size
    have z4 : w.heap.size + 1 < w2.heap.size := R2.out.lt
    have HW2 := Lib.hid hw2
    clear hb1 hw2 x0 x1 x2 xf
    go_upto_region 4 with fail
    rw [HW2.out]
    obtain ⟨x0, x1, x2, xf⟩ := N2.out
    obtain ⟨y0, y1, y2, yf⟩ := V2.out
    obtain ⟨r0, r1, r2, rf⟩ := R2.out
    go_wp2_with fail
    go_region_law (fail)
    all_goals
      go_wp2
      have Y9 := (R2.out.set (.int .i64 0) (.int .i64 0) (.string ⟨#[]⟩)).below (Below.drew (Below.refl _ _))
      have E9 := Lib.hid (show litD (ByteArray.data ⟨#[110, 117, 108, 108]⟩).toList tx.data.toList = if p = true then some (0, 0, ⟨#[]⟩) else none from HLT.out _)
      exact bodyPost_ret (v := .tuple #[.agg #[.int .i64 0, .int .i64 0, .string ⟨#[]⟩], .bool p]) (by simp [results, Try.results72, go_sem, Act.put, hpe, Y9.c0, Y9.c1, Y9.c2]) rfl (ok_if E9.out (Below.drew (set3_below B2.out (by omega) _ _ _)))
end Go.Proofs.Ytkibacolnagkcaa.Code
/-
  The program's ddl.Literal; and calc's literal: a literal's value, or ErrArg.
-/
namespace Go.Proofs.Ytkibacolnagkcaa.Code
open Go.ChangeShapes Go.WideShapes Go.ChangeAt Go.RowKit Val Elems
set_option linter.unusedVariables false
set_option linter.unusedSimpArgs false
def castV (v : CV) (k : Int) : CV × Int := ((castK v.1 v.2.1 v.2.2 k, castN v.1 v.2.1 v.2.2 k, castS v.1 v.2.1 v.2.2 k), castE v.1 v.2.1 v.2.2 k)
def litK (r : Option CV) (k : Int) : CV × Int := match r with | some v => castV v k | none => (nulV, 1)
theorem litD_fits {op tx : List UInt8} {v : CV} (h : litD op tx = some v) : Val.fits v.2.1 := by
  unfold litD numV at h
  unfold Val.fits
  repeat' split at h
  · cases ha : amountL tx with
    | none => rw [ha] at h; cases h
    | some n =>
      rw [ha] at h
      have := amount_pos ha
      simp only [Option.map_some, Option.some.injEq] at h
      split at h <;> subst h <;> (dsimp only; omega)
  all_goals first | (cases h; done) | (simp only [Option.some.injEq] at h; subst h; exact ⟨by show (-9223372036854775808 : Int) ≤ _; decide, by show _ ≤ (9223372036854775807 : Int); decide⟩) | (simp only [Option.some.injEq] at h; subst h; show (-9223372036854775808 : Int) ≤ 0 ∧ (0 : Int) ≤ 9223372036854775807; decide)
set_option maxHeartbeats 8000000 in
set_option maxRecDepth 100000 in
theorem dLiteral_any (op tx : ByteArray) (hop : op.data.toList ∈ lits) (X : Option Addr) (k : Nat) (K : Int) (w : World) : Calls Try.prog 43 #[.agg #[.string op, .string tx, .slice X 0 k], .int .i64 K] w (SumPost w (litK (litD op.data.toList tx.data.toList) K)) := by
  obtain ⟨w0, hw0⟩ : ∃ w0, (w.alloc (.cells #[.string op, .string tx, .slice X 0 k] 24)).alloc (.cells #[.int .i64 0, .int .i64 0, .string ⟨#[]⟩] 38) = w0 := ⟨_, rfl⟩
  have B0 := Lib.hid (show Below w.heap.size w w0 by rw [← hw0]; exact (below_alloc w _).alloc (by simp) _)
  have N0 := Lib.hid (show NBox w0 w.heap.size (.string op) (.string tx) (.slice X 0 k) by rw [← hw0]; exact ⟨by simp [go_sem], by simp [go_sem], by simp [go_sem], fun j => by simp [go_sem]⟩)
  have R0 := Lib.hid (show NBox w0 (w.heap.size + 1) (.int .i64 0) (.int .i64 0) (.string ⟨#[]⟩) by rw [← hw0]; exact ⟨by simp [go_sem], by simp [go_sem], by simp [go_sem], fun j => by simp [go_sem]⟩)
  have HL := Lib.hid (dlit_any op tx hop X k w0)
  have HF := Lib.hid (fun v (h : litD op.data.toList tx.data.toList = some v) => litD_fits h)
  obtain ⟨r, hr⟩ : ∃ r, litD op.data.toList tx.data.toList = r := ⟨_, rfl⟩
  rw [hr] at HL HF
  rw [hr]
  have HW0 := Lib.hid hw0
  have hz : w.heap.size + 1 < w0.heap.size := by rw [← hw0]; simp
  clear hr hw0 hop
  go_enter Try.func43, Try.ntmps43
  go_upto_region 1 with fail
  rw [HW0.out]
  obtain ⟨x0, x1, x2, xf⟩ := N0.out
  go_wp2_with fail
  refine HL.out.mono ?_
  rintro e w1 ⟨⟨vk, vn, vs⟩, b, rfl, hor, hb1⟩
  have HOR := Lib.hid hor
  obtain ⟨w2, hw2⟩ : ∃ w2, w1.alloc (.cells #[.int .i64 vk, .int .i64 vn, .string vs] 38) = w2 := ⟨_, rfl⟩
  have B1 := Lib.hid (B0.out.trans (hb1.mono B0.out.size))
  have B2 := Lib.hid (show Below w.heap.size w w2 by rw [← hw2]; exact B1.out.alloc B1.out.size _)
  have R2 := Lib.hid (show NBox w2 (w.heap.size + 1) (.int .i64 0) (.int .i64 0) (.string ⟨#[]⟩) by rw [← hw2]; exact (R0.out.below hb1).alloc _)
  have V2 := Lib.hid (show NBox w2 w1.heap.size (.int .i64 vk) (.int .i64 vn) (.string vs) by rw [← hw2]; exact NBox.fresh _ _ _ _ _)
  have z2 : w1.heap.size < w2.heap.size := V2.out.lt
  have z4 : w.heap.size + 1 < w2.heap.size := R2.out.lt
  have HW2 := Lib.hid hw2
  clear hb1 hw2 x0 x1 x2 xf hor
  go_upto_region 2 with fail
  rw [HW2.out]
  obtain ⟨y0, y1, y2, yf⟩ := V2.out
  obtain ⟨r0, r1, r2, rf⟩ := R2.out
  rcases HOR.out with ⟨rfl, hr⟩ | ⟨rfl, hr⟩
  · have HCA := Lib.hid (Val.cast_any vk vn vs K w2 (HF.out _ hr))
    have HRE := Lib.hid (show litK r K = ((castK vk vn vs K, castN vk vn vs K, castS vk vn vs K), castE vk vn vs K) by rw [hr]; rfl)
    unfold castP at HCA
    obtain ⟨ck, hck⟩ : ∃ c, castK vk vn vs K = c := ⟨_, rfl⟩
    obtain ⟨cn, hcn⟩ : ∃ c, castN vk vn vs K = c := ⟨_, rfl⟩
    obtain ⟨cs, hcs⟩ : ∃ c, castS vk vn vs K = c := ⟨_, rfl⟩
    obtain ⟨ce, hce⟩ : ∃ c, castE vk vn vs K = c := ⟨_, rfl⟩
    rw [hck, hcn, hcs, hce] at HCA HRE
    clear hck hcn hcs hce hr r0 r1 r2 rf
    go_wp2_with fail
    refine HCA.out.mono ?_
    rintro e w3 ⟨rfl, hb3⟩
    have B3 := Lib.hid (B2.out.trans (hb3.mono B2.out.size))
    have R3 := Lib.hid (R2.out.below hb3)
    have z5 := R3.out.lt
    clear hb3 y0 y1 y2 yf
    obtain ⟨r0, r1, r2, rf⟩ := R3.out
    go_wp2
    have Y9 := R3.out.set (.int .i64 ck) (.int .i64 cn) (.string cs)
    exact bodyPost_ret (v := .tuple #[.agg #[.int .i64 ck, .int .i64 cn, .string cs], .int .i64 ce]) (by simp [results, Try.results43, go_sem, Y9.c0, Y9.c1, Y9.c2]) rfl ⟨by rw [HRE.out], set3_below B3.out (by omega) _ _ _⟩
  · have HRE := Lib.hid (show litK r K = (nulV, 1) by rw [hr]; rfl)
    clear hr
    go_wp2
    have Y9 := R2.out.set (.int .i64 0) (.int .i64 0) (.string ⟨#[]⟩)
    exact bodyPost_ret (v := .tuple #[.agg #[.int .i64 0, .int .i64 0, .string ⟨#[]⟩], .int .i64 1]) (by simp [results, Try.results43, go_sem, Y9.c0, Y9.c1, Y9.c2]) rfl ⟨by rw [HRE.out]; rfl, set3_below B2.out (by omega) _ _ _⟩
/-- a literal's value; or ErrArg -/
def litT (op tx : List UInt8) : CV × Int := ((litL op tx).getD nulV, if (litL op tx).isSome = true then 0 else 1)
theorem cast_self {v : CV} (h : rightB v.1 v.2.1 v.2.2 = true) (hc : columnB v.1 = true) : castV v v.1 = (v, 0) := by
  obtain ⟨k, n, s⟩ := v
  have e : castE k n s k = 0 := by
    unfold castE
    dsimp only at h hc
    rw [if_neg (by rw [h, hc]; simp), if_pos (.inr rfl)]
  unfold castV castK castN castS
  dsimp only
  rw [e, if_pos rfl, if_pos rfl, if_pos rfl]
  by_cases h0 : k = 0
  · subst h0; cases hc
  · rw [if_neg h0]
theorem lit_text (tx : List UInt8) : litK (litD sText tx) 4 = litT sText tx := by
  have e : litD sText tx = some (4, 0, ⟨tx.toArray⟩) := by unfold litD; rw [if_neg (by decide), if_pos rfl]
  have e2 : litL sText tx = if tx.length ≤ 200 then some (4, 0, ⟨tx.toArray⟩) else none := by unfold litL; rw [if_neg (by decide), if_pos rfl]
  rw [e]
  unfold litT
  rw [e2]
  have hsz : (⟨tx.toArray⟩ : ByteArray).size = tx.length := by show tx.toArray.size = _; simp
  by_cases h : tx.length ≤ 200
  · rw [if_pos h]
    have hr : rightB 4 0 ⟨tx.toArray⟩ = true := by
      unfold rightB
      rw [if_pos rfl, decide_eq_true_eq, hsz]
      exact ⟨rfl, h⟩
    exact cast_self (v := (4, 0, ⟨tx.toArray⟩)) hr rfl
  · rw [if_neg h]
    have hr : rightB 4 0 ⟨tx.toArray⟩ = false := by
      unfold rightB
      rw [if_pos rfl, decide_eq_false_iff_not, hsz]
      exact fun h2 => h h2.2
    have he : castE 4 0 ⟨tx.toArray⟩ 4 = 1 := by
      unfold castE
      rw [if_pos (.inl hr)]
    show castV (4, 0, ⟨tx.toArray⟩) 4 = _
    unfold castV castK castN castS
    dsimp only
    rw [he, if_neg (by decide), if_neg (by decide), if_neg (by decide)]
    rfl
theorem lit_bool {op : List UInt8} (hop : op = sTrue ∨ op = sFalse ∨ op = sNull) (tx : List UInt8) : litK (litD op tx) 1 = litT op tx := by
  by_cases h : tx = []
  · subst h
    rcases hop with rfl | rfl | rfl <;> decide +kernel
  · have h2 : op ≠ sNum ∧ op ≠ sText := by rcases hop with rfl | rfl | rfl <;> exact ⟨by decide, by decide⟩
    have e : litD op tx = none := by unfold litD; rw [if_neg h2.1, if_neg h2.2, if_pos h]
    have e2 : litL op tx = none := by unfold litL; rw [if_neg h2.1, if_neg h2.2, if_pos h]
    rw [e]
    unfold litT
    rw [e2]
    rfl
theorem lit_num (tx : List UInt8) : ((litK (litD sNum tx) 2).2 = 0 → litT sNum tx = ((litK (litD sNum tx) 2).1, 0)) ∧ ((litK (litD sNum tx) 2).2 ≠ 0 → litT sNum tx = litK (litD sNum tx) 3) := by
  have e : litD sNum tx = numV (amountL tx) := by unfold litD; rw [if_pos rfl]
  have e2 : litL sNum tx = numV (amountL tx) := by unfold litL numV; rw [if_pos rfl]
  rw [e]
  unfold litT
  rw [e2]
  cases ha : amountL tx with
  | none => exact ⟨fun h => absurd h (by decide), fun _ => rfl⟩
  | some n =>
    have hp := amount_pos ha
    by_cases hn : n ≤ 2147483647
    · have e3 : numV (some n) = some (2, n, ⟨#[]⟩) := by unfold numV; rw [Option.map_some, if_pos hn]
      rw [e3]
      have hr : rightB 2 n ⟨#[]⟩ = true := by
        unfold rightB holdsB
        rw [if_neg (by decide), if_neg (by decide), if_neg (by decide), if_pos rfl, Bool.and_eq_true, decide_eq_true_eq, decide_eq_true_eq]
        exact ⟨rfl, by omega⟩
      have hc : litK (some (2, n, ⟨#[]⟩)) 2 = ((2, n, ⟨#[]⟩), 0) := cast_self (v := (2, n, ⟨#[]⟩)) hr rfl
      rw [hc]
      exact ⟨fun _ => rfl, fun h => absurd rfl h⟩
    · have e3 : numV (some n) = some (3, n, ⟨#[]⟩) := by unfold numV; rw [Option.map_some, if_neg hn]
      rw [e3]
      have he : castE 3 n ⟨#[]⟩ 2 = 12 := by
        unfold castE
        rw [if_neg (by rw [show rightB 3 n ⟨#[]⟩ = true from rfl, show columnB 2 = true from rfl]; simp), if_neg (by decide), if_neg (by decide), if_neg]
        unfold holdsB
        rw [if_neg (by decide), if_pos rfl, decide_eq_true_eq]
        omega
      have hc : litK (some (3, n, ⟨#[]⟩)) 3 = ((3, n, ⟨#[]⟩), 0) := cast_self (v := (3, n, ⟨#[]⟩)) rfl rfl
      rw [hc]
      exact ⟨fun h => absurd (show castE 3 n ⟨#[]⟩ 2 = 0 from h) (by rw [he]; decide), fun _ => rfl⟩
set_option maxHeartbeats 8000000 in
set_option maxRecDepth 100000 in
theorem clit_any (op tx : ByteArray) (hop : op.data.toList ∈ lits) (X : Option Addr) (k : Nat) (w : World) : Calls Try.prog 30 #[.agg #[.string op, .string tx, .slice X 0 k]] w (SumPost w (litT op.data.toList tx.data.toList)) := by
  obtain ⟨w0, hw0⟩ : ∃ w0, (w.alloc (.cells #[.string op, .string tx, .slice X 0 k] 24)).alloc (.cells #[.int .i64 0, .int .i64 0, .string ⟨#[]⟩] 38) = w0 := ⟨_, rfl⟩
  have B0 := Lib.hid (show Below w.heap.size w w0 by rw [← hw0]; exact (below_alloc w _).alloc (by simp) _)
  have N0 := Lib.hid (show NBox w0 w.heap.size (.string op) (.string tx) (.slice X 0 k) by rw [← hw0]; exact ⟨by simp [go_sem], by simp [go_sem], by simp [go_sem], fun j => by simp [go_sem]⟩)
  have R0 := Lib.hid (show NBox w0 (w.heap.size + 1) (.int .i64 0) (.int .i64 0) (.string ⟨#[]⟩) by rw [← hw0]; exact ⟨by simp [go_sem], by simp [go_sem], by simp [go_sem], fun j => by simp [go_sem]⟩)
  have HL := Lib.hid (fun K w' => dLiteral_any op tx hop X k K w')
  unfold SumPost at HL
  have HW0 := Lib.hid hw0
  have hz : w.heap.size + 1 < w0.heap.size := by rw [← hw0]; simp
  clear hw0
  rcases lits_cases hop with rfl | rfl | hop2
  · have HT := Lib.hid (show (litT (ByteArray.data ⟨#[110, 117, 109]⟩).toList tx.data.toList) = litT sNum tx.data.toList from rfl)
    rw [HT.out]
    have HN := Lib.hid (lit_num tx.data.toList)
    have HL2 := Lib.hid (show ∀ K w', Calls Try.prog 43 #[.agg #[.string ⟨#[110, 117, 109]⟩, .string tx, .slice X 0 k], .int .i64 K] w' (fun e w'' => e = .returned (.tuple #[.agg #[.int .i64 (litK (litD sNum tx.data.toList) K).1.1, .int .i64 (litK (litD sNum tx.data.toList) K).1.2.1, .string (litK (litD sNum tx.data.toList) K).1.2.2], .int .i64 (litK (litD sNum tx.data.toList) K).2]) ∧ Below w'.heap.size w' w'') from HL.out)
    have H2 := Lib.hid (fun w' => HL2.out 2 w')
    have H3 := Lib.hid (fun w' => HL2.out 3 w')
    obtain ⟨r2, hr2⟩ : ∃ r, litK (litD sNum tx.data.toList) 2 = r := ⟨_, rfl⟩
    obtain ⟨r3, hr3⟩ : ∃ r, litK (litD sNum tx.data.toList) 3 = r := ⟨_, rfl⟩
    obtain ⟨R, hR⟩ : ∃ r, litT sNum tx.data.toList = r := ⟨_, rfl⟩
    rw [hr2] at H2 HN
    rw [hr3] at H3 HN
    rw [hR] at HN ⊢
    obtain ⟨⟨ak, an, as'⟩, ae⟩ := r2
    obtain ⟨⟨bk, bn, bs⟩, be⟩ := r3
    dsimp only at H2 H3 HN
    clear hr2 hr3 hR HL HL2 HT hop
    go_enter Try.func30, Try.ntmps30
    go_upto_region 1 with fail
    rw [HW0.out]
    obtain ⟨x0, x1, x2, xf⟩ := N0.out
    go_wp2_with fail
    refine (H2.out w0).mono ?_
    rintro e w1 ⟨rfl, hb1⟩
    obtain ⟨w2, hw2⟩ : ∃ w2, w1.alloc (.cells #[.int .i64 ak, .int .i64 an, .string as'] 38) = w2 := ⟨_, rfl⟩
    have B1 := Lib.hid (B0.out.trans (hb1.mono B0.out.size))
    have B2 := Lib.hid (show Below w.heap.size w w2 by rw [← hw2]; exact B1.out.alloc B1.out.size _)
    have N2 := Lib.hid (show NBox w2 w.heap.size _ _ _ by rw [← hw2]; exact (N0.out.below hb1).alloc _)
    have R2 := Lib.hid (show NBox w2 (w.heap.size + 1) (.int .i64 0) (.int .i64 0) (.string ⟨#[]⟩) by rw [← hw2]; exact (R0.out.below hb1).alloc _)
    have V2 := Lib.hid (show NBox w2 w1.heap.size (.int .i64 ak) (.int .i64 an) (.string as') by rw [← hw2]; exact NBox.fresh _ _ _ _ _)
    have z2 : w1.heap.size < w2.heap.size := V2.out.lt
    have z4 : w.heap.size + 1 < w2.heap.size := R2.out.lt
    have HW2 := Lib.hid hw2
    clear hb1 hw2 x0 x1 x2 xf
    go_upto_region 6 with fail
    rw [HW2.out]
    obtain ⟨x0, x1, x2, xf⟩ := N2.out
    obtain ⟨y0, y1, y2, yf⟩ := V2.out
    obtain ⟨r0, r1, r2, rf⟩ := R2.out
    by_cases hae : ae = 0
    · subst hae
      have HRE := Lib.hid (HN.out.1 rfl)
      go_wp2
      have Y9 := R2.out.set (.int .i64 ak) (.int .i64 an) (.string as')
      exact bodyPost_ret (v := .tuple #[.agg #[.int .i64 ak, .int .i64 an, .string as'], .int .i64 0]) (by simp [results, Try.results30, go_sem, Y9.c0, Y9.c1, Y9.c2]) rfl ⟨by rw [HRE.out], set3_below B2.out (by omega) _ _ _⟩
    · have e1 : (ae == 0) = false := by simpa using hae
      have HRE := Lib.hid (HN.out.2 hae)
      clear hae y0 y1 y2 yf r0 r1 r2 rf
      go_wp2_with fail
      refine (H3.out w2).mono ?_
      rintro e w3 ⟨rfl, hb3⟩
      have B3 := Lib.hid (B2.out.trans (hb3.mono B2.out.size))
      have R3 := Lib.hid (R2.out.below hb3)
      have z5 := R3.out.lt
      clear hb3 x0 x1 x2 xf
      obtain ⟨r0, r1, r2, rf⟩ := R3.out
      go_wp2
      have Y9 := R3.out.set (.int .i64 bk) (.int .i64 bn) (.string bs)
      exact bodyPost_ret (v := .tuple #[.agg #[.int .i64 bk, .int .i64 bn, .string bs], .int .i64 be]) (by simp [results, Try.results30, go_sem, Y9.c0, Y9.c1, Y9.c2]) rfl ⟨by rw [HRE.out], set3_below B3.out (by omega) _ _ _⟩
  · have HRE := Lib.hid (lit_text tx.data.toList)
    have H4 := Lib.hid (fun w' => HL.out 4 w')
    have HT : litK (litD (ByteArray.data ⟨#[116, 101, 120, 116]⟩).toList tx.data.toList) 4 = litT sText tx.data.toList := HRE.out
    rw [HT] at H4
    rw [show litT (ByteArray.data ⟨#[116, 101, 120, 116]⟩).toList tx.data.toList = litT sText tx.data.toList from rfl]
    obtain ⟨R, hR⟩ : ∃ r, litT sText tx.data.toList = r := ⟨_, rfl⟩
    rw [hR] at H4 ⊢
    obtain ⟨⟨bk, bn, bs⟩, be⟩ := R
    dsimp only at H4
    clear HL HRE HT hR hop
    go_enter Try.func30, Try.ntmps30
    go_upto_region 1 with fail
    rw [HW0.out]
    obtain ⟨x0, x1, x2, xf⟩ := N0.out
    go_wp2_with fail
    refine (H4.out w0).mono ?_
    rintro e w3 ⟨rfl, hb3⟩
    have B3 := Lib.hid (B0.out.trans (hb3.mono B0.out.size))
    have R3 := Lib.hid (R0.out.below hb3)
    have z5 := R3.out.lt
    clear hb3 x0 x1 x2 xf
    obtain ⟨r0, r1, r2, rf⟩ := R3.out
    go_wp2
    have Y9 := R3.out.set (.int .i64 bk) (.int .i64 bn) (.string bs)
    exact bodyPost_ret (v := .tuple #[.agg #[.int .i64 bk, .int .i64 bn, .string bs], .int .i64 be]) (by simp [results, Try.results30, go_sem, Y9.c0, Y9.c1, Y9.c2]) rfl ⟨rfl, set3_below B3.out (by omega) _ _ _⟩
  · have HRE := Lib.hid (lit_bool (op := op.data.toList) (by rcases hop2 with rfl | rfl | rfl; exact .inl rfl; exact .inr (.inl rfl); exact .inr (.inr rfl)) tx.data.toList)
    have H4 := Lib.hid (fun w' => HL.out 1 w')
    rw [HRE.out] at H4
    obtain ⟨R, hR⟩ : ∃ r, litT op.data.toList tx.data.toList = r := ⟨_, rfl⟩
    rw [hR] at H4 ⊢
    obtain ⟨⟨bk, bn, bs⟩, be⟩ := R
    dsimp only at H4
    clear HL HRE hR hop
    rcases hop2 with rfl | rfl | rfl
    all_goals
      go_enter Try.func30, Try.ntmps30
      go_upto_region 1 with fail
      rw [HW0.out]
      obtain ⟨x0, x1, x2, xf⟩ := N0.out
      go_wp2_with fail
      refine (H4.out w0).mono ?_
      rintro e w3 ⟨rfl, hb3⟩
      have B3 := Lib.hid (B0.out.trans (hb3.mono B0.out.size))
      have R3 := Lib.hid (R0.out.below hb3)
      have z5 := R3.out.lt
      clear hb3 x0 x1 x2 xf
      obtain ⟨r0, r1, r2, rf⟩ := R3.out
      go_wp2
      have Y9 := R3.out.set (.int .i64 bk) (.int .i64 bn) (.string bs)
      exact bodyPost_ret (v := .tuple #[.agg #[.int .i64 bk, .int .i64 bn, .string bs], .int .i64 be]) (by simp [results, Try.results30, go_sem, Y9.c0, Y9.c1, Y9.c2]) rfl ⟨rfl, set3_below B3.out (by omega) _ _ _⟩
end Go.Proofs.Ytkibacolnagkcaa.Code
