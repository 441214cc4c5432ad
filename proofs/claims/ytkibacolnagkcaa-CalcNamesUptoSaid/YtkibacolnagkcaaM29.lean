/-
  The program's value of a node, by its Op, over what its Kids come to (tests, not).
-/
import Derived.Test.YtkibacolnagkcaaM28
namespace Go.Proofs.Ytkibacolnagkcaa.Code
open Go.ChangeShapes Go.WideShapes Go.ChangeAt Go.RowKit Val Elems
set_option linter.unusedVariables false
set_option linter.unusedSimpArgs false

set_option maxHeartbeats 8000000 in
set_option maxRecDepth 100000 in
theorem vstep_test (op tx : ByteArray) (X : Option Addr) (n k : Nat) (A : Option Addr) (na ca : Nat) (B : Option Addr) (nb cb mb : Nat) (ak an : Int) (as' : ByteArray) (bk bn : Int) (bs : ByteArray) (w : World) (hop : op.data.toList ∈ tests) (hany : (([(ak, an, as'), (bk, bn, bs)] : List CV).any fun v => v.1 == 0) = false)
    (hE : ∀ w', Below w.heap.size w w' → Calls Try.prog 56 #[.slice X n k, .func (.func 38) #[.agg #[.slice A na ca, .slice B nb cb, .map (some mb)]] #[]] w' (VsPost w' ([(ak, an, as'), (bk, bn, bs)], 0))) :
    Calls Try.prog 38 #[.agg #[.slice A na ca, .slice B nb cb, .map (some mb)], .agg #[.string op, .string tx, .slice X n k]] w (SumPost w (truV (testC op.data.toList (cmpV ak an as' ak bn bs)), 0)) := by
  have HNC := Lib.hid (fun (C : Option Addr) (cc : Nat) (w' : World) (hv : Vals w' w'.heap.size C [(ak, an, as'), (bk, bn, bs)]) => ncont_any C cc [(ak, an, as'), (bk, bn, bs)] w' hv (by simp))
  rw [show ([(ak, an, as'), (bk, bn, bs)] : List CV).any (fun v => v.1 == 0) = false from hany] at HNC
  clear hany
  have HSO := Lib.hid (fun w' => so_any op hop ak an as' bk bn bs w')
  obtain ⟨b, hb⟩ : ∃ b, testC op.data.toList (cmpV ak an as' ak bn bs) = b := ⟨_, rfl⟩
  obtain ⟨D, hD⟩ : ∃ D : Int, (if b = true then 1 else 0) = D := ⟨_, rfl⟩
  have HT := Lib.hid (fun w' => truth_any b w')
  have HDT := Lib.hid (show truV b = (1, D, ⟨#[]⟩) by rw [← hD]; rfl)
  rw [hb] at HSO ⊢
  rw [hD] at HT
  rw [HDT.out]
  have hcs : op = ⟨#[61]⟩ ∨ op = ⟨#[60, 62]⟩ ∨ op = ⟨#[60]⟩ ∨ op = ⟨#[60, 61]⟩ ∨ op = ⟨#[62]⟩ ∨ op = ⟨#[62, 61]⟩ := by
    have h : op.data.toList = [61] ∨ op.data.toList = [60, 62] ∨ op.data.toList = [60] ∨ op.data.toList = [60, 61] ∨ op.data.toList = [62] ∨ op.data.toList = [62, 61] := by simpa [tests] using hop
    rcases h with h | h | h | h | h | h <;> (rw [← Lib.mk_data op, h]; simp)
  clear hop hb hD
  obtain ⟨w0, hw0⟩ : ∃ w0, ((w.alloc (.cells #[.slice A na ca, .slice B nb cb, .map (some mb)] 79)).alloc (.cells #[.string op, .string tx, .slice X n k] 24)).alloc (.cells #[.int .i64 0, .int .i64 0, .string ⟨#[]⟩] 38) = w0 := ⟨_, rfl⟩
  have B0 := Lib.hid (show Below w.heap.size w w0 by rw [← hw0]; exact ((below_alloc w _).alloc (by simp) _).alloc (by simp; omega) _)
  have S0 := Lib.hid (show NBox w0 w.heap.size (.slice A na ca) (.slice B nb cb) (.map (some mb)) by rw [← hw0]; exact ⟨by simp [go_sem], by simp [go_sem], by simp [go_sem], fun j => by simp [go_sem]⟩)
  have N0 := Lib.hid (show NBox w0 (w.heap.size + 1) (.string op) (.string tx) (.slice X n k) by rw [← hw0]; exact ⟨by simp [go_sem], by simp [go_sem], by simp [go_sem], fun j => by simp [go_sem]⟩)
  have R0 := Lib.hid (show NBox w0 (w.heap.size + 1 + 1) (.int .i64 0) (.int .i64 0) (.string ⟨#[]⟩) by rw [← hw0]; exact ⟨by simp [go_sem], by simp [go_sem], by simp [go_sem], fun j => by simp [go_sem]⟩)
  have z0 : w.heap.size + 1 + 1 < w0.heap.size := R0.out.lt
  have HE0 := Lib.hid (hE w0 B0.out)
  unfold VsPost at HE0
  have HW0 := Lib.hid hw0
  clear hw0 hE
  rcases hcs with rfl | rfl | rfl | rfl | rfl | rfl
  · go_enter Try.func38, Try.ntmps38
    go_upto_region 1 with fail
    rw [HW0.out]
    obtain ⟨s0, s1, s2, sf⟩ := S0.out
    obtain ⟨x0, x1, x2, xf⟩ := N0.out
    go_wp2_with fail
    refine HE0.out.mono ?_
    rintro e w1 ⟨C, cc, rfl, hv1, hb1⟩
    have OV := Lib.hid hv1
    have B1 := Lib.hid (B0.out.trans (hb1.mono B0.out.size))
    have S1 := Lib.hid (S0.out.below hb1)
    have N1 := Lib.hid (N0.out.below hb1)
    have R1 := Lib.hid (R0.out.below hb1)
    have z1 : w.heap.size + 1 + 1 < w1.heap.size := R1.out.lt
    clear hb1 hv1 s0 s1 s2 sf x0 x1 x2 xf
    obtain ⟨x0, x1, x2, xf⟩ := N1.out
    have HN2 := Lib.hid (HNC.out C cc w1 OV.out.vals)
    go_wp2_with fail
    refine HN2.out.mono ?_
    rintro e w2 ⟨rfl, hb2⟩
    have L2 := Lib.hid hb2
    have B2 := Lib.hid (B1.out.trans (hb2.mono B1.out.size))
    have S2 := Lib.hid (S1.out.below hb2)
    have N2 := Lib.hid (N1.out.below hb2)
    have R2 := Lib.hid (R1.out.below hb2)
    have z2 := R2.out.lt
    obtain ⟨g, hC, hg, hblk1⟩ := OV.out (by simp)
    have hblk := hblk1.call hb2
    have hgz : g < w2.heap.size := hblk.lt
    have hgR : w.heap.size + 1 + 1 < g := Nat.lt_of_lt_of_le z0 hg
    subst hC
    clear hb2 x0 x1 x2 xf hblk1
    obtain ⟨c0, c1, c2⟩ := hblk.at 0 (by simp)
    simp only [List.getElem_cons_zero, Nat.zero_mul, Nat.zero_add] at c0 c1 c2
    obtain ⟨d0, d1, d2⟩ := hblk.at 1 (by simp)
    simp only [List.getElem_cons_succ, List.getElem_cons_zero, Nat.one_mul, Nat.reduceAdd] at d0 d1 d2
    obtain ⟨x0, x1, x2, xf⟩ := N2.out
    clear x1 x2 xf
    go_wp2_with fail
    have zz0 : w.heap.size < w2.heap.size := by omega
    have zz1 : w.heap.size + 1 < w2.heap.size := by omega
    have HALL := Lib.hid (fun (w' : World) (hb : Below w2.heap.size w2 w') => show (w'.cell? ⟨w.heap.size + 1, 0, none⟩ = some (.string ⟨#[61]⟩) ∧ w'.cell? ⟨g, 0, none⟩ = some (.int .i64 ak) ∧ w'.cell? ⟨g, 1, none⟩ = some (.int .i64 an) ∧ w'.cell? ⟨g, 2, none⟩ = some (.string as') ∧ w'.cell? ⟨g, 3, none⟩ = some (.int .i64 bk) ∧ w'.cell? ⟨g, 4, none⟩ = some (.int .i64 bn) ∧ w'.cell? ⟨g, 5, none⟩ = some (.string bs)) ∧ Below w.heap.size w w' from ⟨⟨(hb.cell (p := ⟨w.heap.size + 1, 0, none⟩) (by first | exact zz0 | exact zz1 | exact hgz)).trans x0, (hb.cell (p := ⟨g, 0, none⟩) (by first | exact zz0 | exact zz1 | exact hgz)).trans c0, (hb.cell (p := ⟨g, 1, none⟩) (by first | exact zz0 | exact zz1 | exact hgz)).trans c1, (hb.cell (p := ⟨g, 2, none⟩) (by first | exact zz0 | exact zz1 | exact hgz)).trans c2, (hb.cell (p := ⟨g, 3, none⟩) (by first | exact zz0 | exact zz1 | exact hgz)).trans d0, (hb.cell (p := ⟨g, 4, none⟩) (by first | exact zz0 | exact zz1 | exact hgz)).trans d1, (hb.cell (p := ⟨g, 5, none⟩) (by first | exact zz0 | exact zz1 | exact hgz)).trans d2⟩, B2.out.trans (hb.mono B2.out.size)⟩)
    clear x0 c0 c1 c2 d0 d1 d2 hblk
    refine seq_begin (fun w' => (w'.cell? ⟨w.heap.size + 1, 0, none⟩ = some (.string ⟨#[61]⟩) ∧ w'.cell? ⟨g, 0, none⟩ = some (.int .i64 ak) ∧ w'.cell? ⟨g, 1, none⟩ = some (.int .i64 an) ∧ w'.cell? ⟨g, 2, none⟩ = some (.string as') ∧ w'.cell? ⟨g, 3, none⟩ = some (.int .i64 bk) ∧ w'.cell? ⟨g, 4, none⟩ = some (.int .i64 bn) ∧ w'.cell? ⟨g, 5, none⟩ = some (.string bs)) ∧ Below w.heap.size w w') 12 (by kernel_rfl) (by kernel_rfl) (HALL.out _ (Below.drew (Below.refl _ _))) (fun HST hHeld => ?_)
    have BB := Lib.hid (show Below w2.heap.size w2 w2.drew from Below.drew (Below.refl _ _))
    refine seq_take HST (v := ?_) 0 105 rfl ?_ ?_; rotate_left; (intro w9 hS9; obtain ⟨⟨e0, e1, e2, e3, e4, e5, e6⟩, -⟩ := hS9; go_simp; try with_reducible rfl); (try simp only [Act.put, List.setIfInBounds_toArray]); (try dsimp only [List.set_cons_zero, List.set_cons_succ])
    refine seq_take HST (v := ?_) 1 106 rfl ?_ ?_; rotate_left; (intro w9 hS9; obtain ⟨⟨e0, e1, e2, e3, e4, e5, e6⟩, -⟩ := hS9; go_simp; try with_reducible rfl); (try simp only [Act.put, List.setIfInBounds_toArray]); (try dsimp only [List.set_cons_zero, List.set_cons_succ])
    refine seq_take HST (v := ?_) 2 107 rfl ?_ ?_; rotate_left; (intro w9 hS9; obtain ⟨⟨e0, e1, e2, e3, e4, e5, e6⟩, -⟩ := hS9; go_simp; try with_reducible rfl); (try simp only [Act.put, List.setIfInBounds_toArray]); (try dsimp only [List.set_cons_zero, List.set_cons_succ])
    refine seq_take HST (v := ?_) 3 108 rfl ?_ ?_; rotate_left; (intro w9 hS9; obtain ⟨⟨e0, e1, e2, e3, e4, e5, e6⟩, -⟩ := hS9; go_simp; try with_reducible rfl); (try simp only [Act.put, List.setIfInBounds_toArray]); (try dsimp only [List.set_cons_zero, List.set_cons_succ])
    refine seq_take HST (v := ?_) 4 109 rfl ?_ ?_; rotate_left; (intro w9 hS9; obtain ⟨⟨e0, e1, e2, e3, e4, e5, e6⟩, -⟩ := hS9; go_simp; try with_reducible rfl); (try simp only [Act.put, List.setIfInBounds_toArray]); (try dsimp only [List.set_cons_zero, List.set_cons_succ])
    refine seq_take HST (v := ?_) 5 110 rfl ?_ ?_; rotate_left; (intro w9 hS9; obtain ⟨⟨e0, e1, e2, e3, e4, e5, e6⟩, -⟩ := hS9; go_simp; try with_reducible rfl); (try simp only [Act.put, List.setIfInBounds_toArray]); (try dsimp only [List.set_cons_zero, List.set_cons_succ])
    refine seq_take HST (v := ?_) 6 111 rfl ?_ ?_; rotate_left; (intro w9 hS9; obtain ⟨⟨e0, e1, e2, e3, e4, e5, e6⟩, -⟩ := hS9; go_simp; try with_reducible rfl); (try simp only [Act.put, List.setIfInBounds_toArray]); (try dsimp only [List.set_cons_zero, List.set_cons_succ])
    refine seq_take HST (v := ?_) 7 112 rfl ?_ ?_; rotate_left; (intro w9 hS9; obtain ⟨⟨e0, e1, e2, e3, e4, e5, e6⟩, -⟩ := hS9; go_simp; try with_reducible rfl); (try simp only [Act.put, List.setIfInBounds_toArray]); (try dsimp only [List.set_cons_zero, List.set_cons_succ])
    refine seq_call HST 8 113 rfl (by kernel_rfl) (fun K hK => ?_); go_simp; refine (HSO.out _).mono ?_; rintro e w9 ⟨rfl, hb9⟩; have BB9 := Lib.hid (BB.out.trans (hb9.mono BB.out.size)); refine hK.out _ _ (HALL.out _ BB9.out) (fun hHeld9 => ?_); clear hK K hb9 BB; have BB := BB9; clear BB9
    (try simp only [Act.put, List.setIfInBounds_toArray]); (try dsimp only [List.set_cons_zero, List.set_cons_succ])
    refine seq_call HST 9 114 rfl (by kernel_rfl) (fun K hK => ?_); go_simp; refine (HT.out _).mono ?_; rintro e w9 ⟨rfl, hb9⟩; have BB9 := Lib.hid (BB.out.trans (hb9.mono BB.out.size)); refine hK.out _ _ (HALL.out _ BB9.out) (fun hHeld9 => ?_); clear hK K hb9 BB; have BB := BB9; clear BB9
    (try simp only [Act.put, List.setIfInBounds_toArray]); (try dsimp only [List.set_cons_zero, List.set_cons_succ])
    have R9 := Lib.hid (R2.out.below BB.out); have z9 := R9.out.lt; have r0 := R9.out.c0; have r1 := R9.out.c1; have r2 := R9.out.c2; have rf := R9.out.fr
    refine seq_put HST 10 rfl (by kernel_rfl) (fun K hK => ?_); go_simp; refine hK.out _ _ ?_ (fun hHeld9 => ?_)
    · have nn0 : w.heap.size ≠ w.heap.size + 1 + 1 := by omega
      have nn1 : w.heap.size + 1 ≠ w.heap.size + 1 + 1 := by omega
      have nn2 : g ≠ w.heap.size + 1 + 1 := by omega
      obtain ⟨⟨e0, e1, e2, e3, e4, e5, e6⟩, e99⟩ := HALL.out _ BB.out
      exact ⟨⟨(far3 ⟨w.heap.size + 1, 0, none⟩ (by first | exact nn0 | exact nn1 | exact nn2)).trans e0, (far3 ⟨g, 0, none⟩ (by first | exact nn0 | exact nn1 | exact nn2)).trans e1, (far3 ⟨g, 1, none⟩ (by first | exact nn0 | exact nn1 | exact nn2)).trans e2, (far3 ⟨g, 2, none⟩ (by first | exact nn0 | exact nn1 | exact nn2)).trans e3, (far3 ⟨g, 3, none⟩ (by first | exact nn0 | exact nn1 | exact nn2)).trans e4, (far3 ⟨g, 4, none⟩ (by first | exact nn0 | exact nn1 | exact nn2)).trans e5, (far3 ⟨g, 5, none⟩ (by first | exact nn0 | exact nn1 | exact nn2)).trans e6⟩, set3_below e99 (by omega) _ _ _⟩
    clear hK K; (try simp only [Act.put, List.setIfInBounds_toArray]); (try dsimp only [List.set_cons_zero, List.set_cons_succ])
    refine seq_take HST (v := ?_) 11 5 rfl ?_ ?_; rotate_left; (intro w9 hS9; obtain ⟨⟨e0, e1, e2, e3, e4, e5, e6⟩, -⟩ := hS9; go_simp; try with_reducible rfl); (try simp only [Act.put, List.setIfInBounds_toArray]); (try dsimp only [List.set_cons_zero, List.set_cons_succ])
    refine seq_done (by kernel_rfl) ?_
    have B9 := Lib.hid (B2.out.trans (BB.out.mono B2.out.size))
    go_wp2
    have Y9 := R9.out.set (.int .i64 1) (.int .i64 D) (.string ⟨#[]⟩)
    exact bodyPost_ret (v := .tuple #[.agg #[.int .i64 1, .int .i64 D, .string ⟨#[]⟩], .int .i64 0]) (by simp [results, Try.results38, go_sem, Y9.c0, Y9.c1, Y9.c2]) rfl ⟨rfl, set3_below B9.out (by omega) _ _ _⟩
  · go_enter Try.func38, Try.ntmps38
    go_upto_region 1 with fail
    rw [HW0.out]
    obtain ⟨s0, s1, s2, sf⟩ := S0.out
    obtain ⟨x0, x1, x2, xf⟩ := N0.out
    go_wp2_with fail
    refine HE0.out.mono ?_
    rintro e w1 ⟨C, cc, rfl, hv1, hb1⟩
    have OV := Lib.hid hv1
    have B1 := Lib.hid (B0.out.trans (hb1.mono B0.out.size))
    have S1 := Lib.hid (S0.out.below hb1)
    have N1 := Lib.hid (N0.out.below hb1)
    have R1 := Lib.hid (R0.out.below hb1)
    have z1 : w.heap.size + 1 + 1 < w1.heap.size := R1.out.lt
    clear hb1 hv1 s0 s1 s2 sf x0 x1 x2 xf
    obtain ⟨x0, x1, x2, xf⟩ := N1.out
    have HN2 := Lib.hid (HNC.out C cc w1 OV.out.vals)
    go_wp2_with fail
    refine HN2.out.mono ?_
    rintro e w2 ⟨rfl, hb2⟩
    have L2 := Lib.hid hb2
    have B2 := Lib.hid (B1.out.trans (hb2.mono B1.out.size))
    have S2 := Lib.hid (S1.out.below hb2)
    have N2 := Lib.hid (N1.out.below hb2)
    have R2 := Lib.hid (R1.out.below hb2)
    have z2 := R2.out.lt
    obtain ⟨g, hC, hg, hblk1⟩ := OV.out (by simp)
    have hblk := hblk1.call hb2
    have hgz : g < w2.heap.size := hblk.lt
    have hgR : w.heap.size + 1 + 1 < g := Nat.lt_of_lt_of_le z0 hg
    subst hC
    clear hb2 x0 x1 x2 xf hblk1
    obtain ⟨c0, c1, c2⟩ := hblk.at 0 (by simp)
    simp only [List.getElem_cons_zero, Nat.zero_mul, Nat.zero_add] at c0 c1 c2
    obtain ⟨d0, d1, d2⟩ := hblk.at 1 (by simp)
    simp only [List.getElem_cons_succ, List.getElem_cons_zero, Nat.one_mul, Nat.reduceAdd] at d0 d1 d2
    obtain ⟨x0, x1, x2, xf⟩ := N2.out
    clear x1 x2 xf
    go_wp2_with fail
    have zz0 : w.heap.size < w2.heap.size := by omega
    have zz1 : w.heap.size + 1 < w2.heap.size := by omega
    have HALL := Lib.hid (fun (w' : World) (hb : Below w2.heap.size w2 w') => show (w'.cell? ⟨w.heap.size + 1, 0, none⟩ = some (.string ⟨#[60, 62]⟩) ∧ w'.cell? ⟨g, 0, none⟩ = some (.int .i64 ak) ∧ w'.cell? ⟨g, 1, none⟩ = some (.int .i64 an) ∧ w'.cell? ⟨g, 2, none⟩ = some (.string as') ∧ w'.cell? ⟨g, 3, none⟩ = some (.int .i64 bk) ∧ w'.cell? ⟨g, 4, none⟩ = some (.int .i64 bn) ∧ w'.cell? ⟨g, 5, none⟩ = some (.string bs)) ∧ Below w.heap.size w w' from ⟨⟨(hb.cell (p := ⟨w.heap.size + 1, 0, none⟩) (by first | exact zz0 | exact zz1 | exact hgz)).trans x0, (hb.cell (p := ⟨g, 0, none⟩) (by first | exact zz0 | exact zz1 | exact hgz)).trans c0, (hb.cell (p := ⟨g, 1, none⟩) (by first | exact zz0 | exact zz1 | exact hgz)).trans c1, (hb.cell (p := ⟨g, 2, none⟩) (by first | exact zz0 | exact zz1 | exact hgz)).trans c2, (hb.cell (p := ⟨g, 3, none⟩) (by first | exact zz0 | exact zz1 | exact hgz)).trans d0, (hb.cell (p := ⟨g, 4, none⟩) (by first | exact zz0 | exact zz1 | exact hgz)).trans d1, (hb.cell (p := ⟨g, 5, none⟩) (by first | exact zz0 | exact zz1 | exact hgz)).trans d2⟩, B2.out.trans (hb.mono B2.out.size)⟩)
    clear x0 c0 c1 c2 d0 d1 d2 hblk
    refine seq_begin (fun w' => (w'.cell? ⟨w.heap.size + 1, 0, none⟩ = some (.string ⟨#[60, 62]⟩) ∧ w'.cell? ⟨g, 0, none⟩ = some (.int .i64 ak) ∧ w'.cell? ⟨g, 1, none⟩ = some (.int .i64 an) ∧ w'.cell? ⟨g, 2, none⟩ = some (.string as') ∧ w'.cell? ⟨g, 3, none⟩ = some (.int .i64 bk) ∧ w'.cell? ⟨g, 4, none⟩ = some (.int .i64 bn) ∧ w'.cell? ⟨g, 5, none⟩ = some (.string bs)) ∧ Below w.heap.size w w') 12 (by kernel_rfl) (by kernel_rfl) (HALL.out _ (Below.drew (Below.refl _ _))) (fun HST hHeld => ?_)
    have BB := Lib.hid (show Below w2.heap.size w2 w2.drew from Below.drew (Below.refl _ _))
    refine seq_take HST (v := ?_) 0 105 rfl ?_ ?_; rotate_left; (intro w9 hS9; obtain ⟨⟨e0, e1, e2, e3, e4, e5, e6⟩, -⟩ := hS9; go_simp; try with_reducible rfl); (try simp only [Act.put, List.setIfInBounds_toArray]); (try dsimp only [List.set_cons_zero, List.set_cons_succ])
    refine seq_take HST (v := ?_) 1 106 rfl ?_ ?_; rotate_left; (intro w9 hS9; obtain ⟨⟨e0, e1, e2, e3, e4, e5, e6⟩, -⟩ := hS9; go_simp; try with_reducible rfl); (try simp only [Act.put, List.setIfInBounds_toArray]); (try dsimp only [List.set_cons_zero, List.set_cons_succ])
    refine seq_take HST (v := ?_) 2 107 rfl ?_ ?_; rotate_left; (intro w9 hS9; obtain ⟨⟨e0, e1, e2, e3, e4, e5, e6⟩, -⟩ := hS9; go_simp; try with_reducible rfl); (try simp only [Act.put, List.setIfInBounds_toArray]); (try dsimp only [List.set_cons_zero, List.set_cons_succ])
    refine seq_take HST (v := ?_) 3 108 rfl ?_ ?_; rotate_left; (intro w9 hS9; obtain ⟨⟨e0, e1, e2, e3, e4, e5, e6⟩, -⟩ := hS9; go_simp; try with_reducible rfl); (try simp only [Act.put, List.setIfInBounds_toArray]); (try dsimp only [List.set_cons_zero, List.set_cons_succ])
    refine seq_take HST (v := ?_) 4 109 rfl ?_ ?_; rotate_left; (intro w9 hS9; obtain ⟨⟨e0, e1, e2, e3, e4, e5, e6⟩, -⟩ := hS9; go_simp; try with_reducible rfl); (try simp only [Act.put, List.setIfInBounds_toArray]); (try dsimp only [List.set_cons_zero, List.set_cons_succ])
    refine seq_take HST (v := ?_) 5 110 rfl ?_ ?_; rotate_left; (intro w9 hS9; obtain ⟨⟨e0, e1, e2, e3, e4, e5, e6⟩, -⟩ := hS9; go_simp; try with_reducible rfl); (try simp only [Act.put, List.setIfInBounds_toArray]); (try dsimp only [List.set_cons_zero, List.set_cons_succ])
    refine seq_take HST (v := ?_) 6 111 rfl ?_ ?_; rotate_left; (intro w9 hS9; obtain ⟨⟨e0, e1, e2, e3, e4, e5, e6⟩, -⟩ := hS9; go_simp; try with_reducible rfl); (try simp only [Act.put, List.setIfInBounds_toArray]); (try dsimp only [List.set_cons_zero, List.set_cons_succ])
    refine seq_take HST (v := ?_) 7 112 rfl ?_ ?_; rotate_left; (intro w9 hS9; obtain ⟨⟨e0, e1, e2, e3, e4, e5, e6⟩, -⟩ := hS9; go_simp; try with_reducible rfl); (try simp only [Act.put, List.setIfInBounds_toArray]); (try dsimp only [List.set_cons_zero, List.set_cons_succ])
    refine seq_call HST 8 113 rfl (by kernel_rfl) (fun K hK => ?_); go_simp; refine (HSO.out _).mono ?_; rintro e w9 ⟨rfl, hb9⟩; have BB9 := Lib.hid (BB.out.trans (hb9.mono BB.out.size)); refine hK.out _ _ (HALL.out _ BB9.out) (fun hHeld9 => ?_); clear hK K hb9 BB; have BB := BB9; clear BB9
    (try simp only [Act.put, List.setIfInBounds_toArray]); (try dsimp only [List.set_cons_zero, List.set_cons_succ])
    refine seq_call HST 9 114 rfl (by kernel_rfl) (fun K hK => ?_); go_simp; refine (HT.out _).mono ?_; rintro e w9 ⟨rfl, hb9⟩; have BB9 := Lib.hid (BB.out.trans (hb9.mono BB.out.size)); refine hK.out _ _ (HALL.out _ BB9.out) (fun hHeld9 => ?_); clear hK K hb9 BB; have BB := BB9; clear BB9
    (try simp only [Act.put, List.setIfInBounds_toArray]); (try dsimp only [List.set_cons_zero, List.set_cons_succ])
    have R9 := Lib.hid (R2.out.below BB.out); have z9 := R9.out.lt; have r0 := R9.out.c0; have r1 := R9.out.c1; have r2 := R9.out.c2; have rf := R9.out.fr
    refine seq_put HST 10 rfl (by kernel_rfl) (fun K hK => ?_); go_simp; refine hK.out _ _ ?_ (fun hHeld9 => ?_)
    · have nn0 : w.heap.size ≠ w.heap.size + 1 + 1 := by omega
      have nn1 : w.heap.size + 1 ≠ w.heap.size + 1 + 1 := by omega
      have nn2 : g ≠ w.heap.size + 1 + 1 := by omega
      obtain ⟨⟨e0, e1, e2, e3, e4, e5, e6⟩, e99⟩ := HALL.out _ BB.out
      exact ⟨⟨(far3 ⟨w.heap.size + 1, 0, none⟩ (by first | exact nn0 | exact nn1 | exact nn2)).trans e0, (far3 ⟨g, 0, none⟩ (by first | exact nn0 | exact nn1 | exact nn2)).trans e1, (far3 ⟨g, 1, none⟩ (by first | exact nn0 | exact nn1 | exact nn2)).trans e2, (far3 ⟨g, 2, none⟩ (by first | exact nn0 | exact nn1 | exact nn2)).trans e3, (far3 ⟨g, 3, none⟩ (by first | exact nn0 | exact nn1 | exact nn2)).trans e4, (far3 ⟨g, 4, none⟩ (by first | exact nn0 | exact nn1 | exact nn2)).trans e5, (far3 ⟨g, 5, none⟩ (by first | exact nn0 | exact nn1 | exact nn2)).trans e6⟩, set3_below e99 (by omega) _ _ _⟩
    clear hK K; (try simp only [Act.put, List.setIfInBounds_toArray]); (try dsimp only [List.set_cons_zero, List.set_cons_succ])
    refine seq_take HST (v := ?_) 11 5 rfl ?_ ?_; rotate_left; (intro w9 hS9; obtain ⟨⟨e0, e1, e2, e3, e4, e5, e6⟩, -⟩ := hS9; go_simp; try with_reducible rfl); (try simp only [Act.put, List.setIfInBounds_toArray]); (try dsimp only [List.set_cons_zero, List.set_cons_succ])
    refine seq_done (by kernel_rfl) ?_
    have B9 := Lib.hid (B2.out.trans (BB.out.mono B2.out.size))
    go_wp2
    have Y9 := R9.out.set (.int .i64 1) (.int .i64 D) (.string ⟨#[]⟩)
    exact bodyPost_ret (v := .tuple #[.agg #[.int .i64 1, .int .i64 D, .string ⟨#[]⟩], .int .i64 0]) (by simp [results, Try.results38, go_sem, Y9.c0, Y9.c1, Y9.c2]) rfl ⟨rfl, set3_below B9.out (by omega) _ _ _⟩
  · go_enter Try.func38, Try.ntmps38
    go_upto_region 1 with fail
    rw [HW0.out]
    obtain ⟨s0, s1, s2, sf⟩ := S0.out
    obtain ⟨x0, x1, x2, xf⟩ := N0.out
    go_wp2_with fail
    refine HE0.out.mono ?_
    rintro e w1 ⟨C, cc, rfl, hv1, hb1⟩
    have OV := Lib.hid hv1
    have B1 := Lib.hid (B0.out.trans (hb1.mono B0.out.size))
    have S1 := Lib.hid (S0.out.below hb1)
    have N1 := Lib.hid (N0.out.below hb1)
    have R1 := Lib.hid (R0.out.below hb1)
    have z1 : w.heap.size + 1 + 1 < w1.heap.size := R1.out.lt
    clear hb1 hv1 s0 s1 s2 sf x0 x1 x2 xf
    obtain ⟨x0, x1, x2, xf⟩ := N1.out
    have HN2 := Lib.hid (HNC.out C cc w1 OV.out.vals)
    go_wp2_with fail
    refine HN2.out.mono ?_
    rintro e w2 ⟨rfl, hb2⟩
    have L2 := Lib.hid hb2
    have B2 := Lib.hid (B1.out.trans (hb2.mono B1.out.size))
    have S2 := Lib.hid (S1.out.below hb2)
    have N2 := Lib.hid (N1.out.below hb2)
    have R2 := Lib.hid (R1.out.below hb2)
    have z2 := R2.out.lt
    obtain ⟨g, hC, hg, hblk1⟩ := OV.out (by simp)
    have hblk := hblk1.call hb2
    have hgz : g < w2.heap.size := hblk.lt
    have hgR : w.heap.size + 1 + 1 < g := Nat.lt_of_lt_of_le z0 hg
    subst hC
    clear hb2 x0 x1 x2 xf hblk1
    obtain ⟨c0, c1, c2⟩ := hblk.at 0 (by simp)
    simp only [List.getElem_cons_zero, Nat.zero_mul, Nat.zero_add] at c0 c1 c2
    obtain ⟨d0, d1, d2⟩ := hblk.at 1 (by simp)
    simp only [List.getElem_cons_succ, List.getElem_cons_zero, Nat.one_mul, Nat.reduceAdd] at d0 d1 d2
    obtain ⟨x0, x1, x2, xf⟩ := N2.out
    clear x1 x2 xf
    go_wp2_with fail
    have zz0 : w.heap.size < w2.heap.size := by omega
    have zz1 : w.heap.size + 1 < w2.heap.size := by omega
    have HALL := Lib.hid (fun (w' : World) (hb : Below w2.heap.size w2 w') => show (w'.cell? ⟨w.heap.size + 1, 0, none⟩ = some (.string ⟨#[60]⟩) ∧ w'.cell? ⟨g, 0, none⟩ = some (.int .i64 ak) ∧ w'.cell? ⟨g, 1, none⟩ = some (.int .i64 an) ∧ w'.cell? ⟨g, 2, none⟩ = some (.string as') ∧ w'.cell? ⟨g, 3, none⟩ = some (.int .i64 bk) ∧ w'.cell? ⟨g, 4, none⟩ = some (.int .i64 bn) ∧ w'.cell? ⟨g, 5, none⟩ = some (.string bs)) ∧ Below w.heap.size w w' from ⟨⟨(hb.cell (p := ⟨w.heap.size + 1, 0, none⟩) (by first | exact zz0 | exact zz1 | exact hgz)).trans x0, (hb.cell (p := ⟨g, 0, none⟩) (by first | exact zz0 | exact zz1 | exact hgz)).trans c0, (hb.cell (p := ⟨g, 1, none⟩) (by first | exact zz0 | exact zz1 | exact hgz)).trans c1, (hb.cell (p := ⟨g, 2, none⟩) (by first | exact zz0 | exact zz1 | exact hgz)).trans c2, (hb.cell (p := ⟨g, 3, none⟩) (by first | exact zz0 | exact zz1 | exact hgz)).trans d0, (hb.cell (p := ⟨g, 4, none⟩) (by first | exact zz0 | exact zz1 | exact hgz)).trans d1, (hb.cell (p := ⟨g, 5, none⟩) (by first | exact zz0 | exact zz1 | exact hgz)).trans d2⟩, B2.out.trans (hb.mono B2.out.size)⟩)
    clear x0 c0 c1 c2 d0 d1 d2 hblk
    refine seq_begin (fun w' => (w'.cell? ⟨w.heap.size + 1, 0, none⟩ = some (.string ⟨#[60]⟩) ∧ w'.cell? ⟨g, 0, none⟩ = some (.int .i64 ak) ∧ w'.cell? ⟨g, 1, none⟩ = some (.int .i64 an) ∧ w'.cell? ⟨g, 2, none⟩ = some (.string as') ∧ w'.cell? ⟨g, 3, none⟩ = some (.int .i64 bk) ∧ w'.cell? ⟨g, 4, none⟩ = some (.int .i64 bn) ∧ w'.cell? ⟨g, 5, none⟩ = some (.string bs)) ∧ Below w.heap.size w w') 12 (by kernel_rfl) (by kernel_rfl) (HALL.out _ (Below.drew (Below.refl _ _))) (fun HST hHeld => ?_)
    have BB := Lib.hid (show Below w2.heap.size w2 w2.drew from Below.drew (Below.refl _ _))
    refine seq_take HST (v := ?_) 0 105 rfl ?_ ?_; rotate_left; (intro w9 hS9; obtain ⟨⟨e0, e1, e2, e3, e4, e5, e6⟩, -⟩ := hS9; go_simp; try with_reducible rfl); (try simp only [Act.put, List.setIfInBounds_toArray]); (try dsimp only [List.set_cons_zero, List.set_cons_succ])
    refine seq_take HST (v := ?_) 1 106 rfl ?_ ?_; rotate_left; (intro w9 hS9; obtain ⟨⟨e0, e1, e2, e3, e4, e5, e6⟩, -⟩ := hS9; go_simp; try with_reducible rfl); (try simp only [Act.put, List.setIfInBounds_toArray]); (try dsimp only [List.set_cons_zero, List.set_cons_succ])
    refine seq_take HST (v := ?_) 2 107 rfl ?_ ?_; rotate_left; (intro w9 hS9; obtain ⟨⟨e0, e1, e2, e3, e4, e5, e6⟩, -⟩ := hS9; go_simp; try with_reducible rfl); (try simp only [Act.put, List.setIfInBounds_toArray]); (try dsimp only [List.set_cons_zero, List.set_cons_succ])
    refine seq_take HST (v := ?_) 3 108 rfl ?_ ?_; rotate_left; (intro w9 hS9; obtain ⟨⟨e0, e1, e2, e3, e4, e5, e6⟩, -⟩ := hS9; go_simp; try with_reducible rfl); (try simp only [Act.put, List.setIfInBounds_toArray]); (try dsimp only [List.set_cons_zero, List.set_cons_succ])
    refine seq_take HST (v := ?_) 4 109 rfl ?_ ?_; rotate_left; (intro w9 hS9; obtain ⟨⟨e0, e1, e2, e3, e4, e5, e6⟩, -⟩ := hS9; go_simp; try with_reducible rfl); (try simp only [Act.put, List.setIfInBounds_toArray]); (try dsimp only [List.set_cons_zero, List.set_cons_succ])
    refine seq_take HST (v := ?_) 5 110 rfl ?_ ?_; rotate_left; (intro w9 hS9; obtain ⟨⟨e0, e1, e2, e3, e4, e5, e6⟩, -⟩ := hS9; go_simp; try with_reducible rfl); (try simp only [Act.put, List.setIfInBounds_toArray]); (try dsimp only [List.set_cons_zero, List.set_cons_succ])
    refine seq_take HST (v := ?_) 6 111 rfl ?_ ?_; rotate_left; (intro w9 hS9; obtain ⟨⟨e0, e1, e2, e3, e4, e5, e6⟩, -⟩ := hS9; go_simp; try with_reducible rfl); (try simp only [Act.put, List.setIfInBounds_toArray]); (try dsimp only [List.set_cons_zero, List.set_cons_succ])
    refine seq_take HST (v := ?_) 7 112 rfl ?_ ?_; rotate_left; (intro w9 hS9; obtain ⟨⟨e0, e1, e2, e3, e4, e5, e6⟩, -⟩ := hS9; go_simp; try with_reducible rfl); (try simp only [Act.put, List.setIfInBounds_toArray]); (try dsimp only [List.set_cons_zero, List.set_cons_succ])
    refine seq_call HST 8 113 rfl (by kernel_rfl) (fun K hK => ?_); go_simp; refine (HSO.out _).mono ?_; rintro e w9 ⟨rfl, hb9⟩; have BB9 := Lib.hid (BB.out.trans (hb9.mono BB.out.size)); refine hK.out _ _ (HALL.out _ BB9.out) (fun hHeld9 => ?_); clear hK K hb9 BB; have BB := BB9; clear BB9
    (try simp only [Act.put, List.setIfInBounds_toArray]); (try dsimp only [List.set_cons_zero, List.set_cons_succ])
    refine seq_call HST 9 114 rfl (by kernel_rfl) (fun K hK => ?_); go_simp; refine (HT.out _).mono ?_; rintro e w9 ⟨rfl, hb9⟩; have BB9 := Lib.hid (BB.out.trans (hb9.mono BB.out.size)); refine hK.out _ _ (HALL.out _ BB9.out) (fun hHeld9 => ?_); clear hK K hb9 BB; have BB := BB9; clear BB9
    (try simp only [Act.put, List.setIfInBounds_toArray]); (try dsimp only [List.set_cons_zero, List.set_cons_succ])
    have R9 := Lib.hid (R2.out.below BB.out); have z9 := R9.out.lt; have r0 := R9.out.c0; have r1 := R9.out.c1; have r2 := R9.out.c2; have rf := R9.out.fr
    refine seq_put HST 10 rfl (by kernel_rfl) (fun K hK => ?_); go_simp; refine hK.out _ _ ?_ (fun hHeld9 => ?_)
    · have nn0 : w.heap.size ≠ w.heap.size + 1 + 1 := by omega
      have nn1 : w.heap.size + 1 ≠ w.heap.size + 1 + 1 := by omega
      have nn2 : g ≠ w.heap.size + 1 + 1 := by omega
      obtain ⟨⟨e0, e1, e2, e3, e4, e5, e6⟩, e99⟩ := HALL.out _ BB.out
      exact ⟨⟨(far3 ⟨w.heap.size + 1, 0, none⟩ (by first | exact nn0 | exact nn1 | exact nn2)).trans e0, (far3 ⟨g, 0, none⟩ (by first | exact nn0 | exact nn1 | exact nn2)).trans e1, (far3 ⟨g, 1, none⟩ (by first | exact nn0 | exact nn1 | exact nn2)).trans e2, (far3 ⟨g, 2, none⟩ (by first | exact nn0 | exact nn1 | exact nn2)).trans e3, (far3 ⟨g, 3, none⟩ (by first | exact nn0 | exact nn1 | exact nn2)).trans e4, (far3 ⟨g, 4, none⟩ (by first | exact nn0 | exact nn1 | exact nn2)).trans e5, (far3 ⟨g, 5, none⟩ (by first | exact nn0 | exact nn1 | exact nn2)).trans e6⟩, set3_below e99 (by omega) _ _ _⟩
    clear hK K; (try simp only [Act.put, List.setIfInBounds_toArray]); (try dsimp only [List.set_cons_zero, List.set_cons_succ])
    refine seq_take HST (v := ?_) 11 5 rfl ?_ ?_; rotate_left; (intro w9 hS9; obtain ⟨⟨e0, e1, e2, e3, e4, e5, e6⟩, -⟩ := hS9; go_simp; try with_reducible rfl); (try simp only [Act.put, List.setIfInBounds_toArray]); (try dsimp only [List.set_cons_zero, List.set_cons_succ])
    refine seq_done (by kernel_rfl) ?_
    have B9 := Lib.hid (B2.out.trans (BB.out.mono B2.out.size))
    go_wp2
    have Y9 := R9.out.set (.int .i64 1) (.int .i64 D) (.string ⟨#[]⟩)
    exact bodyPost_ret (v := .tuple #[.agg #[.int .i64 1, .int .i64 D, .string ⟨#[]⟩], .int .i64 0]) (by simp [results, Try.results38, go_sem, Y9.c0, Y9.c1, Y9.c2]) rfl ⟨rfl, set3_below B9.out (by omega) _ _ _⟩
  · go_enter Try.func38, Try.ntmps38
    go_upto_region 1 with fail
    rw [HW0.out]
    obtain ⟨s0, s1, s2, sf⟩ := S0.out
    obtain ⟨x0, x1, x2, xf⟩ := N0.out
    go_wp2_with fail
    refine HE0.out.mono ?_
    rintro e w1 ⟨C, cc, rfl, hv1, hb1⟩
    have OV := Lib.hid hv1
    have B1 := Lib.hid (B0.out.trans (hb1.mono B0.out.size))
    have S1 := Lib.hid (S0.out.below hb1)
    have N1 := Lib.hid (N0.out.below hb1)
    have R1 := Lib.hid (R0.out.below hb1)
    have z1 : w.heap.size + 1 + 1 < w1.heap.size := R1.out.lt
    clear hb1 hv1 s0 s1 s2 sf x0 x1 x2 xf
    obtain ⟨x0, x1, x2, xf⟩ := N1.out
    have HN2 := Lib.hid (HNC.out C cc w1 OV.out.vals)
    go_wp2_with fail
    refine HN2.out.mono ?_
    rintro e w2 ⟨rfl, hb2⟩
    have L2 := Lib.hid hb2
    have B2 := Lib.hid (B1.out.trans (hb2.mono B1.out.size))
    have S2 := Lib.hid (S1.out.below hb2)
    have N2 := Lib.hid (N1.out.below hb2)
    have R2 := Lib.hid (R1.out.below hb2)
    have z2 := R2.out.lt
    obtain ⟨g, hC, hg, hblk1⟩ := OV.out (by simp)
    have hblk := hblk1.call hb2
    have hgz : g < w2.heap.size := hblk.lt
    have hgR : w.heap.size + 1 + 1 < g := Nat.lt_of_lt_of_le z0 hg
    subst hC
    clear hb2 x0 x1 x2 xf hblk1
    obtain ⟨c0, c1, c2⟩ := hblk.at 0 (by simp)
    simp only [List.getElem_cons_zero, Nat.zero_mul, Nat.zero_add] at c0 c1 c2
    obtain ⟨d0, d1, d2⟩ := hblk.at 1 (by simp)
    simp only [List.getElem_cons_succ, List.getElem_cons_zero, Nat.one_mul, Nat.reduceAdd] at d0 d1 d2
    obtain ⟨x0, x1, x2, xf⟩ := N2.out
    clear x1 x2 xf
    go_wp2_with fail
    have zz0 : w.heap.size < w2.heap.size := by omega
    have zz1 : w.heap.size + 1 < w2.heap.size := by omega
    have HALL := Lib.hid (fun (w' : World) (hb : Below w2.heap.size w2 w') => show (w'.cell? ⟨w.heap.size + 1, 0, none⟩ = some (.string ⟨#[60, 61]⟩) ∧ w'.cell? ⟨g, 0, none⟩ = some (.int .i64 ak) ∧ w'.cell? ⟨g, 1, none⟩ = some (.int .i64 an) ∧ w'.cell? ⟨g, 2, none⟩ = some (.string as') ∧ w'.cell? ⟨g, 3, none⟩ = some (.int .i64 bk) ∧ w'.cell? ⟨g, 4, none⟩ = some (.int .i64 bn) ∧ w'.cell? ⟨g, 5, none⟩ = some (.string bs)) ∧ Below w.heap.size w w' from ⟨⟨(hb.cell (p := ⟨w.heap.size + 1, 0, none⟩) (by first | exact zz0 | exact zz1 | exact hgz)).trans x0, (hb.cell (p := ⟨g, 0, none⟩) (by first | exact zz0 | exact zz1 | exact hgz)).trans c0, (hb.cell (p := ⟨g, 1, none⟩) (by first | exact zz0 | exact zz1 | exact hgz)).trans c1, (hb.cell (p := ⟨g, 2, none⟩) (by first | exact zz0 | exact zz1 | exact hgz)).trans c2, (hb.cell (p := ⟨g, 3, none⟩) (by first | exact zz0 | exact zz1 | exact hgz)).trans d0, (hb.cell (p := ⟨g, 4, none⟩) (by first | exact zz0 | exact zz1 | exact hgz)).trans d1, (hb.cell (p := ⟨g, 5, none⟩) (by first | exact zz0 | exact zz1 | exact hgz)).trans d2⟩, B2.out.trans (hb.mono B2.out.size)⟩)
    clear x0 c0 c1 c2 d0 d1 d2 hblk
    refine seq_begin (fun w' => (w'.cell? ⟨w.heap.size + 1, 0, none⟩ = some (.string ⟨#[60, 61]⟩) ∧ w'.cell? ⟨g, 0, none⟩ = some (.int .i64 ak) ∧ w'.cell? ⟨g, 1, none⟩ = some (.int .i64 an) ∧ w'.cell? ⟨g, 2, none⟩ = some (.string as') ∧ w'.cell? ⟨g, 3, none⟩ = some (.int .i64 bk) ∧ w'.cell? ⟨g, 4, none⟩ = some (.int .i64 bn) ∧ w'.cell? ⟨g, 5, none⟩ = some (.string bs)) ∧ Below w.heap.size w w') 12 (by kernel_rfl) (by kernel_rfl) (HALL.out _ (Below.drew (Below.refl _ _))) (fun HST hHeld => ?_)
    have BB := Lib.hid (show Below w2.heap.size w2 w2.drew from Below.drew (Below.refl _ _))
    refine seq_take HST (v := ?_) 0 105 rfl ?_ ?_; rotate_left; (intro w9 hS9; obtain ⟨⟨e0, e1, e2, e3, e4, e5, e6⟩, -⟩ := hS9; go_simp; try with_reducible rfl); (try simp only [Act.put, List.setIfInBounds_toArray]); (try dsimp only [List.set_cons_zero, List.set_cons_succ])
    refine seq_take HST (v := ?_) 1 106 rfl ?_ ?_; rotate_left; (intro w9 hS9; obtain ⟨⟨e0, e1, e2, e3, e4, e5, e6⟩, -⟩ := hS9; go_simp; try with_reducible rfl); (try simp only [Act.put, List.setIfInBounds_toArray]); (try dsimp only [List.set_cons_zero, List.set_cons_succ])
    refine seq_take HST (v := ?_) 2 107 rfl ?_ ?_; rotate_left; (intro w9 hS9; obtain ⟨⟨e0, e1, e2, e3, e4, e5, e6⟩, -⟩ := hS9; go_simp; try with_reducible rfl); (try simp only [Act.put, List.setIfInBounds_toArray]); (try dsimp only [List.set_cons_zero, List.set_cons_succ])
    refine seq_take HST (v := ?_) 3 108 rfl ?_ ?_; rotate_left; (intro w9 hS9; obtain ⟨⟨e0, e1, e2, e3, e4, e5, e6⟩, -⟩ := hS9; go_simp; try with_reducible rfl); (try simp only [Act.put, List.setIfInBounds_toArray]); (try dsimp only [List.set_cons_zero, List.set_cons_succ])
    refine seq_take HST (v := ?_) 4 109 rfl ?_ ?_; rotate_left; (intro w9 hS9; obtain ⟨⟨e0, e1, e2, e3, e4, e5, e6⟩, -⟩ := hS9; go_simp; try with_reducible rfl); (try simp only [Act.put, List.setIfInBounds_toArray]); (try dsimp only [List.set_cons_zero, List.set_cons_succ])
    refine seq_take HST (v := ?_) 5 110 rfl ?_ ?_; rotate_left; (intro w9 hS9; obtain ⟨⟨e0, e1, e2, e3, e4, e5, e6⟩, -⟩ := hS9; go_simp; try with_reducible rfl); (try simp only [Act.put, List.setIfInBounds_toArray]); (try dsimp only [List.set_cons_zero, List.set_cons_succ])
    refine seq_take HST (v := ?_) 6 111 rfl ?_ ?_; rotate_left; (intro w9 hS9; obtain ⟨⟨e0, e1, e2, e3, e4, e5, e6⟩, -⟩ := hS9; go_simp; try with_reducible rfl); (try simp only [Act.put, List.setIfInBounds_toArray]); (try dsimp only [List.set_cons_zero, List.set_cons_succ])
    refine seq_take HST (v := ?_) 7 112 rfl ?_ ?_; rotate_left; (intro w9 hS9; obtain ⟨⟨e0, e1, e2, e3, e4, e5, e6⟩, -⟩ := hS9; go_simp; try with_reducible rfl); (try simp only [Act.put, List.setIfInBounds_toArray]); (try dsimp only [List.set_cons_zero, List.set_cons_succ])
    refine seq_call HST 8 113 rfl (by kernel_rfl) (fun K hK => ?_); go_simp; refine (HSO.out _).mono ?_; rintro e w9 ⟨rfl, hb9⟩; have BB9 := Lib.hid (BB.out.trans (hb9.mono BB.out.size)); refine hK.out _ _ (HALL.out _ BB9.out) (fun hHeld9 => ?_); clear hK K hb9 BB; have BB := BB9; clear BB9
    (try simp only [Act.put, List.setIfInBounds_toArray]); (try dsimp only [List.set_cons_zero, List.set_cons_succ])
    refine seq_call HST 9 114 rfl (by kernel_rfl) (fun K hK => ?_); go_simp; refine (HT.out _).mono ?_; rintro e w9 ⟨rfl, hb9⟩; have BB9 := Lib.hid (BB.out.trans (hb9.mono BB.out.size)); refine hK.out _ _ (HALL.out _ BB9.out) (fun hHeld9 => ?_); clear hK K hb9 BB; have BB := BB9; clear BB9
    (try simp only [Act.put, List.setIfInBounds_toArray]); (try dsimp only [List.set_cons_zero, List.set_cons_succ])
    have R9 := Lib.hid (R2.out.below BB.out); have z9 := R9.out.lt; have r0 := R9.out.c0; have r1 := R9.out.c1; have r2 := R9.out.c2; have rf := R9.out.fr
    refine seq_put HST 10 rfl (by kernel_rfl) (fun K hK => ?_); go_simp; refine hK.out _ _ ?_ (fun hHeld9 => ?_)
    · have nn0 : w.heap.size ≠ w.heap.size + 1 + 1 := by omega
      have nn1 : w.heap.size + 1 ≠ w.heap.size + 1 + 1 := by omega
      have nn2 : g ≠ w.heap.size + 1 + 1 := by omega
      obtain ⟨⟨e0, e1, e2, e3, e4, e5, e6⟩, e99⟩ := HALL.out _ BB.out
      exact ⟨⟨(far3 ⟨w.heap.size + 1, 0, none⟩ (by first | exact nn0 | exact nn1 | exact nn2)).trans e0, (far3 ⟨g, 0, none⟩ (by first | exact nn0 | exact nn1 | exact nn2)).trans e1, (far3 ⟨g, 1, none⟩ (by first | exact nn0 | exact nn1 | exact nn2)).trans e2, (far3 ⟨g, 2, none⟩ (by first | exact nn0 | exact nn1 | exact nn2)).trans e3, (far3 ⟨g, 3, none⟩ (by first | exact nn0 | exact nn1 | exact nn2)).trans e4, (far3 ⟨g, 4, none⟩ (by first | exact nn0 | exact nn1 | exact nn2)).trans e5, (far3 ⟨g, 5, none⟩ (by first | exact nn0 | exact nn1 | exact nn2)).trans e6⟩, set3_below e99 (by omega) _ _ _⟩
    clear hK K; (try simp only [Act.put, List.setIfInBounds_toArray]); (try dsimp only [List.set_cons_zero, List.set_cons_succ])
    refine seq_take HST (v := ?_) 11 5 rfl ?_ ?_; rotate_left; (intro w9 hS9; obtain ⟨⟨e0, e1, e2, e3, e4, e5, e6⟩, -⟩ := hS9; go_simp; try with_reducible rfl); (try simp only [Act.put, List.setIfInBounds_toArray]); (try dsimp only [List.set_cons_zero, List.set_cons_succ])
    refine seq_done (by kernel_rfl) ?_
    have B9 := Lib.hid (B2.out.trans (BB.out.mono B2.out.size))
    go_wp2
    have Y9 := R9.out.set (.int .i64 1) (.int .i64 D) (.string ⟨#[]⟩)
    exact bodyPost_ret (v := .tuple #[.agg #[.int .i64 1, .int .i64 D, .string ⟨#[]⟩], .int .i64 0]) (by simp [results, Try.results38, go_sem, Y9.c0, Y9.c1, Y9.c2]) rfl ⟨rfl, set3_below B9.out (by omega) _ _ _⟩
  · go_enter Try.func38, Try.ntmps38
    go_upto_region 1 with fail
    rw [HW0.out]
    obtain ⟨s0, s1, s2, sf⟩ := S0.out
    obtain ⟨x0, x1, x2, xf⟩ := N0.out
    go_wp2_with fail
    refine HE0.out.mono ?_
    rintro e w1 ⟨C, cc, rfl, hv1, hb1⟩
    have OV := Lib.hid hv1
    have B1 := Lib.hid (B0.out.trans (hb1.mono B0.out.size))
    have S1 := Lib.hid (S0.out.below hb1)
    have N1 := Lib.hid (N0.out.below hb1)
    have R1 := Lib.hid (R0.out.below hb1)
    have z1 : w.heap.size + 1 + 1 < w1.heap.size := R1.out.lt
    clear hb1 hv1 s0 s1 s2 sf x0 x1 x2 xf
    obtain ⟨x0, x1, x2, xf⟩ := N1.out
    have HN2 := Lib.hid (HNC.out C cc w1 OV.out.vals)
    go_wp2_with fail
    refine HN2.out.mono ?_
    rintro e w2 ⟨rfl, hb2⟩
    have L2 := Lib.hid hb2
    have B2 := Lib.hid (B1.out.trans (hb2.mono B1.out.size))
    have S2 := Lib.hid (S1.out.below hb2)
    have N2 := Lib.hid (N1.out.below hb2)
    have R2 := Lib.hid (R1.out.below hb2)
    have z2 := R2.out.lt
    obtain ⟨g, hC, hg, hblk1⟩ := OV.out (by simp)
    have hblk := hblk1.call hb2
    have hgz : g < w2.heap.size := hblk.lt
    have hgR : w.heap.size + 1 + 1 < g := Nat.lt_of_lt_of_le z0 hg
    subst hC
    clear hb2 x0 x1 x2 xf hblk1
    obtain ⟨c0, c1, c2⟩ := hblk.at 0 (by simp)
    simp only [List.getElem_cons_zero, Nat.zero_mul, Nat.zero_add] at c0 c1 c2
    obtain ⟨d0, d1, d2⟩ := hblk.at 1 (by simp)
    simp only [List.getElem_cons_succ, List.getElem_cons_zero, Nat.one_mul, Nat.reduceAdd] at d0 d1 d2
    obtain ⟨x0, x1, x2, xf⟩ := N2.out
    clear x1 x2 xf
    go_wp2_with fail
    have zz0 : w.heap.size < w2.heap.size := by omega
    have zz1 : w.heap.size + 1 < w2.heap.size := by omega
    have HALL := Lib.hid (fun (w' : World) (hb : Below w2.heap.size w2 w') => show (w'.cell? ⟨w.heap.size + 1, 0, none⟩ = some (.string ⟨#[62]⟩) ∧ w'.cell? ⟨g, 0, none⟩ = some (.int .i64 ak) ∧ w'.cell? ⟨g, 1, none⟩ = some (.int .i64 an) ∧ w'.cell? ⟨g, 2, none⟩ = some (.string as') ∧ w'.cell? ⟨g, 3, none⟩ = some (.int .i64 bk) ∧ w'.cell? ⟨g, 4, none⟩ = some (.int .i64 bn) ∧ w'.cell? ⟨g, 5, none⟩ = some (.string bs)) ∧ Below w.heap.size w w' from ⟨⟨(hb.cell (p := ⟨w.heap.size + 1, 0, none⟩) (by first | exact zz0 | exact zz1 | exact hgz)).trans x0, (hb.cell (p := ⟨g, 0, none⟩) (by first | exact zz0 | exact zz1 | exact hgz)).trans c0, (hb.cell (p := ⟨g, 1, none⟩) (by first | exact zz0 | exact zz1 | exact hgz)).trans c1, (hb.cell (p := ⟨g, 2, none⟩) (by first | exact zz0 | exact zz1 | exact hgz)).trans c2, (hb.cell (p := ⟨g, 3, none⟩) (by first | exact zz0 | exact zz1 | exact hgz)).trans d0, (hb.cell (p := ⟨g, 4, none⟩) (by first | exact zz0 | exact zz1 | exact hgz)).trans d1, (hb.cell (p := ⟨g, 5, none⟩) (by first | exact zz0 | exact zz1 | exact hgz)).trans d2⟩, B2.out.trans (hb.mono B2.out.size)⟩)
    clear x0 c0 c1 c2 d0 d1 d2 hblk
    refine seq_begin (fun w' => (w'.cell? ⟨w.heap.size + 1, 0, none⟩ = some (.string ⟨#[62]⟩) ∧ w'.cell? ⟨g, 0, none⟩ = some (.int .i64 ak) ∧ w'.cell? ⟨g, 1, none⟩ = some (.int .i64 an) ∧ w'.cell? ⟨g, 2, none⟩ = some (.string as') ∧ w'.cell? ⟨g, 3, none⟩ = some (.int .i64 bk) ∧ w'.cell? ⟨g, 4, none⟩ = some (.int .i64 bn) ∧ w'.cell? ⟨g, 5, none⟩ = some (.string bs)) ∧ Below w.heap.size w w') 12 (by kernel_rfl) (by kernel_rfl) (HALL.out _ (Below.drew (Below.refl _ _))) (fun HST hHeld => ?_)
    have BB := Lib.hid (show Below w2.heap.size w2 w2.drew from Below.drew (Below.refl _ _))
    refine seq_take HST (v := ?_) 0 105 rfl ?_ ?_; rotate_left; (intro w9 hS9; obtain ⟨⟨e0, e1, e2, e3, e4, e5, e6⟩, -⟩ := hS9; go_simp; try with_reducible rfl); (try simp only [Act.put, List.setIfInBounds_toArray]); (try dsimp only [List.set_cons_zero, List.set_cons_succ])
    refine seq_take HST (v := ?_) 1 106 rfl ?_ ?_; rotate_left; (intro w9 hS9; obtain ⟨⟨e0, e1, e2, e3, e4, e5, e6⟩, -⟩ := hS9; go_simp; try with_reducible rfl); (try simp only [Act.put, List.setIfInBounds_toArray]); (try dsimp only [List.set_cons_zero, List.set_cons_succ])
    refine seq_take HST (v := ?_) 2 107 rfl ?_ ?_; rotate_left; (intro w9 hS9; obtain ⟨⟨e0, e1, e2, e3, e4, e5, e6⟩, -⟩ := hS9; go_simp; try with_reducible rfl); (try simp only [Act.put, List.setIfInBounds_toArray]); (try dsimp only [List.set_cons_zero, List.set_cons_succ])
    refine seq_take HST (v := ?_) 3 108 rfl ?_ ?_; rotate_left; (intro w9 hS9; obtain ⟨⟨e0, e1, e2, e3, e4, e5, e6⟩, -⟩ := hS9; go_simp; try with_reducible rfl); (try simp only [Act.put, List.setIfInBounds_toArray]); (try dsimp only [List.set_cons_zero, List.set_cons_succ])
    refine seq_take HST (v := ?_) 4 109 rfl ?_ ?_; rotate_left; (intro w9 hS9; obtain ⟨⟨e0, e1, e2, e3, e4, e5, e6⟩, -⟩ := hS9; go_simp; try with_reducible rfl); (try simp only [Act.put, List.setIfInBounds_toArray]); (try dsimp only [List.set_cons_zero, List.set_cons_succ])
    refine seq_take HST (v := ?_) 5 110 rfl ?_ ?_; rotate_left; (intro w9 hS9; obtain ⟨⟨e0, e1, e2, e3, e4, e5, e6⟩, -⟩ := hS9; go_simp; try with_reducible rfl); (try simp only [Act.put, List.setIfInBounds_toArray]); (try dsimp only [List.set_cons_zero, List.set_cons_succ])
    refine seq_take HST (v := ?_) 6 111 rfl ?_ ?_; rotate_left; (intro w9 hS9; obtain ⟨⟨e0, e1, e2, e3, e4, e5, e6⟩, -⟩ := hS9; go_simp; try with_reducible rfl); (try simp only [Act.put, List.setIfInBounds_toArray]); (try dsimp only [List.set_cons_zero, List.set_cons_succ])
    refine seq_take HST (v := ?_) 7 112 rfl ?_ ?_; rotate_left; (intro w9 hS9; obtain ⟨⟨e0, e1, e2, e3, e4, e5, e6⟩, -⟩ := hS9; go_simp; try with_reducible rfl); (try simp only [Act.put, List.setIfInBounds_toArray]); (try dsimp only [List.set_cons_zero, List.set_cons_succ])
    refine seq_call HST 8 113 rfl (by kernel_rfl) (fun K hK => ?_); go_simp; refine (HSO.out _).mono ?_; rintro e w9 ⟨rfl, hb9⟩; have BB9 := Lib.hid (BB.out.trans (hb9.mono BB.out.size)); refine hK.out _ _ (HALL.out _ BB9.out) (fun hHeld9 => ?_); clear hK K hb9 BB; have BB := BB9; clear BB9
    (try simp only [Act.put, List.setIfInBounds_toArray]); (try dsimp only [List.set_cons_zero, List.set_cons_succ])
    refine seq_call HST 9 114 rfl (by kernel_rfl) (fun K hK => ?_); go_simp; refine (HT.out _).mono ?_; rintro e w9 ⟨rfl, hb9⟩; have BB9 := Lib.hid (BB.out.trans (hb9.mono BB.out.size)); refine hK.out _ _ (HALL.out _ BB9.out) (fun hHeld9 => ?_); clear hK K hb9 BB; have BB := BB9; clear BB9
    (try simp only [Act.put, List.setIfInBounds_toArray]); (try dsimp only [List.set_cons_zero, List.set_cons_succ])
    have R9 := Lib.hid (R2.out.below BB.out); have z9 := R9.out.lt; have r0 := R9.out.c0; have r1 := R9.out.c1; have r2 := R9.out.c2; have rf := R9.out.fr
    refine seq_put HST 10 rfl (by kernel_rfl) (fun K hK => ?_); go_simp; refine hK.out _ _ ?_ (fun hHeld9 => ?_)
    · have nn0 : w.heap.size ≠ w.heap.size + 1 + 1 := by omega
      have nn1 : w.heap.size + 1 ≠ w.heap.size + 1 + 1 := by omega
      have nn2 : g ≠ w.heap.size + 1 + 1 := by omega
      obtain ⟨⟨e0, e1, e2, e3, e4, e5, e6⟩, e99⟩ := HALL.out _ BB.out
      exact ⟨⟨(far3 ⟨w.heap.size + 1, 0, none⟩ (by first | exact nn0 | exact nn1 | exact nn2)).trans e0, (far3 ⟨g, 0, none⟩ (by first | exact nn0 | exact nn1 | exact nn2)).trans e1, (far3 ⟨g, 1, none⟩ (by first | exact nn0 | exact nn1 | exact nn2)).trans e2, (far3 ⟨g, 2, none⟩ (by first | exact nn0 | exact nn1 | exact nn2)).trans e3, (far3 ⟨g, 3, none⟩ (by first | exact nn0 | exact nn1 | exact nn2)).trans e4, (far3 ⟨g, 4, none⟩ (by first | exact nn0 | exact nn1 | exact nn2)).trans e5, (far3 ⟨g, 5, none⟩ (by first | exact nn0 | exact nn1 | exact nn2)).trans e6⟩, set3_below e99 (by omega) _ _ _⟩
    clear hK K; (try simp only [Act.put, List.setIfInBounds_toArray]); (try dsimp only [List.set_cons_zero, List.set_cons_succ])
    refine seq_take HST (v := ?_) 11 5 rfl ?_ ?_; rotate_left; (intro w9 hS9; obtain ⟨⟨e0, e1, e2, e3, e4, e5, e6⟩, -⟩ := hS9; go_simp; try with_reducible rfl); (try simp only [Act.put, List.setIfInBounds_toArray]); (try dsimp only [List.set_cons_zero, List.set_cons_succ])
    refine seq_done (by kernel_rfl) ?_
    have B9 := Lib.hid (B2.out.trans (BB.out.mono B2.out.size))
    go_wp2
    have Y9 := R9.out.set (.int .i64 1) (.int .i64 D) (.string ⟨#[]⟩)
    exact bodyPost_ret (v := .tuple #[.agg #[.int .i64 1, .int .i64 D, .string ⟨#[]⟩], .int .i64 0]) (by simp [results, Try.results38, go_sem, Y9.c0, Y9.c1, Y9.c2]) rfl ⟨rfl, set3_below B9.out (by omega) _ _ _⟩
  · go_enter Try.func38, Try.ntmps38
    go_upto_region 1 with fail
    rw [HW0.out]
    obtain ⟨s0, s1, s2, sf⟩ := S0.out
    obtain ⟨x0, x1, x2, xf⟩ := N0.out
    go_wp2_with fail
    refine HE0.out.mono ?_
    rintro e w1 ⟨C, cc, rfl, hv1, hb1⟩
    have OV := Lib.hid hv1
    have B1 := Lib.hid (B0.out.trans (hb1.mono B0.out.size))
    have S1 := Lib.hid (S0.out.below hb1)
    have N1 := Lib.hid (N0.out.below hb1)
    have R1 := Lib.hid (R0.out.below hb1)
    have z1 : w.heap.size + 1 + 1 < w1.heap.size := R1.out.lt
    clear hb1 hv1 s0 s1 s2 sf x0 x1 x2 xf
    obtain ⟨x0, x1, x2, xf⟩ := N1.out
    have HN2 := Lib.hid (HNC.out C cc w1 OV.out.vals)
    go_wp2_with fail
    refine HN2.out.mono ?_
    rintro e w2 ⟨rfl, hb2⟩
    have L2 := Lib.hid hb2
    have B2 := Lib.hid (B1.out.trans (hb2.mono B1.out.size))
    have S2 := Lib.hid (S1.out.below hb2)
    have N2 := Lib.hid (N1.out.below hb2)
    have R2 := Lib.hid (R1.out.below hb2)
    have z2 := R2.out.lt
    obtain ⟨g, hC, hg, hblk1⟩ := OV.out (by simp)
    have hblk := hblk1.call hb2
    have hgz : g < w2.heap.size := hblk.lt
    have hgR : w.heap.size + 1 + 1 < g := Nat.lt_of_lt_of_le z0 hg
    subst hC
    clear hb2 x0 x1 x2 xf hblk1
    obtain ⟨c0, c1, c2⟩ := hblk.at 0 (by simp)
    simp only [List.getElem_cons_zero, Nat.zero_mul, Nat.zero_add] at c0 c1 c2
    obtain ⟨d0, d1, d2⟩ := hblk.at 1 (by simp)
    simp only [List.getElem_cons_succ, List.getElem_cons_zero, Nat.one_mul, Nat.reduceAdd] at d0 d1 d2
    obtain ⟨x0, x1, x2, xf⟩ := N2.out
    clear x1 x2 xf
    go_wp2_with fail
    have zz0 : w.heap.size < w2.heap.size := by omega
    have zz1 : w.heap.size + 1 < w2.heap.size := by omega
    have HALL := Lib.hid (fun (w' : World) (hb : Below w2.heap.size w2 w') => show (w'.cell? ⟨w.heap.size + 1, 0, none⟩ = some (.string ⟨#[62, 61]⟩) ∧ w'.cell? ⟨g, 0, none⟩ = some (.int .i64 ak) ∧ w'.cell? ⟨g, 1, none⟩ = some (.int .i64 an) ∧ w'.cell? ⟨g, 2, none⟩ = some (.string as') ∧ w'.cell? ⟨g, 3, none⟩ = some (.int .i64 bk) ∧ w'.cell? ⟨g, 4, none⟩ = some (.int .i64 bn) ∧ w'.cell? ⟨g, 5, none⟩ = some (.string bs)) ∧ Below w.heap.size w w' from ⟨⟨(hb.cell (p := ⟨w.heap.size + 1, 0, none⟩) (by first | exact zz0 | exact zz1 | exact hgz)).trans x0, (hb.cell (p := ⟨g, 0, none⟩) (by first | exact zz0 | exact zz1 | exact hgz)).trans c0, (hb.cell (p := ⟨g, 1, none⟩) (by first | exact zz0 | exact zz1 | exact hgz)).trans c1, (hb.cell (p := ⟨g, 2, none⟩) (by first | exact zz0 | exact zz1 | exact hgz)).trans c2, (hb.cell (p := ⟨g, 3, none⟩) (by first | exact zz0 | exact zz1 | exact hgz)).trans d0, (hb.cell (p := ⟨g, 4, none⟩) (by first | exact zz0 | exact zz1 | exact hgz)).trans d1, (hb.cell (p := ⟨g, 5, none⟩) (by first | exact zz0 | exact zz1 | exact hgz)).trans d2⟩, B2.out.trans (hb.mono B2.out.size)⟩)
    clear x0 c0 c1 c2 d0 d1 d2 hblk
    refine seq_begin (fun w' => (w'.cell? ⟨w.heap.size + 1, 0, none⟩ = some (.string ⟨#[62, 61]⟩) ∧ w'.cell? ⟨g, 0, none⟩ = some (.int .i64 ak) ∧ w'.cell? ⟨g, 1, none⟩ = some (.int .i64 an) ∧ w'.cell? ⟨g, 2, none⟩ = some (.string as') ∧ w'.cell? ⟨g, 3, none⟩ = some (.int .i64 bk) ∧ w'.cell? ⟨g, 4, none⟩ = some (.int .i64 bn) ∧ w'.cell? ⟨g, 5, none⟩ = some (.string bs)) ∧ Below w.heap.size w w') 12 (by kernel_rfl) (by kernel_rfl) (HALL.out _ (Below.drew (Below.refl _ _))) (fun HST hHeld => ?_)
    have BB := Lib.hid (show Below w2.heap.size w2 w2.drew from Below.drew (Below.refl _ _))
    refine seq_take HST (v := ?_) 0 105 rfl ?_ ?_; rotate_left; (intro w9 hS9; obtain ⟨⟨e0, e1, e2, e3, e4, e5, e6⟩, -⟩ := hS9; go_simp; try with_reducible rfl); (try simp only [Act.put, List.setIfInBounds_toArray]); (try dsimp only [List.set_cons_zero, List.set_cons_succ])
    refine seq_take HST (v := ?_) 1 106 rfl ?_ ?_; rotate_left; (intro w9 hS9; obtain ⟨⟨e0, e1, e2, e3, e4, e5, e6⟩, -⟩ := hS9; go_simp; try with_reducible rfl); (try simp only [Act.put, List.setIfInBounds_toArray]); (try dsimp only [List.set_cons_zero, List.set_cons_succ])
    refine seq_take HST (v := ?_) 2 107 rfl ?_ ?_; rotate_left; (intro w9 hS9; obtain ⟨⟨e0, e1, e2, e3, e4, e5, e6⟩, -⟩ := hS9; go_simp; try with_reducible rfl); (try simp only [Act.put, List.setIfInBounds_toArray]); (try dsimp only [List.set_cons_zero, List.set_cons_succ])
    refine seq_take HST (v := ?_) 3 108 rfl ?_ ?_; rotate_left; (intro w9 hS9; obtain ⟨⟨e0, e1, e2, e3, e4, e5, e6⟩, -⟩ := hS9; go_simp; try with_reducible rfl); (try simp only [Act.put, List.setIfInBounds_toArray]); (try dsimp only [List.set_cons_zero, List.set_cons_succ])
    refine seq_take HST (v := ?_) 4 109 rfl ?_ ?_; rotate_left; (intro w9 hS9; obtain ⟨⟨e0, e1, e2, e3, e4, e5, e6⟩, -⟩ := hS9; go_simp; try with_reducible rfl); (try simp only [Act.put, List.setIfInBounds_toArray]); (try dsimp only [List.set_cons_zero, List.set_cons_succ])
    refine seq_take HST (v := ?_) 5 110 rfl ?_ ?_; rotate_left; (intro w9 hS9; obtain ⟨⟨e0, e1, e2, e3, e4, e5, e6⟩, -⟩ := hS9; go_simp; try with_reducible rfl); (try simp only [Act.put, List.setIfInBounds_toArray]); (try dsimp only [List.set_cons_zero, List.set_cons_succ])
    refine seq_take HST (v := ?_) 6 111 rfl ?_ ?_; rotate_left; (intro w9 hS9; obtain ⟨⟨e0, e1, e2, e3, e4, e5, e6⟩, -⟩ := hS9; go_simp; try with_reducible rfl); (try simp only [Act.put, List.setIfInBounds_toArray]); (try dsimp only [List.set_cons_zero, List.set_cons_succ])
    refine seq_take HST (v := ?_) 7 112 rfl ?_ ?_; rotate_left; (intro w9 hS9; obtain ⟨⟨e0, e1, e2, e3, e4, e5, e6⟩, -⟩ := hS9; go_simp; try with_reducible rfl); (try simp only [Act.put, List.setIfInBounds_toArray]); (try dsimp only [List.set_cons_zero, List.set_cons_succ])
    refine seq_call HST 8 113 rfl (by kernel_rfl) (fun K hK => ?_); go_simp; refine (HSO.out _).mono ?_; rintro e w9 ⟨rfl, hb9⟩; have BB9 := Lib.hid (BB.out.trans (hb9.mono BB.out.size)); refine hK.out _ _ (HALL.out _ BB9.out) (fun hHeld9 => ?_); clear hK K hb9 BB; have BB := BB9; clear BB9
    (try simp only [Act.put, List.setIfInBounds_toArray]); (try dsimp only [List.set_cons_zero, List.set_cons_succ])
    refine seq_call HST 9 114 rfl (by kernel_rfl) (fun K hK => ?_); go_simp; refine (HT.out _).mono ?_; rintro e w9 ⟨rfl, hb9⟩; have BB9 := Lib.hid (BB.out.trans (hb9.mono BB.out.size)); refine hK.out _ _ (HALL.out _ BB9.out) (fun hHeld9 => ?_); clear hK K hb9 BB; have BB := BB9; clear BB9
    (try simp only [Act.put, List.setIfInBounds_toArray]); (try dsimp only [List.set_cons_zero, List.set_cons_succ])
    have R9 := Lib.hid (R2.out.below BB.out); have z9 := R9.out.lt; have r0 := R9.out.c0; have r1 := R9.out.c1; have r2 := R9.out.c2; have rf := R9.out.fr
    refine seq_put HST 10 rfl (by kernel_rfl) (fun K hK => ?_); go_simp; refine hK.out _ _ ?_ (fun hHeld9 => ?_)
    · have nn0 : w.heap.size ≠ w.heap.size + 1 + 1 := by omega
      have nn1 : w.heap.size + 1 ≠ w.heap.size + 1 + 1 := by omega
      have nn2 : g ≠ w.heap.size + 1 + 1 := by omega
      obtain ⟨⟨e0, e1, e2, e3, e4, e5, e6⟩, e99⟩ := HALL.out _ BB.out
      exact ⟨⟨(far3 ⟨w.heap.size + 1, 0, none⟩ (by first | exact nn0 | exact nn1 | exact nn2)).trans e0, (far3 ⟨g, 0, none⟩ (by first | exact nn0 | exact nn1 | exact nn2)).trans e1, (far3 ⟨g, 1, none⟩ (by first | exact nn0 | exact nn1 | exact nn2)).trans e2, (far3 ⟨g, 2, none⟩ (by first | exact nn0 | exact nn1 | exact nn2)).trans e3, (far3 ⟨g, 3, none⟩ (by first | exact nn0 | exact nn1 | exact nn2)).trans e4, (far3 ⟨g, 4, none⟩ (by first | exact nn0 | exact nn1 | exact nn2)).trans e5, (far3 ⟨g, 5, none⟩ (by first | exact nn0 | exact nn1 | exact nn2)).trans e6⟩, set3_below e99 (by omega) _ _ _⟩
    clear hK K; (try simp only [Act.put, List.setIfInBounds_toArray]); (try dsimp only [List.set_cons_zero, List.set_cons_succ])
    refine seq_take HST (v := ?_) 11 5 rfl ?_ ?_; rotate_left; (intro w9 hS9; obtain ⟨⟨e0, e1, e2, e3, e4, e5, e6⟩, -⟩ := hS9; go_simp; try with_reducible rfl); (try simp only [Act.put, List.setIfInBounds_toArray]); (try dsimp only [List.set_cons_zero, List.set_cons_succ])
    refine seq_done (by kernel_rfl) ?_
    have B9 := Lib.hid (B2.out.trans (BB.out.mono B2.out.size))
    go_wp2
    have Y9 := R9.out.set (.int .i64 1) (.int .i64 D) (.string ⟨#[]⟩)
    exact bodyPost_ret (v := .tuple #[.agg #[.int .i64 1, .int .i64 D, .string ⟨#[]⟩], .int .i64 0]) (by simp [results, Try.results38, go_sem, Y9.c0, Y9.c1, Y9.c2]) rfl ⟨rfl, set3_below B9.out (by omega) _ _ _⟩
set_option maxHeartbeats 8000000 in
set_option maxRecDepth 100000 in
theorem vstep_not (tx : ByteArray) (X : Option Addr) (n k : Nat) (A : Option Addr) (na ca : Nat) (B : Option Addr) (nb cb mb : Nat) (b : Bool) (w : World)
    (hE : ∀ w', Below w.heap.size w w' → Calls Try.prog 56 #[.slice X n k, .func (.func 38) #[.agg #[.slice A na ca, .slice B nb cb, .map (some mb)]] #[]] w' (VsPost w' ([truV b], 0))) :
    Calls Try.prog 38 #[.agg #[.slice A na ca, .slice B nb cb, .map (some mb)], .agg #[.string ⟨#[110, 111, 116]⟩, .string tx, .slice X n k]] w (SumPost w (truV (!b), 0)) := by
  have HNC := Lib.hid (fun (C : Option Addr) (cc : Nat) (w' : World) (hv : Vals w' w'.heap.size C [truV b]) => ncont_any C cc [truV b] w' hv (by simp))
  rw [show ([truV b] : List CV).any (fun v => v.1 == 0) = false by cases b <;> rfl] at HNC
  have HTF := Lib.hid (fun w' => truth_any false w')
  have HTB := Lib.hid (fun w' => truth_any (!b) w')
  rw [show (if (false : Bool) = true then (1 : Int) else 0) = 0 from rfl] at HTF
  obtain ⟨w0, hw0⟩ : ∃ w0, ((w.alloc (.cells #[.slice A na ca, .slice B nb cb, .map (some mb)] 79)).alloc (.cells #[.string ⟨#[110, 111, 116]⟩, .string tx, .slice X n k] 24)).alloc (.cells #[.int .i64 0, .int .i64 0, .string ⟨#[]⟩] 38) = w0 := ⟨_, rfl⟩
  have B0 := Lib.hid (show Below w.heap.size w w0 by rw [← hw0]; exact ((below_alloc w _).alloc (by simp) _).alloc (by simp; omega) _)
  have S0 := Lib.hid (show NBox w0 w.heap.size (.slice A na ca) (.slice B nb cb) (.map (some mb)) by rw [← hw0]; exact ⟨by simp [go_sem], by simp [go_sem], by simp [go_sem], fun j => by simp [go_sem]⟩)
  have N0 := Lib.hid (show NBox w0 (w.heap.size + 1) (.string ⟨#[110, 111, 116]⟩) (.string tx) (.slice X n k) by rw [← hw0]; exact ⟨by simp [go_sem], by simp [go_sem], by simp [go_sem], fun j => by simp [go_sem]⟩)
  have R0 := Lib.hid (show NBox w0 (w.heap.size + 1 + 1) (.int .i64 0) (.int .i64 0) (.string ⟨#[]⟩) by rw [← hw0]; exact ⟨by simp [go_sem], by simp [go_sem], by simp [go_sem], fun j => by simp [go_sem]⟩)
  have z0 : w.heap.size + 1 + 1 < w0.heap.size := R0.out.lt
  have HE0 := Lib.hid (hE w0 B0.out)
  unfold VsPost at HE0
  have HW0 := Lib.hid hw0
  clear hw0 hE
  cases b
  · have HDT := Lib.hid (show truV (!false) = (1, 1, ⟨#[]⟩) from rfl)
    rw [HDT.out]
    rw [show truV false = (1, 0, ⟨#[]⟩) from rfl] at HE0 HNC
    have HTB2 := Lib.hid (show ∀ w', Calls Try.prog 22 #[.bool true] w' (fun e w'' => e = .returned (.agg #[.int .i64 1, .int .i64 1, .string ⟨#[]⟩]) ∧ Below w'.heap.size w' w'') from HTB.out)
    clear HTB HDT
    go_enter Try.func38, Try.ntmps38
    go_upto_region 1 with fail
    rw [HW0.out]
    obtain ⟨s0, s1, s2, sf⟩ := S0.out
    obtain ⟨x0, x1, x2, xf⟩ := N0.out
    go_wp2_with fail
    refine HE0.out.mono ?_
    rintro e w1 ⟨C, cc, rfl, hv1, hb1⟩
    have OV := Lib.hid hv1
    have B1 := Lib.hid (B0.out.trans (hb1.mono B0.out.size))
    have S1 := Lib.hid (S0.out.below hb1)
    have N1 := Lib.hid (N0.out.below hb1)
    have R1 := Lib.hid (R0.out.below hb1)
    have z1 : w.heap.size + 1 + 1 < w1.heap.size := R1.out.lt
    clear hb1 hv1 s0 s1 s2 sf x0 x1 x2 xf
    obtain ⟨x0, x1, x2, xf⟩ := N1.out
    have HN2 := Lib.hid (HNC.out C cc w1 OV.out.vals)
    go_wp2_with fail
    refine HN2.out.mono ?_
    rintro e w2 ⟨rfl, hb2⟩
    have L2 := Lib.hid hb2
    have B2 := Lib.hid (B1.out.trans (hb2.mono B1.out.size))
    have S2 := Lib.hid (S1.out.below hb2)
    have N2 := Lib.hid (N1.out.below hb2)
    have R2 := Lib.hid (R1.out.below hb2)
    have z2 := R2.out.lt
    obtain ⟨g, hC, hg, hblk1⟩ := OV.out (by simp)
    have hblk := hblk1.call hb2
    have hgz : g < w2.heap.size := hblk.lt
    have hgR : w.heap.size + 1 + 1 < g := Nat.lt_of_lt_of_le z0 hg
    subst hC
    clear hb2 x0 x1 x2 xf hblk1
    obtain ⟨c0, c1, c2⟩ := hblk.at 0 (by simp)
    simp only [List.getElem_cons_zero, Nat.zero_mul, Nat.zero_add] at c0 c1 c2
    obtain ⟨x0, x1, x2, xf⟩ := N2.out
    clear x1 x2 xf
    go_wp2_with fail
    have zz0 : w.heap.size < w2.heap.size := by omega
    have zz1 : w.heap.size + 1 < w2.heap.size := by omega
    have HALL := Lib.hid (fun (w' : World) (hb : Below w2.heap.size w2 w') => show (w'.cell? ⟨w.heap.size + 1, 0, none⟩ = some (.string ⟨#[110, 111, 116]⟩) ∧ w'.cell? ⟨g, 0, none⟩ = some (.int .i64 1) ∧ w'.cell? ⟨g, 1, none⟩ = some (.int .i64 0) ∧ w'.cell? ⟨g, 2, none⟩ = some (.string ⟨#[]⟩)) ∧ Below w.heap.size w w' from ⟨⟨(hb.cell (p := ⟨w.heap.size + 1, 0, none⟩) (by first | exact zz0 | exact zz1 | exact hgz)).trans x0, (hb.cell (p := ⟨g, 0, none⟩) (by first | exact zz0 | exact zz1 | exact hgz)).trans c0, (hb.cell (p := ⟨g, 1, none⟩) (by first | exact zz0 | exact zz1 | exact hgz)).trans c1, (hb.cell (p := ⟨g, 2, none⟩) (by first | exact zz0 | exact zz1 | exact hgz)).trans c2⟩, B2.out.trans (hb.mono B2.out.size)⟩)
    clear x0 c0 c1 c2 hblk
    refine seq_begin (fun w' => (w'.cell? ⟨w.heap.size + 1, 0, none⟩ = some (.string ⟨#[110, 111, 116]⟩) ∧ w'.cell? ⟨g, 0, none⟩ = some (.int .i64 1) ∧ w'.cell? ⟨g, 1, none⟩ = some (.int .i64 0) ∧ w'.cell? ⟨g, 2, none⟩ = some (.string ⟨#[]⟩)) ∧ Below w.heap.size w w') 8 (by kernel_rfl) (by kernel_rfl) (HALL.out _ (Below.drew (Below.refl _ _))) (fun HST hHeld => ?_)
    have BB := Lib.hid (show Below w2.heap.size w2 w2.drew from Below.drew (Below.refl _ _))
    refine seq_take HST (v := ?_) 0 77 rfl ?_ ?_; rotate_left; (intro w9 hS9; obtain ⟨⟨e0, e1, e2, e3⟩, -⟩ := hS9; go_simp; try with_reducible rfl); (try simp only [Act.put, List.setIfInBounds_toArray]); (try dsimp only [List.set_cons_zero, List.set_cons_succ])
    refine seq_take HST (v := ?_) 1 78 rfl ?_ ?_; rotate_left; (intro w9 hS9; obtain ⟨⟨e0, e1, e2, e3⟩, -⟩ := hS9; go_simp; try with_reducible rfl); (try simp only [Act.put, List.setIfInBounds_toArray]); (try dsimp only [List.set_cons_zero, List.set_cons_succ])
    refine seq_take HST (v := ?_) 2 79 rfl ?_ ?_; rotate_left; (intro w9 hS9; obtain ⟨⟨e0, e1, e2, e3⟩, -⟩ := hS9; go_simp; try with_reducible rfl); (try simp only [Act.put, List.setIfInBounds_toArray]); (try dsimp only [List.set_cons_zero, List.set_cons_succ])
    refine seq_call HST 3 80 rfl (by kernel_rfl) (fun K hK => ?_); go_simp; refine (HTF.out _).mono ?_; rintro e w9 ⟨rfl, hb9⟩; have BB9 := Lib.hid (BB.out.trans (hb9.mono BB.out.size)); refine hK.out _ _ (HALL.out _ BB9.out) (fun hHeld9 => ?_); clear hK K hb9 BB; have BB := BB9; clear BB9
    (try simp only [Act.put, List.setIfInBounds_toArray]); (try dsimp only [List.set_cons_zero, List.set_cons_succ])
    refine seq_take HST (v := ?_) 4 81 rfl ?_ ?_; rotate_left; (intro w9 hS9; obtain ⟨⟨e0, e1, e2, e3⟩, -⟩ := hS9; go_simp; try with_reducible rfl); (try simp only [Act.put, List.setIfInBounds_toArray]); (try dsimp only [List.set_cons_zero, List.set_cons_succ])
    refine seq_call HST 5 82 rfl (by kernel_rfl) (fun K hK => ?_); go_simp; refine (HTB2.out _).mono ?_; rintro e w9 ⟨rfl, hb9⟩; have BB9 := Lib.hid (BB.out.trans (hb9.mono BB.out.size)); refine hK.out _ _ (HALL.out _ BB9.out) (fun hHeld9 => ?_); clear hK K hb9 BB; have BB := BB9; clear BB9
    (try simp only [Act.put, List.setIfInBounds_toArray]); (try dsimp only [List.set_cons_zero, List.set_cons_succ])
    have R9 := Lib.hid (R2.out.below BB.out); have z9 := R9.out.lt; have r0 := R9.out.c0; have r1 := R9.out.c1; have r2 := R9.out.c2; have rf := R9.out.fr
    refine seq_put HST 6 rfl (by kernel_rfl) (fun K hK => ?_); go_simp; refine hK.out _ _ ?_ (fun hHeld9 => ?_)
    · have nn0 : w.heap.size ≠ w.heap.size + 1 + 1 := by omega
      have nn1 : w.heap.size + 1 ≠ w.heap.size + 1 + 1 := by omega
      have nn2 : g ≠ w.heap.size + 1 + 1 := by omega
      obtain ⟨⟨e0, e1, e2, e3⟩, e99⟩ := HALL.out _ BB.out
      exact ⟨⟨(far3 ⟨w.heap.size + 1, 0, none⟩ (by first | exact nn0 | exact nn1 | exact nn2)).trans e0, (far3 ⟨g, 0, none⟩ (by first | exact nn0 | exact nn1 | exact nn2)).trans e1, (far3 ⟨g, 1, none⟩ (by first | exact nn0 | exact nn1 | exact nn2)).trans e2, (far3 ⟨g, 2, none⟩ (by first | exact nn0 | exact nn1 | exact nn2)).trans e3⟩, set3_below e99 (by omega) _ _ _⟩
    clear hK K; (try simp only [Act.put, List.setIfInBounds_toArray]); (try dsimp only [List.set_cons_zero, List.set_cons_succ])
    refine seq_take HST (v := ?_) 7 5 rfl ?_ ?_; rotate_left; (intro w9 hS9; obtain ⟨⟨e0, e1, e2, e3⟩, -⟩ := hS9; go_simp; try with_reducible rfl); (try simp only [Act.put, List.setIfInBounds_toArray]); (try dsimp only [List.set_cons_zero, List.set_cons_succ])
    refine seq_done (by kernel_rfl) ?_
    have B9 := Lib.hid (B2.out.trans (BB.out.mono B2.out.size))
    go_wp2
    have Y9 := R9.out.set (.int .i64 1) (.int .i64 1) (.string ⟨#[]⟩)
    exact bodyPost_ret (v := .tuple #[.agg #[.int .i64 1, .int .i64 1, .string ⟨#[]⟩], .int .i64 0]) (by simp [results, Try.results38, go_sem, Y9.c0, Y9.c1, Y9.c2]) rfl ⟨rfl, set3_below B9.out (by omega) _ _ _⟩
  · have HDT := Lib.hid (show truV (!true) = (1, 0, ⟨#[]⟩) from rfl)
    rw [HDT.out]
    rw [show truV true = (1, 1, ⟨#[]⟩) from rfl] at HE0 HNC
    have HTB2 := Lib.hid (show ∀ w', Calls Try.prog 22 #[.bool false] w' (fun e w'' => e = .returned (.agg #[.int .i64 1, .int .i64 0, .string ⟨#[]⟩]) ∧ Below w'.heap.size w' w'') from HTB.out)
    clear HTB HDT
    go_enter Try.func38, Try.ntmps38
    go_upto_region 1 with fail
    rw [HW0.out]
    obtain ⟨s0, s1, s2, sf⟩ := S0.out
    obtain ⟨x0, x1, x2, xf⟩ := N0.out
    go_wp2_with fail
    refine HE0.out.mono ?_
    rintro e w1 ⟨C, cc, rfl, hv1, hb1⟩
    have OV := Lib.hid hv1
    have B1 := Lib.hid (B0.out.trans (hb1.mono B0.out.size))
    have S1 := Lib.hid (S0.out.below hb1)
    have N1 := Lib.hid (N0.out.below hb1)
    have R1 := Lib.hid (R0.out.below hb1)
    have z1 : w.heap.size + 1 + 1 < w1.heap.size := R1.out.lt
    clear hb1 hv1 s0 s1 s2 sf x0 x1 x2 xf
    obtain ⟨x0, x1, x2, xf⟩ := N1.out
    have HN2 := Lib.hid (HNC.out C cc w1 OV.out.vals)
    go_wp2_with fail
    refine HN2.out.mono ?_
    rintro e w2 ⟨rfl, hb2⟩
    have L2 := Lib.hid hb2
    have B2 := Lib.hid (B1.out.trans (hb2.mono B1.out.size))
    have S2 := Lib.hid (S1.out.below hb2)
    have N2 := Lib.hid (N1.out.below hb2)
    have R2 := Lib.hid (R1.out.below hb2)
    have z2 := R2.out.lt
    obtain ⟨g, hC, hg, hblk1⟩ := OV.out (by simp)
    have hblk := hblk1.call hb2
    have hgz : g < w2.heap.size := hblk.lt
    have hgR : w.heap.size + 1 + 1 < g := Nat.lt_of_lt_of_le z0 hg
    subst hC
    clear hb2 x0 x1 x2 xf hblk1
    obtain ⟨c0, c1, c2⟩ := hblk.at 0 (by simp)
    simp only [List.getElem_cons_zero, Nat.zero_mul, Nat.zero_add] at c0 c1 c2
    obtain ⟨x0, x1, x2, xf⟩ := N2.out
    clear x1 x2 xf
    go_wp2_with fail
    have zz0 : w.heap.size < w2.heap.size := by omega
    have zz1 : w.heap.size + 1 < w2.heap.size := by omega
    have HALL := Lib.hid (fun (w' : World) (hb : Below w2.heap.size w2 w') => show (w'.cell? ⟨w.heap.size + 1, 0, none⟩ = some (.string ⟨#[110, 111, 116]⟩) ∧ w'.cell? ⟨g, 0, none⟩ = some (.int .i64 1) ∧ w'.cell? ⟨g, 1, none⟩ = some (.int .i64 1) ∧ w'.cell? ⟨g, 2, none⟩ = some (.string ⟨#[]⟩)) ∧ Below w.heap.size w w' from ⟨⟨(hb.cell (p := ⟨w.heap.size + 1, 0, none⟩) (by first | exact zz0 | exact zz1 | exact hgz)).trans x0, (hb.cell (p := ⟨g, 0, none⟩) (by first | exact zz0 | exact zz1 | exact hgz)).trans c0, (hb.cell (p := ⟨g, 1, none⟩) (by first | exact zz0 | exact zz1 | exact hgz)).trans c1, (hb.cell (p := ⟨g, 2, none⟩) (by first | exact zz0 | exact zz1 | exact hgz)).trans c2⟩, B2.out.trans (hb.mono B2.out.size)⟩)
    clear x0 c0 c1 c2 hblk
    refine seq_begin (fun w' => (w'.cell? ⟨w.heap.size + 1, 0, none⟩ = some (.string ⟨#[110, 111, 116]⟩) ∧ w'.cell? ⟨g, 0, none⟩ = some (.int .i64 1) ∧ w'.cell? ⟨g, 1, none⟩ = some (.int .i64 1) ∧ w'.cell? ⟨g, 2, none⟩ = some (.string ⟨#[]⟩)) ∧ Below w.heap.size w w') 8 (by kernel_rfl) (by kernel_rfl) (HALL.out _ (Below.drew (Below.refl _ _))) (fun HST hHeld => ?_)
    have BB := Lib.hid (show Below w2.heap.size w2 w2.drew from Below.drew (Below.refl _ _))
    refine seq_take HST (v := ?_) 0 77 rfl ?_ ?_; rotate_left; (intro w9 hS9; obtain ⟨⟨e0, e1, e2, e3⟩, -⟩ := hS9; go_simp; try with_reducible rfl); (try simp only [Act.put, List.setIfInBounds_toArray]); (try dsimp only [List.set_cons_zero, List.set_cons_succ])
    refine seq_take HST (v := ?_) 1 78 rfl ?_ ?_; rotate_left; (intro w9 hS9; obtain ⟨⟨e0, e1, e2, e3⟩, -⟩ := hS9; go_simp; try with_reducible rfl); (try simp only [Act.put, List.setIfInBounds_toArray]); (try dsimp only [List.set_cons_zero, List.set_cons_succ])
    refine seq_take HST (v := ?_) 2 79 rfl ?_ ?_; rotate_left; (intro w9 hS9; obtain ⟨⟨e0, e1, e2, e3⟩, -⟩ := hS9; go_simp; try with_reducible rfl); (try simp only [Act.put, List.setIfInBounds_toArray]); (try dsimp only [List.set_cons_zero, List.set_cons_succ])
    refine seq_call HST 3 80 rfl (by kernel_rfl) (fun K hK => ?_); go_simp; refine (HTF.out _).mono ?_; rintro e w9 ⟨rfl, hb9⟩; have BB9 := Lib.hid (BB.out.trans (hb9.mono BB.out.size)); refine hK.out _ _ (HALL.out _ BB9.out) (fun hHeld9 => ?_); clear hK K hb9 BB; have BB := BB9; clear BB9
    (try simp only [Act.put, List.setIfInBounds_toArray]); (try dsimp only [List.set_cons_zero, List.set_cons_succ])
    refine seq_take HST (v := ?_) 4 81 rfl ?_ ?_; rotate_left; (intro w9 hS9; obtain ⟨⟨e0, e1, e2, e3⟩, -⟩ := hS9; go_simp; try with_reducible rfl); (try simp only [Act.put, List.setIfInBounds_toArray]); (try dsimp only [List.set_cons_zero, List.set_cons_succ])
    refine seq_call HST 5 82 rfl (by kernel_rfl) (fun K hK => ?_); go_simp; refine (HTB2.out _).mono ?_; rintro e w9 ⟨rfl, hb9⟩; have BB9 := Lib.hid (BB.out.trans (hb9.mono BB.out.size)); refine hK.out _ _ (HALL.out _ BB9.out) (fun hHeld9 => ?_); clear hK K hb9 BB; have BB := BB9; clear BB9
    (try simp only [Act.put, List.setIfInBounds_toArray]); (try dsimp only [List.set_cons_zero, List.set_cons_succ])
    have R9 := Lib.hid (R2.out.below BB.out); have z9 := R9.out.lt; have r0 := R9.out.c0; have r1 := R9.out.c1; have r2 := R9.out.c2; have rf := R9.out.fr
    refine seq_put HST 6 rfl (by kernel_rfl) (fun K hK => ?_); go_simp; refine hK.out _ _ ?_ (fun hHeld9 => ?_)
    · have nn0 : w.heap.size ≠ w.heap.size + 1 + 1 := by omega
      have nn1 : w.heap.size + 1 ≠ w.heap.size + 1 + 1 := by omega
      have nn2 : g ≠ w.heap.size + 1 + 1 := by omega
      obtain ⟨⟨e0, e1, e2, e3⟩, e99⟩ := HALL.out _ BB.out
      exact ⟨⟨(far3 ⟨w.heap.size + 1, 0, none⟩ (by first | exact nn0 | exact nn1 | exact nn2)).trans e0, (far3 ⟨g, 0, none⟩ (by first | exact nn0 | exact nn1 | exact nn2)).trans e1, (far3 ⟨g, 1, none⟩ (by first | exact nn0 | exact nn1 | exact nn2)).trans e2, (far3 ⟨g, 2, none⟩ (by first | exact nn0 | exact nn1 | exact nn2)).trans e3⟩, set3_below e99 (by omega) _ _ _⟩
    clear hK K; (try simp only [Act.put, List.setIfInBounds_toArray]); (try dsimp only [List.set_cons_zero, List.set_cons_succ])
    refine seq_take HST (v := ?_) 7 5 rfl ?_ ?_; rotate_left; (intro w9 hS9; obtain ⟨⟨e0, e1, e2, e3⟩, -⟩ := hS9; go_simp; try with_reducible rfl); (try simp only [Act.put, List.setIfInBounds_toArray]); (try dsimp only [List.set_cons_zero, List.set_cons_succ])
    refine seq_done (by kernel_rfl) ?_
    have B9 := Lib.hid (B2.out.trans (BB.out.mono B2.out.size))
    go_wp2
    have Y9 := R9.out.set (.int .i64 1) (.int .i64 0) (.string ⟨#[]⟩)
    exact bodyPost_ret (v := .tuple #[.agg #[.int .i64 1, .int .i64 0, .string ⟨#[]⟩], .int .i64 0]) (by simp [results, Try.results38, go_sem, Y9.c0, Y9.c1, Y9.c2]) rfl ⟨rfl, set3_below B9.out (by omega) _ _ _⟩
end Go.Proofs.Ytkibacolnagkcaa.Code
