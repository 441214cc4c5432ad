/-
  The program's value of a node, by its Op, over what its Kids come to (neg).
-/
import Derived.Test.YtkibacolnagkcaaM29
namespace Go.Proofs.Ytkibacolnagkcaa.Code
open Go.ChangeShapes Go.WideShapes Go.ChangeAt Go.RowKit Val Elems
set_option linter.unusedVariables false
set_option linter.unusedSimpArgs false

set_option maxHeartbeats 8000000 in
set_option maxRecDepth 100000 in
theorem vstep_neg (tx : ByteArray) (X : Option Addr) (n k : Nat) (A : Option Addr) (na ca : Nat) (B : Option Addr) (nb cb mb : Nat) (ak an : Int) (as' : ByteArray) (w : World) (hm : MapR w mb 3 sumsF) (hK : ak = 2 ∨ ak = 3) (h1 : Num.fits an) (hany : (([(ak, an, as')] : List CV).any fun v => v.1 == 0) = false)
    (hE : ∀ w', Below w.heap.size w w' → Calls Try.prog 56 #[.slice X n k, .func (.func 38) #[.agg #[.slice A na ca, .slice B nb cb, .map (some mb)]] #[]] w' (VsPost w' ([(ak, an, as')], 0))) :
    Calls Try.prog 38 #[.agg #[.slice A na ca, .slice B nb cb, .map (some mb)], .agg #[.string ⟨#[110, 101, 103]⟩, .string tx, .slice X n k]] w (SumPost w (sumV ak (0 - an))) := by
  have HNC := Lib.hid (fun (C : Option Addr) (cc : Nat) (w' : World) (hv : Vals w' w'.heap.size C [(ak, an, as')]) => ncont_any C cc [(ak, an, as')] w' hv (by simp))
  rw [show ([(ak, an, as')] : List CV).any (fun v => v.1 == 0) = false from hany] at HNC
  clear hany
  have HSM := Lib.hid (fun (w' : World) (hb : Below w.heap.size w w') => csum_any ⟨#[45]⟩ (by decide) (.slice A na ca) (.slice B nb cb) mb 3 ak 0 ⟨#[]⟩ ak an as' ak w' (hm.below hb) hK (by rcases hK with rfl | rfl <;> decide) ⟨by decide, by decide⟩ h1 rfl rfl)
  unfold SumPost at HSM
  rw [show sumN (ByteArray.data ⟨#[45]⟩).toList 0 an = 0 - an from rfl] at HSM
  obtain ⟨R, hR⟩ : ∃ R, sumV ak (0 - an) = R := ⟨_, rfl⟩
  rw [hR] at HSM ⊢
  obtain ⟨⟨vk, vn, vs⟩, ve⟩ := R
  dsimp only at HSM
  clear hR hm hK h1
  obtain ⟨w0, hw0⟩ : ∃ w0, ((w.alloc (.cells #[.slice A na ca, .slice B nb cb, .map (some mb)] 79)).alloc (.cells #[.string ⟨#[110, 101, 103]⟩, .string tx, .slice X n k] 24)).alloc (.cells #[.int .i64 0, .int .i64 0, .string ⟨#[]⟩] 38) = w0 := ⟨_, rfl⟩
  have B0 := Lib.hid (show Below w.heap.size w w0 by rw [← hw0]; exact ((below_alloc w _).alloc (by simp) _).alloc (by simp; omega) _)
  have S0 := Lib.hid (show NBox w0 w.heap.size (.slice A na ca) (.slice B nb cb) (.map (some mb)) by rw [← hw0]; exact ⟨by simp [go_sem], by simp [go_sem], by simp [go_sem], fun j => by simp [go_sem]⟩)
  have N0 := Lib.hid (show NBox w0 (w.heap.size + 1) (.string ⟨#[110, 101, 103]⟩) (.string tx) (.slice X n k) by rw [← hw0]; exact ⟨by simp [go_sem], by simp [go_sem], by simp [go_sem], fun j => by simp [go_sem]⟩)
  have R0 := Lib.hid (show NBox w0 (w.heap.size + 1 + 1) (.int .i64 0) (.int .i64 0) (.string ⟨#[]⟩) by rw [← hw0]; exact ⟨by simp [go_sem], by simp [go_sem], by simp [go_sem], fun j => by simp [go_sem]⟩)
  have z0 : w.heap.size + 1 + 1 < w0.heap.size := R0.out.lt
  have HE0 := Lib.hid (hE w0 B0.out)
  unfold VsPost at HE0
  have HW0 := Lib.hid hw0
  clear hw0 hE
  go_enter Try.func38, Try.ntmps38
  go_upto_region 1 with fail
  rw [HW0.out]
  obtain ⟨s0, s1, s2, sf⟩ := S0.out
  obtain ⟨x0, x1, x2, xf⟩ := N0.out
  go_wp2_with fail
  refine HE0.out.mono ?_
  rintro e w1 ⟨C, cc, rfl, hv1, hb1⟩
  have OV := Lib.hid hv1
  have B1 := Lib.hid (B0.out.trans (hb1.mono B0.out.size))
  have S1 := Lib.hid (S0.out.below hb1)
  have N1 := Lib.hid (N0.out.below hb1)
  have R1 := Lib.hid (R0.out.below hb1)
  have z1 : w.heap.size + 1 + 1 < w1.heap.size := R1.out.lt
  clear hb1 hv1 s0 s1 s2 sf x0 x1 x2 xf
  obtain ⟨x0, x1, x2, xf⟩ := N1.out
  have HN2 := Lib.hid (HNC.out C cc w1 OV.out.vals)
  go_wp2_with fail
  refine HN2.out.mono ?_
  rintro e w2 ⟨rfl, hb2⟩
  have L2 := Lib.hid hb2
  have B2 := Lib.hid (B1.out.trans (hb2.mono B1.out.size))
  have S2 := Lib.hid (S1.out.below hb2)
  have N2 := Lib.hid (N1.out.below hb2)
  have R2 := Lib.hid (R1.out.below hb2)
  have z2 := R2.out.lt
  obtain ⟨g, hC, hg, hblk1⟩ := OV.out (by simp)
  have hblk := hblk1.call hb2
  have hgz : g < w2.heap.size := hblk.lt
  have hgR : w.heap.size + 1 + 1 < g := Nat.lt_of_lt_of_le z0 hg
  subst hC
  clear hb2 x0 x1 x2 xf hblk1
  obtain ⟨c0, c1, c2⟩ := hblk.at 0 (by simp)
  simp only [List.getElem_cons_zero, Nat.zero_mul, Nat.zero_add] at c0 c1 c2
  obtain ⟨x0, x1, x2, xf⟩ := N2.out
  have hn1 : g ≠ w.heap.size + 1 := by omega
  have hn2 : w.heap.size + 1 ≠ g := by omega
  have hz1 : w.heap.size + 1 < w2.heap.size := by omega
  clear hblk
  go_upto_region 30 with fail
  go_region_law (fail)
  all_goals
    obtain ⟨w5, hw5⟩ : ∃ w5, ((w2.setCell ⟨w.heap.size + 1, 0, none⟩ (.string ⟨#[45]⟩)).alloc (.cells #[.int .i64 ak, .int .i64 0, .string ⟨#[]⟩, .int .i64 ak, .int .i64 an, .string as'] 38)).drew = w5 := ⟨_, rfl⟩
    have hz9 : (w2.setCell ⟨w.heap.size + 1, 0, none⟩ (.string ⟨#[45]⟩)).heap.size = w2.heap.size := by simp
    have B5 := Lib.hid (show Below w.heap.size w w5 by rw [← hw5]; exact Below.drew ((B2.out.setCell (p := ⟨w.heap.size + 1, 0, none⟩) (by show w.heap.size ≤ w.heap.size + 1; omega) _).alloc (by rw [hz9]; exact B2.out.size) _))
    have S5 := Lib.hid (show NBox w5 w.heap.size (.slice A na ca) (.slice B nb cb) (.map (some mb)) by rw [← hw5]; exact ((lset_far S2.out ⟨w.heap.size + 1, 0, none⟩ (by show w.heap.size + 1 ≠ w.heap.size; omega) _).alloc _).below (Below.drew (Below.refl _ _)))
    have R5 := Lib.hid (show NBox w5 (w.heap.size + 1 + 1) (.int .i64 0) (.int .i64 0) (.string ⟨#[]⟩) by rw [← hw5]; exact ((lset_far R2.out ⟨w.heap.size + 1, 0, none⟩ (by show w.heap.size + 1 ≠ w.heap.size + 1 + 1; omega) _).alloc _).below (Below.drew (Below.refl _ _)))
    have N5 := Lib.hid (show NBox w5 (w.heap.size + 1) (.string ⟨#[45]⟩) (.string tx) (.slice X n k) by rw [← hw5]; exact ((lset_zero N2.out _).alloc _).below (Below.drew (Below.refl _ _)))
    obtain ⟨g5, hg5⟩ : ∃ g5, w2.heap.size = g5 := ⟨_, rfl⟩
    have K5 := Lib.hid (show w5.cell? ⟨g5, 0, none⟩ = some (.int .i64 ak) ∧ w5.cell? ⟨g5, 1, none⟩ = some (.int .i64 0) ∧ w5.cell? ⟨g5, 2, none⟩ = some (.string ⟨#[]⟩) ∧ w5.cell? ⟨g5, 3, none⟩ = some (.int .i64 ak) ∧ w5.cell? ⟨g5, 4, none⟩ = some (.int .i64 an) ∧ w5.cell? ⟨g5, 5, none⟩ = some (.string as') by
      rw [← hw5, ← hg5, ← hz9]
      exact ⟨by simp [go_sem], by simp [go_sem], by simp [go_sem], by simp [go_sem], by simp [go_sem], by simp [go_sem]⟩)
    have hg9 : w.heap.size + 1 + 1 < g5 := by omega
    have hgz5 : g5 < w5.heap.size := by rw [← hw5, ← hg5]; simp [World.drew]
    try rw [hw5]
    try rw [hg5]
    clear hw5 hz9 B2 S2 R2 N2 x0 x1 x2 xf c0 c1 c2 hgz hgR hn1 hn2 hz1 z2 hg5
    have z2 := R5.out.lt
    obtain ⟨s0, s1, s2, sf⟩ := S5.out
    obtain ⟨x0, x1, x2, xf⟩ := N5.out
    obtain ⟨c0, c1, c2, d0, d1, d2⟩ := K5.out
    clear x1 x2 xf sf
    go_wp2_with fail
    have zz0 : w.heap.size < w5.heap.size := by omega
    have zz1 : w.heap.size + 1 < w5.heap.size := by omega
    have HALL := Lib.hid (fun (w' : World) (hb : Below w5.heap.size w5 w') => show (w'.cell? ⟨w.heap.size, 0, none⟩ = some (.slice A na ca) ∧ w'.cell? ⟨w.heap.size, 1, none⟩ = some (.slice B nb cb) ∧ w'.cell? ⟨w.heap.size, 2, none⟩ = some (.map (some mb)) ∧ w'.cell? ⟨w.heap.size + 1, 0, none⟩ = some (.string ⟨#[45]⟩) ∧ w'.cell? ⟨g5, 0, none⟩ = some (.int .i64 ak) ∧ w'.cell? ⟨g5, 1, none⟩ = some (.int .i64 0) ∧ w'.cell? ⟨g5, 2, none⟩ = some (.string ⟨#[]⟩) ∧ w'.cell? ⟨g5, 3, none⟩ = some (.int .i64 ak) ∧ w'.cell? ⟨g5, 4, none⟩ = some (.int .i64 an) ∧ w'.cell? ⟨g5, 5, none⟩ = some (.string as')) ∧ Below w.heap.size w w' from ⟨⟨(hb.cell (p := ⟨w.heap.size, 0, none⟩) (by first | exact zz0 | exact zz1 | exact hgz5)).trans s0, (hb.cell (p := ⟨w.heap.size, 1, none⟩) (by first | exact zz0 | exact zz1 | exact hgz5)).trans s1, (hb.cell (p := ⟨w.heap.size, 2, none⟩) (by first | exact zz0 | exact zz1 | exact hgz5)).trans s2, (hb.cell (p := ⟨w.heap.size + 1, 0, none⟩) (by first | exact zz0 | exact zz1 | exact hgz5)).trans x0, (hb.cell (p := ⟨g5, 0, none⟩) (by first | exact zz0 | exact zz1 | exact hgz5)).trans c0, (hb.cell (p := ⟨g5, 1, none⟩) (by first | exact zz0 | exact zz1 | exact hgz5)).trans c1, (hb.cell (p := ⟨g5, 2, none⟩) (by first | exact zz0 | exact zz1 | exact hgz5)).trans c2, (hb.cell (p := ⟨g5, 3, none⟩) (by first | exact zz0 | exact zz1 | exact hgz5)).trans d0, (hb.cell (p := ⟨g5, 4, none⟩) (by first | exact zz0 | exact zz1 | exact hgz5)).trans d1, (hb.cell (p := ⟨g5, 5, none⟩) (by first | exact zz0 | exact zz1 | exact hgz5)).trans d2⟩, B5.out.trans (hb.mono B5.out.size)⟩)
    clear s0 s1 s2 x0 c0 c1 c2 d0 d1 d2
    refine seq_begin (fun w' => (w'.cell? ⟨w.heap.size, 0, none⟩ = some (.slice A na ca) ∧ w'.cell? ⟨w.heap.size, 1, none⟩ = some (.slice B nb cb) ∧ w'.cell? ⟨w.heap.size, 2, none⟩ = some (.map (some mb)) ∧ w'.cell? ⟨w.heap.size + 1, 0, none⟩ = some (.string ⟨#[45]⟩) ∧ w'.cell? ⟨g5, 0, none⟩ = some (.int .i64 ak) ∧ w'.cell? ⟨g5, 1, none⟩ = some (.int .i64 0) ∧ w'.cell? ⟨g5, 2, none⟩ = some (.string ⟨#[]⟩) ∧ w'.cell? ⟨g5, 3, none⟩ = some (.int .i64 ak) ∧ w'.cell? ⟨g5, 4, none⟩ = some (.int .i64 an) ∧ w'.cell? ⟨g5, 5, none⟩ = some (.string as')) ∧ Below w.heap.size w w') 14 (by kernel_rfl) (by kernel_rfl) (HALL.out _ (Below.drew (Below.refl _ _))) (fun HST hHeld => ?_)
    have BB := Lib.hid (show Below w5.heap.size w5 w5.drew from Below.drew (Below.refl _ _))
    refine seq_take HST (v := ?_) 0 93 rfl ?_ ?_; rotate_left; (intro w9 hS9; obtain ⟨⟨e0, e1, e2, e3, e4, e5, e6, e7, e8, e9⟩, -⟩ := hS9; go_simp; try with_reducible rfl); (try simp only [Act.put, List.setIfInBounds_toArray]); (try dsimp only [List.set_cons_zero, List.set_cons_succ])
    refine seq_take HST (v := ?_) 1 94 rfl ?_ ?_; rotate_left; (intro w9 hS9; obtain ⟨⟨e0, e1, e2, e3, e4, e5, e6, e7, e8, e9⟩, -⟩ := hS9; go_simp; try with_reducible rfl); (try simp only [Act.put, List.setIfInBounds_toArray]); (try dsimp only [List.set_cons_zero, List.set_cons_succ])
    refine seq_take HST (v := ?_) 2 95 rfl ?_ ?_; rotate_left; (intro w9 hS9; obtain ⟨⟨e0, e1, e2, e3, e4, e5, e6, e7, e8, e9⟩, -⟩ := hS9; go_simp; try with_reducible rfl); (try simp only [Act.put, List.setIfInBounds_toArray]); (try dsimp only [List.set_cons_zero, List.set_cons_succ])
    refine seq_take HST (v := ?_) 3 96 rfl ?_ ?_; rotate_left; (intro w9 hS9; obtain ⟨⟨e0, e1, e2, e3, e4, e5, e6, e7, e8, e9⟩, -⟩ := hS9; go_simp; try with_reducible rfl); (try simp only [Act.put, List.setIfInBounds_toArray]); (try dsimp only [List.set_cons_zero, List.set_cons_succ])
    refine seq_take HST (v := ?_) 4 97 rfl ?_ ?_; rotate_left; (intro w9 hS9; obtain ⟨⟨e0, e1, e2, e3, e4, e5, e6, e7, e8, e9⟩, -⟩ := hS9; go_simp; try with_reducible rfl); (try simp only [Act.put, List.setIfInBounds_toArray]); (try dsimp only [List.set_cons_zero, List.set_cons_succ])
    refine seq_take HST (v := ?_) 5 98 rfl ?_ ?_; rotate_left; (intro w9 hS9; obtain ⟨⟨e0, e1, e2, e3, e4, e5, e6, e7, e8, e9⟩, -⟩ := hS9; go_simp; try with_reducible rfl); (try simp only [Act.put, List.setIfInBounds_toArray]); (try dsimp only [List.set_cons_zero, List.set_cons_succ])
    refine seq_take HST (v := ?_) 6 99 rfl ?_ ?_; rotate_left; (intro w9 hS9; obtain ⟨⟨e0, e1, e2, e3, e4, e5, e6, e7, e8, e9⟩, -⟩ := hS9; go_simp; try with_reducible rfl); (try simp only [Act.put, List.setIfInBounds_toArray]); (try dsimp only [List.set_cons_zero, List.set_cons_succ])
    refine seq_take HST (v := ?_) 7 100 rfl ?_ ?_; rotate_left; (intro w9 hS9; obtain ⟨⟨e0, e1, e2, e3, e4, e5, e6, e7, e8, e9⟩, -⟩ := hS9; go_simp; try with_reducible rfl); (try simp only [Act.put, List.setIfInBounds_toArray]); (try dsimp only [List.set_cons_zero, List.set_cons_succ])
    refine seq_take HST (v := ?_) 8 101 rfl ?_ ?_; rotate_left; (intro w9 hS9; obtain ⟨⟨e0, e1, e2, e3, e4, e5, e6, e7, e8, e9⟩, -⟩ := hS9; go_simp; try with_reducible rfl); (try simp only [Act.put, List.setIfInBounds_toArray]); (try dsimp only [List.set_cons_zero, List.set_cons_succ])
    refine seq_call HST 9 102 rfl (by kernel_rfl) (fun K hK => ?_); go_simp; refine (HSM.out _ (B5.out.trans (BB.out.mono B5.out.size))).mono ?_; rintro e w9 ⟨rfl, hb9⟩; have BB9 := Lib.hid (BB.out.trans (hb9.mono BB.out.size)); refine hK.out _ _ (HALL.out _ BB9.out) (fun hHeld9 => ?_); clear hK K hb9 BB; have BB := BB9; clear BB9
    (try simp only [Act.put, List.setIfInBounds_toArray]); (try dsimp only [List.set_cons_zero, List.set_cons_succ])
    refine seq_take HST (v := ?_) 10 103 rfl ?_ ?_; rotate_left; (intro w9 hS9; obtain ⟨⟨e0, e1, e2, e3, e4, e5, e6, e7, e8, e9⟩, -⟩ := hS9; go_simp; try with_reducible rfl); (try simp only [Act.put, List.setIfInBounds_toArray]); (try dsimp only [List.set_cons_zero, List.set_cons_succ])
    refine seq_take HST (v := ?_) 11 104 rfl ?_ ?_; rotate_left; (intro w9 hS9; obtain ⟨⟨e0, e1, e2, e3, e4, e5, e6, e7, e8, e9⟩, -⟩ := hS9; go_simp; try with_reducible rfl); (try simp only [Act.put, List.setIfInBounds_toArray]); (try dsimp only [List.set_cons_zero, List.set_cons_succ])
    have R9 := Lib.hid (R5.out.below BB.out); have z9 := R9.out.lt; have r0 := R9.out.c0; have r1 := R9.out.c1; have r2 := R9.out.c2; have rf := R9.out.fr
    refine seq_put HST 12 rfl (by kernel_rfl) (fun K hK => ?_); go_simp; refine hK.out _ _ ?_ (fun hHeld9 => ?_)
    · have nn0 : w.heap.size ≠ w.heap.size + 1 + 1 := by omega
      have nn1 : w.heap.size + 1 ≠ w.heap.size + 1 + 1 := by omega
      have nn2 : g5 ≠ w.heap.size + 1 + 1 := by omega
      obtain ⟨⟨e0, e1, e2, e3, e4, e5, e6, e7, e8, e9⟩, e99⟩ := HALL.out _ BB.out
      exact ⟨⟨(far3 ⟨w.heap.size, 0, none⟩ (by first | exact nn0 | exact nn1 | exact nn2)).trans e0, (far3 ⟨w.heap.size, 1, none⟩ (by first | exact nn0 | exact nn1 | exact nn2)).trans e1, (far3 ⟨w.heap.size, 2, none⟩ (by first | exact nn0 | exact nn1 | exact nn2)).trans e2, (far3 ⟨w.heap.size + 1, 0, none⟩ (by first | exact nn0 | exact nn1 | exact nn2)).trans e3, (far3 ⟨g5, 0, none⟩ (by first | exact nn0 | exact nn1 | exact nn2)).trans e4, (far3 ⟨g5, 1, none⟩ (by first | exact nn0 | exact nn1 | exact nn2)).trans e5, (far3 ⟨g5, 2, none⟩ (by first | exact nn0 | exact nn1 | exact nn2)).trans e6, (far3 ⟨g5, 3, none⟩ (by first | exact nn0 | exact nn1 | exact nn2)).trans e7, (far3 ⟨g5, 4, none⟩ (by first | exact nn0 | exact nn1 | exact nn2)).trans e8, (far3 ⟨g5, 5, none⟩ (by first | exact nn0 | exact nn1 | exact nn2)).trans e9⟩, set3_below e99 (by omega) _ _ _⟩
    clear hK K; (try simp only [Act.put, List.setIfInBounds_toArray]); (try dsimp only [List.set_cons_zero, List.set_cons_succ])
    refine seq_take HST (v := ?_) 13 5 rfl ?_ ?_; rotate_left; (intro w9 hS9; obtain ⟨⟨e0, e1, e2, e3, e4, e5, e6, e7, e8, e9⟩, -⟩ := hS9; go_simp; try with_reducible rfl); (try simp only [Act.put, List.setIfInBounds_toArray]); (try dsimp only [List.set_cons_zero, List.set_cons_succ])
    refine seq_done (by kernel_rfl) ?_
    have B9 := Lib.hid (B5.out.trans (BB.out.mono B5.out.size))
    go_wp2
    have Y9 := R9.out.set (.int .i64 vk) (.int .i64 vn) (.string vs)
    exact bodyPost_ret (v := .tuple #[.agg #[.int .i64 vk, .int .i64 vn, .string vs], .int .i64 ve]) (by simp [results, Try.results38, go_sem, Y9.c0, Y9.c1, Y9.c2]) rfl ⟨rfl, set3_below B9.out (by omega) _ _ _⟩
end Go.Proofs.Ytkibacolnagkcaa.Code
/-
  The program's (scope).value of any node with which nothing is wrong, for a row that fits.
-/
namespace Go.Proofs.Ytkibacolnagkcaa.Code
open Go.ChangeShapes Go.WideShapes Go.ChangeAt Go.RowKit Val Elems
set_option linter.unusedVariables false
set_option linter.unusedSimpArgs false
/-- what value answers, of any node that is nested no more deeply -/
def ValAt (d : Nat) (A : Option Addr) (ca : Nat) (cols : List W) (B : Option Addr) (cb : Nat) (row : List CV) : Prop :=
  ∀ (t : Nod), t.deep ≤ d → (typeE cols t).2 = 0 → ∀ (S : Nat → Prop) (op tx : ByteArray) (X : Option Addr) (n k mb : Nat) (w : World), (∀ g, S g → g < w.heap.size) → RIn w S t (op, tx, X, n, k) → At wc 3 w w.heap.size A cols → Vals w w.heap.size B row → MapR w mb 3 sumsF →
    Calls Try.prog 38 #[.agg #[.slice A cols.length ca, .slice B row.length cb, .map (some mb)], .agg #[.string op, .string tx, .slice X n k]] w (SumPost w (valE cols row t))
theorem value_tell {d : Nat} {A : Option Addr} {ca : Nat} {cols : List W} {B : Option Addr} {cb : Nat} {row : List CV} (ih : ValAt d A ca cols B cb row) (ks : List Nod) (hd : ∀ (k : Nat) (hk : k < ks.length), ks[k].deep ≤ d) (hty : ∀ (k : Nat) (hk : k < ks.length), (typeE cols ks[k]).2 = 0) (S : Nat → Prop) (mb : Nat) (w : World) (hS : ∀ g, S g → g < w.heap.size) (hv : At wc 3 w w.heap.size A cols) (hr : Vals w w.heap.size B row) (hm : MapR w mb 3 sumsF) :
    TellV 38 #[.agg #[.slice A cols.length ca, .slice B row.length cb, .map (some mb)]] (valE cols row) ks S w := by
  intro k hk op tx X n m w1 hb hn
  exact ih ks[k] (hd k hk) (hty k hk) S op tx X n m mb w1 (fun g h => Nat.lt_of_lt_of_le (hS g h) hb.size) hn ((hv.below hb).more hb.size) ((hr.below hb).more hb.size) (hm.below hb)
theorem any_split {L : List CV} (h : ¬ (L.any fun v => v.1 == 0) = true) : (L.any fun v => v.1 == 0) = false := by
  cases hb : (L.any fun v => v.1 == 0) with
  | true => exact absurd hb h
  | false => rfl
theorem value_all (A : Option Addr) (ca : Nat) (cols : List W) (hcl : cols.length ≤ 4194304) (B : Option Addr) (cb : Nat) (row : List CV) (hf : rowFits row (kindsC cols) = true) (hfit : FitL row) : ∀ d, ValAt d A ca cols B cb row
  | 0, t, h, _, _, _, _, _, _, _, _, _, _, _, _, _, _ => absurd h (by rw [deep_ks]; omega)
  | d + 1, t, h, hty, S, op, tx, X, n, k, mb, w, hS, hn, hv, hr, hm => by
    have ih := value_all A ca cols hcl B cb row hf hfit d
    obtain ⟨eo, et, en, hkl⟩ := hn.texts
    dsimp only at eo et en
    obtain ⟨o, x, ks⟩ := t
    dsimp only [Nod.ks, Nod.op, Nod.tx] at eo et en hkl
    have FI := fine_of hf hty
    have e1 : op.data.toList = o := by rw [eo]
    have e2 : tx.data.toList = x := by rw [et]
    have hdk : ∀ (j : Nat) (hj : j < ks.length), ks[j].deep ≤ d := fun j hj => by have h1 := deepL_mem (List.getElem_mem hj); rw [deep_ks] at h; have h2 : Nod.deepL ks + 1 ≤ d + 1 := h; omega
    have htk := type_each FI.hl
    have hE : ∀ w', Below w.heap.size w w' → Calls Try.prog 56 #[.slice X n k, .func (.func 38) #[.agg #[.slice A cols.length ca, .slice B row.length cb, .map (some mb)]] #[]] w' (VsPost w' ((valL cols row ks).1, (valL cols row ks).2)) := by
      intro w' hb
      have hS' : ∀ g, S g → g < w'.heap.size := fun g h => Nat.lt_of_lt_of_le (hS g h) hb.size
      have h9 := eachV_any 38 (enters_of Try.func38 (by kernel_rfl) rfl) #[.agg #[.slice A cols.length ca, .slice B row.length cb, .map (some mb)]] (valE cols row) (.mk o x ks) S op tx X n k w' hS' (hn.bel hS hb) (value_tell ih ks hdk htk S mb w' hS' ((hv.below hb).more hb.size) ((hr.below hb).more hb.size) (hm.below hb))
      rw [show eachL (valE cols row) (Nod.mk o x ks).ks = valL cols row ks from (each_val cols row ks).symm] at h9
      exact h9
    have hlen : ∀ h0 : (valL cols row ks).2 = 0, (valL cols row ks).1.length ≤ 2600000000000 := fun h0 => by rw [valL_len cols row ks h0]; exact hkl
    have hvf := valL_fits cols row hfit ks
    by_cases h0 : (valL cols row ks).2 = 0
    case neg =>
      rw [FI.bad h0]
      exact vstep_err op tx X n k A cols.length ca B row.length cb mb _ _ w h0 hE
    rw [h0] at hE
    by_cases hlit : o ∈ lits
    · obtain ⟨hk0, hval⟩ := FI.lit hlit
      rw [hval, ← e1, ← e2]
      have hn0 : n = 0 := by rw [en, hk0]; rfl
      subst hn0
      exact vstep_lit op tx X k A cols.length ca B row.length cb mb _ w (by rw [e1]; exact hlit) hE
    by_cases hcol : o = sCol
    · subst hcol
      obtain ⟨i, hi, hir, hz, hval⟩ := FI.col
      rw [hval]
      have hop : op = ⟨#[99, 111, 108]⟩ := by rw [← Lib.mk_data op, e1]; rfl
      subst hop
      exact vstep_col tx X n k A ca B cb mb _ w cols row hv hcl hr i hir (by omega) (by rw [e2]; exact hz) hE
    by_cases his : o = sIsNull
    · subst his
      obtain ⟨⟨ak, an, as'⟩, hL, hval⟩ := FI.isnull h0
      rw [hval]
      rw [hL] at hE
      have hop : op = ⟨#[105, 115, 32, 110, 117, 108, 108]⟩ := by rw [← Lib.mk_data op, e1]; rfl
      subst hop
      exact vstep_is tx X n k A cols.length ca B row.length cb mb ak an as' w hE
    by_cases hand : o = sAnd
    · subst hand
      rw [FI.logic (d := false) (.inl ⟨rfl, rfl⟩) h0]
      exact vstep_log op tx X n k A cols.length ca B row.length cb mb _ w false (.inl ⟨by rw [← Lib.mk_data op, e1]; rfl, rfl⟩) (hlen h0) hE
    by_cases hor : o = sOr
    · subst hor
      rw [FI.logic (d := true) (.inr ⟨rfl, rfl⟩) h0]
      exact vstep_log op tx X n k A cols.length ca B row.length cb mb _ w true (.inr ⟨by rw [← Lib.mk_data op, e1]; rfl, rfl⟩) (hlen h0) hE
    have hrest : o = sNot ∨ o = sNeg ∨ o ∈ tests ∨ o ∈ sums := by
      by_cases h1 : o = sNot
      · exact .inl h1
      by_cases h2 : o = sNeg
      · exact .inr (.inl h2)
      by_cases h3 : o ∈ tests
      · exact .inr (.inr (.inl h3))
      by_cases h4 : o ∈ sums
      · exact .inr (.inr (.inr h4))
      exfalso
      have hk := FI.hk
      rw [kidsN_no (op := o) hor hand (fun h => h3 (by rw [h]; decide)) (fun h => h3 (by rw [h]; decide)) (fun h => h3 (by rw [h]; decide)) (fun h => h3 (by rw [h]; decide)) (fun h => h3 (by rw [h]; decide)) (fun h => h3 (by rw [h]; decide)) (fun h => h4 (by rw [h]; decide)) (fun h => h4 (by rw [h]; decide)) (fun h => h4 (by rw [h]; decide)) h1 h2 his (fun h => hlit (by rw [h]; decide)) (fun h => hlit (by rw [h]; decide)) (fun h => hlit (by rw [h]; decide)) (fun h => hlit (by rw [h]; decide)) (fun h => hlit (by rw [h]; decide)) hcol] at hk
      cases hk
    have hkn : kidsN o = some 1 ∨ kidsN o = some 2 := by
      simp only [tests, sums, List.mem_cons, List.not_mem_nil, or_false] at hrest
      rcases hrest with rfl | rfl | (rfl | rfl | rfl | rfl | rfl | rfl) | (rfl | rfl | rfl) <;> decide
    have hstr : Fine.strict o := ⟨hcol, his, hand, hor, hkn⟩
    by_cases hany : ((valL cols row ks).1.any fun v => v.1 == 0) = true
    · rw [FI.null hstr h0 hany]
      refine vstep_null op tx X n k A cols.length ca B row.length cb mb _ w ?_ (hlen h0) hany hE
      have hso : strictB ⟨o.toArray⟩ := by
        simp only [tests, sums, List.mem_cons, List.not_mem_nil, or_false] at hrest
        unfold strictB
        rcases hrest with rfl | rfl | (rfl | rfl | rfl | rfl | rfl | rfl) | (rfl | rfl | rfl) <;> simp [sNot, sNeg]
      rw [eo]
      exact hso
    have hany := any_split hany
    rcases hrest with rfl | rfl | hT | hSm
    · obtain ⟨b, hL, hval⟩ := FI.not h0 hany
      rw [hval]
      rw [hL] at hE
      have hop : op = ⟨#[110, 111, 116]⟩ := by rw [← Lib.mk_data op, e1]; rfl
      subst hop
      exact vstep_not tx X n k A cols.length ca B row.length cb mb b w hE
    · obtain ⟨⟨ak, an, as'⟩, hL, hak, hval⟩ := FI.neg h0 hany
      rw [hval]
      rw [hL] at hE hany hvf
      have hop : op = ⟨#[110, 101, 103]⟩ := by rw [← Lib.mk_data op, e1]; rfl
      subst hop
      have hfa : Val.fits an := hvf (ak, an, as') (by simp)
      exact vstep_neg tx X n k A cols.length ca B row.length cb mb ak an as' w hm hak ⟨hfa.1, hfa.2⟩ hany hE
    · obtain ⟨⟨ak, an, as'⟩, ⟨bk, bn, bs⟩, hL, hval⟩ := FI.test hT h0 hany
      rw [hval, ← e1]
      rw [hL] at hE hany
      exact vstep_test op tx X n k A cols.length ca B row.length cb mb ak an as' bk bn bs w (by rw [e1]; exact hT) hany hE
    · obtain ⟨⟨ak, an, as'⟩, ⟨bk, bn, bs⟩, hL, hK, hw, hval⟩ := FI.sum hSm h0 hany
      rw [hval]
      rw [hL] at hE hany hvf
      have hfa : Val.fits an := hvf (ak, an, as') (by simp)
      have hfb : Val.fits bn := hvf (bk, bn, bs) (by simp)
      have h9 := vstep_sum op tx X n k A cols.length ca B row.length cb mb ak an as' bk bn bs w _ (by rw [e1]; exact hSm) hm hK hw ⟨hfa.1, hfa.2⟩ ⟨hfb.1, hfb.2⟩ hany hE
      rw [e1] at h9
      exact h9
end Go.Proofs.Ytkibacolnagkcaa.Code
