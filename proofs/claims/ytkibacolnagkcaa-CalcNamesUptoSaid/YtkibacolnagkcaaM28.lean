/-
  The program's value of a node, by its Op, over what its Kids come to (sums, tests, neg, not).
-/
import Derived.Test.YtkibacolnagkcaaM27
namespace Go.Proofs.Ytkibacolnagkcaa.Code
open Go.ChangeShapes Go.WideShapes Go.ChangeAt Go.RowKit Val Elems
set_option linter.unusedVariables false
set_option linter.unusedSimpArgs false

/-- a store: nothing else may come up there -/
theorem seq_put {P : Program} {ops : Array Oper} {Q : Exit → Act → World → Prop} {S : World → Prop} {n : Nat} (hst : Hid (steps ops n = true)) (i : Nat) {a : Act} {w : World} {o : _} {t : _} {p : _} {f : _} {g : _}
    (hi : ops[i]? = some (⟨none, o, t, p, f, g⟩ : Oper)) (hone : Region.ready .any ops (upTo n i) = [i])
    (h : ∀ K' : Act → World → Prop, Go.Shut (∀ a w, S w → (S w → SeqH P ops Q S n (i + 1) a w) → K' a w) → if Region.wanted (⟨none, o, t, p, f, g⟩ : Oper) (yielded ops a.tmps) = true then Oper.wp P ⟨none, o, t, p, f, g⟩ a w K' Q else K' (a.put none undef) w) : SeqH P ops Q S n i a w := by
  obtain ⟨h1, h2, h3⟩ := steps_at hst.out
  have hin : i < n := by
    rw [← h2]
    exact (Array.getElem?_eq_some_iff.1 hi).1
  unfold SeqH at *
  rw [show n - i = (n - (i + 1)) + 1 by omega]
  exact wpAnyH_ready (rs := [i]) hone (by simp) (AllReadyH.cons hi h AllReadyH.nil)
theorem far3 {w : World} {g : Nat} {a b c : Value} (p : Addr) (hp : p.block ≠ g) : (((w.setCell ⟨g, 0, none⟩ a).setCell ⟨g, 1, none⟩ b).setCell ⟨g, 2, none⟩ c).cell? p = w.cell? p := by
  rw [World.cell?_setCell_other _ _ _ _ (by intro e; exact hp (by rw [← e])), World.cell?_setCell_other _ _ _ _ (by intro e; exact hp (by rw [← e])), World.cell?_setCell_other _ _ _ _ (by intro e; exact hp (by rw [← e]))]
set_option maxHeartbeats 8000000 in
set_option maxRecDepth 100000 in
theorem vstep_sum (op tx : ByteArray) (X : Option Addr) (n k : Nat) (A : Option Addr) (na ca : Nat) (B : Option Addr) (nb cb mb : Nat) (ak an : Int) (as' : ByteArray) (bk bn : Int) (bs : ByteArray) (w : World) (K : Int) (hop : op.data.toList ∈ sums) (hm : MapR w mb 3 sumsF) (hK : K = 2 ∨ K = 3) (hw : widestK [ak, bk] = K) (h1 : Num.fits an) (h2 : Num.fits bn) (hany : (([(ak, an, as'), (bk, bn, bs)] : List CV).any fun v => v.1 == 0) = false)
    (hE : ∀ w', Below w.heap.size w w' → Calls Try.prog 56 #[.slice X n k, .func (.func 38) #[.agg #[.slice A na ca, .slice B nb cb, .map (some mb)]] #[]] w' (VsPost w' ([(ak, an, as'), (bk, bn, bs)], 0))) :
    Calls Try.prog 38 #[.agg #[.slice A na ca, .slice B nb cb, .map (some mb)], .agg #[.string op, .string tx, .slice X n k]] w (SumPost w (sumV K (sumN op.data.toList an bn))) := by
  have HNC := Lib.hid (fun (C : Option Addr) (cc : Nat) (w' : World) (hv : Vals w' w'.heap.size C [(ak, an, as'), (bk, bn, bs)]) => ncont_any C cc [(ak, an, as'), (bk, bn, bs)] w' hv (by simp))
  rw [show ([(ak, an, as'), (bk, bn, bs)] : List CV).any (fun v => v.1 == 0) = false from hany] at HNC
  clear hany
  have HSM := Lib.hid (fun (w' : World) (hb : Below w.heap.size w w') => csum_any op hop (.slice A na ca) (.slice B nb cb) mb 3 ak an as' bk bn bs K w' (hm.below hb) hK hw h1 h2 rfl rfl)
  unfold SumPost at HSM
  obtain ⟨R, hR⟩ : ∃ R, sumV K (sumN op.data.toList an bn) = R := ⟨_, rfl⟩
  rw [hR] at HSM ⊢
  obtain ⟨⟨vk, vn, vs⟩, ve⟩ := R
  dsimp only at HSM
  clear hR hm hK hw h1 h2
  have hcs : op = ⟨#[43]⟩ ∨ op = ⟨#[45]⟩ ∨ op = ⟨#[42]⟩ := by
    have h : op.data.toList = [43] ∨ op.data.toList = [45] ∨ op.data.toList = [42] := by simpa [sums] using hop
    rcases h with h | h | h <;> (rw [← Lib.mk_data op, h]; simp)
  clear hop
  obtain ⟨w0, hw0⟩ : ∃ w0, ((w.alloc (.cells #[.slice A na ca, .slice B nb cb, .map (some mb)] 79)).alloc (.cells #[.string op, .string tx, .slice X n k] 24)).alloc (.cells #[.int .i64 0, .int .i64 0, .string ⟨#[]⟩] 38) = w0 := ⟨_, rfl⟩
  have B0 := Lib.hid (show Below w.heap.size w w0 by rw [← hw0]; exact ((below_alloc w _).alloc (by simp) _).alloc (by simp; omega) _)
  have S0 := Lib.hid (show NBox w0 w.heap.size (.slice A na ca) (.slice B nb cb) (.map (some mb)) by rw [← hw0]; exact ⟨by simp [go_sem], by simp [go_sem], by simp [go_sem], fun j => by simp [go_sem]⟩)
  have N0 := Lib.hid (show NBox w0 (w.heap.size + 1) (.string op) (.string tx) (.slice X n k) by rw [← hw0]; exact ⟨by simp [go_sem], by simp [go_sem], by simp [go_sem], fun j => by simp [go_sem]⟩)
  have R0 := Lib.hid (show NBox w0 (w.heap.size + 1 + 1) (.int .i64 0) (.int .i64 0) (.string ⟨#[]⟩) by rw [← hw0]; exact ⟨by simp [go_sem], by simp [go_sem], by simp [go_sem], fun j => by simp [go_sem]⟩)
  have z0 : w.heap.size + 1 + 1 < w0.heap.size := R0.out.lt
  have HE0 := Lib.hid (hE w0 B0.out)
  unfold VsPost at HE0
  have HW0 := Lib.hid hw0
  clear hw0 hE
  rcases hcs with rfl | rfl | rfl
  · go_enter Try.func38, Try.ntmps38
    go_upto_region 1 with fail
    rw [HW0.out]
    obtain ⟨s0, s1, s2, sf⟩ := S0.out
    obtain ⟨x0, x1, x2, xf⟩ := N0.out
    go_wp2_with fail
    refine HE0.out.mono ?_
    rintro e w1 ⟨C, cc, rfl, hv1, hb1⟩
    have OV := Lib.hid hv1
    have B1 := Lib.hid (B0.out.trans (hb1.mono B0.out.size))
    have S1 := Lib.hid (S0.out.below hb1)
    have N1 := Lib.hid (N0.out.below hb1)
    have R1 := Lib.hid (R0.out.below hb1)
    have z1 : w.heap.size + 1 + 1 < w1.heap.size := R1.out.lt
    clear hb1 hv1 s0 s1 s2 sf x0 x1 x2 xf
    obtain ⟨x0, x1, x2, xf⟩ := N1.out
    have HN2 := Lib.hid (HNC.out C cc w1 OV.out.vals)
    go_wp2_with fail
    refine HN2.out.mono ?_
    rintro e w2 ⟨rfl, hb2⟩
    have L2 := Lib.hid hb2
    have B2 := Lib.hid (B1.out.trans (hb2.mono B1.out.size))
    have S2 := Lib.hid (S1.out.below hb2)
    have N2 := Lib.hid (N1.out.below hb2)
    have R2 := Lib.hid (R1.out.below hb2)
    have z2 := R2.out.lt
    obtain ⟨g, hC, hg, hblk1⟩ := OV.out (by simp)
    have hblk := hblk1.call hb2
    have hgz : g < w2.heap.size := hblk.lt
    have hgR : w.heap.size + 1 + 1 < g := Nat.lt_of_lt_of_le z0 hg
    subst hC
    clear hb2 x0 x1 x2 xf hblk1
    obtain ⟨c0, c1, c2⟩ := hblk.at 0 (by simp)
    simp only [List.getElem_cons_zero, Nat.zero_mul, Nat.zero_add] at c0 c1 c2
    obtain ⟨d0, d1, d2⟩ := hblk.at 1 (by simp)
    simp only [List.getElem_cons_succ, List.getElem_cons_zero, Nat.one_mul, Nat.reduceAdd] at d0 d1 d2
    obtain ⟨s0, s1, s2, sf⟩ := S2.out
    obtain ⟨x0, x1, x2, xf⟩ := N2.out
    clear x1 x2 xf sf
    go_wp2_with fail
    have zz0 : w.heap.size < w2.heap.size := by omega
    have zz1 : w.heap.size + 1 < w2.heap.size := by omega
    have HALL := Lib.hid (fun (w' : World) (hb : Below w2.heap.size w2 w') => show (w'.cell? ⟨w.heap.size, 0, none⟩ = some (.slice A na ca) ∧ w'.cell? ⟨w.heap.size, 1, none⟩ = some (.slice B nb cb) ∧ w'.cell? ⟨w.heap.size, 2, none⟩ = some (.map (some mb)) ∧ w'.cell? ⟨w.heap.size + 1, 0, none⟩ = some (.string ⟨#[43]⟩) ∧ w'.cell? ⟨g, 0, none⟩ = some (.int .i64 ak) ∧ w'.cell? ⟨g, 1, none⟩ = some (.int .i64 an) ∧ w'.cell? ⟨g, 2, none⟩ = some (.string as') ∧ w'.cell? ⟨g, 3, none⟩ = some (.int .i64 bk) ∧ w'.cell? ⟨g, 4, none⟩ = some (.int .i64 bn) ∧ w'.cell? ⟨g, 5, none⟩ = some (.string bs)) ∧ Below w.heap.size w w' from ⟨⟨(hb.cell (p := ⟨w.heap.size, 0, none⟩) (by first | exact zz0 | exact zz1 | exact hgz)).trans s0, (hb.cell (p := ⟨w.heap.size, 1, none⟩) (by first | exact zz0 | exact zz1 | exact hgz)).trans s1, (hb.cell (p := ⟨w.heap.size, 2, none⟩) (by first | exact zz0 | exact zz1 | exact hgz)).trans s2, (hb.cell (p := ⟨w.heap.size + 1, 0, none⟩) (by first | exact zz0 | exact zz1 | exact hgz)).trans x0, (hb.cell (p := ⟨g, 0, none⟩) (by first | exact zz0 | exact zz1 | exact hgz)).trans c0, (hb.cell (p := ⟨g, 1, none⟩) (by first | exact zz0 | exact zz1 | exact hgz)).trans c1, (hb.cell (p := ⟨g, 2, none⟩) (by first | exact zz0 | exact zz1 | exact hgz)).trans c2, (hb.cell (p := ⟨g, 3, none⟩) (by first | exact zz0 | exact zz1 | exact hgz)).trans d0, (hb.cell (p := ⟨g, 4, none⟩) (by first | exact zz0 | exact zz1 | exact hgz)).trans d1, (hb.cell (p := ⟨g, 5, none⟩) (by first | exact zz0 | exact zz1 | exact hgz)).trans d2⟩, B2.out.trans (hb.mono B2.out.size)⟩)
    clear s0 s1 s2 x0 c0 c1 c2 d0 d1 d2 hblk
    refine seq_begin (fun w' => (w'.cell? ⟨w.heap.size, 0, none⟩ = some (.slice A na ca) ∧ w'.cell? ⟨w.heap.size, 1, none⟩ = some (.slice B nb cb) ∧ w'.cell? ⟨w.heap.size, 2, none⟩ = some (.map (some mb)) ∧ w'.cell? ⟨w.heap.size + 1, 0, none⟩ = some (.string ⟨#[43]⟩) ∧ w'.cell? ⟨g, 0, none⟩ = some (.int .i64 ak) ∧ w'.cell? ⟨g, 1, none⟩ = some (.int .i64 an) ∧ w'.cell? ⟨g, 2, none⟩ = some (.string as') ∧ w'.cell? ⟨g, 3, none⟩ = some (.int .i64 bk) ∧ w'.cell? ⟨g, 4, none⟩ = some (.int .i64 bn) ∧ w'.cell? ⟨g, 5, none⟩ = some (.string bs)) ∧ Below w.heap.size w w') 14 (by kernel_rfl) (by kernel_rfl) (HALL.out _ (Below.drew (Below.refl _ _))) (fun HST hHeld => ?_)
    have BB := Lib.hid (show Below w2.heap.size w2 w2.drew from Below.drew (Below.refl _ _))
    refine seq_take HST (v := ?_) 0 93 rfl ?_ ?_; rotate_left; (intro w9 hS9; obtain ⟨⟨e0, e1, e2, e3, e4, e5, e6, e7, e8, e9⟩, -⟩ := hS9; go_simp; try with_reducible rfl); (try simp only [Act.put, List.setIfInBounds_toArray]); (try dsimp only [List.set_cons_zero, List.set_cons_succ])
    refine seq_take HST (v := ?_) 1 94 rfl ?_ ?_; rotate_left; (intro w9 hS9; obtain ⟨⟨e0, e1, e2, e3, e4, e5, e6, e7, e8, e9⟩, -⟩ := hS9; go_simp; try with_reducible rfl); (try simp only [Act.put, List.setIfInBounds_toArray]); (try dsimp only [List.set_cons_zero, List.set_cons_succ])
    refine seq_take HST (v := ?_) 2 95 rfl ?_ ?_; rotate_left; (intro w9 hS9; obtain ⟨⟨e0, e1, e2, e3, e4, e5, e6, e7, e8, e9⟩, -⟩ := hS9; go_simp; try with_reducible rfl); (try simp only [Act.put, List.setIfInBounds_toArray]); (try dsimp only [List.set_cons_zero, List.set_cons_succ])
    refine seq_take HST (v := ?_) 3 96 rfl ?_ ?_; rotate_left; (intro w9 hS9; obtain ⟨⟨e0, e1, e2, e3, e4, e5, e6, e7, e8, e9⟩, -⟩ := hS9; go_simp; try with_reducible rfl); (try simp only [Act.put, List.setIfInBounds_toArray]); (try dsimp only [List.set_cons_zero, List.set_cons_succ])
    refine seq_take HST (v := ?_) 4 97 rfl ?_ ?_; rotate_left; (intro w9 hS9; obtain ⟨⟨e0, e1, e2, e3, e4, e5, e6, e7, e8, e9⟩, -⟩ := hS9; go_simp; try with_reducible rfl); (try simp only [Act.put, List.setIfInBounds_toArray]); (try dsimp only [List.set_cons_zero, List.set_cons_succ])
    refine seq_take HST (v := ?_) 5 98 rfl ?_ ?_; rotate_left; (intro w9 hS9; obtain ⟨⟨e0, e1, e2, e3, e4, e5, e6, e7, e8, e9⟩, -⟩ := hS9; go_simp; try with_reducible rfl); (try simp only [Act.put, List.setIfInBounds_toArray]); (try dsimp only [List.set_cons_zero, List.set_cons_succ])
    refine seq_take HST (v := ?_) 6 99 rfl ?_ ?_; rotate_left; (intro w9 hS9; obtain ⟨⟨e0, e1, e2, e3, e4, e5, e6, e7, e8, e9⟩, -⟩ := hS9; go_simp; try with_reducible rfl); (try simp only [Act.put, List.setIfInBounds_toArray]); (try dsimp only [List.set_cons_zero, List.set_cons_succ])
    refine seq_take HST (v := ?_) 7 100 rfl ?_ ?_; rotate_left; (intro w9 hS9; obtain ⟨⟨e0, e1, e2, e3, e4, e5, e6, e7, e8, e9⟩, -⟩ := hS9; go_simp; try with_reducible rfl); (try simp only [Act.put, List.setIfInBounds_toArray]); (try dsimp only [List.set_cons_zero, List.set_cons_succ])
    refine seq_take HST (v := ?_) 8 101 rfl ?_ ?_; rotate_left; (intro w9 hS9; obtain ⟨⟨e0, e1, e2, e3, e4, e5, e6, e7, e8, e9⟩, -⟩ := hS9; go_simp; try with_reducible rfl); (try simp only [Act.put, List.setIfInBounds_toArray]); (try dsimp only [List.set_cons_zero, List.set_cons_succ])
    refine seq_call HST 9 102 rfl (by kernel_rfl) (fun K hK => ?_); go_simp; refine (HSM.out _ (B2.out.trans (BB.out.mono B2.out.size))).mono ?_; rintro e w9 ⟨rfl, hb9⟩; have BB9 := Lib.hid (BB.out.trans (hb9.mono BB.out.size)); refine hK.out _ _ (HALL.out _ BB9.out) (fun hHeld9 => ?_); clear hK K hb9 BB; have BB := BB9; clear BB9
    (try simp only [Act.put, List.setIfInBounds_toArray]); (try dsimp only [List.set_cons_zero, List.set_cons_succ])
    refine seq_take HST (v := ?_) 10 103 rfl ?_ ?_; rotate_left; (intro w9 hS9; obtain ⟨⟨e0, e1, e2, e3, e4, e5, e6, e7, e8, e9⟩, -⟩ := hS9; go_simp; try with_reducible rfl); (try simp only [Act.put, List.setIfInBounds_toArray]); (try dsimp only [List.set_cons_zero, List.set_cons_succ])
    refine seq_take HST (v := ?_) 11 104 rfl ?_ ?_; rotate_left; (intro w9 hS9; obtain ⟨⟨e0, e1, e2, e3, e4, e5, e6, e7, e8, e9⟩, -⟩ := hS9; go_simp; try with_reducible rfl); (try simp only [Act.put, List.setIfInBounds_toArray]); (try dsimp only [List.set_cons_zero, List.set_cons_succ])
    have R9 := Lib.hid (R2.out.below BB.out); have z9 := R9.out.lt; have r0 := R9.out.c0; have r1 := R9.out.c1; have r2 := R9.out.c2; have rf := R9.out.fr
    refine seq_put HST 12 rfl (by kernel_rfl) (fun K hK => ?_); go_simp; refine hK.out _ _ ?_ (fun hHeld9 => ?_)
    · have nn0 : w.heap.size ≠ w.heap.size + 1 + 1 := by omega
      have nn1 : w.heap.size + 1 ≠ w.heap.size + 1 + 1 := by omega
      have nn2 : g ≠ w.heap.size + 1 + 1 := by omega
      obtain ⟨⟨e0, e1, e2, e3, e4, e5, e6, e7, e8, e9⟩, e99⟩ := HALL.out _ BB.out
      exact ⟨⟨(far3 ⟨w.heap.size, 0, none⟩ (by first | exact nn0 | exact nn1 | exact nn2)).trans e0, (far3 ⟨w.heap.size, 1, none⟩ (by first | exact nn0 | exact nn1 | exact nn2)).trans e1, (far3 ⟨w.heap.size, 2, none⟩ (by first | exact nn0 | exact nn1 | exact nn2)).trans e2, (far3 ⟨w.heap.size + 1, 0, none⟩ (by first | exact nn0 | exact nn1 | exact nn2)).trans e3, (far3 ⟨g, 0, none⟩ (by first | exact nn0 | exact nn1 | exact nn2)).trans e4, (far3 ⟨g, 1, none⟩ (by first | exact nn0 | exact nn1 | exact nn2)).trans e5, (far3 ⟨g, 2, none⟩ (by first | exact nn0 | exact nn1 | exact nn2)).trans e6, (far3 ⟨g, 3, none⟩ (by first | exact nn0 | exact nn1 | exact nn2)).trans e7, (far3 ⟨g, 4, none⟩ (by first | exact nn0 | exact nn1 | exact nn2)).trans e8, (far3 ⟨g, 5, none⟩ (by first | exact nn0 | exact nn1 | exact nn2)).trans e9⟩, set3_below e99 (by omega) _ _ _⟩
    clear hK K; (try simp only [Act.put, List.setIfInBounds_toArray]); (try dsimp only [List.set_cons_zero, List.set_cons_succ])
    refine seq_take HST (v := ?_) 13 5 rfl ?_ ?_; rotate_left; (intro w9 hS9; obtain ⟨⟨e0, e1, e2, e3, e4, e5, e6, e7, e8, e9⟩, -⟩ := hS9; go_simp; try with_reducible rfl); (try simp only [Act.put, List.setIfInBounds_toArray]); (try dsimp only [List.set_cons_zero, List.set_cons_succ])
    refine seq_done (by kernel_rfl) ?_
    have B9 := Lib.hid (B2.out.trans (BB.out.mono B2.out.size))
    go_wp2
    have Y9 := R9.out.set (.int .i64 vk) (.int .i64 vn) (.string vs)
    exact bodyPost_ret (v := .tuple #[.agg #[.int .i64 vk, .int .i64 vn, .string vs], .int .i64 ve]) (by simp [results, Try.results38, go_sem, Y9.c0, Y9.c1, Y9.c2]) rfl ⟨rfl, set3_below B9.out (by omega) _ _ _⟩
  · go_enter Try.func38, Try.ntmps38
    go_upto_region 1 with fail
    rw [HW0.out]
    obtain ⟨s0, s1, s2, sf⟩ := S0.out
    obtain ⟨x0, x1, x2, xf⟩ := N0.out
    go_wp2_with fail
    refine HE0.out.mono ?_
    rintro e w1 ⟨C, cc, rfl, hv1, hb1⟩
    have OV := Lib.hid hv1
    have B1 := Lib.hid (B0.out.trans (hb1.mono B0.out.size))
    have S1 := Lib.hid (S0.out.below hb1)
    have N1 := Lib.hid (N0.out.below hb1)
    have R1 := Lib.hid (R0.out.below hb1)
    have z1 : w.heap.size + 1 + 1 < w1.heap.size := R1.out.lt
    clear hb1 hv1 s0 s1 s2 sf x0 x1 x2 xf
    obtain ⟨x0, x1, x2, xf⟩ := N1.out
    have HN2 := Lib.hid (HNC.out C cc w1 OV.out.vals)
    go_wp2_with fail
    refine HN2.out.mono ?_
    rintro e w2 ⟨rfl, hb2⟩
    have L2 := Lib.hid hb2
    have B2 := Lib.hid (B1.out.trans (hb2.mono B1.out.size))
    have S2 := Lib.hid (S1.out.below hb2)
    have N2 := Lib.hid (N1.out.below hb2)
    have R2 := Lib.hid (R1.out.below hb2)
    have z2 := R2.out.lt
    obtain ⟨g, hC, hg, hblk1⟩ := OV.out (by simp)
    have hblk := hblk1.call hb2
    have hgz : g < w2.heap.size := hblk.lt
    have hgR : w.heap.size + 1 + 1 < g := Nat.lt_of_lt_of_le z0 hg
    subst hC
    clear hb2 x0 x1 x2 xf hblk1
    obtain ⟨c0, c1, c2⟩ := hblk.at 0 (by simp)
    simp only [List.getElem_cons_zero, Nat.zero_mul, Nat.zero_add] at c0 c1 c2
    obtain ⟨d0, d1, d2⟩ := hblk.at 1 (by simp)
    simp only [List.getElem_cons_succ, List.getElem_cons_zero, Nat.one_mul, Nat.reduceAdd] at d0 d1 d2
    obtain ⟨s0, s1, s2, sf⟩ := S2.out
    obtain ⟨x0, x1, x2, xf⟩ := N2.out
    clear x1 x2 xf sf
    go_wp2_with fail
    have zz0 : w.heap.size < w2.heap.size := by omega
    have zz1 : w.heap.size + 1 < w2.heap.size := by omega
    have HALL := Lib.hid (fun (w' : World) (hb : Below w2.heap.size w2 w') => show (w'.cell? ⟨w.heap.size, 0, none⟩ = some (.slice A na ca) ∧ w'.cell? ⟨w.heap.size, 1, none⟩ = some (.slice B nb cb) ∧ w'.cell? ⟨w.heap.size, 2, none⟩ = some (.map (some mb)) ∧ w'.cell? ⟨w.heap.size + 1, 0, none⟩ = some (.string ⟨#[45]⟩) ∧ w'.cell? ⟨g, 0, none⟩ = some (.int .i64 ak) ∧ w'.cell? ⟨g, 1, none⟩ = some (.int .i64 an) ∧ w'.cell? ⟨g, 2, none⟩ = some (.string as') ∧ w'.cell? ⟨g, 3, none⟩ = some (.int .i64 bk) ∧ w'.cell? ⟨g, 4, none⟩ = some (.int .i64 bn) ∧ w'.cell? ⟨g, 5, none⟩ = some (.string bs)) ∧ Below w.heap.size w w' from ⟨⟨(hb.cell (p := ⟨w.heap.size, 0, none⟩) (by first | exact zz0 | exact zz1 | exact hgz)).trans s0, (hb.cell (p := ⟨w.heap.size, 1, none⟩) (by first | exact zz0 | exact zz1 | exact hgz)).trans s1, (hb.cell (p := ⟨w.heap.size, 2, none⟩) (by first | exact zz0 | exact zz1 | exact hgz)).trans s2, (hb.cell (p := ⟨w.heap.size + 1, 0, none⟩) (by first | exact zz0 | exact zz1 | exact hgz)).trans x0, (hb.cell (p := ⟨g, 0, none⟩) (by first | exact zz0 | exact zz1 | exact hgz)).trans c0, (hb.cell (p := ⟨g, 1, none⟩) (by first | exact zz0 | exact zz1 | exact hgz)).trans c1, (hb.cell (p := ⟨g, 2, none⟩) (by first | exact zz0 | exact zz1 | exact hgz)).trans c2, (hb.cell (p := ⟨g, 3, none⟩) (by first | exact zz0 | exact zz1 | exact hgz)).trans d0, (hb.cell (p := ⟨g, 4, none⟩) (by first | exact zz0 | exact zz1 | exact hgz)).trans d1, (hb.cell (p := ⟨g, 5, none⟩) (by first | exact zz0 | exact zz1 | exact hgz)).trans d2⟩, B2.out.trans (hb.mono B2.out.size)⟩)
    clear s0 s1 s2 x0 c0 c1 c2 d0 d1 d2 hblk
    refine seq_begin (fun w' => (w'.cell? ⟨w.heap.size, 0, none⟩ = some (.slice A na ca) ∧ w'.cell? ⟨w.heap.size, 1, none⟩ = some (.slice B nb cb) ∧ w'.cell? ⟨w.heap.size, 2, none⟩ = some (.map (some mb)) ∧ w'.cell? ⟨w.heap.size + 1, 0, none⟩ = some (.string ⟨#[45]⟩) ∧ w'.cell? ⟨g, 0, none⟩ = some (.int .i64 ak) ∧ w'.cell? ⟨g, 1, none⟩ = some (.int .i64 an) ∧ w'.cell? ⟨g, 2, none⟩ = some (.string as') ∧ w'.cell? ⟨g, 3, none⟩ = some (.int .i64 bk) ∧ w'.cell? ⟨g, 4, none⟩ = some (.int .i64 bn) ∧ w'.cell? ⟨g, 5, none⟩ = some (.string bs)) ∧ Below w.heap.size w w') 14 (by kernel_rfl) (by kernel_rfl) (HALL.out _ (Below.drew (Below.refl _ _))) (fun HST hHeld => ?_)
    have BB := Lib.hid (show Below w2.heap.size w2 w2.drew from Below.drew (Below.refl _ _))
    refine seq_take HST (v := ?_) 0 93 rfl ?_ ?_; rotate_left; (intro w9 hS9; obtain ⟨⟨e0, e1, e2, e3, e4, e5, e6, e7, e8, e9⟩, -⟩ := hS9; go_simp; try with_reducible rfl); (try simp only [Act.put, List.setIfInBounds_toArray]); (try dsimp only [List.set_cons_zero, List.set_cons_succ])
    refine seq_take HST (v := ?_) 1 94 rfl ?_ ?_; rotate_left; (intro w9 hS9; obtain ⟨⟨e0, e1, e2, e3, e4, e5, e6, e7, e8, e9⟩, -⟩ := hS9; go_simp; try with_reducible rfl); (try simp only [Act.put, List.setIfInBounds_toArray]); (try dsimp only [List.set_cons_zero, List.set_cons_succ])
    refine seq_take HST (v := ?_) 2 95 rfl ?_ ?_; rotate_left; (intro w9 hS9; obtain ⟨⟨e0, e1, e2, e3, e4, e5, e6, e7, e8, e9⟩, -⟩ := hS9; go_simp; try with_reducible rfl); (try simp only [Act.put, List.setIfInBounds_toArray]); (try dsimp only [List.set_cons_zero, List.set_cons_succ])
    refine seq_take HST (v := ?_) 3 96 rfl ?_ ?_; rotate_left; (intro w9 hS9; obtain ⟨⟨e0, e1, e2, e3, e4, e5, e6, e7, e8, e9⟩, -⟩ := hS9; go_simp; try with_reducible rfl); (try simp only [Act.put, List.setIfInBounds_toArray]); (try dsimp only [List.set_cons_zero, List.set_cons_succ])
    refine seq_take HST (v := ?_) 4 97 rfl ?_ ?_; rotate_left; (intro w9 hS9; obtain ⟨⟨e0, e1, e2, e3, e4, e5, e6, e7, e8, e9⟩, -⟩ := hS9; go_simp; try with_reducible rfl); (try simp only [Act.put, List.setIfInBounds_toArray]); (try dsimp only [List.set_cons_zero, List.set_cons_succ])
    refine seq_take HST (v := ?_) 5 98 rfl ?_ ?_; rotate_left; (intro w9 hS9; obtain ⟨⟨e0, e1, e2, e3, e4, e5, e6, e7, e8, e9⟩, -⟩ := hS9; go_simp; try with_reducible rfl); (try simp only [Act.put, List.setIfInBounds_toArray]); (try dsimp only [List.set_cons_zero, List.set_cons_succ])
    refine seq_take HST (v := ?_) 6 99 rfl ?_ ?_; rotate_left; (intro w9 hS9; obtain ⟨⟨e0, e1, e2, e3, e4, e5, e6, e7, e8, e9⟩, -⟩ := hS9; go_simp; try with_reducible rfl); (try simp only [Act.put, List.setIfInBounds_toArray]); (try dsimp only [List.set_cons_zero, List.set_cons_succ])
    refine seq_take HST (v := ?_) 7 100 rfl ?_ ?_; rotate_left; (intro w9 hS9; obtain ⟨⟨e0, e1, e2, e3, e4, e5, e6, e7, e8, e9⟩, -⟩ := hS9; go_simp; try with_reducible rfl); (try simp only [Act.put, List.setIfInBounds_toArray]); (try dsimp only [List.set_cons_zero, List.set_cons_succ])
    refine seq_take HST (v := ?_) 8 101 rfl ?_ ?_; rotate_left; (intro w9 hS9; obtain ⟨⟨e0, e1, e2, e3, e4, e5, e6, e7, e8, e9⟩, -⟩ := hS9; go_simp; try with_reducible rfl); (try simp only [Act.put, List.setIfInBounds_toArray]); (try dsimp only [List.set_cons_zero, List.set_cons_succ])
    refine seq_call HST 9 102 rfl (by kernel_rfl) (fun K hK => ?_); go_simp; refine (HSM.out _ (B2.out.trans (BB.out.mono B2.out.size))).mono ?_; rintro e w9 ⟨rfl, hb9⟩; have BB9 := Lib.hid (BB.out.trans (hb9.mono BB.out.size)); refine hK.out _ _ (HALL.out _ BB9.out) (fun hHeld9 => ?_); clear hK K hb9 BB; have BB := BB9; clear BB9
    (try simp only [Act.put, List.setIfInBounds_toArray]); (try dsimp only [List.set_cons_zero, List.set_cons_succ])
    refine seq_take HST (v := ?_) 10 103 rfl ?_ ?_; rotate_left; (intro w9 hS9; obtain ⟨⟨e0, e1, e2, e3, e4, e5, e6, e7, e8, e9⟩, -⟩ := hS9; go_simp; try with_reducible rfl); (try simp only [Act.put, List.setIfInBounds_toArray]); (try dsimp only [List.set_cons_zero, List.set_cons_succ])
    refine seq_take HST (v := ?_) 11 104 rfl ?_ ?_; rotate_left; (intro w9 hS9; obtain ⟨⟨e0, e1, e2, e3, e4, e5, e6, e7, e8, e9⟩, -⟩ := hS9; go_simp; try with_reducible rfl); (try simp only [Act.put, List.setIfInBounds_toArray]); (try dsimp only [List.set_cons_zero, List.set_cons_succ])
    have R9 := Lib.hid (R2.out.below BB.out); have z9 := R9.out.lt; have r0 := R9.out.c0; have r1 := R9.out.c1; have r2 := R9.out.c2; have rf := R9.out.fr
    refine seq_put HST 12 rfl (by kernel_rfl) (fun K hK => ?_); go_simp; refine hK.out _ _ ?_ (fun hHeld9 => ?_)
    · have nn0 : w.heap.size ≠ w.heap.size + 1 + 1 := by omega
      have nn1 : w.heap.size + 1 ≠ w.heap.size + 1 + 1 := by omega
      have nn2 : g ≠ w.heap.size + 1 + 1 := by omega
      obtain ⟨⟨e0, e1, e2, e3, e4, e5, e6, e7, e8, e9⟩, e99⟩ := HALL.out _ BB.out
      exact ⟨⟨(far3 ⟨w.heap.size, 0, none⟩ (by first | exact nn0 | exact nn1 | exact nn2)).trans e0, (far3 ⟨w.heap.size, 1, none⟩ (by first | exact nn0 | exact nn1 | exact nn2)).trans e1, (far3 ⟨w.heap.size, 2, none⟩ (by first | exact nn0 | exact nn1 | exact nn2)).trans e2, (far3 ⟨w.heap.size + 1, 0, none⟩ (by first | exact nn0 | exact nn1 | exact nn2)).trans e3, (far3 ⟨g, 0, none⟩ (by first | exact nn0 | exact nn1 | exact nn2)).trans e4, (far3 ⟨g, 1, none⟩ (by first | exact nn0 | exact nn1 | exact nn2)).trans e5, (far3 ⟨g, 2, none⟩ (by first | exact nn0 | exact nn1 | exact nn2)).trans e6, (far3 ⟨g, 3, none⟩ (by first | exact nn0 | exact nn1 | exact nn2)).trans e7, (far3 ⟨g, 4, none⟩ (by first | exact nn0 | exact nn1 | exact nn2)).trans e8, (far3 ⟨g, 5, none⟩ (by first | exact nn0 | exact nn1 | exact nn2)).trans e9⟩, set3_below e99 (by omega) _ _ _⟩
    clear hK K; (try simp only [Act.put, List.setIfInBounds_toArray]); (try dsimp only [List.set_cons_zero, List.set_cons_succ])
    refine seq_take HST (v := ?_) 13 5 rfl ?_ ?_; rotate_left; (intro w9 hS9; obtain ⟨⟨e0, e1, e2, e3, e4, e5, e6, e7, e8, e9⟩, -⟩ := hS9; go_simp; try with_reducible rfl); (try simp only [Act.put, List.setIfInBounds_toArray]); (try dsimp only [List.set_cons_zero, List.set_cons_succ])
    refine seq_done (by kernel_rfl) ?_
    have B9 := Lib.hid (B2.out.trans (BB.out.mono B2.out.size))
    go_wp2
    have Y9 := R9.out.set (.int .i64 vk) (.int .i64 vn) (.string vs)
    exact bodyPost_ret (v := .tuple #[.agg #[.int .i64 vk, .int .i64 vn, .string vs], .int .i64 ve]) (by simp [results, Try.results38, go_sem, Y9.c0, Y9.c1, Y9.c2]) rfl ⟨rfl, set3_below B9.out (by omega) _ _ _⟩
  · go_enter Try.func38, Try.ntmps38
    go_upto_region 1 with fail
    rw [HW0.out]
    obtain ⟨s0, s1, s2, sf⟩ := S0.out
    obtain ⟨x0, x1, x2, xf⟩ := N0.out
    go_wp2_with fail
    refine HE0.out.mono ?_
    rintro e w1 ⟨C, cc, rfl, hv1, hb1⟩
    have OV := Lib.hid hv1
    have B1 := Lib.hid (B0.out.trans (hb1.mono B0.out.size))
    have S1 := Lib.hid (S0.out.below hb1)
    have N1 := Lib.hid (N0.out.below hb1)
    have R1 := Lib.hid (R0.out.below hb1)
    have z1 : w.heap.size + 1 + 1 < w1.heap.size := R1.out.lt
    clear hb1 hv1 s0 s1 s2 sf x0 x1 x2 xf
    obtain ⟨x0, x1, x2, xf⟩ := N1.out
    have HN2 := Lib.hid (HNC.out C cc w1 OV.out.vals)
    go_wp2_with fail
    refine HN2.out.mono ?_
    rintro e w2 ⟨rfl, hb2⟩
    have L2 := Lib.hid hb2
    have B2 := Lib.hid (B1.out.trans (hb2.mono B1.out.size))
    have S2 := Lib.hid (S1.out.below hb2)
    have N2 := Lib.hid (N1.out.below hb2)
    have R2 := Lib.hid (R1.out.below hb2)
    have z2 := R2.out.lt
    obtain ⟨g, hC, hg, hblk1⟩ := OV.out (by simp)
    have hblk := hblk1.call hb2
    have hgz : g < w2.heap.size := hblk.lt
    have hgR : w.heap.size + 1 + 1 < g := Nat.lt_of_lt_of_le z0 hg
    subst hC
    clear hb2 x0 x1 x2 xf hblk1
    obtain ⟨c0, c1, c2⟩ := hblk.at 0 (by simp)
    simp only [List.getElem_cons_zero, Nat.zero_mul, Nat.zero_add] at c0 c1 c2
    obtain ⟨d0, d1, d2⟩ := hblk.at 1 (by simp)
    simp only [List.getElem_cons_succ, List.getElem_cons_zero, Nat.one_mul, Nat.reduceAdd] at d0 d1 d2
    obtain ⟨s0, s1, s2, sf⟩ := S2.out
    obtain ⟨x0, x1, x2, xf⟩ := N2.out
    clear x1 x2 xf sf
    go_wp2_with fail
    have zz0 : w.heap.size < w2.heap.size := by omega
    have zz1 : w.heap.size + 1 < w2.heap.size := by omega
    have HALL := Lib.hid (fun (w' : World) (hb : Below w2.heap.size w2 w') => show (w'.cell? ⟨w.heap.size, 0, none⟩ = some (.slice A na ca) ∧ w'.cell? ⟨w.heap.size, 1, none⟩ = some (.slice B nb cb) ∧ w'.cell? ⟨w.heap.size, 2, none⟩ = some (.map (some mb)) ∧ w'.cell? ⟨w.heap.size + 1, 0, none⟩ = some (.string ⟨#[42]⟩) ∧ w'.cell? ⟨g, 0, none⟩ = some (.int .i64 ak) ∧ w'.cell? ⟨g, 1, none⟩ = some (.int .i64 an) ∧ w'.cell? ⟨g, 2, none⟩ = some (.string as') ∧ w'.cell? ⟨g, 3, none⟩ = some (.int .i64 bk) ∧ w'.cell? ⟨g, 4, none⟩ = some (.int .i64 bn) ∧ w'.cell? ⟨g, 5, none⟩ = some (.string bs)) ∧ Below w.heap.size w w' from ⟨⟨(hb.cell (p := ⟨w.heap.size, 0, none⟩) (by first | exact zz0 | exact zz1 | exact hgz)).trans s0, (hb.cell (p := ⟨w.heap.size, 1, none⟩) (by first | exact zz0 | exact zz1 | exact hgz)).trans s1, (hb.cell (p := ⟨w.heap.size, 2, none⟩) (by first | exact zz0 | exact zz1 | exact hgz)).trans s2, (hb.cell (p := ⟨w.heap.size + 1, 0, none⟩) (by first | exact zz0 | exact zz1 | exact hgz)).trans x0, (hb.cell (p := ⟨g, 0, none⟩) (by first | exact zz0 | exact zz1 | exact hgz)).trans c0, (hb.cell (p := ⟨g, 1, none⟩) (by first | exact zz0 | exact zz1 | exact hgz)).trans c1, (hb.cell (p := ⟨g, 2, none⟩) (by first | exact zz0 | exact zz1 | exact hgz)).trans c2, (hb.cell (p := ⟨g, 3, none⟩) (by first | exact zz0 | exact zz1 | exact hgz)).trans d0, (hb.cell (p := ⟨g, 4, none⟩) (by first | exact zz0 | exact zz1 | exact hgz)).trans d1, (hb.cell (p := ⟨g, 5, none⟩) (by first | exact zz0 | exact zz1 | exact hgz)).trans d2⟩, B2.out.trans (hb.mono B2.out.size)⟩)
    clear s0 s1 s2 x0 c0 c1 c2 d0 d1 d2 hblk
    refine seq_begin (fun w' => (w'.cell? ⟨w.heap.size, 0, none⟩ = some (.slice A na ca) ∧ w'.cell? ⟨w.heap.size, 1, none⟩ = some (.slice B nb cb) ∧ w'.cell? ⟨w.heap.size, 2, none⟩ = some (.map (some mb)) ∧ w'.cell? ⟨w.heap.size + 1, 0, none⟩ = some (.string ⟨#[42]⟩) ∧ w'.cell? ⟨g, 0, none⟩ = some (.int .i64 ak) ∧ w'.cell? ⟨g, 1, none⟩ = some (.int .i64 an) ∧ w'.cell? ⟨g, 2, none⟩ = some (.string as') ∧ w'.cell? ⟨g, 3, none⟩ = some (.int .i64 bk) ∧ w'.cell? ⟨g, 4, none⟩ = some (.int .i64 bn) ∧ w'.cell? ⟨g, 5, none⟩ = some (.string bs)) ∧ Below w.heap.size w w') 14 (by kernel_rfl) (by kernel_rfl) (HALL.out _ (Below.drew (Below.refl _ _))) (fun HST hHeld => ?_)
    have BB := Lib.hid (show Below w2.heap.size w2 w2.drew from Below.drew (Below.refl _ _))
    refine seq_take HST (v := ?_) 0 93 rfl ?_ ?_; rotate_left; (intro w9 hS9; obtain ⟨⟨e0, e1, e2, e3, e4, e5, e6, e7, e8, e9⟩, -⟩ := hS9; go_simp; try with_reducible rfl); (try simp only [Act.put, List.setIfInBounds_toArray]); (try dsimp only [List.set_cons_zero, List.set_cons_succ])
    refine seq_take HST (v := ?_) 1 94 rfl ?_ ?_; rotate_left; (intro w9 hS9; obtain ⟨⟨e0, e1, e2, e3, e4, e5, e6, e7, e8, e9⟩, -⟩ := hS9; go_simp; try with_reducible rfl); (try simp only [Act.put, List.setIfInBounds_toArray]); (try dsimp only [List.set_cons_zero, List.set_cons_succ])
    refine seq_take HST (v := ?_) 2 95 rfl ?_ ?_; rotate_left; (intro w9 hS9; obtain ⟨⟨e0, e1, e2, e3, e4, e5, e6, e7, e8, e9⟩, -⟩ := hS9; go_simp; try with_reducible rfl); (try simp only [Act.put, List.setIfInBounds_toArray]); (try dsimp only [List.set_cons_zero, List.set_cons_succ])
    refine seq_take HST (v := ?_) 3 96 rfl ?_ ?_; rotate_left; (intro w9 hS9; obtain ⟨⟨e0, e1, e2, e3, e4, e5, e6, e7, e8, e9⟩, -⟩ := hS9; go_simp; try with_reducible rfl); (try simp only [Act.put, List.setIfInBounds_toArray]); (try dsimp only [List.set_cons_zero, List.set_cons_succ])
    refine seq_take HST (v := ?_) 4 97 rfl ?_ ?_; rotate_left; (intro w9 hS9; obtain ⟨⟨e0, e1, e2, e3, e4, e5, e6, e7, e8, e9⟩, -⟩ := hS9; go_simp; try with_reducible rfl); (try simp only [Act.put, List.setIfInBounds_toArray]); (try dsimp only [List.set_cons_zero, List.set_cons_succ])
    refine seq_take HST (v := ?_) 5 98 rfl ?_ ?_; rotate_left; (intro w9 hS9; obtain ⟨⟨e0, e1, e2, e3, e4, e5, e6, e7, e8, e9⟩, -⟩ := hS9; go_simp; try with_reducible rfl); (try simp only [Act.put, List.setIfInBounds_toArray]); (try dsimp only [List.set_cons_zero, List.set_cons_succ])
    refine seq_take HST (v := ?_) 6 99 rfl ?_ ?_; rotate_left; (intro w9 hS9; obtain ⟨⟨e0, e1, e2, e3, e4, e5, e6, e7, e8, e9⟩, -⟩ := hS9; go_simp; try with_reducible rfl); (try simp only [Act.put, List.setIfInBounds_toArray]); (try dsimp only [List.set_cons_zero, List.set_cons_succ])
    refine seq_take HST (v := ?_) 7 100 rfl ?_ ?_; rotate_left; (intro w9 hS9; obtain ⟨⟨e0, e1, e2, e3, e4, e5, e6, e7, e8, e9⟩, -⟩ := hS9; go_simp; try with_reducible rfl); (try simp only [Act.put, List.setIfInBounds_toArray]); (try dsimp only [List.set_cons_zero, List.set_cons_succ])
    refine seq_take HST (v := ?_) 8 101 rfl ?_ ?_; rotate_left; (intro w9 hS9; obtain ⟨⟨e0, e1, e2, e3, e4, e5, e6, e7, e8, e9⟩, -⟩ := hS9; go_simp; try with_reducible rfl); (try simp only [Act.put, List.setIfInBounds_toArray]); (try dsimp only [List.set_cons_zero, List.set_cons_succ])
    refine seq_call HST 9 102 rfl (by kernel_rfl) (fun K hK => ?_); go_simp; refine (HSM.out _ (B2.out.trans (BB.out.mono B2.out.size))).mono ?_; rintro e w9 ⟨rfl, hb9⟩; have BB9 := Lib.hid (BB.out.trans (hb9.mono BB.out.size)); refine hK.out _ _ (HALL.out _ BB9.out) (fun hHeld9 => ?_); clear hK K hb9 BB; have BB := BB9; clear BB9
    (try simp only [Act.put, List.setIfInBounds_toArray]); (try dsimp only [List.set_cons_zero, List.set_cons_succ])
    refine seq_take HST (v := ?_) 10 103 rfl ?_ ?_; rotate_left; (intro w9 hS9; obtain ⟨⟨e0, e1, e2, e3, e4, e5, e6, e7, e8, e9⟩, -⟩ := hS9; go_simp; try with_reducible rfl); (try simp only [Act.put, List.setIfInBounds_toArray]); (try dsimp only [List.set_cons_zero, List.set_cons_succ])
    refine seq_take HST (v := ?_) 11 104 rfl ?_ ?_; rotate_left; (intro w9 hS9; obtain ⟨⟨e0, e1, e2, e3, e4, e5, e6, e7, e8, e9⟩, -⟩ := hS9; go_simp; try with_reducible rfl); (try simp only [Act.put, List.setIfInBounds_toArray]); (try dsimp only [List.set_cons_zero, List.set_cons_succ])
    have R9 := Lib.hid (R2.out.below BB.out); have z9 := R9.out.lt; have r0 := R9.out.c0; have r1 := R9.out.c1; have r2 := R9.out.c2; have rf := R9.out.fr
    refine seq_put HST 12 rfl (by kernel_rfl) (fun K hK => ?_); go_simp; refine hK.out _ _ ?_ (fun hHeld9 => ?_)
    · have nn0 : w.heap.size ≠ w.heap.size + 1 + 1 := by omega
      have nn1 : w.heap.size + 1 ≠ w.heap.size + 1 + 1 := by omega
      have nn2 : g ≠ w.heap.size + 1 + 1 := by omega
      obtain ⟨⟨e0, e1, e2, e3, e4, e5, e6, e7, e8, e9⟩, e99⟩ := HALL.out _ BB.out
      exact ⟨⟨(far3 ⟨w.heap.size, 0, none⟩ (by first | exact nn0 | exact nn1 | exact nn2)).trans e0, (far3 ⟨w.heap.size, 1, none⟩ (by first | exact nn0 | exact nn1 | exact nn2)).trans e1, (far3 ⟨w.heap.size, 2, none⟩ (by first | exact nn0 | exact nn1 | exact nn2)).trans e2, (far3 ⟨w.heap.size + 1, 0, none⟩ (by first | exact nn0 | exact nn1 | exact nn2)).trans e3, (far3 ⟨g, 0, none⟩ (by first | exact nn0 | exact nn1 | exact nn2)).trans e4, (far3 ⟨g, 1, none⟩ (by first | exact nn0 | exact nn1 | exact nn2)).trans e5, (far3 ⟨g, 2, none⟩ (by first | exact nn0 | exact nn1 | exact nn2)).trans e6, (far3 ⟨g, 3, none⟩ (by first | exact nn0 | exact nn1 | exact nn2)).trans e7, (far3 ⟨g, 4, none⟩ (by first | exact nn0 | exact nn1 | exact nn2)).trans e8, (far3 ⟨g, 5, none⟩ (by first | exact nn0 | exact nn1 | exact nn2)).trans e9⟩, set3_below e99 (by omega) _ _ _⟩
    clear hK K; (try simp only [Act.put, List.setIfInBounds_toArray]); (try dsimp only [List.set_cons_zero, List.set_cons_succ])
    refine seq_take HST (v := ?_) 13 5 rfl ?_ ?_; rotate_left; (intro w9 hS9; obtain ⟨⟨e0, e1, e2, e3, e4, e5, e6, e7, e8, e9⟩, -⟩ := hS9; go_simp; try with_reducible rfl); (try simp only [Act.put, List.setIfInBounds_toArray]); (try dsimp only [List.set_cons_zero, List.set_cons_succ])
    refine seq_done (by kernel_rfl) ?_
    have B9 := Lib.hid (B2.out.trans (BB.out.mono B2.out.size))
    go_wp2
    have Y9 := R9.out.set (.int .i64 vk) (.int .i64 vn) (.string vs)
    exact bodyPost_ret (v := .tuple #[.agg #[.int .i64 vk, .int .i64 vn, .string vs], .int .i64 ve]) (by simp [results, Try.results38, go_sem, Y9.c0, Y9.c1, Y9.c2]) rfl ⟨rfl, set3_below B9.out (by omega) _ _ _⟩
end Go.Proofs.Ytkibacolnagkcaa.Code
