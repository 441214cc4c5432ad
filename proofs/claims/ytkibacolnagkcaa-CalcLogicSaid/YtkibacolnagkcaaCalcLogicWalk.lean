/-
  The walk of CalcLogic, over what the program's Holds and Value answer.
-/
import Derived.Test.YtkibacolnagkcaaCalcKindsWalk
import Derived.Test.YtkibacolnagkcaaM26
import Derived.Test.YtkibacolnagkcaaM27
namespace Go.Proofs.Ytkibacolnagkcaa.calcLogic
open Go.ChangeShapes Go.WideShapes Go.ChangeAt Go.RowKit Val Elems Go.Proofs.Ytkibacolnagkcaa.Code Go.Proofs.Ytkibacolnagkcaa.RowOpen Go.Proofs.Ytkibacolnagkcaa.calcKinds
set_option linter.unusedVariables false
set_option linter.unusedSimpArgs false
def HoldsC (t : Nod) (op tx : ByteArray) (X : Option Addr) (n k : Nat) (A : Option Addr) (ca : Nat) (l : List W) (B : Option Addr) (cb : Nat) (r : List CV) (w : World) : Prop :=
  Calls Try.prog 12 #[.agg #[.string op, .string tx, .slice X n k], .slice A l.length ca, .slice B r.length cb] w fun e w' => e = .returned (.tuple #[.bool (holdsK l r t).1, .int .i64 (holdsK l r t).2]) ∧ Below w.heap.size w w'
/-- a node in memory, in whatever blocks, in a later world -/
theorem rin_up {w w' : World} {t : Nod} {x : NV} (h : RIn w (fun g => g < w.heap.size) t x) (hb : Below w.heap.size w w') : RIn w' (fun g => g < w'.heap.size) t x :=
  h.keep (fun g hg => Nat.lt_of_lt_of_le hg hb.size) (fun p hp => hb.cell hp)
theorem one_made {w : World} {t : Nod} {op tx : ByteArray} {X : Option Addr} {n k : Nat} (h : RIn w (fun g => g < w.heap.size) t (op, tx, X, n, k)) (c : ByteArray) :
    RIn (w.alloc (.cells #[.string op, .string tx, .slice X n k] 24)) (fun g => g < (w.alloc (.cells #[.string op, .string tx, .slice X n k] 24)).heap.size) (.mk c.data.toList [] [t]) (c, ⟨#[]⟩, some ⟨w.heap.size, 0, none⟩, 1, 1) := by
  refine RIn.made (l := [(op, tx, X, n, k)]) 1 c ⟨#[]⟩ ?_ (RAll.one (rin_up h (below_alloc w _))) (by simp) (by simp)
  have q := NBox.fresh w (.string op) (.string tx) (.slice X n k) 24
  intro i hi
  obtain rfl : i = 0 := by simp at hi; exact hi
  exact ⟨_, rfl, by simp, q.c0, q.c1, q.c2⟩
theorem two_made {w : World} {t u : Nod} {op tx op2 tx2 : ByteArray} {X X2 : Option Addr} {n k n2 k2 : Nat} (h : RIn w (fun g => g < w.heap.size) t (op, tx, X, n, k)) (h2 : RIn w (fun g => g < w.heap.size) u (op2, tx2, X2, n2, k2)) (c : ByteArray) :
    RIn (w.alloc (.cells #[.string op, .string tx, .slice X n k, .string op2, .string tx2, .slice X2 n2 k2] 24)) (fun g => g < (w.alloc (.cells #[.string op, .string tx, .slice X n k, .string op2, .string tx2, .slice X2 n2 k2] 24)).heap.size) (.mk c.data.toList [] [t, u]) (c, ⟨#[]⟩, some ⟨w.heap.size, 0, none⟩, 2, 2) := by
  refine RIn.made (l := [(op, tx, X, n, k), (op2, tx2, X2, n2, k2)]) 2 c ⟨#[]⟩ ?_ ((RAll.one (rin_up h (below_alloc w _))).snoc (rin_up h2 (below_alloc w _))) (by simp) (by simp)
  intro i hi
  match i, hi with
  | 0, _ => exact ⟨_, rfl, by simp, by simp [go_sem, Addr.add], by simp [go_sem, Addr.add], by simp [go_sem, Addr.add]⟩
  | 1, _ => exact ⟨_, rfl, by simp, by simp [go_sem, Addr.add], by simp [go_sem, Addr.add], by simp [go_sem, Addr.add]⟩
set_option maxHeartbeats 16000000 in
set_option maxRecDepth 100000 in
theorem walk_of (t u : Nod) (op tx : ByteArray) (X : Option Addr) (n k : Nat) (op2 tx2 : ByteArray) (X2 : Option Addr) (n2 k2 : Nat) (A : Option Addr) (ca : Nat) (l : List W) (B : Option Addr) (cb : Nat) (r : List CV) (w : World)
    (ra : RIn w (fun g => g < w.heap.size) t (op, tx, X, n, k)) (rb : RIn w (fun g => g < w.heap.size) u (op2, tx2, X2, n2, k2))
    (ha : At wc 3 w w.heap.size A l) (hla : l.length ≤ 4398046511104) (hr : RowIn w B r)
    (hA : ∀ w0, Below w.heap.size w w0 → Calls Try.prog 9 #[] w0 (fun e w' => e = .returned (.bool true) ∧ Below w0.heap.size w0 w'))
    (hH : smallC l = true → smallB r = true → ∀ (t : Nod) op tx X n k w0, Below w.heap.size w w0 → RIn w0 (fun g => g < w0.heap.size) t (op, tx, X, n, k) → HoldsC t op tx X n k A ca l B cb r w0)
    (hV : smallC l = true → smallB r = true → ∀ (t : Nod) op tx X n k w0, Below w.heap.size w w0 → RIn w0 (fun g => g < w0.heap.size) t (op, tx, X, n, k) → ValueC t op tx X n k A ca l B cb r w0) :
    Calls Try.prog 4 #[.agg #[.string op, .string tx, .slice X n k], .agg #[.string op2, .string tx2, .slice X2 n2 k2], .agg #[.slice A l.length ca, .slice B r.length cb]] w fun e w' => e = .returned (.bool true) ∧ Below w.heap.size w w' := by
  have HA := Lib.hid hA
  have HH := Lib.hid hH
  have HV := Lib.hid hV
  obtain ⟨w0, hw0⟩ : ∃ w0, ((w.alloc (.cells #[.string op, .string tx, .slice X n k] 24)).alloc (.cells #[.string op2, .string tx2, .slice X2 n2 k2] 24)).alloc (.cells #[.slice A l.length ca, .slice B r.length cb] 43) = w0 := ⟨_, rfl⟩
  have z0 : w.heap.size + 3 = w0.heap.size := by rw [← hw0]; simp
  have B0 := Lib.hid (show Below w.heap.size w w0 by rw [← hw0]; exact ((below_alloc _ _).alloc (by simp) _).alloc (by simp; omega) _)
  have BW := Lib.hid (fun (w' : World) (h : Below w0.heap.size w0 w') => show Below w.heap.size w w' from B0.out.trans (h.mono B0.out.size))
  have RA := Lib.hid (rin_up ra B0.out)
  have RB := Lib.hid (rin_up rb B0.out)
  have Na := Lib.hid (show NBox w0 w.heap.size (.string op) (.string tx) (.slice X n k) by rw [← hw0]; exact ⟨by simp [go_sem], by simp [go_sem], by simp [go_sem], fun j => by simp [go_sem]⟩)
  have Nb := Lib.hid (show NBox w0 (w.heap.size + 1) (.string op2) (.string tx2) (.slice X2 n2 k2) by rw [← hw0]; exact ⟨by simp [go_sem], by simp [go_sem], by simp [go_sem], fun j => by simp [go_sem]⟩)
  have FO := Lib.hid (fun (w' : World) (h : Below w0.heap.size w0 w') => show w'.cell? ⟨w.heap.size + 1 + 1, 0, none⟩ = some (.slice A l.length ca) ∧ w'.cell? ⟨w.heap.size + 1 + 1, 1, none⟩ = some (.slice B r.length cb) from
    ⟨(h.cell (p := ⟨w.heap.size + 1 + 1, 0, none⟩) (by show w.heap.size + 1 + 1 < w0.heap.size; omega)).trans (by rw [← hw0]; simp [go_sem]), (h.cell (p := ⟨w.heap.size + 1 + 1, 1, none⟩) (by show w.heap.size + 1 + 1 < w0.heap.size; omega)).trans (by rw [← hw0]; simp [go_sem])⟩)
  have HSA := Lib.hid (fun (w' : World) (h : Below w0.heap.size w0 w') => sizeF_any t.deep t (Nat.le_refl _) (fun g => g < w'.heap.size) op tx X n k w' (fun g hg => hg) (rin_up RA.out h))
  have HSB := Lib.hid (fun (w' : World) (h : Below w0.heap.size w0 w') => sizeF_any u.deep u (Nat.le_refl _) (fun g => g < w'.heap.size) op2 tx2 X2 n2 k2 w' (fun g hg => hg) (rin_up RB.out h))
  have HP := Lib.hid (smallc_any A ca l w0 ((ha.below B0.out).more B0.out.size) (by unfold maxLen; omega))
  have HQ := Lib.hid (fun (w' : World) (hb : Below w.heap.size w w') => small_any B cb r w' ((hr.1.below hb).more hb.size) hr.2.2.1 (by have := hr.2.2.2; omega))
  obtain ⟨p, hp⟩ : ∃ p, smallC l = p := ⟨_, rfl⟩
  obtain ⟨q, hq⟩ : ∃ q, smallB r = q := ⟨_, rfl⟩
  rw [hp] at HH HV HP
  rw [hq] at HH HV HQ
  have HW0 := Lib.hid hw0
  clear hA hH hV ra rb ha hla hr hp hq hw0
  go_enter Try.func4, Try.ntmps4
  go_upto_region 1 with fail
  rw [HW0.out]
  obtain ⟨o0, o1⟩ := FO.out _ (Below.refl _ _)
  go_wp2_with fail
  refine HP.out.mono ?_
  rintro e w1 ⟨rfl, hb⟩
  have S0 := Lib.hid hb
  clear hb HP o0 o1
  obtain ⟨o0, o1⟩ := FO.out _ S0.out
  go_wp2_with fail
  refine (HQ.out w1 (BW.out _ S0.out)).mono ?_
  rintro e w1' ⟨rfl, rfl⟩
  clear HQ
  go_upto_region 4 with fail
  clear o0 o1
  obtain ⟨a0, a1, a2, af⟩ := Na.out.below S0.out
  obtain ⟨b0, b1, b2, bf⟩ := Nb.out.below S0.out
  have za : w.heap.size < w1.heap.size := by have := S0.out.size; omega
  have zb : w.heap.size + 1 < w1.heap.size := by have := S0.out.size; omega
  go_cut [49] (fun s9 wx => ∃ bg : Bool, s9 = .bool bg ∧ (bg = false → (p = true ∧ q = true)) ∧ Below w1.heap.size w1 wx)
  case first =>
    by_cases hgood : p = true ∧ q = true
    case neg =>
      refine seq_begin (fun w' => Below w1.heap.size w1 w') 14 (by kernel_rfl) (by kernel_rfl) (Below.drew (Below.refl _ _)) (fun HST hHeld => ?_)
      cases p
      · clear hgood a0 a1 a2 af b0 b1 b2 bf
        refine seq_take HST (v := ?_) 0 36 rfl ?_ ?_; rotate_left; (intro w hSw; go_simp; try with_reducible rfl); (try simp only [Act.put, List.setIfInBounds_toArray]); (try dsimp only [List.set_cons_zero, List.set_cons_succ])
        refine seq_take HST (v := ?_) 1 37 rfl ?_ ?_; rotate_left; (intro w hSw; go_simp; try with_reducible rfl); (try simp only [Act.put, List.setIfInBounds_toArray]); (try dsimp only [List.set_cons_zero, List.set_cons_succ])
        refine seq_take HST (v := ?_) 2 38 rfl ?_ ?_; rotate_left; (intro w hSw; go_simp; try with_reducible rfl); (try simp only [Act.put, List.setIfInBounds_toArray]); (try dsimp only [List.set_cons_zero, List.set_cons_succ])
        refine seq_skip HST 3 39 rfl ?_; (try simp only [Act.put, List.setIfInBounds_toArray]); (try dsimp only [List.set_cons_zero, List.set_cons_succ])
        refine seq_skip HST 4 40 rfl ?_; (try simp only [Act.put, List.setIfInBounds_toArray]); (try dsimp only [List.set_cons_zero, List.set_cons_succ])
        refine seq_take HST (v := ?_) 5 41 rfl ?_ ?_; rotate_left; (intro w hSw; go_simp; try with_reducible rfl); (try simp only [Act.put, List.setIfInBounds_toArray]); (try dsimp only [List.set_cons_zero, List.set_cons_succ])
        refine seq_take HST (v := ?_) 6 42 rfl ?_ ?_; rotate_left; (intro w hSw; go_simp; try with_reducible rfl); (try simp only [Act.put, List.setIfInBounds_toArray]); (try dsimp only [List.set_cons_zero, List.set_cons_succ])
        refine seq_skip HST 7 43 rfl ?_; (try simp only [Act.put, List.setIfInBounds_toArray]); (try dsimp only [List.set_cons_zero, List.set_cons_succ])
        refine seq_skip HST 8 44 rfl ?_; (try simp only [Act.put, List.setIfInBounds_toArray]); (try dsimp only [List.set_cons_zero, List.set_cons_succ])
        refine seq_skip HST 9 45 rfl ?_; (try simp only [Act.put, List.setIfInBounds_toArray]); (try dsimp only [List.set_cons_zero, List.set_cons_succ])
        refine seq_skip HST 10 46 rfl ?_; (try simp only [Act.put, List.setIfInBounds_toArray]); (try dsimp only [List.set_cons_zero, List.set_cons_succ])
        refine seq_skip HST 11 47 rfl ?_; (try simp only [Act.put, List.setIfInBounds_toArray]); (try dsimp only [List.set_cons_zero, List.set_cons_succ])
        refine seq_skip HST 12 48 rfl ?_; (try simp only [Act.put, List.setIfInBounds_toArray]); (try dsimp only [List.set_cons_zero, List.set_cons_succ])
        refine seq_take HST (v := ?_) 13 49 rfl ?_ ?_; rotate_left; (intro w hSw; go_simp; try with_reducible rfl); (try simp only [Act.put, List.setIfInBounds_toArray]); (try dsimp only [List.set_cons_zero, List.set_cons_succ])
        refine seq_done (by kernel_rfl) ?_
        go_wp2_with fail
        go_meet
        exact ⟨true, rfl, fun h => absurd h (by decide), by assumption⟩
      · obtain rfl : q = false := by simpa using hgood
        clear hgood a0 a1 a2 af b0 b1 b2 bf
        refine seq_take HST (v := ?_) 0 36 rfl ?_ ?_; rotate_left; (intro w hSw; go_simp; try with_reducible rfl); (try simp only [Act.put, List.setIfInBounds_toArray]); (try dsimp only [List.set_cons_zero, List.set_cons_succ])
        refine seq_take HST (v := ?_) 1 37 rfl ?_ ?_; rotate_left; (intro w hSw; go_simp; try with_reducible rfl); (try simp only [Act.put, List.setIfInBounds_toArray]); (try dsimp only [List.set_cons_zero, List.set_cons_succ])
        refine seq_take HST (v := ?_) 2 38 rfl ?_ ?_; rotate_left; (intro w hSw; go_simp; try with_reducible rfl); (try simp only [Act.put, List.setIfInBounds_toArray]); (try dsimp only [List.set_cons_zero, List.set_cons_succ])
        refine seq_take HST (v := ?_) 3 39 rfl ?_ ?_; rotate_left; (intro w hSw; go_simp; try with_reducible rfl); (try simp only [Act.put, List.setIfInBounds_toArray]); (try dsimp only [List.set_cons_zero, List.set_cons_succ])
        refine seq_take HST (v := ?_) 4 40 rfl ?_ ?_; rotate_left; (intro w hSw; go_simp; try with_reducible rfl); (try simp only [Act.put, List.setIfInBounds_toArray]); (try dsimp only [List.set_cons_zero, List.set_cons_succ])
        refine seq_take HST (v := ?_) 5 41 rfl ?_ ?_; rotate_left; (intro w hSw; go_simp; try with_reducible rfl); (try simp only [Act.put, List.setIfInBounds_toArray]); (try dsimp only [List.set_cons_zero, List.set_cons_succ])
        refine seq_take HST (v := ?_) 6 42 rfl ?_ ?_; rotate_left; (intro w hSw; go_simp; try with_reducible rfl); (try simp only [Act.put, List.setIfInBounds_toArray]); (try dsimp only [List.set_cons_zero, List.set_cons_succ])
        refine seq_skip HST 7 43 rfl ?_; (try simp only [Act.put, List.setIfInBounds_toArray]); (try dsimp only [List.set_cons_zero, List.set_cons_succ])
        refine seq_skip HST 8 44 rfl ?_; (try simp only [Act.put, List.setIfInBounds_toArray]); (try dsimp only [List.set_cons_zero, List.set_cons_succ])
        refine seq_skip HST 9 45 rfl ?_; (try simp only [Act.put, List.setIfInBounds_toArray]); (try dsimp only [List.set_cons_zero, List.set_cons_succ])
        refine seq_skip HST 10 46 rfl ?_; (try simp only [Act.put, List.setIfInBounds_toArray]); (try dsimp only [List.set_cons_zero, List.set_cons_succ])
        refine seq_skip HST 11 47 rfl ?_; (try simp only [Act.put, List.setIfInBounds_toArray]); (try dsimp only [List.set_cons_zero, List.set_cons_succ])
        refine seq_skip HST 12 48 rfl ?_; (try simp only [Act.put, List.setIfInBounds_toArray]); (try dsimp only [List.set_cons_zero, List.set_cons_succ])
        refine seq_take HST (v := ?_) 13 49 rfl ?_ ?_; rotate_left; (intro w hSw; go_simp; try with_reducible rfl); (try simp only [Act.put, List.setIfInBounds_toArray]); (try dsimp only [List.set_cons_zero, List.set_cons_succ])
        refine seq_done (by kernel_rfl) ?_
        go_wp2_with fail
        go_meet
        exact ⟨true, rfl, fun h => absurd h (by decide), by assumption⟩
    obtain ⟨rfl, rfl⟩ := hgood
    go_region_held3 (fun w' => (w'.cell? ⟨w.heap.size, 0, none⟩ = some (.string op) ∧ w'.cell? ⟨w.heap.size, 1, none⟩ = some (.string tx) ∧ w'.cell? ⟨w.heap.size, 2, none⟩ = some (.slice X n k) ∧ w'.cell? ⟨w.heap.size + 1, 0, none⟩ = some (.string op2) ∧ w'.cell? ⟨w.heap.size + 1, 1, none⟩ = some (.string tx2) ∧ w'.cell? ⟨w.heap.size + 1, 2, none⟩ = some (.slice X2 n2 k2)) ∧ Below w1.heap.size w1 w')
      (first | assumption | (refine keepK hb5 (by assumption) ?_; intro kk; exact ⟨(kk _ _ za).trans a0, (kk _ _ za).trans a1, (kk _ _ za).trans a2, (kk _ _ zb).trans b0, (kk _ _ zb).trans b1, (kk _ _ zb).trans b2⟩) | (exact ⟨⟨a0, a1, a2, b0, b1, b2⟩, Below.drew (Below.refl _ _)⟩))
      (first | (go_at_call 8; first | (with_reducible refine (HSA.out _ ?cv).mono ?_; (case cv => exact S0.out.trans ((by assumption : _ ∧ Below w1.heap.size w1 _).2.mono S0.out.size)); rintro e w2 ⟨K1, rfl, hb5⟩) | (with_reducible refine (HSB.out _ ?cv).mono ?_; (case cv => exact S0.out.trans ((by assumption : _ ∧ Below w1.heap.size w1 _).2.mono S0.out.size)); rintro e w3 ⟨K2, rfl, hb5⟩; obtain ⟨KK, wK⟩ : ∃ KK, IntKind.i64.wrap (K1 + K2) = KK := ⟨_, rfl⟩)))
    all_goals
      have M1 := Lib.hid (show Below w1.heap.size w1 _ by rename_i hS9; exact hS9.2)
      go_wp2_with fail
      go_meet
      exact ⟨_, rfl, fun h => by first | exact trivial | exact ⟨rfl, rfl⟩ | simp, M1.out⟩
  obtain ⟨bg, rfl, hbg, hcut⟩ := hcut
  obtain ⟨w2, hw2⟩ : ∃ w2, w2 = wc := ⟨_, rfl⟩
  subst hw2
  have S1 := Lib.hid hcut
  have HBG := Lib.hid hbg
  clear hcut hbg a0 a1 a2 af b0 b1 b2 bf HSA HSB
  cases bg
  case true =>
    go_wp2_with fail
    refine (HA.out _ (BW.out _ (S0.out.trans (S1.out.mono S0.out.size)))).mono ?_
    rintro e w5 ⟨rfl, hb⟩
    have L5 := Lib.hid ((BW.out _ (S0.out.trans (S1.out.mono S0.out.size))).trans (hb.mono (BW.out _ (S0.out.trans (S1.out.mono S0.out.size))).size))
    clear hb
    go_wp2
    go_ret
    exact ⟨rfl, L5.out⟩
  obtain ⟨rfl, rfl⟩ := HBG.out rfl
  have V0 := Lib.hid (HV.out rfl rfl)
  have H0 := Lib.hid (HH.out rfl rfl)
  clear HH HV HBG
  have D2 := Lib.hid (S0.out.trans (S1.out.mono S0.out.size))
  obtain ⟨a0, a1, a2, af⟩ := Na.out.below D2.out
  obtain ⟨o0, o1⟩ := FO.out _ D2.out
  go_wp2_with fail
  refine (H0.out t _ _ _ _ _ w2 (BW.out _ D2.out) (rin_up RA.out D2.out)).mono ?_
  rintro e w3 ⟨rfl, hb⟩
  have S2 := Lib.hid hb
  clear hb a0 a1 a2 af o0 o1
  have D3 := Lib.hid (D2.out.trans (S2.out.mono D2.out.size))
  obtain ⟨b0, b1, b2, bf⟩ := Nb.out.below D3.out
  obtain ⟨o0, o1⟩ := FO.out _ D3.out
  go_wp2_with fail
  refine (H0.out u _ _ _ _ _ w3 (BW.out _ D3.out) (rin_up RB.out D3.out)).mono ?_
  rintro e w4 ⟨rfl, hb⟩
  have S3 := Lib.hid hb
  clear hb b0 b1 b2 bf o0 o1
  have D4 := Lib.hid (D3.out.trans (S3.out.mono D3.out.size))
  obtain ⟨fa, hfa⟩ : ∃ x, holdsK l r t = x := ⟨_, rfl⟩
  obtain ⟨fb, hfb⟩ : ∃ x, holdsK l r u = x := ⟨_, rfl⟩
  rw [hfa, hfb]
  obtain ⟨g, e⟩ := fa
  obtain ⟨g2, e2⟩ := fb
  have HFA := Lib.hid hfa
  have HFB := Lib.hid hfb
  clear hfa hfb
  have hbad : ∀ x : World, Below w.heap.size w x → True := fun _ _ => trivial
  clear hbad
  by_cases he : e = 0
  case neg =>
    go_wp2_with fail
    refine (HA.out _ (BW.out _ D4.out)).mono ?_
    rintro e w5 ⟨rfl, hb⟩
    have L5 := Lib.hid ((BW.out _ D4.out).trans (hb.mono (BW.out _ D4.out).size))
    clear hb
    go_wp2
    go_ret
    exact ⟨rfl, L5.out⟩
  subst he
  by_cases he : e2 = 0
  case neg =>
    go_wp2_with fail
    refine (HA.out _ (BW.out _ D4.out)).mono ?_
    rintro e w5 ⟨rfl, hb⟩
    have L5 := Lib.hid ((BW.out _ D4.out).trans (hb.mono (BW.out _ D4.out).size))
    clear hb
    go_wp2
    go_ret
    exact ⟨rfl, L5.out⟩
  subst he
  obtain ⟨l1, l2, l3, l4, l5, l6, l7⟩ := logic l r t u (by rw [HFA.out]) (by rw [HFB.out])
  obtain ⟨⟨⟨xk, xn, xs⟩, x0⟩, hx⟩ : ∃ x, valueK l r (notN (andN t u)) = x := ⟨_, rfl⟩
  obtain ⟨⟨⟨vk, vn, vs⟩, v0⟩, hv⟩ : ∃ x, valueK l r t = x := ⟨_, rfl⟩
  have hy : valueK l r (orN (notN t) (notN u)) = ((xk, xn, xs), 0) := Prod.ext (by rw [← l1, hx]) l3
  have hz : valueK l r (notN (notN t)) = ((vk, vn, vs), 0) := Prod.ext (by rw [l4, hv]) l5
  rw [hx] at l2
  rw [hv] at l6
  obtain rfl : x0 = 0 := l2
  obtain rfl : v0 = 0 := l6
  clear l1 l3 l4 l5
  have V1 := Lib.hid (fun (op : ByteArray) (tx : ByteArray) (X : Option Addr) (n k : Nat) (w' : World) (h : Below w.heap.size w w') (hr : RIn w' (fun g => g < w'.heap.size) (notN (andN t u)) (op, tx, X, n, k)) =>
    show Calls Try.prog 11 #[.agg #[.string op, .string tx, .slice X n k], .slice A l.length ca, .slice B r.length cb] w' (fun e w'' => e = .returned (.tuple #[.agg #[.int .i64 xk, .int .i64 xn, .string xs], .int .i64 0]) ∧ Below w'.heap.size w' w'') from by
      have q := V0.out (notN (andN t u)) op tx X n k w' h hr
      unfold ValueC at q
      rw [hx] at q
      exact q)
  have V2 := Lib.hid (fun (op : ByteArray) (tx : ByteArray) (X : Option Addr) (n k : Nat) (w' : World) (h : Below w.heap.size w w') (hr : RIn w' (fun g => g < w'.heap.size) (orN (notN t) (notN u)) (op, tx, X, n, k)) =>
    show Calls Try.prog 11 #[.agg #[.string op, .string tx, .slice X n k], .slice A l.length ca, .slice B r.length cb] w' (fun e w'' => e = .returned (.tuple #[.agg #[.int .i64 xk, .int .i64 xn, .string xs], .int .i64 0]) ∧ Below w'.heap.size w' w'') from by
      have q := V0.out (orN (notN t) (notN u)) op tx X n k w' h hr
      unfold ValueC at q
      rw [hy] at q
      exact q)
  have V3 := Lib.hid (fun (op : ByteArray) (tx : ByteArray) (X : Option Addr) (n k : Nat) (w' : World) (h : Below w.heap.size w w') (hr : RIn w' (fun g => g < w'.heap.size) (notN (notN t)) (op, tx, X, n, k)) =>
    show Calls Try.prog 11 #[.agg #[.string op, .string tx, .slice X n k], .slice A l.length ca, .slice B r.length cb] w' (fun e w'' => e = .returned (.tuple #[.agg #[.int .i64 vk, .int .i64 vn, .string vs], .int .i64 0]) ∧ Below w'.heap.size w' w'') from by
      have q := V0.out (notN (notN t)) op tx X n k w' h hr
      unfold ValueC at q
      rw [hz] at q
      exact q)
  have V4 := Lib.hid (fun (op : ByteArray) (tx : ByteArray) (X : Option Addr) (n k : Nat) (w' : World) (h : Below w.heap.size w w') (hr : RIn w' (fun g => g < w'.heap.size) (t) (op, tx, X, n, k)) =>
    show Calls Try.prog 11 #[.agg #[.string op, .string tx, .slice X n k], .slice A l.length ca, .slice B r.length cb] w' (fun e w'' => e = .returned (.tuple #[.agg #[.int .i64 vk, .int .i64 vn, .string vs], .int .i64 0]) ∧ Below w'.heap.size w' w'') from by
      have q := V0.out (t) op tx X n k w' h hr
      unfold ValueC at q
      rw [hv] at q
      exact q)
  have H5 := Lib.hid (fun (op : ByteArray) (tx : ByteArray) (X : Option Addr) (n k : Nat) (w' : World) (h : Below w.heap.size w w') (hr : RIn w' (fun g => g < w'.heap.size) (isN (isN t)) (op, tx, X, n, k)) =>
    show Calls Try.prog 12 #[.agg #[.string op, .string tx, .slice X n k], .slice A l.length ca, .slice B r.length cb] w' (fun e w'' => e = .returned (.tuple #[.bool false, .int .i64 0]) ∧ Below w'.heap.size w' w'') from by
      have q := H0.out (isN (isN t)) op tx X n k w' h hr
      unfold HoldsC at q
      rw [l7] at q
      exact q)
  clear hx hy hz hv l7 V0 H0 HFA HFB
  have D0_4 := Lib.hid D4.out
  obtain ⟨a0, a1, a2, af⟩ := Na.out.below D0_4.out
  obtain ⟨w5, hw5⟩ : ∃ w', (w4.alloc (.cells #[.string op, .string tx, .slice X n k] 24)).alloc (.cells #[.string ⟨#[110, 111, 116]⟩, .string ⟨#[]⟩, .slice (some ⟨w4.heap.size, 0, none⟩) 1 1] 24) = w' := ⟨_, rfl⟩
  have S4 := Lib.hid (show Below w4.heap.size w4 w5 by rw [← hw5]; exact (below_alloc _ _).alloc (by simp) _)
  have Rna := Lib.hid (show RIn w5 (fun g => g < w5.heap.size) (notN t) (⟨#[110, 111, 116]⟩, ⟨#[]⟩, (some ⟨w4.heap.size, 0, none⟩), 1, 1) by rw [← hw5]; exact rin_up (one_made (rin_up RA.out D0_4.out) ⟨#[110, 111, 116]⟩) (below_alloc _ _))
  have Nna := Lib.hid (show NBox w5 (w4.heap.size + 1) (.string ⟨#[110, 111, 116]⟩) (.string ⟨#[]⟩) (.slice (some ⟨w4.heap.size, 0, none⟩) 1 1) by rw [← hw5]; have q := NBox.fresh (w4.alloc (.cells #[.string op, .string tx, .slice X n k] 24)) (.string ⟨#[110, 111, 116]⟩) (.string ⟨#[]⟩) (.slice (some ⟨w4.heap.size, 0, none⟩) 1 1) 24; simpa using q)
  have Hw5 := Lib.hid hw5
  clear hw5
  go_upto_region 11 with fail
  rw [Hw5.out]
  clear a0 a1 a2 af
  have D0_5 := Lib.hid (D0_4.out.trans (S4.out.mono D0_4.out.size))
  clear D0_4
  obtain ⟨b0, b1, b2, bf⟩ := Nb.out.below D0_5.out
  obtain ⟨w6, hw6⟩ : ∃ w', (w5.alloc (.cells #[.string op2, .string tx2, .slice X2 n2 k2] 24)).alloc (.cells #[.string ⟨#[110, 111, 116]⟩, .string ⟨#[]⟩, .slice (some ⟨w5.heap.size, 0, none⟩) 1 1] 24) = w' := ⟨_, rfl⟩
  have S5 := Lib.hid (show Below w5.heap.size w5 w6 by rw [← hw6]; exact (below_alloc _ _).alloc (by simp) _)
  have Rnb := Lib.hid (show RIn w6 (fun g => g < w6.heap.size) (notN u) (⟨#[110, 111, 116]⟩, ⟨#[]⟩, (some ⟨w5.heap.size, 0, none⟩), 1, 1) by rw [← hw6]; exact rin_up (one_made (rin_up RB.out D0_5.out) ⟨#[110, 111, 116]⟩) (below_alloc _ _))
  have Nnb := Lib.hid (show NBox w6 (w5.heap.size + 1) (.string ⟨#[110, 111, 116]⟩) (.string ⟨#[]⟩) (.slice (some ⟨w5.heap.size, 0, none⟩) 1 1) by rw [← hw6]; have q := NBox.fresh (w5.alloc (.cells #[.string op2, .string tx2, .slice X2 n2 k2] 24)) (.string ⟨#[110, 111, 116]⟩) (.string ⟨#[]⟩) (.slice (some ⟨w5.heap.size, 0, none⟩) 1 1) 24; simpa using q)
  have Hw6 := Lib.hid hw6
  clear hw6
  go_upto_region 12 with fail
  rw [Hw6.out]
  clear b0 b1 b2 bf
  have D0_6 := Lib.hid (D0_5.out.trans (S5.out.mono D0_5.out.size))
  clear D0_5
  have D5_6 := Lib.hid S5.out
  obtain ⟨a0, a1, a2, af⟩ := Na.out.below D0_6.out
  obtain ⟨b0, b1, b2, bf⟩ := Nb.out.below D0_6.out
  obtain ⟨w7, hw7⟩ : ∃ w', (w6.alloc (.cells #[.string op, .string tx, .slice X n k, .string op2, .string tx2, .slice X2 n2 k2] 24)).alloc (.cells #[.string ⟨#[97, 110, 100]⟩, .string ⟨#[]⟩, .slice (some ⟨w6.heap.size, 0, none⟩) 2 2] 24) = w' := ⟨_, rfl⟩
  have S6 := Lib.hid (show Below w6.heap.size w6 w7 by rw [← hw7]; exact (below_alloc _ _).alloc (by simp) _)
  have Rab := Lib.hid (show RIn w7 (fun g => g < w7.heap.size) (andN t u) (⟨#[97, 110, 100]⟩, ⟨#[]⟩, (some ⟨w6.heap.size, 0, none⟩), 2, 2) by rw [← hw7]; exact rin_up (two_made (rin_up RA.out D0_6.out) (rin_up RB.out D0_6.out) ⟨#[97, 110, 100]⟩) (below_alloc _ _))
  have Nab := Lib.hid (show NBox w7 (w6.heap.size + 1) (.string ⟨#[97, 110, 100]⟩) (.string ⟨#[]⟩) (.slice (some ⟨w6.heap.size, 0, none⟩) 2 2) by rw [← hw7]; have q := NBox.fresh (w6.alloc (.cells #[.string op, .string tx, .slice X n k, .string op2, .string tx2, .slice X2 n2 k2] 24)) (.string ⟨#[97, 110, 100]⟩) (.string ⟨#[]⟩) (.slice (some ⟨w6.heap.size, 0, none⟩) 2 2) 24; simpa using q)
  have Hw7 := Lib.hid hw7
  clear hw7
  go_upto_region 13 with fail
  rw [Hw7.out]
  clear a0 a1 a2 af b0 b1 b2 bf
  have D0_7 := Lib.hid (D0_6.out.trans (S6.out.mono D0_6.out.size))
  clear D0_6
  have D5_7 := Lib.hid (D5_6.out.trans (S6.out.mono D5_6.out.size))
  clear D5_6
  have D6_7 := Lib.hid S6.out
  obtain ⟨ab0, ab1, ab2, abf⟩ := Nab.out.below (Below.refl w7.heap.size w7)
  obtain ⟨o0, o1⟩ := FO.out _ D0_7.out
  have zo : w.heap.size + 1 + 1 < w7.heap.size := by have h1 := D0_7.out.size; omega
  go_wp2_with fail
  refine (V1.out _ _ _ _ _ (w7.alloc (.cells #[.string ⟨#[97, 110, 100]⟩, .string ⟨#[]⟩, .slice (some ⟨w6.heap.size, 0, none⟩) 2 2] 24)) (BW.out _ (D0_7.out.trans ((below_alloc _ _).mono (D0_7.out).size))) (one_made (rin_up Rab.out (Below.refl w7.heap.size w7)) ⟨#[110, 111, 116]⟩)).mono ?_
  rintro e w8 ⟨rfl, hb⟩
  have S7 := Lib.hid (show Below w7.heap.size w7 w8 from (below_alloc _ _).trans (hb.mono (by simp)))
  clear hb zo
  clear ab0 ab1 ab2 abf o0 o1
  have D0_8 := Lib.hid (D0_7.out.trans (S7.out.mono D0_7.out.size))
  clear D0_7
  have D5_8 := Lib.hid (D5_7.out.trans (S7.out.mono D5_7.out.size))
  clear D5_7
  have D6_8 := Lib.hid (D6_7.out.trans (S7.out.mono D6_7.out.size))
  clear D6_7
  have D7_8 := Lib.hid S7.out
  obtain ⟨w9, hw9⟩ : ∃ w', w8.alloc (.cells #[.int .i64 xk, .int .i64 xn, .string xs] 38) = w' := ⟨_, rfl⟩
  have S8 := Lib.hid (show Below w8.heap.size w8 w9 by rw [← hw9]; exact below_alloc _ _)
  have Nx := Lib.hid (show NBox w9 w8.heap.size (.int .i64 xk) (.int .i64 xn) (.string xs) by rw [← hw9]; exact NBox.fresh _ _ _ _ _)
  have Hw9 := Lib.hid hw9
  clear hw9
  go_upto_region 14 with fail
  rw [Hw9.out]
  have D0_9 := Lib.hid (D0_8.out.trans (S8.out.mono D0_8.out.size))
  clear D0_8
  have D5_9 := Lib.hid (D5_8.out.trans (S8.out.mono D5_8.out.size))
  clear D5_8
  have D6_9 := Lib.hid (D6_8.out.trans (S8.out.mono D6_8.out.size))
  clear D6_8
  have D7_9 := Lib.hid (D7_8.out.trans (S8.out.mono D7_8.out.size))
  clear D7_8
  obtain ⟨na0, na1, na2, naf⟩ := Nna.out.below D5_9.out
  obtain ⟨nb0, nb1, nb2, nbf⟩ := Nnb.out.below D6_9.out
  obtain ⟨o0, o1⟩ := FO.out _ D0_9.out
  have zo : w.heap.size + 1 + 1 < w9.heap.size := by have h1 := D0_9.out.size; omega
  go_wp2_with fail
  refine (V2.out _ _ _ _ _ (w9.alloc (.cells #[.string ⟨#[110, 111, 116]⟩, .string ⟨#[]⟩, .slice (some ⟨w4.heap.size, 0, none⟩) 1 1, .string ⟨#[110, 111, 116]⟩, .string ⟨#[]⟩, .slice (some ⟨w5.heap.size, 0, none⟩) 1 1] 24)) (BW.out _ (D0_9.out.trans ((below_alloc _ _).mono (D0_9.out).size))) (two_made (rin_up Rna.out D5_9.out) (rin_up Rnb.out D6_9.out) ⟨#[111, 114]⟩)).mono ?_
  rintro e w10 ⟨rfl, hb⟩
  have S9 := Lib.hid (show Below w9.heap.size w9 w10 from (below_alloc _ _).trans (hb.mono (by simp)))
  clear hb zo
  clear na0 na1 na2 naf nb0 nb1 nb2 nbf o0 o1
  have D0_10 := Lib.hid (D0_9.out.trans (S9.out.mono D0_9.out.size))
  clear D0_9
  have D5_10 := Lib.hid (D5_9.out.trans (S9.out.mono D5_9.out.size))
  clear D5_9
  have D6_10 := Lib.hid (D6_9.out.trans (S9.out.mono D6_9.out.size))
  clear D6_9
  have D7_10 := Lib.hid (D7_9.out.trans (S9.out.mono D7_9.out.size))
  clear D7_9
  have D9_10 := Lib.hid S9.out
  obtain ⟨w11, hw11⟩ : ∃ w', w10.alloc (.cells #[.int .i64 xk, .int .i64 xn, .string xs] 38) = w' := ⟨_, rfl⟩
  have S10 := Lib.hid (show Below w10.heap.size w10 w11 by rw [← hw11]; exact below_alloc _ _)
  have Ny := Lib.hid (show NBox w11 w10.heap.size (.int .i64 xk) (.int .i64 xn) (.string xs) by rw [← hw11]; exact NBox.fresh _ _ _ _ _)
  have Hw11 := Lib.hid hw11
  clear hw11
  go_upto_region 15 with fail
  rw [Hw11.out]
  have D0_11 := Lib.hid (D0_10.out.trans (S10.out.mono D0_10.out.size))
  clear D0_10
  have D5_11 := Lib.hid (D5_10.out.trans (S10.out.mono D5_10.out.size))
  clear D5_10
  have D6_11 := Lib.hid (D6_10.out.trans (S10.out.mono D6_10.out.size))
  clear D6_10
  have D7_11 := Lib.hid (D7_10.out.trans (S10.out.mono D7_10.out.size))
  clear D7_10
  have D9_11 := Lib.hid (D9_10.out.trans (S10.out.mono D9_10.out.size))
  clear D9_10
  obtain ⟨na0, na1, na2, naf⟩ := Nna.out.below D5_11.out
  obtain ⟨o0, o1⟩ := FO.out _ D0_11.out
  have zo : w.heap.size + 1 + 1 < w11.heap.size := by have h1 := D0_11.out.size; omega
  go_wp2_with fail
  refine (V3.out _ _ _ _ _ (w11.alloc (.cells #[.string ⟨#[110, 111, 116]⟩, .string ⟨#[]⟩, .slice (some ⟨w4.heap.size, 0, none⟩) 1 1] 24)) (BW.out _ (D0_11.out.trans ((below_alloc _ _).mono (D0_11.out).size))) (one_made (rin_up Rna.out D5_11.out) ⟨#[110, 111, 116]⟩)).mono ?_
  rintro e w12 ⟨rfl, hb⟩
  have S11 := Lib.hid (show Below w11.heap.size w11 w12 from (below_alloc _ _).trans (hb.mono (by simp)))
  clear hb zo
  clear na0 na1 na2 naf o0 o1
  have D0_12 := Lib.hid (D0_11.out.trans (S11.out.mono D0_11.out.size))
  clear D0_11
  have D5_12 := Lib.hid (D5_11.out.trans (S11.out.mono D5_11.out.size))
  clear D5_11
  have D6_12 := Lib.hid (D6_11.out.trans (S11.out.mono D6_11.out.size))
  clear D6_11
  have D7_12 := Lib.hid (D7_11.out.trans (S11.out.mono D7_11.out.size))
  clear D7_11
  have D9_12 := Lib.hid (D9_11.out.trans (S11.out.mono D9_11.out.size))
  clear D9_11
  have D11_12 := Lib.hid S11.out
  obtain ⟨w13, hw13⟩ : ∃ w', w12.alloc (.cells #[.int .i64 vk, .int .i64 vn, .string vs] 38) = w' := ⟨_, rfl⟩
  have S12 := Lib.hid (show Below w12.heap.size w12 w13 by rw [← hw13]; exact below_alloc _ _)
  have Nv := Lib.hid (show NBox w13 w12.heap.size (.int .i64 vk) (.int .i64 vn) (.string vs) by rw [← hw13]; exact NBox.fresh _ _ _ _ _)
  have Hw13 := Lib.hid hw13
  clear hw13
  go_upto_region 16 with fail
  rw [Hw13.out]
  have D0_13 := Lib.hid (D0_12.out.trans (S12.out.mono D0_12.out.size))
  clear D0_12
  have D5_13 := Lib.hid (D5_12.out.trans (S12.out.mono D5_12.out.size))
  clear D5_12
  have D6_13 := Lib.hid (D6_12.out.trans (S12.out.mono D6_12.out.size))
  clear D6_12
  have D7_13 := Lib.hid (D7_12.out.trans (S12.out.mono D7_12.out.size))
  clear D7_12
  have D9_13 := Lib.hid (D9_12.out.trans (S12.out.mono D9_12.out.size))
  clear D9_12
  have D11_13 := Lib.hid (D11_12.out.trans (S12.out.mono D11_12.out.size))
  clear D11_12
  obtain ⟨a0, a1, a2, af⟩ := Na.out.below D0_13.out
  obtain ⟨o0, o1⟩ := FO.out _ D0_13.out
  go_wp2_with fail
  refine (V4.out _ _ _ _ _ w13 (BW.out _ D0_13.out) (rin_up RA.out D0_13.out)).mono ?_
  rintro e w14 ⟨rfl, hb⟩
  have S13 := Lib.hid (show Below w13.heap.size w13 w14 from hb)
  clear hb
  clear a0 a1 a2 af o0 o1
  have D0_14 := Lib.hid (D0_13.out.trans (S13.out.mono D0_13.out.size))
  clear D0_13
  have D5_14 := Lib.hid (D5_13.out.trans (S13.out.mono D5_13.out.size))
  clear D5_13
  have D6_14 := Lib.hid (D6_13.out.trans (S13.out.mono D6_13.out.size))
  clear D6_13
  have D7_14 := Lib.hid (D7_13.out.trans (S13.out.mono D7_13.out.size))
  clear D7_13
  have D9_14 := Lib.hid (D9_13.out.trans (S13.out.mono D9_13.out.size))
  clear D9_13
  have D11_14 := Lib.hid (D11_13.out.trans (S13.out.mono D11_13.out.size))
  clear D11_13
  have D13_14 := Lib.hid S13.out
  obtain ⟨w15, hw15⟩ : ∃ w', w14.alloc (.cells #[.int .i64 vk, .int .i64 vn, .string vs] 38) = w' := ⟨_, rfl⟩
  have S14 := Lib.hid (show Below w14.heap.size w14 w15 by rw [← hw15]; exact below_alloc _ _)
  have Nz := Lib.hid (show NBox w15 w14.heap.size (.int .i64 vk) (.int .i64 vn) (.string vs) by rw [← hw15]; exact NBox.fresh _ _ _ _ _)
  have Hw15 := Lib.hid hw15
  clear hw15
  go_upto_region 17 with fail
  rw [Hw15.out]
  have D0_15 := Lib.hid (D0_14.out.trans (S14.out.mono D0_14.out.size))
  clear D0_14
  have D5_15 := Lib.hid (D5_14.out.trans (S14.out.mono D5_14.out.size))
  clear D5_14
  have D6_15 := Lib.hid (D6_14.out.trans (S14.out.mono D6_14.out.size))
  clear D6_14
  have D7_15 := Lib.hid (D7_14.out.trans (S14.out.mono D7_14.out.size))
  clear D7_14
  have D9_15 := Lib.hid (D9_14.out.trans (S14.out.mono D9_14.out.size))
  clear D9_14
  have D11_15 := Lib.hid (D11_14.out.trans (S14.out.mono D11_14.out.size))
  clear D11_14
  have D13_15 := Lib.hid (D13_14.out.trans (S14.out.mono D13_14.out.size))
  clear D13_14
  obtain ⟨a0, a1, a2, af⟩ := Na.out.below D0_15.out
  obtain ⟨w16, hw16⟩ : ∃ w', (w15.alloc (.cells #[.string op, .string tx, .slice X n k] 24)).alloc (.cells #[.string ⟨#[105, 115, 32, 110, 117, 108, 108]⟩, .string ⟨#[]⟩, .slice (some ⟨w15.heap.size, 0, none⟩) 1 1] 24) = w' := ⟨_, rfl⟩
  have S15 := Lib.hid (show Below w15.heap.size w15 w16 by rw [← hw16]; exact (below_alloc _ _).alloc (by simp) _)
  have Ria := Lib.hid (show RIn w16 (fun g => g < w16.heap.size) (isN t) (⟨#[105, 115, 32, 110, 117, 108, 108]⟩, ⟨#[]⟩, (some ⟨w15.heap.size, 0, none⟩), 1, 1) by rw [← hw16]; exact rin_up (one_made (rin_up RA.out D0_15.out) ⟨#[105, 115, 32, 110, 117, 108, 108]⟩) (below_alloc _ _))
  have Nia := Lib.hid (show NBox w16 (w15.heap.size + 1) (.string ⟨#[105, 115, 32, 110, 117, 108, 108]⟩) (.string ⟨#[]⟩) (.slice (some ⟨w15.heap.size, 0, none⟩) 1 1) by rw [← hw16]; have q := NBox.fresh (w15.alloc (.cells #[.string op, .string tx, .slice X n k] 24)) (.string ⟨#[105, 115, 32, 110, 117, 108, 108]⟩) (.string ⟨#[]⟩) (.slice (some ⟨w15.heap.size, 0, none⟩) 1 1) 24; simpa using q)
  have Hw16 := Lib.hid hw16
  clear hw16
  go_upto_region 18 with fail
  rw [Hw16.out]
  clear a0 a1 a2 af
  have D0_16 := Lib.hid (D0_15.out.trans (S15.out.mono D0_15.out.size))
  clear D0_15
  have D5_16 := Lib.hid (D5_15.out.trans (S15.out.mono D5_15.out.size))
  clear D5_15
  have D6_16 := Lib.hid (D6_15.out.trans (S15.out.mono D6_15.out.size))
  clear D6_15
  have D7_16 := Lib.hid (D7_15.out.trans (S15.out.mono D7_15.out.size))
  clear D7_15
  have D9_16 := Lib.hid (D9_15.out.trans (S15.out.mono D9_15.out.size))
  clear D9_15
  have D11_16 := Lib.hid (D11_15.out.trans (S15.out.mono D11_15.out.size))
  clear D11_15
  have D13_16 := Lib.hid (D13_15.out.trans (S15.out.mono D13_15.out.size))
  clear D13_15
  have D15_16 := Lib.hid S15.out
  obtain ⟨ia0, ia1, ia2, iaf⟩ := Nia.out.below (Below.refl w16.heap.size w16)
  obtain ⟨o0, o1⟩ := FO.out _ D0_16.out
  have zo : w.heap.size + 1 + 1 < w16.heap.size := by have h1 := D0_16.out.size; omega
  go_wp2_with fail
  refine (H5.out _ _ _ _ _ (w16.alloc (.cells #[.string ⟨#[105, 115, 32, 110, 117, 108, 108]⟩, .string ⟨#[]⟩, .slice (some ⟨w15.heap.size, 0, none⟩) 1 1] 24)) (BW.out _ (D0_16.out.trans ((below_alloc _ _).mono (D0_16.out).size))) (one_made (rin_up Ria.out (Below.refl w16.heap.size w16)) ⟨#[105, 115, 32, 110, 117, 108, 108]⟩)).mono ?_
  rintro e w17 ⟨rfl, hb⟩
  have S16 := Lib.hid (show Below w16.heap.size w16 w17 from (below_alloc _ _).trans (hb.mono (by simp)))
  clear hb zo
  clear ia0 ia1 ia2 iaf o0 o1
  have D0_17 := Lib.hid (D0_16.out.trans (S16.out.mono D0_16.out.size))
  clear D0_16
  have D5_17 := Lib.hid (D5_16.out.trans (S16.out.mono D5_16.out.size))
  clear D5_16
  have D6_17 := Lib.hid (D6_16.out.trans (S16.out.mono D6_16.out.size))
  clear D6_16
  have D7_17 := Lib.hid (D7_16.out.trans (S16.out.mono D7_16.out.size))
  clear D7_16
  have D9_17 := Lib.hid (D9_16.out.trans (S16.out.mono D9_16.out.size))
  clear D9_16
  have D11_17 := Lib.hid (D11_16.out.trans (S16.out.mono D11_16.out.size))
  clear D11_16
  have D13_17 := Lib.hid (D13_16.out.trans (S16.out.mono D13_16.out.size))
  clear D13_16
  have D15_17 := Lib.hid (D15_16.out.trans (S16.out.mono D15_16.out.size))
  clear D15_16
  have D16_17 := Lib.hid S16.out
  go_wp2_with fail
  refine (HA.out _ (BW.out _ D0_17.out)).mono ?_
  rintro e w18 ⟨rfl, hb⟩
  have S17 := Lib.hid hb
  clear hb
  have D0_18 := Lib.hid (D0_17.out.trans (S17.out.mono D0_17.out.size))
  clear D0_17
  have D5_18 := Lib.hid (D5_17.out.trans (S17.out.mono D5_17.out.size))
  clear D5_17
  have D6_18 := Lib.hid (D6_17.out.trans (S17.out.mono D6_17.out.size))
  clear D6_17
  have D7_18 := Lib.hid (D7_17.out.trans (S17.out.mono D7_17.out.size))
  clear D7_17
  have D9_18 := Lib.hid (D9_17.out.trans (S17.out.mono D9_17.out.size))
  clear D9_17
  have D11_18 := Lib.hid (D11_17.out.trans (S17.out.mono D11_17.out.size))
  clear D11_17
  have D13_18 := Lib.hid (D13_17.out.trans (S17.out.mono D13_17.out.size))
  clear D13_17
  have D15_18 := Lib.hid (D15_17.out.trans (S17.out.mono D15_17.out.size))
  clear D15_17
  have D16_18 := Lib.hid (D16_17.out.trans (S17.out.mono D16_17.out.size))
  clear D16_17
  obtain ⟨x0, x1, x2, xf⟩ := Nx.out.below D9_18.out
  obtain ⟨y0, y1, y2, yf⟩ := Ny.out.below D11_18.out
  obtain ⟨v0, v1, v2, vf⟩ := Nv.out.below D13_18.out
  obtain ⟨z0, z1, z2, zf⟩ := Nz.out.below D15_18.out
  go_wp2
  go_ret
  exact ⟨by simp, BW.out _ D0_18.out⟩
theorem walk (t : Nod) (op tx : ByteArray) (X : Option Addr) (n k : Nat) (u : Nod) (op2 tx2 : ByteArray) (X2 : Option Addr) (n2 k2 : Nat) (A : Option Addr) (ca : Nat) (l : List W) (B : Option Addr) (cb : Nat) (r : List CV) (w : World)
    (ra : RIn w (fun g => g < w.heap.size) t (op, tx, X, n, k)) (rb : RIn w (fun g => g < w.heap.size) u (op2, tx2, X2, n2, k2)) (hc : At wc 3 w w.heap.size A l ∧ (∀ x ∈ l, x.2.1.length ≤ 140737488355328) ∧ l.length ≤ 4398046511104 ∧ l.length ≤ ca) (hr : RowIn w B r) :
    Calls Try.prog 4 #[.agg #[.string op, .string tx, .slice X n k], .agg #[.string op2, .string tx2, .slice X2 n2 k2], .agg #[.slice A l.length ca, .slice B r.length cb]] w fun e w' => e = .returned (.bool true) ∧ Below w.heap.size w w' := by
  refine walk_of t u op tx X n k op2 tx2 X2 n2 k2 A ca l B cb r w ra rb hc.1 hc.2.2.1 hr (fun w0 hb => alive13 w0) (fun hp hq t op tx X n k w0 hb hn => ?_) (fun hp hq t op tx X n k w0 hb hn => ?_)
  · exact cholds_any A ca l (by have := small_le hp; omega) B cb r (by have := hr.2.2.2; omega) hr.2.1 t (fun g => g < w0.heap.size) op tx X n k w0 (fun g h => h) hn ((hc.1.below hb).more hb.size) ((hr.1.below hb).more hb.size)
  · exact cvalue_any A ca l (by have := small_le hp; omega) B cb r (by have := hr.2.2.2; omega) hr.2.1 t (fun g => g < w0.heap.size) op tx X n k w0 (fun g h => h) hn ((hc.1.below hb).more hb.size) ((hr.1.below hb).more hb.size)
end Go.Proofs.Ytkibacolnagkcaa.calcLogic
