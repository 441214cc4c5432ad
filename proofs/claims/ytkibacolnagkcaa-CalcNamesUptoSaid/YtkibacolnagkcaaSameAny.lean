/-
  The program's Same of any two nodes: where it tells so, they are one.
-/
import Derived.Test.YtkibacolnagkcaaM16
import Derived.Deep.DeepCutAuto
namespace Go.Proofs.Ytkibacolnagkcaa.Code
open Go.ChangeShapes Go.WideShapes Go.ChangeAt Go.RowKit Val Elems
set_option linter.unusedVariables false
set_option linter.unusedSimpArgs false
def SameQ (w : World) (x y : Nod) (e : Ending) (w' : World) : Prop := ∃ b : Bool, e = .returned (.bool b) ∧ (b = true → x = y) ∧ Below w.heap.size w w'
def SaysQ (x y : Nod) : Prop := ∀ (S : Nat → Prop) (op tx : ByteArray) (X : Option Addr) (n m : Nat) (op' tx' : ByteArray) (X' : Option Addr) (n' m' : Nat) (w : World), (∀ g, S g → g < w.heap.size) → RIn w S x (op, tx, X, n, m) → RIn w S y (op', tx', X', n', m') →
    Calls Try.prog 15 #[.agg #[.string op, .string tx, .slice X n m], .agg #[.string op', .string tx', .slice X' n' m']] w (SameQ w x y)
def EqQ (w : World) (ks ls : List Nod) (e : Ending) (w' : World) : Prop := ∃ b : Bool, e = .returned (.bool b) ∧ (b = true → ks = ls) ∧ Below w.heap.size w w'
set_option maxHeartbeats 16000000 in
set_option maxRecDepth 100000 in
theorem eequal_any (x y : Nod) (ih : ∀ k (hk : k < x.ks.length) (z : Nod), SaysQ x.ks[k] z) (S : Nat → Prop) (op tx : ByteArray) (X : Option Addr) (n m : Nat) (op' tx' : ByteArray) (X' : Option Addr) (n' m' : Nat) (w : World) (hS : ∀ g, S g → g < w.heap.size) (hx : RIn w S x (op, tx, X, n, m)) (hy : RIn w S y (op', tx', X', n', m')) :
    Calls Try.prog 24 #[.slice X n m, .slice X' n' m', .func (.func 15) #[] #[]] w (EqQ w x.ks y.ks) := by
  obtain ⟨-, -, a3, hkx⟩ := hx.texts
  obtain ⟨-, -, b3, hky⟩ := hy.texts
  dsimp only at a3 b3
  have HS := Lib.hid hS
  have HX := Lib.hid hx
  have HY := Lib.hid hy
  have IH := Lib.hid ih
  have B0 := Lib.hid (Below.refl w.heap.size w)
  have HNE := Lib.hid (show n ≠ n' → x.ks ≠ y.ks from fun h e => h (by rw [a3, b3, e]))
  have HA3 := Lib.hid a3
  have HB3 := Lib.hid b3
  rw [← a3] at hkx
  clear hS hx hy ih hky
  by_cases hnn : n = n'
  case neg =>
    have e1 : ((n : Int) == (n' : Int)) = false := by simpa using fun h => hnn (by omega)
    have e2 : ((n : Int) != (n' : Int)) = true := by simpa using fun h => hnn (by omega)
    clear hnn a3 b3
    go_enter Try.func24, Try.ntmps24
    go_wp2
    go_ret
    exact ⟨false, rfl, fun h => absurd h (by decide), B0.out⟩
  subst hnn
  clear a3 b3
  go_enter Try.func24, Try.ntmps24
  go_wp2
  go_loopw [17] (fun t wr => ∃ k : Nat, k ≤ n ∧ t = .int .i64 k ∧ (∀ (j : Nat) (h : j < x.ks.length) (h' : j < y.ks.length), j < k → x.ks[j] = y.ks[j]) ∧ Below w.heap.size w wr) (fun t _ => n - (intOf t).toNat)
  case atStart => exact ⟨0, by omega, rfl, fun j _ _ h => absurd h (Nat.not_lt_zero _), Below.refl _ _⟩
  case round =>
    obtain ⟨k, hk, rfl, hyes, hb⟩ := hrel
    have HB := Lib.hid hb
    have HYES := Lib.hid hyes
    have hz := hb.size
    have KX := Lib.hid (HX.out.bel HS.out hb)
    have KY := Lib.hid (HY.out.bel HS.out hb)
    clear hb hyes
    by_cases hlt : k < n
    · have hkx2 : k < x.ks.length := by have := HA3.out; omega
      have hky2 : k < y.ks.length := by have := HB3.out; omega
      obtain ⟨ad, ⟨op1, tx1, X1, n1, m1⟩, eA, hS1, p0, p1, p2, hk1⟩ := KX.out.kid k hkx2
      dsimp only at eA p0 p1 p2
      subst eA
      obtain ⟨bd, ⟨op2, tx2, X2, n2, m2⟩, eA, hS2, q0, q1, q2, hk2⟩ := KY.out.kid k hky2
      dsimp only at eA q0 q1 q2
      subst eA
      have za0 : ad.block < wr.heap.size := by have := HS.out _ hS1; omega
      have zb0 : bd.block < wr.heap.size := by have := HS.out _ hS2; omega
      have za : (ad.add (k * 3)).block < wr.heap.size := by rw [add_block]; exact za0
      have zb : (bd.add (k * 3)).block < wr.heap.size := by rw [add_block]; exact zb0
      have hc := fun w' (h : Below wr.heap.size wr w') => IH.out k hkx2 y.ks[k] S op1 tx1 X1 n1 m1 op2 tx2 X2 n2 m2 w' (fun g hg => by have := HS.out g hg; have := h.size; omega) (hk1.bel (fun g hg => by have := HS.out g hg; omega) h) (hk2.bel (fun g hg => by have := HS.out g hg; omega) h)
      unfold SameQ at hc
      have HC := Lib.hid hc
      have HY2 := Lib.hid (fun (h : x.ks[k] = y.ks[k]) => show ∀ (j : Nat) (h : j < x.ks.length) (h' : j < y.ks.length), j < k + 1 → x.ks[j] = y.ks[j] from fun j h1 h2 h3 => if e : j = k then by subst e; exact h else HYES.out j h1 h2 (by omega))
      have HN2 := Lib.hid (fun (h : ¬ x.ks[k] = y.ks[k]) => show x.ks ≠ y.ks from fun e => h (by simp only [e]))
      clear hc hk1 hk2 hS1 hS2
      have L2 := Lib.hid (((Below.refl wr.heap.size wr).alloc (Nat.le_refl _) (.cells #[.string op1, .string tx1, .slice X1 n1 m1] 24)).alloc (by simp) (.cells #[.string op2, .string tx2, .slice X2 n2 m2] 24))
      go_wp2_with fail
      refine (HC.out _ L2.out).mono ?_
      rintro e w5 ⟨b, rfl, hbe, hb5⟩
      have M := Lib.hid (bnext L2.out L2.out.size hb5)
      have HBE := Lib.hid hbe
      clear hb5 p0 p1 p2 q0 q1 q2 hbe
      cases b
      · go_wp2
        go_ret
        exact ⟨false, rfl, fun h => absurd h (by decide), bnext HB.out hz M.out⟩
      · have HY3 := Lib.hid (HY2.out (HBE.out (by first | exact rfl | exact trivial)))
        clear HY2 HN2 HBE
        go_wp2
        go_roundw
        case rel => exact ⟨k + 1, by omega, by go_num, HY3.out, bnext HB.out hz M.out⟩
        case measure => simp [intOf]; omega
    · obtain rfl : k = n := by omega
      have HEQ := Lib.hid (show x.ks = y.ks from List.ext_getElem (by have h1 := HA3.out; have h2 := HB3.out; omega) (fun j h1 h2 => HYES.out j h1 h2 (by have := HA3.out; omega)))
      go_wp2
      go_ret
      exact ⟨true, rfl, fun _ => HEQ.out, HB.out⟩
set_option maxHeartbeats 16000000 in
set_option maxRecDepth 100000 in
theorem esameQ_any : ∀ (d : Nat) (x : Nod), x.deep ≤ d → ∀ y, SaysQ x y
  | 0, x, h, _ => absurd h (by rw [deep_ks]; omega)
  | d + 1, x, h, y => by
    intro S op tx X n m op' tx' X' n' m' w hS hx hy
    have ih := fun k (hk : k < x.ks.length) (z : Nod) => esameQ_any d x.ks[k] (by have := deepL_mem (List.getElem_mem hk); rw [deep_ks] at h; omega) z
    obtain ⟨a1, a2, a3, a4⟩ := hx.texts
    obtain ⟨b1, b2, b3, b4⟩ := hy.texts
    dsimp only at a1 a2 a3 b1 b2 b3
    have HE := Lib.hid (fun w' (hb : Below w.heap.size w w') => eequal_any x y ih S op tx X n m op' tx' X' n' m' w' (fun g hg => Nat.lt_of_lt_of_le (hS g hg) hb.size) (hx.bel hS hb) (hy.bel hS hb))
    have HF := Lib.hid (show op = op' → tx = tx' → x.ks = y.ks → x = y from fun h1 h2 h3 => by
      cases x with
      | mk o t ks => cases y with
        | mk o' t' ks' =>
          have e1 : o = o' := by
            have := a1.symm.trans (h1.trans b1)
            have := congrArg (fun b : ByteArray => b.data.toList) this
            simpa [Nod.op, Nod.tx] using this
          have e2 : t = t' := by
            have := a2.symm.trans (h2.trans b2)
            have := congrArg (fun b : ByteArray => b.data.toList) this
            simpa [Nod.op, Nod.tx] using this
          have e3 : ks = ks' := h3
          subst e1 e2 e3
          rfl)
    unfold EqQ at HE
    obtain ⟨w0, hw0⟩ : ∃ w0, (w.alloc (.cells #[.string op, .string tx, .slice X n m] 24)).alloc (.cells #[.string op', .string tx', .slice X' n' m'] 24) = w0 := ⟨_, rfl⟩
    have B0 := Lib.hid (show Below w.heap.size w w0 by rw [← hw0]; exact ((Below.refl _ _).alloc (Nat.le_refl _) _).alloc (by simp) _)
    have N0 := Lib.hid (show NBox w0 w.heap.size (.string op) (.string tx) (.slice X n m) by rw [← hw0]; exact (NBox.fresh _ _ _ _ _).alloc _)
    have N1 := Lib.hid (show NBox w0 (w.heap.size + 1) (.string op') (.string tx') (.slice X' n' m') by
      rw [← hw0, show w.heap.size + 1 = (w.alloc (.cells #[.string op, .string tx, .slice X n m] 24)).heap.size by simp]; exact NBox.fresh _ _ _ _ _)
    have HW0 := Lib.hid hw0
    clear h hS hx hy ih a1 a2 a3 a4 b1 b2 b3 b4 hw0
    by_cases h1 : op = op'
    case neg =>
      have f1 : (op.toList == op'.toList) = false := toList_ne h1
      obtain ⟨x0, x1, x2, xf⟩ := N0.out
      obtain ⟨y0, y1, y2, yf⟩ := N1.out
      clear h1
      go_enter Try.func15, Try.ntmps15
      go_upto_region 1 with fail
      rw [HW0.out]
      go_wp2
      go_ret
      exact ⟨false, rfl, fun h => absurd h (by decide), B0.out⟩
    subst h1
    by_cases h2 : tx = tx'
    case neg =>
      have f1 : (tx.toList == tx'.toList) = false := toList_ne h2
      obtain ⟨x0, x1, x2, xf⟩ := N0.out
      obtain ⟨y0, y1, y2, yf⟩ := N1.out
      clear h2
      go_enter Try.func15, Try.ntmps15
      go_upto_region 1 with fail
      rw [HW0.out]
      go_wp2
      go_ret
      exact ⟨false, rfl, fun h => absurd h (by decide), B0.out⟩
    subst h2
    have HF2 := Lib.hid (HF.out rfl rfl)
    obtain ⟨x0, x1, x2, xf⟩ := N0.out
    obtain ⟨y0, y1, y2, yf⟩ := N1.out
    clear HF
    go_enter Try.func15, Try.ntmps15
    go_upto_region 1 with fail
    rw [HW0.out]
    go_wp2_with fail
    refine (HE.out _ B0.out).mono ?_
    rintro e w5 ⟨b, rfl, hbe, hb5⟩
    have HBE := Lib.hid hbe
    have M := Lib.hid (bnext B0.out B0.out.size hb5)
    clear hb5 x0 x1 x2 xf y0 y1 y2 yf hbe
    go_wp2
    go_ret
    exact ⟨b, by simp, fun h => HF2.out (HBE.out h), M.out⟩
end Go.Proofs.Ytkibacolnagkcaa.Code
