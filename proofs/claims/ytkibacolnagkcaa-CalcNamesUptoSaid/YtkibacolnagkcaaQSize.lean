/-
  The law's Size of a node that came in: how much there is in it, as long as that is little.
-/
import Derived.Test.YtkibacolnagkcaaM16
import Derived.Test.YtkibacolnagkcaaTot
namespace Go.Proofs.Ytkibacolnagkcaa.Code
open Go.ChangeShapes Go.WideShapes Go.ChangeAt Go.RowKit Val Elems
set_option linter.unusedVariables false
set_option linter.unusedSimpArgs false
theorem totL_app (x : Nod) : ∀ l : List Nod, Nod.totL (l ++ [x]) = Nod.totL l + x.tot
  | [] => by simp [Nod.totL]
  | t :: l => by rw [List.cons_append, Nod.totL, Nod.totL, totL_app x l]; omega
theorem totL_step (l : List Nod) (k : Nat) (h : k < l.length) : Nod.totL (l.take (k + 1)) = Nod.totL (l.take k) + l[k].tot := by
  rw [List.take_succ_eq_append_getElem h, totL_app]
theorem totL_le : ∀ (l : List Nod) (k : Nat), Nod.totL (l.take k) ≤ Nod.totL l
  | [], k => by simp
  | t :: l, 0 => Nat.zero_le _
  | t :: l, k + 1 => by
    have := totL_le l k
    rw [List.take_succ_cons, Nod.totL, Nod.totL]
    omega
set_option maxHeartbeats 8000000 in
set_option maxRecDepth 100000 in
theorem size_any : ∀ (d : Nat) (t : Nod), t.deep ≤ d → t.tot ≤ 1048576 → ∀ (S : Nat → Prop) (op tx : ByteArray) (X : Option Addr) (n m : Nat) (w : World), (∀ g, S g → g < w.heap.size) → RIn w S t (op, tx, X, n, m) →
    Calls Try.prog 8 #[.agg #[.string op, .string tx, .slice X n m]] w fun e w' => ∃ K : Nat, e = .returned (.int .i64 (K : Int)) ∧ K ≤ t.tot ∧ (K ≤ 1600 → K = t.tot) ∧ Below w.heap.size w w'
  | 0, t, h, _, _, _, _, _, _, _, _, _, _ => absurd h (by rw [deep_ks]; omega)
  | d + 1, t, h, htot, S, op, tx, X, n, m, w, hS, hn => by
    have hks : t.tot = 1 + t.op.length + t.tx.length + Nod.totL t.ks := by cases t; rfl
    have ih := Lib.hid (fun k (hk : k < t.ks.length) => size_any d t.ks[k] (by have := deepL_mem (List.getElem_mem hk); rw [deep_ks] at h; omega) (by have := tot_mem (List.getElem_mem hk); omega))
    obtain ⟨eo, et, en, hkl⟩ := hn.texts
    dsimp only at eo et en
    have so : op.size = t.op.length := by rw [eo]; rfl
    have st : tx.size = t.tx.length := by rw [et]; rfl
    have HS := Lib.hid hS
    subst en
    have HN := Lib.hid hn
    obtain ⟨B0, hB0⟩ : ∃ B0 : Nat, 1 + op.size + tx.size = B0 := ⟨_, rfl⟩
    have htt : t.tot = B0 + Nod.totL t.ks := by omega
    have k1 : IntKind.i64.wrap (1 + (op.size : Int)) = 1 + (op.size : Int) := by rw [IntKind.wrap_i64]; omega
    have k2 : IntKind.i64.wrap (1 + (op.size : Int) + (tx.size : Int)) = (B0 : Int) := by rw [IntKind.wrap_i64]; omega
    have HTT := Lib.hid htt
    have HTO := Lib.hid htot
    clear h hS hn eo et so st hks hB0 htt htot
    go_enter Try.func8, Try.ntmps8
    go_wp2
    go_loopw [3, 4] (fun v t' wr => ∃ k K : Nat, k ≤ t.ks.length ∧ t' = .int .i64 (k : Int) ∧ v = .int .i64 (K : Int) ∧ K ≤ B0 + Nod.totL (t.ks.take k) ∧ (K ≤ 1600 → K = B0 + Nod.totL (t.ks.take k)) ∧ Below w.heap.size w wr ∧ NBox wr w.heap.size (.string op) (.string tx) (.slice X t.ks.length m)) (fun _ t' _ => t.ks.length - (intOf t').toNat)
    case atStart => exact ⟨0, B0, by omega, rfl, rfl, by simp [Nod.totL], by simp [Nod.totL], (Below.refl _ _).alloc (Nat.le_refl _) _, NBox.fresh _ _ _ _ _⟩
    case round =>
      obtain ⟨k, K, hk, rfl, rfl, hK, hK2, hb, hv⟩ := hrel
      have HB := Lib.hid hb
      have HV := Lib.hid hv
      have hz := hb.size
      have hvl := hv.lt
      have HK := Lib.hid (HN.out.bel HS.out hb)
      have HKK := Lib.hid hK
      have HK2 := Lib.hid hK2
      have hKb : K ≤ 1048576 := by have := totL_le t.ks k; have := HTT.out; have := HTO.out; omega
      obtain ⟨x0, x1, x2, xf⟩ := hv
      clear hb hK hK2
      by_cases hlt : k < t.ks.length
      · by_cases hbig : K ≤ 1600
        · obtain ⟨ad, ⟨op', tx', X', n', m'⟩, eA, hS', q0, q1, q2, hk'⟩ := HK.out.kid k hlt
          dsimp only at eA q0 q1 q2
          subst eA
          have hKK := Lib.hid hk'
          have had := HS.out _ hS'
          have HDT := Lib.hid (totL_step t.ks k hlt)
          have HDM := Lib.hid (tot_mem (List.getElem_mem hlt))
          have hbg : decide ((K : Int) ≤ 1600) = true := by simp; omega
          clear hk'
          go_wp2_with fail
          refine (ih.out k hlt S op' tx' X' n' m' _ (fun g hg => Nat.lt_of_lt_of_le (HS.out g hg) hz) hKK.out).mono ?_
          rintro e w1 ⟨K1, rfl, hK1, hK12, hb1⟩
          have hK1b : K1 ≤ 1048576 := by have := HDM.out; have := HTT.out; have := HTO.out; omega
          have HB1 := Lib.hid (HB.out.trans (hb1.mono hz))
          have HV1 := Lib.hid (HV.out.below hb1)
          have k3 : IntKind.i64.wrap ((K : Int) + (K1 : Int)) = ((K + K1 : Nat) : Int) := by rw [IntKind.wrap_i64]; omega
          have HK1 := Lib.hid hK1
          have HK12 := Lib.hid hK12
          clear hb1 q0 q1 q2 x0 x1 x2 xf hK1 hK12
          go_wp2
          go_roundw
          case rel => exact ⟨k + 1, K + K1, by omega, by go_num, by first | rfl | simp, by have := HDT.out; have := HK1.out; have := HKK.out; omega, fun h9 => by have := HDT.out; have := HK12.out (by omega); have := HK2.out (by omega); omega, HB1.out, HV1.out⟩
          case measure => simp [intOf]; omega
        · have hbg : decide ((K : Int) ≤ 1600) = false := by simp; omega
          go_wp2
          go_ret
          exact ⟨K, rfl, by have := HKK.out; have := totL_le t.ks k; have := HTT.out; omega, fun h9 => absurd h9 hbig, HB.out⟩
      · obtain rfl : k = t.ks.length := by omega
        have hKK := HKK.out
        have hK2 := HK2.out
        rw [List.take_length] at hKK hK2
        have HK3 := Lib.hid hKK
        have HK4 := Lib.hid hK2
        clear hKK hK2
        go_wp2
        go_ret
        exact ⟨K, rfl, by have := HK3.out; have := HTT.out; omega, fun h9 => by have := HK4.out h9; have := HTT.out; omega, HB.out⟩
end Go.Proofs.Ytkibacolnagkcaa.Code

