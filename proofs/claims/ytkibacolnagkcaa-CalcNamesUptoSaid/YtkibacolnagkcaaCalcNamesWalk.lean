/-
  The walk of CalcNames.
-/
import Derived.Test.YtkibacolnagkcaaM36
import Derived.Test.YtkibacolnagkcaaCalcRen
import Derived.Test.YtkibacolnagkcaaSameAny
import Derived.Test.YtkibacolnagkcaaM16
import Derived.Test.YtkibacolnagkcaaM13
import Derived.Test.YtkibacolnagkcaaM17
import Derived.Deep.DeepCutAuto
namespace Go.Proofs.Ytkibacolnagkcaa.calcNames
open Go.ChangeShapes Go.WideShapes Go.ChangeAt Go.RowKit Val Elems Go.Proofs.Ytkibacolnagkcaa.Code Go.Proofs.Ytkibacolnagkcaa.RowOpen
set_option linter.unusedVariables false
set_option linter.unusedSimpArgs false
theorem small_le {l : List W} (h : smallC l = true) : l.length ≤ 20 := by
  unfold smallC at h
  simp at h
  omega
theorem take_rev {α : Type} (l : List α) (k i : Nat) (hk : k + 1 + i = l.length) : l.reverse.take (k + 1) = l.reverse.take k ++ [l[i]'(by omega)] := by
  rw [List.take_succ_eq_append_getElem (show k < l.reverse.length by rw [List.length_reverse]; omega)]
  congr 2
  rw [List.getElem_reverse]
  congr 1
  omega
theorem flat_snoc3 (l : List CV) (v : CV) : flat (l ++ [v]) = flat l ++ [.int .i64 v.1, .int .i64 v.2.1, .string v.2.2] := by
  rw [flat_append]
  rfl
/-- two rows of the call's own, apart -/
structure Two9 (B : Nat) (tv uv : Value) (k : Nat) (lt : List W) (lu : List CV) (w : World) : Prop where
  t : w.ownsRow B 48 3 tv k (flatC wc lt)
  u : w.ownsRow B 38 3 uv k (flat lu)
  d : ∀ g, tv.ownBlock = some g → uv.ownBlock ≠ some g
theorem Two9.below {B : Nat} {tv uv : Value} {k : Nat} {lt : List W} {lu : List CV} {w w' : World} (h : Two9 B tv uv k lt lu w) (hb : Below w.heap.size w w') : Two9 B tv uv k lt lu w' :=
  ⟨own_call h.t hb, own_call h.u hb, h.d⟩
set_option maxHeartbeats 16000000 in
set_option maxRecDepth 100000 in
theorem walk (t : Nod) (op tx : ByteArray) (X : Option Addr) (n k : Nat) (A : Option Addr) (ca : Nat) (l : List W) (B : Option Addr) (cb : Nat) (r : List CV) (w : World) (hn : RIn w (fun g => g < w.heap.size) t (op, tx, X, n, k)) (htot : t.tot ≤ 1048576)
    (ha : At wc 3 w w.heap.size A l) (hla : l.length ≤ 1048576) (hnm : ∀ c ∈ l, c.2.1.length ≤ 1048576) (hr : RowIn w B r) :
    Calls Try.prog 5 #[.agg #[.string op, .string tx, .slice X n k], .slice A l.length ca, .slice B r.length cb] w fun e w' => e = .returned (.bool true) ∧ Below w.heap.size w w' := by
  have HA := Lib.hid (fun w' => alive13 w')
  have HN := Lib.hid hn
  have HAT := Lib.hid (fun (w' : World) (hb : Below w.heap.size w w') => (ha.below hb).more hb.size)
  have HR := Lib.hid (fun (w' : World) (hb : Below w.heap.size w w') => (hr.1.below hb).more hb.size)
  have HFI := Lib.hid hr.2.1
  have HRL := Lib.hid hr.2.2.2
  have HSZ := Lib.hid (fun (w' : World) (hb : Below w.heap.size w w') => sizeF_any t.deep t (Nat.le_refl _) (fun g => g < w.heap.size) op tx X n k w' (fun g h => Nat.lt_of_lt_of_le h hb.size) (hn.bel (fun g h => h) hb))
  have HP := Lib.hid (fun (w' : World) (hb : Below w.heap.size w w') => smallc_any A ca l w' (HAT.out w' hb) (by unfold maxLen; omega))
  have HQ := Lib.hid (fun (w' : World) (hb : Below w.heap.size w w') => small_any B cb r w' (HR.out w' hb) hr.2.2.1 (by have := hr.2.2.2; omega))
  have HRT := Lib.hid (fun (w' : World) (hb : Below w.heap.size w w') => rright12_any A ca l w' (HAT.out w' hb) (by omega) (fun c hc => by have := hnm c hc; omega))
  obtain ⟨p, hp⟩ : ∃ p, smallC l = p := ⟨_, rfl⟩
  obtain ⟨q, hq⟩ : ∃ q, smallB r = q := ⟨_, rfl⟩
  obtain ⟨rt, hrt⟩ : ∃ rt, schC l = rt := ⟨_, rfl⟩
  rw [hp] at HP
  rw [hq] at HQ
  rw [hrt] at HRT
  have HPP := Lib.hid hp
  have HTT := Lib.hid hrt
  have HTO := Lib.hid htot
  obtain ⟨N, hN⟩ : ∃ N, l.length = N := ⟨_, rfl⟩
  obtain ⟨M, hM⟩ : ∃ M, r.length = M := ⟨_, rfl⟩
  rw [hN] at HP HRT
  rw [hM] at HQ
  rw [hN, hM]
  have HNN := Lib.hid hN
  have HMM := Lib.hid hM
  obtain ⟨w0, hw0⟩ : ∃ w0, w.alloc (.cells #[.string op, .string tx, .slice X n k] 24) = w0 := ⟨_, rfl⟩
  have B0 := Lib.hid (show Below w.heap.size w w0 by rw [← hw0]; exact below_alloc w _)
  have N0 := Lib.hid (show NBox w0 w.heap.size (.string op) (.string tx) (.slice X n k) by rw [← hw0]; exact NBox.fresh _ _ _ _ _)
  have HW0 := Lib.hid hw0
  clear hn ha hr hp hq hrt htot hla hnm hN hM hw0
  go_enter Try.func5, Try.ntmps5
  go_upto_region 1 with fail
  rw [HW0.out]
  go_wp2_with fail
  refine (HP.out w0 B0.out).mono ?_
  rintro e w1 ⟨rfl, hb⟩
  have B1 := Lib.hid (B0.out.trans (hb.mono B0.out.size))
  have N1 := Lib.hid (N0.out.below hb)
  clear hb
  go_wp2_with fail
  refine (HQ.out w1 B1.out).mono ?_
  rintro e w1' ⟨rfl, rfl⟩
  go_wp2_with fail
  refine (HRT.out w1 B1.out).mono ?_
  rintro e w2 ⟨rfl, hb⟩
  have B2 := Lib.hid (B1.out.trans (hb.mono B1.out.size))
  have N2 := Lib.hid (N1.out.below hb)
  have z2 : w.heap.size < w2.heap.size := N2.out.lt
  clear hb HP HQ HRT
  by_cases hbad : p = false ∨ (p = true ∧ q = false) ∨ (p = true ∧ q = true ∧ rt = false) ∨ (p = true ∧ q = true ∧ rt = true ∧ N ≠ M)
  · rcases hbad with rfl | ⟨rfl, rfl⟩ | ⟨rfl, rfl, rfl⟩ | ⟨rfl, rfl, rfl, hNM⟩
    case inr.inr.inr =>
      have e1 : ((N : Int) != (M : Int)) = true := by simpa using fun h => hNM (by omega)
      clear hNM
      go_wp2_with fail
      refine (HA.out w2).mono ?_
      rintro e w3 ⟨rfl, hb⟩
      have L3 := Lib.hid (B2.out.trans (hb.mono B2.out.size))
      clear hb
      go_wp2
      go_ret
      exact ⟨rfl, L3.out⟩
    all_goals
      go_wp2_with fail
      refine (HA.out w2).mono ?_
      rintro e w3 ⟨rfl, hb⟩
      have L3 := Lib.hid (B2.out.trans (hb.mono B2.out.size))
      clear hb
      go_wp2
      go_ret
      exact ⟨rfl, L3.out⟩
  obtain ⟨rfl, rfl, rfl, hNM⟩ : p = true ∧ q = true ∧ rt = true ∧ N = M := by
    cases p <;> cases q <;> cases rt <;> simp_all
  clear hbad
  subst hNM
  have e1 : ((N : Int) != (N : Int)) = false := by simp
  obtain ⟨c0, c1, c2, cf⟩ := N2.out
  go_wp2_with fail
  refine (HSZ.out w2 B2.out).mono ?_
  rintro e w3 ⟨K, rfl, hb⟩
  have B3 := Lib.hid (B2.out.trans (hb.mono B2.out.size))
  have N3 := Lib.hid (N2.out.below hb)
  have z3 : w.heap.size < w3.heap.size := N3.out.lt
  clear hb c0 c1 c2 cf HSZ
  by_cases hbig : 400 < K
  · have e1 : decide ((400 : Int) < K) = true := by simpa using hbig
    go_wp2_with fail
    refine (HA.out w3).mono ?_
    rintro e w4 ⟨rfl, hb⟩
    have L3 := Lib.hid (B3.out.trans (hb.mono B3.out.size))
    clear hb
    go_wp2
    go_ret
    exact ⟨rfl, L3.out⟩
  have e2 : decide ((400 : Int) < K) = false := by simpa using hbig
  clear hbig
  have hN12 : 1 ≤ N ∧ N ≤ 12 := by
    have h := HTT.out
    unfold schC at h
    rw [Bool.and_eq_true, Bool.and_eq_true] at h
    have := HNN.out
    simp at h
    omega
  obtain ⟨hN1, hN2⟩ := hN12
  obtain ⟨ic, hic, hcz0, hcz1, hcz2⟩ := info_parts info_col
  obtain ⟨iv, hiv, hvz0, hvz1, hvz2⟩ := info_parts info_val
  have ew : IntKind.i64.wrap ((N : Int) - 1) = (N : Int) - 1 := by rw [IntKind.wrap_i64]; omega
  go_wp2_with fail
  go_loopw [10, 11, 12] (fun tv uv iv wr => ∃ k : Nat, k ≤ N ∧ iv = .int .i64 ((N : Int) - 1 - (k : Int)) ∧ Two9 w3.heap.size tv uv k (l.reverse.take k) (r.reverse.take k) wr ∧ Below w3.heap.size w3 wr) (fun _ _ iv _ => (intOf iv + 1).toNat)
  case atStart => exact ⟨0, by omega, by simp, ⟨World.ownsRow_nil _ _ _ _, World.ownsRow_nil _ _ _ _, fun g h => by cases h⟩, Below.refl _ _⟩
  case round =>
    obtain ⟨i9, hk, rfl, hT, hb⟩ := hrel
    have HT := Lib.hid hT
    have HB := Lib.hid hb
    have hz := hb.size
    clear hT hb
    have BR := Lib.hid (B3.out.trans (HB.out.mono B3.out.size))
    by_cases hlt : i9 < N
    · obtain ⟨j, hj⟩ : ∃ j : Nat, i9 + 1 + j = N := ⟨N - 1 - i9, by omega⟩
      have ej : (N : Int) - 1 - (i9 : Int) = (j : Int) := by omega
      have ej2 : IntKind.i64.wrap ((j : Int) - 1) = (j : Int) - 1 := by rw [IntKind.wrap_i64]; omega
      have ej3 : (N : Int) - 1 - ((i9 + 1 : Nat) : Int) = (j : Int) - 1 := by omega
      have hjl : j < l.length := by have := HNN.out; omega
      have hjr : j < r.length := by have := HMM.out; omega
      have hjN : j < N := by omega
      have HLT := Lib.hid (take_rev l i9 j (by have := HNN.out; omega))
      have HRT := Lib.hid (take_rev r i9 j (by have := HMM.out; omega))
      rw [ej]
      obtain ⟨ad, hAe, ga, q0, q1, q2⟩ := at_word (HAT.out wr BR.out) j hjl
      have HRX := Lib.hid (fun (w' : World) (hb : Below w.heap.size w w') => HR.out w' hb j hjr)
      obtain ⟨x, hx⟩ : ∃ x, l[j] = x := ⟨_, rfl⟩
      obtain ⟨y, hy⟩ : ∃ y, r[j] = y := ⟨_, rfl⟩
      rw [hx] at q0 q1 q2 HLT
      rw [hy] at HRT
      simp only [hy] at HRX
      obtain ⟨cn, ct, ck⟩ := x
      obtain ⟨vk, vn, vs⟩ := y
      obtain ⟨T, hTe⟩ : ∃ T : ByteArray, ⟨ct.toArray⟩ = T := ⟨_, rfl⟩
      have HTE := Lib.hid hTe
      dsimp only at q0 q1 q2 HRX
      rw [hTe] at q1
      have W4 := Lib.hid (below_alloc wr (.cells #[.int .i64 cn, .string T, .int .i64 ck] 48))
      clear hx hy hTe
      subst hAe
      have bj0 : (0 : Int) ≤ (j : Int) := by omega
      have bj1 : (j : Int) < (N : Int) := by omega
      go_wp2_with (at_builtin; refine wpList_append_lies _ rfl _ _ _ rfl w3.heap.size 48 ic _ 3 32 Try.underlying25 hic hcz0 hcz1 hcz2 rfl (by decide) u10 i9 (flatC wc (l.reverse.take i9)) rfl ?c1 ⟨wr.heap.size, 0, none⟩ 1 1 [.int .i64 cn, .string T, .int .i64 ck] rfl rfl ?c2 ?c3 (by decide) ?c4 ?c5 ?c6 (wr.heap.size + 1) ?c7 ?_)
      case c1 => exact own_call HT.out.t W4.out
      case c2 => exact World.news_of_block (heap_alloc_new wr _)
      case c3 => intro u hu; simp at hu; rcases hu with rfl | rfl | rfl <;> rfl
      case c4 => unfold maxLen; omega
      case c5 => omega
      case c6 => simp; omega
      case c7 => simp
      intro gg cap5 w5 hown5 hgrow5 hat5 hlt5
      have hne5 : u11.ownBlock = none ∨ u11.ownBlock ≠ u10.ownBlock := by
        cases h9 : u11.ownBlock with
        | none => exact .inl rfl
        | some g => exact .inr (fun e => HT.out.d g e.symm h9)
      have U5 := Lib.hid ((own_call HT.out.u W4.out).kept hgrow5 hne5)
      have B45 := Lib.hid (show Below w3.heap.size w3 w5 from (HB.out.trans (W4.out.mono hz)).grown hgrow5 (by simp; omega) (fun g hg => (HT.out.t.lt g hg).1))
      have B5 := Lib.hid (B3.out.trans (B45.out.mono B3.out.size))
      have z5 : wr.heap.size + 1 ≤ w5.heap.size := by have := hgrow5.size; simp at this; exact this
      have D5 := Lib.hid (show ∀ g, u11.ownBlock = some g → g ≠ gg from by
        intro g hg e
        subst e
        rcases hat5 with h9 | h9
        · exact HT.out.d _ h9 hg
        · have := (HT.out.u.lt _ hg).2; omega)
      have T5 := Lib.hid (show w5.ownsRow w3.heap.size 48 3 (.slice (some ⟨gg, 0, none⟩) (i9 + 1) cap5) (i9 + 1) (flatC wc (l.reverse.take (i9 + 1))) by
        rw [HLT.out, flatC_snoc]
        simpa [wc, HTE.out] using hown5)
      clear hown5 hgrow5 hat5 q0 q1 q2 hne5
      obtain ⟨bd, hBe, gb, d0, d1, d2⟩ := HRX.out w5 B5.out
      subst hBe
      have W6 := Lib.hid (below_alloc w5 (.cells #[.int .i64 vk, .int .i64 vn, .string vs] 38))
      have z35 := B45.out.size
      go_wp2_with (at_builtin; refine wpList_append_lies _ rfl _ _ _ rfl w3.heap.size 38 iv _ 3 32 Try.underlying27 hiv hvz0 hvz1 hvz2 rfl (by decide) u11 i9 (flat (r.reverse.take i9)) rfl ?c1 ⟨w5.heap.size, 0, none⟩ 1 1 [.int .i64 vk, .int .i64 vn, .string vs] rfl rfl ?c2 ?c3 (by decide) ?c4 ?c5 ?c6 (w5.heap.size + 1) ?c7 ?_)
      case c1 => exact own_call U5.out W6.out
      case c2 => exact World.news_of_block (heap_alloc_new w5 _)
      case c3 => intro u hu; simp at hu; rcases hu with rfl | rfl | rfl <;> rfl
      case c4 => unfold maxLen; omega
      case c5 => omega
      case c6 => simp; omega
      case c7 => simp
      intro g6 cap6 w6 hown6 hgrow6 hat6 hlt6
      have T6 := Lib.hid ((own_call T5.out W6.out).kept hgrow6 (.inr (fun e => D5.out gg e.symm rfl)))
      have B6 := Lib.hid (show Below w3.heap.size w3 w6 from (B45.out.trans (W6.out.mono z35)).grown hgrow6 (by simp; omega) (fun g hg => (U5.out.lt g hg).1))
      have U6 := Lib.hid (show w6.ownsRow w3.heap.size 38 3 (.slice (some ⟨g6, 0, none⟩) (i9 + 1) cap6) (i9 + 1) (flat (r.reverse.take (i9 + 1))) by
        rw [HRT.out, flat_snoc3]
        exact hown6)
      have D6 := Lib.hid (show ∀ g, (Value.slice (some ⟨gg, 0, none⟩) (i9 + 1) cap5).ownBlock = some g → (Value.slice (some ⟨g6, 0, none⟩) (i9 + 1) cap6).ownBlock ≠ some g from by
        intro g h1 h2
        have h1 : gg = g := Option.some.inj h1
        have h2 : g6 = g := Option.some.inj h2
        subst h1 h2
        rcases hat6 with h9 | h9
        · exact D5.out _ h9 rfl
        · omega)
      clear hown6 hgrow6 hat6 d0 d1 d2
      go_wp2
      go_roundw
      case rel => exact ⟨i9 + 1, by omega, by rw [ej3], ⟨T6.out, U6.out, D6.out⟩, B6.out⟩
      case measure => simp [intOf] <;> omega
    · have hNi : N = i9 := by omega
      subst hNi
      have e3 : decide ((0 : Int) ≤ (N : Int) - 1 - (N : Int)) = false := by simp; omega
      have HCL := Lib.hid (show l.length ≤ 4194304 by have := HNN.out; omega)
      obtain ⟨A2, ca2, hA2, hat2⟩ := own_at wc_length (show wr.ownsRow w3.heap.size 48 3 u10 l.reverse.length (flatC wc l.reverse) by
        have h := HT.out.t
        rw [List.take_of_length_le (by rw [List.length_reverse, HNN.out]; exact Nat.le_refl _)] at h
        rw [List.length_reverse, HNN.out]
        exact h)
      obtain ⟨B2, cb2, hB2, hat3⟩ := own_vals (show wr.ownsRow w3.heap.size 38 3 u11 r.reverse.length (flat r.reverse) by
        have h := HT.out.u
        rw [List.take_of_length_le (by rw [List.length_reverse, HMM.out]; exact Nat.le_refl _)] at h
        rw [List.length_reverse, HMM.out]
        exact h)
      rw [List.length_reverse, HNN.out] at hA2
      rw [List.length_reverse, HMM.out] at hB2
      subst hA2 hB2
      have HV1 := Lib.hid (fun (w' : World) (hb : Below w.heap.size w w') => cvalue_any A ca l HCL.out B cb r (by have := HRL.out; omega) HFI.out t (fun g => g < w.heap.size) op tx X n k w' (fun g h => Nat.lt_of_lt_of_le h hb.size) (HN.out.bel (fun g h => h) hb) (HAT.out w' hb) (HR.out w' hb))
      have HV2 := Lib.hid (fun (w' : World) (hb : Below wr.heap.size wr w') => cvalue_any A2 ca2 l.reverse (by rw [List.length_reverse]; exact HCL.out) B2 cb2 r.reverse (by rw [List.length_reverse]; have := HRL.out; omega) (fun v hv => HFI.out v (List.mem_reverse.1 hv)) t (fun g => g < w.heap.size) op tx X n k w' (fun g h => Nat.lt_of_lt_of_le h (Nat.le_trans BR.out.size hb.size)) (HN.out.bel (fun g h => h) (BR.out.trans (hb.mono BR.out.size))) ((hat2.below hb).more hb.size) ((hat3.below hb).more hb.size))
      rw [value_reverse HTT.out (by have h1 := HNN.out; have h2 := HMM.out; omega) t] at HV2
      simp only [List.length_reverse, HNN.out, HMM.out] at HV1 HV2
      unfold SumPost at HV1 HV2
      have HVN := Lib.hid (show ∃ V, valueK l r t = V from ⟨_, rfl⟩)
      obtain ⟨V, hV⟩ : ∃ V, valueK l r t = V := ⟨_, rfl⟩
      have HVE := Lib.hid hV
      rw [hV] at HV1 HV2
      obtain ⟨⟨vk, vn, vs⟩, ve⟩ := V
      dsimp only at HV1 HV2
      have N4 := Lib.hid (N3.out.below HB.out)
      have z4 : w.heap.size < wr.heap.size := N4.out.lt
      clear hat2 hat3 hV HVN HT ew
      obtain ⟨x0, x1, x2, xf⟩ := N4.out
      go_wp2_with fail
      refine (HV1.out wr BR.out).mono ?_
      rintro e w5 ⟨rfl, hb5⟩
      obtain ⟨w6, hw6⟩ : ∃ w6, w5.alloc (.cells #[.int .i64 vk, .int .i64 vn, .string vs] 38) = w6 := ⟨_, rfl⟩
      have L5 := Lib.hid hb5
      have L6 := Lib.hid (show Below wr.heap.size wr w6 by rw [← hw6]; exact L5.out.alloc L5.out.size _)
      have B6 := Lib.hid (BR.out.trans (L6.out.mono BR.out.size))
      have N6 := Lib.hid (N4.out.below L6.out)
      have P6 := Lib.hid (show NBox w6 w5.heap.size (.int .i64 vk) (.int .i64 vn) (.string vs) by rw [← hw6]; exact NBox.fresh _ _ _ _ _)
      have z6 : w5.heap.size < w6.heap.size := P6.out.lt
      have HW6 := Lib.hid hw6
      clear hb5 hw6 x0 x1 x2 xf
      go_upto_region 14 with fail
      rw [HW6.out]
      obtain ⟨g13, hg13⟩ : ∃ g, w5.heap.size = g := ⟨_, rfl⟩
      simp only [hg13] at P6 z6 ⊢
      clear hg13
      obtain ⟨x0, x1, x2, xf⟩ := N6.out
      go_wp2_with fail
      refine (HV2.out w6 L6.out).mono ?_
      rintro e w7 ⟨rfl, hb7⟩
      obtain ⟨w8, hw8⟩ : ∃ w8, w7.alloc (.cells #[.int .i64 vk, .int .i64 vn, .string vs] 38) = w8 := ⟨_, rfl⟩
      have L7 := Lib.hid hb7
      have L8 := Lib.hid (show Below w6.heap.size w6 w8 by rw [← hw8]; exact L7.out.alloc L7.out.size _)
      have B8 := Lib.hid (B6.out.trans (L8.out.mono B6.out.size))
      have N8 := Lib.hid (N6.out.below L8.out)
      have P8 := Lib.hid (P6.out.below L8.out)
      have Q8 := Lib.hid (show NBox w8 w7.heap.size (.int .i64 vk) (.int .i64 vn) (.string vs) by rw [← hw8]; exact NBox.fresh _ _ _ _ _)
      have z8 : w7.heap.size < w8.heap.size := Q8.out.lt
      have z68 : w6.heap.size ≤ w7.heap.size := hb7.size
      have HW8 := Lib.hid hw8
      clear hb7 hw8 x0 x1 x2 xf HV1 HV2
      go_upto_region 15 with fail
      rw [HW8.out]
      obtain ⟨g15, hg15⟩ : ∃ g, w7.heap.size = g := ⟨_, rfl⟩
      simp only [hg15] at Q8 z8 z68 ⊢
      clear hg15
      obtain ⟨c9, l9, hl9⟩ : ∃ c9 l9, l = c9 :: l9 := by
        cases l with
        | nil => have := HNN.out; simp at this; omega
        | cons a b => exact ⟨a, b, rfl⟩
      have HL9 := Lib.hid hl9
      clear hl9
      go_wp2_with (at_builtin; refine wpList_append_at (k := 3) (c := wc) wc_length (by decide) wc_one rfl _ _ 25 rfl w8.heap.size 48 ic _ 32 Try.underlying25 hic hcz0 hcz1 hcz2 rfl (.slice (some ⟨w8.heap.size, 0, none⟩) 0 0) 0 [] rfl ?c0 w8.heap.size A ca l (by rw [HNN.out] <;> rfl) ?c2 ?c3 ?c4 ?c5 ?_)
      case c0 => exact ⟨rfl, .inr ⟨w8.heap.size, 0, #[], rfl, Nat.le_refl _, heap_alloc_new w8 _, Nat.le_refl _, Nat.zero_le _, rfl, rfl⟩⟩
      case c2 => exact (HAT.out w8 B8.out).below (below_alloc w8 _)
      case c3 => rw [HNN.out]; unfold maxLen; omega
      case c4 => rw [HNN.out]; omega
      case c5 => simp
      intro v10 w10 hown hgrow
      have C10 := Lib.hid (show Below w8.heap.size w8 w10 from (below_alloc w8 _).grown hgrow (by simp) (fun j hj => by cases hj; exact Nat.le_refl _))
      obtain ⟨g, cap4, rfl, hg1, hg2, hfr, hc⟩ := own_cols (show w10.ownsRow w8.heap.size 48 3 v10 l.length (flatC wc l) by simpa using hown) (by rw [HNN.out]; omega)
      have HC := Lib.hid hc
      rw [HNN.out]
      obtain ⟨w11, hw11⟩ : ∃ w11, w10.setCell ⟨g, 1, none⟩ (.string ⟨#[111, 116, 104, 101, 114]⟩) = w11 := ⟨_, rfl⟩
      have C11 := Lib.hid (show Below w8.heap.size w8 w11 by rw [← hw11]; exact C10.out.setCell (by exact hg1) _)
      have A11 := Lib.hid (show At wc 3 w11 w11.heap.size (some ⟨g, 0, none⟩) ((c9.1, [111, 116, 104, 101, 114], c9.2.2) :: l9) by
        have h := cols_at (B := w11.heap.size) (by rw [← hw11]; simpa using hg2) (cols_set HC.out 0 (by rw [HNN.out]; omega) (fun c => (c.1, [111, 116, 104, 101, 114], c.2.2)) 1 (by omega) (.string ⟨#[111, 116, 104, 101, 114]⟩) (by unfold wc; rfl))
        have hm : l.modify 0 (fun c => (c.1, [111, 116, 104, 101, 114], c.2.2)) = (c9.1, [111, 116, 104, 101, 114], c9.2.2) :: l9 := by rw [HL9.out]; rfl
        rw [hm, Nat.zero_mul, Nat.zero_add, hw11] at h
        exact h)
      have HW11 := Lib.hid hw11
      have B11 := Lib.hid (B8.out.trans (C11.out.mono B8.out.size))
      have N11 := Lib.hid (N8.out.below C11.out)
      have P11 := Lib.hid (P8.out.below C11.out)
      have Q11 := Lib.hid (Q8.out.below C11.out)
      have z11 : w8.heap.size ≤ w11.heap.size := C11.out.size
      have k1 := hc 1 _ (show (flatC wc l)[1]? = some (.string ⟨c9.2.1.toArray⟩) by rw [HL9.out]; rfl)
      have f1 := hfr 1
      have hk0 : (0 : Int) < (N : Int) := by omega
      clear hown hgrow hc hfr hw11
      go_upto_region 17 with fail
      rw [HW11.out]
      obtain ⟨NM, hNM⟩ : ∃ NM : ByteArray, ⟨c9.2.1.toArray⟩ = NM := ⟨_, rfl⟩
      have hNMl : NM.data.toList = c9.2.1 := by rw [← hNM]
      obtain ⟨T, hT⟩ : ∃ T, renE c9.2.1 [111, 116, 104, 101, 114] t = T := ⟨_, rfl⟩
      have HREN := Lib.hid (fun (w' : World) (hb : Below w11.heap.size w11 w') => by
        have h := ren_any NM ⟨#[111, 116, 104, 101, 114]⟩ t.deep t (Nat.le_refl _) HTO.out (fun g => g < w.heap.size) op tx X n k w' (fun g h => Nat.lt_of_lt_of_le h (Nat.le_trans B11.out.size hb.size)) (HN.out.bel (fun g h => h) (B11.out.trans (hb.mono B11.out.size)))
        rw [hNMl, hT] at h
        exact h)
      obtain ⟨L, hL⟩ : ∃ L : List W, (c9.1, [111, 116, 104, 101, 114], c9.2.2) :: l9 = L := ⟨_, rfl⟩
      have hLN : L.length = N := by rw [← hL, ← HNN.out, HL9.out]; rfl
      rw [hL] at A11
      obtain ⟨V3, hV3⟩ : ∃ V3, valueK L r T = V3 := ⟨_, rfl⟩
      have HV3 := Lib.hid (fun (S : Nat → Prop) (w' : World) (hb : Below w11.heap.size w11 w') (op tx : ByteArray) (X : Option Addr) (n k : Nat) (hS : ∀ g, S g → g < w'.heap.size) (hn : RIn w' S T (op, tx, X, n, k)) => cvalue_any (some ⟨g, 0, none⟩) cap4 L (by rw [hLN]; omega) B cb r (by have := HRL.out; omega) HFI.out T S op tx X n k w' hS hn ((A11.out.below hb).more hb.size) (HR.out w' (B11.out.trans (hb.mono B11.out.size))))
      simp only [hLN, HMM.out, hV3] at HV3
      unfold SumPost at HV3
      have HVT := Lib.hid (show valueK ((c9.1, [111, 116, 104, 101, 114], c9.2.2) :: l9) r (renE c9.2.1 [111, 116, 104, 101, 114] t) = V3 by rw [hT, hL]; exact hV3)
      obtain ⟨⟨xk, xn, xs⟩, xe⟩ := V3
      dsimp only at HV3
      obtain ⟨ad, hAe, ga, q0, p1, q2⟩ := at_word (HAT.out w11 B11.out) 0 (by rw [HNN.out]; omega)
      have q1 : w11.cell? ⟨ad.block, ad.off + 1, none⟩ = some (.string NM) := (show w11.cell? ⟨ad.block, ad.off + 1, none⟩ = w11.cell? ⟨(ad.add (0 * 3)).block, (ad.add (0 * 3)).off + 1, none⟩ from rfl).trans (p1.trans (by
        rw [← hNM]
        simp only [HL9.out]
        rfl))
      have hk1 : 0 < N := hN1
      subst hAe
      obtain ⟨x0, x1, x2, xf⟩ := N11.out
      have y0 : w.heap.size < w11.heap.size := N11.out.lt
      have y1 : ad.block < w11.heap.size := ga
      clear hNM hNMl hT hL hLN hV3 q0 p1 q2 xf k1 f1 HC hg1 hg2
      have FQ := Lib.hid (fun (w' : World) (hb : Below w11.heap.size w11 w') => show (w'.cell? ⟨w.heap.size, 0, none⟩ = some (.string op) ∧ w'.cell? ⟨w.heap.size, 1, none⟩ = some (.string tx) ∧ w'.cell? ⟨w.heap.size, 2, none⟩ = some (.slice X n k) ∧ w'.cell? ⟨ad.block, ad.off + 1, none⟩ = some (.string NM)) ∧ Below w11.heap.size w11 w' from ⟨⟨(hb.cell (p := ⟨w.heap.size, 0, none⟩) y0).trans x0, (hb.cell (p := ⟨w.heap.size, 1, none⟩) y0).trans x1, (hb.cell (p := ⟨w.heap.size, 2, none⟩) y0).trans x2, (hb.cell (p := ⟨ad.block, ad.off + 1, none⟩) y1).trans q1⟩, hb⟩)
      go_cut [18, 19] (fun s8 s9 wx => ∃ g : Nat, s8 = .pointer (some ⟨g, 0, none⟩) ∧ s9 = .int .i64 xe ∧ w11.heap.size ≤ g ∧ NBox wx g (.int .i64 xk) (.int .i64 xn) (.string xs) ∧ Below w11.heap.size w11 wx)
      case first =>
        go_region_held3 (fun w' => (w'.cell? ⟨w.heap.size, 0, none⟩ = some (.string op) ∧ w'.cell? ⟨w.heap.size, 1, none⟩ = some (.string tx) ∧ w'.cell? ⟨w.heap.size, 2, none⟩ = some (.slice X n k) ∧ w'.cell? ⟨ad.block, ad.off + 1, none⟩ = some (.string NM)) ∧ Below w11.heap.size w11 w')
          (first | assumption | (exact FQ.out _ ((show _ ∧ Below w11.heap.size w11 _ by assumption).2.trans (hb9.mono (show _ ∧ Below w11.heap.size w11 _ by assumption).2.size))) | (refine keepK hb9 (by assumption) ?_; intro k; exact ⟨(k _ _ y0).trans x0, (k _ _ y0).trans x1, (k _ _ y0).trans x2, (k _ _ y1).trans q1⟩) | (refine keepA _ (by assumption) ?_; intro k; exact ⟨(k _ _ y0).trans x0, (k _ _ y0).trans x1, (k _ _ y0).trans x2, (k _ _ y1).trans q1⟩) | (refine keepD (by assumption) ?_; intro k; exact ⟨(k _ _ y0).trans x0, (k _ _ y0).trans x1, (k _ _ y0).trans x2, (k _ _ y1).trans q1⟩) | (exact FQ.out _ (Below.drew (Below.refl _ _))) | (refine (fun hS9 : Below w11.heap.size w11 _ => FQ.out _ hS9) (swapO (show _ ∧ Below w11.heap.size w11 _ by assumption).2 (by omega))) | (refine FQ.out _ ?_; refine Below.setCell (Below.setCell (Below.setCell (show _ ∧ Below w11.heap.size w11 _ by assumption).2 ?_ _) ?_ _) ?_ _ <;> first | (simp; done) | (simp; omega) | omega))
          (first
            | (go_at_call 14; refine (HREN.out _ (show _ ∧ Below w11.heap.size w11 _ by assumption).2).mono ?_; rintro e w5 ⟨op5, tx5, X5, n5, k5, rfl, hn5, hb9⟩; (try dsimp only at hn5); have HS5 := Lib.hid (show w11.heap.size ≤ w5.heap.size from Nat.le_trans (show _ ∧ Below w11.heap.size w11 _ by assumption).2.size hb9.size); have HB5 := Lib.hid hb9; have hs5 := HS5.out)
            | (go_at_call 11; refine (HV3.out (fun g => g < w5.heap.size) _ (show _ ∧ Below w11.heap.size w11 _ by assumption).2 _ _ _ _ _ (by first | exact fun g h => h | (intro g h; simp; omega) | (intro g h; have := HS5.out; simp; omega)) (by first | exact hn5.imp (fun g h => h.2) | exact (hn5.alloc (fun g h => h.2) _).imp (fun g h => h.2))).mono ?_; rintro e w6 ⟨rfl, hb9⟩; have hs5 := HS5.out; have hk := (bcell HB5.out).1; have hf := (bcell HB5.out).2; have hz5 := HB5.out.size; (try simp at hz5); (try have hq5 : w11.heap.size < w5.heap.size := by omega); have hs6 : w11.heap.size ≤ w6.heap.size := Nat.le_trans (show _ ∧ Below w11.heap.size w11 _ by assumption).2.size hb9.size; have hk2 := (bcell hb9).1; have hf2 := (bcell hb9).2; have hz6 := hb9.size; (try simp at hz6); (try have hq6 : w5.heap.size < w6.heap.size := by omega); (try have hq7 : w11.heap.size < w6.heap.size := by omega)))
        all_goals go_wp2_with fail
        all_goals go_meet
        all_goals (refine ⟨_, rfl, rfl, ?_, ?_, (show _ ∧ Below w11.heap.size w11 _ by assumption).2⟩)
        all_goals first | omega | (simp; done) | (simp; omega) | exact NBox.fresh _ _ _ _ _ | exact (NBox.below (NBox.fresh _ _ _ _ _) hb9).set _ _ _ | exact (((NBox.fresh w11 _ _ _ _).below (Below.drew (Below.refl _ _))).below HB5.out |>.below hb9).set _ _ _
      case rest =>
        obtain ⟨g18, rfl, rfl, hge, hG, hB⟩ := hcut
        rename World => wx
        have B12 := Lib.hid (B11.out.trans (hB.mono B11.out.size))
        have N12 := Lib.hid (N11.out.below hB)
        have P12 := Lib.hid (P11.out.below hB)
        have Q12 := Lib.hid (Q11.out.below hB)
        have G12 := Lib.hid hG
        clear hB hG x0 x1 x2 q1 FQ HREN HV3 y0 y1
        have hl9 : l9.length + 1 = N := by rw [← HNN.out, HL9.out]; rfl
        go_wp2_with fail
        go_loopw [20, 21] (fun fv iv wr => ∃ i : Nat, 1 ≤ i ∧ i ≤ N ∧ iv = .int .i64 (i : Int) ∧ fv = .bool ((l9.take (i - 1)).all fun c => c.2.1 != [111, 116, 104, 101, 114]) ∧ wr = wx) (fun _ iv _ => N - (intOf iv).toNat)
        case atStart => exact ⟨1, Nat.le_refl _, hN1, rfl, rfl, rfl⟩
        case round =>
          obtain ⟨i, hi1, hi2, rfl, rfl, rfl⟩ := hrel
          by_cases hil : i < N
          · have hi9 : i - 1 < l9.length := by omega
            obtain ⟨x, hx⟩ : ∃ x, l9[i - 1] = x := ⟨_, rfl⟩
            have hlx : l[i]'(by rw [HNN.out]; exact hil) = x := by
              simp only [HL9.out, ← hx]
              rw [List.getElem_cons, dif_neg (by omega)]
            have hall : (l9.take (i + 1 - 1)).all (fun c => c.2.1 != [111, 116, 104, 101, 114]) = ((l9.take (i - 1)).all (fun c => c.2.1 != [111, 116, 104, 101, 114]) && (x.2.1 != [111, 116, 104, 101, 114])) := by
              rw [show i + 1 - 1 = (i - 1) + 1 by omega, List.take_succ_eq_append_getElem hi9, List.all_append, hx]
              simp
            have HALL := Lib.hid hall
            obtain ⟨a9, hAe, ga, q0, q1, q2⟩ := at_word (HAT.out wr B12.out) i (by rw [HNN.out]; exact hil)
            rw [hlx] at q0 q1 q2
            cases hAe
            obtain ⟨xn9, xt9, xk9⟩ := x
            dsimp only at q0 q1 q2
            obtain ⟨b, hb⟩ : ∃ b, (l9.take (i - 1)).all (fun c => c.2.1 != [111, 116, 104, 101, 114]) = b := ⟨_, rfl⟩
            obtain ⟨T9, hT9⟩ : ∃ T9 : ByteArray, ⟨xt9.toArray⟩ = T9 := ⟨_, rfl⟩
            obtain ⟨ne, hne⟩ : ∃ ne, (xt9 != [111, 116, 104, 101, 114]) = ne := ⟨_, rfl⟩
            dsimp only at HALL
            rw [hb, hne] at HALL
            rw [hb]
            rw [hT9] at q1
            have e6 : (T9.toList == [111, 116, 104, 101, 114]) = !ne := by rw [ByteArray.toList_eq, ← hT9, ← hne]; simp [bne]
            have e7 : (T9.toList == (⟨#[111, 116, 104, 101, 114]⟩ : ByteArray).toList) = !ne := by rw [show (⟨#[111, 116, 104, 101, 114]⟩ : ByteArray).toList = [111, 116, 104, 101, 114] by rw [ByteArray.toList_eq]]; exact e6
            have bi0 : (0 : Int) ≤ (i : Int) := by omega
            have bi1 : (i : Int) < (N : Int) := by omega
            have ei : IntKind.i64.wrap ((i : Int) + 1) = (i : Int) + 1 := by rw [IntKind.wrap_i64]; omega
            have HEI := Lib.hid ei
            clear hb hne hT9 hx hlx hall q0 q2
            cases b <;> cases ne
            all_goals simp only [Bool.not_true, Bool.not_false] at e6 e7
            all_goals go_wp2_with fail
            all_goals go_roundw
            all_goals first | (have h77 := HEI.out; simp [intOf]; omega) | skip
            all_goals exact ⟨i + 1, by omega, by omega, by (try rw [HEI.out]); push_cast; (try rfl), by rw [HALL.out]; (try rfl), by first | rfl | trivial⟩
          · have hiN : N = i := by omega
            subst hiN
            rw [List.take_of_length_le (show l9.length ≤ N - 1 by omega)]
            obtain ⟨F, hF⟩ : ∃ F, l9.all (fun c => c.2.1 != [111, 116, 104, 101, 114]) = F := ⟨_, rfl⟩
            have HFF := Lib.hid hF
            rw [hF]
            clear hF
            have y0 : w.heap.size < wr.heap.size := N12.out.lt
            obtain ⟨x0, x1, x2, xf⟩ := N12.out
            obtain ⟨T2, hT2⟩ : ∃ T2, renE [111, 116, 104, 101, 114] [111, 116, 104, 101, 114, 115] t = T2 := ⟨_, rfl⟩
            have HREN := Lib.hid (fun (w' : World) (hb : Below wr.heap.size wr w') => by
              have h := ren_any ⟨#[111, 116, 104, 101, 114]⟩ ⟨#[111, 116, 104, 101, 114, 115]⟩ t.deep t (Nat.le_refl _) HTO.out (fun g => g < w.heap.size) op tx X n k w' (fun g h => Nat.lt_of_lt_of_le h (Nat.le_trans B12.out.size hb.size)) (HN.out.bel (fun g h => h) (B12.out.trans (hb.mono B12.out.size)))
              rw [hT2] at h
              exact h)
            have HSM := Lib.hid (esameQ_any T2.deep T2 (Nat.le_refl _) t)
            have HT2 := Lib.hid hT2
            have HVV := Lib.hid (fun (hF : l9.all (fun c => c.2.1 != [111, 116, 104, 101, 114]) = true) (he : T2 = t) => show ((xk, xn, xs), xe) = ((vk, vn, vs), ve) by
              rw [← HVT.out, ← HVE.out]
              rw [HL9.out]
              exact value_named c9 l9 [111, 116, 104, 101, 114] [111, 116, 104, 101, 114, 115] r (fun x hx e => by have := List.all_eq_true.1 hF x hx; rw [e] at this; simp at this) (by decide) t (HT2.out.trans he))
            have FQ := Lib.hid (fun (w' : World) (hb : Below wr.heap.size wr w') => show (w'.cell? ⟨w.heap.size, 0, none⟩ = some (.string op) ∧ w'.cell? ⟨w.heap.size, 1, none⟩ = some (.string tx) ∧ w'.cell? ⟨w.heap.size, 2, none⟩ = some (.slice X n k)) ∧ Below wr.heap.size wr w' from ⟨⟨(hb.cell (p := ⟨w.heap.size, 0, none⟩) y0).trans x0, (hb.cell (p := ⟨w.heap.size, 1, none⟩) y0).trans x1, (hb.cell (p := ⟨w.heap.size, 2, none⟩) y0).trans x2⟩, hb⟩)
            clear hT2 xf
            go_wp2_with fail
            go_cut [20] (fun s9 wy => ∃ sm : Bool, s9 = .bool sm ∧ (sm = true → ((xk, xn, xs), xe) = ((vk, vn, vs), ve)) ∧ Below wr.heap.size wr wy)
            case first =>
              cases F with
              | false =>
                go_region_law (fail)
                all_goals go_wp2_with fail
                all_goals go_meet
                all_goals exact ⟨false, rfl, fun h => by (cases h), by first | exact Below.refl _ _ | exact Below.drew (Below.refl _ _)⟩
              | true =>
                go_region_held3 (fun w' => (w'.cell? ⟨w.heap.size, 0, none⟩ = some (.string op) ∧ w'.cell? ⟨w.heap.size, 1, none⟩ = some (.string tx) ∧ w'.cell? ⟨w.heap.size, 2, none⟩ = some (.slice X n k)) ∧ Below wr.heap.size wr w')
                  (first | assumption | (refine keepK hb9 (by assumption) ?_; intro k; exact ⟨(k _ _ y0).trans x0, (k _ _ y0).trans x1, (k _ _ y0).trans x2⟩) | (exact FQ.out _ (Below.drew (Below.refl _ _))))
                  (first
                    | (go_at_call 14; refine (HREN.out _ (show _ ∧ Below wr.heap.size wr _ by assumption).2).mono ?_; rintro e w5 ⟨op5, tx5, X5, n5, k5, rfl, hn5, hb9⟩; (try dsimp only at hn5))
                    | (go_at_call 15; refine (HSM.out (fun g => g < w5.heap.size) _ _ _ _ _ _ _ _ _ _ _ (fun g h => h) (hn5.imp (fun g h => h.2)) ((HN.out.bel (fun g h => h) (B12.out.trans ((show _ ∧ Below wr.heap.size wr w5 by assumption).2.mono B12.out.size))).imp (fun g h => Nat.lt_of_lt_of_le h (Nat.le_trans B12.out.size (show _ ∧ Below wr.heap.size wr w5 by assumption).2.size)))).mono ?_; rintro e w6 ⟨sm, rfl, hsm, hb9⟩))
                all_goals go_wp2_with fail
                all_goals go_meet
                all_goals exact ⟨sm, rfl, fun h => HVV.out HFF.out (hsm h), (show _ ∧ Below wr.heap.size wr _ by assumption).2⟩
            case rest =>
              obtain ⟨sm, rfl, hsm, hB⟩ := hcut
              rename World => wy
              have B13 := Lib.hid (B12.out.trans (hB.mono B12.out.size))
              have P13 := Lib.hid (P12.out.below hB)
              have Q13 := Lib.hid (Q12.out.below hB)
              have G13 := Lib.hid (G12.out.below hB)
              have HS := Lib.hid hsm
              clear hB x0 x1 x2 FQ HREN HSM HVV y0 hsm
              go_wp2_with fail
              refine (HA.out wy).mono ?_
              rintro e w14 ⟨rfl, hb⟩
              have B14 := Lib.hid (B13.out.trans (hb.mono B13.out.size))
              obtain ⟨p0, p1, p2, pf⟩ := P13.out.below hb
              obtain ⟨q0, q1, q2, qf⟩ := Q13.out.below hb
              obtain ⟨g0, g1, g2, gf⟩ := G13.out.below hb
              clear hb pf qf gf
              cases sm with
              | false =>
                go_wp2
                go_ret
                exact ⟨rfl, B14.out⟩
              | true =>
                have h := HS.out rfl
                injection h with h1 h2
                injection h1 with h3 h4
                injection h4 with h5 h6
                subst h2 h3 h5 h6
                go_wp2
                go_ret
                exact ⟨rfl, B14.out⟩
end Go.Proofs.Ytkibacolnagkcaa.calcNames
