/-
  The program's reader of expressions does as it should, with any number of steps.
-/
import Derived.Test.YtpohpgahnompbaaGreatDoorM26
import Derived.Test.YtpohpgahnompbaaGreatDoorM27
import Derived.Test.YtpohpgahnompbaaGreatDoorM19
import Derived.Test.YtpohpgahnompbaaGreatDoorM20
namespace Go.Proofs.YtpohpgahnompbaaGreatDoor.Code
open Go.ChangeShapes Go.WideShapes Go.ChangeAt Go.RowKit Val Elems
set_option linter.unusedVariables false
set_option linter.unusedSimpArgs false
section
variable {r : Nat} {m : Int} {A : Option Addr} {cap : Nat} {l : List W} {f : Nat}
theorem numL_some {s : List UInt8} {v : Int} (h : numF s 0 = some v) : numL s = some (Lib.itoa v) := by unfold numL; rw [h]; rfl
theorem numL_none {s : List UInt8} (h : numF s 0 = none) : numL s = none := by unfold numL; rw [h]; rfl
theorem es_oper (D : Goes r m A cap l (f + 1)) (hg : Good l) (i : Nat) (w : World) (hi : i ≤ l.length) (hm : mu (bare l) (.expr 7) i < f + 2) (h : Rd w r m A cap l i)
    (q1 : isW (bare l) i false [45] = false) (q2 : isW (bare l) i false [40] = false) (q3 : oneL (bare l) i false [sTrue, sFalse, sNull] = []) :
    Calls Tryz.prog 109 #[.pointer (some ⟨r, 0, none⟩)] w (Gives r m A cap l w NoBlk (P (bare l) (f + 1) .sign i false)) := by
  have hP : P (bare l) (f + 1) .sign i false = (if isK (bare l) i false 1 = true then (match numL (txt (bare l) i) with | some t => (Tr.leaf sNum t, i + 1, false) | none => (zeroT, i, true))
      else if isK (bare l) i false 2 = true then (.leaf sText (txt (bare l) i), i + 1, false)
      else if (isK (bare l) i false 0 && !ownL (txt (bare l) i)) = true then (.leaf sCol (txt (bare l) i), i + 1, false)
      else (.leaf sCol [], i, true)) := by rw [P, if_neg (by rw [q1]; decide), if_neg (by rw [q2]; decide), if_pos q3]; rfl
  by_cases hil : i < l.length
  · have hc := hg.came l[i] (List.getElem_mem hil)
    have hft := hg.fit l[i] (List.getElem_mem hil)
    have hkd := came_kind hg.came l[i] (List.getElem_mem hil)
    have hfg := came_fig hg.came l[i] (List.getElem_mem hil)
    have hfl := came_full hg.came l[i] (List.getElem_mem hil)
    rw [isK_in hil, isK_in hil, isK_in hil, txt_in hil] at hP
    have hwd := wd_in hil
    obtain ⟨v, hv⟩ : ∃ v, l[i] = v := ⟨_, rfl⟩
    rw [hv] at hc hft hkd hfg hfl hP hwd
    obtain ⟨k, t, p⟩ := v
    obtain ⟨T, rfl⟩ : ∃ T : ByteArray, t = T.data.toList := ⟨⟨t.toArray⟩, rfl⟩
    have hT : (⟨T.data.toList.toArray⟩ : ByteArray) = T := Lib.mk_data T
    have hts : T.size ≤ 4194304 := hft
    dsimp only at hc hkd hfg hfl hP hwd
    rcases hkd with rfl | rfl | rfl | rfl
    · obtain ⟨ow, how⟩ : ∃ ow, ownL T.data.toList = ow := ⟨_, rfl⟩
      rw [how] at hP
      cases ow
      · refine es_rest D hg i w hi hm h q1 q2 q3 (.leaf sCol T.data.toList) (i + 1) false ⟨#[99, 111, 108]⟩ T (fun _ => rfl) (by rw [hP]; rfl) rfl (fun w0 he => ?_)
        rw [hwd]
        dsimp only
        rw [hT]
        exact eoper_name p T m w0 hc hts he false how
      · refine es_rest D hg i w hi hm h q1 q2 q3 (.leaf sCol []) i true ⟨#[99, 111, 108]⟩ T (fun e => by cases e) (by rw [hP]; rfl) rfl (fun w0 he => ?_)
        rw [hwd]
        dsimp only
        rw [hT]
        exact eoper_name p T m w0 hc hts he true how
    · obtain ⟨hfg1, hfg2⟩ := hfg rfl
      have hnp := num_parse hfg1 (hfl rfl)
      cases hn : numF T.data.toList 0 with
      | none =>
        rw [numL_none hn] at hP
        refine es_rest D hg i w hi hm h q1 q2 q3 zeroT i true ⟨#[]⟩ ⟨#[]⟩ (fun e => by cases e) (by rw [hP]; rfl) rfl (fun w0 he => ?_)
        rw [hwd]
        dsimp only
        rw [hT]
        exact eoper_much p T m w0 hc hts he (hnp.2 hn)
      | some v =>
        rw [numL_some hn] at hP
        obtain ⟨hv1, hv2, hv3⟩ := hnp.1 v hn
        refine es_rest D hg i w hi hm h q1 q2 q3 (.leaf sNum (Lib.itoa v)) (i + 1) false ⟨#[110, 117, 109]⟩ ⟨(Lib.itoa v).toArray⟩ (fun _ => rfl) (by rw [hP]; rfl) rfl (fun w0 he => ?_)
        rw [hwd]
        dsimp only
        rw [hT]
        exact eoper_num p T m w0 hc hts he v hv1 hv2 hv3
    · refine es_rest D hg i w hi hm h q1 q2 q3 (.leaf sText T.data.toList) (i + 1) false ⟨#[116, 101, 120, 116]⟩ T (fun _ => rfl) (by rw [hP]; rfl) rfl (fun w0 he => ?_)
      rw [hwd]
      dsimp only
      rw [hT]
      exact eoper_text p T m w0 hc hts he
    · refine es_rest D hg i w hi hm h q1 q2 q3 (.leaf sCol []) i true ⟨#[]⟩ ⟨#[]⟩ (fun e => by cases e) (by rw [hP]; rfl) rfl (fun w0 he => ?_)
      rw [hwd]
      dsimp only
      rw [hT]
      exact eoper_mark p T m w0 hc hts he
  · rw [isK_out hil, isK_out hil, isK_out hil] at hP
    refine es_rest D hg i w hi hm h q1 q2 q3 (.leaf sCol []) i true ⟨#[]⟩ ⟨#[]⟩ (fun e => by cases e) (by rw [hP]; rfl) rfl (fun w0 he => ?_)
    rw [wd_out hil]
    exact eoper_zero m w0 he
theorem e_sign (D : Goes r m A cap l f) (hg : Good l) : Part 109 r m A cap l (f + 1) 7 := by
  intro i w hi hm h
  have e0 : mu (bare l) (.expr 7) i = 16 * ((bare l).length - i) + 3 := rfl
  obtain ⟨f2, rfl⟩ : ∃ f2, f = f2 + 1 := ⟨f - 1, by omega⟩
  rw [sgn]
  cases q1 : isW (bare l) i false [45] with
  | true => exact es_neg D hg i w hi hm h q1
  | false =>
    cases q2 : isW (bare l) i false [40] with
    | true =>
      obtain ⟨R, hx⟩ : ∃ R, P (bare l) (f2 + 1) (.expr 1) (i + 1) false = R := ⟨_, rfl⟩
      obtain ⟨x, j, b⟩ := R
      cases b with
      | true => exact es_bad D hg i w hi hm h q1 q2 x j hx
      | false =>
        cases q : isW (bare l) j false [41] with
        | true => exact es_shut D hg i w hi hm h q1 q2 x j hx q
        | false => exact es_noshut D hg i w hi hm h q1 q2 x j hx q
    | false =>
      by_cases q3 : oneL (bare l) i false [sTrue, sFalse, sNull] = []
      · exact es_oper D hg i w hi hm h q1 q2 q3
      · exact es_word D hg i w hi hm h q1 q2 ⟨(oneL (bare l) i false [sTrue, sFalse, sNull]).toArray⟩ q3 rfl
theorem e_test (D : Goes r m A cap l f) (hg : Good l) : Part 80 r m A cap l (f + 1) 4 := by
  intro i w hi hm h
  have e0 : mu (bare l) (.expr 4) i = 16 * ((bare l).length - i) + 9 := rfl
  obtain ⟨f2, rfl⟩ : ∃ f2, f = f2 + 1 := ⟨f - 1, by omega⟩
  obtain ⟨R, hx⟩ : ∃ R, P (bare l) (f2 + 1) (.expr 5) i false = R := ⟨_, rfl⟩
  obtain ⟨x, j, b⟩ := R
  cases b with
  | true => exact et_bad D hg i w hi hm h x j hx
  | false =>
    cases q1 : isW (bare l) j false sIs with
    | true =>
      cases q2 : isW (bare l) (j + 1) false sNull with
      | true => exact et_null D hg i w hi hm h x j hx q1 q2
      | false => exact et_nonull D hg i w hi hm h x j hx q1 q2
    | false =>
      by_cases q2 : oneL (bare l) j false (opsL 4) = []
      · exact et_one D hg i w hi hm h x j hx q1 q2
      · exact et_two D hg i w hi hm h x j hx q1 ⟨(oneL (bare l) j false (opsL 4)).toArray⟩ q2 rfl
theorem e_not (D : Goes r m A cap l f) (hg : Good l) : Part 61 r m A cap l (f + 1) 3 := by
  intro i w hi hm h
  cases q : isW (bare l) i false sNot with
  | true => exact e_not_yes D hg i w hi hm h q
  | false => exact e_not_no D hg i w hi hm h q
theorem goes (hg : Good l) : ∀ f, Goes r m A cap l f
  | 0 => by constructor <;> exact fun i w hi hm h => absurd hm (Nat.not_lt_zero _)
  | f + 1 => by
    have D := goes hg f
    exact ⟨e_or D hg, e_and D hg, e_not D hg, e_test D hg, e_sum D hg, e_times D hg, e_sign D hg⟩
/-- an expression, from a place on -/
theorem eor_any (hg : Good l) (i : Nat) (w : World) (hi : i ≤ l.length) (h : Rd w r m A cap l i) :
    Calls Tryz.prog 24 #[.pointer (some ⟨r, 0, none⟩)] w (Gives r m A cap l w NoBlk (fromP (bare l) i)) := by
  have hd := (goes (r := r) (m := m) (A := A) (cap := cap) hg (stepsN (bare l))).g_or i w hi (by
    have e : mu (bare l) (.expr 1) i = 16 * ((bare l).length - i) + 15 := rfl
    unfold stepsN
    omega) h
  exact hd
end
end Go.Proofs.YtpohpgahnompbaaGreatDoor.Code

/-
  How deep a node is nested, as the program's Deep reckons it.
-/
namespace Go.Proofs.YtpohpgahnompbaaGreatDoor.Code
open Go.ChangeShapes Go.WideShapes Go.ChangeAt Go.RowKit Val Elems
set_option linter.unusedVariables false
set_option linter.unusedSimpArgs false
set_option maxHeartbeats 8000000 in
set_option maxRecDepth 100000 in
theorem edeep_any : ∀ (d : Nat) (t : Tr), t.deep ≤ d → d ≤ 1000000000 → ∀ (S : Nat → Prop) (op tx : ByteArray) (X : Option Addr) (n m : Nat) (w : World), (∀ g, S g → g < w.heap.size) → NIn w S t (.string op) (.string tx) (.slice X n m) →
    Calls Tryz.prog 11 #[.agg #[.string op, .string tx, .slice X n m]] w fun e w' => e = .returned (.int .i64 t.deep) ∧ Below w.heap.size w w'
  | 0, t, h, _, _, _, _, _, _, _, _, _, _ => absurd h (by rw [deep_kids]; omega)
  | d + 1, t, h, hd, S, op, tx, X, n, m, w, hS, hn => by
    have ih := Lib.hid (fun k (hk : k < (kids t).length) => edeep_any d (kids t)[k] (by have := dm_mem (List.getElem_mem hk); rw [deep_kids] at h; omega) (by omega))
    rw [deep_kids] at h ⊢
    have hdm : dm (kids t) ≤ d := by omega
    have hkl := kids_few t
    have HS := Lib.hid hS
    obtain ⟨X0, c0, e0, _⟩ := hn.node
    injection e0 with eX en em
    subst en
    have HN := Lib.hid hn
    clear h hS hn eX em
    go_enter Tryz.func11, Tryz.ntmps11
    go_wp2
    go_loopw [3, 9] (fun v t' wr => ∃ k : Nat, k ≤ (kids t).length ∧ t' = .int .i64 k ∧ v = .int .i64 (dm ((kids t).take k)) ∧ Below w.heap.size w wr) (fun _ t' _ => (kids t).length - (intOf t').toNat)
    case atStart => exact ⟨0, by omega, rfl, rfl, (Below.refl _ _).alloc (Nat.le_refl _) _⟩
    case round =>
      obtain ⟨k, hk, rfl, rfl, hb⟩ := hrel
      have HB := Lib.hid hb
      have hz := hb.size
      have HK := Lib.hid (HN.out.below HS.out hb)
      clear hb
      by_cases hlt : k < (kids t).length
      · obtain ⟨X0, c0, e0, hkid⟩ := HK.out.node
        obtain ⟨ad, op', tx', X', n', m', eA, hS', q0, q1, q2, hk'⟩ := hkid k hlt
        injection e0 with eX en em
        obtain rfl : X = some ad := eX.trans eA
        have hKK := Lib.hid hk'
        have had := HS.out _ hS'
        have hdk : dm ((kids t).take k) ≤ dm (kids t) := dm_take _ _
        have hdx : (kids t)[k].deep ≤ dm (kids t) := dm_mem (List.getElem_mem hlt)
        have hdt : dm ((kids t).take (k + 1)) = max (dm ((kids t).take k)) (kids t)[k].deep := by rw [List.take_succ_eq_append_getElem hlt, dm_snoc]
        have HDT := Lib.hid hdt
        clear hkid eX em eA hk' hdt
        go_wp2_with fail
        refine (ih.out k hlt S op' tx' X' n' m' _ (fun g hg => by have := HS.out g hg; simp; omega) (hKK.out.alloc (fun g hg => Nat.lt_of_lt_of_le (HS.out g hg) hz) _)).mono ?_
        rintro e w1 ⟨rfl, hb1⟩
        have HB1 := Lib.hid ((HB.out.alloc hz _).trans (hb1.mono (by simp; omega)))
        clear hb1 q0 q1 q2
        go_wp2
        go_roundw
        case rel => exact ⟨k + 1, by omega, by go_num, by rw [HDT.out]; simp; omega, HB1.out⟩
        case measure => simp [intOf]; omega
      · obtain rfl : k = (kids t).length := by omega
        rw [List.take_length]
        go_wp2
        go_ret
        exact ⟨by simp, HB.out⟩
end Go.Proofs.YtpohpgahnompbaaGreatDoor.Code
