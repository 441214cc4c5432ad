/-
  The walk of LexAgain.
-/
import Derived.Test.YthkdpfadjbhmoaaDoorLexMore
namespace Go.Proofs.YthkdpfadjbhmoaaDoor.lexAgain
open Go.ChangeShapes Go.WideShapes Go.ChangeAt Go.RowKit Val Elems Go.Proofs.YthkdpfadjbhmoaaDoor.Code
set_option linter.unusedVariables false
theorem same_parts {l m : List W} (h : m.map (fun w => (w.1, w.2.1)) = l.map (fun w => (w.1, w.2.1))) : m.length = l.length ∧ ∀ (i : Nat) (hi : i < l.length) (hj : i < m.length), m[i].1 = l[i].1 ∧ m[i].2.1 = l[i].2.1 := by
  have hl : m.length = l.length := by have := congrArg List.length h; simpa using this
  refine ⟨hl, fun i hi hj => ?_⟩
  have e : (m.map (fun w => (w.1, w.2.1)))[i]? = (l.map (fun w => (w.1, w.2.1)))[i]? := by rw [h]
  rw [List.getElem?_map, List.getElem?_map, List.getElem?_eq_getElem hi, List.getElem?_eq_getElem hj] at e
  simp at e
  exact e
set_option maxHeartbeats 8000000 in
set_option maxRecDepth 100000 in
theorem walk (s : ByteArray) (m : Int) (w : World) (hs : s.size ≤ 1048576) (hg : Glob w.heap.size m w) :
    Calls Tryd.prog 5 #[.string s] w fun e w' => e = .returned (.bool true) ∧ Below w.heap.size w w' := by
  have HG := Lib.hid hg
  have HWD := Lib.hid (fun w hm => words_any s m w (by omega) hm)
  have HIN := words_within s.data.toList 0
  have HCT := wL_count s.data.toList
  clear hg
  unfold WordsPost at HWD
  cases hw : wordsL s.data.toList 0 with
  | error j =>
    obtain ⟨h1, h2, h3⟩ := words_err hw
    obtain ⟨hj0, hj1⟩ := HIN.1 j hw
    rw [h1, h2, h3] at HWD
    rw [← size_list] at hj1
    have hj2 : j < (s.size : Int) := by omega
    clear HIN HCT h1 h2 h3 hw hj1
    go_enter Tryd.func5, Tryd.ntmps5
    go_wp2_with fail
    refine (HWD.out _ HG.out.cell).mono ?_
    rintro e w1 ⟨A1, c1, rfl, v1, hb1⟩
    have L1 := Lib.hid hb1
    clear hb1 v1
    by_cases hbig : 600 < s.size
    · go_wp2_with fail
      refine (alive_any m _ (HG.out.next L1.out)).mono ?_
      rintro e w2 ⟨rfl, hb2⟩
      have L2 := Lib.hid (bnext L1.out L1.out.size hb2)
      clear hb2
      go_wp2
      go_ret
      exact ⟨rfl, L2.out⟩
    · go_wp2_with fail
      refine (alive_any m _ (HG.out.next L1.out)).mono ?_
      rintro e w2 ⟨rfl, hb2⟩
      have L2 := Lib.hid (bnext L1.out L1.out.size hb2)
      clear hb2
      go_wp2
      go_ret
      exact ⟨rfl, L2.out⟩
  | ok l =>
    obtain ⟨h1, h2, h3⟩ := words_ok hw
    have HWI := Lib.hid (HIN.2 l hw)
    have HRI := Lib.hid (words_rise _ _ _ hw)
    have hcame := words_came _ _ _ hw
    rw [h1, h2, h3] at HWD
    rw [h1, ← size_list] at HCT
    clear HIN h1 h2 h3 hw
    by_cases hbig : 600 < s.size
    · clear hcame HWI HRI
      go_enter Tryd.func5, Tryd.ntmps5
      go_wp2_with fail
      refine (HWD.out _ HG.out.cell).mono ?_
      rintro e w1 ⟨A1, c1, rfl, v1, hb1⟩
      have L1 := Lib.hid hb1
      clear hb1 v1
      go_wp2_with fail
      refine (alive_any m _ (HG.out.next L1.out)).mono ?_
      rintro e w2 ⟨rfl, hb2⟩
      have L2 := Lib.hid (bnext L1.out L1.out.size hb2)
      clear hb2
      go_wp2
      go_ret
      exact ⟨rfl, L2.out⟩
    · obtain ⟨m2, hm2, hmm⟩ := words_again l.length l rfl hcame
      obtain ⟨hlen, hparts⟩ := same_parts hmm
      have HPA := Lib.hid hparts
      have hts := textL_small l hcame
      have HX := Lib.hid (fun (A : Option Addr) (cap : Nat) (w' : World) (hv : At wc 3 w' w'.heap.size A l) hg => text_any A cap l m w' hv (came_fit hcame) (by omega) hg)
      obtain ⟨T, hTT⟩ : ∃ T : ByteArray, ⟨(textL l).toArray⟩ = T := ⟨_, rfl⟩
      have hTl : T.data.toList = textL l := by rw [← hTT]
      have hTs : T.size ≤ 4194304 := by rw [size_list, hTl]; omega
      rw [hTT] at HX
      have HWT := Lib.hid (fun w hm => words_any T m w hTs hm)
      unfold WordsPost at HWT
      rw [hTl] at HWT
      obtain ⟨k1, k2, k3⟩ := words_ok hm2
      rw [k1, k2, k3] at HWT
      rw [hlen] at HWT
      have HLE := Lib.hid hlen
      clear hparts hmm hm2 hcame hts hTT hTl k1 k2 k3 hlen
      go_enter Tryd.func5, Tryd.ntmps5
      go_wp2_with fail
      refine (HWD.out _ HG.out.cell).mono ?_
      rintro e w1 ⟨A1, c1, rfl, v1, hb1⟩
      have L1 := Lib.hid hb1
      have V1 := Lib.hid v1
      clear hb1 v1
      go_wp2_with fail
      refine (HX.out A1 c1 _ V1.out (HG.out.next L1.out)).mono ?_
      rintro e w2 ⟨rfl, hb2⟩
      have L2 := Lib.hid (bnext L1.out L1.out.size hb2)
      have V2 := Lib.hid ((V1.out.below hb2).more hb2.size)
      clear hb2 V1
      go_wp2_with fail
      refine (HWT.out _ (HG.out.next L2.out).cell).mono ?_
      rintro e w3 ⟨A3, c3, rfl, v3, hb3⟩
      have L3 := Lib.hid (bnext L2.out L2.out.size hb3)
      have V23 := Lib.hid ((V2.out.below hb3).more hb3.size)
      have V3 := Lib.hid v3
      clear hb3 v3 V2
      go_wp2
      go_loopw [9] (fun t wr => ∃ i : Nat, i ≤ l.length ∧ t = .int .i64 i ∧ Below w3.heap.size w3 wr) (fun t _ => l.length - (intOf t).toNat)
      case atStart => exact ⟨0, by omega, rfl, Below.refl _ _⟩
      case round =>
        obtain ⟨i, hi, rfl, hbel⟩ := hrel
        have HL := Lib.hid hbel
        have VA := Lib.hid (V23.out.below hbel)
        have VB := Lib.hid (V3.out.below hbel)
        have L4 := Lib.hid (bnext L3.out L3.out.size hbel)
        clear hbel
        by_cases hil : i < l.length
        · obtain ⟨ad, rfl, ga, c0, c1', c2⟩ := at_word VA.out i hil
          obtain ⟨bd, rfl, gb, d0, d1, d2⟩ := at_word VB.out i (by rw [HLE.out]; exact hil)
          have hp := HPA.out i hil (by rw [HLE.out]; exact hil)
          have hw0 := HWI.out l[i] (List.getElem_mem hil)
          rw [hp.1] at d0
          rw [hp.2] at d1
          by_cases h0 : i = 0
          · subst h0
            obtain ⟨x, hx⟩ : ∃ x, l[0] = x := ⟨_, rfl⟩
            rw [hx] at c0 c1' c2 d0 d1 hw0
            obtain ⟨k, t, p⟩ := x
            obtain ⟨U, hU⟩ : ∃ U : ByteArray, ⟨t.toArray⟩ = U := ⟨_, rfl⟩
            dsimp only at c0 c1' c2 d0 d1 hw0
            rw [hU] at c1' d1
            rw [← size_list] at hw0
            have f0 : decide (p < 0) = false := by simp; omega
            have f1 : decide ((s.size : Int) ≤ p) = false := by simp; omega
            rw [show ad.add (0 * 3) = ad by unfold Addr.add; rw [if_pos (by omega)]] at c0 c1' c2
            rw [show bd.add (0 * 3) = bd by unfold Addr.add; rw [if_pos (by omega)]] at d0 d1
            clear hU hp hw0 d2 hx
            go_wp2
            go_quiet (fail)
            go_wp2
            go_roundw
            case rel => exact ⟨1, by omega, by go_num, drewN_below HL.out _⟩
            case measure => simp [intOf]; omega
          · obtain ⟨j, hj⟩ : ∃ j, i = j + 1 := ⟨i - 1, by omega⟩
            have hjl : j < l.length := by omega
            obtain ⟨ad', e', ga', b0, b1, b2⟩ := at_word VA.out j hjl
            obtain rfl : ad = ad' := Option.some.inj e'
            have hr := List.pairwise_iff_getElem.1 HRI.out j i hjl hil (by omega)
            obtain ⟨pj, hpj⟩ : ∃ pj, l[j].2.2 = pj := ⟨_, rfl⟩
            rw [hpj] at b2 hr
            obtain ⟨x, hx⟩ : ∃ x, l[i] = x := ⟨_, rfl⟩
            rw [hx] at c0 c1' c2 d0 d1 hw0 hr
            obtain ⟨k, t, p⟩ := x
            obtain ⟨U, hU⟩ : ∃ U : ByteArray, ⟨t.toArray⟩ = U := ⟨_, rfl⟩
            dsimp only at c0 c1' c2 d0 d1 hw0 hr
            rw [hU] at c1' d1
            rw [← size_list] at hw0
            have f0 : decide (p < 0) = false := by simp; omega
            have f1 : decide ((s.size : Int) ≤ p) = false := by simp; omega
            have f2 : decide (p ≤ pj) = false := by simp; omega
            have f3 : decide ((0 : Int) < (i : Int)) = true := by simp; omega
            have f4 : IntKind.i64.wrap ((i : Int) - 1) = (j : Int) := by rw [IntKind.wrap_i64]; omega
            have hi0 : 0 < i := by omega
            clear hU hp hw0 d2 e' hpj hx b0 b1 hr hj h0
            go_wp2
            go_quiet (fail)
            go_wp2
            go_roundw
            case rel => exact ⟨i + 1, by omega, by go_num, drewN_below HL.out _⟩
            case measure => simp [intOf]; omega
        · obtain rfl : i = l.length := by omega
          go_wp2_with fail
          refine (alive_any m _ (HG.out.next L4.out)).mono ?_
          rintro e w5 ⟨rfl, hb5⟩
          have L5 := Lib.hid (bnext L4.out L4.out.size hb5)
          clear hb5
          go_wp2
          go_ret
          exact ⟨rfl, L5.out⟩
end Go.Proofs.YthkdpfadjbhmoaaDoor.lexAgain
