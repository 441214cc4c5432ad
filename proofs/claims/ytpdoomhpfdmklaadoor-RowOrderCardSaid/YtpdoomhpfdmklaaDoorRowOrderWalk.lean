/- The walk of RowOrder. -/
import Derived.Test.YtpdoomhpfdmklaaDoorRowTellsWalk
namespace Go.Proofs.YtpdoomhpfdmklaaDoor.rowOrder
open Go.ChangeShapes Go.WideShapes Go.ChangeAt Go.RowKit Val Go.Proofs.YtpdoomhpfdmklaaDoor.Code Go.Proofs.YtpdoomhpfdmklaaDoor.RowOpen rowTells
set_option linter.unusedVariables false

theorem rowCompare_is (A B : Option Addr) (ca cb : Nat) (a b : List (Int × Int × ByteArray)) (x : Int) (hx : cmpL a b = x) (w : World) (hA : Vals w w.heap.size A a) (hB : Vals w w.heap.size B b) (hl : a.length ≤ 140737488355328) (hl2 : b.length ≤ 140737488355328) :
    Calls Tryd.prog 17 #[.slice A a.length ca, .slice B b.length cb] w fun e w' => e = .returned (.int .i64 x) ∧ Below w.heap.size w w' := by
  have := rowCompare_any A B ca cb a b w hA hB hl hl2
  rw [hx] at this
  exact this
theorem rowKey_is (A : Option Addr) (cap : Nat) (l : List (Int × Int × ByteArray)) (X : ByteArray) (hX : keyS l = X) (m : Int) (w : World) (hv : Vals w w.heap.size A l) (hf : FitL l) (hl : l.length ≤ 300000000000) (hm : w.cell? ⟨0, 0, none⟩ = some (.int .i64 m)) :
    Calls Tryd.prog 13 #[.slice A l.length cap] w fun e w' => e = .returned (.string X) ∧ Below w.heap.size w w' := by
  have := rowKey_any A cap l m w hv hf hl hm
  rw [hX] at this
  exact this
theorem toList_mk (l : List UInt8) : (⟨l.toArray⟩ : ByteArray).toList = l := by rw [ByteArray.toList_eq]
set_option maxHeartbeats 8000000 in
theorem walkX (A B : Option Addr) (ca cb : Nat) (a b : List (Int × Int × ByteArray)) (m : Int) (w : World) (iA : RowIn w A a) (iB : RowIn w B b) (hg : Glob w.heap.size m w) (pA : smallB a = true) (pB : smallB b = true) (rA : rightR a = true) (rB : rightR b = true)
    (X Y : ByteArray) (hX : keyS a = X) (hY : keyS b = Y) (x : Int) (hx : cmpL a b = x) (hx3 : x = -1 ∨ x = 0 ∨ x = 1) (l z : Bool) (hl : decide (x < 0) = l) (hz : (x == 0) = z) (hless : Op.bytesLess X.toList Y.toList = l) (heq : (X.toList == Y.toList) = z) :
    Calls Tryd.prog 5 #[.slice A a.length ca, .slice B b.length cb] w fun e w' => e = .returned (.bool true) ∧ Below w.heap.size w w' := by
  obtain ⟨hA, fA, sA, lA⟩ := iA
  obtain ⟨hB, fB, sB, lB⟩ := iB
  have lA2 := small_le pA
  have lB2 := small_le pB
  have TA := Lib.hid (small_is A ca a true pA w hA sA (by omega))
  have TB := Lib.hid (small_is B cb b true pB w hB sB (by omega))
  have VA := Lib.hid hA
  have VB := Lib.hid hB
  have FA := Lib.hid fA
  have FB := Lib.hid fB
  have HG := Lib.hid hg
  have RA := Lib.hid rA
  have RB := Lib.hid rB
  have EX := Lib.hid hX
  have EY := Lib.hid hY
  have HC := Lib.hid hx
  have HC2 := Lib.hid (show cmpL b a = -x by rw [cmpL_neg, hx])
  have HS := Lib.hid (show (cmpL a b == 0) = z by rw [hx]; exact hz)
  have HSS := Lib.hid (show (cmpL a a == 0) = true by rw [cmpL_self]; rfl)
  have hx1 : -1 ≤ x := by omega
  have hx2 : x ≤ 1 := by omega
  clear hA fA sA hB fB sB pA pB hg rA rB hX hY hx hx3
  go_enter Tryd.func5, Tryd.ntmps5
  go_wp2_with fail
  refine TA.out.mono ?_
  rintro e w' ⟨rfl, rfl⟩
  go_wp2_with fail
  refine TB.out.mono ?_
  rintro e w' ⟨rfl, rfl⟩
  clear TA TB
  go_wp2_with fail
  refine (rowRight_is A ca a true RA.out _ VA.out FA.out (by omega)).mono ?_
  rintro e w1 ⟨rfl, hb1⟩
  have L1 := Lib.hid hb1
  clear hb1
  go_wp2_with fail
  refine (rowRight_is B cb b true RB.out _ ((VB.out.below L1.out).more L1.out.size) FB.out (by omega)).mono ?_
  rintro e w2 ⟨rfl, hb2⟩
  have L2 := Lib.hid (bnext L1.out L1.out.size hb2)
  clear hb2
  go_wp2_with fail
  refine (rowCompare_is A B ca cb a b x HC.out _ ((VA.out.below L2.out).more L2.out.size) ((VB.out.below L2.out).more L2.out.size) (by omega) (by omega)).mono ?_
  rintro e w3 ⟨rfl, hb3⟩
  have L3 := Lib.hid (bnext L2.out L2.out.size hb3)
  clear hb3
  go_wp2_with fail
  refine (rowKey_is A ca a X EX.out m _ ((VA.out.below L3.out).more L3.out.size) FA.out (by omega) (HG.out.below L3.out).cell).mono ?_
  rintro e w4 ⟨rfl, hb4⟩
  have L4 := Lib.hid (bnext L3.out L3.out.size hb4)
  clear hb4
  go_wp2_with fail
  refine (rowKey_is B cb b Y EY.out m _ ((VB.out.below L4.out).more L4.out.size) FB.out (by omega) (HG.out.below L4.out).cell).mono ?_
  rintro e w5 ⟨rfl, hb5⟩
  have L5 := Lib.hid (bnext L4.out L4.out.size hb5)
  clear hb5
  go_wp2_with fail
  refine (alive_any m _ (HG.out.next L5.out)).mono ?_
  rintro e w6 ⟨rfl, hb6⟩
  have L6 := Lib.hid (bnext L5.out L5.out.size hb6)
  clear hb6
  go_wp2_with fail
  refine (rowCompare_is B A cb ca b a (-x) HC2.out _ ((VB.out.below L6.out).more L6.out.size) ((VA.out.below L6.out).more L6.out.size) (by omega) (by omega)).mono ?_
  rintro e w7 ⟨rfl, hb7⟩
  have L7 := Lib.hid (bnext L6.out L6.out.size hb7)
  clear hb7
  go_wp2_with fail
  refine (rowSame_is A B ca cb a b z HS.out _ ((VA.out.below L7.out).more L7.out.size) ((VB.out.below L7.out).more L7.out.size) (by omega) (by omega)).mono ?_
  rintro e w8 ⟨rfl, hb8⟩
  have L8 := Lib.hid (bnext L7.out L7.out.size hb8)
  clear hb8
  go_wp2_with fail
  refine (rowSame_is A A ca ca a a true HSS.out _ ((VA.out.below L8.out).more L8.out.size) ((VA.out.below L8.out).more L8.out.size) (by omega) (by omega)).mono ?_
  rintro e w9 ⟨rfl, hb9⟩
  have L9 := Lib.hid (bnext L8.out L8.out.size hb9)
  clear hb9
  go_wp2
  go_ret
  exact ⟨by first | rfl | simp, L9.out⟩
set_option maxHeartbeats 8000000 in
/-- the walk where one is not gone through, or not right -/
theorem walkN (A B : Option Addr) (ca cb : Nat) (a b : List (Int × Int × ByteArray)) (m : Int) (w : World) (iA : RowIn w A a) (iB : RowIn w B b) (hg : Glob w.heap.size m w)
    (p q r s : Bool) (pA : smallB a = p) (pB : smallB b = q) (rA : rightR a = r) (rB : rightR b = s) (hne : ¬ (p = true ∧ q = true ∧ r = true ∧ s = true)) :
    Calls Tryd.prog 5 #[.slice A a.length ca, .slice B b.length cb] w fun e w' => e = .returned (.bool true) ∧ Below w.heap.size w w' := by
  obtain ⟨hA, fA, sA, lA⟩ := iA
  obtain ⟨hB, fB, sB, lB⟩ := iB
  have TA := Lib.hid (small_is A ca a p pA w hA sA (by omega))
  have TB := Lib.hid (small_is B cb b q pB w hB sB (by omega))
  have HN := Lib.hid hne
  have VB := Lib.hid hB
  have FB := Lib.hid fB
  have HG := Lib.hid hg
  have HR := Lib.hid (rowRight_is A ca a r rA w hA fA (by omega))
  have HS := Lib.hid rB
  clear hA fA sA hB fB sB pA pB hg hne rA rB
  go_enter Tryd.func5, Tryd.ntmps5
  go_wp2_with fail
  refine TA.out.mono ?_
  rintro e w' ⟨rfl, rfl⟩
  go_wp2_with fail
  refine TB.out.mono ?_
  rintro e w' ⟨rfl, rfl⟩
  clear TA TB
  by_cases hpq : p = true ∧ q = true
  · obtain ⟨rfl, rfl⟩ := hpq
    cases r
    · clear HN
      go_wp2_with fail
      refine HR.out.mono ?_
      rintro e w1 ⟨rfl, hb1⟩
      have L1 := Lib.hid hb1
      clear hb1
      go_wp2_with fail
      refine (alive_any m _ (HG.out.next L1.out)).mono ?_
      rintro e w4 ⟨rfl, hb4⟩
      have L4 := Lib.hid (bnext L1.out L1.out.size hb4)
      clear hb4
      go_wp2
      go_ret
      exact ⟨rfl, L4.out⟩
    · cases s
      · clear HN
        go_wp2_with fail
        refine HR.out.mono ?_
        rintro e w1 ⟨rfl, hb1⟩
        have L1 := Lib.hid hb1
        clear hb1
        go_wp2_with fail
        refine (rowRight_is B cb b false HS.out _ ((VB.out.below L1.out).more L1.out.size) FB.out (by omega)).mono ?_
        rintro e w2 ⟨rfl, hb2⟩
        have L2 := Lib.hid (bnext L1.out L1.out.size hb2)
        clear hb2
        go_wp2_with fail
        refine (alive_any m _ (HG.out.next L2.out)).mono ?_
        rintro e w4 ⟨rfl, hb4⟩
        have L4 := Lib.hid (bnext L2.out L2.out.size hb4)
        clear hb4
        go_wp2
        go_ret
        exact ⟨rfl, L4.out⟩
      · exact absurd ⟨rfl, rfl, rfl, rfl⟩ HN.out
  · clear HN HR HS
    have HPQ := Lib.hid hpq
    clear hpq
    cases p <;> cases q
    all_goals first
      | (exfalso; exact HPQ.out ⟨rfl, rfl⟩)
      | (clear HPQ
         go_wp2_with fail
         refine (alive_any m _ HG.out).mono ?_
         rintro e w4 ⟨rfl, hb4⟩
         have L4 := Lib.hid hb4
         clear hb4
         go_wp2
         go_ret
         exact ⟨rfl, L4.out⟩)
theorem walk (A : Option Addr) (ca : Nat) (a : List (Int × Int × ByteArray)) (B : Option Addr) (cb : Nat) (b : List (Int × Int × ByteArray)) (m : Int) (w : World) (iA : RowIn w A a) (iB : RowIn w B b) (hg : Glob w.heap.size m w) :
    Calls Tryd.prog 5 #[.slice A a.length ca, .slice B b.length cb] w fun e w' => e = .returned (.bool true) ∧ Below w.heap.size w w' := by
  by_cases h : smallB a = true ∧ smallB b = true ∧ rightR a = true ∧ rightR b = true
  · obtain ⟨h1, h2, h3, h4⟩ := h
    have r1 : rightL a = true := by unfold rightR at h3; simp at h3; exact h3.2
    have r2 : rightL b = true := by unfold rightR at h4; simp at h4; exact h4.2
    have hc := cmp_enc a b r1 r2 iA.2.1 iB.2.1
    refine walkX A B ca cb a b m w iA iB hg h1 h2 h3 h4 ⟨(encL a).toArray⟩ ⟨(encL b).toArray⟩ ((key_yes h3).trans (enc_yes r1).1) ((key_yes h4).trans (enc_yes r2).1) (cmpL a b) rfl (cmpL_range a b) _ _ rfl rfl ?_ ?_
    · rw [toList_mk, toList_mk, less_cmp, hc]
    · rw [toList_mk, toList_mk, same_cmp, hc]
      rfl
  · exact walkN A B ca cb a b m w iA iB hg _ _ _ _ rfl rfl rfl rfl h
end Go.Proofs.YtpdoomhpfdmklaaDoor.rowOrder
