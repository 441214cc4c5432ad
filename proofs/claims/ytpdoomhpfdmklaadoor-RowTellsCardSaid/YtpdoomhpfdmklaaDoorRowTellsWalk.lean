/- The walk of RowTells. -/
import Derived.Test.YtpdoomhpfdmklaaDoorRowAlive
import Derived.Test.YtpdoomhpfdmklaaDoorRowOpen
import Derived.Test.YtpdoomhpfdmklaaDoorRowCmpPure
namespace Go.Proofs.YtpdoomhpfdmklaaDoor.rowTells
open Go.ChangeShapes Go.WideShapes Go.ChangeAt Go.RowKit Val Go.Proofs.YtpdoomhpfdmklaaDoor.Code Go.Proofs.YtpdoomhpfdmklaaDoor.RowOpen
set_option linter.unusedVariables false

theorem small_is (A : Option Addr) (cap : Nat) (l : List (Int × Int × ByteArray)) (b : Bool) (h : smallB l = b) (w : World) (hv : Vals w w.heap.size A l) (hs : Short l) (hl : l.length ≤ 140737488355328) :
    Calls Tryd.prog 7 #[.slice A l.length cap] w fun e w' => e = .returned (.bool b) ∧ w = w' := by
  have := small_any A cap l w hv hs hl
  rw [h] at this
  exact this
theorem small_le {l : List (Int × Int × ByteArray)} (h : smallB l = true) : l.length ≤ 30 := by
  unfold smallB at h
  simp at h
  exact h.1
theorem rowSame_is (A B : Option Addr) (ca cb : Nat) (a b : List (Int × Int × ByteArray)) (z : Bool) (hz : (cmpL a b == 0) = z) (w : World) (hA : Vals w w.heap.size A a) (hB : Vals w w.heap.size B b) (hl : a.length ≤ 140737488355328) (hl2 : b.length ≤ 140737488355328) :
    Calls Tryd.prog 19 #[.slice A a.length ca, .slice B b.length cb] w fun e w' => e = .returned (.bool z) ∧ Below w.heap.size w w' := by
  have := rowSame_any A B ca cb a b w hA hB hl hl2
  rw [hz] at this
  exact this
theorem rrowSame_is (A B : Option Addr) (ca cb : Nat) (a b : List (Int × Int × ByteArray)) (z : Bool) (hz : decide (a = b) = z) (w : World) (hA : Vals w w.heap.size A a) (hB : Vals w w.heap.size B b) (hl : a.length ≤ 140737488355328) (hl2 : b.length ≤ 140737488355328) :
    Calls Tryd.prog 20 #[.slice A a.length ca, .slice B b.length cb] w fun e w' => e = .returned (.bool z) ∧ Below w.heap.size w w' := by
  have := rrowSame_any A B ca cb a b w hA hB hl hl2
  rw [hz] at this
  exact this
set_option maxHeartbeats 8000000 in
theorem walkX (A B C : Option Addr) (ca cb cc : Nat) (a b : List (Int × Int × ByteArray)) (ks : List Int) (m : Int) (w : World) (iA : RowIn w A a) (iB : RowIn w B b) (iC : Ints w w.heap.size C ks) (lC : ks.length ≤ 30) (hg : Glob w.heap.size m w) (pA : smallB a = true) (pB : smallB b = true) :
    Calls Tryd.prog 3 #[.slice A a.length ca, .slice B b.length cb, .slice C ks.length cc] w fun e w' => e = .returned (.bool true) ∧ Below w.heap.size w w' := by
  obtain ⟨hA, fA, sA, lA⟩ := iA
  obtain ⟨hB, fB, sB, lB⟩ := iB
  have lA2 := small_le pA
  have lB2 := small_le pB
  have TA := Lib.hid (small_is A ca a true pA w hA sA (by omega))
  have TB := Lib.hid (small_is B cb b true pB w hB sB (by omega))
  have VA := Lib.hid hA
  have VB := Lib.hid hB
  have VC := Lib.hid iC
  have FA := Lib.hid fA
  have HG := Lib.hid hg
  have e30 : decide ((30 : Int) < (ks.length : Int)) = false := by simp; omega
  obtain ⟨z, hz⟩ : ∃ z, decide (a = b) = z := ⟨_, rfl⟩
  have HZ1 := Lib.hid ((cmpL_same a b).trans hz)
  have HZ2 := Lib.hid hz
  obtain ⟨r, hr⟩ : ∃ r, rightR a = r := ⟨_, rfl⟩
  have HR := Lib.hid hr
  clear hA fA sA hB fB sB pA pB hg iC hz hr
  go_enter Tryd.func3, Tryd.ntmps3
  go_wp2_with fail
  refine TA.out.mono ?_
  rintro e w' ⟨rfl, rfl⟩
  go_wp2_with fail
  refine TB.out.mono ?_
  rintro e w' ⟨rfl, rfl⟩
  clear TA TB
  go_wp2_with fail
  refine (alive_any m _ HG.out).mono ?_
  rintro e w1 ⟨rfl, hb1⟩
  have L1 := Lib.hid hb1
  clear hb1
  go_wp2_with fail
  refine (rowRight_is A ca a r HR.out _ ((VA.out.below L1.out).more L1.out.size) FA.out (by omega)).mono ?_
  rintro e w2 ⟨rfl, hb2⟩
  have L2 := Lib.hid (bnext L1.out L1.out.size hb2)
  clear hb2
  go_wp2_with fail
  refine (rrowRight_is A ca a r HR.out _ ((VA.out.below L2.out).more L2.out.size) (by omega)).mono ?_
  rintro e w3 ⟨rfl, hb3⟩
  have L3 := Lib.hid (bnext L2.out L2.out.size hb3)
  clear hb3
  go_wp2_with fail
  refine (rowShow_any A ca a m _ ((VA.out.below L3.out).more L3.out.size) FA.out (by omega) (HG.out.next L3.out)).mono ?_
  rintro e w4 ⟨rfl, hb4⟩
  have L4 := Lib.hid (bnext L3.out L3.out.size hb4)
  clear hb4
  go_wp2_with fail
  refine (rrowShow_any A ca a _ ((VA.out.below L4.out).more L4.out.size) FA.out (by omega)).mono ?_
  rintro e w5 ⟨rfl, hb5⟩
  have L5 := Lib.hid (bnext L4.out L4.out.size hb5)
  clear hb5
  go_wp2_with fail
  refine (rowKey_any A ca a m _ ((VA.out.below L5.out).more L5.out.size) FA.out (by omega) (HG.out.below L5.out).cell).mono ?_
  rintro e w6 ⟨rfl, hb6⟩
  have L6 := Lib.hid (bnext L5.out L5.out.size hb6)
  clear hb6
  go_wp2_with fail
  refine (rrowKey_any A ca a _ ((VA.out.below L6.out).more L6.out.size) FA.out (by omega)).mono ?_
  rintro e w7 ⟨rfl, hb7⟩
  have L7 := Lib.hid (bnext L6.out L6.out.size hb7)
  clear hb7
  go_wp2_with fail
  refine (rowFits_any A C ca cc a ks _ ((VA.out.below L7.out).more L7.out.size) ((VC.out.below L7.out).more L7.out.size) FA.out (by omega) (by omega)).mono ?_
  rintro e w8 ⟨rfl, hb8⟩
  have L8 := Lib.hid (bnext L7.out L7.out.size hb8)
  clear hb8
  go_wp2_with fail
  refine (rrowFits_any A C ca cc a ks _ ((VA.out.below L8.out).more L8.out.size) ((VC.out.below L8.out).more L8.out.size) (by omega) (by omega)).mono ?_
  rintro e w9 ⟨rfl, hb9⟩
  have L9 := Lib.hid (bnext L8.out L8.out.size hb9)
  clear hb9
  go_wp2_with fail
  refine (rowCompare_any A B ca cb a b _ ((VA.out.below L9.out).more L9.out.size) ((VB.out.below L9.out).more L9.out.size) (by omega) (by omega)).mono ?_
  rintro e w10 ⟨rfl, hb10⟩
  have L10 := Lib.hid (bnext L9.out L9.out.size hb10)
  clear hb10
  go_wp2_with fail
  refine (rrowCompare_any A B ca cb a b _ ((VA.out.below L10.out).more L10.out.size) ((VB.out.below L10.out).more L10.out.size) (by omega) (by omega)).mono ?_
  rintro e w11 ⟨rfl, hb11⟩
  have L11 := Lib.hid (bnext L10.out L10.out.size hb11)
  clear hb11
  go_wp2_with fail
  refine (rowSame_is A B ca cb a b z HZ1.out _ ((VA.out.below L11.out).more L11.out.size) ((VB.out.below L11.out).more L11.out.size) (by omega) (by omega)).mono ?_
  rintro e w12 ⟨rfl, hb12⟩
  have L12 := Lib.hid (bnext L11.out L11.out.size hb12)
  clear hb12
  go_wp2_with fail
  refine (rrowSame_is A B ca cb a b z HZ2.out _ ((VA.out.below L12.out).more L12.out.size) ((VB.out.below L12.out).more L12.out.size) (by omega) (by omega)).mono ?_
  rintro e w13 ⟨rfl, hb13⟩
  have L13 := Lib.hid (bnext L12.out L12.out.size hb13)
  clear hb13
  go_wp2
  go_ret
  exact ⟨by first | rfl | simp, L13.out⟩
set_option maxHeartbeats 4000000 in
/-- the walk where one is not gone through -/
theorem walkN (A B C : Option Addr) (ca cb cc : Nat) (a b : List (Int × Int × ByteArray)) (ks : List Int) (m : Int) (w : World) (iA : RowIn w A a) (iB : RowIn w B b) (lC : ks.length ≤ 17592186044416) (hg : Glob w.heap.size m w)
    (p q t : Bool) (pA : smallB a = p) (pB : smallB b = q) (pC : decide ((30 : Int) < (ks.length : Int)) = t) (hne : ¬ (p = true ∧ q = true ∧ t = false)) :
    Calls Tryd.prog 3 #[.slice A a.length ca, .slice B b.length cb, .slice C ks.length cc] w fun e w' => e = .returned (.bool true) ∧ Below w.heap.size w w' := by
  obtain ⟨hA, fA, sA, lA⟩ := iA
  obtain ⟨hB, fB, sB, lB⟩ := iB
  have TA := Lib.hid (small_is A ca a p pA w hA sA (by omega))
  have TB := Lib.hid (small_is B cb b q pB w hB sB (by omega))
  have HV := Lib.hid (alive_any m w hg)
  have HN := Lib.hid hne
  have HC := Lib.hid pC
  clear hA fA sA hB fB sB pA pB hg hne pC
  go_enter Tryd.func3, Tryd.ntmps3
  go_wp2_with fail
  refine TA.out.mono ?_
  rintro e w' ⟨rfl, rfl⟩
  go_wp2_with fail
  refine TB.out.mono ?_
  rintro e w' ⟨rfl, rfl⟩
  clear TA TB
  cases p <;> cases q <;> cases t
  all_goals first
    | (exfalso; exact HN.out ⟨rfl, rfl, rfl⟩)
    | (clear HN
       have hC := HC.out
       clear HC
       go_wp2_with fail
       refine HV.out.mono ?_
       rintro e w4 ⟨rfl, hb4⟩
       have L4 := Lib.hid hb4
       clear hb4
       go_wp2
       go_ret
       exact ⟨rfl, L4.out⟩)
theorem walk (A : Option Addr) (ca : Nat) (a : List (Int × Int × ByteArray)) (B : Option Addr) (cb : Nat) (b : List (Int × Int × ByteArray)) (C : Option Addr) (cc : Nat) (ks : List Int) (m : Int) (w : World) (iA : RowIn w A a) (iB : RowIn w B b) (iC : Ints w w.heap.size C ks ∧ ks.length ≤ 17592186044416) (hg : Glob w.heap.size m w) :
    Calls Tryd.prog 3 #[.slice A a.length ca, .slice B b.length cb, .slice C ks.length cc] w fun e w' => e = .returned (.bool true) ∧ Below w.heap.size w w' := by
  by_cases h : smallB a = true ∧ smallB b = true ∧ decide ((30 : Int) < (ks.length : Int)) = false
  · obtain ⟨h1, h2, h3⟩ := h
    exact walkX A B C ca cb cc a b ks m w iA iB iC.1 (by simp at h3; omega) hg h1 h2
  · exact walkN A B C ca cb cc a b ks m w iA iB iC.2 hg _ _ _ rfl rfl rfl h
end Go.Proofs.YtpdoomhpfdmklaaDoor.rowTells
