/- The walk of CodeOrder. -/
import Derived.Test.YtmaecoidoejipaaDoorCodeBackWalk
namespace Go.Proofs.YtmaecoidoejipaaDoor.codeOrder
open Go.ChangeShapes Go.WideShapes Go.ChangeAt Go.RowKit Val Go.Proofs.YtmaecoidoejipaaDoor.Code codeEncodes codeBack
set_option linter.unusedVariables false

theorem cmpL_range : ∀ a b : List (Int × Int × ByteArray), cmpL a b = -1 ∨ cmpL a b = 0 ∨ cmpL a b = 1
  | [], [] => by simp [cmpL]
  | [], _ :: _ => by simp [cmpL]
  | _ :: _, [] => by simp [cmpL]
  | a :: l, b :: m => by
    have h1 := cmpV_range a.1 a.2.1 a.2.2 b.1 b.2.1 b.2.2
    have h2 := cmpL_range l m
    rw [cmpL]
    split
    · exact h1
    · exact h2
theorem rcmpl_is (A B : Option Addr) (ca cb : Nat) (a b : List (Int × Int × ByteArray)) (x : Int) (hx : cmpL a b = x) (w : World) (hA : Vals w w.heap.size A a) (hB : Vals w w.heap.size B b) (hl : a.length ≤ 140737488355328) (hl2 : b.length ≤ 140737488355328) :
    Calls Tryd.prog 14 #[.slice A a.length ca, .slice B b.length cb] w fun e w' => e = .returned (.int .i64 x) ∧ Below w.heap.size w w' := by
  have := rcmpl_any A B ca cb a b w hA hB hl hl2
  rw [hx] at this
  exact this
theorem toList_mk (l : List UInt8) : (⟨l.toArray⟩ : ByteArray).toList = l := by rw [ByteArray.toList_eq]
set_option maxHeartbeats 2000000 in
/-- the walk where all fit and are right, and compare so -/
theorem walkX (A B : Option Addr) (ca cb : Nat) (a b : List (Int × Int × ByteArray)) (m : Int) (w : World) (hA : Vals w w.heap.size A a) (fA : FitL a) (sA : Short a) (hB : Vals w w.heap.size B b) (fB : FitL b) (sB : Short b) (lA : a.length ≤ 1048576) (lB : b.length ≤ 1048576)
    (pA : fitsB a = true) (pB : fitsB b = true) (rA : rightL a = true) (rB : rightL b = true) (X Y : ByteArray) (hX : encS a = X) (hY : encS b = Y) (x : Int) (hx : cmpL a b = x) (l z : Bool) (hl : decide (x < 0) = l) (hz : (x == 0) = z) (hless : Op.bytesLess X.toList Y.toList = l) (heq : (X.toList == Y.toList) = z) (hm : w.cell? ⟨0, 0, none⟩ = some (.int .i64 m)) :
    Calls Tryd.prog 5 #[.slice A a.length ca, .slice B b.length cb] w fun e w' => e = .returned (.bool true) ∧ Below w.heap.size w w' := by
  have hlt : 0 < w.heap.size := World.block_lt_of_cell? _ _ hm
  have TA := Lib.hid (fits_is A ca a true pA w hA sA (by omega))
  have TB := Lib.hid (fits_is B cb b true pB w hB sB (by omega))
  have VA := Lib.hid hA
  have VB := Lib.hid hB
  have FB := Lib.hid fB
  have HM := Lib.hid hm
  have EA := Lib.hid (encode_is A ca a X 0 hX (enc_yes rA).2 m w hA fA (by omega) hm)
  have EB := Lib.hid (And.intro hY (enc_yes rB).2)
  have HC := Lib.hid hx
  clear hA fA sA hB fB sB pA pB rA rB hX hY hm hx
  go_enter Tryd.func5, Tryd.ntmps5
  go_wp2_with fail
  refine TA.out.mono ?_
  rintro e w' ⟨rfl, rfl⟩
  go_wp2_with fail
  refine TB.out.mono ?_
  rintro e w' ⟨rfl, rfl⟩
  go_wp2_with fail
  refine EA.out.mono ?_
  rintro e w1 ⟨rfl, hb1⟩
  have L1 := Lib.hid hb1
  clear hb1
  go_wp2_with fail
  refine (encode_is B cb b Y 0 EB.out.1 EB.out.2 m _ ((VB.out.below L1.out).more L1.out.size) FB.out (by omega) (by rw [L1.out.cell (p := ⟨0, 0, none⟩) hlt]; exact HM.out)).mono ?_
  rintro e w2 ⟨rfl, hb2⟩
  have L2 := Lib.hid (bnext L1.out L1.out.size hb2)
  clear hb2
  go_wp2_with fail
  refine (rcmpl_is A B ca cb a b _ HC.out _ ((VA.out.below L2.out).more L2.out.size) ((VB.out.below L2.out).more L2.out.size) (by omega) (by omega)).mono ?_
  rintro e w3 ⟨rfl, hb3⟩
  have L3 := Lib.hid (bnext L2.out L2.out.size hb3)
  clear hb3
  go_wp2_with fail
  refine (alive_any m _ (by rw [L3.out.cell (p := ⟨0, 0, none⟩) hlt]; exact HM.out)).mono ?_
  rintro e w4 ⟨rfl, hb4⟩
  have L4 := Lib.hid (bnext L3.out L3.out.size hb4)
  clear hb4
  go_wp2
  go_ret
  exact ⟨by first | rfl | simp, L4.out⟩
set_option maxHeartbeats 4000000 in
/-- the walk where one doesn't fit, or has no bytes -/
theorem walkN (A B : Option Addr) (ca cb : Nat) (a b : List (Int × Int × ByteArray)) (m : Int) (w : World) (hA : Vals w w.heap.size A a) (fA : FitL a) (sA : Short a) (hB : Vals w w.heap.size B b) (fB : FitL b) (sB : Short b) (lA : a.length ≤ 1048576) (lB : b.length ≤ 1048576)
    (p q : Bool) (E F : Int) (pA : fitsB a = p) (pB : fitsB b = q) (rA : encE a = E) (rB : encE b = F) (hE : E = 0 ∨ E = 1) (hF : F = 0 ∨ F = 1) (hne : ¬ (p = true ∧ q = true ∧ E = 0 ∧ F = 0)) (hm : w.cell? ⟨0, 0, none⟩ = some (.int .i64 m)) :
    Calls Tryd.prog 5 #[.slice A a.length ca, .slice B b.length cb] w fun e w' => e = .returned (.bool true) ∧ Below w.heap.size w w' := by
  have hlt : 0 < w.heap.size := World.block_lt_of_cell? _ _ hm
  have TA := Lib.hid (fits_is A ca a p pA w hA sA (by omega))
  have TB := Lib.hid (fits_is B cb b q pB w hB sB (by omega))
  have VB := Lib.hid hB
  have FB := Lib.hid fB
  have HM := Lib.hid hm
  have EA := Lib.hid (encode_is A ca a (encS a) E rfl rA m w hA fA (by omega) hm)
  have EB := Lib.hid rB
  have HE := Lib.hid hE
  have HF := Lib.hid hF
  have HN := Lib.hid hne
  clear hA fA sA hB fB sB pA pB rA rB hm hE hF hne
  go_enter Tryd.func5, Tryd.ntmps5
  go_wp2_with fail
  refine TA.out.mono ?_
  rintro e w' ⟨rfl, rfl⟩
  go_wp2_with fail
  refine TB.out.mono ?_
  rintro e w' ⟨rfl, rfl⟩
  go_wp2_with fail
  refine EA.out.mono ?_
  rintro e w1 ⟨rfl, hb1⟩
  have L1 := Lib.hid hb1
  clear hb1 EA TA TB
  go_wp2_with fail
  refine (encode_is B cb b (encS b) _ rfl EB.out m _ ((VB.out.below L1.out).more L1.out.size) FB.out (by omega) (by rw [L1.out.cell (p := ⟨0, 0, none⟩) hlt]; exact HM.out)).mono ?_
  rintro e w2 ⟨rfl, hb2⟩
  have L2 := Lib.hid (bnext L1.out L1.out.size hb2)
  clear hb2 EB
  have hE := HE.out
  have hF := HF.out
  clear HE HF
  rcases hE with rfl | rfl <;> rcases hF with rfl | rfl <;> cases p <;> cases q
  all_goals first
    | (exfalso; exact HN.out ⟨rfl, rfl, rfl, rfl⟩)
    | (clear HN
       go_wp2_with fail
       refine (alive_any m _ (by rw [L2.out.cell (p := ⟨0, 0, none⟩) hlt]; exact HM.out)).mono ?_
       rintro e w4 ⟨rfl, hb4⟩
       have L4 := Lib.hid (bnext L2.out L2.out.size hb4)
       clear hb4
       go_wp2
       go_ret
       exact ⟨rfl, L4.out⟩)
theorem encE_range (l : List (Int × Int × ByteArray)) : encE l = 0 ∨ encE l = 1 := by unfold encE; split <;> simp
theorem encE_right {l : List (Int × Int × ByteArray)} (h : encE l = 0) : rightL l = true := by
  unfold encE at h
  split at h
  · assumption
  · omega
theorem walk (A : Option Addr) (ca : Nat) (a : List (Int × Int × ByteArray)) (B : Option Addr) (cb : Nat) (b : List (Int × Int × ByteArray)) (m : Int) (w : World) (hA : Vals w w.heap.size A a) (fA : FitL a) (sA : Short a) (lA : a.length ≤ 1048576) (hB : Vals w w.heap.size B b) (fB : FitL b) (sB : Short b) (lB : b.length ≤ 1048576) (hm : w.cell? ⟨0, 0, none⟩ = some (.int .i64 m)) :
    Calls Tryd.prog 5 #[.slice A a.length ca, .slice B b.length cb] w fun e w' => e = .returned (.bool true) ∧ Below w.heap.size w w' := by
  by_cases h : fitsB a = true ∧ fitsB b = true ∧ encE a = 0 ∧ encE b = 0
  · obtain ⟨h1, h2, h3, h4⟩ := h
    have r1 := encE_right h3
    have r2 := encE_right h4
    have hc := cmp_enc a b r1 r2 fA fB
    refine walkX A B ca cb a b m w hA fA sA hB fB sB lA lB h1 h2 r1 r2 ⟨(encL a).toArray⟩ ⟨(encL b).toArray⟩ (enc_yes r1).1 (enc_yes r2).1 (cmpL a b) rfl _ _ rfl rfl ?_ ?_ hm
    · rw [toList_mk, toList_mk, less_cmp, hc]
    · rw [toList_mk, toList_mk, same_cmp, hc]
      rfl
  · exact walkN A B ca cb a b m w hA fA sA hB fB sB lA lB (fitsB a) (fitsB b) (encE a) (encE b) rfl rfl rfl rfl (encE_range a) (encE_range b) h hm
end Go.Proofs.YtmaecoidoejipaaDoor.codeOrder
