/- The walk of CodeEncodes. -/
import Derived.Test.YtmaecoidoejipaaDoorCodeAlive
namespace Go.Proofs.YtmaecoidoejipaaDoor.codeEncodes
open Go.ChangeShapes Go.WideShapes Go.ChangeAt Go.RowKit Val Go.Proofs.YtmaecoidoejipaaDoor.Code
set_option linter.unusedVariables false

theorem fits_is (A : Option Addr) (cap : Nat) (l : List (Int × Int × ByteArray)) (b : Bool) (h : fitsB l = b) (w : World) (hv : Vals w w.heap.size A l) (hs : Short l) (hl : l.length ≤ 140737488355328) :
    Calls Tryd.prog 7 #[.slice A l.length cap] w fun e w' => e = .returned (.bool b) ∧ w = w' := by
  have := fits_any A cap l w hv hs hl
  rw [h] at this
  exact this
set_option maxHeartbeats 4000000 in
theorem walk (A : Option Addr) (cap : Nat) (l : List (Int × Int × ByteArray)) (m : Int) (w : World) (hv : Vals w w.heap.size A l) (hf : FitL l) (hs : Short l) (hl : l.length ≤ 4398046511104) (hm : w.cell? ⟨0, 0, none⟩ = some (.int .i64 m)) :
    Calls Tryd.prog 3 #[.slice A l.length cap] w fun e w' => e = .returned (.bool true) ∧ Below w.heap.size w w' := by
  have hlt : 0 < w.heap.size := World.block_lt_of_cell? _ _ hm
  by_cases hb : fitsB l = true
  · have HT := Lib.hid (fits_is A cap l true hb w hv hs (by omega))
    have h20 : l.length ≤ 20 := by unfold fitsB at hb; simp at hb; exact hb.1
    have HF := Lib.hid hf
    have HV := Lib.hid hv
    have HM := Lib.hid hm
    have HE := Lib.hid (encode_any A cap l m w hv hf (by omega) hm)
    clear hv hf hs hm hb
    go_enter Tryd.func3, Tryd.ntmps3
    go_wp2_with fail
    refine HT.out.mono ?_
    rintro e w' ⟨rfl, rfl⟩
    go_wp2_with fail
    refine HE.out.mono ?_
    rintro e w1 ⟨rfl, hb1⟩
    have L1 := Lib.hid hb1
    clear hb1 HE
    go_wp2_with fail
    refine (rencode_any A cap l _ ((HV.out.below L1.out).more L1.out.size) HF.out (by omega)).mono ?_
    rintro e w2 ⟨rfl, hb2⟩
    have L2 := Lib.hid (bnext L1.out L1.out.size hb2)
    clear hb2
    go_wp2_with fail
    refine (alive_any m _ (by rw [L2.out.cell (p := ⟨0, 0, none⟩) hlt]; exact HM.out)).mono ?_
    rintro e w3 ⟨rfl, hb3⟩
    have L3 := Lib.hid (bnext L2.out L2.out.size hb3)
    clear hb3
    go_wp2
    go_ret
    exact ⟨by simp, L3.out⟩
  · have HT := Lib.hid (fits_is A cap l false (by simpa using hb) w hv hs (by omega))
    have HA := Lib.hid (alive_any m w hm)
    clear hv hf hs hm hb
    go_enter Tryd.func3, Tryd.ntmps3
    go_wp2_with fail
    refine HT.out.mono ?_
    rintro e w' ⟨rfl, rfl⟩
    go_wp2_with fail
    refine HA.out.mono ?_
    rintro e w1 ⟨rfl, hb1⟩
    have L1 := Lib.hid hb1
    clear hb1
    go_wp2
    go_ret
    exact ⟨rfl, L1.out⟩
end Go.Proofs.YtmaecoidoejipaaDoor.codeEncodes
