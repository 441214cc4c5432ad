/-
  Contracts of row.Key and of the document's Key.
-/
import Derived.Test.YtpdoomhpfdmklaaDoorEncRenc
import Derived.Test.YtpdoomhpfdmklaaDoorRowSmall
namespace Go.Proofs.YtpdoomhpfdmklaaDoor.Code
open Go.ChangeShapes Go.WideShapes Go.ChangeAt Go.RowKit Val
set_option linter.unusedVariables false

/-- a row's bytes -/
def keyS (l : List (Int × Int × ByteArray)) : ByteArray := if rightR l then encS l else ⟨#[]⟩
theorem key_yes {l : List (Int × Int × ByteArray)} (h : rightR l = true) : keyS l = encS l := by unfold keyS; rw [h]; rfl
theorem key_no {l : List (Int × Int × ByteArray)} (h : rightR l = false) : keyS l = ⟨#[]⟩ := by unfold keyS; rw [h]; rfl
theorem rowRight_is (A : Option Addr) (cap : Nat) (l : List (Int × Int × ByteArray)) (b : Bool) (h : rightR l = b) (w : World) (hv : Vals w w.heap.size A l) (hf : FitL l) (hl : l.length ≤ 140737488355328) :
    Calls Tryd.prog 9 #[.slice A l.length cap] w fun e w' => e = .returned (.bool b) ∧ Below w.heap.size w w' := by
  have := rowRight_any A cap l w hv hf hl
  rw [h] at this
  exact this
theorem rrowRight_is (A : Option Addr) (cap : Nat) (l : List (Int × Int × ByteArray)) (b : Bool) (h : rightR l = b) (w : World) (hv : Vals w w.heap.size A l) (hl : l.length ≤ 140737488355328) :
    Calls Tryd.prog 10 #[.slice A l.length cap] w fun e w' => e = .returned (.bool b) ∧ Below w.heap.size w w' := by
  have := rrowRight_any A cap l w hv hl
  rw [h] at this
  exact this
set_option maxHeartbeats 1000000 in
theorem rowKey_any (A : Option Addr) (cap : Nat) (l : List (Int × Int × ByteArray)) (m : Int) (w : World) (hv : Vals w w.heap.size A l) (hf : FitL l) (hl : l.length ≤ 300000000000) (hm : w.cell? ⟨0, 0, none⟩ = some (.int .i64 m)) :
    Calls Tryd.prog 13 #[.slice A l.length cap] w fun e w' => e = .returned (.string (keyS l)) ∧ Below w.heap.size w w' := by
  have hlt : 0 < w.heap.size := World.block_lt_of_cell? _ _ hm
  obtain ⟨b, hb⟩ : ∃ b, rightR l = b := ⟨_, rfl⟩
  have HR := Lib.hid (rowRight_is A cap l b hb w hv hf (by omega))
  have HM := Lib.hid hm
  have HV := Lib.hid hv
  have HF := Lib.hid hf
  clear hv hf hm
  cases b
  · have HK := Lib.hid (key_no hb)
    clear hb
    go_enter Tryd.func13, Tryd.ntmps13
    go_wp2_with fail
    refine HR.out.mono ?_
    rintro e w1 ⟨rfl, hb1⟩
    have L1 := Lib.hid hb1
    clear hb1 HR
    go_wp2
    go_ret
    exact ⟨retS HK.out.symm, L1.out⟩
  · have HK := Lib.hid (key_yes hb)
    clear hb
    go_enter Tryd.func13, Tryd.ntmps13
    go_wp2_with fail
    refine HR.out.mono ?_
    rintro e w1 ⟨rfl, hb1⟩
    have L1 := Lib.hid hb1
    clear hb1 HR
    go_wp2_with fail
    refine (encode_any A cap l m _ ((HV.out.below L1.out).more L1.out.size) HF.out hl (by rw [L1.out.cell (p := ⟨0, 0, none⟩) hlt]; exact HM.out)).mono ?_
    rintro e w2 ⟨rfl, hb2⟩
    have L2 := Lib.hid (bnext L1.out L1.out.size hb2)
    clear hb2
    go_wp2
    go_ret
    exact ⟨retS HK.out.symm, L2.out⟩
set_option maxHeartbeats 1000000 in
theorem rrowKey_any (A : Option Addr) (cap : Nat) (l : List (Int × Int × ByteArray)) (w : World) (hv : Vals w w.heap.size A l) (hf : FitL l) (hl : l.length ≤ 300000000000) :
    Calls Tryd.prog 14 #[.slice A l.length cap] w fun e w' => e = .returned (.string (keyS l)) ∧ Below w.heap.size w w' := by
  obtain ⟨b, hb⟩ : ∃ b, rightR l = b := ⟨_, rfl⟩
  have HR := Lib.hid (rrowRight_is A cap l b hb w hv (by omega))
  have HV := Lib.hid hv
  have HF := Lib.hid hf
  clear hv hf
  cases b
  · have HK := Lib.hid (key_no hb)
    clear hb
    go_enter Tryd.func14, Tryd.ntmps14
    go_wp2_with fail
    refine HR.out.mono ?_
    rintro e w1 ⟨rfl, hb1⟩
    have L1 := Lib.hid hb1
    clear hb1 HR
    go_wp2
    go_ret
    exact ⟨retS HK.out.symm, L1.out⟩
  · have HK := Lib.hid (key_yes hb)
    clear hb
    go_enter Tryd.func14, Tryd.ntmps14
    go_wp2_with fail
    refine HR.out.mono ?_
    rintro e w1 ⟨rfl, hb1⟩
    have L1 := Lib.hid hb1
    clear hb1 HR
    go_wp2_with fail
    refine (rencode_any A cap l _ ((HV.out.below L1.out).more L1.out.size) HF.out hl).mono ?_
    rintro e w2 ⟨rfl, hb2⟩
    have L2 := Lib.hid (bnext L1.out L1.out.size hb2)
    clear hb2
    go_wp2
    go_ret
    exact ⟨retS HK.out.symm, L2.out⟩
end Go.Proofs.YtpdoomhpfdmklaaDoor.Code
