/-
  The contract of the law's Small.
-/
import Derived.Test.YtlejhimcaidbeaaRowMem
namespace Go.Proofs.Ytlejhimcaidbeaa.Code
open Go.ChangeShapes Go.WideShapes Go.ChangeAt Go.RowKit Val
set_option linter.unusedVariables false

def smallB (l : List (Int × Int × ByteArray)) : Bool := decide (l.length ≤ 30) && decide (sizes l ≤ 600)
set_option maxHeartbeats 1000000 in
theorem small_any (A : Option Addr) (cap : Nat) (l : List (Int × Int × ByteArray)) (w : World) (hv : Vals w w.heap.size A l) (hs : Short l) (hl : l.length ≤ 140737488355328) :
    Calls Try.prog 16 #[.slice A l.length cap] w fun e w' => e = .returned (.bool (smallB l)) ∧ w = w' := by
  have HV := Lib.hid hv
  have HS := Lib.hid hs
  clear hv hs
  go_enter Try.func16, Try.ntmps16
  go_wp2
  go_loop [3, 4] (fun n i => ∃ k : Nat, k ≤ l.length ∧ k ≤ 31 ∧ i = .int .i64 k ∧ n = .int .i64 (sizes (l.take k) : Nat)) (fun _ i => 32 - (intOf i).toNat)
  case atStart => exact ⟨0, by omega, by omega, rfl, rfl⟩
  case round =>
    obtain ⟨k, hk, hk2, rfl, rfl⟩ := hrel
    have hz := sizes_le HS.out k
    by_cases hlt : k < l.length
    · by_cases h20 : k ≤ 30
      · obtain ⟨ad, rfl, hb, c0, c1, c2⟩ := HV.out k hlt
        have hz1 := HS.out l[k] (List.getElem_mem hlt)
        have HZ := Lib.hid (sizes_snoc l k hlt)
        go_wp2
        go_round
        case rel => exact ⟨k + 1, by omega, by omega, by go_num, by rw [HZ.out]; go_num⟩
        case measure => simp [intOf]; omega
      · have h20' : decide ((k : Int) ≤ 30) = false := by simp; omega
        have hb20 : decide ((l.length : Int) ≤ 30) = false := by simp; omega
        have HF := Lib.hid (show smallB l = false by unfold smallB; rw [decide_eq_false (by omega)]; rfl)
        go_wp2
        go_ret
        exact ⟨retB HF.out.symm, rfl⟩
    · obtain rfl : k = l.length := by omega
      rw [List.take_length] at *
      by_cases h20 : l.length ≤ 30
      · have h20' : decide ((l.length : Int) ≤ 30) = true := by simp; omega
        have HF := Lib.hid (show smallB l = decide (sizes l ≤ 600) by unfold smallB; rw [decide_eq_true h20]; rfl)
        go_wp2
        go_ret
        exact ⟨retB (by rw [HF.out]; exact decide_eq_decide.2 (by omega)), rfl⟩
      · have hb20 : decide ((l.length : Int) ≤ 30) = false := by simp; omega
        have HF := Lib.hid (show smallB l = false by unfold smallB; rw [decide_eq_false (by omega)]; rfl)
        go_wp2
        go_ret
        exact ⟨retB HF.out.symm, rfl⟩

end Go.Proofs.Ytlejhimcaidbeaa.Code
