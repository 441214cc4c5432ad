/- The walk of NumBytes. -/
import Derived.Test.YtjdbmlcdheakhaaNumAlive
namespace Go.Proofs.Ytjdbmlcdheakhaa.numBytes
open Go.ChangeShapes Go.WideShapes Go.ChangeAt Go.RowKit Num
set_option maxHeartbeats 800000 in
theorem walk (a : Int) (s : ByteArray) (wa : (Lit.int .u64 a).wf = true) (ws : s.size ≤ maxLen) (w : World) :
    Calls Try.prog 5 #[.int .u64 a, .string s] w fun e w' => e = .returned (.bool true) ∧ Below w.heap.size w w' := by
  have ha := fitsU_wf wa
  unfold maxLen at ws
  clear wa
  by_cases hl : 100 < s.size
  · go_enter Try.func5, Try.ntmps5
    go_wp2_with fail
    refine (alive_any _).mono ?_
    rintro e w' ⟨rfl, hbl⟩
    go_wp2
    go_ret
    exact ⟨rfl, hbl⟩
  · go_enter Try.func5, Try.ntmps5
    go_wp2_with fail
    refine (get_any _ _).mono ?_
    rintro e w' ⟨rfl, rfl⟩
    go_wp2_with fail
    refine (rget_any _ _).mono ?_
    rintro e w' ⟨rfl, rfl⟩
    go_wp2_with fail
    refine (alive_any _).mono ?_
    rintro e w1 ⟨rfl, hb1⟩
    go_wp2_with fail
    refine (put_any _ _ ha).mono ?_
    rintro e w2 ⟨rfl, hb2⟩
    go_wp2_with fail
    refine (rput_any _ _ ha).mono ?_
    rintro e w3 ⟨rfl, hb3⟩
    go_wp2
    go_ret
    have h1 := hb1.size
    have h2 := hb2.size
    exact ⟨rfl, (hb1.trans (hb2.mono (by omega))).trans (hb3.mono (by omega))⟩
end Go.Proofs.Ytjdbmlcdheakhaa.numBytes
