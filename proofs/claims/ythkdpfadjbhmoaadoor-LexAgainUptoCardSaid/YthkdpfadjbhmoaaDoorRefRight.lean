/-
  The contract of the document's Right of a value, for every argument (cut out of CodeVal).
-/
import Derived.Test.YthkdpfadjbhmoaaDoorKit
namespace Go.Proofs.YthkdpfadjbhmoaaDoor.Val
open Go.ChangeShapes Go.WideShapes Go.ChangeAt Go.RowKit
set_option linter.unusedVariables false

set_option maxHeartbeats 1000000 in
theorem rright_any (k n : Int) (s : ByteArray) (w : World) :
    Calls Tryd.prog 36 #[.agg #[.int .i64 k, .int .i64 n, .string s]] w fun e w' => e = .returned (.bool (rightB k n s)) ∧ Below w.heap.size w w' := by
  have hb0 : ∀ o, Below w.heap.size w (w.alloc o) := fun o => (Below.refl _ _).alloc (Nat.le_refl _) o
  by_cases h4 : k = 4
  · subst h4
    by_cases h0 : n = 0
    all_goals
      go_enter Tryd.func36, Tryd.ntmps36
      go_wp2
      go_ret
      exact ⟨retB (by unfold rightB; simp [h0]; try omega), hb0 _⟩
  by_cases hs : s.size = 0
  · obtain rfl := size0 hs
    by_cases hk0 : k = 0
    · subst hk0
      go_enter Tryd.func36, Tryd.ntmps36
      go_wp2
      go_ret
      exact ⟨retB (by rw [right_empty, Bool.eq_iff_iff]; simp), hb0 _⟩
    by_cases hk1 : k = 1
    · subst hk1
      by_cases h0 : n = 0
      all_goals
        go_enter Tryd.func36, Tryd.ntmps36
        go_wp2
        go_ret
        exact ⟨retB (by rw [right_empty, Bool.eq_iff_iff]; unfold holdsB; simp [h0]), hb0 _⟩
    by_cases hk2 : k = 2
    · subst hk2
      by_cases h0 : -2147483648 ≤ n
      all_goals
        go_enter Tryd.func36, Tryd.ntmps36
        go_wp2
        go_ret
        exact ⟨retB (by rw [right_empty, Bool.eq_iff_iff]; unfold holdsB; simp [h0]; try omega), hb0 _⟩
    by_cases hk3 : k = 3
    · subst hk3
      go_enter Tryd.func36, Tryd.ntmps36
      go_wp2
      go_ret
      exact ⟨retB (by rw [right_empty]; unfold holdsB; simp), hb0 _⟩
    · have k4 : (k == 4) = false := by simpa using h4
      have k0 : (k == 0) = false := by simpa using hk0
      have k1 : (k == 1) = false := by simpa using hk1
      have k2 : (k == 2) = false := by simpa using hk2
      have k3 : (k == 3) = false := by simpa using hk3
      go_enter Tryd.func36, Tryd.ntmps36
      go_wp2
      go_ret
      exact ⟨retB (by unfold rightB holdsB; simp [h4, hk0, hk1, hk2, hk3]), hb0 _⟩
  · obtain ⟨e1, e2, e3⟩ := size_pos hs
    have k4 : (k == 4) = false := by simpa using h4
    go_enter Tryd.func36, Tryd.ntmps36
    go_wp2
    go_ret
    exact ⟨retB (by unfold rightB holdsB; by_cases hk0 : k = 0 <;> simp [h4, hk0, hs]), hb0 _⟩

end Go.Proofs.YthkdpfadjbhmoaaDoor.Val
namespace Go.Proofs.YthkdpfadjbhmoaaDoor.Code
open Go.ChangeShapes Go.WideShapes Go.ChangeAt Go.RowKit Val
theorem rright_is (k n : Int) (s : ByteArray) (b : Bool) (h : rightB k n s = b) (w : World) :
    Calls Tryd.prog 36 #[.agg #[.int .i64 k, .int .i64 n, .string s]] w fun e w' => e = .returned (.bool b) ∧ Below w.heap.size w w' := by
  have := rright_any k n s w
  rw [h] at this
  exact this

end Go.Proofs.YthkdpfadjbhmoaaDoor.Code
namespace Go.Proofs.YthkdpfadjbhmoaaDoor.Val
end Go.Proofs.YthkdpfadjbhmoaaDoor.Val

