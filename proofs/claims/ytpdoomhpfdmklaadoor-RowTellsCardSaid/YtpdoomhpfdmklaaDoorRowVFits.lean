/-
  Contracts of value.Fits and of the document's Fits of one value.
-/
import Derived.Test.YtpdoomhpfdmklaaDoorRowLib
namespace Go.Proofs.YtpdoomhpfdmklaaDoor.Val
open Go.ChangeShapes Go.WideShapes Go.ChangeAt Go.RowKit
set_option linter.unusedVariables false

theorem column_any (k : Int) (w : World) :
    Calls Tryd.prog 49 #[.int .i64 k] w fun e w' => e = .returned (.bool (columnB k)) ∧ w = w' := by
  by_cases h : 1 ≤ k
  all_goals
    go_enter Tryd.func49, Tryd.ntmps49
    go_wp2
    go_ret
    exact ⟨retB (by unfold columnB; simp; try omega), rfl⟩
theorem rcolumn_any (k : Int) (w : World) :
    Calls Tryd.prog 50 #[.int .i64 k] w fun e w' => e = .returned (.bool (columnB k)) ∧ w = w' := by
  by_cases h : 1 ≤ k
  all_goals
    go_enter Tryd.func50, Tryd.ntmps50
    go_wp2
    go_ret
    exact ⟨retB (by unfold columnB; simp; try omega), rfl⟩

/-- whether a value may be in a column of a kind -/
def fitV1 (k n : Int) (s : ByteArray) (c : Int) : Bool := columnB c && (rightB k n s && (k == 0 || k == c))
set_option maxHeartbeats 2000000 in
theorem vfits_any (k n : Int) (s : ByteArray) (c : Int) (hn : fits n) (w : World) :
    Calls Tryd.prog 32 #[.agg #[.int .i64 k, .int .i64 n, .string s], .int .i64 c] w fun e w' => e = .returned (.bool (fitV1 k n s c)) ∧ Below w.heap.size w w' := by
  have hc := fun w => column_any c w
  have hr := fun w => right_any k n s w hn
  have hx : fitV1 k n s c = (columnB c && (rightB k n s && (k == 0 || k == c))) := rfl
  generalize columnB c = p at hc hx
  generalize rightB k n s = q at hr hx
  have HC := Lib.hid hc
  have HR := Lib.hid hr
  have HX := Lib.hid hx
  clear hc hr hx
  rcases Bool.eq_false_or_eq_true (k == 0) with e0 | e0 <;> rcases Bool.eq_false_or_eq_true (k == c) with e1 | e1 <;> cases p <;> cases q
  all_goals
    rw [e0, e1] at HX
    go_enter Tryd.func32, Tryd.ntmps32
    go_wp2_with (first | (go_at_call 49; refine (HC.out _).mono ?_; rintro e w' ⟨rfl, rfl⟩) | (go_at_call 25; refine (HR.out _).mono ?_; rintro e w1 ⟨rfl, hb1⟩; obtain ⟨x0, x1, x2, xz⟩ := (Box.fresh w k n s 41).call hb1; have L1 := Lib.hid (bnext (below_alloc w _) (by simp) hb1); clear hb1))
    all_goals go_ret
    all_goals exact ⟨retB HX.out.symm, by first | exact L1.out | exact below_alloc w _⟩
set_option maxHeartbeats 2000000 in
theorem rvfits_any (k n : Int) (s : ByteArray) (c : Int) (w : World) :
    Calls Tryd.prog 33 #[.agg #[.int .i64 k, .int .i64 n, .string s], .int .i64 c] w fun e w' => e = .returned (.bool (fitV1 k n s c)) ∧ Below w.heap.size w w' := by
  have hc := fun w => rcolumn_any c w
  have hr := fun w => rright_any k n s w
  have hx : fitV1 k n s c = (columnB c && (rightB k n s && (k == 0 || k == c))) := rfl
  generalize columnB c = p at hc hx
  generalize rightB k n s = q at hr hx
  have HC := Lib.hid hc
  have HR := Lib.hid hr
  have HX := Lib.hid hx
  clear hc hr hx
  rcases Bool.eq_false_or_eq_true (k == 0) with e0 | e0 <;> rcases Bool.eq_false_or_eq_true (k == c) with e1 | e1 <;> cases p <;> cases q
  all_goals
    rw [e0, e1] at HX
    go_enter Tryd.func33, Tryd.ntmps33
    go_wp2_with (first | (go_at_call 50; refine (HC.out _).mono ?_; rintro e w' ⟨rfl, rfl⟩) | (go_at_call 26; refine (HR.out _).mono ?_; rintro e w1 ⟨rfl, hb1⟩; obtain ⟨x0, x1, x2, xz⟩ := (Box.fresh w k n s 41).call hb1; have L1 := Lib.hid (bnext (below_alloc w _) (by simp) hb1); clear hb1))
    all_goals go_ret
    all_goals exact ⟨retB HX.out.symm, by first | exact L1.out | exact below_alloc w _⟩
end Go.Proofs.YtpdoomhpfdmklaaDoor.Val
