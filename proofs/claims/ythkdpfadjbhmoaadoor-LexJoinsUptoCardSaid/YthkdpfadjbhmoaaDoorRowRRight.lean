/-
  The contract of the document's Right of rows.
-/
import Derived.Test.YthkdpfadjbhmoaaDoorRowMem
import Derived.Test.YthkdpfadjbhmoaaDoorRefRight
namespace Go.Proofs.YthkdpfadjbhmoaaDoor.Code
open Go.ChangeShapes Go.WideShapes Go.ChangeAt Go.RowKit Val
set_option linter.unusedVariables false

theorem rightL_snoc (l : List (Int × Int × ByteArray)) (k : Nat) (h : k < l.length) : rightL (l.take (k + 1)) = (rightL (l.take k) && rightV l[k]) := by
  unfold rightL
  rw [List.take_succ_eq_append_getElem h, List.all_append]
  simp
theorem rightL_not {l : List (Int × Int × ByteArray)} {k : Nat} (h : k < l.length) (g : rightV l[k] = false) : rightL l = false := by
  unfold rightL
  rw [List.all_eq_false]
  exact ⟨l[k], List.getElem_mem h, by simp [g]⟩
/-- whether a row is right -/
def rightR (l : List (Int × Int × ByteArray)) : Bool := decide (l.length ≤ 24) && rightL l
end Go.Proofs.YthkdpfadjbhmoaaDoor.Code

