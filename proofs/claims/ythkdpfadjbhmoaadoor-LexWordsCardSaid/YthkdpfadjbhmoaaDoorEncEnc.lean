/-
  The contract of code.Encode, for every list of values (cut out of CodeEnc).
-/
import Derived.Test.YthkdpfadjbhmoaaDoorEncCalls
import Derived.Test.YthkdpfadjbhmoaaDoorRowRights
namespace Go.Proofs.YthkdpfadjbhmoaaDoor.Code
open Go.ChangeShapes Go.WideShapes Go.ChangeAt Go.RowKit Val
set_option linter.unusedVariables false

theorem encL_snoc (l : List (Int × Int × ByteArray)) (k : Nat) (h : k < l.length) : encL (l.take (k + 1)) = encL (l.take k) ++ encV l[k] := by
  unfold encL
  rw [List.take_succ_eq_append_getElem h, List.flatMap_append]
  simp
def encS (l : List (Int × Int × ByteArray)) : ByteArray := if rightL l then ⟨(encL l).toArray⟩ else ⟨#[]⟩
def encE (l : List (Int × Int × ByteArray)) : Int := if rightL l then 0 else 1
theorem enc_yes {l : List (Int × Int × ByteArray)} (h : rightL l = true) : encS l = ⟨(encL l).toArray⟩ ∧ encE l = 0 := by
  unfold encS encE
  rw [h]
  exact ⟨rfl, rfl⟩
theorem enc_no {l : List (Int × Int × ByteArray)} (h : rightL l = false) : encS l = ⟨#[]⟩ ∧ encE l = 1 := by
  unfold encS encE
  rw [h]
  exact ⟨rfl, rfl⟩
theorem retSE {a c : ByteArray} {b d : Int} (h : a = c) (g : b = d) : Ending.returned (.tuple #[.string a, .int .i64 b]) = .returned (.tuple #[.string c, .int .i64 d]) := by rw [h, g]
end Go.Proofs.YthkdpfadjbhmoaaDoor.Code

