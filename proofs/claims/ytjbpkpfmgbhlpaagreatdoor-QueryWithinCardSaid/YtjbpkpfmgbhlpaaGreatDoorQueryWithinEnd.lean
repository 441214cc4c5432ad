/-
  The walk of QueryWithin.
-/
import Derived.Test.YtjbpkpfmgbhlpaaGreatDoorMw6
import Derived.Test.YtjbpkpfmgbhlpaaGreatDoorMw26
namespace Go.Proofs.YtjbpkpfmgbhlpaaGreatDoor.queryWithin
open Go.ChangeShapes Go.WideShapes Go.ChangeAt Go.RowKit Val Elems Go.Proofs.YtjbpkpfmgbhlpaaGreatDoor.Code
set_option linter.unusedVariables false
theorem walk (a b : ByteArray) (m : Int) (w : World) (hsa : a.size ≤ maxLen) (hsb : b.size ≤ maxLen) (he : Env w.heap.size m w) :
    Calls Tryz.prog 6 #[.string a, .string b] w fun e w' => e = .returned (.bool true) ∧ Below w.heap.size w w' :=
  walk_of a b w (by unfold maxLen at hsa; omega) (by unfold maxLen at hsb; omega) (fun w0 hb hz => qalive_any m w0 (he.next hb)) (fun s h w0 hb => pparseQ_any s (by omega) m w0 (he.next hb))
end Go.Proofs.YtjbpkpfmgbhlpaaGreatDoor.queryWithin
