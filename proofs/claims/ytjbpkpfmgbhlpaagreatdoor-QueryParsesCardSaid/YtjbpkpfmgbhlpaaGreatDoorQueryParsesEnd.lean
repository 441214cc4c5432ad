/-
  The walk of QueryParses.
-/
import Derived.Test.YtjbpkpfmgbhlpaaGreatDoorMp11
import Derived.Test.YtjbpkpfmgbhlpaaGreatDoorMp27
namespace Go.Proofs.YtjbpkpfmgbhlpaaGreatDoor.queryParses
open Go.ChangeShapes Go.WideShapes Go.ChangeAt Go.RowKit Val Elems Go.Proofs.YtjbpkpfmgbhlpaaGreatDoor.Code
set_option linter.unusedVariables false
theorem walk (s : ByteArray) (m : Int) (w : World) (hs : s.size ≤ maxLen) (he : Env w.heap.size m w) :
    Calls Tryz.prog 3 #[.string s] w fun e w' => e = .returned (.bool true) ∧ Below w.heap.size w w' :=
  walk_of s w (by unfold maxLen at hs; omega) (fun w0 hb hz => qalive_any m w0 (he.next hb)) (fun h w0 hb => pparseQ_any s (by omega) m w0 (he.next hb))
end Go.Proofs.YtjbpkpfmgbhlpaaGreatDoor.queryParses
