/-
  The walk of QueryReads.
-/
import Derived.Test.YtjbpkpfmgbhlpaaGreatDoorMr21
import Derived.Test.YtjbpkpfmgbhlpaaGreatDoorMr27
namespace Go.Proofs.YtjbpkpfmgbhlpaaGreatDoor.queryReads
open Go.ChangeShapes Go.WideShapes Go.ChangeAt Go.RowKit Val Elems Go.Proofs.YtjbpkpfmgbhlpaaGreatDoor.Code
set_option linter.unusedVariables false
theorem walk (s : ByteArray) (p : Int) (m : Int) (w : World) (hs : s.size ≤ 1048576) (hp : (Lit.int .i64 p).wf = true) (he : Env w.heap.size m w) :
    Calls Tryz.prog 4 #[.string s, .int .i64 p] w fun e w' => e = .returned (.bool true) ∧ Below w.heap.size w w' :=
  walk_of s p w (by omega) (fun w0 hb hz => qalive_any m w0 (he.next hb)) (words_any s m w (by omega) he.gl.cell) (fun l hw hs A cap w0 hb hat =>
    have hlen : s.data.toList.length = s.size := rfl
    have hll := words_len _ 0 l hw
    preadZ_any A cap l p m w0 hat ⟨by omega, words_came _ _ _ hw, came_short (words_came _ _ _ hw)⟩ (he.next hb))
end Go.Proofs.YtjbpkpfmgbhlpaaGreatDoor.queryReads
