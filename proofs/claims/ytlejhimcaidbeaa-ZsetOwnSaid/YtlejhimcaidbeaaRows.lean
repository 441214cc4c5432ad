/-
  No cell of these rows narrows 'for every input' (looked for: loops, veiled, ifaces, maps, wideKeys, modest, calm, conditions, laid).
  DERIVED. THE GIVEN ROWS OF THIS SEAT. 4 by the template 'for every input the law returns true; each argument reads behind the call as it read before'; 0 by the template 'total and deterministic' (their statements: YtlejhimcaidbeaaTotals.lean).
  GIVEN WITH THE SEED: the statements are not yours to turn. If you find one false, say at which input.
  Laid BY PROGRAM, IN A SANDBOX (cutbox-rows.mjs): the forced cells as the released guide's own fill.sh prints them over the translation 825437a6479d6d29… (all of the seat's roots in one cut). By AI agents, Wed Nov 11 2026. No macro, syntax, notation, axiom, sorry.
-/
import Derived.Test.YtlejhimcaidbeaaChecked
import GoSem.Claim
import GoSem.ClaimJoined
import GoSem.ClaimMapViews
import Derived.JoinedTies
import Derived.KernelRfl
namespace Go.Proofs.Ytlejhimcaidbeaa
/- THE CELL 'sum', in the pinned program and in every row, IS THE sha256 OF THE DUMP (.gsa) THAT YtlejhimcaidbeaaProg.lean LOADS. Nothing in Lean hashes anything: it is a label: what it is worth is what the hold of that sum in a sandbox is worth. -/
noncomputable def Try.pinned : Pinned := { name := "ytlejhimcaidbeaa", sum := "825437a6479d6d29953566c2d28da3486ae4987e9fec4c2d7bcbd7e9743b7463", checked := Try.checked }
namespace Rows
def none {H : Type} : Left H := { results := [], args := [] }

/-- 'instarlaw06.ZsetSums': WHATEVER THE INPUT: true; the input reads as it did. -/
def zsetSumsSpec : ChangeSpec := { name := "zsetSums", fn := fun _ => fun
  | [d1, d2] => { results := [.lit (.bool true)], args := [d1, d2] }
  | _ => none }
def zsetSumsRow : OpenClaim := { program := "ytlejhimcaidbeaa", sum := "825437a6479d6d29953566c2d28da3486ae4987e9fec4c2d7bcbd7e9743b7463", func := "instar/instarlaw06.ZsetSums", spec := "zsetSums", inPlace := ["internal/bytealg.abigen_runtime_cmpstring"], unfollowed := true, recurses := true, apart := false }
def ZsetSumsSaid : Prop := zsetSumsRow.holds Try.pinned (OpenSpec.ofChange zsetSumsSpec)

/-- ITS FALSE NEIGHBOUR: 'it returns false'. Refute it at one input. -/
def zsetSumsWrong : ChangeSpec := { name := "zsetSums", fn := fun _ => fun
  | [d1, d2] => { results := [.lit (.bool false)], args := [d1, d2] }
  | _ => none }
def ZsetSumsWrongFalsely : Prop := zsetSumsRow.holds Try.pinned (OpenSpec.ofChange zsetSumsWrong)

/-- 'instarlaw06.ZsetTells': WHATEVER THE INPUT: true; the input reads as it did. -/
def zsetTellsSpec : ChangeSpec := { name := "zsetTells", fn := fun _ => fun
  | [d1, d2, d3] => { results := [.lit (.bool true)], args := [d1, d2, d3] }
  | _ => none }
def zsetTellsRow : OpenClaim := { program := "ytlejhimcaidbeaa", sum := "825437a6479d6d29953566c2d28da3486ae4987e9fec4c2d7bcbd7e9743b7463", func := "instar/instarlaw06.ZsetTells", spec := "zsetTells", inPlace := ["internal/bytealg.abigen_runtime_cmpstring"], unfollowed := true, recurses := true, apart := false }
def ZsetTellsSaid : Prop := zsetTellsRow.holds Try.pinned (OpenSpec.ofChange zsetTellsSpec)

/-- ITS FALSE NEIGHBOUR: 'it returns false'. Refute it at one input. -/
def zsetTellsWrong : ChangeSpec := { name := "zsetTells", fn := fun _ => fun
  | [d1, d2, d3] => { results := [.lit (.bool false)], args := [d1, d2, d3] }
  | _ => none }
def ZsetTellsWrongFalsely : Prop := zsetTellsRow.holds Try.pinned (OpenSpec.ofChange zsetTellsWrong)

/-- 'instarlaw06.ZsetGroup': WHATEVER THE INPUT: true; the input reads as it did. -/
def zsetGroupSpec : ChangeSpec := { name := "zsetGroup", fn := fun _ => fun
  | [d1, d2, d3] => { results := [.lit (.bool true)], args := [d1, d2, d3] }
  | _ => none }
def zsetGroupRow : OpenClaim := { program := "ytlejhimcaidbeaa", sum := "825437a6479d6d29953566c2d28da3486ae4987e9fec4c2d7bcbd7e9743b7463", func := "instar/instarlaw06.ZsetGroup", spec := "zsetGroup", inPlace := ["internal/bytealg.abigen_runtime_cmpstring"], unfollowed := true, recurses := true, apart := false }
def ZsetGroupSaid : Prop := zsetGroupRow.holds Try.pinned (OpenSpec.ofChange zsetGroupSpec)

/-- ITS FALSE NEIGHBOUR: 'it returns false'. Refute it at one input. -/
def zsetGroupWrong : ChangeSpec := { name := "zsetGroup", fn := fun _ => fun
  | [d1, d2, d3] => { results := [.lit (.bool false)], args := [d1, d2, d3] }
  | _ => none }
def ZsetGroupWrongFalsely : Prop := zsetGroupRow.holds Try.pinned (OpenSpec.ofChange zsetGroupWrong)

/-- 'instarlaw06.ZsetOwn': WHATEVER THE INPUT: true; the input reads as it did. -/
def zsetOwnSpec : ChangeSpec := { name := "zsetOwn", fn := fun _ => fun
  | [d] => { results := [.lit (.bool true)], args := [d] }
  | _ => none }
def zsetOwnRow : OpenClaim := { program := "ytlejhimcaidbeaa", sum := "825437a6479d6d29953566c2d28da3486ae4987e9fec4c2d7bcbd7e9743b7463", func := "instar/instarlaw06.ZsetOwn", spec := "zsetOwn", inPlace := ["internal/bytealg.abigen_runtime_cmpstring"], unfollowed := true, recurses := true, apart := false }
def ZsetOwnSaid : Prop := zsetOwnRow.holds Try.pinned (OpenSpec.ofChange zsetOwnSpec)

/-- ITS FALSE NEIGHBOUR: 'it returns false'. Refute it at one input. -/
def zsetOwnWrong : ChangeSpec := { name := "zsetOwn", fn := fun _ => fun
  | [d] => { results := [.lit (.bool false)], args := [d] }
  | _ => none }
def ZsetOwnWrongFalsely : Prop := zsetOwnRow.holds Try.pinned (OpenSpec.ofChange zsetOwnWrong)

/- THE SECOND FORM. 'bulk': how many values and letters a reading holds, each counted each time it is reached (what is shared counts as often as it is met; a slice's spare places count too). A statement '..UptoSaid' is the law's where the arguments, and the package variables that the reading takes, are together of bulk at most 1048576: NARROWER than '..Said'. Prove '..Said' where nothing that the law and all that it calls make is longer than what came in: it says more and counts as full. Else prove '..UptoSaid'. A law counts once. -/
mutual
def uptoBulk {H : Type} : DataW H → Nat
  | .lit (.string bytes) => bytes.length + 1
  | .lit _ => 1
  | .nil => 1
  | .ptr d => uptoBulk d + 1
  | .slice elems spare => uptoBulkAll elems + uptoBulkAll spare + 1
  | .agg parts => uptoBulkAll parts + 1
  | .iface _ d => uptoBulk d + 1
  | .map entries => uptoBulkEntries entries + 1
  | .held _ => 1
def uptoBulkAll {H : Type} : List (DataW H) → Nat
  | [] => 0
  | d :: r => uptoBulk d + uptoBulkAll r
def uptoBulkEntries {H : Type} : List (Lit × DataW H) → Nat
  | [] => 0
  | x :: r => uptoBulkEntry x + uptoBulkEntries r
def uptoBulkEntry {H : Type} : Lit × DataW H → Nat
  | (.string bytes, d) => bytes.length + uptoBulk d + 1
  | (_, d) => uptoBulk d + 1
 end
def uptoSmall : (H : Type) → List (DataW H) → Bool := fun _ ds => decide (uptoBulkAll ds ≤ 1048576)
def OpenSpec.upto (s : _root_.Go.ChangeSpec) : _root_.Go.OpenSpec := { _root_.Go.OpenSpec.ofChange s with cond := some uptoSmall }

/-- 'instarlaw06.ZsetSums', WHERE WHAT IT READS IS OF BULK AT MOST 1048576: true; the input reads as it did. -/
def zsetSumsUptoRow : OpenClaim := { program := "ytlejhimcaidbeaa", sum := "825437a6479d6d29953566c2d28da3486ae4987e9fec4c2d7bcbd7e9743b7463", func := "instar/instarlaw06.ZsetSums", spec := "zsetSums", inPlace := ["internal/bytealg.abigen_runtime_cmpstring"], unfollowed := true, recurses := true, apart := false, narrowed := true }
def ZsetSumsUptoSaid : Prop := zsetSumsUptoRow.holds Try.pinned (OpenSpec.upto zsetSumsSpec)

/-- 'instarlaw06.ZsetTells', WHERE WHAT IT READS IS OF BULK AT MOST 1048576: true; the input reads as it did. -/
def zsetTellsUptoRow : OpenClaim := { program := "ytlejhimcaidbeaa", sum := "825437a6479d6d29953566c2d28da3486ae4987e9fec4c2d7bcbd7e9743b7463", func := "instar/instarlaw06.ZsetTells", spec := "zsetTells", inPlace := ["internal/bytealg.abigen_runtime_cmpstring"], unfollowed := true, recurses := true, apart := false, narrowed := true }
def ZsetTellsUptoSaid : Prop := zsetTellsUptoRow.holds Try.pinned (OpenSpec.upto zsetTellsSpec)

/-- 'instarlaw06.ZsetGroup', WHERE WHAT IT READS IS OF BULK AT MOST 1048576: true; the input reads as it did. -/
def zsetGroupUptoRow : OpenClaim := { program := "ytlejhimcaidbeaa", sum := "825437a6479d6d29953566c2d28da3486ae4987e9fec4c2d7bcbd7e9743b7463", func := "instar/instarlaw06.ZsetGroup", spec := "zsetGroup", inPlace := ["internal/bytealg.abigen_runtime_cmpstring"], unfollowed := true, recurses := true, apart := false, narrowed := true }
def ZsetGroupUptoSaid : Prop := zsetGroupUptoRow.holds Try.pinned (OpenSpec.upto zsetGroupSpec)

/-- 'instarlaw06.ZsetOwn', WHERE WHAT IT READS IS OF BULK AT MOST 1048576: true; the input reads as it did. -/
def zsetOwnUptoRow : OpenClaim := { program := "ytlejhimcaidbeaa", sum := "825437a6479d6d29953566c2d28da3486ae4987e9fec4c2d7bcbd7e9743b7463", func := "instar/instarlaw06.ZsetOwn", spec := "zsetOwn", inPlace := ["internal/bytealg.abigen_runtime_cmpstring"], unfollowed := true, recurses := true, apart := false, narrowed := true }
def ZsetOwnUptoSaid : Prop := zsetOwnUptoRow.holds Try.pinned (OpenSpec.upto zsetOwnSpec)

end Rows
end Go.Proofs.Ytlejhimcaidbeaa
