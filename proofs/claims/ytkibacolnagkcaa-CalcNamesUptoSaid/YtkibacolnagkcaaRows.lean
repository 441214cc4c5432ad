/-
  NARROWER THAN 'FOR EVERY INPUT', by the rows' own cells (each row's printed sentence says how): CalcKinds: loops · CalcLogic: loops · CalcNames: loops.
  DERIVED. THE GIVEN ROWS OF THIS SEAT. 3 by the template 'for every input the law returns true; each argument reads behind the call as it read before'; 0 by the template 'total and deterministic' (their statements: YtkibacolnagkcaaTotals.lean).
  GIVEN WITH THE SEED: the statements are not yours to turn. If you find one false, say at which input.
  Laid BY PROGRAM, IN A SANDBOX (cutbox-rows.mjs): the forced cells as the released guide's own fill.sh prints them over the translation c45b6114643ed96f… (all of the seat's roots in one cut). By AI agents, Wed Nov 11 2026. No macro, syntax, notation, axiom, sorry.
-/
import Derived.Test.YtkibacolnagkcaaChecked
import GoSem.Claim
import GoSem.ClaimJoined
import GoSem.ClaimMapViews
import Derived.JoinedTies
import Derived.KernelRfl
namespace Go.Proofs.Ytkibacolnagkcaa
/- THE CELL 'sum', in the pinned program and in every row, IS THE sha256 OF THE DUMP (.gsa) THAT YtkibacolnagkcaaProg.lean LOADS. Nothing in Lean hashes anything: it is a label: what it is worth is what the hold of that sum in a sandbox is worth. -/
noncomputable def Try.pinned : Pinned := { name := "ytkibacolnagkcaa", sum := "c45b6114643ed96fe1187d27388619ab460e8f1aaa35436eaa37931fb54a9ada", checked := Try.checked }
namespace Rows
def none {H : Type} : Left H := { results := [], args := [] }

/-- 'instarlaw13.CalcKinds': WHATEVER THE INPUT: true; the input reads as it did. -/
def calcKindsSpec : ChangeSpec := { name := "calcKinds", fn := fun _ => fun
  | [d1, d2, d3] => { results := [.lit (.bool true)], args := [d1, d2, d3] }
  | _ => none }
def calcKindsRow : OpenClaim := { program := "ytkibacolnagkcaa", sum := "c45b6114643ed96fe1187d27388619ab460e8f1aaa35436eaa37931fb54a9ada", func := "instar/instarlaw13.CalcKinds", spec := "calcKinds", inPlace := ["internal/bytealg.abigen_runtime_cmpstring"], unfollowed := true, recurses := true, loops := true, apart := false }
def CalcKindsSaid : Prop := calcKindsRow.holds Try.pinned (OpenSpec.ofChange calcKindsSpec)

/-- ITS FALSE NEIGHBOUR: 'it returns false'. Refute it at one input. -/
def calcKindsWrong : ChangeSpec := { name := "calcKinds", fn := fun _ => fun
  | [d1, d2, d3] => { results := [.lit (.bool false)], args := [d1, d2, d3] }
  | _ => none }
def CalcKindsWrongFalsely : Prop := calcKindsRow.holds Try.pinned (OpenSpec.ofChange calcKindsWrong)

/-- 'instarlaw13.CalcLogic': WHATEVER THE INPUT: true; the input reads as it did. -/
def calcLogicSpec : ChangeSpec := { name := "calcLogic", fn := fun _ => fun
  | [d1, d2, d3] => { results := [.lit (.bool true)], args := [d1, d2, d3] }
  | _ => none }
def calcLogicRow : OpenClaim := { program := "ytkibacolnagkcaa", sum := "c45b6114643ed96fe1187d27388619ab460e8f1aaa35436eaa37931fb54a9ada", func := "instar/instarlaw13.CalcLogic", spec := "calcLogic", inPlace := ["internal/bytealg.abigen_runtime_cmpstring"], unfollowed := true, recurses := true, loops := true, apart := false }
def CalcLogicSaid : Prop := calcLogicRow.holds Try.pinned (OpenSpec.ofChange calcLogicSpec)

/-- ITS FALSE NEIGHBOUR: 'it returns false'. Refute it at one input. -/
def calcLogicWrong : ChangeSpec := { name := "calcLogic", fn := fun _ => fun
  | [d1, d2, d3] => { results := [.lit (.bool false)], args := [d1, d2, d3] }
  | _ => none }
def CalcLogicWrongFalsely : Prop := calcLogicRow.holds Try.pinned (OpenSpec.ofChange calcLogicWrong)

/-- 'instarlaw13.CalcNames': WHATEVER THE INPUT: true; the input reads as it did. -/
def calcNamesSpec : ChangeSpec := { name := "calcNames", fn := fun _ => fun
  | [d1, d2, d3] => { results := [.lit (.bool true)], args := [d1, d2, d3] }
  | _ => none }
def calcNamesRow : OpenClaim := { program := "ytkibacolnagkcaa", sum := "c45b6114643ed96fe1187d27388619ab460e8f1aaa35436eaa37931fb54a9ada", func := "instar/instarlaw13.CalcNames", spec := "calcNames", inPlace := ["internal/bytealg.abigen_runtime_cmpstring"], unfollowed := true, recurses := true, loops := true, apart := false }
def CalcNamesSaid : Prop := calcNamesRow.holds Try.pinned (OpenSpec.ofChange calcNamesSpec)

/-- ITS FALSE NEIGHBOUR: 'it returns false'. Refute it at one input. -/
def calcNamesWrong : ChangeSpec := { name := "calcNames", fn := fun _ => fun
  | [d1, d2, d3] => { results := [.lit (.bool false)], args := [d1, d2, d3] }
  | _ => none }
def CalcNamesWrongFalsely : Prop := calcNamesRow.holds Try.pinned (OpenSpec.ofChange calcNamesWrong)

/- THE SECOND FORM. 'bulk': how many values and letters a reading holds, each counted each time it is reached (what is shared counts as often as it is met; a slice's spare places count too). A statement '..UptoSaid' is the law's where the arguments, and the package variables that the reading takes, are together of bulk at most 1048576: NARROWER than '..Said'. Prove '..Said' where nothing that the law and all that it calls make is longer than what came in: it says more and counts as full. Else prove '..UptoSaid'. A law counts once. -/
mutual
def uptoBulk {H : Type} : DataW H → Nat
  | .lit (.string bytes) => bytes.length + 1
  | .lit _ => 1
  | .nil => 1
  | .ptr d => uptoBulk d + 1
  | .slice elems spare => uptoBulkAll elems + uptoBulkAll spare + 1
  | .agg parts => uptoBulkAll parts + 1
  | .iface _ d => uptoBulk d + 1
  | .map entries => uptoBulkEntries entries + 1
  | .held _ => 1
def uptoBulkAll {H : Type} : List (DataW H) → Nat
  | [] => 0
  | d :: r => uptoBulk d + uptoBulkAll r
def uptoBulkEntries {H : Type} : List (Lit × DataW H) → Nat
  | [] => 0
  | x :: r => uptoBulkEntry x + uptoBulkEntries r
def uptoBulkEntry {H : Type} : Lit × DataW H → Nat
  | (.string bytes, d) => bytes.length + uptoBulk d + 1
  | (_, d) => uptoBulk d + 1
 end
def uptoSmall : (H : Type) → List (DataW H) → Bool := fun _ ds => decide (uptoBulkAll ds ≤ 1048576)
def OpenSpec.upto (s : _root_.Go.ChangeSpec) : _root_.Go.OpenSpec := { _root_.Go.OpenSpec.ofChange s with cond := some uptoSmall }

/-- 'instarlaw13.CalcKinds', WHERE WHAT IT READS IS OF BULK AT MOST 1048576: true; the input reads as it did. -/
def calcKindsUptoRow : OpenClaim := { program := "ytkibacolnagkcaa", sum := "c45b6114643ed96fe1187d27388619ab460e8f1aaa35436eaa37931fb54a9ada", func := "instar/instarlaw13.CalcKinds", spec := "calcKinds", inPlace := ["internal/bytealg.abigen_runtime_cmpstring"], unfollowed := true, recurses := true, loops := true, apart := false, narrowed := true }
def CalcKindsUptoSaid : Prop := calcKindsUptoRow.holds Try.pinned (OpenSpec.upto calcKindsSpec)

/-- 'instarlaw13.CalcLogic', WHERE WHAT IT READS IS OF BULK AT MOST 1048576: true; the input reads as it did. -/
def calcLogicUptoRow : OpenClaim := { program := "ytkibacolnagkcaa", sum := "c45b6114643ed96fe1187d27388619ab460e8f1aaa35436eaa37931fb54a9ada", func := "instar/instarlaw13.CalcLogic", spec := "calcLogic", inPlace := ["internal/bytealg.abigen_runtime_cmpstring"], unfollowed := true, recurses := true, loops := true, apart := false, narrowed := true }
def CalcLogicUptoSaid : Prop := calcLogicUptoRow.holds Try.pinned (OpenSpec.upto calcLogicSpec)

/-- 'instarlaw13.CalcNames', WHERE WHAT IT READS IS OF BULK AT MOST 1048576: true; the input reads as it did. -/
def calcNamesUptoRow : OpenClaim := { program := "ytkibacolnagkcaa", sum := "c45b6114643ed96fe1187d27388619ab460e8f1aaa35436eaa37931fb54a9ada", func := "instar/instarlaw13.CalcNames", spec := "calcNames", inPlace := ["internal/bytealg.abigen_runtime_cmpstring"], unfollowed := true, recurses := true, loops := true, apart := false, narrowed := true }
def CalcNamesUptoSaid : Prop := calcNamesUptoRow.holds Try.pinned (OpenSpec.upto calcNamesSpec)

end Rows
end Go.Proofs.Ytkibacolnagkcaa
