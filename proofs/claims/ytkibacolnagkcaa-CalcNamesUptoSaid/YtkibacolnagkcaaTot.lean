/-
  How much there is in a node. No program is named here.
-/
import Derived.Test.YtkibacolnagkcaaM7
namespace Go.Proofs.Ytkibacolnagkcaa.Code
open Val
set_option linter.unusedVariables false
mutual
/-- how much there is in a node -/
def Nod.tot : Nod → Nat
  | .mk op tx ks => 1 + op.length + tx.length + Nod.totL ks
def Nod.totL : List Nod → Nat
  | [] => 0
  | t :: l => t.tot + Nod.totL l
end
theorem tot_mem {x : Nod} : ∀ {l : List Nod}, x ∈ l → x.tot ≤ Nod.totL l
  | [], h => absurd h (by simp)
  | t :: l, h => by
    show _ ≤ t.tot + Nod.totL l
    rcases List.mem_cons.1 h with rfl | h
    · omega
    · have := tot_mem h
      omega
end Go.Proofs.Ytkibacolnagkcaa.Code

