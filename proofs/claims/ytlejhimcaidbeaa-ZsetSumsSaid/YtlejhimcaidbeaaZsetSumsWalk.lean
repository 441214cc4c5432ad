/-
  The walk through ZsetSums.
-/
import Derived.Test.YtlejhimcaidbeaaZAliveIs
namespace Go.Proofs.Ytlejhimcaidbeaa.zsetSums
open Go.ChangeShapes Go.WideShapes Go.ChangeAt Go.RowKit Val Go.Proofs.Ytlejhimcaidbeaa.Items
theorem walk (A : Option Addr) (ca : Nat) (a : List It) (B : Option Addr) (cb : Nat) (b : List It) (w : World) (x0 : Items w w.heap.size A a ∧ FitI a ∧ LongI a ∧ a.length ≤ 4398046511104) (x1 : Items w w.heap.size B b ∧ FitI b ∧ LongI b ∧ b.length ≤ 4398046511104) :
    Calls Try.prog 3 #[.slice A a.length ca, .slice B b.length cb] w fun e w' => e = .returned (.bool true) ∧ Below w.heap.size w w' :=
  walk_of zOf zAdd zNeg zAlive A B ca cb a b w x0.1 x1.1 x0.2.1 x1.2.1 x0.2.2.1 x1.2.2.1 x0.2.2.2 x1.2.2.2
end Go.Proofs.Ytlejhimcaidbeaa.zsetSums
