/-
  Contracts of the document's Compare and Same of rows.
-/
import Derived.Test.YtlejhimcaidbeaaRowRef
namespace Go.Proofs.Ytlejhimcaidbeaa.Code
open Go.ChangeShapes Go.WideShapes Go.ChangeAt Go.RowKit Val
set_option linter.unusedVariables false

theorem rrowCompare_any (A B : Option Addr) (ca cb : Nat) (a b : List (Int × Int × ByteArray)) (w : World) (hA : Vals w w.heap.size A a) (hB : Vals w w.heap.size B b) (hl : a.length ≤ 140737488355328) (hl2 : b.length ≤ 140737488355328) :
    Calls Try.prog 40 #[.slice A a.length ca, .slice B b.length cb] w fun e w' => e = .returned (.int .i64 (cmpL a b)) ∧ Below w.heap.size w w' := by
  have H := Lib.hid (rcmpl_any A B ca cb a b w hA hB hl hl2)
  clear hA hB
  go_enter Try.func40, Try.ntmps40
  go_wp2_with fail
  refine H.out.mono ?_
  rintro e w1 ⟨rfl, hb1⟩
  have L1 := Lib.hid hb1
  clear hb1
  go_wp2
  go_ret
  exact ⟨rfl, L1.out⟩
theorem rrowSame_any (A B : Option Addr) (ca cb : Nat) (a b : List (Int × Int × ByteArray)) (w : World) (hA : Vals w w.heap.size A a) (hB : Vals w w.heap.size B b) (hl : a.length ≤ 140737488355328) (hl2 : b.length ≤ 140737488355328) :
    Calls Try.prog 28 #[.slice A a.length ca, .slice B b.length cb] w fun e w' => e = .returned (.bool (decide (a = b))) ∧ Below w.heap.size w w' := by
  have H := Lib.hid (same_any A B ca cb a b w hA hB hl hl2)
  clear hA hB
  go_enter Try.func28, Try.ntmps28
  go_wp2_with fail
  refine H.out.mono ?_
  rintro e w1 ⟨rfl, hb1⟩
  have L1 := Lib.hid hb1
  clear hb1
  go_wp2
  go_ret
  exact ⟨rfl, L1.out⟩

end Go.Proofs.Ytlejhimcaidbeaa.Code
