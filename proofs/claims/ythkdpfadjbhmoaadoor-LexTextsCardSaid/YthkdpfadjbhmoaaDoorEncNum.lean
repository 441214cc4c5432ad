/-
  Contracts of num's Flip and Put and of the document's, for every argument (cut out of CodeNum).
-/
import Derived.Test.YthkdpfadjbhmoaaDoorChecked
import Derived.Test.YthkdpfadjbhmoaaDoorNumPure
import Derived.WalkKit
import Derived.ProofKit
import Derived.Lib.Hide
import Derived.WalkLawsBesides
import Derived.LoopTactic
import Derived.Below
import Derived.OwnWalk
import Derived.Laws.BytesArg
import Derived.Maps.AppendAt
import Derived.Deep.AppendLies
namespace Go.Proofs.YthkdpfadjbhmoaaDoor.Num
open Go.ChangeShapes Go.WideShapes Go.ChangeAt Go.RowKit
set_option linter.unusedVariables false

/-- the eight bytes of an unsigned number, the highest first -/
def putL (a : Int) : List Int :=
  [a / 256 / 256 / 256 / 256 / 256 / 256 / 256 % 256, a / 256 / 256 / 256 / 256 / 256 / 256 % 256, a / 256 / 256 / 256 / 256 / 256 % 256, a / 256 / 256 / 256 / 256 % 256,
   a / 256 / 256 / 256 % 256, a / 256 / 256 % 256, a / 256 % 256, a % 256]
def putS (a : Int) : ByteArray := strOfNums (putL a)
theorem putL_of {a x0 x1 x2 x3 x4 x5 x6 x7 : Int} (h0 : x0 = a / 256 / 256 / 256 / 256 / 256 / 256 / 256 % 256) (h1 : x1 = a / 256 / 256 / 256 / 256 / 256 / 256 % 256) (h2 : x2 = a / 256 / 256 / 256 / 256 / 256 % 256)
    (h3 : x3 = a / 256 / 256 / 256 / 256 % 256) (h4 : x4 = a / 256 / 256 / 256 % 256) (h5 : x5 = a / 256 / 256 % 256) (h6 : x6 = a / 256 % 256) (h7 : x7 = a % 256) : strOfNums [x0, x1, x2, x3, x4, x5, x6, x7] = putS a := by
  subst h0 h1 h2 h3 h4 h5 h6 h7; rfl

/-- a new array of eight bytes as a text -/
theorem conv8 (w : World) (x0 x1 x2 x3 x4 x5 x6 x7 : Int) (t : TypeId) :
    (convert 65 9 (.slice (some ⟨w.heap.size, 0, none⟩) 8 8)).run Tryd.prog (w.alloc (.cells #[.int .u8 x0, .int .u8 x1, .int .u8 x2, .int .u8 x3, .int .u8 x4, .int .u8 x5, .int .u8 x6, .int .u8 x7] t))
      = .ok (.string (strOfNums [x0, x1, x2, x3, x4, x5, x6, x7])) (w.alloc (.cells #[.int .u8 x0, .int .u8 x1, .int .u8 x2, .int .u8 x3, .int .u8 x4, .int .u8 x5, .int .u8 x6, .int .u8 x7] t)) := by
  refine run_convert_bytes_arg _ 65 5 Tryd.underlying65 Tryd.underlying5 w.heap.size 0 8 8 [x0, x1, x2, x3, x4, x5, x6, x7] rfl ?_ 9 Tryd.underlying9
  intro i hi
  rcases i with _ | _ | _ | _ | _ | _ | _ | _ | i
  all_goals first | (simp [go_sem]; done) | omega

theorem info_u8 : (Tryd.prog.info? 5).map (fun i => (i.zero, i.size, i.bytes)) = some (some (.int .u8 0), 1, 1) := by kernel_rfl

theorem snoc0 {w : World} {B n : Nat} {v : Value} (h : w.ownsRow B 5 1 v (n + 1) (List.replicate n (.int .u8 0) ++ [.int .u8 0])) : w.ownsRow B 5 1 v (n + 1) (List.replicate (n + 1) (.int .u8 0)) := by
  rw [List.replicate_succ']; exact h

/-- eight bytes that were written into a row, as a text -/
theorem conv8set (w : World) (g cap : Nat) (hc : ∀ j, j < 8 → (w.cell? ⟨g, j, none⟩).isSome = true) (x0 x1 x2 x3 x4 x5 x6 x7 : Int) :
    (convert 65 9 (.slice (some ⟨g, 0, none⟩) 8 cap)).run Tryd.prog ((((((((w.setCell ⟨g, 7, none⟩ (.int .u8 x7)).setCell ⟨g, 6, none⟩ (.int .u8 x6)).setCell ⟨g, 5, none⟩ (.int .u8 x5)).setCell ⟨g, 4, none⟩ (.int .u8 x4)).setCell ⟨g, 3, none⟩ (.int .u8 x3)).setCell ⟨g, 2, none⟩ (.int .u8 x2)).setCell ⟨g, 1, none⟩ (.int .u8 x1)).setCell ⟨g, 0, none⟩ (.int .u8 x0))
      = .ok (.string (strOfNums [x0, x1, x2, x3, x4, x5, x6, x7])) ((((((((w.setCell ⟨g, 7, none⟩ (.int .u8 x7)).setCell ⟨g, 6, none⟩ (.int .u8 x6)).setCell ⟨g, 5, none⟩ (.int .u8 x5)).setCell ⟨g, 4, none⟩ (.int .u8 x4)).setCell ⟨g, 3, none⟩ (.int .u8 x3)).setCell ⟨g, 2, none⟩ (.int .u8 x2)).setCell ⟨g, 1, none⟩ (.int .u8 x1)).setCell ⟨g, 0, none⟩ (.int .u8 x0)) := by
  refine run_convert_bytes_arg _ 65 5 Tryd.underlying65 Tryd.underlying5 g 0 8 cap [x0, x1, x2, x3, x4, x5, x6, x7] rfl ?_ 9 Tryd.underlying9
  have c0 := hc 0 (by omega)
  have c1 := hc 1 (by omega)
  have c2 := hc 2 (by omega)
  have c3 := hc 3 (by omega)
  have c4 := hc 4 (by omega)
  have c5 := hc 5 (by omega)
  have c6 := hc 6 (by omega)
  have c7 := hc 7 (by omega)
  intro i hi
  rcases i with _ | _ | _ | _ | _ | _ | _ | _ | i
  all_goals first | (simp [go_sem, World.cell?_setCell_other, c0, c1, c2, c3, c4, c5, c6, c7]; done) | omega

end Go.Proofs.YthkdpfadjbhmoaaDoor.Num

