/-
  What the row lists of the library's tables.
-/
import Derived.Test.YthkdpfadjbhmoaaDoorOpenLists
import Derived.Test.YthkdpfadjbhmoaaDoorRowVShow
import Derived.LaidSub
import Derived.MakeChecks
import Derived.Lib.LaidTab
namespace Go.Proofs.YthkdpfadjbhmoaaDoor.RowOpen
open Go.ChangeShapes Go.WideShapes Go.ChangeAt Go.RowKit Go.Deep Val Go.Proofs.YthkdpfadjbhmoaaDoor.Code
set_option linter.unusedVariables false
/-- what a row that lists the table gives -/
theorem glob_of {laid : List (String × DataW Unit)} {d : DataW Unit} {m : Int} {W : World} (hL : laidMetH Tryd.prog laid W) (hp : (laid.all fun x => x.2.handleName?.isNone) = true) (hf : laid.filter (fun x => x.1 == "internal/strconv.uint64pow10") = [("internal/strconv.uint64pow10", d)]) (hd : d = Lib.tabData .u64 Lib.pow10Tab)
    (hm : W.cell? ⟨1, 0, none⟩ = some (.int .i64 m)) : Glob W.heap.size m W := by
  rw [Go.MakeChecks.laidMetH_plain _ _ _ hp] at hL
  have h := hL.filter (fun x => x.1 == "internal/strconv.uint64pow10")
  rw [hf, hd] at h
  have tab : Lib.TabIs Tryd.prog W "internal/strconv.uint64pow10" .u64 Lib.pow10Tab := by
    obtain ⟨n, t, e, h1, h2, h3, h4, h5⟩ : ∃ (n : Nat) (t e : TypeId), (Tryd.prog.globals[0]?).map (·.type) = some t ∧ Tryd.prog.underlying t = some (.array n e) ∧ Tryd.prog.underlying e = some (.int .u64) ∧ Tryd.prog.cellsOf e = 1 ∧ Tryd.prog.cellsOf t = n :=
      ⟨20, 98, 84, by kernel_rfl, by kernel_rfl, by kernel_rfl, by kernel_rfl, by kernel_rfl⟩
    exact Lib.tabIs_of_head glob_pow h1 h2 h3 h4 h5 h
  refine ⟨World.block_lt_of_cell? _ _ hm, ?_, hm, tab⟩
  unfold Lib.TabIs at tab
  simp only [World.var?, glob_pow, Option.bind_some] at tab
  by_cases hlt : 0 < W.heap.size
  · exact hlt
  · rw [Array.getElem?_eq_none (by omega)] at tab
    cases tab
end Go.Proofs.YthkdpfadjbhmoaaDoor.RowOpen

