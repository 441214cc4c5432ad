/-
  What the row lists: the tables of Go's library, and the error ErrRange.
-/
import Derived.Test.YtjbpkpfmgbhlpaaGreatDoorMp27
import Derived.Test.YtjbpkpfmgbhlpaaGreatDoorMp12
import Derived.Stop.LaidErr
set_option maxRecDepth 100000
set_option maxHeartbeats 16000000
open Go.Lib (hid)
namespace Go.Proofs.YtjbpkpfmgbhlpaaGreatDoor.RowOpen
open Go.ChangeShapes Go.WideShapes Go.ChangeAt Go.RowKit Go.Deep Val Go.Proofs.YtjbpkpfmgbhlpaaGreatDoor.Code
set_option linter.unusedVariables false
theorem star_err : "*" ++ "errors.errorString" = "*errors.errorString" := by decide
theorem row_err (u : TypeId) (h : Tryz.prog.typeName? 3 u = some "*errors.errorString") : u = 209 :=
 typeName_ptr_named (nm := "errors.errorString") (by rw [star_err]; kernel_rfl) (by kernel_rfl) (by decide) u (by rw [star_err]; exact h)
theorem err_of {laid : List (String × DataW Unit)} {tx : List UInt8} {W : World} (hL : laidMetH Tryz.prog laid W) (hp : (laid.all fun x => x.2.handleName?.isNone) = true)
  (he : laid.filter (fun x => x.1 == "strconv.ErrRange") = [("strconv.ErrRange", .iface "*errors.errorString" (.ptr (.agg [.lit (.string tx)])))]) : ∃ te pe, W.cell? ⟨7, 0, none⟩ = some (.iface te pe) := by
 rw [Go.MakeChecks.laidMetH_plain _ _ _ hp] at hL
 have h := hL.filter (fun x => x.1 == "strconv.ErrRange")
 rw [he] at h
 have hg : Tryz.prog.globalNamed "strconv.ErrRange" = some 7 := by kernel_rfl
 obtain ⟨a, s, hv, _⟩ := laid_sentinel h hg (ti := 103) (by kernel_rfl) Tryz.underlying103 (tp := 209) (te := 211) (ts := 9)
  row_err Tryz.underlying209 Tryz.underlying211 rfl rfl Tryz.underlying9 (by kernel_rfl) (by kernel_rfl)
 exact ⟨_, _, by have := World.var?_cell hg hv 0; simpa using this⟩
theorem env_of {laid : List (String × DataW Unit)} {d : DataW Unit} {tx : List UInt8} {m : Int} {W : World} (hL : laidMetH Tryz.prog laid W) (hp : (laid.all fun x => x.2.handleName?.isNone) = true) (hf : laid.filter (fun x => x.1 == "internal/strconv.uint64pow10") = [("internal/strconv.uint64pow10", d)]) (hd : d = Lib.tabData .u64 Lib.pow10Tab)
  (he : laid.filter (fun x => x.1 == "strconv.ErrRange") = [("strconv.ErrRange", .iface "*errors.errorString" (.ptr (.agg [.lit (.string tx)])))])
  (hm : W.cell? ⟨0, 0, none⟩ = some (.int .i64 m)) : Env W.heap.size m W := by
 obtain ⟨te, pe, hc⟩ := err_of hL hp he
 exact ⟨glob_of hL hp hf hd hm, World.block_lt_of_cell? _ _ hc, te, pe, hc⟩
end Go.Proofs.YtjbpkpfmgbhlpaaGreatDoor.RowOpen
