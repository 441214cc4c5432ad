/-
  What the second form's bound gives: lists and texts that came in are no longer than it says.
-/
import Derived.Test.YtkibacolnagkcaaRows
namespace Go.Proofs.Ytkibacolnagkcaa.Bulk
theorem one_le {H : Type} (d : DataW H) : 1 ≤ Rows.uptoBulk d := by
  cases d with
  | lit l => cases l <;> simp [Rows.uptoBulk]
  | nil => simp [Rows.uptoBulk]
  | ptr d => simp [Rows.uptoBulk]
  | slice elems spare => simp [Rows.uptoBulk]
  | agg parts => simp [Rows.uptoBulk]
  | iface t d => simp [Rows.uptoBulk]
  | map entries => simp [Rows.uptoBulk]
  | held h => simp [Rows.uptoBulk]
theorem length_le {H : Type} : ∀ l : List (DataW H), l.length ≤ Rows.uptoBulkAll l
  | [] => by simp [Rows.uptoBulkAll]
  | x :: r => by
    have := one_le x
    have := length_le r
    simp only [Rows.uptoBulkAll, List.length_cons]
    omega
theorem vals_le {H α : Type} {d : DataW H} {l : List α} (h : l = [] ∨ ∃ elems sp, d = .slice elems sp ∧ elems.length = l.length) : l.length ≤ Rows.uptoBulk d := by
  rcases h with rfl | ⟨elems, sp, rfl, hl⟩
  · exact Nat.zero_le _
  · have := length_le elems
    simp only [Rows.uptoBulk]
    omega
theorem string_le {H : Type} (s : ByteArray) : s.size + 1 = Rows.uptoBulk (DataW.lit (H := H) (.string s.data.toList)) := by
  simp only [Rows.uptoBulk]
  rfl
theorem bound {H : Type} {l : List (DataW H)} (hk : Rows.uptoSmall H l = true) : Rows.uptoBulkAll l ≤ 1048576 := of_decide_eq_true hk
end Go.Proofs.Ytkibacolnagkcaa.Bulk

