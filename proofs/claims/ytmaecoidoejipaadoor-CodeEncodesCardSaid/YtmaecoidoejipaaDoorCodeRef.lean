/-
  Contracts of the document's Compare of two values, and of two lists.
-/
import Derived.Test.YtmaecoidoejipaaDoorCodeVals
namespace Go.Proofs.YtmaecoidoejipaaDoor.Code
open Go.ChangeShapes Go.WideShapes Go.ChangeAt Go.RowKit Val
set_option linter.unusedVariables false

theorem less_toList (s t : ByteArray) : Op.bytesLess s.toList t.toList = decide (Lib.compareBytes s.data.toList t.data.toList < 0) := by
  rw [ByteArray.toList_eq, ByteArray.toList_eq]
  exact less_cmp _ _
theorem below2 (w : World) (o o' : Obj) : Below w.heap.size w ((w.alloc o).alloc o') := (below_alloc w o).alloc (by simp) o'
set_option maxHeartbeats 1000000 in
theorem rcompare_any (k n : Int) (s : ByteArray) (k' n' : Int) (s' : ByteArray) (w : World) :
    Calls Tryd.prog 23 #[.agg #[.int .i64 k, .int .i64 n, .string s], .agg #[.int .i64 k', .int .i64 n', .string s']] w fun e w' => e = .returned (.int .i64 (cmpV k n s k' n' s')) ∧ Below w.heap.size w w' := by
  by_cases h1 : k < k'
  · have e0 : (k == k') = false := by simp; omega
    have HC := Lib.hid (show cmpV k n s k' n' s' = -1 by unfold cmpV orI cmpI; simp [h1])
    go_enter Tryd.func23, Tryd.ntmps23
    go_wp2
    go_ret
    exact ⟨ret1 HC.out.symm, below2 _ _ _⟩
  by_cases h2 : k' < k
  · have e0 : (k == k') = false := by simp; omega
    have HC := Lib.hid (show cmpV k n s k' n' s' = 1 by unfold cmpV orI cmpI; simp [h1, h2])
    go_enter Tryd.func23, Tryd.ntmps23
    go_wp2
    go_ret
    exact ⟨ret1 HC.out.symm, below2 _ _ _⟩
  obtain rfl : k = k' := by omega
  have hk : cmpI k k = 0 := by unfold cmpI; simp
  clear h1 h2
  by_cases h1 : n < n'
  · have e0 : (n == n') = false := by simp; omega
    have HC := Lib.hid (show cmpV k n s k n' s' = -1 by unfold cmpV; rw [hk]; unfold orI cmpI; simp [h1])
    clear hk
    go_enter Tryd.func23, Tryd.ntmps23
    go_wp2
    go_ret
    exact ⟨ret1 HC.out.symm, below2 _ _ _⟩
  by_cases h2 : n' < n
  · have e0 : (n == n') = false := by simp; omega
    have HC := Lib.hid (show cmpV k n s k n' s' = 1 by unfold cmpV; rw [hk]; unfold orI cmpI; simp [h1, h2])
    clear hk
    go_enter Tryd.func23, Tryd.ntmps23
    go_wp2
    go_ret
    exact ⟨ret1 HC.out.symm, below2 _ _ _⟩
  obtain rfl : n = n' := by omega
  have hn : cmpI n n = 0 := by unfold cmpI; simp
  clear h1 h2
  have hc : cmpV k n s k n s' = Lib.compareBytes s.data.toList s'.data.toList := by unfold cmpV; rw [hk, hn]; unfold orI; simp
  clear hk hn
  by_cases e : s = s'
  · subst e
    have HC := Lib.hid (hc.trans (cb_self _))
    clear hc
    go_enter Tryd.func23, Tryd.ntmps23
    go_wp2
    go_ret
    exact ⟨ret1 HC.out.symm, below2 _ _ _⟩
  have e2 := toList_ne e
  have hl := less_toList s s'
  have hz : Lib.compareBytes s.data.toList s'.data.toList ≠ 0 := by
    intro h
    have := cb_zero h
    apply e
    obtain ⟨⟨a⟩⟩ := s
    obtain ⟨⟨b⟩⟩ := s'
    simp at this
    rw [this]
  have hr := cb_range s.data.toList s'.data.toList
  by_cases h1 : Lib.compareBytes s.data.toList s'.data.toList < 0
  · rw [decide_eq_true h1] at hl
    have HC := Lib.hid (show cmpV k n s k n s' = -1 by rw [hc]; omega)
    clear hc hz hr h1 e
    go_enter Tryd.func23, Tryd.ntmps23
    go_wp2
    go_ret
    exact ⟨ret1 HC.out.symm, below2 _ _ _⟩
  · rw [decide_eq_false h1] at hl
    have HC := Lib.hid (show cmpV k n s k n s' = 1 by rw [hc]; omega)
    clear hc hz hr h1 e
    go_enter Tryd.func23, Tryd.ntmps23
    go_wp2
    go_ret
    exact ⟨ret1 HC.out.symm, below2 _ _ _⟩
end Go.Proofs.YtmaecoidoejipaaDoor.Code
