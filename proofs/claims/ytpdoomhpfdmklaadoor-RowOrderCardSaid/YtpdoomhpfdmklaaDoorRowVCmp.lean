/-
  The contract of value.Compare, for every two values (cut out of ValCmp).
-/
import Derived.Test.YtpdoomhpfdmklaaDoorCodeVal
import Derived.Test.YtpdoomhpfdmklaaDoorShelf
namespace Go.Proofs.YtpdoomhpfdmklaaDoor.Val
open Go.ChangeShapes Go.WideShapes Go.ChangeAt Go.RowKit
set_option linter.unusedVariables false

theorem cmpk_any (a b : Int) (w : World) :
    Calls Tryd.prog 52 #[.int .i64 a, .int .i64 b] w fun e w' => e = .returned (.int .i64 (cmpI a b)) ∧ w = w' := by
  by_cases h1 : a < b
  · go_enter Tryd.func52, Tryd.ntmps52
    go_wp2
    go_ret
    exact ⟨ret1 (by unfold cmpI; rw [if_pos h1]), rfl⟩
  · by_cases h2 : b < a
    all_goals
      go_enter Tryd.func52, Tryd.ntmps52
      go_wp2
      go_ret
      exact ⟨ret1 (by unfold cmpI; omega), rfl⟩
theorem cmpi_any (a b : Int) (w : World) :
    Calls Tryd.prog 53 #[.int .i64 a, .int .i64 b] w fun e w' => e = .returned (.int .i64 (cmpI a b)) ∧ w = w' := by
  by_cases h1 : a < b
  · go_enter Tryd.func53, Tryd.ntmps53
    go_wp2
    go_ret
    exact ⟨ret1 (by unfold cmpI; rw [if_pos h1]), rfl⟩
  · by_cases h2 : b < a
    all_goals
      go_enter Tryd.func53, Tryd.ntmps53
      go_wp2
      go_ret
      exact ⟨ret1 (by unfold cmpI; omega), rfl⟩
theorem cmps_any (a b : ByteArray) (w : World) :
    Calls Tryd.prog 54 #[.string a, .string b] w fun e w' => e = .returned (.int .i64 (Lib.compareBytes a.data.toList b.data.toList)) ∧ w = w' :=
  (Tryd.strings_Compare a b w).mono fun _ _ ⟨h, g⟩ => ⟨h, g.symm⟩

set_option maxHeartbeats 1000000 in
theorem or_any (x y z : Int) (b cap : Nat) (w : World) (h0 : w.cell? ⟨b, 0, none⟩ = some (.int .i64 x)) (h1 : w.cell? ⟨b, 1, none⟩ = some (.int .i64 y)) (h2 : w.cell? ⟨b, 2, none⟩ = some (.int .i64 z)) :
    Calls Tryd.prog 51 #[.slice (some ⟨b, 0, none⟩) 3 cap] w fun e w' => e = .returned (.int .i64 (orI x y z)) ∧ w = w' := by
  by_cases hx : x = 0
  · subst hx
    by_cases hy : y = 0
    · subst hy
      by_cases hz : z = 0
      all_goals
        go_enter Tryd.func51, Tryd.ntmps51
        go_wp2
        refine wp_loop_rounds 4 ?_
        iterate 4 (first | (rw [rounds_succ]; go_wp2) | skip)
        all_goals go_ret
        all_goals exact ⟨ret1 (by unfold orI; simp [hz]), rfl⟩
    · go_enter Tryd.func51, Tryd.ntmps51
      go_wp2
      refine wp_loop_rounds 4 ?_
      iterate 4 (first | (rw [rounds_succ]; go_wp2) | skip)
      all_goals go_ret
      all_goals exact ⟨ret1 (by unfold orI; simp [hy]), rfl⟩
  · go_enter Tryd.func51, Tryd.ntmps51
    go_wp2
    refine wp_loop_rounds 4 ?_
    iterate 4 (first | (rw [rounds_succ]; go_wp2) | skip)
    all_goals go_ret
    all_goals exact ⟨ret1 (by unfold orI; simp [hx]), rfl⟩

set_option maxHeartbeats 4000000 in
theorem compare_any (k n : Int) (s : ByteArray) (k' n' : Int) (s' : ByteArray) (w : World) :
    Calls Tryd.prog 34 #[.agg #[.int .i64 k, .int .i64 n, .string s], .agg #[.int .i64 k', .int .i64 n', .string s']] w fun e w' => e = .returned (.int .i64 (cmpV k n s k' n' s')) ∧ Below w.heap.size w w' := by
  go_enter Tryd.func34, Tryd.ntmps34
  go_wp2_with fail
  have A := (Box.fresh w k n s 41).alloc (.cells #[.int .i64 k', .int .i64 n', .string s'] 41)
  have B := Box.fresh (w.alloc (.cells #[.int .i64 k, .int .i64 n, .string s] 41)) k' n' s' 41
  have L := Lib.hid ((below_alloc w (.cells #[.int .i64 k, .int .i64 n, .string s] 41)).alloc (by simp) (.cells #[.int .i64 k', .int .i64 n', .string s'] 41))
  have hs : w.heap.size + 2 = ((w.alloc (.cells #[.int .i64 k, .int .i64 n, .string s] 41)).alloc (.cells #[.int .i64 k', .int .i64 n', .string s'] 41)).heap.size := by simp
  rw [show (w.alloc (.cells #[.int .i64 k, .int .i64 n, .string s] 41)).heap.size = w.heap.size + 1 by simp] at B
  generalize (w.alloc (.cells #[.int .i64 k, .int .i64 n, .string s] 41)).alloc (.cells #[.int .i64 k', .int .i64 n', .string s'] 41) = W at *
  obtain ⟨a0, a1, a2, az⟩ := A
  obtain ⟨b0, b1, b2, bz⟩ := B
  clear hs
  go_region_held3 (fun w' => (w'.cell? ⟨w.heap.size, 0, none⟩ = some (.int .i64 k) ∧ w'.cell? ⟨w.heap.size, 1, none⟩ = some (.int .i64 n) ∧ w'.cell? ⟨w.heap.size, 2, none⟩ = some (.string s) ∧ w'.cell? ⟨w.heap.size + 1, 0, none⟩ = some (.int .i64 k') ∧ w'.cell? ⟨w.heap.size + 1, 1, none⟩ = some (.int .i64 n') ∧ w'.cell? ⟨w.heap.size + 1, 2, none⟩ = some (.string s')) ∧ Below W.heap.size W w')
    (first | assumption | (refine keepD (by assumption) ?_; intro kk; exact ⟨by rw [kk _ _ az]; exact a0, by rw [kk _ _ az]; exact a1, by rw [kk _ _ az]; exact a2, by rw [kk _ _ bz]; exact b0, by rw [kk _ _ bz]; exact b1, by rw [kk _ _ bz]; exact b2⟩) | (refine keepA _ (by assumption) ?_; intro kk; exact ⟨by rw [kk _ _ az]; exact a0, by rw [kk _ _ az]; exact a1, by rw [kk _ _ az]; exact a2, by rw [kk _ _ bz]; exact b0, by rw [kk _ _ bz]; exact b1, by rw [kk _ _ bz]; exact b2⟩) | (exact ⟨⟨by simpa [go_sem] using a0, by simpa [go_sem] using a1, by simpa [go_sem] using a2, by simpa [go_sem] using b0, by simpa [go_sem] using b1, by simpa [go_sem] using b2⟩, Below.drew (Below.refl _ _)⟩))
    (first | (go_at_call 52; refine (cmpk_any _ _ _).mono ?_; rintro e w' ⟨rfl, rfl⟩) | (go_at_call 53; refine (cmpi_any _ _ _).mono ?_; rintro e w' ⟨rfl, rfl⟩) | (go_at_call 54; refine (cmps_any _ _ _).mono ?_; rintro e w' ⟨rfl, rfl⟩) | (go_at_call 51; refine (or_any (cmpI k k') (cmpI n n') (Lib.compareBytes s.data.toList s'.data.toList) _ _ _ ?c0 ?c1 ?c2).mono ?_; (case c0 => simp [go_sem]); (case c1 => simp [go_sem]); (case c2 => simp [go_sem]); rintro e w' ⟨rfl, rfl⟩))
  all_goals
    have M := Lib.hid (show Below W.heap.size W _ by rename_i hS; exact hS.2)
    go_wp2
    go_ret
    exact ⟨rfl, bnext L.out (by omega) M.out⟩

end Go.Proofs.YtpdoomhpfdmklaaDoor.Val
