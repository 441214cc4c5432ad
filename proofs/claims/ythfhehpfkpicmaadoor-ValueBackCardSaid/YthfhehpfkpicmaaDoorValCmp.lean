/-
  The contract of Compare, for every two values.
-/
import Derived.Test.YthfhehpfkpicmaaDoorValCast
import Derived.Test.YthfhehpfkpicmaaDoorShelf
namespace Go.Proofs.YthfhehpfkpicmaaDoor.Val
open Go.ChangeShapes Go.WideShapes Go.ChangeAt Go.RowKit

theorem cmpk_any (a b : Int) (w : World) :
    Calls Tryd.prog 24 #[.int .i64 a, .int .i64 b] w fun e w' => e = .returned (.int .i64 (cmpI a b)) ∧ w = w' := by
  by_cases h1 : a < b
  · go_enter Tryd.func24, Tryd.ntmps24
    go_wp2
    go_ret
    exact ⟨ret1 (by unfold cmpI; rw [if_pos h1]), rfl⟩
  · by_cases h2 : b < a
    all_goals
      go_enter Tryd.func24, Tryd.ntmps24
      go_wp2
      go_ret
      exact ⟨ret1 (by unfold cmpI; omega), rfl⟩
theorem cmpi_any (a b : Int) (w : World) :
    Calls Tryd.prog 25 #[.int .i64 a, .int .i64 b] w fun e w' => e = .returned (.int .i64 (cmpI a b)) ∧ w = w' := by
  by_cases h1 : a < b
  · go_enter Tryd.func25, Tryd.ntmps25
    go_wp2
    go_ret
    exact ⟨ret1 (by unfold cmpI; rw [if_pos h1]), rfl⟩
  · by_cases h2 : b < a
    all_goals
      go_enter Tryd.func25, Tryd.ntmps25
      go_wp2
      go_ret
      exact ⟨ret1 (by unfold cmpI; omega), rfl⟩
theorem cmps_any (a b : ByteArray) (w : World) :
    Calls Tryd.prog 26 #[.string a, .string b] w fun e w' => e = .returned (.int .i64 (Lib.compareBytes a.data.toList b.data.toList)) ∧ w = w' :=
  (Tryd.strings_Compare a b w).mono fun _ _ ⟨h, g⟩ => ⟨h, g.symm⟩

set_option maxHeartbeats 1000000 in
theorem or_any (x y z : Int) (b cap : Nat) (w : World) (h0 : w.cell? ⟨b, 0, none⟩ = some (.int .i64 x)) (h1 : w.cell? ⟨b, 1, none⟩ = some (.int .i64 y)) (h2 : w.cell? ⟨b, 2, none⟩ = some (.int .i64 z)) :
    Calls Tryd.prog 23 #[.slice (some ⟨b, 0, none⟩) 3 cap] w fun e w' => e = .returned (.int .i64 (orI x y z)) ∧ w = w' := by
  by_cases hx : x = 0
  · subst hx
    by_cases hy : y = 0
    · subst hy
      by_cases hz : z = 0
      all_goals
        go_enter Tryd.func23, Tryd.ntmps23
        go_wp2
        refine wp_loop_rounds 4 ?_
        iterate 4 (first | (rw [rounds_succ]; go_wp2) | skip)
        all_goals go_ret
        all_goals exact ⟨ret1 (by unfold orI; simp [hz]), rfl⟩
    · go_enter Tryd.func23, Tryd.ntmps23
      go_wp2
      refine wp_loop_rounds 4 ?_
      iterate 4 (first | (rw [rounds_succ]; go_wp2) | skip)
      all_goals go_ret
      all_goals exact ⟨ret1 (by unfold orI; simp [hy]), rfl⟩
  · go_enter Tryd.func23, Tryd.ntmps23
    go_wp2
    refine wp_loop_rounds 4 ?_
    iterate 4 (first | (rw [rounds_succ]; go_wp2) | skip)
    all_goals go_ret
    all_goals exact ⟨ret1 (by unfold orI; simp [hx]), rfl⟩

/-- what was there when a region began is there behind each call that makes memory of its own alone -/
theorem keepK {C : Prop} {W w1 w2 : World} (hb : Below w1.heap.size w1 w2) (h : C ∧ Below W.heap.size W w1) {C' : Prop}
    (hC : (∀ b o, b < W.heap.size → w2.cell? ⟨b, o, none⟩ = W.cell? ⟨b, o, none⟩) → C') : C' ∧ Below W.heap.size W w2 := by
  have hB := h.2.trans (hb.mono h.2.size)
  exact ⟨hC fun b o hl => hB.cell (p := ⟨b, o, none⟩) hl, hB⟩
theorem keepA {C : Prop} {W w1 : World} (o : Obj) (h : C ∧ Below W.heap.size W w1) {C' : Prop}
    (hC : (∀ b o', b < W.heap.size → (w1.alloc o).cell? ⟨b, o', none⟩ = W.cell? ⟨b, o', none⟩) → C') : C' ∧ Below W.heap.size W (w1.alloc o) :=
  keepK ((Below.refl _ _).alloc (Nat.le_refl _) o) h hC
theorem keepD {C : Prop} {W w1 : World} {o : Obj} (h : C ∧ Below W.heap.size W w1.drew) {C' : Prop}
    (hC : (∀ b i, b < W.heap.size → (w1.alloc o).drew.cell? ⟨b, i, none⟩ = W.cell? ⟨b, i, none⟩) → C') : C' ∧ Below W.heap.size W (w1.alloc o).drew := by
  have h1 : Below W.heap.size W w1 := ⟨h.2.os, h.2.tape, h.2.output, h.2.size, h.2.block⟩
  have hB : Below W.heap.size W (w1.alloc o).drew := Below.drew (h1.alloc h1.size o)
  exact ⟨hC fun b i hl => hB.cell (p := ⟨b, i, none⟩) hl, hB⟩

/-- a value's three cells at the beginning of a block -/
def Box (W : World) (b : Nat) (k n : Int) (s : ByteArray) : Prop := W.cell? ⟨b, 0, none⟩ = some (.int .i64 k) ∧ W.cell? ⟨b, 1, none⟩ = some (.int .i64 n) ∧ W.cell? ⟨b, 2, none⟩ = some (.string s) ∧ b < W.heap.size
theorem Box.call {W W' : World} {b : Nat} {k n : Int} {s : ByteArray} (h : Box W b k n s) (hb : Below W.heap.size W W') : Box W' b k n s := by
  obtain ⟨h0, h1, h2, h3⟩ := h
  exact ⟨by rw [hb.cell (p := ⟨b, 0, none⟩) h3]; exact h0, by rw [hb.cell (p := ⟨b, 1, none⟩) h3]; exact h1, by rw [hb.cell (p := ⟨b, 2, none⟩) h3]; exact h2, Nat.lt_of_lt_of_le h3 hb.size⟩
theorem Box.alloc {W : World} {b : Nat} {k n : Int} {s : ByteArray} (h : Box W b k n s) (o : Obj) : Box (W.alloc o) b k n s := h.call (below_alloc W o)
theorem Box.fresh (W : World) (k n : Int) (s : ByteArray) (t : TypeId) : Box (W.alloc (.cells #[.int .i64 k, .int .i64 n, .string s] t)) W.heap.size k n s := ⟨by simp [go_sem], by simp [go_sem], by simp [go_sem], by simp⟩

set_option maxHeartbeats 4000000 in
theorem compare_any (k n : Int) (s : ByteArray) (k' n' : Int) (s' : ByteArray) (w : World) :
    Calls Tryd.prog 16 #[.agg #[.int .i64 k, .int .i64 n, .string s], .agg #[.int .i64 k', .int .i64 n', .string s']] w fun e w' => e = .returned (.int .i64 (cmpV k n s k' n' s')) ∧ Below w.heap.size w w' := by
  go_enter Tryd.func16, Tryd.ntmps16
  go_wp2_with fail
  have A := (Box.fresh w k n s 24).alloc (.cells #[.int .i64 k', .int .i64 n', .string s'] 24)
  have B := Box.fresh (w.alloc (.cells #[.int .i64 k, .int .i64 n, .string s] 24)) k' n' s' 24
  have L := Lib.hid ((below_alloc w (.cells #[.int .i64 k, .int .i64 n, .string s] 24)).alloc (by simp) (.cells #[.int .i64 k', .int .i64 n', .string s'] 24))
  have hs : w.heap.size + 2 = ((w.alloc (.cells #[.int .i64 k, .int .i64 n, .string s] 24)).alloc (.cells #[.int .i64 k', .int .i64 n', .string s'] 24)).heap.size := by simp
  rw [show (w.alloc (.cells #[.int .i64 k, .int .i64 n, .string s] 24)).heap.size = w.heap.size + 1 by simp] at B
  generalize (w.alloc (.cells #[.int .i64 k, .int .i64 n, .string s] 24)).alloc (.cells #[.int .i64 k', .int .i64 n', .string s'] 24) = W at *
  obtain ⟨a0, a1, a2, az⟩ := A
  obtain ⟨b0, b1, b2, bz⟩ := B
  clear hs
  go_region_held3 (fun w' => (w'.cell? ⟨w.heap.size, 0, none⟩ = some (.int .i64 k) ∧ w'.cell? ⟨w.heap.size, 1, none⟩ = some (.int .i64 n) ∧ w'.cell? ⟨w.heap.size, 2, none⟩ = some (.string s) ∧ w'.cell? ⟨w.heap.size + 1, 0, none⟩ = some (.int .i64 k') ∧ w'.cell? ⟨w.heap.size + 1, 1, none⟩ = some (.int .i64 n') ∧ w'.cell? ⟨w.heap.size + 1, 2, none⟩ = some (.string s')) ∧ Below W.heap.size W w')
    (first | assumption | (refine keepD (by assumption) ?_; intro kk; exact ⟨by rw [kk _ _ az]; exact a0, by rw [kk _ _ az]; exact a1, by rw [kk _ _ az]; exact a2, by rw [kk _ _ bz]; exact b0, by rw [kk _ _ bz]; exact b1, by rw [kk _ _ bz]; exact b2⟩) | (refine keepA _ (by assumption) ?_; intro kk; exact ⟨by rw [kk _ _ az]; exact a0, by rw [kk _ _ az]; exact a1, by rw [kk _ _ az]; exact a2, by rw [kk _ _ bz]; exact b0, by rw [kk _ _ bz]; exact b1, by rw [kk _ _ bz]; exact b2⟩) | (exact ⟨⟨by simpa [go_sem] using a0, by simpa [go_sem] using a1, by simpa [go_sem] using a2, by simpa [go_sem] using b0, by simpa [go_sem] using b1, by simpa [go_sem] using b2⟩, Below.drew (Below.refl _ _)⟩))
    (first | (go_at_call 24; refine (cmpk_any _ _ _).mono ?_; rintro e w' ⟨rfl, rfl⟩) | (go_at_call 25; refine (cmpi_any _ _ _).mono ?_; rintro e w' ⟨rfl, rfl⟩) | (go_at_call 26; refine (cmps_any _ _ _).mono ?_; rintro e w' ⟨rfl, rfl⟩) | (go_at_call 23; refine (or_any (cmpI k k') (cmpI n n') (Lib.compareBytes s.data.toList s'.data.toList) _ _ _ ?c0 ?c1 ?c2).mono ?_; (case c0 => simp [go_sem]); (case c1 => simp [go_sem]); (case c2 => simp [go_sem]); rintro e w' ⟨rfl, rfl⟩))
  all_goals
    have M := Lib.hid (show Below W.heap.size W _ by rename_i hS; exact hS.2)
    go_wp2
    go_ret
    exact ⟨rfl, bnext L.out (by omega) M.out⟩
end Go.Proofs.YthfhehpfkpicmaaDoor.Val
