/-
  Contracts of package value and of the document's answer, for every argument: the document's Right, Wider, Name, and Cast.
-/
import Derived.Test.YthfhehpfkpicmaaDoorValCalls
namespace Go.Proofs.YthfhehpfkpicmaaDoor.Val
open Go.ChangeShapes Go.WideShapes Go.ChangeAt Go.RowKit

theorem below_alloc (W : World) (o : Obj) : Below W.heap.size W (W.alloc o) := (Below.refl _ _).alloc (Nat.le_refl _) o
theorem bnext {B : Nat} {w W W' : World} (h : Below B w W) (hB : B ≤ W.heap.size) (hb : Below W.heap.size W W') : Below B w W' := h.trans (hb.mono hB)
theorem bcell {W w1 : World} (hb : Below W.heap.size W w1) : (∀ b o, b < W.heap.size → w1.cell? ⟨b, o, none⟩ = W.cell? ⟨b, o, none⟩) ∧ (∀ b o, b < W.heap.size → w1.frozen? ⟨b, o, none⟩ = W.frozen? ⟨b, o, none⟩) :=
  ⟨fun b o h => hb.cell (p := ⟨b, o, none⟩) h, fun b o h => hb.frozen (p := ⟨b, o, none⟩) h⟩

theorem right_empty (k n : Int) : rightB k n ⟨#[]⟩ = if k = 4 then decide (n = 0) else if k = 0 then decide (n = 0) else holdsB k n := by
  unfold rightB
  rw [show (⟨#[]⟩ : ByteArray).size = 0 from rfl]
  simp
set_option maxHeartbeats 1000000 in
theorem rright_any (k n : Int) (s : ByteArray) (w : World) :
    Calls Tryd.prog 22 #[.agg #[.int .i64 k, .int .i64 n, .string s]] w fun e w' => e = .returned (.bool (rightB k n s)) ∧ Below w.heap.size w w' := by
  have hb0 : ∀ o, Below w.heap.size w (w.alloc o) := fun o => (Below.refl _ _).alloc (Nat.le_refl _) o
  by_cases h4 : k = 4
  · subst h4
    by_cases h0 : n = 0
    all_goals
      go_enter Tryd.func22, Tryd.ntmps22
      go_wp2
      go_ret
      exact ⟨retB (by unfold rightB; simp [h0]; try omega), hb0 _⟩
  by_cases hs : s.size = 0
  · obtain rfl := size0 hs
    by_cases hk0 : k = 0
    · subst hk0
      go_enter Tryd.func22, Tryd.ntmps22
      go_wp2
      go_ret
      exact ⟨retB (by rw [right_empty, Bool.eq_iff_iff]; simp), hb0 _⟩
    by_cases hk1 : k = 1
    · subst hk1
      by_cases h0 : n = 0
      all_goals
        go_enter Tryd.func22, Tryd.ntmps22
        go_wp2
        go_ret
        exact ⟨retB (by rw [right_empty, Bool.eq_iff_iff]; unfold holdsB; simp [h0]), hb0 _⟩
    by_cases hk2 : k = 2
    · subst hk2
      by_cases h0 : -2147483648 ≤ n
      all_goals
        go_enter Tryd.func22, Tryd.ntmps22
        go_wp2
        go_ret
        exact ⟨retB (by rw [right_empty, Bool.eq_iff_iff]; unfold holdsB; simp [h0]; try omega), hb0 _⟩
    by_cases hk3 : k = 3
    · subst hk3
      go_enter Tryd.func22, Tryd.ntmps22
      go_wp2
      go_ret
      exact ⟨retB (by rw [right_empty]; unfold holdsB; simp), hb0 _⟩
    · have k4 : (k == 4) = false := by simpa using h4
      have k0 : (k == 0) = false := by simpa using hk0
      have k1 : (k == 1) = false := by simpa using hk1
      have k2 : (k == 2) = false := by simpa using hk2
      have k3 : (k == 3) = false := by simpa using hk3
      go_enter Tryd.func22, Tryd.ntmps22
      go_wp2
      go_ret
      exact ⟨retB (by unfold rightB holdsB; simp [h4, hk0, hk1, hk2, hk3]), hb0 _⟩
  · obtain ⟨e1, e2, e3⟩ := size_pos hs
    have k4 : (k == 4) = false := by simpa using h4
    go_enter Tryd.func22, Tryd.ntmps22
    go_wp2
    go_ret
    exact ⟨retB (by unfold rightB holdsB; by_cases hk0 : k = 0 <;> simp [h4, hk0, hs]), hb0 _⟩

/-- which of the five kinds, or none -/
theorem kinds (k : Int) : k = 0 ∨ k = 1 ∨ k = 2 ∨ k = 3 ∨ k = 4 ∨ ((k == 0) = false ∧ (k == 1) = false ∧ (k == 2) = false ∧ (k == 3) = false ∧ (k == 4) = false) := by
  by_cases h0 : k = 0; · exact Or.inl h0
  by_cases h1 : k = 1; · exact Or.inr (Or.inl h1)
  by_cases h2 : k = 2; · exact Or.inr (Or.inr (Or.inl h2))
  by_cases h3 : k = 3; · exact Or.inr (Or.inr (Or.inr (Or.inl h3)))
  by_cases h4 : k = 4; · exact Or.inr (Or.inr (Or.inr (Or.inr (Or.inl h4))))
  exact Or.inr (Or.inr (Or.inr (Or.inr (Or.inr ⟨by simpa using h0, by simpa using h1, by simpa using h2, by simpa using h3, by simpa using h4⟩))))

theorem wider_out (k t : Int) (h : k ≠ t) (h0 : t ≠ 0) (h1 : t ≠ 1) (h2 : t ≠ 2) : widerB k t = false := by
  unfold widerB
  rw [if_neg (by omega)]
  exact decide_eq_false (by omega)
set_option maxHeartbeats 1000000 in
theorem wider_any (k t : Int) (w : World) :
    Calls Tryd.prog 10 #[.int .i64 k, .int .i64 t] w fun e w' => e = .returned (.bool (widerB k t)) ∧ w = w' := by
  rcases kinds k with rfl | rfl | rfl | rfl | rfl | ⟨k0, k1, k2, k3, k4⟩
  iterate 5
    · rcases kinds t with rfl | rfl | rfl | rfl | rfl | ⟨t0, t1, t2, t3, t4⟩
      iterate 5
        · go_enter Tryd.func10, Tryd.ntmps10
          go_wp2
          go_ret
          exact ⟨retB (by decide), rfl⟩
      · go_enter Tryd.func10, Tryd.ntmps10
        go_wp2
        go_ret
        simp at t0 t1 t2 t3 t4
        exact ⟨retB (wider_out _ t (by omega) t0 t1 t2).symm, rfl⟩
  · go_enter Tryd.func10, Tryd.ntmps10
    go_wp2
    go_ret
    simp at k0 k1 k2 k3 k4
    exact ⟨retB (by unfold widerB; split <;> exact (decide_eq_false (by omega)).symm), rfl⟩
set_option maxHeartbeats 1000000 in
theorem rwider_any (k t : Int) (w : World) :
    Calls Tryd.prog 11 #[.int .i64 k, .int .i64 t] w fun e w' => e = .returned (.bool (widerB k t)) ∧ w = w' := by
  by_cases h : k = t
  · subst h
    by_cases h1 : 0 ≤ k
    all_goals
      go_enter Tryd.func11, Tryd.ntmps11
      go_wp2
      go_ret
      exact ⟨retB (by unfold widerB; simp [h1]; try omega), rfl⟩
  have e : (k == t) = false := by simpa using h
  by_cases h0 : t = 0
  · subst h0
    by_cases h1 : 0 ≤ k
    all_goals
      go_enter Tryd.func11, Tryd.ntmps11
      go_wp2
      go_ret
      exact ⟨retB (by unfold widerB; simp [h1]; try omega), rfl⟩
  have e0 : (t == 0) = false := by simpa using h0
  by_cases h1 : 1 ≤ t
  · by_cases h2 : t < k
    all_goals
      go_enter Tryd.func11, Tryd.ntmps11
      go_wp2
      go_ret
      exact ⟨retB (by unfold widerB; simp [h, h0, h1, h2]; try omega), rfl⟩
  · go_enter Tryd.func11, Tryd.ntmps11
    go_wp2
    go_ret
    exact ⟨retB (by unfold widerB; simp [h, h0]; omega), rfl⟩

theorem name_any (k : Int) (w : World) :
    Calls Tryd.prog 15 #[.int .i64 k] w fun e w' => e = .returned (.string (nameS k)) ∧ w = w' := by
  rcases kinds k with rfl | rfl | rfl | rfl | rfl | ⟨k0, k1, k2, k3, k4⟩
  all_goals
    go_enter Tryd.func15, Tryd.ntmps15
    go_wp2
    go_ret
    exact ⟨by unfold nameS; simp_all, rfl⟩
theorem rname_any (k : Int) (w : World) :
    Calls Tryd.prog 13 #[.int .i64 k] w fun e w' => e = .returned (.string (nameS k)) ∧ w = w' := by
  rcases kinds k with rfl | rfl | rfl | rfl | rfl | ⟨k0, k1, k2, k3, k4⟩
  all_goals
    go_enter Tryd.func13, Tryd.ntmps13
    go_wp2
    go_ret
    exact ⟨by unfold nameS; simp_all, rfl⟩
end Go.Proofs.YthfhehpfkpicmaaDoor.Val
