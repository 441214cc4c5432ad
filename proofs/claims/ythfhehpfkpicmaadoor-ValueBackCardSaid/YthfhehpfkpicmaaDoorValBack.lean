/-
  Contracts of Fits (where it is true) and of Cast by its answer's parts, and what a cast and the order of two casts are in plain words.
-/
import Derived.Test.YthfhehpfkpicmaaDoorValAlive
import Derived.Test.YthfhehpfkpicmaaDoorValOrd
namespace Go.Proofs.YthfhehpfkpicmaaDoor.Val
open Go.ChangeShapes Go.WideShapes Go.ChangeAt Go.RowKit

set_option maxHeartbeats 1000000 in
theorem fits_yes (k n : Int) (s : ByteArray) (c : Int) (hn : fits n) (HR : Hid (rightB k n s = true)) (HC : Hid (columnB c = true)) (hk : k = 0 ∨ ((k == 0) = false ∧ k = c)) (w : World) :
    Calls Tryd.prog 18 #[.agg #[.int .i64 k, .int .i64 n, .string s], .int .i64 c] w fun e w' => e = .returned (.bool true) ∧ Below w.heap.size w w' := by
  rcases hk with rfl | ⟨h0, rfl⟩
  all_goals
    go_enter Tryd.func18, Tryd.ntmps18
    go_wp2_with (first | (go_at_call 20; refine (column_is _ true HC.out _).mono ?_; rintro e w' ⟨rfl, rfl⟩) | (go_at_call 17; refine (right_is _ n s hn true HR.out _).mono ?_; rintro e w1 ⟨rfl, hb1⟩; obtain ⟨x0, x1, x2, xz⟩ := (Box.fresh w _ n s 24).call hb1; have L1 := Lib.hid (bnext (below_alloc w _) (by simp) hb1); clear hb1))
    all_goals go_ret
    all_goals exact ⟨rfl, L1.out⟩
theorem cast_is (k n : Int) (s : ByteArray) (c : Int) (K N : Int) (S : ByteArray) (E : Int) (hn : fits n) (hK : castK k n s c = K) (hN : castN k n s c = N) (hS : castS k n s c = S) (hE : castE k n s c = E) (w : World) :
    Calls Tryd.prog 8 #[.agg #[.int .i64 k, .int .i64 n, .string s], .int .i64 c] w fun e w' => e = .returned (.tuple #[.agg #[.int .i64 K, .int .i64 N, .string S], .int .i64 E]) ∧ Below w.heap.size w w' := by
  have h := cast_any k n s c w hn
  unfold castP at h
  rw [hK, hN, hS, hE] at h
  exact h
/-- a cast that is none answers an empty value -/
theorem cast_no {k n : Int} {s : ByteArray} {c : Int} (h : castE k n s c ≠ 0) : castK k n s c = 0 ∧ castN k n s c = 0 ∧ castS k n s c = ⟨#[]⟩ := by
  unfold castK castN castS
  rw [if_neg h, if_neg h, if_neg h]
  exact ⟨rfl, rfl, rfl⟩
theorem cast_yes {k n : Int} {s : ByteArray} {c : Int} (h : castE k n s c = 0) : castK k n s c = (if k = 0 then 0 else c) ∧ castN k n s c = n ∧ castS k n s c = s := by
  unfold castK castN castS
  rw [if_pos h, if_pos h, if_pos h]
  exact ⟨rfl, rfl, rfl⟩
theorem cast_ok {k n : Int} {s : ByteArray} {c : Int} (h : castE k n s c = 0) : rightB k n s = true ∧ columnB c = true ∧ (k = 0 ∨ k = c ∨ (k ≠ 4 ∧ c ≠ 4 ∧ holdsB c n = true)) := by
  unfold castE at h
  split at h
  · omega
  · rename_i h1
    have h2 : rightB k n s = true ∧ columnB c = true := by simpa using h1
    refine ⟨h2.1, h2.2, ?_⟩
    split at h
    · rename_i h3; omega
    · split at h
      · omega
      · rename_i h4 h5
        split at h
        · rename_i h6; exact Or.inr (Or.inr ⟨by omega, by omega, h6⟩)
        · omega
/-- what is cast is right there -/
theorem cast_right {k n : Int} {s : ByteArray} {c : Int} (h : castE k n s c = 0) (h0 : k ≠ 0) : rightB c n s = true := by
  obtain ⟨hr, hc, hk⟩ := cast_ok h
  rcases hk with hk | rfl | ⟨h4, c4, hh⟩
  · exact absurd hk h0
  · exact hr
  · have c0 : c ≠ 0 := by unfold columnB at hc; simp at hc; omega
    rw [right_s hr h4]
    unfold rightB
    rw [if_neg c4, if_neg c0, hh]
    rfl
/-- a right value's number may be one of its kind -/
theorem right_holds {k n : Int} {s : ByteArray} (h : rightB k n s = true) (h0 : k ≠ 0) (h4 : k ≠ 4) : holdsB k n = true := by
  unfold rightB at h
  rw [if_neg h4, if_neg h0] at h
  simp at h
  exact h.2
theorem right_column {k n : Int} {s : ByteArray} (h : rightB k n s = true) (h0 : k ≠ 0) : columnB k = true := by
  unfold columnB
  by_cases h4 : k = 4
  · subst h4; decide
  have := right_holds h h0 h4
  unfold holdsB at this
  by_cases h1 : k = 1
  · subst h1; decide
  by_cases h2 : k = 2
  · subst h2; decide
  rw [if_neg h1, if_neg h2] at this
  have : k = 3 := by simpa using this
  subst this; decide
/-- cast back it is what it was -/
theorem cast_back {k n : Int} {s : ByteArray} {c : Int} (h : castE k n s c = 0) (h0 : k ≠ 0) : castE c n s k = 0 := by
  obtain ⟨hr, hc, hk⟩ := cast_ok h
  have c0 : c ≠ 0 := by unfold columnB at hc; simp at hc; omega
  unfold castE
  rw [if_neg (by rw [cast_right h h0, right_column hr h0]; simp)]
  rcases hk with hk | rfl | ⟨h4, c4, hh⟩
  · exact absurd hk h0
  · rw [if_pos (Or.inr rfl)]
  · by_cases e : c = k
    · rw [if_pos (Or.inr e)]
    · rw [if_neg (by omega), if_neg (by omega), if_pos (right_holds hr h0 h4)]
theorem back_all {k n : Int} {s : ByteArray} {c : Int} (h : castE k n s c = 0) (h0 : k ≠ 0) : castK c n s k = k ∧ castN c n s k = n ∧ castS c n s k = s ∧ castE c n s k = 0 := by
  have hb := cast_back h h0
  obtain ⟨hr, hc, hk⟩ := cast_ok h
  have c0 : c ≠ 0 := by unfold columnB at hc; simp at hc; omega
  obtain ⟨a, b, d⟩ := cast_yes hb
  rw [if_neg c0] at a
  exact ⟨a, b, d, hb⟩
/-- of one kind, two are in the order of their numbers and texts -/
theorem cmpV_kind (k c n n' : Int) (s s' : ByteArray) : cmpV k n s k n' s' = cmpV c n s c n' s' := by
  have h1 := cmpI_range k k
  have h2 := cmpI_range c c
  unfold cmpV
  rw [show cmpI k k = 0 by omega, show cmpI c c = 0 by omega]
end Go.Proofs.YthfhehpfkpicmaaDoor.Val
