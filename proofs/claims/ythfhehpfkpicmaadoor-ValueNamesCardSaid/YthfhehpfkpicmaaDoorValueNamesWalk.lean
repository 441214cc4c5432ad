/- The walk of ValueNames. -/
import Derived.Test.YthfhehpfkpicmaaDoorValAlive
import Derived.OpenShut
namespace Go.Proofs.YthfhehpfkpicmaaDoor.valueNames
open Go.ChangeShapes Go.WideShapes Go.ChangeAt Go.RowKit Val

/-- the kind of a name is none, or has it and is a column's -/
theorem named_cases (s : ByteArray) : namedK s = 0 ∨ (namedK s ≠ 0 ∧ nameS (namedK s) = s ∧ columnB (namedK s) = true) := by
  unfold namedK
  by_cases h1 : nameS 1 = s
  · rw [if_pos h1]; exact Or.inr ⟨by decide, h1, by decide⟩
  rw [if_neg h1]
  by_cases h2 : nameS 2 = s
  · rw [if_pos h2]; exact Or.inr ⟨by decide, h2, by decide⟩
  rw [if_neg h2]
  by_cases h3 : nameS 3 = s
  · rw [if_pos h3]; exact Or.inr ⟨by decide, h3, by decide⟩
  rw [if_neg h3]
  by_cases h4 : nameS 4 = s
  · rw [if_pos h4]; exact Or.inr ⟨by decide, h4, by decide⟩
  rw [if_neg h4]
  exact Or.inl rfl
theorem ne_size {a b : ByteArray} (h : a.data.toList ≠ b.data.toList) : ¬ a = b := fun e => h (by rw [e])
/-- the kind of a kind's name is the kind, where that is a column's; else there is none -/
theorem named_name (k : Int) : (columnB k = true ∧ namedK (nameS k) = k) ∨ (columnB k = false ∧ namedK (nameS k) = 0) := by
  by_cases h1 : k = 1
  · subst h1; exact Or.inl ⟨by decide, by unfold namedK; rw [if_pos rfl]⟩
  by_cases h2 : k = 2
  · subst h2; exact Or.inl ⟨by decide, by unfold namedK; rw [if_neg (ne_size (by decide)), if_pos rfl]⟩
  by_cases h3 : k = 3
  · subst h3; exact Or.inl ⟨by decide, by unfold namedK; rw [if_neg (ne_size (by decide)), if_neg (ne_size (by decide)), if_pos rfl]⟩
  by_cases h4 : k = 4
  · subst h4; exact Or.inl ⟨by decide, by unfold namedK; rw [if_neg (ne_size (by decide)), if_neg (ne_size (by decide)), if_neg (ne_size (by decide)), if_pos rfl]⟩
  refine Or.inr ⟨by unfold columnB; exact decide_eq_false (by omega), ?_⟩
  by_cases h0 : k = 0
  · subst h0; unfold namedK; rw [if_neg (ne_size (by decide)), if_neg (ne_size (by decide)), if_neg (ne_size (by decide)), if_neg (ne_size (by decide))]
  have e : nameS k = ⟨#[]⟩ := by unfold nameS; rw [if_neg h0, if_neg h1, if_neg h2, if_neg h3, if_neg h4]
  rw [e]; unfold namedK; rw [if_neg (ne_size (by decide)), if_neg (ne_size (by decide)), if_neg (ne_size (by decide)), if_neg (ne_size (by decide))]

theorem named_is (s : ByteArray) (j : Int) (b : Bool) (h : namedK s = j) (hb : decide (j ≠ 0) = b) (w : World) :
    Calls Tryd.prog 12 #[.string s] w fun e w' => e = .returned (.tuple #[.int .i64 j, .bool b]) ∧ w = w' := by
  have := named_any s w
  rw [h, hb] at this
  exact this

set_option maxHeartbeats 6400000 in
theorem walk (k : Int) (s : ByteArray) (_ : (Lit.int .i64 k).wf = true) (_ : s.size ≤ maxLen) (m : Int) (w : World) (hm : w.cell? ⟨0, 0, none⟩ = some (.int .i64 m)) :
    Calls Tryd.prog 4 #[.int .i64 k, .string s] w fun e w' => e = .returned (.bool true) ∧ Below w.heap.size w w' := by
  have HM := Lib.hid hm
  clear hm
  have hn : ∃ (j : Int) (b : Bool), namedK s = j ∧ decide (j ≠ 0) = b ∧ ((j = 0 ∧ b = false) ∨ ((j == 0) = false ∧ (j != 0) = true ∧ b = true ∧ ((nameS j).toList == s.toList) = true ∧ columnB j = true)) := by
    rcases named_cases s with h | ⟨h, g, c⟩
    · exact ⟨0, false, h, by decide, Or.inl ⟨rfl, rfl⟩⟩
    · exact ⟨namedK s, true, rfl, by simpa using h, Or.inr ⟨by simpa using h, by simpa using h, rfl, (Lib.bytes_beq_iff _ _).2 g, c⟩⟩
  have hk : ∃ (i : Int) (b : Bool), namedK (nameS k) = i ∧ decide (i ≠ 0) = b ∧ columnB k = b ∧ ((b = true ∧ i = k) ∨ (b = false ∧ i = 0)) := by
    rcases named_name k with ⟨c, h⟩ | ⟨c, h⟩
    · exact ⟨k, true, h, by unfold columnB at c; simp at c; simp; omega, c, Or.inl ⟨rfl, rfl⟩⟩
    · exact ⟨0, false, h, by decide, c, Or.inr ⟨rfl, rfl⟩⟩
  obtain ⟨j, b, hj, hjb, hjc⟩ := hn
  obtain ⟨i, d, hi, hid, hkd, hic⟩ := hk
  have C1 := Lib.hid (named_is s j b hj hjb)
  have C2 := Lib.hid (named_is (nameS k) i d hi hid)
  have C3 := Lib.hid (rcolumn_is k d hkd)
  have C4 := Lib.hid (rcolumn_is j)
  clear hj hjb hi hid hkd
  rcases hjc with ⟨rfl, rfl⟩ | ⟨j0, j1, rfl, js, jc⟩ <;> rcases hic with ⟨rfl, rfl⟩ | ⟨rfl, rfl⟩
  all_goals
    go_enter Tryd.func4, Tryd.ntmps4
    go_wp2_with fail
    refine (C1.out _).mono ?_
    rintro e w' ⟨rfl, rfl⟩
    go_wp2_with (first | (go_at_call 13; refine (rname_any _ _).mono ?_; rintro e w' ⟨rfl, rfl⟩) | (go_at_call 14; first | (refine (C3.out _).mono ?_; rintro e w' ⟨rfl, rfl⟩) | (refine (C4.out true jc _).mono ?_; rintro e w' ⟨rfl, rfl⟩)) | (go_at_call 15; refine (name_any _ _).mono ?_; rintro e w' ⟨rfl, rfl⟩) | (go_at_call 12; refine (C2.out _).mono ?_; rintro e w' ⟨rfl, rfl⟩) | (go_at_call 7; refine (alive_any m _ HM.out).mono ?_; rintro e w1 ⟨rfl, hb1⟩; have L1 := Lib.hid hb1; clear hb1))
    all_goals go_ret
    all_goals exact ⟨rfl, L1.out⟩
end Go.Proofs.YthfhehpfkpicmaaDoor.valueNames
