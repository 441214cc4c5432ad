/-
  How many words a text has, and how long they are. No function of the program is named here.
-/
import Derived.Test.YthkdpfadjbhmoaaDoorLexAlive
namespace Go.Proofs.YthkdpfadjbhmoaaDoor.Code
open Go.ChangeShapes Go.WideShapes Go.ChangeAt Go.RowKit Val Elems
set_option linter.unusedVariables false
theorem words_count (s : List UInt8) : ∀ (i : Int) (l : List W), wordsL s i = .ok l → l.length ≤ s.length := by
  refine words_way (Q := fun s => ∀ (i : Int) (l : List W), wordsL s i = .ok l → l.length ≤ s.length) ?_ ?_ ?_ ?_ s
  · intro i l h; cases h; exact Nat.le_refl _
  · intro c s hb ih i l h
    rw [wordsL_blank hb] at h
    have := ih _ l h
    simp only [List.length_cons]
    omega
  · intro c s hb hf i l h
    rw [wordsL_none hb hf] at h
    cases h
  · intro c s k t n hf ih i l h
    have hn := first_n hf
    rw [wordsL_one hf] at h
    cases hw : wordsL ((c :: s).drop n) (i + n) with
    | error j' => rw [hw] at h; cases h
    | ok l' =>
      rw [hw] at h
      cases h
      have := ih _ l' hw
      rw [List.length_drop] at this
      simp only [List.length_cons] at this hn ⊢
      omega
theorem first_small {s : List UInt8} {k : Int} {t : List UInt8} {n : Nat} (h : firstL s = some (k, t, n)) : t.length ≤ 200 := by
  rcases first_cases h with ⟨c, r, rfl, hl, -, rfl, rfl, h20⟩ | ⟨c, r, rfl, hl, hf, -, rfl, rfl, h19⟩ | ⟨r, rfl, -, m, hq, -, h200⟩ | ⟨c, d, r, rfl, -, -, -, -, -, rfl, -⟩ | ⟨c, r, rfl, -, -, -, -, -, -, rfl, -⟩
  · rw [List.length_take]; omega
  · rw [List.length_take]; omega
  · exact h200
  · simp
  · simp
theorem came_small {l : List W} (h : CameB l) : ∀ w ∈ l, w.2.1.length ≤ 200 := fun w hw => first_small (h w hw)
theorem came_fit {l : List W} (h : CameB l) : FitW l := fun w hw => Nat.le_trans (came_small h w hw) (by decide)
theorem showW_small {k : Int} {t : List UInt8} (h : t.length ≤ 200) : (showW k t).length ≤ 402 := by
  unfold showW
  split
  · exact show_length 4 0 ⟨t.toArray⟩ fits0
  · omega
theorem textL_small (l : List W) (h : CameB l) : (textL l).length ≤ 403 * l.length := by
  unfold textL
  have hs := came_small h
  cases l with
  | nil => simp [Lib.join_nil]
  | cons v l =>
    rw [List.map_cons, Lib.join_length]
    have := lens_le ((v :: l).map fun w => showW w.1 w.2.1) 402 (by intro x hx; obtain ⟨y, hy, rfl⟩ := List.mem_map.1 hx; exact showW_small (hs y hy))
    simp only [List.map_cons, List.length_cons, List.length_map, List.length_nil] at *
    omega
theorem wL_count (s : List UInt8) : (wL s).length ≤ s.length := by
  unfold wL
  cases h : wordsL s 0 with
  | error j => exact Nat.zero_le _
  | ok l => exact words_count s 0 l h
end Go.Proofs.YthkdpfadjbhmoaaDoor.Code
