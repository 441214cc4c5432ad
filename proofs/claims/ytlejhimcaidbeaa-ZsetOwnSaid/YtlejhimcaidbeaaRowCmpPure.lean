/-
  The order of rows in plain words: it answers -1, 0 or 1; turned about the other way; 0 of the same alone. No program is named here.
-/
import Derived.Test.YtlejhimcaidbeaaCodePure
namespace Go.Proofs.Ytlejhimcaidbeaa.Code
open Val
set_option linter.unusedVariables false

theorem cmpL_range : ∀ a b : List (Int × Int × ByteArray), cmpL a b = -1 ∨ cmpL a b = 0 ∨ cmpL a b = 1
  | [], [] => .inr (.inl (by rw [cmpL]))
  | [], _ :: _ => .inl (by rw [cmpL])
  | _ :: _, [] => .inr (.inr (by rw [cmpL]))
  | a :: l, b :: m => by
    have h1 := cmpV_range a.1 a.2.1 a.2.2 b.1 b.2.1 b.2.2
    have h2 := cmpL_range l m
    rw [cmpL]
    split
    · exact h1
    · exact h2
theorem cmpL_neg : ∀ a b : List (Int × Int × ByteArray), cmpL b a = -cmpL a b
  | [], [] => by rw [cmpL]; rfl
  | [], _ :: _ => by rw [cmpL, cmpL]; rfl
  | _ :: _, [] => by rw [cmpL, cmpL]
  | a :: l, b :: m => by
    have h1 := cmpV_neg a.1 a.2.1 a.2.2 b.1 b.2.1 b.2.2
    have h2 := cmpL_neg l m
    rw [cmpL, cmpL, h1]
    by_cases h : cmpV a.1 a.2.1 a.2.2 b.1 b.2.1 b.2.2 = 0
    · rw [if_neg (by rw [h]; simp), if_neg (by rw [h]; simp), h2]
    · rw [if_pos (by omega), if_pos h]
theorem cmpL_self : ∀ a : List (Int × Int × ByteArray), cmpL a a = 0
  | [] => by rw [cmpL]
  | a :: l => by rw [cmpL, if_neg (by rw [cmpV_self]; simp), cmpL_self l]
theorem cmpL_zero : ∀ {a b : List (Int × Int × ByteArray)}, cmpL a b = 0 → a = b
  | [], [], _ => rfl
  | [], _ :: _, h => by rw [cmpL] at h; exact absurd h (by decide)
  | _ :: _, [], h => by rw [cmpL] at h; exact absurd h (by decide)
  | a :: l, b :: m, h => by
    rw [cmpL] at h
    split at h
    · rename_i h1
      exact absurd h h1
    · rename_i h1
      obtain ⟨e1, e2, e3⟩ := cmpV_zero (by simpa using h1)
      obtain ⟨a1, a2, a3⟩ := a
      obtain ⟨b1, b2, b3⟩ := b
      simp only at e1 e2 e3
      rw [e1, e2, e3, cmpL_zero h]
theorem cmpL_same (a b : List (Int × Int × ByteArray)) : (cmpL a b == 0) = decide (a = b) := by
  by_cases h : a = b
  · subst h
    rw [cmpL_self]
    simp
  · have : ¬ cmpL a b = 0 := fun e => h (cmpL_zero e)
    simp [h, this]
end Go.Proofs.Ytlejhimcaidbeaa.Code
