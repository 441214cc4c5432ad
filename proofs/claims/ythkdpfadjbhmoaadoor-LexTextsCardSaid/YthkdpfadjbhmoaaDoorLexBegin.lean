/-
  Contracts of lex's begins and first: what a text begins with, and the word that begins it.
-/
import Derived.Test.YthkdpfadjbhmoaaDoorLexRun
namespace Go.Proofs.YthkdpfadjbhmoaaDoor.Code
open Go.ChangeShapes Go.WideShapes Go.ChangeAt Go.RowKit Val
set_option linter.unusedVariables false
set_option linter.unusedSimpArgs false
def markB (c : UInt8) : Bool := decide (c ∈ [40, 41, 44, 61, 43, 45, 42])
theorem idx_mem : ∀ (l : List UInt8) (c : UInt8), 0 ≤ Lib.indexByte l c ↔ c ∈ l
  | [], c => by simp [Lib.indexByte]
  | b :: l, c => by
    have ih := idx_mem l c
    have hg := Lib.indexByte_ge l c
    unfold Lib.indexByte
    by_cases hb : b = c
    · subst hb
      simp
    · have hb2 : ¬ c = b := fun e => hb e.symm
      simp only [beq_iff_eq, if_neg hb, List.mem_cons, hb2, false_or]
      rw [← ih]
      split <;> omega
theorem mark_idx (c : UInt8) : decide (0 ≤ Lib.indexByte [40, 41, 44, 61, 43, 45, 42] c) = markB c := decide_eq_decide.2 (idx_mem _ c)
/-- what a text begins with: the kind, and how many bytes there are, however many -/
def beginsL (s : List UInt8) : Int × Nat :=
  match s with
  | [] => (3, 0)
  | c :: r =>
    if c = 60 ∨ c = 62 then (3, if twoB (c :: r) = true then 2 else 1)
    else if markB c = true then (3, 1)
    else if c = 39 then (2, quoN (c :: r))
    else if figB c = true then (1, runL figB (c :: r))
    else if letB c = true then (0, runL nameB (c :: r))
    else (3, 0)
theorem begins_cons (c : UInt8) (r : List UInt8) : beginsL (c :: r) = if c = 60 ∨ c = 62 then (3, if twoB (c :: r) = true then 2 else 1) else if markB c = true then (3, 1) else if c = 39 then (2, quoN (c :: r)) else if figB c = true then (1, runL figB (c :: r)) else if letB c = true then (0, runL nameB (c :: r)) else (3, 0) := rfl
theorem twoB_two (c d : UInt8) : twoB [c, d] = (c == 60 && (d == 62 || d == 61) || c == 62 && d == 61) := rfl
def textOf (s : List UInt8) : List UInt8 := if (beginsL s).1 = 2 ∧ 0 < (beginsL s).2 then quoT s else s.take (beginsL s).2
theorem fig_let {c : UInt8} (h : figB c = true) : letB c = false := by
  unfold figB at h
  unfold letB
  simp at *
  omega
theorem mark_cases {c : UInt8} (h : markB c = true) : c = 40 ∨ c = 41 ∨ c = 44 ∨ c = 61 ∨ c = 43 ∨ c = 45 ∨ c = 42 := by
  unfold markB at h
  simpa using h
theorem firstL_is (s : List UInt8) : firstL s = if (beginsL s).2 = 0 ∨ longK (beginsL s).1 < (textOf s).length then none else some ((beginsL s).1, textOf s, (beginsL s).2) := by
  cases s with
  | nil => rfl
  | cons c r =>
    by_cases h60 : c = 60 ∨ c = 62
    · have hb : beginsL (c :: r) = (3, if twoB (c :: r) = true then 2 else 1) := by rw [begins_cons, if_pos h60]
      have ht : textOf (c :: r) = (c :: r).take (if twoB (c :: r) = true then 2 else 1) := by unfold textOf; rw [hb, if_neg (by simp)]
      have hl : letB c = false := by rcases h60 with rfl | rfl <;> decide
      have hf : figB c = false := by rcases h60 with rfl | rfl <;> decide
      have h39 : c ≠ 39 := by rcases h60 with rfl | rfl <;> decide
      have h1 : oneB c = true := by rcases h60 with rfl | rfl <;> decide
      rw [firstL, if_neg (by rw [hl]; decide), if_neg (by rw [hf]; decide), if_neg h39, ht, hb]
      by_cases h2 : twoB (c :: r) = true
      · rw [if_pos h2, if_pos h2, if_neg]
        show ¬ (2 = 0 ∨ longK 3 < (((c :: r).take 2).length : Int))
        have : ((c :: r).take 2).length ≤ 2 := by rw [List.length_take]; omega
        rw [show longK 3 = 2 from rfl]
        omega
      · rw [if_neg h2, if_neg h2, if_pos h1, if_neg]
        · rfl
        · show ¬ (1 = 0 ∨ longK 3 < (((c :: r).take 1).length : Int))
          have : ((c :: r).take 1).length ≤ 1 := by rw [List.length_take]; omega
          rw [show longK 3 = 2 from rfl]
          omega
    by_cases hm : markB c = true
    · have hb : beginsL (c :: r) = (3, 1) := by rw [begins_cons, if_neg h60, if_pos hm]
      have ht : textOf (c :: r) = [c] := by unfold textOf; rw [hb, if_neg (by simp)]; rfl
      have hc := mark_cases hm
      have hl : letB c = false := by rcases hc with rfl | rfl | rfl | rfl | rfl | rfl | rfl <;> decide
      have hf : figB c = false := by rcases hc with rfl | rfl | rfl | rfl | rfl | rfl | rfl <;> decide
      have h39 : c ≠ 39 := by rcases hc with rfl | rfl | rfl | rfl | rfl | rfl | rfl <;> decide
      have h1 : oneB c = true := by rcases hc with rfl | rfl | rfl | rfl | rfl | rfl | rfl <;> decide
      have h2 : twoB (c :: r) = false := by
        cases r with
        | nil => rfl
        | cons d r =>
          rw [twoB_cons, twoB_two, show (c == 60) = false by simpa using fun e => h60 (.inl e), show (c == 62) = false by simpa using fun e => h60 (.inr e)]
          rfl
      rw [firstL, if_neg (by rw [hl]; decide), if_neg (by rw [hf]; decide), if_neg h39, if_neg (by rw [h2]; decide), if_pos h1, ht, hb]
      rfl
    by_cases h39 : c = 39
    · subst h39
      have hb : beginsL (39 :: r) = (2, quoN (39 :: r)) := by rw [begins_cons, if_neg h60, if_neg hm, if_pos rfl]
      rw [firstL, if_neg (by decide), if_neg (by decide), if_pos rfl]
      unfold textOf
      rw [hb]
      unfold quoN quoT
      rw [List.drop_one, List.tail_cons]
      cases quoL r with
      | none => rfl
      | some v =>
        obtain ⟨t, n⟩ := v
        dsimp only
        rw [if_pos (show (2 : Int) = 2 ∧ 0 < n + 1 from ⟨rfl, by omega⟩), show longK 2 = 200 from rfl]
        by_cases h200 : t.length ≤ 200
        · rw [if_pos h200, if_neg (by omega)]
        · rw [if_neg h200, if_pos (by omega)]
    by_cases hf : figB c = true
    · have hb : beginsL (c :: r) = (1, runL figB (c :: r)) := by rw [begins_cons, if_neg h60, if_neg hm, if_neg h39, if_pos hf]
      have ht : textOf (c :: r) = (c :: r).take (runL figB (c :: r)) := by unfold textOf; rw [hb, if_neg (by simp)]
      have hp := runL_pos (s := r) hf
      have hle := runL_le figB (c :: r)
      rw [firstL, if_neg (by rw [fig_let hf]; decide), if_pos hf, ht, hb, show longK 1 = 19 from rfl, List.length_take]
      dsimp only
      by_cases h19 : runL figB (c :: r) ≤ 19
      · rw [if_pos h19, if_neg (by omega)]
      · rw [if_neg h19, if_pos (by omega)]
    by_cases hl : letB c = true
    · have hb : beginsL (c :: r) = (0, runL nameB (c :: r)) := by rw [begins_cons, if_neg h60, if_neg hm, if_neg h39, if_neg hf, if_pos hl]
      have ht : textOf (c :: r) = (c :: r).take (runL nameB (c :: r)) := by unfold textOf; rw [hb, if_neg (by simp)]
      have hp : 1 ≤ runL nameB (c :: r) := runL_pos (by unfold nameB; rw [hl]; rfl)
      have hle := runL_le nameB (c :: r)
      rw [firstL, if_pos hl, ht, hb, show longK 0 = 20 from rfl, List.length_take]
      dsimp only
      by_cases h20 : runL nameB (c :: r) ≤ 20
      · rw [if_pos h20, if_neg (by omega)]
      · rw [if_neg h20, if_pos (by omega)]
    · have hb : beginsL (c :: r) = (3, 0) := by rw [begins_cons, if_neg h60, if_neg hm, if_neg h39, if_neg hf, if_neg hl]
      have h2 : twoB (c :: r) = false := by
        cases r with
        | nil => rfl
        | cons d r =>
          rw [twoB_cons, twoB_two, show (c == 60) = false by simpa using fun e => h60 (.inl e), show (c == 62) = false by simpa using fun e => h60 (.inr e)]
          rfl
      have h1 : oneB c = false := by
        have hm' : ¬ c ∈ [40, 41, 44, 61, 43, 45, 42] := by unfold markB at hm; simpa using hm
        unfold oneB
        simp at hm' h60 ⊢
        simp [hm', h60]
      rw [firstL, if_neg hl, if_neg hf, if_neg h39, if_neg (by rw [h2]; decide), if_neg (by rw [h1]; decide), hb, if_pos (.inl rfl)]
theorem begins_le (s : List UInt8) : (beginsL s).2 ≤ s.length := by
  cases s with
  | nil => exact Nat.le_refl _
  | cons c r =>
    rw [begins_cons]
    split
    · dsimp only
      split
      · rename_i h
        cases r with
        | nil => cases h
        | cons d r => simp
      · simp
    split
    · simp
    split
    · unfold quoN
      rw [List.drop_one, List.tail_cons]
      cases hq : quoL r with
      | none => exact Nat.zero_le _
      | some v =>
        obtain ⟨t, n⟩ := v
        obtain ⟨r', rfl, rfl, -⟩ := quoL_is r t n hq
        simp
    split
    · exact runL_le _ _
    split
    · exact runL_le _ _
    · exact Nat.zero_le _
/-- what stands between a quote's first ' and its last -/
theorem quote_inner (s : List UInt8) (h : 0 < quoN s) : ((s.take (quoN s)).drop 1).take (quoN s - 2) = dbl (quoT s) ∧ 2 ≤ quoN s := by
  unfold quoN quoT at *
  cases hq : quoL (s.drop 1) with
  | none => rw [hq] at h; simp at h
  | some v =>
    obtain ⟨t, n⟩ := v
    obtain ⟨r', e1, rfl, -⟩ := quoL_is _ t n hq
    dsimp only
    refine ⟨?_, by omega⟩
    rw [List.drop_take, e1, show (dbl t).length + 1 + 1 - 1 = (dbl t).length + 1 by omega, List.take_take, show min ((dbl t).length + 1 + 1 - 2) ((dbl t).length + 1) = (dbl t).length by omega]
    simp
end Go.Proofs.YthkdpfadjbhmoaaDoor.Code
