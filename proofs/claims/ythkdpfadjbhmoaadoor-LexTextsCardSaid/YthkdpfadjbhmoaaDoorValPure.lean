/-
  Values in plain words: which are right, which kinds are wider, casts, names, the order.
-/
import Derived.Lib.Strings
import Derived.Lib.Bytealg
import Derived.Lib.ReplaceLaws
import Derived.Lib.SlicesS
namespace Go.Proofs.YthkdpfadjbhmoaaDoor.Val

def fits (n : Int) : Prop := -9223372036854775808 ≤ n ∧ n ≤ 9223372036854775807
def holdsB (k n : Int) : Bool := if k = 1 then decide (n = 0 ∨ n = 1) else if k = 2 then decide (-2147483648 ≤ n ∧ n ≤ 2147483647) else decide (k = 3)
def rightB (k n : Int) (s : ByteArray) : Bool := if k = 4 then decide (n = 0 ∧ s.size ≤ 200) else if k = 0 then decide (n = 0 ∧ s.size = 0) else (decide (s.size = 0) && holdsB k n)
def columnB (k : Int) : Bool := decide (1 ≤ k ∧ k ≤ 4)
def widerB (k t : Int) : Bool := if k = t ∨ t = 0 then decide (0 ≤ k ∧ k ≤ 4) else decide (1 ≤ t ∧ t < k ∧ k ≤ 3)
def nameS (k : Int) : ByteArray := if k = 0 then ⟨#[110, 117, 108, 108]⟩ else if k = 1 then ⟨#[98, 111, 111, 108]⟩ else if k = 2 then ⟨#[105, 110, 116, 51, 50]⟩ else if k = 3 then ⟨#[105, 110, 116, 54, 52]⟩ else if k = 4 then ⟨#[116, 101, 120, 116]⟩ else ⟨#[]⟩
/-- the error of a cast -/
def castE (k n : Int) (s : ByteArray) (c : Int) : Int := if rightB k n s = false ∨ columnB c = false then 1 else if k = 0 ∨ k = c then 0 else if k = 4 ∨ c = 4 then 31 else if holdsB c n = true then 0 else 12
/-- what is cast -/
def castK (k n : Int) (s : ByteArray) (c : Int) : Int := if castE k n s c = 0 then (if k = 0 then 0 else c) else 0
def castN (k n : Int) (s : ByteArray) (c : Int) : Int := if castE k n s c = 0 then n else 0
def castS (k n : Int) (s : ByteArray) (c : Int) : ByteArray := if castE k n s c = 0 then s else ⟨#[]⟩
def cmpI (a b : Int) : Int := if a < b then -1 else if b < a then 1 else 0
/-- the first that is not 0 -/
def orI (a b c : Int) : Int := if a ≠ 0 then a else if b ≠ 0 then b else c
/-- how two values compare -/
def cmpV (k n : Int) (s : ByteArray) (k' n' : Int) (s' : ByteArray) : Int := orI (cmpI k k') (cmpI n n') (Lib.compareBytes s.data.toList s'.data.toList)
/-- the kind of a name -/
def namedK (s : ByteArray) : Int := if nameS 1 = s then 1 else if nameS 2 = s then 2 else if nameS 3 = s then 3 else if nameS 4 = s then 4 else 0

theorem size0 {s : ByteArray} (h : s.size = 0) : s = ⟨#[]⟩ := by
  obtain ⟨⟨l⟩⟩ := s
  simp [ByteArray.size] at h
  rw [h]
theorem size_pos {s : ByteArray} (h : s.size ≠ 0) : s.toList ≠ [] ∧ (s.toList == ([] : List UInt8)) = false ∧ s.toList.isEmpty = false := by
  have e : s.toList ≠ [] := by
    intro e
    apply h
    rw [ByteArray.toList_eq] at e
    have : s.data.toList.length = 0 := by rw [e]; rfl
    exact this
  refine ⟨e, by simpa using e, by cases hl : s.toList with | nil => exact absurd hl e | cons => rfl⟩
theorem right_s {k n : Int} {s : ByteArray} (h : rightB k n s = true) (hk : k ≠ 4) : s = ⟨#[]⟩ := by
  unfold rightB at h
  rw [if_neg hk] at h
  split at h
  · simp at h; exact h.2
  · simp at h; exact h.1
theorem right_small {k n : Int} {s : ByteArray} (h : rightB k n s = true) : s.size ≤ 200 := by
  by_cases hk : k = 4
  · unfold rightB at h; rw [if_pos hk] at h; simp at h; exact h.2
  · rw [right_s h hk]; exact Nat.zero_le _
end Go.Proofs.YthkdpfadjbhmoaaDoor.Val

