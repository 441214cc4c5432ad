/-
  Values in plain words: which are right, which kinds are wider, casts, names, the order.
-/
import Derived.Lib.Strings
import Derived.Lib.Bytealg
import Derived.Lib.ReplaceLaws
import Derived.Lib.SlicesS
namespace Go.Proofs.Ytkibacolnagkcaa.Val

def fits (n : Int) : Prop := -9223372036854775808 ≤ n ∧ n ≤ 9223372036854775807
def holdsB (k n : Int) : Bool := if k = 1 then decide (n = 0 ∨ n = 1) else if k = 2 then decide (-2147483648 ≤ n ∧ n ≤ 2147483647) else decide (k = 3)
def rightB (k n : Int) (s : ByteArray) : Bool := if k = 4 then decide (n = 0 ∧ s.size ≤ 200) else if k = 0 then decide (n = 0 ∧ s.size = 0) else (decide (s.size = 0) && holdsB k n)
def columnB (k : Int) : Bool := decide (1 ≤ k ∧ k ≤ 4)
def widerB (k t : Int) : Bool := if k = t ∨ t = 0 then decide (0 ≤ k ∧ k ≤ 4) else decide (1 ≤ t ∧ t < k ∧ k ≤ 3)
def nameS (k : Int) : ByteArray := if k = 0 then ⟨#[110, 117, 108, 108]⟩ else if k = 1 then ⟨#[98, 111, 111, 108]⟩ else if k = 2 then ⟨#[105, 110, 116, 51, 50]⟩ else if k = 3 then ⟨#[105, 110, 116, 54, 52]⟩ else if k = 4 then ⟨#[116, 101, 120, 116]⟩ else ⟨#[]⟩
/-- the error of a cast -/
def castE (k n : Int) (s : ByteArray) (c : Int) : Int := if rightB k n s = false ∨ columnB c = false then 1 else if k = 0 ∨ k = c then 0 else if k = 4 ∨ c = 4 then 31 else if holdsB c n = true then 0 else 12
/-- what is cast -/
def castK (k n : Int) (s : ByteArray) (c : Int) : Int := if castE k n s c = 0 then (if k = 0 then 0 else c) else 0
def castN (k n : Int) (s : ByteArray) (c : Int) : Int := if castE k n s c = 0 then n else 0
def castS (k n : Int) (s : ByteArray) (c : Int) : ByteArray := if castE k n s c = 0 then s else ⟨#[]⟩
def cmpI (a b : Int) : Int := if a < b then -1 else if b < a then 1 else 0
/-- the first that is not 0 -/
def orI (a b c : Int) : Int := if a ≠ 0 then a else if b ≠ 0 then b else c
/-- how two values compare -/
def cmpV (k n : Int) (s : ByteArray) (k' n' : Int) (s' : ByteArray) : Int := orI (cmpI k k') (cmpI n n') (Lib.compareBytes s.data.toList s'.data.toList)
/-- the kind of a name -/
def namedK (s : ByteArray) : Int := if nameS 1 = s then 1 else if nameS 2 = s then 2 else if nameS 3 = s then 3 else if nameS 4 = s then 4 else 0

theorem size0 {s : ByteArray} (h : s.size = 0) : s = ⟨#[]⟩ := by
  obtain ⟨⟨l⟩⟩ := s
  simp [ByteArray.size] at h
  rw [h]
theorem size_pos {s : ByteArray} (h : s.size ≠ 0) : s.toList ≠ [] ∧ (s.toList == ([] : List UInt8)) = false ∧ s.toList.isEmpty = false := by
  have e : s.toList ≠ [] := by
    intro e
    apply h
    rw [ByteArray.toList_eq] at e
    have : s.data.toList.length = 0 := by rw [e]; rfl
    exact this
  refine ⟨e, by simpa using e, by cases hl : s.toList with | nil => exact absurd hl e | cons => rfl⟩
theorem right_s {k n : Int} {s : ByteArray} (h : rightB k n s = true) (hk : k ≠ 4) : s = ⟨#[]⟩ := by
  unfold rightB at h
  rw [if_neg hk] at h
  split at h
  · simp at h; exact h.2
  · simp at h; exact h.1
theorem right_small {k n : Int} {s : ByteArray} (h : rightB k n s = true) : s.size ≤ 200 := by
  by_cases hk : k = 4
  · unfold rightB at h; rw [if_pos hk] at h; simp at h; exact h.2
  · rw [right_s h hk]; exact Nat.zero_le _
end Go.Proofs.Ytkibacolnagkcaa.Val
/-
  The order of values in plain words: it answers -1, 0 or 1; turned about it answers the other way; 0 of the same alone; what is at most another is at most what that is at most.
-/
namespace Go.Proofs.Ytkibacolnagkcaa.Val

theorem cb_range : ∀ a b : List UInt8, Lib.compareBytes a b = -1 ∨ Lib.compareBytes a b = 0 ∨ Lib.compareBytes a b = 1
  | [], [] => by simp [Lib.compareBytes]
  | [], _ :: _ => by simp [Lib.compareBytes]
  | _ :: _, [] => by simp [Lib.compareBytes]
  | a :: xs, b :: bs => by
    unfold Lib.compareBytes
    split
    · exact Or.inl rfl
    · split
      · exact Or.inr (Or.inr rfl)
      · exact cb_range xs bs
theorem u8_lt (a b : UInt8) : a < b ↔ a.toNat < b.toNat := UInt8.lt_iff_toNat_lt
theorem u8_eq {a b : UInt8} (h : ¬ a < b) (g : ¬ b < a) : a = b := by
  rw [u8_lt] at h g
  exact UInt8.toNat_inj.1 (by omega)
theorem cb_self : ∀ a : List UInt8, Lib.compareBytes a a = 0
  | [] => by simp [Lib.compareBytes]
  | a :: xs => by
    unfold Lib.compareBytes
    rw [if_neg (by rw [u8_lt]; omega), if_neg (by rw [u8_lt]; omega)]
    exact cb_self xs
theorem cb_neg : ∀ a b : List UInt8, Lib.compareBytes b a = -Lib.compareBytes a b
  | [], [] => by simp [Lib.compareBytes]
  | [], _ :: _ => by simp [Lib.compareBytes]
  | _ :: _, [] => by simp [Lib.compareBytes]
  | a :: xs, b :: bs => by
    unfold Lib.compareBytes
    have h := cb_neg xs bs
    by_cases h1 : a < b
    · rw [if_neg (by rw [u8_lt] at *; omega), if_pos h1, if_pos h1]; rfl
    · by_cases h2 : b < a
      · rw [if_pos h2, if_neg h1, if_pos h2]
      · rw [if_neg h2, if_neg h1, if_neg h1, if_neg h2]; exact h
theorem cb_zero : ∀ {a b : List UInt8}, Lib.compareBytes a b = 0 → a = b
  | [], [], _ => rfl
  | [], _ :: _, h => by simp [Lib.compareBytes] at h
  | _ :: _, [], h => by simp [Lib.compareBytes] at h
  | a :: xs, b :: bs, h => by
    unfold Lib.compareBytes at h
    split at h
    · simp at h
    · rename_i h1
      split at h
      · simp at h
      · rename_i h2
        rw [u8_eq h1 h2, cb_zero h]
theorem cb_trans : ∀ {a b c : List UInt8}, Lib.compareBytes a b = -1 → Lib.compareBytes b c ≤ 0 → Lib.compareBytes a c = -1
  | [], [], _, h, _ => by simp [Lib.compareBytes] at h
  | _ :: _, [], _, h, _ => by simp [Lib.compareBytes] at h
  | [], _ :: _, [], _, g => by simp [Lib.compareBytes] at g
  | [], _ :: _, _ :: _, _, _ => by simp [Lib.compareBytes]
  | _ :: _, _ :: _, [], _, g => by simp [Lib.compareBytes] at g
  | a :: xs, b :: bs, c :: cs, h, g => by
    unfold Lib.compareBytes at h g ⊢
    by_cases h1 : a < b
    · by_cases g1 : b < c
      · rw [if_pos (by rw [u8_lt] at *; omega)]
      · rw [if_neg g1] at g
        by_cases g2 : c < b
        · rw [if_pos g2] at g; omega
        · rw [u8_eq g1 g2] at h1; rw [if_pos h1]
    · rw [if_neg h1] at h
      by_cases h2 : b < a
      · rw [if_pos h2] at h; omega
      · rw [if_neg h2] at h
        have e := u8_eq h1 h2
        subst e
        by_cases g1 : a < c
        · rw [if_pos g1]
        · rw [if_neg g1] at g ⊢
          by_cases g2 : c < a
          · rw [if_pos g2] at g; omega
          · rw [if_neg g2] at g ⊢
            exact cb_trans h g

theorem cmpI_range (a b : Int) : (cmpI a b = -1 ∧ a < b) ∨ (cmpI a b = 0 ∧ a = b) ∨ (cmpI a b = 1 ∧ b < a) := by unfold cmpI; omega
theorem cmpV_range (k n : Int) (s : ByteArray) (k' n' : Int) (s' : ByteArray) : cmpV k n s k' n' s' = -1 ∨ cmpV k n s k' n' s' = 0 ∨ cmpV k n s k' n' s' = 1 := by
  have h1 := cmpI_range k k'
  have h2 := cmpI_range n n'
  have h3 := cb_range s.data.toList s'.data.toList
  unfold cmpV orI
  omega
theorem cmpV_neg (k n : Int) (s : ByteArray) (k' n' : Int) (s' : ByteArray) : cmpV k' n' s' k n s = -cmpV k n s k' n' s' := by
  have h1 := cmpI_range k k'
  have h2 := cmpI_range n n'
  have g1 := cmpI_range k' k
  have g2 := cmpI_range n' n
  have h3 := cb_neg s.data.toList s'.data.toList
  unfold cmpV orI
  rw [h3]
  omega
theorem cmpV_self (k n : Int) (s : ByteArray) : cmpV k n s k n s = 0 := by
  have h1 := cmpI_range k k
  have h2 := cmpI_range n n
  have h3 := cb_self s.data.toList
  unfold cmpV orI
  omega
theorem ba_ext {s s' : ByteArray} (h : s.data.toList = s'.data.toList) : s = s' := by
  obtain ⟨⟨l⟩⟩ := s
  obtain ⟨⟨l'⟩⟩ := s'
  simp at h
  rw [h]
theorem cmpV_zero {k n : Int} {s : ByteArray} {k' n' : Int} {s' : ByteArray} (h : cmpV k n s k' n' s' = 0) : k = k' ∧ n = n' ∧ s = s' := by
  have h1 := cmpI_range k k'
  have h2 := cmpI_range n n'
  unfold cmpV orI at h
  have a : cmpI k k' = 0 := by omega
  have b : cmpI n n' = 0 := by omega
  have c : Lib.compareBytes s.data.toList s'.data.toList = 0 := by rw [if_neg (by omega), if_neg (by omega)] at h; exact h
  exact ⟨by omega, by omega, ba_ext (cb_zero c)⟩
/-- two values that read the same are at one place -/
theorem cmpV_same {k n : Int} {s : ByteArray} {k' n' : Int} {s' : ByteArray} (h : k = k') (g : n = n') (e : s.toList = s'.toList) : cmpV k n s k' n' s' = 0 := by
  rw [ByteArray.toList_eq, ByteArray.toList_eq] at e
  obtain rfl := ba_ext e
  subst h g
  exact cmpV_self _ _ _
theorem cmpV_trans {k n : Int} {s : ByteArray} {k' n' : Int} {s' : ByteArray} {k'' n'' : Int} {s'' : ByteArray} (h : cmpV k n s k' n' s' = -1) (g : cmpV k' n' s' k'' n'' s'' ≤ 0) : cmpV k n s k'' n'' s'' ≤ 0 := by
  have h1 := cmpI_range k k'
  have h2 := cmpI_range n n'
  have g1 := cmpI_range k' k''
  have g2 := cmpI_range n' n''
  have i1 := cmpI_range k k''
  have i2 := cmpI_range n n''
  have t := @cb_trans s.data.toList s'.data.toList s''.data.toList
  have r := cb_range s.data.toList s'.data.toList
  unfold cmpV orI at *
  omega
end Go.Proofs.Ytkibacolnagkcaa.Val
