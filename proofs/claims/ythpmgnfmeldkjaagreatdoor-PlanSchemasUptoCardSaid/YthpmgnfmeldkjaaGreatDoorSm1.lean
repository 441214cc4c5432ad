/-
  Values in plain words: which are right, which kinds are wider, casts, names, the order.
-/
import Derived.Lib.Strings
import Derived.Lib.Bytealg
import Derived.Lib.ReplaceLaws
import Derived.Lib.SlicesS
import Derived.Lib.CountLaws
import Derived.Lib.Replace
import Derived.Lib.ItoaNum
import Derived.Lib.ItoaLen
import Derived.Lib.Join
import Derived.Test.YthpmgnfmeldkjaaGreatDoorChecked
import Derived.WalkKit
import Derived.ProofKit
import Derived.Lib.Hide
import Derived.Below
import Derived.OwnWalk
import Derived.Deep.RegionHeld3
import Derived.WalkLawsBesides
import Derived.LoopTactic
set_option maxRecDepth 100000
set_option maxHeartbeats 16000000
set_option linter.unusedVariables false
set_option linter.unusedSimpArgs false
open Go.Lib (hid)
namespace Go.Proofs.YthpmgnfmeldkjaaGreatDoor.Val
def fits (n : Int) : Prop := -9223372036854775808 ≤ n ∧ n ≤ 9223372036854775807
def holdsB (k n : Int) : Bool := if k = 1 then decide (n = 0 ∨ n = 1) else if k = 2 then decide (-2147483648 ≤ n ∧ n ≤ 2147483647) else decide (k = 3)
def rightB (k n : Int) (s : ByteArray) : Bool := if k = 4 then decide (n = 0 ∧ s.size ≤ 200) else if k = 0 then decide (n = 0 ∧ s.size = 0) else (decide (s.size = 0) && holdsB k n)
def columnB (k : Int) : Bool := decide (1 ≤ k ∧ k ≤ 4)
def widerB (k t : Int) : Bool := if k = t ∨ t = 0 then decide (0 ≤ k ∧ k ≤ 4) else decide (1 ≤ t ∧ t < k ∧ k ≤ 3)
def castE (k n : Int) (s : ByteArray) (c : Int) : Int := if rightB k n s = false ∨ columnB c = false then 1 else if k = 0 ∨ k = c then 0 else if k = 4 ∨ c = 4 then 31 else if holdsB c n = true then 0 else 12
def castK (k n : Int) (s : ByteArray) (c : Int) : Int := if castE k n s c = 0 then (if k = 0 then 0 else c) else 0
def castN (k n : Int) (s : ByteArray) (c : Int) : Int := if castE k n s c = 0 then n else 0
def castS (k n : Int) (s : ByteArray) (c : Int) : ByteArray := if castE k n s c = 0 then s else ⟨#[]⟩
theorem size0 {s : ByteArray} (h : s.size = 0) : s = ⟨#[]⟩ := by
 obtain ⟨⟨l⟩⟩ := s
 simp [ByteArray.size] at h
 rw [h]
theorem size_pos {s : ByteArray} (h : s.size ≠ 0) : s.toList ≠ [] ∧ (s.toList == ([] : List UInt8)) = false ∧ s.toList.isEmpty = false := by
 have e : s.toList ≠ [] := by
  intro e
  apply h
  rw [ByteArray.toList_eq] at e
  have : s.data.toList.length = 0 := by rw [e]; rfl
  exact this
 refine ⟨e, by simpa using e, by cases hl : s.toList with | nil => exact absurd hl e | cons => rfl⟩
theorem right_s {k n : Int} {s : ByteArray} (h : rightB k n s = true) (hk : k ≠ 4) : s = ⟨#[]⟩ := by
 unfold rightB at h
 rw [if_neg hk] at h
 split at h
 ·simp at h; exact h.2
 ·simp at h; exact h.1
end Go.Proofs.YthpmgnfmeldkjaaGreatDoor.Val
/-
  Values' bytes in plain words: numbers as bytes, the highest first; a text's bytes with 0 taken; what bytes begin with a value; there and back; in order. No program is named here.
-/
namespace Go.Proofs.YthpmgnfmeldkjaaGreatDoor.Code
open Val
theorem rep_nil (old new : List UInt8) (h : old ≠ []) : Lib.replaceAll [] old new = [] := by
 unfold Lib.replaceAll Lib.replace
 split
 ·rfl
 ·have hi : Lib.index [] old = -1 := by cases old with | nil => exact absurd rfl h | cons => rfl
  rw [Lib.replaceNum, if_pos (Or.inl (by decide)), Lib.count_miss hi]
  rfl
theorem rep_hit {old new s : List UInt8} (hne : old ≠ new) (h : old ≠ []) {i : Nat} (hi : Lib.index s old = i) : Lib.replaceAll s old new = s.take i ++ new ++ Lib.replaceAll (s.drop (i + old.length)) old new := by
 have hb : ¬ (old == new) = true := by simpa using hne
 unfold Lib.replaceAll Lib.replace
 rw [if_neg hb, if_neg hb, Lib.replaceNum, if_pos (Or.inl (by decide)), Lib.replaceNum, if_pos (Or.inl (by decide)), Lib.count_hit h hi, Nat.add_comm, Lib.replaceK_hit _ _ _ _ i hi]
theorem rep_miss {old new s : List UInt8} (hi : Lib.index s old = -1) : Lib.replaceAll s old new = s := by
 unfold Lib.replaceAll Lib.replace
 split
 ·rfl
 ·rw [Lib.replaceNum, if_pos (Or.inl (by decide)), Lib.count_miss hi]
  rfl
theorem rep_yes {old new l : List UInt8} {b : UInt8} (hne : old ≠ new) (h : old ≠ []) (hp : old.isPrefixOf (b :: l) = true) : Lib.replaceAll (b :: l) old new = new ++ Lib.replaceAll ((b :: l).drop old.length) old new := by
 have hi : Lib.index (b :: l) old = (0 : Nat) := by rw [Lib.index, if_pos hp]; rfl
 rw [rep_hit hne h hi]
 simp
theorem rep_no {old new l : List UInt8} {b : UInt8} (hne : old ≠ new) (h : old ≠ []) (hp : old.isPrefixOf (b :: l) = false) : Lib.replaceAll (b :: l) old new = b :: Lib.replaceAll l old new := by
 have hi : Lib.index (b :: l) old = if Lib.index l old == -1 then -1 else Lib.index l old + 1 := by rw [Lib.index, if_neg (by simp [hp])]
 by_cases hm : Lib.index l old = -1
 ·rw [hm] at hi
  rw [rep_miss hm, rep_miss (by simpa using hi)]
 ·have hge := Lib.index_ge l old
  obtain ⟨i, hl⟩ : ∃ i : Nat, Lib.index l old = i := ⟨(Lib.index l old).toNat, by omega⟩
  rw [if_neg (by simpa using hm), hl] at hi
  rw [rep_hit hne h (i := i + 1) (by rw [hi]; omega), rep_hit hne h hl, show i + 1 + old.length = (i + old.length) + 1 by omega]
  simp
def dbl : List UInt8 → List UInt8
 | [] => []
 | b :: l => if b = 39 then 39 :: 39 :: dbl l else b :: dbl l
def showL (k n : Int) (s : ByteArray) : List UInt8 :=
 if rightB k n s = false then [63] else if k = 0 then [110, 117, 108, 108] else if k = 1 then (if n = 0 then [102, 97, 108, 115, 101] else [116, 114, 117, 101]) else if k = 4 then 39 :: (dbl s.data.toList ++ [39]) else Lib.itoa n
theorem show_4 {n : Int} {s : ByteArray} (h : rightB 4 n s = true) : showL 4 n s = 39 :: (dbl s.data.toList ++ [39]) := by unfold showL; rw [if_neg (by rw [h]; decide), if_neg (by decide), if_neg (by decide), if_pos rfl]
def blankB (c : UInt8) : Bool := decide (c.toNat = 32) || decide (c.toNat = 9) || decide (c.toNat = 10)
def figB (c : UInt8) : Bool := decide (48 ≤ c.toNat) && decide (c.toNat ≤ 57)
def letB (c : UInt8) : Bool := decide (97 ≤ c.toNat) && decide (c.toNat ≤ 122) || decide (65 ≤ c.toNat) && decide (c.toNat ≤ 90)
def nameB (c : UInt8) : Bool := letB c || figB c || decide (c.toNat = 95)
def runL (p : UInt8 → Bool) : List UInt8 → Nat
 | [] => 0
 | c :: s => if p c = true then runL p s + 1 else 0
theorem runL_le (p : UInt8 → Bool) : ∀ s, runL p s ≤ s.length
 | [] => Nat.le_refl _
 | c :: s => by
  have := runL_le p s
  rw [runL]
  split <;> simp <;> omega
theorem runL_step (p : UInt8 → Bool) : ∀ (s : List UInt8) (n : Nat) (h : n < s.length), n ≤ runL p s → p s[n] = true → n + 1 ≤ runL p s
 | [], n, h, _, _ => absurd h (Nat.not_lt_zero _)
 | c :: s, 0, h, _, hp => by
  rw [runL, if_pos (show p c = true from hp)]
  omega
 | c :: s, n + 1, h, hn, hp => by
  rw [runL] at hn ⊢
  split at hn
  ·rename_i hc
   rw [if_pos hc]
   have := runL_step p s n (by simpa using h) (by omega) (by simpa using hp)
   omega
  ·omega
theorem runL_stop (p : UInt8 → Bool) : ∀ (s : List UInt8) (n : Nat) (h : n < s.length), n ≤ runL p s → p s[n] = false → runL p s = n
 | [], n, h, _, _ => absurd h (Nat.not_lt_zero _)
 | c :: s, 0, h, _, hp => by
  rw [runL, if_neg (by rw [show p c = false from hp]; decide)]
 | c :: s, n + 1, h, hn, hp => by
  rw [runL] at hn ⊢
  split at hn
  ·rename_i hc
   rw [if_pos hc]
   have := runL_stop p s n (by simpa using h) (by omega) (by simpa using hp)
   omega
  ·omega
theorem runL_take (p : UInt8 → Bool) : ∀ (s : List UInt8), runL p (s.take (runL p s)) = runL p s
 | [] => rfl
 | c :: s => by
  by_cases hc : p c = true
  ·rw [runL, if_pos hc, List.take_succ_cons, runL, if_pos hc, runL_take p s]
  ·rw [runL, if_neg hc]
   rfl
theorem runL_pos {p : UInt8 → Bool} {c : UInt8} {s : List UInt8} (h : p c = true) : 1 ≤ runL p (c :: s) := by
 rw [runL, if_pos h]
 omega
def quoL : List UInt8 → Option (List UInt8 × Nat)
 | [] => none
 | [c] => if c = 39 then some ([], 1) else none
 | c :: d :: s => if c = 39 then (if d = 39 then (quoL s).map (fun r => (39 :: r.1, r.2 + 2)) else some ([], 1)) else (quoL (d :: s)).map fun r => (c :: r.1, r.2 + 1)
theorem quoL_other {c : UInt8} {s : List UInt8} (h : c ≠ 39) : quoL (c :: s) = (quoL s).map fun r => (c :: r.1, r.2 + 1) := by
 cases s with
 | nil => simp [quoL, h]
 | cons d s => rw [quoL, if_neg h]
theorem quoL_two {s : List UInt8} : quoL (39 :: 39 :: s) = (quoL s).map fun r => (39 :: r.1, r.2 + 2) := by rw [quoL, if_pos rfl, if_pos rfl]
theorem quoL_end {s : List UInt8} (h : ∀ d r, s = d :: r → d ≠ 39) : quoL (39 :: s) = some ([], 1) := by
 cases s with
 | nil => rfl
 | cons d s => rw [quoL, if_pos rfl, if_neg (h d s rfl)]
theorem quoL_ind {Q : List UInt8 → Prop} (h0 : Q []) (h1 : ∀ c s, c ≠ 39 → Q s → Q (c :: s)) (h2 : ∀ s, Q s → Q (39 :: 39 :: s)) (h3 : ∀ s, (∀ d r, s = d :: r → d ≠ 39) → Q (39 :: s)) : ∀ (n : Nat) (s : List UInt8), s.length ≤ n → Q s
 | _, [], _ => h0
 | 0, c :: s, h => by simp at h
 | n + 1, c :: s, h => by
  by_cases hc : c = 39
  ·subst hc
   cases s with
   | nil => exact h3 [] (fun d r e => by cases e)
   | cons d s =>
    by_cases hd : d = 39
    ·subst hd
     exact h2 s (quoL_ind h0 h1 h2 h3 n s (by simp at h; omega))
    ·exact h3 _ (fun d' r e => by injection e with e1 e2; exact e1 ▸ hd)
  ·exact h1 c s hc (quoL_ind h0 h1 h2 h3 n s (by simpa using h))
theorem quo_ind {Q : List UInt8 → Prop} (h0 : Q []) (h1 : ∀ c s, c ≠ 39 → Q s → Q (c :: s)) (h2 : ∀ s, Q s → Q (39 :: 39 :: s)) (h3 : ∀ s, (∀ d r, s = d :: r → d ≠ 39) → Q (39 :: s)) (s : List UInt8) : Q s := quoL_ind h0 h1 h2 h3 s.length s (Nat.le_refl _)
theorem quoL_is (s : List UInt8) : ∀ t n, quoL s = some (t, n) → ∃ r, s = dbl t ++ 39 :: r ∧ n = (dbl t).length + 1 ∧ ∀ d r', r = d :: r' → d ≠ 39 := by
 refine quo_ind (Q := fun s => ∀ t n, quoL s = some (t, n) → ∃ r, s = dbl t ++ 39 :: r ∧ n = (dbl t).length + 1 ∧ ∀ d r', r = d :: r' → d ≠ 39) ?_ ?_ ?_ ?_ s
 ·intro t n h; cases h
 ·intro c s hc ih t n h
  rw [quoL_other hc] at h
  obtain ⟨⟨t', n'⟩, h1, h2⟩ := Option.map_eq_some_iff.1 h
  obtain ⟨r, e1, e2, e3⟩ := ih t' n' h1
  cases h2
  refine ⟨r, ?_, ?_, e3⟩
  ·rw [dbl, if_neg hc, e1]; rfl
  ·rw [dbl, if_neg hc]; simp; exact e2
 ·intro s ih t n h
  rw [quoL_two] at h
  obtain ⟨⟨t', n'⟩, h1, h2⟩ := Option.map_eq_some_iff.1 h
  obtain ⟨r, e1, e2, e3⟩ := ih t' n' h1
  cases h2
  refine ⟨r, ?_, ?_, e3⟩
  ·rw [dbl, if_pos rfl, e1]; rfl
  ·rw [dbl, if_pos rfl]; simp; exact e2
 ·intro s hs t n h
  rw [quoL_end hs] at h
  cases h
  exact ⟨s, rfl, rfl, hs⟩
theorem quoL_dbl (r : List UInt8) (h : ∀ d r', r = d :: r' → d ≠ 39) : ∀ t : List UInt8, quoL (dbl t ++ 39 :: r) = some (t, (dbl t).length + 1)
 | [] => quoL_end h
 | c :: t => by
  have ih := quoL_dbl r h t
  by_cases hc : c = 39
  ·subst hc
   rw [dbl, if_pos rfl]
   show quoL (39 :: 39 :: (dbl t ++ 39 :: r)) = _
   rw [quoL_two, ih]
   simp
  ·rw [dbl, if_neg hc]
   show quoL (c :: (dbl t ++ 39 :: r)) = _
   rw [quoL_other hc, ih]
   simp
def quoI (s : List UInt8) (i : Nat) (out : List UInt8) : Prop := (quoL (s.drop 1)).map (fun r => (r.1, r.2 + 1)) = (quoL (s.drop i)).map (fun r => (out ++ r.1, r.2 + i))
theorem quoI_start (s : List UInt8) : quoI s 1 [] := by
 unfold quoI
 simp
theorem quoI_other {s out : List UInt8} {i : Nat} (h : quoI s i out) (hi : i < s.length) (hc : s[i] ≠ 39) : quoI s (i + 1) (out ++ [s[i]]) := by
 unfold quoI at *
 rw [h, List.drop_eq_getElem_cons hi, quoL_other hc, Option.map_map]
 congr 1
 funext r
 simp
 omega
theorem quoI_two {s out : List UInt8} {i : Nat} (h : quoI s i out) (hi : i + 1 < s.length) (h0 : s[i] = 39) (h1 : s[i + 1] = 39) : quoI s (i + 2) (out ++ [39]) := by
 unfold quoI at *
 rw [h, List.drop_eq_getElem_cons (show i < s.length by omega), List.drop_eq_getElem_cons hi, h0, h1, quoL_two, Option.map_map]
 congr 1
 funext r
 simp
 omega
def quoN (s : List UInt8) : Nat := match quoL (s.drop 1) with | some (_, n) => n + 1 | none => 0
def quoT (s : List UInt8) : List UInt8 := match quoL (s.drop 1) with | some (t, _) => t | none => []
theorem quoI_end {s out : List UInt8} {i : Nat} (h : quoI s i out) (hi : i < s.length) (h0 : s[i] = 39) (h1 : ∀ (g : i + 1 < s.length), s[i + 1] ≠ 39) : quoN s = i + 1 ∧ quoT s = out := by
 unfold quoI at h
 rw [List.drop_eq_getElem_cons hi, h0, quoL_end (by
  intro d r e
  by_cases g : i + 1 < s.length
  ·rw [List.drop_eq_getElem_cons g] at e
   injection e with e1 e2
   exact e1 ▸ h1 g
  ·rw [List.drop_eq_nil_of_le (by omega)] at e
   cases e)] at h
 unfold quoN quoT
 cases hq : quoL (s.drop 1) with
 | none => rw [hq] at h; cases h
 | some v =>
  obtain ⟨t, n⟩ := v
  rw [hq] at h
  simp at h
  exact ⟨by show n + 1 = i + 1; omega, h.1⟩
theorem quoI_none {s out : List UInt8} {i : Nat} (h : quoI s i out) (hi : s.length ≤ i) : quoN s = 0 ∧ quoT s = [] := by
 unfold quoI at h
 rw [List.drop_eq_nil_of_le hi] at h
 unfold quoN quoT
 cases hq : quoL (s.drop 1) with
 | none => exact ⟨rfl, rfl⟩
 | some v => rw [hq] at h; cases h
theorem rep_dbl' : ∀ t : List UInt8, Lib.replaceAll (dbl t) [39, 39] [39] = t
 | [] => rep_nil _ _ (by simp)
 | c :: t => by
  by_cases hc : c = 39
  ·subst hc
   rw [dbl, if_pos rfl, rep_yes (by decide) (by decide) (by simp [List.isPrefixOf])]
   simp [rep_dbl' t]
  ·rw [dbl, if_neg hc, rep_no (by decide) (by decide) (by simp [List.isPrefixOf]; exact fun e => absurd e.symm hc), rep_dbl' t]
def twoB : List UInt8 → Bool
 | c :: d :: _ => c == 60 && (d == 62 || d == 61) || c == 62 && d == 61
 | _ => false
def oneB (c : UInt8) : Bool := c == 40 || c == 41 || c == 44 || c == 61 || c == 60 || c == 62 || c == 43 || c == 45 || c == 42
def firstL (s : List UInt8) : Option (Int × List UInt8 × Nat) :=
 match s with
 | [] => none
 | c :: r =>
  if letB c = true then (if runL nameB (c :: r) ≤ 20 then some (0, (c :: r).take (runL nameB (c :: r)), runL nameB (c :: r)) else none)
  else if figB c = true then (if runL figB (c :: r) ≤ 19 then some (1, (c :: r).take (runL figB (c :: r)), runL figB (c :: r)) else none)
  else if c = 39 then (match quoL r with | some (t, n) => if t.length ≤ 200 then some (2, t, n + 1) else none | none => none)
  else if twoB (c :: r) = true then some (3, (c :: r).take 2, 2)
  else if oneB c = true then some (3, [c], 1)
  else none
def showW (k : Int) (t : List UInt8) : List UInt8 := if k = 2 then showL 4 0 ⟨t.toArray⟩ else t
theorem right_text {t : List UInt8} (h : t.length ≤ 200) : rightB 4 0 ⟨t.toArray⟩ = true := by
 have : (⟨t.toArray⟩ : ByteArray).size = t.length := rfl
 unfold rightB holdsB
 simp [this, h]
theorem showW_quote {t : List UInt8} (h : t.length ≤ 200) : showW 2 t = 39 :: (dbl t ++ [39]) := by
 unfold showW
 rw [if_pos rfl, show_4 (right_text h)]
theorem first_cases {s : List UInt8} {k : Int} {t : List UInt8} {n : Nat} (h : firstL s = some (k, t, n)) :
  (∃ c r, s = c :: r ∧ letB c = true ∧ k = 0 ∧ t = s.take (runL nameB s) ∧ n = runL nameB s ∧ n ≤ 20) ∨
  (∃ c r, s = c :: r ∧ letB c = false ∧ figB c = true ∧ k = 1 ∧ t = s.take (runL figB s) ∧ n = runL figB s ∧ n ≤ 19) ∨
  (∃ r, s = 39 :: r ∧ k = 2 ∧ ∃ m, quoL r = some (t, m) ∧ n = m + 1 ∧ t.length ≤ 200) ∨
  (∃ c d r, s = c :: d :: r ∧ letB c = false ∧ figB c = false ∧ c ≠ 39 ∧ twoB [c, d] = true ∧ k = 3 ∧ t = [c, d] ∧ n = 2) ∨
  (∃ c r, s = c :: r ∧ letB c = false ∧ figB c = false ∧ c ≠ 39 ∧ twoB s = false ∧ oneB c = true ∧ k = 3 ∧ t = [c] ∧ n = 1) := by
 cases s with
 | nil => cases h
 | cons c r =>
  rw [firstL] at h
  split at h
  ·rename_i hl
   split at h
   ·rename_i hn
    cases h
    exact .inl ⟨c, r, rfl, hl, rfl, rfl, rfl, hn⟩
   ·cases h
  ·rename_i hl
   have hl : letB c = false := by simpa using hl
   split at h
   ·rename_i hf
    split at h
    ·rename_i hn
     cases h
     exact .inr (.inl ⟨c, r, rfl, hl, hf, rfl, rfl, rfl, hn⟩)
    ·cases h
   ·rename_i hf
    have hf : figB c = false := by simpa using hf
    split at h
    ·rename_i hc
     subst hc
     refine .inr (.inr (.inl ⟨r, rfl, ?_⟩))
     cases hq : quoL r with
     | none => rw [hq] at h; cases h
     | some v =>
      obtain ⟨t', m⟩ := v
      rw [hq] at h
      simp only [] at h
      split at h
      ·rename_i h200
       cases h
       exact ⟨rfl, m, rfl, rfl, h200⟩
      ·cases h
    ·rename_i hc
     split at h
     ·rename_i h2
      cases r with
      | nil => cases h2
      | cons d r =>
       cases h
       exact .inr (.inr (.inr (.inl ⟨c, d, r, rfl, hl, hf, hc, h2, rfl, rfl, rfl⟩)))
     ·rename_i h2
      split at h
      ·rename_i h1
       cases h
       exact .inr (.inr (.inr (.inr ⟨c, r, rfl, hl, hf, hc, by simpa using h2, h1, rfl, rfl, rfl⟩)))
      ·cases h
theorem first_n {s : List UInt8} {k : Int} {t : List UInt8} {n : Nat} (h : firstL s = some (k, t, n)) : 1 ≤ n ∧ n ≤ s.length := by
 rcases first_cases h with ⟨c, r, rfl, hl, -, -, rfl, -⟩ | ⟨c, r, rfl, hl, hf, -, -, rfl, -⟩ | ⟨r, rfl, -, m, hq, rfl, -⟩ | ⟨c, d, r, rfl, -, -, -, -, -, -, rfl⟩ | ⟨c, r, rfl, -, -, -, -, -, -, -, rfl⟩
 ·exact ⟨runL_pos (by unfold nameB; rw [hl]; rfl), runL_le _ _⟩
 ·exact ⟨runL_pos hf, runL_le _ _⟩
 ·obtain ⟨r', rfl, rfl, -⟩ := quoL_is r t m hq
  simp only [List.length_cons, List.length_append]
  omega
 ·simp
 ·simp
theorem first_blank {c : UInt8} {s : List UInt8} (h : blankB c = true) : firstL (c :: s) = none := by
 have hc : c = 32 ∨ c = 9 ∨ c = 10 := by
  unfold blankB at h
  simp only [Bool.or_eq_true, decide_eq_true_eq] at h
  rcases h with (h | h) | h
  ·exact .inl (UInt8.toNat_inj.1 h)
  ·exact .inr (.inl (UInt8.toNat_inj.1 h))
  ·exact .inr (.inr (UInt8.toNat_inj.1 h))
 rcases hc with rfl | rfl | rfl <;> (cases s <;> rfl)
theorem twoB_one (c : UInt8) : twoB [c] = false := rfl
theorem twoB_cons (c d : UInt8) (r : List UInt8) : twoB (c :: d :: r) = twoB [c, d] := rfl
theorem first_again {s : List UInt8} {k : Int} {t : List UInt8} {n : Nat} (h : firstL s = some (k, t, n)) : firstL (showW k t) = some (k, t, (showW k t).length) := by
 have hlen := (first_n h).2
 rcases first_cases h with ⟨c, q, rfl, hl, rfl, rfl, rfl, h20⟩ | ⟨c, q, rfl, hl, hf, rfl, rfl, rfl, h19⟩ | ⟨q, rfl, rfl, m, hq, rfl, h200⟩ | ⟨c, d, q, rfl, hl, hf, hc, h2, rfl, rfl, rfl⟩ | ⟨c, q, rfl, hl, hf, hc, h2, h1, rfl, rfl, rfl⟩
 ·have hc : nameB c = true := by unfold nameB; rw [hl]; rfl
  have e1 := runL_take nameB (c :: q)
  have e3 : ((c :: q).take (runL nameB (c :: q))).length = runL nameB (c :: q) := by rw [List.length_take]; omega
  show firstL ((c :: q).take (runL nameB (c :: q))) = some (0, (c :: q).take (runL nameB (c :: q)), ((c :: q).take (runL nameB (c :: q))).length)
  rw [e3]
  obtain ⟨u, hu⟩ : ∃ u, (c :: q).take (runL nameB (c :: q)) = c :: u := by rw [runL, if_pos hc, List.take_succ_cons]; exact ⟨_, rfl⟩
  generalize runL nameB (c :: q) = N at *
  rw [hu] at e1 e3 ⊢
  rw [firstL, if_pos hl, e1, if_pos h20, ← e3, List.take_length]
 ·have e1 := runL_take figB (c :: q)
  have e3 : ((c :: q).take (runL figB (c :: q))).length = runL figB (c :: q) := by rw [List.length_take]; omega
  show firstL ((c :: q).take (runL figB (c :: q))) = some (1, (c :: q).take (runL figB (c :: q)), ((c :: q).take (runL figB (c :: q))).length)
  rw [e3]
  obtain ⟨u, hu⟩ : ∃ u, (c :: q).take (runL figB (c :: q)) = c :: u := by rw [runL, if_pos hf, List.take_succ_cons]; exact ⟨_, rfl⟩
  generalize runL figB (c :: q) = N at *
  rw [hu] at e1 e3 ⊢
  rw [firstL, if_neg (by rw [hl]; decide), if_pos hf, e1, if_pos h19, ← e3, List.take_length]
 ·rw [showW_quote h200, firstL, if_neg (by decide), if_neg (by decide), if_pos rfl, quoL_dbl [] (fun d r e => by cases e) t]
  simp [h200]
 ·show firstL [c, d] = _
  rw [firstL, if_neg (by rw [hl]; decide), if_neg (by rw [hf]; decide), if_neg hc, if_pos h2]
  rfl
 ·show firstL [c] = _
  rw [firstL, if_neg (by rw [hl]; decide), if_neg (by rw [hf]; decide), if_neg hc, twoB_one, if_neg (by decide), if_pos h1]
  rfl
abbrev W := Int × List UInt8 × Int
def wordsF : Nat → List UInt8 → Int → Except Int (List W)
 | 0, _, _ => .ok []
 | _ + 1, [], _ => .ok []
 | f + 1, c :: s, i => if blankB c = true then wordsF f s (i + 1) else
  match firstL (c :: s) with
  | none => .error i
  | some (k, t, n) =>
   match wordsF f ((c :: s).drop n) (i + n) with
   | .error j => .error j
   | .ok l => .ok ((k, t, i) :: l)
theorem wordsF_more : ∀ (f g : Nat) (s : List UInt8) (i : Int), s.length ≤ f → s.length ≤ g → wordsF f s i = wordsF g s i
 | 0, 0, _, _, _, _ => rfl
 | 0, g + 1, [], _, _, _ => rfl
 | 0, _ + 1, c :: s, _, h, _ => by simp at h
 | f + 1, 0, [], _, _, _ => rfl
 | _ + 1, 0, c :: s, _, _, h => by simp at h
 | f + 1, g + 1, [], _, _, _ => rfl
 | f + 1, g + 1, c :: s, i, hf, hg => by
  rw [wordsF, wordsF]
  split
  ·exact wordsF_more f g s (i + 1) (by simpa using hf) (by simpa using hg)
  ·cases h : firstL (c :: s) with
   | none => rfl
   | some v =>
    obtain ⟨k, t, n⟩ := v
    have hn := first_n h
    simp only [List.length_cons] at hf hg hn
    dsimp only
    rw [show wordsF f ((c :: s).drop n) (i + n) = wordsF g ((c :: s).drop n) (i + n) from wordsF_more f g _ _ (by rw [List.length_drop, List.length_cons]; omega) (by rw [List.length_drop, List.length_cons]; omega)]
def wordsL (s : List UInt8) (i : Int) : Except Int (List W) := wordsF s.length s i
theorem wordsL_nil (i : Int) : wordsL [] i = .ok [] := rfl
theorem wordsL_blank {c : UInt8} {s : List UInt8} {i : Int} (h : blankB c = true) : wordsL (c :: s) i = wordsL s (i + 1) := by
 show wordsF (s.length + 1) (c :: s) i = _
 rw [wordsF, if_pos h]
 rfl
theorem wordsL_none {c : UInt8} {s : List UInt8} {i : Int} (hb : blankB c = false) (h : firstL (c :: s) = none) : wordsL (c :: s) i = .error i := by
 show wordsF (s.length + 1) (c :: s) i = _
 rw [wordsF, if_neg (by rw [hb]; decide), h]
theorem wordsL_one {c : UInt8} {s : List UInt8} {i : Int} {k : Int} {t : List UInt8} {n : Nat} (h : firstL (c :: s) = some (k, t, n)) :
  wordsL (c :: s) i = (match wordsL ((c :: s).drop n) (i + n) with | .error j => .error j | .ok l => .ok ((k, t, i) :: l)) := by
 have hb : blankB c = false := by
  cases hb : blankB c
  ·rfl
  ·rw [first_blank hb] at h; cases h
 have hn := first_n h
 simp only [List.length_cons] at hn
 show wordsF (s.length + 1) (c :: s) i = _
 rw [wordsF, if_neg (by rw [hb]; decide), h]
 show (match wordsF s.length ((c :: s).drop n) (i + n) with | .error j => Except.error j | .ok l => .ok ((k, t, i) :: l)) = _
 rw [show wordsF s.length ((c :: s).drop n) (i + n) = wordsL ((c :: s).drop n) (i + n) from wordsF_more _ _ _ _ (by rw [List.length_drop, List.length_cons]; omega) (Nat.le_refl _)]
theorem words_ind {Q : List UInt8 → Prop} (h0 : Q []) (h1 : ∀ c s, blankB c = true → Q s → Q (c :: s)) (h2 : ∀ c s, blankB c = false → firstL (c :: s) = none → Q (c :: s))
  (h3 : ∀ c s k t n, firstL (c :: s) = some (k, t, n) → Q ((c :: s).drop n) → Q (c :: s)) : ∀ (n : Nat) (s : List UInt8), s.length ≤ n → Q s
 | _, [], _ => h0
 | 0, c :: s, h => by simp at h
 | n + 1, c :: s, h => by
  cases hb : blankB c
  ·cases hf : firstL (c :: s) with
   | none => exact h2 c s hb hf
   | some v =>
    obtain ⟨k, t, m⟩ := v
    have hm := first_n hf
    simp only [List.length_cons] at hm h
    exact h3 c s k t m hf (words_ind h0 h1 h2 h3 n _ (by rw [List.length_drop, List.length_cons]; omega))
  ·exact h1 c s hb (words_ind h0 h1 h2 h3 n s (by simpa using h))
theorem words_way {Q : List UInt8 → Prop} (h0 : Q []) (h1 : ∀ c s, blankB c = true → Q s → Q (c :: s)) (h2 : ∀ c s, blankB c = false → firstL (c :: s) = none → Q (c :: s))
  (h3 : ∀ c s k t n, firstL (c :: s) = some (k, t, n) → Q ((c :: s).drop n) → Q (c :: s)) (s : List UInt8) : Q s := words_ind h0 h1 h2 h3 s.length s (Nat.le_refl _)
def CameB (l : List W) : Prop := ∀ w ∈ l, firstL (showW w.1 w.2.1) = some (w.1, w.2.1, (showW w.1 w.2.1).length)
theorem words_came (s : List UInt8) : ∀ (i : Int) (l : List W), wordsL s i = .ok l → CameB l := by
 refine words_way (Q := fun s => ∀ (i : Int) (l : List W), wordsL s i = .ok l → CameB l) ?_ ?_ ?_ ?_ s
 ·intro i l h w hw; cases h; cases hw
 ·intro c s hb ih i l h
  rw [wordsL_blank hb] at h
  exact ih _ l h
 ·intro c s hb hf i l h
  rw [wordsL_none hb hf] at h
  cases h
 ·intro c s k t n hf ih i l h
  rw [wordsL_one hf] at h
  cases hw : wordsL ((c :: s).drop n) (i + n) with
  | error j' => rw [hw] at h; cases h
  | ok l' =>
   rw [hw] at h
   cases h
   intro w hm
   rcases List.mem_cons.1 hm with rfl | hm
   ·exact first_again hf
   ·exact ih _ l' hw w hm
inductive Tr where
 | leaf (op tx : List UInt8)
 | one (op : List UInt8) (a : Tr)
 | two (op : List UInt8) (a b : Tr)
 deriving DecidableEq
def Tr.deep : Tr → Nat
 | .leaf _ _ => 1
 | .one _ a => a.deep + 1
 | .two _ a b => max a.deep b.deep + 1
def zeroT : Tr := .leaf [] []
abbrev V := Int × List UInt8
def ownL (s : List UInt8) : Bool := s == [116, 114, 117, 101] || (s == [102, 97, 108, 115, 101] || (s == [110, 117, 108, 108] || (s == [97, 110, 100] || (s == [111, 114] || (s == [110, 111, 116] || s == [105, 115])))))
def isW (L : List V) (i : Nat) (b : Bool) (s : List UInt8) : Bool :=
 match L[i]? with
 | some w => !b && w.2 == s && (w.1 == 3 || ownL s && w.1 == 0)
 | none => false
def isK (L : List V) (i : Nat) (b : Bool) (k : Int) : Bool :=
 match L[i]? with
 | some w => !b && w.1 == k
 | none => false
def txt (L : List V) (i : Nat) : List UInt8 :=
 match L[i]? with
 | some w => w.2
 | none => []
def sOr : List UInt8 := [111, 114]
def sAnd : List UInt8 := [97, 110, 100]
def sNot : List UInt8 := [110, 111, 116]
def sIs : List UInt8 := [105, 115]
def sNull : List UInt8 := [110, 117, 108, 108]
def sIsNull : List UInt8 := [105, 115, 32, 110, 117, 108, 108]
def sNeg : List UInt8 := [110, 101, 103]
def sNum : List UInt8 := [110, 117, 109]
def sText : List UInt8 := [116, 101, 120, 116]
def sCol : List UInt8 := [99, 111, 108]
def sTrue : List UInt8 := [116, 114, 117, 101]
def sFalse : List UInt8 := [102, 97, 108, 115, 101]
def opsL (l : Nat) : List (List UInt8) :=
 if l = 1 then [sOr] else if l = 2 then [sAnd] else if l = 4 then [[61], [60, 62], [60], [60, 61], [62], [62, 61]] else if l = 5 then [[43], [45]] else if l = 6 then [[42]] else []
def oneL (L : List V) (i : Nat) (b : Bool) : List (List UInt8) → List UInt8
 | [] => []
 | s :: l => if isW L i b s = true then s else oneL L i b l
def numF : List UInt8 → Int → Option Int
 | [], n => some n
 | c :: s, n => if (9223372036854775807 - ((c.toNat : Int) - 48)) / 10 < n then none else numF s (10 * n + ((c.toNat : Int) - 48))
def numL (s : List UInt8) : Option (List UInt8) := (numF s 0).map Lib.itoa
inductive Mode where
 | expr (l : Nat)
 | loop (l : Nat) (a : Tr)
 | test (a : Tr)
 | sign
def P (L : List V) : Nat → Mode → Nat → Bool → Tr × Nat × Bool
 | 0, _, i, b => (zeroT, i, b)
 | f + 1, .expr l, i, b =>
  if l = 7 then P L f .sign i b
  else if l = 3 then (if isW L i b sNot = true then (.one sNot (P L f (.expr 3) (i + 1) b).1, (P L f (.expr 3) (i + 1) b).2) else P L f (.expr 4) i b)
  else if l = 4 then P L f (.test (P L f (.expr 5) i b).1) (P L f (.expr 5) i b).2.1 (P L f (.expr 5) i b).2.2
  else P L f (.loop l (P L f (.expr (l + 1)) i b).1) (P L f (.expr (l + 1)) i b).2.1 (P L f (.expr (l + 1)) i b).2.2
 | f + 1, .loop l a, i, b =>
  if oneL L i b (opsL l) = [] then (a, i, b)
  else P L f (.loop l (.two (oneL L i b (opsL l)) a (P L f (.expr (l + 1)) (i + 1) b).1)) (P L f (.expr (l + 1)) (i + 1) b).2.1 (P L f (.expr (l + 1)) (i + 1) b).2.2
 | f + 1, .test a, i, b =>
  if oneL L i b (opsL 4) = [] then (if isW L i b sIs = true then (.one sIsNull a, if isW L (i + 1) b sNull = true then (i + 2, b) else (i + 1, true)) else (a, i, b))
  else (.two (oneL L i b (opsL 4)) a (P L f (.expr 5) (i + 1) b).1, (P L f (.expr 5) (i + 1) b).2)
 | f + 1, .sign, i, b =>
  if isW L i b [45] = true then (.one sNeg (P L f .sign (i + 1) b).1, (P L f .sign (i + 1) b).2)
  else if isW L i b [40] = true then ((P L f (.expr 1) (i + 1) b).1, if isW L (P L f (.expr 1) (i + 1) b).2.1 (P L f (.expr 1) (i + 1) b).2.2 [41] = true then ((P L f (.expr 1) (i + 1) b).2.1 + 1, (P L f (.expr 1) (i + 1) b).2.2) else ((P L f (.expr 1) (i + 1) b).2.1, true))
  else if oneL L i b [sTrue, sFalse, sNull] = [] then
   (if isK L i b 1 = true then (match numL (txt L i) with | some t => (.leaf sNum t, i + 1, b) | none => (zeroT, i, true))
   else if isK L i b 2 = true then (.leaf sText (txt L i), i + 1, b)
   else if (isK L i b 0 && !ownL (txt L i)) = true then (.leaf sCol (txt L i), i + 1, b)
   else (.leaf sCol [], i, true))
  else (.leaf (oneL L i b [sTrue, sFalse, sNull]) [], i + 1, b)
theorem isW_lt {L : List V} {i : Nat} {b : Bool} {s : List UInt8} (h : isW L i b s = true) : i < L.length := by
 unfold isW at h
 cases hx : L[i]? with
 | none => rw [hx] at h; cases h
 | some w => exact (List.getElem?_eq_some_iff.1 hx).1
theorem isW_good {L : List V} {i : Nat} {b : Bool} {s : List UInt8} (h : isW L i b s = true) : b = false := by
 unfold isW at h
 cases hx : L[i]? with
 | none => rw [hx] at h; cases h
 | some w =>
  rw [hx] at h
  cases b
  ·rfl
  ·simp at h
theorem isK_lt {L : List V} {i : Nat} {b : Bool} {k : Int} (h : isK L i b k = true) : i < L.length ∧ b = false := by
 unfold isK at h
 cases hx : L[i]? with
 | none => rw [hx] at h; cases h
 | some w =>
  rw [hx] at h
  refine ⟨(List.getElem?_eq_some_iff.1 hx).1, ?_⟩
  cases b
  ·rfl
  ·simp at h
theorem oneL_some {L : List V} {i : Nat} {b : Bool} : ∀ {l : List (List UInt8)}, oneL L i b l ≠ [] → isW L i b (oneL L i b l) = true ∧ oneL L i b l ∈ l
 | [], h => absurd rfl h
 | s :: l, h => by
  rw [oneL] at h ⊢
  split
  ·rename_i hs
   exact ⟨hs, by simp⟩
  ·rename_i hs
   rw [if_neg hs] at h
   have := oneL_some h
   exact ⟨this.1, List.mem_cons_of_mem _ this.2⟩
theorem oneL_lt {L : List V} {i : Nat} {b : Bool} {l : List (List UInt8)} (h : oneL L i b l ≠ []) : i < L.length ∧ b = false := ⟨isW_lt (oneL_some h).1, isW_good (oneL_some h).1⟩
theorem P_ends (L : List V) : ∀ (f : Nat) (m : Mode) (i : Nat) (b : Bool), i ≤ L.length → i ≤ (P L f m i b).2.1 ∧ (P L f m i b).2.1 ≤ L.length ∧ (b = true → (P L f m i b).2 = (i, true))
 | 0, m, i, b, h => ⟨Nat.le_refl _, h, fun e => by rw [e]; cases m <;> rfl⟩
 | f + 1, .expr l, i, b, h => by
  rw [P]
  split
  ·exact P_ends L f .sign i b h
  split
  ·split
   ·rename_i hs
    have h1 := isW_lt hs
    have h2 := isW_good hs
    have ih := P_ends L f (.expr 3) (i + 1) b (by omega)
    exact ⟨by dsimp only; omega, ih.2.1, fun e => by rw [e] at h2; cases h2⟩
   ·exact P_ends L f (.expr 4) i b h
  split
  ·have ih := P_ends L f (.expr 5) i b h
   have ih2 := P_ends L f (.test (P L f (.expr 5) i b).1) (P L f (.expr 5) i b).2.1 (P L f (.expr 5) i b).2.2 ih.2.1
   refine ⟨by omega, ih2.2.1, fun e => ?_⟩
   have e1 := ih.2.2 e
   rw [ih2.2.2 (by rw [e1]), e1]
  ·have ih := P_ends L f (.expr (l + 1)) i b h
   have ih2 := P_ends L f (.loop l (P L f (.expr (l + 1)) i b).1) (P L f (.expr (l + 1)) i b).2.1 (P L f (.expr (l + 1)) i b).2.2 ih.2.1
   refine ⟨by omega, ih2.2.1, fun e => ?_⟩
   have e1 := ih.2.2 e
   rw [ih2.2.2 (by rw [e1]), e1]
 | f + 1, .loop l a, i, b, h => by
  rw [P]
  split
  ·exact ⟨Nat.le_refl _, h, fun e => by rw [e]⟩
  ·rename_i ho
   obtain ⟨h1, h2⟩ := oneL_lt ho
   have ih := P_ends L f (.expr (l + 1)) (i + 1) b (by omega)
   have ih2 := P_ends L f (.loop l (.two (oneL L i b (opsL l)) a (P L f (.expr (l + 1)) (i + 1) b).1)) (P L f (.expr (l + 1)) (i + 1) b).2.1 (P L f (.expr (l + 1)) (i + 1) b).2.2 ih.2.1
   exact ⟨by omega, ih2.2.1, fun e => by rw [e] at h2; cases h2⟩
 | f + 1, .test a, i, b, h => by
  rw [P]
  split
  ·split
   ·rename_i hs
    have h1 := isW_lt hs
    have h2 := isW_good hs
    split
    ·rename_i hn
     have h3 := isW_lt hn
     exact ⟨by dsimp only; omega, by dsimp only; omega, fun e => by rw [e] at h2; cases h2⟩
    ·exact ⟨by dsimp only; omega, by dsimp only; omega, fun e => by rw [e] at h2; cases h2⟩
   ·exact ⟨Nat.le_refl _, h, fun e => by rw [e]⟩
  ·rename_i ho
   obtain ⟨h1, h2⟩ := oneL_lt ho
   have ih := P_ends L f (.expr 5) (i + 1) b (by omega)
   exact ⟨by dsimp only; omega, ih.2.1, fun e => by rw [e] at h2; cases h2⟩
 | f + 1, .sign, i, b, h => by
  rw [P]
  split
  ·rename_i hs
   have h1 := isW_lt hs
   have h2 := isW_good hs
   have ih := P_ends L f .sign (i + 1) b (by omega)
   exact ⟨by dsimp only; omega, ih.2.1, fun e => by rw [e] at h2; cases h2⟩
  split
  ·rename_i hs
   have h1 := isW_lt hs
   have h2 := isW_good hs
   have ih := P_ends L f (.expr 1) (i + 1) b (by omega)
   split
   ·rename_i hn
    have h3 := isW_lt hn
    exact ⟨by dsimp only; omega, by dsimp only; omega, fun e => by rw [e] at h2; cases h2⟩
   ·exact ⟨by dsimp only; omega, ih.2.1, fun e => by rw [e] at h2; cases h2⟩
  split
  ·split
   ·rename_i hk
    obtain ⟨h1, h2⟩ := isK_lt hk
    split
    ·exact ⟨by dsimp only; omega, by dsimp only; omega, fun e => by rw [e] at h2; cases h2⟩
    ·exact ⟨Nat.le_refl _, h, fun e => rfl⟩
   split
   ·rename_i hk
    obtain ⟨h1, h2⟩ := isK_lt hk
    exact ⟨by dsimp only; omega, by dsimp only; omega, fun e => by rw [e] at h2; cases h2⟩
   split
   ·rename_i hk
    simp only [Bool.and_eq_true] at hk
    obtain ⟨h1, h2⟩ := isK_lt hk.1
    exact ⟨by dsimp only; omega, by dsimp only; omega, fun e => by rw [e] at h2; cases h2⟩
   ·exact ⟨Nat.le_refl _, h, fun e => rfl⟩
  ·rename_i ho
   obtain ⟨h1, h2⟩ := oneL_lt ho
   exact ⟨by dsimp only; omega, by dsimp only; omega, fun e => by rw [e] at h2; cases h2⟩
def rk : Mode → Nat
 | .expr l => 17 - 2 * l
 | _ => 1
def Fits (m : Mode) : Prop := match m with | .expr l => 1 ≤ l ∧ l ≤ 7 | .loop l _ => 1 ≤ l ∧ l ≤ 6 | _ => True
def mu (L : List V) (m : Mode) (i : Nat) : Nat := 16 * (L.length - i) + rk m
theorem mu_next {L : List V} {i : Nat} (h : i < L.length) (m m' : Mode) (hm : Fits m) (h1 : 1 ≤ rk m') : mu L m (i + 1) < mu L m' i := by
 unfold mu
 have : rk m ≤ 15 := by
  cases m with
  | expr l => simp only [rk, Fits] at *; omega
  | loop l a => simp [rk]
  | test a => simp [rk]
  | sign => simp [rk]
 omega
theorem P_steps (L : List V) : ∀ (f g : Nat) (m : Mode) (i : Nat) (b : Bool), i ≤ L.length → Fits m → mu L m i < f → mu L m i < g → P L f m i b = P L g m i b
 | 0, _, m, i, b, _, _, h, _ => absurd h (Nat.not_lt_zero _)
 | _, 0, m, i, b, _, _, _, h => absurd h (Nat.not_lt_zero _)
 | f + 1, g + 1, .expr l, i, b, hi, hm, hf, hg => by
  have hl : 1 ≤ l ∧ l ≤ 7 := hm
  have hmu : mu L (.expr l) i = 16 * (L.length - i) + (17 - 2 * l) := rfl
  rw [P, P]
  by_cases h7 : l = 7
  ·rw [if_pos h7, if_pos h7]
   have e : mu L .sign i = 16 * (L.length - i) + 1 := rfl
   exact P_steps L f g .sign i b hi trivial (by omega) (by omega)
  rw [if_neg h7, if_neg h7]
  by_cases h3 : l = 3
  ·rw [if_pos h3, if_pos h3]
   by_cases hs : isW L i b sNot = true
   ·have e := mu_next (isW_lt hs) (.expr 3) (.expr l) ⟨by omega, by omega⟩ (by show 1 ≤ 17 - 2 * l; omega)
    rw [if_pos hs, if_pos hs, P_steps L f g (.expr 3) (i + 1) b (isW_lt hs) ⟨by omega, by omega⟩ (by omega) (by omega)]
   ·have e : mu L (.expr 4) i = 16 * (L.length - i) + 9 := rfl
    rw [if_neg hs, if_neg hs]
    exact P_steps L f g (.expr 4) i b hi ⟨by omega, by omega⟩ (by omega) (by omega)
  rw [if_neg h3, if_neg h3]
  by_cases h4 : l = 4
  ·have e : mu L (.expr 5) i = 16 * (L.length - i) + 7 := rfl
   rw [if_pos h4, if_pos h4, P_steps L f g (.expr 5) i b hi ⟨by omega, by omega⟩ (by omega) (by omega)]
   have ih := P_ends L g (.expr 5) i b hi
   have e2 : mu L (.test (P L g (.expr 5) i b).1) (P L g (.expr 5) i b).2.1 = 16 * (L.length - (P L g (.expr 5) i b).2.1) + 1 := rfl
   exact P_steps L f g _ _ _ ih.2.1 trivial (by omega) (by omega)
  ·have e : mu L (.expr (l + 1)) i = 16 * (L.length - i) + (17 - 2 * (l + 1)) := rfl
   rw [if_neg h4, if_neg h4, P_steps L f g (.expr (l + 1)) i b hi ⟨by omega, by omega⟩ (by omega) (by omega)]
   have ih := P_ends L g (.expr (l + 1)) i b hi
   have e2 : mu L (.loop l (P L g (.expr (l + 1)) i b).1) (P L g (.expr (l + 1)) i b).2.1 = 16 * (L.length - (P L g (.expr (l + 1)) i b).2.1) + 1 := rfl
   exact P_steps L f g _ _ _ ih.2.1 ⟨by omega, by omega⟩ (by omega) (by omega)
 | f + 1, g + 1, .loop l a, i, b, hi, hm, hf, hg => by
  have hl : 1 ≤ l ∧ l ≤ 6 := hm
  rw [P, P]
  by_cases ho : oneL L i b (opsL l) = []
  ·rw [if_pos ho, if_pos ho]
  ·obtain ⟨h1, h2⟩ := oneL_lt ho
   have e := mu_next h1 (.expr (l + 1)) (.loop l a) ⟨by omega, by omega⟩ (Nat.le_refl 1)
   rw [if_neg ho, if_neg ho, P_steps L f g (.expr (l + 1)) (i + 1) b h1 ⟨by omega, by omega⟩ (by omega) (by omega)]
   have ih := P_ends L g (.expr (l + 1)) (i + 1) b h1
   have e3 : mu L (.loop l a) i = 16 * (L.length - i) + 1 := rfl
   refine P_steps L f g _ _ _ ih.2.1 ⟨by omega, by omega⟩ ?_ ?_
   ·show 16 * (L.length - (P L g (.expr (l + 1)) (i + 1) b).2.1) + 1 < f; omega
   ·show 16 * (L.length - (P L g (.expr (l + 1)) (i + 1) b).2.1) + 1 < g; omega
 | f + 1, g + 1, .test a, i, b, hi, hm, hf, hg => by
  rw [P, P]
  by_cases ho : oneL L i b (opsL 4) = []
  ·rw [if_pos ho, if_pos ho]
  ·obtain ⟨h1, h2⟩ := oneL_lt ho
   have e := mu_next h1 (.expr 5) (.test a) ⟨by omega, by omega⟩ (Nat.le_refl 1)
   rw [if_neg ho, if_neg ho, P_steps L f g (.expr 5) (i + 1) b h1 ⟨by omega, by omega⟩ (by omega) (by omega)]
 | f + 1, g + 1, .sign, i, b, hi, hm, hf, hg => by
  rw [P, P]
  by_cases hs : isW L i b [45] = true
  ·have e := mu_next (isW_lt hs) .sign .sign trivial (Nat.le_refl 1)
   rw [if_pos hs, if_pos hs, P_steps L f g .sign (i + 1) b (isW_lt hs) trivial (by omega) (by omega)]
  rw [if_neg hs, if_neg hs]
  by_cases hp : isW L i b [40] = true
  ·have e := mu_next (isW_lt hp) (.expr 1) .sign ⟨by omega, by omega⟩ (Nat.le_refl 1)
   rw [if_pos hp, if_pos hp, P_steps L f g (.expr 1) (i + 1) b (isW_lt hp) ⟨by omega, by omega⟩ (by omega) (by omega)]
  rw [if_neg hp, if_neg hp]
theorem oneL_none {L : List V} {i : Nat} {b : Bool} : ∀ {l : List (List UInt8)}, (∀ s ∈ l, isW L i b s = false) → oneL L i b l = []
 | [], _ => rfl
 | s :: l, h => by rw [oneL, if_neg (by rw [h s (by simp)]; decide), oneL_none (fun x hx => h x (List.mem_cons_of_mem _ hx))]
def stepsN (L : List V) : Nat := 16 * L.length + 16
def bare (l : List W) : List V := l.map fun w => (w.1, w.2.1)
theorem bare_length (l : List W) : (bare l).length = l.length := by unfold bare; rw [List.length_map]
def placeL (n : Nat) (l : List W) (i : Nat) : Int := match l[i]? with | some w => w.2.2 | none => n
inductive Nod where
 | mk (op tx : List UInt8) (ks : List Nod)
def Nod.op : Nod → List UInt8
 | .mk o _ _ => o
def Nod.tx : Nod → List UInt8
 | .mk _ t _ => t
def Nod.ks : Nod → List Nod
 | .mk _ _ k => k
mutual
def Nod.deep : Nod → Nat
 | .mk _ _ ks => Nod.deepL ks + 1
def Nod.deepL : List Nod → Nat
 | [] => 0
 | t :: l => max t.deep (Nod.deepL l)
end
def Tr.n : Tr → Nod
 | .leaf o t => .mk o t []
 | .one o a => .mk o [] [a.n]
 | .two o a b => .mk o [] [a.n, b.n]
theorem Tr.n_deep : ∀ t : Tr, t.n.deep = t.deep
 | .leaf o t => by simp [Tr.n, Nod.deep, Nod.deepL, Tr.deep]
 | .one o a => by simp [Tr.n, Nod.deep, Nod.deepL, Tr.deep, Tr.n_deep a]
 | .two o a b => by simp [Tr.n, Nod.deep, Nod.deepL, Tr.deep, Tr.n_deep a, Tr.n_deep b]
def zeroN : Nod := .mk [] [] []
def sFilter : List UInt8 := [102, 105, 108, 116, 101, 114]
def sProject : List UInt8 := [112, 114, 111, 106, 101, 99, 116]
def sJoin : List UInt8 := [106, 111, 105, 110]
def sUnion : List UInt8 := [117, 110, 105, 111, 110]
def sDistinct : List UInt8 := [100, 105, 115, 116, 105, 110, 99, 116]
def sGroup : List UInt8 := [103, 114, 111, 117, 112]
def sBy : List UInt8 := [98, 121]
def sCount : List UInt8 := [99, 111, 117, 110, 116]
def sSum : List UInt8 := [115, 117, 109]
def sMin : List UInt8 := [109, 105, 110]
def sMax : List UInt8 := [109, 97, 120]
def sFrom : List UInt8 := [102, 114, 111, 109]
def sItem : List UInt8 := [105, 116, 101, 109]
def sOn : List UInt8 := [111, 110]
def sAgg : List UInt8 := [97, 103, 103]
abbrev Res := Nod × Nat × Bool
abbrev Ress := List Nod × Nat × Bool
def nmQ (L : List V) (i : Nat) (b : Bool) : List UInt8 × Nat × Bool := if (isK L i b 0 && !ownL (txt L i)) = true then (txt L i, i + 1, b) else ([], i, true)
def mustQ (L : List V) (i : Nat) (b : Bool) (s : List UInt8) : Nat × Bool := if isW L i b s = true then (i + 1, b) else (i, true)
def wordQ (L : List V) (i : Nat) (b : Bool) (s m : List UInt8) : Bool := isK L i b 0 && (txt L i == s && L[i + 1]? == some (3, m))
def opsQ : List (List UInt8) := [sFilter, sProject, sJoin, sUnion, sDistinct, sGroup]
def opQ (L : List V) (i : Nat) (b : Bool) : List (List UInt8) → List UInt8
 | [] => []
 | s :: l => if wordQ L i b s [40] = true then s else opQ L i b l
def moreQ (L : List V) (i : Nat) (b first : Bool) : Bool × Nat × Bool :=
 if first = true then (!(mustQ L i b [44]).2, mustQ L i b [44])
 else if isW L i b [41] = true then (false, i + 1, b)
 else if b = true then (false, i, true)
 else (!(mustQ L i b [44]).2, mustQ L i b [44])
def exprQ (L : List V) (i : Nat) (b : Bool) : Tr × Nat × Bool := P L (stepsN L) (.expr 1) i b
def itemQ (L : List V) (i : Nat) (b : Bool) : Res :=
 (.mk sItem (nmQ L i b).1 [(exprQ L (mustQ L (nmQ L i b).2.1 (nmQ L i b).2.2 [61]).1 (mustQ L (nmQ L i b).2.1 (nmQ L i b).2.2 [61]).2).1.n],
  (exprQ L (mustQ L (nmQ L i b).2.1 (nmQ L i b).2.2 [61]).1 (mustQ L (nmQ L i b).2.1 (nmQ L i b).2.2 [61]).2).2)
def pairQ (L : List V) (i : Nat) (b : Bool) : Res :=
 (.mk sOn (nmQ L i b).1 [.mk sCol (nmQ L (mustQ L (nmQ L i b).2.1 (nmQ L i b).2.2 [61]).1 (mustQ L (nmQ L i b).2.1 (nmQ L i b).2.2 [61]).2).1 []],
  (nmQ L (mustQ L (nmQ L i b).2.1 (nmQ L i b).2.2 [61]).1 (mustQ L (nmQ L i b).2.1 (nmQ L i b).2.2 [61]).2).2)
def aggOps : List (List UInt8) := [sCount, sSum, sMin, sMax]
def kindQ (L : List V) (i : Nat) (b : Bool) : List (List UInt8) → List UInt8
 | [] => []
 | s :: l => if (isK L i b 0 && txt L i == s) = true then s else kindQ L i b l
def argQ (L : List V) (o : List UInt8) (i : Nat) (b : Bool) : List UInt8 × Nat × Bool := if o = sCount then ([], i, b) else nmQ L i b
def callQ (L : List V) (o : List UInt8) (i : Nat) (b : Bool) : List UInt8 × Nat × Bool :=
 ((argQ L o (mustQ L i b [40]).1 (mustQ L i b [40]).2).1, mustQ L (argQ L o (mustQ L i b [40]).1 (mustQ L i b [40]).2).2.1 (argQ L o (mustQ L i b [40]).1 (mustQ L i b [40]).2).2.2 [41])
def agg2Q (L : List V) (s : List UInt8) (i : Nat) (b : Bool) : Res :=
 if kindQ L i b aggOps = [] then (zeroN, i, true)
 else (.mk sAgg s [.mk (kindQ L i b aggOps) (callQ L (kindQ L i b aggOps) (i + 1) b).1 []], (callQ L (kindQ L i b aggOps) (i + 1) b).2)
def aggQ (L : List V) (i : Nat) (b : Bool) : Res := agg2Q L (nmQ L i b).1 (mustQ L (nmQ L i b).2.1 (nmQ L i b).2.2 [61]).1 (mustQ L (nmQ L i b).2.1 (nmQ L i b).2.2 [61]).2
def loopQ (L : List V) (el : Nat → Bool → Res) : Nat → Bool → Nat → Bool → Ress
 | 0, _, i, b => ([], i, b)
 | f + 1, first, i, b =>
  if (moreQ L i b first).1 = false then ([], (moreQ L i b first).2)
  else ((el (moreQ L i b first).2.1 (moreQ L i b first).2.2).1 :: (loopQ L el f false (el (moreQ L i b first).2.1 (moreQ L i b first).2.2).2.1 (el (moreQ L i b first).2.1 (moreQ L i b first).2.2).2.2).1,
   (loopQ L el f false (el (moreQ L i b first).2.1 (moreQ L i b first).2.2).2.1 (el (moreQ L i b first).2.1 (moreQ L i b first).2.2).2.2).2)
def namesQ (L : List V) : Nat → Nat → Bool → Ress
 | 0, i, b => ([], i, b)
 | f + 1, i, b =>
  if isK L (nmQ L i b).2.1 (nmQ L i b).2.2 0 = true then (.mk sCol (nmQ L i b).1 [] :: (namesQ L f (nmQ L i b).2.1 (nmQ L i b).2.2).1, (namesQ L f (nmQ L i b).2.1 (nmQ L i b).2.2).2)
  else ([.mk sCol (nmQ L i b).1 []], (nmQ L i b).2)
def hasQ (L : List V) (i : Nat) (b : Bool) : Bool := isK L i b 0 && (txt L i == sBy && !wordQ L i b sBy [61])
def byQ (L : List V) (i : Nat) (b : Bool) : Res :=
 if hasQ L i b = true then (.mk sBy [] (namesQ L (L.length + 1) (i + 1) b).1, mustQ L (namesQ L (L.length + 1) (i + 1) b).2.1 (namesQ L (L.length + 1) (i + 1) b).2.2 [44])
 else (.mk sBy [] [], i, b)
def groupQ (L : List V) (i : Nat) (b : Bool) : Ress :=
 ((byQ L i b).1 :: (aggQ L (byQ L i b).2.1 (byQ L i b).2.2).1 :: (loopQ L (aggQ L) (L.length + 1) false (aggQ L (byQ L i b).2.1 (byQ L i b).2.2).2.1 (aggQ L (byQ L i b).2.1 (byQ L i b).2.2).2.2).1,
  (loopQ L (aggQ L) (L.length + 1) false (aggQ L (byQ L i b).2.1 (byQ L i b).2.2).2.1 (aggQ L (byQ L i b).2.1 (byQ L i b).2.2).2.2).2)
def tailQ (L : List V) (q : Nat → Bool → Res) (o : List UInt8) (i : Nat) (b : Bool) : Ress :=
 if o = sFilter then ([(exprQ L (mustQ L i b [44]).1 (mustQ L i b [44]).2).1.n], mustQ L (exprQ L (mustQ L i b [44]).1 (mustQ L i b [44]).2).2.1 (exprQ L (mustQ L i b [44]).1 (mustQ L i b [44]).2).2.2 [41])
 else if o = sDistinct then ([], mustQ L i b [41])
 else if o = sProject then loopQ L (itemQ L) (L.length + 1) true i b
 else if o = sUnion then loopQ L q (L.length + 1) true i b
 else if o = sJoin then
  ((q (mustQ L i b [44]).1 (mustQ L i b [44]).2).1 :: (loopQ L (pairQ L) (L.length + 1) true (q (mustQ L i b [44]).1 (mustQ L i b [44]).2).2.1 (q (mustQ L i b [44]).1 (mustQ L i b [44]).2).2.2).1,
   (loopQ L (pairQ L) (L.length + 1) true (q (mustQ L i b [44]).1 (mustQ L i b [44]).2).2.1 (q (mustQ L i b [44]).1 (mustQ L i b [44]).2).2.2).2)
 else groupQ L (mustQ L i b [44]).1 (mustQ L i b [44]).2
def qq (L : List V) : Nat → Nat → Bool → Res
 | 0, i, b => (zeroN, i, b)
 | f + 1, i, b =>
  if opQ L i b opsQ = [] then (.mk sFrom (nmQ L i b).1 [], (nmQ L i b).2)
  else (.mk (opQ L i b opsQ) [] ((qq L f (i + 2) b).1 :: (tailQ L (qq L f) (opQ L i b opsQ) (qq L f (i + 2) b).2.1 (qq L f (i + 2) b).2.2).1),
   (tailQ L (qq L f) (opQ L i b opsQ) (qq L f (i + 2) b).2.1 (qq L f (i + 2) b).2.2).2)
def Ends (n i : Nat) (b : Bool) (r : Nat × Bool) : Prop := i ≤ r.1 ∧ r.1 ≤ n ∧ (b = true → r = (i, true))
theorem Ends.then {n i : Nat} {b : Bool} {r r' : Nat × Bool} (h : Ends n i b r) (h' : Ends n r.1 r.2 r') : Ends n i b r' :=
 ⟨Nat.le_trans h.1 h'.1, h'.2.1, fun hb => by
  have e := h.2.2 hb
  have e' := h'.2.2 (by rw [e])
  rw [e', e]⟩
theorem Ends.refl {n i : Nat} {b : Bool} (h : i ≤ n) : Ends n i b (i, b) := ⟨Nat.le_refl _, h, fun hb => by rw [hb]⟩
theorem Ends.bad {n i : Nat} {b : Bool} (h : i ≤ n) : Ends n i b (i, true) := ⟨Nat.le_refl _, h, fun hb => rfl⟩
theorem Ends.step {n i k : Nat} {b : Bool} (h : i + k ≤ n) (hb : b = false) : Ends n i b (i + k, b) := ⟨Nat.le_add_right _ _, h, fun h => by rw [hb] at h; cases h⟩
section
variable {L : List V} {i : Nat} {b : Bool}
theorem nm_ends (h : i ≤ L.length) : Ends L.length i b (nmQ L i b).2 := by
 unfold nmQ
 split
 ·rename_i hs
  have hs := (Bool.and_eq_true _ _ ▸ hs).1
  have := isK_lt hs
  exact Ends.step (by omega) this.2
 ·exact Ends.bad h
theorem must_ends {s : List UInt8} (h : i ≤ L.length) : Ends L.length i b (mustQ L i b s) := by
 unfold mustQ
 split
 ·rename_i hs
  have := isW_lt hs
  exact Ends.step (by omega) (isW_good hs)
 ·exact Ends.bad h
theorem more_ends {first : Bool} (h : i ≤ L.length) : Ends L.length i b (moreQ L i b first).2 := by
 unfold moreQ
 split
 ·exact must_ends h
 split
 ·rename_i hs
  have := isW_lt hs
  exact Ends.step (by omega) (isW_good hs)
 split
 ·exact Ends.bad h
 ·exact must_ends h
theorem expr_ends (h : i ≤ L.length) : Ends L.length i b (exprQ L i b).2 := P_ends L (stepsN L) (.expr 1) i b h
theorem item_ends (h : i ≤ L.length) : Ends L.length i b (itemQ L i b).2 := by
 have h1 := nm_ends (b := b) h
 have h2 := must_ends (b := (nmQ L i b).2.2) (s := [61]) h1.2.1
 exact (h1.then h2).then (expr_ends h2.2.1)
theorem pair_ends (h : i ≤ L.length) : Ends L.length i b (pairQ L i b).2 := by
 have h1 := nm_ends (b := b) h
 have h2 := must_ends (b := (nmQ L i b).2.2) (s := [61]) h1.2.1
 exact (h1.then h2).then (nm_ends h2.2.1)
theorem arg_ends {o : List UInt8} (h : i ≤ L.length) : Ends L.length i b (argQ L o i b).2 := by
 unfold argQ
 split
 ·exact Ends.refl h
 ·exact nm_ends h
theorem call_ends {o : List UInt8} (h : i ≤ L.length) : Ends L.length i b (callQ L o i b).2 := by
 have h1 := must_ends (b := b) (s := [40]) h
 have h2 := arg_ends (b := (mustQ L i b [40]).2) (o := o) h1.2.1
 exact (h1.then h2).then (must_ends h2.2.1)
theorem kind_some : ∀ {l : List (List UInt8)}, kindQ L i b l ≠ [] → isK L i b 0 = true ∧ txt L i = kindQ L i b l ∧ kindQ L i b l ∈ l
 | [], h => absurd rfl h
 | s :: l, h => by
  rw [kindQ] at h ⊢
  split
  ·rename_i hs
   simp only [Bool.and_eq_true, beq_iff_eq] at hs
   exact ⟨hs.1, hs.2, List.mem_cons_self ..⟩
  ·rename_i hs
   rw [if_neg hs] at h
   have ih := kind_some (l := l) h
   exact ⟨ih.1, ih.2.1, List.mem_cons_of_mem _ ih.2.2⟩
theorem agg2_ends {s : List UInt8} (h : i ≤ L.length) : Ends L.length i b (agg2Q L s i b).2 := by
 unfold agg2Q
 split
 ·exact Ends.bad h
 ·rename_i hk
  have hs := isK_lt (kind_some hk).1
  exact (Ends.step (k := 1) (by omega) hs.2).then (call_ends (by omega))
theorem agg_ends (h : i ≤ L.length) : Ends L.length i b (aggQ L i b).2 := by
 have h1 := nm_ends (b := b) h
 have h2 := must_ends (b := (nmQ L i b).2.2) (s := [61]) h1.2.1
 exact (h1.then h2).then (agg2_ends h2.2.1)
theorem loop_ends {el : Nat → Bool → Res} (he : ∀ j c, j ≤ L.length → Ends L.length j c (el j c).2) : ∀ (f : Nat) (first : Bool) (i : Nat) (b : Bool), i ≤ L.length → Ends L.length i b (loopQ L el f first i b).2
 | 0, _, i, b, h => Ends.refl h
 | f + 1, first, i, b, h => by
  have h1 := more_ends (b := b) (first := first) h
  rw [loopQ]
  split
  ·exact h1
  ·have h2 := he _ (moreQ L i b first).2.2 h1.2.1
   exact (h1.then h2).then (loop_ends he f false _ _ h2.2.1)
theorem names_ends : ∀ (f i : Nat) (b : Bool), i ≤ L.length → Ends L.length i b (namesQ L f i b).2
 | 0, i, b, h => Ends.refl h
 | f + 1, i, b, h => by
  have h1 := nm_ends (b := b) h
  rw [namesQ]
  split
  ·exact h1.then (names_ends f _ _ h1.2.1)
  ·exact h1
theorem by_ends (h : i ≤ L.length) : Ends L.length i b (byQ L i b).2 := by
 unfold byQ
 split
 ·rename_i hs
  unfold hasQ at hs
  have hs := isK_lt (Bool.and_eq_true _ _ ▸ hs).1
  have h1 : Ends L.length i b (i + 1, b) := Ends.step (by omega) hs.2
  have h2 := names_ends (L := L) (L.length + 1) (i + 1) b (by omega)
  exact (h1.then h2).then (must_ends h2.2.1)
 ·exact Ends.refl h
theorem group_ends (h : i ≤ L.length) : Ends L.length i b (groupQ L i b).2 := by
 have h1 := by_ends (b := b) h
 have h2 := agg_ends (b := (byQ L i b).2.2) h1.2.1
 exact (h1.then h2).then (loop_ends (fun j c hj => agg_ends hj) _ _ _ _ h2.2.1)
theorem tail_ends {q : Nat → Bool → Res} (hq : ∀ j c, j ≤ L.length → Ends L.length j c (q j c).2) {o : List UInt8} (h : i ≤ L.length) : Ends L.length i b (tailQ L q o i b).2 := by
 have h1 := must_ends (b := b) (s := [44]) h
 unfold tailQ
 split
 ·have h2 := expr_ends (b := (mustQ L i b [44]).2) h1.2.1
  exact (h1.then h2).then (must_ends h2.2.1)
 split
 ·exact must_ends h
 split
 ·exact loop_ends (fun j c hj => item_ends hj) _ _ _ _ h
 split
 ·exact loop_ends hq _ _ _ _ h
 split
 ·have h2 := hq _ (mustQ L i b [44]).2 h1.2.1
  exact (h1.then h2).then (loop_ends (fun j c hj => pair_ends hj) _ _ _ _ h2.2.1)
 ·exact h1.then (group_ends h1.2.1)
theorem word_lt {s m : List UInt8} (h : wordQ L i b s m = true) : i + 2 ≤ L.length ∧ b = false := by
 unfold wordQ at h
 simp only [Bool.and_eq_true, beq_iff_eq] at h
 obtain ⟨h1, h2, h3⟩ := h
 have := (List.getElem?_eq_some_iff.1 h3).1
 exact ⟨this, (isK_lt h1).2⟩
theorem op_some : ∀ {l : List (List UInt8)}, opQ L i b l ≠ [] → wordQ L i b (opQ L i b l) [40] = true ∧ opQ L i b l ∈ l
 | [], h => absurd rfl h
 | s :: l, h => by
  rw [opQ] at h ⊢
  split
  ·rename_i hs
   exact ⟨hs, List.mem_cons_self ..⟩
  ·rename_i hs
   rw [if_neg hs] at h
   have ih := op_some (l := l) h
   exact ⟨ih.1, List.mem_cons_of_mem _ ih.2⟩
theorem op_lt {l : List (List UInt8)} (h : opQ L i b l ≠ []) : i + 2 ≤ L.length ∧ b = false := word_lt (op_some h).1
end
theorem qq_ends (L : List V) : ∀ (f i : Nat) (b : Bool), i ≤ L.length → Ends L.length i b (qq L f i b).2
 | 0, i, b, h => Ends.refl h
 | f + 1, i, b, h => by
  rw [qq]
  split
  ·exact nm_ends h
  ·rename_i ho
   have hs := op_lt ho
   have h1 := qq_ends L f (i + 2) b hs.1
   exact ((Ends.step (k := 2) hs.1 hs.2).then h1).then (tail_ends (fun j c hj => qq_ends L f j c hj) h1.2.1)
theorem more_lt {L : List V} {i : Nat} {b first : Bool} (h : (moreQ L i b first).1 = true) : i < L.length ∧ b = false ∧ (moreQ L i b first).2 = (i + 1, false) := by
 have hm : ∀ c : Bool, (!(mustQ L i c [44]).2) = true → i < L.length ∧ c = false ∧ mustQ L i c [44] = (i + 1, false) := by
  intro c hc
  unfold mustQ at hc ⊢
  split at hc
  ·rename_i hs
   have h1 := isW_good hs
   rw [if_pos hs]
   exact ⟨isW_lt hs, h1, by rw [h1]⟩
  ·cases hc
 unfold moreQ at h ⊢
 by_cases c1 : first = true
 ·rw [if_pos c1] at h ⊢
  exact hm b h
 rw [if_neg c1] at h ⊢
 by_cases c2 : isW L i b [41] = true
 ·rw [if_pos c2] at h
  cases h
 rw [if_neg c2] at h ⊢
 by_cases c3 : b = true
 ·rw [if_pos c3] at h
  cases h
 rw [if_neg c3] at h ⊢
 exact hm b h
end Go.Proofs.YthpmgnfmeldkjaaGreatDoor.Code
/-
  What walks need of every seat; no function of the program is named (cut out of CodeVal).
-/
namespace Go.Proofs.YthpmgnfmeldkjaaGreatDoor.Val
open Go.ChangeShapes Go.WideShapes Go.ChangeAt Go.RowKit
theorem ret1 {k : IntKind} {a c : Int} (h : a = c) : Ending.returned (.int k a) = .returned (.int k c) := by rw [h]
theorem retB {a c : Bool} (h : a = c) : Ending.returned (.bool a) = .returned (.bool c) := by rw [h]
theorem ret2 {k l : IntKind} {a b c d : Int} (h : a = c) (g : b = d) : Ending.returned (.tuple #[.int k a, .int l b]) = .returned (.tuple #[.int k c, .int l d]) := by rw [h, g]
theorem below_alloc (W : World) (o : Obj) : Below W.heap.size W (W.alloc o) := (Below.refl _ _).alloc (Nat.le_refl _) o
theorem bnext {B : Nat} {w W W' : World} (h : Below B w W) (hB : B ≤ W.heap.size) (hb : Below W.heap.size W W') : Below B w W' := h.trans (hb.mono hB)
theorem bcell {W w1 : World} (hb : Below W.heap.size W w1) : (∀ b o, b < W.heap.size → w1.cell? ⟨b, o, none⟩ = W.cell? ⟨b, o, none⟩) ∧ (∀ b o, b < W.heap.size → w1.frozen? ⟨b, o, none⟩ = W.frozen? ⟨b, o, none⟩) :=
 ⟨fun b o h => hb.cell (p := ⟨b, o, none⟩) h, fun b o h => hb.frozen (p := ⟨b, o, none⟩) h⟩
theorem keepK {C : Prop} {W w1 w2 : World} (hb : Below w1.heap.size w1 w2) (h : C ∧ Below W.heap.size W w1) {C' : Prop}
  (hC : (∀ b o, b < W.heap.size → w2.cell? ⟨b, o, none⟩ = W.cell? ⟨b, o, none⟩) → C') : C' ∧ Below W.heap.size W w2 := by
 have hB := h.2.trans (hb.mono h.2.size)
 exact ⟨hC fun b o hl => hB.cell (p := ⟨b, o, none⟩) hl, hB⟩
theorem keepA {C : Prop} {W w1 : World} (o : Obj) (h : C ∧ Below W.heap.size W w1) {C' : Prop}
  (hC : (∀ b o', b < W.heap.size → (w1.alloc o).cell? ⟨b, o', none⟩ = W.cell? ⟨b, o', none⟩) → C') : C' ∧ Below W.heap.size W (w1.alloc o) :=
 keepK ((Below.refl _ _).alloc (Nat.le_refl _) o) h hC
end Go.Proofs.YthpmgnfmeldkjaaGreatDoor.Val
