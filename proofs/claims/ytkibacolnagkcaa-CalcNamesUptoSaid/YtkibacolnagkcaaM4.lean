/-
  Words of texts in plain words: what begins with which byte, how many bytes a run has, a quote's text, the word that comes, all words, the text of words; there and back; one behind the other. No program is named here.
-/
import Derived.Test.YtkibacolnagkcaaM3
namespace Go.Proofs.Ytkibacolnagkcaa.Code
open Val
set_option linter.unusedVariables false

def blankB (c : UInt8) : Bool := decide (c.toNat = 32) || decide (c.toNat = 9) || decide (c.toNat = 10)
def figB (c : UInt8) : Bool := decide (48 ≤ c.toNat) && decide (c.toNat ≤ 57)
def letB (c : UInt8) : Bool := decide (97 ≤ c.toNat) && decide (c.toNat ≤ 122) || decide (65 ≤ c.toNat) && decide (c.toNat ≤ 90)
def nameB (c : UInt8) : Bool := letB c || figB c || decide (c.toNat = 95)
/-- how many bytes at the beginning are as asked -/
def runL (p : UInt8 → Bool) : List UInt8 → Nat
  | [] => 0
  | c :: s => if p c = true then runL p s + 1 else 0
theorem runL_le (p : UInt8 → Bool) : ∀ s, runL p s ≤ s.length
  | [] => Nat.le_refl _
  | c :: s => by
    have := runL_le p s
    rw [runL]
    split <;> simp <;> omega
theorem runL_step (p : UInt8 → Bool) : ∀ (s : List UInt8) (n : Nat) (h : n < s.length), n ≤ runL p s → p s[n] = true → n + 1 ≤ runL p s
  | [], n, h, _, _ => absurd h (Nat.not_lt_zero _)
  | c :: s, 0, h, _, hp => by
    rw [runL, if_pos (show p c = true from hp)]
    omega
  | c :: s, n + 1, h, hn, hp => by
    rw [runL] at hn ⊢
    split at hn
    · rename_i hc
      rw [if_pos hc]
      have := runL_step p s n (by simpa using h) (by omega) (by simpa using hp)
      omega
    · omega
theorem runL_stop (p : UInt8 → Bool) : ∀ (s : List UInt8) (n : Nat) (h : n < s.length), n ≤ runL p s → p s[n] = false → runL p s = n
  | [], n, h, _, _ => absurd h (Nat.not_lt_zero _)
  | c :: s, 0, h, _, hp => by
    rw [runL, if_neg (by rw [show p c = false from hp]; decide)]
  | c :: s, n + 1, h, hn, hp => by
    rw [runL] at hn ⊢
    split at hn
    · rename_i hc
      rw [if_pos hc]
      have := runL_stop p s n (by simpa using h) (by omega) (by simpa using hp)
      omega
    · omega
theorem runL_take (p : UInt8 → Bool) : ∀ (s : List UInt8), runL p (s.take (runL p s)) = runL p s
  | [] => rfl
  | c :: s => by
    by_cases hc : p c = true
    · rw [runL, if_pos hc, List.take_succ_cons, runL, if_pos hc, runL_take p s]
    · rw [runL, if_neg hc]
      rfl
/-- what stands behind ends a run -/
theorem runL_behind (p : UInt8 → Bool) (b : UInt8) (hb : p b = false) (r : List UInt8) : ∀ (s : List UInt8), runL p (s ++ b :: r) = runL p s
  | [] => by
    show runL p (b :: r) = 0
    rw [runL, if_neg (by rw [hb]; decide)]
  | c :: s => by
    show runL p (c :: (s ++ b :: r)) = _
    rw [runL, runL, runL_behind p b hb r s]
theorem runL_pos {p : UInt8 → Bool} {c : UInt8} {s : List UInt8} (h : p c = true) : 1 ≤ runL p (c :: s) := by
  rw [runL, if_pos h]
  omega
/-- a quote's text, behind its first byte, and how many bytes it has there -/
def quoL : List UInt8 → Option (List UInt8 × Nat)
  | [] => none
  | [c] => if c = 39 then some ([], 1) else none
  | c :: d :: s => if c = 39 then (if d = 39 then (quoL s).map (fun r => (39 :: r.1, r.2 + 2)) else some ([], 1)) else (quoL (d :: s)).map fun r => (c :: r.1, r.2 + 1)
theorem quoL_other {c : UInt8} {s : List UInt8} (h : c ≠ 39) : quoL (c :: s) = (quoL s).map fun r => (c :: r.1, r.2 + 1) := by
  cases s with
  | nil => simp [quoL, h]
  | cons d s => rw [quoL, if_neg h]
theorem quoL_two {s : List UInt8} : quoL (39 :: 39 :: s) = (quoL s).map fun r => (39 :: r.1, r.2 + 2) := by rw [quoL, if_pos rfl, if_pos rfl]
theorem quoL_end {s : List UInt8} (h : ∀ d r, s = d :: r → d ≠ 39) : quoL (39 :: s) = some ([], 1) := by
  cases s with
  | nil => rfl
  | cons d s => rw [quoL, if_pos rfl, if_neg (h d s rfl)]
/-- one way to go through a quote: a byte, two ', the end, none -/
theorem quoL_ind {Q : List UInt8 → Prop} (h0 : Q []) (h1 : ∀ c s, c ≠ 39 → Q s → Q (c :: s)) (h2 : ∀ s, Q s → Q (39 :: 39 :: s)) (h3 : ∀ s, (∀ d r, s = d :: r → d ≠ 39) → Q (39 :: s)) : ∀ (n : Nat) (s : List UInt8), s.length ≤ n → Q s
  | _, [], _ => h0
  | 0, c :: s, h => by simp at h
  | n + 1, c :: s, h => by
    by_cases hc : c = 39
    · subst hc
      cases s with
      | nil => exact h3 [] (fun d r e => by cases e)
      | cons d s =>
        by_cases hd : d = 39
        · subst hd
          exact h2 s (quoL_ind h0 h1 h2 h3 n s (by simp at h; omega))
        · exact h3 _ (fun d' r e => by injection e with e1 e2; exact e1 ▸ hd)
    · exact h1 c s hc (quoL_ind h0 h1 h2 h3 n s (by simpa using h))
theorem quo_ind {Q : List UInt8 → Prop} (h0 : Q []) (h1 : ∀ c s, c ≠ 39 → Q s → Q (c :: s)) (h2 : ∀ s, Q s → Q (39 :: 39 :: s)) (h3 : ∀ s, (∀ d r, s = d :: r → d ≠ 39) → Q (39 :: s)) (s : List UInt8) : Q s := quoL_ind h0 h1 h2 h3 s.length s (Nat.le_refl _)
/-- a quote that ends: its bytes are its text, shown, and a '; what is behind that is no ' -/
theorem quoL_is (s : List UInt8) : ∀ t n, quoL s = some (t, n) → ∃ r, s = dbl t ++ 39 :: r ∧ n = (dbl t).length + 1 ∧ ∀ d r', r = d :: r' → d ≠ 39 := by
  refine quo_ind (Q := fun s => ∀ t n, quoL s = some (t, n) → ∃ r, s = dbl t ++ 39 :: r ∧ n = (dbl t).length + 1 ∧ ∀ d r', r = d :: r' → d ≠ 39) ?_ ?_ ?_ ?_ s
  · intro t n h; cases h
  · intro c s hc ih t n h
    rw [quoL_other hc] at h
    obtain ⟨⟨t', n'⟩, h1, h2⟩ := Option.map_eq_some_iff.1 h
    obtain ⟨r, e1, e2, e3⟩ := ih t' n' h1
    cases h2
    refine ⟨r, ?_, ?_, e3⟩
    · rw [dbl, if_neg hc, e1]; rfl
    · rw [dbl, if_neg hc]; simp; exact e2
  · intro s ih t n h
    rw [quoL_two] at h
    obtain ⟨⟨t', n'⟩, h1, h2⟩ := Option.map_eq_some_iff.1 h
    obtain ⟨r, e1, e2, e3⟩ := ih t' n' h1
    cases h2
    refine ⟨r, ?_, ?_, e3⟩
    · rw [dbl, if_pos rfl, e1]; rfl
    · rw [dbl, if_pos rfl]; simp; exact e2
  · intro s hs t n h
    rw [quoL_end hs] at h
    cases h
    exact ⟨s, rfl, rfl, hs⟩
/-- .. and back -/
theorem quoL_dbl (r : List UInt8) (h : ∀ d r', r = d :: r' → d ≠ 39) : ∀ t : List UInt8, quoL (dbl t ++ 39 :: r) = some (t, (dbl t).length + 1)
  | [] => quoL_end h
  | c :: t => by
    have ih := quoL_dbl r h t
    by_cases hc : c = 39
    · subst hc
      rw [dbl, if_pos rfl]
      show quoL (39 :: 39 :: (dbl t ++ 39 :: r)) = _
      rw [quoL_two, ih]
      simp
    · rw [dbl, if_neg hc]
      show quoL (c :: (dbl t ++ 39 :: r)) = _
      rw [quoL_other hc, ih]
      simp
/-- a quote that is gone through up to a place -/
def quoI (s : List UInt8) (i : Nat) (out : List UInt8) : Prop := (quoL (s.drop 1)).map (fun r => (r.1, r.2 + 1)) = (quoL (s.drop i)).map (fun r => (out ++ r.1, r.2 + i))
theorem quoI_start (s : List UInt8) : quoI s 1 [] := by
  unfold quoI
  simp
theorem quoI_other {s out : List UInt8} {i : Nat} (h : quoI s i out) (hi : i < s.length) (hc : s[i] ≠ 39) : quoI s (i + 1) (out ++ [s[i]]) := by
  unfold quoI at *
  rw [h, List.drop_eq_getElem_cons hi, quoL_other hc, Option.map_map]
  congr 1
  funext r
  simp
  omega
theorem quoI_two {s out : List UInt8} {i : Nat} (h : quoI s i out) (hi : i + 1 < s.length) (h0 : s[i] = 39) (h1 : s[i + 1] = 39) : quoI s (i + 2) (out ++ [39]) := by
  unfold quoI at *
  rw [h, List.drop_eq_getElem_cons (show i < s.length by omega), List.drop_eq_getElem_cons hi, h0, h1, quoL_two, Option.map_map]
  congr 1
  funext r
  simp
  omega
/-- how many bytes a quote has, 0 if it has no end; and its text -/
def quoN (s : List UInt8) : Nat := match quoL (s.drop 1) with | some (_, n) => n + 1 | none => 0
def quoT (s : List UInt8) : List UInt8 := match quoL (s.drop 1) with | some (t, _) => t | none => []
theorem quoI_end {s out : List UInt8} {i : Nat} (h : quoI s i out) (hi : i < s.length) (h0 : s[i] = 39) (h1 : ∀ (g : i + 1 < s.length), s[i + 1] ≠ 39) : quoN s = i + 1 ∧ quoT s = out := by
  unfold quoI at h
  rw [List.drop_eq_getElem_cons hi, h0, quoL_end (by
    intro d r e
    by_cases g : i + 1 < s.length
    · rw [List.drop_eq_getElem_cons g] at e
      injection e with e1 e2
      exact e1 ▸ h1 g
    · rw [List.drop_eq_nil_of_le (by omega)] at e
      cases e)] at h
  unfold quoN quoT
  cases hq : quoL (s.drop 1) with
  | none => rw [hq] at h; cases h
  | some v =>
    obtain ⟨t, n⟩ := v
    rw [hq] at h
    simp at h
    exact ⟨by show n + 1 = i + 1; omega, h.1⟩
theorem quoI_none {s out : List UInt8} {i : Nat} (h : quoI s i out) (hi : s.length ≤ i) : quoN s = 0 ∧ quoT s = [] := by
  unfold quoI at h
  rw [List.drop_eq_nil_of_le hi] at h
  unfold quoN quoT
  cases hq : quoL (s.drop 1) with
  | none => exact ⟨rfl, rfl⟩
  | some v => rw [hq] at h; cases h
/-- two ' for one, all along, is the text -/
theorem rep_dbl' : ∀ t : List UInt8, Lib.replaceAll (dbl t) [39, 39] [39] = t
  | [] => rep_nil _ _ (by simp)
  | c :: t => by
    by_cases hc : c = 39
    · subst hc
      rw [dbl, if_pos rfl, rep_yes (by decide) (by decide) (by simp [List.isPrefixOf])]
      simp [rep_dbl' t]
    · rw [dbl, if_neg hc, rep_no (by decide) (by decide) (by simp [List.isPrefixOf]; exact fun e => absurd e.symm hc), rep_dbl' t]
/-- is the mark one of two bytes? -/
def twoB : List UInt8 → Bool
  | c :: d :: _ => c == 60 && (d == 62 || d == 61) || c == 62 && d == 61
  | _ => false
def oneB (c : UInt8) : Bool := c == 40 || c == 41 || c == 44 || c == 61 || c == 60 || c == 62 || c == 43 || c == 45 || c == 42
/-- the word that comes: its kind, its text, how many bytes it has -/
def firstL (s : List UInt8) : Option (Int × List UInt8 × Nat) :=
  match s with
  | [] => none
  | c :: r =>
    if letB c = true then (if runL nameB (c :: r) ≤ 20 then some (0, (c :: r).take (runL nameB (c :: r)), runL nameB (c :: r)) else none)
    else if figB c = true then (if runL figB (c :: r) ≤ 19 then some (1, (c :: r).take (runL figB (c :: r)), runL figB (c :: r)) else none)
    else if c = 39 then (match quoL r with | some (t, n) => if t.length ≤ 200 then some (2, t, n + 1) else none | none => none)
    else if twoB (c :: r) = true then some (3, (c :: r).take 2, 2)
    else if oneB c = true then some (3, [c], 1)
    else none
/-- as a word is shown -/
def showW (k : Int) (t : List UInt8) : List UInt8 := if k = 2 then showL 4 0 ⟨t.toArray⟩ else t
theorem right_text {t : List UInt8} (h : t.length ≤ 200) : rightB 4 0 ⟨t.toArray⟩ = true := by
  have : (⟨t.toArray⟩ : ByteArray).size = t.length := rfl
  unfold rightB holdsB
  simp [this, h]
theorem showW_quote {t : List UInt8} (h : t.length ≤ 200) : showW 2 t = 39 :: (dbl t ++ [39]) := by
  unfold showW
  rw [if_pos rfl, show_4 (right_text h)]
/-- the ways in which a word comes -/
theorem first_cases {s : List UInt8} {k : Int} {t : List UInt8} {n : Nat} (h : firstL s = some (k, t, n)) :
    (∃ c r, s = c :: r ∧ letB c = true ∧ k = 0 ∧ t = s.take (runL nameB s) ∧ n = runL nameB s ∧ n ≤ 20) ∨
    (∃ c r, s = c :: r ∧ letB c = false ∧ figB c = true ∧ k = 1 ∧ t = s.take (runL figB s) ∧ n = runL figB s ∧ n ≤ 19) ∨
    (∃ r, s = 39 :: r ∧ k = 2 ∧ ∃ m, quoL r = some (t, m) ∧ n = m + 1 ∧ t.length ≤ 200) ∨
    (∃ c d r, s = c :: d :: r ∧ letB c = false ∧ figB c = false ∧ c ≠ 39 ∧ twoB [c, d] = true ∧ k = 3 ∧ t = [c, d] ∧ n = 2) ∨
    (∃ c r, s = c :: r ∧ letB c = false ∧ figB c = false ∧ c ≠ 39 ∧ twoB s = false ∧ oneB c = true ∧ k = 3 ∧ t = [c] ∧ n = 1) := by
  cases s with
  | nil => cases h
  | cons c r =>
    rw [firstL] at h
    split at h
    · rename_i hl
      split at h
      · rename_i hn
        cases h
        exact .inl ⟨c, r, rfl, hl, rfl, rfl, rfl, hn⟩
      · cases h
    · rename_i hl
      have hl : letB c = false := by simpa using hl
      split at h
      · rename_i hf
        split at h
        · rename_i hn
          cases h
          exact .inr (.inl ⟨c, r, rfl, hl, hf, rfl, rfl, rfl, hn⟩)
        · cases h
      · rename_i hf
        have hf : figB c = false := by simpa using hf
        split at h
        · rename_i hc
          subst hc
          refine .inr (.inr (.inl ⟨r, rfl, ?_⟩))
          cases hq : quoL r with
          | none => rw [hq] at h; cases h
          | some v =>
            obtain ⟨t', m⟩ := v
            rw [hq] at h
            simp only [] at h
            split at h
            · rename_i h200
              cases h
              exact ⟨rfl, m, rfl, rfl, h200⟩
            · cases h
        · rename_i hc
          split at h
          · rename_i h2
            cases r with
            | nil => cases h2
            | cons d r =>
              cases h
              exact .inr (.inr (.inr (.inl ⟨c, d, r, rfl, hl, hf, hc, h2, rfl, rfl, rfl⟩)))
          · rename_i h2
            split at h
            · rename_i h1
              cases h
              exact .inr (.inr (.inr (.inr ⟨c, r, rfl, hl, hf, hc, by simpa using h2, h1, rfl, rfl, rfl⟩)))
            · cases h
theorem first_n {s : List UInt8} {k : Int} {t : List UInt8} {n : Nat} (h : firstL s = some (k, t, n)) : 1 ≤ n ∧ n ≤ s.length := by
  rcases first_cases h with ⟨c, r, rfl, hl, -, -, rfl, -⟩ | ⟨c, r, rfl, hl, hf, -, -, rfl, -⟩ | ⟨r, rfl, -, m, hq, rfl, -⟩ | ⟨c, d, r, rfl, -, -, -, -, -, -, rfl⟩ | ⟨c, r, rfl, -, -, -, -, -, -, -, rfl⟩
  · exact ⟨runL_pos (by unfold nameB; rw [hl]; rfl), runL_le _ _⟩
  · exact ⟨runL_pos hf, runL_le _ _⟩
  · obtain ⟨r', rfl, rfl, -⟩ := quoL_is r t m hq
    simp only [List.length_cons, List.length_append]
    omega
  · simp
  · simp
theorem first_blank {c : UInt8} {s : List UInt8} (h : blankB c = true) : firstL (c :: s) = none := by
  have hc : c = 32 ∨ c = 9 ∨ c = 10 := by
    unfold blankB at h
    simp only [Bool.or_eq_true, decide_eq_true_eq] at h
    rcases h with (h | h) | h
    · exact .inl (UInt8.toNat_inj.1 h)
    · exact .inr (.inl (UInt8.toNat_inj.1 h))
    · exact .inr (.inr (UInt8.toNat_inj.1 h))
  rcases hc with rfl | rfl | rfl <;> (cases s <;> rfl)
theorem name_blank : nameB 32 = false := by decide
theorem fig_blank : figB 32 = false := by decide
theorem twoB_one (c : UInt8) : twoB [c] = false := rfl
theorem twoB_cons (c d : UInt8) (r : List UInt8) : twoB (c :: d :: r) = twoB [c, d] := rfl
theorem twoB_blank (c : UInt8) (r : List UInt8) : twoB (c :: 32 :: r) = false := by
  show (c == 60 && ((32 : UInt8) == 62 || (32 : UInt8) == 61) || c == 62 && (32 : UInt8) == 61) = false
  simp
/-- what is behind a blank doesn't matter -/
theorem first_behind {s : List UInt8} {k : Int} {t : List UInt8} {n : Nat} (h : firstL s = some (k, t, n)) (r : List UInt8) : firstL (s ++ 32 :: r) = some (k, t, n) := by
  have hlen := (first_n h).2
  rcases first_cases h with ⟨c, q, rfl, hl, rfl, rfl, rfl, h20⟩ | ⟨c, q, rfl, hl, hf, rfl, rfl, rfl, h19⟩ | ⟨q, rfl, rfl, m, hq, rfl, h200⟩ | ⟨c, d, q, rfl, hl, hf, hc, h2, rfl, rfl, rfl⟩ | ⟨c, q, rfl, hl, hf, hc, h2, h1, rfl, rfl, rfl⟩
  · have e := runL_behind nameB 32 name_blank r (c :: q)
    have e2 : (c :: q ++ 32 :: r).take (runL nameB (c :: q)) = (c :: q).take (runL nameB (c :: q)) := List.take_append_of_le_length hlen
    rw [List.cons_append] at e e2 ⊢
    rw [firstL, if_pos hl, e, if_pos h20, e2]
  · have e := runL_behind figB 32 fig_blank r (c :: q)
    have e2 : (c :: q ++ 32 :: r).take (runL figB (c :: q)) = (c :: q).take (runL figB (c :: q)) := List.take_append_of_le_length hlen
    rw [List.cons_append] at e e2 ⊢
    rw [firstL, if_neg (by rw [hl]; decide), if_pos hf, e, if_pos h19, e2]
  · obtain ⟨r', rfl, rfl, hr'⟩ := quoL_is q t m hq
    have e : quoL (dbl t ++ 39 :: r' ++ 32 :: r) = some (t, (dbl t).length + 1) := by
      rw [List.append_assoc, List.cons_append]
      refine quoL_dbl _ ?_ t
      intro d r'' e
      cases r' with
      | nil => injection e with e1 e2; subst e1; decide
      | cons d' r3 => injection e with e1 e2; exact e1 ▸ hr' d' r3 rfl
    rw [List.cons_append, firstL, if_neg (by decide), if_neg (by decide), if_pos rfl, e]
    simp [h200]
  · rw [List.cons_append, List.cons_append, firstL, if_neg (by rw [hl]; decide), if_neg (by rw [hf]; decide), if_neg hc, twoB_cons, if_pos h2]
    rfl
  · have e : twoB (c :: (q ++ 32 :: r)) = false := by
      cases q with
      | nil => exact twoB_blank c r
      | cons d q => rw [List.cons_append, twoB_cons]; rw [twoB_cons] at h2; exact h2
    rw [List.cons_append, firstL, if_neg (by rw [hl]; decide), if_neg (by rw [hf]; decide), if_neg hc, if_neg (by rw [e]; decide), if_pos h1]
/-- a word that came, shown, comes again, and alone -/
theorem first_again {s : List UInt8} {k : Int} {t : List UInt8} {n : Nat} (h : firstL s = some (k, t, n)) : firstL (showW k t) = some (k, t, (showW k t).length) := by
  have hlen := (first_n h).2
  rcases first_cases h with ⟨c, q, rfl, hl, rfl, rfl, rfl, h20⟩ | ⟨c, q, rfl, hl, hf, rfl, rfl, rfl, h19⟩ | ⟨q, rfl, rfl, m, hq, rfl, h200⟩ | ⟨c, d, q, rfl, hl, hf, hc, h2, rfl, rfl, rfl⟩ | ⟨c, q, rfl, hl, hf, hc, h2, h1, rfl, rfl, rfl⟩
  · have hc : nameB c = true := by unfold nameB; rw [hl]; rfl
    have e1 := runL_take nameB (c :: q)
    have e3 : ((c :: q).take (runL nameB (c :: q))).length = runL nameB (c :: q) := by rw [List.length_take]; omega
    show firstL ((c :: q).take (runL nameB (c :: q))) = some (0, (c :: q).take (runL nameB (c :: q)), ((c :: q).take (runL nameB (c :: q))).length)
    rw [e3]
    obtain ⟨u, hu⟩ : ∃ u, (c :: q).take (runL nameB (c :: q)) = c :: u := by rw [runL, if_pos hc, List.take_succ_cons]; exact ⟨_, rfl⟩
    generalize runL nameB (c :: q) = N at *
    rw [hu] at e1 e3 ⊢
    rw [firstL, if_pos hl, e1, if_pos h20, ← e3, List.take_length]
  · have e1 := runL_take figB (c :: q)
    have e3 : ((c :: q).take (runL figB (c :: q))).length = runL figB (c :: q) := by rw [List.length_take]; omega
    show firstL ((c :: q).take (runL figB (c :: q))) = some (1, (c :: q).take (runL figB (c :: q)), ((c :: q).take (runL figB (c :: q))).length)
    rw [e3]
    obtain ⟨u, hu⟩ : ∃ u, (c :: q).take (runL figB (c :: q)) = c :: u := by rw [runL, if_pos hf, List.take_succ_cons]; exact ⟨_, rfl⟩
    generalize runL figB (c :: q) = N at *
    rw [hu] at e1 e3 ⊢
    rw [firstL, if_neg (by rw [hl]; decide), if_pos hf, e1, if_pos h19, ← e3, List.take_length]
  · rw [showW_quote h200, firstL, if_neg (by decide), if_neg (by decide), if_pos rfl, quoL_dbl [] (fun d r e => by cases e) t]
    simp [h200]
  · show firstL [c, d] = _
    rw [firstL, if_neg (by rw [hl]; decide), if_neg (by rw [hf]; decide), if_neg hc, if_pos h2]
    rfl
  · show firstL [c] = _
    rw [firstL, if_neg (by rw [hl]; decide), if_neg (by rw [hf]; decide), if_neg hc, twoB_one, if_neg (by decide), if_pos h1]
    rfl
/-- a word: its kind, its text, where it stands -/
abbrev W := Int × List UInt8 × Int
/-- all words from a place on, or where the fault is -/
def wordsF : Nat → List UInt8 → Int → Except Int (List W)
  | 0, _, _ => .ok []
  | _ + 1, [], _ => .ok []
  | f + 1, c :: s, i => if blankB c = true then wordsF f s (i + 1) else
    match firstL (c :: s) with
    | none => .error i
    | some (k, t, n) =>
      match wordsF f ((c :: s).drop n) (i + n) with
      | .error j => .error j
      | .ok l => .ok ((k, t, i) :: l)
theorem wordsF_more : ∀ (f g : Nat) (s : List UInt8) (i : Int), s.length ≤ f → s.length ≤ g → wordsF f s i = wordsF g s i
  | 0, 0, _, _, _, _ => rfl
  | 0, g + 1, [], _, _, _ => rfl
  | 0, _ + 1, c :: s, _, h, _ => by simp at h
  | f + 1, 0, [], _, _, _ => rfl
  | _ + 1, 0, c :: s, _, _, h => by simp at h
  | f + 1, g + 1, [], _, _, _ => rfl
  | f + 1, g + 1, c :: s, i, hf, hg => by
    rw [wordsF, wordsF]
    split
    · exact wordsF_more f g s (i + 1) (by simpa using hf) (by simpa using hg)
    · cases h : firstL (c :: s) with
      | none => rfl
      | some v =>
        obtain ⟨k, t, n⟩ := v
        have hn := first_n h
        simp only [List.length_cons] at hf hg hn
        dsimp only
        rw [show wordsF f ((c :: s).drop n) (i + n) = wordsF g ((c :: s).drop n) (i + n) from wordsF_more f g _ _ (by rw [List.length_drop, List.length_cons]; omega) (by rw [List.length_drop, List.length_cons]; omega)]
def wordsL (s : List UInt8) (i : Int) : Except Int (List W) := wordsF s.length s i
theorem wordsL_nil (i : Int) : wordsL [] i = .ok [] := rfl
theorem wordsL_blank {c : UInt8} {s : List UInt8} {i : Int} (h : blankB c = true) : wordsL (c :: s) i = wordsL s (i + 1) := by
  show wordsF (s.length + 1) (c :: s) i = _
  rw [wordsF, if_pos h]
  rfl
theorem wordsL_none {c : UInt8} {s : List UInt8} {i : Int} (hb : blankB c = false) (h : firstL (c :: s) = none) : wordsL (c :: s) i = .error i := by
  show wordsF (s.length + 1) (c :: s) i = _
  rw [wordsF, if_neg (by rw [hb]; decide), h]
theorem wordsL_one {c : UInt8} {s : List UInt8} {i : Int} {k : Int} {t : List UInt8} {n : Nat} (h : firstL (c :: s) = some (k, t, n)) :
    wordsL (c :: s) i = (match wordsL ((c :: s).drop n) (i + n) with | .error j => .error j | .ok l => .ok ((k, t, i) :: l)) := by
  have hb : blankB c = false := by
    cases hb : blankB c
    · rfl
    · rw [first_blank hb] at h; cases h
  have hn := first_n h
  simp only [List.length_cons] at hn
  show wordsF (s.length + 1) (c :: s) i = _
  rw [wordsF, if_neg (by rw [hb]; decide), h]
  show (match wordsF s.length ((c :: s).drop n) (i + n) with | .error j => Except.error j | .ok l => .ok ((k, t, i) :: l)) = _
  rw [show wordsF s.length ((c :: s).drop n) (i + n) = wordsL ((c :: s).drop n) (i + n) from wordsF_more _ _ _ _ (by rw [List.length_drop, List.length_cons]; omega) (Nat.le_refl _)]
/-- one way to go through a text: at its end, at a blank, at what is no word, at a word -/
theorem words_ind {Q : List UInt8 → Prop} (h0 : Q []) (h1 : ∀ c s, blankB c = true → Q s → Q (c :: s)) (h2 : ∀ c s, blankB c = false → firstL (c :: s) = none → Q (c :: s))
    (h3 : ∀ c s k t n, firstL (c :: s) = some (k, t, n) → Q ((c :: s).drop n) → Q (c :: s)) : ∀ (n : Nat) (s : List UInt8), s.length ≤ n → Q s
  | _, [], _ => h0
  | 0, c :: s, h => by simp at h
  | n + 1, c :: s, h => by
    cases hb : blankB c
    · cases hf : firstL (c :: s) with
      | none => exact h2 c s hb hf
      | some v =>
        obtain ⟨k, t, m⟩ := v
        have hm := first_n hf
        simp only [List.length_cons] at hm h
        exact h3 c s k t m hf (words_ind h0 h1 h2 h3 n _ (by rw [List.length_drop, List.length_cons]; omega))
    · exact h1 c s hb (words_ind h0 h1 h2 h3 n s (by simpa using h))
theorem words_way {Q : List UInt8 → Prop} (h0 : Q []) (h1 : ∀ c s, blankB c = true → Q s → Q (c :: s)) (h2 : ∀ c s, blankB c = false → firstL (c :: s) = none → Q (c :: s))
    (h3 : ∀ c s k t n, firstL (c :: s) = some (k, t, n) → Q ((c :: s).drop n) → Q (c :: s)) (s : List UInt8) : Q s := words_ind h0 h1 h2 h3 s.length s (Nat.le_refl _)
/-- words further on -/
def onW (d : Int) (l : List W) : List W := l.map fun w => (w.1, w.2.1, w.2.2 + d)
theorem onW_length (d : Int) (l : List W) : (onW d l).length = l.length := by unfold onW; rw [List.length_map]
/-- the words from another place on -/
theorem words_on (s : List UInt8) : ∀ (i d : Int), wordsL s (i + d) = (match wordsL s i with | .error j => .error (j + d) | .ok l => .ok (onW d l)) := by
  refine words_way (Q := fun s => ∀ (i d : Int), wordsL s (i + d) = (match wordsL s i with | .error j => .error (j + d) | .ok l => .ok (onW d l))) ?_ ?_ ?_ ?_ s
  · intro i d; rfl
  · intro c s hb ih i d
    rw [wordsL_blank hb, wordsL_blank hb, show i + d + 1 = i + 1 + d by omega, ih]
  · intro c s hb hf i d
    rw [wordsL_none hb hf, wordsL_none hb hf]
  · intro c s k t n hf ih i d
    rw [wordsL_one hf, wordsL_one hf, show i + d + n = i + n + d by omega, ih]
    cases wordsL ((c :: s).drop n) (i + n) with
    | error j => rfl
    | ok l => rfl
/-- where a fault is, or words stand: within the text -/
theorem words_within (s : List UInt8) : ∀ (i : Int), (∀ j, wordsL s i = .error j → i ≤ j ∧ j < i + s.length) ∧ (∀ l, wordsL s i = .ok l → ∀ w ∈ l, i ≤ w.2.2 ∧ w.2.2 < i + s.length) := by
  refine words_way (Q := fun s => ∀ (i : Int), (∀ j, wordsL s i = .error j → i ≤ j ∧ j < i + s.length) ∧ (∀ l, wordsL s i = .ok l → ∀ w ∈ l, i ≤ w.2.2 ∧ w.2.2 < i + s.length)) ?_ ?_ ?_ ?_ s
  · intro i
    refine ⟨fun j h => (by cases h), fun l h => ?_⟩
    cases h
    intro w hw
    cases hw
  · intro c s hb ih i
    rw [wordsL_blank hb]
    have := ih (i + 1)
    refine ⟨fun j h => ?_, fun l h w hw => ?_⟩
    · have := this.1 j h
      simp only [List.length_cons]
      omega
    · have := this.2 l h w hw
      simp only [List.length_cons]
      omega
  · intro c s hb hf i
    rw [wordsL_none hb hf]
    refine ⟨fun j h => ?_, fun l h => by cases h⟩
    cases h
    simp only [List.length_cons]
    omega
  · intro c s k t n hf ih i
    have hn := first_n hf
    rw [wordsL_one hf]
    have := ih (i + n)
    rw [List.length_drop] at this
    simp only [List.length_cons] at this hn ⊢
    cases hw : wordsL ((c :: s).drop n) (i + n) with
    | error j' =>
      rw [hw] at this
      refine ⟨fun j h => ?_, fun l h => by cases h⟩
      cases h
      have := this.1 j' rfl
      omega
    | ok l' =>
      rw [hw] at this
      refine ⟨fun j h => (by cases h), fun l h w hm => ?_⟩
      cases h
      rcases List.mem_cons.1 hm with rfl | hm
      · show i ≤ i ∧ i < _
        omega
      · have := this.2 l' rfl w hm
        omega
/-- words rise -/
theorem words_rise (s : List UInt8) : ∀ (i : Int) (l : List W), wordsL s i = .ok l → l.Pairwise fun a b => a.2.2 < b.2.2 := by
  refine words_way (Q := fun s => ∀ (i : Int) (l : List W), wordsL s i = .ok l → l.Pairwise fun a b => a.2.2 < b.2.2) ?_ ?_ ?_ ?_ s
  · intro i l h; cases h; exact .nil
  · intro c s hb ih i l h
    rw [wordsL_blank hb] at h
    exact ih _ l h
  · intro c s hb hf i l h
    rw [wordsL_none hb hf] at h
    cases h
  · intro c s k t n hf ih i l h
    have hn := first_n hf
    rw [wordsL_one hf] at h
    have hwi := words_within ((c :: s).drop n) (i + n)
    cases hw : wordsL ((c :: s).drop n) (i + n) with
    | error j' => rw [hw] at h; cases h
    | ok l' =>
      rw [hw] at h hwi
      cases h
      refine .cons ?_ (ih _ l' hw)
      intro b hb
      have := hwi.2 l' rfl b hb
      show i < b.2.2
      omega
/-- the words of two texts with a blank between -/
theorem words_join (b : List UInt8) (a : List UInt8) : ∀ (i : Int) (l : List W), wordsL a i = .ok l →
    wordsL (a ++ 32 :: b) i = (match wordsL b (i + a.length + 1) with | .error j => .error j | .ok m => .ok (l ++ m)) := by
  refine words_way (Q := fun a => ∀ (i : Int) (l : List W), wordsL a i = .ok l → wordsL (a ++ 32 :: b) i = (match wordsL b (i + a.length + 1) with | .error j => .error j | .ok m => .ok (l ++ m))) ?_ ?_ ?_ ?_ a
  · intro i l h
    cases h
    rw [List.nil_append, wordsL_blank (by decide), show i + (([] : List UInt8).length : Int) + 1 = i + 1 by simp]
    cases wordsL b (i + 1) <;> rfl
  · intro c s hb ih i l h
    rw [wordsL_blank hb] at h
    rw [List.cons_append, wordsL_blank hb, ih _ l h, show i + 1 + (s.length : Int) + 1 = i + ((c :: s).length : Int) + 1 by simp only [List.length_cons]; omega]
  · intro c s hb hf i l h
    rw [wordsL_none hb hf] at h
    cases h
  · intro c s k t n hf ih i l h
    have hn := first_n hf
    rw [wordsL_one hf] at h
    have hf' := first_behind hf b
    rw [List.cons_append] at hf' ⊢
    rw [wordsL_one hf', ← List.cons_append, List.drop_append_of_le_length hn.2]
    cases hw : wordsL ((c :: s).drop n) (i + n) with
    | error j' => rw [hw] at h; cases h
    | ok l' =>
      rw [hw] at h
      cases h
      rw [ih _ l' hw, show i + n + (((c :: s).drop n).length : Int) + 1 = i + ((c :: s).length : Int) + 1 by rw [List.length_drop]; omega]
      cases wordsL b (i + ((c :: s).length : Int) + 1) <;> rfl
/-- the text of words -/
def textL (l : List W) : List UInt8 := Lib.join (l.map fun w => showW w.1 w.2.1) [32]
theorem textL_nil : textL [] = [] := rfl
theorem textL_one (w : W) : textL [w] = showW w.1 w.2.1 := by
  unfold textL
  rw [List.map_cons, List.map_nil, Lib.join_one]
theorem textL_snoc (l : List W) (w : W) (h : 0 < l.length) : textL (l ++ [w]) = textL l ++ 32 :: showW w.1 w.2.1 := by
  unfold textL
  cases l with
  | nil => simp at h
  | cons v l =>
    rw [List.cons_append, List.map_cons, List.map_cons, Lib.join_cons, Lib.join_cons, List.map_append]
    have e := Lib.joinTail_take_succ [32] ((l ++ [w]).map fun w => showW w.1 w.2.1) l.length (showW w.1 w.2.1) (by simp)
    rw [show ((l ++ [w]).map fun w : W => showW w.1 w.2.1).take (l.length + 1) = (l ++ [w]).map fun w : W => showW w.1 w.2.1 by rw [List.take_of_length_le (by simp)],
      show ((l ++ [w]).map fun w : W => showW w.1 w.2.1).take l.length = l.map fun w : W => showW w.1 w.2.1 by rw [← List.map_take]; simp] at e
    rw [← List.map_append, e]
    simp
/-- words that may come of a text -/
def CameB (l : List W) : Prop := ∀ w ∈ l, firstL (showW w.1 w.2.1) = some (w.1, w.2.1, (showW w.1 w.2.1).length)
theorem words_came (s : List UInt8) : ∀ (i : Int) (l : List W), wordsL s i = .ok l → CameB l := by
  refine words_way (Q := fun s => ∀ (i : Int) (l : List W), wordsL s i = .ok l → CameB l) ?_ ?_ ?_ ?_ s
  · intro i l h w hw; cases h; cases hw
  · intro c s hb ih i l h
    rw [wordsL_blank hb] at h
    exact ih _ l h
  · intro c s hb hf i l h
    rw [wordsL_none hb hf] at h
    cases h
  · intro c s k t n hf ih i l h
    rw [wordsL_one hf] at h
    cases hw : wordsL ((c :: s).drop n) (i + n) with
    | error j' => rw [hw] at h; cases h
    | ok l' =>
      rw [hw] at h
      cases h
      intro w hm
      rcases List.mem_cons.1 hm with rfl | hm
      · exact first_again hf
      · exact ih _ l' hw w hm
/-- a word that is alone -/
theorem words_alone {k : Int} {t : List UInt8} (h : firstL (showW k t) = some (k, t, (showW k t).length)) (i : Int) : wordsL (showW k t) i = .ok [(k, t, i)] := by
  cases hs : showW k t with
  | nil => rw [hs] at h; cases h
  | cons c s =>
    rw [hs] at h
    rw [wordsL_one h, List.drop_length]
    rfl
/-- AGAIN: the words of words' text are the words, but for where they stand -/
theorem words_again : ∀ (n : Nat) (l : List W), l.length = n → CameB l → ∃ m, wordsL (textL l) 0 = .ok m ∧ m.map (fun w => (w.1, w.2.1)) = l.map (fun w => (w.1, w.2.1))
  | 0, l, hl, h => by
    obtain rfl := List.eq_nil_of_length_eq_zero hl
    exact ⟨[], rfl, rfl⟩
  | n + 1, l, hl, h => by
    obtain ⟨q, w, rfl⟩ : ∃ q w, l = q ++ [w] := by
      have hne : l ≠ [] := by intro e; subst e; simp at hl
      exact ⟨l.dropLast, l.getLast hne, (List.dropLast_concat_getLast hne).symm⟩
    have hw := h w (by simp)
    rw [List.length_append] at hl
    simp only [List.length_cons, List.length_nil] at hl
    cases q with
    | nil =>
      rw [List.nil_append, textL_one, words_alone hw]
      exact ⟨_, rfl, rfl⟩
    | cons v q =>
      obtain ⟨m, h1, h2⟩ := words_again n (v :: q) (by omega) (fun x hx => h x (List.mem_append_left _ hx))
      rw [textL_snoc _ _ (by simp), words_join _ _ 0 m h1, words_alone hw]
      refine ⟨_, rfl, ?_⟩
      rw [List.map_append, List.map_append, h2]
      rfl
end Go.Proofs.Ytkibacolnagkcaa.Code
