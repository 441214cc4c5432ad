/-
  Expressions of texts in plain words: a text's node or what is wrong with it; brackets about all; signs of signs. No program is named here.
-/
import Derived.Test.YtkibacolnagkcaaM5
namespace Go.Proofs.Ytkibacolnagkcaa.Code
open Val
set_option linter.unusedVariables false
theorem oneL_none {L : List V} {i : Nat} {b : Bool} : ∀ {l : List (List UInt8)}, (∀ s ∈ l, isW L i b s = false) → oneL L i b l = []
  | [], _ => rfl
  | s :: l, h => by rw [oneL, if_neg (by rw [h s (by simp)]; decide), oneL_none (fun x hx => h x (List.mem_cons_of_mem _ hx))]
/-- an expression in brackets -/
theorem P_wrap {L : List V} {i j f : Nat} {x : Tr} (hx : P L f (.expr 1) (i + 1) false = (x, j, false)) (h0 : L[i]? = some (3, [40])) (h1 : isW L j false [41] = true) (h2 : ∀ s, s ≠ [41] → isW L (j + 1) false s = false) :
    P L (f + 8) (.expr 1) i false = (x, j + 1, false) := by
  have e0 : ∀ s, isW L i false s = (([40] : List UInt8) == s) := by
    intro s
    unfold isW
    rw [h0]
    simp
  have o : ∀ l, oneL L (j + 1) false (opsL l) = [] := fun l => oneL_none fun s hs => h2 s fun e => ops_shut l (e ▸ hs)
  have s1 : P L (f + 1) .sign i false = (x, j + 1, false) := by
    rw [P, e0, e0, if_neg (by decide), if_pos (by decide), hx]
    dsimp only
    rw [h1, if_pos rfl]
  have s7 : P L (f + 2) (.expr 7) i false = (x, j + 1, false) := by rw [P, if_pos rfl, s1]
  have s6 : P L (f + 3) (.expr 6) i false = (x, j + 1, false) := by
    rw [P, if_neg (by decide), if_neg (by decide), if_neg (by decide), s7]
    dsimp only
    rw [P, o, if_pos rfl]
  have s5 : P L (f + 4) (.expr 5) i false = (x, j + 1, false) := by
    rw [P, if_neg (by decide), if_neg (by decide), if_neg (by decide), s6]
    dsimp only
    rw [P, o, if_pos rfl]
  have s4 : P L (f + 5) (.expr 4) i false = (x, j + 1, false) := by
    rw [P, if_neg (by decide), if_neg (by decide), if_pos rfl, s5]
    dsimp only
    rw [P, o, if_pos rfl, h2 sIs (by decide), if_neg (by decide)]
  have s3 : P L (f + 6) (.expr 3) i false = (x, j + 1, false) := by
    rw [P, if_neg (by decide), if_pos rfl, e0, if_neg (by decide), s4]
  have s2 : P L (f + 7) (.expr 2) i false = (x, j + 1, false) := by
    rw [P, if_neg (by decide), if_neg (by decide), if_neg (by decide), s3]
    dsimp only
    rw [P, o, if_pos rfl]
  rw [P, if_neg (by decide), if_neg (by decide), if_neg (by decide), s2]
  dsimp only
  rw [P, o, if_pos rfl]
def stepsN (L : List V) : Nat := 16 * L.length + 16
/-- what is read from the beginning -/
def topP (L : List V) : Tr × Nat × Bool := P L (stepsN L) (.expr 1) 0 false
theorem top_more (L : List V) (f : Nat) (h : stepsN L ≤ f) : P L f (.expr 1) 0 false = topP L := by
  unfold stepsN at h
  have e : mu L (.expr 1) 0 = 16 * (L.length - 0) + 15 := rfl
  exact P_steps L f (stepsN L) (.expr 1) 0 false (Nat.zero_le _) ⟨by omega, by omega⟩ (by omega) (by unfold stepsN; omega)
theorem top_wrap (L : List V) (x : Tr) (h : topP L = (x, L.length, false)) : topP ((3, [40]) :: (3, [40]) :: (L ++ [(3, [41]), (3, [41])])) = (x, L.length + 4, false) := by
  have hF : stepsN L ≤ 16 * L.length + 64 := by unfold stepsN; omega
  have h1 := top_more L (16 * L.length + 64) hF
  rw [h] at h1
  have h2 := P_more (L := L) (R := [(3, [41]), (3, [41])]) ⟨_, rfl⟩ (16 * L.length + 64) (.expr 1) 0 false (Nat.zero_le _) (by rw [h1])
  rw [h1] at h2
  have h3 := P_shift [(3, [40]), (3, [40])] (L ++ [(3, [41]), (3, [41])]) (16 * L.length + 64) (.expr 1) 0 false
  rw [h2] at h3
  obtain ⟨K, hK⟩ : ∃ K : List V, (3, [40]) :: (3, [40]) :: (L ++ [(3, [41]), (3, [41])]) = K := ⟨_, rfl⟩
  have h3 : P K (16 * L.length + 64) (.expr 1) (1 + 1) false = (x, 2 + L.length, false) := by rw [← hK]; exact h3
  have hl : K.length = L.length + 4 := by rw [← hK]; simp
  have g0 : K[0]? = some (3, [40]) := by rw [← hK]; rfl
  have g1 : K[1]? = some (3, [40]) := by rw [← hK]; rfl
  have g2 : K[2 + L.length]? = some (3, [41]) := by
    rw [← hK, show 2 + L.length = L.length + 1 + 1 by omega, List.getElem?_cons_succ, List.getElem?_cons_succ, List.getElem?_append_right (Nat.le_refl _), Nat.sub_self]
    rfl
  have g3 : K[2 + L.length + 1]? = some (3, [41]) := by
    rw [← hK, show 2 + L.length + 1 = (L.length + 1) + 1 + 1 by omega, List.getElem?_cons_succ, List.getElem?_cons_succ, List.getElem?_append_right (by omega), show L.length + 1 - L.length = 1 by omega]
    rfl
  have g4 : K[2 + L.length + 1 + 1]? = none := List.getElem?_eq_none (by omega)
  have w1 : ∀ i, K[i]? = some (3, [41]) → ∀ s, isW K i false s = (([41] : List UInt8) == s) := by
    intro i hi s
    unfold isW
    rw [hi]
    simp
  have a1 := P_wrap h3 g1 (by rw [w1 _ g2]; decide) (by
    intro s hs
    rw [w1 _ g3]
    simpa using fun e => hs e.symm)
  have a2 := P_wrap (i := 0) a1 g0 (by rw [w1 _ g3]; decide) (by
    intro s hs
    unfold isW
    rw [g4])
  rw [hK, ← top_more K (16 * L.length + 64 + 8 + 8) (by unfold stepsN; omega), a2]
  rw [show 2 + L.length + 1 + 1 = L.length + 4 by omega]
/-- words, but for where they stand -/
def bare (l : List W) : List V := l.map fun w => (w.1, w.2.1)
theorem bare_length (l : List W) : (bare l).length = l.length := by unfold bare; rw [List.length_map]
theorem bare_on (d : Int) (l : List W) : bare (onW d l) = bare l := by
  unfold bare onW
  rw [List.map_map]
  rfl
theorem bare_append (a b : List W) : bare (a ++ b) = bare a ++ bare b := List.map_append
/-- the byte at which a word stands; the text's length, if there is none -/
def placeL (n : Nat) (l : List W) (i : Nat) : Int := match l[i]? with | some w => w.2.2 | none => n
def parseW (n : Nat) (l : List W) : Tr × Int × Int :=
  if l = [] then (zeroT, n, 91)
  else if (topP (bare l)).2.2 = true ∨ (topP (bare l)).2.1 < l.length then (zeroT, placeL n l (topP (bare l)).2.1, 91)
  else if 16 < (topP (bare l)).1.deep then (zeroT, 0, 92)
  else ((topP (bare l)).1, 0, 0)
/-- a text's node, or what is wrong, and where -/
def parseL (s : List UInt8) : Tr × Int × Int := match wordsL s 0 with | .error j => (zeroT, j, 81) | .ok l => parseW s.length l
theorem top_le (L : List V) : (topP L).2.1 ≤ L.length := (P_ends L (stepsN L) (.expr 1) 0 false (Nat.zero_le _)).2.1
theorem parse_ok {n : Nat} {l : List W} {x : Tr} {a : Int} (h : parseW n l = (x, a, 0)) : topP (bare l) = (x, l.length, false) ∧ a = 0 ∧ x.deep ≤ 16 := by
  unfold parseW at h
  split at h
  · cases h
  split at h
  · cases h
  rename_i hne hb
  split at h
  · cases h
  rename_i hd
  injection h with h1 h2
  injection h2 with h3 h4
  have hle := top_le (bare l)
  rw [bare_length] at hle
  have hb1 : (topP (bare l)).2.2 = false := by
    cases hx : (topP (bare l)).2.2
    · rfl
    · exact absurd (.inl hx) hb
  have hb2 : (topP (bare l)).2.1 = l.length := by
    have : ¬ (topP (bare l)).2.1 < l.length := fun e => hb (.inr e)
    omega
  refine ⟨?_, h3.symm, by rw [← h1]; omega⟩
  rw [← h1, ← hb1, ← hb2]
theorem parse_deep {n : Nat} {l : List W} {x : Tr} {a : Int} (h : parseW n l = (x, a, 92)) : ∃ y, topP (bare l) = (y, l.length, false) ∧ 16 < y.deep ∧ x = zeroT ∧ a = 0 := by
  unfold parseW at h
  split at h
  · cases h
  split at h
  · cases h
  rename_i hne hb
  split at h
  · rename_i hd
    injection h with h1 h2
    injection h2 with h3 h4
    have hle := top_le (bare l)
    rw [bare_length] at hle
    have hb1 : (topP (bare l)).2.2 = false := by
      cases hx : (topP (bare l)).2.2
      · rfl
      · exact absurd (.inl hx) hb
    have hb2 : (topP (bare l)).2.1 = l.length := by
      have : ¬ (topP (bare l)).2.1 < l.length := fun e => hb (.inr e)
      omega
    refine ⟨(topP (bare l)).1, ?_, hd, h1.symm, h3.symm⟩
    rw [← hb1, ← hb2]
  · cases h
theorem parse_made {n : Nat} {l : List W} {x : Tr} (hl : l ≠ []) (h : topP (bare l) = (x, l.length, false)) : parseW n l = if 16 < x.deep then (zeroT, 0, 92) else (x, 0, 0) := by
  unfold parseW
  rw [if_neg hl, h, if_neg (by simp)]
/-- what is behind a text that is a bracket doesn't matter -/
theorem name_shut : nameB 41 = false := by decide
theorem fig_shut : figB 41 = false := by decide
theorem twoB_shut (c : UInt8) (r : List UInt8) : twoB (c :: 41 :: r) = false := by
  show (c == 60 && ((41 : UInt8) == 62 || (41 : UInt8) == 61) || c == 62 && (41 : UInt8) == 61) = false
  simp
theorem first_shut {s : List UInt8} {k : Int} {t : List UInt8} {n : Nat} (h : firstL s = some (k, t, n)) (r : List UInt8) : firstL (s ++ 41 :: r) = some (k, t, n) := by
  have hlen := (first_n h).2
  rcases first_cases h with ⟨c, q, rfl, hl, rfl, rfl, rfl, h20⟩ | ⟨c, q, rfl, hl, hf, rfl, rfl, rfl, h19⟩ | ⟨q, rfl, rfl, m, hq, rfl, h200⟩ | ⟨c, d, q, rfl, hl, hf, hc, h2, rfl, rfl, rfl⟩ | ⟨c, q, rfl, hl, hf, hc, h2, h1, rfl, rfl, rfl⟩
  · have e := runL_behind nameB 41 name_shut r (c :: q)
    have e2 : (c :: q ++ 41 :: r).take (runL nameB (c :: q)) = (c :: q).take (runL nameB (c :: q)) := List.take_append_of_le_length hlen
    rw [List.cons_append] at e e2 ⊢
    rw [firstL, if_pos hl, e, if_pos h20, e2]
  · have e := runL_behind figB 41 fig_shut r (c :: q)
    have e2 : (c :: q ++ 41 :: r).take (runL figB (c :: q)) = (c :: q).take (runL figB (c :: q)) := List.take_append_of_le_length hlen
    rw [List.cons_append] at e e2 ⊢
    rw [firstL, if_neg (by rw [hl]; decide), if_pos hf, e, if_pos h19, e2]
  · obtain ⟨r', rfl, rfl, hr'⟩ := quoL_is q t m hq
    have e : quoL (dbl t ++ 39 :: r' ++ 41 :: r) = some (t, (dbl t).length + 1) := by
      rw [List.append_assoc, List.cons_append]
      refine quoL_dbl _ ?_ t
      intro d r'' e
      cases r' with
      | nil => injection e with e1 e2; subst e1; decide
      | cons d' r3 => injection e with e1 e2; exact e1 ▸ hr' d' r3 rfl
    rw [List.cons_append, firstL, if_neg (by decide), if_neg (by decide), if_pos rfl, e]
    simp [h200]
  · rw [List.cons_append, List.cons_append, firstL, if_neg (by rw [hl]; decide), if_neg (by rw [hf]; decide), if_neg hc, twoB_cons, if_pos h2]
    rfl
  · have e : twoB (c :: (q ++ 41 :: r)) = false := by
      cases q with
      | nil => exact twoB_shut c r
      | cons d q => rw [List.cons_append, twoB_cons]; rw [twoB_cons] at h2; exact h2
    rw [List.cons_append, firstL, if_neg (by rw [hl]; decide), if_neg (by rw [hf]; decide), if_neg hc, if_neg (by rw [e]; decide), if_pos h1]
theorem quoL_noend (r : List UInt8) (hr : (39 : UInt8) ∉ r) : quoL r = none := by
  induction r with
  | nil => rfl
  | cons c r ih => rw [quoL_other (fun e => hr (by rw [e]; simp)), ih (fun e => hr (List.mem_cons_of_mem _ e))]; rfl
theorem quoL_none_more (r : List UInt8) (hr : (39 : UInt8) ∉ r) (s : List UInt8) : quoL s = none → quoL (s ++ r) = none := by
  refine quo_ind (Q := fun s => quoL s = none → quoL (s ++ r) = none) ?_ ?_ ?_ ?_ s
  · intro _; exact quoL_noend r hr
  · intro c s hc ih h
    rw [quoL_other hc, Option.map_eq_none_iff] at h
    rw [List.cons_append, quoL_other hc, ih h]
    rfl
  · intro s ih h
    rw [quoL_two, Option.map_eq_none_iff] at h
    rw [List.cons_append, List.cons_append, quoL_two, ih h]
    rfl
  · intro s hs h
    rw [quoL_end hs] at h
    cases h
theorem first_none_shut {c : UInt8} {q : List UInt8} (h : firstL (c :: q) = none) : firstL (c :: q ++ [41, 41]) = none := by
  rw [List.cons_append]
  rw [firstL] at h ⊢
  have e1 := runL_behind nameB 41 name_shut [41] (c :: q)
  have e2 := runL_behind figB 41 fig_shut [41] (c :: q)
  rw [List.cons_append] at e1 e2
  rw [e1, e2]
  by_cases hl : letB c = true
  · rw [if_pos hl] at h ⊢
    by_cases h20 : runL nameB (c :: q) ≤ 20
    · rw [if_pos h20] at h; cases h
    · rw [if_neg h20]
  rw [if_neg hl] at h ⊢
  by_cases hf : figB c = true
  · rw [if_pos hf] at h ⊢
    by_cases h19 : runL figB (c :: q) ≤ 19
    · rw [if_pos h19] at h; cases h
    · rw [if_neg h19]
  rw [if_neg hf] at h ⊢
  by_cases hc : c = 39
  · rw [if_pos hc] at h ⊢
    cases hq : quoL q with
    | none => rw [quoL_none_more [41, 41] (by decide) q hq]
    | some v =>
      obtain ⟨t, m⟩ := v
      rw [hq] at h
      dsimp only at h
      obtain ⟨r', rfl, rfl, hr'⟩ := quoL_is q t m hq
      have e : quoL (dbl t ++ 39 :: r' ++ [41, 41]) = some (t, (dbl t).length + 1) := by
        rw [List.append_assoc, List.cons_append]
        refine quoL_dbl _ ?_ t
        intro d r'' e
        cases r' with
        | nil => injection e with e1 e2; subst e1; decide
        | cons d' r3 => injection e with e1 e2; exact e1 ▸ hr' d' r3 rfl
      rw [e]
      dsimp only
      by_cases h200 : t.length ≤ 200
      · rw [if_pos h200] at h; cases h
      · rw [if_neg h200]
  rw [if_neg hc] at h ⊢
  by_cases h2 : twoB (c :: q) = true
  · rw [if_pos h2] at h; cases h
  rw [if_neg h2] at h
  by_cases h1 : oneB c = true
  · rw [if_pos h1] at h; cases h
  have e : twoB (c :: (q ++ [41, 41])) = false := by
    cases q with
    | nil => exact twoB_shut c [41]
    | cons d q => rw [List.cons_append, twoB_cons]; rw [twoB_cons] at h2; simpa using h2
  rw [if_neg (by rw [e]; decide), if_neg h1]
theorem first_shut1 (r : List UInt8) : firstL (41 :: r) = some (3, [41], 1) := by
  have e : twoB (41 :: r) = false := by
    cases r with
    | nil => rfl
    | cons d r => rw [twoB_cons]; show ((41 : UInt8) == 60 && (d == 62 || d == 61) || (41 : UInt8) == 62 && d == 61) = false; simp
  rw [firstL, if_neg (by decide), if_neg (by decide), if_neg (by decide), if_neg (by rw [e]; decide), if_pos (by decide)]
theorem first_open1 (r : List UInt8) : firstL (40 :: r) = some (3, [40], 1) := by
  have e : twoB (40 :: r) = false := by
    cases r with
    | nil => rfl
    | cons d r => rw [twoB_cons]; show ((40 : UInt8) == 60 && (d == 62 || d == 61) || (40 : UInt8) == 62 && d == 61) = false; simp
  rw [firstL, if_neg (by decide), if_neg (by decide), if_neg (by decide), if_neg (by rw [e]; decide), if_pos (by decide)]
theorem words_shut2 (i : Int) : wordsL [41, 41] i = .ok [(3, [41], i), (3, [41], i + 1)] := by
  rw [wordsL_one (first_shut1 _)]
  show (match wordsL [41] (i + 1) with | .error j => Except.error j | .ok l => .ok ((3, [41], i) :: l)) = _
  rw [wordsL_one (first_shut1 _)]
  rfl
theorem words_shut (s : List UInt8) : ∀ i : Int, wordsL (s ++ [41, 41]) i = (match wordsL s i with | .error j => .error j | .ok l => .ok (l ++ [(3, [41], i + s.length), (3, [41], i + s.length + 1)])) := by
  refine words_way (Q := fun s => ∀ i : Int, wordsL (s ++ [41, 41]) i = (match wordsL s i with | .error j => .error j | .ok l => .ok (l ++ [(3, [41], i + s.length), (3, [41], i + s.length + 1)]))) ?_ ?_ ?_ ?_ s
  · intro i
    show wordsL [41, 41] i = .ok [(3, [41], i + ((0 : Nat) : Int)), (3, [41], i + ((0 : Nat) : Int) + 1)]
    rw [words_shut2, show i + ((0 : Nat) : Int) = i by simp]
  · intro c s hb ih i
    rw [List.cons_append, wordsL_blank hb, wordsL_blank hb, ih, List.length_cons, show i + 1 + (s.length : Int) = i + ((s.length + 1 : Nat) : Int) by omega]
  · intro c s hb hf i
    have := first_none_shut hf
    rw [List.cons_append] at this ⊢
    rw [wordsL_none hb hf, wordsL_none hb this]
  · intro c s k t n hf ih i
    have hn := first_n hf
    have hf' := first_shut hf [41]
    rw [wordsL_one hf]
    rw [List.cons_append] at hf' ⊢
    rw [wordsL_one hf', ← List.cons_append, List.drop_append_of_le_length hn.2, ih, show i + n + (((c :: s).drop n).length : Int) = i + ((c :: s).length : Int) by rw [List.length_drop]; omega]
    cases wordsL ((c :: s).drop n) (i + n) <;> rfl
theorem words_open (t : List UInt8) (i : Int) : wordsL (40 :: t) i = (match wordsL t (i + 1) with | .error j => .error j | .ok l => .ok ((3, [40], i) :: l)) := by
  rw [wordsL_one (first_open1 _)]
  rfl
/-- the words of a text in two brackets -/
theorem words_brackets (s : List UInt8) : wordsL (40 :: 40 :: (s ++ [41, 41])) 0 = (match wordsL s 0 with | .error j => .error (j + 2) | .ok l => .ok ((3, [40], 0) :: (3, [40], 1) :: (onW 2 l ++ [(3, [41], (s.length : Int) + 2), (3, [41], (s.length : Int) + 3)]))) := by
  rw [words_open, words_open, show (0 : Int) + 1 + 1 = 0 + 2 by omega, words_shut, words_on]
  cases wordsL s 0 with
  | error j => rfl
  | ok l =>
    show Except.ok ((3, [40], 0) :: (3, [40], 0 + 1) :: (onW 2 l ++ [(3, [41], 0 + 2 + (s.length : Int)), (3, [41], 0 + 2 + (s.length : Int) + 1)])) = _
    rw [show (0 : Int) + 1 = 1 by omega, show (0 : Int) + 2 + (s.length : Int) = (s.length : Int) + 2 by omega, show (s.length : Int) + 2 + 1 = (s.length : Int) + 3 by omega]
/-- brackets about all do not matter -/
theorem parse_brackets (s : List UInt8) : ((parseL s).2.2 = 0 ∨ (parseL s).2.2 = 92 → parseL (40 :: 40 :: (s ++ [41, 41])) = parseL s) ∧ ((parseL s).2.2 = 81 → (parseL (40 :: 40 :: (s ++ [41, 41]))).2 = ((parseL s).2.1 + 2, 81)) := by
  unfold parseL
  rw [words_brackets]
  cases hw : wordsL s 0 with
  | error j => exact ⟨fun h => (by rcases h with h | h <;> cases h), fun _ => rfl⟩
  | ok l =>
    dsimp only
    have hb : bare ((3, [40], 0) :: (3, [40], 1) :: (onW 2 l ++ [(3, [41], (s.length : Int) + 2), (3, [41], (s.length : Int) + 3)])) = (3, [40]) :: (3, [40]) :: (bare l ++ [(3, [41]), (3, [41])]) := by
      show (3, [40]) :: (3, [40]) :: bare (onW 2 l ++ [(3, [41], (s.length : Int) + 2), (3, [41], (s.length : Int) + 3)]) = _
      rw [bare_append, bare_on]
      rfl
    have hl : ((3, [40], 0) :: (3, [40], 1) :: (onW 2 l ++ [(3, [41], (s.length : Int) + 2), (3, [41], (s.length : Int) + 3)]) : List W).length = l.length + 4 := by
      simp [onW_length]
    have key : ∀ x, topP (bare l) = (x, l.length, false) → parseW (40 :: 40 :: (s ++ [41, 41])).length ((3, [40], 0) :: (3, [40], 1) :: (onW 2 l ++ [(3, [41], (s.length : Int) + 2), (3, [41], (s.length : Int) + 3)])) = if 16 < x.deep then (zeroT, 0, 92) else (x, 0, 0) := by
      intro x h
      refine parse_made (by simp) ?_
      rw [hb, hl]
      have := top_wrap (bare l) x (by rw [h, bare_length])
      rw [this, bare_length]
    refine ⟨fun h => ?_, fun h => ?_⟩
    · obtain ⟨y, hy⟩ : ∃ y, parseW s.length l = y := ⟨_, rfl⟩
      obtain ⟨x, a, e⟩ := y
      rw [hy] at h ⊢
      rcases h with rfl | rfl
      · obtain ⟨h1, rfl, h3⟩ := parse_ok hy
        rw [key x h1, if_neg (by omega)]
      · obtain ⟨y, h1, h2, rfl, rfl⟩ := parse_deep hy
        rw [key y h1, if_pos h2]
    · exfalso
      unfold parseW at h
      split at h
      · cases h
      split at h
      · cases h
      split at h <;> cases h
/-- where a text is wrong, and that no node is told then -/
theorem parse_at (s : List UInt8) : 0 ≤ (parseL s).2.1 ∧ (parseL s).2.1 ≤ s.length ∧ ((parseL s).2.2 ≠ 0 → (parseL s).1 = zeroT) ∧ ((parseL s).2.2 = 0 ∨ (parseL s).2.2 = 81 ∨ (parseL s).2.2 = 91 ∨ (parseL s).2.2 = 92) ∧ ((parseL s).2.2 = 0 ∨ (parseL s).2.2 = 92 → (parseL s).2.1 = 0) := by
  have hin := words_within s 0
  unfold parseL
  cases hw : wordsL s 0 with
  | error j =>
    have := hin.1 j hw
    exact ⟨by show 0 ≤ j; omega, by show j ≤ _; omega, fun _ => rfl, .inr (.inl rfl), fun h => by rcases h with h | h <;> cases h⟩
  | ok l =>
    have hi := hin.2 l hw
    dsimp only
    unfold parseW
    split
    · exact ⟨by dsimp only; omega, by dsimp only; omega, fun _ => rfl, .inr (.inr (.inl rfl)), fun h => by rcases h with h | h <;> cases h⟩
    split
    · have hp : 0 ≤ placeL s.length l (topP (bare l)).2.1 ∧ placeL s.length l (topP (bare l)).2.1 ≤ s.length := by
        unfold placeL
        cases hx : l[(topP (bare l)).2.1]? with
        | none => exact ⟨by dsimp only; omega, by dsimp only; omega⟩
        | some w =>
          have := hi w (List.mem_of_getElem? hx)
          exact ⟨by dsimp only; omega, by dsimp only; omega⟩
      exact ⟨hp.1, hp.2, fun _ => rfl, .inr (.inr (.inl rfl)), fun h => by rcases h with h | h <;> cases h⟩
    split
    · exact ⟨Int.le_refl _, by dsimp only; omega, fun _ => rfl, .inr (.inr (.inr rfl)), fun _ => rfl⟩
    · exact ⟨Int.le_refl _, by dsimp only; omega, fun h => absurd rfl h, .inl rfl, fun _ => rfl⟩
/-- a sign of signs is nested too deeply -/
theorem parse_signs : parseL [45, 45, 45, 45, 45, 45, 45, 45, 45, 45, 45, 45, 45, 45, 45, 45, 45, 45, 45, 45, 45, 49] = (zeroT, 0, 92) := by decide +kernel
end Go.Proofs.Ytkibacolnagkcaa.Code
