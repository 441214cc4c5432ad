/-
  Expressions of words in plain words: what comes at a place, the node that is read there and the word behind it (with so many steps), how many steps are enough; words ahead and behind that do not matter; how deep a node is nested. No program is named here.
-/
import Derived.Test.YtkibacolnagkcaaM4
namespace Go.Proofs.Ytkibacolnagkcaa.Code
open Val
set_option linter.unusedVariables false

/-- a node: an Op, a Text, and no, one or two Kids -/
inductive Tr where
  | leaf (op tx : List UInt8)
  | one (op : List UInt8) (a : Tr)
  | two (op : List UInt8) (a b : Tr)
  deriving DecidableEq
def Tr.deep : Tr → Nat
  | .leaf _ _ => 1
  | .one _ a => a.deep + 1
  | .two _ a b => max a.deep b.deep + 1
def zeroT : Tr := .leaf [] []
/-- a word as an expression sees it: its kind, its text -/
abbrev V := Int × List UInt8
/-- is it one of the language's own names? -/
def ownL (s : List UInt8) : Bool := s == [116, 114, 117, 101] || (s == [102, 97, 108, 115, 101] || (s == [110, 117, 108, 108] || (s == [97, 110, 100] || (s == [111, 114] || (s == [110, 111, 116] || s == [105, 115])))))
/-- does this mark, or name of the language, come? -/
def isW (L : List V) (i : Nat) (b : Bool) (s : List UInt8) : Bool :=
  match L[i]? with
  | some w => !b && w.2 == s && (w.1 == 3 || ownL s && w.1 == 0)
  | none => false
def isK (L : List V) (i : Nat) (b : Bool) (k : Int) : Bool :=
  match L[i]? with
  | some w => !b && w.1 == k
  | none => false
def txt (L : List V) (i : Nat) : List UInt8 :=
  match L[i]? with
  | some w => w.2
  | none => []
def sOr : List UInt8 := [111, 114]
def sAnd : List UInt8 := [97, 110, 100]
def sNot : List UInt8 := [110, 111, 116]
def sIs : List UInt8 := [105, 115]
def sNull : List UInt8 := [110, 117, 108, 108]
def sIsNull : List UInt8 := [105, 115, 32, 110, 117, 108, 108]
def sNeg : List UInt8 := [110, 101, 103]
def sNum : List UInt8 := [110, 117, 109]
def sText : List UInt8 := [116, 101, 120, 116]
def sCol : List UInt8 := [99, 111, 108]
def sTrue : List UInt8 := [116, 114, 117, 101]
def sFalse : List UInt8 := [102, 97, 108, 115, 101]
def opsL (l : Nat) : List (List UInt8) :=
  if l = 1 then [sOr] else if l = 2 then [sAnd] else if l = 4 then [[61], [60, 62], [60], [60, 61], [62], [62, 61]] else if l = 5 then [[43], [45]] else if l = 6 then [[42]] else []
/-- that of some marks that comes; [] if none does -/
def oneL (L : List V) (i : Nat) (b : Bool) : List (List UInt8) → List UInt8
  | [] => []
  | s :: l => if isW L i b s = true then s else oneL L i b l
/-- the number of figures, if it is one of 64 bits -/
def numF : List UInt8 → Int → Option Int
  | [], n => some n
  | c :: s, n => if (9223372036854775807 - ((c.toNat : Int) - 48)) / 10 < n then none else numF s (10 * n + ((c.toNat : Int) - 48))
def numL (s : List UInt8) : Option (List UInt8) := (numF s 0).map Lib.itoa
/-- what is read: an expression of a level, what goes on with one, the other half of a test, a sign -/
inductive Mode where
  | expr (l : Nat)
  | loop (l : Nat) (a : Tr)
  | test (a : Tr)
  | sign
/-- the node, the place behind it, whether it is wrong; with so many steps -/
def P (L : List V) : Nat → Mode → Nat → Bool → Tr × Nat × Bool
  | 0, _, i, b => (zeroT, i, b)
  | f + 1, .expr l, i, b =>
    if l = 7 then P L f .sign i b
    else if l = 3 then (if isW L i b sNot = true then (.one sNot (P L f (.expr 3) (i + 1) b).1, (P L f (.expr 3) (i + 1) b).2) else P L f (.expr 4) i b)
    else if l = 4 then P L f (.test (P L f (.expr 5) i b).1) (P L f (.expr 5) i b).2.1 (P L f (.expr 5) i b).2.2
    else P L f (.loop l (P L f (.expr (l + 1)) i b).1) (P L f (.expr (l + 1)) i b).2.1 (P L f (.expr (l + 1)) i b).2.2
  | f + 1, .loop l a, i, b =>
    if oneL L i b (opsL l) = [] then (a, i, b)
    else P L f (.loop l (.two (oneL L i b (opsL l)) a (P L f (.expr (l + 1)) (i + 1) b).1)) (P L f (.expr (l + 1)) (i + 1) b).2.1 (P L f (.expr (l + 1)) (i + 1) b).2.2
  | f + 1, .test a, i, b =>
    if oneL L i b (opsL 4) = [] then (if isW L i b sIs = true then (.one sIsNull a, if isW L (i + 1) b sNull = true then (i + 2, b) else (i + 1, true)) else (a, i, b))
    else (.two (oneL L i b (opsL 4)) a (P L f (.expr 5) (i + 1) b).1, (P L f (.expr 5) (i + 1) b).2)
  | f + 1, .sign, i, b =>
    if isW L i b [45] = true then (.one sNeg (P L f .sign (i + 1) b).1, (P L f .sign (i + 1) b).2)
    else if isW L i b [40] = true then ((P L f (.expr 1) (i + 1) b).1, if isW L (P L f (.expr 1) (i + 1) b).2.1 (P L f (.expr 1) (i + 1) b).2.2 [41] = true then ((P L f (.expr 1) (i + 1) b).2.1 + 1, (P L f (.expr 1) (i + 1) b).2.2) else ((P L f (.expr 1) (i + 1) b).2.1, true))
    else if oneL L i b [sTrue, sFalse, sNull] = [] then
      (if isK L i b 1 = true then (match numL (txt L i) with | some t => (.leaf sNum t, i + 1, b) | none => (zeroT, i, true))
      else if isK L i b 2 = true then (.leaf sText (txt L i), i + 1, b)
      else if (isK L i b 0 && !ownL (txt L i)) = true then (.leaf sCol (txt L i), i + 1, b)
      else (.leaf sCol [], i, true))
    else (.leaf (oneL L i b [sTrue, sFalse, sNull]) [], i + 1, b)
theorem isW_lt {L : List V} {i : Nat} {b : Bool} {s : List UInt8} (h : isW L i b s = true) : i < L.length := by
  unfold isW at h
  cases hx : L[i]? with
  | none => rw [hx] at h; cases h
  | some w => exact (List.getElem?_eq_some_iff.1 hx).1
theorem isW_good {L : List V} {i : Nat} {b : Bool} {s : List UInt8} (h : isW L i b s = true) : b = false := by
  unfold isW at h
  cases hx : L[i]? with
  | none => rw [hx] at h; cases h
  | some w =>
    rw [hx] at h
    cases b
    · rfl
    · simp at h
theorem isK_lt {L : List V} {i : Nat} {b : Bool} {k : Int} (h : isK L i b k = true) : i < L.length ∧ b = false := by
  unfold isK at h
  cases hx : L[i]? with
  | none => rw [hx] at h; cases h
  | some w =>
    rw [hx] at h
    refine ⟨(List.getElem?_eq_some_iff.1 hx).1, ?_⟩
    cases b
    · rfl
    · simp at h
theorem oneL_some {L : List V} {i : Nat} {b : Bool} : ∀ {l : List (List UInt8)}, oneL L i b l ≠ [] → isW L i b (oneL L i b l) = true ∧ oneL L i b l ∈ l
  | [], h => absurd rfl h
  | s :: l, h => by
    rw [oneL] at h ⊢
    split
    · rename_i hs
      exact ⟨hs, by simp⟩
    · rename_i hs
      rw [if_neg hs] at h
      have := oneL_some h
      exact ⟨this.1, List.mem_cons_of_mem _ this.2⟩
theorem oneL_lt {L : List V} {i : Nat} {b : Bool} {l : List (List UInt8)} (h : oneL L i b l ≠ []) : i < L.length ∧ b = false := ⟨isW_lt (oneL_some h).1, isW_good (oneL_some h).1⟩
/-- where what is read ends: not before it begins, and within the words; what was wrong stays so, and takes no word -/
theorem P_ends (L : List V) : ∀ (f : Nat) (m : Mode) (i : Nat) (b : Bool), i ≤ L.length → i ≤ (P L f m i b).2.1 ∧ (P L f m i b).2.1 ≤ L.length ∧ (b = true → (P L f m i b).2 = (i, true))
  | 0, m, i, b, h => ⟨Nat.le_refl _, h, fun e => by rw [e]; cases m <;> rfl⟩
  | f + 1, .expr l, i, b, h => by
    rw [P]
    split
    · exact P_ends L f .sign i b h
    split
    · split
      · rename_i hs
        have h1 := isW_lt hs
        have h2 := isW_good hs
        have ih := P_ends L f (.expr 3) (i + 1) b (by omega)
        exact ⟨by dsimp only; omega, ih.2.1, fun e => by rw [e] at h2; cases h2⟩
      · exact P_ends L f (.expr 4) i b h
    split
    · have ih := P_ends L f (.expr 5) i b h
      have ih2 := P_ends L f (.test (P L f (.expr 5) i b).1) (P L f (.expr 5) i b).2.1 (P L f (.expr 5) i b).2.2 ih.2.1
      refine ⟨by omega, ih2.2.1, fun e => ?_⟩
      have e1 := ih.2.2 e
      rw [ih2.2.2 (by rw [e1]), e1]
    · have ih := P_ends L f (.expr (l + 1)) i b h
      have ih2 := P_ends L f (.loop l (P L f (.expr (l + 1)) i b).1) (P L f (.expr (l + 1)) i b).2.1 (P L f (.expr (l + 1)) i b).2.2 ih.2.1
      refine ⟨by omega, ih2.2.1, fun e => ?_⟩
      have e1 := ih.2.2 e
      rw [ih2.2.2 (by rw [e1]), e1]
  | f + 1, .loop l a, i, b, h => by
    rw [P]
    split
    · exact ⟨Nat.le_refl _, h, fun e => by rw [e]⟩
    · rename_i ho
      obtain ⟨h1, h2⟩ := oneL_lt ho
      have ih := P_ends L f (.expr (l + 1)) (i + 1) b (by omega)
      have ih2 := P_ends L f (.loop l (.two (oneL L i b (opsL l)) a (P L f (.expr (l + 1)) (i + 1) b).1)) (P L f (.expr (l + 1)) (i + 1) b).2.1 (P L f (.expr (l + 1)) (i + 1) b).2.2 ih.2.1
      exact ⟨by omega, ih2.2.1, fun e => by rw [e] at h2; cases h2⟩
  | f + 1, .test a, i, b, h => by
    rw [P]
    split
    · split
      · rename_i hs
        have h1 := isW_lt hs
        have h2 := isW_good hs
        split
        · rename_i hn
          have h3 := isW_lt hn
          exact ⟨by dsimp only; omega, by dsimp only; omega, fun e => by rw [e] at h2; cases h2⟩
        · exact ⟨by dsimp only; omega, by dsimp only; omega, fun e => by rw [e] at h2; cases h2⟩
      · exact ⟨Nat.le_refl _, h, fun e => by rw [e]⟩
    · rename_i ho
      obtain ⟨h1, h2⟩ := oneL_lt ho
      have ih := P_ends L f (.expr 5) (i + 1) b (by omega)
      exact ⟨by dsimp only; omega, ih.2.1, fun e => by rw [e] at h2; cases h2⟩
  | f + 1, .sign, i, b, h => by
    rw [P]
    split
    · rename_i hs
      have h1 := isW_lt hs
      have h2 := isW_good hs
      have ih := P_ends L f .sign (i + 1) b (by omega)
      exact ⟨by dsimp only; omega, ih.2.1, fun e => by rw [e] at h2; cases h2⟩
    split
    · rename_i hs
      have h1 := isW_lt hs
      have h2 := isW_good hs
      have ih := P_ends L f (.expr 1) (i + 1) b (by omega)
      split
      · rename_i hn
        have h3 := isW_lt hn
        exact ⟨by dsimp only; omega, by dsimp only; omega, fun e => by rw [e] at h2; cases h2⟩
      · exact ⟨by dsimp only; omega, ih.2.1, fun e => by rw [e] at h2; cases h2⟩
    split
    · split
      · rename_i hk
        obtain ⟨h1, h2⟩ := isK_lt hk
        split
        · exact ⟨by dsimp only; omega, by dsimp only; omega, fun e => by rw [e] at h2; cases h2⟩
        · exact ⟨Nat.le_refl _, h, fun e => rfl⟩
      split
      · rename_i hk
        obtain ⟨h1, h2⟩ := isK_lt hk
        exact ⟨by dsimp only; omega, by dsimp only; omega, fun e => by rw [e] at h2; cases h2⟩
      split
      · rename_i hk
        simp only [Bool.and_eq_true] at hk
        obtain ⟨h1, h2⟩ := isK_lt hk.1
        exact ⟨by dsimp only; omega, by dsimp only; omega, fun e => by rw [e] at h2; cases h2⟩
      · exact ⟨Nat.le_refl _, h, fun e => rfl⟩
    · rename_i ho
      obtain ⟨h1, h2⟩ := oneL_lt ho
      exact ⟨by dsimp only; omega, by dsimp only; omega, fun e => by rw [e] at h2; cases h2⟩
/-- how many steps are enough -/
def rk : Mode → Nat
  | .expr l => 17 - 2 * l
  | _ => 1
def Fits (m : Mode) : Prop := match m with | .expr l => 1 ≤ l ∧ l ≤ 7 | .loop l _ => 1 ≤ l ∧ l ≤ 6 | _ => True
def mu (L : List V) (m : Mode) (i : Nat) : Nat := 16 * (L.length - i) + rk m
theorem mu_next {L : List V} {i : Nat} (h : i < L.length) (m m' : Mode) (hm : Fits m) (h1 : 1 ≤ rk m') : mu L m (i + 1) < mu L m' i := by
  unfold mu
  have : rk m ≤ 15 := by
    cases m with
    | expr l => simp only [rk, Fits] at *; omega
    | loop l a => simp [rk]
    | test a => simp [rk]
    | sign => simp [rk]
  omega
theorem opsL_fits {l : Nat} {L : List V} {i : Nat} {b : Bool} (h : oneL L i b (opsL l) ≠ []) : 1 ≤ l ∧ l ≤ 6 := by
  unfold opsL at h
  repeat' split at h
  all_goals first | omega | exact absurd rfl h
/-- more steps than enough change nothing -/
theorem P_steps (L : List V) : ∀ (f g : Nat) (m : Mode) (i : Nat) (b : Bool), i ≤ L.length → Fits m → mu L m i < f → mu L m i < g → P L f m i b = P L g m i b
  | 0, _, m, i, b, _, _, h, _ => absurd h (Nat.not_lt_zero _)
  | _, 0, m, i, b, _, _, _, h => absurd h (Nat.not_lt_zero _)
  | f + 1, g + 1, .expr l, i, b, hi, hm, hf, hg => by
    have hl : 1 ≤ l ∧ l ≤ 7 := hm
    have hmu : mu L (.expr l) i = 16 * (L.length - i) + (17 - 2 * l) := rfl
    rw [P, P]
    by_cases h7 : l = 7
    · rw [if_pos h7, if_pos h7]
      have e : mu L .sign i = 16 * (L.length - i) + 1 := rfl
      exact P_steps L f g .sign i b hi trivial (by omega) (by omega)
    rw [if_neg h7, if_neg h7]
    by_cases h3 : l = 3
    · rw [if_pos h3, if_pos h3]
      by_cases hs : isW L i b sNot = true
      · have e := mu_next (isW_lt hs) (.expr 3) (.expr l) ⟨by omega, by omega⟩ (by show 1 ≤ 17 - 2 * l; omega)
        rw [if_pos hs, if_pos hs, P_steps L f g (.expr 3) (i + 1) b (isW_lt hs) ⟨by omega, by omega⟩ (by omega) (by omega)]
      · have e : mu L (.expr 4) i = 16 * (L.length - i) + 9 := rfl
        rw [if_neg hs, if_neg hs]
        exact P_steps L f g (.expr 4) i b hi ⟨by omega, by omega⟩ (by omega) (by omega)
    rw [if_neg h3, if_neg h3]
    by_cases h4 : l = 4
    · have e : mu L (.expr 5) i = 16 * (L.length - i) + 7 := rfl
      rw [if_pos h4, if_pos h4, P_steps L f g (.expr 5) i b hi ⟨by omega, by omega⟩ (by omega) (by omega)]
      have ih := P_ends L g (.expr 5) i b hi
      have e2 : mu L (.test (P L g (.expr 5) i b).1) (P L g (.expr 5) i b).2.1 = 16 * (L.length - (P L g (.expr 5) i b).2.1) + 1 := rfl
      exact P_steps L f g _ _ _ ih.2.1 trivial (by omega) (by omega)
    · have e : mu L (.expr (l + 1)) i = 16 * (L.length - i) + (17 - 2 * (l + 1)) := rfl
      rw [if_neg h4, if_neg h4, P_steps L f g (.expr (l + 1)) i b hi ⟨by omega, by omega⟩ (by omega) (by omega)]
      have ih := P_ends L g (.expr (l + 1)) i b hi
      have e2 : mu L (.loop l (P L g (.expr (l + 1)) i b).1) (P L g (.expr (l + 1)) i b).2.1 = 16 * (L.length - (P L g (.expr (l + 1)) i b).2.1) + 1 := rfl
      exact P_steps L f g _ _ _ ih.2.1 ⟨by omega, by omega⟩ (by omega) (by omega)
  | f + 1, g + 1, .loop l a, i, b, hi, hm, hf, hg => by
    have hl : 1 ≤ l ∧ l ≤ 6 := hm
    rw [P, P]
    by_cases ho : oneL L i b (opsL l) = []
    · rw [if_pos ho, if_pos ho]
    · obtain ⟨h1, h2⟩ := oneL_lt ho
      have e := mu_next h1 (.expr (l + 1)) (.loop l a) ⟨by omega, by omega⟩ (Nat.le_refl 1)
      rw [if_neg ho, if_neg ho, P_steps L f g (.expr (l + 1)) (i + 1) b h1 ⟨by omega, by omega⟩ (by omega) (by omega)]
      have ih := P_ends L g (.expr (l + 1)) (i + 1) b h1
      have e3 : mu L (.loop l a) i = 16 * (L.length - i) + 1 := rfl
      refine P_steps L f g _ _ _ ih.2.1 ⟨by omega, by omega⟩ ?_ ?_
      · show 16 * (L.length - (P L g (.expr (l + 1)) (i + 1) b).2.1) + 1 < f; omega
      · show 16 * (L.length - (P L g (.expr (l + 1)) (i + 1) b).2.1) + 1 < g; omega
  | f + 1, g + 1, .test a, i, b, hi, hm, hf, hg => by
    rw [P, P]
    by_cases ho : oneL L i b (opsL 4) = []
    · rw [if_pos ho, if_pos ho]
    · obtain ⟨h1, h2⟩ := oneL_lt ho
      have e := mu_next h1 (.expr 5) (.test a) ⟨by omega, by omega⟩ (Nat.le_refl 1)
      rw [if_neg ho, if_neg ho, P_steps L f g (.expr 5) (i + 1) b h1 ⟨by omega, by omega⟩ (by omega) (by omega)]
  | f + 1, g + 1, .sign, i, b, hi, hm, hf, hg => by
    rw [P, P]
    by_cases hs : isW L i b [45] = true
    · have e := mu_next (isW_lt hs) .sign .sign trivial (Nat.le_refl 1)
      rw [if_pos hs, if_pos hs, P_steps L f g .sign (i + 1) b (isW_lt hs) trivial (by omega) (by omega)]
    rw [if_neg hs, if_neg hs]
    by_cases hp : isW L i b [40] = true
    · have e := mu_next (isW_lt hp) (.expr 1) .sign ⟨by omega, by omega⟩ (Nat.le_refl 1)
      rw [if_pos hp, if_pos hp, P_steps L f g (.expr 1) (i + 1) b (isW_lt hp) ⟨by omega, by omega⟩ (by omega) (by omega)]
    rw [if_neg hp, if_neg hp]
/-- words ahead -/
theorem get_shift (A L : List V) (i : Nat) : (A ++ L)[A.length + i]? = L[i]? := by
  rw [List.getElem?_append_right (by omega), show A.length + i - A.length = i by omega]
theorem isW_shift (A L : List V) (i : Nat) (b : Bool) (s : List UInt8) : isW (A ++ L) (A.length + i) b s = isW L i b s := by
  unfold isW
  rw [get_shift]
theorem isK_shift (A L : List V) (i : Nat) (b : Bool) (k : Int) : isK (A ++ L) (A.length + i) b k = isK L i b k := by
  unfold isK
  rw [get_shift]
theorem txt_shift (A L : List V) (i : Nat) : txt (A ++ L) (A.length + i) = txt L i := by
  unfold txt
  rw [get_shift]
theorem oneL_shift (A L : List V) (i : Nat) (b : Bool) : ∀ l, oneL (A ++ L) (A.length + i) b l = oneL L i b l
  | [] => rfl
  | s :: l => by rw [oneL, oneL, isW_shift, oneL_shift A L i b l]
theorem P_shift (A L : List V) : ∀ (f : Nat) (m : Mode) (i : Nat) (b : Bool), P (A ++ L) f m (A.length + i) b = ((P L f m i b).1, A.length + (P L f m i b).2.1, (P L f m i b).2.2)
  | 0, m, i, b => by cases m <;> rfl
  | f + 1, .expr l, i, b => by
    rw [P, P]
    by_cases h7 : l = 7
    · rw [if_pos h7, if_pos h7]
      exact P_shift A L f .sign i b
    rw [if_neg h7, if_neg h7]
    by_cases h3 : l = 3
    · rw [if_pos h3, if_pos h3, isW_shift]
      by_cases hs : isW L i b sNot = true
      · rw [if_pos hs, if_pos hs, Nat.add_assoc, P_shift A L f (.expr 3) (i + 1) b]
      · rw [if_neg hs, if_neg hs]
        exact P_shift A L f (.expr 4) i b
    rw [if_neg h3, if_neg h3]
    by_cases h4 : l = 4
    · rw [if_pos h4, if_pos h4, P_shift A L f (.expr 5) i b]
      exact P_shift A L f _ _ _
    · rw [if_neg h4, if_neg h4, P_shift A L f (.expr (l + 1)) i b]
      exact P_shift A L f _ _ _
  | f + 1, .loop l a, i, b => by
    rw [P, P, oneL_shift]
    by_cases ho : oneL L i b (opsL l) = []
    · rw [if_pos ho, if_pos ho]
    · rw [if_neg ho, if_neg ho, Nat.add_assoc, P_shift A L f (.expr (l + 1)) (i + 1) b]
      exact P_shift A L f _ _ _
  | f + 1, .test a, i, b => by
    rw [P, P, oneL_shift, isW_shift, Nat.add_assoc, isW_shift]
    by_cases ho : oneL L i b (opsL 4) = []
    · rw [if_pos ho, if_pos ho]
      split
      · split <;> rfl
      · rfl
    · rw [if_neg ho, if_neg ho, P_shift A L f (.expr 5) (i + 1) b]
  | f + 1, .sign, i, b => by
    rw [P, P, isW_shift, isW_shift, oneL_shift, isK_shift, isK_shift, isK_shift, txt_shift, Nat.add_assoc]
    by_cases hs : isW L i b [45] = true
    · rw [if_pos hs, if_pos hs, P_shift A L f .sign (i + 1) b]
    rw [if_neg hs, if_neg hs]
    by_cases hp : isW L i b [40] = true
    · rw [if_pos hp, if_pos hp, P_shift A L f (.expr 1) (i + 1) b]
      dsimp only
      rw [isW_shift]
      split <;> rfl
    rw [if_neg hp, if_neg hp]
    by_cases ho : oneL L i b [sTrue, sFalse, sNull] = []
    · rw [if_pos ho, if_pos ho]
      split
      · split <;> rfl
      split
      · rfl
      split <;> rfl
    · rw [if_neg ho, if_neg ho]
/-- a bracket behind -/
def Shut (R : List V) : Prop := ∃ r, R = (3, [41]) :: r
theorem isW_more {L R : List V} (hR : Shut R) {i : Nat} (hi : i ≤ L.length) (b : Bool) {s : List UInt8} (hs : s ≠ [41]) : isW (L ++ R) i b s = isW L i b s := by
  unfold isW
  by_cases h : i < L.length
  · rw [List.getElem?_append_left h]
  · obtain rfl : i = L.length := by omega
    obtain ⟨r, rfl⟩ := hR
    rw [List.getElem?_append_right (Nat.le_refl _), Nat.sub_self, List.getElem?_cons_zero, List.getElem?_eq_none (Nat.le_refl _)]
    simp
    exact fun _ e => hs e.symm
theorem isW_yes {L R : List V} {i : Nat} {b : Bool} {s : List UInt8} (h : isW L i b s = true) : isW (L ++ R) i b s = true := by
  have hi := isW_lt h
  unfold isW at *
  rw [List.getElem?_append_left hi]
  exact h
theorem oneL_more {L R : List V} (hR : Shut R) {i : Nat} (hi : i ≤ L.length) (b : Bool) : ∀ {l : List (List UInt8)}, [41] ∉ l → oneL (L ++ R) i b l = oneL L i b l
  | [], _ => rfl
  | s :: l, h => by
    rw [oneL, oneL, isW_more hR hi b (fun e => h (by rw [e]; simp)), oneL_more hR hi b (fun e => h (List.mem_cons_of_mem _ e))]
theorem ops_shut (l : Nat) : [41] ∉ opsL l := by
  unfold opsL
  repeat' split
  all_goals decide
theorem isK_more {L R : List V} (hR : Shut R) {i : Nat} (hi : i ≤ L.length) (b : Bool) {k : Int} (hk : k ≠ 3) : isK (L ++ R) i b k = isK L i b k := by
  unfold isK
  by_cases h : i < L.length
  · rw [List.getElem?_append_left h]
  · obtain rfl : i = L.length := by omega
    obtain ⟨r, rfl⟩ := hR
    rw [List.getElem?_append_right (Nat.le_refl _), Nat.sub_self, List.getElem?_cons_zero, List.getElem?_eq_none (Nat.le_refl _)]
    simp
    exact fun _ e => hk e.symm
theorem txt_more {L R : List V} {i : Nat} (hi : i < L.length) : txt (L ++ R) i = txt L i := by
  unfold txt
  rw [List.getElem?_append_left hi]
/-- what is right ends the same way ahead of a bracket -/
theorem P_more {L R : List V} (hR : Shut R) : ∀ (f : Nat) (m : Mode) (i : Nat) (b : Bool), i ≤ L.length → (P L f m i b).2.2 = false → P (L ++ R) f m i b = P L f m i b
  | 0, m, i, b, _, _ => by cases m <;> rfl
  | f + 1, .expr l, i, b, hi, hg => by
    rw [P] at hg ⊢
    rw [P]
    by_cases h7 : l = 7
    · rw [if_pos h7] at hg ⊢
      rw [if_pos h7]
      exact P_more hR f .sign i b hi hg
    rw [if_neg h7] at hg ⊢
    rw [if_neg h7]
    by_cases h3 : l = 3
    · rw [if_pos h3] at hg ⊢
      rw [if_pos h3, isW_more hR hi b (by decide)]
      by_cases hs : isW L i b sNot = true
      · rw [if_pos hs] at hg ⊢
        rw [if_pos hs, P_more hR f (.expr 3) (i + 1) b (isW_lt hs) hg]
      · rw [if_neg hs] at hg ⊢
        rw [if_neg hs]
        exact P_more hR f (.expr 4) i b hi hg
    rw [if_neg h3] at hg ⊢
    rw [if_neg h3]
    by_cases h4 : l = 4
    · rw [if_pos h4] at hg ⊢
      have ih := P_ends L f (.expr 5) i b hi
      have hq : (P L f (.expr 5) i b).2.2 = false := by
        cases hb : (P L f (.expr 5) i b).2.2
        · rfl
        · have := (P_ends L f (.test (P L f (.expr 5) i b).1) (P L f (.expr 5) i b).2.1 (P L f (.expr 5) i b).2.2 ih.2.1).2.2 hb
          rw [this] at hg
          cases hg
      rw [if_pos h4, P_more hR f (.expr 5) i b hi hq]
      exact P_more hR f _ _ _ ih.2.1 hg
    · rw [if_neg h4] at hg ⊢
      have ih := P_ends L f (.expr (l + 1)) i b hi
      have hq : (P L f (.expr (l + 1)) i b).2.2 = false := by
        cases hb : (P L f (.expr (l + 1)) i b).2.2
        · rfl
        · have := (P_ends L f (.loop l (P L f (.expr (l + 1)) i b).1) (P L f (.expr (l + 1)) i b).2.1 (P L f (.expr (l + 1)) i b).2.2 ih.2.1).2.2 hb
          rw [this] at hg
          cases hg
      rw [if_neg h4, P_more hR f (.expr (l + 1)) i b hi hq]
      exact P_more hR f _ _ _ ih.2.1 hg
  | f + 1, .loop l a, i, b, hi, hg => by
    rw [P] at hg ⊢
    rw [P, oneL_more hR hi b (ops_shut l)]
    by_cases ho : oneL L i b (opsL l) = []
    · rw [if_pos ho, if_pos ho]
    · rw [if_neg ho] at hg ⊢
      obtain ⟨h1, h2⟩ := oneL_lt ho
      have ih := P_ends L f (.expr (l + 1)) (i + 1) b h1
      have hq : (P L f (.expr (l + 1)) (i + 1) b).2.2 = false := by
        cases hb : (P L f (.expr (l + 1)) (i + 1) b).2.2
        · rfl
        · have := (P_ends L f (.loop l (.two (oneL L i b (opsL l)) a (P L f (.expr (l + 1)) (i + 1) b).1)) (P L f (.expr (l + 1)) (i + 1) b).2.1 (P L f (.expr (l + 1)) (i + 1) b).2.2 ih.2.1).2.2 hb
          rw [this] at hg
          cases hg
      rw [if_neg ho, P_more hR f (.expr (l + 1)) (i + 1) b h1 hq]
      exact P_more hR f _ _ _ ih.2.1 hg
  | f + 1, .test a, i, b, hi, hg => by
    rw [P] at hg ⊢
    rw [P, oneL_more hR hi b (ops_shut 4), isW_more hR hi b (by decide)]
    by_cases ho : oneL L i b (opsL 4) = []
    · rw [if_pos ho] at hg ⊢
      rw [if_pos ho]
      by_cases hs : isW L i b sIs = true
      · rw [if_pos hs] at hg ⊢
        rw [if_pos hs]
        by_cases hn : isW L (i + 1) b sNull = true
        · rw [if_pos hn, isW_yes hn, if_pos rfl]
        · rw [if_neg hn] at hg
          cases hg
      · rw [if_neg hs, if_neg hs]
    · rw [if_neg ho] at hg ⊢
      obtain ⟨h1, h2⟩ := oneL_lt ho
      rw [if_neg ho, P_more hR f (.expr 5) (i + 1) b h1 hg]
  | f + 1, .sign, i, b, hi, hg => by
    rw [P] at hg ⊢
    rw [P, isW_more hR hi b (by decide), isW_more hR hi b (by decide), oneL_more hR hi b (by decide), isK_more hR hi b (by decide), isK_more hR hi b (by decide), isK_more hR hi b (by decide)]
    by_cases hs : isW L i b [45] = true
    · rw [if_pos hs] at hg ⊢
      rw [if_pos hs, P_more hR f .sign (i + 1) b (isW_lt hs) hg]
    rw [if_neg hs] at hg ⊢
    rw [if_neg hs]
    by_cases hp : isW L i b [40] = true
    · rw [if_pos hp] at hg ⊢
      rw [if_pos hp]
      by_cases hc : isW L (P L f (.expr 1) (i + 1) b).2.1 (P L f (.expr 1) (i + 1) b).2.2 [41] = true
      · rw [if_pos hc] at hg
        rw [P_more hR f (.expr 1) (i + 1) b (isW_lt hp) hg, if_pos hc, isW_yes hc, if_pos rfl]
      · rw [if_neg hc] at hg
        cases hg
    rw [if_neg hp] at hg ⊢
    rw [if_neg hp]
    by_cases ho : oneL L i b [sTrue, sFalse, sNull] = []
    · rw [if_pos ho] at hg ⊢
      rw [if_pos ho]
      by_cases k1 : isK L i b 1 = true
      · rw [if_pos k1, if_pos k1, txt_more (isK_lt k1).1]
      rw [if_neg k1] at hg ⊢
      rw [if_neg k1]
      by_cases k2 : isK L i b 2 = true
      · rw [if_pos k2, if_pos k2, txt_more (isK_lt k2).1]
      rw [if_neg k2] at hg ⊢
      rw [if_neg k2]
      by_cases k0 : isK L i b 0 = true
      · rw [txt_more (isK_lt k0).1]
      · rw [if_neg (by simp [k0])] at hg
        cases hg
    · rw [if_neg ho, if_neg ho]
end Go.Proofs.Ytkibacolnagkcaa.Code
