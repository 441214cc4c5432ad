/-
  Queries of words: words ahead, and words behind, do not matter. No program is named here.
-/
import Derived.Test.YtjbpkpfmgbhlpaaGreatDoorMw3
import Derived.Test.YtjbpkpfmgbhlpaaGreatDoorMw1
namespace Go.Proofs.YtjbpkpfmgbhlpaaGreatDoor.Code
open Val
set_option linter.unusedVariables false
section
variable (A L : List V) (i : Nat) (b : Bool)
def on {α : Type} (k : Nat) (r : α × Nat × Bool) : α × Nat × Bool := (r.1, k + r.2.1, r.2.2)
theorem nm_shift : nmQ (A ++ L) (A.length + i) b = on A.length (nmQ L i b) := by
 unfold nmQ on
 rw [isK_shift, txt_shift]
 split <;> rfl
theorem must_shift (s : List UInt8) : mustQ (A ++ L) (A.length + i) b s = (A.length + (mustQ L i b s).1, (mustQ L i b s).2) := by
 unfold mustQ
 rw [isW_shift]
 split <;> rfl
theorem word_shift (s m : List UInt8) : wordQ (A ++ L) (A.length + i) b s m = wordQ L i b s m := by
 unfold wordQ
 rw [isK_shift, txt_shift, Nat.add_assoc, get_shift]
theorem op_shift : ∀ l, opQ (A ++ L) (A.length + i) b l = opQ L i b l
 | [] => rfl
 | s :: l => by rw [opQ, opQ, word_shift, op_shift l]
theorem more_shift (first : Bool) : moreQ (A ++ L) (A.length + i) b first = ((moreQ L i b first).1, A.length + (moreQ L i b first).2.1, (moreQ L i b first).2.2) := by
 unfold moreQ
 rw [must_shift, isW_shift]
 split
 ·rfl
 split
 ·rfl
 split <;> rfl
theorem expr_shift (h : i ≤ L.length) : exprQ (A ++ L) (A.length + i) b = on A.length (exprQ L i b) := by
 unfold exprQ on
 rw [P_shift]
 have e : P L (stepsN (A ++ L)) (.expr 1) i b = P L (stepsN L) (.expr 1) i b := P_steps L _ _ (.expr 1) i b h (by show 1 ≤ 1 ∧ 1 ≤ 7; omega)
  (by show 16 * (L.length - i) + 15 < 16 * (A ++ L).length + 16; rw [List.length_append]; omega) (by show 16 * (L.length - i) + 15 < 16 * L.length + 16; omega)
 rw [e]
theorem item_shift (h : i ≤ L.length) : itemQ (A ++ L) (A.length + i) b = on A.length (itemQ L i b) := by
 have h1 := nm_ends (b := b) h
 have h2 := must_ends (b := (nmQ L i b).2.2) (s := [61]) h1.2.1
 unfold itemQ
 rw [nm_shift]
 simp only [on]
 rw [must_shift]
 dsimp only
 rw [expr_shift A L _ _ h2.2.1]
 rfl
theorem pair_shift : pairQ (A ++ L) (A.length + i) b = on A.length (pairQ L i b) := by
 unfold pairQ
 rw [nm_shift]
 simp only [on]
 rw [must_shift]
 dsimp only
 rw [nm_shift]
 rfl
theorem arg_shift (o : List UInt8) : argQ (A ++ L) o (A.length + i) b = on A.length (argQ L o i b) := by
 unfold argQ
 split
 ·rfl
 ·exact nm_shift A L i b
theorem call_shift (o : List UInt8) : callQ (A ++ L) o (A.length + i) b = on A.length (callQ L o i b) := by
 unfold callQ
 rw [must_shift]
 dsimp only
 rw [arg_shift]
 simp only [on]
 rw [must_shift]
theorem kind_shift : ∀ l, kindQ (A ++ L) (A.length + i) b l = kindQ L i b l
 | [] => rfl
 | s :: l => by rw [kindQ, kindQ, isK_shift, txt_shift, kind_shift l]
theorem agg2_shift (s : List UInt8) : agg2Q (A ++ L) s (A.length + i) b = on A.length (agg2Q L s i b) := by
 unfold agg2Q
 rw [kind_shift, Nat.add_assoc, call_shift]
 split <;> rfl
theorem agg_shift : aggQ (A ++ L) (A.length + i) b = on A.length (aggQ L i b) := by
 unfold aggQ
 rw [nm_shift]
 simp only [on]
 rw [must_shift]
 dsimp only
 exact agg2_shift A L _ _ _
end
theorem loop_shift (A L : List V) {el el' : Nat → Bool → Res} (he : ∀ j c, j ≤ L.length → Ends L.length j c (el j c).2) (hel : ∀ j c, j ≤ L.length → el' (A.length + j) c = on A.length (el j c)) : ∀ (f : Nat) (first : Bool) (i : Nat) (b : Bool), i ≤ L.length → loopQ (A ++ L) el' f first (A.length + i) b = on A.length (loopQ L el f first i b)
 | 0, _, i, b, _ => rfl
 | f + 1, first, i, b, h => by
  have h1 := more_ends (L := L) (b := b) (first := first) h
  rw [loopQ, loopQ, more_shift]
  dsimp only
  split
  ·rfl
  ·rw [hel _ _ h1.2.1]
   have h2 := he _ (moreQ L i b first).2.2 h1.2.1
   simp only [on]
   rw [loop_shift A L he hel f false _ _ h2.2.1]
   rfl
theorem names_shift (A L : List V) : ∀ (f i : Nat) (b : Bool), namesQ (A ++ L) f (A.length + i) b = on A.length (namesQ L f i b)
 | 0, i, b => rfl
 | f + 1, i, b => by
  have hk : isK (A ++ L) (on A.length (nmQ L i b)).2.1 (on A.length (nmQ L i b)).2.2 0 = isK L (nmQ L i b).2.1 (nmQ L i b).2.2 0 := isK_shift _ _ _ _ _
  have hn : namesQ (A ++ L) f (on A.length (nmQ L i b)).2.1 (on A.length (nmQ L i b)).2.2 = on A.length (namesQ L f (nmQ L i b).2.1 (nmQ L i b).2.2) := names_shift A L f _ _
  rw [namesQ, namesQ, nm_shift, hk, hn]
  split <;> rfl
theorem has_shift (A L : List V) (i : Nat) (b : Bool) : hasQ (A ++ L) (A.length + i) b = hasQ L i b := by
 unfold hasQ
 rw [isK_shift, txt_shift, word_shift]
theorem by_shift (A L : List V) (i : Nat) (b : Bool) : byQ (A ++ L) (A.length + i) b = on A.length (byQ L i b) := by
 unfold byQ
 rw [has_shift]
 split
 ·rename_i hs
  unfold hasQ at hs
  have hs := isK_lt (Bool.and_eq_true _ _ ▸ hs).1
  rw [Nat.add_assoc, names_shift, names_steps ((A ++ L).length + 1) (L.length + 1) (i + 1) b (by omega) (by rw [List.length_append]; omega) (by omega)]
  simp only [on]
  rw [must_shift]
 ·rfl
theorem group_shift (A L : List V) (i : Nat) (b : Bool) (h : i ≤ L.length) : groupQ (A ++ L) (A.length + i) b = on A.length (groupQ L i b) := by
 have h1 := by_ends (b := b) h
 have h2 := agg_ends (b := (byQ L i b).2.2) h1.2.1
 unfold groupQ
 rw [by_shift]
 simp only [on]
 rw [agg_shift]
 simp only [on]
 rw [loop_shift A L (el := aggQ L) (fun j c hj => agg_ends hj) (fun j c _ => agg_shift A L j c) _ _ _ _ h2.2.1, loop_steps (el := aggQ L) (el' := aggQ L) (fun j c hj => agg_ends hj) 0 (fun _ _ _ _ => rfl) ((A ++ L).length + 1) (L.length + 1) false _ _ (Nat.zero_le _) h2.2.1 (by rw [List.length_append]; omega) (by omega)]
 rfl
theorem tail_shift (A L : List V) {q q' : Nat → Bool → Res} (hq : ∀ j c, j ≤ L.length → Ends L.length j c (q j c).2) (hqq : ∀ j c, j ≤ L.length → q' (A.length + j) c = on A.length (q j c)) (o : List UInt8) (i : Nat) (b : Bool) (h : i ≤ L.length) : tailQ (A ++ L) q' o (A.length + i) b = on A.length (tailQ L q o i b) := by
 have h1 := must_ends (L := L) (b := b) (s := [44]) h
 unfold tailQ
 rw [must_shift]
 dsimp only
 split
 ·rw [expr_shift A L _ _ h1.2.1]
  simp only [on]
  rw [must_shift]
 split
 ·rw [must_shift]
  rfl
 split
 ·rw [loop_shift A L (el := itemQ L) (fun j c hj => item_ends hj) (fun j c hj => item_shift A L j c hj) _ _ _ _ h, loop_steps (el := itemQ L) (el' := itemQ L) (fun j c hj => item_ends hj) 0 (fun _ _ _ _ => rfl) ((A ++ L).length + 1) (L.length + 1) _ _ _ (Nat.zero_le _) h (by rw [List.length_append]; omega) (by omega)]
 split
 ·rw [loop_shift A L hq hqq _ _ _ _ h, loop_steps (el := q) (el' := q) hq 0 (fun _ _ _ _ => rfl) ((A ++ L).length + 1) (L.length + 1) _ _ _ (Nat.zero_le _) h (by rw [List.length_append]; omega) (by omega)]
 split
 ·rw [hqq _ _ h1.2.1]
  have h2 := hq _ (mustQ L i b [44]).2 h1.2.1
  simp only [on]
  rw [loop_shift A L (el := pairQ L) (fun j c hj => pair_ends hj) (fun j c _ => pair_shift A L j c) _ _ _ _ h2.2.1, loop_steps (el := pairQ L) (el' := pairQ L) (fun j c hj => pair_ends hj) 0 (fun _ _ _ _ => rfl) ((A ++ L).length + 1) (L.length + 1) _ _ _ (Nat.zero_le _) h2.2.1 (by rw [List.length_append]; omega) (by omega)]
  rfl
 ·exact group_shift A L _ _ h1.2.1
theorem qq_shift (A L : List V) : ∀ (f i : Nat) (b : Bool), i ≤ L.length → qq (A ++ L) f (A.length + i) b = on A.length (qq L f i b)
 | 0, i, b, _ => rfl
 | f + 1, i, b, h => by
  rw [qq, qq, op_shift, nm_shift]
  split
  ·rfl
  ·rename_i ho
   have hs := op_lt ho
   have h1 := qq_ends L f (i + 2) b hs.1
   rw [Nat.add_assoc, qq_shift A L f (i + 2) b hs.1]
   simp only [on]
   rw [tail_shift A L (q := qq L f) (fun j c hj => qq_ends L f j c hj) (fun j c hj => qq_shift A L f j c hj) _ _ _ h1.2.1]
   rfl
section
variable {L L' : List V}
def Agree (L L' : List V) (n : Nat) : Prop := ∀ k, k < n → L'[k]? = L[k]?
theorem isW_agree {n : Nat} (h : Agree L L' n) {k : Nat} (hk : k < n) (b : Bool) (s : List UInt8) : isW L' k b s = isW L k b s := by
 unfold isW
 rw [h k hk]
theorem isK_agree {n : Nat} (h : Agree L L' n) {k : Nat} (hk : k < n) (b : Bool) (s : Int) : isK L' k b s = isK L k b s := by
 unfold isK
 rw [h k hk]
theorem txt_agree {n : Nat} (h : Agree L L' n) {k : Nat} (hk : k < n) : txt L' k = txt L k := by
 unfold txt
 rw [h k hk]
theorem oneL_agree {n : Nat} (h : Agree L L' n) {k : Nat} (hk : k < n) (b : Bool) : ∀ l, oneL L' k b l = oneL L k b l
 | [] => rfl
 | s :: l => by rw [oneL, oneL, isW_agree h hk, oneL_agree h hk b l]
theorem P_far {n : Nat} (hA : Agree L L' n) : ∀ (f : Nat) (m : Mode) (i : Nat) (b : Bool), i ≤ L.length → (P L f m i b).2.1 < n → P L' f m i b = P L f m i b
 | 0, m, i, b, _, _ => by cases m <;> rfl
 | f + 1, .expr l, i, b, hi, hn => by
  have hin : i < n := by
   have := (P_ends L (f + 1) (.expr l) i b hi).1
   omega
  rw [P] at hn ⊢
  rw [P]
  by_cases h7 : l = 7
  ·rw [if_pos h7] at hn ⊢
   rw [if_pos h7]
   exact P_far hA f .sign i b hi hn
  rw [if_neg h7] at hn ⊢
  rw [if_neg h7]
  by_cases h3 : l = 3
  ·rw [if_pos h3] at hn ⊢
   rw [if_pos h3, isW_agree hA hin]
   by_cases hs : isW L i b sNot = true
   ·rw [if_pos hs] at hn ⊢
    rw [if_pos hs, P_far hA f (.expr 3) (i + 1) b (isW_lt hs) hn]
   ·rw [if_neg hs] at hn ⊢
    rw [if_neg hs]
    exact P_far hA f (.expr 4) i b hi hn
  rw [if_neg h3] at hn ⊢
  rw [if_neg h3]
  by_cases h4 : l = 4
  ·rw [if_pos h4] at hn ⊢
   have ih := P_ends L f (.expr 5) i b hi
   have hq := (P_ends L f (.test (P L f (.expr 5) i b).1) (P L f (.expr 5) i b).2.1 (P L f (.expr 5) i b).2.2 ih.2.1).1
   rw [if_pos h4, P_far hA f (.expr 5) i b hi (by omega)]
   exact P_far hA f _ _ _ ih.2.1 hn
  ·rw [if_neg h4] at hn ⊢
   have ih := P_ends L f (.expr (l + 1)) i b hi
   have hq := (P_ends L f (.loop l (P L f (.expr (l + 1)) i b).1) (P L f (.expr (l + 1)) i b).2.1 (P L f (.expr (l + 1)) i b).2.2 ih.2.1).1
   rw [if_neg h4, P_far hA f (.expr (l + 1)) i b hi (by omega)]
   exact P_far hA f _ _ _ ih.2.1 hn
 | f + 1, .loop l a, i, b, hi, hn => by
  have hin : i < n := by
   have := (P_ends L (f + 1) (.loop l a) i b hi).1
   omega
  rw [P] at hn ⊢
  rw [P, oneL_agree hA hin]
  by_cases ho : oneL L i b (opsL l) = []
  ·rw [if_pos ho, if_pos ho]
  ·rw [if_neg ho] at hn ⊢
   obtain ⟨h1, h2⟩ := oneL_lt ho
   have ih := P_ends L f (.expr (l + 1)) (i + 1) b h1
   have hq := (P_ends L f (.loop l (.two (oneL L i b (opsL l)) a (P L f (.expr (l + 1)) (i + 1) b).1)) (P L f (.expr (l + 1)) (i + 1) b).2.1 (P L f (.expr (l + 1)) (i + 1) b).2.2 ih.2.1).1
   rw [if_neg ho, P_far hA f (.expr (l + 1)) (i + 1) b h1 (by omega)]
   exact P_far hA f _ _ _ ih.2.1 hn
 | f + 1, .test a, i, b, hi, hn => by
  have hin : i < n := by
   have := (P_ends L (f + 1) (.test a) i b hi).1
   omega
  rw [P] at hn ⊢
  rw [P, oneL_agree hA hin, isW_agree hA hin]
  by_cases ho : oneL L i b (opsL 4) = []
  ·rw [if_pos ho] at hn ⊢
   rw [if_pos ho]
   by_cases hs : isW L i b sIs = true
   ·rw [if_pos hs] at hn ⊢
    rw [if_pos hs]
    have h1 : i + 1 < n := by
     dsimp only at hn
     split at hn <;> dsimp only at hn <;> omega
    rw [isW_agree hA h1]
   ·rw [if_neg hs, if_neg hs]
  ·rw [if_neg ho] at hn ⊢
   obtain ⟨h1, h2⟩ := oneL_lt ho
   rw [if_neg ho, P_far hA f (.expr 5) (i + 1) b h1 hn]
 | f + 1, .sign, i, b, hi, hn => by
  have hin : i < n := by
   have := (P_ends L (f + 1) .sign i b hi).1
   omega
  rw [P] at hn ⊢
  rw [P, isW_agree hA hin, isW_agree hA hin, oneL_agree hA hin, isK_agree hA hin, isK_agree hA hin, isK_agree hA hin, txt_agree hA hin]
  by_cases hs : isW L i b [45] = true
  ·rw [if_pos hs] at hn ⊢
   rw [if_pos hs, P_far hA f .sign (i + 1) b (isW_lt hs) hn]
  rw [if_neg hs] at hn ⊢
  rw [if_neg hs]
  by_cases hp : isW L i b [40] = true
  ·rw [if_pos hp] at hn ⊢
   have hq : (P L f (.expr 1) (i + 1) b).2.1 < n := by
    dsimp only at hn
    split at hn <;> dsimp only at hn <;> omega
   rw [if_pos hp, P_far hA f (.expr 1) (i + 1) b (isW_lt hp) hq, isW_agree hA hq]
  rw [if_neg hp, if_neg hp]
def Good2 (n : Nat) (r : Nat × Bool) : Prop := r.2 = false ∧ r.1 < n
theorem nm_lt {i : Nat} {b : Bool} (h : (nmQ L i b).2.2 = false) : i < L.length ∧ b = false ∧ (nmQ L i b).2.1 = i + 1 := by
 unfold nmQ at h ⊢
 split at h
 ·rename_i hs
  have h1 := isK_lt (Bool.and_eq_true _ _ ▸ hs).1
  rw [if_pos hs]
  exact ⟨h1.1, h1.2, rfl⟩
 ·cases h
theorem must_lt {i : Nat} {b : Bool} {s : List UInt8} (h : (mustQ L i b s).2 = false) : i < L.length ∧ b = false := by
 unfold mustQ at h
 split at h
 ·rename_i hs
  exact ⟨isW_lt hs, isW_good hs⟩
 ·cases h
theorem nm_more (hA : Agree L L' L.length) {i : Nat} {b : Bool} (h : (nmQ L i b).2.2 = false) : nmQ L' i b = nmQ L i b := by
 have hi := (nm_lt h).1
 unfold nmQ
 rw [isK_agree hA hi, txt_agree hA hi]
theorem must_more (hA : Agree L L' L.length) {i : Nat} {b : Bool} {s : List UInt8} (h : (mustQ L i b s).2 = false) : mustQ L' i b s = mustQ L i b s := by
 have hi := (must_lt h).1
 unfold mustQ
 rw [isW_agree hA hi]
theorem expr_far (hA : Agree L L' L.length) (hl : L.length ≤ L'.length) {i : Nat} {b : Bool} (hi : i ≤ L.length) (h : (exprQ L i b).2.1 < L.length) : exprQ L' i b = exprQ L i b := by
 unfold exprQ at h ⊢
 have e : P L (stepsN L') (.expr 1) i b = P L (stepsN L) (.expr 1) i b := P_steps L _ _ (.expr 1) i b hi (by show 1 ≤ 1 ∧ 1 ≤ 7; omega)
  (by show 16 * (L.length - i) + 15 < 16 * L'.length + 16; omega) (by show 16 * (L.length - i) + 15 < 16 * L.length + 16; omega)
 rw [← e] at h ⊢
 exact P_far hA _ _ _ _ hi h
def Far (L : List V) (el el' : Nat → Bool → Res) (i0 : Nat) : Prop := ∀ i b, i0 ≤ i → i ≤ L.length → Good2 L.length (el i b).2 → el' i b = el i b
theorem item_far (hA : Agree L L' L.length) (hl : L.length ≤ L'.length) : Far L (itemQ L) (itemQ L') 0 := by
 intro i b _ hi ⟨hg, hn⟩
 have h1 := nm_ends (b := b) hi
 have h2 := must_ends (b := (nmQ L i b).2.2) (s := [61]) h1.2.1
 have h3 := expr_ends (b := (mustQ L (nmQ L i b).2.1 (nmQ L i b).2.2 [61]).2) h2.2.1
 have g2 : (mustQ L (nmQ L i b).2.1 (nmQ L i b).2.2 [61]).2 = false := h3.good hg
 have g1 : (nmQ L i b).2.2 = false := h2.good g2
 unfold itemQ
 rw [nm_more hA g1, must_more hA g2, expr_far hA hl h2.2.1 hn]
theorem pair_more (hA : Agree L L' L.length) {i : Nat} {b : Bool} (hi : i ≤ L.length) (h : (pairQ L i b).2.2 = false) : pairQ L' i b = pairQ L i b := by
 have h1 := nm_ends (b := b) hi
 have h2 := must_ends (b := (nmQ L i b).2.2) (s := [61]) h1.2.1
 have h3 := nm_ends (b := (mustQ L (nmQ L i b).2.1 (nmQ L i b).2.2 [61]).2) h2.2.1
 have g3 : (nmQ L (mustQ L (nmQ L i b).2.1 (nmQ L i b).2.2 [61]).1 (mustQ L (nmQ L i b).2.1 (nmQ L i b).2.2 [61]).2).2.2 = false := h
 have g2 : (mustQ L (nmQ L i b).2.1 (nmQ L i b).2.2 [61]).2 = false := h3.good g3
 have g1 : (nmQ L i b).2.2 = false := h2.good g2
 unfold pairQ
 rw [nm_more hA g1, must_more hA g2, nm_more hA g3]
theorem kind_agree (hA : Agree L L' L.length) {i : Nat} (hi : i < L.length) (b : Bool) : ∀ l, kindQ L' i b l = kindQ L i b l
 | [] => rfl
 | s :: l => by rw [kindQ, kindQ, isK_agree hA hi, txt_agree hA hi, kind_agree hA hi b l]
theorem arg_more (hA : Agree L L' L.length) {o : List UInt8} {i : Nat} {b : Bool} (h : (argQ L o i b).2.2 = false) : argQ L' o i b = argQ L o i b := by
 unfold argQ at h ⊢
 split
 ·rfl
 ·rename_i hc
  rw [if_neg hc] at h
  exact nm_more hA h
theorem call_more (hA : Agree L L' L.length) {o : List UInt8} {i : Nat} {b : Bool} (hi : i ≤ L.length) (h : (callQ L o i b).2.2 = false) : callQ L' o i b = callQ L o i b := by
 have h1 := must_ends (b := b) (s := [40]) hi
 have h2 := arg_ends (b := (mustQ L i b [40]).2) (o := o) h1.2.1
 have h3 := must_ends (b := (argQ L o (mustQ L i b [40]).1 (mustQ L i b [40]).2).2.2) (s := [41]) h2.2.1
 have g3 : (mustQ L (argQ L o (mustQ L i b [40]).1 (mustQ L i b [40]).2).2.1 (argQ L o (mustQ L i b [40]).1 (mustQ L i b [40]).2).2.2 [41]).2 = false := h
 have g2 := h3.good g3
 have g1 := h2.good g2
 unfold callQ
 rw [must_more hA g1, arg_more hA g2, must_more hA g3]
theorem agg2_more (hA : Agree L L' L.length) {s : List UInt8} {i : Nat} {b : Bool} (h : (agg2Q L s i b).2.2 = false) : agg2Q L' s i b = agg2Q L s i b ∧ i < L.length := by
 unfold agg2Q at h ⊢
 by_cases hk : kindQ L i b aggOps = []
 ·rw [if_pos hk] at h
  cases h
 ·rw [if_neg hk] at h
  have hi := (isK_lt (kind_some hk).1).1
  rw [kind_agree hA hi, if_neg hk, if_neg hk, call_more hA hi h]
  exact ⟨rfl, hi⟩
theorem agg_more (hA : Agree L L' L.length) {i : Nat} {b : Bool} (hi : i ≤ L.length) (h : (aggQ L i b).2.2 = false) : aggQ L' i b = aggQ L i b ∧ i < L.length := by
 have h1 := nm_ends (b := b) hi
 have h2 := must_ends (b := (nmQ L i b).2.2) (s := [61]) h1.2.1
 have h3 := agg2_ends (b := (mustQ L (nmQ L i b).2.1 (nmQ L i b).2.2 [61]).2) (s := (nmQ L i b).1) h2.2.1
 have g2 : (mustQ L (nmQ L i b).2.1 (nmQ L i b).2.2 [61]).2 = false := h3.good h
 have g1 : (nmQ L i b).2.2 = false := h2.good g2
 unfold aggQ at h ⊢
 rw [nm_more hA g1, must_more hA g2, (agg2_more hA h).1]
 exact ⟨rfl, (nm_lt g1).1⟩
theorem more_end {first : Bool} {i : Nat} {b : Bool} (h : (moreQ L i b first).2.2 = false) : i < L.length ∧ b = false := by
 unfold moreQ at h
 by_cases c1 : first = true
 ·rw [if_pos c1] at h
  exact must_lt h
 rw [if_neg c1] at h
 by_cases c2 : isW L i b [41] = true
 ·exact ⟨isW_lt c2, isW_good c2⟩
 rw [if_neg c2] at h
 by_cases c3 : b = true
 ·rw [if_pos c3] at h
  cases h
 rw [if_neg c3] at h
 exact must_lt h
theorem more_more (hA : Agree L L' L.length) {first : Bool} {i : Nat} {b : Bool} (hi : i < L.length) : moreQ L' i b first = moreQ L i b first := by
 unfold moreQ mustQ
 rw [isW_agree hA hi, isW_agree hA hi]
theorem loop_more (hA : Agree L L' L.length) {el el' : Nat → Bool → Res} (he : ∀ j c, j ≤ L.length → Ends L.length j c (el j c).2) {i0 : Nat} (hel : Far L el el' i0) : ∀ (f : Nat) (first : Bool) (i : Nat) (b : Bool), i0 ≤ i → i ≤ L.length → L.length - i < f → (loopQ L el f first i b).2.2 = false → loopQ L' el' f first i b = loopQ L el f first i b ∧ i < L.length
 | 0, _, _, _, _, _, h, _ => absurd h (Nat.not_lt_zero _)
 | f + 1, first, i, b, h0, hi, hf, hg => by
  rw [loopQ] at hg ⊢
  rw [loopQ]
  cases hm : (moreQ L i b first).1 with
  | false =>
   rw [hm, if_pos rfl] at hg
   have h1 := more_end hg
   rw [more_more hA h1.1, hm, if_pos rfl, if_pos rfl]
   exact ⟨rfl, h1.1⟩
  | true =>
   have h1 := more_lt hm
   rw [hm, if_neg (by simp)] at hg
   have hE := he (moreQ L i b first).2.1 (moreQ L i b first).2.2 (by rw [h1.2.2]; exact h1.1)
   have hi1 := hE.1
   rw [h1.2.2] at hg hE hi1
   dsimp only at hg hE hi1
   have ih := loop_more hA he hel f false (el (i + 1) false).2.1 (el (i + 1) false).2.2 (by omega) hE.2.1 (by have := hE.2.1; omega) hg
   have hEl := loop_ends he f false (el (i + 1) false).2.1 (el (i + 1) false).2.2 hE.2.1
   rw [more_more hA h1.1, hm, if_neg (by simp), if_neg (by simp), h1.2.2]
   dsimp only
   rw [hel (i + 1) false (by omega) (by omega) ⟨hEl.good hg, ih.2⟩, ih.1]
   exact ⟨rfl, h1.1⟩
theorem names_far (hA : Agree L L' L.length) : ∀ (f i : Nat) (b : Bool), i ≤ L.length → Good2 L.length (namesQ L f i b).2 → L.length - i < f → namesQ L' f i b = namesQ L f i b
 | 0, _, _, _, _, h => absurd h (Nat.not_lt_zero _)
 | f + 1, i, b, hi, ⟨hg, hn⟩, hf => by
  have h1 := nm_ends (b := b) hi
  rw [namesQ] at hg hn ⊢
  rw [namesQ]
  by_cases hk : isK L (nmQ L i b).2.1 (nmQ L i b).2.2 0 = true
  ·rw [if_pos hk] at hg hn
   have hlt := isK_lt hk
   have hl := nm_lt hlt.2
   rw [nm_more hA hlt.2, isK_agree hA hlt.1, if_pos hk, if_pos hk, names_far hA f _ _ h1.2.1 ⟨hg, hn⟩ (by omega)]
  ·rw [if_neg hk] at hg hn
   rw [nm_more hA hg, isK_agree hA hn, if_neg hk, if_neg hk]
theorem has_agree (hA : Agree L L' L.length) {i : Nat} {b : Bool} (hi : i < L.length) (h : i + 1 < L.length ∨ hasQ L i b = false ∧ txt L i ≠ sBy) : hasQ L' i b = hasQ L i b := by
 unfold hasQ wordQ
 rw [isK_agree hA hi, txt_agree hA hi]
 rcases h with h | ⟨h, h2⟩
 ·rw [hA (i + 1) h]
 ·have e : (txt L i == sBy) = false := by simpa using h2
  rw [e]
  rfl
theorem by_more (hA : Agree L L' L.length) (hl : L.length ≤ L'.length) {i : Nat} {b : Bool} (hi : i < L.length) (h : (byQ L i b).2.2 = false) (hgo : hasQ L i b = false → i + 1 < L.length) : byQ L' i b = byQ L i b := by
 by_cases hs : hasQ L i b = true
 ·have e1 : byQ L i b = (.mk sBy [] (namesQ L (L.length + 1) (i + 1) b).1, mustQ L (namesQ L (L.length + 1) (i + 1) b).2.1 (namesQ L (L.length + 1) (i + 1) b).2.2 [44]) := by unfold byQ; rw [if_pos hs]
  rw [e1] at h
  dsimp only at h
  have g3 := must_lt h
  have hE := names_ends (L := L) (L.length + 1) (i + 1) b hi
  have hlt : i + 1 < L.length := Nat.lt_of_le_of_lt hE.1 g3.1
  have hs' : hasQ L' i b = true := by rw [has_agree hA hi (.inl hlt)]; exact hs
  rw [e1]
  unfold byQ
  rw [if_pos hs']
  have e2 : namesQ L' (L'.length + 1) (i + 1) b = namesQ L (L.length + 1) (i + 1) b := by
   have e3 : namesQ L (L'.length + 1) (i + 1) b = namesQ L (L.length + 1) (i + 1) b := names_steps _ _ _ _ hi (by omega) (by omega)
   rw [← e3]
   exact names_far hA _ _ _ hi ⟨by rw [e3]; exact g3.2, by rw [e3]; exact g3.1⟩ (by omega)
  rw [e2, must_more hA h]
 ·have hs0 : hasQ L i b = false := by simpa using hs
  have hs' : hasQ L' i b = false := by rw [has_agree hA hi (.inl (hgo hs0))]; exact hs0
  unfold byQ
  rw [hs', hs0]
  rfl
theorem group_more (hA : Agree L L' L.length) (hl : L.length ≤ L'.length) {i : Nat} {b : Bool} (hi : i ≤ L.length) (h : (groupQ L i b).2.2 = false) : groupQ L' i b = groupQ L i b := by
 have h1 := by_ends (b := b) hi
 have h2 := agg_ends (b := (byQ L i b).2.2) h1.2.1
 have hg3 : (loopQ L (aggQ L) (L.length + 1) false (aggQ L (byQ L i b).2.1 (byQ L i b).2.2).2.1 (aggQ L (byQ L i b).2.1 (byQ L i b).2.2).2.2).2.2 = false := h
 have hfar : Far L (aggQ L) (aggQ L') 0 := fun j c _ hj hgj => (agg_more hA hj hgj.1).1
 have hL := loop_more hA (el := aggQ L) (el' := aggQ L') (fun j c hj => agg_ends hj) hfar (L.length + 1) false _ _ (Nat.zero_le _) h2.2.1 (by omega) hg3
 have h3 := loop_ends (L := L) (el := aggQ L) (fun j c hj => agg_ends hj) (L.length + 1) false (aggQ L (byQ L i b).2.1 (byQ L i b).2.2).2.1 (aggQ L (byQ L i b).2.1 (byQ L i b).2.2).2.2 h2.2.1
 have g2 : (aggQ L (byQ L i b).2.1 (byQ L i b).2.2).2.2 = false := h3.good hg3
 have hm := agg_more hA h1.2.1 g2
 have g1 : (byQ L i b).2.2 = false := h2.good g2
 have hlt : i < L.length := Nat.lt_of_le_of_lt h1.1 hm.2
 have hgo : hasQ L i b = false → i + 1 < L.length := by
  intro hs
  have e : byQ L i b = (.mk sBy [] [], i, b) := by unfold byQ; rw [hs]; rfl
  rw [e] at g2 hL
  dsimp only at g2 hL
  have hn := nm_ends (b := b) hi
  have hmu := must_ends (b := (nmQ L i b).2.2) (s := [61]) hn.2.1
  have h3 := agg2_ends (b := (mustQ L (nmQ L i b).2.1 (nmQ L i b).2.2 [61]).2) (s := (nmQ L i b).1) hmu.2.1
  have q2 : (mustQ L (nmQ L i b).2.1 (nmQ L i b).2.2 [61]).2 = false := h3.good g2
  have q1 : (nmQ L i b).2.2 = false := hmu.good q2
  have a1 := nm_lt q1
  have a2 := must_lt q2
  omega
 unfold groupQ
 rw [by_more hA hl hlt g1 hgo, hm.1]
 have e3 := loop_steps (L := L) (el := aggQ L) (el' := aggQ L) (fun j c hj => agg_ends hj) 0 (fun _ _ _ _ => rfl) (L'.length + 1) (L.length + 1) false (aggQ L (byQ L i b).2.1 (byQ L i b).2.2).2.1 (aggQ L (byQ L i b).2.1 (byQ L i b).2.2).2.2 (Nat.zero_le _) h2.2.1 (by omega) (by omega)
 have e4 := loop_more hA (el := aggQ L) (el' := aggQ L') (fun j c hj => agg_ends hj) hfar (L'.length + 1) false _ _ (Nat.zero_le _) h2.2.1 (by omega) (by rw [e3]; exact hg3)
 rw [e4.1, e3]
theorem tail_more (hA : Agree L L' L.length) (hl : L.length ≤ L'.length) {q q' : Nat → Bool → Res} (hq : ∀ j c, j ≤ L.length → Ends L.length j c (q j c).2) {o : List UInt8} {i : Nat} {b : Bool} (hqq : Far L q q' i) (hi : i ≤ L.length) (h : (tailQ L q o i b).2.2 = false) : tailQ L' q' o i b = tailQ L q o i b ∧ i < L.length := by
 have h1 := must_ends (b := b) (s := [44]) hi
 have mores : ∀ {el el' : Nat → Bool → Res} (he : ∀ j c, j ≤ L.length → Ends L.length j c (el j c).2) {i0 : Nat} (hel : Far L el el' i0) (first : Bool) (j : Nat) (c : Bool), i0 ≤ j → j ≤ L.length → (loopQ L el (L.length + 1) first j c).2.2 = false → loopQ L' el' (L'.length + 1) first j c = loopQ L el (L.length + 1) first j c ∧ j < L.length := by
  intro el el' he i0 hel first j c h0 hj hg
  have e3 := loop_steps (L := L) (el := el) (el' := el) he 0 (fun _ _ _ _ => rfl) (L'.length + 1) (L.length + 1) first j c (Nat.zero_le _) hj (by omega) (by omega)
  have e4 := loop_more hA he hel (L'.length + 1) first j c h0 hj (by omega) (by rw [e3]; exact hg)
  exact ⟨e4.1.trans e3, e4.2⟩
 unfold tailQ at h ⊢
 by_cases c1 : o = sFilter
 ·rw [if_pos c1] at h
  rw [if_pos c1, if_pos c1]
  dsimp only at h
  have g3 := must_lt h
  have h2 := expr_ends (b := (mustQ L i b [44]).2) h1.2.1
  have g2 : (mustQ L i b [44]).2 = false := h2.good g3.2
  rw [must_more hA g2, expr_far hA hl h1.2.1 g3.1, must_more hA h]
  exact ⟨rfl, (must_lt g2).1⟩
 rw [if_neg c1] at h
 rw [if_neg c1, if_neg c1]
 by_cases c2 : o = sDistinct
 ·rw [if_pos c2] at h
  rw [if_pos c2, if_pos c2]
  dsimp only at h
  rw [must_more hA h]
  exact ⟨rfl, (must_lt h).1⟩
 rw [if_neg c2] at h
 rw [if_neg c2, if_neg c2]
 by_cases c3 : o = sProject
 ·rw [if_pos c3] at h
  rw [if_pos c3, if_pos c3]
  exact mores (fun j c hj => item_ends hj) (item_far hA hl) true i b (Nat.zero_le _) hi h
 rw [if_neg c3] at h
 rw [if_neg c3, if_neg c3]
 by_cases c4 : o = sUnion
 ·rw [if_pos c4] at h
  rw [if_pos c4, if_pos c4]
  exact mores hq hqq true i b (Nat.le_refl _) hi h
 rw [if_neg c4] at h
 rw [if_neg c4, if_neg c4]
 by_cases c5 : o = sJoin
 ·rw [if_pos c5] at h
  rw [if_pos c5, if_pos c5]
  have hE := hq (mustQ L i b [44]).1 (mustQ L i b [44]).2 h1.2.1
  have hm := mores (fun j c hj => pair_ends hj) (el' := pairQ L') (i0 := 0) (fun j c _ hj hg => pair_more hA hj hg.1) true _ _ (Nat.zero_le _) hE.2.1 h
  have hEl := loop_ends (L := L) (el := pairQ L) (fun j c hj => pair_ends hj) (L.length + 1) true (q (mustQ L i b [44]).1 (mustQ L i b [44]).2).2.1 (q (mustQ L i b [44]).1 (mustQ L i b [44]).2).2.2 hE.2.1
  have g2 := hEl.good h
  have g1 : (mustQ L i b [44]).2 = false := hE.good g2
  rw [must_more hA g1, hqq _ _ h1.1 h1.2.1 ⟨g2, hm.2⟩, hm.1]
  exact ⟨rfl, (must_lt g1).1⟩
 ·rw [if_neg c5] at h
  rw [if_neg c5, if_neg c5]
  have hE := group_ends (b := (mustQ L i b [44]).2) h1.2.1
  have g1 : (mustQ L i b [44]).2 = false := hE.good h
  rw [must_more hA g1, group_more hA hl h1.2.1 h]
  exact ⟨rfl, (must_lt g1).1⟩
end
def Shut2 (R : List V) : Prop := ∃ r, R = (3, [41]) :: r ∨ R = (3, [44]) :: r
theorem agree_append (L R : List V) : Agree L (L ++ R) L.length := fun k hk => List.getElem?_append_left hk
theorem word_more {L R : List V} (hR : Shut2 R) {i : Nat} (hi : i < L.length) (b : Bool) (s : List UInt8) : wordQ (L ++ R) i b s [40] = wordQ L i b s [40] := by
 unfold wordQ
 rw [isK_agree (agree_append L R) hi, txt_agree (agree_append L R) hi]
 by_cases h : i + 1 < L.length
 ·rw [agree_append L R (i + 1) h]
 ·obtain e : i + 1 = L.length := by omega
  rw [e, List.getElem?_append_right (Nat.le_refl _), Nat.sub_self, List.getElem?_eq_none (Nat.le_refl L.length)]
  obtain ⟨r, rfl | rfl⟩ := hR <;> rfl
theorem op_more {L R : List V} (hR : Shut2 R) {i : Nat} (hi : i < L.length) (b : Bool) : ∀ l, opQ (L ++ R) i b l = opQ L i b l
 | [] => rfl
 | s :: l => by rw [opQ, opQ, word_more hR hi, op_more hR hi b l]
theorem qq_more {L R : List V} (hR : Shut2 R) : ∀ (f i : Nat) (b : Bool), i ≤ L.length → L.length - i < f → (qq L f i b).2.2 = false → qq (L ++ R) f i b = qq L f i b ∧ i < L.length
 | 0, _, _, _, h, _ => absurd h (Nat.not_lt_zero _)
 | f + 1, i, b, hi, hf, hg => by
  have hA := agree_append L R
  have hl : L.length ≤ (L ++ R).length := by rw [List.length_append]; omega
  rw [qq] at hg ⊢
  rw [qq]
  by_cases ho : opQ L i b opsQ = []
  ·rw [if_pos ho] at hg
   have h1 := nm_lt hg
   rw [op_more hR h1.1, if_pos ho, if_pos ho, nm_more hA hg]
   exact ⟨rfl, h1.1⟩
  ·rw [if_neg ho] at hg
   have hs := op_lt ho
   have hE := qq_ends L f (i + 2) b hs.1
   have hE1 := hE.1
   have hT := tail_ends (L := L) (q := qq L f) (fun j c hj => qq_ends L f j c hj) (o := opQ L i b opsQ) (b := (qq L f (i + 2) b).2.2) hE.2.1
   have g2 := hT.good hg
   have ih := qq_more hR f (i + 2) b hs.1 (by omega) g2
   have hm := tail_more hA hl (q := qq L f) (q' := qq (L ++ R) f) (fun j c hj => qq_ends L f j c hj) (fun j c hij hj hgj => (qq_more hR f j c hj (by omega) hgj.1).1) hE.2.1 hg
   rw [op_more hR (by omega), if_neg ho, if_neg ho, ih.1, hm.1]
   exact ⟨rfl, by omega⟩
def m0 : Mode → Nat
 | .loop _ a => a.deep
 | .test a => a.deep
 | _ => 1
theorem deep_pos (t : Tr) : 1 ≤ t.deep := by cases t <;> simp [Tr.deep]
theorem m0_pos (m : Mode) : 1 ≤ m0 m := by cases m <;> first | exact Nat.le_refl _ | exact deep_pos _
theorem deep_one (o : List UInt8) (a : Tr) : (Tr.one o a).deep = a.deep + 1 := rfl
theorem deep_two (o : List UInt8) (a b : Tr) : (Tr.two o a b).deep = max a.deep b.deep + 1 := rfl
theorem deep_leaf (o x : List UInt8) : (Tr.leaf o x).deep = 1 := rfl
theorem P_deep (L : List V) : ∀ (f : Nat) (m : Mode) (i : Nat) (b : Bool), i ≤ L.length → (P L f m i b).1.deep + i ≤ m0 m + (P L f m i b).2.1
 | 0, m, i, b, _ => by
  have := m0_pos m
  show 1 + i ≤ m0 m + i
  omega
 | f + 1, .expr l, i, b, h => by
  rw [P]
  split
  ·exact P_deep L f .sign i b h
  split
  ·split
   ·rename_i hs
    have h1 := isW_lt hs
    have ih := P_deep L f (.expr 3) (i + 1) b (by omega)
    simp only [m0, deep_one] at ih ⊢
    omega
   ·exact P_deep L f (.expr 4) i b h
  split
  ·have ih := P_deep L f (.expr 5) i b h
   have he := P_ends L f (.expr 5) i b h
   have ih2 := P_deep L f (.test (P L f (.expr 5) i b).1) (P L f (.expr 5) i b).2.1 (P L f (.expr 5) i b).2.2 he.2.1
   simp only [m0] at ih ih2 ⊢
   omega
  ·have ih := P_deep L f (.expr (l + 1)) i b h
   have he := P_ends L f (.expr (l + 1)) i b h
   have ih2 := P_deep L f (.loop l (P L f (.expr (l + 1)) i b).1) (P L f (.expr (l + 1)) i b).2.1 (P L f (.expr (l + 1)) i b).2.2 he.2.1
   simp only [m0] at ih ih2 ⊢
   omega
 | f + 1, .loop l a, i, b, h => by
  rw [P]
  split
  ·simp only [m0]; omega
  ·rename_i ho
   obtain ⟨h1, h2⟩ := oneL_lt ho
   have ih := P_deep L f (.expr (l + 1)) (i + 1) b (by omega)
   have he := P_ends L f (.expr (l + 1)) (i + 1) b (by omega)
   have ih2 := P_deep L f (.loop l (.two (oneL L i b (opsL l)) a (P L f (.expr (l + 1)) (i + 1) b).1)) (P L f (.expr (l + 1)) (i + 1) b).2.1 (P L f (.expr (l + 1)) (i + 1) b).2.2 he.2.1
   have hp := deep_pos a
   simp only [m0, deep_two] at ih ih2 ⊢
   omega
 | f + 1, .test a, i, b, h => by
  have hp := deep_pos a
  rw [P]
  split
  ·split
   ·rename_i hs
    have h1 := isW_lt hs
    split
    ·simp only [m0, deep_one]; omega
    ·simp only [m0, deep_one]; omega
   ·simp only [m0]; omega
  ·rename_i ho
   obtain ⟨h1, h2⟩ := oneL_lt ho
   have ih := P_deep L f (.expr 5) (i + 1) b (by omega)
   have he := P_ends L f (.expr 5) (i + 1) b (by omega)
   simp only [m0, deep_two] at ih ⊢
   omega
 | f + 1, .sign, i, b, h => by
  rw [P]
  split
  ·rename_i hs
   have h1 := isW_lt hs
   have ih := P_deep L f .sign (i + 1) b (by omega)
   simp only [m0, deep_one] at ih ⊢
   omega
  split
  ·rename_i hs
   have h1 := isW_lt hs
   have ih := P_deep L f (.expr 1) (i + 1) b (by omega)
   split
   ·simp only [m0] at ih ⊢; omega
   ·simp only [m0] at ih ⊢; omega
  split
  ·split
   ·split
    ·simp only [m0, deep_leaf]; omega
    ·show 1 + i ≤ 1 + i; omega
   split
   ·simp only [m0, deep_leaf]; omega
   split
   ·simp only [m0, deep_leaf]; omega
   ·simp only [m0, deep_leaf]; omega
  ·simp only [m0, deep_leaf]; omega
theorem run_fig {p : UInt8 → Bool} : ∀ (s : List UInt8), ∀ c ∈ s.take (runL p s), p c = true
 | [], c, h => by simp at h
 | d :: s, c, h => by
  by_cases hd : p d = true
  ·rw [runL, if_pos hd, List.take_succ_cons] at h
   rcases List.mem_cons.1 h with rfl | h
   ·exact hd
   ·exact run_fig s c h
  ·rw [runL, if_neg hd] at h
   simp at h
theorem came_fig {l : List W} (h : CameB l) : ∀ w ∈ l, w.1 = 1 → (∀ c ∈ w.2.1, figB c = true) ∧ w.2.1.length ≤ 19 := by
 intro w hw hk
 have hf := h w hw
 rw [hk, show showW 1 w.2.1 = w.2.1 from rfl] at hf
 rcases first_cases hf with ⟨c, r, _, _, e, _⟩ | ⟨c, r, e1, e2, e3, _, ht, hn, hn2⟩ | ⟨r, _, e, _⟩ | ⟨c, d, r, _, _, _, _, _, e, _⟩ | ⟨c, r, _, _, _, _, _, _, e, _⟩
 ·exact absurd e (by decide)
 ·refine ⟨fun c hc => ?_, hn2⟩
  rw [ht] at hc
  exact run_fig _ c hc
 ·exact absurd e (by decide)
 ·exact absurd e (by decide)
 ·exact absurd e (by decide)
theorem words_len (s : List UInt8) : ∀ (i : Int) (l : List W), wordsL s i = .ok l → l.length ≤ s.length := by
 refine words_way (Q := fun s => ∀ (i : Int) (l : List W), wordsL s i = .ok l → l.length ≤ s.length) ?_ ?_ ?_ ?_ s
 ·intro i l h; cases h; exact Nat.le_refl _
 ·intro c s hb ih i l h
  rw [wordsL_blank hb] at h
  have := ih _ l h
  simp only [List.length_cons]
  omega
 ·intro c s hb hf i l h
  rw [wordsL_none hb hf] at h
  cases h
 ·intro c s k t n hf ih i l h
  have hn := first_n hf
  rw [wordsL_one hf] at h
  cases hw : wordsL ((c :: s).drop n) (i + n) with
  | error j' => rw [hw] at h; cases h
  | ok l' =>
   rw [hw] at h
   cases h
   have := ih _ l' hw
   rw [List.length_drop] at this
   simp only [List.length_cons] at this hn ⊢
   omega
def ShutC (c : UInt8) : Prop := c = 40 ∨ c = 41 ∨ c = 44
theorem shut_name {c : UInt8} (h : ShutC c) : nameB c = false := by rcases h with rfl | rfl | rfl <;> decide
theorem shut_fig {c : UInt8} (h : ShutC c) : figB c = false := by rcases h with rfl | rfl | rfl <;> decide
theorem shut_quote {c : UInt8} (h : ShutC c) : c ≠ 39 := by rcases h with rfl | rfl | rfl <;> decide
theorem shut_two {c : UInt8} (h : ShutC c) (d : UInt8) (r : List UInt8) : twoB (d :: c :: r) = false := by
 rcases h with rfl | rfl | rfl
 ·show (d == 60 && ((40 : UInt8) == 62 || (40 : UInt8) == 61) || d == 62 && (40 : UInt8) == 61) = false
  simp
 ·show (d == 60 && ((41 : UInt8) == 62 || (41 : UInt8) == 61) || d == 62 && (41 : UInt8) == 61) = false
  simp
 ·show (d == 60 && ((44 : UInt8) == 62 || (44 : UInt8) == 61) || d == 62 && (44 : UInt8) == 61) = false
  simp
theorem first_end {c0 : UInt8} (h0 : ShutC c0) {s : List UInt8} {k : Int} {t : List UInt8} {n : Nat} (h : firstL s = some (k, t, n)) (r : List UInt8) : firstL (s ++ c0 :: r) = some (k, t, n) := by
 have hlen := (first_n h).2
 rcases first_cases h with ⟨c, q, rfl, hl, rfl, rfl, rfl, h20⟩ | ⟨c, q, rfl, hl, hf, rfl, rfl, rfl, h19⟩ | ⟨q, rfl, rfl, m, hq, rfl, h200⟩ | ⟨c, d, q, rfl, hl, hf, hc, h2, rfl, rfl, rfl⟩ | ⟨c, q, rfl, hl, hf, hc, h2, h1, rfl, rfl, rfl⟩
 ·have e := runL_behind nameB c0 (shut_name h0) r (c :: q)
  have e2 : (c :: q ++ c0 :: r).take (runL nameB (c :: q)) = (c :: q).take (runL nameB (c :: q)) := List.take_append_of_le_length hlen
  rw [List.cons_append] at e e2 ⊢
  rw [firstL, if_pos hl, e, if_pos h20, e2]
 ·have e := runL_behind figB c0 (shut_fig h0) r (c :: q)
  have e2 : (c :: q ++ c0 :: r).take (runL figB (c :: q)) = (c :: q).take (runL figB (c :: q)) := List.take_append_of_le_length hlen
  rw [List.cons_append] at e e2 ⊢
  rw [firstL, if_neg (by rw [hl]; decide), if_pos hf, e, if_pos h19, e2]
 ·obtain ⟨r', rfl, rfl, hr'⟩ := quoL_is q t m hq
  have e : quoL (dbl t ++ 39 :: r' ++ c0 :: r) = some (t, (dbl t).length + 1) := by
   rw [List.append_assoc, List.cons_append]
   refine quoL_dbl _ ?_ t
   intro d r'' e
   cases r' with
   | nil => injection e with e1 e2; subst e1; exact shut_quote h0
   | cons d' r3 => injection e with e1 e2; exact e1 ▸ hr' d' r3 rfl
  rw [List.cons_append, firstL, if_neg (by decide), if_neg (by decide), if_pos rfl, e]
  simp [h200]
 ·rw [List.cons_append, List.cons_append, firstL, if_neg (by rw [hl]; decide), if_neg (by rw [hf]; decide), if_neg hc, twoB_cons, if_pos h2]
  rfl
 ·have e : twoB (c :: (q ++ c0 :: r)) = false := by
   cases q with
   | nil => exact shut_two h0 c r
   | cons d q => rw [List.cons_append, twoB_cons]; rw [twoB_cons] at h2; exact h2
  rw [List.cons_append, firstL, if_neg (by rw [hl]; decide), if_neg (by rw [hf]; decide), if_neg hc, if_neg (by rw [e]; decide), if_pos h1]
theorem first_none_end {c0 : UInt8} (h0 : ShutC c0) {c : UInt8} {q r : List UInt8} (hr : (39 : UInt8) ∉ r) (h : firstL (c :: q) = none) : firstL (c :: q ++ c0 :: r) = none := by
 have hr0 : (39 : UInt8) ∉ c0 :: r := fun e => by
  rcases List.mem_cons.1 e with e | e
  ·exact shut_quote h0 e.symm
  ·exact hr e
 rw [List.cons_append]
 rw [firstL] at h ⊢
 have e1 := runL_behind nameB c0 (shut_name h0) r (c :: q)
 have e2 := runL_behind figB c0 (shut_fig h0) r (c :: q)
 rw [List.cons_append] at e1 e2
 rw [e1, e2]
 by_cases hl : letB c = true
 ·rw [if_pos hl] at h ⊢
  by_cases h20 : runL nameB (c :: q) ≤ 20
  ·rw [if_pos h20] at h; cases h
  ·rw [if_neg h20]
 rw [if_neg hl] at h ⊢
 by_cases hf : figB c = true
 ·rw [if_pos hf] at h ⊢
  by_cases h19 : runL figB (c :: q) ≤ 19
  ·rw [if_pos h19] at h; cases h
  ·rw [if_neg h19]
 rw [if_neg hf] at h ⊢
 by_cases hc : c = 39
 ·rw [if_pos hc] at h ⊢
  cases hq : quoL q with
  | none => rw [quoL_none_more (c0 :: r) hr0 q hq]
  | some v =>
   obtain ⟨t, m⟩ := v
   rw [hq] at h
   dsimp only at h
   obtain ⟨r', rfl, rfl, hr'⟩ := quoL_is q t m hq
   have e : quoL (dbl t ++ 39 :: r' ++ c0 :: r) = some (t, (dbl t).length + 1) := by
    rw [List.append_assoc, List.cons_append]
    refine quoL_dbl _ ?_ t
    intro d r'' e
    cases r' with
    | nil => injection e with e1 e2; subst e1; exact shut_quote h0
    | cons d' r3 => injection e with e1 e2; exact e1 ▸ hr' d' r3 rfl
   rw [e]
   dsimp only
   by_cases h200 : t.length ≤ 200
   ·rw [if_pos h200] at h; cases h
   ·rw [if_neg h200]
 rw [if_neg hc] at h ⊢
 by_cases h2 : twoB (c :: q) = true
 ·rw [if_pos h2] at h; cases h
 rw [if_neg h2] at h
 by_cases h1 : oneB c = true
 ·rw [if_pos h1] at h; cases h
 have e : twoB (c :: (q ++ c0 :: r)) = false := by
  cases q with
  | nil => exact shut_two h0 c r
  | cons d q => rw [List.cons_append, twoB_cons]; rw [twoB_cons] at h2; simpa using h2
 rw [if_neg (by rw [e]; decide), if_neg h1]
theorem words_end {c0 : UInt8} (h0 : ShutC c0) (r : List UInt8) (s : List UInt8) : ∀ (i : Int) (l : List W), wordsL s i = .ok l → wordsL (s ++ c0 :: r) i = (match wordsL (c0 :: r) (i + s.length) with | .error j => .error j | .ok m => .ok (l ++ m)) := by
 refine words_way (Q := fun s => ∀ (i : Int) (l : List W), wordsL s i = .ok l → wordsL (s ++ c0 :: r) i = (match wordsL (c0 :: r) (i + s.length) with | .error j => .error j | .ok m => .ok (l ++ m))) ?_ ?_ ?_ ?_ s
 ·intro i l h
  rw [wordsL_nil] at h
  cases h
  show wordsL (c0 :: r) i = (match wordsL (c0 :: r) (i + ((0 : Nat) : Int)) with | .error j => .error j | .ok m => .ok ([] ++ m))
  rw [show i + ((0 : Nat) : Int) = i by simp]
  cases wordsL (c0 :: r) i <;> rfl
 ·intro c s hb ih i l h
  rw [wordsL_blank hb] at h
  rw [List.cons_append, wordsL_blank hb, ih _ _ h, List.length_cons, show i + 1 + (s.length : Int) = i + ((s.length + 1 : Nat) : Int) by omega]
 ·intro c s hb hf i l h
  rw [wordsL_none hb hf] at h
  cases h
 ·intro c s k t n hf ih i l h
  have hn := first_n hf
  have hf' := first_end h0 hf r
  rw [wordsL_one hf] at h
  rw [List.cons_append] at hf' ⊢
  rw [wordsL_one hf', ← List.cons_append, List.drop_append_of_le_length hn.2]
  cases hw : wordsL ((c :: s).drop n) (i + n) with
  | error j => rw [hw] at h; cases h
  | ok l' =>
   rw [hw] at h
   injection h with h
   subst h
   rw [ih _ _ hw, show i + n + (((c :: s).drop n).length : Int) = i + ((c :: s).length : Int) by rw [List.length_drop]; omega]
   cases wordsL (c0 :: r) (i + ((c :: s).length : Int)) <;> rfl
theorem words_end_bad {c0 : UInt8} (h0 : ShutC c0) (r : List UInt8) (hr : (39 : UInt8) ∉ r) (s : List UInt8) : ∀ (i j : Int), wordsL s i = .error j → wordsL (s ++ c0 :: r) i = .error j := by
 refine words_way (Q := fun s => ∀ (i j : Int), wordsL s i = .error j → wordsL (s ++ c0 :: r) i = .error j) ?_ ?_ ?_ ?_ s
 ·intro i j h
  cases h
 ·intro c s hb ih i j h
  rw [wordsL_blank hb] at h
  rw [List.cons_append, wordsL_blank hb, ih _ _ h]
 ·intro c s hb hf i j h
  rw [wordsL_none hb hf] at h
  have := first_none_end h0 hr hf
  rw [List.cons_append] at this ⊢
  rw [wordsL_none hb this]
  exact h
 ·intro c s k t n hf ih i j h
  have hn := first_n hf
  have hf' := first_end h0 hf r
  rw [wordsL_one hf] at h
  rw [List.cons_append] at hf' ⊢
  rw [wordsL_one hf', ← List.cons_append, List.drop_append_of_le_length hn.2]
  cases hw : wordsL ((c :: s).drop n) (i + n) with
  | ok l => rw [hw] at h; cases h
  | error j' =>
   rw [hw] at h
   rw [ih _ _ hw]
   exact h
theorem first_comma1 (r : List UInt8) : firstL (44 :: r) = some (3, [44], 1) := by
 have e : twoB (44 :: r) = false := by
  cases r with
  | nil => rfl
  | cons d r => rw [twoB_cons]; show ((44 : UInt8) == 60 && (d == 62 || d == 61) || (44 : UInt8) == 62 && d == 61) = false; simp
 rw [firstL, if_neg (by decide), if_neg (by decide), if_neg (by decide), if_neg (by rw [e]; decide), if_pos (by decide)]
theorem words_comma (t : List UInt8) (i : Int) : wordsL (44 :: t) i = (match wordsL t (i + 1) with | .error j => .error j | .ok l => .ok ((3, [44], i) :: l)) := by
 rw [wordsL_one (first_comma1 _)]
 rfl
theorem words_shut1 (i : Int) : wordsL [41] i = .ok [(3, [41], i)] := by
 rw [wordsL_one (first_shut1 _)]
 rfl
theorem words_op {s : List UInt8} (hs : wordsL s 0 = .ok [(0, s, 0)]) (t : List UInt8) : wordsL (s ++ 40 :: t) 0 = (match wordsL t (s.length + 1 : Nat) with | .error j => .error j | .ok l => .ok ((0, s, 0) :: (3, [40], s.length) :: l)) := by
 rw [words_end (.inl rfl) t s 0 _ hs, words_open, show (0 : Int) + (s.length : Int) = s.length by omega, show (s.length : Int) + 1 = ((s.length + 1 : Nat) : Int) by omega]
 cases wordsL t ((s.length + 1 : Nat) : Int) <;> rfl
theorem words_distinct (s : List UInt8) (l : List W) (h : wordsL s 0 = .ok l) : wordsL (sDistinct ++ 40 :: (s ++ [41])) 0 = .ok ((0, sDistinct, 0) :: (3, [40], 8) :: (onW 9 l ++ [((3, [41], 9 + (s.length : Int)) : W)])) := by
 rw [words_op rfl]
 have h9 : wordsL s 9 = .ok (onW 9 l) := by
  have := words_on s 0 9
  rw [h] at this
  exact this
 show (match wordsL (s ++ [41]) 9 with | .error j => Except.error j | .ok l => Except.ok ((0, sDistinct, 0) :: (3, [40], 8) :: l)) = _
 rw [words_end (.inr (.inl rfl)) [] s 9 _ h9, words_shut1]
theorem words_union (s t : List UInt8) (l : List W) (h : wordsL s 0 = .ok l) : wordsL (sUnion ++ 40 :: (s ++ 44 :: 32 :: (t ++ [41]))) 0 =
  (match wordsL (t ++ [41]) (s.length + 8 : Nat) with | .error j => .error j | .ok m => .ok ((0, sUnion, 0) :: (3, [40], 5) :: (onW 6 l ++ ((3, [44], 6 + (s.length : Int)) : W) :: m))) := by
 rw [words_op rfl]
 have h6 : wordsL s 6 = .ok (onW 6 l) := by
  have := words_on s 0 6
  rw [h] at this
  exact this
 show (match wordsL (s ++ 44 :: 32 :: (t ++ [41])) 6 with | .error j => Except.error j | .ok l => Except.ok ((0, sUnion, 0) :: (3, [40], 5) :: l)) = _
 rw [words_end (.inr (.inr rfl)) _ s 6 _ h6, words_comma, wordsL_blank (by decide), show (6 : Int) + (s.length : Int) + 1 + 1 = ((s.length + 8 : Nat) : Int) by omega]
 cases wordsL (t ++ [41]) ((s.length + 8 : Nat) : Int) <;> rfl
def topQ (L : List V) : Res := qq L (L.length + 1) 0 false
def parseQW (n : Nat) (l : List W) : Nod × Int × Int :=
 if l = [] then (zeroN, n, 91)
 else if (topQ (bare l)).2.2 = true ∨ (topQ (bare l)).2.1 < l.length then (zeroN, placeL n l (topQ (bare l)).2.1, 91)
 else if 16 < (topQ (bare l)).1.deep then (zeroN, 0, 92)
 else ((topQ (bare l)).1, 0, 0)
def parseQ (s : List UInt8) : Nod × Int × Int := match wordsL s 0 with | .error j => (zeroN, j, 81) | .ok l => parseQW s.length l
theorem topQ_le (L : List V) : (topQ L).2.1 ≤ L.length := (qq_ends L (L.length + 1) 0 false (Nat.zero_le _)).2.1
theorem topQ_more (L : List V) (f : Nat) (h : L.length < f) : qq L f 0 false = topQ L := qq_steps L f (L.length + 1) 0 false (Nat.zero_le _) (by omega) (by omega)
theorem parseQ_ok {s : List UInt8} {x : Nod} {a : Int} (h : parseQ s = (x, a, 0)) : ∃ l, wordsL s 0 = .ok l ∧ topQ (bare l) = (x, l.length, false) ∧ a = 0 ∧ x.deep ≤ 16 := by
 unfold parseQ at h
 cases hw : wordsL s 0 with
 | error j => rw [hw] at h; cases h
 | ok l =>
  rw [hw] at h
  refine ⟨l, rfl, ?_⟩
  dsimp only at h
  unfold parseQW at h
  split at h
  ·cases h
  split at h
  ·cases h
  split at h
  ·cases h
  ·rename_i h1 h2 h3
   have hle := topQ_le (bare l)
   rw [bare_length] at hle
   obtain ⟨y, hy⟩ : ∃ y, topQ (bare l) = y := ⟨_, rfl⟩
   rw [hy] at h h2 h3 hle ⊢
   obtain ⟨z, j, b⟩ := y
   injection h with e1 e2
   injection e2 with e2 e3
   dsimp only at e1 h2 h3 hle
   subst e1 e2
   have hb : b = false := by
    cases b
    ·rfl
    ·exact absurd (Or.inl rfl) h2
   have hj : j = l.length := by
    have : ¬ j < l.length := fun h => h2 (Or.inr h)
    omega
   subst hb hj
   exact ⟨rfl, rfl, by omega⟩
theorem parseQ_made {n : Nat} {l : List W} {x : Nod} (hl : l ≠ []) (h : topQ (bare l) = (x, l.length, false)) : parseQW n l = if 16 < x.deep then (zeroN, 0, 92) else (x, 0, 0) := by
 unfold parseQW
 rw [if_neg hl, h, if_neg (by simp)]
theorem qq_within (A L R : List V) (x : Nod) (h : topQ L = (x, L.length, false)) (hR : Shut2 R) (f : Nat) (hf : A.length + L.length + R.length < f) : qq (A ++ (L ++ R)) f A.length false = (x, A.length + L.length, false) := by
 have h1 : qq L f 0 false = (x, L.length, false) := by rw [topQ_more L f (by omega)]; exact h
 have h2 := (qq_more (L := L) hR f 0 false (Nat.zero_le _) (by omega) (by rw [h1])).1
 have h3 := qq_shift A (L ++ R) f 0 false (Nat.zero_le _)
 rw [Nat.add_zero, h2, h1] at h3
 exact h3
theorem get_at (A L : List V) (x : V) (i : Nat) (hi : i = A.length) : (A ++ x :: L)[i]? = some x := by
 subst hi
 rw [List.getElem?_append_right (Nat.le_refl _), Nat.sub_self]
 rfl
theorem isW_here (A L : List V) (i : Nat) (hi : i = A.length) (s : List UInt8) : isW (A ++ (3, s) :: L) i false s = true := by
 unfold isW
 rw [get_at A L _ i hi]
 simp
theorem must_at (A L : List V) (i : Nat) (hi : i = A.length) (s : List UInt8) : mustQ (A ++ (3, s) :: L) i false s = (i + 1, false) := by
 unfold mustQ
 rw [isW_here A L i hi, if_pos rfl]
theorem op_at {s : List UInt8} (hs : s ∈ opsQ) (L : List V) : opQ ((0, s) :: (3, [40]) :: L) 0 false opsQ = s := by
 have hw : ∀ t, wordQ ((0, s) :: (3, [40]) :: L) 0 false t [40] = (s == t) := by
  intro t
  unfold wordQ isK txt
  simp
 have go : ∀ l : List (List UInt8), s ∈ l → opQ ((0, s) :: (3, [40]) :: L) 0 false l = s := by
  intro l
  induction l with
  | nil => intro h; cases h
  | cons t l ih =>
   intro h
   rw [opQ, hw]
   by_cases e : s = t
   ·subst e
    rw [if_pos (by simp)]
   ·rw [if_neg (by simpa using e)]
    exact ih ((List.mem_cons.1 h).resolve_left e)
 exact go _ hs
theorem top_distinct (L : List V) (x : Nod) (h : topQ L = (x, L.length, false)) : topQ ((0, sDistinct) :: (3, [40]) :: (L ++ [(3, [41])])) = (.mk sDistinct [] [x], L.length + 3, false) := by
 unfold topQ
 rw [show ((0, sDistinct) :: (3, [40]) :: (L ++ [(3, [41])]) : List V).length + 1 = (L.length + 3) + 1 by simp, qq, op_at (by decide), if_neg (by decide)]
 have hq := qq_within [(0, sDistinct), (3, [40])] L [(3, [41])] x h ⟨[], .inl rfl⟩ (L.length + 3 + 1) (by simp; omega)
 have hq' : qq ((0, sDistinct) :: (3, [40]) :: (L ++ [(3, [41])])) (L.length + 3) (0 + 2) false = (x, L.length + 2, false) := by
  have e := qq_steps ((0, sDistinct) :: (3, [40]) :: (L ++ [(3, [41])])) (L.length + 3) (L.length + 3 + 1) 2 false (by simp) (by simp) (by simp)
  rw [e]
  have : ([(0, sDistinct), (3, [40])] : List V).length + L.length = L.length + 2 := by simp; omega
  rw [this] at hq
  exact hq
 rw [hq']
 dsimp only
 unfold tailQ
 rw [if_neg (by decide), if_pos rfl]
 have hm := must_at ((0, sDistinct) :: (3, [40]) :: L) [] (L.length + 2) (by simp) [41]
 have hm' : mustQ ((0, sDistinct) :: (3, [40]) :: (L ++ [(3, [41])])) (L.length + 2) false [41] = (L.length + 3, false) := hm
 rw [hm']
theorem loop_shut {L : List V} {el : Nat → Bool → Res} {i : Nat} (h : isW L i false [41] = true) (f : Nat) : loopQ L el (f + 1) false i false = ([], i + 1, false) := by
 have e : moreQ L i false false = (false, i + 1, false) := by
  unfold moreQ
  rw [if_neg (by simp), if_pos h]
 rw [loopQ, e, if_pos rfl]
theorem top_union (L M : List V) (x y : Nod) (h : topQ L = (x, L.length, false)) (h' : topQ M = (y, M.length, false)) : topQ ((0, sUnion) :: (3, [40]) :: (L ++ (3, [44]) :: (M ++ [(3, [41])]))) = (.mk sUnion [] [x, y], L.length + M.length + 4, false) := by
 obtain ⟨K, hK⟩ : ∃ K : List V, (0, sUnion) :: (3, [40]) :: (L ++ (3, [44]) :: (M ++ [(3, [41])])) = K := ⟨_, rfl⟩
 have hKl : K.length = L.length + M.length + 4 := by rw [← hK]; simp; omega
 have hx : ∀ f, K.length < f → qq K f 2 false = (x, L.length + 2, false) := by
  intro f hf
  have hq := qq_within [(0, sUnion), (3, [40])] L ((3, [44]) :: (M ++ [(3, [41])])) x h ⟨_, .inr rfl⟩ f (by rw [hKl] at hf; simp; omega)
  have e : ([(0, sUnion), (3, [40])] : List V).length + L.length = L.length + 2 := by simp; omega
  rw [e] at hq
  rw [← hK]
  exact hq
 have hy : ∀ f, K.length < f → qq K f (L.length + 3) false = (y, L.length + M.length + 3, false) := by
  intro f hf
  have hq := qq_within ((0, sUnion) :: (3, [40]) :: (L ++ [(3, [44])])) M [(3, [41])] y h' ⟨_, .inl rfl⟩ f (by rw [hKl] at hf; simp; omega)
  have e1 : ((0, sUnion) :: (3, [40]) :: (L ++ [(3, [44])]) : List V).length = L.length + 3 := by simp
  rw [e1, show L.length + 3 + M.length = L.length + M.length + 3 by omega] at hq
  rw [← hK]
  have e2 : ((0, sUnion) :: (3, [40]) :: (L ++ [(3, [44])]) ++ (M ++ [(3, [41])]) : List V) = (0, sUnion) :: (3, [40]) :: (L ++ (3, [44]) :: (M ++ [(3, [41])])) := by simp
  rw [e2] at hq
  exact hq
 have hx' : ∀ f, K.length - 2 < f → qq K f 2 false = (x, L.length + 2, false) := by
  intro f hf
  rw [qq_steps K f (K.length + 1) 2 false (by omega) (by omega) (by omega)]
  exact hx _ (by omega)
 have hy' : ∀ f, K.length - (L.length + 3) < f → qq K f (L.length + 3) false = (y, L.length + M.length + 3, false) := by
  intro f hf
  rw [qq_steps K f (K.length + 1) (L.length + 3) false (by omega) (by omega) (by omega)]
  exact hy _ (by omega)
 have ho : opQ K 0 false opsQ = sUnion := by rw [← hK]; exact op_at (by decide) _
 have hc : isW K (L.length + 2) false [44] = true := by
  have := isW_here ((0, sUnion) :: (3, [40]) :: L) (M ++ [(3, [41])]) (L.length + 2) (by simp) [44]
  rw [← hK]
  exact this
 have hs : isW K (L.length + M.length + 3) false [41] = true := by
  have := isW_here ((0, sUnion) :: (3, [40]) :: (L ++ (3, [44]) :: M)) [] (L.length + M.length + 3) (by simp; omega) [41]
  rw [← hK]
  simpa using this
 have hmo : moreQ K (L.length + 2) false true = (true, L.length + 3, false) := by
  unfold moreQ mustQ
  rw [if_pos rfl, if_pos hc]
  rfl
 rw [hK]
 unfold topQ
 rw [qq, ho, if_neg (by decide), hx' _ (by omega)]
 dsimp only
 unfold tailQ
 rw [if_neg (by decide), if_neg (by decide), if_neg (by decide), if_pos rfl]
 have hl : loopQ K (qq K K.length) (K.length + 1) true (L.length + 2) false = ([y], L.length + M.length + 4, false) := by
  rw [show K.length + 1 = (L.length + M.length + 3) + 1 + 1 by omega, loopQ, hmo, if_neg (by simp)]
  dsimp only
  rw [hy' _ (by omega)]
  dsimp only
  rw [loop_shut hs]
 rw [hl]
theorem parse_distinct (s : List UInt8) (x : Nod) (h : parseQ s = (x, 0, 0)) : parseQ (sDistinct ++ 40 :: (s ++ [41])) = if 15 < x.deep then (zeroN, 0, 92) else (.mk sDistinct [] [x], 0, 0) := by
 obtain ⟨l, hw, ht, _, hd⟩ := parseQ_ok h
 unfold parseQ
 rw [words_distinct s l hw]
 have hb : bare ((0, sDistinct, 0) :: (3, [40], 8) :: (onW 9 l ++ [(3, [41], 9 + (s.length : Int))])) = (0, sDistinct) :: (3, [40]) :: (bare l ++ [(3, [41])]) := by
  show (0, sDistinct) :: (3, [40]) :: bare (onW 9 l ++ [(3, [41], 9 + (s.length : Int))]) = _
  rw [bare_append, bare_on]
  rfl
 have e : (.mk sDistinct [] [x] : Nod).deep = x.deep + 1 := by simp [Nod.deep, Nod.deepL]
 have hm := parseQ_made (n := (sDistinct ++ 40 :: (s ++ [41])).length) (l := (0, sDistinct, 0) :: (3, [40], 8) :: (onW 9 l ++ [(3, [41], 9 + (s.length : Int))])) (x := .mk sDistinct [] [x]) (by simp) (by
  rw [hb, top_distinct (bare l) x (by rw [ht, bare_length])]
  simp [bare_length, onW_length])
 dsimp only
 rw [hm, e]
 by_cases hc : 15 < x.deep
 ·rw [if_pos hc, if_pos (by omega)]
 ·rw [if_neg hc, if_neg (by omega)]
theorem parse_union (s t : List UInt8) (x y : Nod) (h : parseQ s = (x, 0, 0)) (h' : parseQ t = (y, 0, 0)) : parseQ (sUnion ++ 40 :: (s ++ 44 :: 32 :: (t ++ [41]))) = if 15 < max x.deep y.deep then (zeroN, 0, 92) else (.mk sUnion [] [x, y], 0, 0) := by
 obtain ⟨l, hw, ht, _, hd⟩ := parseQ_ok h
 obtain ⟨m, hw', ht', _, hd'⟩ := parseQ_ok h'
 unfold parseQ
 have h8 : wordsL t ((s.length + 8 : Nat) : Int) = .ok (onW ((s.length + 8 : Nat) : Int) m) := by
  have := words_on t 0 ((s.length + 8 : Nat) : Int)
  rw [hw', show (0 : Int) + ((s.length + 8 : Nat) : Int) = ((s.length + 8 : Nat) : Int) by omega] at this
  exact this
 rw [words_union s t l hw, words_end (.inr (.inl rfl)) [] t _ _ h8, words_shut1]
 dsimp only
 obtain ⟨p1, hp1⟩ : ∃ p : Int, 6 + (s.length : Int) = p := ⟨_, rfl⟩
 obtain ⟨p2, hp2⟩ : ∃ p : Int, ((s.length + 8 : Nat) : Int) + (t.length : Int) = p := ⟨_, rfl⟩
 rw [hp1, hp2]
 have hb : bare ((0, sUnion, 0) :: (3, [40], 5) :: (onW 6 l ++ (3, [44], p1) :: (onW ((s.length + 8 : Nat) : Int) m ++ [(3, [41], p2)]))) = (0, sUnion) :: (3, [40]) :: (bare l ++ (3, [44]) :: (bare m ++ [(3, [41])])) := by
  show (0, sUnion) :: (3, [40]) :: bare (onW 6 l ++ (3, [44], p1) :: (onW ((s.length + 8 : Nat) : Int) m ++ [(3, [41], p2)])) = _
  rw [bare_append, bare_on]
  show (0, sUnion) :: (3, [40]) :: (bare l ++ (3, [44]) :: bare (onW ((s.length + 8 : Nat) : Int) m ++ [(3, [41], p2)])) = _
  rw [bare_append, bare_on]
  rfl
 have e : (.mk sUnion [] [x, y] : Nod).deep = max x.deep y.deep + 1 := by simp [Nod.deep, Nod.deepL]
 have hm := parseQ_made (n := (sUnion ++ 40 :: (s ++ 44 :: 32 :: (t ++ [41]))).length) (l := (0, sUnion, 0) :: (3, [40], 5) :: (onW 6 l ++ (3, [44], p1) :: (onW ((s.length + 8 : Nat) : Int) m ++ [(3, [41], p2)]))) (x := .mk sUnion [] [x, y]) (by simp) (by
  rw [hb, top_union (bare l) (bare m) x y (by rw [ht, bare_length]) (by rw [ht', bare_length])]
  simp [bare_length, onW_length]
  omega)
 rw [hm, e]
 by_cases hc : 15 < max x.deep y.deep
 ·rw [if_pos hc, if_pos (by omega)]
 ·rw [if_neg hc, if_neg (by omega)]
theorem parse_union_bad (s t : List UInt8) (x : Nod) (j : Int) (h : parseQ s = (x, 0, 0)) (h' : (parseQ t).2 = (j, 81)) : parseQ (sUnion ++ 40 :: (s ++ 44 :: 32 :: (t ++ [41]))) = (zeroN, j + (s.length + 8 : Nat), 81) := by
 obtain ⟨l, hw, ht, _, hd⟩ := parseQ_ok h
 have hwt : wordsL t 0 = .error j := by
  unfold parseQ at h'
  cases hw' : wordsL t 0 with
  | error i => rw [hw'] at h'; injection h' with h'; rw [h']
  | ok m =>
   rw [hw'] at h'
   dsimp only at h'
   unfold parseQW at h'
   split at h'
   ·cases h'
   split at h'
   ·cases h'
   split at h' <;> cases h'
 unfold parseQ
 have h8 : wordsL t ((s.length + 8 : Nat) : Int) = .error (j + (s.length + 8 : Nat)) := by
  have := words_on t 0 ((s.length + 8 : Nat) : Int)
  rw [hwt, show (0 : Int) + ((s.length + 8 : Nat) : Int) = ((s.length + 8 : Nat) : Int) by omega] at this
  exact this
 rw [words_union s t l hw, words_end_bad (.inr (.inl rfl)) [] (by simp) t _ _ h8]
theorem parseQ_cases (s : List UInt8) : ((parseQ s).2.2 = 0 ∨ (parseQ s).2.2 = 81 ∨ (parseQ s).2.2 = 91 ∨ (parseQ s).2.2 = 92) ∧ ((parseQ s).2.2 ≠ 0 → (parseQ s).1 = zeroN) ∧ ((parseQ s).2.2 = 0 → (parseQ s).2.1 = 0) := by
 unfold parseQ
 cases hw : wordsL s 0 with
 | error j => exact ⟨.inr (.inl rfl), fun _ => rfl, fun h => by cases h⟩
 | ok l =>
  dsimp only
  unfold parseQW
  split
  ·exact ⟨.inr (.inr (.inl rfl)), fun _ => rfl, fun h => by cases h⟩
  split
  ·exact ⟨.inr (.inr (.inl rfl)), fun _ => rfl, fun h => by cases h⟩
  split
  ·exact ⟨.inr (.inr (.inr rfl)), fun _ => rfl, fun h => by cases h⟩
  ·exact ⟨.inl rfl, fun h => absurd rfl h, fun _ => rfl⟩
end Go.Proofs.YtjbpkpfmgbhlpaaGreatDoor.Code
