/-
  Queries of words in plain words: nodes with any Kids, what is read at a place, how many steps are enough. No program is named here.
-/
import Derived.Test.YtkibacolnagkcaaM6
import Derived.Test.YtkibacolnagkcaaChecked
import Derived.Test.YtkibacolnagkcaaM1
import Derived.WalkKit
import Derived.ProofKit
import Derived.Lib.Hide
import Derived.Below
import Derived.OwnWalk
import Derived.Deep.RegionHeld3
import Derived.WalkLawsBesides
import Derived.LoopTactic
namespace Go.Proofs.Ytkibacolnagkcaa.Code
open Val
set_option linter.unusedVariables false
/-- a node with any Kids -/
inductive Nod where
  | mk (op tx : List UInt8) (ks : List Nod)
def Nod.op : Nod → List UInt8
  | .mk o _ _ => o
def Nod.tx : Nod → List UInt8
  | .mk _ t _ => t
def Nod.ks : Nod → List Nod
  | .mk _ _ k => k
mutual
def Nod.deep : Nod → Nat
  | .mk _ _ ks => Nod.deepL ks + 1
def Nod.deepL : List Nod → Nat
  | [] => 0
  | t :: l => max t.deep (Nod.deepL l)
end
def Tr.n : Tr → Nod
  | .leaf o t => .mk o t []
  | .one o a => .mk o [] [a.n]
  | .two o a b => .mk o [] [a.n, b.n]
theorem Tr.n_deep : ∀ t : Tr, t.n.deep = t.deep
  | .leaf o t => by simp [Tr.n, Nod.deep, Nod.deepL, Tr.deep]
  | .one o a => by simp [Tr.n, Nod.deep, Nod.deepL, Tr.deep, Tr.n_deep a]
  | .two o a b => by simp [Tr.n, Nod.deep, Nod.deepL, Tr.deep, Tr.n_deep a, Tr.n_deep b]
def zeroN : Nod := .mk [] [] []
def sFilter : List UInt8 := [102, 105, 108, 116, 101, 114]
def sProject : List UInt8 := [112, 114, 111, 106, 101, 99, 116]
def sJoin : List UInt8 := [106, 111, 105, 110]
def sUnion : List UInt8 := [117, 110, 105, 111, 110]
def sDistinct : List UInt8 := [100, 105, 115, 116, 105, 110, 99, 116]
def sGroup : List UInt8 := [103, 114, 111, 117, 112]
def sBy : List UInt8 := [98, 121]
def sCount : List UInt8 := [99, 111, 117, 110, 116]
def sSum : List UInt8 := [115, 117, 109]
def sMin : List UInt8 := [109, 105, 110]
def sMax : List UInt8 := [109, 97, 120]
def sFrom : List UInt8 := [102, 114, 111, 109]
def sItem : List UInt8 := [105, 116, 101, 109]
def sOn : List UInt8 := [111, 110]
def sAgg : List UInt8 := [97, 103, 103]
/-- what a part answers: a node, the place behind it, whether it is wrong -/
abbrev Res := Nod × Nat × Bool
abbrev Ress := List Nod × Nat × Bool
/-- a name that is none of the language's own -/
def nmQ (L : List V) (i : Nat) (b : Bool) : List UInt8 × Nat × Bool := if (isK L i b 0 && !ownL (txt L i)) = true then (txt L i, i + 1, b) else ([], i, true)
/-- a mark that must come -/
def mustQ (L : List V) (i : Nat) (b : Bool) (s : List UInt8) : Nat × Bool := if isW L i b s = true then (i + 1, b) else (i, true)
def wordQ (L : List V) (i : Nat) (b : Bool) (s m : List UInt8) : Bool := isK L i b 0 && (txt L i == s && L[i + 1]? == some (3, m))
def opsQ : List (List UInt8) := [sFilter, sProject, sJoin, sUnion, sDistinct, sGroup]
def opQ (L : List V) (i : Nat) (b : Bool) : List (List UInt8) → List UInt8
  | [] => []
  | s :: l => if wordQ L i b s [40] = true then s else opQ L i b l
def moreQ (L : List V) (i : Nat) (b first : Bool) : Bool × Nat × Bool :=
  if first = true then (!(mustQ L i b [44]).2, mustQ L i b [44])
  else if isW L i b [41] = true then (false, i + 1, b)
  else if b = true then (false, i, true)
  else (!(mustQ L i b [44]).2, mustQ L i b [44])
def exprQ (L : List V) (i : Nat) (b : Bool) : Tr × Nat × Bool := P L (stepsN L) (.expr 1) i b
def itemQ (L : List V) (i : Nat) (b : Bool) : Res :=
  (.mk sItem (nmQ L i b).1 [(exprQ L (mustQ L (nmQ L i b).2.1 (nmQ L i b).2.2 [61]).1 (mustQ L (nmQ L i b).2.1 (nmQ L i b).2.2 [61]).2).1.n],
    (exprQ L (mustQ L (nmQ L i b).2.1 (nmQ L i b).2.2 [61]).1 (mustQ L (nmQ L i b).2.1 (nmQ L i b).2.2 [61]).2).2)
def pairQ (L : List V) (i : Nat) (b : Bool) : Res :=
  (.mk sOn (nmQ L i b).1 [.mk sCol (nmQ L (mustQ L (nmQ L i b).2.1 (nmQ L i b).2.2 [61]).1 (mustQ L (nmQ L i b).2.1 (nmQ L i b).2.2 [61]).2).1 []],
    (nmQ L (mustQ L (nmQ L i b).2.1 (nmQ L i b).2.2 [61]).1 (mustQ L (nmQ L i b).2.1 (nmQ L i b).2.2 [61]).2).2)
def aggOps : List (List UInt8) := [sCount, sSum, sMin, sMax]
def kindQ (L : List V) (i : Nat) (b : Bool) : List (List UInt8) → List UInt8
  | [] => []
  | s :: l => if (isK L i b 0 && txt L i == s) = true then s else kindQ L i b l
/-- what an Agg has in its brackets -/
def argQ (L : List V) (o : List UInt8) (i : Nat) (b : Bool) : List UInt8 × Nat × Bool := if o = sCount then ([], i, b) else nmQ L i b
def callQ (L : List V) (o : List UInt8) (i : Nat) (b : Bool) : List UInt8 × Nat × Bool :=
  ((argQ L o (mustQ L i b [40]).1 (mustQ L i b [40]).2).1, mustQ L (argQ L o (mustQ L i b [40]).1 (mustQ L i b [40]).2).2.1 (argQ L o (mustQ L i b [40]).1 (mustQ L i b [40]).2).2.2 [41])
def agg2Q (L : List V) (s : List UInt8) (i : Nat) (b : Bool) : Res :=
  if kindQ L i b aggOps = [] then (zeroN, i, true)
  else (.mk sAgg s [.mk (kindQ L i b aggOps) (callQ L (kindQ L i b aggOps) (i + 1) b).1 []], (callQ L (kindQ L i b aggOps) (i + 1) b).2)
def aggQ (L : List V) (i : Nat) (b : Bool) : Res := agg2Q L (nmQ L i b).1 (mustQ L (nmQ L i b).2.1 (nmQ L i b).2.2 [61]).1 (mustQ L (nmQ L i b).2.1 (nmQ L i b).2.2 [61]).2
/-- parts with commas between, up to the bracket -/
def loopQ (L : List V) (el : Nat → Bool → Res) : Nat → Bool → Nat → Bool → Ress
  | 0, _, i, b => ([], i, b)
  | f + 1, first, i, b =>
    if (moreQ L i b first).1 = false then ([], (moreQ L i b first).2)
    else ((el (moreQ L i b first).2.1 (moreQ L i b first).2.2).1 :: (loopQ L el f false (el (moreQ L i b first).2.1 (moreQ L i b first).2.2).2.1 (el (moreQ L i b first).2.1 (moreQ L i b first).2.2).2.2).1,
      (loopQ L el f false (el (moreQ L i b first).2.1 (moreQ L i b first).2.2).2.1 (el (moreQ L i b first).2.1 (moreQ L i b first).2.2).2.2).2)
def namesQ (L : List V) : Nat → Nat → Bool → Ress
  | 0, i, b => ([], i, b)
  | f + 1, i, b =>
    if isK L (nmQ L i b).2.1 (nmQ L i b).2.2 0 = true then (.mk sCol (nmQ L i b).1 [] :: (namesQ L f (nmQ L i b).2.1 (nmQ L i b).2.2).1, (namesQ L f (nmQ L i b).2.1 (nmQ L i b).2.2).2)
    else ([.mk sCol (nmQ L i b).1 []], (nmQ L i b).2)
/-- does a by come? -/
def hasQ (L : List V) (i : Nat) (b : Bool) : Bool := isK L i b 0 && (txt L i == sBy && !wordQ L i b sBy [61])
/-- the by, with the comma behind it; nothing, if none comes -/
def byQ (L : List V) (i : Nat) (b : Bool) : Res :=
  if hasQ L i b = true then (.mk sBy [] (namesQ L (L.length + 1) (i + 1) b).1, mustQ L (namesQ L (L.length + 1) (i + 1) b).2.1 (namesQ L (L.length + 1) (i + 1) b).2.2 [44])
  else (.mk sBy [] [], i, b)
/-- what a group has behind its query's comma -/
def groupQ (L : List V) (i : Nat) (b : Bool) : Ress :=
  ((byQ L i b).1 :: (aggQ L (byQ L i b).2.1 (byQ L i b).2.2).1 :: (loopQ L (aggQ L) (L.length + 1) false (aggQ L (byQ L i b).2.1 (byQ L i b).2.2).2.1 (aggQ L (byQ L i b).2.1 (byQ L i b).2.2).2.2).1,
    (loopQ L (aggQ L) (L.length + 1) false (aggQ L (byQ L i b).2.1 (byQ L i b).2.2).2.1 (aggQ L (byQ L i b).2.1 (byQ L i b).2.2).2.2).2)
/-- what stands behind the first query in the brackets -/
def tailQ (L : List V) (q : Nat → Bool → Res) (o : List UInt8) (i : Nat) (b : Bool) : Ress :=
  if o = sFilter then ([(exprQ L (mustQ L i b [44]).1 (mustQ L i b [44]).2).1.n], mustQ L (exprQ L (mustQ L i b [44]).1 (mustQ L i b [44]).2).2.1 (exprQ L (mustQ L i b [44]).1 (mustQ L i b [44]).2).2.2 [41])
  else if o = sDistinct then ([], mustQ L i b [41])
  else if o = sProject then loopQ L (itemQ L) (L.length + 1) true i b
  else if o = sUnion then loopQ L q (L.length + 1) true i b
  else if o = sJoin then
    ((q (mustQ L i b [44]).1 (mustQ L i b [44]).2).1 :: (loopQ L (pairQ L) (L.length + 1) true (q (mustQ L i b [44]).1 (mustQ L i b [44]).2).2.1 (q (mustQ L i b [44]).1 (mustQ L i b [44]).2).2.2).1,
      (loopQ L (pairQ L) (L.length + 1) true (q (mustQ L i b [44]).1 (mustQ L i b [44]).2).2.1 (q (mustQ L i b [44]).1 (mustQ L i b [44]).2).2.2).2)
  else groupQ L (mustQ L i b [44]).1 (mustQ L i b [44]).2
/-- a query, with so many of it in one another -/
def qq (L : List V) : Nat → Nat → Bool → Res
  | 0, i, b => (zeroN, i, b)
  | f + 1, i, b =>
    if opQ L i b opsQ = [] then (.mk sFrom (nmQ L i b).1 [], (nmQ L i b).2)
    else (.mk (opQ L i b opsQ) [] ((qq L f (i + 2) b).1 :: (tailQ L (qq L f) (opQ L i b opsQ) (qq L f (i + 2) b).2.1 (qq L f (i + 2) b).2.2).1),
      (tailQ L (qq L f) (opQ L i b opsQ) (qq L f (i + 2) b).2.1 (qq L f (i + 2) b).2.2).2)
/-! where parts end -/
def Ends (n i : Nat) (b : Bool) (r : Nat × Bool) : Prop := i ≤ r.1 ∧ r.1 ≤ n ∧ (b = true → r = (i, true))
theorem Ends.then {n i : Nat} {b : Bool} {r r' : Nat × Bool} (h : Ends n i b r) (h' : Ends n r.1 r.2 r') : Ends n i b r' :=
  ⟨Nat.le_trans h.1 h'.1, h'.2.1, fun hb => by
    have e := h.2.2 hb
    have e' := h'.2.2 (by rw [e])
    rw [e', e]⟩
theorem Ends.good {n i : Nat} {b : Bool} {r : Nat × Bool} (h : Ends n i b r) (hr : r.2 = false) : b = false := by
  cases b with
  | false => rfl
  | true => rw [h.2.2 rfl] at hr; cases hr
theorem Ends.refl {n i : Nat} {b : Bool} (h : i ≤ n) : Ends n i b (i, b) := ⟨Nat.le_refl _, h, fun hb => by rw [hb]⟩
theorem Ends.bad {n i : Nat} {b : Bool} (h : i ≤ n) : Ends n i b (i, true) := ⟨Nat.le_refl _, h, fun hb => rfl⟩
theorem Ends.step {n i k : Nat} {b : Bool} (h : i + k ≤ n) (hb : b = false) : Ends n i b (i + k, b) := ⟨Nat.le_add_right _ _, h, fun h => by rw [hb] at h; cases h⟩
section
variable {L : List V} {i : Nat} {b : Bool}
theorem nm_ends (h : i ≤ L.length) : Ends L.length i b (nmQ L i b).2 := by
  unfold nmQ
  split
  · rename_i hs
    have hs := (Bool.and_eq_true _ _ ▸ hs).1
    have := isK_lt hs
    exact Ends.step (by omega) this.2
  · exact Ends.bad h
theorem must_ends {s : List UInt8} (h : i ≤ L.length) : Ends L.length i b (mustQ L i b s) := by
  unfold mustQ
  split
  · rename_i hs
    have := isW_lt hs
    exact Ends.step (by omega) (isW_good hs)
  · exact Ends.bad h
theorem more_ends {first : Bool} (h : i ≤ L.length) : Ends L.length i b (moreQ L i b first).2 := by
  unfold moreQ
  split
  · exact must_ends h
  split
  · rename_i hs
    have := isW_lt hs
    exact Ends.step (by omega) (isW_good hs)
  split
  · exact Ends.bad h
  · exact must_ends h
theorem expr_ends (h : i ≤ L.length) : Ends L.length i b (exprQ L i b).2 := P_ends L (stepsN L) (.expr 1) i b h
theorem item_ends (h : i ≤ L.length) : Ends L.length i b (itemQ L i b).2 := by
  have h1 := nm_ends (b := b) h
  have h2 := must_ends (b := (nmQ L i b).2.2) (s := [61]) h1.2.1
  exact (h1.then h2).then (expr_ends h2.2.1)
theorem pair_ends (h : i ≤ L.length) : Ends L.length i b (pairQ L i b).2 := by
  have h1 := nm_ends (b := b) h
  have h2 := must_ends (b := (nmQ L i b).2.2) (s := [61]) h1.2.1
  exact (h1.then h2).then (nm_ends h2.2.1)
theorem arg_ends {o : List UInt8} (h : i ≤ L.length) : Ends L.length i b (argQ L o i b).2 := by
  unfold argQ
  split
  · exact Ends.refl h
  · exact nm_ends h
theorem call_ends {o : List UInt8} (h : i ≤ L.length) : Ends L.length i b (callQ L o i b).2 := by
  have h1 := must_ends (b := b) (s := [40]) h
  have h2 := arg_ends (b := (mustQ L i b [40]).2) (o := o) h1.2.1
  exact (h1.then h2).then (must_ends h2.2.1)
theorem kind_some : ∀ {l : List (List UInt8)}, kindQ L i b l ≠ [] → isK L i b 0 = true ∧ txt L i = kindQ L i b l ∧ kindQ L i b l ∈ l
  | [], h => absurd rfl h
  | s :: l, h => by
    rw [kindQ] at h ⊢
    split
    · rename_i hs
      simp only [Bool.and_eq_true, beq_iff_eq] at hs
      exact ⟨hs.1, hs.2, List.mem_cons_self ..⟩
    · rename_i hs
      rw [if_neg hs] at h
      have ih := kind_some (l := l) h
      exact ⟨ih.1, ih.2.1, List.mem_cons_of_mem _ ih.2.2⟩
theorem agg2_ends {s : List UInt8} (h : i ≤ L.length) : Ends L.length i b (agg2Q L s i b).2 := by
  unfold agg2Q
  split
  · exact Ends.bad h
  · rename_i hk
    have hs := isK_lt (kind_some hk).1
    exact (Ends.step (k := 1) (by omega) hs.2).then (call_ends (by omega))
theorem agg_ends (h : i ≤ L.length) : Ends L.length i b (aggQ L i b).2 := by
  have h1 := nm_ends (b := b) h
  have h2 := must_ends (b := (nmQ L i b).2.2) (s := [61]) h1.2.1
  exact (h1.then h2).then (agg2_ends h2.2.1)
theorem loop_ends {el : Nat → Bool → Res} (he : ∀ j c, j ≤ L.length → Ends L.length j c (el j c).2) : ∀ (f : Nat) (first : Bool) (i : Nat) (b : Bool), i ≤ L.length → Ends L.length i b (loopQ L el f first i b).2
  | 0, _, i, b, h => Ends.refl h
  | f + 1, first, i, b, h => by
    have h1 := more_ends (b := b) (first := first) h
    rw [loopQ]
    split
    · exact h1
    · have h2 := he _ (moreQ L i b first).2.2 h1.2.1
      exact (h1.then h2).then (loop_ends he f false _ _ h2.2.1)
theorem names_ends : ∀ (f i : Nat) (b : Bool), i ≤ L.length → Ends L.length i b (namesQ L f i b).2
  | 0, i, b, h => Ends.refl h
  | f + 1, i, b, h => by
    have h1 := nm_ends (b := b) h
    rw [namesQ]
    split
    · exact h1.then (names_ends f _ _ h1.2.1)
    · exact h1
theorem by_ends (h : i ≤ L.length) : Ends L.length i b (byQ L i b).2 := by
  unfold byQ
  split
  · rename_i hs
    unfold hasQ at hs
    have hs := isK_lt (Bool.and_eq_true _ _ ▸ hs).1
    have h1 : Ends L.length i b (i + 1, b) := Ends.step (by omega) hs.2
    have h2 := names_ends (L := L) (L.length + 1) (i + 1) b (by omega)
    exact (h1.then h2).then (must_ends h2.2.1)
  · exact Ends.refl h
theorem group_ends (h : i ≤ L.length) : Ends L.length i b (groupQ L i b).2 := by
  have h1 := by_ends (b := b) h
  have h2 := agg_ends (b := (byQ L i b).2.2) h1.2.1
  exact (h1.then h2).then (loop_ends (fun j c hj => agg_ends hj) _ _ _ _ h2.2.1)
theorem tail_ends {q : Nat → Bool → Res} (hq : ∀ j c, j ≤ L.length → Ends L.length j c (q j c).2) {o : List UInt8} (h : i ≤ L.length) : Ends L.length i b (tailQ L q o i b).2 := by
  have h1 := must_ends (b := b) (s := [44]) h
  unfold tailQ
  split
  · have h2 := expr_ends (b := (mustQ L i b [44]).2) h1.2.1
    exact (h1.then h2).then (must_ends h2.2.1)
  split
  · exact must_ends h
  split
  · exact loop_ends (fun j c hj => item_ends hj) _ _ _ _ h
  split
  · exact loop_ends hq _ _ _ _ h
  split
  · have h2 := hq _ (mustQ L i b [44]).2 h1.2.1
    exact (h1.then h2).then (loop_ends (fun j c hj => pair_ends hj) _ _ _ _ h2.2.1)
  · exact h1.then (group_ends h1.2.1)
theorem word_lt {s m : List UInt8} (h : wordQ L i b s m = true) : i + 2 ≤ L.length ∧ b = false := by
  unfold wordQ at h
  simp only [Bool.and_eq_true, beq_iff_eq] at h
  obtain ⟨h1, h2, h3⟩ := h
  have := (List.getElem?_eq_some_iff.1 h3).1
  exact ⟨this, (isK_lt h1).2⟩
theorem op_some : ∀ {l : List (List UInt8)}, opQ L i b l ≠ [] → wordQ L i b (opQ L i b l) [40] = true ∧ opQ L i b l ∈ l
  | [], h => absurd rfl h
  | s :: l, h => by
    rw [opQ] at h ⊢
    split
    · rename_i hs
      exact ⟨hs, List.mem_cons_self ..⟩
    · rename_i hs
      rw [if_neg hs] at h
      have ih := op_some (l := l) h
      exact ⟨ih.1, List.mem_cons_of_mem _ ih.2⟩
theorem op_lt {l : List (List UInt8)} (h : opQ L i b l ≠ []) : i + 2 ≤ L.length ∧ b = false := word_lt (op_some h).1
end
theorem qq_ends (L : List V) : ∀ (f i : Nat) (b : Bool), i ≤ L.length → Ends L.length i b (qq L f i b).2
  | 0, i, b, h => Ends.refl h
  | f + 1, i, b, h => by
    rw [qq]
    split
    · exact nm_ends h
    · rename_i ho
      have hs := op_lt ho
      have h1 := qq_ends L f (i + 2) b hs.1
      exact ((Ends.step (k := 2) hs.1 hs.2).then h1).then (tail_ends (fun j c hj => qq_ends L f j c hj) h1.2.1)
/-! how many steps are enough -/
theorem more_lt {L : List V} {i : Nat} {b first : Bool} (h : (moreQ L i b first).1 = true) : i < L.length ∧ b = false ∧ (moreQ L i b first).2 = (i + 1, false) := by
  have hm : ∀ c : Bool, (!(mustQ L i c [44]).2) = true → i < L.length ∧ c = false ∧ mustQ L i c [44] = (i + 1, false) := by
    intro c hc
    unfold mustQ at hc ⊢
    split at hc
    · rename_i hs
      have h1 := isW_good hs
      rw [if_pos hs]
      exact ⟨isW_lt hs, h1, by rw [h1]⟩
    · cases hc
  unfold moreQ at h ⊢
  by_cases c1 : first = true
  · rw [if_pos c1] at h ⊢
    exact hm b h
  rw [if_neg c1] at h ⊢
  by_cases c2 : isW L i b [41] = true
  · rw [if_pos c2] at h
    cases h
  rw [if_neg c2] at h ⊢
  by_cases c3 : b = true
  · rw [if_pos c3] at h
    cases h
  rw [if_neg c3] at h ⊢
  exact hm b h
theorem loop_steps {L : List V} {el el' : Nat → Bool → Res} (he : ∀ j c, j ≤ L.length → Ends L.length j c (el j c).2) (i0 : Nat) (hel : ∀ j c, i0 ≤ j → j ≤ L.length → el j c = el' j c) : ∀ (f g : Nat) (first : Bool) (i : Nat) (b : Bool), i0 ≤ i → i ≤ L.length → L.length - i < f → L.length - i < g → loopQ L el f first i b = loopQ L el' g first i b
  | 0, _, _, _, _, _, _, h, _ => absurd h (Nat.not_lt_zero _)
  | _, 0, _, _, _, _, _, _, h => absurd h (Nat.not_lt_zero _)
  | f + 1, g + 1, first, i, b, h0, h, hf, hg => by
    rw [loopQ, loopQ]
    cases hm : (moreQ L i b first).1 with
    | false => simp
    | true =>
      have h1 := more_lt hm
      rw [h1.2.2]
      have hE := he (i + 1) false (by omega)
      rw [← hel (i + 1) false (by omega) (by omega)]
      have hi1 := hE.1
      dsimp only at hi1 ⊢
      rw [loop_steps he i0 hel f g false _ _ (by omega) hE.2.1 (by omega) (by omega)]
theorem names_steps {L : List V} : ∀ (f g i : Nat) (b : Bool), i ≤ L.length → L.length - i < f → L.length - i < g → namesQ L f i b = namesQ L g i b
  | 0, _, _, _, _, h, _ => absurd h (Nat.not_lt_zero _)
  | _, 0, _, _, _, _, h => absurd h (Nat.not_lt_zero _)
  | f + 1, g + 1, i, b, h, hf, hg => by
    rw [namesQ, namesQ]
    split
    · rename_i hk
      have h1 := (isK_lt hk).2
      have h2 : i < (nmQ L i b).2.1 := by
        unfold nmQ at h1 ⊢
        split at h1
        · rename_i hs
          rw [if_pos hs]
          exact Nat.lt_succ_self _
        · cases h1
      have hE := nm_ends (b := b) h
      have h3 := hE.2.1
      rw [names_steps f g _ _ hE.2.1 (by omega) (by omega)]
    · rfl
theorem tail_steps {L : List V} {q q' : Nat → Bool → Res} (hq : ∀ j c, j ≤ L.length → Ends L.length j c (q j c).2) {o : List UInt8} {i : Nat} {b : Bool} (h : i ≤ L.length) (hqq : ∀ j c, i ≤ j → j ≤ L.length → q j c = q' j c) : tailQ L q o i b = tailQ L q' o i b := by
  have h1 := must_ends (b := b) (s := [44]) h
  unfold tailQ
  split
  · rfl
  split
  · rfl
  split
  · rfl
  split
  · exact loop_steps hq i hqq _ _ _ _ _ (Nat.le_refl _) h (by omega) (by omega)
  split
  · rw [hqq _ _ h1.1 h1.2.1]
  · rfl
theorem qq_steps (L : List V) : ∀ (f g i : Nat) (b : Bool), i ≤ L.length → L.length - i < f → L.length - i < g → qq L f i b = qq L g i b
  | 0, _, _, _, _, h, _ => absurd h (Nat.not_lt_zero _)
  | _, 0, _, _, _, _, h => absurd h (Nat.not_lt_zero _)
  | f + 1, g + 1, i, b, h, hf, hg => by
    rw [qq, qq]
    split
    · rfl
    · rename_i ho
      have hs := op_lt ho
      have h1 := qq_ends L f (i + 2) b hs.1
      have hi1 := h1.1
      rw [← qq_steps L f g (i + 2) b hs.1 (by omega) (by omega)]
      rw [tail_steps (q := qq L f) (q' := qq L g) (fun j c hj => qq_ends L f j c hj) h1.2.1 (fun j c hij hj => qq_steps L f g j c hj (by omega) (by omega))]
end Go.Proofs.Ytkibacolnagkcaa.Code
/-
  What walks need of every seat; no function of the program is named (cut out of CodeVal).
-/
namespace Go.Proofs.Ytkibacolnagkcaa.Val
open Go.ChangeShapes Go.WideShapes Go.ChangeAt Go.RowKit
set_option linter.unusedVariables false

theorem ret1 {k : IntKind} {a c : Int} (h : a = c) : Ending.returned (.int k a) = .returned (.int k c) := by rw [h]
theorem retB {a c : Bool} (h : a = c) : Ending.returned (.bool a) = .returned (.bool c) := by rw [h]
theorem ret2 {k l : IntKind} {a b c d : Int} (h : a = c) (g : b = d) : Ending.returned (.tuple #[.int k a, .int l b]) = .returned (.tuple #[.int k c, .int l d]) := by rw [h, g]
theorem below_alloc (W : World) (o : Obj) : Below W.heap.size W (W.alloc o) := (Below.refl _ _).alloc (Nat.le_refl _) o
theorem bnext {B : Nat} {w W W' : World} (h : Below B w W) (hB : B ≤ W.heap.size) (hb : Below W.heap.size W W') : Below B w W' := h.trans (hb.mono hB)
theorem bcell {W w1 : World} (hb : Below W.heap.size W w1) : (∀ b o, b < W.heap.size → w1.cell? ⟨b, o, none⟩ = W.cell? ⟨b, o, none⟩) ∧ (∀ b o, b < W.heap.size → w1.frozen? ⟨b, o, none⟩ = W.frozen? ⟨b, o, none⟩) :=
  ⟨fun b o h => hb.cell (p := ⟨b, o, none⟩) h, fun b o h => hb.frozen (p := ⟨b, o, none⟩) h⟩

theorem right_empty (k n : Int) : rightB k n ⟨#[]⟩ = if k = 4 then decide (n = 0) else if k = 0 then decide (n = 0) else holdsB k n := by
  unfold rightB
  rw [show (⟨#[]⟩ : ByteArray).size = 0 from rfl]
  simp
/-- what was there when a region began is there behind each call that makes memory of its own alone -/
theorem keepK {C : Prop} {W w1 w2 : World} (hb : Below w1.heap.size w1 w2) (h : C ∧ Below W.heap.size W w1) {C' : Prop}
    (hC : (∀ b o, b < W.heap.size → w2.cell? ⟨b, o, none⟩ = W.cell? ⟨b, o, none⟩) → C') : C' ∧ Below W.heap.size W w2 := by
  have hB := h.2.trans (hb.mono h.2.size)
  exact ⟨hC fun b o hl => hB.cell (p := ⟨b, o, none⟩) hl, hB⟩
theorem keepA {C : Prop} {W w1 : World} (o : Obj) (h : C ∧ Below W.heap.size W w1) {C' : Prop}
    (hC : (∀ b o', b < W.heap.size → (w1.alloc o).cell? ⟨b, o', none⟩ = W.cell? ⟨b, o', none⟩) → C') : C' ∧ Below W.heap.size W (w1.alloc o) :=
  keepK ((Below.refl _ _).alloc (Nat.le_refl _) o) h hC
theorem keepD {C : Prop} {W w1 : World} {o : Obj} (h : C ∧ Below W.heap.size W w1.drew) {C' : Prop}
    (hC : (∀ b i, b < W.heap.size → (w1.alloc o).drew.cell? ⟨b, i, none⟩ = W.cell? ⟨b, i, none⟩) → C') : C' ∧ Below W.heap.size W (w1.alloc o).drew := by
  have h1 : Below W.heap.size W w1 := ⟨h.2.os, h.2.tape, h.2.output, h.2.size, h.2.block⟩
  have hB : Below W.heap.size W (w1.alloc o).drew := Below.drew (h1.alloc h1.size o)
  exact ⟨hC fun b i hl => hB.cell (p := ⟨b, i, none⟩) hl, hB⟩

/-- a value's three cells at the beginning of a block -/
def Box (W : World) (b : Nat) (k n : Int) (s : ByteArray) : Prop := W.cell? ⟨b, 0, none⟩ = some (.int .i64 k) ∧ W.cell? ⟨b, 1, none⟩ = some (.int .i64 n) ∧ W.cell? ⟨b, 2, none⟩ = some (.string s) ∧ b < W.heap.size
theorem Box.call {W W' : World} {b : Nat} {k n : Int} {s : ByteArray} (h : Box W b k n s) (hb : Below W.heap.size W W') : Box W' b k n s := by
  obtain ⟨h0, h1, h2, h3⟩ := h
  exact ⟨by rw [hb.cell (p := ⟨b, 0, none⟩) h3]; exact h0, by rw [hb.cell (p := ⟨b, 1, none⟩) h3]; exact h1, by rw [hb.cell (p := ⟨b, 2, none⟩) h3]; exact h2, Nat.lt_of_lt_of_le h3 hb.size⟩
theorem Box.alloc {W : World} {b : Nat} {k n : Int} {s : ByteArray} (h : Box W b k n s) (o : Obj) : Box (W.alloc o) b k n s := h.call (below_alloc W o)
theorem Box.fresh (W : World) (k n : Int) (s : ByteArray) (t : TypeId) : Box (W.alloc (.cells #[.int .i64 k, .int .i64 n, .string s] t)) W.heap.size k n s := ⟨by simp [go_sem], by simp [go_sem], by simp [go_sem], by simp⟩

end Go.Proofs.Ytkibacolnagkcaa.Val
