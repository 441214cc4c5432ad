/-
  Queries of words in plain words: nodes with any Kids, what is read at a place, how many steps are enough. No program is named here.
-/
import Derived.Test.YtjbpkpfmgbhlpaaGreatDoorMs1
import Derived.Test.YtjbpkpfmgbhlpaaGreatDoorMs3
import Derived.Test.YtjbpkpfmgbhlpaaGreatDoorMs2
import Derived.Deep.RegionHeld3
set_option maxRecDepth 100000
set_option maxHeartbeats 16000000
open Go.Lib (hid)
namespace Go.Proofs.YtjbpkpfmgbhlpaaGreatDoor.Code
open Val
set_option linter.unusedVariables false
inductive Nod where
 | mk (op tx : List UInt8) (ks : List Nod)
def Nod.op : Nod → List UInt8
 | .mk o _ _ => o
def Nod.tx : Nod → List UInt8
 | .mk _ t _ => t
def Nod.ks : Nod → List Nod
 | .mk _ _ k => k
mutual
def Nod.deep : Nod → Nat
 | .mk _ _ ks => Nod.deepL ks + 1
def Nod.deepL : List Nod → Nat
 | [] => 0
 | t :: l => max t.deep (Nod.deepL l)
end
def Tr.n : Tr → Nod
 | .leaf o t => .mk o t []
 | .one o a => .mk o [] [a.n]
 | .two o a b => .mk o [] [a.n, b.n]
theorem Tr.n_deep : ∀ t : Tr, t.n.deep = t.deep
 | .leaf o t => by simp [Tr.n, Nod.deep, Nod.deepL, Tr.deep]
 | .one o a => by simp [Tr.n, Nod.deep, Nod.deepL, Tr.deep, Tr.n_deep a]
 | .two o a b => by simp [Tr.n, Nod.deep, Nod.deepL, Tr.deep, Tr.n_deep a, Tr.n_deep b]
def zeroN : Nod := .mk [] [] []
def sFilter : List UInt8 := [102, 105, 108, 116, 101, 114]
def sProject : List UInt8 := [112, 114, 111, 106, 101, 99, 116]
def sJoin : List UInt8 := [106, 111, 105, 110]
def sUnion : List UInt8 := [117, 110, 105, 111, 110]
def sDistinct : List UInt8 := [100, 105, 115, 116, 105, 110, 99, 116]
def sGroup : List UInt8 := [103, 114, 111, 117, 112]
def sBy : List UInt8 := [98, 121]
def sCount : List UInt8 := [99, 111, 117, 110, 116]
def sSum : List UInt8 := [115, 117, 109]
def sMin : List UInt8 := [109, 105, 110]
def sMax : List UInt8 := [109, 97, 120]
def sFrom : List UInt8 := [102, 114, 111, 109]
def sItem : List UInt8 := [105, 116, 101, 109]
def sOn : List UInt8 := [111, 110]
def sAgg : List UInt8 := [97, 103, 103]
abbrev Res := Nod × Nat × Bool
abbrev Ress := List Nod × Nat × Bool
def nmQ (L : List V) (i : Nat) (b : Bool) : List UInt8 × Nat × Bool := if (isK L i b 0 && !ownL (txt L i)) = true then (txt L i, i + 1, b) else ([], i, true)
def mustQ (L : List V) (i : Nat) (b : Bool) (s : List UInt8) : Nat × Bool := if isW L i b s = true then (i + 1, b) else (i, true)
def wordQ (L : List V) (i : Nat) (b : Bool) (s m : List UInt8) : Bool := isK L i b 0 && (txt L i == s && L[i + 1]? == some (3, m))
def opsQ : List (List UInt8) := [sFilter, sProject, sJoin, sUnion, sDistinct, sGroup]
def opQ (L : List V) (i : Nat) (b : Bool) : List (List UInt8) → List UInt8
 | [] => []
 | s :: l => if wordQ L i b s [40] = true then s else opQ L i b l
def moreQ (L : List V) (i : Nat) (b first : Bool) : Bool × Nat × Bool :=
 if first = true then (!(mustQ L i b [44]).2, mustQ L i b [44])
 else if isW L i b [41] = true then (false, i + 1, b)
 else if b = true then (false, i, true)
 else (!(mustQ L i b [44]).2, mustQ L i b [44])
def exprQ (L : List V) (i : Nat) (b : Bool) : Tr × Nat × Bool := P L (stepsN L) (.expr 1) i b
def itemQ (L : List V) (i : Nat) (b : Bool) : Res :=
 (.mk sItem (nmQ L i b).1 [(exprQ L (mustQ L (nmQ L i b).2.1 (nmQ L i b).2.2 [61]).1 (mustQ L (nmQ L i b).2.1 (nmQ L i b).2.2 [61]).2).1.n],
  (exprQ L (mustQ L (nmQ L i b).2.1 (nmQ L i b).2.2 [61]).1 (mustQ L (nmQ L i b).2.1 (nmQ L i b).2.2 [61]).2).2)
def pairQ (L : List V) (i : Nat) (b : Bool) : Res :=
 (.mk sOn (nmQ L i b).1 [.mk sCol (nmQ L (mustQ L (nmQ L i b).2.1 (nmQ L i b).2.2 [61]).1 (mustQ L (nmQ L i b).2.1 (nmQ L i b).2.2 [61]).2).1 []],
  (nmQ L (mustQ L (nmQ L i b).2.1 (nmQ L i b).2.2 [61]).1 (mustQ L (nmQ L i b).2.1 (nmQ L i b).2.2 [61]).2).2)
def aggOps : List (List UInt8) := [sCount, sSum, sMin, sMax]
def kindQ (L : List V) (i : Nat) (b : Bool) : List (List UInt8) → List UInt8
 | [] => []
 | s :: l => if (isK L i b 0 && txt L i == s) = true then s else kindQ L i b l
def argQ (L : List V) (o : List UInt8) (i : Nat) (b : Bool) : List UInt8 × Nat × Bool := if o = sCount then ([], i, b) else nmQ L i b
def callQ (L : List V) (o : List UInt8) (i : Nat) (b : Bool) : List UInt8 × Nat × Bool :=
 ((argQ L o (mustQ L i b [40]).1 (mustQ L i b [40]).2).1, mustQ L (argQ L o (mustQ L i b [40]).1 (mustQ L i b [40]).2).2.1 (argQ L o (mustQ L i b [40]).1 (mustQ L i b [40]).2).2.2 [41])
def agg2Q (L : List V) (s : List UInt8) (i : Nat) (b : Bool) : Res :=
 if kindQ L i b aggOps = [] then (zeroN, i, true)
 else (.mk sAgg s [.mk (kindQ L i b aggOps) (callQ L (kindQ L i b aggOps) (i + 1) b).1 []], (callQ L (kindQ L i b aggOps) (i + 1) b).2)
def aggQ (L : List V) (i : Nat) (b : Bool) : Res := agg2Q L (nmQ L i b).1 (mustQ L (nmQ L i b).2.1 (nmQ L i b).2.2 [61]).1 (mustQ L (nmQ L i b).2.1 (nmQ L i b).2.2 [61]).2
def loopQ (L : List V) (el : Nat → Bool → Res) : Nat → Bool → Nat → Bool → Ress
 | 0, _, i, b => ([], i, b)
 | f + 1, first, i, b =>
  if (moreQ L i b first).1 = false then ([], (moreQ L i b first).2)
  else ((el (moreQ L i b first).2.1 (moreQ L i b first).2.2).1 :: (loopQ L el f false (el (moreQ L i b first).2.1 (moreQ L i b first).2.2).2.1 (el (moreQ L i b first).2.1 (moreQ L i b first).2.2).2.2).1,
   (loopQ L el f false (el (moreQ L i b first).2.1 (moreQ L i b first).2.2).2.1 (el (moreQ L i b first).2.1 (moreQ L i b first).2.2).2.2).2)
def namesQ (L : List V) : Nat → Nat → Bool → Ress
 | 0, i, b => ([], i, b)
 | f + 1, i, b =>
  if isK L (nmQ L i b).2.1 (nmQ L i b).2.2 0 = true then (.mk sCol (nmQ L i b).1 [] :: (namesQ L f (nmQ L i b).2.1 (nmQ L i b).2.2).1, (namesQ L f (nmQ L i b).2.1 (nmQ L i b).2.2).2)
  else ([.mk sCol (nmQ L i b).1 []], (nmQ L i b).2)
def hasQ (L : List V) (i : Nat) (b : Bool) : Bool := isK L i b 0 && (txt L i == sBy && !wordQ L i b sBy [61])
def byQ (L : List V) (i : Nat) (b : Bool) : Res :=
 if hasQ L i b = true then (.mk sBy [] (namesQ L (L.length + 1) (i + 1) b).1, mustQ L (namesQ L (L.length + 1) (i + 1) b).2.1 (namesQ L (L.length + 1) (i + 1) b).2.2 [44])
 else (.mk sBy [] [], i, b)
def groupQ (L : List V) (i : Nat) (b : Bool) : Ress :=
 ((byQ L i b).1 :: (aggQ L (byQ L i b).2.1 (byQ L i b).2.2).1 :: (loopQ L (aggQ L) (L.length + 1) false (aggQ L (byQ L i b).2.1 (byQ L i b).2.2).2.1 (aggQ L (byQ L i b).2.1 (byQ L i b).2.2).2.2).1,
  (loopQ L (aggQ L) (L.length + 1) false (aggQ L (byQ L i b).2.1 (byQ L i b).2.2).2.1 (aggQ L (byQ L i b).2.1 (byQ L i b).2.2).2.2).2)
def tailQ (L : List V) (q : Nat → Bool → Res) (o : List UInt8) (i : Nat) (b : Bool) : Ress :=
 if o = sFilter then ([(exprQ L (mustQ L i b [44]).1 (mustQ L i b [44]).2).1.n], mustQ L (exprQ L (mustQ L i b [44]).1 (mustQ L i b [44]).2).2.1 (exprQ L (mustQ L i b [44]).1 (mustQ L i b [44]).2).2.2 [41])
 else if o = sDistinct then ([], mustQ L i b [41])
 else if o = sProject then loopQ L (itemQ L) (L.length + 1) true i b
 else if o = sUnion then loopQ L q (L.length + 1) true i b
 else if o = sJoin then
  ((q (mustQ L i b [44]).1 (mustQ L i b [44]).2).1 :: (loopQ L (pairQ L) (L.length + 1) true (q (mustQ L i b [44]).1 (mustQ L i b [44]).2).2.1 (q (mustQ L i b [44]).1 (mustQ L i b [44]).2).2.2).1,
   (loopQ L (pairQ L) (L.length + 1) true (q (mustQ L i b [44]).1 (mustQ L i b [44]).2).2.1 (q (mustQ L i b [44]).1 (mustQ L i b [44]).2).2.2).2)
 else groupQ L (mustQ L i b [44]).1 (mustQ L i b [44]).2
def qq (L : List V) : Nat → Nat → Bool → Res
 | 0, i, b => (zeroN, i, b)
 | f + 1, i, b =>
  if opQ L i b opsQ = [] then (.mk sFrom (nmQ L i b).1 [], (nmQ L i b).2)
  else (.mk (opQ L i b opsQ) [] ((qq L f (i + 2) b).1 :: (tailQ L (qq L f) (opQ L i b opsQ) (qq L f (i + 2) b).2.1 (qq L f (i + 2) b).2.2).1),
   (tailQ L (qq L f) (opQ L i b opsQ) (qq L f (i + 2) b).2.1 (qq L f (i + 2) b).2.2).2)
def Ends (n i : Nat) (b : Bool) (r : Nat × Bool) : Prop := i ≤ r.1 ∧ r.1 ≤ n ∧ (b = true → r = (i, true))
theorem Ends.then {n i : Nat} {b : Bool} {r r' : Nat × Bool} (h : Ends n i b r) (h' : Ends n r.1 r.2 r') : Ends n i b r' :=
 ⟨Nat.le_trans h.1 h'.1, h'.2.1, fun hb => by
  have e := h.2.2 hb
  have e' := h'.2.2 (by rw [e])
  rw [e', e]⟩
theorem Ends.refl {n i : Nat} {b : Bool} (h : i ≤ n) : Ends n i b (i, b) := ⟨Nat.le_refl _, h, fun hb => by rw [hb]⟩
theorem Ends.bad {n i : Nat} {b : Bool} (h : i ≤ n) : Ends n i b (i, true) := ⟨Nat.le_refl _, h, fun hb => rfl⟩
theorem Ends.step {n i k : Nat} {b : Bool} (h : i + k ≤ n) (hb : b = false) : Ends n i b (i + k, b) := ⟨Nat.le_add_right _ _, h, fun h => by rw [hb] at h; cases h⟩
section
variable {L : List V} {i : Nat} {b : Bool}
theorem nm_ends (h : i ≤ L.length) : Ends L.length i b (nmQ L i b).2 := by
 unfold nmQ
 split
 ·rename_i hs
  have hs := (Bool.and_eq_true _ _ ▸ hs).1
  have := isK_lt hs
  exact Ends.step (by omega) this.2
 ·exact Ends.bad h
theorem must_ends {s : List UInt8} (h : i ≤ L.length) : Ends L.length i b (mustQ L i b s) := by
 unfold mustQ
 split
 ·rename_i hs
  have := isW_lt hs
  exact Ends.step (by omega) (isW_good hs)
 ·exact Ends.bad h
theorem more_ends {first : Bool} (h : i ≤ L.length) : Ends L.length i b (moreQ L i b first).2 := by
 unfold moreQ
 split
 ·exact must_ends h
 split
 ·rename_i hs
  have := isW_lt hs
  exact Ends.step (by omega) (isW_good hs)
 split
 ·exact Ends.bad h
 ·exact must_ends h
theorem expr_ends (h : i ≤ L.length) : Ends L.length i b (exprQ L i b).2 := P_ends L (stepsN L) (.expr 1) i b h
theorem item_ends (h : i ≤ L.length) : Ends L.length i b (itemQ L i b).2 := by
 have h1 := nm_ends (b := b) h
 have h2 := must_ends (b := (nmQ L i b).2.2) (s := [61]) h1.2.1
 exact (h1.then h2).then (expr_ends h2.2.1)
theorem pair_ends (h : i ≤ L.length) : Ends L.length i b (pairQ L i b).2 := by
 have h1 := nm_ends (b := b) h
 have h2 := must_ends (b := (nmQ L i b).2.2) (s := [61]) h1.2.1
 exact (h1.then h2).then (nm_ends h2.2.1)
theorem arg_ends {o : List UInt8} (h : i ≤ L.length) : Ends L.length i b (argQ L o i b).2 := by
 unfold argQ
 split
 ·exact Ends.refl h
 ·exact nm_ends h
theorem call_ends {o : List UInt8} (h : i ≤ L.length) : Ends L.length i b (callQ L o i b).2 := by
 have h1 := must_ends (b := b) (s := [40]) h
 have h2 := arg_ends (b := (mustQ L i b [40]).2) (o := o) h1.2.1
 exact (h1.then h2).then (must_ends h2.2.1)
theorem kind_some : ∀ {l : List (List UInt8)}, kindQ L i b l ≠ [] → isK L i b 0 = true ∧ txt L i = kindQ L i b l ∧ kindQ L i b l ∈ l
 | [], h => absurd rfl h
 | s :: l, h => by
  rw [kindQ] at h ⊢
  split
  ·rename_i hs
   simp only [Bool.and_eq_true, beq_iff_eq] at hs
   exact ⟨hs.1, hs.2, List.mem_cons_self ..⟩
  ·rename_i hs
   rw [if_neg hs] at h
   have ih := kind_some (l := l) h
   exact ⟨ih.1, ih.2.1, List.mem_cons_of_mem _ ih.2.2⟩
theorem agg2_ends {s : List UInt8} (h : i ≤ L.length) : Ends L.length i b (agg2Q L s i b).2 := by
 unfold agg2Q
 split
 ·exact Ends.bad h
 ·rename_i hk
  have hs := isK_lt (kind_some hk).1
  exact (Ends.step (k := 1) (by omega) hs.2).then (call_ends (by omega))
theorem agg_ends (h : i ≤ L.length) : Ends L.length i b (aggQ L i b).2 := by
 have h1 := nm_ends (b := b) h
 have h2 := must_ends (b := (nmQ L i b).2.2) (s := [61]) h1.2.1
 exact (h1.then h2).then (agg2_ends h2.2.1)
theorem loop_ends {el : Nat → Bool → Res} (he : ∀ j c, j ≤ L.length → Ends L.length j c (el j c).2) : ∀ (f : Nat) (first : Bool) (i : Nat) (b : Bool), i ≤ L.length → Ends L.length i b (loopQ L el f first i b).2
 | 0, _, i, b, h => Ends.refl h
 | f + 1, first, i, b, h => by
  have h1 := more_ends (b := b) (first := first) h
  rw [loopQ]
  split
  ·exact h1
  ·have h2 := he _ (moreQ L i b first).2.2 h1.2.1
   exact (h1.then h2).then (loop_ends he f false _ _ h2.2.1)
theorem names_ends : ∀ (f i : Nat) (b : Bool), i ≤ L.length → Ends L.length i b (namesQ L f i b).2
 | 0, i, b, h => Ends.refl h
 | f + 1, i, b, h => by
  have h1 := nm_ends (b := b) h
  rw [namesQ]
  split
  ·exact h1.then (names_ends f _ _ h1.2.1)
  ·exact h1
theorem by_ends (h : i ≤ L.length) : Ends L.length i b (byQ L i b).2 := by
 unfold byQ
 split
 ·rename_i hs
  unfold hasQ at hs
  have hs := isK_lt (Bool.and_eq_true _ _ ▸ hs).1
  have h1 : Ends L.length i b (i + 1, b) := Ends.step (by omega) hs.2
  have h2 := names_ends (L := L) (L.length + 1) (i + 1) b (by omega)
  exact (h1.then h2).then (must_ends h2.2.1)
 ·exact Ends.refl h
theorem group_ends (h : i ≤ L.length) : Ends L.length i b (groupQ L i b).2 := by
 have h1 := by_ends (b := b) h
 have h2 := agg_ends (b := (byQ L i b).2.2) h1.2.1
 exact (h1.then h2).then (loop_ends (fun j c hj => agg_ends hj) _ _ _ _ h2.2.1)
theorem tail_ends {q : Nat → Bool → Res} (hq : ∀ j c, j ≤ L.length → Ends L.length j c (q j c).2) {o : List UInt8} (h : i ≤ L.length) : Ends L.length i b (tailQ L q o i b).2 := by
 have h1 := must_ends (b := b) (s := [44]) h
 unfold tailQ
 split
 ·have h2 := expr_ends (b := (mustQ L i b [44]).2) h1.2.1
  exact (h1.then h2).then (must_ends h2.2.1)
 split
 ·exact must_ends h
 split
 ·exact loop_ends (fun j c hj => item_ends hj) _ _ _ _ h
 split
 ·exact loop_ends hq _ _ _ _ h
 split
 ·have h2 := hq _ (mustQ L i b [44]).2 h1.2.1
  exact (h1.then h2).then (loop_ends (fun j c hj => pair_ends hj) _ _ _ _ h2.2.1)
 ·exact h1.then (group_ends h1.2.1)
theorem word_lt {s m : List UInt8} (h : wordQ L i b s m = true) : i + 2 ≤ L.length ∧ b = false := by
 unfold wordQ at h
 simp only [Bool.and_eq_true, beq_iff_eq] at h
 obtain ⟨h1, h2, h3⟩ := h
 have := (List.getElem?_eq_some_iff.1 h3).1
 exact ⟨this, (isK_lt h1).2⟩
theorem op_some : ∀ {l : List (List UInt8)}, opQ L i b l ≠ [] → wordQ L i b (opQ L i b l) [40] = true ∧ opQ L i b l ∈ l
 | [], h => absurd rfl h
 | s :: l, h => by
  rw [opQ] at h ⊢
  split
  ·rename_i hs
   exact ⟨hs, List.mem_cons_self ..⟩
  ·rename_i hs
   rw [if_neg hs] at h
   have ih := op_some (l := l) h
   exact ⟨ih.1, List.mem_cons_of_mem _ ih.2⟩
theorem op_lt {l : List (List UInt8)} (h : opQ L i b l ≠ []) : i + 2 ≤ L.length ∧ b = false := word_lt (op_some h).1
end
theorem qq_ends (L : List V) : ∀ (f i : Nat) (b : Bool), i ≤ L.length → Ends L.length i b (qq L f i b).2
 | 0, i, b, h => Ends.refl h
 | f + 1, i, b, h => by
  rw [qq]
  split
  ·exact nm_ends h
  ·rename_i ho
   have hs := op_lt ho
   have h1 := qq_ends L f (i + 2) b hs.1
   exact ((Ends.step (k := 2) hs.1 hs.2).then h1).then (tail_ends (fun j c hj => qq_ends L f j c hj) h1.2.1)
theorem more_lt {L : List V} {i : Nat} {b first : Bool} (h : (moreQ L i b first).1 = true) : i < L.length ∧ b = false ∧ (moreQ L i b first).2 = (i + 1, false) := by
 have hm : ∀ c : Bool, (!(mustQ L i c [44]).2) = true → i < L.length ∧ c = false ∧ mustQ L i c [44] = (i + 1, false) := by
  intro c hc
  unfold mustQ at hc ⊢
  split at hc
  ·rename_i hs
   have h1 := isW_good hs
   rw [if_pos hs]
   exact ⟨isW_lt hs, h1, by rw [h1]⟩
  ·cases hc
 unfold moreQ at h ⊢
 by_cases c1 : first = true
 ·rw [if_pos c1] at h ⊢
  exact hm b h
 rw [if_neg c1] at h ⊢
 by_cases c2 : isW L i b [41] = true
 ·rw [if_pos c2] at h
  cases h
 rw [if_neg c2] at h ⊢
 by_cases c3 : b = true
 ·rw [if_pos c3] at h
  cases h
 rw [if_neg c3] at h ⊢
 exact hm b h
theorem loop_steps {L : List V} {el el' : Nat → Bool → Res} (he : ∀ j c, j ≤ L.length → Ends L.length j c (el j c).2) (i0 : Nat) (hel : ∀ j c, i0 ≤ j → j ≤ L.length → el j c = el' j c) : ∀ (f g : Nat) (first : Bool) (i : Nat) (b : Bool), i0 ≤ i → i ≤ L.length → L.length - i < f → L.length - i < g → loopQ L el f first i b = loopQ L el' g first i b
 | 0, _, _, _, _, _, _, h, _ => absurd h (Nat.not_lt_zero _)
 | _, 0, _, _, _, _, _, _, h => absurd h (Nat.not_lt_zero _)
 | f + 1, g + 1, first, i, b, h0, h, hf, hg => by
  rw [loopQ, loopQ]
  cases hm : (moreQ L i b first).1 with
  | false => simp
  | true =>
   have h1 := more_lt hm
   rw [h1.2.2]
   have hE := he (i + 1) false (by omega)
   rw [← hel (i + 1) false (by omega) (by omega)]
   have hi1 := hE.1
   dsimp only at hi1 ⊢
   rw [loop_steps he i0 hel f g false _ _ (by omega) hE.2.1 (by omega) (by omega)]
end Go.Proofs.YtjbpkpfmgbhlpaaGreatDoor.Code
/-
  Contracts of the document's reader of words: the marks of a level, that of some marks that comes, a number.
-/
namespace Go.Proofs.YtjbpkpfmgbhlpaaGreatDoor.Code
open Go.ChangeShapes Go.WideShapes Go.ChangeAt Go.RowKit Val Elems
set_option linter.unusedVariables false
set_option linter.unusedSimpArgs false
def Strs (w w' : World) (e : Ending) (l : List (List UInt8)) : Prop := ∃ (A : Option Addr) (cap : Nat), e = .returned (.slice A l.length cap) ∧ At sc 1 w' w'.heap.size A l ∧ (∀ ad, A = some ad → w.heap.size ≤ ad.block) ∧ Below w.heap.size w w'
theorem strs_new (w : World) (l : List (List UInt8)) (t : TypeId) (cs : Array Value) (hc : cs = (l.map fun s => Value.string ⟨s.toArray⟩).toArray) : Strs w (w.alloc (.cells cs t)) (.returned (.slice (some ⟨w.heap.size, 0, none⟩) l.length l.length)) l := by
 refine ⟨_, _, rfl, ?_, ?_, (Below.refl _ _).alloc (Nat.le_refl _) _⟩
 ·subst hc
  have := texts_new w l t _ rfl
  rw [show ∀ o, (w.alloc o).heap.size = w.heap.size + 1 from fun o => by simp]
  exact this
 ·intro ad e
  cases e
  exact Nat.le_refl _
theorem strs_nil (w : World) : Strs w w (.returned (.slice none 0 0)) [] := ⟨none, 0, rfl, At.nil _ _ _, fun ad e => (by cases e), Below.refl _ _⟩
theorem rops_any (lv : Nat) (hl : lv ≤ 7) (w : World) :
  Calls Tryz.prog 130 #[.int .i64 lv] w fun e w' => Strs w w' e (opsL lv) := by
 have hc : lv = 0 ∨ lv = 1 ∨ lv = 2 ∨ lv = 3 ∨ lv = 4 ∨ lv = 5 ∨ lv = 6 ∨ lv = 7 := by omega
 rcases hc with rfl | rfl | rfl | rfl | rfl | rfl | rfl | rfl
 all_goals
  go_enter Tryz.func130, Tryz.ntmps130
  go_wp2
  go_ret
  first | exact strs_nil w | exact strs_new w (opsL 1) _ _ rfl | exact strs_new w (opsL 2) _ _ rfl | exact strs_new w (opsL 4) _ _ rfl | exact strs_new w (opsL 5) _ _ rfl | exact strs_new w (opsL 6) _ _ rfl
theorem NIn.form {w : World} {S : Nat → Prop} {t : Tr} {a b c : Value} (h : NIn w S t a b c) : ∃ (X : Option Addr) (n m : Nat), c = .slice X n m := by
 cases t with
 | leaf op tx => exact ⟨_, _, _, h.2.2⟩
 | one op x => obtain ⟨_, _, g, cap, x0, x1, x2, h3, _⟩ := h; exact ⟨_, _, _, h3⟩
 | two op x y => obtain ⟨_, _, g, cap, x0, x1, x2, y0, y1, y2, h3, _⟩ := h; exact ⟨_, _, _, h3⟩
def New (w w' : World) (g : Nat) : Prop := w.heap.size ≤ g ∧ g < w'.heap.size
def W3 (w : World) (g : Nat) (a b c : Value) : World := ((w.setCell ⟨g, 0, none⟩ a).setCell ⟨g, 1, none⟩ b).setCell ⟨g, 2, none⟩ c
theorem W3.size (w : World) (g : Nat) (a b c : Value) : (W3 w g a b c).heap.size = w.heap.size := by simp [W3]
theorem W3.but {w w1 : World} {r g : Nat} (h : But w w1 r) (hg : w.heap.size ≤ g) (a b c : Value) : But w (W3 w1 g a b c) r := ((h.new _ hg _).new _ hg _).new _ hg _
theorem W3.nin {w : World} {S : Nat → Prop} {t : Tr} {a b c : Value} (h : NIn w S t a b c) {g : Nat} (hg : ¬ S g) (x y z : Value) : NIn (W3 w g x y z) S t a b c := ((h.setCell _ hg _).setCell _ hg _).setCell _ hg _
theorem W3.box {w : World} {g : Nat} {a b c : Value} (h : NBox w g a b c) (x y z : Value) : NBox (W3 w g x y z) g x y z := h.set x y z
section
variable {r : Nat} {A : Option Addr} {cap : Nat} {l : List W} {w w2 : World} {S S2 : Nat → Prop} {x y : Tr} {j : Nat} {b : Bool} {op tx op2 tx2 : ByteArray} {X X2 : Option Addr} {n m n2 m2 : Nat}
end
end Go.Proofs.YtjbpkpfmgbhlpaaGreatDoor.Code
/-
  Nodes with any Kids in memory: what lies where, what stays; a list of nodes that is the call's own. No function of the program is named here.
-/
namespace Go.Proofs.YtjbpkpfmgbhlpaaGreatDoor.Code
open Go.ChangeShapes Go.WideShapes Go.ChangeAt Go.RowKit Val Elems
set_option linter.unusedVariables false
abbrev NV := ByteArray × ByteArray × Option Addr × Nat × Nat
def nc (x : NV) : List Value := [.string x.1, .string x.2.1, .slice x.2.2.1 x.2.2.2.1 x.2.2.2.2]
theorem nc_length (x : NV) : (nc x).length = 3 := rfl
theorem nc_one : ∀ x : NV, ∀ u ∈ nc x, u.oneCell' = true := by
 intro x u hu
 simp [nc] at hu
 rcases hu with rfl | rfl | rfl <;> rfl
def NAt (w : World) (S : Nat → Prop) (X : Option Addr) (l : List NV) : Prop :=
 ∀ (i : Nat) (h : i < l.length), ∃ ad : Addr, X = some ad ∧ S ad.block ∧ w.cell? (ad.add (i * 3)) = some (.string l[i].1) ∧ w.cell? ⟨(ad.add (i * 3)).block, (ad.add (i * 3)).off + 1, none⟩ = some (.string l[i].2.1) ∧ w.cell? ⟨(ad.add (i * 3)).block, (ad.add (i * 3)).off + 2, none⟩ = some (.slice l[i].2.2.1 l[i].2.2.2.1 l[i].2.2.2.2)
inductive RIn (w : World) (S : Nat → Prop) : Nod → NV → Prop
 | mk (op tx : List UInt8) (ks : List Nod) (X : Option Addr) (cap : Nat) (l : List NV) (hl : l.length = ks.length) (hb : ks.length ≤ 1000000000) (hc : ks.length ≤ cap) (hat : NAt w S X l) (hks : ∀ (i : Nat) (h : i < ks.length), RIn w S ks[i] (l[i]'(by omega))) :
   RIn w S (.mk op tx ks) (⟨op.toArray⟩, ⟨tx.toArray⟩, X, ks.length, cap)
theorem NAt.keep {w w' : World} {S S' : Nat → Prop} {X : Option Addr} {l : List NV} (h : NAt w S X l) (hS : ∀ g, S g → S' g) (hk : ∀ p : Addr, S p.block → w'.cell? p = w.cell? p) : NAt w' S' X l := by
 intro i hi
 obtain ⟨ad, e, hs, c0, c1, c2⟩ := h i hi
 have hb : S (ad.add (i * 3)).block := by rw [add_block]; exact hs
 exact ⟨ad, e, hS _ hs, (hk _ hb).trans c0, (hk ⟨(ad.add (i * 3)).block, (ad.add (i * 3)).off + 1, none⟩ hb).trans c1, (hk ⟨(ad.add (i * 3)).block, (ad.add (i * 3)).off + 2, none⟩ hb).trans c2⟩
theorem RIn.keep {w w' : World} {S S' : Nat → Prop} (hS : ∀ g, S g → S' g) (hk : ∀ p : Addr, S p.block → w'.cell? p = w.cell? p) {t : Nod} {x : NV} (h : RIn w S t x) : RIn w' S' t x := by
 induction h with
 | mk op tx ks X cap l hl hb hc hat hks ih => exact .mk op tx ks X cap l hl hb hc (hat.keep hS hk) ih
theorem RIn.imp {w : World} {S S' : Nat → Prop} {t : Nod} {x : NV} (h : RIn w S t x) (hS : ∀ g, S g → S' g) : RIn w S' t x := h.keep hS (fun _ _ => rfl)
theorem RIn.bel {w w' : World} {S : Nat → Prop} {t : Nod} {x : NV} (h : RIn w S t x) (hS : ∀ g, S g → g < w.heap.size) (hb : Below w.heap.size w w') : RIn w' S t x := h.keep (fun _ h => h) (fun p hp => hb.cell (hS _ hp))
theorem RIn.alloc {w : World} {S : Nat → Prop} {t : Nod} {x : NV} (h : RIn w S t x) (hS : ∀ g, S g → g < w.heap.size) (o : Obj) : RIn (w.alloc o) S t x := h.bel hS (below_alloc w o)
theorem RIn.but {w w' : World} {S : Nat → Prop} {r : Nat} {t : Nod} {x : NV} (h : RIn w S t x) (hS : ∀ g, S g → g < w.heap.size ∧ g ≠ r) (hb : But w w' r) : RIn w' S t x := h.keep (fun _ h => h) (fun p hp => hb.cell (hS _ hp).1 (hS _ hp).2)
theorem RIn.setCell {w : World} {S : Nat → Prop} {t : Nod} {x : NV} (h : RIn w S t x) (p : Addr) (hp : ¬ S p.block) (u : Value) : RIn (w.setCell p u) S t x :=
 h.keep (fun _ h => h) (fun q hq => World.cell?_setCell_other _ _ _ _ (by intro e; rw [e] at hp; exact hp hq))
theorem RIn.w3 {w : World} {S : Nat → Prop} {t : Nod} {x : NV} (h : RIn w S t x) {g : Nat} (hg : ¬ S g) (a b c : Value) : RIn (W3 w g a b c) S t x := ((h.setCell _ hg _).setCell _ hg _).setCell _ hg _
theorem RIn.cap {w : World} {S : Nat → Prop} {t : Nod} {x : NV} (h : RIn w S t x) : t.ks.length ≤ x.2.2.2.2 := by
 cases h with
 | mk op tx ks X cap l hl hb hc hat hks => exact hc
theorem RIn.texts {w : World} {S : Nat → Prop} {t : Nod} {x : NV} (h : RIn w S t x) : x.1 = ⟨t.op.toArray⟩ ∧ x.2.1 = ⟨t.tx.toArray⟩ ∧ x.2.2.2.1 = t.ks.length ∧ t.ks.length ≤ 1000000000 := by
 cases h with
 | mk op tx ks X cap l hl hb hc hat hks => exact ⟨rfl, rfl, rfl, hb⟩
theorem RIn.kid {w : World} {S : Nat → Prop} {t : Nod} {x : NV} (h : RIn w S t x) (k : Nat) (hk : k < t.ks.length) : ∃ (ad : Addr) (y : NV), x.2.2.1 = some ad ∧ S ad.block ∧ w.cell? (ad.add (k * 3)) = some (.string y.1) ∧ w.cell? ⟨(ad.add (k * 3)).block, (ad.add (k * 3)).off + 1, none⟩ = some (.string y.2.1) ∧ w.cell? ⟨(ad.add (k * 3)).block, (ad.add (k * 3)).off + 2, none⟩ = some (.slice y.2.2.1 y.2.2.2.1 y.2.2.2.2) ∧ RIn w S t.ks[k] y := by
 cases h with
 | mk op tx ks X cap l hl hb hc hat hks =>
  have hk' : k < ks.length := hk
  obtain ⟨ad, e, hs, c0, c1, c2⟩ := hat k (by omega)
  exact ⟨ad, l[k], e, hs, c0, c1, c2, hks k hk'⟩
theorem NIn.rin {w : World} {S : Nat → Prop} : ∀ (t : Tr) (op tx : ByteArray) (X : Option Addr) (n m : Nat), NIn w S t (.string op) (.string tx) (.slice X n m) → RIn w S t.n (op, tx, X, n, m)
 | .leaf o t, op, tx, X, n, m, h => by
  obtain ⟨h1, h2, h3⟩ := h
  injection h1 with h1
  injection h2 with h2
  injection h3 with h3 h4 h5
  subst h1 h2 h3 h4 h5
  exact .mk o t [] none 0 [] rfl (by decide) (by decide) (fun i hi => absurd hi (Nat.not_lt_zero _)) (fun i hi => absurd hi (Nat.not_lt_zero _))
 | .one o x, op, tx, X, n, m, h => by
  obtain ⟨h1, h2, g, cap, x0, x1, x2, h3, h4, c0, c1, c2, hx⟩ := h
  injection h1 with h1
  injection h2 with h2
  injection h3 with h3 h5 h6
  subst h1 h2 h3 h5 h6
  obtain ⟨X1, n1, k1, rfl⟩ := hx.form
  obtain ⟨rfl, rfl⟩ := hx.texts
  have ih := NIn.rin x _ _ X1 n1 k1 hx
  refine .mk o [] [x.n] (some ⟨g, 0, none⟩) (cap + 1) [(⟨(opOf x).toArray⟩, ⟨(txOf x).toArray⟩, X1, n1, k1)] rfl (by simp) (by simp) (fun i hi => ?_) (fun i hi => ?_)
  ·obtain rfl : i = 0 := by simp at hi; exact hi
   exact ⟨_, rfl, h4, c0, c1, c2⟩
  ·obtain rfl : i = 0 := by simp at hi; exact hi
   exact ih
 | .two o x y, op, tx, X, n, m, h => by
  obtain ⟨h1, h2, g, cap, x0, x1, x2, y0, y1, y2, h3, h4, c0, c1, c2, d0, d1, d2, hx, hy⟩ := h
  injection h1 with h1
  injection h2 with h2
  injection h3 with h3 h5 h6
  subst h1 h2 h3 h5 h6
  obtain ⟨X1, n1, k1, rfl⟩ := hx.form
  obtain ⟨rfl, rfl⟩ := hx.texts
  obtain ⟨X2, n2, k2, rfl⟩ := hy.form
  obtain ⟨rfl, rfl⟩ := hy.texts
  have ih := NIn.rin x _ _ X1 n1 k1 hx
  have ih2 := NIn.rin y _ _ X2 n2 k2 hy
  refine .mk o [] [x.n, y.n] (some ⟨g, 0, none⟩) (cap + 2) [(⟨(opOf x).toArray⟩, ⟨(txOf x).toArray⟩, X1, n1, k1), (⟨(opOf y).toArray⟩, ⟨(txOf y).toArray⟩, X2, n2, k2)] rfl (by simp) (by simp) (fun i hi => ?_) (fun i hi => ?_)
  ·have hc : i = 0 ∨ i = 1 := by simp at hi; omega
   rcases hc with rfl | rfl
   ·exact ⟨_, rfl, h4, c0, c1, c2⟩
   ·exact ⟨_, rfl, h4, d0, d1, d2⟩
  ·have hc : i = 0 ∨ i = 1 := by simp at hi; omega
   rcases hc with rfl | rfl
   ·exact ih
   ·exact ih2
def RAll (w : World) (S : Nat → Prop) (ks : List Nod) (l : List NV) : Prop := l.length = ks.length ∧ ∀ (i : Nat) (h : i < ks.length) (h' : i < l.length), RIn w S ks[i] l[i]
theorem RAll.nil (w : World) (S : Nat → Prop) : RAll w S [] [] := ⟨rfl, fun i h => absurd h (Nat.not_lt_zero _)⟩
theorem RAll.keep {w w' : World} {S S' : Nat → Prop} (hS : ∀ g, S g → S' g) (hk : ∀ p : Addr, S p.block → w'.cell? p = w.cell? p) {ks : List Nod} {l : List NV} (h : RAll w S ks l) : RAll w' S' ks l := ⟨h.1, fun i hi hi' => (h.2 i hi hi').keep hS hk⟩
theorem RAll.snoc {w : World} {S : Nat → Prop} {ks : List Nod} {l : List NV} (h : RAll w S ks l) {t : Nod} {x : NV} (hx : RIn w S t x) : RAll w S (ks ++ [t]) (l ++ [x]) := by
 refine ⟨by simp [h.1], fun i hi hi' => ?_⟩
 by_cases hlt : i < ks.length
 ·rw [List.getElem_append_left hlt, List.getElem_append_left (by rw [h.1]; exact hlt)]
  exact h.2 i hlt _
 ·obtain rfl : i = ks.length := by simp at hi; omega
  rw [List.getElem_append_right (Nat.le_refl _), List.getElem_append_right (by rw [h.1]; exact Nat.le_refl _)]
  simp only [Nat.sub_self, h.1, List.getElem_singleton]
  exact hx
theorem RAll.append {w : World} {S : Nat → Prop} {ks ks' : List Nod} {l l' : List NV} (h : RAll w S ks l) (h' : RAll w S ks' l') : RAll w S (ks ++ ks') (l ++ l') := by
 refine ⟨by simp [h.1, h'.1], fun i hi hi' => ?_⟩
 by_cases hlt : i < ks.length
 ·rw [List.getElem_append_left hlt, List.getElem_append_left (by rw [h.1]; exact hlt)]
  exact h.2 i hlt _
 ·rw [List.getElem_append_right (by omega), List.getElem_append_right (by rw [h.1]; omega)]
  simp only [h.1]
  exact h'.2 _ _ _
theorem RAll.one {w : World} {S : Nat → Prop} {t : Nod} {x : NV} (hx : RIn w S t x) : RAll w S [t] [x] := (RAll.nil w S).snoc hx
theorem nat_of {w : World} {B : Nat} {A : Option Addr} {l : List NV} {S : Nat → Prop} (h : At nc 3 w B A l) (hS : ∀ ad, A = some ad → 0 < l.length → S ad.block) : NAt w S A l := by
 intro i hi
 obtain ⟨ad, e, hb, h0⟩ := h i hi
 refine ⟨ad, e, hS ad e (by omega), h0 0 _ rfl, ?_, ?_⟩
 ·rw [← add_next]; exact h0 1 _ rfl
 ·rw [← add_next]; exact h0 2 _ rfl
theorem RIn.made {w : World} {S : Nat → Prop} {ks : List Nod} {l : List NV} {X : Option Addr} (cap : Nat) (op tx : ByteArray) (hat : NAt w S X l) (h : RAll w S ks l) (hb : ks.length ≤ 1000000000) (hc : ks.length ≤ cap) : RIn w S (.mk op.data.toList tx.data.toList ks) (op, tx, X, ks.length, cap) := by
 have := RIn.mk (w := w) (S := S) op.data.toList tx.data.toList ks X cap l h.1 hb hc hat (fun i hi => h.2 i hi _)
 rwa [Lib.mk_data, Lib.mk_data] at this
theorem RIn.leafN (w : World) (S : Nat → Prop) (op tx : ByteArray) : RIn w S (.mk op.data.toList tx.data.toList []) (op, tx, none, 0, 0) :=
 RIn.made 0 op tx (l := []) (fun i hi => absurd hi (Nat.not_lt_zero _)) (RAll.nil w S) (by decide) (by decide)
theorem own_nat {w : World} {B : Nat} {v : Value} {l : List NV} (h : w.ownsRow B 25 3 v l.length (flatC nc l)) : ∃ A cap, v = .slice A l.length cap ∧ NAt w (fun g => B ≤ g ∧ g < w.heap.size) A l ∧ l.length ≤ cap := by
 obtain ⟨A, cap, e, hat⟩ := own_at nc_length h
 have hcp : l.length ≤ cap := by
  rcases h.2 with ⟨hv, hz⟩ | ⟨g, cap', cur, hv, _, _, hle, _⟩
  ·rw [hz]; exact Nat.zero_le _
  ·rw [hv] at e
   injection e with _ _ e
   rw [← e]
   exact hle
 refine ⟨A, cap, e, nat_of hat (fun ad hA hpos => ?_), hcp⟩
 obtain ⟨g, cap', hv, hg, hlt⟩ := h.form hpos
 rw [hv] at e
 injection e with e _
 rw [hA] at e
 injection e with e
 subst e
 exact ⟨hg, hlt⟩
end Go.Proofs.YtjbpkpfmgbhlpaaGreatDoor.Code
/-
  How deep a node is nested, as the document's reader reckons it.
-/
namespace Go.Proofs.YtjbpkpfmgbhlpaaGreatDoor.Code
open Go.ChangeShapes Go.WideShapes Go.ChangeAt Go.RowKit Val Elems
set_option linter.unusedVariables false
set_option linter.unusedSimpArgs false
theorem deepL_snoc (x : Nod) : ∀ l : List Nod, Nod.deepL (l ++ [x]) = max (Nod.deepL l) x.deep
 | [] => by simp [Nod.deepL]
 | t :: l => by
  show max t.deep (Nod.deepL (l ++ [x])) = max (max t.deep (Nod.deepL l)) x.deep
  rw [deepL_snoc x l, Nat.max_assoc]
theorem deepL_take : ∀ (l : List Nod) (k : Nat), Nod.deepL (l.take k) ≤ Nod.deepL l
 | [], k => by simp
 | t :: l, 0 => Nat.zero_le _
 | t :: l, k + 1 => by
  show max t.deep (Nod.deepL (l.take k)) ≤ max t.deep (Nod.deepL l)
  have := deepL_take l k
  omega
theorem deepL_mem {x : Nod} : ∀ {l : List Nod}, x ∈ l → x.deep ≤ Nod.deepL l
 | [], h => absurd h (by simp)
 | t :: l, h => by
  show _ ≤ max t.deep (Nod.deepL l)
  rcases List.mem_cons.1 h with rfl | h
  ·exact Nat.le_max_left _ _
  ·exact Nat.le_trans (deepL_mem h) (Nat.le_max_right _ _)
theorem deep_ks (t : Nod) : t.deep = Nod.deepL t.ks + 1 := by cases t; rfl
theorem edeepN_any : ∀ (d : Nat) (t : Nod), t.deep ≤ d → d ≤ 1000000000 → ∀ (S : Nat → Prop) (op tx : ByteArray) (X : Option Addr) (n m : Nat) (w : World), (∀ g, S g → g < w.heap.size) → RIn w S t (op, tx, X, n, m) →
  Calls Tryz.prog 22 #[.agg #[.string op, .string tx, .slice X n m]] w fun e w' => e = .returned (.int .i64 t.deep) ∧ Below w.heap.size w w'
 | 0, t, h, _, _, _, _, _, _, _, _, _, _ => absurd h (by rw [deep_ks]; omega)
 | d + 1, t, h, hd, S, op, tx, X, n, m, w, hS, hn => by
  have ih := hid (fun k (hk : k < t.ks.length) => edeepN_any d t.ks[k] (by have := deepL_mem (List.getElem_mem hk); rw [deep_ks] at h; omega) (by omega))
  rw [deep_ks] at h ⊢
  have hNod.deepL : Nod.deepL t.ks ≤ d := by omega
  obtain ⟨-, -, en, hkl⟩ := hn.texts
  dsimp only at en
  have HS := hid hS
  subst en
  have HN := hid hn
  clear h hS hn
  go_enter Tryz.func22, Tryz.ntmps22
  go_wp2
  go_loopw [3, 9] (fun v t' wr => ∃ k : Nat, k ≤ t.ks.length ∧ t' = .int .i64 k ∧ v = .int .i64 (Nod.deepL (t.ks.take k)) ∧ Below w.heap.size w wr) (fun _ t' _ => t.ks.length - (intOf t').toNat)
  case atStart => exact ⟨0, by omega, rfl, rfl, (Below.refl _ _).alloc (Nat.le_refl _) _⟩
  case round =>
   obtain ⟨k, hk, rfl, rfl, hb⟩ := hrel
   have HB := hid hb
   have hz := hb.size
   have HK := hid (HN.out.bel HS.out hb)
   clear hb
   by_cases hlt : k < t.ks.length
   ·obtain ⟨ad, ⟨op', tx', X', n', m'⟩, eA, hS', q0, q1, q2, hk'⟩ := HK.out.kid k hlt
    dsimp only at eA q0 q1 q2
    subst eA
    have hKK := hid hk'
    have had := HS.out _ hS'
    have hdk : Nod.deepL (t.ks.take k) ≤ Nod.deepL t.ks := deepL_take _ _
    have hdx : t.ks[k].deep ≤ Nod.deepL t.ks := deepL_mem (List.getElem_mem hlt)
    have hdt : Nod.deepL (t.ks.take (k + 1)) = max (Nod.deepL (t.ks.take k)) t.ks[k].deep := by rw [List.take_succ_eq_append_getElem hlt, deepL_snoc]
    have HDT := hid hdt
    clear hk' hdt
    go_wp2_with fail
    refine (ih.out k hlt S op' tx' X' n' m' _ (fun g hg => by have := HS.out g hg; simp; omega) (hKK.out.alloc (fun g hg => Nat.lt_of_lt_of_le (HS.out g hg) hz) _)).mono ?_
    rintro e w1 ⟨rfl, hb1⟩
    have HB1 := hid ((HB.out.alloc hz _).trans (hb1.mono (by simp; omega)))
    clear hb1 q0 q1 q2
    go_wp2
    go_roundw
    case rel => exact ⟨k + 1, by omega, by go_num, by rw [HDT.out]; simp; omega, HB1.out⟩
    case measure => simp [intOf]; omega
   ·obtain rfl : k = t.ks.length := by omega
    rw [List.take_length]
    go_wp2
    go_ret
    exact ⟨by simp, HB.out⟩
end Go.Proofs.YtjbpkpfmgbhlpaaGreatDoor.Code
/-
  How much there is in a node. No program is named here.
-/
namespace Go.Proofs.YtjbpkpfmgbhlpaaGreatDoor.Code
open Val
set_option linter.unusedVariables false
mutual
def Nod.tot : Nod → Nat
 | .mk op tx ks => 1 + op.length + tx.length + Nod.totL ks
def Nod.totL : List Nod → Nat
 | [] => 0
 | t :: l => t.tot + Nod.totL l
end
theorem tot_mem {x : Nod} : ∀ {l : List Nod}, x ∈ l → x.tot ≤ Nod.totL l
 | [], h => absurd h (by simp)
 | t :: l, h => by
  show _ ≤ t.tot + Nod.totL l
  rcases List.mem_cons.1 h with rfl | h
  ·omega
  ·have := tot_mem h
   omega
end Go.Proofs.YtjbpkpfmgbhlpaaGreatDoor.Code
/-
  The law's Size of a node that came in: how much there is in it, as long as that is little.
-/
namespace Go.Proofs.YtjbpkpfmgbhlpaaGreatDoor.Code
open Go.ChangeShapes Go.WideShapes Go.ChangeAt Go.RowKit Val Elems
set_option linter.unusedVariables false
set_option linter.unusedSimpArgs false
theorem totL_app (x : Nod) : ∀ l : List Nod, Nod.totL (l ++ [x]) = Nod.totL l + x.tot
 | [] => by simp [Nod.totL]
 | t :: l => by rw [List.cons_append, Nod.totL, Nod.totL, totL_app x l]; omega
theorem totL_step (l : List Nod) (k : Nat) (h : k < l.length) : Nod.totL (l.take (k + 1)) = Nod.totL (l.take k) + l[k].tot := by
 rw [List.take_succ_eq_append_getElem h, totL_app]
theorem totL_le : ∀ (l : List Nod) (k : Nat), Nod.totL (l.take k) ≤ Nod.totL l
 | [], k => by simp
 | t :: l, 0 => Nat.zero_le _
 | t :: l, k + 1 => by
  have := totL_le l k
  rw [List.take_succ_cons, Nod.totL, Nod.totL]
  omega
theorem size_any : ∀ (d : Nat) (t : Nod), t.deep ≤ d → t.tot ≤ 1048576 → ∀ (S : Nat → Prop) (op tx : ByteArray) (X : Option Addr) (n m : Nat) (w : World), (∀ g, S g → g < w.heap.size) → RIn w S t (op, tx, X, n, m) →
  Calls Tryz.prog 15 #[.agg #[.string op, .string tx, .slice X n m]] w fun e w' => ∃ K : Nat, e = .returned (.int .i64 (K : Int)) ∧ K ≤ t.tot ∧ (K ≤ 1600 → K = t.tot) ∧ Below w.heap.size w w'
 | 0, t, h, _, _, _, _, _, _, _, _, _, _ => absurd h (by rw [deep_ks]; omega)
 | d + 1, t, h, htot, S, op, tx, X, n, m, w, hS, hn => by
  have hks : t.tot = 1 + t.op.length + t.tx.length + Nod.totL t.ks := by cases t; rfl
  have ih := hid (fun k (hk : k < t.ks.length) => size_any d t.ks[k] (by have := deepL_mem (List.getElem_mem hk); rw [deep_ks] at h; omega) (by have := tot_mem (List.getElem_mem hk); omega))
  obtain ⟨eo, et, en, hkl⟩ := hn.texts
  dsimp only at eo et en
  have so : op.size = t.op.length := by rw [eo]; rfl
  have st : tx.size = t.tx.length := by rw [et]; rfl
  have HS := hid hS
  subst en
  have HN := hid hn
  obtain ⟨B0, hB0⟩ : ∃ B0 : Nat, 1 + op.size + tx.size = B0 := ⟨_, rfl⟩
  have htt : t.tot = B0 + Nod.totL t.ks := by omega
  have k1 : IntKind.i64.wrap (1 + (op.size : Int)) = 1 + (op.size : Int) := by rw [IntKind.wrap_i64]; omega
  have k2 : IntKind.i64.wrap (1 + (op.size : Int) + (tx.size : Int)) = (B0 : Int) := by rw [IntKind.wrap_i64]; omega
  have HTT := hid htt
  have HTO := hid htot
  clear h hS hn eo et so st hks hB0 htt htot
  go_enter Tryz.func15, Tryz.ntmps15
  go_wp2
  go_loopw [3, 4] (fun v t' wr => ∃ k K : Nat, k ≤ t.ks.length ∧ t' = .int .i64 (k : Int) ∧ v = .int .i64 (K : Int) ∧ K ≤ B0 + Nod.totL (t.ks.take k) ∧ (K ≤ 1600 → K = B0 + Nod.totL (t.ks.take k)) ∧ Below w.heap.size w wr ∧ NBox wr w.heap.size (.string op) (.string tx) (.slice X t.ks.length m)) (fun _ t' _ => t.ks.length - (intOf t').toNat)
  case atStart => exact ⟨0, B0, by omega, rfl, rfl, by simp [Nod.totL], by simp [Nod.totL], (Below.refl _ _).alloc (Nat.le_refl _) _, NBox.fresh _ _ _ _ _⟩
  case round =>
   obtain ⟨k, K, hk, rfl, rfl, hK, hK2, hb, hv⟩ := hrel
   have HB := hid hb
   have HV := hid hv
   have hz := hb.size
   have hvl := hv.lt
   have HK := hid (HN.out.bel HS.out hb)
   have HKK := hid hK
   have HK2 := hid hK2
   have hKb : K ≤ 1048576 := by have := totL_le t.ks k; have := HTT.out; have := HTO.out; omega
   obtain ⟨x0, x1, x2, xf⟩ := hv
   clear hb hK hK2
   by_cases hlt : k < t.ks.length
   ·by_cases hbig : K ≤ 1600
    ·obtain ⟨ad, ⟨op', tx', X', n', m'⟩, eA, hS', q0, q1, q2, hk'⟩ := HK.out.kid k hlt
     dsimp only at eA q0 q1 q2
     subst eA
     have hKK := hid hk'
     have had := HS.out _ hS'
     have HDT := hid (totL_step t.ks k hlt)
     have HDM := hid (tot_mem (List.getElem_mem hlt))
     have hbg : decide ((K : Int) ≤ 1600) = true := by simp; omega
     clear hk'
     go_wp2_with fail
     refine (ih.out k hlt S op' tx' X' n' m' _ (fun g hg => Nat.lt_of_lt_of_le (HS.out g hg) hz) hKK.out).mono ?_
     rintro e w1 ⟨K1, rfl, hK1, hK12, hb1⟩
     have hK1b : K1 ≤ 1048576 := by have := HDM.out; have := HTT.out; have := HTO.out; omega
     have HB1 := hid (HB.out.trans (hb1.mono hz))
     have HV1 := hid (HV.out.below hb1)
     have k3 : IntKind.i64.wrap ((K : Int) + (K1 : Int)) = ((K + K1 : Nat) : Int) := by rw [IntKind.wrap_i64]; omega
     have HK1 := hid hK1
     have HK12 := hid hK12
     clear hb1 q0 q1 q2 x0 x1 x2 xf hK1 hK12
     go_wp2
     go_roundw
     case rel => exact ⟨k + 1, K + K1, by omega, by go_num, by first | rfl | simp, by have := HDT.out; have := HK1.out; have := HKK.out; omega, fun h9 => by have := HDT.out; have := HK12.out (by omega); have := HK2.out (by omega); omega, HB1.out, HV1.out⟩
     case measure => simp [intOf]; omega
    ·have hbg : decide ((K : Int) ≤ 1600) = false := by simp; omega
     go_wp2
     go_ret
     exact ⟨K, rfl, by have := HKK.out; have := totL_le t.ks k; have := HTT.out; omega, fun h9 => absurd h9 hbig, HB.out⟩
   ·obtain rfl : k = t.ks.length := by omega
    have hKK := HKK.out
    have hK2 := HK2.out
    rw [List.take_length] at hKK hK2
    have HK3 := hid hKK
    have HK4 := hid hK2
    clear hKK hK2
    go_wp2
    go_ret
    exact ⟨K, rfl, by have := HK3.out; have := HTT.out; omega, fun h9 => by have := HK4.out h9; have := HTT.out; omega, HB.out⟩
end Go.Proofs.YtjbpkpfmgbhlpaaGreatDoor.Code
/-
  Queries of words: words ahead, and words behind, do not matter. No program is named here.
-/
namespace Go.Proofs.YtjbpkpfmgbhlpaaGreatDoor.Code
open Val
set_option linter.unusedVariables false
section
variable (A L : List V) (i : Nat) (b : Bool)
end
section
variable {L L' : List V}
end
def m0 : Mode → Nat
 | .loop _ a => a.deep
 | .test a => a.deep
 | _ => 1
theorem deep_pos (t : Tr) : 1 ≤ t.deep := by cases t <;> simp [Tr.deep]
theorem m0_pos (m : Mode) : 1 ≤ m0 m := by cases m <;> first | exact Nat.le_refl _ | exact deep_pos _
theorem deep_one (o : List UInt8) (a : Tr) : (Tr.one o a).deep = a.deep + 1 := rfl
theorem deep_two (o : List UInt8) (a b : Tr) : (Tr.two o a b).deep = max a.deep b.deep + 1 := rfl
theorem deep_leaf (o x : List UInt8) : (Tr.leaf o x).deep = 1 := rfl
theorem P_deep (L : List V) : ∀ (f : Nat) (m : Mode) (i : Nat) (b : Bool), i ≤ L.length → (P L f m i b).1.deep + i ≤ m0 m + (P L f m i b).2.1
 | 0, m, i, b, _ => by
  have := m0_pos m
  show 1 + i ≤ m0 m + i
  omega
 | f + 1, .expr l, i, b, h => by
  rw [P]
  split
  ·exact P_deep L f .sign i b h
  split
  ·split
   ·rename_i hs
    have h1 := isW_lt hs
    have ih := P_deep L f (.expr 3) (i + 1) b (by omega)
    simp only [m0, deep_one] at ih ⊢
    omega
   ·exact P_deep L f (.expr 4) i b h
  split
  ·have ih := P_deep L f (.expr 5) i b h
   have he := P_ends L f (.expr 5) i b h
   have ih2 := P_deep L f (.test (P L f (.expr 5) i b).1) (P L f (.expr 5) i b).2.1 (P L f (.expr 5) i b).2.2 he.2.1
   simp only [m0] at ih ih2 ⊢
   omega
  ·have ih := P_deep L f (.expr (l + 1)) i b h
   have he := P_ends L f (.expr (l + 1)) i b h
   have ih2 := P_deep L f (.loop l (P L f (.expr (l + 1)) i b).1) (P L f (.expr (l + 1)) i b).2.1 (P L f (.expr (l + 1)) i b).2.2 he.2.1
   simp only [m0] at ih ih2 ⊢
   omega
 | f + 1, .loop l a, i, b, h => by
  rw [P]
  split
  ·simp only [m0]; omega
  ·rename_i ho
   obtain ⟨h1, h2⟩ := oneL_lt ho
   have ih := P_deep L f (.expr (l + 1)) (i + 1) b (by omega)
   have he := P_ends L f (.expr (l + 1)) (i + 1) b (by omega)
   have ih2 := P_deep L f (.loop l (.two (oneL L i b (opsL l)) a (P L f (.expr (l + 1)) (i + 1) b).1)) (P L f (.expr (l + 1)) (i + 1) b).2.1 (P L f (.expr (l + 1)) (i + 1) b).2.2 he.2.1
   have hp := deep_pos a
   simp only [m0, deep_two] at ih ih2 ⊢
   omega
 | f + 1, .test a, i, b, h => by
  have hp := deep_pos a
  rw [P]
  split
  ·split
   ·rename_i hs
    have h1 := isW_lt hs
    split
    ·simp only [m0, deep_one]; omega
    ·simp only [m0, deep_one]; omega
   ·simp only [m0]; omega
  ·rename_i ho
   obtain ⟨h1, h2⟩ := oneL_lt ho
   have ih := P_deep L f (.expr 5) (i + 1) b (by omega)
   have he := P_ends L f (.expr 5) (i + 1) b (by omega)
   simp only [m0, deep_two] at ih ⊢
   omega
 | f + 1, .sign, i, b, h => by
  rw [P]
  split
  ·rename_i hs
   have h1 := isW_lt hs
   have ih := P_deep L f .sign (i + 1) b (by omega)
   simp only [m0, deep_one] at ih ⊢
   omega
  split
  ·rename_i hs
   have h1 := isW_lt hs
   have ih := P_deep L f (.expr 1) (i + 1) b (by omega)
   split
   ·simp only [m0] at ih ⊢; omega
   ·simp only [m0] at ih ⊢; omega
  split
  ·split
   ·split
    ·simp only [m0, deep_leaf]; omega
    ·show 1 + i ≤ 1 + i; omega
   split
   ·simp only [m0, deep_leaf]; omega
   split
   ·simp only [m0, deep_leaf]; omega
   ·simp only [m0, deep_leaf]; omega
  ·simp only [m0, deep_leaf]; omega
theorem run_fig {p : UInt8 → Bool} : ∀ (s : List UInt8), ∀ c ∈ s.take (runL p s), p c = true
 | [], c, h => by simp at h
 | d :: s, c, h => by
  by_cases hd : p d = true
  ·rw [runL, if_pos hd, List.take_succ_cons] at h
   rcases List.mem_cons.1 h with rfl | h
   ·exact hd
   ·exact run_fig s c h
  ·rw [runL, if_neg hd] at h
   simp at h
theorem came_fig {l : List W} (h : CameB l) : ∀ w ∈ l, w.1 = 1 → (∀ c ∈ w.2.1, figB c = true) ∧ w.2.1.length ≤ 19 := by
 intro w hw hk
 have hf := h w hw
 rw [hk, show showW 1 w.2.1 = w.2.1 from rfl] at hf
 rcases first_cases hf with ⟨c, r, _, _, e, _⟩ | ⟨c, r, e1, e2, e3, _, ht, hn, hn2⟩ | ⟨r, _, e, _⟩ | ⟨c, d, r, _, _, _, _, _, e, _⟩ | ⟨c, r, _, _, _, _, _, _, e, _⟩
 ·exact absurd e (by decide)
 ·refine ⟨fun c hc => ?_, hn2⟩
  rw [ht] at hc
  exact run_fig _ c hc
 ·exact absurd e (by decide)
 ·exact absurd e (by decide)
 ·exact absurd e (by decide)
theorem words_len (s : List UInt8) : ∀ (i : Int) (l : List W), wordsL s i = .ok l → l.length ≤ s.length := by
 refine words_way (Q := fun s => ∀ (i : Int) (l : List W), wordsL s i = .ok l → l.length ≤ s.length) ?_ ?_ ?_ ?_ s
 ·intro i l h; cases h; exact Nat.le_refl _
 ·intro c s hb ih i l h
  rw [wordsL_blank hb] at h
  have := ih _ l h
  simp only [List.length_cons]
  omega
 ·intro c s hb hf i l h
  rw [wordsL_none hb hf] at h
  cases h
 ·intro c s k t n hf ih i l h
  have hn := first_n hf
  rw [wordsL_one hf] at h
  cases hw : wordsL ((c :: s).drop n) (i + n) with
  | error j' => rw [hw] at h; cases h
  | ok l' =>
   rw [hw] at h
   cases h
   have := ih _ l' hw
   rw [List.length_drop] at this
   simp only [List.length_cons] at this hn ⊢
   omega
def topQ (L : List V) : Res := qq L (L.length + 1) 0 false
def parseQW (n : Nat) (l : List W) : Nod × Int × Int :=
 if l = [] then (zeroN, n, 91)
 else if (topQ (bare l)).2.2 = true ∨ (topQ (bare l)).2.1 < l.length then (zeroN, placeL n l (topQ (bare l)).2.1, 91)
 else if 16 < (topQ (bare l)).1.deep then (zeroN, 0, 92)
 else ((topQ (bare l)).1, 0, 0)
def parseQ (s : List UInt8) : Nod × Int × Int := match wordsL s 0 with | .error j => (zeroN, j, 81) | .ok l => parseQW s.length l
theorem topQ_le (L : List V) : (topQ L).2.1 ≤ L.length := (qq_ends L (L.length + 1) 0 false (Nat.zero_le _)).2.1
abbrev RuleR := Int × List Int × Bool
def tblE : List (List UInt8 × RuleR) :=
 [(sOr, 0, [0, 1], false), (sAnd, 1, [1, 2], false), (sNot, 2, [2], false), ([61], 3, [4, 4], false), ([60, 62], 3, [4, 4], false), ([60], 3, [4, 4], false), ([60, 61], 3, [4, 4], false), ([62], 3, [4, 4], false), ([62, 61], 3, [4, 4], false), (sIsNull, 3, [4], false),
  ([43], 4, [4, 5], false), ([45], 4, [4, 5], false), ([42], 5, [5, 6], false), (sNeg, 6, [7], false), (sNum, 7, [], true), (sText, 7, [], true), (sCol, 7, [], true), (sTrue, 7, [], false), (sFalse, 7, [], false), (sNull, 7, [], false)]
def lookE (k : List UInt8) : List (List UInt8 × RuleR) → Option RuleR
 | [] => none
 | p :: l => if k = p.1 then some p.2 else lookE k l
def ruleE (k : List UInt8) : Option RuleR := lookE k tblE
theorem look_mem {k : List UInt8} {r : RuleR} : ∀ {l : List (List UInt8 × RuleR)}, lookE k l = some r → (k, r) ∈ l
 | [], h => by cases h
 | p :: l, h => by
  rw [lookE] at h
  split at h
  ·rename_i e
   cases h
   subst e
   exact List.mem_cons_self ..
  ·exact List.mem_cons_of_mem _ (look_mem h)
theorem look_none {k : List UInt8} : ∀ {l : List (List UInt8 × RuleR)}, lookE k l = none → ∀ p ∈ l, k ≠ p.1
 | [], _, p, hp => by cases hp
 | q :: l, h, p, hp => by
  rw [lookE] at h
  split at h
  ·cases h
  ·rename_i e
   rcases List.mem_cons.1 hp with rfl | hp
   ·exact e
   ·exact look_none h p hp
def rE (op tx : List UInt8) (n : Nat) : Option RuleR :=
 match ruleE op with
 | none => none
 | some r => if n = r.2.1.length ∧ (tx = [] ∨ r.2.2 = true) then some r else none
def lvE (t : Nod) : Int := match rE t.op t.tx t.ks.length with | some r => r.1 | none => 7
def kdE (al : Int) (p : List UInt8 × Int) : List UInt8 := if al ≤ p.2 then p.1 else 40 :: (p.1 ++ [41])
def sayE (op tx : List UInt8) (ls : List Int) : List (List UInt8 × Int) → List UInt8
 | [] => if op = sText then showL 4 0 ⟨tx.toArray⟩ else if op = sNum ∨ op = sCol then tx else op
 | [a] => if op = sNeg then 45 :: kdE (ls.getD 0 0) a else if op = sNot then [110, 111, 116, 32] ++ kdE (ls.getD 0 0) a else kdE (ls.getD 0 0) a ++ [32, 105, 115, 32, 110, 117, 108, 108]
 | a :: b :: _ => kdE (ls.getD 0 0) a ++ (32 :: (op ++ [32])) ++ kdE (ls.getD 1 0) b
mutual
def showE : Nod → List UInt8
 | .mk op tx ks => match rE op tx ks.length with
  | none => [63]
  | some r => sayE op tx r.2.1 (showEs ks)
def showEs : List Nod → List (List UInt8 × Int)
 | [] => []
 | t :: l => (showE t, lvE t) :: showEs l
end
theorem showE_bad {op tx : List UInt8} {ks : List Nod} (h : rE op tx ks.length = none) : showE (.mk op tx ks) = [63] := by rw [showE, h]
theorem showE_good {op tx : List UInt8} {ks : List Nod} {r : RuleR} (h : rE op tx ks.length = some r) : showE (.mk op tx ks) = sayE op tx r.2.1 (showEs ks) := by rw [showE, h]
theorem rE_some {op tx : List UInt8} {n : Nat} {r : RuleR} (h : rE op tx n = some r) : ruleE op = some r ∧ n = r.2.1.length ∧ (tx = [] ∨ r.2.2 = true) := by
 unfold rE at h
 cases hr : ruleE op with
 | none => rw [hr] at h; cases h
 | some q =>
  rw [hr] at h
  dsimp only at h
  split at h
  ·rename_i hc
   cases h
   exact ⟨rfl, hc.1, hc.2⟩
  ·cases h
theorem rule_few {op : List UInt8} {r : RuleR} (h : ruleE op = some r) : r.2.1.length ≤ 2 ∧ op.length ≤ 100 := by
 have := look_mem h
 have hall : ∀ p ∈ tblE, p.2.2.1.length ≤ 2 ∧ p.1.length ≤ 100 := by decide
 exact hall _ this
def isE (n : Nod) (o : List UInt8) (k : Nat) : Bool := n.op == o && n.ks.length == k
def nthN (l : List Nod) (k : Nat) : Nod := l.getD k zeroN
def partQ (o : List UInt8) (n : Nod) (sh : List UInt8) : Option (List UInt8) :=
 if o = sFilter then some (showE n)
 else if o = sUnion then some sh
 else if o = sProject then if isE n sItem 1 = true then some (n.tx ++ [32, 61, 32] ++ showE (nthN n.ks 0)) else none
 else if o = sJoin then if (isE n sOn 1 && isE (nthN n.ks 0) sCol 0) = true then some (n.tx ++ [32, 61, 32] ++ (nthN n.ks 0).tx) else none
 else if o = sGroup then
  if (isE n sAgg 1 && (nthN n.ks 0).ks.length == 0 && ((nthN n.ks 0).op == sSum || (nthN n.ks 0).op == sMin || (nthN n.ks 0).op == sMax || ((nthN n.ks 0).op == sCount && (nthN n.ks 0).tx == []))) = true then some (n.tx ++ [32, 61, 32] ++ (nthN n.ks 0).op ++ [40] ++ (nthN n.ks 0).tx ++ [41]) else none
 else none
def namesE : List Nod → Option (List UInt8)
 | [] => some []
 | n :: l => if isE n sCol 0 = true then (match namesE l with | some s => some (32 :: (n.tx ++ s)) | none => none) else none
def byE (n : Nod) : Option (List UInt8) := match namesE n.ks with | some s => if (n.op == sBy && n.tx == []) = true then some (sBy ++ s) else none | none => none
def enoughE (n : Nod) : Bool :=
 n.tx == [] && (if n.op = sFilter then n.ks.length == 2 else if n.op = sDistinct then n.ks.length == 1 else if n.op = sProject ∨ n.op = sUnion then decide (2 ≤ n.ks.length) else if n.op = sJoin ∨ n.op = sGroup then decide (3 ≤ n.ks.length) else false)
def partsQ (o : List UInt8) : List Nod → List (List UInt8) → Option (List UInt8)
 | n :: l, s :: ss => match partQ o n s with | some t => (match partsQ o l ss with | some r => some (44 :: 32 :: (t ++ r)) | none => none) | none => none
 | _, _ => some []
def wholeQ (o s : List UInt8) (ks : List Nod) (ss : List (List UInt8)) : List UInt8 := match partsQ o ks ss with | some r => s ++ r ++ [41] | none => [63]
def showQ1 (n : Nod) (ss : List (List UInt8)) : List UInt8 :=
 if isE n sFrom 0 = true then n.tx
 else if enoughE n = false then [63]
 else if n.op = sJoin then wholeQ n.op (n.op ++ [40] ++ ss.getD 0 [] ++ [44, 32] ++ ss.getD 1 []) (n.ks.drop 2) (ss.drop 2)
 else if n.op = sGroup then
  match byE (nthN n.ks 1) with
  | some b => wholeQ n.op (n.op ++ [40] ++ ss.getD 0 [] ++ (if 0 < (nthN n.ks 1).ks.length then [44, 32] ++ b else [])) (n.ks.drop 2) (ss.drop 2)
  | none => [63]
 else wholeQ n.op (n.op ++ [40] ++ ss.getD 0 []) (n.ks.drop 1) (ss.drop 1)
mutual
def showQ : Nod → List UInt8
 | .mk o t ks => showQ1 (.mk o t ks) (showsQ ks)
def showsQ : List Nod → List (List UInt8)
 | [] => []
 | n :: l => showQ n :: showsQ l
end
mutual
def leavesQ : Nod → List (List UInt8)
 | .mk o t ks => (if o = sFrom then [t] else []) ++ leavessQ ks
def leavessQ : List Nod → List (List UInt8)
 | [] => []
 | n :: l => leavesQ n ++ leavessQ l
end
theorem showsQ_length : ∀ l : List Nod, (showsQ l).length = l.length
 | [] => rfl
 | n :: l => by rw [showsQ, List.length_cons, List.length_cons, showsQ_length l]
theorem leavessQ_take (l : List Nod) (i : Nat) (h : i < l.length) : leavessQ (l.take (i + 1)) = leavessQ (l.take i) ++ leavesQ l[i] := by
 induction l generalizing i with
 | nil => exact absurd h (Nat.not_lt_zero _)
 | cons n l ih =>
  cases i with
  | zero => simp [leavessQ]
  | succ i =>
   simp only [List.take_succ_cons, leavessQ, List.getElem_cons_succ]
   rw [ih i (by simpa using h), List.append_assoc]
def aliveQS : List UInt8 := [103, 114, 111, 117, 112, 40, 106, 111, 105, 110, 40, 116, 44, 32, 102, 105, 108, 116, 101, 114, 40, 117, 44, 32, 97, 32, 60, 32, 51, 41, 44, 32, 97, 32, 61, 32, 98, 41, 44, 32, 98, 121, 32, 97, 32, 98, 44, 32, 110, 32, 61, 32, 99, 111, 117, 110, 116, 40, 41, 44, 32, 109, 32, 61, 32, 109, 97, 120, 40, 99, 41, 41]
def aliveQT : Nod := .mk sGroup [] [.mk sJoin [] [.mk sFrom [116] [], .mk sFilter [] [.mk sFrom [117] [], (Tr.two [60] (.leaf sCol [97]) (.leaf sNum [51])).n], .mk sOn [97] [.mk sCol [98] []]], .mk sBy [] [.mk sCol [97] [], .mk sCol [98] []], .mk sAgg [110] [.mk sCount [] []], .mk sAgg [109] [.mk sMax [99] []]]
theorem aliveQ_1 : parseQ aliveQS = (aliveQT, 0, 0) := by kernel_rfl
theorem aliveQ_2 : parseQ [112, 114, 111, 106, 101, 99, 116, 40, 116, 41] = (zeroN, 9, 91) := by kernel_rfl
theorem aliveQ_show : showQ aliveQT = aliveQS := by decide +kernel
theorem aliveQ_leaves : leavesQ aliveQT = [[116], [117]] := by decide +kernel
end Go.Proofs.YtjbpkpfmgbhlpaaGreatDoor.Code
