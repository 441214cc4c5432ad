/-
  How deep a query's node is at most. No program is named here.
-/
import Derived.Test.YtjbpkpfmgbhlpaaGreatDoorMw4
import Derived.Test.YtjbpkpfmgbhlpaaGreatDoorMw3
import Derived.Test.YtjbpkpfmgbhlpaaGreatDoorMw1
import Derived.Test.YtjbpkpfmgbhlpaaGreatDoorMw2
import Derived.Deep.DeepCutAuto
import Derived.Deep.RegionHeld3
import Derived.Deep.AppendLies
import Derived.Deep.RegionLaw
namespace Go.Proofs.YtjbpkpfmgbhlpaaGreatDoor.Code
open Val
set_option linter.unusedVariables false
theorem deepL_le {k : Nat} : ∀ {l : List Nod}, (∀ t ∈ l, t.deep ≤ k) → Nod.deepL l ≤ k
 | [], _ => Nat.zero_le _
 | x :: l, h => by
  rw [Nod.deepL]
  exact Nat.max_le.2 ⟨h x (List.mem_cons_self ..), deepL_le fun t ht => h t (List.mem_cons_of_mem _ ht)⟩
theorem mk_deep (o t : List UInt8) (ks : List Nod) : (Nod.mk o t ks).deep = Nod.deepL ks + 1 := by rw [Nod.deep]
theorem leaf_deep (o t : List UInt8) : (Nod.mk o t []).deep = 1 := by rw [Nod.deep, Nod.deepL]
section
variable {L : List V} {i : Nat} {b : Bool}
theorem exprQ_deep (h : i ≤ L.length) : (exprQ L i b).1.n.deep + i ≤ 1 + (exprQ L i b).2.1 := by
 rw [Tr.n_deep]
 exact P_deep L (stepsN L) (.expr 1) i b h
theorem item_deep (h : i ≤ L.length) : (itemQ L i b).1.deep + i ≤ 2 + (itemQ L i b).2.1 := by
 have h1 := nm_ends (b := b) h
 have h2 := must_ends (b := (nmQ L i b).2.2) (s := [61]) h1.2.1
 have h3 := exprQ_deep (b := (mustQ L (nmQ L i b).2.1 (nmQ L i b).2.2 [61]).2) h2.2.1
 have e1 := h1.1
 have e2 := h2.1
 unfold itemQ
 rw [mk_deep, Nod.deepL, Nod.deepL]
 dsimp only
 omega
theorem pair_deep (h : i ≤ L.length) : (pairQ L i b).1.deep + i ≤ 2 + (pairQ L i b).2.1 := by
 have h1 := (pair_ends (b := b) h).1
 have h2 : (pairQ L i b).1.deep = 2 := by unfold pairQ; rw [mk_deep, Nod.deepL, leaf_deep, Nod.deepL]; rfl
 omega
theorem agg_deep (h : i ≤ L.length) : (aggQ L i b).1.deep + i ≤ 2 + (aggQ L i b).2.1 := by
 have h1 := (agg_ends (b := b) h).1
 have h2 : (aggQ L i b).1.deep ≤ 2 := by
  unfold aggQ agg2Q
  split
  ·show zeroN.deep ≤ 2
   unfold zeroN
   rw [leaf_deep]
   decide
  ·rw [mk_deep, Nod.deepL, leaf_deep, Nod.deepL]
   decide
 omega
theorem names_deep : ∀ (f i : Nat) (b : Bool), ∀ t ∈ (namesQ L f i b).1, t.deep ≤ 1
 | 0, i, b, t, ht => by cases ht
 | f + 1, i, b, t, ht => by
  rw [namesQ] at ht
  split at ht
  ·rcases List.mem_cons.1 ht with rfl | ht
   ·rw [leaf_deep]; exact Nat.le_refl _
   ·exact names_deep f _ _ t ht
  ·obtain rfl := List.mem_singleton.1 ht
   rw [leaf_deep]; exact Nat.le_refl _
theorem by_deep : (byQ L i b).1.deep ≤ 2 := by
 unfold byQ
 split
 ·rw [mk_deep]
  have := deepL_le (fun t ht => names_deep (L := L) (L.length + 1) (i + 1) b t ht)
  omega
 ·rw [leaf_deep]; decide
theorem loop_deep {el : Nat → Bool → Res} {k : Nat} (he : ∀ j c, j ≤ L.length → Ends L.length j c (el j c).2) (hd : ∀ j c, j ≤ L.length → (el j c).1.deep + j ≤ k + (el j c).2.1) : ∀ (f : Nat) (first : Bool) (i : Nat) (b : Bool), i ≤ L.length → ∀ t ∈ (loopQ L el f first i b).1, t.deep + i ≤ k + (loopQ L el f first i b).2.1
 | 0, _, i, b, h, t, ht => by cases ht
 | f + 1, first, i, b, h, t, ht => by
  rw [loopQ] at ht ⊢
  have h1 := more_ends (b := b) (first := first) h
  by_cases hm : (moreQ L i b first).1 = false
  ·rw [if_pos hm] at ht
   cases ht
  rw [if_neg hm] at ht ⊢
  have h2 := he _ (moreQ L i b first).2.2 h1.2.1
  have h3 := loop_ends he f false _ (el (moreQ L i b first).2.1 (moreQ L i b first).2.2).2.2 h2.2.1
  have e1 := h1.1
  have e2 := h2.1
  have e3 := h3.1
  dsimp only at ht ⊢
  rcases List.mem_cons.1 ht with rfl | ht
  ·have := hd _ (moreQ L i b first).2.2 h1.2.1
   omega
  ·have := loop_deep he hd f false _ _ h2.2.1 t ht
   omega
theorem tail_deep {q : Nat → Bool → Res} (hq : ∀ j c, j ≤ L.length → Ends L.length j c (q j c).2) (hd : ∀ j c, j ≤ L.length → (q j c).1.deep + j ≤ 2 + (q j c).2.1) {o : List UInt8} (h : i ≤ L.length) : ∀ t ∈ (tailQ L q o i b).1, t.deep + i ≤ 2 + (tailQ L q o i b).2.1 := by
 have h1 := must_ends (b := b) (s := [44]) h
 have e1 := h1.1
 have hT := tail_ends (b := b) (o := o) hq h
 have eT := hT.1
 intro t ht
 unfold tailQ at ht eT ⊢
 split at ht
 ·rename_i c1
  rw [if_pos c1] at eT ⊢
  obtain rfl := List.mem_singleton.1 ht
  have h2 := exprQ_deep (b := (mustQ L i b [44]).2) h1.2.1
  have h3 := expr_ends (b := (mustQ L i b [44]).2) h1.2.1
  have h4 := (must_ends (b := (exprQ L (mustQ L i b [44]).1 (mustQ L i b [44]).2).2.2) (s := [41]) h3.2.1).1
  dsimp only
  omega
 rename_i c1
 rw [if_neg c1] at eT ⊢
 split at ht
 ·cases ht
 rename_i c2
 rw [if_neg c2] at eT ⊢
 split at ht
 ·rename_i c3
  rw [if_pos c3] at eT ⊢
  exact loop_deep (fun j c hj => item_ends hj) (fun j c hj => item_deep hj) _ _ _ _ h t ht
 rename_i c3
 rw [if_neg c3] at eT ⊢
 split at ht
 ·rename_i c4
  rw [if_pos c4] at eT ⊢
  exact loop_deep hq hd _ _ _ _ h t ht
 rename_i c4
 rw [if_neg c4] at eT ⊢
 split at ht
 ·rename_i c5
  rw [if_pos c5] at eT ⊢
  have h2 := hq _ (mustQ L i b [44]).2 h1.2.1
  have e2 := h2.1
  have h3 := loop_ends (L := L) (el := pairQ L) (fun j c hj => pair_ends hj) (L.length + 1) true _ (q (mustQ L i b [44]).1 (mustQ L i b [44]).2).2.2 h2.2.1
  have e3 := h3.1
  dsimp only at ht ⊢
  rcases List.mem_cons.1 ht with rfl | ht
  ·have := hd _ (mustQ L i b [44]).2 h1.2.1
   omega
  ·have := loop_deep (L := L) (el := pairQ L) (fun j c hj => pair_ends hj) (fun j c hj => pair_deep hj) _ _ _ _ h2.2.1 t ht
   omega
 ·rename_i c5
  rw [if_neg c5] at eT ⊢
  unfold groupQ at ht eT ⊢
  have h2 := by_ends (b := (mustQ L i b [44]).2) h1.2.1
  have h3 := agg_ends (L := L) (b := (byQ L (mustQ L i b [44]).1 (mustQ L i b [44]).2).2.2) h2.2.1
  have h4 := loop_ends (L := L) (el := aggQ L) (fun j c hj => agg_ends hj) (L.length + 1) false _ (aggQ L (byQ L (mustQ L i b [44]).1 (mustQ L i b [44]).2).2.1 (byQ L (mustQ L i b [44]).1 (mustQ L i b [44]).2).2.2).2.2 h3.2.1
  have e2 := h2.1
  have e3 := h3.1
  have e4 := h4.1
  dsimp only at ht eT ⊢
  rcases List.mem_cons.1 ht with rfl | ht
  ·have := by_deep (L := L) (i := (mustQ L i b [44]).1) (b := (mustQ L i b [44]).2)
   omega
  rcases List.mem_cons.1 ht with rfl | ht
  ·have := agg_deep (L := L) (b := (byQ L (mustQ L i b [44]).1 (mustQ L i b [44]).2).2.2) h2.2.1
   omega
  ·have := loop_deep (L := L) (el := aggQ L) (fun j c hj => agg_ends hj) (fun j c hj => agg_deep hj) _ _ _ _ h3.2.1 t ht
   omega
end
theorem qq_deep (L : List V) : ∀ (f i : Nat) (b : Bool), i ≤ L.length → (qq L f i b).1.deep + i ≤ 1 + (qq L f i b).2.1
 | 0, i, b, h => by rw [qq]; unfold zeroN; rw [leaf_deep]; exact Nat.le_refl _
 | f + 1, i, b, h => by
  rw [qq]
  by_cases ho : opQ L i b opsQ = []
  ·rw [if_pos ho]
   have := (nm_ends (b := b) h).1
   dsimp only
   rw [leaf_deep]
   omega
  ·rw [if_neg ho]
   have hs := op_lt ho
   have h1 := qq_ends L f (i + 2) b hs.1
   have d1 := qq_deep L f (i + 2) b hs.1
   have h2 := tail_ends (b := (qq L f (i + 2) b).2.2) (o := opQ L i b opsQ) (fun j c hj => qq_ends L f j c hj) h1.2.1
   have e1 := h1.1
   have e2 := h2.1
   dsimp only
   rw [mk_deep, Nod.deepL]
   have := deepL_le (k := 2 + (tailQ L (qq L f) (opQ L i b opsQ) (qq L f (i + 2) b).2.1 (qq L f (i + 2) b).2.2).2.1 - (qq L f (i + 2) b).2.1) (l := (tailQ L (qq L f) (opQ L i b opsQ) (qq L f (i + 2) b).2.1 (qq L f (i + 2) b).2.2).1) (fun t ht => by
    have := tail_deep (L := L) (fun j c hj => qq_ends L f j c hj) (fun j c hj => by have := qq_deep L f j c hj; omega) h1.2.1 t ht
    omega)
   omega
theorem topQ_deep (L : List V) : (topQ L).1.deep ≤ 1 + L.length := by
 have h := qq_deep L (L.length + 1) 0 false (Nat.zero_le _)
 have h2 := topQ_le L
 unfold topQ at h2 ⊢
 omega
abbrev RuleR := Int × List Int × Bool
def tblE : List (List UInt8 × RuleR) :=
 [(sOr, 0, [0, 1], false), (sAnd, 1, [1, 2], false), (sNot, 2, [2], false), ([61], 3, [4, 4], false), ([60, 62], 3, [4, 4], false), ([60], 3, [4, 4], false), ([60, 61], 3, [4, 4], false), ([62], 3, [4, 4], false), ([62, 61], 3, [4, 4], false), (sIsNull, 3, [4], false),
  ([43], 4, [4, 5], false), ([45], 4, [4, 5], false), ([42], 5, [5, 6], false), (sNeg, 6, [7], false), (sNum, 7, [], true), (sText, 7, [], true), (sCol, 7, [], true), (sTrue, 7, [], false), (sFalse, 7, [], false), (sNull, 7, [], false)]
def lookE (k : List UInt8) : List (List UInt8 × RuleR) → Option RuleR
 | [] => none
 | p :: l => if k = p.1 then some p.2 else lookE k l
def ruleE (k : List UInt8) : Option RuleR := lookE k tblE
theorem look_mem {k : List UInt8} {r : RuleR} : ∀ {l : List (List UInt8 × RuleR)}, lookE k l = some r → (k, r) ∈ l
 | [], h => by cases h
 | p :: l, h => by
  rw [lookE] at h
  split at h
  ·rename_i e
   cases h
   subst e
   exact List.mem_cons_self ..
  ·exact List.mem_cons_of_mem _ (look_mem h)
theorem look_none {k : List UInt8} : ∀ {l : List (List UInt8 × RuleR)}, lookE k l = none → ∀ p ∈ l, k ≠ p.1
 | [], _, p, hp => by cases hp
 | q :: l, h, p, hp => by
  rw [lookE] at h
  split at h
  ·cases h
  ·rename_i e
   rcases List.mem_cons.1 hp with rfl | hp
   ·exact e
   ·exact look_none h p hp
def rE (op tx : List UInt8) (n : Nat) : Option RuleR :=
 match ruleE op with
 | none => none
 | some r => if n = r.2.1.length ∧ (tx = [] ∨ r.2.2 = true) then some r else none
def lvE (t : Nod) : Int := match rE t.op t.tx t.ks.length with | some r => r.1 | none => 7
def kdE (al : Int) (p : List UInt8 × Int) : List UInt8 := if al ≤ p.2 then p.1 else 40 :: (p.1 ++ [41])
def sayE (op tx : List UInt8) (ls : List Int) : List (List UInt8 × Int) → List UInt8
 | [] => if op = sText then showL 4 0 ⟨tx.toArray⟩ else if op = sNum ∨ op = sCol then tx else op
 | [a] => if op = sNeg then 45 :: kdE (ls.getD 0 0) a else if op = sNot then [110, 111, 116, 32] ++ kdE (ls.getD 0 0) a else kdE (ls.getD 0 0) a ++ [32, 105, 115, 32, 110, 117, 108, 108]
 | a :: b :: _ => kdE (ls.getD 0 0) a ++ (32 :: (op ++ [32])) ++ kdE (ls.getD 1 0) b
mutual
def showE : Nod → List UInt8
 | .mk op tx ks => match rE op tx ks.length with
  | none => [63]
  | some r => sayE op tx r.2.1 (showEs ks)
def showEs : List Nod → List (List UInt8 × Int)
 | [] => []
 | t :: l => (showE t, lvE t) :: showEs l
end
theorem showE_bad {op tx : List UInt8} {ks : List Nod} (h : rE op tx ks.length = none) : showE (.mk op tx ks) = [63] := by rw [showE, h]
theorem showE_good {op tx : List UInt8} {ks : List Nod} {r : RuleR} (h : rE op tx ks.length = some r) : showE (.mk op tx ks) = sayE op tx r.2.1 (showEs ks) := by rw [showE, h]
theorem rE_some {op tx : List UInt8} {n : Nat} {r : RuleR} (h : rE op tx n = some r) : ruleE op = some r ∧ n = r.2.1.length ∧ (tx = [] ∨ r.2.2 = true) := by
 unfold rE at h
 cases hr : ruleE op with
 | none => rw [hr] at h; cases h
 | some q =>
  rw [hr] at h
  dsimp only at h
  split at h
  ·rename_i hc
   cases h
   exact ⟨rfl, hc.1, hc.2⟩
  ·cases h
theorem rule_few {op : List UInt8} {r : RuleR} (h : ruleE op = some r) : r.2.1.length ≤ 2 ∧ op.length ≤ 100 := by
 have := look_mem h
 have hall : ∀ p ∈ tblE, p.2.2.1.length ≤ 2 ∧ p.1.length ≤ 100 := by decide
 exact hall _ this
def isE (n : Nod) (o : List UInt8) (k : Nat) : Bool := n.op == o && n.ks.length == k
def nthN (l : List Nod) (k : Nat) : Nod := l.getD k zeroN
def partQ (o : List UInt8) (n : Nod) (sh : List UInt8) : Option (List UInt8) :=
 if o = sFilter then some (showE n)
 else if o = sUnion then some sh
 else if o = sProject then if isE n sItem 1 = true then some (n.tx ++ [32, 61, 32] ++ showE (nthN n.ks 0)) else none
 else if o = sJoin then if (isE n sOn 1 && isE (nthN n.ks 0) sCol 0) = true then some (n.tx ++ [32, 61, 32] ++ (nthN n.ks 0).tx) else none
 else if o = sGroup then
  if (isE n sAgg 1 && (nthN n.ks 0).ks.length == 0 && ((nthN n.ks 0).op == sSum || (nthN n.ks 0).op == sMin || (nthN n.ks 0).op == sMax || ((nthN n.ks 0).op == sCount && (nthN n.ks 0).tx == []))) = true then some (n.tx ++ [32, 61, 32] ++ (nthN n.ks 0).op ++ [40] ++ (nthN n.ks 0).tx ++ [41]) else none
 else none
def namesE : List Nod → Option (List UInt8)
 | [] => some []
 | n :: l => if isE n sCol 0 = true then (match namesE l with | some s => some (32 :: (n.tx ++ s)) | none => none) else none
def byE (n : Nod) : Option (List UInt8) := match namesE n.ks with | some s => if (n.op == sBy && n.tx == []) = true then some (sBy ++ s) else none | none => none
def enoughE (n : Nod) : Bool :=
 n.tx == [] && (if n.op = sFilter then n.ks.length == 2 else if n.op = sDistinct then n.ks.length == 1 else if n.op = sProject ∨ n.op = sUnion then decide (2 ≤ n.ks.length) else if n.op = sJoin ∨ n.op = sGroup then decide (3 ≤ n.ks.length) else false)
def partsQ (o : List UInt8) : List Nod → List (List UInt8) → Option (List UInt8)
 | n :: l, s :: ss => match partQ o n s with | some t => (match partsQ o l ss with | some r => some (44 :: 32 :: (t ++ r)) | none => none) | none => none
 | _, _ => some []
def wholeQ (o s : List UInt8) (ks : List Nod) (ss : List (List UInt8)) : List UInt8 := match partsQ o ks ss with | some r => s ++ r ++ [41] | none => [63]
def showQ1 (n : Nod) (ss : List (List UInt8)) : List UInt8 :=
 if isE n sFrom 0 = true then n.tx
 else if enoughE n = false then [63]
 else if n.op = sJoin then wholeQ n.op (n.op ++ [40] ++ ss.getD 0 [] ++ [44, 32] ++ ss.getD 1 []) (n.ks.drop 2) (ss.drop 2)
 else if n.op = sGroup then
  match byE (nthN n.ks 1) with
  | some b => wholeQ n.op (n.op ++ [40] ++ ss.getD 0 [] ++ (if 0 < (nthN n.ks 1).ks.length then [44, 32] ++ b else [])) (n.ks.drop 2) (ss.drop 2)
  | none => [63]
 else wholeQ n.op (n.op ++ [40] ++ ss.getD 0 []) (n.ks.drop 1) (ss.drop 1)
mutual
def showQ : Nod → List UInt8
 | .mk o t ks => showQ1 (.mk o t ks) (showsQ ks)
def showsQ : List Nod → List (List UInt8)
 | [] => []
 | n :: l => showQ n :: showsQ l
end
mutual
def leavesQ : Nod → List (List UInt8)
 | .mk o t ks => (if o = sFrom then [t] else []) ++ leavessQ ks
def leavessQ : List Nod → List (List UInt8)
 | [] => []
 | n :: l => leavesQ n ++ leavessQ l
end
theorem leavessQ_take (l : List Nod) (i : Nat) (h : i < l.length) : leavessQ (l.take (i + 1)) = leavessQ (l.take i) ++ leavesQ l[i] := by
 induction l generalizing i with
 | nil => exact absurd h (Nat.not_lt_zero _)
 | cons n l ih =>
  cases i with
  | zero => simp [leavessQ]
  | succ i =>
   simp only [List.take_succ_cons, leavessQ, List.getElem_cons_succ]
   rw [ih i (by simpa using h), List.append_assoc]
def aliveQS : List UInt8 := [103, 114, 111, 117, 112, 40, 106, 111, 105, 110, 40, 116, 44, 32, 102, 105, 108, 116, 101, 114, 40, 117, 44, 32, 97, 32, 60, 32, 51, 41, 44, 32, 97, 32, 61, 32, 98, 41, 44, 32, 98, 121, 32, 97, 32, 98, 44, 32, 110, 32, 61, 32, 99, 111, 117, 110, 116, 40, 41, 44, 32, 109, 32, 61, 32, 109, 97, 120, 40, 99, 41, 41]
def aliveQT : Nod := .mk sGroup [] [.mk sJoin [] [.mk sFrom [116] [], .mk sFilter [] [.mk sFrom [117] [], (Tr.two [60] (.leaf sCol [97]) (.leaf sNum [51])).n], .mk sOn [97] [.mk sCol [98] []]], .mk sBy [] [.mk sCol [97] [], .mk sCol [98] []], .mk sAgg [110] [.mk sCount [] []], .mk sAgg [109] [.mk sMax [99] []]]
theorem aliveQ_1 : parseQ aliveQS = (aliveQT, 0, 0) := by kernel_rfl
theorem aliveQ_2 : parseQ [112, 114, 111, 106, 101, 99, 116, 40, 116, 41] = (zeroN, 9, 91) := by kernel_rfl
theorem aliveQ_show : showQ aliveQT = aliveQS := by decide +kernel
theorem aliveQ_leaves : leavesQ aliveQT = [[116], [117]] := by decide +kernel
def NoF : Tr → Prop
 | .leaf o _ => o ≠ sFrom
 | .one o a => o ≠ sFrom ∧ NoF a
 | .two o a b => o ≠ sFrom ∧ NoF a ∧ NoF b
theorem leaves_mk (o t : List UInt8) (ks : List Nod) : leavesQ (.mk o t ks) = (if o = sFrom then [t] else []) ++ leavessQ ks := by rw [leavesQ]
theorem leavess_cons (n : Nod) (l : List Nod) : leavessQ (n :: l) = leavesQ n ++ leavessQ l := by rw [leavessQ]
theorem leavess_nil : leavessQ [] = [] := by rw [leavessQ]
theorem leavess_none : ∀ {l : List Nod}, (∀ t ∈ l, leavesQ t = []) → leavessQ l = []
 | [], _ => leavess_nil
 | n :: l, h => by
  rw [leavess_cons, h n (List.mem_cons_self ..), leavess_none fun t ht => h t (List.mem_cons_of_mem _ ht)]
  rfl
theorem NoF.leaves : ∀ {t : Tr}, NoF t → leavesQ t.n = []
 | .leaf o x, h => by
  rw [Tr.n, leaves_mk, if_neg h, leavess_nil]
  rfl
 | .one o a, h => by
  rw [Tr.n, leaves_mk, if_neg h.1, leavess_cons, NoF.leaves h.2, leavess_nil]
  rfl
 | .two o a b, h => by
  rw [Tr.n, leaves_mk, if_neg h.1, leavess_cons, leavess_cons, NoF.leaves h.2.1, NoF.leaves h.2.2, leavess_nil]
  rfl
def NoM : Mode → Prop
 | .loop _ a => NoF a
 | .test a => NoF a
 | _ => True
theorem opsL_nof (l : Nat) : ∀ s ∈ opsL l, s ≠ sFrom := by
 unfold opsL
 repeat' split
 all_goals decide
theorem one_nof {L : List V} {i : Nat} {b : Bool} {l : List (List UInt8)} (h : ∀ s ∈ l, s ≠ sFrom) : oneL L i b l ≠ sFrom := by
 by_cases e : oneL L i b l = []
 ·rw [e]; decide
 ·exact h _ (oneL_some e).2
theorem P_nof (L : List V) : ∀ (f : Nat) (m : Mode) (i : Nat) (b : Bool), NoM m → NoF (P L f m i b).1
 | 0, m, i, b, _ => by
  show ([] : List UInt8) ≠ sFrom
  decide
 | f + 1, .expr l, i, b, h => by
  rw [P]
  split
  ·exact P_nof L f .sign i b trivial
  split
  ·split
   ·exact ⟨by decide, P_nof L f (.expr 3) (i + 1) b trivial⟩
   ·exact P_nof L f (.expr 4) i b trivial
  split
  ·exact P_nof L f (.test _) _ _ (P_nof L f (.expr 5) i b trivial)
  ·exact P_nof L f (.loop l _) _ _ (P_nof L f (.expr (l + 1)) i b trivial)
 | f + 1, .loop l a, i, b, h => by
  rw [P]
  split
  ·exact h
  ·exact P_nof L f (.loop l _) _ _ ⟨one_nof (opsL_nof l), h, P_nof L f (.expr (l + 1)) (i + 1) b trivial⟩
 | f + 1, .test a, i, b, h => by
  rw [P]
  split
  ·split
   ·exact ⟨by decide, h⟩
   ·exact h
  ·exact ⟨one_nof (opsL_nof 4), h, P_nof L f (.expr 5) (i + 1) b trivial⟩
 | f + 1, .sign, i, b, h => by
  rw [P]
  split
  ·exact ⟨by decide, P_nof L f .sign (i + 1) b trivial⟩
  split
  ·exact P_nof L f (.expr 1) (i + 1) b trivial
  split
  ·split
   ·split
    ·show sNum ≠ sFrom
     decide
    ·show ([] : List UInt8) ≠ sFrom
     decide
   split
   ·show sText ≠ sFrom
    decide
   split
   ·show sCol ≠ sFrom
    decide
   ·show sCol ≠ sFrom
    decide
  ·show oneL L i b [sTrue, sFalse, sNull] ≠ sFrom
   exact one_nof (by decide)
section
variable {L : List V} {i : Nat} {b : Bool}
theorem exprQ_leaves : leavesQ (exprQ L i b).1.n = [] := (P_nof L (stepsN L) (.expr 1) i b trivial).leaves
theorem item_leaves : leavesQ (itemQ L i b).1 = [] := by
 unfold itemQ
 rw [leaves_mk, if_neg (by decide), leavess_cons, exprQ_leaves, leavess_nil]
 rfl
theorem pair_leaves : leavesQ (pairQ L i b).1 = [] := by
 unfold pairQ
 rw [leaves_mk, if_neg (by decide), leavess_cons, leaves_mk, if_neg (by decide), leavess_nil]
 rfl
theorem kind_nof {l : List (List UInt8)} (h : ∀ s ∈ l, s ≠ sFrom) : kindQ L i b l ≠ sFrom := by
 by_cases e : kindQ L i b l = []
 ·rw [e]; decide
 ·exact h _ (kind_some e).2.2
theorem agg_leaves : leavesQ (aggQ L i b).1 = [] := by
 unfold aggQ agg2Q
 split
 ·unfold zeroN
  rw [leaves_mk, if_neg (by decide), leavess_nil]
  rfl
 ·rw [leaves_mk, if_neg (by decide), leavess_cons, leaves_mk, if_neg (kind_nof (by decide)), leavess_nil]
  rfl
theorem names_leaves : ∀ (f i : Nat) (b : Bool), ∀ t ∈ (namesQ L f i b).1, leavesQ t = []
 | 0, i, b, t, ht => by cases ht
 | f + 1, i, b, t, ht => by
  have hc : ∀ x : List UInt8, leavesQ (.mk sCol x []) = [] := fun x => by
   rw [leaves_mk, if_neg (by decide), leavess_nil]
   rfl
  rw [namesQ] at ht
  split at ht
  ·rcases List.mem_cons.1 ht with rfl | ht
   ·exact hc _
   ·exact names_leaves f _ _ t ht
  ·obtain rfl := List.mem_singleton.1 ht
   exact hc _
theorem by_leaves : leavesQ (byQ L i b).1 = [] := by
 unfold byQ
 split
 ·rw [leaves_mk, if_neg (by decide), leavess_none (fun t ht => names_leaves _ _ _ t ht)]
  rfl
 ·rw [leaves_mk, if_neg (by decide), leavess_nil]
  rfl
theorem loop_leaves {el : Nat → Bool → Res} (hl : ∀ j c, leavesQ (el j c).1 = []) : ∀ (f : Nat) (first : Bool) (i : Nat) (b : Bool), leavessQ (loopQ L el f first i b).1 = []
 | 0, _, i, b => leavess_nil
 | f + 1, first, i, b => by
  rw [loopQ]
  split
  ·exact leavess_nil
  ·dsimp only
   rw [leavess_cons, hl, loop_leaves hl]
   rfl
theorem more_step {first : Bool} (h : i ≤ L.length) (hm : (moreQ L i b first).1 ≠ false) : i + 1 ≤ (moreQ L i b first).2.1 := by
 have hmust : (!(mustQ L i b [44]).2) ≠ false → i + 1 ≤ (mustQ L i b [44]).1 := by
  unfold mustQ
  split
  ·exact fun _ => Nat.le_refl _
  ·intro h; exact absurd rfl h
 unfold moreQ at hm ⊢
 split at hm
 ·rename_i c
  rw [if_pos c]
  exact hmust hm
 rename_i c
 rw [if_neg c]
 split at hm
 ·exact absurd rfl hm
 rename_i c
 rw [if_neg c]
 split at hm
 ·exact absurd rfl hm
 rename_i c
 rw [if_neg c]
 exact hmust hm
theorem loop_count {el : Nat → Bool → Res} (he : ∀ j c, j ≤ L.length → Ends L.length j c (el j c).2) (hl : ∀ j c, j ≤ L.length → (leavesQ (el j c).1).length + j ≤ 1 + (el j c).2.1) : ∀ (f : Nat) (first : Bool) (i : Nat) (b : Bool), i ≤ L.length → (leavessQ (loopQ L el f first i b).1).length + i ≤ (loopQ L el f first i b).2.1
 | 0, _, i, b, h => by
  rw [loopQ, leavess_nil]
  simp
 | f + 1, first, i, b, h => by
  have h1 := more_ends (b := b) (first := first) h
  rw [loopQ]
  by_cases hm : (moreQ L i b first).1 = false
  ·rw [if_pos hm]
   dsimp only
   rw [leavess_nil]
   have := h1.1
   simpa using this
  rw [if_neg hm]
  have hs := more_step h hm
  have h2 := he _ (moreQ L i b first).2.2 h1.2.1
  have e2 := hl _ (moreQ L i b first).2.2 h1.2.1
  have ih := loop_count he hl f false _ (el (moreQ L i b first).2.1 (moreQ L i b first).2.2).2.2 h2.2.1
  have e3 := h2.1
  dsimp only
  rw [leavess_cons, List.length_append]
  omega
theorem tail_count {q : Nat → Bool → Res} (hq : ∀ j c, j ≤ L.length → Ends L.length j c (q j c).2) (hl : ∀ j c, j ≤ L.length → (leavesQ (q j c).1).length + j ≤ 1 + (q j c).2.1) {o : List UInt8} (h : i ≤ L.length) : (leavessQ (tailQ L q o i b).1).length + i ≤ 1 + (tailQ L q o i b).2.1 := by
 have h1 := must_ends (b := b) (s := [44]) h
 have e1 := h1.1
 have hT := (tail_ends (b := b) (o := o) hq h).1
 unfold tailQ at hT ⊢
 split
 ·rename_i c
  rw [if_pos c] at hT
  dsimp only at hT ⊢
  rw [leavess_cons, exprQ_leaves, leavess_nil]
  simp only [List.append_nil, List.length_nil]
  omega
 rename_i c
 rw [if_neg c] at hT
 split
 ·rename_i c
  rw [if_pos c] at hT
  dsimp only at hT ⊢
  rw [leavess_nil]
  simp only [List.length_nil]
  omega
 rename_i c
 rw [if_neg c] at hT
 split
 ·rename_i c
  rw [if_pos c] at hT
  rw [loop_leaves (fun j c => item_leaves)]
  simp only [List.length_nil]
  omega
 split
 ·have := loop_count hq hl (L.length + 1) true i b h
  omega
 rename_i c4
 rw [if_neg (by assumption), if_neg c4] at hT
 split
 ·rename_i c
  rw [if_pos c] at hT
  have h2 := hq _ (mustQ L i b [44]).2 h1.2.1
  have e2 := hl _ (mustQ L i b [44]).2 h1.2.1
  have h3 := (loop_ends (L := L) (el := pairQ L) (fun j c hj => pair_ends hj) (L.length + 1) true _ (q (mustQ L i b [44]).1 (mustQ L i b [44]).2).2.2 h2.2.1).1
  dsimp only at hT ⊢
  rw [leavess_cons, loop_leaves (fun j c => pair_leaves), List.append_nil]
  omega
 ·rename_i c
  rw [if_neg c] at hT
  unfold groupQ at hT ⊢
  dsimp only at hT ⊢
  rw [leavess_cons, leavess_cons, by_leaves, agg_leaves, loop_leaves (fun j c => agg_leaves)]
  simp only [List.append_nil, List.length_nil]
  omega
theorem ops_nof : ∀ s ∈ opsQ, s ≠ sFrom := by decide
end
theorem qq_count (L : List V) : ∀ (f i : Nat) (b : Bool), i ≤ L.length → (leavesQ (qq L f i b).1).length + i ≤ 1 + (qq L f i b).2.1
 | 0, i, b, h => by
  rw [qq]
  unfold zeroN
  rw [leaves_mk, if_neg (by decide), leavess_nil]
  show 0 + i ≤ 1 + i
  omega
 | f + 1, i, b, h => by
  rw [qq]
  by_cases ho : opQ L i b opsQ = []
  ·rw [if_pos ho]
   have := (nm_ends (b := b) h).1
   dsimp only
   rw [leaves_mk, if_pos rfl, leavess_nil]
   show 1 + i ≤ _
   omega
  ·rw [if_neg ho]
   have hs := op_lt ho
   have h1 := qq_ends L f (i + 2) b hs.1
   have d1 := qq_count L f (i + 2) b hs.1
   have d2 := tail_count (b := (qq L f (i + 2) b).2.2) (o := opQ L i b opsQ) (fun j c hj => qq_ends L f j c hj) (fun j c hj => qq_count L f j c hj) h1.2.1
   dsimp only
   rw [leaves_mk, if_neg (ops_nof _ (op_some ho).2), leavess_cons, List.nil_append, List.length_append]
   omega
theorem parseQ_count (s : List UInt8) : (leavesQ (parseQ s).1).length ≤ 1 + s.length := by
 have hz : (leavesQ zeroN).length = 0 := by
  unfold zeroN
  rw [leaves_mk, if_neg (by decide), leavess_nil]
  rfl
 unfold parseQ
 cases hw : wordsL s 0 with
 | error j => dsimp only; rw [hz]; omega
 | ok l =>
  dsimp only
  unfold parseQW
  split
  ·dsimp only; rw [hz]; omega
  split
  ·dsimp only; rw [hz]; omega
  split
  ·dsimp only; rw [hz]; omega
  ·have h := qq_count (bare l) ((bare l).length + 1) 0 false (Nat.zero_le _)
   have h2 := topQ_le (bare l)
   have h3 := words_len s 0 l hw
   rw [bare_length] at h2
   have h4 : (leavesQ (topQ (bare l)).1).length + 0 ≤ 1 + (topQ (bare l)).2.1 := h
   dsimp only
   omega
end Go.Proofs.YtjbpkpfmgbhlpaaGreatDoor.Code
/-
  Contracts of the document's reader of words: the marks of a level, that of some marks that comes, a number.
-/
namespace Go.Proofs.YtjbpkpfmgbhlpaaGreatDoor.Code
open Go.ChangeShapes Go.WideShapes Go.ChangeAt Go.RowKit Val Elems
set_option linter.unusedVariables false
set_option linter.unusedSimpArgs false
theorem NIn.form {w : World} {S : Nat → Prop} {t : Tr} {a b c : Value} (h : NIn w S t a b c) : ∃ (X : Option Addr) (n m : Nat), c = .slice X n m := by
 cases t with
 | leaf op tx => exact ⟨_, _, _, h.2.2⟩
 | one op x => obtain ⟨_, _, g, cap, x0, x1, x2, h3, _⟩ := h; exact ⟨_, _, _, h3⟩
 | two op x y => obtain ⟨_, _, g, cap, x0, x1, x2, y0, y1, y2, h3, _⟩ := h; exact ⟨_, _, _, h3⟩
def New (w w' : World) (g : Nat) : Prop := w.heap.size ≤ g ∧ g < w'.heap.size
def W3 (w : World) (g : Nat) (a b c : Value) : World := ((w.setCell ⟨g, 0, none⟩ a).setCell ⟨g, 1, none⟩ b).setCell ⟨g, 2, none⟩ c
theorem W3.size (w : World) (g : Nat) (a b c : Value) : (W3 w g a b c).heap.size = w.heap.size := by simp [W3]
theorem W3.but {w w1 : World} {r g : Nat} (h : But w w1 r) (hg : w.heap.size ≤ g) (a b c : Value) : But w (W3 w1 g a b c) r := ((h.new _ hg _).new _ hg _).new _ hg _
theorem W3.nin {w : World} {S : Nat → Prop} {t : Tr} {a b c : Value} (h : NIn w S t a b c) {g : Nat} (hg : ¬ S g) (x y z : Value) : NIn (W3 w g x y z) S t a b c := ((h.setCell _ hg _).setCell _ hg _).setCell _ hg _
theorem W3.box {w : World} {g : Nat} {a b c : Value} (h : NBox w g a b c) (x y z : Value) : NBox (W3 w g x y z) g x y z := h.set x y z
section
variable {r : Nat} {A : Option Addr} {cap : Nat} {l : List W} {w w2 : World} {S S2 : Nat → Prop} {x y : Tr} {j : Nat} {b : Bool} {op tx op2 tx2 : ByteArray} {X X2 : Option Addr} {n m n2 m2 : Nat}
end
end Go.Proofs.YtjbpkpfmgbhlpaaGreatDoor.Code
/-
  Nodes with any Kids in memory: what lies where, what stays; a list of nodes that is the call's own. No function of the program is named here.
-/
namespace Go.Proofs.YtjbpkpfmgbhlpaaGreatDoor.Code
open Go.ChangeShapes Go.WideShapes Go.ChangeAt Go.RowKit Val Elems
set_option linter.unusedVariables false
abbrev NV := ByteArray × ByteArray × Option Addr × Nat × Nat
def nc (x : NV) : List Value := [.string x.1, .string x.2.1, .slice x.2.2.1 x.2.2.2.1 x.2.2.2.2]
theorem nc_length (x : NV) : (nc x).length = 3 := rfl
theorem nc_one : ∀ x : NV, ∀ u ∈ nc x, u.oneCell' = true := by
 intro x u hu
 simp [nc] at hu
 rcases hu with rfl | rfl | rfl <;> rfl
def NAt (w : World) (S : Nat → Prop) (X : Option Addr) (l : List NV) : Prop :=
 ∀ (i : Nat) (h : i < l.length), ∃ ad : Addr, X = some ad ∧ S ad.block ∧ w.cell? (ad.add (i * 3)) = some (.string l[i].1) ∧ w.cell? ⟨(ad.add (i * 3)).block, (ad.add (i * 3)).off + 1, none⟩ = some (.string l[i].2.1) ∧ w.cell? ⟨(ad.add (i * 3)).block, (ad.add (i * 3)).off + 2, none⟩ = some (.slice l[i].2.2.1 l[i].2.2.2.1 l[i].2.2.2.2)
inductive RIn (w : World) (S : Nat → Prop) : Nod → NV → Prop
 | mk (op tx : List UInt8) (ks : List Nod) (X : Option Addr) (cap : Nat) (l : List NV) (hl : l.length = ks.length) (hb : ks.length ≤ 1000000000) (hc : ks.length ≤ cap) (hat : NAt w S X l) (hks : ∀ (i : Nat) (h : i < ks.length), RIn w S ks[i] (l[i]'(by omega))) :
   RIn w S (.mk op tx ks) (⟨op.toArray⟩, ⟨tx.toArray⟩, X, ks.length, cap)
theorem NAt.keep {w w' : World} {S S' : Nat → Prop} {X : Option Addr} {l : List NV} (h : NAt w S X l) (hS : ∀ g, S g → S' g) (hk : ∀ p : Addr, S p.block → w'.cell? p = w.cell? p) : NAt w' S' X l := by
 intro i hi
 obtain ⟨ad, e, hs, c0, c1, c2⟩ := h i hi
 have hb : S (ad.add (i * 3)).block := by rw [add_block]; exact hs
 exact ⟨ad, e, hS _ hs, (hk _ hb).trans c0, (hk ⟨(ad.add (i * 3)).block, (ad.add (i * 3)).off + 1, none⟩ hb).trans c1, (hk ⟨(ad.add (i * 3)).block, (ad.add (i * 3)).off + 2, none⟩ hb).trans c2⟩
theorem RIn.keep {w w' : World} {S S' : Nat → Prop} (hS : ∀ g, S g → S' g) (hk : ∀ p : Addr, S p.block → w'.cell? p = w.cell? p) {t : Nod} {x : NV} (h : RIn w S t x) : RIn w' S' t x := by
 induction h with
 | mk op tx ks X cap l hl hb hc hat hks ih => exact .mk op tx ks X cap l hl hb hc (hat.keep hS hk) ih
theorem RIn.imp {w : World} {S S' : Nat → Prop} {t : Nod} {x : NV} (h : RIn w S t x) (hS : ∀ g, S g → S' g) : RIn w S' t x := h.keep hS (fun _ _ => rfl)
theorem RIn.bel {w w' : World} {S : Nat → Prop} {t : Nod} {x : NV} (h : RIn w S t x) (hS : ∀ g, S g → g < w.heap.size) (hb : Below w.heap.size w w') : RIn w' S t x := h.keep (fun _ h => h) (fun p hp => hb.cell (hS _ hp))
theorem RIn.alloc {w : World} {S : Nat → Prop} {t : Nod} {x : NV} (h : RIn w S t x) (hS : ∀ g, S g → g < w.heap.size) (o : Obj) : RIn (w.alloc o) S t x := h.bel hS (below_alloc w o)
theorem RIn.but {w w' : World} {S : Nat → Prop} {r : Nat} {t : Nod} {x : NV} (h : RIn w S t x) (hS : ∀ g, S g → g < w.heap.size ∧ g ≠ r) (hb : But w w' r) : RIn w' S t x := h.keep (fun _ h => h) (fun p hp => hb.cell (hS _ hp).1 (hS _ hp).2)
theorem RIn.setCell {w : World} {S : Nat → Prop} {t : Nod} {x : NV} (h : RIn w S t x) (p : Addr) (hp : ¬ S p.block) (u : Value) : RIn (w.setCell p u) S t x :=
 h.keep (fun _ h => h) (fun q hq => World.cell?_setCell_other _ _ _ _ (by intro e; rw [e] at hp; exact hp hq))
theorem RIn.w3 {w : World} {S : Nat → Prop} {t : Nod} {x : NV} (h : RIn w S t x) {g : Nat} (hg : ¬ S g) (a b c : Value) : RIn (W3 w g a b c) S t x := ((h.setCell _ hg _).setCell _ hg _).setCell _ hg _
theorem RIn.cap {w : World} {S : Nat → Prop} {t : Nod} {x : NV} (h : RIn w S t x) : t.ks.length ≤ x.2.2.2.2 := by
 cases h with
 | mk op tx ks X cap l hl hb hc hat hks => exact hc
theorem RIn.texts {w : World} {S : Nat → Prop} {t : Nod} {x : NV} (h : RIn w S t x) : x.1 = ⟨t.op.toArray⟩ ∧ x.2.1 = ⟨t.tx.toArray⟩ ∧ x.2.2.2.1 = t.ks.length ∧ t.ks.length ≤ 1000000000 := by
 cases h with
 | mk op tx ks X cap l hl hb hc hat hks => exact ⟨rfl, rfl, rfl, hb⟩
theorem RIn.kid {w : World} {S : Nat → Prop} {t : Nod} {x : NV} (h : RIn w S t x) (k : Nat) (hk : k < t.ks.length) : ∃ (ad : Addr) (y : NV), x.2.2.1 = some ad ∧ S ad.block ∧ w.cell? (ad.add (k * 3)) = some (.string y.1) ∧ w.cell? ⟨(ad.add (k * 3)).block, (ad.add (k * 3)).off + 1, none⟩ = some (.string y.2.1) ∧ w.cell? ⟨(ad.add (k * 3)).block, (ad.add (k * 3)).off + 2, none⟩ = some (.slice y.2.2.1 y.2.2.2.1 y.2.2.2.2) ∧ RIn w S t.ks[k] y := by
 cases h with
 | mk op tx ks X cap l hl hb hc hat hks =>
  have hk' : k < ks.length := hk
  obtain ⟨ad, e, hs, c0, c1, c2⟩ := hat k (by omega)
  exact ⟨ad, l[k], e, hs, c0, c1, c2, hks k hk'⟩
theorem NIn.rin {w : World} {S : Nat → Prop} : ∀ (t : Tr) (op tx : ByteArray) (X : Option Addr) (n m : Nat), NIn w S t (.string op) (.string tx) (.slice X n m) → RIn w S t.n (op, tx, X, n, m)
 | .leaf o t, op, tx, X, n, m, h => by
  obtain ⟨h1, h2, h3⟩ := h
  injection h1 with h1
  injection h2 with h2
  injection h3 with h3 h4 h5
  subst h1 h2 h3 h4 h5
  exact .mk o t [] none 0 [] rfl (by decide) (by decide) (fun i hi => absurd hi (Nat.not_lt_zero _)) (fun i hi => absurd hi (Nat.not_lt_zero _))
 | .one o x, op, tx, X, n, m, h => by
  obtain ⟨h1, h2, g, cap, x0, x1, x2, h3, h4, c0, c1, c2, hx⟩ := h
  injection h1 with h1
  injection h2 with h2
  injection h3 with h3 h5 h6
  subst h1 h2 h3 h5 h6
  obtain ⟨X1, n1, k1, rfl⟩ := hx.form
  obtain ⟨rfl, rfl⟩ := hx.texts
  have ih := NIn.rin x _ _ X1 n1 k1 hx
  refine .mk o [] [x.n] (some ⟨g, 0, none⟩) (cap + 1) [(⟨(opOf x).toArray⟩, ⟨(txOf x).toArray⟩, X1, n1, k1)] rfl (by simp) (by simp) (fun i hi => ?_) (fun i hi => ?_)
  ·obtain rfl : i = 0 := by simp at hi; exact hi
   exact ⟨_, rfl, h4, c0, c1, c2⟩
  ·obtain rfl : i = 0 := by simp at hi; exact hi
   exact ih
 | .two o x y, op, tx, X, n, m, h => by
  obtain ⟨h1, h2, g, cap, x0, x1, x2, y0, y1, y2, h3, h4, c0, c1, c2, d0, d1, d2, hx, hy⟩ := h
  injection h1 with h1
  injection h2 with h2
  injection h3 with h3 h5 h6
  subst h1 h2 h3 h5 h6
  obtain ⟨X1, n1, k1, rfl⟩ := hx.form
  obtain ⟨rfl, rfl⟩ := hx.texts
  obtain ⟨X2, n2, k2, rfl⟩ := hy.form
  obtain ⟨rfl, rfl⟩ := hy.texts
  have ih := NIn.rin x _ _ X1 n1 k1 hx
  have ih2 := NIn.rin y _ _ X2 n2 k2 hy
  refine .mk o [] [x.n, y.n] (some ⟨g, 0, none⟩) (cap + 2) [(⟨(opOf x).toArray⟩, ⟨(txOf x).toArray⟩, X1, n1, k1), (⟨(opOf y).toArray⟩, ⟨(txOf y).toArray⟩, X2, n2, k2)] rfl (by simp) (by simp) (fun i hi => ?_) (fun i hi => ?_)
  ·have hc : i = 0 ∨ i = 1 := by simp at hi; omega
   rcases hc with rfl | rfl
   ·exact ⟨_, rfl, h4, c0, c1, c2⟩
   ·exact ⟨_, rfl, h4, d0, d1, d2⟩
  ·have hc : i = 0 ∨ i = 1 := by simp at hi; omega
   rcases hc with rfl | rfl
   ·exact ih
   ·exact ih2
def RAll (w : World) (S : Nat → Prop) (ks : List Nod) (l : List NV) : Prop := l.length = ks.length ∧ ∀ (i : Nat) (h : i < ks.length) (h' : i < l.length), RIn w S ks[i] l[i]
theorem RAll.nil (w : World) (S : Nat → Prop) : RAll w S [] [] := ⟨rfl, fun i h => absurd h (Nat.not_lt_zero _)⟩
theorem RAll.keep {w w' : World} {S S' : Nat → Prop} (hS : ∀ g, S g → S' g) (hk : ∀ p : Addr, S p.block → w'.cell? p = w.cell? p) {ks : List Nod} {l : List NV} (h : RAll w S ks l) : RAll w' S' ks l := ⟨h.1, fun i hi hi' => (h.2 i hi hi').keep hS hk⟩
theorem RAll.snoc {w : World} {S : Nat → Prop} {ks : List Nod} {l : List NV} (h : RAll w S ks l) {t : Nod} {x : NV} (hx : RIn w S t x) : RAll w S (ks ++ [t]) (l ++ [x]) := by
 refine ⟨by simp [h.1], fun i hi hi' => ?_⟩
 by_cases hlt : i < ks.length
 ·rw [List.getElem_append_left hlt, List.getElem_append_left (by rw [h.1]; exact hlt)]
  exact h.2 i hlt _
 ·obtain rfl : i = ks.length := by simp at hi; omega
  rw [List.getElem_append_right (Nat.le_refl _), List.getElem_append_right (by rw [h.1]; exact Nat.le_refl _)]
  simp only [Nat.sub_self, h.1, List.getElem_singleton]
  exact hx
theorem RAll.append {w : World} {S : Nat → Prop} {ks ks' : List Nod} {l l' : List NV} (h : RAll w S ks l) (h' : RAll w S ks' l') : RAll w S (ks ++ ks') (l ++ l') := by
 refine ⟨by simp [h.1, h'.1], fun i hi hi' => ?_⟩
 by_cases hlt : i < ks.length
 ·rw [List.getElem_append_left hlt, List.getElem_append_left (by rw [h.1]; exact hlt)]
  exact h.2 i hlt _
 ·rw [List.getElem_append_right (by omega), List.getElem_append_right (by rw [h.1]; omega)]
  simp only [h.1]
  exact h'.2 _ _ _
theorem RAll.one {w : World} {S : Nat → Prop} {t : Nod} {x : NV} (hx : RIn w S t x) : RAll w S [t] [x] := (RAll.nil w S).snoc hx
theorem nat_of {w : World} {B : Nat} {A : Option Addr} {l : List NV} {S : Nat → Prop} (h : At nc 3 w B A l) (hS : ∀ ad, A = some ad → 0 < l.length → S ad.block) : NAt w S A l := by
 intro i hi
 obtain ⟨ad, e, hb, h0⟩ := h i hi
 refine ⟨ad, e, hS ad e (by omega), h0 0 _ rfl, ?_, ?_⟩
 ·rw [← add_next]; exact h0 1 _ rfl
 ·rw [← add_next]; exact h0 2 _ rfl
theorem RIn.made {w : World} {S : Nat → Prop} {ks : List Nod} {l : List NV} {X : Option Addr} (cap : Nat) (op tx : ByteArray) (hat : NAt w S X l) (h : RAll w S ks l) (hb : ks.length ≤ 1000000000) (hc : ks.length ≤ cap) : RIn w S (.mk op.data.toList tx.data.toList ks) (op, tx, X, ks.length, cap) := by
 have := RIn.mk (w := w) (S := S) op.data.toList tx.data.toList ks X cap l h.1 hb hc hat (fun i hi => h.2 i hi _)
 rwa [Lib.mk_data, Lib.mk_data] at this
theorem RIn.leafN (w : World) (S : Nat → Prop) (op tx : ByteArray) : RIn w S (.mk op.data.toList tx.data.toList []) (op, tx, none, 0, 0) :=
 RIn.made 0 op tx (l := []) (fun i hi => absurd hi (Nat.not_lt_zero _)) (RAll.nil w S) (by decide) (by decide)
theorem own_nat {w : World} {B : Nat} {v : Value} {l : List NV} (h : w.ownsRow B 25 3 v l.length (flatC nc l)) : ∃ A cap, v = .slice A l.length cap ∧ NAt w (fun g => B ≤ g ∧ g < w.heap.size) A l ∧ l.length ≤ cap := by
 obtain ⟨A, cap, e, hat⟩ := own_at nc_length h
 have hcp : l.length ≤ cap := by
  rcases h.2 with ⟨hv, hz⟩ | ⟨g, cap', cur, hv, _, _, hle, _⟩
  ·rw [hz]; exact Nat.zero_le _
  ·rw [hv] at e
   injection e with _ _ e
   rw [← e]
   exact hle
 refine ⟨A, cap, e, nat_of hat (fun ad hA hpos => ?_), hcp⟩
 obtain ⟨g, cap', hv, hg, hlt⟩ := h.form hpos
 rw [hv] at e
 injection e with e _
 rw [hA] at e
 injection e with e
 subst e
 exact ⟨hg, hlt⟩
end Go.Proofs.YtjbpkpfmgbhlpaaGreatDoor.Code
/-
  The document's reader of expressions: the other half of a test.
-/
namespace Go.Proofs.YtjbpkpfmgbhlpaaGreatDoor.Code
open Go.ChangeShapes Go.WideShapes Go.ChangeAt Go.RowKit Val Elems
set_option linter.unusedVariables false
set_option linter.unusedSimpArgs false
section
variable {r : Nat} {A : Option Addr} {cap : Nat} {l : List W} {f : Nat}
end
def atOf (w : World) (r : Nat) : Nat := match w.cell? ⟨r, 1, none⟩ with | some (.int _ n) => n.toNat | _ => 0
section
variable {r : Nat} {A : Option Addr} {cap : Nat} {l : List W} {f : Nat}
end
section
variable {r : Nat} {A : Option Addr} {cap : Nat} {l : List W} {f : Nat}
theorem loop_end {lv : Nat} {t : Tr} {j : Nat} {b : Bool} (n : Nat) (hq : oneL (bare l) j b (opsL lv) = []) : P (bare l) (n + 2) (.loop lv t) j b = (t, j, b) := by rw [P, if_pos hq]
theorem loop_next {lv : Nat} (hlv : 1 ≤ lv ∧ lv ≤ 6) {t y : Tr} {j j2 : Nat} {b b2 : Bool} {q : List UInt8} (hj : j < l.length) (hq : oneL (bare l) j b (opsL lv) = q) (hq0 : q ≠ []) (hf : mu (bare l) (.expr (lv + 1)) (j + 1) < f) (hx : P (bare l) f (.expr (lv + 1)) (j + 1) b = (y, j2, b2)) :
  P (bare l) (16 * (l.length - j) + 2) (.loop lv t) j b = P (bare l) (16 * (l.length - j2) + 2) (.loop lv (.two q t y)) j2 b2 ∧ j + 1 ≤ j2 ∧ j2 ≤ l.length := by
 have he := P_ends (bare l) f (.expr (lv + 1)) (j + 1) b (by rw [bare_length]; omega)
 rw [hx, bare_length] at he
 have hm := mu_next (L := bare l) (by rw [bare_length]; exact hj) (.expr (lv + 1)) (.loop lv t) ⟨by omega, by omega⟩ (Nat.le_refl 1)
 have e1 : mu (bare l) (.loop lv t) j = 16 * ((bare l).length - j) + 1 := rfl
 have e2 : mu (bare l) (.loop lv (.two q t y)) j2 = 16 * ((bare l).length - j2) + 1 := rfl
 rw [bare_length] at e1 e2
 have hs := P_steps (bare l) (16 * (l.length - j) + 1) f (.expr (lv + 1)) (j + 1) b (by rw [bare_length]; omega) ⟨by omega, by omega⟩ (by omega) hf
 rw [hx] at hs
 refine ⟨?_, he.1, he.2.1⟩
 rw [show 16 * (l.length - j) + 2 = (16 * (l.length - j) + 1) + 1 from rfl, P, hq, if_neg hq0, hs]
 have h1 : j + 1 ≤ j2 := he.1
 have h2 : j2 ≤ l.length := he.2.1
 exact P_steps _ _ _ _ _ _ (by rw [bare_length]; exact he.2.1) ⟨by omega, by omega⟩ (by rw [e2]; omega) (by rw [e2]; omega)
theorem loop_begin {lv : Nat} (hlv : lv = 1 ∨ lv = 2 ∨ lv = 5 ∨ lv = 6) {x : Tr} {i j : Nat} {b b2 : Bool} (hi : i ≤ l.length) (hm : mu (bare l) (.expr lv) i < f + 1) (hx : P (bare l) f (.expr (lv + 1)) i b = (x, j, b2)) : P (bare l) (16 * (l.length - j) + 2) (.loop lv x) j b2 = P (bare l) (f + 1) (.expr lv) i b ∧ j ≤ l.length := by
 have he := P_ends (bare l) f (.expr (lv + 1)) i b (by rw [bare_length]; exact hi)
 rw [hx, bare_length] at he
 have h1 : i ≤ j := he.1
 have h2 : j ≤ l.length := he.2.1
 have e0 : mu (bare l) (.expr lv) i = 16 * ((bare l).length - i) + (17 - 2 * lv) := rfl
 have e1 : mu (bare l) (.loop lv x) j = 16 * ((bare l).length - j) + 1 := rfl
 rw [bare_length] at e0 e1
 refine ⟨?_, h2⟩
 rw [P, if_neg (by omega), if_neg (by omega), if_neg (by omega), hx]
 exact P_steps _ _ _ _ _ _ (by rw [bare_length]; exact h2) ⟨by omega, by omega⟩ (by rw [e1]; omega) (by rw [e1]; omega)
theorem opsL_few {lv : Nat} (hlv : lv = 1 ∨ lv = 2 ∨ lv = 5 ∨ lv = 6) : (opsL lv).length ≤ 100 ∧ [] ∉ opsL lv := by
 rcases hlv with rfl | rfl | rfl | rfl <;> exact ⟨by decide, by decide⟩
end
theorem swapO {B : Nat} {a w : World} {o o' : Obj} (h : Below B a (w.alloc o)) (hB : B ≤ w.heap.size) : Below B a (w.alloc o') :=
 ⟨h.os, h.tape, h.output, by have := h.size; simp at *; omega, fun k hk => (Below.heap_alloc w o' k (by omega)).trans ((Below.heap_alloc w o k (by omega)).symm.trans (h.block k hk))⟩
end Go.Proofs.YtjbpkpfmgbhlpaaGreatDoor.Code
/-
  The document's reader of expressions does as it should, with any number of steps.
-/
namespace Go.Proofs.YtjbpkpfmgbhlpaaGreatDoor.Code
open Go.ChangeShapes Go.WideShapes Go.ChangeAt Go.RowKit Val Elems
set_option linter.unusedVariables false
section
variable {r : Nat} {A : Option Addr} {cap : Nat} {l : List W} {f : Nat}
def fromP (L : List V) (i : Nat) : Tr × Nat × Bool := P L (stepsN L) (.expr 1) i false
end
end Go.Proofs.YtjbpkpfmgbhlpaaGreatDoor.Code
/-
  The document's reader of queries in memory; whether a word comes with a mark behind it.
-/
namespace Go.Proofs.YtjbpkpfmgbhlpaaGreatDoor.Code
open Go.ChangeShapes Go.WideShapes Go.ChangeAt Go.RowKit Val Elems
set_option linter.unusedVariables false
set_option linter.unusedSimpArgs false
section
variable {w w' : World} {r q : Nat} {A : Option Addr} {cap : Nat} {l : List W} {i j : Nat} {b c : Bool}
end
theorem info_node : (Tryz.prog.info? 25).map (fun i => (i.zero, i.size, i.bytes)) = some (some (.agg #[.string ByteArray.empty, .string ByteArray.empty, .slice none 0 0]), 3, 56) := by kernel_rfl
def Apart (w wr : World) (X : Option Addr) (g : Nat) : Prop := w.heap.size ≤ g ∧ g < wr.heap.size ∧ ∀ ad, X = some ad → ad.block ≠ g
theorem own_but {w w' : World} {B r n k : Nat} {e : TypeId} {v : Value} {xs : List Value} (h : w.ownsRow B e k v n xs) (hb : But w w' r) (hB : r < B) : w'.ownsRow B e k v n xs :=
 h.kept (row := some r) ⟨hb.os, hb.tape, hb.output, hb.size, fun j hj hn => hb.block j hj (fun e => hn (by rw [e]))⟩ (by
  by_cases hv : v.ownBlock = some r
  ·have := (h.lt r hv).1
   omega
  ·exact .inr hv)
theorem But.grown {w w8 w9 : World} {r : Nat} {row : Option Nat} (h : But w w8 r) (hg : w8.grownBy w9 row) (hrow : ∀ k, row = some k → w.heap.size ≤ k) : But w w9 r :=
 ⟨hg.os.trans h.os, hg.tape.trans h.tape, hg.output.trans h.output, Nat.le_trans h.size hg.size, fun k hk hn => (hg.block k (Nat.lt_of_lt_of_le hk h.size) (fun e => by have := hrow k e.symm; omega)).trans (h.block k hk hn)⟩
theorem NBox.grown {w w9 : World} {g : Nat} {a b c : Value} {row : Option Nat} (h : NBox w g a b c) (hg : w.grownBy w9 row) (hn : row ≠ some g) : NBox w9 g a b c := by
 have hk : ∀ j, w9.cell? ⟨g, j, none⟩ = w.cell? ⟨g, j, none⟩ := fun j => by
  unfold World.cell?
  rw [hg.block g h.lt hn.symm]
 have hf : ∀ j, w9.frozen? ⟨g, j, none⟩ = w.frozen? ⟨g, j, none⟩ := fun j => by
  unfold World.frozen?
  rw [hg.block g h.lt hn.symm]
 exact ⟨(hk 0).trans h.c0, (hk 1).trans h.c1, (hk 2).trans h.c2, fun j => (hf j).trans (h.fr j)⟩
theorem NBox.kid {w : World} {g : Nat} {a b c : Value} (h : NBox w g a b c) (z : Value) : NBox (w.setCell ⟨g, 2, none⟩ z) g a b z :=
 ⟨(World.cell?_setCell_other _ _ _ _ (by simp)).trans h.c0, (World.cell?_setCell_other _ _ _ _ (by simp)).trans h.c1, World.cell?_setCell_same _ _ _ h.c2, fun j => by rw [World.frozen?_setCell]; exact h.fr j⟩
theorem NBox.far {w : World} {g : Nat} {a b c : Value} (h : NBox w g a b c) (p : Addr) (hp : p.block ≠ g) (z : Value) : NBox (w.setCell p z) g a b c :=
 ⟨(World.cell?_setCell_other _ _ _ _ (fun e => hp (by rw [e]))).trans h.c0, (World.cell?_setCell_other _ _ _ _ (fun e => hp (by rw [e]))).trans h.c1, (World.cell?_setCell_other _ _ _ _ (fun e => hp (by rw [e]))).trans h.c2, fun j => by rw [World.frozen?_setCell]; exact h.fr j⟩
theorem own_set {w : World} {B n k : Nat} {e : TypeId} {v : Value} {xs : List Value} (h : w.ownsRow B e k v n xs) (p : Addr) (hp : p.block < B) (u : Value) : (w.setCell p u).ownsRow B e k v n xs :=
 h.kept (row := some p.block) ⟨rfl, rfl, rfl, by simp, fun j hj hn => Below.heap_setCell w p u j (fun e => hn (by rw [e]))⟩ (by
  by_cases hv : v.ownBlock = some p.block
  ·have := (h.lt _ hv).1
   omega
  ·exact .inr hv)
section
variable {r q : Nat} {A : Option Addr} {cap : Nat} {l : List W} {w w' w8 : World} {gn : Nat} {o : ByteArray} {ks : List Nod} {xs : List NV} {g cp j : Nat} {c : Bool}
end
end Go.Proofs.YtjbpkpfmgbhlpaaGreatDoor.Code
/-
  The document's query, whatever comes.
-/
namespace Go.Proofs.YtjbpkpfmgbhlpaaGreatDoor.Code
open Go.ChangeShapes Go.WideShapes Go.ChangeAt Go.RowKit Val Elems
set_option linter.unusedVariables false
end Go.Proofs.YtjbpkpfmgbhlpaaGreatDoor.Code
/-
  Contracts of the document's reader: where a word stands; the expression that comes.
-/
namespace Go.Proofs.YtjbpkpfmgbhlpaaGreatDoor.Code
open Go.ChangeShapes Go.WideShapes Go.ChangeAt Go.RowKit Val Elems
set_option linter.unusedVariables false
set_option linter.unusedSimpArgs false
def readN (l : List W) (i : Nat) : Tr × Nat × Int := if (fromP (bare l) i).2.2 = true then (zeroT, (fromP (bare l) i).2.1, 91) else ((fromP (bare l) i).1, (fromP (bare l) i).2.1, 0)
def ReadPost (w : World) (res : Tr × Nat × Int) (e : Ending) (w' : World) : Prop :=
 ∃ (op tx : ByteArray) (X : Option Addr) (n m : Nat), e = .returned (.tuple #[.agg #[.string op, .string tx, .slice X n m], .int .i64 res.2.1, .int .i64 res.2.2]) ∧ NIn w' (New w w') res.1 (.string op) (.string tx) (.slice X n m) ∧ Below w.heap.size w w'
def fromQ (L : List V) (i : Nat) : Res := qq L (L.length + 1) i false
def readQ (l : List W) (i : Nat) : Nod × Nat × Int := if (fromQ (bare l) i).2.2 = true then (zeroN, (fromQ (bare l) i).2.1, 91) else ((fromQ (bare l) i).1, (fromQ (bare l) i).2.1, 0)
def ReadQPost (w : World) (res : Nod × Nat × Int) (e : Ending) (w' : World) : Prop :=
 ∃ (op tx : ByteArray) (X : Option Addr) (n m : Nat), e = .returned (.tuple #[.agg #[.string op, .string tx, .slice X n m], .int .i64 res.2.1, .int .i64 res.2.2]) ∧ RIn w' (New w w') res.1 (op, tx, X, n, m) ∧ Below w.heap.size w w'
theorem bytes_len (s : ByteArray) : s.data.toList.length = s.size := Array.length_toList
def SamePost (w : World) (q : Bool) (e : Ending) (w' : World) : Prop := e = .returned (.bool q) ∧ Below w.heap.size w w'
end Go.Proofs.YtjbpkpfmgbhlpaaGreatDoor.Code
