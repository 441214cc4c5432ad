/-
  How a node with any Kids is shown, in plain words. No program is named here.
-/
import Derived.Test.YtjbpkpfmgbhlpaaGreatDoorMr4
import Derived.Test.YtjbpkpfmgbhlpaaGreatDoorMr1
import Derived.Test.YtjbpkpfmgbhlpaaGreatDoorMr9
import Derived.Test.YtjbpkpfmgbhlpaaGreatDoorMr21
import Derived.Test.YtjbpkpfmgbhlpaaGreatDoorMr7
set_option maxRecDepth 100000
set_option maxHeartbeats 16000000
open Go.Lib (hid)
namespace Go.Proofs.YtjbpkpfmgbhlpaaGreatDoor.Code
open Val
set_option linter.unusedVariables false
abbrev RuleR := Int × List Int × Bool
def tblE : List (List UInt8 × RuleR) :=
 [(sOr, 0, [0, 1], false), (sAnd, 1, [1, 2], false), (sNot, 2, [2], false), ([61], 3, [4, 4], false), ([60, 62], 3, [4, 4], false), ([60], 3, [4, 4], false), ([60, 61], 3, [4, 4], false), ([62], 3, [4, 4], false), ([62, 61], 3, [4, 4], false), (sIsNull, 3, [4], false),
  ([43], 4, [4, 5], false), ([45], 4, [4, 5], false), ([42], 5, [5, 6], false), (sNeg, 6, [7], false), (sNum, 7, [], true), (sText, 7, [], true), (sCol, 7, [], true), (sTrue, 7, [], false), (sFalse, 7, [], false), (sNull, 7, [], false)]
def lookE (k : List UInt8) : List (List UInt8 × RuleR) → Option RuleR
 | [] => none
 | p :: l => if k = p.1 then some p.2 else lookE k l
def ruleE (k : List UInt8) : Option RuleR := lookE k tblE
theorem look_mem {k : List UInt8} {r : RuleR} : ∀ {l : List (List UInt8 × RuleR)}, lookE k l = some r → (k, r) ∈ l
 | [], h => by cases h
 | p :: l, h => by
  rw [lookE] at h
  split at h
  ·rename_i e
   cases h
   subst e
   exact List.mem_cons_self ..
  ·exact List.mem_cons_of_mem _ (look_mem h)
theorem look_none {k : List UInt8} : ∀ {l : List (List UInt8 × RuleR)}, lookE k l = none → ∀ p ∈ l, k ≠ p.1
 | [], _, p, hp => by cases hp
 | q :: l, h, p, hp => by
  rw [lookE] at h
  split at h
  ·cases h
  ·rename_i e
   rcases List.mem_cons.1 hp with rfl | hp
   ·exact e
   ·exact look_none h p hp
def rE (op tx : List UInt8) (n : Nat) : Option RuleR :=
 match ruleE op with
 | none => none
 | some r => if n = r.2.1.length ∧ (tx = [] ∨ r.2.2 = true) then some r else none
def lvE (t : Nod) : Int := match rE t.op t.tx t.ks.length with | some r => r.1 | none => 7
def kdE (al : Int) (p : List UInt8 × Int) : List UInt8 := if al ≤ p.2 then p.1 else 40 :: (p.1 ++ [41])
def sayE (op tx : List UInt8) (ls : List Int) : List (List UInt8 × Int) → List UInt8
 | [] => if op = sText then showL 4 0 ⟨tx.toArray⟩ else if op = sNum ∨ op = sCol then tx else op
 | [a] => if op = sNeg then 45 :: kdE (ls.getD 0 0) a else if op = sNot then [110, 111, 116, 32] ++ kdE (ls.getD 0 0) a else kdE (ls.getD 0 0) a ++ [32, 105, 115, 32, 110, 117, 108, 108]
 | a :: b :: _ => kdE (ls.getD 0 0) a ++ (32 :: (op ++ [32])) ++ kdE (ls.getD 1 0) b
mutual
def showE : Nod → List UInt8
 | .mk op tx ks => match rE op tx ks.length with
  | none => [63]
  | some r => sayE op tx r.2.1 (showEs ks)
def showEs : List Nod → List (List UInt8 × Int)
 | [] => []
 | t :: l => (showE t, lvE t) :: showEs l
end
theorem showE_good {op tx : List UInt8} {ks : List Nod} {r : RuleR} (h : rE op tx ks.length = some r) : showE (.mk op tx ks) = sayE op tx r.2.1 (showEs ks) := by rw [showE, h]
theorem rule_few {op : List UInt8} {r : RuleR} (h : ruleE op = some r) : r.2.1.length ≤ 2 ∧ op.length ≤ 100 := by
 have := look_mem h
 have hall : ∀ p ∈ tblE, p.2.2.1.length ≤ 2 ∧ p.1.length ≤ 100 := by decide
 exact hall _ this
def isE (n : Nod) (o : List UInt8) (k : Nat) : Bool := n.op == o && n.ks.length == k
def nthN (l : List Nod) (k : Nat) : Nod := l.getD k zeroN
def partQ (o : List UInt8) (n : Nod) (sh : List UInt8) : Option (List UInt8) :=
 if o = sFilter then some (showE n)
 else if o = sUnion then some sh
 else if o = sProject then if isE n sItem 1 = true then some (n.tx ++ [32, 61, 32] ++ showE (nthN n.ks 0)) else none
 else if o = sJoin then if (isE n sOn 1 && isE (nthN n.ks 0) sCol 0) = true then some (n.tx ++ [32, 61, 32] ++ (nthN n.ks 0).tx) else none
 else if o = sGroup then
  if (isE n sAgg 1 && (nthN n.ks 0).ks.length == 0 && ((nthN n.ks 0).op == sSum || (nthN n.ks 0).op == sMin || (nthN n.ks 0).op == sMax || ((nthN n.ks 0).op == sCount && (nthN n.ks 0).tx == []))) = true then some (n.tx ++ [32, 61, 32] ++ (nthN n.ks 0).op ++ [40] ++ (nthN n.ks 0).tx ++ [41]) else none
 else none
def namesE : List Nod → Option (List UInt8)
 | [] => some []
 | n :: l => if isE n sCol 0 = true then (match namesE l with | some s => some (32 :: (n.tx ++ s)) | none => none) else none
def byE (n : Nod) : Option (List UInt8) := match namesE n.ks with | some s => if (n.op == sBy && n.tx == []) = true then some (sBy ++ s) else none | none => none
def enoughE (n : Nod) : Bool :=
 n.tx == [] && (if n.op = sFilter then n.ks.length == 2 else if n.op = sDistinct then n.ks.length == 1 else if n.op = sProject ∨ n.op = sUnion then decide (2 ≤ n.ks.length) else if n.op = sJoin ∨ n.op = sGroup then decide (3 ≤ n.ks.length) else false)
def partsQ (o : List UInt8) : List Nod → List (List UInt8) → Option (List UInt8)
 | n :: l, s :: ss => match partQ o n s with | some t => (match partsQ o l ss with | some r => some (44 :: 32 :: (t ++ r)) | none => none) | none => none
 | _, _ => some []
def wholeQ (o s : List UInt8) (ks : List Nod) (ss : List (List UInt8)) : List UInt8 := match partsQ o ks ss with | some r => s ++ r ++ [41] | none => [63]
def showQ1 (n : Nod) (ss : List (List UInt8)) : List UInt8 :=
 if isE n sFrom 0 = true then n.tx
 else if enoughE n = false then [63]
 else if n.op = sJoin then wholeQ n.op (n.op ++ [40] ++ ss.getD 0 [] ++ [44, 32] ++ ss.getD 1 []) (n.ks.drop 2) (ss.drop 2)
 else if n.op = sGroup then
  match byE (nthN n.ks 1) with
  | some b => wholeQ n.op (n.op ++ [40] ++ ss.getD 0 [] ++ (if 0 < (nthN n.ks 1).ks.length then [44, 32] ++ b else [])) (n.ks.drop 2) (ss.drop 2)
  | none => [63]
 else wholeQ n.op (n.op ++ [40] ++ ss.getD 0 []) (n.ks.drop 1) (ss.drop 1)
mutual
def showQ : Nod → List UInt8
 | .mk o t ks => showQ1 (.mk o t ks) (showsQ ks)
def showsQ : List Nod → List (List UInt8)
 | [] => []
 | n :: l => showQ n :: showsQ l
end
mutual
def leavesQ : Nod → List (List UInt8)
 | .mk o t ks => (if o = sFrom then [t] else []) ++ leavessQ ks
def leavessQ : List Nod → List (List UInt8)
 | [] => []
 | n :: l => leavesQ n ++ leavessQ l
end
theorem leavessQ_take (l : List Nod) (i : Nat) (h : i < l.length) : leavessQ (l.take (i + 1)) = leavessQ (l.take i) ++ leavesQ l[i] := by
 induction l generalizing i with
 | nil => exact absurd h (Nat.not_lt_zero _)
 | cons n l ih =>
  cases i with
  | zero => simp [leavessQ]
  | succ i =>
   simp only [List.take_succ_cons, leavessQ, List.getElem_cons_succ]
   rw [ih i (by simpa using h), List.append_assoc]
def aliveQS : List UInt8 := [103, 114, 111, 117, 112, 40, 106, 111, 105, 110, 40, 116, 44, 32, 102, 105, 108, 116, 101, 114, 40, 117, 44, 32, 97, 32, 60, 32, 51, 41, 44, 32, 97, 32, 61, 32, 98, 41, 44, 32, 98, 121, 32, 97, 32, 98, 44, 32, 110, 32, 61, 32, 99, 111, 117, 110, 116, 40, 41, 44, 32, 109, 32, 61, 32, 109, 97, 120, 40, 99, 41, 41]
def aliveQT : Nod := .mk sGroup [] [.mk sJoin [] [.mk sFrom [116] [], .mk sFilter [] [.mk sFrom [117] [], (Tr.two [60] (.leaf sCol [97]) (.leaf sNum [51])).n], .mk sOn [97] [.mk sCol [98] []]], .mk sBy [] [.mk sCol [97] [], .mk sCol [98] []], .mk sAgg [110] [.mk sCount [] []], .mk sAgg [109] [.mk sMax [99] []]]
theorem aliveQ_1 : parseQ aliveQS = (aliveQT, 0, 0) := by kernel_rfl
theorem aliveQ_2 : parseQ [112, 114, 111, 106, 101, 99, 116, 40, 116, 41] = (zeroN, 9, 91) := by kernel_rfl
theorem aliveQ_show : showQ aliveQT = aliveQS := by decide +kernel
theorem aliveQ_leaves : leavesQ aliveQT = [[116], [117]] := by decide +kernel
end Go.Proofs.YtjbpkpfmgbhlpaaGreatDoor.Code
/-
  The text of a query's node as it is written one piece behind the other, in plain words. No program is named here.
-/
namespace Go.Proofs.YtjbpkpfmgbhlpaaGreatDoor.Code
open Val
set_option linter.unusedVariables false
set_option linter.unusedSimpArgs false
def isColB (n : Nod) : Bool := isE n sCol 0
def isItemB (n : Nod) : Bool := isE n sItem 1
def isOnB (n : Nod) : Bool := isE n sOn 1 && isColB (nthN n.ks 0)
def isCallB (n : Nod) : Bool := n.ks.length == 0 && (n.op == sSum || n.op == sMin || n.op == sMax || (n.op == sCount && n.tx == []))
def isAggB (n : Nod) : Bool := isE n sAgg 1 && isCallB (nthN n.ks 0)
def isByB (n : Nod) : Bool := n.op == sBy && n.tx == [] && n.ks.all isColB
def rightQ (n : Nod) : Bool :=
 if n.tx ≠ [] ∧ n.op ≠ sFrom then false
 else if n.op = sFrom then n.ks.length == 0
 else if n.op = sFilter then n.ks.length == 2
 else if n.op = sProject then decide (2 ≤ n.ks.length) && (n.ks.drop 1).all isItemB
 else if n.op = sJoin then decide (3 ≤ n.ks.length) && (n.ks.drop 2).all isOnB
 else if n.op = sUnion then decide (2 ≤ n.ks.length)
 else if n.op = sDistinct then n.ks.length == 1
 else if n.op = sGroup then decide (3 ≤ n.ks.length) && isByB (nthN n.ks 1) && (n.ks.drop 2).all isAggB
 else false
def colsTx : List Nod → List UInt8
 | [] => []
 | n :: l => 32 :: (n.tx ++ colsTx l)
def partW (k : Nod) : List UInt8 :=
 if k.op = sBy then sBy ++ colsTx k.ks
 else k.tx ++ [32, 61, 32] ++ (if k.op = sItem then showE (nthN k.ks 0) else if k.op = sOn then (nthN k.ks 0).tx else if k.op = sAgg then (nthN k.ks 0).op ++ [40] ++ (nthN k.ks 0).tx ++ [41] else [])
def innerQ (n : Nod) : Nat := if n.op = sUnion then n.ks.length else if n.op = sJoin then 2 else 1
def skipQ (n : Nod) (i : Nat) (k : Nod) : Bool := n.op == sGroup && i == 1 && k.ks.length == 0
def kidTx (n : Nod) (i : Nat) (k : Nod) : List UInt8 :=
 if skipQ n i k = true then [] else (if 0 < i then [44, 32] else []) ++ (if i < innerQ n then showQ k else if n.op = sFilter then showE k else partW k)
def kidsTx (n : Nod) : Nat → List Nod → List UInt8
 | _, [] => []
 | i, k :: l => kidTx n i k ++ kidsTx n (i + 1) l
theorem kidsTx_append (n : Nod) : ∀ (l : List Nod) (i : Nat) (k : Nod), kidsTx n i (l ++ [k]) = kidsTx n i l ++ kidTx n (i + l.length) k
 | [], i, k => by simp [kidsTx]
 | a :: l, i, k => by
  simp only [List.cons_append, kidsTx, kidsTx_append n l (i + 1) k, List.length_cons, List.append_assoc]
  rw [show i + 1 + l.length = i + (l.length + 1) by omega]
theorem kidsTx_take (n : Nod) (l : List Nod) (i : Nat) (h : i < l.length) : kidsTx n 0 (l.take (i + 1)) = kidsTx n 0 (l.take i) ++ kidTx n i l[i] := by
 rw [List.take_succ_eq_append_getElem h, kidsTx_append, List.length_take, Nat.zero_add, Nat.min_eq_left (by omega)]
theorem kidsTx_le (n : Nod) : ∀ (l : List Nod) (i j : Nat), (kidsTx n j (l.take i)).length ≤ (kidsTx n j l).length
 | [], i, j => by simp [kidsTx]
 | a :: l, 0, j => by simp [kidsTx]
 | a :: l, i + 1, j => by
  have := kidsTx_le n l i (j + 1)
  simp only [List.take_succ_cons, kidsTx, List.length_append]
  omega
theorem colsTx_take : ∀ (l : List Nod) (i : Nat) (h : i < l.length), colsTx (l.take (i + 1)) = colsTx (l.take i) ++ (32 :: l[i].tx)
 | n :: l, 0, h => by simp [colsTx]
 | n :: l, i + 1, h => by
  have := colsTx_take l i (by simpa using h)
  simp only [List.take_succ_cons, colsTx, List.getElem_cons_succ, this]
  simp
theorem colsTx_le : ∀ (l : List Nod) (i : Nat), (colsTx (l.take i)).length ≤ (colsTx l).length
 | [], i => by simp [colsTx]
 | a :: l, 0 => by simp [colsTx]
 | a :: l, i + 1 => by
  have := colsTx_le l i
  simp only [List.take_succ_cons, colsTx, List.length_append, List.length_cons]
  omega
theorem parts_gen (o : List UInt8) (good : Nod → Bool) (f : Nod → List UInt8) (n : Nod) (j : Nat) (hp : ∀ k, partQ o k (showQ k) = if good k = true then some (f k) else none)
  (hk : ∀ i k, j ≤ i → i < n.ks.length → good k = true → kidTx n i k = [44, 32] ++ f k) : ∀ (l : List Nod) (i : Nat), j ≤ i → i + l.length ≤ n.ks.length →
  partsQ o l (showsQ l) = if l.all good = true then some (kidsTx n i l) else none
 | [], i, _, _ => by simp [partsQ, showsQ, kidsTx]
 | k :: l, i, h1, h2 => by
  rw [List.length_cons] at h2
  have ih := parts_gen o good f n j hp hk l (i + 1) (by omega) (by omega)
  rw [showsQ, partsQ, hp]
  cases hg : good k with
  | false => simp [List.all_cons, hg]
  | true =>
   rw [if_pos rfl]
   dsimp only
   rw [ih]
   cases ha : l.all good with
   | false => simp [List.all_cons, hg, ha]
   | true => simp [List.all_cons, hg, ha, kidsTx, hk i k h1 (by omega) hg]
theorem whole_gen (o s : List UInt8) (good : Nod → Bool) (f : Nod → List UInt8) (n : Nod) (j : Nat) (hp : ∀ k, partQ o k (showQ k) = if good k = true then some (f k) else none)
  (hk : ∀ i k, j ≤ i → i < n.ks.length → good k = true → kidTx n i k = [44, 32] ++ f k) (l : List Nod) (i : Nat) (h1 : j ≤ i) (h2 : i + l.length ≤ n.ks.length) :
  wholeQ o s l (showsQ l) = if l.all good = true then s ++ kidsTx n i l ++ [41] else [63] := by
 rw [wholeQ, parts_gen o good f n j hp hk l i h1 h2]
 cases l.all good <;> simp
theorem names_is : ∀ l : List Nod, namesE l = if l.all isColB = true then some (colsTx l) else none
 | [] => by simp [namesE, colsTx]
 | n :: l => by
  rw [namesE, names_is l]
  cases h : isE n sCol 0 <;> cases h2 : l.all isColB <;> simp [List.all_cons, isColB, h, colsTx]
  all_goals (have h3 := h2; unfold isColB at h3; simp_all)
theorem byE_is (n : Nod) : byE n = if isByB n = true then some (sBy ++ colsTx n.ks) else none := by
 rw [byE, names_is, isByB]
 cases n.ks.all isColB <;> cases (n.op == sBy && n.tx == []) <;> simp
theorem part_item (k : Nod) (sh : List UInt8) : partQ sProject k sh = if isItemB k = true then some (partW k) else none := by
 cases h : isItemB k
 ·simp [partQ, sProject, sFilter, sUnion, show isE k sItem 1 = false from h]
 ·have ho : k.op = sItem := by simp [isItemB, isE] at h; exact h.1
  simp [partQ, show isE k sItem 1 = true from h, partW, ho, show sProject ≠ sFilter by decide, show sProject ≠ sUnion by decide, show sItem ≠ sBy by decide]
theorem part_on (k : Nod) (sh : List UInt8) : partQ sJoin k sh = if isOnB k = true then some (partW k) else none := by
 cases h : isOnB k
 ·have h' : (isE k sOn 1 && isE (nthN k.ks 0) sCol 0) = false := h
  simp only [partQ, h', if_neg (show sJoin ≠ sFilter by decide), if_neg (show sJoin ≠ sUnion by decide), if_neg (show sJoin ≠ sProject by decide)]
  simp
 ·have h' : (isE k sOn 1 && isE (nthN k.ks 0) sCol 0) = true := h
  have ho : k.op = sOn := by simp [isOnB, isE] at h; exact h.1.1
  simp only [partQ, h', if_neg (show sJoin ≠ sFilter by decide), if_neg (show sJoin ≠ sUnion by decide), if_neg (show sJoin ≠ sProject by decide), partW, ho, if_neg (show sOn ≠ sBy by decide), if_neg (show sOn ≠ sItem by decide)]
  simp
theorem part_agg (k : Nod) (sh : List UInt8) : partQ sGroup k sh = if isAggB k = true then some (partW k) else none := by
 have e : (isE k sAgg 1 && (nthN k.ks 0).ks.length == 0 && ((nthN k.ks 0).op == sSum || (nthN k.ks 0).op == sMin || (nthN k.ks 0).op == sMax || ((nthN k.ks 0).op == sCount && (nthN k.ks 0).tx == []))) = isAggB k := by
  simp only [isAggB, isCallB, Bool.and_assoc]
 simp only [partQ, if_neg (show sGroup ≠ sFilter by decide), if_neg (show sGroup ≠ sUnion by decide), if_neg (show sGroup ≠ sProject by decide), if_neg (show sGroup ≠ sJoin by decide), if_true, e]
 cases h : isAggB k
 ·simp
 ·have ho : k.op = sAgg := by simp [isAggB, isE] at h; exact h.1.1
  simp only [partW, ho, if_neg (show sAgg ≠ sBy by decide), if_neg (show sAgg ≠ sItem by decide), if_neg (show sAgg ≠ sOn by decide), if_true]
  simp
theorem part_union (k : Nod) (sh : List UInt8) : partQ sUnion k sh = some sh := by
 simp [partQ, show sUnion ≠ sFilter by decide]
theorem part_filter (k : Nod) (sh : List UInt8) : partQ sFilter k sh = some (showE k) := by simp [partQ]
theorem kid_far (n : Nod) (i : Nat) (k : Nod) (hg : n.op ≠ sGroup ∨ 2 ≤ i) (hi : 0 < i) (hn : innerQ n ≤ i) (hf : n.op ≠ sFilter) : kidTx n i k = [44, 32] ++ partW k := by
 have hs : skipQ n i k = false := by
  rcases hg with h | h
  ·simp [skipQ, h]
  ·have : (i == 1) = false := by simp; omega
   simp [skipQ, this]
 rw [kidTx, if_neg (by rw [hs]; decide), if_pos hi, if_neg (by omega), if_neg hf]
theorem kid_one (n : Nod) (k : Nod) (hn : 0 < innerQ n) : kidTx n 0 k = showQ k := by
 have hs : skipQ n 0 k = false := by simp [skipQ]
 rw [kidTx, if_neg (by rw [hs]; decide), if_neg (by omega), if_pos hn, List.nil_append]
theorem showQ_is : ∀ (n : Nod), showQ n = if rightQ n = false then [63] else if n.op = sFrom then n.tx else n.op ++ [40] ++ kidsTx n 0 n.ks ++ [41]
 | .mk o t ks => by
  rw [showQ, showQ1, rightQ, enoughE, isE]
  show (if (o == sFrom && ks.length == 0) = true then t else _) = _
  have eo : (Nod.mk o t ks).op = o := rfl
  have et : (Nod.mk o t ks).tx = t := rfl
  have ek : (Nod.mk o t ks).ks = ks := rfl
  simp only [eo, et, ek]
  obtain ⟨n, hn⟩ : ∃ n, Nod.mk o t ks = n := ⟨_, rfl⟩
  rw [hn]
  have eo' : n.op = o := by rw [← hn]; rfl
  have et' : n.tx = t := by rw [← hn]; rfl
  have ek' : n.ks = ks := by rw [← hn]; rfl
  clear hn eo et ek
  by_cases h0 : o = sFrom
  ·subst h0
   cases hk : (ks.length == 0)
   ·simp [show (sFrom == sFrom) = true by decide, show sFrom ≠ sFilter by decide, show sFrom ≠ sDistinct by decide, show sFrom ≠ sProject by decide, show sFrom ≠ sUnion by decide, show sFrom ≠ sJoin by decide, show sFrom ≠ sGroup by decide]
   ·simp [show (sFrom == sFrom) = true by decide]
  have h0' : (o == sFrom) = false := by simpa using h0
  rw [if_neg (by rw [h0']; simp)]
  by_cases ht : ¬ t = []
  ·have ht' : (t == []) = false := by simpa using ht
   simp [ht, ht', h0]
  have ht : t = [] := Decidable.of_not_not ht
  subst ht
  clear ht
  simp only [ne_eq, not_true_eq_false, false_and, if_false, show (([] : List UInt8) == []) = true by decide, Bool.true_and, if_neg h0]
  by_cases h1 : o = sFilter
  ·subst h1
   simp only [if_true, if_neg (show sFilter ≠ sJoin by decide), if_neg (show sFilter ≠ sGroup by decide)]
   match ks, ek' with
   | [], _ => simp
   | [a], _ => simp
   | [a, b], ek' =>
    have e1 : kidTx n 0 a = showQ a := kid_one n a (by rw [innerQ, eo', if_neg (by decide), if_neg (by decide)]; decide)
    have e2 : kidTx n 1 b = [44, 32] ++ showE b := by
     rw [kidTx, if_neg (by rw [skipQ, eo']; simp [show (sFilter == sGroup) = false by decide]), if_pos (by omega), if_neg (by rw [innerQ, eo', if_neg (by decide), if_neg (by decide)]; decide), if_pos eo']
    simp only [List.length_cons, List.length_nil, kidsTx, e1, e2, show sFilter ≠ sJoin by decide, show sFilter ≠ sGroup by decide, if_false, showsQ, List.drop, wholeQ, partsQ, part_filter]
    simp
   | _ :: _ :: _ :: _, _ => simp
  by_cases h2 : o = sDistinct
  ·subst h2
   simp only [if_true, if_neg (show sDistinct ≠ sFilter by decide), if_neg (show sDistinct ≠ sProject by decide), if_neg (show sDistinct ≠ sJoin by decide), if_neg (show sDistinct ≠ sUnion by decide), if_neg (show sDistinct ≠ sGroup by decide)]
   match ks, ek' with
   | [], _ => simp
   | [a], ek' =>
    have e1 : kidTx n 0 a = showQ a := kid_one n a (by rw [innerQ, eo', if_neg (by decide), if_neg (by decide)]; decide)
    simp [kidsTx, e1, showsQ, wholeQ, partsQ]
   | _ :: _ :: _, _ => simp
  by_cases h3 : o = sProject
  ·subst h3
   simp only [if_true, if_neg (show sProject ≠ sFilter by decide), if_neg (show sProject ≠ sDistinct by decide), if_neg (show sProject ≠ sJoin by decide), if_neg (show sProject ≠ sUnion by decide), if_neg (show sProject ≠ sGroup by decide), true_or, if_true]
   match ks, ek' with
   | [], _ => simp
   | [a], _ => simp
   | a :: b :: l, ek' =>
    have hin : innerQ n = 1 := by rw [innerQ, eo', if_neg (by decide), if_neg (by decide)]
    have hw := whole_gen sProject (sProject ++ [40] ++ showQ a) isItemB partW n 1 (fun k => part_item k _) (fun i k h1 h2 _ => kid_far n i k (.inl (by rw [eo']; decide)) h1 (by omega) (by rw [eo']; decide)) (b :: l) 1 (Nat.le_refl _) (by rw [ek']; simp; omega)
    have e1 : kidTx n 0 a = showQ a := kid_one n a (by omega)
    rw [if_neg (by simp), showsQ]
    show wholeQ sProject (sProject ++ [40] ++ showQ a) (b :: l) (showsQ (b :: l)) = _
    rw [hw]
    show _ = if (decide (2 ≤ l.length + 1 + 1) && (b :: l).all isItemB) = false then _ else _
    rw [show decide (2 ≤ l.length + 1 + 1) = true by simp, Bool.true_and, show kidsTx n 0 (a :: b :: l) = showQ a ++ kidsTx n 1 (b :: l) by show kidTx n 0 a ++ kidsTx n 1 (b :: l) = _; rw [e1]]
    cases (b :: l).all isItemB <;> simp
  by_cases h4 : o = sUnion
  ·subst h4
   simp only [if_true, if_neg (show sUnion ≠ sFilter by decide), if_neg (show sUnion ≠ sDistinct by decide), if_neg (show sUnion ≠ sJoin by decide), if_neg (show sUnion ≠ sProject by decide), if_neg (show sUnion ≠ sGroup by decide), or_true, if_true]
   match ks, ek' with
   | [], _ => simp
   | [a], _ => simp
   | a :: b :: l, ek' =>
    have hin : innerQ n = n.ks.length := by rw [innerQ, eo', if_pos rfl]
    have hw := whole_gen sUnion (sUnion ++ [40] ++ showQ a) (fun _ => true) showQ n 1 (fun k => by rw [part_union, if_pos rfl]) (fun i k h1 h2 _ => by
     rw [kidTx, if_neg (by rw [skipQ, eo']; simp [show (sUnion == sGroup) = false by decide]), if_pos (by omega), if_pos (by omega)]) (b :: l) 1 (Nat.le_refl _) (by rw [ek']; simp; omega)
    have e1 : kidTx n 0 a = showQ a := kid_one n a (by rw [hin, ek']; simp)
    rw [if_neg (by simp), showsQ]
    show wholeQ sUnion (sUnion ++ [40] ++ showQ a) (b :: l) (showsQ (b :: l)) = _
    rw [hw, show kidsTx n 0 (a :: b :: l) = showQ a ++ kidsTx n 1 (b :: l) by show kidTx n 0 a ++ kidsTx n 1 (b :: l) = _; rw [e1]]
    simp
  by_cases h5 : o = sJoin
  ·subst h5
   simp only [if_true, if_neg (show sJoin ≠ sFilter by decide), if_neg (show sJoin ≠ sDistinct by decide), if_neg (show sJoin ≠ sProject by decide), if_neg (show sJoin ≠ sUnion by decide), if_neg (show sJoin ≠ sGroup by decide), or_true, true_or, if_true, or_self, show ¬ (sJoin = sProject ∨ sJoin = sUnion) by decide, if_false]
   match ks, ek' with
   | [], _ => simp
   | [a], _ => simp
   | [a, b], _ => simp
   | a :: b :: c :: l, ek' =>
    have hin : innerQ n = 2 := by rw [innerQ, eo', if_neg (by decide), if_pos rfl]
    have hw := whole_gen sJoin (sJoin ++ [40] ++ showQ a ++ [44, 32] ++ showQ b) isOnB partW n 2 (fun k => part_on k _) (fun i k h1 h2 _ => kid_far n i k (.inl (by rw [eo']; decide)) (by omega) (by omega) (by rw [eo']; decide)) (c :: l) 2 (Nat.le_refl _) (by rw [ek']; simp; omega)
    have e1 : kidTx n 0 a = showQ a := kid_one n a (by omega)
    have e2 : kidTx n 1 b = [44, 32] ++ showQ b := by
     rw [kidTx, if_neg (by rw [skipQ, eo']; simp [show (sJoin == sGroup) = false by decide]), if_pos (by omega), if_pos (by omega)]
    rw [if_neg (by simp), showsQ, showsQ]
    show wholeQ sJoin (sJoin ++ [40] ++ showQ a ++ [44, 32] ++ showQ b) (c :: l) (showsQ (c :: l)) = _
    rw [hw]
    show _ = if (decide (3 ≤ l.length + 1 + 1 + 1) && (c :: l).all isOnB) = false then _ else _
    rw [show decide (3 ≤ l.length + 1 + 1 + 1) = true by simp, Bool.true_and, show kidsTx n 0 (a :: b :: c :: l) = showQ a ++ ([44, 32] ++ showQ b ++ kidsTx n 2 (c :: l)) by show kidTx n 0 a ++ (kidTx n 1 b ++ kidsTx n 2 (c :: l)) = _; rw [e1, e2]]
    cases (c :: l).all isOnB <;> simp
  by_cases h6 : o = sGroup
  ·subst h6
   simp only [if_true, if_neg (show sGroup ≠ sFilter by decide), if_neg (show sGroup ≠ sDistinct by decide), if_neg (show sGroup ≠ sProject by decide), if_neg (show sGroup ≠ sUnion by decide), if_neg (show sGroup ≠ sJoin by decide), or_true, show ¬ (sGroup = sProject ∨ sGroup = sUnion) by decide, if_false]
   match ks, ek' with
   | [], _ => simp
   | [a], _ => simp
   | [a, b], _ => simp
   | a :: b :: c :: l, ek' =>
    have hin : innerQ n = 1 := by rw [innerQ, eo', if_neg (by decide), if_neg (by decide)]
    have e1 : kidTx n 0 a = showQ a := kid_one n a (by omega)
    have hb : byE (nthN (a :: b :: c :: l) 1) = if isByB b = true then some (sBy ++ colsTx b.ks) else none := byE_is b
    have hd : decide (3 ≤ (a :: b :: c :: l).length) = true := by simp
    rw [if_neg (by rw [hd]; decide), hb, showsQ, showsQ, hd, Bool.true_and]
    show _ = if (isByB b && (c :: l).all isAggB) = false then _ else _
    cases hbb : isByB b
    ·simp
    have hbo : b.op = sBy := by simp [isByB] at hbb; exact hbb.1.1
    have e2 : kidTx n 1 b = if 0 < b.ks.length then [44, 32] ++ (sBy ++ colsTx b.ks) else [] := by
     rw [kidTx, skipQ, eo']
     by_cases hl : b.ks.length = 0
     ·rw [if_pos (by rw [hl]; decide), if_neg (by omega)]
     ·have hl' : (b.ks.length == 0) = false := by simpa using hl
      rw [if_neg (by rw [hl']; simp), if_pos (by omega), if_neg (by omega), if_neg (by decide), if_pos (by omega), partW, if_pos hbo]
    have hw := whole_gen sGroup (sGroup ++ [40] ++ showQ a ++ (if 0 < b.ks.length then [44, 32] ++ (sBy ++ colsTx b.ks) else [])) isAggB partW n 2 (fun k => part_agg k _) (fun i k h1 h2 _ => kid_far n i k (.inr h1) (by omega) (by omega) (by rw [eo']; decide)) (c :: l) 2 (Nat.le_refl _) (by rw [ek']; simp; omega)
    rw [if_pos rfl]
    show wholeQ sGroup (sGroup ++ [40] ++ showQ a ++ (if 0 < b.ks.length then [44, 32] ++ (sBy ++ colsTx b.ks) else [])) (c :: l) (showsQ (c :: l)) = _
    rw [hw, show kidsTx n 0 (a :: b :: c :: l) = showQ a ++ ((if 0 < b.ks.length then [44, 32] ++ (sBy ++ colsTx b.ks) else []) ++ kidsTx n 2 (c :: l)) by show kidTx n 0 a ++ (kidTx n 1 b ++ kidsTx n 2 (c :: l)) = _; rw [e1, e2]]
    cases (c :: l).all isAggB <;> simp
  ·simp [h1, h2, h3, h4, h5, h6]
end Go.Proofs.YtjbpkpfmgbhlpaaGreatDoor.Code
/-
  The document's is and enough.
-/
namespace Go.Proofs.YtjbpkpfmgbhlpaaGreatDoor.Code
open Go.ChangeShapes Go.WideShapes Go.ChangeAt Go.RowKit Val Elems
set_option linter.unusedVariables false
set_option linter.unusedSimpArgs false
theorem lit_ne {op : ByteArray} {s : List UInt8} (h : op.data.toList ≠ s) : (op.toList == s) = false := by
 rw [ByteArray.toList_eq]
 simpa using h
def TellsN (fn : Nat) (good : Nod → Bool) : Prop := ∀ (t : Nod) (S : Nat → Prop) (op tx : ByteArray) (X : Option Addr) (n k : Nat) (w : World), (∀ g, S g → g < w.heap.size) → RIn w S t (op, tx, X, n, k) →
  Calls Tryz.prog fn #[.agg #[.string op, .string tx, .slice X n k]] w fun e w' => e = .returned (.bool (good t)) ∧ Below w.heap.size w w'
theorem pisColumn : TellsN 131 isColB := by
 intro t S op tx X n k w hS hn
 obtain ⟨eo, et, en, hkl⟩ := hn.texts
 dsimp only at eo et en
 subst en
 have hg : isColB t = (op.toList == [99, 111, 108] && t.ks.length == 0) := by
  unfold isColB isE
  rw [eo, ByteArray.toList_eq]
  rfl
 rw [hg]
 clear hg eo et hn hS
 obtain ⟨p, hp⟩ : ∃ p, (op.toList == [99, 111, 108]) = p := ⟨_, rfl⟩
 obtain ⟨q, hq⟩ : ∃ q, (t.ks.length == 0) = q := ⟨_, rfl⟩
 have hq2 : ((t.ks.length : Int) == 0) = q := by
  rw [← hq, Bool.eq_iff_iff]
  simp <;> omega
 rw [hp, hq]
 have HB := hid (fun (o : Obj) => below_alloc w o)
 cases p
 ·go_enter Tryz.func131, Tryz.ntmps131
  go_wp2
  go_ret
  exact ⟨retB (by simp [*]), HB.out _⟩
 ·go_enter Tryz.func131, Tryz.ntmps131
  go_wp2
  go_ret
  exact ⟨retB (by simp [*]), HB.out _⟩
theorem pisItem : TellsN 105 isItemB := by
 intro t S op tx X n k w hS hn
 obtain ⟨eo, et, en, hkl⟩ := hn.texts
 dsimp only at eo et en
 subst en
 have hg : isItemB t = (op.toList == [105, 116, 101, 109] && t.ks.length == 1) := by
  unfold isItemB isE
  rw [eo, ByteArray.toList_eq]
  rfl
 rw [hg]
 clear hg eo et hn hS
 obtain ⟨p, hp⟩ : ∃ p, (op.toList == [105, 116, 101, 109]) = p := ⟨_, rfl⟩
 obtain ⟨q, hq⟩ : ∃ q, (t.ks.length == 1) = q := ⟨_, rfl⟩
 have hq2 : ((t.ks.length : Int) == 1) = q := by
  rw [← hq, Bool.eq_iff_iff]
  simp <;> omega
 rw [hp, hq]
 have HB := hid (fun (o : Obj) => below_alloc w o)
 cases p
 ·go_enter Tryz.func105, Tryz.ntmps105
  go_wp2
  go_ret
  exact ⟨retB (by simp [*]), HB.out _⟩
 ·go_enter Tryz.func105, Tryz.ntmps105
  go_wp2
  go_ret
  exact ⟨retB (by simp [*]), HB.out _⟩
theorem pisCall : TellsN 132 isCallB := by
 intro t S op tx X n k w hS hn
 obtain ⟨eo, et, en, hkl⟩ := hn.texts
 dsimp only at eo et en
 subst en
 have HB := hid (fun (o : Obj) => below_alloc w o)
 have eo' : t.op = op.data.toList := by rw [eo]
 have et' : t.tx = tx.data.toList := by rw [et]
 have hg : isCallB t = (t.ks.length == 0 && (op.data.toList == sSum || op.data.toList == sMin || op.data.toList == sMax || (op.data.toList == sCount && tx.data.toList == []))) := by
  unfold isCallB
  rw [eo', et']
 rw [hg]
 clear hg eo et eo' et' hn hS
 obtain ⟨q, hq⟩ : ∃ q, (t.ks.length == 0) = q := ⟨_, rfl⟩
 have hq2 : ((t.ks.length : Int) == 0) = q := by
  rw [← hq, Bool.eq_iff_iff]
  simp
 rw [hq]
 by_cases h0 : op.data.toList = sCount
 ·obtain rfl : op = ⟨#[99, 111, 117, 110, 116]⟩ := by rw [← Lib.mk_data op, h0]; rfl
  rw [h0, show (sCount == sSum) = false by decide, show (sCount == sMin) = false by decide, show (sCount == sMax) = false by decide, show (sCount == sCount) = true by decide, Bool.false_or, Bool.false_or, Bool.false_or, Bool.true_and]
  have ht : (tx.data.toList == []) = (tx.toList == []) := by rw [ByteArray.toList_eq]
  obtain ⟨p, hp⟩ : ∃ p, (tx.toList == []) = p := ⟨_, rfl⟩
  rw [ht, hp]
  clear h0 ht
  cases q
  ·rw [Bool.false_and]
   go_enter Tryz.func132, Tryz.ntmps132
   go_wp2
   go_ret
   exact ⟨retB (by simp [*]), HB.out _⟩
  ·rw [Bool.true_and]
   go_enter Tryz.func132, Tryz.ntmps132
   go_wp2
   go_ret
   exact ⟨retB (by simp [*]), HB.out _⟩
 by_cases h1 : op.data.toList = sSum
 ·obtain rfl : op = ⟨#[115, 117, 109]⟩ := by rw [← Lib.mk_data op, h1]; rfl
  rw [h1, show (q && (sSum == sSum || sSum == sMin || sSum == sMax || (sSum == sCount && tx.data.toList == []))) = q by rw [show (sSum == sSum) = true by decide]; simp]
  clear h1 h0
  go_enter Tryz.func132, Tryz.ntmps132
  go_wp2
  go_ret
  exact ⟨retB (by simp [*]), HB.out _⟩
 by_cases h2 : op.data.toList = sMin
 ·obtain rfl : op = ⟨#[109, 105, 110]⟩ := by rw [← Lib.mk_data op, h2]; rfl
  rw [h2, show (q && (sMin == sSum || sMin == sMin || sMin == sMax || (sMin == sCount && tx.data.toList == []))) = q by rw [show (sMin == sMin) = true by decide]; simp]
  clear h2 h0 h1
  go_enter Tryz.func132, Tryz.ntmps132
  go_wp2
  go_ret
  exact ⟨retB (by simp [*]), HB.out _⟩
 by_cases h3 : op.data.toList = sMax
 ·obtain rfl : op = ⟨#[109, 97, 120]⟩ := by rw [← Lib.mk_data op, h3]; rfl
  rw [h3, show (q && (sMax == sSum || sMax == sMin || sMax == sMax || (sMax == sCount && tx.data.toList == []))) = q by rw [show (sMax == sMax) = true by decide]; simp]
  clear h3 h0 h1 h2
  go_enter Tryz.func132, Tryz.ntmps132
  go_wp2
  go_ret
  exact ⟨retB (by simp [*]), HB.out _⟩
 have f0 := lit_ne h0
 have f1 := lit_ne h1
 have f2 := lit_ne h2
 have f3 := lit_ne h3
 have hf : (q && (op.data.toList == sSum || op.data.toList == sMin || op.data.toList == sMax || (op.data.toList == sCount && tx.data.toList == []))) = false := by simp [h0, h1, h2, h3]
 rw [hf]
 unfold sCount at f0
 unfold sSum at f1
 unfold sMin at f2
 unfold sMax at f3
 clear hf h0 h1 h2 h3
 go_enter Tryz.func132, Tryz.ntmps132
 go_wp2
 go_ret
 exact ⟨rfl, HB.out _⟩
theorem pisOn : TellsN 106 isOnB := by
 intro t S op tx X n k w hS hn
 obtain ⟨eo, et, en, hkl⟩ := hn.texts
 dsimp only at eo et en
 subst en
 have hg : isOnB t = ((op.toList == [111, 110] && t.ks.length == 1) && isColB (nthN t.ks 0)) := by
  unfold isOnB isE
  rw [eo, ByteArray.toList_eq]
  rfl
 rw [hg]
 have HN := hid hn
 have HS := hid hS
 clear hg eo et hn hS
 obtain ⟨p, hp⟩ : ∃ p, (op.toList == [111, 110]) = p := ⟨_, rfl⟩
 rw [hp]
 obtain ⟨w1, hw1⟩ : ∃ w1, w.alloc (.cells #[.string op, .string tx, .slice X t.ks.length k] 25) = w1 := ⟨_, rfl⟩
 have B1 := hid (show Below w.heap.size w w1 by rw [← hw1]; exact below_alloc w _)
 have V1 := hid (show NBox w1 w.heap.size (.string op) (.string tx) (.slice X t.ks.length k) by rw [← hw1]; exact NBox.fresh _ _ _ _ _)
 have z1 : w.heap.size ≤ w1.heap.size := by rw [← hw1]; simp
 have HW1 := hid hw1
 clear hw1
 cases p
 ·rw [Bool.false_and, Bool.false_and]
  go_enter Tryz.func106, Tryz.ntmps106
  go_upto_region 1 with fail
  rw [HW1.out]
  obtain ⟨x0, x1, x2, xf⟩ := V1.out
  go_wp2
  go_ret
  exact ⟨rfl, B1.out⟩
 ·by_cases hl : t.ks.length = 1
  ·have HL := hid hl
   obtain ⟨N, hN⟩ : ∃ N, t.ks.length = N := ⟨_, rfl⟩
   have hk1 : (t.ks.length == 1) = true := by simpa using hl
   obtain ⟨ad, ⟨op', tx', X', n', m'⟩, eA, hS', q0, q1, q2, hk'⟩ := (HN.out.bel HS.out B1.out).kid 0 (by omega)
   dsimp only at eA q0 q1 q2
   rw [Nat.zero_mul, show ad.add 0 = ad by simp [Addr.add]] at q0 q1 q2
   subst eA
   have hz : nthN t.ks 0 = t.ks[0]'(by omega) := by unfold nthN; rw [List.getD_eq_getElem?_getD, List.getElem?_eq_getElem]; rfl
   obtain ⟨b, hb⟩ : ∃ b, isColB (t.ks[0]'(by omega)) = b := ⟨_, rfl⟩
   have HC := hid (pisColumn (t.ks[0]'(by omega)) S op' tx' X' n' m' w1 (fun g hg => Nat.lt_of_lt_of_le (HS.out g hg) z1) hk')
   rw [hb] at HC
   rw [hz, hk1, hb, Bool.and_self, Bool.true_and]
   clear hb hk1 hz hk' hN
   rw [hl] at V1 HW1
   go_enter Tryz.func106, Tryz.ntmps106
   go_upto_region 1 with fail
   try rw [HL.out]
   rw [HW1.out]
   obtain ⟨x0, x1, x2, xf⟩ := V1.out
   go_wp2_with fail
   refine HC.out.mono ?_
   rintro e w2 ⟨rfl, hb2⟩
   have B2 := hid (B1.out.trans (hb2.mono z1))
   clear hb2
   go_wp2
   go_ret
   exact ⟨rfl, B2.out⟩
  ·have hk1 : (t.ks.length == 1) = false := by simpa using hl
   have hk2 : ((t.ks.length : Int) == 1) = false := by simp; omega
   rw [hk1, Bool.and_false, Bool.false_and]
   go_enter Tryz.func106, Tryz.ntmps106
   go_upto_region 1 with fail
   rw [HW1.out]
   obtain ⟨x0, x1, x2, xf⟩ := V1.out
   go_wp2
   go_ret
   exact ⟨rfl, B1.out⟩
theorem pisAgg : TellsN 108 isAggB := by
 intro t S op tx X n k w hS hn
 obtain ⟨eo, et, en, hkl⟩ := hn.texts
 dsimp only at eo et en
 subst en
 have hg : isAggB t = ((op.toList == [97, 103, 103] && t.ks.length == 1) && isCallB (nthN t.ks 0)) := by
  unfold isAggB isE
  rw [eo, ByteArray.toList_eq]
  rfl
 rw [hg]
 have HN := hid hn
 have HS := hid hS
 clear hg eo et hn hS
 obtain ⟨p, hp⟩ : ∃ p, (op.toList == [97, 103, 103]) = p := ⟨_, rfl⟩
 rw [hp]
 obtain ⟨w1, hw1⟩ : ∃ w1, w.alloc (.cells #[.string op, .string tx, .slice X t.ks.length k] 25) = w1 := ⟨_, rfl⟩
 have B1 := hid (show Below w.heap.size w w1 by rw [← hw1]; exact below_alloc w _)
 have V1 := hid (show NBox w1 w.heap.size (.string op) (.string tx) (.slice X t.ks.length k) by rw [← hw1]; exact NBox.fresh _ _ _ _ _)
 have z1 : w.heap.size ≤ w1.heap.size := by rw [← hw1]; simp
 have HW1 := hid hw1
 clear hw1
 cases p
 ·rw [Bool.false_and, Bool.false_and]
  go_enter Tryz.func108, Tryz.ntmps108
  go_upto_region 1 with fail
  rw [HW1.out]
  obtain ⟨x0, x1, x2, xf⟩ := V1.out
  go_wp2
  go_ret
  exact ⟨rfl, B1.out⟩
 ·by_cases hl : t.ks.length = 1
  ·have HL := hid hl
   obtain ⟨N, hN⟩ : ∃ N, t.ks.length = N := ⟨_, rfl⟩
   have hk1 : (t.ks.length == 1) = true := by simpa using hl
   obtain ⟨ad, ⟨op', tx', X', n', m'⟩, eA, hS', q0, q1, q2, hk'⟩ := (HN.out.bel HS.out B1.out).kid 0 (by omega)
   dsimp only at eA q0 q1 q2
   rw [Nat.zero_mul, show ad.add 0 = ad by simp [Addr.add]] at q0 q1 q2
   subst eA
   have hz : nthN t.ks 0 = t.ks[0]'(by omega) := by unfold nthN; rw [List.getD_eq_getElem?_getD, List.getElem?_eq_getElem]; rfl
   obtain ⟨b, hb⟩ : ∃ b, isCallB (t.ks[0]'(by omega)) = b := ⟨_, rfl⟩
   have HC := hid (pisCall (t.ks[0]'(by omega)) S op' tx' X' n' m' w1 (fun g hg => Nat.lt_of_lt_of_le (HS.out g hg) z1) hk')
   rw [hb] at HC
   rw [hz, hk1, hb, Bool.and_self, Bool.true_and]
   clear hb hk1 hz hk' hN
   rw [hl] at V1 HW1
   go_enter Tryz.func108, Tryz.ntmps108
   go_upto_region 1 with fail
   try rw [HL.out]
   rw [HW1.out]
   obtain ⟨x0, x1, x2, xf⟩ := V1.out
   go_wp2_with fail
   refine HC.out.mono ?_
   rintro e w2 ⟨rfl, hb2⟩
   have B2 := hid (B1.out.trans (hb2.mono z1))
   clear hb2
   go_wp2
   go_ret
   exact ⟨rfl, B2.out⟩
  ·have hk1 : (t.ks.length == 1) = false := by simpa using hl
   have hk2 : ((t.ks.length : Int) == 1) = false := by simp; omega
   rw [hk1, Bool.and_false, Bool.false_and]
   go_enter Tryz.func108, Tryz.ntmps108
   go_upto_region 1 with fail
   rw [HW1.out]
   obtain ⟨x0, x1, x2, xf⟩ := V1.out
   go_wp2
   go_ret
   exact ⟨rfl, B1.out⟩
def KAt (w : World) (S : Nat → Prop) (A : Option Addr) (ks : List Nod) : Prop := ∀ (k : Nat) (hk : k < ks.length), ∃ (ad : Addr) (y : NV), A = some ad ∧ S ad.block ∧ w.cell? (ad.add (k * 3)) = some (.string y.1) ∧ w.cell? ⟨(ad.add (k * 3)).block, (ad.add (k * 3)).off + 1, none⟩ = some (.string y.2.1) ∧ w.cell? ⟨(ad.add (k * 3)).block, (ad.add (k * 3)).off + 2, none⟩ = some (.slice y.2.2.1 y.2.2.2.1 y.2.2.2.2) ∧ RIn w S ks[k] y
theorem RIn.kat {w : World} {S : Nat → Prop} {t : Nod} {x : NV} (h : RIn w S t x) : KAt w S x.2.2.1 t.ks := fun k hk => h.kid k hk
theorem KAt.bel {w w' : World} {S : Nat → Prop} {A : Option Addr} {ks : List Nod} (h : KAt w S A ks) (hS : ∀ g, S g → g < w.heap.size) (hb : Below w.heap.size w w') : KAt w' S A ks := by
 intro k hk
 obtain ⟨ad, y, e, hs, c0, c1, c2, hr⟩ := h k hk
 have hl : (ad.add (k * 3)).block < w.heap.size := by rw [add_block]; exact hS _ hs
 exact ⟨ad, y, e, hs, (hb.cell hl).trans c0, (hb.cell (p := ⟨(ad.add (k * 3)).block, (ad.add (k * 3)).off + 1, none⟩) hl).trans c1, (hb.cell (p := ⟨(ad.add (k * 3)).block, (ad.add (k * 3)).off + 2, none⟩) hl).trans c2, hr.bel hS hb⟩
theorem addr_add (a : Addr) (m n : Nat) : (a.add m).add n = a.add (m + n) := by
 by_cases hn : n = 0
 ·subst hn
  simp [Addr.add]
 ·by_cases hm : m = 0
  ·subst hm
   simp [Addr.add]
  ·simp [Addr.add, hn, hm, Nat.add_assoc]
theorem KAt.drop {w : World} {S : Nat → Prop} {ad : Addr} {ks : List Nod} (h : KAt w S (some ad) ks) (c : Nat) : KAt w S (some (ad.add (c * 3))) (ks.drop c) := by
 intro k hk
 obtain ⟨ad', y, e, hs, c0, c1, c2, hr⟩ := h (c + k) (by rw [List.length_drop] at hk; omega)
 injection e with e
 subst e
 refine ⟨_, y, rfl, by rw [add_block]; exact hs, ?_, ?_, ?_, by rw [List.getElem_drop]; exact hr⟩
 ·rw [addr_add, show c * 3 + k * 3 = (c + k) * 3 by omega]; exact c0
 ·rw [addr_add, show c * 3 + k * 3 = (c + k) * 3 by omega]; exact c1
 ·rw [addr_add, show c * 3 + k * 3 = (c + k) * 3 by omega]; exact c2
theorem pall_any (fn : Nat) (en : ∀ args w, (callFunc fn args).run Tryz.prog w = .ok (.enter fn args) w) (good : Nod → Bool) (hf : TellsN fn good) (ks : List Nod) (hl : ks.length ≤ 1000000000) (A : Option Addr) (cap : Nat) (S : Nat → Prop) (w : World) (hS : ∀ g, S g → g < w.heap.size) (h : KAt w S A ks) :
  Calls Tryz.prog 104 #[.slice A ks.length cap, .func (.func fn) #[] #[]] w fun e w' => e = .returned (.bool (ks.all good)) ∧ Below w.heap.size w w' := by
 have HK := hid h
 have HS := hid hS
 have HF := hid hf
 obtain ⟨res, hres⟩ : ∃ res, ks.all good = res := ⟨_, rfl⟩
 rw [hres]
 have HR := hid hres
 clear h hS hf hres
 go_enter Tryz.func104, Tryz.ntmps104
 go_wp2
 go_loopw [9] (fun t' wr => ∃ k : Nat, k ≤ ks.length ∧ t' = .int .i64 k ∧ Hid ((ks.take k).all good = true) ∧ Below w.heap.size w wr) (fun t' _ => ks.length - (intOf t').toNat)
 case atStart => exact ⟨0, by omega, rfl, hid (by simp), Below.refl _ _⟩
 case round =>
  obtain ⟨k, hk, rfl, HG, hb⟩ := hrel
  have HB := hid hb
  have hz := hb.size
  have HK' := hid (HK.out.bel HS.out hb)
  clear hb
  by_cases hlt : k < ks.length
  ·obtain ⟨ad, ⟨op', tx', X', n', m'⟩, eA, hS', q0, q1, q2, hk'⟩ := HK'.out k hlt
   dsimp only at eA q0 q1 q2
   subst eA
   have had := HS.out _ hS'
   obtain ⟨w6, hw6⟩ : ∃ w6, wr.alloc (.cells #[.string op', .string tx', .slice X' n' m'] 25) = w6 := ⟨_, rfl⟩
   have z6 : w.heap.size ≤ w6.heap.size := by rw [← hw6]; simp; omega
   have B6 := hid (show Below w.heap.size w w6 by rw [← hw6]; exact HB.out.alloc hz _)
   have V6 := hid (show NBox w6 wr.heap.size (.string op') (.string tx') (.slice X' n' m') by rw [← hw6]; exact NBox.fresh _ _ _ _ _)
   obtain ⟨b, hb⟩ : ∃ b, good ks[k] = b := ⟨_, rfl⟩
   have HC := hid (HF.out ks[k] S op' tx' X' n' m' w6 (fun g hg => Nat.lt_of_lt_of_le (HS.out g hg) z6) (hk'.bel (fun g hg => Nat.lt_of_lt_of_le (HS.out g hg) hz) (by rw [← hw6]; exact below_alloc wr _)))
   rw [hb] at HC
   have HGD := hid hb
   have HTK := hid (List.take_succ_eq_append_getElem hlt)
   have HW6 := hid hw6
   have HLT := hid hlt
   clear hk' hb hw6
   go_upto_region 4 with fail
   rw [HW6.out]
   clear q0 q1 q2
   obtain ⟨v0, v1, v2, vf⟩ := V6.out
   go_wp2_with fail
   refine HC.out.mono ?_
   rintro e w7 ⟨rfl, hb7⟩
   have B7 := hid (B6.out.trans (hb7.mono z6))
   clear hb7 v0 v1 v2 vf
   cases b with
   | false =>
    have hr9 : res = false := by
     rw [← HR.out]
     simp only [List.all_eq_false]
     exact ⟨_, List.getElem_mem HLT.out, by rw [HGD.out]; simp⟩
    subst hr9
    go_wp2
    go_ret
    exact ⟨rfl, B7.out⟩
   | true =>
    go_wp2
    go_roundw
    case rel => exact ⟨k + 1, by omega, by go_num, hid (by rw [HTK.out, List.all_append, HG.out]; simp [HGD.out]), B7.out⟩
    case measure => simp [intOf]; omega
  ·obtain rfl : k = ks.length := by omega
   have hr9 : res = true := by rw [← HR.out]; have h9 := HG.out; rw [List.take_length] at h9; exact h9
   subst hr9
   go_wp2
   go_ret
   exact ⟨rfl, HB.out⟩
theorem pisBy : TellsN 107 isByB := by
 intro t S op tx X n k w hS hn
 obtain ⟨eo, et, en, hkl⟩ := hn.texts
 dsimp only at eo et en
 subst en
 have hg : isByB t = ((op.toList == [98, 121] && tx.toList == []) && t.ks.all isColB) := by
  unfold isByB
  rw [eo, et, ByteArray.toList_eq, ByteArray.toList_eq]
  rfl
 rw [hg]
 have HN := hid hn
 have HS := hid hS
 clear hg eo et hn hS
 obtain ⟨p, hp⟩ : ∃ p, (op.toList == [98, 121]) = p := ⟨_, rfl⟩
 obtain ⟨q, hq⟩ : ∃ q, (tx.toList == []) = q := ⟨_, rfl⟩
 rw [hp, hq]
 obtain ⟨w1, hw1⟩ : ∃ w1, w.alloc (.cells #[.string op, .string tx, .slice X t.ks.length k] 25) = w1 := ⟨_, rfl⟩
 have B1 := hid (show Below w.heap.size w w1 by rw [← hw1]; exact below_alloc w _)
 have V1 := hid (show NBox w1 w.heap.size (.string op) (.string tx) (.slice X t.ks.length k) by rw [← hw1]; exact NBox.fresh _ _ _ _ _)
 have z1 : w.heap.size ≤ w1.heap.size := by rw [← hw1]; simp
 obtain ⟨b, hb⟩ : ∃ b, t.ks.all isColB = b := ⟨_, rfl⟩
 have HC := hid (pall_any 131 (enters_of Tryz.func131 (by kernel_rfl) rfl) isColB pisColumn t.ks hkl X k S w1 (fun g hg => Nat.lt_of_lt_of_le (HS.out g hg) z1) (HN.out.bel HS.out B1.out).kat)
 rw [hb] at HC
 rw [hb]
 have HW1 := hid hw1
 clear hw1 hb
 cases p
 ·rw [Bool.false_and, Bool.false_and]
  go_enter Tryz.func107, Tryz.ntmps107
  go_upto_region 1 with fail
  rw [HW1.out]
  obtain ⟨x0, x1, x2, xf⟩ := V1.out
  go_wp2
  go_ret
  exact ⟨rfl, B1.out⟩
 ·cases q
  ·rw [Bool.and_false, Bool.false_and]
   go_enter Tryz.func107, Tryz.ntmps107
   go_upto_region 1 with fail
   rw [HW1.out]
   obtain ⟨x0, x1, x2, xf⟩ := V1.out
   go_wp2
   go_ret
   exact ⟨rfl, B1.out⟩
  ·rw [Bool.and_self, Bool.true_and]
   go_enter Tryz.func107, Tryz.ntmps107
   go_upto_region 1 with fail
   rw [HW1.out]
   obtain ⟨x0, x1, x2, xf⟩ := V1.out
   go_wp2_with fail
   refine HC.out.mono ?_
   rintro e w2 ⟨rfl, hb2⟩
   have B2 := hid (B1.out.trans (hb2.mono z1))
   clear hb2
   go_wp2
   go_ret
   exact ⟨rfl, B2.out⟩
theorem run_cut (ad : Addr) (n k c : Nat) (h : c < n) (hk : n ≤ k) (w : World) :
  (Instr.slice 23 (.slice (some ad) n k) (some (.int .i64 (c : Nat))) none none).run Tryz.prog w = .ok (.slice (some (ad.add (c * 3))) (n - c) (k - c)) w := by
 have hu : Tryz.prog.underlying 23 = some (.slice (Tryz.prog.elem 23)) := by kernel_rfl
 have hz : ∀ w, (sizeOf (Tryz.prog.elem 23)).run Tryz.prog w = .ok 3 w := fun w => by kernel_rfl
 rw [run_slice_l w 23 _ _ _ hu .i64 c (by omega) (by omega), hz]
 simp only [Result.andThen, sliced, Int.toNat_natCast]
 rw [if_neg (by omega)]
 rfl
theorem pinner_any (t : Nod) (S : Nat → Prop) (op tx : ByteArray) (X : Option Addr) (n k : Nat) (w : World) (hn : RIn w S t (op, tx, X, n, k)) :
  Calls Tryz.prog 110 #[.agg #[.string op, .string tx, .slice X n k]] w fun e w' => e = .returned (.int .i64 (innerQ t)) ∧ Below w.heap.size w w' := by
 obtain ⟨eo, et, en, hkl⟩ := hn.texts
 dsimp only at eo et en
 subst en
 have HB := hid (fun (o : Obj) => below_alloc w o)
 have eo' : t.op = op.data.toList := by rw [eo]
 unfold innerQ
 rw [eo']
 clear eo eo' et hn
 by_cases h0 : op.data.toList = sUnion
 ·obtain rfl : op = ⟨#[117, 110, 105, 111, 110]⟩ := by rw [← Lib.mk_data op, h0]; rfl
  rw [h0, if_pos rfl]
  clear h0
  go_enter Tryz.func110, Tryz.ntmps110
  go_wp2
  go_ret
  exact ⟨rfl, HB.out _⟩
 by_cases h1 : op.data.toList = sJoin
 ·obtain rfl : op = ⟨#[106, 111, 105, 110]⟩ := by rw [← Lib.mk_data op, h1]; rfl
  rw [h1, if_neg (show sJoin ≠ sUnion by decide), if_pos rfl]
  clear h1 h0
  go_enter Tryz.func110, Tryz.ntmps110
  go_wp2
  go_ret
  exact ⟨rfl, HB.out _⟩
 rw [if_neg h0, if_neg h1]
 have f0 := lit_ne h0
 have f1 := lit_ne h1
 unfold sUnion at f0
 unfold sJoin at f1
 clear h0 h1
 go_enter Tryz.func110, Tryz.ntmps110
 go_wp2
 go_ret
 exact ⟨rfl, HB.out _⟩
theorem pright_any : TellsN 65 rightQ := by
 intro t S op tx X n k w hS hn
 obtain ⟨eo, et, en, hkl⟩ := hn.texts
 dsimp only at eo et en
 subst en
 have eo' : t.op = op.data.toList := by rw [eo]
 have et' : t.tx = tx.data.toList := by rw [et]
 have hcap := hn.cap
 dsimp only at hcap
 have HN := hid hn
 have HS := hid hS
 unfold rightQ
 rw [eo', et']
 clear eo eo' et et' hn hS
 obtain ⟨w1, hw1⟩ : ∃ w1, w.alloc (.cells #[.string op, .string tx, .slice X t.ks.length k] 25) = w1 := ⟨_, rfl⟩
 have B1 := hid (show Below w.heap.size w w1 by rw [← hw1]; exact below_alloc w _)
 have V1 := hid (show NBox w1 w.heap.size (.string op) (.string tx) (.slice X t.ks.length k) by rw [← hw1]; exact NBox.fresh _ _ _ _ _)
 have z1 : w.heap.size ≤ w1.heap.size := by rw [← hw1]; simp
 have HW1 := hid hw1
 clear hw1
 by_cases h0 : op.data.toList = sFrom
 ·obtain rfl : op = ⟨#[102, 114, 111, 109]⟩ := by rw [← Lib.mk_data op, h0]; rfl
  rw [h0, if_neg (fun h => h.2 rfl), if_pos rfl]
  obtain ⟨p, hp⟩ : ∃ p, (tx.toList == []) = p := ⟨_, rfl⟩
  clear h0
  obtain ⟨v, hv⟩ : ∃ v, (t.ks.length == 0) = v := ⟨_, rfl⟩
  have hv2 : ((t.ks.length : Int) == 0) = v := by
   rw [← hv, Bool.eq_iff_iff]
   simp <;> omega
  rw [hv]
  cases p
  ·go_enter Tryz.func65, Tryz.ntmps65
   go_upto_region 1 with fail
   try rw [HW1.out]
   obtain ⟨x0, x1, x2, xf⟩ := V1.out
   go_wp2
   go_ret
   exact ⟨retB (by simp [*]), B1.out⟩
  ·go_enter Tryz.func65, Tryz.ntmps65
   go_upto_region 1 with fail
   try rw [HW1.out]
   obtain ⟨x0, x1, x2, xf⟩ := V1.out
   go_wp2
   go_ret
   exact ⟨retB (by simp [*]), B1.out⟩
 have f0 := lit_ne h0
 unfold sFrom at f0
 by_cases ht : ¬ tx.data.toList = []
 ·rw [if_pos ⟨ht, h0⟩]
  have hp : (tx.toList == []) = false := lit_ne ht
  clear ht h0
  go_enter Tryz.func65, Tryz.ntmps65
  go_upto_region 1 with fail
  try rw [HW1.out]
  obtain ⟨x0, x1, x2, xf⟩ := V1.out
  go_wp2
  go_ret
  exact ⟨rfl, B1.out⟩
 have ht := Decidable.of_not_not ht
 have hp : (tx.toList == []) = true := by rw [ByteArray.toList_eq, ht]; rfl
 rw [if_neg (fun h => h.1 ht), if_neg h0]
 clear ht
 by_cases h1 : op.data.toList = sFilter
 ·obtain rfl : op = ⟨#[102, 105, 108, 116, 101, 114]⟩ := by rw [← Lib.mk_data op, h1]; rfl
  rw [h1, if_pos rfl]
  clear h0 h1
  obtain ⟨v, hv⟩ : ∃ v, (t.ks.length == 2) = v := ⟨_, rfl⟩
  have hv2 : ((t.ks.length : Int) == 2) = v := by
   rw [← hv, Bool.eq_iff_iff]
   simp <;> omega
  rw [hv]
  go_enter Tryz.func65, Tryz.ntmps65
  go_upto_region 1 with fail
  try rw [HW1.out]
  obtain ⟨x0, x1, x2, xf⟩ := V1.out
  go_wp2
  go_ret
  exact ⟨retB (by simp [*]), B1.out⟩
 by_cases h2 : op.data.toList = sProject
 ·obtain rfl : op = ⟨#[112, 114, 111, 106, 101, 99, 116]⟩ := by rw [← Lib.mk_data op, h2]; rfl
  rw [h2, if_neg (show sProject ≠ sFilter by decide), if_pos rfl]
  clear h0 h2 h1
  by_cases hl : 2 ≤ t.ks.length
  ·have hl1 : decide (2 ≤ t.ks.length) = true := by simpa using hl
   have hl2 : decide ((2 : Int) ≤ (t.ks.length : Int)) = true := by simp; omega
   obtain ⟨ad, ⟨op', tx', X', n', m'⟩, eA, hS', q0, q1, q2, hk'⟩ := (HN.out.bel HS.out B1.out).kid 1 (by omega)
   dsimp only at eA q0 q1 q2
   subst eA
   have HSL : ∀ w, (Instr.slice 23 (.slice (some ad) t.ks.length k) (some (.int .i64 1)) none none).run Tryz.prog w = .ok (.slice (some (ad.add 3)) (t.ks.length - 1) (k - 1)) w := fun w => run_cut ad t.ks.length k 1 (by omega) hcap w
   have HC := hid (fun (w2 : World) (hb : Below w.heap.size w w2) => pall_any 105 (enters_of Tryz.func105 (by kernel_rfl) rfl) isItemB pisItem (t.ks.drop 1) (by rw [List.length_drop]; omega) (some (ad.add (1 * 3))) (k - 1) S w2 (fun g hg => Nat.lt_of_lt_of_le (HS.out g hg) hb.size) ((HN.out.bel HS.out hb).kat.drop 1))
   rw [List.length_drop] at HC
   obtain ⟨b, hb⟩ : ∃ b, (t.ks.drop 1).all isItemB = b := ⟨_, rfl⟩
   rw [hb] at HC
   rw [hl1, hb, Bool.true_and]
   clear hb hl1
   go_enter Tryz.func65, Tryz.ntmps65
   go_upto_region 1 with fail
   try rw [HW1.out]
   obtain ⟨x0, x1, x2, xf⟩ := V1.out
   go_wp2_with fail
   refine (HC.out w1 B1.out).mono ?_
   rintro e w2 ⟨rfl, hb2⟩
   have B2 := hid (B1.out.trans (hb2.mono z1))
   clear hb2
   go_wp2
   go_ret
   exact ⟨rfl, B2.out⟩
  ·have hl1 : decide (2 ≤ t.ks.length) = false := by simpa using hl
   have hl2 : decide ((2 : Int) ≤ (t.ks.length : Int)) = false := by simp; omega
   rw [hl1]
   rw [Bool.false_and]
   go_enter Tryz.func65, Tryz.ntmps65
   go_upto_region 1 with fail
   try rw [HW1.out]
   obtain ⟨x0, x1, x2, xf⟩ := V1.out
   go_wp2
   go_ret
   exact ⟨rfl, B1.out⟩
 by_cases h3 : op.data.toList = sJoin
 ·obtain rfl : op = ⟨#[106, 111, 105, 110]⟩ := by rw [← Lib.mk_data op, h3]; rfl
  rw [h3, if_neg (show sJoin ≠ sFilter by decide), if_neg (show sJoin ≠ sProject by decide), if_pos rfl]
  clear h0 h3 h1 h2
  by_cases hl : 3 ≤ t.ks.length
  ·have hl1 : decide (3 ≤ t.ks.length) = true := by simpa using hl
   have hl2 : decide ((3 : Int) ≤ (t.ks.length : Int)) = true := by simp; omega
   obtain ⟨ad, ⟨op', tx', X', n', m'⟩, eA, hS', q0, q1, q2, hk'⟩ := (HN.out.bel HS.out B1.out).kid 1 (by omega)
   dsimp only at eA q0 q1 q2
   subst eA
   have HSL : ∀ w, (Instr.slice 23 (.slice (some ad) t.ks.length k) (some (.int .i64 2)) none none).run Tryz.prog w = .ok (.slice (some (ad.add 6)) (t.ks.length - 2) (k - 2)) w := fun w => run_cut ad t.ks.length k 2 (by omega) hcap w
   have HC := hid (fun (w2 : World) (hb : Below w.heap.size w w2) => pall_any 106 (enters_of Tryz.func106 (by kernel_rfl) rfl) isOnB pisOn (t.ks.drop 2) (by rw [List.length_drop]; omega) (some (ad.add (2 * 3))) (k - 2) S w2 (fun g hg => Nat.lt_of_lt_of_le (HS.out g hg) hb.size) ((HN.out.bel HS.out hb).kat.drop 2))
   rw [List.length_drop] at HC
   obtain ⟨b, hb⟩ : ∃ b, (t.ks.drop 2).all isOnB = b := ⟨_, rfl⟩
   rw [hb] at HC
   rw [hl1, hb, Bool.true_and]
   clear hb hl1
   go_enter Tryz.func65, Tryz.ntmps65
   go_upto_region 1 with fail
   try rw [HW1.out]
   obtain ⟨x0, x1, x2, xf⟩ := V1.out
   go_wp2_with fail
   refine (HC.out w1 B1.out).mono ?_
   rintro e w2 ⟨rfl, hb2⟩
   have B2 := hid (B1.out.trans (hb2.mono z1))
   clear hb2
   go_wp2
   go_ret
   exact ⟨rfl, B2.out⟩
  ·have hl1 : decide (3 ≤ t.ks.length) = false := by simpa using hl
   have hl2 : decide ((3 : Int) ≤ (t.ks.length : Int)) = false := by simp; omega
   rw [hl1]
   rw [Bool.false_and]
   go_enter Tryz.func65, Tryz.ntmps65
   go_upto_region 1 with fail
   try rw [HW1.out]
   obtain ⟨x0, x1, x2, xf⟩ := V1.out
   go_wp2
   go_ret
   exact ⟨rfl, B1.out⟩
 by_cases h4 : op.data.toList = sUnion
 ·obtain rfl : op = ⟨#[117, 110, 105, 111, 110]⟩ := by rw [← Lib.mk_data op, h4]; rfl
  rw [h4, if_neg (show sUnion ≠ sFilter by decide), if_neg (show sUnion ≠ sProject by decide), if_neg (show sUnion ≠ sJoin by decide), if_pos rfl]
  clear h0 h4 h1 h2 h3
  obtain ⟨v, hv⟩ : ∃ v, decide (2 ≤ t.ks.length) = v := ⟨_, rfl⟩
  have hv2 : decide ((2 : Int) ≤ (t.ks.length : Int)) = v := by
   rw [← hv, Bool.eq_iff_iff]
   simp <;> omega
  rw [hv]
  go_enter Tryz.func65, Tryz.ntmps65
  go_upto_region 1 with fail
  try rw [HW1.out]
  obtain ⟨x0, x1, x2, xf⟩ := V1.out
  go_wp2
  go_ret
  exact ⟨retB (by simp [*]), B1.out⟩
 by_cases h5 : op.data.toList = sDistinct
 ·obtain rfl : op = ⟨#[100, 105, 115, 116, 105, 110, 99, 116]⟩ := by rw [← Lib.mk_data op, h5]; rfl
  rw [h5, if_neg (show sDistinct ≠ sFilter by decide), if_neg (show sDistinct ≠ sProject by decide), if_neg (show sDistinct ≠ sJoin by decide), if_neg (show sDistinct ≠ sUnion by decide), if_pos rfl]
  clear h0 h5 h1 h2 h3 h4
  obtain ⟨v, hv⟩ : ∃ v, (t.ks.length == 1) = v := ⟨_, rfl⟩
  have hv2 : ((t.ks.length : Int) == 1) = v := by
   rw [← hv, Bool.eq_iff_iff]
   simp <;> omega
  rw [hv]
  go_enter Tryz.func65, Tryz.ntmps65
  go_upto_region 1 with fail
  try rw [HW1.out]
  obtain ⟨x0, x1, x2, xf⟩ := V1.out
  go_wp2
  go_ret
  exact ⟨retB (by simp [*]), B1.out⟩
 by_cases h6 : op.data.toList = sGroup
 ·obtain rfl : op = ⟨#[103, 114, 111, 117, 112]⟩ := by rw [← Lib.mk_data op, h6]; rfl
  rw [h6, if_neg (show sGroup ≠ sFilter by decide), if_neg (show sGroup ≠ sProject by decide), if_neg (show sGroup ≠ sJoin by decide), if_neg (show sGroup ≠ sUnion by decide), if_neg (show sGroup ≠ sDistinct by decide), if_pos rfl]
  clear h0 h6 h1 h2 h3 h4 h5
  by_cases hl : 3 ≤ t.ks.length
  ·have hl1 : decide (3 ≤ t.ks.length) = true := by simpa using hl
   have hl2 : decide ((3 : Int) ≤ (t.ks.length : Int)) = true := by simp; omega
   obtain ⟨ad, ⟨op', tx', X', n', m'⟩, eA, hS', q0, q1, q2, hk'⟩ := (HN.out.bel HS.out B1.out).kid 1 (by omega)
   dsimp only at eA q0 q1 q2
   subst eA
   have HSL : ∀ w, (Instr.slice 23 (.slice (some ad) t.ks.length k) (some (.int .i64 2)) none none).run Tryz.prog w = .ok (.slice (some (ad.add 6)) (t.ks.length - 2) (k - 2)) w := fun w => run_cut ad t.ks.length k 2 (by omega) hcap w
   have HC := hid (fun (w2 : World) (hb : Below w.heap.size w w2) => pall_any 108 (enters_of Tryz.func108 (by kernel_rfl) rfl) isAggB pisAgg (t.ks.drop 2) (by rw [List.length_drop]; omega) (some (ad.add (2 * 3))) (k - 2) S w2 (fun g hg => Nat.lt_of_lt_of_le (HS.out g hg) hb.size) ((HN.out.bel HS.out hb).kat.drop 2))
   rw [List.length_drop] at HC
   obtain ⟨b, hb⟩ : ∃ b, (t.ks.drop 2).all isAggB = b := ⟨_, rfl⟩
   rw [hb] at HC
   rw [hl1, hb, Bool.true_and]
   clear hb hl1
   rw [show ad.add (1 * 3) = ⟨ad.block, ad.off + 3, none⟩ by simp [Addr.add]] at q0 q1 q2
   have hz : nthN t.ks 1 = t.ks[1]'(by omega) := by unfold nthN; rw [List.getD_eq_getElem?_getD, List.getElem?_eq_getElem]; rfl
   obtain ⟨p9, hp9⟩ : ∃ p9, isByB (t.ks[1]'(by omega)) = p9 := ⟨_, rfl⟩
   have HY := hid (pisBy (t.ks[1]'(by omega)) S op' tx' X' n' m' w1 (fun g hg => Nat.lt_of_lt_of_le (HS.out g hg) z1) hk')
   rw [hp9] at HY
   rw [hz, hp9]
   clear hz hp9 hk'
   cases p9
   ·rw [Bool.false_and]
    go_enter Tryz.func65, Tryz.ntmps65
    go_upto_region 1 with fail
    try rw [HW1.out]
    obtain ⟨x0, x1, x2, xf⟩ := V1.out
    go_wp2_with fail
    refine HY.out.mono ?_
    rintro e w2 ⟨rfl, hb2⟩
    have B2 := hid (B1.out.trans (hb2.mono z1))
    clear hb2
    go_wp2
    go_ret
    exact ⟨rfl, B2.out⟩
   ·rw [Bool.true_and]
    go_enter Tryz.func65, Tryz.ntmps65
    go_upto_region 1 with fail
    try rw [HW1.out]
    obtain ⟨x0, x1, x2, xf⟩ := V1.out
    go_wp2_with fail
    refine HY.out.mono ?_
    rintro e w2 ⟨rfl, hb2⟩
    have z2 : w.heap.size ≤ w2.heap.size := Nat.le_trans z1 hb2.size
    have B2 := hid (B1.out.trans (hb2.mono z1))
    clear hb2
    go_wp2_with fail
    refine (HC.out w2 B2.out).mono ?_
    rintro e w3 ⟨rfl, hb3⟩
    have B3 := hid (B2.out.trans (hb3.mono z2))
    clear hb3
    go_wp2
    go_ret
    exact ⟨rfl, B3.out⟩
  ·have hl1 : decide (3 ≤ t.ks.length) = false := by simpa using hl
   have hl2 : decide ((3 : Int) ≤ (t.ks.length : Int)) = false := by simp; omega
   rw [hl1]
   rw [Bool.false_and]
   rw [Bool.false_and]
   go_enter Tryz.func65, Tryz.ntmps65
   go_upto_region 1 with fail
   try rw [HW1.out]
   obtain ⟨x0, x1, x2, xf⟩ := V1.out
   go_wp2
   go_ret
   exact ⟨rfl, B1.out⟩
 have f1 := lit_ne h1
 unfold sFilter at f1
 have f2 := lit_ne h2
 unfold sProject at f2
 have f3 := lit_ne h3
 unfold sJoin at f3
 have f4 := lit_ne h4
 unfold sUnion at f4
 have f5 := lit_ne h5
 unfold sDistinct at f5
 have f6 := lit_ne h6
 unfold sGroup at f6
 rw [if_neg h1, if_neg h2, if_neg h3, if_neg h4, if_neg h5, if_neg h6]
 clear h0 h1 h2 h3 h4 h5 h6
 go_enter Tryz.func65, Tryz.ntmps65
 go_upto_region 1 with fail
 try rw [HW1.out]
 obtain ⟨x0, x1, x2, xf⟩ := V1.out
 go_wp2
 go_ret
 exact ⟨rfl, B1.out⟩
end Go.Proofs.YtjbpkpfmgbhlpaaGreatDoor.Code
