/-
  The text of a query's node as it is written one piece behind the other, in plain words. No program is named here.
-/
import Derived.Test.YtjbpkpfmgbhlpaaGreatDoorMs4
import Derived.Test.YtjbpkpfmgbhlpaaGreatDoorMs9
set_option maxRecDepth 100000
set_option maxHeartbeats 16000000
open Go.Lib (hid)
namespace Go.Proofs.YtjbpkpfmgbhlpaaGreatDoor.Code
open Val
set_option linter.unusedVariables false
set_option linter.unusedSimpArgs false
def isColB (n : Nod) : Bool := isE n sCol 0
def isItemB (n : Nod) : Bool := isE n sItem 1
def isOnB (n : Nod) : Bool := isE n sOn 1 && isColB (nthN n.ks 0)
def isCallB (n : Nod) : Bool := n.ks.length == 0 && (n.op == sSum || n.op == sMin || n.op == sMax || (n.op == sCount && n.tx == []))
def isAggB (n : Nod) : Bool := isE n sAgg 1 && isCallB (nthN n.ks 0)
def isByB (n : Nod) : Bool := n.op == sBy && n.tx == [] && n.ks.all isColB
def rightQ (n : Nod) : Bool :=
 if n.tx ≠ [] ∧ n.op ≠ sFrom then false
 else if n.op = sFrom then n.ks.length == 0
 else if n.op = sFilter then n.ks.length == 2
 else if n.op = sProject then decide (2 ≤ n.ks.length) && (n.ks.drop 1).all isItemB
 else if n.op = sJoin then decide (3 ≤ n.ks.length) && (n.ks.drop 2).all isOnB
 else if n.op = sUnion then decide (2 ≤ n.ks.length)
 else if n.op = sDistinct then n.ks.length == 1
 else if n.op = sGroup then decide (3 ≤ n.ks.length) && isByB (nthN n.ks 1) && (n.ks.drop 2).all isAggB
 else false
def colsTx : List Nod → List UInt8
 | [] => []
 | n :: l => 32 :: (n.tx ++ colsTx l)
def partW (k : Nod) : List UInt8 :=
 if k.op = sBy then sBy ++ colsTx k.ks
 else k.tx ++ [32, 61, 32] ++ (if k.op = sItem then showE (nthN k.ks 0) else if k.op = sOn then (nthN k.ks 0).tx else if k.op = sAgg then (nthN k.ks 0).op ++ [40] ++ (nthN k.ks 0).tx ++ [41] else [])
def innerQ (n : Nod) : Nat := if n.op = sUnion then n.ks.length else if n.op = sJoin then 2 else 1
def skipQ (n : Nod) (i : Nat) (k : Nod) : Bool := n.op == sGroup && i == 1 && k.ks.length == 0
def kidTx (n : Nod) (i : Nat) (k : Nod) : List UInt8 :=
 if skipQ n i k = true then [] else (if 0 < i then [44, 32] else []) ++ (if i < innerQ n then showQ k else if n.op = sFilter then showE k else partW k)
def kidsTx (n : Nod) : Nat → List Nod → List UInt8
 | _, [] => []
 | i, k :: l => kidTx n i k ++ kidsTx n (i + 1) l
theorem kidsTx_append (n : Nod) : ∀ (l : List Nod) (i : Nat) (k : Nod), kidsTx n i (l ++ [k]) = kidsTx n i l ++ kidTx n (i + l.length) k
 | [], i, k => by simp [kidsTx]
 | a :: l, i, k => by
  simp only [List.cons_append, kidsTx, kidsTx_append n l (i + 1) k, List.length_cons, List.append_assoc]
  rw [show i + 1 + l.length = i + (l.length + 1) by omega]
theorem kidsTx_take (n : Nod) (l : List Nod) (i : Nat) (h : i < l.length) : kidsTx n 0 (l.take (i + 1)) = kidsTx n 0 (l.take i) ++ kidTx n i l[i] := by
 rw [List.take_succ_eq_append_getElem h, kidsTx_append, List.length_take, Nat.zero_add, Nat.min_eq_left (by omega)]
theorem kidsTx_le (n : Nod) : ∀ (l : List Nod) (i j : Nat), (kidsTx n j (l.take i)).length ≤ (kidsTx n j l).length
 | [], i, j => by simp [kidsTx]
 | a :: l, 0, j => by simp [kidsTx]
 | a :: l, i + 1, j => by
  have := kidsTx_le n l i (j + 1)
  simp only [List.take_succ_cons, kidsTx, List.length_append]
  omega
theorem colsTx_take : ∀ (l : List Nod) (i : Nat) (h : i < l.length), colsTx (l.take (i + 1)) = colsTx (l.take i) ++ (32 :: l[i].tx)
 | n :: l, 0, h => by simp [colsTx]
 | n :: l, i + 1, h => by
  have := colsTx_take l i (by simpa using h)
  simp only [List.take_succ_cons, colsTx, List.getElem_cons_succ, this]
  simp
theorem colsTx_le : ∀ (l : List Nod) (i : Nat), (colsTx (l.take i)).length ≤ (colsTx l).length
 | [], i => by simp [colsTx]
 | a :: l, 0 => by simp [colsTx]
 | a :: l, i + 1 => by
  have := colsTx_le l i
  simp only [List.take_succ_cons, colsTx, List.length_append, List.length_cons]
  omega
theorem parts_gen (o : List UInt8) (good : Nod → Bool) (f : Nod → List UInt8) (n : Nod) (j : Nat) (hp : ∀ k, partQ o k (showQ k) = if good k = true then some (f k) else none)
  (hk : ∀ i k, j ≤ i → i < n.ks.length → good k = true → kidTx n i k = [44, 32] ++ f k) : ∀ (l : List Nod) (i : Nat), j ≤ i → i + l.length ≤ n.ks.length →
  partsQ o l (showsQ l) = if l.all good = true then some (kidsTx n i l) else none
 | [], i, _, _ => by simp [partsQ, showsQ, kidsTx]
 | k :: l, i, h1, h2 => by
  rw [List.length_cons] at h2
  have ih := parts_gen o good f n j hp hk l (i + 1) (by omega) (by omega)
  rw [showsQ, partsQ, hp]
  cases hg : good k with
  | false => simp [List.all_cons, hg]
  | true =>
   rw [if_pos rfl]
   dsimp only
   rw [ih]
   cases ha : l.all good with
   | false => simp [List.all_cons, hg, ha]
   | true => simp [List.all_cons, hg, ha, kidsTx, hk i k h1 (by omega) hg]
theorem whole_gen (o s : List UInt8) (good : Nod → Bool) (f : Nod → List UInt8) (n : Nod) (j : Nat) (hp : ∀ k, partQ o k (showQ k) = if good k = true then some (f k) else none)
  (hk : ∀ i k, j ≤ i → i < n.ks.length → good k = true → kidTx n i k = [44, 32] ++ f k) (l : List Nod) (i : Nat) (h1 : j ≤ i) (h2 : i + l.length ≤ n.ks.length) :
  wholeQ o s l (showsQ l) = if l.all good = true then s ++ kidsTx n i l ++ [41] else [63] := by
 rw [wholeQ, parts_gen o good f n j hp hk l i h1 h2]
 cases l.all good <;> simp
theorem names_is : ∀ l : List Nod, namesE l = if l.all isColB = true then some (colsTx l) else none
 | [] => by simp [namesE, colsTx]
 | n :: l => by
  rw [namesE, names_is l]
  cases h : isE n sCol 0 <;> cases h2 : l.all isColB <;> simp [List.all_cons, isColB, h, colsTx]
  all_goals (have h3 := h2; unfold isColB at h3; simp_all)
theorem byE_is (n : Nod) : byE n = if isByB n = true then some (sBy ++ colsTx n.ks) else none := by
 rw [byE, names_is, isByB]
 cases n.ks.all isColB <;> cases (n.op == sBy && n.tx == []) <;> simp
theorem part_item (k : Nod) (sh : List UInt8) : partQ sProject k sh = if isItemB k = true then some (partW k) else none := by
 cases h : isItemB k
 ·simp [partQ, sProject, sFilter, sUnion, show isE k sItem 1 = false from h]
 ·have ho : k.op = sItem := by simp [isItemB, isE] at h; exact h.1
  simp [partQ, show isE k sItem 1 = true from h, partW, ho, show sProject ≠ sFilter by decide, show sProject ≠ sUnion by decide, show sItem ≠ sBy by decide]
theorem part_on (k : Nod) (sh : List UInt8) : partQ sJoin k sh = if isOnB k = true then some (partW k) else none := by
 cases h : isOnB k
 ·have h' : (isE k sOn 1 && isE (nthN k.ks 0) sCol 0) = false := h
  simp only [partQ, h', if_neg (show sJoin ≠ sFilter by decide), if_neg (show sJoin ≠ sUnion by decide), if_neg (show sJoin ≠ sProject by decide)]
  simp
 ·have h' : (isE k sOn 1 && isE (nthN k.ks 0) sCol 0) = true := h
  have ho : k.op = sOn := by simp [isOnB, isE] at h; exact h.1.1
  simp only [partQ, h', if_neg (show sJoin ≠ sFilter by decide), if_neg (show sJoin ≠ sUnion by decide), if_neg (show sJoin ≠ sProject by decide), partW, ho, if_neg (show sOn ≠ sBy by decide), if_neg (show sOn ≠ sItem by decide)]
  simp
theorem part_agg (k : Nod) (sh : List UInt8) : partQ sGroup k sh = if isAggB k = true then some (partW k) else none := by
 have e : (isE k sAgg 1 && (nthN k.ks 0).ks.length == 0 && ((nthN k.ks 0).op == sSum || (nthN k.ks 0).op == sMin || (nthN k.ks 0).op == sMax || ((nthN k.ks 0).op == sCount && (nthN k.ks 0).tx == []))) = isAggB k := by
  simp only [isAggB, isCallB, Bool.and_assoc]
 simp only [partQ, if_neg (show sGroup ≠ sFilter by decide), if_neg (show sGroup ≠ sUnion by decide), if_neg (show sGroup ≠ sProject by decide), if_neg (show sGroup ≠ sJoin by decide), if_true, e]
 cases h : isAggB k
 ·simp
 ·have ho : k.op = sAgg := by simp [isAggB, isE] at h; exact h.1.1
  simp only [partW, ho, if_neg (show sAgg ≠ sBy by decide), if_neg (show sAgg ≠ sItem by decide), if_neg (show sAgg ≠ sOn by decide), if_true]
  simp
theorem part_union (k : Nod) (sh : List UInt8) : partQ sUnion k sh = some sh := by
 simp [partQ, show sUnion ≠ sFilter by decide]
theorem part_filter (k : Nod) (sh : List UInt8) : partQ sFilter k sh = some (showE k) := by simp [partQ]
theorem kid_far (n : Nod) (i : Nat) (k : Nod) (hg : n.op ≠ sGroup ∨ 2 ≤ i) (hi : 0 < i) (hn : innerQ n ≤ i) (hf : n.op ≠ sFilter) : kidTx n i k = [44, 32] ++ partW k := by
 have hs : skipQ n i k = false := by
  rcases hg with h | h
  ·simp [skipQ, h]
  ·have : (i == 1) = false := by simp; omega
   simp [skipQ, this]
 rw [kidTx, if_neg (by rw [hs]; decide), if_pos hi, if_neg (by omega), if_neg hf]
theorem kid_one (n : Nod) (k : Nod) (hn : 0 < innerQ n) : kidTx n 0 k = showQ k := by
 have hs : skipQ n 0 k = false := by simp [skipQ]
 rw [kidTx, if_neg (by rw [hs]; decide), if_neg (by omega), if_pos hn, List.nil_append]
theorem showQ_is : ∀ (n : Nod), showQ n = if rightQ n = false then [63] else if n.op = sFrom then n.tx else n.op ++ [40] ++ kidsTx n 0 n.ks ++ [41]
 | .mk o t ks => by
  rw [showQ, showQ1, rightQ, enoughE, isE]
  show (if (o == sFrom && ks.length == 0) = true then t else _) = _
  have eo : (Nod.mk o t ks).op = o := rfl
  have et : (Nod.mk o t ks).tx = t := rfl
  have ek : (Nod.mk o t ks).ks = ks := rfl
  simp only [eo, et, ek]
  obtain ⟨n, hn⟩ : ∃ n, Nod.mk o t ks = n := ⟨_, rfl⟩
  rw [hn]
  have eo' : n.op = o := by rw [← hn]; rfl
  have et' : n.tx = t := by rw [← hn]; rfl
  have ek' : n.ks = ks := by rw [← hn]; rfl
  clear hn eo et ek
  by_cases h0 : o = sFrom
  ·subst h0
   cases hk : (ks.length == 0)
   ·simp [show (sFrom == sFrom) = true by decide, show sFrom ≠ sFilter by decide, show sFrom ≠ sDistinct by decide, show sFrom ≠ sProject by decide, show sFrom ≠ sUnion by decide, show sFrom ≠ sJoin by decide, show sFrom ≠ sGroup by decide]
   ·simp [show (sFrom == sFrom) = true by decide]
  have h0' : (o == sFrom) = false := by simpa using h0
  rw [if_neg (by rw [h0']; simp)]
  by_cases ht : ¬ t = []
  ·have ht' : (t == []) = false := by simpa using ht
   simp [ht, ht', h0]
  have ht : t = [] := Decidable.of_not_not ht
  subst ht
  clear ht
  simp only [ne_eq, not_true_eq_false, false_and, if_false, show (([] : List UInt8) == []) = true by decide, Bool.true_and, if_neg h0]
  by_cases h1 : o = sFilter
  ·subst h1
   simp only [if_true, if_neg (show sFilter ≠ sJoin by decide), if_neg (show sFilter ≠ sGroup by decide)]
   match ks, ek' with
   | [], _ => simp
   | [a], _ => simp
   | [a, b], ek' =>
    have e1 : kidTx n 0 a = showQ a := kid_one n a (by rw [innerQ, eo', if_neg (by decide), if_neg (by decide)]; decide)
    have e2 : kidTx n 1 b = [44, 32] ++ showE b := by
     rw [kidTx, if_neg (by rw [skipQ, eo']; simp [show (sFilter == sGroup) = false by decide]), if_pos (by omega), if_neg (by rw [innerQ, eo', if_neg (by decide), if_neg (by decide)]; decide), if_pos eo']
    simp only [List.length_cons, List.length_nil, kidsTx, e1, e2, show sFilter ≠ sJoin by decide, show sFilter ≠ sGroup by decide, if_false, showsQ, List.drop, wholeQ, partsQ, part_filter]
    simp
   | _ :: _ :: _ :: _, _ => simp
  by_cases h2 : o = sDistinct
  ·subst h2
   simp only [if_true, if_neg (show sDistinct ≠ sFilter by decide), if_neg (show sDistinct ≠ sProject by decide), if_neg (show sDistinct ≠ sJoin by decide), if_neg (show sDistinct ≠ sUnion by decide), if_neg (show sDistinct ≠ sGroup by decide)]
   match ks, ek' with
   | [], _ => simp
   | [a], ek' =>
    have e1 : kidTx n 0 a = showQ a := kid_one n a (by rw [innerQ, eo', if_neg (by decide), if_neg (by decide)]; decide)
    simp [kidsTx, e1, showsQ, wholeQ, partsQ]
   | _ :: _ :: _, _ => simp
  by_cases h3 : o = sProject
  ·subst h3
   simp only [if_true, if_neg (show sProject ≠ sFilter by decide), if_neg (show sProject ≠ sDistinct by decide), if_neg (show sProject ≠ sJoin by decide), if_neg (show sProject ≠ sUnion by decide), if_neg (show sProject ≠ sGroup by decide), true_or, if_true]
   match ks, ek' with
   | [], _ => simp
   | [a], _ => simp
   | a :: b :: l, ek' =>
    have hin : innerQ n = 1 := by rw [innerQ, eo', if_neg (by decide), if_neg (by decide)]
    have hw := whole_gen sProject (sProject ++ [40] ++ showQ a) isItemB partW n 1 (fun k => part_item k _) (fun i k h1 h2 _ => kid_far n i k (.inl (by rw [eo']; decide)) h1 (by omega) (by rw [eo']; decide)) (b :: l) 1 (Nat.le_refl _) (by rw [ek']; simp; omega)
    have e1 : kidTx n 0 a = showQ a := kid_one n a (by omega)
    rw [if_neg (by simp), showsQ]
    show wholeQ sProject (sProject ++ [40] ++ showQ a) (b :: l) (showsQ (b :: l)) = _
    rw [hw]
    show _ = if (decide (2 ≤ l.length + 1 + 1) && (b :: l).all isItemB) = false then _ else _
    rw [show decide (2 ≤ l.length + 1 + 1) = true by simp, Bool.true_and, show kidsTx n 0 (a :: b :: l) = showQ a ++ kidsTx n 1 (b :: l) by show kidTx n 0 a ++ kidsTx n 1 (b :: l) = _; rw [e1]]
    cases (b :: l).all isItemB <;> simp
  by_cases h4 : o = sUnion
  ·subst h4
   simp only [if_true, if_neg (show sUnion ≠ sFilter by decide), if_neg (show sUnion ≠ sDistinct by decide), if_neg (show sUnion ≠ sJoin by decide), if_neg (show sUnion ≠ sProject by decide), if_neg (show sUnion ≠ sGroup by decide), or_true, if_true]
   match ks, ek' with
   | [], _ => simp
   | [a], _ => simp
   | a :: b :: l, ek' =>
    have hin : innerQ n = n.ks.length := by rw [innerQ, eo', if_pos rfl]
    have hw := whole_gen sUnion (sUnion ++ [40] ++ showQ a) (fun _ => true) showQ n 1 (fun k => by rw [part_union, if_pos rfl]) (fun i k h1 h2 _ => by
     rw [kidTx, if_neg (by rw [skipQ, eo']; simp [show (sUnion == sGroup) = false by decide]), if_pos (by omega), if_pos (by omega)]) (b :: l) 1 (Nat.le_refl _) (by rw [ek']; simp; omega)
    have e1 : kidTx n 0 a = showQ a := kid_one n a (by rw [hin, ek']; simp)
    rw [if_neg (by simp), showsQ]
    show wholeQ sUnion (sUnion ++ [40] ++ showQ a) (b :: l) (showsQ (b :: l)) = _
    rw [hw, show kidsTx n 0 (a :: b :: l) = showQ a ++ kidsTx n 1 (b :: l) by show kidTx n 0 a ++ kidsTx n 1 (b :: l) = _; rw [e1]]
    simp
  by_cases h5 : o = sJoin
  ·subst h5
   simp only [if_true, if_neg (show sJoin ≠ sFilter by decide), if_neg (show sJoin ≠ sDistinct by decide), if_neg (show sJoin ≠ sProject by decide), if_neg (show sJoin ≠ sUnion by decide), if_neg (show sJoin ≠ sGroup by decide), or_true, true_or, if_true, or_self, show ¬ (sJoin = sProject ∨ sJoin = sUnion) by decide, if_false]
   match ks, ek' with
   | [], _ => simp
   | [a], _ => simp
   | [a, b], _ => simp
   | a :: b :: c :: l, ek' =>
    have hin : innerQ n = 2 := by rw [innerQ, eo', if_neg (by decide), if_pos rfl]
    have hw := whole_gen sJoin (sJoin ++ [40] ++ showQ a ++ [44, 32] ++ showQ b) isOnB partW n 2 (fun k => part_on k _) (fun i k h1 h2 _ => kid_far n i k (.inl (by rw [eo']; decide)) (by omega) (by omega) (by rw [eo']; decide)) (c :: l) 2 (Nat.le_refl _) (by rw [ek']; simp; omega)
    have e1 : kidTx n 0 a = showQ a := kid_one n a (by omega)
    have e2 : kidTx n 1 b = [44, 32] ++ showQ b := by
     rw [kidTx, if_neg (by rw [skipQ, eo']; simp [show (sJoin == sGroup) = false by decide]), if_pos (by omega), if_pos (by omega)]
    rw [if_neg (by simp), showsQ, showsQ]
    show wholeQ sJoin (sJoin ++ [40] ++ showQ a ++ [44, 32] ++ showQ b) (c :: l) (showsQ (c :: l)) = _
    rw [hw]
    show _ = if (decide (3 ≤ l.length + 1 + 1 + 1) && (c :: l).all isOnB) = false then _ else _
    rw [show decide (3 ≤ l.length + 1 + 1 + 1) = true by simp, Bool.true_and, show kidsTx n 0 (a :: b :: c :: l) = showQ a ++ ([44, 32] ++ showQ b ++ kidsTx n 2 (c :: l)) by show kidTx n 0 a ++ (kidTx n 1 b ++ kidsTx n 2 (c :: l)) = _; rw [e1, e2]]
    cases (c :: l).all isOnB <;> simp
  by_cases h6 : o = sGroup
  ·subst h6
   simp only [if_true, if_neg (show sGroup ≠ sFilter by decide), if_neg (show sGroup ≠ sDistinct by decide), if_neg (show sGroup ≠ sProject by decide), if_neg (show sGroup ≠ sUnion by decide), if_neg (show sGroup ≠ sJoin by decide), or_true, show ¬ (sGroup = sProject ∨ sGroup = sUnion) by decide, if_false]
   match ks, ek' with
   | [], _ => simp
   | [a], _ => simp
   | [a, b], _ => simp
   | a :: b :: c :: l, ek' =>
    have hin : innerQ n = 1 := by rw [innerQ, eo', if_neg (by decide), if_neg (by decide)]
    have e1 : kidTx n 0 a = showQ a := kid_one n a (by omega)
    have hb : byE (nthN (a :: b :: c :: l) 1) = if isByB b = true then some (sBy ++ colsTx b.ks) else none := byE_is b
    have hd : decide (3 ≤ (a :: b :: c :: l).length) = true := by simp
    rw [if_neg (by rw [hd]; decide), hb, showsQ, showsQ, hd, Bool.true_and]
    show _ = if (isByB b && (c :: l).all isAggB) = false then _ else _
    cases hbb : isByB b
    ·simp
    have hbo : b.op = sBy := by simp [isByB] at hbb; exact hbb.1.1
    have e2 : kidTx n 1 b = if 0 < b.ks.length then [44, 32] ++ (sBy ++ colsTx b.ks) else [] := by
     rw [kidTx, skipQ, eo']
     by_cases hl : b.ks.length = 0
     ·rw [if_pos (by rw [hl]; decide), if_neg (by omega)]
     ·have hl' : (b.ks.length == 0) = false := by simpa using hl
      rw [if_neg (by rw [hl']; simp), if_pos (by omega), if_neg (by omega), if_neg (by decide), if_pos (by omega), partW, if_pos hbo]
    have hw := whole_gen sGroup (sGroup ++ [40] ++ showQ a ++ (if 0 < b.ks.length then [44, 32] ++ (sBy ++ colsTx b.ks) else [])) isAggB partW n 2 (fun k => part_agg k _) (fun i k h1 h2 _ => kid_far n i k (.inr h1) (by omega) (by omega) (by rw [eo']; decide)) (c :: l) 2 (Nat.le_refl _) (by rw [ek']; simp; omega)
    rw [if_pos rfl]
    show wholeQ sGroup (sGroup ++ [40] ++ showQ a ++ (if 0 < b.ks.length then [44, 32] ++ (sBy ++ colsTx b.ks) else [])) (c :: l) (showsQ (c :: l)) = _
    rw [hw, show kidsTx n 0 (a :: b :: c :: l) = showQ a ++ ((if 0 < b.ks.length then [44, 32] ++ (sBy ++ colsTx b.ks) else []) ++ kidsTx n 2 (c :: l)) by show kidTx n 0 a ++ (kidTx n 1 b ++ kidsTx n 2 (c :: l)) = _; rw [e1, e2]]
    cases (c :: l).all isAggB <;> simp
  ·simp [h1, h2, h3, h4, h5, h6]
end Go.Proofs.YtjbpkpfmgbhlpaaGreatDoor.Code
/-
  The program's reader of queries in plain words: a list of parts, each by its place, names, words with brackets behind them; that it reads what the document says. No program is named here.
-/
namespace Go.Proofs.YtjbpkpfmgbhlpaaGreatDoor.Code
open Val
set_option linter.unusedVariables false
def Sim {α : Type} (a b : α × Nat × Bool) : Prop := a.2 = b.2 ∧ (a.2.2 = false → a.1 = b.1)
theorem Sim.refl {α : Type} (a : α × Nat × Bool) : Sim a a := ⟨rfl, fun _ => rfl⟩
theorem Sim.symm {α : Type} {a b : α × Nat × Bool} (h : Sim a b) : Sim b a := ⟨h.1.symm, fun e => (h.2 (by rw [h.1]; exact e)).symm⟩
theorem Sim.bad {α : Type} {x y : α} {j : Nat} : Sim (x, j, true) (y, j, true) := ⟨rfl, fun e => by cases e⟩
def nmOk (L : List V) (i : Nat) : Bool := isK L i false 0 && !ownL (txt L i)
def nameP (L : List V) (o : List UInt8) (i : Nat) : Res := if nmOk L i = true then (.mk o (txt L i) [], i + 1, false) else (zeroN, i, true)
def exprP (L : List V) (i : Nat) : Res := ((exprQ L i false).1.n, (exprQ L i false).2)
def noneP (L : List V) (i : Nat) : Res := (zeroN, i, false)
def namedP (L : List V) (o : List UInt8) (el : Nat → Res) (i : Nat) : Res :=
 if nmOk L i = false then (zeroN, i, true)
 else if isW L (i + 1) false [61] = false then (zeroN, i + 1, true)
 else (.mk o (txt L i) [(el (i + 2)).1], (el (i + 2)).2)
def callP (L : List V) (el : Nat → Res) (i : Nat) : Res :=
 if isW L (i + 1) false [40] = false then (zeroN, i + 1, true)
 else if (el (i + 2)).2.2 = true then (zeroN, (el (i + 2)).2.1, true)
 else if isW L (el (i + 2)).2.1 false [41] = true then (.mk (txt L i) (el (i + 2)).1.tx (el (i + 2)).1.ks, (el (i + 2)).2.1 + 1, false)
 else (zeroN, (el (i + 2)).2.1, true)
def aggC (L : List V) (i : Nat) : Res :=
 if (isK L i false 0 && aggOps.contains (txt L i)) = true then callP L (if txt L i = sCount then noneP L else nameP L sCol) i else (zeroN, i, true)
def itemP (L : List V) (i : Nat) : Res := namedP L sItem (exprP L) i
def onP (L : List V) (i : Nat) : Res := namedP L sOn (nameP L sCol) i
def aggP (L : List V) (i : Nat) : Res := namedP L sAgg (aggC L) i
def namesP (L : List V) : Nat → Nat → List Nod × Nat
 | 0, i => ([], i)
 | f + 1, i => if nmOk L i = true then (.mk sCol (txt L i) [] :: (namesP L f (i + 1)).1, (namesP L f (i + 1)).2) else ([], i)
def hasP (L : List V) (i : Nat) : Bool := isK L i false 0 && (txt L i == sBy && !isW L (i + 1) false [61])
def byP (L : List V) (i : Nat) : Res :=
 if hasP L i = false then (.mk sBy [] [], i, false)
 else if nmOk L (i + 1) = false then (zeroN, i + 1, true)
 else if isW L (namesP L (L.length + 1) (i + 1)).2 false [44] = true then (.mk sBy [] (namesP L (L.length + 1) (i + 1)).1, (namesP L (L.length + 1) (i + 1)).2 + 1, false)
 else (zeroN, (namesP L (L.length + 1) (i + 1)).2, true)
def lsP (L : List V) (least most : Nat) (el : Nat → Nat → Res) : Nat → Nat → Nat → Ress
 | 0, _, i => ([], i, true)
 | f + 1, k, i =>
  if k < least ∨ (k < most ∧ isW L i false [44] = true) then
   if 0 < k ∧ isW L i false [44] = false then ([], i, true)
   else if (el k (if k = 0 then i else i + 1)).2.2 = true then ([], (el k (if k = 0 then i else i + 1)).2.1, true)
   else ((el k (if k = 0 then i else i + 1)).1 :: (lsP L least most el f (k + 1) (el k (if k = 0 then i else i + 1)).2.1).1, (lsP L least most el f (k + 1) (el k (if k = 0 then i else i + 1)).2.1).2)
  else ([], i, false)
def shutP (L : List V) (R : Ress) : Ress := if R.2.2 = true then R else (R.1, mustQ L R.2.1 false [41])
section
variable {L : List V} {i j : Nat} {b : Bool}
theorem isW_two {s t : List UInt8} (h : isW L i b s = true) (hne : s ≠ t) : isW L i b t = false := by
 unfold isW at h ⊢
 cases hx : L[i]? with
 | none => rfl
 | some w =>
  rw [hx] at h
  simp only [Bool.and_eq_true, beq_iff_eq] at h
  have : (w.2 == t) = false := by rw [h.1.2]; simpa using hne
  simp [this]
theorem isW_wrong (s : List UInt8) : isW L i true s = false := by
 cases h : isW L i true s with
 | false => rfl
 | true => exact absurd (isW_good h) (by decide)
theorem must_wrong (s : List UInt8) : mustQ L i true s = (i, true) := by
 unfold mustQ
 rw [isW_wrong]
 rfl
theorem must_yes {s : List UInt8} (h : isW L i false s = true) : mustQ L i false s = (i + 1, false) := by
 unfold mustQ
 rw [h]
 rfl
theorem must_no {s : List UInt8} (h : isW L i false s = false) : mustQ L i false s = (i, true) := by
 unfold mustQ
 rw [h]
 rfl
theorem more_wrong (first : Bool) : moreQ L i true first = (false, i, true) := by
 unfold moreQ
 rw [must_wrong, isW_wrong]
 cases first <;> rfl
theorem loop_wrong {el : Nat → Bool → Res} (f : Nat) (first : Bool) : loopQ L el f first i true = ([], i, true) := by
 cases f with
 | zero => rfl
 | succ f => rw [loopQ, more_wrong]; rfl
theorem nm_yes (h : nmOk L i = true) : nmQ L i false = (txt L i, i + 1, false) := by
 unfold nmQ
 unfold nmOk at h
 rw [h]
 rfl
theorem nm_no (h : nmOk L i = false) : nmQ L i false = ([], i, true) := by
 unfold nmQ
 unfold nmOk at h
 rw [h]
 rfl
theorem nm_wrong : nmQ L i true = ([], i, true) := by
 unfold nmQ
 have h : isK L i true 0 = false := by
  cases h : isK L i true 0 with
  | false => rfl
  | true => exact absurd (isK_lt h).2 (by decide)
 rw [h]
 rfl
theorem ls_loop {el : Nat → Nat → Res} {el' : Nat → Bool → Res} {least most : Nat} (he : ∀ j c, j ≤ L.length → Ends L.length j c (el' j c).2) (hel : ∀ k j, least ≤ k → Sim (el' j false) (el k j)) :
  ∀ (f k i : Nat), least ≤ k → 0 < k → k + f ≤ most → i ≤ L.length → L.length - i < f → Sim (loopQ L el' f false i false) (shutP L (lsP L least most el f k i))
 | 0, _, _, _, _, _, _, h => absurd h (Nat.not_lt_zero _)
 | f + 1, k, i, hk, hk0, hm, hi, hf => by
  rw [loopQ, lsP]
  cases c : isW L i false [44] with
  | true =>
   have c41 := isW_two (t := [41]) c (by decide)
   have hil := isW_lt c
   have hmo : moreQ L i false false = (true, i + 1, false) := by
    unfold moreQ
    rw [c41, must_yes c]
    rfl
   have h1 : k < least ∨ (k < most ∧ true = true) := Or.inr ⟨by omega, rfl⟩
   have h2 : ¬ (0 < k ∧ true = false) := by rintro ⟨_, h⟩; cases h
   have h3 : ¬ k = 0 := by omega
   have h4 : ¬ (true, i + 1, false).1 = false := by simp
   rw [hmo, if_pos h1, if_neg h2, if_neg h3, if_neg h4]
   dsimp only
   have hs := hel k (i + 1) hk
   have hE := he (i + 1) false (by omega)
   generalize el k (i + 1) = E at hs ⊢
   generalize el' (i + 1) false = E' at hs hE ⊢
   obtain ⟨n, j, b⟩ := E
   obtain ⟨n', j', b'⟩ := E'
   obtain ⟨h1, h2⟩ := hs
   dsimp only at h1 h2 hE ⊢
   cases h1
   cases b with
   | true =>
    rw [loop_wrong, if_pos rfl]
    exact ⟨rfl, fun e => by cases e⟩
   | false =>
    have hE1 := hE.1
    have hE2 := hE.2.1
    dsimp only at hE1 hE2
    have ih := ls_loop (least := least) (most := most) he hel f (k + 1) j (by omega) (by omega) (by omega) hE2 (by omega)
    rw [if_neg (by simp), h2 rfl]
    obtain ⟨ih1, ih2⟩ := ih
    unfold shutP at ih1 ih2 ⊢
    dsimp only
    split
    ·rename_i hb
     rw [if_pos hb] at ih1 ih2
     exact ⟨ih1, fun e => by rw [ih2 e]⟩
    ·rename_i hb
     rw [if_neg hb] at ih1 ih2
     exact ⟨ih1, fun e => by rw [ih2 e]⟩
  | false =>
   have h1 : ¬ (k < least ∨ (k < most ∧ false = true)) := by
    rintro (h | ⟨_, h⟩)
    ·omega
    ·cases h
   rw [if_neg h1, show shutP L ([], i, false) = ([], mustQ L i false [41]) from rfl]
   cases c41 : isW L i false [41] with
   | true =>
    have hmo : moreQ L i false false = (false, i + 1, false) := by
     unfold moreQ
     rw [c41]
     rfl
    rw [hmo, if_pos rfl, must_yes c41]
    exact Sim.refl _
   | false =>
    have hmo : moreQ L i false false = (false, i, true) := by
     unfold moreQ
     rw [c41, must_no c]
     rfl
    rw [hmo, if_pos rfl, must_no c41]
    exact Sim.refl _
theorem ls_first {el : Nat → Nat → Res} {least most : Nat} (f : Nat) (h : 0 < least) : lsP L least most el (f + 1) 0 i = if (el 0 i).2.2 = true then ([], (el 0 i).2.1, true) else ((el 0 i).1 :: (lsP L least most el f 1 (el 0 i).2.1).1, (lsP L least most el f 1 (el 0 i).2.1).2) := by
 rw [lsP, if_pos (Or.inl h), if_neg (by rintro ⟨h, _⟩; omega)]
 rfl
theorem ls_must {el : Nat → Nat → Res} {least most k : Nat} (f : Nat) (h0 : 0 < k) (h : k < least) : lsP L least most el (f + 1) k i =
  if isW L i false [44] = false then ([], i, true) else if (el k (i + 1)).2.2 = true then ([], (el k (i + 1)).2.1, true) else ((el k (i + 1)).1 :: (lsP L least most el f (k + 1) (el k (i + 1)).2.1).1, (lsP L least most el f (k + 1) (el k (i + 1)).2.1).2) := by
 rw [lsP, if_pos (Or.inl h), if_neg (show ¬ k = 0 by omega)]
 cases c : isW L i false [44] with
 | false => rw [if_pos ⟨h0, rfl⟩, if_pos rfl]
 | true => rw [if_neg (show ¬ (0 < k ∧ true = false) by rintro ⟨_, h⟩; cases h), if_neg (show ¬ true = false by decide)]
theorem ls_end {el : Nat → Nat → Res} {least most k : Nat} (f : Nat) (h : least ≤ k) (h' : most ≤ k) : lsP L least most el (f + 1) k i = ([], i, false) := by
 rw [lsP, if_neg (by rintro (h | ⟨h, _⟩) <;> omega)]
theorem ls_must_loop {el : Nat → Nat → Res} {el' : Nat → Bool → Res} {least most k : Nat} (he : ∀ j c, j ≤ L.length → Ends L.length j c (el' j c).2) (hel : ∀ k j, least ≤ k + 1 → Sim (el' j false) (el k j)) (f : Nat) (h0 : 0 < k) (hk : k + 1 = least) (hm : k + f + 1 ≤ most) (hi : i ≤ L.length) (hf : L.length - i < f) :
  Sim (loopQ L el' (f + 1) true i false) (shutP L (lsP L least most el (f + 1) k i)) := by
 rw [loopQ, ls_must f h0 (by omega)]
 cases c : isW L i false [44] with
 | false =>
  have hmo : moreQ L i false true = (false, i, true) := by
   unfold moreQ
   rw [must_no c]
   rfl
  rw [hmo, if_pos rfl, if_pos rfl]
  exact Sim.refl _
 | true =>
  have hil := isW_lt c
  have hmo : moreQ L i false true = (true, i + 1, false) := by
   unfold moreQ
   rw [must_yes c]
   rfl
  have h4 : ¬ (true, i + 1, false).1 = false := by simp
  have h5 : ¬ true = false := by decide
  rw [hmo, if_neg h4, if_neg h5]
  dsimp only
  have hs := hel k (i + 1) (by omega)
  have hE := he (i + 1) false (by omega)
  generalize el k (i + 1) = E at hs ⊢
  generalize el' (i + 1) false = E' at hs hE ⊢
  obtain ⟨n, j, b⟩ := E
  obtain ⟨n', j', b'⟩ := E'
  obtain ⟨h1, h2⟩ := hs
  dsimp only at h1 h2 hE ⊢
  cases h1
  cases b with
  | true =>
   rw [loop_wrong, if_pos rfl]
   exact ⟨rfl, fun e => by cases e⟩
  | false =>
   have hE1 := hE.1
   have hE2 := hE.2.1
   dsimp only at hE1 hE2
   have ih := ls_loop (least := least) (most := most) he (fun k j h => hel k j (by omega)) f (k + 1) j (by omega) (by omega) (by omega) hE2 (by omega)
   rw [if_neg (by simp), h2 rfl]
   obtain ⟨ih1, ih2⟩ := ih
   unfold shutP at ih1 ih2 ⊢
   dsimp only
   split
   ·rename_i hb
    rw [if_pos hb] at ih1 ih2
    exact ⟨ih1, fun e => by rw [ih2 e]⟩
   ·rename_i hb
    rw [if_neg hb] at ih1 ih2
    exact ⟨ih1, fun e => by rw [ih2 e]⟩
end
section
variable {L : List V} {i j : Nat} {b : Bool}
theorem ift {α : Type} (a b : α) : (if true = true then a else b) = a := rfl
theorem iff' {α : Type} (a b : α) : (if false = true then a else b) = b := rfl
theorem ifft {α : Type} (a b : α) : (if false = false then a else b) = a := rfl
theorem iftf {α : Type} (a b : α) : (if true = false then a else b) = b := rfl
theorem named_sim {o : List UInt8} {el : Nat → Res} {el' : Nat → Bool → Res} (hs : ∀ j, Sim (el' j false) (el j)) (hw : ∀ j, (el' j true).2 = (j, true)) (i : Nat) :
  Sim (.mk o (nmQ L i false).1 [(el' (mustQ L (nmQ L i false).2.1 (nmQ L i false).2.2 [61]).1 (mustQ L (nmQ L i false).2.1 (nmQ L i false).2.2 [61]).2).1],
   (el' (mustQ L (nmQ L i false).2.1 (nmQ L i false).2.2 [61]).1 (mustQ L (nmQ L i false).2.1 (nmQ L i false).2.2 [61]).2).2) (namedP L o el i) := by
 unfold namedP
 cases c : nmOk L i with
 | false =>
  rw [if_pos rfl, nm_no c, must_wrong]
  refine ⟨hw i, fun e => ?_⟩
  rw [show ∀ x : Nod, (x, (el' i true).2).2 = (el' i true).2 from fun _ => rfl, hw] at e
  cases e
 | true =>
  rw [if_neg (by decide), nm_yes c]
  cases c1 : isW L (i + 1) false [61] with
  | false =>
   rw [if_pos rfl, must_no c1]
   refine ⟨hw (i + 1), fun e => ?_⟩
   rw [show ∀ x : Nod, (x, (el' (i + 1) true).2).2 = (el' (i + 1) true).2 from fun _ => rfl, hw] at e
   cases e
  | true =>
   rw [if_neg (by decide), must_yes c1]
   obtain ⟨h1, h2⟩ := hs (i + 2)
   exact ⟨h1, fun e => by rw [h2 e]⟩
theorem expr_wrong (j : Nat) : (exprQ L j true).2 = (j, true) := by
 by_cases h : j ≤ L.length
 ·exact (expr_ends (b := true) h).2.2 rfl
 ·have hg : ∀ (f : Nat) (md : Mode) (j : Nat), (P L f md j true).2 = (j, true) := by
   intro f
   induction f with
   | zero => intro md j; cases md <;> rfl
   | succ f ih =>
    intro md j
    have hk : ∀ k, isK L j true k = false := fun k => by
     cases h : isK L j true k with
     | false => rfl
     | true => exact absurd (isK_lt h).2 (by decide)
    have ho : ∀ l, oneL L j true l = [] := fun l => by
     induction l with
     | nil => rfl
     | cons s l ih => rw [oneL, isW_wrong, if_neg (by decide)]; exact ih
    cases md with
    | expr lv =>
     rw [P]
     split
     ·exact ih _ _
     split
     ·rw [isW_wrong, if_neg (by decide)]
      exact ih _ _
     split
     ·rw [ih]; exact ih _ _
     ·rw [ih]; exact ih _ _
    | loop lv t => rw [P, ho, if_pos rfl]
    | test t =>
     rw [P, ho, isW_wrong]
     rfl
    | sign =>
     rw [P, isW_wrong, if_neg (by decide), isW_wrong, if_neg (by decide), ho, if_pos rfl, hk, hk, hk]
     rfl
  exact hg _ _ _
theorem item_sim (i : Nat) : Sim (itemQ L i false) (itemP L i) :=
 named_sim (o := sItem) (el := exprP L) (el' := fun j b => ((exprQ L j b).1.n, (exprQ L j b).2)) (fun j => Sim.refl _) (fun j => expr_wrong j) i
theorem pair_sim (i : Nat) : Sim (pairQ L i false) (onP L i) :=
 named_sim (o := sOn) (el := nameP L sCol) (el' := fun j b => (.mk sCol (nmQ L j b).1 [], (nmQ L j b).2)) (fun j => by
  unfold nameP
  cases c : nmOk L j with
  | false => rw [nm_no c]; exact Sim.bad
  | true => rw [nm_yes c]; exact Sim.refl _) (fun j => by rw [nm_wrong]) i
theorem kind_of : ∀ l : List (List UInt8), (∀ s ∈ l, s ≠ []) → kindQ L i false l = if (isK L i false 0 && l.contains (txt L i)) = true then txt L i else []
 | [], _ => by simp [kindQ]
 | s :: l, h => by
  rw [kindQ, kind_of l (fun s hs => h s (List.mem_cons_of_mem _ hs))]
  cases hk : isK L i false 0 with
  | false => simp
  | true =>
   by_cases e : txt L i = s
   ·rw [e]
    simp
   ·rw [if_neg (by simp [e])]
    have : (s :: l).contains (txt L i) = l.contains (txt L i) := by simp [e]
    rw [this]
theorem kind_wrong : ∀ l : List (List UInt8), kindQ L i true l = []
 | [] => rfl
 | s :: l => by
  rw [kindQ]
  have hk : isK L i true 0 = false := by
   cases h : isK L i true 0 with
   | false => rfl
   | true => exact absurd (isK_lt h).2 (by decide)
  rw [hk]
  exact kind_wrong l
theorem agg2_sim (s : List UInt8) (i : Nat) : Sim (agg2Q L s i false) (.mk sAgg s [(aggC L i).1], (aggC L i).2) := by
 unfold agg2Q aggC
 rw [kind_of aggOps (by decide)]
 cases c : (isK L i false 0 && aggOps.contains (txt L i)) with
 | false =>
  rw [iff', if_pos rfl, iff']
  exact Sim.bad
 | true =>
  rw [ift, ift]
  have hne : txt L i ≠ [] := by
   intro e
   rw [e] at c
   revert c
   cases isK L i false 0 <;> decide
  rw [if_neg hne]
  obtain ⟨o, ho⟩ : ∃ o, txt L i = o := ⟨_, rfl⟩
  rw [ho]
  unfold callQ callP
  cases c1 : isW L (i + 1) false [40] with
  | false =>
   rw [ifft, must_no c1]
   have ha : argQ L o (i + 1) true = ([], i + 1, true) := by
    unfold argQ
    split
    ·rfl
    ·exact nm_wrong
   rw [ha, must_wrong]
   exact Sim.bad
  | true =>
   rw [iftf, must_yes c1]
   by_cases hc : o = sCount
   ·rw [if_pos hc]
    have ha : argQ L o (i + 1 + 1) false = ([], i + 2, false) := by unfold argQ; rw [if_pos hc]
    rw [ha]
    unfold noneP
    dsimp only
    rw [iff']
    cases c2 : isW L (i + 2) false [41] with
    | true => rw [ift, must_yes c2, ho]; exact Sim.refl _
    | false => rw [iff', must_no c2]; exact Sim.bad
   ·rw [if_neg hc]
    have ha : argQ L o (i + 1 + 1) false = nmQ L (i + 2) false := by unfold argQ; rw [if_neg hc]
    rw [ha]
    unfold nameP
    cases c3 : nmOk L (i + 2) with
    | false =>
     rw [nm_no c3, must_wrong, iff']
     dsimp only
     rw [ift]
     exact Sim.bad
    | true =>
     rw [nm_yes c3, ift]
     dsimp only [Nod.tx, Nod.ks]
     rw [iff']
     cases c2 : isW L (i + 2 + 1) false [41] with
     | true => rw [ift, must_yes c2, ho]; exact Sim.refl _
     | false => rw [iff', must_no c2]; exact Sim.bad
theorem agg_sim (i : Nat) : Sim (aggQ L i false) (aggP L i) := by
 unfold aggQ aggP namedP
 cases c : nmOk L i with
 | false =>
  rw [if_pos rfl, nm_no c, must_wrong]
  unfold agg2Q
  rw [kind_wrong, if_pos rfl]
  exact Sim.bad
 | true =>
  rw [if_neg (by decide), nm_yes c]
  cases c1 : isW L (i + 1) false [61] with
  | false =>
   rw [if_pos rfl, must_no c1]
   unfold agg2Q
   rw [kind_wrong, if_pos rfl]
   exact Sim.bad
  | true =>
   rw [if_neg (by decide), must_yes c1]
   exact agg2_sim _ _
theorem kind_noW {p : Nat} {s : List UInt8} (hk : isK L p false 0 = true) (hs : ownL s = false) : isW L p false s = false := by
 unfold isK at hk
 unfold isW
 cases hx : L[p]? with
 | none => rfl
 | some w =>
  rw [hx] at hk
  have e : w.1 = 0 := by simpa using hk
  simp [e, hs]
theorem names_sim : ∀ (f j : Nat), nmOk L j = true → j ≤ L.length → L.length - j < f →
  (namesQ L f j false = ((namesP L f j).1, (namesP L f j).2, false)) ∨ ((namesQ L f j false).2 = ((namesP L f j).2, true) ∧ isW L (namesP L f j).2 false [44] = false)
 | 0, _, _, _, h => absurd h (Nat.not_lt_zero _)
 | f + 1, j, hn, hj, hf => by
  rw [namesQ, nm_yes hn, namesP, if_pos hn]
  have hjl : j < L.length := (isK_lt (Bool.and_eq_true _ _ ▸ hn).1).1
  dsimp only
  cases hk : isK L (j + 1) false 0 with
  | false =>
   rw [if_neg (by decide)]
   have hno : nmOk L (j + 1) = false := by unfold nmOk; rw [hk]; rfl
   obtain ⟨f', rfl⟩ : ∃ f', f = f' + 1 := ⟨f - 1, by omega⟩
   rw [namesP, if_neg (by rw [hno]; decide)]
   exact .inl rfl
  | true =>
   rw [if_pos rfl]
   have hjl2 := (isK_lt hk).1
   cases hn2 : nmOk L (j + 1) with
   | true =>
    rcases names_sim f (j + 1) hn2 (by omega) (by omega) with h | ⟨h, h'⟩
    ·left; rw [h]
    ·right; exact ⟨h, h'⟩
   | false =>
    right
    obtain ⟨f', rfl⟩ : ∃ f', f = f' + 1 := ⟨f - 1, by omega⟩
    have h1 : namesQ L (f' + 1) (j + 1) false = ([.mk sCol [] []], j + 1, true) := by
     rw [namesQ, nm_no hn2]
     have hkk : isK L (j + 1) true 0 = false := by
      cases h : isK L (j + 1) true 0 with
      | false => rfl
      | true => exact absurd (isK_lt h).2 (by decide)
     dsimp only
     rw [hkk, if_neg (by decide)]
    have h2 : namesP L (f' + 1) (j + 1) = ([], j + 1) := by rw [namesP, if_neg (by rw [hn2]; decide)]
    rw [h1, h2]
    exact ⟨rfl, kind_noW hk (by decide)⟩
theorem has_same (i : Nat) : hasQ L i false = hasP L i := by
 unfold hasQ hasP wordQ
 cases hk : isK L i false 0 with
 | false => rfl
 | true =>
  cases ht : txt L i == sBy with
  | false => rfl
  | true =>
   have h : isW L (i + 1) false [61] = (L[i + 1]? == some (3, [61])) := by
    unfold isW
    cases hx : L[i + 1]? with
    | none => rfl
    | some w =>
     obtain ⟨k, t⟩ := w
     have ho : ownL [61] = false := by decide
     rw [ho]
     rw [Bool.eq_iff_iff]
     simp
     constructor
     ·rintro ⟨h1, h2⟩; exact ⟨h2, h1⟩
     ·rintro ⟨h1, h2⟩; exact ⟨h2, h1⟩
   rw [h]
   simp
theorem by_sim (i : Nat) : Sim (byQ L i false) (byP L i) := by
 unfold byQ byP
 rw [has_same]
 cases hh : hasP L i with
 | false =>
  rw [if_neg (by decide), if_pos rfl]
  exact Sim.refl _
 | true =>
  rw [if_pos rfl, if_neg (by decide)]
  have hil : i < L.length := (isK_lt (Bool.and_eq_true _ _ ▸ hh).1).1
  cases hn : nmOk L (i + 1) with
  | false =>
   rw [if_pos rfl]
   have h1 : (namesQ L (L.length + 1) (i + 1) false).2 = (i + 1, true) := by
    rw [namesQ, nm_no hn]
    have hkk : isK L (i + 1) true 0 = false := by
     cases h : isK L (i + 1) true 0 with
     | false => rfl
     | true => exact absurd (isK_lt h).2 (by decide)
    dsimp only
    rw [hkk, if_neg (by decide)]
   rw [h1, must_wrong]
   exact Sim.bad
  | true =>
   rw [if_neg (by decide)]
   rcases names_sim (L.length + 1) (i + 1) hn (by omega) (by omega) with h | ⟨h, h'⟩
   ·rw [h]
    dsimp only
    cases c : isW L (namesP L (L.length + 1) (i + 1)).2 false [44] with
    | true => rw [must_yes c, if_pos rfl]; exact Sim.refl _
    | false => rw [must_no c, if_neg (by decide)]; exact Sim.bad
   ·rw [h, must_wrong, h', if_neg (by decide)]
    exact Sim.bad
end
def many : Nat := 9223372036854775807
def filterP (L : List V) (q : Nat → Res) (i : Nat) : Ress := lsP L 2 2 (fun k j => if k < 1 then q j else exprP L j) (L.length + 8) 0 i
def projectP (L : List V) (q : Nat → Res) (i : Nat) : Ress := lsP L 2 many (fun k j => if k < 1 then q j else itemP L j) (L.length + 8) 0 i
def joinP (L : List V) (q : Nat → Res) (i : Nat) : Ress := lsP L 3 many (fun k j => if k < 2 then q j else onP L j) (L.length + 8) 0 i
def unionP (L : List V) (q : Nat → Res) (i : Nat) : Ress := lsP L 2 many (fun k j => q j) (L.length + 8) 0 i
def distinctP (L : List V) (q : Nat → Res) (i : Nat) : Ress := lsP L 1 1 (fun k j => q j) (L.length + 8) 0 i
def firstG (L : List V) (j : Nat) : Res := if (byP L j).2.2 = true then (zeroN, (byP L j).2.1, true) else aggP L (byP L j).2.1
def groupsP (L : List V) (q : Nat → Res) (i : Nat) : Ress := lsP L 2 many (fun k j => if k < 1 then q j else if k = 1 then firstG L j else aggP L j) (L.length + 8) 0 i
def groupP (L : List V) (q : Nat → Res) (i : Nat) : Ress := ((groupsP L q i).1.take 1 ++ (byP L ((q i).2.1 + 1)).1 :: (groupsP L q i).1.drop 1, (groupsP L q i).2)
def bodyG (L : List V) (q : Nat → Res) (o : List UInt8) (i : Nat) : Ress :=
 if o = sFilter then filterP L q i else if o = sProject then projectP L q i else if o = sJoin then joinP L q i else if o = sUnion then unionP L q i else if o = sDistinct then distinctP L q i else groupP L q i
section
variable {L : List V} {q : Nat → Bool → Res} {i : Nat}
theorem tail_wrong (hq : ∀ j c, j ≤ L.length → Ends L.length j c (q j c).2) (o : List UInt8) {j : Nat} (h : j ≤ L.length) : (tailQ L q o j true).2 = (j, true) := (tail_ends hq h).2.2 rfl
theorem body_of {o : List UInt8} {el : Nat → Nat → Res} {least most : Nat} (hq : ∀ j c, j ≤ L.length → Ends L.length j c (q j c).2) (h0 : 0 < least) (hel : ∀ j, el 0 j = q j false) (hi : i ≤ L.length)
  (ht : ∀ j, j ≤ L.length → Sim (tailQ L q o j false) (shutP L (lsP L least most el (L.length + 7) 1 j))) :
  Sim ((q i false).1 :: (tailQ L q o (q i false).2.1 (q i false).2.2).1, (tailQ L q o (q i false).2.1 (q i false).2.2).2) (shutP L (lsP L least most el (L.length + 8) 0 i)) := by
 have hE := hq i false hi
 rw [ls_first (L.length + 7) h0, hel]
 generalize q i false = E at hE ⊢
 obtain ⟨n, j, b⟩ := E
 have hj := hE.2.1
 dsimp only at hj ⊢
 cases b with
 | true =>
  have hw := tail_wrong hq o hj
  rw [if_pos rfl]
  unfold shutP
  rw [if_pos rfl]
  refine ⟨hw, fun e => ?_⟩
  rw [show ∀ x : List Nod, (x, (tailQ L q o j true).2).2 = (tailQ L q o j true).2 from fun _ => rfl, hw] at e
  cases e
 | false =>
  rw [if_neg (by simp)]
  obtain ⟨h1, h2⟩ := ht j hj
  unfold shutP at h1 h2 ⊢
  dsimp only
  split
  ·rename_i hb
   rw [if_pos hb] at h1 h2
   exact ⟨h1, fun e => by rw [h2 e]⟩
  ·rename_i hb
   rw [if_neg hb] at h1 h2
   exact ⟨h1, fun e => by rw [h2 e]⟩
theorem loop_fuel {el' : Nat → Bool → Res} (he : ∀ j c, j ≤ L.length → Ends L.length j c (el' j c).2) (first : Bool) {j : Nat} (hj : j ≤ L.length) (f : Nat) (hf : L.length - j < f) (b : Bool) : loopQ L el' (L.length + 1) first j b = loopQ L el' f first j b :=
 loop_steps he 0 (fun _ _ _ _ => rfl) _ _ _ _ _ (Nat.zero_le _) hj (by omega) hf
theorem filter_sim (hq : ∀ j c, j ≤ L.length → Ends L.length j c (q j c).2) (hi : i ≤ L.length) :
  Sim ((q i false).1 :: (tailQ L q sFilter (q i false).2.1 (q i false).2.2).1, (tailQ L q sFilter (q i false).2.1 (q i false).2.2).2) (shutP L (filterP L (fun j => q j false) i)) := by
 refine body_of hq (by decide) (fun j => rfl) hi fun j hj => ?_
 rw [show tailQ L q sFilter j false = ([(exprQ L (mustQ L j false [44]).1 (mustQ L j false [44]).2).1.n], mustQ L (exprQ L (mustQ L j false [44]).1 (mustQ L j false [44]).2).2.1 (exprQ L (mustQ L j false [44]).1 (mustQ L j false [44]).2).2.2 [41]) by unfold tailQ; rw [if_pos rfl]]
 rw [ls_must (L.length + 6) (by decide) (by decide)]
 cases c : isW L j false [44] with
 | false =>
  rw [must_no c, expr_wrong, must_wrong, ifft]
  exact Sim.bad
 | true =>
  rw [must_yes c, iftf]
  dsimp only
  rw [show ∀ j, (if 1 < 1 then q j false else exprP L j) = exprP L j from fun _ => rfl]
  have hE := expr_ends (L := L) (i := j + 1) (b := false) (isW_lt c)
  unfold exprP
  generalize exprQ L (j + 1) false = E at hE ⊢
  obtain ⟨t, k, b⟩ := E
  dsimp only
  cases b with
  | true =>
   rw [must_wrong, ift]
   exact Sim.bad
  | false =>
   rw [iff', ls_end _ (by decide) (by decide)]
   exact Sim.refl _
theorem distinct_sim (hq : ∀ j c, j ≤ L.length → Ends L.length j c (q j c).2) (hi : i ≤ L.length) :
  Sim ((q i false).1 :: (tailQ L q sDistinct (q i false).2.1 (q i false).2.2).1, (tailQ L q sDistinct (q i false).2.1 (q i false).2.2).2) (shutP L (distinctP L (fun j => q j false) i)) := by
 refine body_of hq (by decide) (fun j => rfl) hi fun j hj => ?_
 rw [show tailQ L q sDistinct j false = ([], mustQ L j false [41]) by unfold tailQ; rw [if_neg (by decide), if_pos rfl]]
 rw [ls_end _ (by decide) (by decide)]
 exact Sim.refl _
theorem project_sim (hq : ∀ j c, j ≤ L.length → Ends L.length j c (q j c).2) (hi : i ≤ L.length) (hL : L.length ≤ 4194304) :
  Sim ((q i false).1 :: (tailQ L q sProject (q i false).2.1 (q i false).2.2).1, (tailQ L q sProject (q i false).2.1 (q i false).2.2).2) (shutP L (projectP L (fun j => q j false) i)) := by
 refine body_of hq (by decide) (fun j => rfl) hi fun j hj => ?_
 rw [show tailQ L q sProject j false = loopQ L (itemQ L) (L.length + 1) true j false by unfold tailQ; rw [if_neg (by decide), if_neg (by decide), if_pos rfl], loop_fuel (fun j c hj => item_ends hj) true hj (L.length + 7) (by omega)]
 refine ls_must_loop (least := 2) (k := 1) (fun j c hj => item_ends hj) (fun k j h => ?_) (L.length + 6) (by decide) rfl (by unfold many; omega) hj (by omega)
 rw [if_neg (by omega)]
 exact item_sim j
theorem union_sim (hq : ∀ j c, j ≤ L.length → Ends L.length j c (q j c).2) (hi : i ≤ L.length) (hL : L.length ≤ 4194304) :
  Sim ((q i false).1 :: (tailQ L q sUnion (q i false).2.1 (q i false).2.2).1, (tailQ L q sUnion (q i false).2.1 (q i false).2.2).2) (shutP L (unionP L (fun j => q j false) i)) := by
 refine body_of hq (by decide) (fun j => rfl) hi fun j hj => ?_
 rw [show tailQ L q sUnion j false = loopQ L q (L.length + 1) true j false by unfold tailQ; rw [if_neg (by decide), if_neg (by decide), if_neg (by decide), if_pos rfl], loop_fuel hq true hj (L.length + 7) (by omega)]
 exact ls_must_loop (least := 2) (k := 1) hq (fun k j h => Sim.refl _) (L.length + 6) (by decide) rfl (by unfold many; omega) hj (by omega)
theorem join_sim (hq : ∀ j c, j ≤ L.length → Ends L.length j c (q j c).2) (hi : i ≤ L.length) (hL : L.length ≤ 4194304) :
  Sim ((q i false).1 :: (tailQ L q sJoin (q i false).2.1 (q i false).2.2).1, (tailQ L q sJoin (q i false).2.1 (q i false).2.2).2) (shutP L (joinP L (fun j => q j false) i)) := by
 refine body_of hq (by decide) (fun j => rfl) hi fun j hj => ?_
 rw [show tailQ L q sJoin j false = ((q (mustQ L j false [44]).1 (mustQ L j false [44]).2).1 :: (loopQ L (pairQ L) (L.length + 1) true (q (mustQ L j false [44]).1 (mustQ L j false [44]).2).2.1 (q (mustQ L j false [44]).1 (mustQ L j false [44]).2).2.2).1,
   (loopQ L (pairQ L) (L.length + 1) true (q (mustQ L j false [44]).1 (mustQ L j false [44]).2).2.1 (q (mustQ L j false [44]).1 (mustQ L j false [44]).2).2.2).2) by unfold tailQ; rw [if_neg (by decide), if_neg (by decide), if_neg (by decide), if_neg (by decide), if_pos rfl]]
 rw [ls_must (L.length + 6) (by decide) (by decide)]
 cases c : isW L j false [44] with
 | false =>
  have hw := (hq j true hj).2.2 rfl
  rw [must_no c, ifft]
  dsimp only
  generalize q j true = E at hw ⊢
  obtain ⟨n, j1, b1⟩ := E
  cases hw
  rw [loop_wrong]
  exact Sim.bad
 | true =>
  have hjl := isW_lt c
  rw [must_yes c, iftf]
  dsimp only
  rw [show ∀ j, (if 1 < 2 then q j false else onP L j) = q j false from fun _ => rfl]
  have hE := hq (j + 1) false (by omega)
  generalize q (j + 1) false = E at hE ⊢
  obtain ⟨n, k, b⟩ := E
  have hk := hE.2.1
  dsimp only at hk ⊢
  cases b with
  | true =>
   rw [loop_wrong, ift]
   exact Sim.bad
  | false =>
   rw [iff', loop_fuel (fun j c hj => pair_ends hj) true hk (L.length + 6) (by omega)]
   have h := ls_must_loop (L := L) (el := fun k j => if k < 2 then q j false else onP L j) (least := 3) (most := many) (k := 2) (i := k) (fun j c hj => pair_ends hj) (fun k j h => by rw [if_neg (by omega)]; exact pair_sim j) (L.length + 5) (by decide) rfl (by unfold many; omega) hk (by omega)
   obtain ⟨h1, h2⟩ := h
   unfold shutP at h1 h2 ⊢
   dsimp only
   split
   ·rename_i hb
    rw [if_pos hb] at h1 h2
    exact ⟨h1, fun e => by rw [h2 e]⟩
   ·rename_i hb
    rw [if_neg hb] at h1 h2
    exact ⟨h1, fun e => by rw [h2 e]⟩
end
end Go.Proofs.YtjbpkpfmgbhlpaaGreatDoor.Code
/-
  The program's maps of what a word begins: a look-up, an entry of a literal.
-/
namespace Go.Proofs.YtjbpkpfmgbhlpaaGreatDoor.Code
open Go.ChangeShapes Go.WideShapes Go.ChangeAt Go.RowKit Val Elems Go.ChangeMaps Go.MapKept
open Go.WideElems (Fit rd rg pl rd_key rd_val rg_of)
open Go.Maps (Keyed)
set_option linter.unusedVariables false
set_option linter.unusedSimpArgs false
set_option maxRecDepth 100000
theorem run_lookq (w : World) (b n : Nat) (f : ByteArray → Option Value) (h : MapR w b n f) (k : ByteArray) (hk : k.size ≤ maxLen) (u : Option Value) (hu : f k = u) : (Instr.lookup 55 (.map (some b)) (.string k) true).run Tryz.prog w = .ok (.tuple #[u.getD .nilFunc, .bool u.isSome]) w := by
 subst hu
 have hz : (zeroValue 95).run Tryz.prog w = .ok .nilFunc w := rfl
 obtain ⟨D, ⟨es, clock, hb, F, hs, rfl⟩, h2⟩ := h
 have h3 := h2 k hk
 rcases Maps.fit_look true mk_law Tryz.underlying55 hz hb F (mk_is hk) with ⟨hrun, _, hat⟩ | ⟨e0, y, _, _, hrun, hRv, hat, _⟩
 ·have hf := Maps.has_false_of_atKey hat
  rw [h3.1] at hf
  cases hfk : f k with
  | none => exact hrun
  | some s => rw [hfk] at hf; cases hf
 ·have hf := Maps.has_true_of_atKey hat
  rw [h3.1] at hf
  cases hfk : f k with
  | none => rw [hfk] at hf; cases hf
  | some s =>
   have h4 := (h3.2 s hfk (.held undef)).symm.trans (hat _)
   unfold hR at hRv
   simp only [Option.some.injEq] at hRv
   subst hRv
   injection h4 with h4
   rw [hrun, h4]
   rfl
section
variable (w : World) {ops : Array Oper} {rest : List Oper} {o : Oper} {a : Act} {Q : Exit → Act → World → Prop}
theorem wpList_insp (hg : o.guard = none) (m x v : Operand) (hop : o.op = Op.insert 55 m x v) (b n : Nat) (f : ByteArray → Option Value) (hm : a.eval m = .map (some b)) (h : MapR w b n f) (hn : n < maxLen) (k : ByteArray) (hx : a.eval x = .string k) (hk : k.size ≤ maxLen)
  (s : Value) (hv : a.eval v = s) (hK : ∀ w', MapR w' b (n + 1) (mput f k s) → w.grownBy w' (some b) → w'.heap.size = w.heap.size → wpList Tryz.prog ops Q rest (a.put o.dst undef) w') : wpList Tryz.prog ops Q (o :: rest) a w := by
 refine wpList_plain hg fun K' hK' => ?_
 obtain ⟨D, h1, h2⟩ := h
 obtain ⟨w', hrun, r1, r2⟩ := h1.store mk_law Tryz.underlying55 hn (mk_is hk) (show hR s = some (.held s, []) from rfl)
 have hsz : w'.heap.size = w.heap.size := by
  obtain ⟨es, clock, es', clock', hb, rfl⟩ := r2
  simp [setBlock]
 unfold Oper.wp
 simp [execOp, hop, hm, hx, hv, hrun, Result.andThen]
 exact hK' _ _ (hK w' ⟨_, r1, msees_put h1.isMap h2 k s⟩ r2.grown hsz)
end
end Go.Proofs.YtjbpkpfmgbhlpaaGreatDoor.Code
