/-
  The text of a query's node, and its tables' names, in plain words; the answers of layer 10's live question. No program is named here.
-/
import Derived.Test.YthpmgnfmeldkjaaGreatDoorSm6
import Derived.Test.YthpmgnfmeldkjaaGreatDoorSm5
import Derived.Test.YthpmgnfmeldkjaaGreatDoorSm2
import Derived.Deep.RegionLaw
import Derived.Lib.SlicesCompact
set_option maxRecDepth 100000
set_option maxHeartbeats 16000000
set_option linter.unusedVariables false
set_option linter.unusedSimpArgs false
open Go.Lib (hid)
namespace Go.Proofs.YthpmgnfmeldkjaaGreatDoor.Code
open Val
def nthN (l : List Nod) (k : Nat) : Nod := l.getD k zeroN
mutual
def leavesQ : Nod → List (List UInt8)
 | .mk o t ks => (if o = sFrom then [t] else []) ++ leavessQ ks
def leavessQ : List Nod → List (List UInt8)
 | [] => []
 | n :: l => leavesQ n ++ leavessQ l
end
theorem leavessQ_take (l : List Nod) (i : Nat) (h : i < l.length) : leavessQ (l.take (i + 1)) = leavessQ (l.take i) ++ leavesQ l[i] := by
 induction l generalizing i with
 | nil => exact absurd h (Nat.not_lt_zero _)
 | cons n l ih =>
  cases i with
  | zero => simp [leavessQ]
  | succ i =>
   simp only [List.take_succ_cons, leavessQ, List.getElem_cons_succ]
   rw [ih i (by simpa using h), List.append_assoc]
inductive Pl where
 | mk (op tab : List UInt8) (ex : List Nod) (on : List (Int × Int)) (by' : List Int) (ag : List (List UInt8 × Int)) (cols : List W) (ks : List Pl)
def Pl.op : Pl → List UInt8
 | .mk o _ _ _ _ _ _ _ => o
def Pl.cols : Pl → List W
 | .mk _ _ _ _ _ _ c _ => c
def Pl.ks : Pl → List Pl
 | .mk _ _ _ _ _ _ _ k => k
def zeroP : Pl := .mk [] [] [] [] [] [] [] []
abbrev Tab := List UInt8 × List W
def numberedP (l : List W) : List W := l.mapIdx fun i c => ((i : Int) + 1, c.2.1, c.2.2)
def twiceC : List W → Bool
 | [] => false
 | c :: l => (l.any fun x => x.2.1 == c.2.1) || twiceC l
def lastP (cols : List W) (lv : Nat) : Int :=
 if 4 < lv then 62 else if (cols.all fun c => nameC c.2.1) = false then 1 else if twiceC cols = true then 122 else if 12 < cols.length then 62 else 0
def projectP (cols : List W) : List Nod → List W × Int
 | [] => ([], 0)
 | t :: l => if (typeE cols (nthN t.ks 0)).2 ≠ 0 then ([], (typeE cols (nthN t.ks 0)).2) else if (typeE cols (nthN t.ks 0)).1 = 0 then ([], 131) else
  if (projectP cols l).2 ≠ 0 then ([], (projectP cols l).2) else ((0, t.tx, (typeE cols (nthN t.ks 0)).1) :: (projectP cols l).1, 0)
def joinP (a b : List W) : List Nod → List (Int × Int) × Int
 | [] => ([], 0)
 | t :: l => match findC a t.tx, findC b (nthN t.ks 0).tx with
  | some x, some y => if (a.getD x (0, [], 0)).2.2 ≠ (b.getD y (0, [], 0)).2.2 then ([], 131) else if (joinP a b l).2 ≠ 0 then ([], (joinP a b l).2) else (((x : Int), (y : Int)) :: (joinP a b l).1, 0)
  | _, _ => ([], 121)
def byP (cols : List W) : List Nod → List Int × List W × Int
 | [] => ([], [], 0)
 | t :: l => match findC cols t.tx with
  | none => ([], [], 121)
  | some k => if (byP cols l).2.2 ≠ 0 then ([], [], (byP cols l).2.2) else ((k : Int) :: (byP cols l).1, cols.getD k (0, [], 0) :: (byP cols l).2.1, 0)
def aggP (cols : List W) (fn : Nod) : Int × Int × Int :=
 if fn.op = sCount then (0, 3, 0) else match findC cols fn.tx with
  | none => (0, 0, 121)
  | some k => if fn.op = sSum then (if (cols.getD k (0, [], 0)).2.2 ≠ 2 ∧ (cols.getD k (0, [], 0)).2.2 ≠ 3 then (0, 0, 131) else ((k : Int), 3, 0)) else ((k : Int), (cols.getD k (0, [], 0)).2.2, 0)
def aggsP (cols : List W) : List Nod → List (List UInt8 × Int) × List W × Int
 | [] => ([], [], 0)
 | t :: l => if (aggP cols (nthN t.ks 0)).2.2 ≠ 0 then ([], [], (aggP cols (nthN t.ks 0)).2.2) else if (aggsP cols l).2.2 ≠ 0 then ([], [], (aggsP cols l).2.2) else
  (((nthN t.ks 0).op, (aggP cols (nthN t.ks 0)).1) :: (aggsP cols l).1, (0, t.tx, (aggP cols (nthN t.ks 0)).2.1) :: (aggsP cols l).2.1, 0)
def ownP (tabs : List Tab) (op tx : List UInt8) (ks : List Nod) (ps : List Pl) : Pl × Int :=
 let c0 := (ps.headD zeroP).cols
 if op = sFrom then (match tabs.find? fun t => t.1 == tx with | some t => (.mk op tx [] [] [] [] t.2 ps, 0) | none => (zeroP, 121))
 else if op = sFilter then (let k := typeE c0 (nthN ks 1); (.mk op [] [nthN ks 1] [] [] [] c0 ps, if k.2 ≠ 0 then k.2 else if k.1 = 1 ∨ k.1 = 0 then 0 else 131))
 else if op = sProject then (.mk op [] ((ks.drop 1).map fun t => nthN t.ks 0) [] [] [] (projectP c0 (ks.drop 1)).1 ps, (projectP c0 (ks.drop 1)).2)
 else if op = sJoin then (let b := (ps.getD 1 zeroP).cols; (.mk op [] [] (joinP c0 b (ks.drop 2)).1 [] [] (c0 ++ b) ps, (joinP c0 b (ks.drop 2)).2))
 else if op = sUnion then (.mk op [] [] [] [] [] c0 ps, if (ps.all fun p => kindsC p.cols == kindsC c0) = true then 0 else 131)
 else if op = sGroup then (let b := byP c0 (nthN ks 1).ks; let a := aggsP c0 (ks.drop 2); (.mk op [] [] [] b.1 a.1 (b.2.1 ++ a.2.1) ps, if b.2.2 ≠ 0 then b.2.2 else a.2.2))
 else (.mk op [] [] [] [] [] c0 ps, 0)
def queriesN (op : List UInt8) (n : Nat) : Nat := if op = sJoin then 2 else if op = sUnion then n else if op ∈ [sFilter, sProject, sDistinct, sGroup] then 1 else 0
open Go.ChangeShapes Go.WideShapes Go.ChangeAt Go.RowKit Elems
def AtS {α : Type} (c : α → List Value) (k : Nat) (w : World) (S : Nat → Prop) (A : Option Addr) (l : List α) : Prop :=
 ∀ (i : Nat) (h : i < l.length), ∃ ad : Addr, A = some ad ∧ S ad.block ∧ ∀ (j : Nat) (u : Value), (c l[i])[j]? = some u → w.cell? (ad.add (i * k + j)) = some u
section
variable {α : Type} {c : α → List Value} {k : Nat}
theorem AtS.keep {w w' : World} {S S' : Nat → Prop} {A : Option Addr} {l : List α} (h : AtS c k w S A l) (hS : ∀ g, S g → S' g) (hk : ∀ p : Addr, S p.block → w'.cell? p = w.cell? p) : AtS c k w' S' A l := by
 intro i hi
 obtain ⟨ad, e, hs, h0⟩ := h i hi
 exact ⟨ad, e, hS _ hs, fun j u hu => (hk _ (by rw [add_block]; exact hs)).trans (h0 j u hu)⟩
theorem AtS.at {w : World} {S : Nat → Prop} {A : Option Addr} {l : List α} (h : AtS c k w S A l) {B : Nat} (hB : ∀ g, S g → g < B) : At c k w B A l := by
 intro i hi
 obtain ⟨ad, e, hs, h0⟩ := h i hi
 exact ⟨ad, e, hB _ hs, h0⟩
theorem AtS.nil (w : World) (S : Nat → Prop) (A : Option Addr) : AtS c k w S A ([] : List α) := fun i hi => absurd hi (Nat.not_lt_zero _)
theorem AtS.of {w : World} {B : Nat} {A : Option Addr} {l : List α} (h : At c k w B A l) {S : Nat → Prop} (hS : ∀ ad, A = some ad → 0 < l.length → S ad.block) : AtS c k w S A l := by
 intro i hi
 obtain ⟨ad, e, hb, h0⟩ := h i hi
 exact ⟨ad, e, hS ad e (by omega), h0⟩
theorem own_ats (hk : ∀ x, (c x).length = k) {w : World} {B : Nat} {e : TypeId} {v : Value} {l : List α} (h : w.ownsRow B e k v l.length (flatC c l)) : ∃ A cap, v = .slice A l.length cap ∧ AtS c k w (fun g => B ≤ g ∧ g < w.heap.size) A l ∧ l.length ≤ cap := by
 obtain ⟨A, cap, e, hat⟩ := own_at hk h
 have hcp : l.length ≤ cap := by
  rcases h.2 with ⟨hv, hz⟩ | ⟨g, cap', cur, hv, _, _, hle, _⟩
  ·rw [hz]; exact Nat.zero_le _
  ·rw [hv] at e
   injection e with _ _ e
   rw [← e]
   exact hle
 refine ⟨A, cap, e, AtS.of hat (fun ad hA hpos => ?_), hcp⟩
 obtain ⟨g, cap', hv, hg, hlt⟩ := h.form hpos
 rw [hv] at e
 injection e with e _
 rw [hA] at e
 injection e with e
 subst e
 exact ⟨hg, hlt⟩
end
def oc (x : Int × Int) : List Value := [.int .i64 x.1, .int .i64 x.2]
def ac (x : List UInt8 × Int) : List Value := [.string ⟨x.1.toArray⟩, .int .i64 x.2]
theorem oc_length (x : Int × Int) : (oc x).length = 2 := rfl
theorem ac_length (x : List UInt8 × Int) : (ac x).length = 2 := rfl
abbrev Sl := Option Addr × Nat × Nat
def sv (x : Sl) : Value := .slice x.1 x.2.1 x.2.2
structure PV where
 op : ByteArray
 tab : ByteArray
 co : Sl
 ki : Sl
 ex : Sl
 on : Sl
 bk : Sl
 ag : Sl
def pc (x : PV) : List Value := [.string x.op, .string x.tab, sv x.co, sv x.ki, sv x.ex, sv x.on, sv x.bk, sv x.ag]
theorem pc_length (x : PV) : (pc x).length = 8 := rfl
theorem pc_one : ∀ x, ∀ u ∈ pc x, u.oneCell' = true := by
 intro x u hu
 simp [pc, sv] at hu
 rcases hu with rfl | rfl | rfl | rfl | rfl | rfl | rfl | rfl <;> rfl
def zSl : Sl := (none, 0, 0)
def zPV : PV := ⟨⟨#[]⟩, ⟨#[]⟩, zSl, zSl, zSl, zSl, zSl, zSl⟩
def Pl.tab : Pl → List UInt8
 | .mk _ t _ _ _ _ _ _ => t
def Pl.ex : Pl → List Nod
 | .mk _ _ e _ _ _ _ _ => e
def Pl.on : Pl → List (Int × Int)
 | .mk _ _ _ n _ _ _ _ => n
def Pl.bk : Pl → List Int
 | .mk _ _ _ _ b _ _ _ => b
def Pl.ag : Pl → List (List UInt8 × Int)
 | .mk _ _ _ _ _ a _ _ => a
structure PRest (w : World) (S : Nat → Prop) (p : Pl) (x : PV) : Prop where
 op : x.op = ⟨p.op.toArray⟩
 tab : x.tab = ⟨p.tab.toArray⟩
 lex : x.ex.2.1 = p.ex.length
 lon : x.on.2.1 = p.on.length
 lbk : x.bk.2.1 = p.bk.length
 lag : x.ag.2.1 = p.ag.length
 ex : NLs w S x.ex.1 p.ex
 on : AtS oc 2 w S x.on.1 p.on
 bk : AtS kc 1 w S x.bk.1 p.bk
 ag : AtS ac 2 w S x.ag.1 p.ag
theorem PRest.keep {w w' : World} {S S' : Nat → Prop} {p : Pl} {x : PV} (h : PRest w S p x) (hS : ∀ g, S g → S' g) (hk : ∀ p : Addr, S p.block → w'.cell? p = w.cell? p) : PRest w' S' p x :=
 ⟨h.op, h.tab, h.lex, h.lon, h.lbk, h.lag, h.ex.keep hS hk, h.on.keep hS hk, h.bk.keep hS hk, h.ag.keep hS hk⟩
inductive PIn (w : World) (S : Nat → Prop) : Pl → PV → Prop
 | mk (op tab : List UInt8) (ex : List Nod) (on : List (Int × Int)) (bk : List Int) (ag : List (List UInt8 × Int)) (cols : List W) (ks : List Pl) (x : PV) (l : List PV)
   (hr : PRest w S (.mk op tab ex on bk ag [] []) x) (hlc : x.co.2.1 = cols.length) (hco : AtS wc 3 w S x.co.1 cols)
   (hlk : x.ki.2.1 = ks.length) (hl : l.length = ks.length) (hki : AtS pc 8 w S x.ki.1 l) (hks : ∀ (i : Nat) (h : i < ks.length), PIn w S ks[i] (l[i]'(by omega))) :
   PIn w S (.mk op tab ex on bk ag cols ks) x
theorem PIn.keep {w w' : World} {S S' : Nat → Prop} (hS : ∀ g, S g → S' g) (hk : ∀ p : Addr, S p.block → w'.cell? p = w.cell? p) {p : Pl} {x : PV} (h : PIn w S p x) : PIn w' S' p x := by
 induction h with
 | mk op tab ex on bk ag cols ks x l hr hlc hco hlk hl hki hks ih => exact .mk op tab ex on bk ag cols ks x l (hr.keep hS hk) hlc (hco.keep hS hk) hlk hl (hki.keep hS hk) ih
theorem PIn.imp {w : World} {S S' : Nat → Prop} {p : Pl} {x : PV} (h : PIn w S p x) (hS : ∀ g, S g → S' g) : PIn w S' p x := h.keep hS (fun _ _ => rfl)
theorem PIn.bel {w w' : World} {S : Nat → Prop} {p : Pl} {x : PV} (h : PIn w S p x) (hS : ∀ g, S g → g < w.heap.size) (hb : Below w.heap.size w w') : PIn w' S p x := h.keep (fun _ h => h) (fun p hp => hb.cell (hS _ hp))
theorem PIn.rest {w : World} {S : Nat → Prop} {p : Pl} {x : PV} (h : PIn w S p x) : PRest w S p x := by
 cases h with
 | mk op tab ex on bk ag cols ks x l hr hlc hco hlk hl hki hks => exact ⟨hr.op, hr.tab, hr.lex, hr.lon, hr.lbk, hr.lag, hr.ex, hr.on, hr.bk, hr.ag⟩
theorem PIn.cols {w : World} {S : Nat → Prop} {p : Pl} {x : PV} (h : PIn w S p x) : x.co.2.1 = p.cols.length ∧ AtS wc 3 w S x.co.1 p.cols := by
 cases h with
 | mk op tab ex on bk ag cols ks x l hr hlc hco hlk hl hki hks => exact ⟨hlc, hco⟩
theorem PIn.kids {w : World} {S : Nat → Prop} {p : Pl} {x : PV} (h : PIn w S p x) : x.ki.2.1 = p.ks.length := by
 cases h with
 | mk op tab ex on bk ag cols ks x l hr hlc hco hlk hl hki hks => exact hlk
def PAll (w : World) (S : Nat → Prop) (ks : List Pl) (l : List PV) : Prop := l.length = ks.length ∧ ∀ (i : Nat) (h : i < ks.length) (h' : i < l.length), PIn w S ks[i] l[i]
theorem PAll.keep {w w' : World} {S S' : Nat → Prop} {ks : List Pl} {l : List PV} (h : PAll w S ks l) (hS : ∀ g, S g → S' g) (hk : ∀ p : Addr, S p.block → w'.cell? p = w.cell? p) : PAll w' S' ks l := ⟨h.1, fun i hi hi' => (h.2 i hi hi').keep hS hk⟩
theorem PAll.nil (w : World) (S : Nat → Prop) : PAll w S [] [] := ⟨rfl, fun i h => absurd h (Nat.not_lt_zero _)⟩
theorem PAll.snoc {w : World} {S : Nat → Prop} {ks : List Pl} {l : List PV} (h : PAll w S ks l) {t : Pl} {x : PV} (hx : PIn w S t x) : PAll w S (ks ++ [t]) (l ++ [x]) := by
 refine ⟨by simp [h.1], fun i hi hi' => ?_⟩
 by_cases hlt : i < ks.length
 ·rw [List.getElem_append_left hlt, List.getElem_append_left (by rw [h.1]; exact hlt)]
  exact h.2 i hlt _
 ·obtain rfl : i = ks.length := by simp at hi; omega
  rw [List.getElem_append_right (Nat.le_refl _), List.getElem_append_right (by rw [h.1]; exact Nat.le_refl _)]
  simp only [Nat.sub_self, h.1, List.getElem_singleton]
  exact hx
theorem PIn.all {w : World} {S : Nat → Prop} {p : Pl} {x : PV} (h : PIn w S p x) : ∃ l, PAll w S p.ks l ∧ AtS pc 8 w S x.ki.1 l := by
 cases h with
 | mk op tab ex on bk ag cols ks x l hr hlc hco hlk hl hki hks => exact ⟨l, ⟨hl, fun i hi _ => hks i hi⟩, hki⟩
theorem pl_at {w : World} {S : Nat → Prop} {A : Option Addr} {ks : List Pl} {l : List PV} (ha : PAll w S ks l) (hk : AtS pc 8 w S A l) (k : Nat) (h : k < ks.length) : ∃ (ad : Addr) (y : PV), A = some ad ∧ S ad.block ∧ w.cell? (ad.add (k * 8)) = some (.string y.op) ∧ (∀ j u, (pc y)[j + 1]? = some u → w.cell? ⟨(ad.add (k * 8)).block, (ad.add (k * 8)).off + (j + 1), none⟩ = some u) ∧ PIn w S ks[k] y := by
 have hl : k < l.length := by rw [ha.1]; exact h
 obtain ⟨ad, e, hs, h0⟩ := hk k hl
 exact ⟨ad, l[k], e, hs, h0 0 _ rfl, fun j u hu => by rw [← add_next]; exact h0 _ u hu, ha.2 k h hl⟩
theorem PIn.kid {w : World} {S : Nat → Prop} {p : Pl} {x : PV} (h : PIn w S p x) (k : Nat) (hk : k < p.ks.length) : ∃ (ad : Addr) (y : PV), x.ki.1 = some ad ∧ S ad.block ∧ w.cell? (ad.add (k * 8)) = some (.string y.op) ∧ (∀ j u, (pc y)[j + 1]? = some u → w.cell? ⟨(ad.add (k * 8)).block, (ad.add (k * 8)).off + (j + 1), none⟩ = some u) ∧ PIn w S p.ks[k] y := by
 obtain ⟨l, ha, hk'⟩ := h.all
 exact pl_at ha hk' k hk
structure PBox (w : World) (g : Nat) (x : PV) : Prop where
 c0 : w.cell? ⟨g, 0, none⟩ = some (.string x.op)
 c1 : w.cell? ⟨g, 1, none⟩ = some (.string x.tab)
 c2 : w.cell? ⟨g, 2, none⟩ = some (.slice x.co.1 x.co.2.1 x.co.2.2)
 c3 : w.cell? ⟨g, 3, none⟩ = some (.slice x.ki.1 x.ki.2.1 x.ki.2.2)
 c4 : w.cell? ⟨g, 4, none⟩ = some (.slice x.ex.1 x.ex.2.1 x.ex.2.2)
 c5 : w.cell? ⟨g, 5, none⟩ = some (.slice x.on.1 x.on.2.1 x.on.2.2)
 c6 : w.cell? ⟨g, 6, none⟩ = some (.slice x.bk.1 x.bk.2.1 x.bk.2.2)
 c7 : w.cell? ⟨g, 7, none⟩ = some (.slice x.ag.1 x.ag.2.1 x.ag.2.2)
 fr : ∀ j, w.frozen? ⟨g, j, none⟩ = false
theorem PBox.lt {w : World} {g : Nat} {x : PV} (h : PBox w g x) : g < w.heap.size := World.block_lt_of_cell? _ _ h.c0
theorem PBox.keep {w w' : World} {g : Nat} {x : PV} (h : PBox w g x) (hb : w'.heap[g]? = w.heap[g]?) : PBox w' g x := by
 have hc : ∀ j, w'.cell? ⟨g, j, none⟩ = w.cell? ⟨g, j, none⟩ := fun j => by unfold World.cell?; simp only [hb]
 have hf : ∀ j, w'.frozen? ⟨g, j, none⟩ = w.frozen? ⟨g, j, none⟩ := fun j => by unfold World.frozen?; simp only [hb]
 exact ⟨(hc 0).trans h.c0, (hc 1).trans h.c1, (hc 2).trans h.c2, (hc 3).trans h.c3, (hc 4).trans h.c4, (hc 5).trans h.c5, (hc 6).trans h.c6, (hc 7).trans h.c7, fun j => (hf j).trans (h.fr j)⟩
theorem PBox.below {w w' : World} {g : Nat} {x : PV} (h : PBox w g x) (hb : Below w.heap.size w w') : PBox w' g x := h.keep (hb.block g h.lt)
theorem PBox.alloc {w : World} {g : Nat} {x : PV} (h : PBox w g x) (o : Obj) : PBox (w.alloc o) g x := h.below (below_alloc w o)
theorem take_fill (D : List ByteArray) (k : Nat) (h : k < D.length) : (D.take k ++ List.replicate (D.length - k) ByteArray.empty).set k D[k] = D.take (k + 1) ++ List.replicate (D.length - (k + 1)) ByteArray.empty := by
 have e := sfill_set (D.take k) (D.length - k) (by omega) D[k]
 rw [List.length_take_of_le (Nat.le_of_lt h), Nat.sub_sub] at e
 rw [e, List.take_succ_eq_append_getElem h]
def TxPost (w : World) (D : List ByteArray) (e : Ending) (w' : World) : Prop := e = .returned (.slice (some ⟨w.heap.size, 0, none⟩) D.length D.length) ∧ SBlk w' w.heap.size D ∧ Below w.heap.size w w'
theorem textsC_any (fn : Nat) (en : ∀ args w, (callFunc fn args).run Tryz.prog w = .ok (.enter fn args) w) (cps : Array Value) (D : List ByteArray) (A : Option Addr) (cap : Nat) (l : List W) (w : World) (hv : At wc 3 w w.heap.size A l) (hl : l.length ≤ 4194304) (hD : D.length = l.length)
  (ha : ∀ (i : Nat) (hi : i < l.length) (hi' : i < D.length)  (w' : World), Below w.heap.size w w' →  Calls Tryz.prog fn (#[.agg #[.int .i64 l[i].1, .string ⟨l[i].2.1.toArray⟩, .int .i64 l[i].2.2]] ++ cps) w' fun e w'' => e = .returned (.string D[i]) ∧ Below w'.heap.size w' w'') :
  Calls Tryz.prog 99 #[.slice A l.length cap, .func (.func fn) #[] cps] w (TxPost w D) := by
 have HV := hid hv
 have HA := hid ha
 have HD := hid hD
 unfold TxPost
 rw [hD]
 clear hv ha hD
 obtain ⟨i0, hi0, hz0, hz1, hz2⟩ := info_parts info_str
 go_enter Tryz.func99, Tryz.ntmps99
 go_wp2_with (at_make; refine wpList_make_strs _ rfl _ _ 43 rfl 9 i0 Tryz.underlying43 hi0 hz0 hz1 hz2 _ _ _ _ l.length rfl rfl rfl rfl (by omega) ?_)
 have HB0 := hid (SBlk.fresh w l.length)
 have HL0 := hid (below_alloc w (.cells (Array.replicate l.length (Value.string ByteArray.empty)) 9))
 go_wp2
 go_loopw [13] (fun i wr => ∃ k : Nat, k ≤ l.length ∧ i = .int .i64 k ∧ SBlk wr w.heap.size (D.take k ++ List.replicate (D.length - k) ByteArray.empty) ∧ Below w.heap.size w wr) (fun i _ => l.length - (intOf i).toNat)
 case atStart => exact ⟨0, by omega, rfl, by simpa [HD.out] using HB0.out, HL0.out⟩
 case round =>
  obtain ⟨k, hk, rfl, hblk, hbel⟩ := hrel
  have hsz := hbel.size
  have hlt := hblk.lt
  have HL := hid hbel
  have HB := hid hblk
  have VA := hid (HV.out.below hbel)
  clear hbel hblk
  by_cases hkl : k < l.length
  ·have hkD : k < D.length := by rw [HD.out]; exact hkl
   obtain ⟨ad, rfl, ga, c0, c1, c2⟩ := at_word VA.out k hkl
   have HE := hid (take_fill D k hkD)
   obtain ⟨w6, hw6⟩ : ∃ w6, wr.alloc (.cells #[.int .i64 l[k].1, .string ⟨l[k].2.1.toArray⟩, .int .i64 l[k].2.2] 54) = w6 := ⟨_, rfl⟩
   have z6 : w6.heap.size = wr.heap.size + 1 := by rw [← hw6]; simp
   have B6 := hid (show Below wr.heap.size wr w6 by rw [← hw6]; exact below_alloc wr _)
   have v0 : w6.cell? ⟨wr.heap.size, 0, none⟩ = some (.int .i64 l[k].1) := by rw [← hw6]; simp [go_sem]
   have v1 : w6.cell? ⟨wr.heap.size, 1, none⟩ = some (.string ⟨l[k].2.1.toArray⟩) := by rw [← hw6]; simp [go_sem]
   have v2 : w6.cell? ⟨wr.heap.size, 2, none⟩ = some (.int .i64 l[k].2.2) := by rw [← hw6]; simp [go_sem]
   have L6 := hid (HL.out.trans (B6.out.mono hsz))
   have HB6 := hid (HB.out.call B6.out)
   have HC := hid (HA.out k hkl hkD  w6 L6.out)
   obtain ⟨y, b0⟩ : ∃ y, w6.cell? ⟨w.heap.size, k, none⟩ = some (.string y) := by
    have hlen : k < (D.take k ++ List.replicate (D.length - k) ByteArray.empty).length := by rw [List.length_append, List.length_take_of_le (Nat.le_of_lt hkD), List.length_replicate]; omega
    exact ⟨_, HB6.out.cell k _ (List.getElem?_eq_getElem hlen)⟩
   have hlt6 := HB6.out.lt
   obtain ⟨T, hT⟩ : ∃ T, D[k] = T := ⟨_, rfl⟩
   rw [hT] at HC HE
   have HR := hid (fun (w7 : World) (hb : Below w6.heap.size w6 w7) => show SBlk (w7.setCell ⟨w.heap.size, k, none⟩ (.string T)) w.heap.size (D.take (k + 1) ++ List.replicate (D.length - (k + 1)) ByteArray.empty) from HE.out ▸ (HB6.out.call hb).set k T)
   have HFR := hid (fun (w7 : World) (hb : Below w6.heap.size w6 w7) => (HB6.out.call hb).free k)
   clear hT HE
   have HW6 := hid hw6
   clear hw6
   go_upto_region 5 with fail
   rw [HW6.out]
   clear c0 c1 c2
   go_wp2_with fail
   refine HC.out.mono ?_
   rintro e w7 ⟨rfl, hb7⟩
   have L7 := hid (L6.out.trans (hb7.mono (by omega)))
   have b1 := (hb7.cell (p := ⟨w.heap.size, k, none⟩) hlt6).trans b0
   have f1 := HFR.out w7 hb7
   have HR7 := hid (HR.out w7 hb7)
   clear hb7 HR HFR HC b0 v0 v1 v2
   go_wp2
   go_roundw
   case rel => exact ⟨k + 1, by omega, by go_num, HR7.out, L7.out.setCell (p := ⟨w.heap.size, k, none⟩) (Nat.le_refl _) _⟩
   case measure => simp [intOf]; omega
  ·obtain rfl : k = l.length := by omega
   have HB2 := hid (show SBlk wr w.heap.size D by have h := HB.out; rw [← HD.out, List.take_length, Nat.sub_self, List.replicate_zero, List.append_nil] at h; exact h)
   go_wp2
   go_ret
   exact ⟨rfl, HB2.out, HL.out⟩
theorem textsN_any (fn : Nat) (en : ∀ args w, (callFunc fn args).run Tryz.prog w = .ok (.enter fn args) w) (cps : Array Value) (D : List ByteArray) (A : Option Addr) (cap : Nat) (l : List Nod) (S : Nat → Prop) (w : World) (hS : ∀ g, S g → g < w.heap.size) (hv : NLs w S A l) (hl : l.length ≤ 4194304) (hD : D.length = l.length)
  (ha : ∀ (i : Nat) (hi : i < l.length) (hi' : i < D.length) (op tx : ByteArray) (X : Option Addr) (n m : Nat) (w' : World), Below w.heap.size w w' → RIn w' S l[i] (op, tx, X, n, m) → Calls Tryz.prog fn (#[.agg #[.string op, .string tx, .slice X n m]] ++ cps) w' fun e w'' => e = .returned (.string D[i]) ∧ Below w'.heap.size w' w'') :
  Calls Tryz.prog 116 #[.slice A l.length cap, .func (.func fn) #[] cps] w (TxPost w D) := by
 have HV := hid hv
 have HA := hid ha
 have HD := hid hD
 have HS := hid hS
 unfold TxPost
 rw [hD]
 clear hv ha hD
 clear hS
 obtain ⟨i0, hi0, hz0, hz1, hz2⟩ := info_parts info_str
 go_enter Tryz.func116, Tryz.ntmps116
 go_wp2_with (at_make; refine wpList_make_strs _ rfl _ _ 43 rfl 9 i0 Tryz.underlying43 hi0 hz0 hz1 hz2 _ _ _ _ l.length rfl rfl rfl rfl (by omega) ?_)
 have HB0 := hid (SBlk.fresh w l.length)
 have HL0 := hid (below_alloc w (.cells (Array.replicate l.length (Value.string ByteArray.empty)) 9))
 go_wp2
 go_loopw [13] (fun i wr => ∃ k : Nat, k ≤ l.length ∧ i = .int .i64 k ∧ SBlk wr w.heap.size (D.take k ++ List.replicate (D.length - k) ByteArray.empty) ∧ Below w.heap.size w wr) (fun i _ => l.length - (intOf i).toNat)
 case atStart => exact ⟨0, by omega, rfl, by simpa [HD.out] using HB0.out, HL0.out⟩
 case round =>
  obtain ⟨k, hk, rfl, hblk, hbel⟩ := hrel
  have hsz := hbel.size
  have hlt := hblk.lt
  have HL := hid hbel
  have HB := hid hblk
  have VA := hid (HV.out.bel HS.out hbel)
  clear hbel hblk
  by_cases hkl : k < l.length
  ·have hkD : k < D.length := by rw [HD.out]; exact hkl
   obtain ⟨ad, ⟨yo, yt, yX, yn, ym⟩, rfl, ga, c0, c1, c2, hr⟩ := VA.out k hkl
   dsimp only at c0 c1 c2
   have HE := hid (take_fill D k hkD)
   obtain ⟨w6, hw6⟩ : ∃ w6, wr.alloc (.cells #[.string yo, .string yt, .slice yX yn ym] 24) = w6 := ⟨_, rfl⟩
   have z6 : w6.heap.size = wr.heap.size + 1 := by rw [← hw6]; simp
   have B6 := hid (show Below wr.heap.size wr w6 by rw [← hw6]; exact below_alloc wr _)
   have v0 : w6.cell? ⟨wr.heap.size, 0, none⟩ = some (.string yo) := by rw [← hw6]; simp [go_sem]
   have v1 : w6.cell? ⟨wr.heap.size, 1, none⟩ = some (.string yt) := by rw [← hw6]; simp [go_sem]
   have v2 : w6.cell? ⟨wr.heap.size, 2, none⟩ = some (.slice yX yn ym) := by rw [← hw6]; simp [go_sem]
   have L6 := hid (HL.out.trans (B6.out.mono hsz))
   have HB6 := hid (HB.out.call B6.out)
   have HC := hid (HA.out k hkl hkD yo yt yX yn ym w6 L6.out (hr.bel (fun g h => Nat.lt_of_lt_of_le (HS.out g h) hsz) B6.out))
   obtain ⟨y, b0⟩ : ∃ y, w6.cell? ⟨w.heap.size, k, none⟩ = some (.string y) := by
    have hlen : k < (D.take k ++ List.replicate (D.length - k) ByteArray.empty).length := by rw [List.length_append, List.length_take_of_le (Nat.le_of_lt hkD), List.length_replicate]; omega
    exact ⟨_, HB6.out.cell k _ (List.getElem?_eq_getElem hlen)⟩
   have hlt6 := HB6.out.lt
   obtain ⟨T, hT⟩ : ∃ T, D[k] = T := ⟨_, rfl⟩
   rw [hT] at HC HE
   have HR := hid (fun (w7 : World) (hb : Below w6.heap.size w6 w7) => show SBlk (w7.setCell ⟨w.heap.size, k, none⟩ (.string T)) w.heap.size (D.take (k + 1) ++ List.replicate (D.length - (k + 1)) ByteArray.empty) from HE.out ▸ (HB6.out.call hb).set k T)
   have HFR := hid (fun (w7 : World) (hb : Below w6.heap.size w6 w7) => (HB6.out.call hb).free k)
   clear hT HE
   have HW6 := hid hw6
   clear hw6
   go_upto_region 5 with fail
   rw [HW6.out]
   clear c0 c1 c2
   go_wp2_with fail
   refine HC.out.mono ?_
   rintro e w7 ⟨rfl, hb7⟩
   have L7 := hid (L6.out.trans (hb7.mono (by omega)))
   have b1 := (hb7.cell (p := ⟨w.heap.size, k, none⟩) hlt6).trans b0
   have f1 := HFR.out w7 hb7
   have HR7 := hid (HR.out w7 hb7)
   clear hb7 HR HFR HC b0 v0 v1 v2
   go_wp2
   go_roundw
   case rel => exact ⟨k + 1, by omega, by go_num, HR7.out, L7.out.setCell (p := ⟨w.heap.size, k, none⟩) (Nat.le_refl _) _⟩
   case measure => simp [intOf]; omega
  ·obtain rfl : k = l.length := by omega
   have HB2 := hid (show SBlk wr w.heap.size D by have h := HB.out; rw [← HD.out, List.take_length, Nat.sub_self, List.replicate_zero, List.append_nil] at h; exact h)
   go_wp2
   go_ret
   exact ⟨rfl, HB2.out, HL.out⟩
theorem textsP_any (fn : Nat) (en : ∀ args w, (callFunc fn args).run Tryz.prog w = .ok (.enter fn args) w) (cps : Array Value) (D : List ByteArray) (A : Option Addr) (cap : Nat) (l : List (Int × Int)) (w : World) (hv : At oc 2 w w.heap.size A l) (hl : l.length ≤ 4194304) (hD : D.length = l.length)
  (ha : ∀ (i : Nat) (hi : i < l.length) (hi' : i < D.length)  (w' : World), Below w.heap.size w w' →  Calls Tryz.prog fn (#[.agg #[.int .i64 l[i].1, .int .i64 l[i].2]] ++ cps) w' fun e w'' => e = .returned (.string D[i]) ∧ Below w'.heap.size w' w'') :
  Calls Tryz.prog 118 #[.slice A l.length cap, .func (.func fn) #[] cps] w (TxPost w D) := by
 have HV := hid hv
 have HA := hid ha
 have HD := hid hD
 unfold TxPost
 rw [hD]
 clear hv ha hD
 obtain ⟨i0, hi0, hz0, hz1, hz2⟩ := info_parts info_str
 go_enter Tryz.func118, Tryz.ntmps118
 go_wp2_with (at_make; refine wpList_make_strs _ rfl _ _ 43 rfl 9 i0 Tryz.underlying43 hi0 hz0 hz1 hz2 _ _ _ _ l.length rfl rfl rfl rfl (by omega) ?_)
 have HB0 := hid (SBlk.fresh w l.length)
 have HL0 := hid (below_alloc w (.cells (Array.replicate l.length (Value.string ByteArray.empty)) 9))
 go_wp2
 go_loopw [13] (fun i wr => ∃ k : Nat, k ≤ l.length ∧ i = .int .i64 k ∧ SBlk wr w.heap.size (D.take k ++ List.replicate (D.length - k) ByteArray.empty) ∧ Below w.heap.size w wr) (fun i _ => l.length - (intOf i).toNat)
 case atStart => exact ⟨0, by omega, rfl, by simpa [HD.out] using HB0.out, HL0.out⟩
 case round =>
  obtain ⟨k, hk, rfl, hblk, hbel⟩ := hrel
  have hsz := hbel.size
  have hlt := hblk.lt
  have HL := hid hbel
  have HB := hid hblk
  have VA := hid (HV.out.below hbel)
  clear hbel hblk
  by_cases hkl : k < l.length
  ·have hkD : k < D.length := by rw [HD.out]; exact hkl
   obtain ⟨ad, rfl, ga, hc9⟩ := VA.out k hkl
   have c0 : wr.cell? (ad.add (k * 2)) = some (.int .i64 l[k].1) := hc9 0 _ rfl
   have c1 : wr.cell? ⟨(ad.add (k * 2)).block, (ad.add (k * 2)).off + 1, none⟩ = some (.int .i64 l[k].2) := by rw [← add_next]; exact hc9 1 _ rfl
   clear hc9
   have HE := hid (take_fill D k hkD)
   obtain ⟨w6, hw6⟩ : ∃ w6, wr.alloc (.cells #[.int .i64 l[k].1, .int .i64 l[k].2] 80) = w6 := ⟨_, rfl⟩
   have z6 : w6.heap.size = wr.heap.size + 1 := by rw [← hw6]; simp
   have B6 := hid (show Below wr.heap.size wr w6 by rw [← hw6]; exact below_alloc wr _)
   have v0 : w6.cell? ⟨wr.heap.size, 0, none⟩ = some (.int .i64 l[k].1) := by rw [← hw6]; simp [go_sem]
   have v1 : w6.cell? ⟨wr.heap.size, 1, none⟩ = some (.int .i64 l[k].2) := by rw [← hw6]; simp [go_sem]
   have L6 := hid (HL.out.trans (B6.out.mono hsz))
   have HB6 := hid (HB.out.call B6.out)
   have HC := hid (HA.out k hkl hkD  w6 L6.out)
   obtain ⟨y, b0⟩ : ∃ y, w6.cell? ⟨w.heap.size, k, none⟩ = some (.string y) := by
    have hlen : k < (D.take k ++ List.replicate (D.length - k) ByteArray.empty).length := by rw [List.length_append, List.length_take_of_le (Nat.le_of_lt hkD), List.length_replicate]; omega
    exact ⟨_, HB6.out.cell k _ (List.getElem?_eq_getElem hlen)⟩
   have hlt6 := HB6.out.lt
   obtain ⟨T, hT⟩ : ∃ T, D[k] = T := ⟨_, rfl⟩
   rw [hT] at HC HE
   have HR := hid (fun (w7 : World) (hb : Below w6.heap.size w6 w7) => show SBlk (w7.setCell ⟨w.heap.size, k, none⟩ (.string T)) w.heap.size (D.take (k + 1) ++ List.replicate (D.length - (k + 1)) ByteArray.empty) from HE.out ▸ (HB6.out.call hb).set k T)
   have HFR := hid (fun (w7 : World) (hb : Below w6.heap.size w6 w7) => (HB6.out.call hb).free k)
   clear hT HE
   have HW6 := hid hw6
   clear hw6
   go_upto_region 5 with fail
   rw [HW6.out]
   clear c0 c1
   go_wp2_with fail
   refine HC.out.mono ?_
   rintro e w7 ⟨rfl, hb7⟩
   have L7 := hid (L6.out.trans (hb7.mono (by omega)))
   have b1 := (hb7.cell (p := ⟨w.heap.size, k, none⟩) hlt6).trans b0
   have f1 := HFR.out w7 hb7
   have HR7 := hid (HR.out w7 hb7)
   clear hb7 HR HFR HC b0 v0 v1
   go_wp2
   go_roundw
   case rel => exact ⟨k + 1, by omega, by go_num, HR7.out, L7.out.setCell (p := ⟨w.heap.size, k, none⟩) (Nat.le_refl _) _⟩
   case measure => simp [intOf]; omega
  ·obtain rfl : k = l.length := by omega
   have HB2 := hid (show SBlk wr w.heap.size D by have h := HB.out; rw [← HD.out, List.take_length, Nat.sub_self, List.replicate_zero, List.append_nil] at h; exact h)
   go_wp2
   go_ret
   exact ⟨rfl, HB2.out, HL.out⟩
theorem textsI_any (fn : Nat) (en : ∀ args w, (callFunc fn args).run Tryz.prog w = .ok (.enter fn args) w) (cps : Array Value) (D : List ByteArray) (A : Option Addr) (cap : Nat) (l : List Int) (w : World) (hv : At kc 1 w w.heap.size A l) (hl : l.length ≤ 4194304) (hD : D.length = l.length)
  (ha : ∀ (i : Nat) (hi : i < l.length) (hi' : i < D.length)  (w' : World), Below w.heap.size w w' →  Calls Tryz.prog fn (#[.int .i64 l[i]] ++ cps) w' fun e w'' => e = .returned (.string D[i]) ∧ Below w'.heap.size w' w'') :
  Calls Tryz.prog 121 #[.slice A l.length cap, .func (.func fn) #[] cps] w (TxPost w D) := by
 have HV := hid hv
 have HA := hid ha
 have HD := hid hD
 unfold TxPost
 rw [hD]
 clear hv ha hD
 obtain ⟨i0, hi0, hz0, hz1, hz2⟩ := info_parts info_str
 go_enter Tryz.func121, Tryz.ntmps121
 go_wp2_with (at_make; refine wpList_make_strs _ rfl _ _ 43 rfl 9 i0 Tryz.underlying43 hi0 hz0 hz1 hz2 _ _ _ _ l.length rfl rfl rfl rfl (by omega) ?_)
 have HB0 := hid (SBlk.fresh w l.length)
 have HL0 := hid (below_alloc w (.cells (Array.replicate l.length (Value.string ByteArray.empty)) 9))
 go_wp2
 go_loopw [13] (fun i wr => ∃ k : Nat, k ≤ l.length ∧ i = .int .i64 k ∧ SBlk wr w.heap.size (D.take k ++ List.replicate (D.length - k) ByteArray.empty) ∧ Below w.heap.size w wr) (fun i _ => l.length - (intOf i).toNat)
 case atStart => exact ⟨0, by omega, rfl, by simpa [HD.out] using HB0.out, HL0.out⟩
 case round =>
  obtain ⟨k, hk, rfl, hblk, hbel⟩ := hrel
  have hsz := hbel.size
  have hlt := hblk.lt
  have HL := hid hbel
  have HB := hid hblk
  have VA := hid (HV.out.below hbel)
  clear hbel hblk
  by_cases hkl : k < l.length
  ·have hkD : k < D.length := by rw [HD.out]; exact hkl
   obtain ⟨ad, rfl, ga, c0⟩ := at_kind VA.out k hkl
   rw [Nat.mul_one] at c0
   have HE := hid (take_fill D k hkD)
   obtain ⟨w6, hw6⟩ : ∃ w6, wr = w6 := ⟨_, rfl⟩
   have L6 := hid (hw6 ▸ HL.out)
   have HB6 := hid (hw6 ▸ HB.out)
   have z6 : w.heap.size ≤ w6.heap.size := hw6 ▸ hsz
   have HC := hid (HA.out k hkl hkD  w6 L6.out)
   obtain ⟨y, b0⟩ : ∃ y, w6.cell? ⟨w.heap.size, k, none⟩ = some (.string y) := by
    have hlen : k < (D.take k ++ List.replicate (D.length - k) ByteArray.empty).length := by rw [List.length_append, List.length_take_of_le (Nat.le_of_lt hkD), List.length_replicate]; omega
    exact ⟨_, HB6.out.cell k _ (List.getElem?_eq_getElem hlen)⟩
   have hlt6 := HB6.out.lt
   obtain ⟨T, hT⟩ : ∃ T, D[k] = T := ⟨_, rfl⟩
   rw [hT] at HC HE
   have HR := hid (fun (w7 : World) (hb : Below w6.heap.size w6 w7) => show SBlk (w7.setCell ⟨w.heap.size, k, none⟩ (.string T)) w.heap.size (D.take (k + 1) ++ List.replicate (D.length - (k + 1)) ByteArray.empty) from HE.out ▸ (HB6.out.call hb).set k T)
   have HFR := hid (fun (w7 : World) (hb : Below w6.heap.size w6 w7) => (HB6.out.call hb).free k)
   clear hT HE
   subst hw6
   go_wp2_with fail
   refine HC.out.mono ?_
   rintro e w7 ⟨rfl, hb7⟩
   have L7 := hid (L6.out.trans (hb7.mono (by omega)))
   have b1 := (hb7.cell (p := ⟨w.heap.size, k, none⟩) hlt6).trans b0
   have f1 := HFR.out w7 hb7
   have HR7 := hid (HR.out w7 hb7)
   clear hb7 HR HFR HC b0
   go_wp2
   go_roundw
   case rel => exact ⟨k + 1, by omega, by go_num, HR7.out, L7.out.setCell (p := ⟨w.heap.size, k, none⟩) (Nat.le_refl _) _⟩
   case measure => simp [intOf]; omega
  ·obtain rfl : k = l.length := by omega
   have HB2 := hid (show SBlk wr w.heap.size D by have h := HB.out; rw [← HD.out, List.take_length, Nat.sub_self, List.replicate_zero, List.append_nil] at h; exact h)
   go_wp2
   go_ret
   exact ⟨rfl, HB2.out, HL.out⟩
theorem textsA_any (fn : Nat) (en : ∀ args w, (callFunc fn args).run Tryz.prog w = .ok (.enter fn args) w) (cps : Array Value) (D : List ByteArray) (A : Option Addr) (cap : Nat) (l : List (List UInt8 × Int)) (w : World) (hv : At ac 2 w w.heap.size A l) (hl : l.length ≤ 4194304) (hD : D.length = l.length)
  (ha : ∀ (i : Nat) (hi : i < l.length) (hi' : i < D.length)  (w' : World), Below w.heap.size w w' →  Calls Tryz.prog fn (#[.agg #[.string ⟨l[i].1.toArray⟩, .int .i64 l[i].2]] ++ cps) w' fun e w'' => e = .returned (.string D[i]) ∧ Below w'.heap.size w' w'') :
  Calls Tryz.prog 122 #[.slice A l.length cap, .func (.func fn) #[] cps] w (TxPost w D) := by
 have HV := hid hv
 have HA := hid ha
 have HD := hid hD
 unfold TxPost
 rw [hD]
 clear hv ha hD
 obtain ⟨i0, hi0, hz0, hz1, hz2⟩ := info_parts info_str
 go_enter Tryz.func122, Tryz.ntmps122
 go_wp2_with (at_make; refine wpList_make_strs _ rfl _ _ 43 rfl 9 i0 Tryz.underlying43 hi0 hz0 hz1 hz2 _ _ _ _ l.length rfl rfl rfl rfl (by omega) ?_)
 have HB0 := hid (SBlk.fresh w l.length)
 have HL0 := hid (below_alloc w (.cells (Array.replicate l.length (Value.string ByteArray.empty)) 9))
 go_wp2
 go_loopw [13] (fun i wr => ∃ k : Nat, k ≤ l.length ∧ i = .int .i64 k ∧ SBlk wr w.heap.size (D.take k ++ List.replicate (D.length - k) ByteArray.empty) ∧ Below w.heap.size w wr) (fun i _ => l.length - (intOf i).toNat)
 case atStart => exact ⟨0, by omega, rfl, by simpa [HD.out] using HB0.out, HL0.out⟩
 case round =>
  obtain ⟨k, hk, rfl, hblk, hbel⟩ := hrel
  have hsz := hbel.size
  have hlt := hblk.lt
  have HL := hid hbel
  have HB := hid hblk
  have VA := hid (HV.out.below hbel)
  clear hbel hblk
  by_cases hkl : k < l.length
  ·have hkD : k < D.length := by rw [HD.out]; exact hkl
   obtain ⟨ad, rfl, ga, hc9⟩ := VA.out k hkl
   have c0 : wr.cell? (ad.add (k * 2)) = some (.string ⟨l[k].1.toArray⟩) := hc9 0 _ rfl
   have c1 : wr.cell? ⟨(ad.add (k * 2)).block, (ad.add (k * 2)).off + 1, none⟩ = some (.int .i64 l[k].2) := by rw [← add_next]; exact hc9 1 _ rfl
   clear hc9
   have HE := hid (take_fill D k hkD)
   obtain ⟨w6, hw6⟩ : ∃ w6, wr.alloc (.cells #[.string ⟨l[k].1.toArray⟩, .int .i64 l[k].2] 82) = w6 := ⟨_, rfl⟩
   have z6 : w6.heap.size = wr.heap.size + 1 := by rw [← hw6]; simp
   have B6 := hid (show Below wr.heap.size wr w6 by rw [← hw6]; exact below_alloc wr _)
   have v0 : w6.cell? ⟨wr.heap.size, 0, none⟩ = some (.string ⟨l[k].1.toArray⟩) := by rw [← hw6]; simp [go_sem]
   have v1 : w6.cell? ⟨wr.heap.size, 1, none⟩ = some (.int .i64 l[k].2) := by rw [← hw6]; simp [go_sem]
   have L6 := hid (HL.out.trans (B6.out.mono hsz))
   have HB6 := hid (HB.out.call B6.out)
   have HC := hid (HA.out k hkl hkD  w6 L6.out)
   obtain ⟨y, b0⟩ : ∃ y, w6.cell? ⟨w.heap.size, k, none⟩ = some (.string y) := by
    have hlen : k < (D.take k ++ List.replicate (D.length - k) ByteArray.empty).length := by rw [List.length_append, List.length_take_of_le (Nat.le_of_lt hkD), List.length_replicate]; omega
    exact ⟨_, HB6.out.cell k _ (List.getElem?_eq_getElem hlen)⟩
   have hlt6 := HB6.out.lt
   obtain ⟨T, hT⟩ : ∃ T, D[k] = T := ⟨_, rfl⟩
   rw [hT] at HC HE
   have HR := hid (fun (w7 : World) (hb : Below w6.heap.size w6 w7) => show SBlk (w7.setCell ⟨w.heap.size, k, none⟩ (.string T)) w.heap.size (D.take (k + 1) ++ List.replicate (D.length - (k + 1)) ByteArray.empty) from HE.out ▸ (HB6.out.call hb).set k T)
   have HFR := hid (fun (w7 : World) (hb : Below w6.heap.size w6 w7) => (HB6.out.call hb).free k)
   clear hT HE
   have HW6 := hid hw6
   clear hw6
   go_upto_region 5 with fail
   rw [HW6.out]
   clear c0 c1
   go_wp2_with fail
   refine HC.out.mono ?_
   rintro e w7 ⟨rfl, hb7⟩
   have L7 := hid (L6.out.trans (hb7.mono (by omega)))
   have b1 := (hb7.cell (p := ⟨w.heap.size, k, none⟩) hlt6).trans b0
   have f1 := HFR.out w7 hb7
   have HR7 := hid (HR.out w7 hb7)
   clear hb7 HR HFR HC b0 v0 v1
   go_wp2
   go_roundw
   case rel => exact ⟨k + 1, by omega, by go_num, HR7.out, L7.out.setCell (p := ⟨w.heap.size, k, none⟩) (Nat.le_refl _) _⟩
   case measure => simp [intOf]; omega
  ·obtain rfl : k = l.length := by omega
   have HB2 := hid (show SBlk wr w.heap.size D by have h := HB.out; rw [← HD.out, List.take_length, Nat.sub_self, List.replicate_zero, List.append_nil] at h; exact h)
   go_wp2
   go_ret
   exact ⟨rfl, HB2.out, HL.out⟩
end Go.Proofs.YthpmgnfmeldkjaaGreatDoor.Code
/-
  A name that two columns have: of the names in order two that stand side by side. No program is named here.
-/
namespace Go.Proofs.YthpmgnfmeldkjaaGreatDoor.Code
open Val
def sortL (L : List (List UInt8)) : List (List UInt8) := L.mergeSort fun x y => decide (x ≤ y)
theorem sort_perm (L : List (List UInt8)) : (sortL L).Perm L := List.mergeSort_perm ..
theorem sort_len (L : List (List UInt8)) : (sortL L).length = L.length := (sort_perm L).length_eq
theorem sort_rise (L : List (List UInt8)) : (sortL L).Pairwise fun x y => x ≤ y := by
 have h := List.pairwise_mergeSort (le := fun x y : List UInt8 => decide (x ≤ y)) (fun a b c h1 h2 => by simp only [decide_eq_true_eq] at *; exact List.le_trans h1 h2) (fun a b => by
  rcases List.le_total a b with h | h
  ·simp [h]
  ·simp [h]) L
 exact h.imp fun h => by simpa using h
theorem comp_len (zs : List (List UInt8)) : (Lib.compact zs).length = ((List.range zs.length).filter (Lib.keeps zs.toArray)).length := by
 unfold Lib.compact Lib.compactUpTo
 rw [List.length_map]
theorem comp_full {zs : List (List UInt8)} (h : ¬ (Lib.compact zs).length < zs.length) : ∀ j, j < zs.length → Lib.keeps zs.toArray j = true := by
 intro j hj
 cases hk : Lib.keeps zs.toArray j with
 | true => rfl
 | false =>
  exfalso
  apply h
  rw [comp_len]
  have : ((List.range zs.length).filter (Lib.keeps zs.toArray)).length < (List.range zs.length).length := by
   rw [List.length_filter_lt_length_iff_exists]
   exact ⟨j, List.mem_range.2 hj, by rw [hk]; decide⟩
  rwa [List.length_range] at this
theorem keeps_ne {zs : List (List UInt8)} {j : Nat} (hj : j + 1 < zs.length) (h : Lib.keeps zs.toArray (j + 1) = true) : zs[j + 1] ≠ zs[j] := by
 unfold Lib.keeps at h
 simp only [Nat.add_sub_cancel, decide_eq_true_eq] at h
 rcases h with h | h
 ·omega
 ·rw [getElem!_pos zs.toArray (j + 1) (by simpa using hj), getElem!_pos zs.toArray j (by simp; omega)] at h
  simpa using h
theorem rise_nodup : ∀ (zs : List (List UInt8)), zs.Pairwise (fun x y => x ≤ y) → (∀ j, (h : j + 1 < zs.length) → zs[j + 1] ≠ zs[j]) → zs.Nodup
 | [], _, _ => List.nodup_nil
 | [x], _, _ => by simp
 | x :: y :: l, hp, hn => by
  have hp2 := (List.pairwise_cons.1 hp).2
  have ih := rise_nodup (y :: l) hp2 (fun j h => hn (j + 1) (by simp at h ⊢; omega))
  refine List.nodup_cons.2 ⟨fun hx => ?_, ih⟩
  have hxy : x ≤ y := (List.pairwise_cons.1 hp).1 y (by simp)
  have hyx : y ≤ x := by
   rcases List.mem_cons.1 hx with rfl | h
   ·exact List.le_refl _
   ·exact (List.pairwise_cons.1 hp2).1 x h
  exact hn 0 (by simp) (List.le_antisymm hyx hxy)
theorem comp_twice (L : List (List UInt8)) : ((Lib.compact (sortL L)).length < L.length) ↔ ¬ L.Nodup := by
 rw [← sort_len L, ← (sort_perm L).nodup_iff]
 constructor
 ·intro h hn
  rw [Lib.compact_all _ (fun j hj => ?_)] at h
  ·omega
  ·rcases Nat.eq_zero_or_pos j with rfl | hp
   ·simp [Lib.keeps]
   ·obtain ⟨i, rfl⟩ : ∃ i, j = i + 1 := ⟨j - 1, by omega⟩
    apply Lib.keeps_pos
    rw [Nat.add_sub_cancel, getElem!_pos _ (i + 1) (by simpa using hj), getElem!_pos _ i (by simp; omega)]
    intro e
    have := List.pairwise_iff_getElem.1 hn i (i + 1) (by omega) hj (by omega)
    exact this (by simpa using e.symm)
 ·intro h
  apply Classical.byContradiction
  intro hc
  exact h (rise_nodup _ (sort_rise L) (fun j hj => keeps_ne hj (comp_full hc _ hj)))
theorem twice_nodup : ∀ l : List W, twiceC l = true ↔ ¬ (l.map fun c => c.2.1).Nodup
 | [] => by simp [twiceC]
 | c :: l => by
  rw [twiceC, Bool.or_eq_true, twice_nodup l, List.map_cons, List.nodup_cons]
  constructor
  ·rintro (h | h) ⟨h1, h2⟩
   ·obtain ⟨x, hx, he⟩ := List.any_eq_true.1 h
    exact h1 (List.mem_map.2 ⟨x, hx, by simpa using he⟩)
   ·exact h h2
  ·intro h
   by_cases h1 : c.2.1 ∈ l.map fun c => c.2.1
   ·obtain ⟨x, hx, he⟩ := List.mem_map.1 h1
    exact .inl (List.any_eq_true.2 ⟨x, hx, by simpa using he⟩)
   ·exact .inr fun h2 => h ⟨h1, h2⟩
theorem comp_names (l : List W) : decide ((Lib.compact (sortL (l.map fun c => c.2.1))).length < l.length) = twiceC l := by
 have h1 := comp_twice (l.map fun c => c.2.1)
 rw [List.length_map] at h1
 rw [Bool.eq_iff_iff, decide_eq_true_eq, h1, twice_nodup]
end Go.Proofs.YthpmgnfmeldkjaaGreatDoor.Code
