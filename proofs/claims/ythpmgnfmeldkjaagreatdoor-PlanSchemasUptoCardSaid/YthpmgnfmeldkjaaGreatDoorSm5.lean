/-
  Nodes with any Kids in memory: what lies where, what stays; a list of nodes that is the call's own. No function of the program is named here.
-/
import Derived.Test.YthpmgnfmeldkjaaGreatDoorSm1
import Derived.Test.YthpmgnfmeldkjaaGreatDoorSm2
import Derived.Test.YthpmgnfmeldkjaaGreatDoorSm4
import Derived.Deep.QuietTactic
import Derived.Deep.DeepCutAuto
import Derived.Deep.RegionHeld3
set_option maxRecDepth 100000
set_option maxHeartbeats 16000000
set_option linter.unusedVariables false
set_option linter.unusedSimpArgs false
open Go.Lib (hid)
namespace Go.Proofs.YthpmgnfmeldkjaaGreatDoor.Code
open Go.ChangeShapes Go.WideShapes Go.ChangeAt Go.RowKit Val Elems
abbrev NV := ByteArray × ByteArray × Option Addr × Nat × Nat
def nc (x : NV) : List Value := [.string x.1, .string x.2.1, .slice x.2.2.1 x.2.2.2.1 x.2.2.2.2]
theorem nc_length (x : NV) : (nc x).length = 3 := rfl
theorem nc_one : ∀ x : NV, ∀ u ∈ nc x, u.oneCell' = true := by
 intro x u hu
 simp [nc] at hu
 rcases hu with rfl | rfl | rfl <;> rfl
def NAt (w : World) (S : Nat → Prop) (X : Option Addr) (l : List NV) : Prop :=
 ∀ (i : Nat) (h : i < l.length), ∃ ad : Addr, X = some ad ∧ S ad.block ∧ w.cell? (ad.add (i * 3)) = some (.string l[i].1) ∧ w.cell? ⟨(ad.add (i * 3)).block, (ad.add (i * 3)).off + 1, none⟩ = some (.string l[i].2.1) ∧ w.cell? ⟨(ad.add (i * 3)).block, (ad.add (i * 3)).off + 2, none⟩ = some (.slice l[i].2.2.1 l[i].2.2.2.1 l[i].2.2.2.2)
inductive RIn (w : World) (S : Nat → Prop) : Nod → NV → Prop
 | mk (op tx : List UInt8) (ks : List Nod) (X : Option Addr) (cap : Nat) (l : List NV) (hl : l.length = ks.length) (hb : ks.length ≤ 2600000000000) (hc : ks.length ≤ cap) (hat : NAt w S X l) (hks : ∀ (i : Nat) (h : i < ks.length), RIn w S ks[i] (l[i]'(by omega))) :
   RIn w S (.mk op tx ks) (⟨op.toArray⟩, ⟨tx.toArray⟩, X, ks.length, cap)
theorem NAt.keep {w w' : World} {S S' : Nat → Prop} {X : Option Addr} {l : List NV} (h : NAt w S X l) (hS : ∀ g, S g → S' g) (hk : ∀ p : Addr, S p.block → w'.cell? p = w.cell? p) : NAt w' S' X l := by
 intro i hi
 obtain ⟨ad, e, hs, c0, c1, c2⟩ := h i hi
 have hb : S (ad.add (i * 3)).block := by rw [add_block]; exact hs
 exact ⟨ad, e, hS _ hs, (hk _ hb).trans c0, (hk ⟨(ad.add (i * 3)).block, (ad.add (i * 3)).off + 1, none⟩ hb).trans c1, (hk ⟨(ad.add (i * 3)).block, (ad.add (i * 3)).off + 2, none⟩ hb).trans c2⟩
theorem RIn.keep {w w' : World} {S S' : Nat → Prop} (hS : ∀ g, S g → S' g) (hk : ∀ p : Addr, S p.block → w'.cell? p = w.cell? p) {t : Nod} {x : NV} (h : RIn w S t x) : RIn w' S' t x := by
 induction h with
 | mk op tx ks X cap l hl hb hc hat hks ih => exact .mk op tx ks X cap l hl hb hc (hat.keep hS hk) ih
theorem RIn.imp {w : World} {S S' : Nat → Prop} {t : Nod} {x : NV} (h : RIn w S t x) (hS : ∀ g, S g → S' g) : RIn w S' t x := h.keep hS (fun _ _ => rfl)
theorem RIn.bel {w w' : World} {S : Nat → Prop} {t : Nod} {x : NV} (h : RIn w S t x) (hS : ∀ g, S g → g < w.heap.size) (hb : Below w.heap.size w w') : RIn w' S t x := h.keep (fun _ h => h) (fun p hp => hb.cell (hS _ hp))
theorem RIn.alloc {w : World} {S : Nat → Prop} {t : Nod} {x : NV} (h : RIn w S t x) (hS : ∀ g, S g → g < w.heap.size) (o : Obj) : RIn (w.alloc o) S t x := h.bel hS (below_alloc w o)
theorem RIn.setCell {w : World} {S : Nat → Prop} {t : Nod} {x : NV} (h : RIn w S t x) (p : Addr) (hp : ¬ S p.block) (u : Value) : RIn (w.setCell p u) S t x :=
 h.keep (fun _ h => h) (fun q hq => World.cell?_setCell_other _ _ _ _ (by intro e; rw [e] at hp; exact hp hq))
theorem RIn.w3 {w : World} {S : Nat → Prop} {t : Nod} {x : NV} (h : RIn w S t x) {g : Nat} (hg : ¬ S g) (a b c : Value) : RIn (W3 w g a b c) S t x := ((h.setCell _ hg _).setCell _ hg _).setCell _ hg _
theorem RIn.cap {w : World} {S : Nat → Prop} {t : Nod} {x : NV} (h : RIn w S t x) : t.ks.length ≤ x.2.2.2.2 := by
 cases h with
 | mk op tx ks X cap l hl hb hc hat hks => exact hc
theorem RIn.texts {w : World} {S : Nat → Prop} {t : Nod} {x : NV} (h : RIn w S t x) : x.1 = ⟨t.op.toArray⟩ ∧ x.2.1 = ⟨t.tx.toArray⟩ ∧ x.2.2.2.1 = t.ks.length ∧ t.ks.length ≤ 2600000000000 := by
 cases h with
 | mk op tx ks X cap l hl hb hc hat hks => exact ⟨rfl, rfl, rfl, hb⟩
theorem RIn.kid {w : World} {S : Nat → Prop} {t : Nod} {x : NV} (h : RIn w S t x) (k : Nat) (hk : k < t.ks.length) : ∃ (ad : Addr) (y : NV), x.2.2.1 = some ad ∧ S ad.block ∧ w.cell? (ad.add (k * 3)) = some (.string y.1) ∧ w.cell? ⟨(ad.add (k * 3)).block, (ad.add (k * 3)).off + 1, none⟩ = some (.string y.2.1) ∧ w.cell? ⟨(ad.add (k * 3)).block, (ad.add (k * 3)).off + 2, none⟩ = some (.slice y.2.2.1 y.2.2.2.1 y.2.2.2.2) ∧ RIn w S t.ks[k] y := by
 cases h with
 | mk op tx ks X cap l hl hb hc hat hks =>
  have hk' : k < ks.length := hk
  obtain ⟨ad, e, hs, c0, c1, c2⟩ := hat k (by omega)
  exact ⟨ad, l[k], e, hs, c0, c1, c2, hks k hk'⟩
theorem NIn.rin {w : World} {S : Nat → Prop} : ∀ (t : Tr) (op tx : ByteArray) (X : Option Addr) (n m : Nat), NIn w S t (.string op) (.string tx) (.slice X n m) → RIn w S t.n (op, tx, X, n, m)
 | .leaf o t, op, tx, X, n, m, h => by
  obtain ⟨h1, h2, h3⟩ := h
  injection h1 with h1
  injection h2 with h2
  injection h3 with h3 h4 h5
  subst h1 h2 h3 h4 h5
  exact .mk o t [] none 0 [] rfl (by decide) (by decide) (fun i hi => absurd hi (Nat.not_lt_zero _)) (fun i hi => absurd hi (Nat.not_lt_zero _))
 | .one o x, op, tx, X, n, m, h => by
  obtain ⟨h1, h2, g, cap, x0, x1, x2, h3, h4, c0, c1, c2, hx⟩ := h
  injection h1 with h1
  injection h2 with h2
  injection h3 with h3 h5 h6
  subst h1 h2 h3 h5 h6
  obtain ⟨X1, n1, k1, rfl⟩ := hx.form
  obtain ⟨rfl, rfl⟩ := hx.texts
  have ih := NIn.rin x _ _ X1 n1 k1 hx
  refine .mk o [] [x.n] (some ⟨g, 0, none⟩) (cap + 1) [(⟨(opOf x).toArray⟩, ⟨(txOf x).toArray⟩, X1, n1, k1)] rfl (by simp) (by simp) (fun i hi => ?_) (fun i hi => ?_)
  ·obtain rfl : i = 0 := by simp at hi; exact hi
   exact ⟨_, rfl, h4, c0, c1, c2⟩
  ·obtain rfl : i = 0 := by simp at hi; exact hi
   exact ih
 | .two o x y, op, tx, X, n, m, h => by
  obtain ⟨h1, h2, g, cap, x0, x1, x2, y0, y1, y2, h3, h4, c0, c1, c2, d0, d1, d2, hx, hy⟩ := h
  injection h1 with h1
  injection h2 with h2
  injection h3 with h3 h5 h6
  subst h1 h2 h3 h5 h6
  obtain ⟨X1, n1, k1, rfl⟩ := hx.form
  obtain ⟨rfl, rfl⟩ := hx.texts
  obtain ⟨X2, n2, k2, rfl⟩ := hy.form
  obtain ⟨rfl, rfl⟩ := hy.texts
  have ih := NIn.rin x _ _ X1 n1 k1 hx
  have ih2 := NIn.rin y _ _ X2 n2 k2 hy
  refine .mk o [] [x.n, y.n] (some ⟨g, 0, none⟩) (cap + 2) [(⟨(opOf x).toArray⟩, ⟨(txOf x).toArray⟩, X1, n1, k1), (⟨(opOf y).toArray⟩, ⟨(txOf y).toArray⟩, X2, n2, k2)] rfl (by simp) (by simp) (fun i hi => ?_) (fun i hi => ?_)
  ·have hc : i = 0 ∨ i = 1 := by simp at hi; omega
   rcases hc with rfl | rfl
   ·exact ⟨_, rfl, h4, c0, c1, c2⟩
   ·exact ⟨_, rfl, h4, d0, d1, d2⟩
  ·have hc : i = 0 ∨ i = 1 := by simp at hi; omega
   rcases hc with rfl | rfl
   ·exact ih
   ·exact ih2
def RAll (w : World) (S : Nat → Prop) (ks : List Nod) (l : List NV) : Prop := l.length = ks.length ∧ ∀ (i : Nat) (h : i < ks.length) (h' : i < l.length), RIn w S ks[i] l[i]
theorem RAll.nil (w : World) (S : Nat → Prop) : RAll w S [] [] := ⟨rfl, fun i h => absurd h (Nat.not_lt_zero _)⟩
theorem RAll.keep {w w' : World} {S S' : Nat → Prop} (hS : ∀ g, S g → S' g) (hk : ∀ p : Addr, S p.block → w'.cell? p = w.cell? p) {ks : List Nod} {l : List NV} (h : RAll w S ks l) : RAll w' S' ks l := ⟨h.1, fun i hi hi' => (h.2 i hi hi').keep hS hk⟩
theorem RAll.snoc {w : World} {S : Nat → Prop} {ks : List Nod} {l : List NV} (h : RAll w S ks l) {t : Nod} {x : NV} (hx : RIn w S t x) : RAll w S (ks ++ [t]) (l ++ [x]) := by
 refine ⟨by simp [h.1], fun i hi hi' => ?_⟩
 by_cases hlt : i < ks.length
 ·rw [List.getElem_append_left hlt, List.getElem_append_left (by rw [h.1]; exact hlt)]
  exact h.2 i hlt _
 ·obtain rfl : i = ks.length := by simp at hi; omega
  rw [List.getElem_append_right (Nat.le_refl _), List.getElem_append_right (by rw [h.1]; exact Nat.le_refl _)]
  simp only [Nat.sub_self, h.1, List.getElem_singleton]
  exact hx
theorem RAll.append {w : World} {S : Nat → Prop} {ks ks' : List Nod} {l l' : List NV} (h : RAll w S ks l) (h' : RAll w S ks' l') : RAll w S (ks ++ ks') (l ++ l') := by
 refine ⟨by simp [h.1, h'.1], fun i hi hi' => ?_⟩
 by_cases hlt : i < ks.length
 ·rw [List.getElem_append_left hlt, List.getElem_append_left (by rw [h.1]; exact hlt)]
  exact h.2 i hlt _
 ·rw [List.getElem_append_right (by omega), List.getElem_append_right (by rw [h.1]; omega)]
  simp only [h.1]
  exact h'.2 _ _ _
theorem RAll.one {w : World} {S : Nat → Prop} {t : Nod} {x : NV} (hx : RIn w S t x) : RAll w S [t] [x] := (RAll.nil w S).snoc hx
theorem nat_of {w : World} {B : Nat} {A : Option Addr} {l : List NV} {S : Nat → Prop} (h : At nc 3 w B A l) (hS : ∀ ad, A = some ad → 0 < l.length → S ad.block) : NAt w S A l := by
 intro i hi
 obtain ⟨ad, e, hb, h0⟩ := h i hi
 refine ⟨ad, e, hS ad e (by omega), h0 0 _ rfl, ?_, ?_⟩
 ·rw [← add_next]; exact h0 1 _ rfl
 ·rw [← add_next]; exact h0 2 _ rfl
theorem NAt.at {w : World} {S : Nat → Prop} {X : Option Addr} {l : List NV} (h : NAt w S X l) {B : Nat} (hB : ∀ g, S g → g < B) : At nc 3 w B X l := by
 intro i hi
 obtain ⟨ad, e, hs, c0, c1, c2⟩ := h i hi
 refine ⟨ad, e, hB _ hs, fun j u hu => ?_⟩
 have hj : j = 0 ∨ j = 1 ∨ j = 2 := by
  have := (List.getElem?_eq_some_iff.1 hu).1
  rw [nc_length] at this
  omega
 rcases hj with rfl | rfl | rfl
 ·cases hu; exact c0
 ·cases hu; rw [add_next]; exact c1
 ·cases hu; rw [add_next]; exact c2
theorem RIn.made {w : World} {S : Nat → Prop} {ks : List Nod} {l : List NV} {X : Option Addr} (cap : Nat) (op tx : ByteArray) (hat : NAt w S X l) (h : RAll w S ks l) (hb : ks.length ≤ 2600000000000) (hc : ks.length ≤ cap) : RIn w S (.mk op.data.toList tx.data.toList ks) (op, tx, X, ks.length, cap) := by
 have := RIn.mk (w := w) (S := S) op.data.toList tx.data.toList ks X cap l h.1 hb hc hat (fun i hi => h.2 i hi _)
 rwa [Lib.mk_data, Lib.mk_data] at this
theorem RIn.leafN (w : World) (S : Nat → Prop) (op tx : ByteArray) : RIn w S (.mk op.data.toList tx.data.toList []) (op, tx, none, 0, 0) :=
 RIn.made 0 op tx (l := []) (fun i hi => absurd hi (Nat.not_lt_zero _)) (RAll.nil w S) (by decide) (by decide)
theorem own_nat {w : World} {B : Nat} {v : Value} {l : List NV} (h : w.ownsRow B 24 3 v l.length (flatC nc l)) : ∃ A cap, v = .slice A l.length cap ∧ NAt w (fun g => B ≤ g ∧ g < w.heap.size) A l ∧ l.length ≤ cap := by
 obtain ⟨A, cap, e, hat⟩ := own_at nc_length h
 have hcp : l.length ≤ cap := by
  rcases h.2 with ⟨hv, hz⟩ | ⟨g, cap', cur, hv, _, _, hle, _⟩
  ·rw [hz]; exact Nat.zero_le _
  ·rw [hv] at e
   injection e with _ _ e
   rw [← e]
   exact hle
 refine ⟨A, cap, e, nat_of hat (fun ad hA hpos => ?_), hcp⟩
 obtain ⟨g, cap', hv, hg, hlt⟩ := h.form hpos
 rw [hv] at e
 injection e with e _
 rw [hA] at e
 injection e with e
 subst e
 exact ⟨hg, hlt⟩
end Go.Proofs.YthpmgnfmeldkjaaGreatDoor.Code
/-
  Contracts of value.Fits and of the document's Fits of one value.
-/
namespace Go.Proofs.YthpmgnfmeldkjaaGreatDoor.Val
open Go.ChangeShapes Go.WideShapes Go.ChangeAt Go.RowKit
theorem column_any (k : Int) (w : World) :
  Calls Tryz.prog 250 #[.int .i64 k] w fun e w' => e = .returned (.bool (columnB k)) ∧ w = w' := by
 by_cases h : 1 ≤ k
 all_goals
  go_enter Tryz.func250, Tryz.ntmps250
  go_wp2
  go_ret
  exact ⟨retB (by unfold columnB; simp; try omega), rfl⟩
theorem rcolumn_any (k : Int) (w : World) :
  Calls Tryz.prog 79 #[.int .i64 k] w fun e w' => e = .returned (.bool (columnB k)) ∧ w = w' := by
 by_cases h : 1 ≤ k
 all_goals
  go_enter Tryz.func79, Tryz.ntmps79
  go_wp2
  go_ret
  exact ⟨retB (by unfold columnB; simp; try omega), rfl⟩
end Go.Proofs.YthpmgnfmeldkjaaGreatDoor.Val
/-
  Contracts of row.Fits and of the document's Fits of rows.
-/
namespace Go.Proofs.YthpmgnfmeldkjaaGreatDoor.Code
open Go.ChangeShapes Go.WideShapes Go.ChangeAt Go.RowKit Val
end Go.Proofs.YthpmgnfmeldkjaaGreatDoor.Code
/-
  Columns of tables in plain words: a column is its number, its name, its kind; whether columns are a schema, what is found, what is changed. No program is named here.
-/
namespace Go.Proofs.YthpmgnfmeldkjaaGreatDoor.Code
open Val
def ownN (s : List UInt8) : Bool := s == [116, 114, 117, 101] || (s == [102, 97, 108, 115, 101] || (s == [110, 117, 108, 108] || (s == [97, 110, 100] || (s == [111, 114] || (s == [110, 111, 116] || s == [105, 115])))))
def nameC (s : List UInt8) : Bool := match wordsL s 0 with | .ok [w] => w.1 == 0 && (w.2.1 == s && !ownN s) | _ => false
def colC (c : W) : Bool := nameC c.2.1 && (columnB c.2.2 && decide (1 ≤ c.1))
def apartC (c : W) (l : List W) : Bool := l.all fun x => x.1 != c.1 && x.2.1 != c.2.1
def schL : List W → List W → Bool
 | _, [] => true
 | a, c :: l => colC c && (apartC c a && schL (a ++ [c]) l)
def schC (l : List W) : Bool := schL [] l && (decide (1 ≤ l.length) && decide (l.length ≤ 12))
def findC (l : List W) (s : List UInt8) : Option Nat := l.findIdx? fun c => c.2.1 == s
def findZ (l : List W) (s : List UInt8) : Int := match findC l s with | some i => (i : Int) | none => -1
def kindsC (l : List W) : List Int := l.map fun c => c.2.2
theorem find_some {l : List W} {s : List UInt8} {i : Nat} (h : findC l s = some i) : ∃ hi : i < l.length, l[i].2.1 = s ∧ ∀ j (hj : j < i), (l[j]'(by omega)).2.1 ≠ s := by
 obtain ⟨hi, h1, h2⟩ := List.findIdx?_eq_some_iff_getElem.1 h
 exact ⟨hi, by simpa using h1, fun j hj => by simpa using h2 j hj⟩
theorem schL_app (m : List W) : ∀ (l a : List W), schL a (l ++ m) = (schL a l && schL (a ++ l) m)
 | [], a => by rw [List.nil_append, schL, List.append_nil, Bool.true_and]
 | c :: l, a => by
  rw [List.cons_append, schL, schL, schL_app m l, List.append_assoc]
  simp [Bool.and_assoc]
theorem schL_one (a : List W) (c : W) : schL a [c] = (colC c && apartC c a) := by rw [schL, schL, Bool.and_true]
theorem schL_take (l : List W) (i : Nat) (hi : i < l.length) : schL [] (l.take (i + 1)) = (schL [] (l.take i) && (colC l[i] && apartC l[i] (l.take i))) := by
 rw [List.take_succ_eq_append_getElem hi, schL_app, schL_one, List.nil_append]
theorem schL_false {l : List W} (i : Nat) (h : schL [] (l.take i) = false) : schL [] l = false := by
 have := schL_app (l.drop i) (l.take i) []
 rw [List.take_append_drop, h, Bool.false_and] at this
 exact this
def Two (x y : W) : Prop := x.1 ≠ y.1 ∧ x.2.1 ≠ y.2.1
theorem apart_iff (c : W) (l : List W) : apartC c l = true ↔ ∀ x ∈ l, Two x c := by
 unfold apartC Two
 rw [List.all_eq_true]
 simp
theorem schL_iff : ∀ (l a : List W), schL a l = true ↔ (∀ c ∈ l, colC c = true) ∧ (∀ x ∈ a, ∀ c ∈ l, Two x c) ∧ l.Pairwise Two
 | [], a => by simp [schL]
 | c :: l, a => by
  rw [schL, Bool.and_eq_true, Bool.and_eq_true, apart_iff, schL_iff l]
  constructor
  ·rintro ⟨h1, h2, h3, h4, h5⟩
   refine ⟨fun d hd => ?_, fun x hx d hd => ?_, List.Pairwise.cons (fun d hd => h4 c (List.mem_append_right _ (List.mem_singleton.2 rfl)) d hd) h5⟩
   ·rcases List.mem_cons.1 hd with rfl | hd
    ·exact h1
    ·exact h3 d hd
   ·rcases List.mem_cons.1 hd with rfl | hd
    ·exact h2 x hx
    ·exact h4 x (List.mem_append_left _ hx) d hd
  ·rintro ⟨h1, h2, h3⟩
   have h4 := List.pairwise_cons.1 h3
   refine ⟨h1 c (List.mem_cons_self ..), fun x hx => h2 x hx c (List.mem_cons_self ..), fun d hd => h1 d (List.mem_cons_of_mem _ hd), fun x hx d hd => ?_, h4.2⟩
   rcases List.mem_append.1 hx with hx | hx
   ·exact h2 x hx d (List.mem_cons_of_mem _ hd)
   ·obtain rfl := List.mem_singleton.1 hx
    exact h4.1 d hd
theorem sch_iff (l : List W) : schC l = true ↔ ((∀ c ∈ l, colC c = true) ∧ l.Pairwise Two) ∧ 1 ≤ l.length ∧ l.length ≤ 12 := by
 unfold schC
 rw [Bool.and_eq_true, schL_iff, Bool.and_eq_true]
 simp
abbrev CV := Int × Int × ByteArray
def nulV : CV := (0, 0, ⟨#[]⟩)
def truV (b : Bool) : CV := (1, if b = true then 1 else 0, ⟨#[]⟩)
def amountL (tx : List UInt8) : Option Int :=
 if decide (1 ≤ tx.length ∧ tx.length ≤ 19) && tx.all figB then (if tx.foldl (fun (n : Int) c => n * 10 + (c.toNat - 48 : Nat)) 0 ≤ 9223372036854775807 then some (tx.foldl (fun (n : Int) c => n * 10 + (c.toNat - 48 : Nat)) 0) else none) else none
def litL (op tx : List UInt8) : Option CV :=
 if op = sNum then (amountL tx).map fun n => (if n ≤ 2147483647 then (2, n, ⟨#[]⟩) else (3, n, ⟨#[]⟩))
 else if op = sText then (if tx.length ≤ 200 then some (4, 0, ⟨tx.toArray⟩) else none)
 else if tx ≠ [] then none
 else if op = sTrue then some (truV true)
 else if op = sFalse then some (truV false)
 else if op = sNull then some nulV
 else none
def tests : List (List UInt8) := [[61], [60, 62], [60], [60, 61], [62], [62, 61]]
def sums : List (List UInt8) := [[43], [45], [42]]
def kidsN (op : List UInt8) : Option Nat :=
 if op ∈ [sNum, sText, sTrue, sFalse, sNull, sCol] then some 0 else if op ∈ [sNeg, sNot, sIsNull] then some 1 else if op ∈ [sAnd, sOr] ∨ op ∈ tests ∨ op ∈ sums then some 2 else none
def numK (k : Int) : Bool := k == 2 || k == 3 || k == 0
def truK (k : Int) : Bool := k == 1 || k == 0
def twoT (op : List UInt8) (a b : Int) : Int × Int :=
 if op ∈ sums ∧ numK a = true ∧ numK b = true then (if a = 0 ∨ b = 3 then (b, 0) else (a, 0))
 else if op ∈ tests ∧ (a = b ∨ a = 0 ∨ b = 0 ∨ (numK a = true ∧ numK b = true)) then (1, 0)
 else if op ∈ [sAnd, sOr] ∧ truK a = true ∧ truK b = true then (1, 0)
 else (0, 131)
def colK (cols : List W) (tx : List UInt8) : Int × Int := match findC cols tx with | some i => ((cols.getD i (0, [], 0)).2.2, 0) | none => (0, 121)
def typeT (cols : List W) (op tx : List UInt8) (l : List Int) : Int × Int :=
 if kidsN op ≠ some l.length ∨ (tx ≠ [] ∧ op ∉ [sNum, sText, sCol]) then (0, 1)
 else match l with
 | [] => if op = sCol then colK cols tx else (match litL op tx with | some v => (v.1, 0) | none => (0, 1))
 | [a] => if op = sIsNull then (1, 0) else if op = sNeg ∧ numK a = true then (a, 0) else if op = sNot ∧ truK a = true then (1, 0) else (0, 131)
 | [a, b] => twoT op a b
 | _ => (0, 1)
mutual
def typeE (cols : List W) : Nod → Int × Int
 | .mk op tx ks => if (typeL cols ks).2 = 0 then typeT cols op tx (typeL cols ks).1 else (0, (typeL cols ks).2)
def typeL (cols : List W) : List Nod → List Int × Int
 | [] => ([], 0)
 | t :: l => if (typeE cols t).2 = 0 then (if (typeL cols l).2 = 0 then ((typeE cols t).1 :: (typeL cols l).1, 0) else ([], (typeL cols l).2)) else ([], (typeE cols t).2)
end
theorem fold_pos : ∀ (l : List UInt8) (n : Int), 0 ≤ n → 0 ≤ l.foldl (fun (n : Int) c => n * 10 + (c.toNat - 48 : Nat)) n
 | [], n, h => h
 | c :: l, n, h => fold_pos l (n * 10 + (c.toNat - 48 : Nat)) (by have : (0 : Int) ≤ ((c.toNat - 48 : Nat) : Int) := Int.natCast_nonneg _; omega)
theorem amount_pos {tx : List UInt8} {n : Int} (h : amountL tx = some n) : 0 ≤ n ∧ n ≤ 9223372036854775807 := by
 unfold amountL at h
 split at h
 ·split at h
  ·rename_i h2
   cases h
   exact ⟨fold_pos _ _ (Int.le_refl _), h2⟩
  ·cases h
 ·cases h
theorem tests_apart : ∀ op ∈ tests, op ∉ sums ∧ op ∉ [sAnd, sOr] ∧ op ≠ sIsNull ∧ op ≠ sAnd ∧ op ≠ sOr ∧ op ≠ sNot ∧ op ≠ sNeg ∧ op ≠ sCol := by decide
theorem sums_apart : ∀ op ∈ sums, op ∉ tests ∧ op ∉ [sAnd, sOr] ∧ op ≠ sIsNull ∧ op ≠ sAnd ∧ op ≠ sOr ∧ op ≠ sNot ∧ op ≠ sNeg ∧ op ≠ sCol := by decide
theorem typeE_mk (cols : List W) (op tx : List UInt8) (ks : List Nod) : typeE cols (.mk op tx ks) = if (typeL cols ks).2 = 0 then typeT cols op tx (typeL cols ks).1 else (0, (typeL cols ks).2) := by rw [typeE]
theorem typeL_len (cols : List W) : ∀ l : List Nod, (typeL cols l).2 = 0 → (typeL cols l).1.length = l.length
 | [], _ => rfl
 | t :: l, h => by
  rw [typeL] at h ⊢
  split at h
  ·rename_i h1
   rw [if_pos h1]
   split at h
   ·rename_i h2
    rw [if_pos h2]
    simp [typeL_len cols l h2]
   ·rename_i h2
    exact absurd h h2
  ·rename_i h1
   exact absurd h h1
theorem kidsN_col : kidsN sCol = some 0 := by decide
theorem words_name (s : List UInt8) : ∀ (i : Int) (t : List UInt8) (p : Int) (l : List W), wordsL s i = .ok ((0, t, p) :: l) → i ≤ p ∧ p - i + t.length ≤ s.length ∧ t.length ≤ 20 := by
 refine words_way (Q := fun s => ∀ (i : Int) (t : List UInt8) (p : Int) (l : List W), wordsL s i = .ok ((0, t, p) :: l) → i ≤ p ∧ p - i + t.length ≤ s.length ∧ t.length ≤ 20) ?_ ?_ ?_ ?_ s
 ·intro i t p l h; cases h
 ·intro c s hb ih i t p l h
  rw [wordsL_blank hb] at h
  have := ih _ t p l h
  simp only [List.length_cons]
  omega
 ·intro c s hb hf i t p l h
  rw [wordsL_none hb hf] at h
  cases h
 ·intro c s k t n hf ih i t' p l h
  rw [wordsL_one hf] at h
  cases hw : wordsL ((c :: s).drop n) (i + n) with
  | error j => rw [hw] at h; cases h
  | ok l' =>
   rw [hw] at h
   simp only [Except.ok.injEq, List.cons.injEq, Prod.mk.injEq] at h
   obtain ⟨⟨rfl, rfl, rfl⟩, -⟩ := h
   rcases first_cases hf with ⟨_, _, -, -, -, rfl, rfl, h20⟩ | ⟨_, _, -, -, -, h0, -⟩ | ⟨_, -, h0, -⟩ | ⟨_, _, _, -, -, -, -, -, h0, -⟩ | ⟨_, _, -, -, -, -, -, -, h0, -⟩
   ·have hle := runL_le nameB (c :: s)
    rw [List.length_take]
    omega
   all_goals exact absurd h0 (by decide)
theorem name_whole {s : List UInt8} {p : Int} (h : wordsL s 0 = .ok [(0, s, p)]) : p = 0 ∧ s.length ≤ 20 := by
 have := words_name s 0 s p [] h
 omega
theorem name_short {s : List UInt8} (h : 20 < s.length) : nameC s = false := by
 unfold nameC
 cases hw : wordsL s 0 with
 | error j => rfl
 | ok l =>
  rcases l with _ | ⟨a, _ | ⟨b, l⟩⟩
  ·rfl
  ·obtain ⟨k, t, p⟩ := a
   by_cases hk : k = 0
   ·by_cases ht : t = s
    ·subst hk ht
     have := name_whole hw
     omega
    ·simp [ht]
   ·simp [hk]
  ·rfl
theorem name_own {s : List UInt8} (h : ownN s = true) : nameC s = false := by
 unfold nameC
 cases hw : wordsL s 0 with
 | error j => rfl
 | ok l =>
  rcases l with _ | ⟨a, _ | ⟨b, l⟩⟩
  ·rfl
  ·simp [h]
  ·rfl
theorem name_words {s : List UInt8} (h : ownN s = false) : nameC s = (match wordsL s 0 with | .ok [w] => w.1 == 0 && (w.2.1 == s && w.2.2 == 0) | _ => false) := by
 unfold nameC
 cases hw : wordsL s 0 with
 | error j => rfl
 | ok l =>
  rcases l with _ | ⟨a, _ | ⟨b, l⟩⟩
  ·rfl
  ·obtain ⟨k, t, p⟩ := a
   by_cases hk : k = 0
   ·by_cases ht : t = s
    ·subst hk ht
     have := (name_whole hw).1
     subst this
     simp [h]
    ·have e : (t == s) = false := by simpa using ht
     show (k == 0 && (t == s && !ownN s)) = (k == 0 && (t == s && p == 0))
     rw [e]
     rfl
   ·have e : (k == 0) = false := by simpa using hk
    show (k == 0 && (t == s && !ownN s)) = (k == 0 && (t == s && p == 0))
    rw [e]
    rfl
  ·rfl
def firstI (p : W → Bool) (l : List W) : Int := match l.findIdx? p with | some i => (i : Int) | none => 0
def firstB (p : W → Bool) (l : List W) : Bool := (l.findIdx? p).isSome
theorem first_at {p : W → Bool} {l : List W} {i : Nat} (hi : i < l.length) (h1 : p l[i] = true) (h2 : ∀ j (hj : j < l.length), j < i → p l[j] = false) : firstI p l = i ∧ firstB p l = true := by
 have h : l.findIdx? p = some i := List.findIdx?_eq_some_iff_getElem.2 ⟨hi, h1, fun j hj => by rw [h2 j (by omega) hj]; simp⟩
 unfold firstI firstB
 rw [h]
 exact ⟨rfl, rfl⟩
theorem first_no {p : W → Bool} {l : List W} (h2 : ∀ j (hj : j < l.length), p l[j] = false) : firstI p l = 0 ∧ firstB p l = false := by
 have h : l.findIdx? p = none := List.findIdx?_eq_none_iff.2 fun x hx => by obtain ⟨j, hj, rfl⟩ := List.getElem_of_mem hx; exact h2 j hj
 unfold firstI firstB
 rw [h]
 exact ⟨rfl, rfl⟩
theorem findZ_first (l : List W) (s : List UInt8) : max (findZ l s) 0 = firstI (fun c => c.2.1 == s) l ∧ decide (0 ≤ findZ l s) = firstB (fun c => c.2.1 == s) l := by
 unfold findZ firstI firstB findC
 cases l.findIdx? fun c => c.2.1 == s with
 | none => exact ⟨rfl, rfl⟩
 | some k => exact ⟨by dsimp only; omega, by simp⟩
end Go.Proofs.YthpmgnfmeldkjaaGreatDoor.Code
/-
  Contracts of the document's Wider and Name of kinds, over the texts of rows.
-/
namespace Go.Proofs.YthpmgnfmeldkjaaGreatDoor.Val
open Go.ChangeShapes Go.WideShapes Go.ChangeAt Go.RowKit
theorem kinds (k : Int) : k = 0 ∨ k = 1 ∨ k = 2 ∨ k = 3 ∨ k = 4 ∨ ((k == 0) = false ∧ (k == 1) = false ∧ (k == 2) = false ∧ (k == 3) = false ∧ (k == 4) = false) := by
 by_cases h0 : k = 0; · exact Or.inl h0
 by_cases h1 : k = 1; · exact Or.inr (Or.inl h1)
 by_cases h2 : k = 2; · exact Or.inr (Or.inr (Or.inl h2))
 by_cases h3 : k = 3; · exact Or.inr (Or.inr (Or.inr (Or.inl h3)))
 by_cases h4 : k = 4; · exact Or.inr (Or.inr (Or.inr (Or.inr (Or.inl h4))))
 exact Or.inr (Or.inr (Or.inr (Or.inr (Or.inr ⟨by simpa using h0, by simpa using h1, by simpa using h2, by simpa using h3, by simpa using h4⟩))))
end Go.Proofs.YthpmgnfmeldkjaaGreatDoor.Val
/-
  The document's Name, column, Find, Kinds, Alike, Same of columns, and the law's Small and kinds.
-/
namespace Go.Proofs.YthpmgnfmeldkjaaGreatDoor.Code
open Go.ChangeShapes Go.WideShapes Go.ChangeAt Go.RowKit Val Elems
theorem own_n (s : ByteArray) : ownB s.toList = ownN s.data.toList := by rw [ByteArray.toList_eq]; rfl
theorem list_one {α : Type} (l : List α) : l = [] ∨ (∃ a, l = [a]) ∨ 2 ≤ l.length := by
 match l with
 | [] => exact .inl rfl
 | [a] => exact .inr (.inl ⟨a, rfl⟩)
 | a :: b :: l => exact .inr (.inr (by simp))
theorem name_is (s : List UInt8) : nameC s = (wE s == 0 && (decide ((wL s).length = 1) && ((wL s).all fun w => w.1 == 0 && (w.2.1 == s && !ownN s)))) := by
 unfold nameC wE wL
 cases h : wordsL s 0 with
 | error j => rfl
 | ok l =>
  rcases list_one l with rfl | ⟨a, rfl⟩ | h2
  ·rfl
  ·simp
  ·match l, h2 with
   | a :: b :: l, _ => simp
theorem rcname_any (s : ByteArray) (w : World) (hs : s.size ≤ 4194304) :
  Calls Tryz.prog 69 #[.string s] w fun e w' => e = .returned (.bool (nameC s.data.toList)) ∧ Below w.heap.size w w' := by
 have HW := hid (rwords_any s w hs)
 have HO := hid (fun w' => rown_any s w')
 rw [name_is]
 unfold WordsPost at HW
 obtain ⟨l, hl⟩ : ∃ l, wL s.data.toList = l := ⟨_, rfl⟩
 obtain ⟨q, hq⟩ : ∃ q, wE s.data.toList = q := ⟨_, rfl⟩
 obtain ⟨p, hp⟩ : ∃ p, wP s.data.toList = p := ⟨_, rfl⟩
 rw [own_n] at HO
 obtain ⟨o, ho⟩ : ∃ o, ownN s.data.toList = o := ⟨_, rfl⟩
 rw [hl, hq, hp] at HW
 rw [hl, hq, ho]
 rw [ho] at HO
 obtain ⟨R, hR⟩ : ∃ R : Bool, (q == 0 && (decide (l.length = 1) && (l.all fun w => w.1 == 0 && (w.2.1 == s.data.toList && !o)))) = R := ⟨_, rfl⟩
 rw [hR]
 have HR := hid hR
 clear hl hq hp ho hR
 go_enter Tryz.func69, Tryz.ntmps69
 go_wp2_with fail
 refine HW.out.mono ?_
 rintro e w1 ⟨A, cap, rfl, hat, hb⟩
 have B1 := hid hb
 have AT := hid hat
 clear hb hat
 go_wp2_with fail
 refine (HO.out _).mono ?_
 rintro e w1' ⟨rfl, rfl⟩
 by_cases hq0 : q = 0
 case neg =>
  have e1 : (q == 0) = false := by simpa using hq0
  have hr : R = false := by rw [← HR.out, e1]; rfl
  subst hr
  clear hq0
  go_wp2
  go_ret
  exact ⟨by simp, B1.out⟩
 subst hq0
 rcases list_one l with rfl | ⟨a, rfl⟩ | h2
 ·have hr : R = false := by rw [← HR.out]; rfl
  subst hr
  go_wp2
  go_ret
  exact ⟨by simp, B1.out⟩
 ·obtain ⟨k, t, pos⟩ := a
  obtain ⟨ad, rfl, hab, c0, c1, c2⟩ := at_word AT.out 0 (by simp)
  have ea : ad.add (0 * 3) = ad := by simp [Addr.add]
  rw [ea] at c0 c1 c2
  simp only [List.getElem_cons_zero] at c0 c1 c2
  have hr : R = (k == 0 && (t == s.data.toList && !o)) := by rw [← HR.out]; simp
  by_cases hk : k = 0
  case neg =>
   have e2 : (k == 0) = false := by simpa using hk
   have hr2 : R = false := by rw [hr, e2]; rfl
   subst hr2
   clear hk hr
   go_wp2
   go_ret
   exact ⟨by simp, B1.out⟩
  subst hk
  by_cases ht : t = s.data.toList
  case neg =>
   obtain ⟨T, hT⟩ : ∃ T : ByteArray, ⟨t.toArray⟩ = T := ⟨_, rfl⟩
   have e3 : (T.toList == s.toList) = false := by rw [ByteArray.toList_eq, ByteArray.toList_eq, ← hT]; simpa using ht
   have hr2 : R = false := by rw [hr]; simp [ht]
   rw [hT] at c1
   subst hr2
   clear ht hr hT
   go_wp2
   go_ret
   exact ⟨by simp, B1.out⟩
  subst ht
  rw [Lib.mk_data] at c1
  have hr2 : R = !o := by rw [hr]; simp
  subst hr2
  clear hr
  go_wp2
  go_ret
  exact ⟨by simp, B1.out⟩
 ·have hr : R = false := by
   rw [← HR.out]
   have : decide (l.length = 1) = false := by simp; omega
   rw [this]
   rfl
  obtain ⟨N, hN⟩ : ∃ N, l.length = N := ⟨_, rfl⟩
  rw [hN] at h2
  have e4 : ((N : Int) == 1) = false := by simp; omega
  subst hr
  rw [hN]
  clear hN
  go_wp2
  go_ret
  exact ⟨by simp, B1.out⟩
theorem rcol_any (i k : Int) (s : ByteArray) (w : World) (hs : s.size ≤ 4194304) :
  Calls Tryz.prog 39 #[.agg #[.int .i64 i, .string s, .int .i64 k]] w fun e w' => e = .returned (.bool (colC (i, s.data.toList, k))) ∧ Below w.heap.size w w' := by
 have HN := hid (fun w' => rcname_any s w' hs)
 obtain ⟨n, hn⟩ : ∃ n, nameC s.data.toList = n := ⟨_, rfl⟩
 have HC := hid (show colC (i, s.data.toList, k) = (n && (columnB k && decide (1 ≤ i))) by unfold colC; rw [← hn])
 rw [HC.out]
 rw [hn] at HN
 obtain ⟨c, hc⟩ : ∃ c, columnB k = c := ⟨_, rfl⟩
 have HK := hid (fun w' => hc ▸ Val.rcolumn_any k w')
 rw [hc]
 clear HC hn hc
 go_enter Tryz.func39, Tryz.ntmps39
 go_wp2_with fail
 refine (HN.out _).mono ?_
 rintro e w1 ⟨rfl, hb⟩
 have c0 : w1.cell? ⟨w.heap.size, 0, none⟩ = some (.int .i64 i) := (hb.cell (p := ⟨w.heap.size, 0, none⟩) (by simp)).trans (by simp)
 have c2 : w1.cell? ⟨w.heap.size, 2, none⟩ = some (.int .i64 k) := (hb.cell (p := ⟨w.heap.size, 2, none⟩) (by simp)).trans (by simp)
 have B1 := hid (((Below.refl _ _).alloc (Nat.le_refl _) _).trans (hb.mono (by simp)))
 clear hb
 go_wp2_with fail
 refine (HK.out _).mono ?_
 rintro e w2 ⟨rfl, rfl⟩
 by_cases h1 : 1 ≤ i
 all_goals
  cases n
  all_goals
   cases c
   all_goals
    go_wp2
    go_ret
    exact ⟨by simp [h1], B1.out⟩
def kc (k : Int) : List Value := [.int .i64 k]
theorem kc_length (n : Int) : (kc n).length = 1 := rfl
theorem at_kind {w : World} {B : Nat} {A : Option Addr} {l : List Int} (h : At kc 1 w B A l) (i : Nat) (hi : i < l.length) : ∃ ad : Addr, A = some ad ∧ ad.block < B ∧ w.cell? (ad.add (i * 1)) = some (.int .i64 l[i]) := by
 obtain ⟨ad, e, hb, h0⟩ := h i hi
 exact ⟨ad, e, hb, h0 0 _ rfl⟩
theorem kinds_take (l : List W) (i : Nat) (hi : i < l.length) : kindsC (l.take (i + 1)) = kindsC (l.take i) ++ [l[i].2.2] := by
 unfold kindsC
 rw [List.take_succ_eq_append_getElem hi, List.map_append]
 rfl
theorem info_kind : (Tryz.prog.info? 52).map (fun i => (i.zero, i.size, i.bytes)) = some (some (.int .i64 0), 1, 8) := by kernel_rfl
def smallC (l : List W) : Bool := decide (l.length ≤ 20) && l.all fun c => decide (c.2.1.length ≤ 100)
theorem small_no {l : List W} {i : Nat} (hi : i < l.length) (h : ¬ l[i].2.1.length ≤ 100) : smallC l = false := by
 cases e : smallC l
 ·rfl
 ·unfold smallC at e
  rw [Bool.and_eq_true, List.all_eq_true] at e
  have := e.2 l[i] (List.getElem_mem hi)
  simp at this
  omega
theorem small_yes {l : List W} (hl : l.length ≤ 20) (h : ∀ j (hj : j < l.length), l[j].2.1.length ≤ 100) : smallC l = true := by
 unfold smallC
 rw [Bool.and_eq_true, List.all_eq_true]
 refine ⟨by simpa using hl, fun c hc => ?_⟩
 obtain ⟨j, hj, rfl⟩ := List.getElem_of_mem hc
 simpa using h j hj
theorem small_long {l : List W} (hl : 20 < l.length) : smallC l = false := by
 unfold smallC
 have : decide (l.length ≤ 20) = false := by simp; omega
 rw [this, Bool.false_and]
theorem smallc_any (A : Option Addr) (cap : Nat) (l : List W) (w : World) (hv : At wc 3 w w.heap.size A l) (hl : l.length ≤ maxLen) :
  Calls Tryz.prog 22 #[.slice A l.length cap] w fun e w' => e = .returned (.bool (smallC l)) ∧ Below w.heap.size w w' := by
 have HV := hid hv
 have hm : (l.length : Int) ≤ 9223372036854775807 := by unfold maxLen at hl; omega
 clear hv hl
 go_enter Tryz.func22, Tryz.ntmps22
 go_wp2
 go_loopw [3] (fun t wr => ∃ i : Nat, i ≤ l.length ∧ i ≤ 21 ∧ t = .int .i64 i ∧ (∀ j (hj : j < l.length), j < i → l[j].2.1.length ≤ 100) ∧ Below w.heap.size w wr) (fun t _ => 21 - (intOf t).toNat)
 case atStart => exact ⟨0, by omega, by omega, rfl, fun j _ h => absurd h (by omega), Below.refl _ _⟩
 case round =>
  obtain ⟨i, hi, hi2, rfl, hyes, hbel⟩ := hrel
  have HL := hid hbel
  have HY := hid hyes
  have VA := hid (HV.out.below hbel)
  clear hbel hyes
  by_cases hil : i < l.length
  ·by_cases h20 : i ≤ 20
   ·obtain ⟨ad, rfl, ga, c0, c1, c2⟩ := at_word VA.out i hil
    obtain ⟨T, hT⟩ : ∃ T : ByteArray, ⟨l[i].2.1.toArray⟩ = T := ⟨_, rfl⟩
    have hsz : T.size = l[i].2.1.length := by rw [← hT]; simp [ByteArray.size]
    rw [hT] at c1
    clear hT
    by_cases h1 : T.size ≤ 100
    ·have HH := hid h1
     have HS := hid hsz
     clear hsz
     go_wp2
     go_roundw
     case rel => exact ⟨i + 1, by omega, by omega, by go_num, fun j hj h => if e : j = i then by subst e; have := HS.out; have := HH.out; omega else HY.out j hj (by omega), HL.out⟩
     case measure => simp [intOf]; omega
    ·have HN := hid (show smallC l = false from small_no hil (by omega))
     clear hsz
     go_wp2
     go_ret
     exact ⟨by rw [HN.out]; rfl, HL.out⟩
   ·have HN := hid (show smallC l = false from small_long (by omega))
    go_wp2
    go_ret
    refine ⟨?_, HL.out⟩
    rw [HN.out]
    show Ending.returned (.bool (decide ((l.length : Int) ≤ 20))) = _
    rw [decide_eq_false (by omega)]
  ·obtain rfl : i = l.length := by omega
   by_cases h20 : l.length ≤ 20
   ·have HN := hid (show smallC l = true from small_yes h20 fun j h => HY.out j h h)
    go_wp2
    go_ret
    refine ⟨?_, HL.out⟩
    rw [HN.out]
    show Ending.returned (.bool (decide ((l.length : Int) ≤ 20))) = _
    rw [decide_eq_true (by omega)]
   ·have HN := hid (show smallC l = false from small_long (by omega))
    go_wp2
    go_ret
    refine ⟨?_, HL.out⟩
    rw [HN.out]
    show Ending.returned (.bool (decide ((l.length : Int) ≤ 20))) = _
    rw [decide_eq_false (by omega)]
theorem apart_all {c : W} {l : List W} {i : Nat} (hi : i ≤ l.length) (h : ∀ j (hj : j < l.length), j < i → l[j].1 ≠ c.1 ∧ l[j].2.1 ≠ c.2.1) : apartC c (l.take i) = true := by
 unfold apartC
 rw [List.all_eq_true]
 intro x hx
 obtain ⟨j, hj, rfl⟩ := List.getElem_of_mem hx
 have hj2 : j < i := by rw [List.length_take] at hj; omega
 obtain ⟨h1, h2⟩ := h j (by omega) hj2
 simp [h1, h2]
theorem apart_none {c : W} {l : List W} {i j : Nat} (hj : j < l.length) (hji : j < i) (h : l[j].1 = c.1 ∨ l[j].2.1 = c.2.1) : apartC c (l.take i) = false := by
 cases e : apartC c (l.take i)
 ·rfl
 ·unfold apartC at e
  rw [List.all_eq_true] at e
  have hm : l[j] ∈ l.take i := by
   have hl : j < (l.take i).length := by rw [List.length_take]; omega
   have := List.getElem_mem hl
   rwa [List.getElem_take] at this
  have := e _ hm
  rcases h with h | h <;> simp [h] at this
theorem sch_no {l : List W} (i : Nat) (hi : i < l.length) (h : colC l[i] = false ∨ apartC l[i] (l.take i) = false) : schC l = false := by
 have : schL [] (l.take (i + 1)) = false := by
  rw [schL_take l i hi]
  rcases h with h | h <;> simp [h]
 unfold schC
 rw [schL_false _ this, Bool.false_and]
theorem rright12_any (A : Option Addr) (cap : Nat) (l : List W) (w : World) (hv : At wc 3 w w.heap.size A l) (hl : l.length ≤ 4194304) (hn : ∀ c ∈ l, c.2.1.length ≤ 4194304) :
  Calls Tryz.prog 18 #[.slice A l.length cap] w fun e w' => e = .returned (.bool (schC l)) ∧ Below w.heap.size w w' := by
 have HV := hid hv
 have HN := hid hn
 clear hv hn
 go_enter Tryz.func18, Tryz.ntmps18
 go_wp2
 go_loopw [3] (fun t wr => ∃ i : Nat, i ≤ l.length ∧ t = .int .i64 i ∧ schL [] (l.take i) = true ∧ Below w.heap.size w wr) (fun t _ => l.length - (intOf t).toNat)
 case atStart => exact ⟨0, by omega, rfl, rfl, Below.refl _ _⟩
 case round =>
  obtain ⟨i, hi, rfl, hyes, hbel⟩ := hrel
  have hsz := hbel.size
  have HL := hid hbel
  have HY := hid hyes
  have VA := hid (HV.out.below hbel)
  clear hbel hyes
  by_cases hil : i < l.length
  ·obtain ⟨ad, rfl, ga, c0, c1, c2⟩ := at_word VA.out i hil
   have hlen := HN.out l[i] (List.getElem_mem hil)
   have HT := hid (schL_take l i hil)
   have HNO := hid (fun h => sch_no i hil h)
   obtain ⟨x, hx⟩ : ∃ x, l[i] = x := ⟨_, rfl⟩
   have HX := hid hx
   rw [hx] at c0 c1 c2 hlen HT HNO
   clear hx
   obtain ⟨n, t, k⟩ := x
   obtain ⟨T, hT⟩ : ∃ T : ByteArray, ⟨t.toArray⟩ = T := ⟨_, rfl⟩
   have hTs : T.size ≤ 4194304 := by rw [← hT]; simpa [ByteArray.size] using hlen
   have hTd : T.data.toList = t := by rw [← hT]
   have HC := hid (fun w' => rcol_any n k T w' hTs)
   dsimp only at c0 c1 c2
   rw [hT] at c1
   rw [hTd] at HC
   obtain ⟨o, ho⟩ : ∃ o, colC (n, t, k) = o := ⟨_, rfl⟩
   rw [ho] at HC HT HNO
   have HTT := hid hT
   clear hT hTs hTd ho hlen
   go_wp2_with fail
   refine (HC.out _).mono ?_
   rintro e w1 ⟨rfl, hb⟩
   have L1 := hid (HL.out.trans (hb.mono hsz))
   have V1 := hid (VA.out.below (hb.mono (by omega)))
   clear hb c0 c1 c2 HC
   cases o
   ·have HF := hid (HNO.out (.inl rfl))
    go_wp2
    go_ret
    exact ⟨by rw [HF.out]; rfl, L1.out⟩
   go_wp2
   go_loopw [5] (fun t2 w2 => ∃ q : Nat, q ≤ i ∧ t2 = .int .i64 q ∧ (∀ j (hj : j < l.length), j < q → l[j].1 ≠ n ∧ l[j].2.1 ≠ t) ∧ Below w1.heap.size w1 w2) (fun t2 _ => i - (intOf t2).toNat)
   case atStart => exact ⟨0, by omega, rfl, fun j _ h => absurd h (by omega), Below.refl _ _⟩
   case round =>
    obtain ⟨q, hq, rfl, hap, hbel⟩ := hrel
    have H2 := hid hbel
    have HA := hid hap
    have V2 := hid (V1.out.below (hbel.mono (by have := L1.out.size; omega)))
    clear hbel hap
    by_cases hqi : q < i
    ·obtain ⟨bd, e0, gb, c0, c1, c2⟩ := at_word V2.out i hil
     obtain rfl := Option.some.inj e0
     rw [HX.out] at c0 c1 c2
     obtain ⟨_, e1, _, d0, d1, d2⟩ := at_word V2.out q (by omega)
     obtain rfl := Option.some.inj e1
     dsimp only at c0 c1 c2
     rw [HTT.out] at c1
     have hql : q < l.length := by omega
     by_cases hd0 : l[q].1 = n
     ·have HF := hid (HNO.out (.inr (apart_none hql hqi (.inl hd0))))
      rw [hd0] at d0
      clear e0 e1 hd0 c2 d2
      go_wp2
      go_quiet (fail)
      go_wp2
      go_ret
      exact ⟨by rw [HF.out]; rfl, (drewN_below (L1.out.trans (H2.out.mono (by have := L1.out.size; omega))) _)⟩
     ·have e5 : (l[q].1 == n) = false := by simpa using hd0
      by_cases hnm : l[q].2.1 = t
      ·have HF := hid (HNO.out (.inr (apart_none hql hqi (.inr hnm))))
       rw [hnm, HTT.out] at d1
       clear e0 e1 hd0 hnm c2 d2
       go_wp2
       go_quiet (fail)
       go_wp2
       go_ret
       exact ⟨by rw [HF.out]; rfl, (drewN_below (L1.out.trans (H2.out.mono (by have := L1.out.size; omega))) _)⟩
      ·obtain ⟨S, hS⟩ : ∃ S : ByteArray, ⟨l[q].2.1.toArray⟩ = S := ⟨_, rfl⟩
       have e6 : (S.toList == T.toList) = false := by rw [ByteArray.toList_eq, ByteArray.toList_eq, ← HTT.out, ← hS]; simpa using hnm
       rw [hS] at d1
       have HI := hid hd0
       have HM := hid hnm
       clear e0 e1 hd0 hnm c2 d2 hS
       go_wp2
       go_quiet (fail)
       go_wp2
       go_roundw
       case rel => exact ⟨q + 1, by omega, by go_num, fun j hj h => if e : j = q then by subst e; exact ⟨HI.out, HM.out⟩ else HA.out j hj (by omega), drewN_below H2.out _⟩
       case measure => simp [intOf]; omega
    ·obtain rfl : q = i := by omega
     have HAP := hid (show apartC (n, t, k) (l.take q) = true from apart_all hi HA.out)
     have HY2 := hid (show schL [] (l.take (q + 1)) = true by rw [HT.out, HY.out, HAP.out]; rfl)
     go_wp2
     go_roundw
     case rel => exact ⟨q + 1, by omega, by go_num, HY2.out, L1.out.trans (H2.out.mono (by have := L1.out.size; omega))⟩
     case measure => simp [intOf]; omega
  ·obtain rfl : i = l.length := by omega
   rw [List.take_length] at HY
   have HF := hid (show schC l = (decide (1 ≤ l.length) && decide (l.length ≤ 12)) by unfold schC; rw [HY.out, Bool.true_and])
   by_cases h1 : 1 ≤ l.length
   ·by_cases h2 : l.length ≤ 12
    ·have HG := hid (show schC l = true by rw [HF.out]; simp [h1, h2])
     go_wp2
     go_ret
     exact ⟨by rw [HG.out]; first | rfl | (simp [h1, h2]; omega), HL.out⟩
    ·have HG := hid (show schC l = false by rw [HF.out]; simp [h2])
     go_wp2
     go_ret
     exact ⟨by rw [HG.out]; first | rfl | (simp [h1, h2]; omega), HL.out⟩
   ·have HG := hid (show schC l = false by rw [HF.out]; simp [h1])
    go_wp2
    go_ret
    exact ⟨by rw [HG.out]; first | rfl | (simp [h1]; done), HL.out⟩
theorem findZ_neg {l : List W} {s : List UInt8} (h : findC l s = none) : findZ l s = -1 := by unfold findZ; rw [h]
theorem findZ_pos {l : List W} {s : List UInt8} {k : Nat} (h : findC l s = some k) : findZ l s = k := by unfold findZ; rw [h]
theorem info_col : (Tryz.prog.info? 54).map (fun i => (i.zero, i.size, i.bytes)) = some (some (.agg #[.int .i64 0, .string ByteArray.empty, .int .i64 0]), 3, 32) := by kernel_rfl
def MGlob (m : Int) (w : World) : Prop := w.cell? ⟨0, 0, none⟩ = some (.int .i64 m)
theorem MGlob.next {m : Int} {w w' : World} (h : MGlob m w) (hb : Below w.heap.size w w') : MGlob m w' :=
 (hb.cell (p := ⟨0, 0, none⟩) (World.block_lt_of_cell? _ _ h)).trans h
def oneN (s : List UInt8) : List W → Bool
 | [w] => w.1 == 0 && (w.2.1 == s && w.2.2 == 0)
 | _ => false
theorem name_words2 {s : List UInt8} (h : ownN s = false) : nameC s = oneN s (wL s) := by
 rw [name_words h]
 unfold wL
 cases wordsL s 0 with
 | error j => rfl
 | ok l =>
  rcases l with _ | ⟨a, _ | ⟨b, l⟩⟩ <;> rfl
theorem sname_any (s : ByteArray) (m : Int) (w : World) (hs : s.size ≤ 1000) (hg : MGlob m w) :
  Calls Tryz.prog 103 #[.string s] w fun e w' => e = .returned (.bool (nameC s.data.toList)) ∧ Below w.heap.size w w' := by
 have hlen : s.data.toList.length = s.size := by rw [Array.length_toList]; rfl
 by_cases h20 : s.size ≤ 20
 case neg =>
  rw [name_short (by omega)]
  clear hlen hg
  go_enter Tryz.func103, Tryz.ntmps103
  go_wp2
  go_ret
  exact ⟨rfl, Below.refl _ _⟩
 have HO := hid (fun w' => own_any s w')
 rw [own_n] at HO
 cases ho : ownN s.data.toList with
 | true =>
  rw [name_own ho]
  rw [ho] at HO
  clear hlen hg ho
  go_enter Tryz.func103, Tryz.ntmps103
  go_wp2_with fail
  refine (HO.out _).mono ?_
  rintro e w1 ⟨rfl, rfl⟩
  go_wp2
  go_ret
  exact ⟨rfl, Below.refl _ _⟩
 | false =>
  rw [ho] at HO
  have HW := hid (words_any s m w (by omega) hg)
  unfold WordsPost at HW
  obtain ⟨R, hR⟩ : ∃ R, nameC s.data.toList = R := ⟨_, rfl⟩
  rw [hR]
  obtain ⟨l, hl⟩ : ∃ l, wL s.data.toList = l := ⟨_, rfl⟩
  obtain ⟨q, hq⟩ : ∃ q, wE s.data.toList = q := ⟨_, rfl⟩
  obtain ⟨p, hp⟩ : ∃ p, wP s.data.toList = p := ⟨_, rfl⟩
  rw [hl, hq, hp] at HW
  rw [name_words2 ho, hl] at hR
  have HR := hid hR
  clear hlen hg ho hR hl hq hp
  go_enter Tryz.func103, Tryz.ntmps103
  go_wp2_with fail
  refine (HO.out _).mono ?_
  rintro e w1' ⟨rfl, rfl⟩
  go_wp2_with fail
  refine HW.out.mono ?_
  rintro e w1 ⟨A, cap, rfl, hat, hb⟩
  have B1 := hid hb
  have AT := hid hat
  clear hb hat
  rcases list_one l with rfl | ⟨a, rfl⟩ | h2
  ·have hr : R = false := by rw [← HR.out]; rfl
   subst hr
   go_wp2
   go_ret
   exact ⟨rfl, B1.out⟩
  ·obtain ⟨k, t, pos⟩ := a
   obtain ⟨ad, rfl, hab, c0, c1, c2⟩ := at_word AT.out 0 (by simp)
   have ea : ad.add (0 * 3) = ad := by simp [Addr.add]
   rw [ea] at c0 c1 c2
   simp only [List.getElem_cons_zero] at c0 c1 c2
   have hr : R = (k == 0 && (t == s.data.toList && pos == 0)) := by rw [← HR.out]; rfl
   by_cases hk : k = 0
   case neg =>
    have e2 : (k == 0) = false := by simpa using hk
    have hr2 : R = false := by rw [hr, e2]; rfl
    subst hr2
    clear hr
    go_wp2
    go_ret
    exact ⟨by simp, B1.out⟩
   subst hk
   by_cases ht : t = s.data.toList
   case neg =>
    obtain ⟨T, hT⟩ : ∃ T : ByteArray, ⟨t.toArray⟩ = T := ⟨_, rfl⟩
    have e3 : (T.toList == s.toList) = false := by rw [ByteArray.toList_eq, ByteArray.toList_eq, ← hT]; simpa using ht
    have hr2 : R = false := by rw [hr]; simp [ht]
    rw [hT] at c1
    subst hr2
    clear ht hr hT
    go_wp2
    go_ret
    exact ⟨by simp, B1.out⟩
   subst ht
   rw [Lib.mk_data] at c1
   by_cases hp : pos = 0
   ·subst hp
    have hr2 : R = true := by rw [hr]; simp
    subst hr2
    clear hr
    go_wp2
    go_ret
    exact ⟨by simp, B1.out⟩
   ·have e4 : (pos == 0) = false := by simpa using hp
    have hr2 : R = false := by rw [hr, e4]; simp
    subst hr2
    clear hr
    go_wp2
    go_ret
    exact ⟨by simp, B1.out⟩
  ·have hr : R = false := by
    rw [← HR.out]
    match l, h2 with
    | a :: b :: l, _ => rfl
   obtain ⟨N, hN⟩ : ∃ N, l.length = N := ⟨_, rfl⟩
   rw [hN] at h2
   have e4 : ((N : Int) == 1) = false := by simp; omega
   subst hr
   rw [hN]
   clear hN
   go_wp2
   go_ret
   exact ⟨by simp, B1.out⟩
def AskC (fn : Nat) (cps : Array Value) (p : W → Bool) (Pre : World → Prop) : Prop :=
 ∀ (n k : Int) (s : ByteArray) (w : World), Pre w → Calls Tryz.prog fn (#[.agg #[.int .i64 n, .string s, .int .i64 k]] ++ cps) w fun e w' => e = .returned (.bool (p (n, s.data.toList, k))) ∧ Below w.heap.size w w'
theorem sfirst_any (fn : Nat) (en : ∀ args w, (callFunc fn args).run Tryz.prog w = .ok (.enter fn args) w) (cps : Array Value) (p : W → Bool) (A : Option Addr) (cap : Nat) (l : List W) (w : World) (hv : At wc 3 w w.heap.size A l) (hl : l.length ≤ 4194304) (ha : AskC fn cps p (fun w' => Below w.heap.size w w')) :
  Calls Tryz.prog 157 #[.slice A l.length cap, .func (.func fn) #[] cps] w fun e w' => e = .returned (.tuple #[.int .i64 (firstI p l), .bool (firstB p l)]) ∧ Below w.heap.size w w' := by
 have HV := hid hv
 have HA := hid ha
 clear hv ha
 go_enter Tryz.func157, Tryz.ntmps157
 go_wp2
 go_loopw [9] (fun t wr => ∃ i : Nat, i ≤ l.length ∧ t = .int .i64 i ∧ (∀ j (hj : j < l.length), j < i → p l[j] = false) ∧ Below w.heap.size w wr) (fun t _ => l.length - (intOf t).toNat)
 case atStart => exact ⟨0, by omega, rfl, fun j _ h => absurd h (by omega), Below.refl _ _⟩
 case round =>
  obtain ⟨i, hi, rfl, hno, hbel⟩ := hrel
  have HL := hid hbel
  have HNO := hid hno
  have VA := hid (HV.out.below hbel)
  clear hbel hno
  by_cases hil : i < l.length
  ·obtain ⟨ad, rfl, ga, c0, c1, c2⟩ := at_word VA.out i hil
   have HF := hid (first_at (p := p) hil)
   have HN2 := hid (fun (h : p l[i] = false) => show ∀ j (hj : j < l.length), j < i + 1 → p l[j] = false from fun j hj h2 => if e : j = i then by subst e; exact h else HNO.out j hj (by omega))
   obtain ⟨x, hx⟩ : ∃ x, l[i] = x := ⟨_, rfl⟩
   rw [hx] at c0 c1 c2 HF HN2
   clear hx
   obtain ⟨n, t, k⟩ := x
   dsimp only at c0 c1 c2
   obtain ⟨T, hT⟩ : ∃ T : ByteArray, ⟨t.toArray⟩ = T := ⟨_, rfl⟩
   have hTl : T.data.toList = t := by rw [← hT]
   rw [hT] at c1
   have HC := hid (HA.out n k T wr HL.out)
   rw [hTl] at HC
   obtain ⟨b, hb⟩ : ∃ b, p (n, t, k) = b := ⟨_, rfl⟩
   rw [hb] at HC HF HN2
   clear hT hTl hb
   go_wp2_with fail
   refine HC.out.mono ?_
   rintro e w1 ⟨rfl, hb1⟩
   have L1 := hid (HL.out.trans (hb1.mono HL.out.size))
   clear hb1 HC c0 c1 c2
   cases b
   ·go_wp2
    go_roundw
    case rel => exact ⟨i + 1, by omega, by go_num, HN2.out (by first | exact rfl | exact trivial), L1.out⟩
    case measure => simp [intOf]; omega
   ·have HI := hid (HF.out (by first | exact rfl | exact trivial) (fun j hj h => HNO.out j hj h))
    go_wp2
    go_ret2
    exact ⟨by rw [HI.out.1, HI.out.2]; rfl, L1.out⟩
  ·obtain rfl : i = l.length := by omega
   have HI := hid (first_no (p := p) (fun j hj => HNO.out j hj hj))
   go_wp2
   go_ret2
   exact ⟨by rw [HI.out.1, HI.out.2]; rfl, HL.out⟩
theorem findAsk_any (q : ByteArray) (g : Nat) (w0 : World) (hq : w0.cell? ⟨g, 0, none⟩ = some (.string q)) (hg : g < w0.heap.size) : AskC 158 #[.pointer (some ⟨g, 0, none⟩)] (fun c => c.2.1 == q.data.toList) (fun w' => Below w0.heap.size w0 w') := by
 intro n k s w hb
 have c0 := (hb.cell (p := ⟨g, 0, none⟩) hg).trans hq
 have hgw : g < w.heap.size := Nat.lt_of_lt_of_le hg hb.size
 have HB := hid (below_alloc w (.cells #[.int .i64 n, .string s, .int .i64 k] 54))
 obtain ⟨b, hbe⟩ : ∃ b, (s.toList == q.toList) = b := ⟨_, rfl⟩
 have HE := hid (show (s.data.toList == q.data.toList) = b by rw [← hbe, ByteArray.toList_eq, ByteArray.toList_eq])
 dsimp only
 rw [HE.out]
 have e0 : ∀ o, (w.alloc o).cell? ⟨g, 0, none⟩ = some (.string q) := fun o => (World.cell?_alloc_old w _ _ (Nat.ne_of_lt hgw)).trans c0
 clear hb hq c0
 go_enter Tryz.func158, Tryz.ntmps158
 go_wp2
 go_ret
 exact ⟨by simp, HB.out⟩
def FindPost (w : World) (z : Int) (e : Ending) (w' : World) : Prop := e = .returned (.tuple #[.int .i64 (max z 0), .bool (decide (0 ≤ z))]) ∧ Below w.heap.size w w'
theorem sfind_any (A : Option Addr) (cap : Nat) (l : List W) (s : ByteArray) (w : World) (hv : At wc 3 w w.heap.size A l) (hl : l.length ≤ 4194304) :
  Calls Tryz.prog 91 #[.slice A l.length cap, .string s] w (FindPost w (findZ l s.data.toList)) := by
 unfold FindPost
 rw [(findZ_first l s.data.toList).1, (findZ_first l s.data.toList).2]
 obtain ⟨o, ho⟩ : ∃ o, Obj.cells #[Value.string s] 9 = o := ⟨_, rfl⟩
 have c0 : (w.alloc o).cell? ⟨w.heap.size, 0, none⟩ = some (.string s) := by rw [← ho]; simp
 have HB := hid (below_alloc w o)
 have HF := hid (sfirst_any 158 (enters_of Tryz.func158 (by kernel_rfl) rfl) #[.pointer (some ⟨w.heap.size, 0, none⟩)] (fun c => c.2.1 == s.data.toList) A cap l (w.alloc o) ((hv.below HB.out).more HB.out.size) hl (findAsk_any s w.heap.size (w.alloc o) c0 (by simp)))
 obtain ⟨i, hi⟩ : ∃ i, firstI (fun c => c.2.1 == s.data.toList) l = i := ⟨_, rfl⟩
 obtain ⟨b, hb⟩ : ∃ b, firstB (fun c => c.2.1 == s.data.toList) l = b := ⟨_, rfl⟩
 rw [hi, hb] at HF
 rw [hi, hb]
 rw [← ho] at HF HB
 clear hi hb c0 hv ho o
 go_enter Tryz.func91, Tryz.ntmps91
 go_wp2_with fail
 refine HF.out.mono ?_
 rintro e w1 ⟨rfl, hb1⟩
 have L1 := hid (HB.out.trans (hb1.mono HB.out.size))
 clear hb1
 go_wp2
 go_ret2
 exact ⟨rfl, L1.out⟩
end Go.Proofs.YthpmgnfmeldkjaaGreatDoor.Code
