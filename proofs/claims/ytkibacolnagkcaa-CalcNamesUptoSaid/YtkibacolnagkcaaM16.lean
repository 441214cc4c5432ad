/-
  Nodes with any Kids in memory: what lies where, what stays; a list of nodes that is the call's own. No function of the program is named here.
-/
import Derived.Test.YtkibacolnagkcaaM7
import Derived.Test.YtkibacolnagkcaaM14
import Derived.Test.YtkibacolnagkcaaM15
import Derived.Deep.RegionHeld3
import Derived.Test.YtkibacolnagkcaaM10
import Derived.Test.YtkibacolnagkcaaM6
namespace Go.Proofs.Ytkibacolnagkcaa.Code
open Go.ChangeShapes Go.WideShapes Go.ChangeAt Go.RowKit Val Elems
set_option linter.unusedVariables false
/-- a node's values: its Op, its Text, its Kids -/
abbrev NV := ByteArray × ByteArray × Option Addr × Nat × Nat
def nv (x : NV) : Value := .agg #[.string x.1, .string x.2.1, .slice x.2.2.1 x.2.2.2.1 x.2.2.2.2]
def nc (x : NV) : List Value := [.string x.1, .string x.2.1, .slice x.2.2.1 x.2.2.2.1 x.2.2.2.2]
theorem nc_length (x : NV) : (nc x).length = 3 := rfl
theorem nc_one : ∀ x : NV, ∀ u ∈ nc x, u.oneCell' = true := by
  intro x u hu
  simp [nc] at hu
  rcases hu with rfl | rfl | rfl <;> rfl
/-- a list of nodes' values, in such blocks -/
def NAt (w : World) (S : Nat → Prop) (X : Option Addr) (l : List NV) : Prop :=
  ∀ (i : Nat) (h : i < l.length), ∃ ad : Addr, X = some ad ∧ S ad.block ∧ w.cell? (ad.add (i * 3)) = some (.string l[i].1) ∧ w.cell? ⟨(ad.add (i * 3)).block, (ad.add (i * 3)).off + 1, none⟩ = some (.string l[i].2.1) ∧ w.cell? ⟨(ad.add (i * 3)).block, (ad.add (i * 3)).off + 2, none⟩ = some (.slice l[i].2.2.1 l[i].2.2.2.1 l[i].2.2.2.2)
/-- a node in memory, in such blocks -/
inductive RIn (w : World) (S : Nat → Prop) : Nod → NV → Prop
  | mk (op tx : List UInt8) (ks : List Nod) (X : Option Addr) (cap : Nat) (l : List NV) (hl : l.length = ks.length) (hb : ks.length ≤ 2600000000000) (hc : ks.length ≤ cap) (hat : NAt w S X l) (hks : ∀ (i : Nat) (h : i < ks.length), RIn w S ks[i] (l[i]'(by omega))) :
      RIn w S (.mk op tx ks) (⟨op.toArray⟩, ⟨tx.toArray⟩, X, ks.length, cap)
theorem NAt.keep {w w' : World} {S S' : Nat → Prop} {X : Option Addr} {l : List NV} (h : NAt w S X l) (hS : ∀ g, S g → S' g) (hk : ∀ p : Addr, S p.block → w'.cell? p = w.cell? p) : NAt w' S' X l := by
  intro i hi
  obtain ⟨ad, e, hs, c0, c1, c2⟩ := h i hi
  have hb : S (ad.add (i * 3)).block := by rw [add_block]; exact hs
  exact ⟨ad, e, hS _ hs, (hk _ hb).trans c0, (hk ⟨(ad.add (i * 3)).block, (ad.add (i * 3)).off + 1, none⟩ hb).trans c1, (hk ⟨(ad.add (i * 3)).block, (ad.add (i * 3)).off + 2, none⟩ hb).trans c2⟩
theorem RIn.keep {w w' : World} {S S' : Nat → Prop} (hS : ∀ g, S g → S' g) (hk : ∀ p : Addr, S p.block → w'.cell? p = w.cell? p) {t : Nod} {x : NV} (h : RIn w S t x) : RIn w' S' t x := by
  induction h with
  | mk op tx ks X cap l hl hb hc hat hks ih => exact .mk op tx ks X cap l hl hb hc (hat.keep hS hk) ih
theorem RIn.imp {w : World} {S S' : Nat → Prop} {t : Nod} {x : NV} (h : RIn w S t x) (hS : ∀ g, S g → S' g) : RIn w S' t x := h.keep hS (fun _ _ => rfl)
theorem RIn.bel {w w' : World} {S : Nat → Prop} {t : Nod} {x : NV} (h : RIn w S t x) (hS : ∀ g, S g → g < w.heap.size) (hb : Below w.heap.size w w') : RIn w' S t x := h.keep (fun _ h => h) (fun p hp => hb.cell (hS _ hp))
theorem RIn.alloc {w : World} {S : Nat → Prop} {t : Nod} {x : NV} (h : RIn w S t x) (hS : ∀ g, S g → g < w.heap.size) (o : Obj) : RIn (w.alloc o) S t x := h.bel hS (below_alloc w o)
theorem RIn.but {w w' : World} {S : Nat → Prop} {r : Nat} {t : Nod} {x : NV} (h : RIn w S t x) (hS : ∀ g, S g → g < w.heap.size ∧ g ≠ r) (hb : But w w' r) : RIn w' S t x := h.keep (fun _ h => h) (fun p hp => hb.cell (hS _ hp).1 (hS _ hp).2)
theorem RIn.setCell {w : World} {S : Nat → Prop} {t : Nod} {x : NV} (h : RIn w S t x) (p : Addr) (hp : ¬ S p.block) (u : Value) : RIn (w.setCell p u) S t x :=
  h.keep (fun _ h => h) (fun q hq => World.cell?_setCell_other _ _ _ _ (by intro e; rw [e] at hp; exact hp hq))
theorem RIn.w3 {w : World} {S : Nat → Prop} {t : Nod} {x : NV} (h : RIn w S t x) {g : Nat} (hg : ¬ S g) (a b c : Value) : RIn (W3 w g a b c) S t x := ((h.setCell _ hg _).setCell _ hg _).setCell _ hg _
theorem RIn.cap {w : World} {S : Nat → Prop} {t : Nod} {x : NV} (h : RIn w S t x) : t.ks.length ≤ x.2.2.2.2 := by
  cases h with
  | mk op tx ks X cap l hl hb hc hat hks => exact hc
theorem RIn.texts {w : World} {S : Nat → Prop} {t : Nod} {x : NV} (h : RIn w S t x) : x.1 = ⟨t.op.toArray⟩ ∧ x.2.1 = ⟨t.tx.toArray⟩ ∧ x.2.2.2.1 = t.ks.length ∧ t.ks.length ≤ 2600000000000 := by
  cases h with
  | mk op tx ks X cap l hl hb hc hat hks => exact ⟨rfl, rfl, rfl, hb⟩
/-- what lies behind a node: a Kid -/
theorem RIn.kid {w : World} {S : Nat → Prop} {t : Nod} {x : NV} (h : RIn w S t x) (k : Nat) (hk : k < t.ks.length) : ∃ (ad : Addr) (y : NV), x.2.2.1 = some ad ∧ S ad.block ∧ w.cell? (ad.add (k * 3)) = some (.string y.1) ∧ w.cell? ⟨(ad.add (k * 3)).block, (ad.add (k * 3)).off + 1, none⟩ = some (.string y.2.1) ∧ w.cell? ⟨(ad.add (k * 3)).block, (ad.add (k * 3)).off + 2, none⟩ = some (.slice y.2.2.1 y.2.2.2.1 y.2.2.2.2) ∧ RIn w S t.ks[k] y := by
  cases h with
  | mk op tx ks X cap l hl hb hc hat hks =>
    have hk' : k < ks.length := hk
    obtain ⟨ad, e, hs, c0, c1, c2⟩ := hat k (by omega)
    exact ⟨ad, l[k], e, hs, c0, c1, c2, hks k hk'⟩
/-- an expression's node is one -/
theorem NIn.rin {w : World} {S : Nat → Prop} : ∀ (t : Tr) (op tx : ByteArray) (X : Option Addr) (n m : Nat), NIn w S t (.string op) (.string tx) (.slice X n m) → RIn w S t.n (op, tx, X, n, m)
  | .leaf o t, op, tx, X, n, m, h => by
    obtain ⟨h1, h2, h3⟩ := h
    injection h1 with h1
    injection h2 with h2
    injection h3 with h3 h4 h5
    subst h1 h2 h3 h4 h5
    exact .mk o t [] none 0 [] rfl (by decide) (by decide) (fun i hi => absurd hi (Nat.not_lt_zero _)) (fun i hi => absurd hi (Nat.not_lt_zero _))
  | .one o x, op, tx, X, n, m, h => by
    obtain ⟨h1, h2, g, cap, x0, x1, x2, h3, h4, c0, c1, c2, hx⟩ := h
    injection h1 with h1
    injection h2 with h2
    injection h3 with h3 h5 h6
    subst h1 h2 h3 h5 h6
    obtain ⟨X1, n1, k1, rfl⟩ := hx.form
    obtain ⟨rfl, rfl⟩ := hx.texts
    have ih := NIn.rin x _ _ X1 n1 k1 hx
    refine .mk o [] [x.n] (some ⟨g, 0, none⟩) (cap + 1) [(⟨(opOf x).toArray⟩, ⟨(txOf x).toArray⟩, X1, n1, k1)] rfl (by simp) (by simp) (fun i hi => ?_) (fun i hi => ?_)
    · obtain rfl : i = 0 := by simp at hi; exact hi
      exact ⟨_, rfl, h4, c0, c1, c2⟩
    · obtain rfl : i = 0 := by simp at hi; exact hi
      exact ih
  | .two o x y, op, tx, X, n, m, h => by
    obtain ⟨h1, h2, g, cap, x0, x1, x2, y0, y1, y2, h3, h4, c0, c1, c2, d0, d1, d2, hx, hy⟩ := h
    injection h1 with h1
    injection h2 with h2
    injection h3 with h3 h5 h6
    subst h1 h2 h3 h5 h6
    obtain ⟨X1, n1, k1, rfl⟩ := hx.form
    obtain ⟨rfl, rfl⟩ := hx.texts
    obtain ⟨X2, n2, k2, rfl⟩ := hy.form
    obtain ⟨rfl, rfl⟩ := hy.texts
    have ih := NIn.rin x _ _ X1 n1 k1 hx
    have ih2 := NIn.rin y _ _ X2 n2 k2 hy
    refine .mk o [] [x.n, y.n] (some ⟨g, 0, none⟩) (cap + 2) [(⟨(opOf x).toArray⟩, ⟨(txOf x).toArray⟩, X1, n1, k1), (⟨(opOf y).toArray⟩, ⟨(txOf y).toArray⟩, X2, n2, k2)] rfl (by simp) (by simp) (fun i hi => ?_) (fun i hi => ?_)
    · have hc : i = 0 ∨ i = 1 := by simp at hi; omega
      rcases hc with rfl | rfl
      · exact ⟨_, rfl, h4, c0, c1, c2⟩
      · exact ⟨_, rfl, h4, d0, d1, d2⟩
    · have hc : i = 0 ∨ i = 1 := by simp at hi; omega
      rcases hc with rfl | rfl
      · exact ih
      · exact ih2
/-- nodes beside their values -/
def RAll (w : World) (S : Nat → Prop) (ks : List Nod) (l : List NV) : Prop := l.length = ks.length ∧ ∀ (i : Nat) (h : i < ks.length) (h' : i < l.length), RIn w S ks[i] l[i]
theorem RAll.nil (w : World) (S : Nat → Prop) : RAll w S [] [] := ⟨rfl, fun i h => absurd h (Nat.not_lt_zero _)⟩
theorem RAll.keep {w w' : World} {S S' : Nat → Prop} (hS : ∀ g, S g → S' g) (hk : ∀ p : Addr, S p.block → w'.cell? p = w.cell? p) {ks : List Nod} {l : List NV} (h : RAll w S ks l) : RAll w' S' ks l := ⟨h.1, fun i hi hi' => (h.2 i hi hi').keep hS hk⟩
theorem RAll.snoc {w : World} {S : Nat → Prop} {ks : List Nod} {l : List NV} (h : RAll w S ks l) {t : Nod} {x : NV} (hx : RIn w S t x) : RAll w S (ks ++ [t]) (l ++ [x]) := by
  refine ⟨by simp [h.1], fun i hi hi' => ?_⟩
  by_cases hlt : i < ks.length
  · rw [List.getElem_append_left hlt, List.getElem_append_left (by rw [h.1]; exact hlt)]
    exact h.2 i hlt _
  · obtain rfl : i = ks.length := by simp at hi; omega
    rw [List.getElem_append_right (Nat.le_refl _), List.getElem_append_right (by rw [h.1]; exact Nat.le_refl _)]
    simp only [Nat.sub_self, h.1, List.getElem_singleton]
    exact hx
theorem RAll.append {w : World} {S : Nat → Prop} {ks ks' : List Nod} {l l' : List NV} (h : RAll w S ks l) (h' : RAll w S ks' l') : RAll w S (ks ++ ks') (l ++ l') := by
  refine ⟨by simp [h.1, h'.1], fun i hi hi' => ?_⟩
  by_cases hlt : i < ks.length
  · rw [List.getElem_append_left hlt, List.getElem_append_left (by rw [h.1]; exact hlt)]
    exact h.2 i hlt _
  · rw [List.getElem_append_right (by omega), List.getElem_append_right (by rw [h.1]; omega)]
    simp only [h.1]
    exact h'.2 _ _ _
theorem RAll.one {w : World} {S : Nat → Prop} {t : Nod} {x : NV} (hx : RIn w S t x) : RAll w S [t] [x] := (RAll.nil w S).snoc hx
/-- a list of nodes is read as one -/
theorem nat_of {w : World} {B : Nat} {A : Option Addr} {l : List NV} {S : Nat → Prop} (h : At nc 3 w B A l) (hS : ∀ ad, A = some ad → 0 < l.length → S ad.block) : NAt w S A l := by
  intro i hi
  obtain ⟨ad, e, hb, h0⟩ := h i hi
  refine ⟨ad, e, hS ad e (by omega), h0 0 _ rfl, ?_, ?_⟩
  · rw [← add_next]; exact h0 1 _ rfl
  · rw [← add_next]; exact h0 2 _ rfl
/-- .. and appended as one -/
theorem NAt.at {w : World} {S : Nat → Prop} {X : Option Addr} {l : List NV} (h : NAt w S X l) {B : Nat} (hB : ∀ g, S g → g < B) : At nc 3 w B X l := by
  intro i hi
  obtain ⟨ad, e, hs, c0, c1, c2⟩ := h i hi
  refine ⟨ad, e, hB _ hs, fun j u hu => ?_⟩
  have hj : j = 0 ∨ j = 1 ∨ j = 2 := by
    have := (List.getElem?_eq_some_iff.1 hu).1
    rw [nc_length] at this
    omega
  rcases hj with rfl | rfl | rfl
  · cases hu; exact c0
  · cases hu; rw [add_next]; exact c1
  · cases hu; rw [add_next]; exact c2
/-- a node is put together -/
theorem RIn.made {w : World} {S : Nat → Prop} {ks : List Nod} {l : List NV} {X : Option Addr} (cap : Nat) (op tx : ByteArray) (hat : NAt w S X l) (h : RAll w S ks l) (hb : ks.length ≤ 2600000000000) (hc : ks.length ≤ cap) : RIn w S (.mk op.data.toList tx.data.toList ks) (op, tx, X, ks.length, cap) := by
  have := RIn.mk (w := w) (S := S) op.data.toList tx.data.toList ks X cap l h.1 hb hc hat (fun i hi => h.2 i hi _)
  rwa [Lib.mk_data, Lib.mk_data] at this
theorem RIn.leafN (w : World) (S : Nat → Prop) (op tx : ByteArray) : RIn w S (.mk op.data.toList tx.data.toList []) (op, tx, none, 0, 0) :=
  RIn.made 0 op tx (l := []) (fun i hi => absurd hi (Nat.not_lt_zero _)) (RAll.nil w S) (by decide) (by decide)
/-- a row of the call's own, with the block that it lies in -/
theorem own_nat {w : World} {B : Nat} {v : Value} {l : List NV} (h : w.ownsRow B 24 3 v l.length (flatC nc l)) : ∃ A cap, v = .slice A l.length cap ∧ NAt w (fun g => B ≤ g ∧ g < w.heap.size) A l ∧ l.length ≤ cap := by
  obtain ⟨A, cap, e, hat⟩ := own_at nc_length h
  have hcp : l.length ≤ cap := by
    rcases h.2 with ⟨hv, hz⟩ | ⟨g, cap', cur, hv, _, _, hle, _⟩
    · rw [hz]; exact Nat.zero_le _
    · rw [hv] at e
      injection e with _ _ e
      rw [← e]
      exact hle
  refine ⟨A, cap, e, nat_of hat (fun ad hA hpos => ?_), hcp⟩
  obtain ⟨g, cap', hv, hg, hlt⟩ := h.form hpos
  rw [hv] at e
  injection e with e _
  rw [hA] at e
  injection e with e
  subst e
  exact ⟨hg, hlt⟩
end Go.Proofs.Ytkibacolnagkcaa.Code
/-
  How deep a node is nested, as the document's reader reckons it.
-/
namespace Go.Proofs.Ytkibacolnagkcaa.Code
open Go.ChangeShapes Go.WideShapes Go.ChangeAt Go.RowKit Val Elems
set_option linter.unusedVariables false
set_option linter.unusedSimpArgs false
def kids : Tr → List Tr
  | .leaf _ _ => []
  | .one _ x => [x]
  | .two _ x y => [x, y]
theorem kids_few (t : Tr) : (kids t).length ≤ 2 := by cases t <;> simp [kids]
def dm : List Tr → Nat
  | [] => 0
  | t :: l => max t.deep (dm l)
theorem deep_kids (t : Tr) : t.deep = dm (kids t) + 1 := by
  cases t <;> simp [Tr.deep, kids, dm]
theorem dm_snoc (x : Tr) : ∀ l : List Tr, dm (l ++ [x]) = max (dm l) x.deep
  | [] => by simp [dm]
  | t :: l => by
    show max t.deep (dm (l ++ [x])) = max (max t.deep (dm l)) x.deep
    rw [dm_snoc x l, Nat.max_assoc]
theorem dm_take : ∀ (l : List Tr) (k : Nat), dm (l.take k) ≤ dm l
  | [], k => by simp
  | t :: l, 0 => Nat.zero_le _
  | t :: l, k + 1 => by
    show max t.deep (dm (l.take k)) ≤ max t.deep (dm l)
    have := dm_take l k
    omega
theorem dm_mem {x : Tr} : ∀ {l : List Tr}, x ∈ l → x.deep ≤ dm l
  | [], h => absurd h (by simp)
  | t :: l, h => by
    show _ ≤ max t.deep (dm l)
    rcases List.mem_cons.1 h with rfl | h
    · exact Nat.le_max_left _ _
    · exact Nat.le_trans (dm_mem h) (Nat.le_max_right _ _)
theorem NIn.form' {w : World} {S : Nat → Prop} {t : Tr} {a b c : Value} (h : NIn w S t a b c) : ∃ (X : Option Addr) (n m : Nat), c = .slice X n m := by
  cases t with
  | leaf op tx => exact ⟨_, _, _, h.2.2⟩
  | one op x => obtain ⟨_, _, g, cap, x0, x1, x2, h3, _⟩ := h; exact ⟨_, _, _, h3⟩
  | two op x y => obtain ⟨_, _, g, cap, x0, x1, x2, y0, y1, y2, h3, _⟩ := h; exact ⟨_, _, _, h3⟩
/-- what lies behind a node: its Kids -/
theorem NIn.node {w : World} {S : Nat → Prop} {t : Tr} {a b c : Value} (h : NIn w S t a b c) : ∃ (X : Option Addr) (cap : Nat), c = .slice X (kids t).length cap ∧
    ∀ (k : Nat) (hk : k < (kids t).length), ∃ (ad : Addr) (op tx : ByteArray) (X' : Option Addr) (n m : Nat), X = some ad ∧ S ad.block ∧ w.cell? (ad.add (k * 3)) = some (.string op) ∧ w.cell? ⟨(ad.add (k * 3)).block, (ad.add (k * 3)).off + 1, none⟩ = some (.string tx) ∧ w.cell? ⟨(ad.add (k * 3)).block, (ad.add (k * 3)).off + 2, none⟩ = some (.slice X' n m) ∧ NIn w S (kids t)[k] (.string op) (.string tx) (.slice X' n m) := by
  cases t with
  | leaf op tx => exact ⟨_, _, h.2.2, fun k hk => absurd hk (Nat.not_lt_zero _)⟩
  | one op x =>
    obtain ⟨h1, h2, g, cap, x0, x1, x2, h3, h4, c0, c1, c2, hx⟩ := h
    refine ⟨_, _, h3, fun k hk => ?_⟩
    obtain ⟨X, n, m, rfl⟩ := hx.form'
    obtain ⟨rfl, rfl⟩ := hx.texts
    obtain rfl : k = 0 := by simp [kids] at hk; omega
    exact ⟨_, _, _, _, _, _, rfl, h4, c0, c1, c2, hx⟩
  | two op x y =>
    obtain ⟨h1, h2, g, cap, x0, x1, x2, y0, y1, y2, h3, h4, c0, c1, c2, d0, d1, d2, hx, hy⟩ := h
    refine ⟨_, _, h3, fun k hk => ?_⟩
    obtain ⟨X, n, m, rfl⟩ := hx.form'
    obtain ⟨rfl, rfl⟩ := hx.texts
    obtain ⟨Y, n', m', rfl⟩ := hy.form'
    obtain ⟨rfl, rfl⟩ := hy.texts
    have hc : k = 0 ∨ k = 1 := by simp [kids] at hk; omega
    rcases hc with rfl | rfl
    · exact ⟨_, _, _, _, _, _, rfl, h4, c0, c1, c2, hx⟩
    · exact ⟨_, _, _, _, _, _, rfl, h4, d0, d1, d2, hy⟩
set_option maxHeartbeats 8000000 in
set_option maxRecDepth 100000 in
theorem rdeep_any : ∀ (d : Nat) (t : Tr), t.deep ≤ d → d ≤ 1000000000 → ∀ (S : Nat → Prop) (op tx : ByteArray) (X : Option Addr) (n m : Nat) (w : World), (∀ g, S g → g < w.heap.size) → NIn w S t (.string op) (.string tx) (.slice X n m) →
    Calls Try.prog 28 #[.agg #[.string op, .string tx, .slice X n m]] w fun e w' => e = .returned (.int .i64 t.deep) ∧ Below w.heap.size w w'
  | 0, t, h, _, _, _, _, _, _, _, _, _, _ => absurd h (by rw [deep_kids]; omega)
  | d + 1, t, h, hd, S, op, tx, X, n, m, w, hS, hn => by
    have ih := Lib.hid (fun k (hk : k < (kids t).length) => rdeep_any d (kids t)[k] (by have := dm_mem (List.getElem_mem hk); rw [deep_kids] at h; omega) (by omega))
    rw [deep_kids] at h ⊢
    have hdm : dm (kids t) ≤ d := by omega
    have hkl := kids_few t
    have HS := Lib.hid hS
    obtain ⟨X0, c0, e0, _⟩ := hn.node
    injection e0 with eX en em
    subst en
    have HN := Lib.hid hn
    clear h hS hn eX em
    go_enter Try.func28, Try.ntmps28
    go_wp2
    go_loopw [3, 4] (fun v t' wr => ∃ k : Nat, k ≤ (kids t).length ∧ t' = .int .i64 k ∧ v = .int .i64 (dm ((kids t).take k)) ∧ Below w.heap.size w wr ∧ NBox wr w.heap.size (.string op) (.string tx) (.slice X (kids t).length m)) (fun _ t' _ => (kids t).length - (intOf t').toNat)
    case atStart => exact ⟨0, by omega, rfl, rfl, (Below.refl _ _).alloc (Nat.le_refl _) _, NBox.fresh _ _ _ _ _⟩
    case round =>
      obtain ⟨k, hk, rfl, rfl, hb, hv⟩ := hrel
      have HB := Lib.hid hb
      have HV := Lib.hid hv
      have hz := hb.size
      have hvl := hv.lt
      have HK := Lib.hid (HN.out.below HS.out hb)
      obtain ⟨x0, x1, x2, xf⟩ := hv
      clear hb
      by_cases hlt : k < (kids t).length
      · obtain ⟨X0, c0, e0, hkid⟩ := HK.out.node
        obtain ⟨ad, op', tx', X', n', m', eA, hS', q0, q1, q2, hk'⟩ := hkid k hlt
        injection e0 with eX en em
        obtain rfl : X = some ad := eX.trans eA
        have hKK := Lib.hid hk'
        have had := HS.out _ hS'
        have hdk : dm ((kids t).take k) ≤ dm (kids t) := dm_take _ _
        have hdx : (kids t)[k].deep ≤ dm (kids t) := dm_mem (List.getElem_mem hlt)
        have hdt : dm ((kids t).take (k + 1)) = max (dm ((kids t).take k)) (kids t)[k].deep := by rw [List.take_succ_eq_append_getElem hlt, dm_snoc]
        have HDT := Lib.hid hdt
        clear hkid eX em eA hk' hdt
        go_wp2_with fail
        refine (ih.out k hlt S op' tx' X' n' m' _ (fun g hg => Nat.lt_of_lt_of_le (HS.out g hg) hz) hKK.out).mono ?_
        rintro e w1 ⟨rfl, hb1⟩
        have HB1 := Lib.hid (HB.out.trans (hb1.mono hz))
        have HV1 := Lib.hid (HV.out.below hb1)
        clear hb1 q0 q1 q2 x0 x1 x2 xf
        go_wp2
        go_roundw
        case rel => exact ⟨k + 1, by omega, by go_num, by rw [HDT.out]; simp; omega, HB1.out, HV1.out⟩
        case measure => simp [intOf]; omega
      · obtain rfl : k = (kids t).length := by omega
        rw [List.take_length]
        go_wp2
        go_ret
        exact ⟨by simp, HB.out⟩
end Go.Proofs.Ytkibacolnagkcaa.Code
/-
  Whether two nodes are one, as the document's reader tells it.
-/
namespace Go.Proofs.Ytkibacolnagkcaa.Code
open Go.ChangeShapes Go.WideShapes Go.ChangeAt Go.RowKit Val Elems
set_option linter.unusedVariables false
set_option linter.unusedSimpArgs false
theorem tr_eq (x y : Tr) : x = y ↔ opOf x = opOf y ∧ txOf x = txOf y ∧ kids x = kids y := by
  constructor
  · rintro rfl; exact ⟨rfl, rfl, rfl⟩
  · rintro ⟨h1, h2, h3⟩
    cases x <;> cases y <;> simp [opOf, txOf, kids] at h1 h2 h3 <;> simp_all
theorem NIn.op_eq {w : World} {S : Nat → Prop} {t : Tr} {op tx : ByteArray} {c : Value} (h : NIn w S t (.string op) (.string tx) c) : op = ⟨(opOf t).toArray⟩ ∧ tx = ⟨(txOf t).toArray⟩ := by
  obtain ⟨h1, h2⟩ := h.texts
  exact ⟨by injection h1, by injection h2⟩
theorem bytes_eq (a b : List UInt8) : (⟨a.toArray⟩ : ByteArray) = ⟨b.toArray⟩ ↔ a = b := by
  constructor
  · intro h
    have := congrArg (fun x : ByteArray => x.data.toList) h
    simpa using this
  · rintro rfl; rfl
theorem toList_inj {a b : ByteArray} (h : a.toList = b.toList) : a = b := by
  rw [ByteArray.toList_eq, ByteArray.toList_eq] at h
  have := congrArg (fun l => (⟨l.toArray⟩ : ByteArray)) h
  exact ByteArray.ext (by simpa using this)
theorem take_next {x y : List Tr} {k : Nat} (hx : k < x.length) (hy : k < y.length) (h : x.take k = y.take k) (q : Bool) (hq : decide (x[k] = y[k]) = q) : (q = false → decide (x = y) = false) ∧ (q = true → x.take (k + 1) = y.take (k + 1)) := by
  constructor
  · rintro rfl
    refine decide_eq_false fun e => ?_
    subst e
    simp at hq
  · rintro rfl
    rw [List.take_succ_eq_append_getElem hx, List.take_succ_eq_append_getElem hy, h, of_decide_eq_true hq]
def SamePost (w : World) (q : Bool) (e : Ending) (w' : World) : Prop := e = .returned (.bool q) ∧ Below w.heap.size w w'
end Go.Proofs.Ytkibacolnagkcaa.Code
/-
  How deep a node with any Kids is nested, as the document reckons it, and the program.
-/
namespace Go.Proofs.Ytkibacolnagkcaa.Code
open Go.ChangeShapes Go.WideShapes Go.ChangeAt Go.RowKit Val Elems
set_option linter.unusedVariables false
set_option linter.unusedSimpArgs false
theorem deepL_snoc (x : Nod) : ∀ l : List Nod, Nod.deepL (l ++ [x]) = max (Nod.deepL l) x.deep
  | [] => by simp [Nod.deepL]
  | t :: l => by
    show max t.deep (Nod.deepL (l ++ [x])) = max (max t.deep (Nod.deepL l)) x.deep
    rw [deepL_snoc x l, Nat.max_assoc]
theorem deepL_take : ∀ (l : List Nod) (k : Nat), Nod.deepL (l.take k) ≤ Nod.deepL l
  | [], k => by simp
  | t :: l, 0 => Nat.zero_le _
  | t :: l, k + 1 => by
    show max t.deep (Nod.deepL (l.take k)) ≤ max t.deep (Nod.deepL l)
    have := deepL_take l k
    omega
theorem deepL_mem {x : Nod} : ∀ {l : List Nod}, x ∈ l → x.deep ≤ Nod.deepL l
  | [], h => absurd h (by simp)
  | t :: l, h => by
    show _ ≤ max t.deep (Nod.deepL l)
    rcases List.mem_cons.1 h with rfl | h
    · exact Nat.le_max_left _ _
    · exact Nat.le_trans (deepL_mem h) (Nat.le_max_right _ _)
theorem deep_ks (t : Nod) : t.deep = Nod.deepL t.ks + 1 := by cases t; rfl
set_option maxHeartbeats 8000000 in
set_option maxRecDepth 100000 in
theorem rdeepN_any : ∀ (d : Nat) (t : Nod), t.deep ≤ d → d ≤ 1000000000 → ∀ (S : Nat → Prop) (op tx : ByteArray) (X : Option Addr) (n m : Nat) (w : World), (∀ g, S g → g < w.heap.size) → RIn w S t (op, tx, X, n, m) →
    Calls Try.prog 28 #[.agg #[.string op, .string tx, .slice X n m]] w fun e w' => e = .returned (.int .i64 t.deep) ∧ Below w.heap.size w w'
  | 0, t, h, _, _, _, _, _, _, _, _, _, _ => absurd h (by rw [deep_ks]; omega)
  | d + 1, t, h, hd, S, op, tx, X, n, m, w, hS, hn => by
    have ih := Lib.hid (fun k (hk : k < t.ks.length) => rdeepN_any d t.ks[k] (by have := deepL_mem (List.getElem_mem hk); rw [deep_ks] at h; omega) (by omega))
    rw [deep_ks] at h ⊢
    have hNod.deepL : Nod.deepL t.ks ≤ d := by omega
    obtain ⟨-, -, en, hkl⟩ := hn.texts
    dsimp only at en
    have HS := Lib.hid hS
    subst en
    have HN := Lib.hid hn
    clear h hS hn
    go_enter Try.func28, Try.ntmps28
    go_wp2
    go_loopw [3, 4] (fun v t' wr => ∃ k : Nat, k ≤ t.ks.length ∧ t' = .int .i64 k ∧ v = .int .i64 (Nod.deepL (t.ks.take k)) ∧ Below w.heap.size w wr ∧ NBox wr w.heap.size (.string op) (.string tx) (.slice X t.ks.length m)) (fun _ t' _ => t.ks.length - (intOf t').toNat)
    case atStart => exact ⟨0, by omega, rfl, rfl, (Below.refl _ _).alloc (Nat.le_refl _) _, NBox.fresh _ _ _ _ _⟩
    case round =>
      obtain ⟨k, hk, rfl, rfl, hb, hv⟩ := hrel
      have HB := Lib.hid hb
      have HV := Lib.hid hv
      have hz := hb.size
      have hvl := hv.lt
      have HK := Lib.hid (HN.out.bel HS.out hb)
      obtain ⟨x0, x1, x2, xf⟩ := hv
      clear hb
      by_cases hlt : k < t.ks.length
      · obtain ⟨ad, ⟨op', tx', X', n', m'⟩, eA, hS', q0, q1, q2, hk'⟩ := HK.out.kid k hlt
        dsimp only at eA q0 q1 q2
        subst eA
        have hKK := Lib.hid hk'
        have had := HS.out _ hS'
        have hdk : Nod.deepL (t.ks.take k) ≤ Nod.deepL t.ks := deepL_take _ _
        have hdx : t.ks[k].deep ≤ Nod.deepL t.ks := deepL_mem (List.getElem_mem hlt)
        have hdt : Nod.deepL (t.ks.take (k + 1)) = max (Nod.deepL (t.ks.take k)) t.ks[k].deep := by rw [List.take_succ_eq_append_getElem hlt, deepL_snoc]
        have HDT := Lib.hid hdt
        clear hk' hdt
        go_wp2_with fail
        refine (ih.out k hlt S op' tx' X' n' m' _ (fun g hg => Nat.lt_of_lt_of_le (HS.out g hg) hz) hKK.out).mono ?_
        rintro e w1 ⟨rfl, hb1⟩
        have HB1 := Lib.hid (HB.out.trans (hb1.mono hz))
        have HV1 := Lib.hid (HV.out.below hb1)
        clear hb1 q0 q1 q2 x0 x1 x2 xf
        go_wp2
        go_roundw
        case rel => exact ⟨k + 1, by omega, by go_num, by rw [HDT.out]; simp; omega, HB1.out, HV1.out⟩
        case measure => simp [intOf]; omega
      · obtain rfl : k = t.ks.length := by omega
        rw [List.take_length]
        go_wp2
        go_ret
        exact ⟨by simp, HB.out⟩
end Go.Proofs.Ytkibacolnagkcaa.Code
/-
  The law's Size of any node that came in: some number.
-/
namespace Go.Proofs.Ytkibacolnagkcaa.Code
open Go.ChangeShapes Go.WideShapes Go.ChangeAt Go.RowKit Val Elems
set_option linter.unusedVariables false
set_option linter.unusedSimpArgs false
set_option maxHeartbeats 8000000 in
set_option maxRecDepth 100000 in
theorem sizeF_any : ∀ (d : Nat) (t : Nod), t.deep ≤ d → ∀ (S : Nat → Prop) (op tx : ByteArray) (X : Option Addr) (n m : Nat) (w : World), (∀ g, S g → g < w.heap.size) → RIn w S t (op, tx, X, n, m) →
    Calls Try.prog 8 #[.agg #[.string op, .string tx, .slice X n m]] w fun e w' => ∃ K : Int, e = .returned (.int .i64 K) ∧ Below w.heap.size w w'
  | 0, t, h, _, _, _, _, _, _, _, _, _ => absurd h (by rw [deep_ks]; omega)
  | d + 1, t, h, S, op, tx, X, n, m, w, hS, hn => by
    have ih := Lib.hid (fun k (hk : k < t.ks.length) => sizeF_any d t.ks[k] (by have := deepL_mem (List.getElem_mem hk); rw [deep_ks] at h; omega))
    obtain ⟨-, -, en, hkl⟩ := hn.texts
    dsimp only at en
    have HS := Lib.hid hS
    subst en
    have HN := Lib.hid hn
    obtain ⟨B1, hB1⟩ : ∃ B : Int, IntKind.i64.wrap (1 + (op.size : Int)) = B := ⟨_, rfl⟩
    obtain ⟨B0, hB0⟩ : ∃ B : Int, IntKind.i64.wrap (B1 + (tx.size : Int)) = B := ⟨_, rfl⟩
    clear h hS hn
    go_enter Try.func8, Try.ntmps8
    go_wp2
    go_loopw [3, 4] (fun v t' wr => ∃ (k : Nat) (K : Int), k ≤ t.ks.length ∧ t' = .int .i64 (k : Int) ∧ v = .int .i64 K ∧ Below w.heap.size w wr ∧ NBox wr w.heap.size (.string op) (.string tx) (.slice X t.ks.length m)) (fun _ t' _ => t.ks.length - (intOf t').toNat)
    case atStart => exact ⟨0, B0, by omega, rfl, by first | rfl | rw [hB1, hB0], (Below.refl _ _).alloc (Nat.le_refl _) _, NBox.fresh _ _ _ _ _⟩
    case round =>
      obtain ⟨k, K, hk, rfl, rfl, hb, hv⟩ := hrel
      have HB := Lib.hid hb
      have HV := Lib.hid hv
      have hz := hb.size
      have hvl := hv.lt
      have HK := Lib.hid (HN.out.bel HS.out hb)
      obtain ⟨x0, x1, x2, xf⟩ := hv
      clear hb hB1 hB0
      by_cases hlt : k < t.ks.length
      · by_cases hbig : K ≤ 1600
        · obtain ⟨ad, ⟨op', tx', X', n', m'⟩, eA, hS', q0, q1, q2, hk'⟩ := HK.out.kid k hlt
          dsimp only at eA q0 q1 q2
          subst eA
          have hKK := Lib.hid hk'
          have had := HS.out _ hS'
          have hbg : decide (K ≤ 1600) = true := by simpa using hbig
          clear hk' hbig
          go_wp2_with fail
          refine (ih.out k hlt S op' tx' X' n' m' _ (fun g hg => Nat.lt_of_lt_of_le (HS.out g hg) hz) hKK.out).mono ?_
          rintro e w1 ⟨K1, rfl, hb1⟩
          have HB1 := Lib.hid (HB.out.trans (hb1.mono hz))
          have HV1 := Lib.hid (HV.out.below hb1)
          obtain ⟨K2, hK2⟩ : ∃ K2, IntKind.i64.wrap (K + K1) = K2 := ⟨_, rfl⟩
          clear hb1 q0 q1 q2 x0 x1 x2 xf
          go_wp2
          go_roundw
          case rel => exact ⟨k + 1, K2, by omega, by go_num, by first | rfl | rw [hK2], HB1.out, HV1.out⟩
          case measure => simp [intOf]; omega
        · have hbg : decide (K ≤ 1600) = false := by simpa using hbig
          clear hbig
          go_wp2
          go_ret
          exact ⟨K, rfl, HB.out⟩
      · obtain rfl : k = t.ks.length := by omega
        go_wp2
        go_ret
        exact ⟨K, rfl, HB.out⟩
end Go.Proofs.Ytkibacolnagkcaa.Code
/-
  What the live question of layer 13 asks, in plain words.
-/
namespace Go.Proofs.Ytkibacolnagkcaa.Code
open Val
set_option linter.unusedVariables false
def liveE : Tr := .two [43] (.leaf sCol [97]) (.leaf sNum [49])
def liveF : Tr := .two sOr (.two sAnd (.leaf sCol [98]) (.two [60] (.leaf sCol [97]) (.leaf sNum [51, 48, 48, 48, 48, 48, 48, 48, 48, 48]))) (.one sNot (.two [61] (.leaf sCol [97]) (.leaf sCol [97])))
def liveS : List W := [(1, [97], 2), (2, [98], 1)]
def liveR : List CV := [(2, 2147483647, ⟨#[]⟩), (0, 0, ⟨#[]⟩)]
theorem live_1 : parseL [97, 32, 43, 32, 49] = (liveE, 0, 0) := by decide +kernel
theorem live_2 : parseL [98, 32, 97, 110, 100, 32, 97, 32, 60, 32, 51, 48, 48, 48, 48, 48, 48, 48, 48, 48, 32, 111, 114, 32, 110, 111, 116, 32, 40, 97, 32, 61, 32, 97, 41] = (liveF, 0, 0) := by decide +kernel
theorem live_3 : typeE liveS liveE.n = (2, 0) := by decide +kernel
theorem live_4 : (valueK liveS liveR liveE.n).2 = 11 := by decide +kernel
theorem live_5 : valueK liveS liveR liveF.n = (nulV, 0) := by decide +kernel
theorem live_6 : (typeE (liveS.take 1) liveF.n).2 = 121 := by decide +kernel
end Go.Proofs.Ytkibacolnagkcaa.Code
/-
  The number that figures are, one by one. No program is named here.
-/
namespace Go.Proofs.Ytkibacolnagkcaa.Code
open Val
set_option linter.unusedVariables false
def digI (n : Int) (c : UInt8) : Int := n * 10 + (c.toNat - 48 : Nat)
def foldI (l : List UInt8) (n : Int) : Int := l.foldl digI n
theorem amount_fold (tx : List UInt8) : amountL tx = if decide (1 ≤ tx.length ∧ tx.length ≤ 19) && tx.all figB then (if foldI tx 0 ≤ 9223372036854775807 then some (foldI tx 0) else none) else none := rfl
theorem foldI_le : ∀ (l : List UInt8) (n : Int), 0 ≤ n → n ≤ foldI l n
  | [], n, _ => Int.le_refl _
  | c :: l, n, h => by
    have h1 : n ≤ digI n c ∧ 0 ≤ digI n c := by
      have : (0 : Int) ≤ ((c.toNat - 48 : Nat) : Int) := Int.natCast_nonneg _
      unfold digI
      omega
    have := foldI_le l (digI n c) h1.2
    show n ≤ foldI l (digI n c)
    omega
theorem foldI_take (l : List UInt8) (k : Nat) (h : k < l.length) : foldI (l.take (k + 1)) 0 = digI (foldI (l.take k) 0) l[k] := by
  unfold foldI
  rw [List.take_succ_eq_append_getElem h, List.foldl_append]
  rfl
theorem foldI_pos (l : List UInt8) : 0 ≤ foldI l 0 := foldI_le l 0 (Int.le_refl _)
theorem amount_len {tx : List UInt8} (h : ¬ (1 ≤ tx.length ∧ tx.length ≤ 19)) : amountL tx = none := by
  rw [amount_fold, decide_eq_false h]
  rfl
theorem amount_no {tx : List UInt8} {k : Nat} (hk : k < tx.length) (h : figB tx[k] = false) : amountL tx = none := by
  rw [amount_fold]
  have : tx.all figB = false := by
    rw [List.all_eq_false]
    exact ⟨_, List.getElem_mem hk, by rw [h]; decide⟩
  rw [this, Bool.and_false]
  rfl
theorem amount_over {tx : List UInt8} {k : Nat} (hk : k < tx.length) (h : 9223372036854775807 < digI (foldI (tx.take k) 0) tx[k]) : amountL tx = none := by
  rw [amount_fold]
  split
  · rw [if_neg]
    have h1 := foldI_take tx k hk
    have h2 : foldI (tx.take (k + 1)) 0 ≤ foldI tx 0 := by
      have h3 : foldI tx 0 = foldI (tx.drop (k + 1)) (foldI (tx.take (k + 1)) 0) := by
        unfold foldI
        rw [← List.foldl_append, List.take_append_drop]
      rw [h3]
      exact foldI_le _ _ (foldI_pos _)
    omega
  · rfl
theorem amount_yes {tx : List UInt8} (h1 : 1 ≤ tx.length ∧ tx.length ≤ 19) (h2 : ∀ k (hk : k < tx.length), figB tx[k] = true) (h3 : foldI tx 0 ≤ 9223372036854775807) : amountL tx = some (foldI tx 0) := by
  rw [amount_fold, decide_eq_true h1, Bool.true_and, if_pos, if_pos h3]
  rw [List.all_eq_true]
  intro c hc
  obtain ⟨k, hk, rfl⟩ := List.getElem_of_mem hc
  exact h2 k hk
/-- a figure's number, and whether a byte is one, as the program tells it -/
theorem fig_num {c : UInt8} (h : figB c = true) : 48 ≤ c.toNat ∧ c.toNat ≤ 57 := by
  unfold figB at h
  simpa using h
end Go.Proofs.Ytkibacolnagkcaa.Code
