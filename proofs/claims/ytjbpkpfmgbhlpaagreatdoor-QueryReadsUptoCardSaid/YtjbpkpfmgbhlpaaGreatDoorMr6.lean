/-
  What the document's reader of expressions does, step by step; its sign.
-/
import Derived.Test.YtjbpkpfmgbhlpaaGreatDoorMr5
import Derived.Test.YtjbpkpfmgbhlpaaGreatDoorMr4
import Derived.Test.YtjbpkpfmgbhlpaaGreatDoorMr2
import Derived.Deep.DeepCutAuto
import Derived.Test.YtjbpkpfmgbhlpaaGreatDoorShelfNum
set_option maxRecDepth 100000
set_option maxHeartbeats 16000000
open Go.Lib (hid)
namespace Go.Proofs.YtjbpkpfmgbhlpaaGreatDoor.Code
open Go.ChangeShapes Go.WideShapes Go.ChangeAt Go.RowKit Val Elems
set_option linter.unusedVariables false
set_option linter.unusedSimpArgs false
theorem NIn.form {w : World} {S : Nat → Prop} {t : Tr} {a b c : Value} (h : NIn w S t a b c) : ∃ (X : Option Addr) (n m : Nat), c = .slice X n m := by
 cases t with
 | leaf op tx => exact ⟨_, _, _, h.2.2⟩
 | one op x => obtain ⟨_, _, g, cap, x0, x1, x2, h3, _⟩ := h; exact ⟨_, _, _, h3⟩
 | two op x y => obtain ⟨_, _, g, cap, x0, x1, x2, y0, y1, y2, h3, _⟩ := h; exact ⟨_, _, _, h3⟩
def New (w w' : World) (g : Nat) : Prop := w.heap.size ≤ g ∧ g < w'.heap.size
def Reads (r : Nat) (A : Option Addr) (cap : Nat) (l : List W) (w : World) (S : Nat → Prop) (res : Tr × Nat × Bool) (e : Ending) (w' : World) : Prop :=
 ∃ (op tx : ByteArray) (X : Option Addr) (n m : Nat), e = .returned (.agg #[.string op, .string tx, .slice X n m]) ∧ NIn w' (fun g => S g ∨ New w w' g) res.1 (.string op) (.string tx) (.slice X n m) ∧ But w w' r ∧ Rdr w' r A cap l res.2.1 res.2.2
def NoB (g : Nat) : Prop := False
structure Does (r : Nat) (A : Option Addr) (cap : Nat) (l : List W) (f : Nat) : Prop where
 expr : ∀ (lv i : Nat) (b : Bool) (w : World), 1 ≤ lv → lv ≤ 7 → i ≤ l.length → mu (bare l) (.expr lv) i < f → Rdr w r A cap l i b →
  Calls Tryz.prog 100 #[.pointer (some ⟨r, 0, none⟩), .int .i64 lv] w (Reads r A cap l w NoB (P (bare l) f (.expr lv) i b))
 sign : ∀ (i : Nat) (b : Bool) (w : World), i ≤ l.length → mu (bare l) .sign i < f → Rdr w r A cap l i b →
  Calls Tryz.prog 127 #[.pointer (some ⟨r, 0, none⟩)] w (Reads r A cap l w NoB (P (bare l) f .sign i b))
 test : ∀ (S : Nat → Prop) (t : Tr) (op tx : ByteArray) (X : Option Addr) (n m : Nat) (i : Nat) (b : Bool) (w : World), (∀ g, S g → g < w.heap.size ∧ g ≠ r) → NIn w S t (.string op) (.string tx) (.slice X n m) → i ≤ l.length → mu (bare l) (.test t) i < f → Rdr w r A cap l i b →
  Calls Tryz.prog 128 #[.pointer (some ⟨r, 0, none⟩), .agg #[.string op, .string tx, .slice X n m]] w (Reads r A cap l w S (P (bare l) f (.test t) i b))
def W3 (w : World) (g : Nat) (a b c : Value) : World := ((w.setCell ⟨g, 0, none⟩ a).setCell ⟨g, 1, none⟩ b).setCell ⟨g, 2, none⟩ c
theorem W3.size (w : World) (g : Nat) (a b c : Value) : (W3 w g a b c).heap.size = w.heap.size := by simp [W3]
theorem W3.but {w w1 : World} {r g : Nat} (h : But w w1 r) (hg : w.heap.size ≤ g) (a b c : Value) : But w (W3 w1 g a b c) r := ((h.new _ hg _).new _ hg _).new _ hg _
theorem W3.rdr {w : World} {r : Nat} {A : Option Addr} {cap : Nat} {l : List W} {i : Nat} {b : Bool} (h : Rdr w r A cap l i b) {g : Nat} (hg : r < g) (x y z : Value) : Rdr (W3 w g x y z) r A cap l i b := ((h.new _ hg _).new _ hg _).new _ hg _
theorem W3.nin {w : World} {S : Nat → Prop} {t : Tr} {a b c : Value} (h : NIn w S t a b c) {g : Nat} (hg : ¬ S g) (x y z : Value) : NIn (W3 w g x y z) S t a b c := ((h.setCell _ hg _).setCell _ hg _).setCell _ hg _
theorem W3.box {w : World} {g : Nat} {a b c : Value} (h : NBox w g a b c) (x y z : Value) : NBox (W3 w g x y z) g x y z := h.set x y z
section
variable {r : Nat} {A : Option Addr} {cap : Nat} {l : List W} {w w2 : World} {S S2 : Nat → Prop} {x y : Tr} {j : Nat} {b : Bool} {op tx op2 tx2 : ByteArray} {X X2 : Option Addr} {n m n2 m2 : Nat}
theorem ret_one (o : ByteArray) (hn : NIn w2 S2 x (.string op) (.string tx) (.slice X n m)) (hS : ∀ g, S2 g → g < w2.heap.size ∧ g ≠ w.heap.size ∧ (S g ∨ w.heap.size ≤ g)) (hb : But w w2 r) (hr : Rdr w2 r A cap l j b) (hrl : r < w.heap.size) (o1 : Obj) (t : TypeId) :
  Reads r A cap l w S (.one o.data.toList x, j, b) (.returned (.agg #[.string o, .string ⟨#[]⟩, .slice (some ⟨w2.heap.size + 1, 0, none⟩) 1 1])) (((W3 w2 w.heap.size (.string o) (.string ⟨#[]⟩) (.slice (some ⟨w2.heap.size + 1, 0, none⟩) 1 1)).alloc o1).alloc (.cells #[.string op, .string tx, .slice X n m] t)) := by
 have hz := hb.size
 obtain ⟨W, hW⟩ : ∃ W, W3 w2 w.heap.size (.string o) (.string ⟨#[]⟩) (.slice (some ⟨w2.heap.size + 1, 0, none⟩) 1 1) = W := ⟨_, rfl⟩
 have hs : W.heap.size = w2.heap.size := by rw [← hW, W3.size]
 have h1 : NIn W S2 x (.string op) (.string tx) (.slice X n m) := by rw [← hW]; exact W3.nin hn (fun h => (hS _ h).2.1 rfl) _ _ _
 have hB : But w W r := by rw [← hW]; exact W3.but hb (Nat.le_refl _) _ _ _
 have hR : Rdr W r A cap l j b := by rw [← hW]; exact W3.rdr hr hrl _ _ _
 rw [hW]
 have hs1 : (W.alloc o1).heap.size = w2.heap.size + 1 := by simp [hs]
 have h2 := NIn.one o (h1.alloc (fun g hg => by have := (hS g hg).1; omega) o1) (fun g hg => by have := (hS g hg).1; omega) (S' := fun g => S g ∨ New w ((W.alloc o1).alloc (.cells #[.string op, .string tx, .slice X n m] t)) g) (fun g hg => by
  obtain ⟨a1, a2, a3⟩ := hS g hg
  rcases a3 with a3 | a3
  ·exact .inl a3
  ·exact .inr ⟨a3, by simp [hs]; omega⟩) (.inr ⟨by rw [hs1]; omega, by simp⟩) t
 rw [hs1] at h2
 exact ⟨o, ⟨#[]⟩, _, 1, 1, rfl, h2, (hB.alloc _).alloc _, (hR.alloc _).alloc _⟩
theorem ret_two (o : ByteArray) (hn : NIn w2 S2 x (.string op) (.string tx) (.slice X n m)) (hn2 : NIn w2 S2 y (.string op2) (.string tx2) (.slice X2 n2 m2)) (hS : ∀ g, S2 g → g < w2.heap.size ∧ g ≠ w.heap.size ∧ (S g ∨ w.heap.size ≤ g)) (hb : But w w2 r) (hr : Rdr w2 r A cap l j b) (hrl : r < w.heap.size) (o1 : Obj) (t : TypeId) (g2 : Nat) (hg2 : w.heap.size ≤ g2) (hg3 : ¬ S2 g2) :
  Reads r A cap l w S (.two o.data.toList x y, j, b) (.returned (.agg #[.string o, .string ⟨#[]⟩, .slice (some ⟨w2.heap.size + 1, 0, none⟩) 2 2])) (((W3 w2 g2 (.string o) (.string ⟨#[]⟩) (.slice (some ⟨w2.heap.size + 1, 0, none⟩) 2 2)).alloc o1).alloc (.cells #[.string op, .string tx, .slice X n m, .string op2, .string tx2, .slice X2 n2 m2] t)) := by
 have hz := hb.size
 obtain ⟨W, hW⟩ : ∃ W, W3 w2 g2 (.string o) (.string ⟨#[]⟩) (.slice (some ⟨w2.heap.size + 1, 0, none⟩) 2 2) = W := ⟨_, rfl⟩
 have hs : W.heap.size = w2.heap.size := by rw [← hW, W3.size]
 have h1 : NIn W S2 x (.string op) (.string tx) (.slice X n m) := by rw [← hW]; exact W3.nin hn hg3 _ _ _
 have h1b : NIn W S2 y (.string op2) (.string tx2) (.slice X2 n2 m2) := by rw [← hW]; exact W3.nin hn2 hg3 _ _ _
 have hB : But w W r := by rw [← hW]; exact W3.but hb hg2 _ _ _
 have hR : Rdr W r A cap l j b := by rw [← hW]; exact W3.rdr hr (by omega) _ _ _
 rw [hW]
 have hs1 : (W.alloc o1).heap.size = w2.heap.size + 1 := by simp [hs]
 have h2 := NIn.two o (h1.alloc (fun g hg => by have := (hS g hg).1; omega) o1) (h1b.alloc (fun g hg => by have := (hS g hg).1; omega) o1) (fun g hg => by have := (hS g hg).1; omega) (S' := fun g => S g ∨ New w ((W.alloc o1).alloc (.cells #[.string op, .string tx, .slice X n m, .string op2, .string tx2, .slice X2 n2 m2] t)) g) (fun g hg => by
  obtain ⟨a1, a2, a3⟩ := hS g hg
  rcases a3 with a3 | a3
  ·exact .inl a3
  ·exact .inr ⟨a3, by simp [hs]; omega⟩) (.inr ⟨by rw [hs1]; omega, by simp⟩) t
 rw [hs1] at h2
 exact ⟨o, ⟨#[]⟩, _, 2, 2, rfl, h2, (hB.alloc _).alloc _, (hR.alloc _).alloc _⟩
theorem ret_same (hn : NIn w2 S2 x (.string op) (.string tx) (.slice X n m)) (hS : ∀ g, S2 g → g < w2.heap.size ∧ g ≠ w.heap.size ∧ (S g ∨ w.heap.size ≤ g)) (hb : But w w2 r) (hr : Rdr w2 r A cap l j b) (hrl : r < w.heap.size) :
  Reads r A cap l w S (x, j, b) (.returned (.agg #[.string op, .string tx, .slice X n m])) (W3 w2 w.heap.size (.string op) (.string tx) (.slice X n m)) := by
 have hz := hb.size
 refine ⟨op, tx, X, n, m, rfl, ?_, W3.but hb (Nat.le_refl _) _ _ _, W3.rdr hr hrl _ _ _⟩
 refine (W3.nin hn (fun h => (hS _ h).2.1 rfl) _ _ _).imp fun g hg => ?_
 obtain ⟨a1, a2, a3⟩ := hS g hg
 rcases a3 with a3 | a3
 ·exact .inl a3
 ·exact .inr ⟨a3, by rw [W3.size]; exact a1⟩
end
theorem sign_neg {r : Nat} {A : Option Addr} {cap : Nat} {l : List W} {f : Nat} (D : Does r A cap l f) (i : Nat) (b : Bool) (w : World) (hi : i ≤ l.length) (hl : l.length ≤ 4194304) (hm : mu (bare l) .sign i < f + 1) (h : Rdr w r A cap l i b) (hq : isW (bare l) i b [45] = true) :
  Calls Tryz.prog 127 #[.pointer (some ⟨r, 0, none⟩)] w (Reads r A cap l w NoB (P (bare l) (f + 1) .sign i b)) := by
 have hil := isW_len hq
 obtain ⟨x, j, b', hx⟩ : ∃ x j b', P (bare l) f .sign (i + 1) b = (x, j, b') := ⟨_, _, _, rfl⟩
 have hP : P (bare l) (f + 1) .sign i b = (.one sNeg x, j, b') := by rw [P, if_pos hq, hx]
 have hmu := mu_next (L := bare l) (by rw [bare_length]; exact hil) .sign .sign trivial (Nat.le_refl 1)
 rw [hP]
 have HI := hid (fun w1 hr => D.sign (i + 1) b w1 (by omega) (by omega) hr)
 rw [hx] at HI
 have HR := hid h
 have hrl := h.lt
 have HT := hid (fun w1 hr => rtake_any r A cap l i b ⟨#[45]⟩ true hq w1 hr hi hl)
 clear h hP hmu hx hq hm D
 go_enter Tryz.func127, Tryz.ntmps127
 go_wp2_with fail
 refine (HT.out _ (HR.out.alloc _)).mono ?_
 rintro e w1 ⟨rfl, hb1, hr1⟩
 have N1 := hid ((NBox.fresh w (.string ⟨#[]⟩) (.string ⟨#[]⟩) (.slice none 0 0) 25).but (by omega) hb1)
 have B1 := hid (((But.refl w r).alloc _).trans hb1)
 have R1 := hid hr1
 have hlt1 : w.heap.size < w1.heap.size := N1.out.lt
 clear hb1 hr1
 go_wp2_with fail
 refine (HI.out _ R1.out).mono ?_
 rintro e w2 ⟨op, tx, X, n, m, rfl, hn2, hb2, hr2⟩
 have N2 := hid (N1.out.but (by omega) hb2)
 have B2 := hid (B1.out.trans hb2)
 have R2 := hid hr2
 have I2 := hid hn2
 have z2 := N2.out.lt
 obtain ⟨x0, x1, x2, xf⟩ := N2.out
 clear hb2 hr2 hn2
 go_wp2
 have Y := ((N2.out.set (.string ⟨#[110, 101, 103]⟩) (.string ⟨#[]⟩) (.slice (some ⟨w2.heap.size + 1, 0, none⟩) 1 1)).alloc (.cells #[.string op, .string tx, .slice X n m] 25)).alloc (.cells #[.string op, .string tx, .slice X n m] 25)
 exact bodyPost_ret (v := .agg #[.string ⟨#[110, 101, 103]⟩, .string ⟨#[]⟩, .slice (some ⟨w2.heap.size + 1, 0, none⟩) 1 1]) (by simp [results, Tryz.results127, go_sem, Y.c0, Y.c1, Y.c2]) rfl
  (ret_one ⟨#[110, 101, 103]⟩ I2.out (fun g hg => by rcases hg with hg | hg; exact hg.elim; exact ⟨hg.2, by have := hg.1; omega, .inr (by have := hg.1; omega)⟩) B2.out R2.out hrl _ _)
end Go.Proofs.YtjbpkpfmgbhlpaaGreatDoor.Code
/-
  Nodes with any Kids in memory: what lies where, what stays; a list of nodes that is the call's own. No function of the program is named here.
-/
namespace Go.Proofs.YtjbpkpfmgbhlpaaGreatDoor.Code
open Go.ChangeShapes Go.WideShapes Go.ChangeAt Go.RowKit Val Elems
set_option linter.unusedVariables false
abbrev NV := ByteArray × ByteArray × Option Addr × Nat × Nat
def nc (x : NV) : List Value := [.string x.1, .string x.2.1, .slice x.2.2.1 x.2.2.2.1 x.2.2.2.2]
theorem nc_length (x : NV) : (nc x).length = 3 := rfl
theorem nc_one : ∀ x : NV, ∀ u ∈ nc x, u.oneCell' = true := by
 intro x u hu
 simp [nc] at hu
 rcases hu with rfl | rfl | rfl <;> rfl
def NAt (w : World) (S : Nat → Prop) (X : Option Addr) (l : List NV) : Prop :=
 ∀ (i : Nat) (h : i < l.length), ∃ ad : Addr, X = some ad ∧ S ad.block ∧ w.cell? (ad.add (i * 3)) = some (.string l[i].1) ∧ w.cell? ⟨(ad.add (i * 3)).block, (ad.add (i * 3)).off + 1, none⟩ = some (.string l[i].2.1) ∧ w.cell? ⟨(ad.add (i * 3)).block, (ad.add (i * 3)).off + 2, none⟩ = some (.slice l[i].2.2.1 l[i].2.2.2.1 l[i].2.2.2.2)
inductive RIn (w : World) (S : Nat → Prop) : Nod → NV → Prop
 | mk (op tx : List UInt8) (ks : List Nod) (X : Option Addr) (cap : Nat) (l : List NV) (hl : l.length = ks.length) (hb : ks.length ≤ 1000000000) (hc : ks.length ≤ cap) (hat : NAt w S X l) (hks : ∀ (i : Nat) (h : i < ks.length), RIn w S ks[i] (l[i]'(by omega))) :
   RIn w S (.mk op tx ks) (⟨op.toArray⟩, ⟨tx.toArray⟩, X, ks.length, cap)
theorem NAt.keep {w w' : World} {S S' : Nat → Prop} {X : Option Addr} {l : List NV} (h : NAt w S X l) (hS : ∀ g, S g → S' g) (hk : ∀ p : Addr, S p.block → w'.cell? p = w.cell? p) : NAt w' S' X l := by
 intro i hi
 obtain ⟨ad, e, hs, c0, c1, c2⟩ := h i hi
 have hb : S (ad.add (i * 3)).block := by rw [add_block]; exact hs
 exact ⟨ad, e, hS _ hs, (hk _ hb).trans c0, (hk ⟨(ad.add (i * 3)).block, (ad.add (i * 3)).off + 1, none⟩ hb).trans c1, (hk ⟨(ad.add (i * 3)).block, (ad.add (i * 3)).off + 2, none⟩ hb).trans c2⟩
theorem RIn.keep {w w' : World} {S S' : Nat → Prop} (hS : ∀ g, S g → S' g) (hk : ∀ p : Addr, S p.block → w'.cell? p = w.cell? p) {t : Nod} {x : NV} (h : RIn w S t x) : RIn w' S' t x := by
 induction h with
 | mk op tx ks X cap l hl hb hc hat hks ih => exact .mk op tx ks X cap l hl hb hc (hat.keep hS hk) ih
theorem RIn.imp {w : World} {S S' : Nat → Prop} {t : Nod} {x : NV} (h : RIn w S t x) (hS : ∀ g, S g → S' g) : RIn w S' t x := h.keep hS (fun _ _ => rfl)
theorem RIn.bel {w w' : World} {S : Nat → Prop} {t : Nod} {x : NV} (h : RIn w S t x) (hS : ∀ g, S g → g < w.heap.size) (hb : Below w.heap.size w w') : RIn w' S t x := h.keep (fun _ h => h) (fun p hp => hb.cell (hS _ hp))
theorem RIn.alloc {w : World} {S : Nat → Prop} {t : Nod} {x : NV} (h : RIn w S t x) (hS : ∀ g, S g → g < w.heap.size) (o : Obj) : RIn (w.alloc o) S t x := h.bel hS (below_alloc w o)
theorem RIn.but {w w' : World} {S : Nat → Prop} {r : Nat} {t : Nod} {x : NV} (h : RIn w S t x) (hS : ∀ g, S g → g < w.heap.size ∧ g ≠ r) (hb : But w w' r) : RIn w' S t x := h.keep (fun _ h => h) (fun p hp => hb.cell (hS _ hp).1 (hS _ hp).2)
theorem RIn.setCell {w : World} {S : Nat → Prop} {t : Nod} {x : NV} (h : RIn w S t x) (p : Addr) (hp : ¬ S p.block) (u : Value) : RIn (w.setCell p u) S t x :=
 h.keep (fun _ h => h) (fun q hq => World.cell?_setCell_other _ _ _ _ (by intro e; rw [e] at hp; exact hp hq))
theorem RIn.w3 {w : World} {S : Nat → Prop} {t : Nod} {x : NV} (h : RIn w S t x) {g : Nat} (hg : ¬ S g) (a b c : Value) : RIn (W3 w g a b c) S t x := ((h.setCell _ hg _).setCell _ hg _).setCell _ hg _
theorem RIn.cap {w : World} {S : Nat → Prop} {t : Nod} {x : NV} (h : RIn w S t x) : t.ks.length ≤ x.2.2.2.2 := by
 cases h with
 | mk op tx ks X cap l hl hb hc hat hks => exact hc
theorem RIn.texts {w : World} {S : Nat → Prop} {t : Nod} {x : NV} (h : RIn w S t x) : x.1 = ⟨t.op.toArray⟩ ∧ x.2.1 = ⟨t.tx.toArray⟩ ∧ x.2.2.2.1 = t.ks.length ∧ t.ks.length ≤ 1000000000 := by
 cases h with
 | mk op tx ks X cap l hl hb hc hat hks => exact ⟨rfl, rfl, rfl, hb⟩
theorem RIn.kid {w : World} {S : Nat → Prop} {t : Nod} {x : NV} (h : RIn w S t x) (k : Nat) (hk : k < t.ks.length) : ∃ (ad : Addr) (y : NV), x.2.2.1 = some ad ∧ S ad.block ∧ w.cell? (ad.add (k * 3)) = some (.string y.1) ∧ w.cell? ⟨(ad.add (k * 3)).block, (ad.add (k * 3)).off + 1, none⟩ = some (.string y.2.1) ∧ w.cell? ⟨(ad.add (k * 3)).block, (ad.add (k * 3)).off + 2, none⟩ = some (.slice y.2.2.1 y.2.2.2.1 y.2.2.2.2) ∧ RIn w S t.ks[k] y := by
 cases h with
 | mk op tx ks X cap l hl hb hc hat hks =>
  have hk' : k < ks.length := hk
  obtain ⟨ad, e, hs, c0, c1, c2⟩ := hat k (by omega)
  exact ⟨ad, l[k], e, hs, c0, c1, c2, hks k hk'⟩
theorem NIn.rin {w : World} {S : Nat → Prop} : ∀ (t : Tr) (op tx : ByteArray) (X : Option Addr) (n m : Nat), NIn w S t (.string op) (.string tx) (.slice X n m) → RIn w S t.n (op, tx, X, n, m)
 | .leaf o t, op, tx, X, n, m, h => by
  obtain ⟨h1, h2, h3⟩ := h
  injection h1 with h1
  injection h2 with h2
  injection h3 with h3 h4 h5
  subst h1 h2 h3 h4 h5
  exact .mk o t [] none 0 [] rfl (by decide) (by decide) (fun i hi => absurd hi (Nat.not_lt_zero _)) (fun i hi => absurd hi (Nat.not_lt_zero _))
 | .one o x, op, tx, X, n, m, h => by
  obtain ⟨h1, h2, g, cap, x0, x1, x2, h3, h4, c0, c1, c2, hx⟩ := h
  injection h1 with h1
  injection h2 with h2
  injection h3 with h3 h5 h6
  subst h1 h2 h3 h5 h6
  obtain ⟨X1, n1, k1, rfl⟩ := hx.form
  obtain ⟨rfl, rfl⟩ := hx.texts
  have ih := NIn.rin x _ _ X1 n1 k1 hx
  refine .mk o [] [x.n] (some ⟨g, 0, none⟩) (cap + 1) [(⟨(opOf x).toArray⟩, ⟨(txOf x).toArray⟩, X1, n1, k1)] rfl (by simp) (by simp) (fun i hi => ?_) (fun i hi => ?_)
  ·obtain rfl : i = 0 := by simp at hi; exact hi
   exact ⟨_, rfl, h4, c0, c1, c2⟩
  ·obtain rfl : i = 0 := by simp at hi; exact hi
   exact ih
 | .two o x y, op, tx, X, n, m, h => by
  obtain ⟨h1, h2, g, cap, x0, x1, x2, y0, y1, y2, h3, h4, c0, c1, c2, d0, d1, d2, hx, hy⟩ := h
  injection h1 with h1
  injection h2 with h2
  injection h3 with h3 h5 h6
  subst h1 h2 h3 h5 h6
  obtain ⟨X1, n1, k1, rfl⟩ := hx.form
  obtain ⟨rfl, rfl⟩ := hx.texts
  obtain ⟨X2, n2, k2, rfl⟩ := hy.form
  obtain ⟨rfl, rfl⟩ := hy.texts
  have ih := NIn.rin x _ _ X1 n1 k1 hx
  have ih2 := NIn.rin y _ _ X2 n2 k2 hy
  refine .mk o [] [x.n, y.n] (some ⟨g, 0, none⟩) (cap + 2) [(⟨(opOf x).toArray⟩, ⟨(txOf x).toArray⟩, X1, n1, k1), (⟨(opOf y).toArray⟩, ⟨(txOf y).toArray⟩, X2, n2, k2)] rfl (by simp) (by simp) (fun i hi => ?_) (fun i hi => ?_)
  ·have hc : i = 0 ∨ i = 1 := by simp at hi; omega
   rcases hc with rfl | rfl
   ·exact ⟨_, rfl, h4, c0, c1, c2⟩
   ·exact ⟨_, rfl, h4, d0, d1, d2⟩
  ·have hc : i = 0 ∨ i = 1 := by simp at hi; omega
   rcases hc with rfl | rfl
   ·exact ih
   ·exact ih2
def RAll (w : World) (S : Nat → Prop) (ks : List Nod) (l : List NV) : Prop := l.length = ks.length ∧ ∀ (i : Nat) (h : i < ks.length) (h' : i < l.length), RIn w S ks[i] l[i]
theorem RAll.nil (w : World) (S : Nat → Prop) : RAll w S [] [] := ⟨rfl, fun i h => absurd h (Nat.not_lt_zero _)⟩
theorem RAll.keep {w w' : World} {S S' : Nat → Prop} (hS : ∀ g, S g → S' g) (hk : ∀ p : Addr, S p.block → w'.cell? p = w.cell? p) {ks : List Nod} {l : List NV} (h : RAll w S ks l) : RAll w' S' ks l := ⟨h.1, fun i hi hi' => (h.2 i hi hi').keep hS hk⟩
theorem RAll.snoc {w : World} {S : Nat → Prop} {ks : List Nod} {l : List NV} (h : RAll w S ks l) {t : Nod} {x : NV} (hx : RIn w S t x) : RAll w S (ks ++ [t]) (l ++ [x]) := by
 refine ⟨by simp [h.1], fun i hi hi' => ?_⟩
 by_cases hlt : i < ks.length
 ·rw [List.getElem_append_left hlt, List.getElem_append_left (by rw [h.1]; exact hlt)]
  exact h.2 i hlt _
 ·obtain rfl : i = ks.length := by simp at hi; omega
  rw [List.getElem_append_right (Nat.le_refl _), List.getElem_append_right (by rw [h.1]; exact Nat.le_refl _)]
  simp only [Nat.sub_self, h.1, List.getElem_singleton]
  exact hx
theorem RAll.append {w : World} {S : Nat → Prop} {ks ks' : List Nod} {l l' : List NV} (h : RAll w S ks l) (h' : RAll w S ks' l') : RAll w S (ks ++ ks') (l ++ l') := by
 refine ⟨by simp [h.1, h'.1], fun i hi hi' => ?_⟩
 by_cases hlt : i < ks.length
 ·rw [List.getElem_append_left hlt, List.getElem_append_left (by rw [h.1]; exact hlt)]
  exact h.2 i hlt _
 ·rw [List.getElem_append_right (by omega), List.getElem_append_right (by rw [h.1]; omega)]
  simp only [h.1]
  exact h'.2 _ _ _
theorem RAll.one {w : World} {S : Nat → Prop} {t : Nod} {x : NV} (hx : RIn w S t x) : RAll w S [t] [x] := (RAll.nil w S).snoc hx
theorem nat_of {w : World} {B : Nat} {A : Option Addr} {l : List NV} {S : Nat → Prop} (h : At nc 3 w B A l) (hS : ∀ ad, A = some ad → 0 < l.length → S ad.block) : NAt w S A l := by
 intro i hi
 obtain ⟨ad, e, hb, h0⟩ := h i hi
 refine ⟨ad, e, hS ad e (by omega), h0 0 _ rfl, ?_, ?_⟩
 ·rw [← add_next]; exact h0 1 _ rfl
 ·rw [← add_next]; exact h0 2 _ rfl
theorem NAt.at {w : World} {S : Nat → Prop} {X : Option Addr} {l : List NV} (h : NAt w S X l) {B : Nat} (hB : ∀ g, S g → g < B) : At nc 3 w B X l := by
 intro i hi
 obtain ⟨ad, e, hs, c0, c1, c2⟩ := h i hi
 refine ⟨ad, e, hB _ hs, fun j u hu => ?_⟩
 have hj : j = 0 ∨ j = 1 ∨ j = 2 := by
  have := (List.getElem?_eq_some_iff.1 hu).1
  rw [nc_length] at this
  omega
 rcases hj with rfl | rfl | rfl
 ·cases hu; exact c0
 ·cases hu; rw [add_next]; exact c1
 ·cases hu; rw [add_next]; exact c2
theorem RIn.made {w : World} {S : Nat → Prop} {ks : List Nod} {l : List NV} {X : Option Addr} (cap : Nat) (op tx : ByteArray) (hat : NAt w S X l) (h : RAll w S ks l) (hb : ks.length ≤ 1000000000) (hc : ks.length ≤ cap) : RIn w S (.mk op.data.toList tx.data.toList ks) (op, tx, X, ks.length, cap) := by
 have := RIn.mk (w := w) (S := S) op.data.toList tx.data.toList ks X cap l h.1 hb hc hat (fun i hi => h.2 i hi _)
 rwa [Lib.mk_data, Lib.mk_data] at this
theorem RIn.leafN (w : World) (S : Nat → Prop) (op tx : ByteArray) : RIn w S (.mk op.data.toList tx.data.toList []) (op, tx, none, 0, 0) :=
 RIn.made 0 op tx (l := []) (fun i hi => absurd hi (Nat.not_lt_zero _)) (RAll.nil w S) (by decide) (by decide)
theorem own_nat {w : World} {B : Nat} {v : Value} {l : List NV} (h : w.ownsRow B 25 3 v l.length (flatC nc l)) : ∃ A cap, v = .slice A l.length cap ∧ NAt w (fun g => B ≤ g ∧ g < w.heap.size) A l ∧ l.length ≤ cap := by
 obtain ⟨A, cap, e, hat⟩ := own_at nc_length h
 have hcp : l.length ≤ cap := by
  rcases h.2 with ⟨hv, hz⟩ | ⟨g, cap', cur, hv, _, _, hle, _⟩
  ·rw [hz]; exact Nat.zero_le _
  ·rw [hv] at e
   injection e with _ _ e
   rw [← e]
   exact hle
 refine ⟨A, cap, e, nat_of hat (fun ad hA hpos => ?_), hcp⟩
 obtain ⟨g, cap', hv, hg, hlt⟩ := h.form hpos
 rw [hv] at e
 injection e with e _
 rw [hA] at e
 injection e with e
 subst e
 exact ⟨hg, hlt⟩
end Go.Proofs.YtjbpkpfmgbhlpaaGreatDoor.Code
/-
  Contracts of the program's reader of words: the word that comes, a mark's or name's kind, what is taken.
-/
namespace Go.Proofs.YtjbpkpfmgbhlpaaGreatDoor.Code
open Go.ChangeShapes Go.WideShapes Go.ChangeAt Go.RowKit Val Elems
set_option linter.unusedVariables false
set_option linter.unusedSimpArgs false
section
variable {r : Nat} {m : Int} {A : Option Addr} {cap : Nat} {l : List W}
theorem eword_any (i : Nat) (w : World) (h : Rd w r m A cap l i) (hi : i ≤ l.length) (hl : l.length ≤ 4194304) :
  Calls Tryz.prog 167 #[.pointer (some ⟨r, 0, none⟩)] w fun e w' => e = .returned (.agg #[.int .i64 (wd l i).1, .string ⟨(wd l i).2.1.toArray⟩, .int .i64 (wd l i).2.2]) ∧ Below w.heap.size w w' := by
 have HW := hid h.ws
 have hrl := h.lt
 obtain ⟨c0, c1, -, -, -⟩ := h
 by_cases hil : i < l.length
 ·rw [wd_in hil]
  obtain ⟨ad, rfl, ha, d0, d1, d2⟩ := at_word HW.out i hil
  obtain ⟨x, hxx⟩ : ∃ x, l[i] = x := ⟨_, rfl⟩
  rw [hxx] at d0 d1 d2 ⊢
  obtain ⟨k, t, p⟩ := x
  dsimp only at d0 d1 d2 ⊢
  obtain ⟨T, hT⟩ : ∃ T : ByteArray, ⟨t.toArray⟩ = T := ⟨_, rfl⟩
  rw [hT] at d1 ⊢
  obtain ⟨q, hq⟩ : ∃ q, ad.add (i * 3) = q := ⟨_, rfl⟩
  have hbq : q.block < w.heap.size := by rw [← hq, add_block]; omega
  rw [hq] at d0 d1 d2
  clear hxx hT
  have e1 : decide ((i : Int) < (l.length : Int)) = true := by simp; omega
  have e2 : decide (i < l.length) = true := by simp; omega
  have e3 : (i : Int) < (l.length : Int) := by omega
  have e4 : (0 : Int) ≤ (i : Int) := by omega
  go_enter Tryz.func167, Tryz.ntmps167
  go_wp2
  go_quiet (fail)
  obtain ⟨W6, hW6⟩ : ∃ W6, (w.alloc (.cells #[.int .i64 0, .string ⟨#[]⟩, .int .i64 0] 48)).drewN nq = W6 := ⟨_, rfl⟩
  have L6 := hid (show Below w.heap.size w W6 by rw [← hW6]; exact drewN_below ((Below.refl _ _).alloc (Nat.le_refl _) _) _)
  have N6 := hid (show NBox W6 w.heap.size (.int .i64 0) (.string ⟨#[]⟩) (.int .i64 0) by rw [← hW6]; exact (NBox.fresh w _ _ _ _).below (drewN_below (Below.refl _ _) _))
  have HO := hid (Ox.refl w.heap.size W6)
  have FQ := hid (fun w' (h : Ox w.heap.size W6 w') => show w'.cell? ⟨r, 0, none⟩ = some (.slice (some ad) l.length cap) ∧ w'.cell? ⟨r, 1, none⟩ = some (.int .i64 i) ∧ w'.cell? q = some (.int .i64 k) ∧ w'.cell? ⟨q.block, q.off + 1, none⟩ = some (.string T) ∧ w'.cell? ⟨q.block, q.off + 2, none⟩ = some (.int .i64 p) from
   ⟨((h.2 _ (by simp; omega)).trans (L6.out.cell (p := ⟨r, 0, none⟩) hrl)).trans c0, ((h.2 _ (by simp; omega)).trans (L6.out.cell (p := ⟨r, 1, none⟩) hrl)).trans c1, ((h.2 _ (by omega)).trans (L6.out.cell (p := q) hbq)).trans d0, ((h.2 _ (by simp; omega)).trans (L6.out.cell (p := ⟨q.block, q.off + 1, none⟩) hbq)).trans d1, ((h.2 _ (by simp; omega)).trans (L6.out.cell (p := ⟨q.block, q.off + 2, none⟩) hbq)).trans d2⟩)
  obtain ⟨k0, k1, k2, k3, k4⟩ := FQ.out _ HO.out
  obtain ⟨x0, x1, x2, xf⟩ := N6.out
  clear c0 c1 d0 d1 d2
  rw [hW6]
  go_upto_region 2 with fail
  go_region_held3 (fun w' => (w'.cell? ⟨r, 0, none⟩ = some (.slice (some ad) l.length cap) ∧ w'.cell? ⟨r, 1, none⟩ = some (.int .i64 i) ∧ w'.cell? q = some (.int .i64 k) ∧ w'.cell? ⟨q.block, q.off + 1, none⟩ = some (.string T) ∧ w'.cell? ⟨q.block, q.off + 2, none⟩ = some (.int .i64 p)) ∧ Ox w.heap.size W6 w')
   (first | assumption | (exact ⟨FQ.out _ HO.out.drew, HO.out.drew⟩) | (exact ⟨FQ.out _ HO.out, HO.out⟩) | (refine (fun hS9 : Ox w.heap.size W6 _ => ⟨FQ.out _ hS9, hS9⟩) (((HO.out.setCell _ rfl _).setCell _ rfl _).setCell _ rfl _).drew))
   (fail)
  go_wp2
  have Y := N6.out.set (.int .i64 k) (.string T) (.int .i64 p)
  exact bodyPost_ret (v := .agg #[.int .i64 k, .string T, .int .i64 p]) (by simp [results, Tryz.results167, go_sem, Y.c0, Y.c1, Y.c2]) rfl
   ⟨rfl, (((L6.out.setCell (Nat.le_refl _) _).setCell (Nat.le_refl _) _).setCell (Nat.le_refl _) _).drew⟩
 ·rw [wd_out hil]
  have e1 : decide ((i : Int) < (l.length : Int)) = false := by simp; omega
  have e2 : decide (i < l.length) = false := by simp; omega
  clear hil
  go_enter Tryz.func167, Tryz.ntmps167
  go_wp2
  go_quiet (fail)
  go_wp2
  have Y := ((NBox.fresh w (.int .i64 0) (.string ⟨#[]⟩) (.int .i64 0) 48).below (drewN_below (Below.refl _ _) nq)).set (.int .i64 0) (.string ⟨#[]⟩) (.int .i64 0)
  exact bodyPost_ret (v := .agg #[.int .i64 0, .string ⟨#[]⟩, .int .i64 0]) (by simp [results, Tryz.results167, go_sem, Y.c0, Y.c1, Y.c2]) rfl
   ⟨rfl, (((drewN_below ((Below.refl _ _).alloc (Nat.le_refl _) _) _).setCell (Nat.le_refl _) _).setCell (Nat.le_refl _) _).setCell (Nat.le_refl _) _⟩
theorem ekind_any (s : ByteArray) (w : World) :
  Calls Tryz.prog 168 #[.string s] w fun e w' => e = .returned (.int .i64 (kindL s.data.toList)) ∧ w = w' := by
 obtain ⟨ow, how⟩ : ∃ ow, ownL s.data.toList = ow := ⟨_, rfl⟩
 have HO := hid (fun w => own_any s w)
 rw [show ownB s.toList = ow by rw [← how, ByteArray.toList_eq]; rfl] at HO
 have hk : kindL s.data.toList = if ow = true then 0 else 3 := by unfold kindL; rw [how]
 rw [hk]
 clear hk how
 cases ow
 all_goals
  go_enter Tryz.func168, Tryz.ntmps168
  go_wp2_with fail
  refine (HO.out _).mono ?_
  rintro e w1 ⟨rfl, rfl⟩
  go_wp2
  go_ret
  exact ⟨rfl, rfl⟩
theorem isW_wd (hm : MarkW l) (i : Nat) (s : List UInt8) (hs : s ≠ []) : isW (bare l) i false s = ((wd l i).2.1 == s && (wd l i).1 == kindL s) := by
 by_cases hi : i < l.length
 ·rw [isW_in hm hi, wd_in hi]
 ·rw [isW_out hi, wd_out hi]
  cases s with
  | nil => exact absurd rfl hs
  | cons c s => rfl
theorem first_step {L : List V} {i : Nat} {b : Bool} : ∀ (ls : List (List UInt8)) (k : Nat) (h : k < ls.length), (∀ j (hj : j < ls.length), j < k → isW L i b ls[j] = false) → isW L i b ls[k] = true → oneL L i b ls = ls[k]
 | [], k, h, _, _ => absurd h (Nat.not_lt_zero _)
 | s :: ls, 0, h, _, hw => by
  rw [oneL, if_pos (show isW L i b s = true from hw)]
  rfl
 | s :: ls, k + 1, h, hb, hw => by
  have h0 := hb 0 (by simp) (by omega)
  rw [oneL, if_neg (by rw [show isW L i b s = false from h0]; decide)]
  exact first_step ls k (by simpa using h) (fun j hj hjk => hb (j + 1) (by simpa using hj) (by omega)) hw
theorem etake_any (hg : Good l) (i : Nat) (S : Option Addr) (sc' : Nat) (ls : List (List UInt8)) (w : World) (h : Rd w r m A cap l i) (hi : i ≤ l.length)
  (hs : At sc 1 w w.heap.size S ls) (hne : ∀ ad, S = some ad → ad.block ≠ r) (hls : ls.length ≤ 100) (hn0 : [] ∉ ls) (q : List UInt8) (hq : oneL (bare l) i false ls = q) :
  Calls Tryz.prog 161 #[.pointer (some ⟨r, 0, none⟩), .slice S ls.length sc'] w fun e w' => e = .returned (.string ⟨q.toArray⟩) ∧ But w w' r ∧ Rd w' r m A cap l (if q = [] then i else i + 1) := by
 have hlen := hg.len
 have HWD := hid (fun w0 (hr : Rd w0 r m A cap l i) => eword_any i w0 hr hi hlen)
 have HIS := hid (fun (k : Nat) (hk : k < ls.length) => isW_wd (came_mark hg.came) i ls[k] (fun e => hn0 (e ▸ List.getElem_mem hk)))
 obtain ⟨x, hx⟩ : ∃ x, wd l i = x := ⟨_, rfl⟩
 rw [hx] at HWD HIS
 obtain ⟨wk, wt, wp⟩ := x
 dsimp only at HWD HIS
 obtain ⟨T, hT⟩ : ∃ T : ByteArray, ⟨wt.toArray⟩ = T := ⟨_, rfl⟩
 obtain rfl : wt = T.data.toList := by rw [← hT]
 rw [hT] at HWD
 have HR := hid h
 have hrl := h.lt
 have HS := hid hs
 have HNE := hid hne
 have HN0 := hid hn0
 have HQ := hid hq
 clear h hs hne hn0 hq hx hT hg
 go_enter Tryz.func161, Tryz.ntmps161
 go_wp2_with fail
 refine (HWD.out _ HR.out).mono ?_
 rintro e w1 ⟨rfl, hb1⟩
 have B1 := hid ((But.of hb1 r).alloc (.cells #[.int .i64 wk, .string T, .int .i64 wp] 48))
 have R1 := hid ((HR.out.below hb1).alloc (.cells #[.int .i64 wk, .string T, .int .i64 wp] 48))
 have N1 := hid (NBox.fresh w1 (.int .i64 wk) (.string T) (.int .i64 wp) 48)
 have z1 := hb1.size
 clear hb1
 go_wp2
 go_loopw [12] (fun t wr => ∃ k : Nat, k ≤ ls.length ∧ t = .int .i64 k ∧ Hid (∀ j (hj : j < ls.length), j < k → isW (bare l) i false ls[j] = false) ∧ But w wr r ∧ Rd wr r m A cap l i ∧ NBox wr w1.heap.size (.int .i64 wk) (.string T) (.int .i64 wp)) (fun t _ => ls.length - (intOf t).toNat)
 case atStart => exact ⟨0, by omega, rfl, hid (fun j hj h => absurd h (Nat.not_lt_zero _)), B1.out, R1.out, N1.out⟩
 case round =>
  obtain ⟨k, hk, rfl, HB, hbut, hrd, hnb⟩ := hrel
  have HBU := hid hbut
  have HRD := hid hrd
  have HNB := hid hnb
  have VS := hid (at_but HS.out hbut (Nat.le_refl _) HNE.out)
  obtain ⟨x0, x1, x2, xf⟩ := hnb
  clear hbut hrd
  by_cases hkl : k < ls.length
  ·obtain ⟨ad, rfl, ha, c0⟩ := at_text VS.out k hkl
   have hisk := HIS.out k hkl
   obtain ⟨s, hsx⟩ : ∃ s, ls[k] = s := ⟨_, rfl⟩
   obtain ⟨U, hU⟩ : ∃ U : ByteArray, ⟨s.toArray⟩ = U := ⟨_, rfl⟩
   obtain rfl : s = U.data.toList := by rw [← hU]
   rw [hsx, hU] at c0
   rw [hsx] at hisk
   have HNW := hid (show isW (bare l) i false ls[k] = false → ∀ j (hj : j < ls.length), j < k + 1 → isW (bare l) i false ls[j] = false by
    intro hg j hj hjk
    by_cases e : j = k
    ·subst e; exact hg
    ·exact HB.out j hj (by omega))
   rw [hsx] at HNW
   by_cases hts : T = U
   ·subst hts
    have hk2 : isW (bare l) i false T.data.toList = (wk == kindL T.data.toList) := by rw [hisk]; simp
    have HK := hid (fun w => ekind_any T w)
    obtain ⟨kl, hkl2⟩ : ∃ kl, kindL T.data.toList = kl := ⟨_, rfl⟩
    rw [hkl2] at HK hk2
    obtain ⟨g, hg⟩ : ∃ g, (wk == kl) = g := ⟨_, rfl⟩
    rw [hg] at hk2
    have HK2 := hid hk2
    have HSX := hid hsx
    clear hk2 hkl2 hisk hU hsx
    cases g
    ·go_wp2
     go_quiet (refine Calls.quiet_of_same ((HK.out _).mono (by rintro e w' ⟨h1, h2⟩; exact ⟨h1, h2.symm⟩)))
     have hb2 : Below wr.heap.size wr (wr.drewN nq) := drewN_below (Below.refl _ _) nq
     have B3 := hid (HBU.out.next hb2)
     have R3 := hid (HRD.out.below hb2)
     have N3 := hid (HNB.out.below hb2)
     clear hb2
     go_wp2
     go_roundw
     case rel => exact ⟨k + 1, by omega, by go_num, hid (HNW.out HK2.out), B3.out, R3.out, N3.out⟩
     case measure => simp [intOf]; omega
    ·go_wp2
     go_quiet (refine Calls.quiet_of_same ((HK.out _).mono (by rintro e w' ⟨h1, h2⟩; exact ⟨h1, h2.symm⟩)))
     have hb2 : Below wr.heap.size wr (wr.drewN nq) := drewN_below (Below.refl _ _) nq
     have B3 := hid (HBU.out.next hb2)
     have R3 := hid (HRD.out.below hb2)
     have c1 := R3.out.c1
     have fr := R3.out.fr 1
     have hx := first_step (L := bare l) (i := i) (b := false) ls k hkl HB.out (by rw [HSX.out]; exact HK2.out)
     rw [HQ.out, HSX.out] at hx
     have hq0 : q ≠ [] := by
      intro e
      rw [e] at hx
      exact HN0.out (hx ▸ HSX.out ▸ List.getElem_mem hkl)
     have HQT := hid (show (⟨q.toArray⟩ : ByteArray) = T by rw [hx, Lib.mk_data])
     clear hb2 hx
     go_wp2
     go_ret
     refine ⟨retS HQT.out.symm, B3.out.setCell 1 _, ?_⟩
     have := R3.out.at (i + 1)
     rw [Int.natCast_add] at this
     first | exact this | (rw [if_neg hq0]; exact this)
   ·have f2 := toList_ne hts
    have hk2 : isW (bare l) i false U.data.toList = false := by
     rw [hisk]
     have : ¬ T.data.toList = U.data.toList := fun e => hts (by rw [← Lib.mk_data T, e, Lib.mk_data])
     rw [show (T.data.toList == U.data.toList) = false from beq_eq_false_iff_ne.2 this]
     rfl
    have HK2 := hid hk2
    clear hk2 hisk hU hsx
    go_wp2
    refine wp_region_quiet_lit (by kernel_rfl) (by kernel_rfl) ?_
    repeat (with_reducible refine wpQuiet_step ?_; intro K hK; go_simp; with_reducible refine hK _ ?_; clear hK K)
    refine wpQuiet_nil ?_
    intro _ hw'
    obtain ⟨nq, hw''⟩ := hw'
    subst hw''
    have hb2 : Below wr.heap.size wr (wr.drewN nq) := drewN_below (Below.refl _ _) nq
    have B3 := hid (HBU.out.next hb2)
    have R3 := hid (HRD.out.below hb2)
    have N3 := hid (HNB.out.below hb2)
    clear hb2
    go_wp2
    go_roundw
    case rel => exact ⟨k + 1, by omega, by go_num, hid (HNW.out HK2.out), B3.out, R3.out, N3.out⟩
    case measure => simp [intOf]; omega
  ·have hx : oneL (bare l) i false ls = [] := oneL_none fun s hs => by
    obtain ⟨j, hj, rfl⟩ := List.mem_iff_getElem.1 hs
    exact HB.out j hj (by omega)
   rw [HQ.out] at hx
   subst hx
   go_wp2
   go_ret
   exact ⟨rfl, HBU.out, HRD.out⟩
end
theorem words_good {s : List UInt8} {l : List W} (h : wordsL s 0 = .ok l) : wL s = l ∧ wP s = 0 ∧ wE s = 0 := by
 unfold wL wP wE
 rw [h]
 exact ⟨rfl, rfl, rfl⟩
theorem at_one (w : World) (k p : Int) (T : ByteArray) (t : TypeId) : At wc 3 (w.alloc (.cells #[.int .i64 k, .string T, .int .i64 p] t)) (w.alloc (.cells #[.int .i64 k, .string T, .int .i64 p] t)).heap.size (some ⟨w.heap.size, 0, none⟩) [(k, T.data.toList, p)] := by
 intro i hi
 have hi0 : i = 0 := by simp at hi; omega
 subst hi0
 refine ⟨⟨w.heap.size, 0, none⟩, rfl, by simp, fun j u hu => ?_⟩
 have h := World.news_of_block (heap_alloc_new w (.cells #[.int .i64 k, .string T, .int .i64 p] t))
 rw [show 0 * 3 + j = j by omega]
 refine h j u ?_
 simpa [wc, Lib.mk_data] using hu
theorem text_one (k p : Int) (T : ByteArray) (m : Int) (X : ByteArray) (hX : X.data.toList = showW k T.data.toList) (ht : T.size ≤ 4194304) (A : Option Addr) (w : World) (hv : At wc 3 w w.heap.size A [(k, T.data.toList, p)]) (hg : Glob w.heap.size m w) :
  Calls Tryz.prog 189 #[.slice A 1 1] w fun e w' => e = .returned (.string X) ∧ Below w.heap.size w w' := by
 have h := text_any A 1 [(k, T.data.toList, p)] m w hv (fun v hv => by obtain rfl := List.mem_singleton.1 hv; exact ht) (by simp) hg
 rw [textL_one] at h
 rw [show (⟨(showW (k, T.data.toList, p).1 (k, T.data.toList, p).2.1).toArray⟩ : ByteArray) = X by rw [← Lib.mk_data X, hX]] at h
 exact h
theorem eright_yes (k p : Int) (T : ByteArray) (m : Int) (w : World) (hf : firstL (showW k T.data.toList) = some (k, T.data.toList, (showW k T.data.toList).length)) (ht : T.size ≤ 4194304) (hg : Glob w.heap.size m w) :
  Calls Tryz.prog 187 #[.agg #[.int .i64 k, .string T, .int .i64 p]] w fun e w' => e = .returned (.bool true) ∧ Below w.heap.size w w' := by
 obtain ⟨X, hXe⟩ : ∃ X : ByteArray, ⟨(showW k T.data.toList).toArray⟩ = X := ⟨_, rfl⟩
 have hX : X.data.toList = showW k T.data.toList := by rw [← hXe]
 have hXs : X.size ≤ 4194304 := by
  have := showW_le (k := k) (t := T.data.toList) ht
  rw [← hX] at this
  exact this
 have hw := words_good (words_alone hf 0)
 have HT := hid (fun A w0 hv hg => text_one k p T m X hX ht A w0 hv hg)
 have HW := hid (fun w0 hm => (words_any X m w0 hXs hm).mono (R' := fun e w' => ∃ (A : Option Addr) (cap : Nat), e = .returned (.tuple #[.slice A 1 cap, .int .i64 0, .int .i64 0]) ∧ At wc 3 w' w'.heap.size A [(k, T.data.toList, 0)] ∧ Below w0.heap.size w0 w') (by
  rintro e w' ⟨A, cap, he, hv, hb⟩
  rw [hX, hw.1] at hv
  refine ⟨A, cap, ?_, hv, hb⟩
  rw [he, hX, hw.1, hw.2.1, hw.2.2]
  rfl))
 have HG := hid hg
 clear hg hw hX hXs hXe hf
 go_enter Tryz.func187, Tryz.ntmps187
 go_wp2_with fail
 obtain ⟨W0, hW0⟩ : ∃ W0, w.alloc (.cells #[.int .i64 k, .string T, .int .i64 p] 48) = W0 := ⟨_, rfl⟩
 have L0 := hid (show Below w.heap.size w W0 by rw [← hW0]; exact below_alloc w _)
 have N0 := hid (show NBox W0 w.heap.size (.int .i64 k) (.string T) (.int .i64 p) by rw [← hW0]; exact NBox.fresh w _ _ _ _)
 have z0 : W0.heap.size = w.heap.size + 1 := by rw [← hW0]; simp
 try rw [hW0]
 have HA := hid (at_one W0 k p T 48)
 rw [z0] at HA
 have L1 := hid (L0.out.alloc (by omega) (.cells #[.int .i64 k, .string T, .int .i64 p] 48))
 have N1 := hid (N0.out.alloc (.cells #[.int .i64 k, .string T, .int .i64 p] 48))
 refine (HT.out _ _ HA.out (HG.out.next L1.out)).mono ?_
 rintro e w2 ⟨rfl, hb2⟩
 have L2 := hid (bnext L1.out L1.out.size hb2)
 have N2 := hid (N1.out.below hb2)
 clear hb2
 go_wp2_with fail
 refine (HW.out _ (HG.out.next L2.out).cell).mono ?_
 rintro e w3 ⟨A, cap', rfl, hv, hb3⟩
 have L3 := hid (bnext L2.out L2.out.size hb3)
 have N3 := hid (N2.out.below hb3)
 obtain ⟨x0, x1, x2, xf⟩ := N3.out
 obtain ⟨ad, rfl, ha, d0, d1, d2⟩ := at_word hv 0 (by simp)
 rw [Nat.zero_mul] at d0 d1 d2
 have e0 : ad.add 0 = ad := by cases ad; simp [Addr.add]
 rw [e0] at d0 d1 d2
 dsimp only [List.getElem_cons_zero] at d0 d1 d2
 rw [Lib.mk_data] at d1
 clear hb3 hv d2
 go_wp2
 go_quiet (fail)
 go_wp2
 go_ret
 exact ⟨rfl, drewN_below L3.out _⟩
theorem eright_no (m : Int) (w : World) (hg : Glob w.heap.size m w) :
  Calls Tryz.prog 187 #[.agg #[.int .i64 0, .string ⟨#[]⟩, .int .i64 0]] w fun e w' => e = .returned (.bool false) ∧ Below w.heap.size w w' := by
 have hX : (⟨#[]⟩ : ByteArray).data.toList = showW 0 (⟨#[]⟩ : ByteArray).data.toList := rfl
 have hw := words_good (s := []) (l := []) rfl
 have HT := hid (fun A w0 hv hg => text_one 0 0 ⟨#[]⟩ m ⟨#[]⟩ hX (by decide) A w0 hv hg)
 have HW := hid (fun w0 hm => (words_any ⟨#[]⟩ m w0 (by decide) hm).mono (R' := fun e w' => ∃ (A : Option Addr) (cap : Nat), e = .returned (.tuple #[.slice A 0 cap, .int .i64 0, .int .i64 0]) ∧ Below w0.heap.size w0 w') (by
  rintro e w' ⟨A, cap, he, hv, hb⟩
  refine ⟨A, cap, ?_, hb⟩
  rw [he, show (⟨#[]⟩ : ByteArray).data.toList = [] from rfl, hw.1, hw.2.1, hw.2.2]
  rfl))
 have HG := hid hg
 clear hg hw hX
 go_enter Tryz.func187, Tryz.ntmps187
 go_wp2_with fail
 obtain ⟨W0, hW0⟩ : ∃ W0, w.alloc (.cells #[.int .i64 0, .string ⟨#[]⟩, .int .i64 0] 48) = W0 := ⟨_, rfl⟩
 have L0 := hid (show Below w.heap.size w W0 by rw [← hW0]; exact below_alloc w _)
 have z0 : W0.heap.size = w.heap.size + 1 := by rw [← hW0]; simp
 try rw [hW0]
 have HA := hid (at_one W0 0 0 ⟨#[]⟩ 48)
 rw [z0] at HA
 have L1 := hid (L0.out.alloc (by omega) (.cells #[.int .i64 0, .string ⟨#[]⟩, .int .i64 0] 48))
 refine (HT.out _ _ HA.out (HG.out.next L1.out)).mono ?_
 rintro e w2 ⟨rfl, hb2⟩
 have L2 := hid (bnext L1.out L1.out.size hb2)
 clear hb2
 go_wp2_with fail
 refine (HW.out _ (HG.out.next L2.out).cell).mono ?_
 rintro e w3 ⟨A, cap', rfl, hb3⟩
 have L3 := hid (bnext L2.out L2.out.size hb3)
 clear hb3
 go_wp2
 refine wp_region_quiet_lit (by kernel_rfl) (by kernel_rfl) ?_
 repeat (with_reducible refine wpQuiet_step ?_; intro K hK; go_simp; with_reducible refine hK _ ?_; clear hK K)
 refine wpQuiet_nil ?_
 intro _ hw'
 obtain ⟨nq, hw''⟩ := hw'
 subst hw''
 go_wp2
 go_ret
 exact ⟨rfl, drewN_below L3.out _⟩
theorem eoper_zero (m : Int) (w : World) (hg : Env w.heap.size m w) :
  Calls Tryz.prog 186 #[.agg #[.int .i64 0, .string ⟨#[]⟩, .int .i64 0]] w fun e w' => e = .returned (.tuple #[.agg #[.string ⟨#[]⟩, .string ⟨#[]⟩, .slice none 0 0], .bool false]) ∧ Below w.heap.size w w' := by
 have HRT := hid (fun w0 hg0 => eright_no m w0 hg0)
 have HG := hid hg
 clear hg
 go_enter Tryz.func186, Tryz.ntmps186
 obtain ⟨w0, hw0⟩ : ∃ w0, (w.alloc (.cells #[.int .i64 0, .string ⟨#[]⟩, .int .i64 0] 48)).alloc (.cells #[.string ⟨#[]⟩, .string ⟨#[]⟩, .slice none 0 0] 25) = w0 := ⟨_, rfl⟩
 have L0 := hid (show Below w.heap.size w w0 by rw [← hw0]; exact ((Below.refl _ _).alloc (Nat.le_refl _) _).alloc (by simp) _)
 have N0 := hid (show NBox w0 w.heap.size (.int .i64 0) (.string ⟨#[]⟩) (.int .i64 0) by rw [← hw0]; exact (NBox.fresh _ _ _ _ _).alloc _)
 have M0 := hid (show NBox w0 (w.heap.size + 1) (.string ⟨#[]⟩) (.string ⟨#[]⟩) (.slice none 0 0) by
  rw [← hw0, show w.heap.size + 1 = (w.alloc (.cells #[.int .i64 0, .string ⟨#[]⟩, .int .i64 0] 48)).heap.size by simp]; exact NBox.fresh _ _ _ _ _)
 obtain ⟨x0, x1, x2, xf⟩ := N0.out
 go_wp2_with fail
 try rw [hw0]
 refine (HRT.out _ (HG.out.gl.next L0.out)).mono ?_
 rintro e w1 ⟨rfl, hb1⟩
 have L1 := hid (bnext L0.out L0.out.size hb1)
 have N1 := hid (N0.out.below hb1)
 have M1 := hid (M0.out.below hb1)
 have zl := M1.out.lt
 clear hb1 x0 x1 x2 xf
 obtain ⟨x0, x1, x2, xf⟩ := N1.out
 obtain ⟨y0, y1, y2, yf⟩ := M1.out
 go_wp2
 have Y := M1.out.set (.string ⟨#[]⟩) (.string ⟨#[]⟩) (.slice none 0 0)
 exact bodyPost_ret (v := .tuple #[.agg #[.string ⟨#[]⟩, .string ⟨#[]⟩, .slice none 0 0], .bool false]) (by simp [results, Tryz.results186, go_sem, Y.c0, Y.c1, Y.c2]) rfl
  ⟨rfl, ((L1.out.setCell (p := ⟨w.heap.size + 1, 0, none⟩) (by simp) _).setCell (p := ⟨w.heap.size + 1, 1, none⟩) (by simp) _).setCell (p := ⟨w.heap.size + 1, 2, none⟩) (by simp) _⟩
theorem eoper_mark (p : Int) (T : ByteArray) (m : Int) (w : World) (hf : firstL (showW 3 T.data.toList) = some (3, T.data.toList, (showW 3 T.data.toList).length)) (ht : T.size ≤ 4194304) (hg : Env w.heap.size m w) :
  Calls Tryz.prog 186 #[.agg #[.int .i64 3, .string T, .int .i64 p]] w fun e w' => e = .returned (.tuple #[.agg #[.string ⟨#[]⟩, .string ⟨#[]⟩, .slice none 0 0], .bool false]) ∧ Below w.heap.size w w' := by
 have HRT := hid (fun w0 hg0 => eright_yes 3 p T m w0 hf ht hg0)
 have HG := hid hg
 clear hg hf
 go_enter Tryz.func186, Tryz.ntmps186
 obtain ⟨w0, hw0⟩ : ∃ w0, (w.alloc (.cells #[.int .i64 3, .string T, .int .i64 p] 48)).alloc (.cells #[.string ⟨#[]⟩, .string ⟨#[]⟩, .slice none 0 0] 25) = w0 := ⟨_, rfl⟩
 have L0 := hid (show Below w.heap.size w w0 by rw [← hw0]; exact ((Below.refl _ _).alloc (Nat.le_refl _) _).alloc (by simp) _)
 have N0 := hid (show NBox w0 w.heap.size (.int .i64 3) (.string T) (.int .i64 p) by rw [← hw0]; exact (NBox.fresh _ _ _ _ _).alloc _)
 have M0 := hid (show NBox w0 (w.heap.size + 1) (.string ⟨#[]⟩) (.string ⟨#[]⟩) (.slice none 0 0) by
  rw [← hw0, show w.heap.size + 1 = (w.alloc (.cells #[.int .i64 3, .string T, .int .i64 p] 48)).heap.size by simp]; exact NBox.fresh _ _ _ _ _)
 obtain ⟨x0, x1, x2, xf⟩ := N0.out
 go_wp2_with fail
 try rw [hw0]
 refine (HRT.out _ (HG.out.gl.next L0.out)).mono ?_
 rintro e w1 ⟨rfl, hb1⟩
 have L1 := hid (bnext L0.out L0.out.size hb1)
 have N1 := hid (N0.out.below hb1)
 have M1 := hid (M0.out.below hb1)
 have zl := M1.out.lt
 clear hb1 x0 x1 x2 xf
 obtain ⟨x0, x1, x2, xf⟩ := N1.out
 obtain ⟨y0, y1, y2, yf⟩ := M1.out
 go_wp2
 have Y := M1.out.set (.string ⟨#[]⟩) (.string ⟨#[]⟩) (.slice none 0 0)
 exact bodyPost_ret (v := .tuple #[.agg #[.string ⟨#[]⟩, .string ⟨#[]⟩, .slice none 0 0], .bool false]) (by simp [results, Tryz.results186, go_sem, Y.c0, Y.c1, Y.c2]) rfl
  ⟨rfl, ((L1.out.setCell (p := ⟨w.heap.size + 1, 0, none⟩) (by simp) _).setCell (p := ⟨w.heap.size + 1, 1, none⟩) (by simp) _).setCell (p := ⟨w.heap.size + 1, 2, none⟩) (by simp) _⟩
theorem eoper_text (p : Int) (T : ByteArray) (m : Int) (w : World) (hf : firstL (showW 2 T.data.toList) = some (2, T.data.toList, (showW 2 T.data.toList).length)) (ht : T.size ≤ 4194304) (hg : Env w.heap.size m w) :
  Calls Tryz.prog 186 #[.agg #[.int .i64 2, .string T, .int .i64 p]] w fun e w' => e = .returned (.tuple #[.agg #[.string ⟨#[116, 101, 120, 116]⟩, .string T, .slice none 0 0], .bool true]) ∧ Below w.heap.size w w' := by
 have HRT := hid (fun w0 hg0 => eright_yes 2 p T m w0 hf ht hg0)
 have HG := hid hg
 clear hg hf
 go_enter Tryz.func186, Tryz.ntmps186
 obtain ⟨w0, hw0⟩ : ∃ w0, (w.alloc (.cells #[.int .i64 2, .string T, .int .i64 p] 48)).alloc (.cells #[.string ⟨#[]⟩, .string ⟨#[]⟩, .slice none 0 0] 25) = w0 := ⟨_, rfl⟩
 have L0 := hid (show Below w.heap.size w w0 by rw [← hw0]; exact ((Below.refl _ _).alloc (Nat.le_refl _) _).alloc (by simp) _)
 have N0 := hid (show NBox w0 w.heap.size (.int .i64 2) (.string T) (.int .i64 p) by rw [← hw0]; exact (NBox.fresh _ _ _ _ _).alloc _)
 have M0 := hid (show NBox w0 (w.heap.size + 1) (.string ⟨#[]⟩) (.string ⟨#[]⟩) (.slice none 0 0) by
  rw [← hw0, show w.heap.size + 1 = (w.alloc (.cells #[.int .i64 2, .string T, .int .i64 p] 48)).heap.size by simp]; exact NBox.fresh _ _ _ _ _)
 obtain ⟨x0, x1, x2, xf⟩ := N0.out
 go_wp2_with fail
 try rw [hw0]
 refine (HRT.out _ (HG.out.gl.next L0.out)).mono ?_
 rintro e w1 ⟨rfl, hb1⟩
 have L1 := hid (bnext L0.out L0.out.size hb1)
 have N1 := hid (N0.out.below hb1)
 have M1 := hid (M0.out.below hb1)
 have zl := M1.out.lt
 clear hb1 x0 x1 x2 xf
 obtain ⟨x0, x1, x2, xf⟩ := N1.out
 obtain ⟨y0, y1, y2, yf⟩ := M1.out
 go_wp2
 have Y := M1.out.set (.string ⟨#[116, 101, 120, 116]⟩) (.string T) (.slice none 0 0)
 exact bodyPost_ret (v := .tuple #[.agg #[.string ⟨#[116, 101, 120, 116]⟩, .string T, .slice none 0 0], .bool true]) (by simp [results, Tryz.results186, go_sem, Y.c0, Y.c1, Y.c2]) rfl
  ⟨rfl, ((L1.out.setCell (p := ⟨w.heap.size + 1, 0, none⟩) (by simp) _).setCell (p := ⟨w.heap.size + 1, 1, none⟩) (by simp) _).setCell (p := ⟨w.heap.size + 1, 2, none⟩) (by simp) _⟩
theorem eoper_num (p : Int) (T : ByteArray) (m : Int) (w : World) (hf : firstL (showW 1 T.data.toList) = some (1, T.data.toList, (showW 1 T.data.toList).length)) (ht : T.size ≤ 4194304) (hg : Env w.heap.size m w) (v : Int) (hv : Lib.parseIntB 64 T.data.toList = .ok v) (hv0 : 0 ≤ v) (hv1 : v ≤ 9223372036854775807) :
  Calls Tryz.prog 186 #[.agg #[.int .i64 1, .string T, .int .i64 p]] w fun e w' => e = .returned (.tuple #[.agg #[.string ⟨#[110, 117, 109]⟩, .string ⟨(Lib.itoa v).toArray⟩, .slice none 0 0], .bool true]) ∧ Below w.heap.size w w' := by
 have HRT := hid (fun w0 hg0 => eright_yes 1 p T m w0 hf ht hg0)
 have HPI := hid (fun w0 => Tryz.strconv_ParseInt_10_at64_ok T (by omega) v hv w0)
 have HFI := hid (fun w0 ht => fint_any v w0 (by unfold fits; omega) ht)
 clear hv
 have HG := hid hg
 clear hg hf
 go_enter Tryz.func186, Tryz.ntmps186
 obtain ⟨w0, hw0⟩ : ∃ w0, (w.alloc (.cells #[.int .i64 1, .string T, .int .i64 p] 48)).alloc (.cells #[.string ⟨#[]⟩, .string ⟨#[]⟩, .slice none 0 0] 25) = w0 := ⟨_, rfl⟩
 have L0 := hid (show Below w.heap.size w w0 by rw [← hw0]; exact ((Below.refl _ _).alloc (Nat.le_refl _) _).alloc (by simp) _)
 have N0 := hid (show NBox w0 w.heap.size (.int .i64 1) (.string T) (.int .i64 p) by rw [← hw0]; exact (NBox.fresh _ _ _ _ _).alloc _)
 have M0 := hid (show NBox w0 (w.heap.size + 1) (.string ⟨#[]⟩) (.string ⟨#[]⟩) (.slice none 0 0) by
  rw [← hw0, show w.heap.size + 1 = (w.alloc (.cells #[.int .i64 1, .string T, .int .i64 p] 48)).heap.size by simp]; exact NBox.fresh _ _ _ _ _)
 obtain ⟨x0, x1, x2, xf⟩ := N0.out
 go_wp2_with fail
 try rw [hw0]
 refine (HRT.out _ (HG.out.gl.next L0.out)).mono ?_
 rintro e w1 ⟨rfl, hb1⟩
 have L1 := hid (bnext L0.out L0.out.size hb1)
 have N1 := hid (N0.out.below hb1)
 have M1 := hid (M0.out.below hb1)
 have zl := M1.out.lt
 clear hb1 x0 x1 x2 xf
 obtain ⟨x0, x1, x2, xf⟩ := N1.out
 obtain ⟨y0, y1, y2, yf⟩ := M1.out
 go_wp2_with fail
 refine (HPI.out _).mono ?_
 rintro e w2 ⟨rfl, hw2⟩
 have hb2 : Below w1.heap.size w1 w2 := by
  rcases hw2 with rfl | ⟨t, rfl⟩
  ·exact Below.refl _ _
  ·exact Lib.bytesWorld_below _ _ _
 have L2 := hid (bnext L1.out L1.out.size hb2)
 have M2 := hid (M1.out.below hb2)
 clear hb2 hw2 x0 x1 x2 xf y0 y1 y2 yf
 go_wp2_with fail
 refine (HFI.out _ (HG.out.gl.next L2.out).tab).mono ?_
 rintro e w3 ⟨rfl, hb3⟩
 have L3 := hid (bnext L2.out L2.out.size hb3)
 have M3 := hid (M2.out.below hb3)
 have zl3 := M3.out.lt
 clear hb3
 obtain ⟨y0, y1, y2, yf⟩ := M3.out
 go_wp2
 have Y := M3.out.set (.string ⟨#[110, 117, 109]⟩) (.string ⟨(Lib.itoa v).toArray⟩) (.slice none 0 0)
 exact bodyPost_ret (v := .tuple #[.agg #[.string ⟨#[110, 117, 109]⟩, .string ⟨(Lib.itoa v).toArray⟩, .slice none 0 0], .bool true]) (by simp [results, Tryz.results186, go_sem, Y.c0, Y.c1, Y.c2]) rfl
  ⟨rfl, ((L3.out.setCell (p := ⟨w.heap.size + 1, 0, none⟩) (by simp) _).setCell (p := ⟨w.heap.size + 1, 1, none⟩) (by simp) _).setCell (p := ⟨w.heap.size + 1, 2, none⟩) (by simp) _⟩
theorem eoper_much (p : Int) (T : ByteArray) (m : Int) (w : World) (hf : firstL (showW 1 T.data.toList) = some (1, T.data.toList, (showW 1 T.data.toList).length)) (ht : T.size ≤ 4194304) (hg : Env w.heap.size m w) (hv : Lib.parseIntB 64 T.data.toList = .range) :
  Calls Tryz.prog 186 #[.agg #[.int .i64 1, .string T, .int .i64 p]] w fun e w' => e = .returned (.tuple #[.agg #[.string ⟨#[]⟩, .string ⟨#[]⟩, .slice none 0 0], .bool false]) ∧ Below w.heap.size w w' := by
 have HRT := hid (fun w0 hg0 => eright_yes 1 p T m w0 hf ht hg0)
 have HPI := hid (fun w0 (he : Env w0.heap.size m w0) => show Calls Tryz.prog 188 #[.string T, .int .i64 10, .int .i64 64] w0 (fun e w' => (∃ (a : Int) (t : TypeId) (v : Value), e = .returned (.tuple #[.int .i64 a, .iface t v])) ∧ Below w0.heap.size w0 w') from by
  obtain ⟨te, pe, hc⟩ := he.ec
  refine (Tryz.strconv_ParseInt_10_at64_range T (by omega) hv (.iface te pe) w0 hc (.inr ⟨te, pe, rfl⟩)).mono ?_
  rintro e w' ⟨N, h1, h2, h3, h4⟩
  exact ⟨⟨_, _, _, h1⟩, h4⟩)
 clear hv
 have HG := hid hg
 clear hg hf
 go_enter Tryz.func186, Tryz.ntmps186
 obtain ⟨w0, hw0⟩ : ∃ w0, (w.alloc (.cells #[.int .i64 1, .string T, .int .i64 p] 48)).alloc (.cells #[.string ⟨#[]⟩, .string ⟨#[]⟩, .slice none 0 0] 25) = w0 := ⟨_, rfl⟩
 have L0 := hid (show Below w.heap.size w w0 by rw [← hw0]; exact ((Below.refl _ _).alloc (Nat.le_refl _) _).alloc (by simp) _)
 have N0 := hid (show NBox w0 w.heap.size (.int .i64 1) (.string T) (.int .i64 p) by rw [← hw0]; exact (NBox.fresh _ _ _ _ _).alloc _)
 have M0 := hid (show NBox w0 (w.heap.size + 1) (.string ⟨#[]⟩) (.string ⟨#[]⟩) (.slice none 0 0) by
  rw [← hw0, show w.heap.size + 1 = (w.alloc (.cells #[.int .i64 1, .string T, .int .i64 p] 48)).heap.size by simp]; exact NBox.fresh _ _ _ _ _)
 obtain ⟨x0, x1, x2, xf⟩ := N0.out
 go_wp2_with fail
 try rw [hw0]
 refine (HRT.out _ (HG.out.gl.next L0.out)).mono ?_
 rintro e w1 ⟨rfl, hb1⟩
 have L1 := hid (bnext L0.out L0.out.size hb1)
 have N1 := hid (N0.out.below hb1)
 have M1 := hid (M0.out.below hb1)
 have zl := M1.out.lt
 clear hb1 x0 x1 x2 xf
 obtain ⟨x0, x1, x2, xf⟩ := N1.out
 obtain ⟨y0, y1, y2, yf⟩ := M1.out
 go_wp2_with fail
 refine (HPI.out _ (HG.out.next L1.out)).mono ?_
 rintro e w2 ⟨⟨a, t, v, rfl⟩, hb2⟩
 have L2 := hid (bnext L1.out L1.out.size hb2)
 have M2 := hid (M1.out.below hb2)
 have zl2 := M2.out.lt
 clear hb2 x0 x1 x2 xf y0 y1 y2 yf
 obtain ⟨y0, y1, y2, yf⟩ := M2.out
 go_wp2
 have Y := M2.out.set (.string ⟨#[]⟩) (.string ⟨#[]⟩) (.slice none 0 0)
 exact bodyPost_ret (v := .tuple #[.agg #[.string ⟨#[]⟩, .string ⟨#[]⟩, .slice none 0 0], .bool false]) (by simp [results, Tryz.results186, go_sem, Y.c0, Y.c1, Y.c2]) rfl
  ⟨rfl, ((L2.out.setCell (p := ⟨w.heap.size + 1, 0, none⟩) (by simp) _).setCell (p := ⟨w.heap.size + 1, 1, none⟩) (by simp) _).setCell (p := ⟨w.heap.size + 1, 2, none⟩) (by simp) _⟩
theorem eoper_name (p : Int) (T : ByteArray) (m : Int) (w : World) (hf : firstL (showW 0 T.data.toList) = some (0, T.data.toList, (showW 0 T.data.toList).length)) (ht : T.size ≤ 4194304) (hg : Env w.heap.size m w) (b : Bool) (hb : ownL T.data.toList = b) :
  Calls Tryz.prog 186 #[.agg #[.int .i64 0, .string T, .int .i64 p]] w fun e w' => e = .returned (.tuple #[.agg #[.string ⟨#[99, 111, 108]⟩, .string T, .slice none 0 0], .bool (!b)]) ∧ Below w.heap.size w w' := by
 have HRT := hid (fun w0 hg0 => eright_yes 0 p T m w0 hf ht hg0)
 have HOW := hid (fun w0 => own_any T w0)
 rw [show ownB T.toList = b by rw [← hb, ByteArray.toList_eq]; rfl] at HOW
 clear hb
 have HG := hid hg
 clear hg hf
 go_enter Tryz.func186, Tryz.ntmps186
 obtain ⟨w0, hw0⟩ : ∃ w0, (w.alloc (.cells #[.int .i64 0, .string T, .int .i64 p] 48)).alloc (.cells #[.string ⟨#[]⟩, .string ⟨#[]⟩, .slice none 0 0] 25) = w0 := ⟨_, rfl⟩
 have L0 := hid (show Below w.heap.size w w0 by rw [← hw0]; exact ((Below.refl _ _).alloc (Nat.le_refl _) _).alloc (by simp) _)
 have N0 := hid (show NBox w0 w.heap.size (.int .i64 0) (.string T) (.int .i64 p) by rw [← hw0]; exact (NBox.fresh _ _ _ _ _).alloc _)
 have M0 := hid (show NBox w0 (w.heap.size + 1) (.string ⟨#[]⟩) (.string ⟨#[]⟩) (.slice none 0 0) by
  rw [← hw0, show w.heap.size + 1 = (w.alloc (.cells #[.int .i64 0, .string T, .int .i64 p] 48)).heap.size by simp]; exact NBox.fresh _ _ _ _ _)
 obtain ⟨x0, x1, x2, xf⟩ := N0.out
 go_wp2_with fail
 try rw [hw0]
 refine (HRT.out _ (HG.out.gl.next L0.out)).mono ?_
 rintro e w1 ⟨rfl, hb1⟩
 have L1 := hid (bnext L0.out L0.out.size hb1)
 have N1 := hid (N0.out.below hb1)
 have M1 := hid (M0.out.below hb1)
 have zl := M1.out.lt
 clear hb1 x0 x1 x2 xf
 obtain ⟨x0, x1, x2, xf⟩ := N1.out
 obtain ⟨y0, y1, y2, yf⟩ := M1.out
 have HO := hid (Ox.refl (w.heap.size + 1) w1)
 have FQ := hid (fun w' (h : Ox (w.heap.size + 1) w1 w') => show w'.cell? ⟨w.heap.size, 1, none⟩ = some (.string T) from (h.2 ⟨w.heap.size, 1, none⟩ (by simp)).trans x1)
 go_upto_region 12 with fail
 go_region_held3 (fun w' => (w'.cell? ⟨w.heap.size, 1, none⟩ = some (.string T)) ∧ Ox (w.heap.size + 1) w1 w')
  (first | assumption | (exact ⟨FQ.out _ HO.out.drew, HO.out.drew⟩) | (exact ⟨FQ.out _ HO.out, HO.out⟩) | (refine (fun hS9 : Ox (w.heap.size + 1) w1 _ => ⟨FQ.out _ hS9, hS9⟩) (((HO.out.setCell _ rfl _).setCell _ rfl _).setCell _ rfl _).drew))
  (first | (go_at_call 125; with_reducible refine (HOW.out _).mono ?_; rintro e w5 ⟨rfl, rfl⟩))
 go_wp2
 have Y := M1.out.set (.string ⟨#[99, 111, 108]⟩) (.string T) (.slice none 0 0)
 exact bodyPost_ret (v := .tuple #[.agg #[.string ⟨#[99, 111, 108]⟩, .string T, .slice none 0 0], .bool (!b)]) (by simp [results, Tryz.results186, go_sem, Y.c0, Y.c1, Y.c2]) rfl
  ⟨rfl, (((L1.out.setCell (p := ⟨w.heap.size + 1, 0, none⟩) (by simp) _).setCell (p := ⟨w.heap.size + 1, 1, none⟩) (by simp) _).setCell (p := ⟨w.heap.size + 1, 2, none⟩) (by simp) _).drew⟩
end Go.Proofs.YtjbpkpfmgbhlpaaGreatDoor.Code
