/-
  Nodes in memory, and a reader of words: what lies where, what stays. No function of the program is named here.
-/
import Derived.Test.YtkibacolnagkcaaM6
import Derived.Test.YtkibacolnagkcaaM10
import Derived.Deep.RegionHeld3
import Derived.Test.YtkibacolnagkcaaM13
import Derived.Test.YtkibacolnagkcaaM12
namespace Go.Proofs.Ytkibacolnagkcaa.Code
open Go.ChangeShapes Go.WideShapes Go.ChangeAt Go.RowKit Val Elems
set_option linter.unusedVariables false
/-- what may have turned: one block, and new ones -/
structure But (w w' : World) (r : Nat) : Prop where
  os : w'.os = w.os
  tape : w'.tape = w.tape
  output : w'.output = w.output
  size : w.heap.size ≤ w'.heap.size
  block : ∀ k, k < w.heap.size → k ≠ r → w'.heap[k]? = w.heap[k]?
theorem But.refl (w : World) (r : Nat) : But w w r := ⟨rfl, rfl, rfl, Nat.le_refl _, fun _ _ _ => rfl⟩
theorem But.trans {w w1 w2 : World} {r : Nat} (h : But w w1 r) (g : But w1 w2 r) : But w w2 r :=
  ⟨g.os.trans h.os, g.tape.trans h.tape, g.output.trans h.output, Nat.le_trans h.size g.size, fun k hk hb => (g.block k (Nat.lt_of_lt_of_le hk h.size) hb).trans (h.block k hk hb)⟩
theorem But.of {w w' : World} (h : Below w.heap.size w w') (r : Nat) : But w w' r := ⟨h.os, h.tape, h.output, h.size, fun k hk _ => h.block k hk⟩
theorem But.next {w w1 w2 : World} {r : Nat} (h : But w w1 r) (g : Below w1.heap.size w1 w2) : But w w2 r := h.trans (But.of g r)
theorem But.alloc {w w1 : World} {r : Nat} (h : But w w1 r) (o : Obj) : But w (w1.alloc o) r := h.next ((Below.refl _ _).alloc (Nat.le_refl _) o)
theorem But.setCell {w w1 : World} {r : Nat} (h : But w w1 r) (j : Nat) (u : Value) : But w (w1.setCell ⟨r, j, none⟩ u) r :=
  ⟨h.os, h.tape, h.output, by simpa using h.size, fun k hk hb => (Below.heap_setCell w1 ⟨r, j, none⟩ u k hb).trans (h.block k hk hb)⟩
theorem But.below {w w' : World} {r B : Nat} (h : But w w' r) (hB : B ≤ w.heap.size) (hr : B ≤ r) : Below B w w' :=
  ⟨h.os, h.tape, h.output, h.size, fun k hk => h.block k (Nat.lt_of_lt_of_le hk hB) (by omega)⟩
theorem But.cell {w w' : World} {r : Nat} (h : But w w' r) {q : Addr} (hq : q.block < w.heap.size) (hn : q.block ≠ r) : w'.cell? q = w.cell? q := by
  unfold World.cell?
  rw [h.block _ hq hn]
theorem But.frozen {w w' : World} {r : Nat} (h : But w w' r) {q : Addr} (hq : q.block < w.heap.size) (hn : q.block ≠ r) : w'.frozen? q = w.frozen? q := by
  unfold World.frozen?
  rw [h.block _ hq hn]
/-- a node's three values, and what lies behind them, in such blocks -/
def NIn (w : World) (S : Nat → Prop) : Tr → Value → Value → Value → Prop
  | .leaf op tx, a, b, c => a = .string ⟨op.toArray⟩ ∧ b = .string ⟨tx.toArray⟩ ∧ c = .slice none 0 0
  | .one op x, a, b, c => a = .string ⟨op.toArray⟩ ∧ b = .string ⟨#[]⟩ ∧ ∃ (g cap : Nat) (x0 x1 x2 : Value), c = .slice (some ⟨g, 0, none⟩) 1 (cap + 1) ∧ S g ∧ w.cell? ⟨g, 0, none⟩ = some x0 ∧ w.cell? ⟨g, 1, none⟩ = some x1 ∧ w.cell? ⟨g, 2, none⟩ = some x2 ∧ NIn w S x x0 x1 x2
  | .two op x y, a, b, c => a = .string ⟨op.toArray⟩ ∧ b = .string ⟨#[]⟩ ∧ ∃ (g cap : Nat) (x0 x1 x2 y0 y1 y2 : Value), c = .slice (some ⟨g, 0, none⟩) 2 (cap + 2) ∧ S g ∧ w.cell? ⟨g, 0, none⟩ = some x0 ∧ w.cell? ⟨g, 1, none⟩ = some x1 ∧ w.cell? ⟨g, 2, none⟩ = some x2 ∧
      w.cell? ⟨g, 3, none⟩ = some y0 ∧ w.cell? ⟨g, 4, none⟩ = some y1 ∧ w.cell? ⟨g, 5, none⟩ = some y2 ∧ NIn w S x x0 x1 x2 ∧ NIn w S y y0 y1 y2
def opOf : Tr → List UInt8
  | .leaf op _ => op
  | .one op _ => op
  | .two op _ _ => op
def txOf : Tr → List UInt8
  | .leaf _ tx => tx
  | _ => []
theorem NIn.texts {w : World} {S : Nat → Prop} {t : Tr} {a b c : Value} (h : NIn w S t a b c) : a = .string ⟨(opOf t).toArray⟩ ∧ b = .string ⟨(txOf t).toArray⟩ := by
  cases t <;> exact ⟨h.1, h.2.1⟩
/-- what stays where the cells of a node's blocks do -/
theorem NIn.keep {w w' : World} {S S' : Nat → Prop} (hS : ∀ g, S g → S' g) (hk : ∀ g, S g → ∀ j, w'.cell? ⟨g, j, none⟩ = w.cell? ⟨g, j, none⟩) : ∀ (t : Tr) (a b c : Value), NIn w S t a b c → NIn w' S' t a b c
  | .leaf op tx, a, b, c, h => h
  | .one op x, a, b, c, h => by
    obtain ⟨h1, h2, g, cap, x0, x1, x2, h3, h4, c0, c1, c2, hx⟩ := h
    have k := hk g h4
    exact ⟨h1, h2, g, cap, x0, x1, x2, h3, hS g h4, (k 0).trans c0, (k 1).trans c1, (k 2).trans c2, NIn.keep hS hk x x0 x1 x2 hx⟩
  | .two op x y, a, b, c, h => by
    obtain ⟨h1, h2, g, cap, x0, x1, x2, y0, y1, y2, h3, h4, c0, c1, c2, d0, d1, d2, hx, hy⟩ := h
    have k := hk g h4
    exact ⟨h1, h2, g, cap, x0, x1, x2, y0, y1, y2, h3, hS g h4, (k 0).trans c0, (k 1).trans c1, (k 2).trans c2, (k 3).trans d0, (k 4).trans d1, (k 5).trans d2, NIn.keep hS hk x x0 x1 x2 hx, NIn.keep hS hk y y0 y1 y2 hy⟩
theorem NIn.imp {w : World} {S S' : Nat → Prop} {t : Tr} {a b c : Value} (h : NIn w S t a b c) (hS : ∀ g, S g → S' g) : NIn w S' t a b c := NIn.keep hS (fun _ _ _ => rfl) t a b c h
theorem NIn.below {w w' : World} {S : Nat → Prop} {t : Tr} {a b c : Value} (h : NIn w S t a b c) (hS : ∀ g, S g → g < w.heap.size) (hb : Below w.heap.size w w') : NIn w' S t a b c :=
  NIn.keep (fun _ h => h) (fun g hg j => hb.cell (p := ⟨g, j, none⟩) (hS g hg)) t a b c h
theorem NIn.alloc {w : World} {S : Nat → Prop} {t : Tr} {a b c : Value} (h : NIn w S t a b c) (hS : ∀ g, S g → g < w.heap.size) (o : Obj) : NIn (w.alloc o) S t a b c := h.below hS ((Below.refl _ _).alloc (Nat.le_refl _) o)
theorem NIn.but {w w' : World} {S : Nat → Prop} {r : Nat} {t : Tr} {a b c : Value} (h : NIn w S t a b c) (hS : ∀ g, S g → g < w.heap.size ∧ g ≠ r) (hb : But w w' r) : NIn w' S t a b c :=
  NIn.keep (fun _ h => h) (fun g hg j => hb.cell (q := ⟨g, j, none⟩) (hS g hg).1 (hS g hg).2) t a b c h
theorem NIn.setCell {w : World} {S : Nat → Prop} {t : Tr} {a b c : Value} (h : NIn w S t a b c) (p : Addr) (hp : ¬ S p.block) (u : Value) : NIn (w.setCell p u) S t a b c :=
  NIn.keep (fun _ h => h) (fun g hg j => World.cell?_setCell_other _ _ _ _ (by intro e; rw [e] at hp; exact hp hg)) t a b c h
theorem NIn.leaf (w : World) (S : Nat → Prop) (op tx : ByteArray) : NIn w S (.leaf op.data.toList tx.data.toList) (.string op) (.string tx) (.slice none 0 0) := ⟨by rw [Lib.mk_data], by rw [Lib.mk_data], rfl⟩
/-- a Kid in a new block -/
theorem NIn.one {w : World} {S S' : Nat → Prop} {x : Tr} {x0 x1 x2 : Value} (op : ByteArray) (h : NIn w S x x0 x1 x2) (hS : ∀ g, S g → g < w.heap.size) (hS' : ∀ g, S g → S' g) (hn : S' w.heap.size) (t : TypeId) :
    NIn (w.alloc (.cells #[x0, x1, x2] t)) S' (.one op.data.toList x) (.string op) (.string ⟨#[]⟩) (.slice (some ⟨w.heap.size, 0, none⟩) 1 1) :=
  ⟨by rw [Lib.mk_data], rfl, w.heap.size, 0, x0, x1, x2, rfl, hn, by simp [go_sem], by simp [go_sem], by simp [go_sem], (h.alloc hS _).imp hS'⟩
theorem NIn.two {w : World} {S S' : Nat → Prop} {x y : Tr} {x0 x1 x2 y0 y1 y2 : Value} (op : ByteArray) (h : NIn w S x x0 x1 x2) (g : NIn w S y y0 y1 y2) (hS : ∀ g, S g → g < w.heap.size) (hS' : ∀ g, S g → S' g) (hn : S' w.heap.size) (t : TypeId) :
    NIn (w.alloc (.cells #[x0, x1, x2, y0, y1, y2] t)) S' (.two op.data.toList x y) (.string op) (.string ⟨#[]⟩) (.slice (some ⟨w.heap.size, 0, none⟩) 2 2) :=
  ⟨by rw [Lib.mk_data], rfl, w.heap.size, 0, x0, x1, x2, y0, y1, y2, rfl, hn, by simp [go_sem], by simp [go_sem], by simp [go_sem], by simp [go_sem], by simp [go_sem], by simp [go_sem], (h.alloc hS _).imp hS', (g.alloc hS _).imp hS'⟩
/-- an operation of a region that draws is taken first -/
theorem take1 {P : Program} {ops : Array Oper} {Q : Exit → Act → World → Prop} {md : Region.Mode} {S : World → Prop} (i d : Nat) {v : Value} {fuel : Nat} {listed : Array Bool} {a : Act} {w : World} {o : _} {t : _} {p : _} {f : _} {g : _}
    (hi : ops[i]? = some (⟨some d, o, t, p, f, g⟩ : Oper)) (hy : ∀ w, S w → (execOp a.eval ⟨some d, o, t, p, f, g⟩).run P w = .ok (.value v) w)
    (h : wpAnyH P md ops Q S fuel (listed.setIfInBounds i true) (a.put (some d) v) w) (hs : Region.noSelect ops = true := by kernel_rfl) (hf : Region.free md ops listed i = true := by kernel_rfl) (hr : (Region.ready md ops listed).contains i = true := by kernel_rfl)
    (hw : Region.wanted (⟨some d, o, t, p, f, g⟩ : Oper) (yielded ops a.tmps) = true := by rfl) (hS : S w := by assumption) (hQ : ∀ c a w, Q (.panic c) (a.put (some d) v) w → Q (.panic c) a w := by exact fun _ _ _ h => h) : wpAnyH P md ops Q S (fuel + 1) listed a w :=
  wpAnyH_take hi hs hf hr hQ (Or.inl ⟨hw, hy⟩) hS h
/-- a variable that holds a node -/
structure NBox (w : World) (g : Nat) (a b c : Value) : Prop where
  c0 : w.cell? ⟨g, 0, none⟩ = some a
  c1 : w.cell? ⟨g, 1, none⟩ = some b
  c2 : w.cell? ⟨g, 2, none⟩ = some c
  fr : ∀ j, w.frozen? ⟨g, j, none⟩ = false
theorem NBox.lt {w : World} {g : Nat} {a b c : Value} (h : NBox w g a b c) : g < w.heap.size := World.block_lt_of_cell? _ _ h.c0
theorem NBox.but {w w' : World} {g r : Nat} {a b c : Value} (h : NBox w g a b c) (hg : g ≠ r) (hb : But w w' r) : NBox w' g a b c := by
  have hl := h.lt
  exact ⟨(hb.cell (q := ⟨g, 0, none⟩) hl hg).trans h.c0, (hb.cell (q := ⟨g, 1, none⟩) hl hg).trans h.c1, (hb.cell (q := ⟨g, 2, none⟩) hl hg).trans h.c2, fun j => (hb.frozen (q := ⟨g, j, none⟩) hl hg).trans (h.fr j)⟩
theorem NBox.below {w w' : World} {g : Nat} {a b c : Value} (h : NBox w g a b c) (hb : Below w.heap.size w w') : NBox w' g a b c := by
  have hl := h.lt
  exact ⟨(hb.cell (p := ⟨g, 0, none⟩) hl).trans h.c0, (hb.cell (p := ⟨g, 1, none⟩) hl).trans h.c1, (hb.cell (p := ⟨g, 2, none⟩) hl).trans h.c2, fun j => (hb.frozen (p := ⟨g, j, none⟩) hl).trans (h.fr j)⟩
theorem NBox.alloc {w : World} {g : Nat} {a b c : Value} (h : NBox w g a b c) (o : Obj) : NBox (w.alloc o) g a b c := h.below ((Below.refl _ _).alloc (Nat.le_refl _) o)
theorem NBox.fresh (w : World) (a b c : Value) (t : TypeId) : NBox (w.alloc (.cells #[a, b, c] t)) w.heap.size a b c := ⟨by simp [go_sem], by simp [go_sem], by simp [go_sem], fun j => by simp [go_sem]⟩
/-- the variable for a result, made first -/
theorem made0 (w : World) (r : Nat) : ∃ w0, w.alloc (.cells #[.string ⟨#[]⟩, .string ⟨#[]⟩, .slice none 0 0] 24) = w0 ∧ w0.heap.size = w.heap.size + 1 ∧ RowKit.Hid (NBox w0 w.heap.size (.string ⟨#[]⟩) (.string ⟨#[]⟩) (.slice none 0 0)) ∧ RowKit.Hid (But w w0 r) :=
  ⟨_, rfl, by simp, Lib.hid (NBox.fresh _ _ _ _ _), Lib.hid ((But.refl w r).alloc _)⟩
theorem NBox.set {w : World} {g : Nat} {a b c : Value} (h : NBox w g a b c) (x y z : Value) : NBox (((w.setCell ⟨g, 0, none⟩ x).setCell ⟨g, 1, none⟩ y).setCell ⟨g, 2, none⟩ z) g x y z := by
  refine ⟨?_, ?_, ?_, fun j => by rw [World.frozen?_setCell, World.frozen?_setCell, World.frozen?_setCell]; exact h.fr j⟩
  · rw [World.cell?_setCell_other _ _ _ _ (by simp), World.cell?_setCell_other _ _ _ _ (by simp)]
    exact World.cell?_setCell_same _ _ _ h.c0
  · rw [World.cell?_setCell_other _ _ _ _ (by simp)]
    exact World.cell?_setCell_same _ _ _ ((World.cell?_setCell_other _ _ _ _ (by simp)).trans h.c1)
  · exact World.cell?_setCell_same _ _ _ (((World.cell?_setCell_other _ _ _ _ (by simp)).trans (World.cell?_setCell_other _ _ _ _ (by simp))).trans h.c2)
/-- a change of a block that is new since -/
theorem But.new {w w1 : World} {r : Nat} (h : But w w1 r) (p : Addr) (hp : w.heap.size ≤ p.block) (u : Value) : But w (w1.setCell p u) r :=
  ⟨h.os, h.tape, h.output, by simpa using h.size, fun k hk hb => (Below.heap_setCell w1 p u k (by omega)).trans (h.block k hk hb)⟩
/-- a reader: its words, the place, whether something is wrong -/
structure Rdr (w : World) (r : Nat) (A : Option Addr) (cap : Nat) (l : List W) (i : Nat) (b : Bool) : Prop where
  c0 : w.cell? ⟨r, 0, none⟩ = some (.slice A l.length cap)
  c1 : w.cell? ⟨r, 1, none⟩ = some (.int .i64 i)
  c2 : w.cell? ⟨r, 2, none⟩ = some (.bool b)
  fr : ∀ j, w.frozen? ⟨r, j, none⟩ = false
  ws : At wc 3 w r A l
theorem Rdr.lt {w : World} {r : Nat} {A : Option Addr} {cap : Nat} {l : List W} {i : Nat} {b : Bool} (h : Rdr w r A cap l i b) : r < w.heap.size := World.block_lt_of_cell? _ _ h.c0
theorem Rdr.below {w w' : World} {r : Nat} {A : Option Addr} {cap : Nat} {l : List W} {i : Nat} {b : Bool} (h : Rdr w r A cap l i b) (hb : Below w.heap.size w w') : Rdr w' r A cap l i b := by
  have hl := h.lt
  exact ⟨(hb.cell (p := ⟨r, 0, none⟩) hl).trans h.c0, (hb.cell (p := ⟨r, 1, none⟩) hl).trans h.c1, (hb.cell (p := ⟨r, 2, none⟩) hl).trans h.c2, fun j => (hb.frozen (p := ⟨r, j, none⟩) hl).trans (h.fr j), h.ws.below (hb.mono (Nat.le_of_lt hl))⟩
theorem Rdr.alloc {w : World} {r : Nat} {A : Option Addr} {cap : Nat} {l : List W} {i : Nat} {b : Bool} (h : Rdr w r A cap l i b) (o : Obj) : Rdr (w.alloc o) r A cap l i b := h.below ((Below.refl _ _).alloc (Nat.le_refl _) o)
theorem Rdr.at {w : World} {r : Nat} {A : Option Addr} {cap : Nat} {l : List W} {i : Nat} {b : Bool} (h : Rdr w r A cap l i b) (j : Nat) : Rdr (w.setCell ⟨r, 1, none⟩ (.int .i64 j)) r A cap l j b := by
  have hl := h.lt
  have f0 := h.fr 0
  refine ⟨?_, ?_, ?_, fun k => ?_, h.ws.keep fun p hp => ?_⟩
  · rw [World.cell?_setCell_other _ _ _ _ (by simp)]; exact h.c0
  · exact World.cell?_setCell_same _ _ _ h.c1
  · rw [World.cell?_setCell_other _ _ _ _ (by simp)]; exact h.c2
  · rw [World.frozen?_setCell]; exact h.fr k
  · exact World.cell?_setCell_other _ _ _ _ (by intro e; rw [← e] at hp; exact absurd hp (Nat.lt_irrefl _))
theorem Rdr.new {w : World} {r : Nat} {A : Option Addr} {cap : Nat} {l : List W} {i : Nat} {b : Bool} (h : Rdr w r A cap l i b) (p : Addr) (hp : r < p.block) (u : Value) : Rdr (w.setCell p u) r A cap l i b := by
  have hn : ∀ q : Addr, q.block ≤ r → q ≠ p := fun q hq e => by rw [e] at hq; omega
  exact ⟨(World.cell?_setCell_other _ _ _ _ (fun e => hn ⟨r, 0, none⟩ (Nat.le_refl _) e.symm)).trans h.c0, (World.cell?_setCell_other _ _ _ _ (fun e => hn ⟨r, 1, none⟩ (Nat.le_refl _) e.symm)).trans h.c1, (World.cell?_setCell_other _ _ _ _ (fun e => hn ⟨r, 2, none⟩ (Nat.le_refl _) e.symm)).trans h.c2, fun k => by rw [World.frozen?_setCell]; exact h.fr k, h.ws.keep fun q hq => World.cell?_setCell_other _ _ _ _ (fun e => hn q (Nat.le_of_lt hq) e.symm)⟩
theorem Rdr.wrong {w : World} {r : Nat} {A : Option Addr} {cap : Nat} {l : List W} {i : Nat} {b : Bool} (h : Rdr w r A cap l i b) : Rdr (w.setCell ⟨r, 2, none⟩ (.bool true)) r A cap l i true := by
  refine ⟨?_, ?_, ?_, fun k => ?_, h.ws.keep fun p hp => ?_⟩
  · rw [World.cell?_setCell_other _ _ _ _ (by simp)]; exact h.c0
  · rw [World.cell?_setCell_other _ _ _ _ (by simp)]; exact h.c1
  · exact World.cell?_setCell_same _ _ _ h.c2
  · rw [World.frozen?_setCell]; exact h.fr k
  · exact World.cell?_setCell_other _ _ _ _ (by intro e; rw [← e] at hp; exact absurd hp (Nat.lt_irrefl _))
theorem bare_get {l : List W} {i : Nat} (h : i < l.length) : (bare l)[i]? = some (l[i].1, l[i].2.1) := by
  unfold bare
  rw [List.getElem?_map, List.getElem?_eq_getElem h]
  rfl
theorem bare_none {l : List W} {i : Nat} (h : ¬ i < l.length) : (bare l)[i]? = none := List.getElem?_eq_none (by rw [bare_length]; omega)
end Go.Proofs.Ytkibacolnagkcaa.Code
/-
  Contracts of the document's reader of words: what comes, and what is taken.
-/
namespace Go.Proofs.Ytkibacolnagkcaa.Code
open Go.ChangeShapes Go.WideShapes Go.ChangeAt Go.RowKit Val Elems
set_option linter.unusedVariables false
set_option linter.unusedSimpArgs false
theorem own_list (s : ByteArray) : ownB s.toList = ownL s.data.toList := by
  rw [ByteArray.toList_eq]
  rfl
theorem isW_at {l : List W} {i : Nat} (h : i < l.length) (b : Bool) (s : List UInt8) : isW (bare l) i b s = (!b && l[i].2.1 == s && (l[i].1 == 3 || ownL s && l[i].1 == 0)) := by
  unfold isW
  rw [bare_get h]
theorem isW_off {l : List W} {i : Nat} (h : ¬ i < l.length) (b : Bool) (s : List UInt8) : isW (bare l) i b s = false := by
  unfold isW
  rw [bare_none h]
theorem isK_at {l : List W} {i : Nat} (h : i < l.length) (b : Bool) (k : Int) : isK (bare l) i b k = (!b && l[i].1 == k) := by
  unfold isK
  rw [bare_get h]
theorem isK_off {l : List W} {i : Nat} (h : ¬ i < l.length) (b : Bool) (k : Int) : isK (bare l) i b k = false := by
  unfold isK
  rw [bare_none h]
theorem isW_bad {L : List V} {i : Nat} (s : List UInt8) : isW L i true s = false := by
  unfold isW
  split <;> rfl
theorem isK_bad {L : List V} {i : Nat} (k : Int) : isK L i true k = false := by
  unfold isK
  split <;> rfl
set_option maxHeartbeats 4000000 in
set_option maxRecDepth 100000 in
theorem ris_any (r : Nat) (A : Option Addr) (cap : Nat) (l : List W) (i : Nat) (b : Bool) (s : ByteArray) (w : World) (h : Rdr w r A cap l i b) (hi : i ≤ l.length) (hl : l.length ≤ 4194304) :
    Calls Try.prog 87 #[.pointer (some ⟨r, 0, none⟩), .string s] w fun e w' => e = .returned (.bool (isW (bare l) i b s.data.toList)) ∧ Below w.heap.size w w' := by
  have HW := Lib.hid h.ws
  obtain ⟨c0, c1, c2, -, -⟩ := h
  cases b
  · by_cases hil : i < l.length
    · have hx := isW_at hil false s.data.toList
      obtain ⟨ad, rfl, ha, d0, d1, d2⟩ := at_word HW.out i hil
      obtain ⟨x, hxx⟩ : ∃ x, l[i] = x := ⟨_, rfl⟩
      rw [hxx] at d0 d1 d2 hx
      obtain ⟨k, t, p⟩ := x
      dsimp only at d0 d1 d2 hx
      obtain ⟨T, hT⟩ : ∃ T : ByteArray, ⟨t.toArray⟩ = T := ⟨_, rfl⟩
      have hTt : t = T.data.toList := by rw [← hT]
      rw [hT] at d1
      clear hxx hT d2
      by_cases hts : T = s
      · subst hts
        obtain ⟨ow, how⟩ : ∃ ow, ownL T.data.toList = ow := ⟨_, rfl⟩
        have HO := Lib.hid (fun w => rown_any T w)
        rw [own_list, how] at HO
        rw [hTt, how] at hx
        have hx2 : isW (bare l) i false T.data.toList = (k == 3 || ow && k == 0) := by rw [hx]; simp
        rw [hx2]
        clear hx hx2 hTt how
        cases hk3 : k == 3
        · cases ow
          · go_enter Try.func87, Try.ntmps87
            go_wp2
            go_quiet (fail)
            go_wp2_with fail
            refine (HO.out _).mono ?_
            rintro e w1 ⟨rfl, rfl⟩
            go_wp2
            go_quiet (fail)
            go_wp2
            go_ret
            exact ⟨rfl, drewN_below (drewN_below (Below.refl _ _) _) _⟩
          · go_enter Try.func87, Try.ntmps87
            go_wp2
            go_quiet (fail)
            go_wp2_with fail
            refine (HO.out _).mono ?_
            rintro e w1 ⟨rfl, rfl⟩
            go_wp2
            go_quiet (fail)
            go_wp2
            go_ret
            exact ⟨retB (by simp), drewN_below (drewN_below (Below.refl _ _) _) _⟩
        · go_enter Try.func87, Try.ntmps87
          go_wp2
          go_quiet (fail)
          go_wp2_with fail
          refine (HO.out _).mono ?_
          rintro e w1 ⟨rfl, rfl⟩
          go_wp2
          go_quiet (fail)
          go_wp2
          go_ret
          exact ⟨rfl, drewN_below (drewN_below (Below.refl _ _) _) _⟩
      · have f2 := toList_ne hts
        have hne : ¬ t = s.data.toList := by
          intro e
          rw [hTt] at e
          exact hts (by rw [← Lib.mk_data T, e, Lib.mk_data])
        have hx2 : isW (bare l) i false s.data.toList = false := by rw [hx]; simp [hne]
        rw [hx2]
        clear hx hx2 hTt hts hne
        go_enter Try.func87, Try.ntmps87
        go_wp2
        go_quiet (fail)
        go_wp2
        go_ret
        exact ⟨rfl, drewN_below (Below.refl _ _) _⟩
    · rw [isW_off hil]
      have e0 : decide ((l.length : Int) ≤ (i : Int)) = true := by simp; omega
      have e1 : decide (l.length ≤ i) = true := by simp; omega
      have e2 : decide ((i : Int) < 0) = false := by simp
      clear hil
      go_enter Try.func87, Try.ntmps87
      go_wp2
      refine wp_region_quiet_lit (by kernel_rfl) (by kernel_rfl) ?_
      repeat (with_reducible refine wpQuiet_step ?_; intro K hK; go_simp; with_reducible refine hK _ ?_; clear hK K)
      refine wpQuiet_nil ?_
      intro _ hw'
      obtain ⟨nq, hw''⟩ := hw'
      subst hw''
      go_wp2
      go_ret
      exact ⟨rfl, drewN_below (Below.refl _ _) _⟩
  · rw [isW_bad]
    go_enter Try.func87, Try.ntmps87
    go_wp2
    refine wp_region_quiet_lit (by kernel_rfl) (by kernel_rfl) ?_
    repeat (with_reducible refine wpQuiet_step ?_; intro K hK; go_simp; with_reducible refine hK _ ?_; clear hK K)
    refine wpQuiet_nil ?_
    intro _ hw'
    obtain ⟨nq, hw''⟩ := hw'
    subst hw''
    go_wp2
    go_ret
    exact ⟨rfl, drewN_below (Below.refl _ _) _⟩
end Go.Proofs.Ytkibacolnagkcaa.Code
/-
  Contracts of the document's reader of words: what is taken, what must come.
-/
namespace Go.Proofs.Ytkibacolnagkcaa.Code
open Go.ChangeShapes Go.WideShapes Go.ChangeAt Go.RowKit Val Elems
set_option linter.unusedVariables false
set_option linter.unusedSimpArgs false
theorem isW_len {l : List W} {i : Nat} {b : Bool} {s : List UInt8} (h : isW (bare l) i b s = true) : i < l.length := by
  have := isW_lt h
  rwa [bare_length] at this
set_option maxHeartbeats 4000000 in
set_option maxRecDepth 100000 in
theorem rtake_any (r : Nat) (A : Option Addr) (cap : Nat) (l : List W) (i : Nat) (b : Bool) (s : ByteArray) (q : Bool) (hq : isW (bare l) i b s.data.toList = q) (w : World) (h : Rdr w r A cap l i b) (hi : i ≤ l.length) (hl : l.length ≤ 4194304) :
    Calls Try.prog 68 #[.pointer (some ⟨r, 0, none⟩), .string s] w fun e w' => e = .returned (.bool q) ∧ But w w' r ∧ Rdr w' r A cap l (if q = true then i + 1 else i) b := by
  have HI := Lib.hid (ris_any r A cap l i b s w h hi hl)
  rw [hq] at HI
  have HR := Lib.hid h
  clear h
  cases q
  · go_enter Try.func68, Try.ntmps68
    go_wp2_with fail
    refine HI.out.mono ?_
    rintro e w1 ⟨rfl, hb1⟩
    have R1 := Lib.hid (HR.out.below hb1)
    have B1 := Lib.hid (But.of hb1 r)
    clear hb1
    go_wp2
    go_ret
    exact ⟨rfl, B1.out, R1.out⟩
  · have hil := isW_len hq
    clear hq
    go_enter Try.func68, Try.ntmps68
    go_wp2_with fail
    refine HI.out.mono ?_
    rintro e w1 ⟨rfl, hb1⟩
    have R1 := Lib.hid (HR.out.below hb1)
    have B1 := Lib.hid (But.of hb1 r)
    have c1 := R1.out.c1
    have fr := R1.out.fr 1
    clear hb1
    go_wp2
    go_ret
    refine ⟨rfl, B1.out.setCell 1 _, ?_⟩
    have := R1.out.at (i + 1)
    rw [Int.natCast_add] at this
    exact this
set_option maxHeartbeats 4000000 in
set_option maxRecDepth 100000 in
theorem rmust_any (r : Nat) (A : Option Addr) (cap : Nat) (l : List W) (i : Nat) (b : Bool) (s : ByteArray) (q : Bool) (hq : isW (bare l) i b s.data.toList = q) (w : World) (h : Rdr w r A cap l i b) (hi : i ≤ l.length) (hl : l.length ≤ 4194304) :
    Calls Try.prog 83 #[.pointer (some ⟨r, 0, none⟩), .string s] w fun e w' => e = .returned (.tuple #[]) ∧ But w w' r ∧ Rdr w' r A cap l (if q = true then i + 1 else i) (if q = true then b else true) := by
  have HI := Lib.hid (rtake_any r A cap l i b s q hq w h hi hl)
  clear h
  cases q
  · go_enter Try.func83, Try.ntmps83
    go_wp2_with fail
    refine HI.out.mono ?_
    rintro e w1 ⟨rfl, hb1, hr1⟩
    have R1 := Lib.hid hr1
    have B1 := Lib.hid hb1
    have c2 := R1.out.c2
    have fr := R1.out.fr 2
    clear hb1 hr1
    go_wp2
    go_end0
    exact ⟨rfl, B1.out.setCell 2 _, R1.out.wrong⟩
  · go_enter Try.func83, Try.ntmps83
    go_wp2_with fail
    refine HI.out.mono ?_
    rintro e w1 ⟨rfl, hb1, hr1⟩
    have R1 := Lib.hid hr1
    have B1 := Lib.hid hb1
    clear hb1 hr1
    go_wp2
    go_end0
    exact ⟨rfl, B1.out, R1.out⟩
end Go.Proofs.Ytkibacolnagkcaa.Code
/-
  Contracts of the document's Figures below 0, and of its Show of one value.
-/
namespace Go.Proofs.Ytkibacolnagkcaa.Code
open Go.ChangeShapes Go.WideShapes Go.ChangeAt Go.RowKit Val
set_option linter.unusedVariables false

set_option maxHeartbeats 400000 in
set_option maxRecDepth 100000 in
/-- .. of one below 0 -/
theorem figures_neg : ∀ (N u : Nat), u < N → 1 ≤ u → u ≤ 9223372036854775808 → ∀ w : World,
    Calls Try.prog 96 #[.int .i64 (-(u : Int))] w fun e w' => e = .returned (.string ⟨(45 :: Lib.decDigits u).toArray⟩) ∧ Below w.heap.size w w'
  | 0, u, h, _, _, _ => absurd h (Nat.not_lt_zero u)
  | N + 1, u, h, h1, hu, w => by
    by_cases h10 : u < 10
    · have HP := Lib.hid (figures_pos (u + 1) u (by omega) (by omega))
      have hL : (Lib.decDigits u).length ≤ 21 := by have := Lib.itoa_length_le (u : Nat) (by omega) (by omega); rwa [itoa_pos] at this
      go_enter Try.func96, Try.ntmps96
      go_wp2_with fail
      refine (HP.out _).mono ?_
      rintro e w1 ⟨rfl, hb1⟩
      have L1 := Lib.hid hb1
      clear hb1
      go_wp2
      go_ret
      exact ⟨retS (strCat [45] _), L1.out⟩
    · have IH := Lib.hid (figures_neg N (u / 10) (by omega) (by omega) (by omega))
      have HS2 := Lib.hid (dec_big u (by omega))
      have hL := Lib.itoa_length_le (u / 10 : Nat) (by omega) (by omega)
      rw [itoa_pos] at hL
      obtain ⟨q, hq⟩ : ∃ q, u / 10 = q := ⟨_, rfl⟩
      obtain ⟨r, hr⟩ : ∃ r, u % 10 = r := ⟨_, rfl⟩
      have hr10 : r < 10 := by omega
      have hq2 : q ≤ 922337203685477580 := by omega
      have eq1 : (-(u : Int)).tdiv 10 = -(q : Int) := by rw [Int.neg_tdiv, Int.tdiv_eq_ediv_of_nonneg (by omega)]; omega
      have eq2 : (-(u : Int)).tmod 10 = -(r : Int) := by rw [Int.neg_tmod, Int.tmod_eq_emod_of_nonneg (by omega)]; omega
      have eq3 : (u : Int).tdiv 10 = (q : Int) := by rw [Int.tdiv_eq_ediv_of_nonneg (by omega)]; omega
      have eq4 : (u : Int).tmod 10 = (r : Int) := by rw [Int.tmod_eq_emod_of_nonneg (by omega)]; omega
      have hsl := cut_at ⟨#[48, 49, 50, 51, 52, 53, 54, 55, 56, 57]⟩ r (r + 1) r (r + 1) rfl (by omega) (by omega) (by show r + 1 ≤ 10; omega)
      obtain ⟨d, hd⟩ : ∃ d, UInt8.ofNat (48 + r) = d := ⟨_, rfl⟩
      rw [dig_at r hr10, hd] at hsl
      rw [hq] at IH HS2 hL
      rw [hr, hd] at HS2
      obtain ⟨T, hT⟩ : ∃ T : ByteArray, T = ⟨(45 :: Lib.decDigits q).toArray⟩ := ⟨_, rfl⟩
      have hTs : T.size ≤ 22 := by rw [hT, size_list]; simp; omega
      have hadd := fun w => run_string_add_sum (P := Try.prog) w T ⟨#[d]⟩ (by show T.size + 1 ≤ _; omega)
      have hT3 : ¬ (9223372036854775807 ≤ T.size) := by omega
      rw [← hT] at IH
      have HT := Lib.hid hT
      clear hT hL
      have w0 : IntKind.i64.wrap (-(q : Int)) = -(q : Int) := by rw [IntKind.wrap_i64]; omega
      have w1 : IntKind.i64.wrap (-(r : Int)) = -(r : Int) := by rw [IntKind.wrap_i64]; omega
      have w2 : IntKind.i64.wrap (r : Int) = (r : Int) := by rw [IntKind.wrap_i64]; omega
      have w3 : IntKind.i64.wrap ((r : Int) + 1) = (r : Int) + 1 := by rw [IntKind.wrap_i64]; omega
      clear hq hr hd
      go_enter Try.func96, Try.ntmps96
      go_wp2_with fail
      go_region_held3 (fun w' => True ∧ Below w.heap.size w w')
        (first | assumption | (refine keepP hb5 (by assumption) ?_; intro kk; trivial) | (exact ⟨trivial, Below.drew (Below.refl _ _)⟩))
        (first | (go_at_call 96; refine (IH.out _).mono ?_; rintro e w5 ⟨rfl, hb5⟩))
      all_goals
        have M1 := Lib.hid (show Below w.heap.size w _ by rename_i hS; exact hS.2)
        go_wp2
        go_ret
        exact ⟨retS (by rw [HS2.out, HT.out]; exact strCat (45 :: Lib.decDigits q) [d]), M1.out⟩
theorem figures_any (n : Int) (hn : fits n) (w : World) :
    Calls Try.prog 96 #[.int .i64 n] w fun e w' => e = .returned (.string ⟨(Lib.itoa n).toArray⟩) ∧ Below w.heap.size w w' := by
  unfold fits at hn
  by_cases h : 0 ≤ n
  · obtain ⟨u, rfl⟩ : ∃ u : Nat, n = u := ⟨n.toNat, by omega⟩
    rw [itoa_pos]
    exact figures_pos (u + 1) u (by omega) (by omega) w
  · obtain ⟨u, rfl⟩ : ∃ u : Nat, n = -(u : Int) := ⟨n.natAbs, by omega⟩
    rw [Lib.itoa_neg u (by omega)]
    exact figures_neg (u + 1) u (by omega) (by omega) (by omega) w
end Go.Proofs.Ytkibacolnagkcaa.Code
