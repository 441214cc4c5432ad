/-
  Words of a text in memory; what a round of Words does. No function of the program is named here.
-/
import Derived.Test.YtjbpkpfmgbhlpaaGreatDoorMs1
import Derived.Deep.RegionHeld3
import Derived.WalkKit
import Derived.Laws.Bits64
import Derived.Laws.Bits64b
import Derived.Laws.BitsLemmas
import Derived.Test.YtjbpkpfmgbhlpaaGreatDoorChecked
import Derived.ProofKit
import Derived.Lib.Hide
import Derived.WalkLawsBesides
import Derived.LoopTactic
import Derived.Below
import Derived.OwnWalk
import Derived.Laws.BytesArg
import Derived.Maps.AppendAt
import Derived.Deep.AppendLies
import Derived.Laws.CopyOwn
import Derived.Laws.MakeOwn
import Derived.Laws.Tables
import Derived.Deep.RegionLaw
import Derived.Test.YtjbpkpfmgbhlpaaGreatDoorShelf
import Derived.Shelf.Strings.BuilderK
import Derived.Lib.OthersKept
import Derived.Lib.SmallJoins
import Derived.Lib.ReplaceLaws
set_option maxRecDepth 100000
set_option maxHeartbeats 16000000
open Go.Lib (hid)
namespace Go.Proofs.YtjbpkpfmgbhlpaaGreatDoor.Code
open Go.ChangeShapes Go.WideShapes Go.ChangeAt Go.RowKit Val Elems
set_option linter.unusedVariables false
def wc (w : W) : List Value := [.int .i64 w.1, .string ⟨w.2.1.toArray⟩, .int .i64 w.2.2]
theorem wc_length (w : W) : (wc w).length = 3 := rfl
theorem wc_one : ∀ w : W, ∀ u ∈ wc w, u.oneCell' = true := by
 intro w u hu
 simp [wc] at hu
 rcases hu with rfl | rfl | rfl <;> rfl
def wcons (a : List W) (r : Except Int (List W)) : Except Int (List W) := match r with | .error j => .error j | .ok m => .ok (a ++ m)
theorem wcons_nil (r : Except Int (List W)) : wcons [] r = r := by cases r <;> rfl
theorem wcons_wcons (a b : List W) (r : Except Int (List W)) : wcons a (wcons b r) = wcons (a ++ b) r := by
 cases r
 ·rfl
 ·simp [wcons]
def WAt (s : List UInt8) (i : Nat) (a : List W) : Prop := wordsL s 0 = wcons a (wordsL (s.drop i) i)
theorem WAt.start (s : List UInt8) : WAt s 0 [] := by
 unfold WAt
 rw [wcons_nil]
 rfl
theorem WAt.blank {s : List UInt8} {i : Nat} {a : List W} (h : WAt s i a) (hi : i < s.length) (hb : blankB s[i] = true) : WAt s (i + 1) a := by
 unfold WAt at *
 rw [h, List.drop_eq_getElem_cons hi, wordsL_blank hb]
 rfl
theorem WAt.none {s : List UInt8} {i : Nat} {a : List W} (h : WAt s i a) (hi : i < s.length) (hb : blankB s[i] = false) (hf : firstL (s.drop i) = none) : wordsL s 0 = .error i := by
 unfold WAt at h
 rw [List.drop_eq_getElem_cons hi] at h hf
 rw [h, wordsL_none hb hf]
 rfl
theorem WAt.one {s : List UInt8} {i n : Nat} {a : List W} {k : Int} {t : List UInt8} (h : WAt s i a) (hi : i < s.length) (hf : firstL (s.drop i) = some (k, t, n)) : WAt s (i + n) (a ++ [(k, t, (i : Int))]) := by
 unfold WAt at *
 have e : wordsL (s.drop i) i = wcons [(k, t, (i : Int))] (wordsL (s.drop (i + n)) ((i + n : Nat) : Int)) := by
  have e2 : (s.drop i).drop n = s.drop (i + n) := List.drop_drop
  rw [← e2, List.drop_eq_getElem_cons hi] at *
  rw [wordsL_one hf, Int.natCast_add]
  rfl
 rw [h, e, wcons_wcons]
theorem WAt.done {s : List UInt8} {a : List W} {i : Nat} (h : WAt s i a) (hi : s.length ≤ i) : wordsL s 0 = .ok a := by
 unfold WAt at h
 rw [h, List.drop_eq_nil_of_le hi, wordsL_nil]
 simp [wcons]
def wL (s : List UInt8) : List W := match wordsL s 0 with | .ok l => l | .error _ => []
def wP (s : List UInt8) : Int := match wordsL s 0 with | .ok _ => 0 | .error j => j
def wE (s : List UInt8) : Int := match wordsL s 0 with | .ok _ => 0 | .error _ => 81
def WordsPost (w : World) (s : List UInt8) (e : Ending) (w' : World) : Prop :=
 ∃ (A : Option Addr) (cap : Nat), e = .returned (.tuple #[.slice A (wL s).length cap, .int .i64 (wP s), .int .i64 (wE s)]) ∧ At wc 3 w' w'.heap.size A (wL s) ∧ Below w.heap.size w w'
theorem words_no {w w' : World} {s : List UInt8} {j : Int} (h : wordsL s 0 = .error j) (hb : Below w.heap.size w w') : WordsPost w s (.returned (.tuple #[.slice none 0 0, .int .i64 j, .int .i64 81])) w' := by
 have h1 : wL s = [] := by unfold wL; rw [h]
 have h2 : wP s = j := by unfold wP; rw [h]
 have h3 : wE s = 81 := by unfold wE; rw [h]
 exact ⟨none, 0, by rw [h1, h2, h3]; rfl, by rw [h1]; exact At.nil _ _ _, hb⟩
theorem words_yes {w w' : World} {s : List UInt8} {l : List W} {v : Value} {e : TypeId} (h : wordsL s 0 = .ok l) (ho : w'.ownsRow w.heap.size e 3 v l.length (flatC wc l)) (hb : Below w.heap.size w w') : WordsPost w s (.returned (.tuple #[v, .int .i64 0, .int .i64 0])) w' := by
 have h1 : wL s = l := by unfold wL; rw [h]
 have h2 : wP s = 0 := by unfold wP; rw [h]
 have h3 : wE s = 0 := by unfold wE; rw [h]
 obtain ⟨A, cap, rfl, hv⟩ := own_at wc_length ho
 exact ⟨A, cap, by rw [h1, h2, h3], by rw [h1]; exact hv, hb⟩
structure But (w w' : World) (r : Nat) : Prop where
 os : w'.os = w.os
 tape : w'.tape = w.tape
 output : w'.output = w.output
 size : w.heap.size ≤ w'.heap.size
 block : ∀ k, k < w.heap.size → k ≠ r → w'.heap[k]? = w.heap[k]?
theorem But.refl (w : World) (r : Nat) : But w w r := ⟨rfl, rfl, rfl, Nat.le_refl _, fun _ _ _ => rfl⟩
theorem But.trans {w w1 w2 : World} {r : Nat} (h : But w w1 r) (g : But w1 w2 r) : But w w2 r :=
 ⟨g.os.trans h.os, g.tape.trans h.tape, g.output.trans h.output, Nat.le_trans h.size g.size, fun k hk hb => (g.block k (Nat.lt_of_lt_of_le hk h.size) hb).trans (h.block k hk hb)⟩
theorem But.of {w w' : World} (h : Below w.heap.size w w') (r : Nat) : But w w' r := ⟨h.os, h.tape, h.output, h.size, fun k hk _ => h.block k hk⟩
theorem But.next {w w1 w2 : World} {r : Nat} (h : But w w1 r) (g : Below w1.heap.size w1 w2) : But w w2 r := h.trans (But.of g r)
theorem But.alloc {w w1 : World} {r : Nat} (h : But w w1 r) (o : Obj) : But w (w1.alloc o) r := h.next ((Below.refl _ _).alloc (Nat.le_refl _) o)
theorem But.setCell {w w1 : World} {r : Nat} (h : But w w1 r) (j : Nat) (u : Value) : But w (w1.setCell ⟨r, j, none⟩ u) r :=
 ⟨h.os, h.tape, h.output, by simpa using h.size, fun k hk hb => (Below.heap_setCell w1 ⟨r, j, none⟩ u k hb).trans (h.block k hk hb)⟩
theorem But.below {w w' : World} {r B : Nat} (h : But w w' r) (hB : B ≤ w.heap.size) (hr : B ≤ r) : Below B w w' :=
 ⟨h.os, h.tape, h.output, h.size, fun k hk => h.block k (Nat.lt_of_lt_of_le hk hB) (by omega)⟩
theorem But.cell {w w' : World} {r : Nat} (h : But w w' r) {q : Addr} (hq : q.block < w.heap.size) (hn : q.block ≠ r) : w'.cell? q = w.cell? q := by
 unfold World.cell?
 rw [h.block _ hq hn]
theorem But.frozen {w w' : World} {r : Nat} (h : But w w' r) {q : Addr} (hq : q.block < w.heap.size) (hn : q.block ≠ r) : w'.frozen? q = w.frozen? q := by
 unfold World.frozen?
 rw [h.block _ hq hn]
def NIn (w : World) (S : Nat → Prop) : Tr → Value → Value → Value → Prop
 | .leaf op tx, a, b, c => a = .string ⟨op.toArray⟩ ∧ b = .string ⟨tx.toArray⟩ ∧ c = .slice none 0 0
 | .one op x, a, b, c => a = .string ⟨op.toArray⟩ ∧ b = .string ⟨#[]⟩ ∧ ∃ (g cap : Nat) (x0 x1 x2 : Value), c = .slice (some ⟨g, 0, none⟩) 1 (cap + 1) ∧ S g ∧ w.cell? ⟨g, 0, none⟩ = some x0 ∧ w.cell? ⟨g, 1, none⟩ = some x1 ∧ w.cell? ⟨g, 2, none⟩ = some x2 ∧ NIn w S x x0 x1 x2
 | .two op x y, a, b, c => a = .string ⟨op.toArray⟩ ∧ b = .string ⟨#[]⟩ ∧ ∃ (g cap : Nat) (x0 x1 x2 y0 y1 y2 : Value), c = .slice (some ⟨g, 0, none⟩) 2 (cap + 2) ∧ S g ∧ w.cell? ⟨g, 0, none⟩ = some x0 ∧ w.cell? ⟨g, 1, none⟩ = some x1 ∧ w.cell? ⟨g, 2, none⟩ = some x2 ∧
   w.cell? ⟨g, 3, none⟩ = some y0 ∧ w.cell? ⟨g, 4, none⟩ = some y1 ∧ w.cell? ⟨g, 5, none⟩ = some y2 ∧ NIn w S x x0 x1 x2 ∧ NIn w S y y0 y1 y2
def opOf : Tr → List UInt8
 | .leaf op _ => op
 | .one op _ => op
 | .two op _ _ => op
def txOf : Tr → List UInt8
 | .leaf _ tx => tx
 | _ => []
theorem NIn.texts {w : World} {S : Nat → Prop} {t : Tr} {a b c : Value} (h : NIn w S t a b c) : a = .string ⟨(opOf t).toArray⟩ ∧ b = .string ⟨(txOf t).toArray⟩ := by
 cases t <;> exact ⟨h.1, h.2.1⟩
theorem NIn.keep {w w' : World} {S S' : Nat → Prop} (hS : ∀ g, S g → S' g) (hk : ∀ g, S g → ∀ j, w'.cell? ⟨g, j, none⟩ = w.cell? ⟨g, j, none⟩) : ∀ (t : Tr) (a b c : Value), NIn w S t a b c → NIn w' S' t a b c
 | .leaf op tx, a, b, c, h => h
 | .one op x, a, b, c, h => by
  obtain ⟨h1, h2, g, cap, x0, x1, x2, h3, h4, c0, c1, c2, hx⟩ := h
  have k := hk g h4
  exact ⟨h1, h2, g, cap, x0, x1, x2, h3, hS g h4, (k 0).trans c0, (k 1).trans c1, (k 2).trans c2, NIn.keep hS hk x x0 x1 x2 hx⟩
 | .two op x y, a, b, c, h => by
  obtain ⟨h1, h2, g, cap, x0, x1, x2, y0, y1, y2, h3, h4, c0, c1, c2, d0, d1, d2, hx, hy⟩ := h
  have k := hk g h4
  exact ⟨h1, h2, g, cap, x0, x1, x2, y0, y1, y2, h3, hS g h4, (k 0).trans c0, (k 1).trans c1, (k 2).trans c2, (k 3).trans d0, (k 4).trans d1, (k 5).trans d2, NIn.keep hS hk x x0 x1 x2 hx, NIn.keep hS hk y y0 y1 y2 hy⟩
theorem NIn.imp {w : World} {S S' : Nat → Prop} {t : Tr} {a b c : Value} (h : NIn w S t a b c) (hS : ∀ g, S g → S' g) : NIn w S' t a b c := NIn.keep hS (fun _ _ _ => rfl) t a b c h
theorem NIn.below {w w' : World} {S : Nat → Prop} {t : Tr} {a b c : Value} (h : NIn w S t a b c) (hS : ∀ g, S g → g < w.heap.size) (hb : Below w.heap.size w w') : NIn w' S t a b c :=
 NIn.keep (fun _ h => h) (fun g hg j => hb.cell (p := ⟨g, j, none⟩) (hS g hg)) t a b c h
theorem NIn.alloc {w : World} {S : Nat → Prop} {t : Tr} {a b c : Value} (h : NIn w S t a b c) (hS : ∀ g, S g → g < w.heap.size) (o : Obj) : NIn (w.alloc o) S t a b c := h.below hS ((Below.refl _ _).alloc (Nat.le_refl _) o)
theorem NIn.but {w w' : World} {S : Nat → Prop} {r : Nat} {t : Tr} {a b c : Value} (h : NIn w S t a b c) (hS : ∀ g, S g → g < w.heap.size ∧ g ≠ r) (hb : But w w' r) : NIn w' S t a b c :=
 NIn.keep (fun _ h => h) (fun g hg j => hb.cell (q := ⟨g, j, none⟩) (hS g hg).1 (hS g hg).2) t a b c h
theorem NIn.setCell {w : World} {S : Nat → Prop} {t : Tr} {a b c : Value} (h : NIn w S t a b c) (p : Addr) (hp : ¬ S p.block) (u : Value) : NIn (w.setCell p u) S t a b c :=
 NIn.keep (fun _ h => h) (fun g hg j => World.cell?_setCell_other _ _ _ _ (by intro e; rw [e] at hp; exact hp hg)) t a b c h
theorem NIn.one {w : World} {S S' : Nat → Prop} {x : Tr} {x0 x1 x2 : Value} (op : ByteArray) (h : NIn w S x x0 x1 x2) (hS : ∀ g, S g → g < w.heap.size) (hS' : ∀ g, S g → S' g) (hn : S' w.heap.size) (t : TypeId) :
  NIn (w.alloc (.cells #[x0, x1, x2] t)) S' (.one op.data.toList x) (.string op) (.string ⟨#[]⟩) (.slice (some ⟨w.heap.size, 0, none⟩) 1 1) :=
 ⟨by rw [Lib.mk_data], rfl, w.heap.size, 0, x0, x1, x2, rfl, hn, by simp [go_sem], by simp [go_sem], by simp [go_sem], (h.alloc hS _).imp hS'⟩
theorem NIn.two {w : World} {S S' : Nat → Prop} {x y : Tr} {x0 x1 x2 y0 y1 y2 : Value} (op : ByteArray) (h : NIn w S x x0 x1 x2) (g : NIn w S y y0 y1 y2) (hS : ∀ g, S g → g < w.heap.size) (hS' : ∀ g, S g → S' g) (hn : S' w.heap.size) (t : TypeId) :
  NIn (w.alloc (.cells #[x0, x1, x2, y0, y1, y2] t)) S' (.two op.data.toList x y) (.string op) (.string ⟨#[]⟩) (.slice (some ⟨w.heap.size, 0, none⟩) 2 2) :=
 ⟨by rw [Lib.mk_data], rfl, w.heap.size, 0, x0, x1, x2, y0, y1, y2, rfl, hn, by simp [go_sem], by simp [go_sem], by simp [go_sem], by simp [go_sem], by simp [go_sem], by simp [go_sem], (h.alloc hS _).imp hS', (g.alloc hS _).imp hS'⟩
theorem take1 {P : Program} {ops : Array Oper} {Q : Exit → Act → World → Prop} {md : Region.Mode} {S : World → Prop} (i d : Nat) {v : Value} {fuel : Nat} {listed : Array Bool} {a : Act} {w : World} {o : _} {t : _} {p : _} {f : _} {g : _}
  (hi : ops[i]? = some (⟨some d, o, t, p, f, g⟩ : Oper)) (hy : ∀ w, S w → (execOp a.eval ⟨some d, o, t, p, f, g⟩).run P w = .ok (.value v) w)
  (h : wpAnyH P md ops Q S fuel (listed.setIfInBounds i true) (a.put (some d) v) w) (hs : Region.noSelect ops = true := by kernel_rfl) (hf : Region.free md ops listed i = true := by kernel_rfl) (hr : (Region.ready md ops listed).contains i = true := by kernel_rfl)
  (hw : Region.wanted (⟨some d, o, t, p, f, g⟩ : Oper) (yielded ops a.tmps) = true := by rfl) (hS : S w := by assumption) (hQ : ∀ c a w, Q (.panic c) (a.put (some d) v) w → Q (.panic c) a w := by exact fun _ _ _ h => h) : wpAnyH P md ops Q S (fuel + 1) listed a w :=
 wpAnyH_take hi hs hf hr hQ (Or.inl ⟨hw, hy⟩) hS h
structure NBox (w : World) (g : Nat) (a b c : Value) : Prop where
 c0 : w.cell? ⟨g, 0, none⟩ = some a
 c1 : w.cell? ⟨g, 1, none⟩ = some b
 c2 : w.cell? ⟨g, 2, none⟩ = some c
 fr : ∀ j, w.frozen? ⟨g, j, none⟩ = false
theorem NBox.lt {w : World} {g : Nat} {a b c : Value} (h : NBox w g a b c) : g < w.heap.size := World.block_lt_of_cell? _ _ h.c0
theorem NBox.but {w w' : World} {g r : Nat} {a b c : Value} (h : NBox w g a b c) (hg : g ≠ r) (hb : But w w' r) : NBox w' g a b c := by
 have hl := h.lt
 exact ⟨(hb.cell (q := ⟨g, 0, none⟩) hl hg).trans h.c0, (hb.cell (q := ⟨g, 1, none⟩) hl hg).trans h.c1, (hb.cell (q := ⟨g, 2, none⟩) hl hg).trans h.c2, fun j => (hb.frozen (q := ⟨g, j, none⟩) hl hg).trans (h.fr j)⟩
theorem NBox.below {w w' : World} {g : Nat} {a b c : Value} (h : NBox w g a b c) (hb : Below w.heap.size w w') : NBox w' g a b c := by
 have hl := h.lt
 exact ⟨(hb.cell (p := ⟨g, 0, none⟩) hl).trans h.c0, (hb.cell (p := ⟨g, 1, none⟩) hl).trans h.c1, (hb.cell (p := ⟨g, 2, none⟩) hl).trans h.c2, fun j => (hb.frozen (p := ⟨g, j, none⟩) hl).trans (h.fr j)⟩
theorem NBox.alloc {w : World} {g : Nat} {a b c : Value} (h : NBox w g a b c) (o : Obj) : NBox (w.alloc o) g a b c := h.below ((Below.refl _ _).alloc (Nat.le_refl _) o)
theorem NBox.fresh (w : World) (a b c : Value) (t : TypeId) : NBox (w.alloc (.cells #[a, b, c] t)) w.heap.size a b c := ⟨by simp [go_sem], by simp [go_sem], by simp [go_sem], fun j => by simp [go_sem]⟩
theorem made0 (w : World) (r : Nat) : ∃ w0, w.alloc (.cells #[.string ⟨#[]⟩, .string ⟨#[]⟩, .slice none 0 0] 25) = w0 ∧ w0.heap.size = w.heap.size + 1 ∧ RowKit.Hid (NBox w0 w.heap.size (.string ⟨#[]⟩) (.string ⟨#[]⟩) (.slice none 0 0)) ∧ RowKit.Hid (But w w0 r) :=
 ⟨_, rfl, by simp, hid (NBox.fresh _ _ _ _ _), hid ((But.refl w r).alloc _)⟩
theorem NBox.set {w : World} {g : Nat} {a b c : Value} (h : NBox w g a b c) (x y z : Value) : NBox (((w.setCell ⟨g, 0, none⟩ x).setCell ⟨g, 1, none⟩ y).setCell ⟨g, 2, none⟩ z) g x y z := by
 refine ⟨?_, ?_, ?_, fun j => by rw [World.frozen?_setCell, World.frozen?_setCell, World.frozen?_setCell]; exact h.fr j⟩
 ·rw [World.cell?_setCell_other _ _ _ _ (by simp), World.cell?_setCell_other _ _ _ _ (by simp)]
  exact World.cell?_setCell_same _ _ _ h.c0
 ·rw [World.cell?_setCell_other _ _ _ _ (by simp)]
  exact World.cell?_setCell_same _ _ _ ((World.cell?_setCell_other _ _ _ _ (by simp)).trans h.c1)
 ·exact World.cell?_setCell_same _ _ _ (((World.cell?_setCell_other _ _ _ _ (by simp)).trans (World.cell?_setCell_other _ _ _ _ (by simp))).trans h.c2)
theorem But.new {w w1 : World} {r : Nat} (h : But w w1 r) (p : Addr) (hp : w.heap.size ≤ p.block) (u : Value) : But w (w1.setCell p u) r :=
 ⟨h.os, h.tape, h.output, by simpa using h.size, fun k hk hb => (Below.heap_setCell w1 p u k (by omega)).trans (h.block k hk hb)⟩
end Go.Proofs.YtjbpkpfmgbhlpaaGreatDoor.Code
/-
  The plain mathematics of package num: what a sum, a product, a narrowing, a zigzag, a flip and eight bytes come to. No program is named here.
-/
namespace Go.Proofs.YtjbpkpfmgbhlpaaGreatDoor.Num
open Go.RowKit
end Go.Proofs.YtjbpkpfmgbhlpaaGreatDoor.Num
/-
  Contracts of num's Flip and Put and of the document's, for every argument (cut out of CodeNum).
-/
namespace Go.Proofs.YtjbpkpfmgbhlpaaGreatDoor.Num
open Go.ChangeShapes Go.WideShapes Go.ChangeAt Go.RowKit
set_option linter.unusedVariables false
end Go.Proofs.YtjbpkpfmgbhlpaaGreatDoor.Num
/-
  Contracts of lex's functions of a byte, and of the document's: which is a blank, a figure, a letter, a name's; how long a word may be.
-/
namespace Go.Proofs.YtjbpkpfmgbhlpaaGreatDoor.Code
open Go.ChangeShapes Go.WideShapes Go.ChangeAt Go.RowKit Val
set_option linter.unusedVariables false
set_option linter.unusedSimpArgs false
theorem blank_any (c : UInt8) (w : World) :
  Calls Tryz.prog 26 #[.int .u8 c.toNat] w fun e w' => e = .returned (.bool (blankB c)) ∧ w = w' := by
 go_enter Tryz.func26, Tryz.ntmps26
 go_wp2
 all_goals go_ret
 all_goals (refine ⟨retB ?_, rfl⟩; rw [Bool.eq_iff_iff]; unfold blankB; simp only [Bool.or_eq_true, Bool.and_eq_true, decide_eq_true_eq, beq_iff_eq]; first | omega | (simp; omega))
theorem figure_any (c : UInt8) (w : World) :
  Calls Tryz.prog 76 #[.int .u8 c.toNat] w fun e w' => e = .returned (.bool (figB c)) ∧ w = w' := by
 go_enter Tryz.func76, Tryz.ntmps76
 go_wp2
 all_goals go_ret
 all_goals (refine ⟨retB ?_, rfl⟩; rw [Bool.eq_iff_iff]; unfold figB; simp only [Bool.or_eq_true, Bool.and_eq_true, decide_eq_true_eq, beq_iff_eq]; first | omega | (simp; omega))
theorem letter_any (c : UInt8) (w : World) :
  Calls Tryz.prog 78 #[.int .u8 c.toNat] w fun e w' => e = .returned (.bool (letB c)) ∧ w = w' := by
 go_enter Tryz.func78, Tryz.ntmps78
 go_wp2
 all_goals go_ret
 all_goals (refine ⟨retB ?_, rfl⟩; rw [Bool.eq_iff_iff]; unfold letB; simp only [Bool.or_eq_true, Bool.and_eq_true, decide_eq_true_eq, beq_iff_eq]; first | omega | (simp; omega))
theorem inName_any (c : UInt8) (w : World) :
  Calls Tryz.prog 79 #[.int .u8 c.toNat] w fun e w' => e = .returned (.bool (nameB c)) ∧ w = w' := by
 go_enter Tryz.func79, Tryz.ntmps79
 go_wp2_with fail
 refine (letter_any c _).mono ?_
 rintro e w1 ⟨rfl, rfl⟩
 have HL := hid (show nameB c = (letB c || figB c || decide (c.toNat = 95)) by rfl)
 cases hl : letB c
 ·have HL := hid (HL.out.trans (by rw [hl]) : nameB c = (false || figB c || decide (c.toNat = 95)))
  go_wp2_with fail
  refine (figure_any c _).mono ?_
  rintro e w1 ⟨rfl, rfl⟩
  cases hf : figB c
  ·have HL := hid (HL.out.trans (by rw [hf]) : nameB c = (false || false || decide (c.toNat = 95)))
   go_wp2
   all_goals go_ret
   all_goals (refine ⟨retB ?_, rfl⟩; rw [HL.out, Bool.eq_iff_iff]; simp only [Bool.false_or, decide_eq_true_eq, beq_iff_eq]; first | omega | (simp; omega))
  ·have HL := hid (HL.out.trans (by rw [hf]; rfl) : nameB c = true)
   go_wp2
   all_goals go_ret
   all_goals (refine ⟨retB ?_, rfl⟩; rw [HL.out])
 ·have HL := hid (HL.out.trans (by rw [hl]; rfl) : nameB c = true)
  go_wp2
  all_goals go_ret
  all_goals (refine ⟨retB ?_, rfl⟩; rw [HL.out])
def longK (k : Int) : Int := if k = 0 then 20 else if k = 1 then 19 else if k = 2 then 200 else 2
theorem longest_any (k : Int) (w : World) :
  Calls Tryz.prog 43 #[.int .i64 k] w fun e w' => e = .returned (.int .i64 (longK k)) ∧ w = w' := by
 by_cases h0 : k = 0
 ·subst h0
  go_enter Tryz.func43, Tryz.ntmps43
  go_wp2
  go_ret
  exact ⟨rfl, rfl⟩
 by_cases h1 : k = 1
 ·subst h1
  go_enter Tryz.func43, Tryz.ntmps43
  go_wp2
  go_ret
  exact ⟨rfl, rfl⟩
 by_cases h2 : k = 2
 ·subst h2
  go_enter Tryz.func43, Tryz.ntmps43
  go_wp2
  go_ret
  exact ⟨rfl, rfl⟩
 have HK := hid (show longK k = 2 by unfold longK; rw [if_neg h0, if_neg h1, if_neg h2])
 have e0 : (k == 0) = false := by simpa using h0
 have e1 : (k == 1) = false := by simpa using h1
 have e2 : (k == 2) = false := by simpa using h2
 clear h0 h1 h2
 go_enter Tryz.func43, Tryz.ntmps43
 go_wp2
 go_ret
 exact ⟨ret1 HK.out.symm, rfl⟩
end Go.Proofs.YtjbpkpfmgbhlpaaGreatDoor.Code
/-
  Lists of values that a call makes: made whole, copied into, stored into; lists of numbers, and lists of rows, in memory. No function of the program is named.
-/
namespace Go.Proofs.YtjbpkpfmgbhlpaaGreatDoor.Code
open Go.ChangeShapes Go.WideShapes Go.ChangeAt Go.RowKit Val
set_option linter.unusedVariables false
theorem run_copy_rowK {P : Program} (w : World) (dT sT ty elem : TypeId) (g o dLen dCap : Nat) (a : Addr) (sLen sCap : Nat) (cur : Array Value) (t : TypeId) (cs : List Value) (k : Nat)
  (hu : P.underlying dT = some (.slice elem)) (hs : (P.info? elem).map (·.size) = some k)
  (hg : w.heap[g]? = some (.cells cur t (0, 0))) (hn : cs.length = Nat.min sLen dLen * k)
  (hsrc : ∀ j v, cs[j]? = some v → w.cell? (a.add j) = some v) (hfit : o + cs.length ≤ cur.size) (h1 : ∀ v ∈ cs, v.oneCell' = true) :
  (Builtin.copy_ #[dT, sT] ty #[.slice (some ⟨g, o, none⟩) dLen dCap, .slice (some a) sLen sCap]).run P w =
   .ok (goInt (Nat.min sLen dLen)) (w.setRow g (cur.toList.take o ++ cs ++ cur.toList.drop (o + cs.length)).toArray) := by
 have hl := run_loadCells_list (P := P) w a cs hsrc
 have hst := run_storeCells_at P g o t cs 0 cur w hg (by simpa using hfit) h1
 cases hq : P.info? elem with
 | none => simp [hq] at hs
 | some i =>
  have hi : i.size = k := by simpa [hq] using hs
  simp [Builtin.copy_, run_underlying hu, Builtin.lenOf, Builtin.firstCells, sizeOf, typeInfo, hq, hi, ← hn, hl, hst]
end Go.Proofs.YtjbpkpfmgbhlpaaGreatDoor.Code
/-
  The contract of the document's Right of a value, for every argument (cut out of CodeVal).
-/
namespace Go.Proofs.YtjbpkpfmgbhlpaaGreatDoor.Val
open Go.ChangeShapes Go.WideShapes Go.ChangeAt Go.RowKit
set_option linter.unusedVariables false
theorem rright_any (k n : Int) (s : ByteArray) (w : World) :
  Calls Tryz.prog 136 #[.agg #[.int .i64 k, .int .i64 n, .string s]] w fun e w' => e = .returned (.bool (rightB k n s)) ∧ Below w.heap.size w w' := by
 have hb0 : ∀ o, Below w.heap.size w (w.alloc o) := fun o => (Below.refl _ _).alloc (Nat.le_refl _) o
 by_cases h4 : k = 4
 ·subst h4
  by_cases h0 : n = 0
  all_goals
   go_enter Tryz.func136, Tryz.ntmps136
   go_wp2
   go_ret
   exact ⟨retB (by unfold rightB; simp [h0]; try omega), hb0 _⟩
 by_cases hs : s.size = 0
 ·obtain rfl := size0 hs
  by_cases hk0 : k = 0
  ·subst hk0
   go_enter Tryz.func136, Tryz.ntmps136
   go_wp2
   go_ret
   exact ⟨retB (by rw [right_empty, Bool.eq_iff_iff]; simp), hb0 _⟩
  by_cases hk1 : k = 1
  ·subst hk1
   by_cases h0 : n = 0
   all_goals
    go_enter Tryz.func136, Tryz.ntmps136
    go_wp2
    go_ret
    exact ⟨retB (by rw [right_empty, Bool.eq_iff_iff]; unfold holdsB; simp [h0]), hb0 _⟩
  by_cases hk2 : k = 2
  ·subst hk2
   by_cases h0 : -2147483648 ≤ n
   all_goals
    go_enter Tryz.func136, Tryz.ntmps136
    go_wp2
    go_ret
    exact ⟨retB (by rw [right_empty, Bool.eq_iff_iff]; unfold holdsB; simp [h0]; try omega), hb0 _⟩
  by_cases hk3 : k = 3
  ·subst hk3
   go_enter Tryz.func136, Tryz.ntmps136
   go_wp2
   go_ret
   exact ⟨retB (by rw [right_empty]; unfold holdsB; simp), hb0 _⟩
  ·have k4 : (k == 4) = false := by simpa using h4
   have k0 : (k == 0) = false := by simpa using hk0
   have k1 : (k == 1) = false := by simpa using hk1
   have k2 : (k == 2) = false := by simpa using hk2
   have k3 : (k == 3) = false := by simpa using hk3
   go_enter Tryz.func136, Tryz.ntmps136
   go_wp2
   go_ret
   exact ⟨retB (by unfold rightB holdsB; simp [h4, hk0, hk1, hk2, hk3]), hb0 _⟩
 ·obtain ⟨e1, e2, e3⟩ := size_pos hs
  have k4 : (k == 4) = false := by simpa using h4
  go_enter Tryz.func136, Tryz.ntmps136
  go_wp2
  go_ret
  exact ⟨retB (by unfold rightB holdsB; by_cases hk0 : k = 0 <;> simp [h4, hk0, hs]), hb0 _⟩
end Go.Proofs.YtjbpkpfmgbhlpaaGreatDoor.Val
namespace Go.Proofs.YtjbpkpfmgbhlpaaGreatDoor.Code
open Go.ChangeShapes Go.WideShapes Go.ChangeAt Go.RowKit Val
theorem rright_is (k n : Int) (s : ByteArray) (b : Bool) (h : rightB k n s = b) (w : World) :
  Calls Tryz.prog 136 #[.agg #[.int .i64 k, .int .i64 n, .string s]] w fun e w' => e = .returned (.bool b) ∧ Below w.heap.size w w' := by
 have := rright_any k n s w
 rw [h] at this
 exact this
end Go.Proofs.YtjbpkpfmgbhlpaaGreatDoor.Code
namespace Go.Proofs.YtjbpkpfmgbhlpaaGreatDoor.Val
end Go.Proofs.YtjbpkpfmgbhlpaaGreatDoor.Val
/-
  The contract of the document's Right of rows.
-/
namespace Go.Proofs.YtjbpkpfmgbhlpaaGreatDoor.Code
open Go.ChangeShapes Go.WideShapes Go.ChangeAt Go.RowKit Val
set_option linter.unusedVariables false
end Go.Proofs.YtjbpkpfmgbhlpaaGreatDoor.Code
/-
  Contracts of num.Narrow, value.holds and value.Right, for every argument (cut out of CodeVal).
-/
namespace Go.Proofs.YtjbpkpfmgbhlpaaGreatDoor.Val
open Go.ChangeShapes Go.WideShapes Go.ChangeAt Go.RowKit
set_option linter.unusedVariables false
def nrE (n : Int) : Int := if -2147483648 ≤ n ∧ n ≤ 2147483647 then 0 else 12
def nrV (n : Int) : Int := if -2147483648 ≤ n ∧ n ≤ 2147483647 then n else 0
theorem narrow_any (a : Int) (w : World) (ha : fits a) :
  Calls Tryz.prog 171 #[.int .i64 a] w fun e w' => e = .returned (.tuple #[.int .i32 (nrV a), .int .i64 (nrE a)]) ∧ w = w' := by
 unfold fits at ha
 go_enter Tryz.func171, Tryz.ntmps171
 go_wp2
 all_goals go_ret2
 all_goals refine ⟨ret2 ?_ ?_, rfl⟩
 all_goals (try unfold wrap64 at *)
 all_goals (try unfold wrap32 at *)
 all_goals (first | unfold nrV | unfold nrE)
 all_goals ((try simp at *) <;> omega)
theorem holds_any (k n : Int) (w : World) (hn : fits n) :
  Calls Tryz.prog 164 #[.int .i64 k, .int .i64 n] w fun e w' => e = .returned (.bool (holdsB k n)) ∧ w = w' := by
 by_cases h1 : k = 1
 ·subst h1
  unfold fits at hn
  go_enter Tryz.func164, Tryz.ntmps164
  go_wp2
  go_ret
  exact ⟨retB (by unfold holdsB; rw [if_pos rfl]; refine decide_eq_decide.2 ?_; rw [IntKind.wrap_u64]; omega), rfl⟩
 by_cases h2 : k = 2
 ·subst h2
  go_enter Tryz.func164, Tryz.ntmps164
  go_wp2_with (go_at_call 171; refine (narrow_any _ _ hn).mono ?_; rintro e w' ⟨rfl, rfl⟩)
  go_ret
  exact ⟨retB (by unfold holdsB nrE; by_cases h : -2147483648 ≤ n ∧ n ≤ 2147483647 <;> simp [h]), rfl⟩
 ·have e1 : (k == 1) = false := by simpa using h1
  have e2 : (k == 2) = false := by simpa using h2
  go_enter Tryz.func164, Tryz.ntmps164
  go_wp2
  go_ret
  exact ⟨retB (by unfold holdsB; by_cases h3 : k = 3 <;> simp [h1, h2, h3]), rfl⟩
theorem right_any (k n : Int) (s : ByteArray) (w : World) (hn : fits n) :
  Calls Tryz.prog 157 #[.agg #[.int .i64 k, .int .i64 n, .string s]] w fun e w' => e = .returned (.bool (rightB k n s)) ∧ Below w.heap.size w w' := by
 have hb0 : ∀ o, Below w.heap.size w (w.alloc o) := fun o => (Below.refl _ _).alloc (Nat.le_refl _) o
 by_cases h4 : k = 4
 ·subst h4
  by_cases hl : s.size ≤ 200
  ·have hl' : decide (200 < s.size) = false := by simpa using hl
   by_cases h0 : n = 0
   all_goals
    go_enter Tryz.func157, Tryz.ntmps157
    go_wp2
    go_ret
    exact ⟨retB (by unfold rightB; simp [h0, hl]), by first | exact hb0 _ | exact (hb0 _).setCell (by simp) _⟩
  ·have hl' : 200 < s.size := by omega
   go_enter Tryz.func157, Tryz.ntmps157
   go_wp2
   go_ret
   exact ⟨retB (by unfold rightB; simp; omega), by first | exact hb0 _ | exact (hb0 _).setCell (by simp) _⟩
 by_cases hk0 : k = 0
 ·subst hk0
  by_cases hs : s.size = 0
  ·obtain rfl := size0 hs
   by_cases h0 : n = 0
   all_goals
    go_enter Tryz.func157, Tryz.ntmps157
    go_wp2
    go_ret
    exact ⟨retB (by unfold rightB; simp [h0]; try rfl), hb0 _⟩
  ·obtain ⟨e1, e2, e3⟩ := size_pos hs
   by_cases h0 : n = 0
   all_goals
    go_enter Tryz.func157, Tryz.ntmps157
    go_wp2
    go_ret
    exact ⟨retB (by unfold rightB; simp [h0, hs]), hb0 _⟩
 have k4 : (k == 4) = false := by simpa using h4
 have k0 : (k == 0) = false := by simpa using hk0
 by_cases hs : s.size = 0
 ·obtain rfl := size0 hs
  go_enter Tryz.func157, Tryz.ntmps157
  go_wp2_with (go_at_call 164; refine (holds_any _ _ _ hn).mono ?_; rintro e w' ⟨rfl, rfl⟩)
  all_goals go_ret
  all_goals exact ⟨retB (by unfold rightB; simp [h4, hk0]; try (intro _; rfl)), hb0 _⟩
 ·obtain ⟨e1, e2, e3⟩ := size_pos hs
  go_enter Tryz.func157, Tryz.ntmps157
  go_wp2_with (go_at_call 164; refine (holds_any _ _ _ hn).mono ?_; rintro e w' ⟨rfl, rfl⟩)
  all_goals go_ret
  all_goals exact ⟨retB (by unfold rightB; simp [h4, hk0, hs]), hb0 _⟩
end Go.Proofs.YtjbpkpfmgbhlpaaGreatDoor.Val
namespace Go.Proofs.YtjbpkpfmgbhlpaaGreatDoor.Code
open Go.ChangeShapes Go.WideShapes Go.ChangeAt Go.RowKit Val
theorem right_is (k n : Int) (s : ByteArray) (b : Bool) (hn : fits n) (h : rightB k n s = b) (w : World) :
  Calls Tryz.prog 157 #[.agg #[.int .i64 k, .int .i64 n, .string s]] w fun e w' => e = .returned (.bool b) ∧ Below w.heap.size w w' := by
 have := right_any k n s w hn
 rw [h] at this
 exact this
end Go.Proofs.YtjbpkpfmgbhlpaaGreatDoor.Code
namespace Go.Proofs.YtjbpkpfmgbhlpaaGreatDoor.Val
end Go.Proofs.YtjbpkpfmgbhlpaaGreatDoor.Val
namespace Go.Proofs.YtjbpkpfmgbhlpaaGreatDoor.Code
open Go.ChangeShapes Go.WideShapes Go.ChangeAt Go.RowKit Val
set_option linter.unusedVariables false
end Go.Proofs.YtjbpkpfmgbhlpaaGreatDoor.Code
/-
  The builder's writers and strings.Clone of Go's library at this translation: what they keep beside the builder.
-/
namespace Go.Proofs.YtjbpkpfmgbhlpaaGreatDoor.Code
open Go.Shelf Go.RowKit
end Go.Proofs.YtjbpkpfmgbhlpaaGreatDoor.Code
/-
  Contracts of package code's put and body, for every argument (cut out of CodeCalls).
-/
namespace Go.Proofs.YtjbpkpfmgbhlpaaGreatDoor.Code
open Go.ChangeShapes Go.WideShapes Go.ChangeAt Go.RowKit Val
set_option linter.unusedVariables false
theorem retS {a c : ByteArray} (h : a = c) : Ending.returned (.string a) = .returned (.string c) := by rw [h]
theorem ba_of {a : ByteArray} {l : List UInt8} (h : a.data.toList = l) : a = ⟨l.toArray⟩ := by
 obtain ⟨⟨m⟩⟩ := a
 simp at h
 rw [h]
theorem strCat (l m : List UInt8) : (⟨l.toArray⟩ : ByteArray) ++ (⟨m.toArray⟩ : ByteArray) = ⟨(l ++ m).toArray⟩ :=
 ba_of (Go.Joins.data_append _ _)
theorem one_at (s : ByteArray) (k : Nat) (h : k < s.size) : s.extract k (k + 1) = ⟨#[s[k]]⟩ := by
 refine ba_of ?_
 have hl : s.data.toList.length = s.size := rfl
 rw [ByteArray.data_extract, Array.toList_extract, List.extract_eq_take_drop, List.drop_eq_getElem_cons (by omega), show k + 1 - k = 1 by omega]
 rfl
theorem strV {a b : ByteArray} (h : a = b) : Value.string a = Value.string b := by rw [h]
theorem list_get (s : ByteArray) (j : Nat) (h : j < s.size) (h' : j < s.data.toList.length) : s.data.toList[j] = s[j] := rfl
theorem run_any (p : UInt8 → Bool) (fn : Nat) (en : ∀ args w, (callFunc fn args).run Tryz.prog w = .ok (.enter fn args) w)
  (hp : ∀ (c : UInt8) (w : World), Calls Tryz.prog fn #[.int .u8 c.toNat] w fun e w' => e = .returned (.bool (p c)) ∧ w = w') (s : ByteArray) (w : World) (hs : s.size ≤ 281474976710656) :
  Calls Tryz.prog 77 #[.string s, .func (.func fn) #[] #[]] w fun e w' => e = .returned (.int .i64 (runL p s.data.toList : Nat)) ∧ w = w' := by
 have HP := hid hp
 clear hp
 go_enter Tryz.func77, Tryz.ntmps77
 go_wp2
 go_loop [5] (fun t => ∃ n : Nat, n ≤ s.size ∧ t = .int .i64 n ∧ n ≤ runL p s.data.toList) (fun t => s.size - (intOf t).toNat)
 case atStart => exact ⟨0, by omega, rfl, by omega⟩
 case round =>
  obtain ⟨n, hn, rfl, hr⟩ := hrel
  have HR := hid hr
  clear hr
  by_cases hlt : n < s.size
  ·obtain ⟨c, hc⟩ : ∃ c, s[n] = c := ⟨_, rfl⟩
   cases hpc : p c
   ·have HE := hid (runL_stop p s.data.toList n hlt HR.out (by rw [list_get s n hlt, hc, hpc]))
    have HP2 := hid (fun w => (HP.out c w).mono (R' := fun e w' => e = .returned (.bool false) ∧ w = w') (by rintro e w' ⟨h1, h2⟩; exact ⟨by rw [h1, hpc], h2⟩))
    clear hpc
    go_wp2_with fail
    refine (HP2.out _).mono ?_
    rintro e w1 ⟨rfl, rfl⟩
    go_wp2
    go_ret
    exact ⟨ret1 (by rw [HE.out]), rfl⟩
   ·have HE := hid (runL_step p s.data.toList n hlt HR.out (by rw [list_get s n hlt, hc, hpc]))
    have HP2 := hid (fun w => (HP.out c w).mono (R' := fun e w' => e = .returned (.bool true) ∧ w = w') (by rintro e w' ⟨h1, h2⟩; exact ⟨by rw [h1, hpc], h2⟩))
    clear hpc
    go_wp2_with fail
    refine (HP2.out _).mono ?_
    rintro e w1 ⟨rfl, rfl⟩
    go_wp2
    go_round
    case rel => exact ⟨n + 1, by omega, by go_num, HE.out⟩
    case measure => simp [intOf]; omega
  ·have HE := hid (show runL p s.data.toList = n by have := runL_le p s.data.toList; have := HR.out; rw [← size_list] at *; omega)
   go_wp2
   go_ret
   exact ⟨ret1 (by rw [HE.out]), rfl⟩
theorem u8_no39 {b : UInt8} (h : ¬ b = 39) : ((b.toNat : Int) == 39) = false := by
 have : b.toNat ≠ 39 := fun e => h (UInt8.toNat_inj.1 e)
 simp
 omega
theorem u8_nq39 {b : UInt8} (h : ¬ b = 39) : ((b.toNat : Int) != 39) = true := by
 have : b.toNat ≠ 39 := fun e => h (UInt8.toNat_inj.1 e)
 simp
 omega
theorem quoted_any (s : ByteArray) (w : World) (hs : s.size ≤ 281474976710656) (h1 : 1 ≤ s.size) :
  Calls Tryz.prog 75 #[.string s] w fun e w' => e = .returned (.int .i64 (quoN s.data.toList : Nat)) ∧ w = w' := by
 go_enter Tryz.func75, Tryz.ntmps75
 go_wp2
 go_loop [3] (fun t => ∃ n : Nat, n ≤ s.size ∧ t = .int .i64 n ∧ 1 ≤ n ∧ Hid (∃ out, quoI s.data.toList n out)) (fun t => s.size - (intOf t).toNat)
 case atStart => exact ⟨1, by omega, rfl, by omega, hid ⟨[], quoI_start _⟩⟩
 case round =>
  obtain ⟨n, hn, rfl, hn1, HO⟩ := hrel
  by_cases hlt : n < s.size
  ·obtain ⟨c, hc⟩ : ∃ c, s[n] = c := ⟨_, rfl⟩
   by_cases hc39 : c = 39
   ·subst hc39
    by_cases hlt2 : n + 1 < s.size
    ·obtain ⟨d, hd⟩ : ∃ d, s[n + 1] = d := ⟨_, rfl⟩
     by_cases hd39 : d = 39
     ·subst hd39
      have HE := hid (show ∃ out, quoI s.data.toList (n + 2) out by
       obtain ⟨out, h⟩ := HO.out
       exact ⟨_, quoI_two h (show n + 1 < s.data.toList.length from hlt2) ((list_get s n hlt hlt).trans hc) ((list_get s (n + 1) hlt2 hlt2).trans hd)⟩)
      go_wp2
      go_round
      case rel => exact ⟨n + 2, by omega, by go_num, by omega, HE⟩
      case measure => simp [intOf]; omega
     ·have HE := hid (show quoN s.data.toList = n + 1 by
       obtain ⟨out, h⟩ := HO.out
       exact (quoI_end h (show n < s.data.toList.length from hlt) ((list_get s n hlt hlt).trans hc) (fun g e => hd39 (hd.symm.trans ((list_get s (n + 1) hlt2 g).symm.trans e)))).1)
      have i0 := u8_no39 hd39
      clear hd39
      go_wp2
      go_ret
      exact ⟨ret1 (by rw [HE.out]; go_num), rfl⟩
    ·have HE := hid (show quoN s.data.toList = n + 1 by
      obtain ⟨out, h⟩ := HO.out
      exact (quoI_end h (show n < s.data.toList.length from hlt) ((list_get s n hlt hlt).trans hc) (fun g => absurd g hlt2)).1)
     go_wp2
     go_ret
     exact ⟨ret1 (by rw [HE.out]; go_num), rfl⟩
   ·have HE := hid (show ∃ out, quoI s.data.toList (n + 1) out by
     obtain ⟨out, h⟩ := HO.out
     exact ⟨_, quoI_other h (show n < s.data.toList.length from hlt) (by rw [list_get s n hlt, hc]; exact hc39)⟩)
    have i0 := u8_no39 hc39
    have i1 := u8_nq39 hc39
    clear hc39
    go_wp2
    go_round
    case rel => exact ⟨n + 1, by omega, by go_num, by omega, HE⟩
    case measure => simp [intOf]; omega
  ·have HE := hid (show quoN s.data.toList = 0 by
    obtain ⟨out, h⟩ := HO.out
    exact (quoI_none h (by rw [← size_list]; omega)).1)
   go_wp2
   go_ret
   exact ⟨ret1 (by rw [HE.out]; rfl), rfl⟩
end Go.Proofs.YtjbpkpfmgbhlpaaGreatDoor.Code
/-
  Contracts of lex's begins and first: what a text begins with, and the word that begins it.
-/
namespace Go.Proofs.YtjbpkpfmgbhlpaaGreatDoor.Code
open Go.ChangeShapes Go.WideShapes Go.ChangeAt Go.RowKit Val
set_option linter.unusedVariables false
set_option linter.unusedSimpArgs false
def markB (c : UInt8) : Bool := decide (c ∈ [40, 41, 44, 61, 43, 45, 42])
theorem idx_mem : ∀ (l : List UInt8) (c : UInt8), 0 ≤ Lib.indexByte l c ↔ c ∈ l
 | [], c => by simp [Lib.indexByte]
 | b :: l, c => by
  have ih := idx_mem l c
  have hg := Lib.indexByte_ge l c
  unfold Lib.indexByte
  by_cases hb : b = c
  ·subst hb
   simp
  ·have hb2 : ¬ c = b := fun e => hb e.symm
   simp only [beq_iff_eq, if_neg hb, List.mem_cons, hb2, false_or]
   rw [← ih]
   split <;> omega
theorem mark_idx (c : UInt8) : decide (0 ≤ Lib.indexByte [40, 41, 44, 61, 43, 45, 42] c) = markB c := decide_eq_decide.2 (idx_mem _ c)
def beginsL (s : List UInt8) : Int × Nat :=
 match s with
 | [] => (3, 0)
 | c :: r =>
  if c = 60 ∨ c = 62 then (3, if twoB (c :: r) = true then 2 else 1)
  else if markB c = true then (3, 1)
  else if c = 39 then (2, quoN (c :: r))
  else if figB c = true then (1, runL figB (c :: r))
  else if letB c = true then (0, runL nameB (c :: r))
  else (3, 0)
theorem begins_cons (c : UInt8) (r : List UInt8) : beginsL (c :: r) = if c = 60 ∨ c = 62 then (3, if twoB (c :: r) = true then 2 else 1) else if markB c = true then (3, 1) else if c = 39 then (2, quoN (c :: r)) else if figB c = true then (1, runL figB (c :: r)) else if letB c = true then (0, runL nameB (c :: r)) else (3, 0) := rfl
theorem twoB_two (c d : UInt8) : twoB [c, d] = (c == 60 && (d == 62 || d == 61) || c == 62 && d == 61) := rfl
def textOf (s : List UInt8) : List UInt8 := if (beginsL s).1 = 2 ∧ 0 < (beginsL s).2 then quoT s else s.take (beginsL s).2
theorem fig_let {c : UInt8} (h : figB c = true) : letB c = false := by
 unfold figB at h
 unfold letB
 simp at *
 omega
theorem mark_cases {c : UInt8} (h : markB c = true) : c = 40 ∨ c = 41 ∨ c = 44 ∨ c = 61 ∨ c = 43 ∨ c = 45 ∨ c = 42 := by
 unfold markB at h
 simpa using h
theorem firstL_is (s : List UInt8) : firstL s = if (beginsL s).2 = 0 ∨ longK (beginsL s).1 < (textOf s).length then none else some ((beginsL s).1, textOf s, (beginsL s).2) := by
 cases s with
 | nil => rfl
 | cons c r =>
  by_cases h60 : c = 60 ∨ c = 62
  ·have hb : beginsL (c :: r) = (3, if twoB (c :: r) = true then 2 else 1) := by rw [begins_cons, if_pos h60]
   have ht : textOf (c :: r) = (c :: r).take (if twoB (c :: r) = true then 2 else 1) := by unfold textOf; rw [hb, if_neg (by simp)]
   have hl : letB c = false := by rcases h60 with rfl | rfl <;> decide
   have hf : figB c = false := by rcases h60 with rfl | rfl <;> decide
   have h39 : c ≠ 39 := by rcases h60 with rfl | rfl <;> decide
   have h1 : oneB c = true := by rcases h60 with rfl | rfl <;> decide
   rw [firstL, if_neg (by rw [hl]; decide), if_neg (by rw [hf]; decide), if_neg h39, ht, hb]
   by_cases h2 : twoB (c :: r) = true
   ·rw [if_pos h2, if_pos h2, if_neg]
    show ¬ (2 = 0 ∨ longK 3 < (((c :: r).take 2).length : Int))
    have : ((c :: r).take 2).length ≤ 2 := by rw [List.length_take]; omega
    rw [show longK 3 = 2 from rfl]
    omega
   ·rw [if_neg h2, if_neg h2, if_pos h1, if_neg]
    ·rfl
    ·show ¬ (1 = 0 ∨ longK 3 < (((c :: r).take 1).length : Int))
     have : ((c :: r).take 1).length ≤ 1 := by rw [List.length_take]; omega
     rw [show longK 3 = 2 from rfl]
     omega
  by_cases hm : markB c = true
  ·have hb : beginsL (c :: r) = (3, 1) := by rw [begins_cons, if_neg h60, if_pos hm]
   have ht : textOf (c :: r) = [c] := by unfold textOf; rw [hb, if_neg (by simp)]; rfl
   have hc := mark_cases hm
   have hl : letB c = false := by rcases hc with rfl | rfl | rfl | rfl | rfl | rfl | rfl <;> decide
   have hf : figB c = false := by rcases hc with rfl | rfl | rfl | rfl | rfl | rfl | rfl <;> decide
   have h39 : c ≠ 39 := by rcases hc with rfl | rfl | rfl | rfl | rfl | rfl | rfl <;> decide
   have h1 : oneB c = true := by rcases hc with rfl | rfl | rfl | rfl | rfl | rfl | rfl <;> decide
   have h2 : twoB (c :: r) = false := by
    cases r with
    | nil => rfl
    | cons d r =>
     rw [twoB_cons, twoB_two, show (c == 60) = false by simpa using fun e => h60 (.inl e), show (c == 62) = false by simpa using fun e => h60 (.inr e)]
     rfl
   rw [firstL, if_neg (by rw [hl]; decide), if_neg (by rw [hf]; decide), if_neg h39, if_neg (by rw [h2]; decide), if_pos h1, ht, hb]
   rfl
  by_cases h39 : c = 39
  ·subst h39
   have hb : beginsL (39 :: r) = (2, quoN (39 :: r)) := by rw [begins_cons, if_neg h60, if_neg hm, if_pos rfl]
   rw [firstL, if_neg (by decide), if_neg (by decide), if_pos rfl]
   unfold textOf
   rw [hb]
   unfold quoN quoT
   rw [List.drop_one, List.tail_cons]
   cases quoL r with
   | none => rfl
   | some v =>
    obtain ⟨t, n⟩ := v
    dsimp only
    rw [if_pos (show (2 : Int) = 2 ∧ 0 < n + 1 from ⟨rfl, by omega⟩), show longK 2 = 200 from rfl]
    by_cases h200 : t.length ≤ 200
    ·rw [if_pos h200, if_neg (by omega)]
    ·rw [if_neg h200, if_pos (by omega)]
  by_cases hf : figB c = true
  ·have hb : beginsL (c :: r) = (1, runL figB (c :: r)) := by rw [begins_cons, if_neg h60, if_neg hm, if_neg h39, if_pos hf]
   have ht : textOf (c :: r) = (c :: r).take (runL figB (c :: r)) := by unfold textOf; rw [hb, if_neg (by simp)]
   have hp := runL_pos (s := r) hf
   have hle := runL_le figB (c :: r)
   rw [firstL, if_neg (by rw [fig_let hf]; decide), if_pos hf, ht, hb, show longK 1 = 19 from rfl, List.length_take]
   dsimp only
   by_cases h19 : runL figB (c :: r) ≤ 19
   ·rw [if_pos h19, if_neg (by omega)]
   ·rw [if_neg h19, if_pos (by omega)]
  by_cases hl : letB c = true
  ·have hb : beginsL (c :: r) = (0, runL nameB (c :: r)) := by rw [begins_cons, if_neg h60, if_neg hm, if_neg h39, if_neg hf, if_pos hl]
   have ht : textOf (c :: r) = (c :: r).take (runL nameB (c :: r)) := by unfold textOf; rw [hb, if_neg (by simp)]
   have hp : 1 ≤ runL nameB (c :: r) := runL_pos (by unfold nameB; rw [hl]; rfl)
   have hle := runL_le nameB (c :: r)
   rw [firstL, if_pos hl, ht, hb, show longK 0 = 20 from rfl, List.length_take]
   dsimp only
   by_cases h20 : runL nameB (c :: r) ≤ 20
   ·rw [if_pos h20, if_neg (by omega)]
   ·rw [if_neg h20, if_pos (by omega)]
  ·have hb : beginsL (c :: r) = (3, 0) := by rw [begins_cons, if_neg h60, if_neg hm, if_neg h39, if_neg hf, if_neg hl]
   have h2 : twoB (c :: r) = false := by
    cases r with
    | nil => rfl
    | cons d r =>
     rw [twoB_cons, twoB_two, show (c == 60) = false by simpa using fun e => h60 (.inl e), show (c == 62) = false by simpa using fun e => h60 (.inr e)]
     rfl
   have h1 : oneB c = false := by
    have hm' : ¬ c ∈ [40, 41, 44, 61, 43, 45, 42] := by unfold markB at hm; simpa using hm
    unfold oneB
    simp at hm' h60 ⊢
    simp [hm', h60]
   rw [firstL, if_neg hl, if_neg hf, if_neg h39, if_neg (by rw [h2]; decide), if_neg (by rw [h1]; decide), hb, if_pos (.inl rfl)]
theorem begins_le (s : List UInt8) : (beginsL s).2 ≤ s.length := by
 cases s with
 | nil => exact Nat.le_refl _
 | cons c r =>
  rw [begins_cons]
  split
  ·dsimp only
   split
   ·rename_i h
    cases r with
    | nil => cases h
    | cons d r => simp
   ·simp
  split
  ·simp
  split
  ·unfold quoN
   rw [List.drop_one, List.tail_cons]
   cases hq : quoL r with
   | none => exact Nat.zero_le _
   | some v =>
    obtain ⟨t, n⟩ := v
    obtain ⟨r', rfl, rfl, -⟩ := quoL_is r t n hq
    simp
  split
  ·exact runL_le _ _
  split
  ·exact runL_le _ _
  ·exact Nat.zero_le _
theorem quote_inner (s : List UInt8) (h : 0 < quoN s) : ((s.take (quoN s)).drop 1).take (quoN s - 2) = dbl (quoT s) ∧ 2 ≤ quoN s := by
 unfold quoN quoT at *
 cases hq : quoL (s.drop 1) with
 | none => rw [hq] at h; simp at h
 | some v =>
  obtain ⟨t, n⟩ := v
  obtain ⟨r', e1, rfl, -⟩ := quoL_is _ t n hq
  dsimp only
  refine ⟨?_, by omega⟩
  rw [List.drop_take, e1, show (dbl t).length + 1 + 1 - 1 = (dbl t).length + 1 by omega, List.take_take, show min ((dbl t).length + 1 + 1 - 2) ((dbl t).length + 1) = (dbl t).length by omega]
  simp
end Go.Proofs.YtjbpkpfmgbhlpaaGreatDoor.Code
/-
  Contracts of lex's begins and first: what a text begins with, and the word that begins it.
-/
namespace Go.Proofs.YtjbpkpfmgbhlpaaGreatDoor.Code
open Go.ChangeShapes Go.WideShapes Go.ChangeAt Go.RowKit Val
set_option linter.unusedVariables false
theorem retKN {x : Int × Nat} {k i : Int} {n : Nat} (h : x = (k, n)) (g : i = n) : Ending.returned (.tuple #[.int .i64 k, .int .i64 i]) = .returned (.tuple #[.int .i64 x.1, .int .i64 (x.2 : Nat)]) := by rw [h, g]
theorem list_cons (s : ByteArray) (h : 0 < s.size) : s.data.toList = s[0] :: s.data.toList.drop 1 := by
 have := List.drop_eq_getElem_cons (l := s.data.toList) (i := 0) h
 rwa [List.drop_zero] at this
theorem u8_not {b : UInt8} (k : Nat) (c : UInt8) (hk : c.toNat = k) (h : ¬ b = c) : ((b.toNat : Int) == (k : Int)) = false := by
 have : b.toNat ≠ c.toNat := fun e => h (UInt8.toNat_inj.1 e)
 simp
 omega
theorem list_two (s : ByteArray) (h : 1 < s.size) : s.data.toList = s[0] :: s[1] :: s.data.toList.drop 2 := by
 rw [list_cons s (by omega), List.drop_eq_getElem_cons (l := s.data.toList) (i := 1) h]
 rfl
theorem list_short (s : ByteArray) (h : 0 < s.size) (g : ¬ 1 < s.size) : s.data.toList = [s[0]] := by
 rw [list_cons s h, List.drop_eq_nil_of_le (by rw [← size_list]; omega)]
theorem begins_any (s : ByteArray) (w : World) (hs : s.size ≤ 281474976710656) (h1 : 1 ≤ s.size) :
  Calls Tryz.prog 41 #[.string s] w fun e w' => e = .returned (.tuple #[.int .i64 (beginsL s.data.toList).1, .int .i64 ((beginsL s.data.toList).2 : Nat)]) ∧ w = w' := by
 obtain ⟨c, hc⟩ : ∃ c, s[0] = c := ⟨_, rfl⟩
 have hl := list_cons s h1
 rw [hc] at hl
 by_cases h60 : c = 60
 ·subst h60
  by_cases hlt : 1 < s.size
  ·obtain ⟨d, hd⟩ : ∃ d, s[1] = d := ⟨_, rfl⟩
   have hl2 := list_two s hlt
   rw [hc, hd] at hl2
   clear hl
   by_cases h62 : d = 62
   ·subst h62
    have HX := hid (show beginsL s.data.toList = (3, 2) by rw [hl2]; rfl)
    have HP := hid (fun w => (Tryz.strings_HasPrefix s ⟨#[60, 62]⟩ w).mono (R' := fun e w' => e = .returned (.bool true) ∧ w' = w) (by rintro e w' ⟨h1, h2⟩; exact ⟨by rw [h1, hl2]; rfl, h2⟩))
    clear hl2
    go_enter Tryz.func41, Tryz.ntmps41
    go_wp2_with fail
    refine (HP.out _).mono ?_
    rintro e w1 ⟨rfl, rfl⟩
    go_wp2
    go_ret2
    exact ⟨retKN HX.out rfl, rfl⟩
   ·have HP := hid (fun w => (Tryz.strings_HasPrefix s ⟨#[60, 62]⟩ w).mono (R' := fun e w' => e = .returned (.bool false) ∧ w' = w) (by rintro e w' ⟨h1, h2⟩; exact ⟨by rw [h1, hl2]; simp [Lib.hasPrefix, List.isPrefixOf]; exact fun e => h62 e.symm, h2⟩))
    by_cases h61 : d = 61
    ·subst h61
     have HX := hid (show beginsL s.data.toList = (3, 2) by rw [hl2]; rfl)
     clear hl2
     go_enter Tryz.func41, Tryz.ntmps41
     go_wp2_with fail
     refine (HP.out _).mono ?_
     rintro e w1 ⟨rfl, rfl⟩
     go_wp2
     go_ret2
     exact ⟨retKN HX.out rfl, rfl⟩
    ·have HX := hid (show beginsL s.data.toList = (3, 1) by
      rw [hl2, begins_cons, if_pos (.inl rfl), twoB_cons, twoB_two, show (d == 62) = false by simpa using h62, show (d == 61) = false by simpa using h61]
      rfl)
     have i0 := u8_not 61 61 rfl h61
     clear hl2 h61 h62
     go_enter Tryz.func41, Tryz.ntmps41
     go_wp2_with fail
     refine (HP.out _).mono ?_
     rintro e w1 ⟨rfl, rfl⟩
     go_wp2
     go_ret2
     exact ⟨retKN HX.out rfl, rfl⟩
  ·have hl2 := list_short s h1 hlt
   rw [hc] at hl2
   have HX := hid (show beginsL s.data.toList = (3, 1) by rw [hl2]; rfl)
   have HP := hid (fun w => (Tryz.strings_HasPrefix s ⟨#[60, 62]⟩ w).mono (R' := fun e w' => e = .returned (.bool false) ∧ w' = w) (by rintro e w' ⟨h1, h2⟩; exact ⟨by rw [h1, hl2]; rfl, h2⟩))
   clear hl2 hl
   go_enter Tryz.func41, Tryz.ntmps41
   go_wp2_with fail
   refine (HP.out _).mono ?_
   rintro e w1 ⟨rfl, rfl⟩
   go_wp2
   go_ret2
   exact ⟨retKN HX.out rfl, rfl⟩
 by_cases h62 : c = 62
 ·subst h62
  by_cases hlt : 1 < s.size
  ·obtain ⟨d, hd⟩ : ∃ d, s[1] = d := ⟨_, rfl⟩
   have hl2 := list_two s hlt
   rw [hc, hd] at hl2
   clear hl
   by_cases h61 : d = 61
   ·subst h61
    have HX := hid (show beginsL s.data.toList = (3, 2) by rw [hl2]; rfl)
    clear hl2
    go_enter Tryz.func41, Tryz.ntmps41
    go_wp2
    go_ret2
    exact ⟨retKN HX.out rfl, rfl⟩
   ·have HX := hid (show beginsL s.data.toList = (3, 1) by
     rw [hl2, begins_cons, if_pos (.inr rfl), twoB_cons, twoB_two, show (d == 61) = false by simpa using h61]
     simp)
    have i0 := u8_not 61 61 rfl h61
    clear hl2 h61
    go_enter Tryz.func41, Tryz.ntmps41
    go_wp2
    go_ret2
    exact ⟨retKN HX.out rfl, rfl⟩
  ·have hl2 := list_short s h1 hlt
   rw [hc] at hl2
   have HX := hid (show beginsL s.data.toList = (3, 1) by rw [hl2]; rfl)
   clear hl2 hl
   go_enter Tryz.func41, Tryz.ntmps41
   go_wp2
   go_ret2
   exact ⟨retKN HX.out rfl, rfl⟩
 have j60 := u8_not 60 60 rfl h60
 have j62 := u8_not 62 62 rfl h62
 obtain ⟨j, hj⟩ : ∃ j, Lib.indexByte [40, 41, 44, 61, 43, 45, 42] c = j := ⟨_, rfl⟩
 have hmk := mark_idx c
 rw [hj] at hmk
 have HI := hid (fun w => (Tryz.strings_IndexByte ⟨#[40, 41, 44, 61, 43, 45, 42]⟩ (c.toNat : Int) w).mono (R' := fun e w' => e = .returned (.int .i64 j) ∧ w' = w) (by
  rintro e w' ⟨h1, h2⟩
  refine ⟨?_, h2⟩
  rw [h1, Int.toNat_natCast, show c.toNat.toUInt8 = c from UInt8.ofNat_toNat]
  exact congrArg (fun x => Ending.returned (.int .i64 x)) hj))
 have hb0 := begins_cons c (s.data.toList.drop 1)
 rw [← hl, if_neg (by rintro (e | e); exact h60 e; exact h62 e)] at hb0
 have h60' := h60
 clear hj h60 h62 h60'
 by_cases hm : markB c = true
 ·have HX := hid (hb0.trans (if_pos hm))
  rw [hm] at hmk
  clear hb0 hm hl
  go_enter Tryz.func41, Tryz.ntmps41
  go_wp2_with fail
  refine (HI.out _).mono ?_
  rintro e w1 ⟨rfl, rfl⟩
  go_wp2
  go_ret2
  exact ⟨retKN HX.out rfl, rfl⟩
 rw [if_neg hm] at hb0
 rw [show markB c = false by simpa using hm] at hmk
 clear hm
 by_cases h39 : c = 39
 ·subst h39
  have HX := hid (hb0.trans (if_pos rfl))
  have HQ := hid (fun w => quoted_any s w hs h1)
  obtain ⟨N, hN⟩ : ∃ N, quoN s.data.toList = N := ⟨_, rfl⟩
  rw [hN] at HX HQ
  clear hb0 hl hN
  go_enter Tryz.func41, Tryz.ntmps41
  go_wp2_with fail
  refine (HI.out _).mono ?_
  rintro e w1 ⟨rfl, rfl⟩
  go_wp2_with fail
  refine (HQ.out _).mono ?_
  rintro e w1 ⟨rfl, rfl⟩
  go_wp2
  go_ret2
  exact ⟨retKN HX.out rfl, rfl⟩
 have j39 := u8_not 39 39 rfl h39
 rw [if_neg h39] at hb0
 clear h39
 obtain ⟨f, hf⟩ : ∃ f, figB c = f := ⟨_, rfl⟩
 have HF := hid (fun w => (figure_any c w).mono (R' := fun e w' => e = .returned (.bool f) ∧ w = w') (by rintro e w' ⟨h1, h2⟩; exact ⟨by rw [h1, hf], h2⟩))
 cases f
 ·rw [if_neg (by rw [hf]; decide)] at hb0
  obtain ⟨a, ha⟩ : ∃ a, letB c = a := ⟨_, rfl⟩
  have HA := hid (fun w => (letter_any c w).mono (R' := fun e w' => e = .returned (.bool a) ∧ w = w') (by rintro e w' ⟨h1, h2⟩; exact ⟨by rw [h1, ha], h2⟩))
  cases a
  ·rw [if_neg (by rw [ha]; decide)] at hb0
   have HX := hid hb0
   clear hb0 hl hf ha
   go_enter Tryz.func41, Tryz.ntmps41
   go_wp2_with fail
   refine (HI.out _).mono ?_
   rintro e w1 ⟨rfl, rfl⟩
   go_wp2_with fail
   refine (HF.out _).mono ?_
   rintro e w1 ⟨rfl, rfl⟩
   go_wp2_with fail
   refine (HA.out _).mono ?_
   rintro e w1 ⟨rfl, rfl⟩
   go_wp2
   go_ret2
   exact ⟨retKN HX.out rfl, rfl⟩
  ·rw [if_pos ha] at hb0
   have HX := hid hb0
   have HR := hid (fun w => run_any nameB 79 (enters_of Tryz.func79 (by kernel_rfl) rfl) inName_any s w hs)
   obtain ⟨N, hN⟩ : ∃ N, runL nameB s.data.toList = N := ⟨_, rfl⟩
   rw [hN] at HX HR
   clear hb0 hl hf ha hN
   go_enter Tryz.func41, Tryz.ntmps41
   go_wp2_with fail
   refine (HI.out _).mono ?_
   rintro e w1 ⟨rfl, rfl⟩
   go_wp2_with fail
   refine (HF.out _).mono ?_
   rintro e w1 ⟨rfl, rfl⟩
   go_wp2_with fail
   refine (HA.out _).mono ?_
   rintro e w1 ⟨rfl, rfl⟩
   go_wp2_with fail
   refine (HR.out _).mono ?_
   rintro e w1 ⟨rfl, rfl⟩
   go_wp2
   go_ret2
   exact ⟨retKN HX.out rfl, rfl⟩
 ·rw [if_pos hf] at hb0
  have HX := hid hb0
  have HR := hid (fun w => run_any figB 76 (enters_of Tryz.func76 (by kernel_rfl) rfl) figure_any s w hs)
  obtain ⟨N, hN⟩ : ∃ N, runL figB s.data.toList = N := ⟨_, rfl⟩
  rw [hN] at HX HR
  clear hb0 hl hf hN
  go_enter Tryz.func41, Tryz.ntmps41
  go_wp2_with fail
  refine (HI.out _).mono ?_
  rintro e w1 ⟨rfl, rfl⟩
  go_wp2_with fail
  refine (HF.out _).mono ?_
  rintro e w1 ⟨rfl, rfl⟩
  go_wp2_with fail
  refine (HR.out _).mono ?_
  rintro e w1 ⟨rfl, rfl⟩
  go_wp2
  go_ret2
  exact ⟨retKN HX.out rfl, rfl⟩
end Go.Proofs.YtjbpkpfmgbhlpaaGreatDoor.Code
