/-
  What walks need of every seat; no function of the program is named (cut out of CodeVal).
-/
import Derived.Test.YthkdpfadjbhmoaaDoorChecked
import Derived.Test.YthkdpfadjbhmoaaDoorValPure
import Derived.WalkKit
import Derived.ProofKit
import Derived.Lib.Hide
import Derived.Below
import Derived.OwnWalk
import Derived.Deep.RegionHeld3
import Derived.WalkLawsBesides
import Derived.LoopTactic
namespace Go.Proofs.YthkdpfadjbhmoaaDoor.Val
open Go.ChangeShapes Go.WideShapes Go.ChangeAt Go.RowKit
set_option linter.unusedVariables false

theorem ret1 {k : IntKind} {a c : Int} (h : a = c) : Ending.returned (.int k a) = .returned (.int k c) := by rw [h]
theorem retB {a c : Bool} (h : a = c) : Ending.returned (.bool a) = .returned (.bool c) := by rw [h]
theorem ret2 {k l : IntKind} {a b c d : Int} (h : a = c) (g : b = d) : Ending.returned (.tuple #[.int k a, .int l b]) = .returned (.tuple #[.int k c, .int l d]) := by rw [h, g]
theorem below_alloc (W : World) (o : Obj) : Below W.heap.size W (W.alloc o) := (Below.refl _ _).alloc (Nat.le_refl _) o
theorem bnext {B : Nat} {w W W' : World} (h : Below B w W) (hB : B ≤ W.heap.size) (hb : Below W.heap.size W W') : Below B w W' := h.trans (hb.mono hB)
theorem bcell {W w1 : World} (hb : Below W.heap.size W w1) : (∀ b o, b < W.heap.size → w1.cell? ⟨b, o, none⟩ = W.cell? ⟨b, o, none⟩) ∧ (∀ b o, b < W.heap.size → w1.frozen? ⟨b, o, none⟩ = W.frozen? ⟨b, o, none⟩) :=
  ⟨fun b o h => hb.cell (p := ⟨b, o, none⟩) h, fun b o h => hb.frozen (p := ⟨b, o, none⟩) h⟩

theorem right_empty (k n : Int) : rightB k n ⟨#[]⟩ = if k = 4 then decide (n = 0) else if k = 0 then decide (n = 0) else holdsB k n := by
  unfold rightB
  rw [show (⟨#[]⟩ : ByteArray).size = 0 from rfl]
  simp
/-- what was there when a region began is there behind each call that makes memory of its own alone -/
theorem keepK {C : Prop} {W w1 w2 : World} (hb : Below w1.heap.size w1 w2) (h : C ∧ Below W.heap.size W w1) {C' : Prop}
    (hC : (∀ b o, b < W.heap.size → w2.cell? ⟨b, o, none⟩ = W.cell? ⟨b, o, none⟩) → C') : C' ∧ Below W.heap.size W w2 := by
  have hB := h.2.trans (hb.mono h.2.size)
  exact ⟨hC fun b o hl => hB.cell (p := ⟨b, o, none⟩) hl, hB⟩
theorem keepA {C : Prop} {W w1 : World} (o : Obj) (h : C ∧ Below W.heap.size W w1) {C' : Prop}
    (hC : (∀ b o', b < W.heap.size → (w1.alloc o).cell? ⟨b, o', none⟩ = W.cell? ⟨b, o', none⟩) → C') : C' ∧ Below W.heap.size W (w1.alloc o) :=
  keepK ((Below.refl _ _).alloc (Nat.le_refl _) o) h hC
theorem keepD {C : Prop} {W w1 : World} {o : Obj} (h : C ∧ Below W.heap.size W w1.drew) {C' : Prop}
    (hC : (∀ b i, b < W.heap.size → (w1.alloc o).drew.cell? ⟨b, i, none⟩ = W.cell? ⟨b, i, none⟩) → C') : C' ∧ Below W.heap.size W (w1.alloc o).drew := by
  have h1 : Below W.heap.size W w1 := ⟨h.2.os, h.2.tape, h.2.output, h.2.size, h.2.block⟩
  have hB : Below W.heap.size W (w1.alloc o).drew := Below.drew (h1.alloc h1.size o)
  exact ⟨hC fun b i hl => hB.cell (p := ⟨b, i, none⟩) hl, hB⟩

/-- a value's three cells at the beginning of a block -/
def Box (W : World) (b : Nat) (k n : Int) (s : ByteArray) : Prop := W.cell? ⟨b, 0, none⟩ = some (.int .i64 k) ∧ W.cell? ⟨b, 1, none⟩ = some (.int .i64 n) ∧ W.cell? ⟨b, 2, none⟩ = some (.string s) ∧ b < W.heap.size
theorem Box.call {W W' : World} {b : Nat} {k n : Int} {s : ByteArray} (h : Box W b k n s) (hb : Below W.heap.size W W') : Box W' b k n s := by
  obtain ⟨h0, h1, h2, h3⟩ := h
  exact ⟨by rw [hb.cell (p := ⟨b, 0, none⟩) h3]; exact h0, by rw [hb.cell (p := ⟨b, 1, none⟩) h3]; exact h1, by rw [hb.cell (p := ⟨b, 2, none⟩) h3]; exact h2, Nat.lt_of_lt_of_le h3 hb.size⟩
theorem Box.alloc {W : World} {b : Nat} {k n : Int} {s : ByteArray} (h : Box W b k n s) (o : Obj) : Box (W.alloc o) b k n s := h.call (below_alloc W o)
theorem Box.fresh (W : World) (k n : Int) (s : ByteArray) (t : TypeId) : Box (W.alloc (.cells #[.int .i64 k, .int .i64 n, .string s] t)) W.heap.size k n s := ⟨by simp [go_sem], by simp [go_sem], by simp [go_sem], by simp⟩

end Go.Proofs.YthkdpfadjbhmoaaDoor.Val

