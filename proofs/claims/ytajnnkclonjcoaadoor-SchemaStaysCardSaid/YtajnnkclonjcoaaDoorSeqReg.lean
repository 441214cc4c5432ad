/-
  A region that draws its order, walked in the order in which it is written, with the operations' readiness reckoned once for the whole region. No function is named here.
-/
import Derived.Test.YtajnnkclonjcoaaDoorM3
import Derived.Deep.RegionHeld3
namespace Go.Proofs.YtajnnkclonjcoaaDoor.Code
open Go.ChangeShapes Go.WideShapes Go.ChangeAt Go.RowKit
set_option linter.unusedVariables false
/-- the first ones have come up -/
def upTo (n : Nat) : Nat → Array Bool
  | 0 => Array.replicate n false
  | i + 1 => (upTo n i).setIfInBounds i true
/-- each operation may come up, and be taken first, when those written ahead of it have -/
def steps (ops : Array Oper) (n : Nat) : Bool := Region.noSelect ops && (ops.size == n && (List.range n).all fun i => Region.free .any ops (upTo n i) i && (Region.ready .any ops (upTo n i)).contains i)
theorem steps_at {ops : Array Oper} {n : Nat} (h : steps ops n = true) : Region.noSelect ops = true ∧ ops.size = n ∧ ∀ i, i < n → Region.free .any ops (upTo n i) i = true ∧ (Region.ready .any ops (upTo n i)).contains i = true := by
  unfold steps at h
  rw [Bool.and_eq_true, Bool.and_eq_true, List.all_eq_true, beq_iff_eq] at h
  refine ⟨h.1, h.2.1, fun i hi => ?_⟩
  have := h.2.2 i (List.mem_range.2 hi)
  rwa [Bool.and_eq_true] at this
/-- what is left from an operation on -/
def SeqH (P : Program) (ops : Array Oper) (Q : Exit → Act → World → Prop) (S : World → Prop) (n i : Nat) (a : Act) (w : World) : Prop := wpAnyH P .any ops Q S (n - i) (upTo n i) a w
theorem seq_begin {P : Program} {ops : Array Oper} {Q : Exit → Act → World → Prop} {id : Nat} {a : Act} {w : World} (S : World → Prop) (n : Nat) (hm : P.follows .mixedOrders = true) (hst : steps ops n = true) (hS : S w.drew)
    (h : Hid (steps ops n = true) → S w.drew → SeqH P ops Q S n 0 a w.drew) : (Code.region id ops true).wp P Q a w := by
  refine wp_region_held_drew hm hS fun hS2 => ?_
  have h2 := h (Lib.hid hst) hS2
  have h3 := (steps_at hst).2.1
  unfold SeqH at h2
  rw [Nat.sub_zero] at h2
  rw [h3]
  exact h2
theorem seq_take {P : Program} {ops : Array Oper} {Q : Exit → Act → World → Prop} {S : World → Prop} {n : Nat} (hst : Hid (steps ops n = true)) (i d : Nat) {v : Value} {a : Act} {w : World} {o : _} {t : _} {p : _} {f : _} {g : _}
    (hi : ops[i]? = some (⟨some d, o, t, p, f, g⟩ : Oper)) (hy : ∀ w, S w → (execOp a.eval ⟨some d, o, t, p, f, g⟩).run P w = .ok (.value v) w)
    (h : SeqH P ops Q S n (i + 1) (a.put (some d) v) w) (hw : Region.wanted (⟨some d, o, t, p, f, g⟩ : Oper) (yielded ops a.tmps) = true := by rfl) (hS : S w := by assumption) (hQ : ∀ c a w, Q (.panic c) (a.put (some d) v) w → Q (.panic c) a w := by exact fun _ _ _ h => h) : SeqH P ops Q S n i a w := by
  obtain ⟨h1, h2, h3⟩ := steps_at hst.out
  have hin : i < n := by
    rw [← h2]
    exact (Array.getElem?_eq_some_iff.1 hi).1
  obtain ⟨h4, h5⟩ := h3 i hin
  unfold SeqH at *
  rw [show n - i = (n - (i + 1)) + 1 by omega]
  exact wpAnyH_take hi h1 h4 h5 hQ (Or.inl ⟨hw, hy⟩) hS h
theorem seq_skip {P : Program} {ops : Array Oper} {Q : Exit → Act → World → Prop} {S : World → Prop} {n : Nat} (hst : Hid (steps ops n = true)) (i d : Nat) {a : Act} {w : World} {o : _} {t : _} {p : _} {f : _} {g : _}
    (hi : ops[i]? = some (⟨some d, o, t, p, f, g⟩ : Oper))
    (h : SeqH P ops Q S n (i + 1) (a.put (some d) undef) w) (hw : Region.wanted (⟨some d, o, t, p, f, g⟩ : Oper) (yielded ops a.tmps) = false := by rfl) (hS : S w := by assumption) (hQ : ∀ c a w, Q (.panic c) (a.put (some d) undef) w → Q (.panic c) a w := by exact fun _ _ _ h => h) : SeqH P ops Q S n i a w := by
  obtain ⟨h1, h2, h3⟩ := steps_at hst.out
  have hin : i < n := by
    rw [← h2]
    exact (Array.getElem?_eq_some_iff.1 hi).1
  obtain ⟨h4, h5⟩ := h3 i hin
  unfold SeqH at *
  rw [show n - i = (n - (i + 1)) + 1 by omega]
  exact wpAnyH_take hi h1 h4 h5 hQ (Or.inr ⟨hw, rfl⟩) hS h
/-- a call: nothing else may come up there -/
theorem seq_call {P : Program} {ops : Array Oper} {Q : Exit → Act → World → Prop} {S : World → Prop} {n : Nat} (hst : Hid (steps ops n = true)) (i d : Nat) {a : Act} {w : World} {o : _} {t : _} {p : _} {f : _} {g : _}
    (hi : ops[i]? = some (⟨some d, o, t, p, f, g⟩ : Oper)) (hone : Region.ready .any ops (upTo n i) = [i])
    (h : ∀ K' : Act → World → Prop, Shut (∀ a w, S w → (S w → SeqH P ops Q S n (i + 1) a w) → K' a w) → if Region.wanted (⟨some d, o, t, p, f, g⟩ : Oper) (yielded ops a.tmps) = true then Oper.wp P ⟨some d, o, t, p, f, g⟩ a w K' Q else K' (a.put (some d) undef) w) : SeqH P ops Q S n i a w := by
  obtain ⟨h1, h2, h3⟩ := steps_at hst.out
  have hin : i < n := by
    rw [← h2]
    exact (Array.getElem?_eq_some_iff.1 hi).1
  unfold SeqH at *
  rw [show n - i = (n - (i + 1)) + 1 by omega]
  exact wpAnyH_ready (rs := [i]) hone (by simp) (AllReadyH.cons hi h AllReadyH.nil)
theorem seq_done {P : Program} {ops : Array Oper} {Q : Exit → Act → World → Prop} {S : World → Prop} {n : Nat} {a : Act} {w : World} (hone : Region.ready .any ops (upTo n n) = []) (h : Q .normal a w) : SeqH P ops Q S n n a w := by
  unfold SeqH
  exact wpAnyH_done hone h _
end Go.Proofs.YtajnnkclonjcoaaDoor.Code
