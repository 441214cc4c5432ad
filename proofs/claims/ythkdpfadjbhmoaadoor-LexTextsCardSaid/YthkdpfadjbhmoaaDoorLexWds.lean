/-
  Words of a text in memory; what a round of Words does. No function of the program is named here.
-/
import Derived.Test.YthkdpfadjbhmoaaDoorLexPure
import Derived.Test.YthkdpfadjbhmoaaDoorElems
namespace Go.Proofs.YthkdpfadjbhmoaaDoor.Code
open Go.ChangeShapes Go.WideShapes Go.ChangeAt Go.RowKit Val Elems
set_option linter.unusedVariables false
/-- a word's cells -/
def wc (w : W) : List Value := [.int .i64 w.1, .string ⟨w.2.1.toArray⟩, .int .i64 w.2.2]
theorem wc_length (w : W) : (wc w).length = 3 := rfl
theorem wc_one : ∀ w : W, ∀ u ∈ wc w, u.oneCell' = true := by
  intro w u hu
  simp [wc] at hu
  rcases hu with rfl | rfl | rfl <;> rfl
def wcons (a : List W) (r : Except Int (List W)) : Except Int (List W) := match r with | .error j => .error j | .ok m => .ok (a ++ m)
theorem wcons_nil (r : Except Int (List W)) : wcons [] r = r := by cases r <;> rfl
theorem wcons_wcons (a b : List W) (r : Except Int (List W)) : wcons a (wcons b r) = wcons (a ++ b) r := by
  cases r
  · rfl
  · simp [wcons]
/-- how far the words of a text are gone through -/
def WAt (s : List UInt8) (i : Nat) (a : List W) : Prop := wordsL s 0 = wcons a (wordsL (s.drop i) i)
theorem WAt.start (s : List UInt8) : WAt s 0 [] := by
  unfold WAt
  rw [wcons_nil]
  rfl
theorem WAt.blank {s : List UInt8} {i : Nat} {a : List W} (h : WAt s i a) (hi : i < s.length) (hb : blankB s[i] = true) : WAt s (i + 1) a := by
  unfold WAt at *
  rw [h, List.drop_eq_getElem_cons hi, wordsL_blank hb]
  rfl
theorem WAt.none {s : List UInt8} {i : Nat} {a : List W} (h : WAt s i a) (hi : i < s.length) (hb : blankB s[i] = false) (hf : firstL (s.drop i) = none) : wordsL s 0 = .error i := by
  unfold WAt at h
  rw [List.drop_eq_getElem_cons hi] at h hf
  rw [h, wordsL_none hb hf]
  rfl
theorem WAt.one {s : List UInt8} {i n : Nat} {a : List W} {k : Int} {t : List UInt8} (h : WAt s i a) (hi : i < s.length) (hf : firstL (s.drop i) = some (k, t, n)) : WAt s (i + n) (a ++ [(k, t, (i : Int))]) := by
  unfold WAt at *
  have e : wordsL (s.drop i) i = wcons [(k, t, (i : Int))] (wordsL (s.drop (i + n)) ((i + n : Nat) : Int)) := by
    have e2 : (s.drop i).drop n = s.drop (i + n) := List.drop_drop
    rw [← e2, List.drop_eq_getElem_cons hi] at *
    rw [wordsL_one hf, Int.natCast_add]
    rfl
  rw [h, e, wcons_wcons]
theorem WAt.done {s : List UInt8} {a : List W} {i : Nat} (h : WAt s i a) (hi : s.length ≤ i) : wordsL s 0 = .ok a := by
  unfold WAt at h
  rw [h, List.drop_eq_nil_of_le hi, wordsL_nil]
  simp [wcons]
def wL (s : List UInt8) : List W := match wordsL s 0 with | .ok l => l | .error _ => []
def wP (s : List UInt8) : Int := match wordsL s 0 with | .ok _ => 0 | .error j => j
def wE (s : List UInt8) : Int := match wordsL s 0 with | .ok _ => 0 | .error _ => 81
/-- what Words answers -/
def WordsPost (w : World) (s : List UInt8) (e : Ending) (w' : World) : Prop :=
  ∃ (A : Option Addr) (cap : Nat), e = .returned (.tuple #[.slice A (wL s).length cap, .int .i64 (wP s), .int .i64 (wE s)]) ∧ At wc 3 w' w'.heap.size A (wL s) ∧ Below w.heap.size w w'
theorem words_no {w w' : World} {s : List UInt8} {j : Int} (h : wordsL s 0 = .error j) (hb : Below w.heap.size w w') : WordsPost w s (.returned (.tuple #[.slice none 0 0, .int .i64 j, .int .i64 81])) w' := by
  have h1 : wL s = [] := by unfold wL; rw [h]
  have h2 : wP s = j := by unfold wP; rw [h]
  have h3 : wE s = 81 := by unfold wE; rw [h]
  exact ⟨none, 0, by rw [h1, h2, h3]; rfl, by rw [h1]; exact At.nil _ _ _, hb⟩
theorem words_yes {w w' : World} {s : List UInt8} {l : List W} {v : Value} {e : TypeId} (h : wordsL s 0 = .ok l) (ho : w'.ownsRow w.heap.size e 3 v l.length (flatC wc l)) (hb : Below w.heap.size w w') : WordsPost w s (.returned (.tuple #[v, .int .i64 0, .int .i64 0])) w' := by
  have h1 : wL s = l := by unfold wL; rw [h]
  have h2 : wP s = 0 := by unfold wP; rw [h]
  have h3 : wE s = 0 := by unfold wE; rw [h]
  obtain ⟨A, cap, rfl, hv⟩ := own_at wc_length ho
  exact ⟨A, cap, by rw [h1, h2, h3], by rw [h1]; exact hv, hb⟩
end Go.Proofs.YthkdpfadjbhmoaaDoor.Code
