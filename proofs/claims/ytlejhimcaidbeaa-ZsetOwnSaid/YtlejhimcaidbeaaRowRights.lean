/-
  Contracts of num.Narrow, value.holds and value.Right, for every argument (cut out of CodeVal).
-/
import Derived.Test.YtlejhimcaidbeaaKit
import Derived.Test.YtlejhimcaidbeaaRowRRight
namespace Go.Proofs.Ytlejhimcaidbeaa.Val
open Go.ChangeShapes Go.WideShapes Go.ChangeAt Go.RowKit
set_option linter.unusedVariables false

def nrE (n : Int) : Int := if -2147483648 ≤ n ∧ n ≤ 2147483647 then 0 else 12
def nrV (n : Int) : Int := if -2147483648 ≤ n ∧ n ≤ 2147483647 then n else 0

theorem narrow_any (a : Int) (w : World) (ha : fits a) :
    Calls Try.prog 91 #[.int .i64 a] w fun e w' => e = .returned (.tuple #[.int .i32 (nrV a), .int .i64 (nrE a)]) ∧ w = w' := by
  unfold fits at ha
  go_enter Try.func91, Try.ntmps91
  go_wp2
  all_goals go_ret2
  all_goals refine ⟨ret2 ?_ ?_, rfl⟩
  all_goals (try unfold wrap64 at *)
  all_goals (try unfold wrap32 at *)
  all_goals (first | unfold nrV | unfold nrE)
  all_goals ((try simp at *) <;> omega)

set_option maxHeartbeats 400000 in
theorem holds_any (k n : Int) (w : World) (hn : fits n) :
    Calls Try.prog 74 #[.int .i64 k, .int .i64 n] w fun e w' => e = .returned (.bool (holdsB k n)) ∧ w = w' := by
  by_cases h1 : k = 1
  · subst h1
    unfold fits at hn
    go_enter Try.func74, Try.ntmps74
    go_wp2
    go_ret
    exact ⟨retB (by unfold holdsB; rw [if_pos rfl]; refine decide_eq_decide.2 ?_; rw [IntKind.wrap_u64]; omega), rfl⟩
  by_cases h2 : k = 2
  · subst h2
    go_enter Try.func74, Try.ntmps74
    go_wp2_with (go_at_call 91; refine (narrow_any _ _ hn).mono ?_; rintro e w' ⟨rfl, rfl⟩)
    go_ret
    exact ⟨retB (by unfold holdsB nrE; by_cases h : -2147483648 ≤ n ∧ n ≤ 2147483647 <;> simp [h]), rfl⟩
  · have e1 : (k == 1) = false := by simpa using h1
    have e2 : (k == 2) = false := by simpa using h2
    go_enter Try.func74, Try.ntmps74
    go_wp2
    go_ret
    exact ⟨retB (by unfold holdsB; by_cases h3 : k = 3 <;> simp [h1, h2, h3]), rfl⟩

set_option maxHeartbeats 1000000 in
theorem right_any (k n : Int) (s : ByteArray) (w : World) (hn : fits n) :
    Calls Try.prog 63 #[.agg #[.int .i64 k, .int .i64 n, .string s]] w fun e w' => e = .returned (.bool (rightB k n s)) ∧ Below w.heap.size w w' := by
  have hb0 : ∀ o, Below w.heap.size w (w.alloc o) := fun o => (Below.refl _ _).alloc (Nat.le_refl _) o
  by_cases h4 : k = 4
  · subst h4
    by_cases hl : s.size ≤ 200
    · have hl' : decide (200 < s.size) = false := by simpa using hl
      by_cases h0 : n = 0
      all_goals
        go_enter Try.func63, Try.ntmps63
        go_wp2
        go_ret
        exact ⟨retB (by unfold rightB; simp [h0, hl]), by first | exact hb0 _ | exact (hb0 _).setCell (by simp) _⟩
    · have hl' : 200 < s.size := by omega
      go_enter Try.func63, Try.ntmps63
      go_wp2
      go_ret
      exact ⟨retB (by unfold rightB; simp; omega), by first | exact hb0 _ | exact (hb0 _).setCell (by simp) _⟩
  by_cases hk0 : k = 0
  · subst hk0
    by_cases hs : s.size = 0
    · obtain rfl := size0 hs
      by_cases h0 : n = 0
      all_goals
        go_enter Try.func63, Try.ntmps63
        go_wp2
        go_ret
        exact ⟨retB (by unfold rightB; simp [h0]; try rfl), hb0 _⟩
    · obtain ⟨e1, e2, e3⟩ := size_pos hs
      by_cases h0 : n = 0
      all_goals
        go_enter Try.func63, Try.ntmps63
        go_wp2
        go_ret
        exact ⟨retB (by unfold rightB; simp [h0, hs]), hb0 _⟩
  have k4 : (k == 4) = false := by simpa using h4
  have k0 : (k == 0) = false := by simpa using hk0
  by_cases hs : s.size = 0
  · obtain rfl := size0 hs
    go_enter Try.func63, Try.ntmps63
    go_wp2_with (go_at_call 74; refine (holds_any _ _ _ hn).mono ?_; rintro e w' ⟨rfl, rfl⟩)
    all_goals go_ret
    all_goals exact ⟨retB (by unfold rightB; simp [h4, hk0]; try (intro _; rfl)), hb0 _⟩
  · obtain ⟨e1, e2, e3⟩ := size_pos hs
    go_enter Try.func63, Try.ntmps63
    go_wp2_with (go_at_call 74; refine (holds_any _ _ _ hn).mono ?_; rintro e w' ⟨rfl, rfl⟩)
    all_goals go_ret
    all_goals exact ⟨retB (by unfold rightB; simp [h4, hk0, hs]), hb0 _⟩

end Go.Proofs.Ytlejhimcaidbeaa.Val
namespace Go.Proofs.Ytlejhimcaidbeaa.Code
open Go.ChangeShapes Go.WideShapes Go.ChangeAt Go.RowKit Val
theorem right_is (k n : Int) (s : ByteArray) (b : Bool) (hn : fits n) (h : rightB k n s = b) (w : World) :
    Calls Try.prog 63 #[.agg #[.int .i64 k, .int .i64 n, .string s]] w fun e w' => e = .returned (.bool b) ∧ Below w.heap.size w w' := by
  have := right_any k n s w hn
  rw [h] at this
  exact this

end Go.Proofs.Ytlejhimcaidbeaa.Code
namespace Go.Proofs.Ytlejhimcaidbeaa.Val
end Go.Proofs.Ytlejhimcaidbeaa.Val

/-
  The contract of row.Right.
-/
namespace Go.Proofs.Ytlejhimcaidbeaa.Code
open Go.ChangeShapes Go.WideShapes Go.ChangeAt Go.RowKit Val
set_option linter.unusedVariables false

set_option maxHeartbeats 1000000 in
theorem rowRight_any (A : Option Addr) (cap : Nat) (l : List (Int × Int × ByteArray)) (w : World) (hv : Vals w w.heap.size A l) (hf : FitL l) (hl : l.length ≤ 140737488355328) :
    Calls Try.prog 38 #[.slice A l.length cap] w fun e w' => e = .returned (.bool (rightR l)) ∧ Below w.heap.size w w' := by
  have HV := Lib.hid hv
  have HF := Lib.hid hf
  clear hv hf
  by_cases hlen : l.length ≤ 24
  · have e1 : decide ((24 : Int) < (l.length : Int)) = false := by simp; omega
    have HD := Lib.hid (show rightR l = rightL l by unfold rightR; rw [decide_eq_true hlen]; rfl)
    go_enter Try.func38, Try.ntmps38
    go_wp2
    go_loopw [9] (fun i wr => ∃ k : Nat, k ≤ l.length ∧ i = .int .i64 k ∧ Hid (rightL (l.take k) = true) ∧ Below w.heap.size w wr) (fun i _ => l.length - (intOf i).toNat)
    case atStart => exact ⟨0, by omega, rfl, Lib.hid rfl, Below.refl _ _⟩
    case round =>
      obtain ⟨k, hk, rfl, HK, hbel⟩ := hrel
      have hsz := hbel.size
      have HL := Lib.hid hbel
      have VA := Lib.hid (HV.out.below hbel)
      clear hbel
      by_cases hkl : k < l.length
      · obtain ⟨ad, rfl, ha, c0, c1, c2⟩ := VA.out k hkl
        have HN := Lib.hid (HF.out l[k] (List.getElem_mem hkl))
        have HR := Lib.hid (rightL_snoc l k hkl)
        by_cases hr : rightV l[k] = true
        · have HR2 := Lib.hid (right_is l[k].1 l[k].2.1 l[k].2.2 true HN.out (by simpa [rightV] using hr))
          have HK2 := Lib.hid (show rightL (l.take (k + 1)) = true by rw [HR.out, HK.out, hr]; rfl)
          clear hr
          go_wp2_with fail
          refine (HR2.out _).mono ?_
          rintro e w1 ⟨rfl, hb1⟩
          have L1 := Lib.hid (bnext HL.out hsz hb1)
          clear hb1 c0 c1 c2
          go_wp2
          go_roundw
          case rel => exact ⟨k + 1, by omega, by go_num, HK2, L1.out⟩
          case measure => simp [intOf]; omega
        · have HR2 := Lib.hid (right_is l[k].1 l[k].2.1 l[k].2.2 false HN.out (by simpa [rightV] using hr))
          have HX := Lib.hid (rightL_not hkl (by simpa using hr))
          clear hr
          go_wp2_with fail
          refine (HR2.out _).mono ?_
          rintro e w1 ⟨rfl, hb1⟩
          have L1 := Lib.hid (bnext HL.out hsz hb1)
          clear hb1 c0 c1 c2
          go_wp2
          go_ret
          exact ⟨retB (by rw [HD.out, HX.out]), L1.out⟩
      · have HX := Lib.hid (show rightL l = true by have := HK.out; rwa [List.take_of_length_le (by omega)] at this)
        go_wp2
        go_ret
        exact ⟨retB (by rw [HD.out, HX.out]), HL.out⟩
  · have e1 : decide ((24 : Int) < (l.length : Int)) = true := by simp; omega
    have HD := Lib.hid (show rightR l = false by unfold rightR; rw [decide_eq_false hlen]; rfl)
    go_enter Try.func38, Try.ntmps38
    go_wp2
    go_ret
    exact ⟨retB HD.out.symm, Below.refl _ _⟩

end Go.Proofs.Ytlejhimcaidbeaa.Code
