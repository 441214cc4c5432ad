/- The walk of NumOrder. -/
import Derived.Test.YtjdbmlcdheakhaaNumAlive
import Derived.Test.YtjdbmlcdheakhaaNumBytePure
namespace Go.Proofs.Ytjdbmlcdheakhaa.numOrder
open Go.ChangeShapes Go.WideShapes Go.ChangeAt Go.RowKit Num
theorem swap_mul (a b : Int) (w : World) (ha : fits a) (hb : fits b) :
    Calls Try.prog 12 #[.int .i64 b, .int .i64 a] w fun e w' => e = .returned (.tuple #[.int .i64 (fitV (a * b)), .int .i64 (fitE (a * b))]) ∧ w = w' := by
  have h := mul_any b a w hb ha
  rw [Int.mul_comm b a] at h
  exact h
theorem back_sub (a b : Int) (w : World) (ha : fits a) (hb : fits b) (hs : fits (a + b)) :
    Calls Try.prog 10 #[.int .i64 (a + b), .int .i64 b] w fun e w' => e = .returned (.tuple #[.int .i64 a, .int .i64 0]) ∧ w = w' := by
  have h := sub_any (a + b) b w hs hb
  rw [show a + b - b = a by omega, fitV_in ha, fitE_in ha] at h
  exact h
theorem sum_in (a b : Int) (w : World) (ha : fits a) (hb : fits b) (hs : fits (a + b)) :
    Calls Try.prog 8 #[.int .i64 a, .int .i64 b] w fun e w' => e = .returned (.tuple #[.int .i64 (a + b), .int .i64 0]) ∧ w = w' := by
  have h := add_any a b w ha hb
  rw [fitV_in hs, fitE_in hs] at h
  exact h
theorem sum_out (a b : Int) (w : World) (ha : fits a) (hb : fits b) (hs : ¬ fits (a + b)) :
    Calls Try.prog 8 #[.int .i64 a, .int .i64 b] w fun e w' => e = .returned (.tuple #[.int .i64 0, .int .i64 11]) ∧ w = w' := by
  have h := add_any a b w ha hb
  rw [fitV_out hs, fitE_out hs] at h
  exact h
set_option maxHeartbeats 800000 in
theorem walk (a b : Int) (wa : (Lit.int .i64 a).wf = true) (wb : (Lit.int .i64 b).wf = true) (w : World) :
    Calls Try.prog 7 #[.int .i64 a, .int .i64 b] w fun e w' => e = .returned (.bool true) ∧ Below w.heap.size w w' := by
  have ha := fits_wf wa
  have hb := fits_wf wb
  have h0 : fits 0 := by unfold fits; omega
  have hfa := flip_fits ha
  have hfb := flip_fits hb
  have hl : Op.bytesLess (putS (Num.flip a)).toList (putS (Num.flip b)).toList = decide (a < b) := by
    rw [putS_less hfa hfb]; unfold Num.flip; simp
  have he : ((putS (Num.flip a)).toList == (putS (Num.flip b)).toList) = (a == b) := by
    rw [putS_same hfa hfb, Bool.eq_iff_iff, beq_iff_eq, beq_iff_eq]; unfold Num.flip; omega
  clear wa wb
  by_cases hs : fits (a + b)
  · go_enter Try.func7, Try.ntmps7
    go_wp2_with fail
    refine (flip_any _ _ ha).mono ?_
    rintro e w' ⟨rfl, rfl⟩
    go_wp2_with fail
    refine (put_any _ _ hfa).mono ?_
    rintro e w1 ⟨rfl, hb1⟩
    go_wp2_with fail
    refine (flip_any _ _ hb).mono ?_
    rintro e w' ⟨rfl, rfl⟩
    go_wp2_with fail
    refine (put_any _ _ hfb).mono ?_
    rintro e w2 ⟨rfl, hb2⟩
    go_wp2_with fail
    refine (sum_in _ _ _ ha hb hs).mono ?_
    rintro e w' ⟨rfl, rfl⟩
    go_wp2_with fail
    refine (back_sub _ _ _ ha hb hs).mono ?_
    rintro e w' ⟨rfl, rfl⟩
    go_wp2_with fail
    refine (mul_any _ _ _ ha hb).mono ?_
    rintro e w' ⟨rfl, rfl⟩
    go_wp2_with fail
    refine (swap_mul _ _ _ ha hb).mono ?_
    rintro e w' ⟨rfl, rfl⟩
    go_wp2_with fail
    refine (alive_any _).mono ?_
    rintro e w3 ⟨rfl, hb3⟩
    go_wp2
    go_ret
    have h1 := hb1.size
    have h2 := hb2.size
    exact ⟨rfl, (hb1.trans (hb2.mono (by omega))).trans (hb3.mono (by omega))⟩
  · go_enter Try.func7, Try.ntmps7
    go_wp2_with fail
    refine (flip_any _ _ ha).mono ?_
    rintro e w' ⟨rfl, rfl⟩
    go_wp2_with fail
    refine (put_any _ _ hfa).mono ?_
    rintro e w1 ⟨rfl, hb1⟩
    go_wp2_with fail
    refine (flip_any _ _ hb).mono ?_
    rintro e w' ⟨rfl, rfl⟩
    go_wp2_with fail
    refine (put_any _ _ hfb).mono ?_
    rintro e w2 ⟨rfl, hb2⟩
    go_wp2_with fail
    refine (sum_out _ _ _ ha hb hs).mono ?_
    rintro e w' ⟨rfl, rfl⟩
    go_wp2_with fail
    refine (sub_any _ _ _ h0 hb).mono ?_
    rintro e w' ⟨rfl, rfl⟩
    go_wp2_with fail
    refine (mul_any _ _ _ ha hb).mono ?_
    rintro e w' ⟨rfl, rfl⟩
    go_wp2_with fail
    refine (swap_mul _ _ _ ha hb).mono ?_
    rintro e w' ⟨rfl, rfl⟩
    go_wp2_with fail
    refine (alive_any _).mono ?_
    rintro e w3 ⟨rfl, hb3⟩
    go_wp2
    go_ret
    have h1 := hb1.size
    have h2 := hb2.size
    exact ⟨rfl, (hb1.trans (hb2.mono (by omega))).trans (hb3.mono (by omega))⟩
end Go.Proofs.Ytjdbmlcdheakhaa.numOrder
