/-
  Contracts of package num and of the document's answer, for every argument: sums, products, narrowing, zigzags, flips. Each leaves the world as it was.
-/
import Derived.Test.YtjdbmlcdheakhaaChecked
import Derived.Test.YtjdbmlcdheakhaaNumPure
import Derived.WalkKit
import Derived.ProofKit
import Derived.Lib.Hide
namespace Go.Proofs.Ytjdbmlcdheakhaa.Num
open Go.ChangeShapes Go.WideShapes Go.ChangeAt Go.RowKit

set_option maxHeartbeats 400000 in
theorem add_any (a b : Int) (w : World) (ha : fits a) (hb : fits b) :
    Calls Try.prog 8 #[.int .i64 a, .int .i64 b] w fun e w' => e = .returned (.tuple #[.int .i64 (fitV (a + b)), .int .i64 (fitE (a + b))]) ∧ w = w' := by
  unfold fits at ha hb
  go_enter Try.func8, Try.ntmps8
  go_wp2
  all_goals go_ret2
  all_goals refine ⟨ret2 ?_ ?_, rfl⟩
  all_goals (try unfold wrap64 at *)
  all_goals (first | unfold fitV | unfold fitE)
  all_goals ((try simp at *) <;> omega)

set_option maxHeartbeats 400000 in
theorem radd_any (a b : Int) (w : World) (ha : fits a) (hb : fits b) :
    Calls Try.prog 9 #[.int .i64 a, .int .i64 b] w fun e w' => e = .returned (.tuple #[.int .i64 (fitV (a + b)), .int .i64 (fitE (a + b))]) ∧ w = w' := by
  unfold fits at ha hb
  go_enter Try.func9, Try.ntmps9
  go_wp2
  all_goals go_ret2
  all_goals refine ⟨ret2 ?_ ?_, rfl⟩
  all_goals (try unfold wrap64 at *)
  all_goals (first | unfold fitV | unfold fitE)
  all_goals ((try simp at *) <;> omega)

set_option maxHeartbeats 400000 in
theorem sub_any (a b : Int) (w : World) (ha : fits a) (hb : fits b) :
    Calls Try.prog 10 #[.int .i64 a, .int .i64 b] w fun e w' => e = .returned (.tuple #[.int .i64 (fitV (a - b)), .int .i64 (fitE (a - b))]) ∧ w = w' := by
  unfold fits at ha hb
  go_enter Try.func10, Try.ntmps10
  go_wp2
  all_goals go_ret2
  all_goals refine ⟨ret2 ?_ ?_, rfl⟩
  all_goals (try unfold wrap64 at *)
  all_goals (first | unfold fitV | unfold fitE)
  all_goals ((try simp at *) <;> omega)

set_option maxHeartbeats 400000 in
theorem rsub_any (a b : Int) (w : World) (ha : fits a) (hb : fits b) :
    Calls Try.prog 11 #[.int .i64 a, .int .i64 b] w fun e w' => e = .returned (.tuple #[.int .i64 (fitV (a - b)), .int .i64 (fitE (a - b))]) ∧ w = w' := by
  unfold fits at ha hb
  go_enter Try.func11, Try.ntmps11
  go_wp2
  all_goals go_ret2
  all_goals refine ⟨ret2 ?_ ?_, rfl⟩
  all_goals (try unfold wrap64 at *)
  all_goals (first | unfold fitV | unfold fitE)
  all_goals ((try simp at *) <;> omega)

theorem neg_any (a : Int) (w : World) (ha : fits a) :
    Calls Try.prog 14 #[.int .i64 a] w fun e w' => e = .returned (.tuple #[.int .i64 (fitV (-a)), .int .i64 (fitE (-a))]) ∧ w = w' := by
  go_enter Try.func14, Try.ntmps14
  go_wp2_with (go_at_call 10; refine (sub_any _ _ _ (by unfold fits; omega) ha).mono ?_; rintro e w' ⟨rfl, rfl⟩)
  go_ret2
  exact ⟨rfl, rfl⟩

set_option maxHeartbeats 400000 in
theorem mul_any (a b : Int) (w : World) (ha : fits a) (hb : fits b) :
    Calls Try.prog 12 #[.int .i64 a, .int .i64 b] w fun e w' => e = .returned (.tuple #[.int .i64 (fitV (a * b)), .int .i64 (fitE (a * b))]) ∧ w = w' := by
  by_cases h0 : a = 0
  · subst h0
    go_enter Try.func12, Try.ntmps12
    go_wp2
    go_ret2
    exact ⟨ret2 (by simp [fitV]) (by simp [fitE]), rfl⟩
  by_cases h1 : a = -1
  · subst h1
    go_enter Try.func12, Try.ntmps12
    go_wp2_with (go_at_call 14; refine (neg_any _ _ hb).mono ?_; rintro e w' ⟨rfl, rfl⟩)
    go_ret2
    exact ⟨ret2 (by simp) (by simp), rfl⟩
  have ht := mul_test (b := b) ha h0 h1
  have g0 : (a == 0) = false := beq_eq_false_iff_ne.2 h0
  have g1 : (a == -1) = false := beq_eq_false_iff_ne.2 h1
  by_cases hf : fits (a * b)
  · have g2 : (wrap64 ((wrap64 (a * b)).tdiv a) != b) = false := by simp [ht.2 hf]
    have HF := Lib.hid hf
    clear ht hf h1
    go_enter Try.func12, Try.ntmps12
    go_wp2
    go_ret2
    exact ⟨ret2 (by rw [fitV_in HF.out, wrap_in HF.out]) (by rw [fitE_in HF.out]), rfl⟩
  · have g2 : (wrap64 ((wrap64 (a * b)).tdiv a) != b) = true := by simp; exact fun h => hf (ht.1 h)
    have HF := Lib.hid hf
    clear ht hf h1
    go_enter Try.func12, Try.ntmps12
    go_wp2
    go_ret2
    exact ⟨ret2 (by rw [fitV_out HF.out]) (by rw [fitE_out HF.out]), rfl⟩

theorem rmul_test {a b : Int} (ha : fits a) (hb : fits b) (h0 : a ≠ 0) (h1 : b ≠ 0) :
    ((a = -1 ∧ b = -9223372036854775808) ∨ (b = -1 ∧ a = -9223372036854775808) ∨ wrap64 ((wrap64 (a * b)).tdiv b) ≠ a) ↔ ¬ fits (a * b) := by
  by_cases g : b = -1
  · subst g
    by_cases k : a = -9223372036854775808
    · subst k
      have : ¬ fits (-9223372036854775808 * -1) := by unfold fits; omega
      exact ⟨fun _ => this, fun _ => .inr (.inl ⟨rfl, rfl⟩)⟩
    · have hf : fits (a * -1) := by unfold fits at *; omega
      rw [wrap_in hf, show (a * -1).tdiv (-1) = a from Int.mul_tdiv_cancel a (by omega), wrap_in ha]
      refine ⟨fun h => ?_, fun h => absurd hf h⟩
      rcases h with h | h | h
      · omega
      · exact absurd h.2 k
      · exact absurd rfl h
  · have ht := mul_test (b := a) hb h1 g
    rw [Int.mul_comm b a] at ht
    refine ⟨fun h => ?_, fun h => .inr (.inr fun k => h (ht.1 k))⟩
    rcases h with h | h | h
    · intro hf; rw [h.1, h.2] at hf; unfold fits at hf; omega
    · exact absurd h.1 g
    · exact fun k => h (ht.2 k)

set_option maxHeartbeats 400000 in
theorem rmul_any (a b : Int) (w : World) (ha : fits a) (hb : fits b) :
    Calls Try.prog 13 #[.int .i64 a, .int .i64 b] w fun e w' => e = .returned (.tuple #[.int .i64 (fitV (a * b)), .int .i64 (fitE (a * b))]) ∧ w = w' := by
  by_cases h0 : a = 0
  · subst h0
    go_enter Try.func13, Try.ntmps13
    go_wp2
    go_ret2
    exact ⟨ret2 (by simp [fitV]) (by simp [fitE]), rfl⟩
  by_cases h1 : b = 0
  · subst h1
    have g0 : (a == 0) = false := beq_eq_false_iff_ne.2 h0
    go_enter Try.func13, Try.ntmps13
    go_wp2
    go_ret2
    exact ⟨ret2 (by simp [fitV]) (by simp [fitE]), rfl⟩
  have ht := rmul_test ha hb h0 h1
  have g0 : (a == 0) = false := beq_eq_false_iff_ne.2 h0
  have g1 : (b == 0) = false := beq_eq_false_iff_ne.2 h1
  by_cases k1 : a = -1
  · subst k1
    by_cases k2 : b = -9223372036854775808
    · subst k2
      have HF := Lib.hid (show ¬ fits (-1 * -9223372036854775808) by unfold fits; omega)
      clear ht ha hb
      go_enter Try.func13, Try.ntmps13
      go_wp2
      go_ret2
      exact ⟨ret2 (by rw [fitV_out HF.out]) (by rw [fitE_out HF.out]), rfl⟩
    have hf : fits (-1 * b) := by unfold fits at *; omega
    have HF := Lib.hid hf
    have k4 : (b == -9223372036854775808) = false := beq_eq_false_iff_ne.2 k2
    by_cases k3 : b = -1
    · subst k3
      clear ht ha hb hf
      go_enter Try.func13, Try.ntmps13
      go_wp2
      go_ret2
      exact ⟨ret2 (by rw [fitV_in HF.out, show (-1 * -1 : Int) = 1 from rfl]) (by rw [fitE_in HF.out]), rfl⟩
    have k6 : (wrap64 ((wrap64 (-b)).tdiv b) != -1) = false := by
      have := fun h => ht.1 (.inr (.inr h)) hf
      rw [Int.neg_one_mul] at this
      simp only [bne_eq_false_iff_eq]; exact Decidable.of_not_not this
    clear ht hf ha hb
    go_enter Try.func13, Try.ntmps13
    go_wp2
    go_ret2
    exact ⟨ret2 (by rw [fitV_in HF.out]; first | (simp; done) | (have := wrap_in HF.out; simpa using this)) (by rw [fitE_in HF.out]), rfl⟩
  have j1 : (a == -1) = false := beq_eq_false_iff_ne.2 k1
  by_cases k2 : b = -1
  · subst k2
    by_cases k3 : a = -9223372036854775808
    · subst k3
      have HF := Lib.hid (show ¬ fits (-9223372036854775808 * -1) by unfold fits; omega)
      clear ht ha hb
      go_enter Try.func13, Try.ntmps13
      go_wp2
      go_ret2
      exact ⟨ret2 (by rw [fitV_out HF.out]) (by rw [fitE_out HF.out]), rfl⟩
    have hf : fits (a * -1) := by unfold fits at *; omega
    have HF := Lib.hid hf
    have k4 : (a == -9223372036854775808) = false := beq_eq_false_iff_ne.2 k3
    unfold fits at ha
    clear ht hf
    go_enter Try.func13, Try.ntmps13
    go_wp2
    go_ret2
    exact ⟨ret2 (by rw [fitV_in HF.out]; first | (simp; done) | (have := wrap_in HF.out; simpa using this)) (by rw [fitE_in HF.out]), rfl⟩
  have j2 : (b == -1) = false := beq_eq_false_iff_ne.2 k2
  by_cases hf : fits (a * b)
  · have k6 : (wrap64 ((wrap64 (a * b)).tdiv b) != a) = false := by
      have := fun h => ht.1 (.inr (.inr h)) hf
      simp at this; simp; exact this
    have HF := Lib.hid hf
    clear ht hf ha hb
    go_enter Try.func13, Try.ntmps13
    go_wp2
    go_ret2
    exact ⟨ret2 (by rw [fitV_in HF.out, wrap_in HF.out]) (by rw [fitE_in HF.out]), rfl⟩
  · have k6 : (wrap64 ((wrap64 (a * b)).tdiv b) != a) = true := by
      rcases ht.2 hf with h | h | h
      · exact absurd h.1 k1
      · exact absurd h.1 k2
      · simp; exact h
    have HF := Lib.hid hf
    clear ht hf ha hb
    go_enter Try.func13, Try.ntmps13
    go_wp2
    go_ret2
    exact ⟨ret2 (by rw [fitV_out HF.out]) (by rw [fitE_out HF.out]), rfl⟩

theorem zig_any (a : Int) (w : World) (ha : fits a) :
    Calls Try.prog 18 #[.int .i64 a] w fun e w' => e = .returned (.int .u64 (zig a)) ∧ w = w' := by
  have HA := Lib.hid ha
  unfold fits at ha
  go_enter Try.func18, Try.ntmps18
  go_wp2
  all_goals go_ret
  all_goals refine ⟨ret1 ?_, rfl⟩
  all_goals exact zig_bits HA.out

theorem zag_any (a : Int) (w : World) (ha : fitsU a) :
    Calls Try.prog 20 #[.int .u64 a] w fun e w' => e = .returned (.int .i64 (zag a)) ∧ w = w' := by
  have HA := Lib.hid ha
  unfold fitsU at ha
  go_enter Try.func20, Try.ntmps20
  go_wp2
  all_goals go_ret
  all_goals refine ⟨ret1 ?_, rfl⟩
  all_goals exact zag_bits HA.out

theorem flip_any (a : Int) (w : World) (ha : fits a) :
    Calls Try.prog 22 #[.int .i64 a] w fun e w' => e = .returned (.int .u64 (flip a)) ∧ w = w' := by
  have HA := Lib.hid ha
  unfold fits at ha
  go_enter Try.func22, Try.ntmps22
  go_wp2
  all_goals go_ret
  all_goals refine ⟨ret1 ?_, rfl⟩
  all_goals exact flip_bits HA.out

theorem unflip_any (a : Int) (w : World) (ha : fitsU a) :
    Calls Try.prog 24 #[.int .u64 a] w fun e w' => e = .returned (.int .i64 (unflip a)) ∧ w = w' := by
  have HA := Lib.hid ha
  unfold fitsU at ha
  go_enter Try.func24, Try.ntmps24
  go_wp2
  all_goals go_ret
  all_goals refine ⟨ret1 ?_, rfl⟩
  all_goals exact unflip_bits HA.out

theorem rzig_any (a : Int) (w : World) (ha : fits a) :
    Calls Try.prog 19 #[.int .i64 a] w fun e w' => e = .returned (.int .u64 (zig a)) ∧ w = w' := by
  have HA := Lib.hid ha
  unfold fits at ha
  go_enter Try.func19, Try.ntmps19
  go_wp2
  all_goals go_ret
  all_goals refine ⟨ret1 ?_, rfl⟩
  all_goals (unfold zig; (try simp at *) <;> omega)

theorem rzag_any (a : Int) (w : World) (ha : fitsU a) :
    Calls Try.prog 21 #[.int .u64 a] w fun e w' => e = .returned (.int .i64 (zag a)) ∧ w = w' := by
  have HA := Lib.hid ha
  unfold fitsU at ha
  go_enter Try.func21, Try.ntmps21
  go_wp2
  all_goals go_ret
  all_goals refine ⟨ret1 ?_, rfl⟩
  all_goals (unfold zag; (try simp at *) <;> omega)

theorem rflip_any (a : Int) (w : World) (ha : fits a) :
    Calls Try.prog 23 #[.int .i64 a] w fun e w' => e = .returned (.int .u64 (flip a)) ∧ w = w' := by
  have HA := Lib.hid ha
  unfold fits at ha
  go_enter Try.func23, Try.ntmps23
  go_wp2
  all_goals go_ret
  all_goals refine ⟨ret1 ?_, rfl⟩
  all_goals (unfold flip; (try simp at *) <;> omega)

theorem runflip_any (a : Int) (w : World) (ha : fitsU a) :
    Calls Try.prog 25 #[.int .u64 a] w fun e w' => e = .returned (.int .i64 (unflip a)) ∧ w = w' := by
  have HA := Lib.hid ha
  unfold fitsU at ha
  go_enter Try.func25, Try.ntmps25
  go_wp2
  all_goals go_ret
  all_goals refine ⟨ret1 ?_, rfl⟩
  all_goals (unfold unflip; (try simp at *) <;> omega)

theorem narrow_any (a : Int) (w : World) (ha : fits a) :
    Calls Try.prog 16 #[.int .i64 a] w fun e w' => e = .returned (.tuple #[.int .i32 (nrV a), .int .i64 (nrE a)]) ∧ w = w' := by
  unfold fits at ha
  go_enter Try.func16, Try.ntmps16
  go_wp2
  all_goals go_ret2
  all_goals refine ⟨ret2 ?_ ?_, rfl⟩
  all_goals (try unfold wrap64 at *)
  all_goals (try unfold wrap32 at *)
  all_goals (first | unfold nrV | unfold nrE)
  all_goals ((try simp at *) <;> omega)

theorem rnarrow_any (a : Int) (w : World) (ha : fits a) :
    Calls Try.prog 17 #[.int .i64 a] w fun e w' => e = .returned (.tuple #[.int .i32 (nrV a), .int .i64 (nrE a)]) ∧ w = w' := by
  unfold fits at ha
  go_enter Try.func17, Try.ntmps17
  go_wp2
  all_goals go_ret2
  all_goals refine ⟨ret2 ?_ ?_, rfl⟩
  all_goals (try unfold wrap64 at *)
  all_goals (try unfold wrap32 at *)
  all_goals (first | unfold nrV | unfold nrE)
  all_goals ((try simp at *) <;> omega)
end Go.Proofs.Ytjdbmlcdheakhaa.Num
