/-
  The live question of layer 1: its answer is true.
-/
import Derived.Test.YtjdbmlcdheakhaaNumBytes
namespace Go.Proofs.Ytjdbmlcdheakhaa.Num
open Go.ChangeShapes Go.WideShapes Go.ChangeAt Go.RowKit

theorem alive_add (w : World) : Calls Try.prog 8 #[.int .i64 4611686018427387904, .int .i64 4611686018427387904] w fun e w' => e = .returned (.tuple #[.int .i64 0, .int .i64 11]) ∧ w = w' := by
  have h := add_any 4611686018427387904 4611686018427387904 w (by unfold fits; omega) (by unfold fits; omega)
  rw [show fitV (4611686018427387904 + 4611686018427387904) = 0 by unfold fitV; omega, show fitE (4611686018427387904 + 4611686018427387904) = 11 by unfold fitE; omega] at h
  exact h
theorem alive_mul (w : World) : Calls Try.prog 12 #[.int .i64 (-4611686018427387904), .int .i64 2] w fun e w' => e = .returned (.tuple #[.int .i64 (-9223372036854775808), .int .i64 0]) ∧ w = w' := by
  have h := mul_any (-4611686018427387904) 2 w (by unfold fits; omega) (by unfold fits; omega)
  rw [show fitV (-4611686018427387904 * 2) = -9223372036854775808 by unfold fitV; omega, show fitE (-4611686018427387904 * 2) = 0 by unfold fitE; omega] at h
  exact h
theorem alive_narrow (w : World) : Calls Try.prog 16 #[.int .i64 (-2147483648)] w fun e w' => e = .returned (.tuple #[.int .i32 (-2147483648), .int .i64 0]) ∧ w = w' := by
  have h := narrow_any (-2147483648) w (by unfold fits; omega)
  rw [show nrV (-2147483648) = -2147483648 by unfold nrV; omega, show nrE (-2147483648) = 0 by unfold nrE; omega] at h
  exact h
theorem alive_zig (w : World) : Calls Try.prog 18 #[.int .i64 (-3)] w fun e w' => e = .returned (.int .u64 5) ∧ w = w' := by
  have h := zig_any (-3) w (by unfold fits; omega)
  rw [show zig (-3) = 5 by unfold zig; omega] at h
  exact h
theorem alive_put (w : World) : Calls Try.prog 28 #[.int .u64 258] w fun e w' => e = .returned (.string ⟨#[0, 0, 0, 0, 0, 0, 1, 2]⟩) ∧ Below w.heap.size w w' := by
  have h := put_any 258 w (by unfold fitsU; omega)
  rw [show putS 258 = ⟨#[0, 0, 0, 0, 0, 0, 1, 2]⟩ by decide] at h
  exact h

set_option maxHeartbeats 800000 in
theorem alive_any (w : World) : Calls Try.prog 15 #[] w fun e w' => e = .returned (.bool true) ∧ Below w.heap.size w w' := by
  go_enter Try.func15, Try.ntmps15
  go_wp2_with fail
  refine (alive_add _).mono ?_
  rintro e w' ⟨rfl, rfl⟩
  go_wp2_with fail
  refine (alive_mul _).mono ?_
  rintro e w' ⟨rfl, rfl⟩
  go_wp2_with fail
  refine (alive_narrow _).mono ?_
  rintro e w' ⟨rfl, rfl⟩
  go_wp2_with fail
  refine (alive_zig _).mono ?_
  rintro e w' ⟨rfl, rfl⟩
  go_wp2_with fail
  refine (alive_put _).mono ?_
  rintro e w' ⟨rfl, hb⟩
  go_wp2
  go_ret
  exact ⟨rfl, hb⟩
end Go.Proofs.Ytjdbmlcdheakhaa.Num
