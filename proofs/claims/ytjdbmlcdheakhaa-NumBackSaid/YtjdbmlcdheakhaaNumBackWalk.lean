/- The walk of NumBack. -/
import Derived.Test.YtjdbmlcdheakhaaNumAlive
import Derived.Test.YtjdbmlcdheakhaaNumBytePure
namespace Go.Proofs.Ytjdbmlcdheakhaa.numBack
open Go.ChangeShapes Go.WideShapes Go.ChangeAt Go.RowKit Num
theorem back_get (b : Int) (w : World) (hb : fitsU b) : Calls Try.prog 26 #[.string (putS b)] w fun e w' => e = .returned (.tuple #[.int .u64 b, .int .i64 0]) ∧ w = w' := by
  have h := get_any (putS b) w
  rw [getV_putS b hb, getE_putS b] at h
  exact h
theorem back_zag (a : Int) (w : World) (ha : fits a) : Calls Try.prog 20 #[.int .u64 (zig a)] w fun e w' => e = .returned (.int .i64 a) ∧ w = w' := by
  have h := zag_any (zig a) w (zig_fits ha)
  rw [zag_zig] at h
  exact h
theorem back_zig (b : Int) (w : World) (hb : fitsU b) : Calls Try.prog 18 #[.int .i64 (zag b)] w fun e w' => e = .returned (.int .u64 b) ∧ w = w' := by
  have h := zig_any (zag b) w (zag_fits hb)
  rw [zig_zag hb] at h
  exact h
theorem back_unflip (a : Int) (w : World) (ha : fits a) : Calls Try.prog 24 #[.int .u64 (flip a)] w fun e w' => e = .returned (.int .i64 a) ∧ w = w' := by
  have h := unflip_any (flip a) w (flip_fits ha)
  rw [unflip_flip] at h
  exact h
theorem back_flip (b : Int) (w : World) (hb : fitsU b) : Calls Try.prog 22 #[.int .i64 (unflip b)] w fun e w' => e = .returned (.int .u64 b) ∧ w = w' := by
  have h := flip_any (unflip b) w (unflip_fits hb)
  rw [flip_unflip] at h
  exact h
set_option maxHeartbeats 800000 in
theorem walk (a b : Int) (wa : (Lit.int .i64 a).wf = true) (wb : (Lit.int .u64 b).wf = true) (w : World) :
    Calls Try.prog 6 #[.int .i64 a, .int .u64 b] w fun e w' => e = .returned (.bool true) ∧ Below w.heap.size w w' := by
  have ha := fits_wf wa
  have hb := fitsU_wf wb
  clear wa wb
  go_enter Try.func6, Try.ntmps6
  go_wp2_with fail
  refine (put_any _ _ hb).mono ?_
  rintro e w1 ⟨rfl, hb1⟩
  go_wp2_with fail
  refine (back_get _ _ hb).mono ?_
  rintro e w' ⟨rfl, rfl⟩
  go_wp2_with fail
  refine (alive_any _).mono ?_
  rintro e w2 ⟨rfl, hb2⟩
  go_wp2_with fail
  refine (zig_any _ _ ha).mono ?_
  rintro e w' ⟨rfl, rfl⟩
  go_wp2_with fail
  refine (back_zag _ _ ha).mono ?_
  rintro e w' ⟨rfl, rfl⟩
  go_wp2_with fail
  refine (zag_any _ _ hb).mono ?_
  rintro e w' ⟨rfl, rfl⟩
  go_wp2_with fail
  refine (back_zig _ _ hb).mono ?_
  rintro e w' ⟨rfl, rfl⟩
  go_wp2_with fail
  refine (flip_any _ _ ha).mono ?_
  rintro e w' ⟨rfl, rfl⟩
  go_wp2_with fail
  refine (back_unflip _ _ ha).mono ?_
  rintro e w' ⟨rfl, rfl⟩
  go_wp2_with fail
  refine (unflip_any _ _ hb).mono ?_
  rintro e w' ⟨rfl, rfl⟩
  go_wp2_with fail
  refine (back_flip _ _ hb).mono ?_
  rintro e w' ⟨rfl, rfl⟩
  go_wp2
  go_ret
  have h1 := hb1.size
  exact ⟨rfl, hb1.trans (hb2.mono (by omega))⟩
end Go.Proofs.Ytjdbmlcdheakhaa.numBack
