/-
  The contract of package zset's Neg.
-/
import Derived.Test.YtjjikooabmddlaaGreatDoorM26
namespace Go.Proofs.YtjjikooabmddlaaGreatDoor.Items
open Go.ChangeShapes Go.WideShapes Go.ChangeAt Go.RowKit Val Go.Proofs.YtjjikooabmddlaaGreatDoor.Code Go.Proofs.YtjjikooabmddlaaGreatDoor.Elems Go.Proofs.YtjjikooabmddlaaGreatDoor.ZP Go.Proofs.YtjjikooabmddlaaGreatDoor.Bits Go.Proofs.YtjjikooabmddlaaGreatDoor.Range
set_option linter.unusedVariables false
set_option maxRecDepth 100000
theorem turns_negX : Turns 45 (fun n => -n) := fun n w => Wide.neg_any n w
set_option maxHeartbeats 1000000 in
theorem znegX_any (A : Option Addr) (cap : Nat) (L : List It) (w : World) (hI : Items w w.heap.size A L) (hF : FitI L) (hs : ∀ x ∈ L, x.2.2.1.length ≤ 140737488355328) (hl : L.length ≤ 4398046511104) (hr : rightI L = true) :
    Calls Tryz.prog 20 #[.slice A L.length cap] w (SumEnd w (pl (negI L)) (negIE L)) := by
  have hbz := below_alloc w (.cells #[.slice A L.length cap] 40)
  have h := zsum_any 45 (fun n => -n) turns_negX (enters_of Tryz.func45 (by kernel_rfl) rfl) (some ⟨w.heap.size, 0, none⟩) 1 [(A, cap, L)] _ (setsAt_one w A cap L 40 hI) (by rw [catS_one]; exact hF) (by rw [catS_one]; exact hs) (by simp) (by rw [catS_one]; exact hl)
  rw [catS_one] at h
  have H := Lib.hid h
  have HB := Lib.hid hbz
  have HF := Lib.hid hF
  clear hI hF hs h hbz
  go_enter Tryz.func20, Tryz.ntmps20
  go_wp2_with fail
  refine H.out.mono ?_
  rintro e w1 ⟨M, hp, hg, h⟩
  obtain ⟨e1, e2⟩ := sum_neg hp hg HF.out hl hr
  rw [e1, e2] at h
  have h2 := h.next HB.out
  obtain ⟨A1, c1, N, rfl, h3⟩ := h2
  have X := Lib.hid (show SumEnd w (pl (negI L)) (negIE L) (.returned (.tuple #[.slice A1 N.length c1, .int .i64 (negIE L)])) w1 from ⟨A1, c1, N, rfl, h3⟩)
  clear h h3 H hp hg e1 e2
  go_wp2
  go_ret2
  exact X.out
end Go.Proofs.YtjjikooabmddlaaGreatDoor.Items
