/- The walk of ValueCasts. -/
import Derived.Test.YthfhehpfkpicmaaDoorValAlive
import Derived.OpenShut
namespace Go.Proofs.YthfhehpfkpicmaaDoor.valueCasts
open Go.ChangeShapes Go.WideShapes Go.ChangeAt Go.RowKit Val
set_option maxHeartbeats 6400000 in
theorem walk (k n : Int) (s : ByteArray) (c : Int) (_ : (Lit.int .i64 k).wf = true) (wn : (Lit.int .i64 n).wf = true) (_ : s.size ≤ maxLen) (_ : (Lit.int .i64 c).wf = true) (m : Int) (w : World) (hm : w.cell? ⟨0, 0, none⟩ = some (.int .i64 m)) :
    Calls Tryd.prog 3 #[.agg #[.int .i64 k, .int .i64 n, .string s], .int .i64 c] w fun e w' => e = .returned (.bool true) ∧ Below w.heap.size w w' := by
  have hn : fits n := bounds_i64 wn
  have hlt : 0 < w.heap.size := World.block_lt_of_cell? _ _ hm
  have HM := Lib.hid hm
  clear hm wn
  by_cases hl : 600 < s.size
  · go_enter Tryd.func3, Tryd.ntmps3
    go_wp2_with fail
    refine (alive_any m _ (by rw [(below_alloc w _).cell (p := ⟨0, 0, none⟩) hlt]; exact HM.out)).mono ?_
    rintro e w1 ⟨rfl, hb1⟩
    have L1 := Lib.hid (bnext (below_alloc w _) (by simp) hb1)
    clear hb1
    go_wp2
    go_ret
    exact ⟨rfl, L1.out⟩
  · go_enter Tryd.func3, Tryd.ntmps3
    go_wp2_with fail
    refine (cast_any k n s c _ hn).mono ?_
    rintro e w1 ⟨rfl, hb1⟩
    have L1 := Lib.hid (bnext (below_alloc w _) (by simp) hb1)
    have X1 := Lib.hid ((Box.fresh w k n s _).call hb1)
    obtain ⟨x0, x1, x2, xz⟩ := X1.out
    clear hb1
    go_wp2_with fail
    refine (rcast_any k n s c _).mono ?_
    rintro e w2 ⟨rfl, hb2⟩
    have L2 := Lib.hid (bnext (L1.out.alloc L1.out.size _) (by have := L1.out.size; simp; omega) hb2)
    have X2 := Lib.hid ((X1.out.alloc _).call hb2)
    have Y2 := Lib.hid ((Box.fresh w1 (castK k n s c) (castN k n s c) (castS k n s c) _).call hb2)
    clear hb2 x0 x1 x2 xz
    go_wp2_with fail
    have X := X2.out.alloc (.cells #[.int .i64 (castK k n s c), .int .i64 (castN k n s c), .string (castS k n s c)] 24)
    have Y := Y2.out.alloc (.cells #[.int .i64 (castK k n s c), .int .i64 (castN k n s c), .string (castS k n s c)] 24)
    have Z := Box.fresh w2 (castK k n s c) (castN k n s c) (castS k n s c) 24
    have L := Lib.hid (L2.out.alloc L2.out.size (.cells #[.int .i64 (castK k n s c), .int .i64 (castN k n s c), .string (castS k n s c)] 24))
    generalize w2.alloc (.cells #[.int .i64 (castK k n s c), .int .i64 (castN k n s c), .string (castS k n s c)] 24) = W at *
    obtain ⟨x0, x1, x2, xz⟩ := X
    obtain ⟨y0, y1, y2, yz⟩ := Y
    obtain ⟨z0, z1, z2, zz⟩ := Z
    have HW := Lib.hid (show W.cell? ⟨0, 0, none⟩ = some (.int .i64 m) by rw [L.out.cell (p := ⟨0, 0, none⟩) hlt]; exact HM.out)
    clear HM L1 L2 X1 X2 Y2
    go_region_held3 (fun w' => (w'.cell? ⟨w.heap.size, 0, none⟩ = some (.int .i64 k) ∧ w'.cell? ⟨w1.heap.size, 0, none⟩ = some (.int .i64 (castK k n s c)) ∧ w'.cell? ⟨w1.heap.size, 1, none⟩ = some (.int .i64 (castN k n s c)) ∧ w'.cell? ⟨w1.heap.size, 2, none⟩ = some (.string (castS k n s c)) ∧ w'.cell? ⟨w2.heap.size, 0, none⟩ = some (.int .i64 (castK k n s c)) ∧ w'.cell? ⟨w2.heap.size, 1, none⟩ = some (.int .i64 (castN k n s c)) ∧ w'.cell? ⟨w2.heap.size, 2, none⟩ = some (.string (castS k n s c))) ∧ Below W.heap.size W w')
      (first | assumption | (refine keepK hb (by assumption) ?_; intro kk; exact ⟨by rw [kk _ _ xz]; exact x0, by rw [kk _ _ yz]; exact y0, by rw [kk _ _ yz]; exact y1, by rw [kk _ _ yz]; exact y2, by rw [kk _ _ zz]; exact z0, by rw [kk _ _ zz]; exact z1, by rw [kk _ _ zz]; exact z2⟩) | (exact ⟨⟨by simpa [go_sem] using x0, by simpa [go_sem] using y0, by simpa [go_sem] using y1, by simpa [go_sem] using y2, by simpa [go_sem] using z0, by simpa [go_sem] using z1, by simpa [go_sem] using z2⟩, Below.drew (Below.refl _ _)⟩))
      (first | (go_at_call 7; refine (alive_any m _ ?c9).mono ?_; (case c9 => exact HW.out); rintro e w7 ⟨rfl, hb⟩) | (go_at_call 10; refine (wider_any _ _ _).mono ?_; rintro e w' ⟨rfl, rfl⟩) | (go_at_call 11; refine (rwider_any _ _ _).mono ?_; rintro e w' ⟨rfl, rfl⟩))
    all_goals
      have M := Lib.hid (show Below W.heap.size W _ by rename_i hS; exact hS.2)
      go_wp2
      go_ret
      exact ⟨rfl, bnext L.out L.out.size M.out⟩
end Go.Proofs.YthfhehpfkpicmaaDoor.valueCasts
