/-
  Contracts of Named, Fits and Show (at one text), and the live question of layer 3: its answer is true.
-/
import Derived.Test.YthfhehpfkpicmaaDoorValCmp
namespace Go.Proofs.YthfhehpfkpicmaaDoor.Val
open Go.ChangeShapes Go.WideShapes Go.ChangeAt Go.RowKit

theorem retN {a b : Int} {c d : Bool} (h : a = b) (g : c = d) : Ending.returned (.tuple #[.int .i64 a, .bool c]) = .returned (.tuple #[.int .i64 b, .bool d]) := by rw [h, g]
set_option maxHeartbeats 4000000 in
theorem named_any (s : ByteArray) (w : World) :
    Calls Tryd.prog 12 #[.string s] w fun e w' => e = .returned (.tuple #[.int .i64 (namedK s), .bool (decide (namedK s ≠ 0))]) ∧ w = w' := by
  by_cases h1 : nameS 1 = s
  · have e1 := (Lib.bytes_beq_iff _ _).2 h1
    have HN := Lib.hid (show namedK s = 1 by unfold namedK; rw [if_pos h1])
    clear h1
    go_enter Tryd.func12, Tryd.ntmps12
    go_wp2
    refine wp_loop_rounds 6 ?_
    iterate 6 (first | (rw [rounds_succ]; go_wp2_with (go_at_call 15; refine (name_any _ _).mono ?_; rintro e w' ⟨rfl, rfl⟩)) | skip)
    go_ret2
    exact ⟨retN HN.out.symm (by rw [HN.out]; decide), rfl⟩
  have e1 := (Lib.bytes_beq_false_iff _ _).2 h1
  by_cases h2 : nameS 2 = s
  · have e2 := (Lib.bytes_beq_iff _ _).2 h2
    have HN := Lib.hid (show namedK s = 2 by unfold namedK; rw [if_neg h1, if_pos h2])
    clear h1 h2
    go_enter Tryd.func12, Tryd.ntmps12
    go_wp2
    refine wp_loop_rounds 6 ?_
    iterate 6 (first | (rw [rounds_succ]; go_wp2_with (go_at_call 15; refine (name_any _ _).mono ?_; rintro e w' ⟨rfl, rfl⟩)) | skip)
    go_ret2
    exact ⟨retN HN.out.symm (by rw [HN.out]; decide), rfl⟩
  have e2 := (Lib.bytes_beq_false_iff _ _).2 h2
  by_cases h3 : nameS 3 = s
  · have e3 := (Lib.bytes_beq_iff _ _).2 h3
    have HN := Lib.hid (show namedK s = 3 by unfold namedK; rw [if_neg h1, if_neg h2, if_pos h3])
    clear h1 h2 h3
    go_enter Tryd.func12, Tryd.ntmps12
    go_wp2
    refine wp_loop_rounds 6 ?_
    iterate 6 (first | (rw [rounds_succ]; go_wp2_with (go_at_call 15; refine (name_any _ _).mono ?_; rintro e w' ⟨rfl, rfl⟩)) | skip)
    go_ret2
    exact ⟨retN HN.out.symm (by rw [HN.out]; decide), rfl⟩
  have e3 := (Lib.bytes_beq_false_iff _ _).2 h3
  by_cases h4 : nameS 4 = s
  · have e4 := (Lib.bytes_beq_iff _ _).2 h4
    have HN := Lib.hid (show namedK s = 4 by unfold namedK; rw [if_neg h1, if_neg h2, if_neg h3, if_pos h4])
    clear h1 h2 h3 h4
    go_enter Tryd.func12, Tryd.ntmps12
    go_wp2
    refine wp_loop_rounds 6 ?_
    iterate 6 (first | (rw [rounds_succ]; go_wp2_with (go_at_call 15; refine (name_any _ _).mono ?_; rintro e w' ⟨rfl, rfl⟩)) | skip)
    go_ret2
    exact ⟨retN HN.out.symm (by rw [HN.out]; decide), rfl⟩
  have e4 := (Lib.bytes_beq_false_iff _ _).2 h4
  have HN := Lib.hid (show namedK s = 0 by unfold namedK; rw [if_neg h1, if_neg h2, if_neg h3, if_neg h4])
  clear h1 h2 h3 h4
  go_enter Tryd.func12, Tryd.ntmps12
  go_wp2
  refine wp_loop_rounds 6 ?_
  iterate 6 (first | (rw [rounds_succ]; go_wp2_with (go_at_call 15; refine (name_any _ _).mono ?_; rintro e w' ⟨rfl, rfl⟩)) | skip)
  go_ret2
  exact ⟨retN HN.out.symm (by rw [HN.out]; decide), rfl⟩

theorem c_replace (m : Int) (w : World) (hm : w.cell? ⟨0, 0, none⟩ = some (.int .i64 m)) :
    Calls Tryd.prog 28 #[.string ⟨#[97, 39, 98]⟩, .string ⟨#[39]⟩, .string ⟨#[39, 39]⟩] w fun e w' => e = .returned (.string ⟨#[97, 39, 39, 98]⟩) ∧ Below w.heap.size w w' := by
  have h := Tryd.strings_ReplaceAll ⟨#[97, 39, 98]⟩ ⟨#[39]⟩ ⟨#[39, 39]⟩ m w (by decide) hm (by decide) (by decide)
  rw [show (Lib.replaceAll (⟨#[97, 39, 98]⟩ : ByteArray).data.toList (⟨#[39]⟩ : ByteArray).data.toList (⟨#[39, 39]⟩ : ByteArray).data.toList) = [97, 39, 39, 98] by decide] at h
  exact h

set_option maxHeartbeats 1000000 in
theorem c_show (m : Int) (w : World) (hm : w.cell? ⟨0, 0, none⟩ = some (.int .i64 m)) :
    Calls Tryd.prog 19 #[.agg #[.int .i64 4, .int .i64 0, .string ⟨#[97, 39, 98]⟩]] w fun e w' => e = .returned (.string ⟨#[39, 97, 39, 39, 98, 39]⟩) ∧ Below w.heap.size w w' := by
  have hlt : 0 < w.heap.size := World.block_lt_of_cell? _ _ hm
  have HM := Lib.hid hm
  clear hm
  go_enter Tryd.func19, Tryd.ntmps19
  go_wp2_with fail
  refine (right_is 4 0 ⟨#[97, 39, 98]⟩ (by unfold fits; omega) true (by decide) _).mono ?_
  rintro e w1 ⟨rfl, hb1⟩
  have L1 := Lib.hid (bnext (below_alloc w _) (by simp) hb1)
  obtain ⟨hc, hf⟩ := bcell hb1
  have hz : w.heap.size < w1.heap.size := by have := hb1.size; simp at this; omega
  go_wp2_with fail
  refine (c_replace m _ (by rw [L1.out.cell (p := ⟨0, 0, none⟩) hlt]; exact HM.out)).mono ?_
  rintro e w2 ⟨rfl, hb2⟩
  have L2 := Lib.hid (bnext L1.out (by omega) hb2)
  clear hc hf hb1 hb2
  go_wp2
  go_ret
  exact ⟨by first | rfl | decide, L2.out⟩

theorem c_cast1 (w : World) : Calls Tryd.prog 8 #[.agg #[.int .i64 3, .int .i64 2147483648, .string ⟨#[]⟩], .int .i64 2] w fun e w' =>
    e = .returned (.tuple #[.agg #[.int .i64 0, .int .i64 0, .string ⟨#[]⟩], .int .i64 12]) ∧ Below w.heap.size w w' := by
  have h := cast_any 3 2147483648 ⟨#[]⟩ 2 w (by unfold fits; omega)
  unfold castP at h
  rw [show castK 3 2147483648 ⟨#[]⟩ 2 = 0 by decide, show castN 3 2147483648 ⟨#[]⟩ 2 = 0 by decide, show castS 3 2147483648 ⟨#[]⟩ 2 = ⟨#[]⟩ by unfold castS; rw [if_neg (by decide)], show castE 3 2147483648 ⟨#[]⟩ 2 = 12 by decide] at h
  exact h
theorem c_cast2 (w : World) : Calls Tryd.prog 8 #[.agg #[.int .i64 1, .int .i64 1, .string ⟨#[]⟩], .int .i64 3] w fun e w' =>
    e = .returned (.tuple #[.agg #[.int .i64 3, .int .i64 1, .string ⟨#[]⟩], .int .i64 0]) ∧ Below w.heap.size w w' := by
  have h := cast_any 1 1 ⟨#[]⟩ 3 w (by unfold fits; omega)
  unfold castP at h
  rw [show castK 1 1 ⟨#[]⟩ 3 = 3 by decide, show castN 1 1 ⟨#[]⟩ 3 = 1 by decide, show castS 1 1 ⟨#[]⟩ 3 = ⟨#[]⟩ by unfold castS; rw [if_pos (by decide)], show castE 1 1 ⟨#[]⟩ 3 = 0 by decide] at h
  exact h
theorem c_named (w : World) : Calls Tryd.prog 12 #[.string ⟨#[105, 110, 116, 51, 50]⟩] w fun e w' => e = .returned (.tuple #[.int .i64 2, .bool true]) ∧ w = w' := by
  have h := named_any ⟨#[105, 110, 116, 51, 50]⟩ w
  rw [show namedK ⟨#[105, 110, 116, 51, 50]⟩ = 2 by unfold namedK; rw [if_neg (by intro h; have := congrArg (fun x => x.size) h; revert this; decide), if_pos (by rfl)]] at h
  exact h
theorem c_wider (w : World) : Calls Tryd.prog 10 #[.int .i64 1, .int .i64 2] w fun e w' => e = .returned (.bool false) ∧ w = w' := by
  have h := wider_any 1 2 w
  rw [show widerB 1 2 = false by decide] at h
  exact h

set_option maxHeartbeats 4000000 in
theorem alive_any (m : Int) (w : World) (hm : w.cell? ⟨0, 0, none⟩ = some (.int .i64 m)) :
    Calls Tryd.prog 7 #[] w fun e w' => e = .returned (.bool true) ∧ Below w.heap.size w w' := by
  have hlt : 0 < w.heap.size := World.block_lt_of_cell? _ _ hm
  have HM := Lib.hid hm
  clear hm
  go_enter Tryd.func7, Tryd.ntmps7
  go_wp2_with fail
  refine (c_cast1 _).mono ?_
  rintro e w1 ⟨rfl, hb1⟩
  have L1 := Lib.hid (bnext (Below.refl _ _) (Nat.le_refl _) hb1)
  clear hb1
  go_wp2_with fail
  refine (c_cast2 _).mono ?_
  rintro e w2 ⟨rfl, hb2⟩
  have L2 := Lib.hid (bnext (L1.out.alloc L1.out.size _) (by have := L1.out.size; simp; omega) hb2)
  have X2 := Lib.hid ((Box.fresh w1 0 0 ⟨#[]⟩ 24).call hb2)
  clear hb2
  go_wp2_with fail
  refine (c_named _).mono ?_
  rintro e w' ⟨rfl, rfl⟩
  obtain ⟨x0, x1, x2, xz⟩ := X2.out
  have Y := Lib.hid (Box.fresh w2 3 1 ⟨#[]⟩ 24)
  have L3 := Lib.hid (L2.out.alloc L2.out.size (.cells #[.int .i64 3, .int .i64 1, .string ⟨#[]⟩] 24))
  go_wp2_with fail
  refine (c_show m _ (by rw [L3.out.cell (p := ⟨0, 0, none⟩) hlt]; exact HM.out)).mono ?_
  rintro e w4 ⟨rfl, hb4⟩
  have L4 := Lib.hid (bnext L3.out L3.out.size hb4)
  clear hb4 x0 x1 x2 xz
  go_wp2_with (go_at_call 10; refine (c_wider _).mono ?_; rintro e w' ⟨rfl, rfl⟩)
  go_ret
  exact ⟨rfl, L4.out⟩
end Go.Proofs.YthfhehpfkpicmaaDoor.Val
