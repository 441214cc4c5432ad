/- The walk of ValueOrder. -/
import Derived.Test.YthfhehpfkpicmaaDoorValAlive
import Derived.Test.YthfhehpfkpicmaaDoorValOrd
import Derived.OpenShut
namespace Go.Proofs.YthfhehpfkpicmaaDoor.valueOrder
open Go.ChangeShapes Go.WideShapes Go.ChangeAt Go.RowKit Val
theorem compare_is (k n : Int) (s : ByteArray) (k' n' : Int) (s' : ByteArray) (x : Int) (h : cmpV k n s k' n' s' = x) (w : World) :
    Calls Tryd.prog 16 #[.agg #[.int .i64 k, .int .i64 n, .string s], .agg #[.int .i64 k', .int .i64 n', .string s']] w fun e w' => e = .returned (.int .i64 x) ∧ Below w.heap.size w w' := by
  have := compare_any k n s k' n' s' w
  rw [h] at this
  exact this
set_option maxHeartbeats 6400000 in
/-- the walk, where no text is too long, and the first two compare so: 1 -/
theorem walkP (k1 n1 : Int) (s1 : ByteArray) (k2 n2 : Int) (s2 : ByteArray) (k3 n3 : Int) (s3 : ByteArray) (m : Int) (w : World) (hm : w.cell? ⟨0, 0, none⟩ = some (.int .i64 m))
    (h1 : decide ((600 : Int) < (s1.size : Int)) = false) (h2 : decide ((600 : Int) < (s2.size : Int)) = false) (h3 : decide ((600 : Int) < (s3.size : Int)) = false) (y z : Int) (HX : Hid (cmpV k1 n1 s1 k2 n2 s2 = 1)) (HY : Hid (cmpV k2 n2 s2 k3 n3 s3 = y)) (HZ : Hid (cmpV k1 n1 s1 k3 n3 s3 = z)) (HN : Hid (cmpV k2 n2 s2 k1 n1 s1 = -1)) :
    Calls Tryd.prog 5 #[.agg #[.int .i64 k1, .int .i64 n1, .string s1], .agg #[.int .i64 k2, .int .i64 n2, .string s2], .agg #[.int .i64 k3, .int .i64 n3, .string s3]] w fun e w' => e = .returned (.bool true) ∧ Below w.heap.size w w' := by
  have hlt : 0 < w.heap.size := World.block_lt_of_cell? _ _ hm
  have HM := Lib.hid hm
  clear hm
  go_enter Tryd.func5, Tryd.ntmps5
  go_wp2_with fail
  have A := Lib.hid (((Box.fresh w k1 n1 s1 24).alloc (.cells #[.int .i64 k2, .int .i64 n2, .string s2] 24)).alloc (.cells #[.int .i64 k3, .int .i64 n3, .string s3] 24))
  have B := Lib.hid ((Box.fresh (w.alloc (.cells #[.int .i64 k1, .int .i64 n1, .string s1] 24)) k2 n2 s2 24).alloc (.cells #[.int .i64 k3, .int .i64 n3, .string s3] 24))
  have C := Lib.hid (Box.fresh ((w.alloc (.cells #[.int .i64 k1, .int .i64 n1, .string s1] 24)).alloc (.cells #[.int .i64 k2, .int .i64 n2, .string s2] 24)) k3 n3 s3 24)
  have L := Lib.hid (((below_alloc w (.cells #[.int .i64 k1, .int .i64 n1, .string s1] 24)).alloc (by simp) (.cells #[.int .i64 k2, .int .i64 n2, .string s2] 24)).alloc (by simp; omega) (.cells #[.int .i64 k3, .int .i64 n3, .string s3] 24))
  rw [show (w.alloc (.cells #[.int .i64 k1, .int .i64 n1, .string s1] 24)).heap.size = w.heap.size + 1 by simp] at B
  rw [show ((w.alloc (.cells #[.int .i64 k1, .int .i64 n1, .string s1] 24)).alloc (.cells #[.int .i64 k2, .int .i64 n2, .string s2] 24)).heap.size = w.heap.size + 1 + 1 by simp] at C
  refine (compare_is k1 n1 s1 k2 n2 s2 (1) HX.out _).mono ?_
  rintro e w1 ⟨rfl, hb1⟩
  have A1 := Lib.hid (A.out.call hb1)
  have B1 := Lib.hid (B.out.call hb1)
  have C1 := Lib.hid (C.out.call hb1)
  have L1 := Lib.hid (bnext L.out L.out.size hb1)
  clear A B C L hb1
  obtain ⟨a0, a1, a2, az⟩ := A1.out
  obtain ⟨b0, b1, b2, bz⟩ := B1.out
  obtain ⟨c0, c1, c2, cz⟩ := C1.out
  go_wp2_with fail
  refine (compare_is k2 n2 s2 k3 n3 s3 y HY.out _).mono ?_
  rintro e w2 ⟨rfl, hb2⟩
  have A2 := Lib.hid (A1.out.call hb2)
  have B2 := Lib.hid (B1.out.call hb2)
  have C2 := Lib.hid (C1.out.call hb2)
  have L2 := Lib.hid (bnext L1.out L1.out.size hb2)
  clear A1 B1 C1 L1 hb2 a0 a1 a2 az b0 b1 b2 bz c0 c1 c2 cz
  obtain ⟨a0, a1, a2, az⟩ := A2.out
  obtain ⟨c0, c1, c2, cz⟩ := C2.out
  go_wp2_with fail
  refine (compare_is k1 n1 s1 k3 n3 s3 z HZ.out _).mono ?_
  rintro e w3 ⟨rfl, hb3⟩
  have A3 := Lib.hid (A2.out.call hb3)
  have B3 := Lib.hid (B2.out.call hb3)
  have L3 := Lib.hid (bnext L2.out L2.out.size hb3)
  clear A2 B2 C2 L2 hb3 a0 a1 a2 az c0 c1 c2 cz
  go_wp2_with fail
  refine (alive_any m _ (by rw [L3.out.cell (p := ⟨0, 0, none⟩) hlt]; exact HM.out)).mono ?_
  rintro e w4 ⟨rfl, hb4⟩
  have A4 := Lib.hid (A3.out.call hb4)
  have B4 := Lib.hid (B3.out.call hb4)
  have L4 := Lib.hid (bnext L3.out L3.out.size hb4)
  clear A3 B3 L3 hb4 HM
  obtain ⟨a0, a1, a2, az⟩ := A4.out
  obtain ⟨b0, b1, b2, bz⟩ := B4.out
  go_wp2_with fail
  all_goals first | (exfalso; have e := cmpV_same (k := k1) (k' := k2) (n := n1) (n' := n2) (s := s1) (s' := s2) (by assumption) (by assumption) (by assumption); have h := HX.out; rw [e] at h; exact absurd h (by decide)) | skip
  all_goals try subst_vars
  all_goals go_wp2_with (go_at_call 16; refine (compare_is _ _ _ _ _ _ (-1) HN.out _).mono ?_; rintro e w5 ⟨rfl, hb5⟩; have L5 := Lib.hid (bnext L4.out L4.out.size hb5); clear hb5)
  all_goals go_ret
  all_goals exact ⟨by first | rfl | exact congrArg (fun b => Ending.returned (Value.bool b)) (by simpa using HT.out), L5.out⟩
set_option maxHeartbeats 6400000 in
/-- the walk, where no text is too long, and the first two compare so: -1 -/
theorem walkM (k1 n1 : Int) (s1 : ByteArray) (k2 n2 : Int) (s2 : ByteArray) (k3 n3 : Int) (s3 : ByteArray) (m : Int) (w : World) (hm : w.cell? ⟨0, 0, none⟩ = some (.int .i64 m))
    (h1 : decide ((600 : Int) < (s1.size : Int)) = false) (h2 : decide ((600 : Int) < (s2.size : Int)) = false) (h3 : decide ((600 : Int) < (s3.size : Int)) = false) (y z : Int) (HX : Hid (cmpV k1 n1 s1 k2 n2 s2 = -1)) (HY : Hid (cmpV k2 n2 s2 k3 n3 s3 = y)) (HZ : Hid (cmpV k1 n1 s1 k3 n3 s3 = z)) (HN : Hid (cmpV k2 n2 s2 k1 n1 s1 = 1)) (HT : Hid (y > 0 ∨ z ≤ 0)) :
    Calls Tryd.prog 5 #[.agg #[.int .i64 k1, .int .i64 n1, .string s1], .agg #[.int .i64 k2, .int .i64 n2, .string s2], .agg #[.int .i64 k3, .int .i64 n3, .string s3]] w fun e w' => e = .returned (.bool true) ∧ Below w.heap.size w w' := by
  have hlt : 0 < w.heap.size := World.block_lt_of_cell? _ _ hm
  have HM := Lib.hid hm
  clear hm
  go_enter Tryd.func5, Tryd.ntmps5
  go_wp2_with fail
  have A := Lib.hid (((Box.fresh w k1 n1 s1 24).alloc (.cells #[.int .i64 k2, .int .i64 n2, .string s2] 24)).alloc (.cells #[.int .i64 k3, .int .i64 n3, .string s3] 24))
  have B := Lib.hid ((Box.fresh (w.alloc (.cells #[.int .i64 k1, .int .i64 n1, .string s1] 24)) k2 n2 s2 24).alloc (.cells #[.int .i64 k3, .int .i64 n3, .string s3] 24))
  have C := Lib.hid (Box.fresh ((w.alloc (.cells #[.int .i64 k1, .int .i64 n1, .string s1] 24)).alloc (.cells #[.int .i64 k2, .int .i64 n2, .string s2] 24)) k3 n3 s3 24)
  have L := Lib.hid (((below_alloc w (.cells #[.int .i64 k1, .int .i64 n1, .string s1] 24)).alloc (by simp) (.cells #[.int .i64 k2, .int .i64 n2, .string s2] 24)).alloc (by simp; omega) (.cells #[.int .i64 k3, .int .i64 n3, .string s3] 24))
  rw [show (w.alloc (.cells #[.int .i64 k1, .int .i64 n1, .string s1] 24)).heap.size = w.heap.size + 1 by simp] at B
  rw [show ((w.alloc (.cells #[.int .i64 k1, .int .i64 n1, .string s1] 24)).alloc (.cells #[.int .i64 k2, .int .i64 n2, .string s2] 24)).heap.size = w.heap.size + 1 + 1 by simp] at C
  refine (compare_is k1 n1 s1 k2 n2 s2 (-1) HX.out _).mono ?_
  rintro e w1 ⟨rfl, hb1⟩
  have A1 := Lib.hid (A.out.call hb1)
  have B1 := Lib.hid (B.out.call hb1)
  have C1 := Lib.hid (C.out.call hb1)
  have L1 := Lib.hid (bnext L.out L.out.size hb1)
  clear A B C L hb1
  obtain ⟨a0, a1, a2, az⟩ := A1.out
  obtain ⟨b0, b1, b2, bz⟩ := B1.out
  obtain ⟨c0, c1, c2, cz⟩ := C1.out
  go_wp2_with fail
  refine (compare_is k2 n2 s2 k3 n3 s3 y HY.out _).mono ?_
  rintro e w2 ⟨rfl, hb2⟩
  have A2 := Lib.hid (A1.out.call hb2)
  have B2 := Lib.hid (B1.out.call hb2)
  have C2 := Lib.hid (C1.out.call hb2)
  have L2 := Lib.hid (bnext L1.out L1.out.size hb2)
  clear A1 B1 C1 L1 hb2 a0 a1 a2 az b0 b1 b2 bz c0 c1 c2 cz
  obtain ⟨a0, a1, a2, az⟩ := A2.out
  obtain ⟨c0, c1, c2, cz⟩ := C2.out
  go_wp2_with fail
  refine (compare_is k1 n1 s1 k3 n3 s3 z HZ.out _).mono ?_
  rintro e w3 ⟨rfl, hb3⟩
  have A3 := Lib.hid (A2.out.call hb3)
  have B3 := Lib.hid (B2.out.call hb3)
  have L3 := Lib.hid (bnext L2.out L2.out.size hb3)
  clear A2 B2 C2 L2 hb3 a0 a1 a2 az c0 c1 c2 cz
  go_wp2_with fail
  refine (alive_any m _ (by rw [L3.out.cell (p := ⟨0, 0, none⟩) hlt]; exact HM.out)).mono ?_
  rintro e w4 ⟨rfl, hb4⟩
  have A4 := Lib.hid (A3.out.call hb4)
  have B4 := Lib.hid (B3.out.call hb4)
  have L4 := Lib.hid (bnext L3.out L3.out.size hb4)
  clear A3 B3 L3 hb4 HM
  obtain ⟨a0, a1, a2, az⟩ := A4.out
  obtain ⟨b0, b1, b2, bz⟩ := B4.out
  go_wp2_with fail
  all_goals first | (exfalso; have e := cmpV_same (k := k1) (k' := k2) (n := n1) (n' := n2) (s := s1) (s' := s2) (by assumption) (by assumption) (by assumption); have h := HX.out; rw [e] at h; exact absurd h (by decide)) | (exfalso; have h := HT.out; clear a0 a1 a2 az b0 b1 b2 bz; omega) | skip
  all_goals try subst_vars
  all_goals go_wp2_with (go_at_call 16; refine (compare_is _ _ _ _ _ _ (1) HN.out _).mono ?_; rintro e w5 ⟨rfl, hb5⟩; have L5 := Lib.hid (bnext L4.out L4.out.size hb5); clear hb5)
  all_goals go_ret
  all_goals exact ⟨by first | rfl | exact congrArg (fun b => Ending.returned (Value.bool b)) (by simpa using HT.out), L5.out⟩
set_option maxHeartbeats 6400000 in
/-- the walk, where no text is too long, and the first two compare so: 0 -/
theorem walkZ (k1 n1 : Int) (s1 : ByteArray) (k3 n3 : Int) (s3 : ByteArray) (m : Int) (w : World) (hm : w.cell? ⟨0, 0, none⟩ = some (.int .i64 m))
    (h1 : decide ((600 : Int) < (s1.size : Int)) = false) (h3 : decide ((600 : Int) < (s3.size : Int)) = false) (y : Int) (HX : Hid (cmpV k1 n1 s1 k1 n1 s1 = 0)) (HY : Hid (cmpV k1 n1 s1 k3 n3 s3 = y))  :
    Calls Tryd.prog 5 #[.agg #[.int .i64 k1, .int .i64 n1, .string s1], .agg #[.int .i64 k1, .int .i64 n1, .string s1], .agg #[.int .i64 k3, .int .i64 n3, .string s3]] w fun e w' => e = .returned (.bool true) ∧ Below w.heap.size w w' := by
  have hlt : 0 < w.heap.size := World.block_lt_of_cell? _ _ hm
  have HM := Lib.hid hm
  clear hm
  go_enter Tryd.func5, Tryd.ntmps5
  go_wp2_with fail
  have A := Lib.hid (((Box.fresh w k1 n1 s1 24).alloc (.cells #[.int .i64 k1, .int .i64 n1, .string s1] 24)).alloc (.cells #[.int .i64 k3, .int .i64 n3, .string s3] 24))
  have B := Lib.hid ((Box.fresh (w.alloc (.cells #[.int .i64 k1, .int .i64 n1, .string s1] 24)) k1 n1 s1 24).alloc (.cells #[.int .i64 k3, .int .i64 n3, .string s3] 24))
  have C := Lib.hid (Box.fresh ((w.alloc (.cells #[.int .i64 k1, .int .i64 n1, .string s1] 24)).alloc (.cells #[.int .i64 k1, .int .i64 n1, .string s1] 24)) k3 n3 s3 24)
  have L := Lib.hid (((below_alloc w (.cells #[.int .i64 k1, .int .i64 n1, .string s1] 24)).alloc (by simp) (.cells #[.int .i64 k1, .int .i64 n1, .string s1] 24)).alloc (by simp; omega) (.cells #[.int .i64 k3, .int .i64 n3, .string s3] 24))
  rw [show (w.alloc (.cells #[.int .i64 k1, .int .i64 n1, .string s1] 24)).heap.size = w.heap.size + 1 by simp] at B
  rw [show ((w.alloc (.cells #[.int .i64 k1, .int .i64 n1, .string s1] 24)).alloc (.cells #[.int .i64 k1, .int .i64 n1, .string s1] 24)).heap.size = w.heap.size + 1 + 1 by simp] at C
  refine (compare_is k1 n1 s1 k1 n1 s1 (0) HX.out _).mono ?_
  rintro e w1 ⟨rfl, hb1⟩
  have A1 := Lib.hid (A.out.call hb1)
  have B1 := Lib.hid (B.out.call hb1)
  have C1 := Lib.hid (C.out.call hb1)
  have L1 := Lib.hid (bnext L.out L.out.size hb1)
  clear A B C L hb1
  obtain ⟨a0, a1, a2, az⟩ := A1.out
  obtain ⟨b0, b1, b2, bz⟩ := B1.out
  obtain ⟨c0, c1, c2, cz⟩ := C1.out
  go_wp2_with fail
  refine (compare_is k1 n1 s1 k3 n3 s3 y HY.out _).mono ?_
  rintro e w2 ⟨rfl, hb2⟩
  have A2 := Lib.hid (A1.out.call hb2)
  have B2 := Lib.hid (B1.out.call hb2)
  have C2 := Lib.hid (C1.out.call hb2)
  have L2 := Lib.hid (bnext L1.out L1.out.size hb2)
  clear A1 B1 C1 L1 hb2 a0 a1 a2 az b0 b1 b2 bz c0 c1 c2 cz
  obtain ⟨a0, a1, a2, az⟩ := A2.out
  obtain ⟨c0, c1, c2, cz⟩ := C2.out
  go_wp2_with fail
  refine (compare_is k1 n1 s1 k3 n3 s3 y HY.out _).mono ?_
  rintro e w3 ⟨rfl, hb3⟩
  have A3 := Lib.hid (A2.out.call hb3)
  have B3 := Lib.hid (B2.out.call hb3)
  have L3 := Lib.hid (bnext L2.out L2.out.size hb3)
  clear A2 B2 C2 L2 hb3 a0 a1 a2 az c0 c1 c2 cz
  go_wp2_with fail
  refine (alive_any m _ (by rw [L3.out.cell (p := ⟨0, 0, none⟩) hlt]; exact HM.out)).mono ?_
  rintro e w4 ⟨rfl, hb4⟩
  have A4 := Lib.hid (A3.out.call hb4)
  have B4 := Lib.hid (B3.out.call hb4)
  have L4 := Lib.hid (bnext L3.out L3.out.size hb4)
  clear A3 B3 L3 hb4 HM
  obtain ⟨a0, a1, a2, az⟩ := A4.out
  obtain ⟨b0, b1, b2, bz⟩ := B4.out
  go_wp2_with fail
  all_goals first | (exfalso; clear a0 a1 a2 az b0 b1 b2 bz; omega) | skip
  all_goals try subst_vars
  all_goals go_wp2_with (go_at_call 16; refine (compare_is _ _ _ _ _ _ (0) HX.out _).mono ?_; rintro e w5 ⟨rfl, hb5⟩; have L5 := Lib.hid (bnext L4.out L4.out.size hb5); clear hb5)
  all_goals go_ret
  all_goals exact ⟨by first | rfl | exact congrArg (fun b => Ending.returned (Value.bool b)) (by simpa using HT.out), L5.out⟩
set_option maxHeartbeats 1600000 in
/-- the walk, where a text is too long -/
theorem walkL (k1 n1 : Int) (s1 : ByteArray) (k2 n2 : Int) (s2 : ByteArray) (k3 n3 : Int) (s3 : ByteArray) (m : Int) (w : World) (hm : w.cell? ⟨0, 0, none⟩ = some (.int .i64 m))
    (b1 b2 b3 : Bool) (h1 : decide ((600 : Int) < (s1.size : Int)) = b1) (h2 : decide ((600 : Int) < (s2.size : Int)) = b2) (h3 : decide ((600 : Int) < (s3.size : Int)) = b3) (hb : (b1 || b2 || b3) = true) :
    Calls Tryd.prog 5 #[.agg #[.int .i64 k1, .int .i64 n1, .string s1], .agg #[.int .i64 k2, .int .i64 n2, .string s2], .agg #[.int .i64 k3, .int .i64 n3, .string s3]] w fun e w' => e = .returned (.bool true) ∧ Below w.heap.size w w' := by
  have hlt : 0 < w.heap.size := World.block_lt_of_cell? _ _ hm
  have HM := Lib.hid hm
  clear hm
  have L := Lib.hid (((below_alloc w (.cells #[.int .i64 k1, .int .i64 n1, .string s1] 24)).alloc (by simp) (.cells #[.int .i64 k2, .int .i64 n2, .string s2] 24)).alloc (by simp; omega) (.cells #[.int .i64 k3, .int .i64 n3, .string s3] 24))
  cases b1 <;> cases b2 <;> cases b3 <;> first | exact absurd hb (by decide) | clear hb
  all_goals
    go_enter Tryd.func5, Tryd.ntmps5
    go_wp2_with fail
    refine (alive_any m _ (by rw [L.out.cell (p := ⟨0, 0, none⟩) hlt]; exact HM.out)).mono ?_
    rintro e w1 ⟨rfl, hb1⟩
    have L1 := Lib.hid (bnext L.out (by simp; omega) hb1)
    clear hb1 L
    go_wp2
    go_ret
    exact ⟨rfl, L1.out⟩
theorem dec_ff {n : Nat} (h : ¬ 600 < n) : decide ((600 : Int) < (n : Int)) = false := decide_eq_false (by omega)
theorem dec_tt {n : Nat} (h : 600 < n) : decide ((600 : Int) < (n : Int)) = true := decide_eq_true (by omega)
theorem walk (k1 n1 : Int) (s1 : ByteArray) (k2 n2 : Int) (s2 : ByteArray) (k3 n3 : Int) (s3 : ByteArray) (_ : (Lit.int .i64 k1).wf = true) (_ : (Lit.int .i64 n1).wf = true) (_ : s1.size ≤ maxLen) (_ : (Lit.int .i64 k2).wf = true) (_ : (Lit.int .i64 n2).wf = true) (_ : s2.size ≤ maxLen) (_ : (Lit.int .i64 k3).wf = true) (_ : (Lit.int .i64 n3).wf = true) (_ : s3.size ≤ maxLen) (m : Int) (w : World) (hm : w.cell? ⟨0, 0, none⟩ = some (.int .i64 m)) :
    Calls Tryd.prog 5 #[.agg #[.int .i64 k1, .int .i64 n1, .string s1], .agg #[.int .i64 k2, .int .i64 n2, .string s2], .agg #[.int .i64 k3, .int .i64 n3, .string s3]] w fun e w' => e = .returned (.bool true) ∧ Below w.heap.size w w' := by
  by_cases h1 : 600 < s1.size
  · exact walkL _ _ _ _ _ _ _ _ _ m w hm true _ _ (dec_tt h1) rfl rfl rfl
  by_cases h2 : 600 < s2.size
  · exact walkL _ _ _ _ _ _ _ _ _ m w hm false true _ (dec_ff h1) (dec_tt h2) rfl rfl
  by_cases h3 : 600 < s3.size
  · exact walkL _ _ _ _ _ _ _ _ _ m w hm false false true (dec_ff h1) (dec_ff h2) (dec_tt h3) rfl
  have hn := cmpV_neg k1 n1 s1 k2 n2 s2
  rcases cmpV_range k1 n1 s1 k2 n2 s2 with h | h | h
  · refine walkM k1 n1 s1 k2 n2 s2 k3 n3 s3 m w hm (dec_ff h1) (dec_ff h2) (dec_ff h3) _ _ (Lib.hid h) (Lib.hid rfl) (Lib.hid rfl) (Lib.hid (by rw [hn, h]; rfl)) (Lib.hid ?_)
    by_cases g : cmpV k2 n2 s2 k3 n3 s3 > 0
    · exact Or.inl g
    · exact Or.inr (cmpV_trans h (by omega))
  · obtain ⟨rfl, rfl, rfl⟩ := cmpV_zero h
    exact walkZ k1 n1 s1 k3 n3 s3 m w hm (dec_ff h1) (dec_ff h3) _ (Lib.hid h) (Lib.hid rfl)
  · exact walkP k1 n1 s1 k2 n2 s2 k3 n3 s3 m w hm (dec_ff h1) (dec_ff h2) (dec_ff h3) _ _ (Lib.hid h) (Lib.hid rfl) (Lib.hid rfl) (Lib.hid (by rw [hn, h]))
end Go.Proofs.YthfhehpfkpicmaaDoor.valueOrder
