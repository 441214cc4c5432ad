/-
  Contracts of Cast, the program's and the document's, for every argument.
-/
import Derived.Test.YthfhehpfkpicmaaDoorValMore
namespace Go.Proofs.YthfhehpfkpicmaaDoor.Val
open Go.ChangeShapes Go.WideShapes Go.ChangeAt Go.RowKit

theorem column_is (k : Int) (b : Bool) (h : columnB k = b) (w : World) :
    Calls Tryd.prog 20 #[.int .i64 k] w fun e w' => e = .returned (.bool b) ∧ w = w' := by
  have := column_any k w
  rw [h] at this
  exact this
theorem holds_is (k n : Int) (hn : fits n) (b : Bool) (h : holdsB k n = b) (w : World) :
    Calls Tryd.prog 21 #[.int .i64 k, .int .i64 n] w fun e w' => e = .returned (.bool b) ∧ w = w' := by
  have := holds_any k n w hn
  rw [h] at this
  exact this
theorem right_is (k n : Int) (s : ByteArray) (hn : fits n) (b : Bool) (h : rightB k n s = b) (w : World) :
    Calls Tryd.prog 17 #[.agg #[.int .i64 k, .int .i64 n, .string s]] w fun e w' => e = .returned (.bool b) ∧ Below w.heap.size w w' := by
  have := right_any k n s w hn
  rw [h] at this
  exact this
theorem rright_is (k n : Int) (s : ByteArray) (b : Bool) (h : rightB k n s = b) (w : World) :
    Calls Tryd.prog 22 #[.agg #[.int .i64 k, .int .i64 n, .string s]] w fun e w' => e = .returned (.bool b) ∧ Below w.heap.size w w' := by
  have := rright_any k n s w
  rw [h] at this
  exact this
theorem rcolumn_is (k : Int) (b : Bool) (h : columnB k = b) (w : World) :
    Calls Tryd.prog 14 #[.int .i64 k] w fun e w' => e = .returned (.bool b) ∧ w = w' := by
  have := rcolumn_any k w
  rw [h] at this
  exact this

/-- what a cast answers -/
def castP (k n : Int) (s : ByteArray) (c : Int) (w : World) (e : Ending) (w' : World) : Prop :=
  e = .returned (.tuple #[.agg #[.int .i64 (castK k n s c), .int .i64 (castN k n s c), .string (castS k n s c)], .int .i64 (castE k n s c)]) ∧ Below w.heap.size w w'
theorem castP_no {k n c E : Int} {s : ByteArray} {w w' : World} (h : castE k n s c = E) (h0 : E ≠ 0) (hb : Below w.heap.size w w') :
    castP k n s c w (.returned (.tuple #[.agg #[.int .i64 0, .int .i64 0, .string ⟨#[]⟩], .int .i64 E])) w' := by
  unfold castP castK castN castS
  rw [h, if_neg h0, if_neg h0, if_neg h0]
  exact ⟨rfl, hb⟩
theorem castP_yes {k n c K : Int} {s S : ByteArray} {w w' : World} (h : castE k n s c = 0) (hk : K = if k = 0 then 0 else c) (hs : S = s) (hb : Below w.heap.size w w') :
    castP k n s c w (.returned (.tuple #[.agg #[.int .i64 K, .int .i64 n, .string S], .int .i64 0])) w' := by
  unfold castP castK castN castS
  rw [h, if_pos rfl, if_pos rfl, if_pos rfl, hk, hs]
  exact ⟨rfl, hb⟩

set_option maxHeartbeats 4000000 in
theorem cast_a (k n : Int) (s : ByteArray) (c : Int) (w : World) (hn : fits n) (HR : Hid (rightB k n s = false)) (HE : Hid (castE k n s c = 1)) :
    Calls Tryd.prog 8 #[.agg #[.int .i64 k, .int .i64 n, .string s], .int .i64 c] w (castP k n s c w) := by
  have hbb : ∀ o o' w1, Below ((w.alloc o).alloc o').heap.size ((w.alloc o).alloc o') w1 → Below w.heap.size w w1 := fun o o' w1 h => bnext ((below_alloc w o).alloc (by simp) o') (by simp; omega) h
  have HB := Lib.hid hbb
  clear hbb
  go_enter Tryd.func8, Tryd.ntmps8
  go_wp2_with fail
  refine (right_is k n s hn false HR.out _).mono ?_
  rintro e w1 ⟨rfl, hb1⟩
  have L1 := Lib.hid (HB.out _ _ _ hb1)
  obtain ⟨hc, hf⟩ := bcell hb1
  have hz : w.heap.size + 1 < w1.heap.size := by have := hb1.size; simp at this; omega
  go_wp2
  exact bodyPost_ret (v := .tuple #[.agg #[.int .i64 0, .int .i64 0, .string ⟨#[]⟩], .int .i64 1]) (by simp [results, Tryd.results8, go_sem, World.cell?_setCell_other, hc]) rfl (castP_no HE.out (by decide) (((L1.out.setCell (by simp) _).setCell (by simp) _).setCell (by simp) _))
set_option maxHeartbeats 4000000 in
theorem cast_b (k n : Int) (s : ByteArray) (c : Int) (w : World) (hn : fits n) (HR : Hid (rightB k n s = true)) (HC : Hid (columnB c = false)) (HE : Hid (castE k n s c = 1)) :
    Calls Tryd.prog 8 #[.agg #[.int .i64 k, .int .i64 n, .string s], .int .i64 c] w (castP k n s c w) := by
  have hbb : ∀ o o' w1, Below ((w.alloc o).alloc o').heap.size ((w.alloc o).alloc o') w1 → Below w.heap.size w w1 := fun o o' w1 h => bnext ((below_alloc w o).alloc (by simp) o') (by simp; omega) h
  have HB := Lib.hid hbb
  clear hbb
  go_enter Tryd.func8, Tryd.ntmps8
  go_wp2_with fail
  refine (right_is k n s hn true HR.out _).mono ?_
  rintro e w1 ⟨rfl, hb1⟩
  have L1 := Lib.hid (HB.out _ _ _ hb1)
  obtain ⟨hc, hf⟩ := bcell hb1
  have hz : w.heap.size + 1 < w1.heap.size := by have := hb1.size; simp at this; omega
  go_wp2_with (go_at_call 20; refine (column_is c false HC.out _).mono ?_; rintro e w' ⟨rfl, rfl⟩)
  exact bodyPost_ret (v := .tuple #[.agg #[.int .i64 0, .int .i64 0, .string ⟨#[]⟩], .int .i64 1]) (by simp [results, Tryd.results8, go_sem, World.cell?_setCell_other, hc]) rfl (castP_no HE.out (by decide) (((L1.out.setCell (by simp) _).setCell (by simp) _).setCell (by simp) _))
set_option maxHeartbeats 4000000 in
theorem cast_c (k n : Int) (s : ByteArray) (c : Int) (w : World) (hn : fits n) (HR : Hid (rightB k n s = true)) (HC : Hid (columnB c = true)) (hk : k = 0) (HE : Hid (castE k n s c = 0)) :
    Calls Tryd.prog 8 #[.agg #[.int .i64 k, .int .i64 n, .string s], .int .i64 c] w (castP k n s c w) := by
  subst hk
  have hbb : ∀ o o' w1, Below ((w.alloc o).alloc o').heap.size ((w.alloc o).alloc o') w1 → Below w.heap.size w w1 := fun o o' w1 h => bnext ((below_alloc w o).alloc (by simp) o') (by simp; omega) h
  have HB := Lib.hid hbb
  clear hbb
  go_enter Tryd.func8, Tryd.ntmps8
  go_wp2_with fail
  refine (right_is 0 n s hn true HR.out _).mono ?_
  rintro e w1 ⟨rfl, hb1⟩
  have L1 := Lib.hid (HB.out _ _ _ hb1)
  obtain ⟨hc, hf⟩ := bcell hb1
  have hz : w.heap.size + 1 < w1.heap.size := by have := hb1.size; simp at this; omega
  go_wp2_with (go_at_call 20; refine (column_is c true HC.out _).mono ?_; rintro e w' ⟨rfl, rfl⟩)
  exact bodyPost_ret (v := .tuple #[.agg #[.int .i64 0, .int .i64 n, .string s], .int .i64 0]) (by simp [results, Tryd.results8, go_sem, World.cell?_setCell_other, hc]) rfl (castP_yes HE.out (by simp) rfl (((L1.out.setCell (by simp) _).setCell (by simp) _).setCell (by simp) _))
set_option maxHeartbeats 4000000 in
theorem cast_d (k n : Int) (s : ByteArray) (c : Int) (w : World) (hn : fits n) (HR : Hid (rightB k n s = true)) (HC : Hid (columnB c = true)) (k0 : (k == 0) = false) (hk : k = c) (HE : Hid (castE k n s c = 0)) :
    Calls Tryd.prog 8 #[.agg #[.int .i64 k, .int .i64 n, .string s], .int .i64 c] w (castP k n s c w) := by
  subst hk
  have hbb : ∀ o o' w1, Below ((w.alloc o).alloc o').heap.size ((w.alloc o).alloc o') w1 → Below w.heap.size w w1 := fun o o' w1 h => bnext ((below_alloc w o).alloc (by simp) o') (by simp; omega) h
  have HB := Lib.hid hbb
  clear hbb
  go_enter Tryd.func8, Tryd.ntmps8
  go_wp2_with fail
  refine (right_is k n s hn true HR.out _).mono ?_
  rintro e w1 ⟨rfl, hb1⟩
  have L1 := Lib.hid (HB.out _ _ _ hb1)
  obtain ⟨hc, hf⟩ := bcell hb1
  have hz : w.heap.size + 1 < w1.heap.size := by have := hb1.size; simp at this; omega
  go_wp2_with (go_at_call 20; refine (column_is k true HC.out _).mono ?_; rintro e w' ⟨rfl, rfl⟩)
  exact bodyPost_ret (v := .tuple #[.agg #[.int .i64 k, .int .i64 n, .string s], .int .i64 0]) (by simp [results, Tryd.results8, go_sem, World.cell?_setCell_other, hc]) rfl (castP_yes HE.out (by rw [if_neg (by simpa using k0)]) rfl (((L1.out.setCell (by simp) _).setCell (by simp) _).setCell (by simp) _))
set_option maxHeartbeats 4000000 in
theorem cast_e (k n : Int) (s : ByteArray) (c : Int) (w : World) (hn : fits n) (HR : Hid (rightB k n s = true)) (HC : Hid (columnB c = true)) (kc : (k == c) = false) (hk : k = 4) (HE : Hid (castE k n s c = 31)) :
    Calls Tryd.prog 8 #[.agg #[.int .i64 k, .int .i64 n, .string s], .int .i64 c] w (castP k n s c w) := by
  subst hk
  have hbb : ∀ o o' w1, Below ((w.alloc o).alloc o').heap.size ((w.alloc o).alloc o') w1 → Below w.heap.size w w1 := fun o o' w1 h => bnext ((below_alloc w o).alloc (by simp) o') (by simp; omega) h
  have HB := Lib.hid hbb
  clear hbb
  go_enter Tryd.func8, Tryd.ntmps8
  go_wp2_with fail
  refine (right_is 4 n s hn true HR.out _).mono ?_
  rintro e w1 ⟨rfl, hb1⟩
  have L1 := Lib.hid (HB.out _ _ _ hb1)
  obtain ⟨hc, hf⟩ := bcell hb1
  have hz : w.heap.size + 1 < w1.heap.size := by have := hb1.size; simp at this; omega
  go_wp2_with (go_at_call 20; refine (column_is c true HC.out _).mono ?_; rintro e w' ⟨rfl, rfl⟩)
  exact bodyPost_ret (v := .tuple #[.agg #[.int .i64 0, .int .i64 0, .string ⟨#[]⟩], .int .i64 31]) (by simp [results, Tryd.results8, go_sem, World.cell?_setCell_other, hc]) rfl (castP_no HE.out (by decide) (((L1.out.setCell (by simp) _).setCell (by simp) _).setCell (by simp) _))
set_option maxHeartbeats 4000000 in
theorem cast_f (k n : Int) (s : ByteArray) (c : Int) (w : World) (hn : fits n) (HR : Hid (rightB k n s = true)) (HC : Hid (columnB c = true)) (k0 : (k == 0) = false) (kc : (k == c) = false) (k4 : (k == 4) = false) (hk : c = 4) (HE : Hid (castE k n s c = 31)) :
    Calls Tryd.prog 8 #[.agg #[.int .i64 k, .int .i64 n, .string s], .int .i64 c] w (castP k n s c w) := by
  subst hk
  have hbb : ∀ o o' w1, Below ((w.alloc o).alloc o').heap.size ((w.alloc o).alloc o') w1 → Below w.heap.size w w1 := fun o o' w1 h => bnext ((below_alloc w o).alloc (by simp) o') (by simp; omega) h
  have HB := Lib.hid hbb
  clear hbb
  go_enter Tryd.func8, Tryd.ntmps8
  go_wp2_with fail
  refine (right_is k n s hn true HR.out _).mono ?_
  rintro e w1 ⟨rfl, hb1⟩
  have L1 := Lib.hid (HB.out _ _ _ hb1)
  obtain ⟨hc, hf⟩ := bcell hb1
  have hz : w.heap.size + 1 < w1.heap.size := by have := hb1.size; simp at this; omega
  go_wp2_with (go_at_call 20; refine (column_is 4 true HC.out _).mono ?_; rintro e w' ⟨rfl, rfl⟩)
  exact bodyPost_ret (v := .tuple #[.agg #[.int .i64 0, .int .i64 0, .string ⟨#[]⟩], .int .i64 31]) (by simp [results, Tryd.results8, go_sem, World.cell?_setCell_other, hc]) rfl (castP_no HE.out (by decide) (((L1.out.setCell (by simp) _).setCell (by simp) _).setCell (by simp) _))
set_option maxHeartbeats 4000000 in
theorem cast_g (k n : Int) (s : ByteArray) (c : Int) (w : World) (hn : fits n) (HR : Hid (rightB k n s = true)) (HC : Hid (columnB c = true)) (k0 : (k == 0) = false) (kc : (k == c) = false) (k4 : (k == 4) = false) (c4 : (c == 4) = false) (HH : Hid (holdsB c n = false)) (HE : Hid (castE k n s c = 12)) :
    Calls Tryd.prog 8 #[.agg #[.int .i64 k, .int .i64 n, .string s], .int .i64 c] w (castP k n s c w) := by
  have hbb : ∀ o o' w1, Below ((w.alloc o).alloc o').heap.size ((w.alloc o).alloc o') w1 → Below w.heap.size w w1 := fun o o' w1 h => bnext ((below_alloc w o).alloc (by simp) o') (by simp; omega) h
  have HB := Lib.hid hbb
  clear hbb
  go_enter Tryd.func8, Tryd.ntmps8
  go_wp2_with fail
  refine (right_is k n s hn true HR.out _).mono ?_
  rintro e w1 ⟨rfl, hb1⟩
  have L1 := Lib.hid (HB.out _ _ _ hb1)
  obtain ⟨hc, hf⟩ := bcell hb1
  have hz : w.heap.size + 1 < w1.heap.size := by have := hb1.size; simp at this; omega
  go_wp2_with (first | (go_at_call 20; refine (column_is c true HC.out _).mono ?_; rintro e w' ⟨rfl, rfl⟩) | (go_at_call 21; refine (holds_is c n hn false HH.out _).mono ?_; rintro e w' ⟨rfl, rfl⟩))
  exact bodyPost_ret (v := .tuple #[.agg #[.int .i64 0, .int .i64 0, .string ⟨#[]⟩], .int .i64 12]) (by simp [results, Tryd.results8, go_sem, World.cell?_setCell_other, hc]) rfl (castP_no HE.out (by decide) (((L1.out.setCell (by simp) _).setCell (by simp) _).setCell (by simp) _))
set_option maxHeartbeats 4000000 in
theorem cast_h (k n : Int) (s : ByteArray) (c : Int) (w : World) (hn : fits n) (HR : Hid (rightB k n s = true)) (HC : Hid (columnB c = true)) (k0 : (k == 0) = false) (kc : (k == c) = false) (k4 : (k == 4) = false) (c4 : (c == 4) = false) (HH : Hid (holdsB c n = true)) (HE : Hid (castE k n s c = 0)) (HS : Hid (s = ⟨#[]⟩)) :
    Calls Tryd.prog 8 #[.agg #[.int .i64 k, .int .i64 n, .string s], .int .i64 c] w (castP k n s c w) := by
  have hbb : ∀ o o' w1, Below ((w.alloc o).alloc o').heap.size ((w.alloc o).alloc o') w1 → Below w.heap.size w w1 := fun o o' w1 h => bnext ((below_alloc w o).alloc (by simp) o') (by simp; omega) h
  have HB := Lib.hid hbb
  clear hbb
  go_enter Tryd.func8, Tryd.ntmps8
  go_wp2_with fail
  refine (right_is k n s hn true HR.out _).mono ?_
  rintro e w1 ⟨rfl, hb1⟩
  have L1 := Lib.hid (HB.out _ _ _ hb1)
  obtain ⟨hc, hf⟩ := bcell hb1
  have hz : w.heap.size + 1 < w1.heap.size := by have := hb1.size; simp at this; omega
  go_wp2_with (first | (go_at_call 20; refine (column_is c true HC.out _).mono ?_; rintro e w' ⟨rfl, rfl⟩) | (go_at_call 21; refine (holds_is c n hn true HH.out _).mono ?_; rintro e w' ⟨rfl, rfl⟩))
  exact bodyPost_ret (v := .tuple #[.agg #[.int .i64 c, .int .i64 n, .string ⟨#[]⟩], .int .i64 0]) (by simp [results, Tryd.results8, go_sem, World.cell?_setCell_other, hc]) rfl (castP_yes HE.out (by rw [if_neg (by simpa using k0)]) HS.out.symm (((L1.out.setCell (by simp) _).setCell (by simp) _).setCell (by simp) _))
theorem cast_any (k n : Int) (s : ByteArray) (c : Int) (w : World) (hn : fits n) :
    Calls Tryd.prog 8 #[.agg #[.int .i64 k, .int .i64 n, .string s], .int .i64 c] w (castP k n s c w) := by
  cases hr : rightB k n s with
  | false => exact cast_a k n s c w hn (Lib.hid hr) (Lib.hid (by unfold castE; rw [if_pos (Or.inl hr)]))
  | true =>
    cases hcl : columnB c with
    | false => exact cast_b k n s c w hn (Lib.hid hr) (Lib.hid hcl) (Lib.hid (by unfold castE; rw [if_pos (Or.inr hcl)]))
    | true =>
      have e1 : ¬ (rightB k n s = false ∨ columnB c = false) := by rw [hr, hcl]; simp
      by_cases h0 : k = 0
      · exact cast_c k n s c w hn (Lib.hid hr) (Lib.hid hcl) h0 (Lib.hid (by unfold castE; rw [if_neg e1, if_pos (Or.inl h0)]))
      by_cases hc : k = c
      · exact cast_d k n s c w hn (Lib.hid hr) (Lib.hid hcl) (by simpa using h0) hc (Lib.hid (by unfold castE; rw [if_neg e1, if_pos (Or.inr hc)]))
      have e2 : ¬ (k = 0 ∨ k = c) := by omega
      by_cases h4 : k = 4
      · exact cast_e k n s c w hn (Lib.hid hr) (Lib.hid hcl) (by simpa using hc) h4 (Lib.hid (by unfold castE; rw [if_neg e1, if_neg e2, if_pos (Or.inl h4)]))
      by_cases hc4 : c = 4
      · exact cast_f k n s c w hn (Lib.hid hr) (Lib.hid hcl) (by simpa using h0) (by simpa using hc) (by simpa using h4) hc4 (Lib.hid (by unfold castE; rw [if_neg e1, if_neg e2, if_pos (Or.inr hc4)]))
      have e3 : ¬ (k = 4 ∨ c = 4) := by omega
      have hs := right_s hr h4
      cases hh : holdsB c n with
      | false => exact cast_g k n s c w hn (Lib.hid hr) (Lib.hid hcl) (by simpa using h0) (by simpa using hc) (by simpa using h4) (by simpa using hc4) (Lib.hid hh) (Lib.hid (by unfold castE; rw [if_neg e1, if_neg e2, if_neg e3, if_neg (by rw [hh]; simp)]))
      | true => exact cast_h k n s c w hn (Lib.hid hr) (Lib.hid hcl) (by simpa using h0) (by simpa using hc) (by simpa using h4) (by simpa using hc4) (Lib.hid hh) (Lib.hid (by unfold castE; rw [if_neg e1, if_neg e2, if_neg e3, if_pos hh])) (Lib.hid hs)
set_option maxHeartbeats 4000000 in
theorem rcast_a (k n : Int) (s : ByteArray) (c : Int) (w : World) (HR : Hid (rightB k n s = false)) (HE : Hid (castE k n s c = 1)) :
    Calls Tryd.prog 9 #[.agg #[.int .i64 k, .int .i64 n, .string s], .int .i64 c] w (castP k n s c w) := by
  have hbb : ∀ o o' w1, Below ((w.alloc o).alloc o').heap.size ((w.alloc o).alloc o') w1 → Below w.heap.size w w1 := fun o o' w1 h => bnext ((below_alloc w o).alloc (by simp) o') (by simp; omega) h
  have HB := Lib.hid hbb
  clear hbb
  go_enter Tryd.func9, Tryd.ntmps9
  go_wp2_with fail
  refine (rright_is k n s false HR.out _).mono ?_
  rintro e w1 ⟨rfl, hb1⟩
  have L1 := Lib.hid (HB.out _ _ _ hb1)
  obtain ⟨hc, hf⟩ := bcell hb1
  have hz : w.heap.size + 1 < w1.heap.size := by have := hb1.size; simp at this; omega
  go_wp2_with (go_at_call 14; refine (rcolumn_any c _).mono ?_; rintro e w' ⟨rfl, rfl⟩)
  exact bodyPost_ret (v := .tuple #[.agg #[.int .i64 0, .int .i64 0, .string ⟨#[]⟩], .int .i64 1]) (by simp [results, Tryd.results9, go_sem, World.cell?_setCell_other, hc]) rfl (castP_no HE.out (by decide) (((L1.out.setCell (by simp) _).setCell (by simp) _).setCell (by simp) _))
set_option maxHeartbeats 4000000 in
theorem rcast_b (k n : Int) (s : ByteArray) (c : Int) (w : World) (HR : Hid (rightB k n s = true)) (HC : Hid (columnB c = false)) (HE : Hid (castE k n s c = 1)) :
    Calls Tryd.prog 9 #[.agg #[.int .i64 k, .int .i64 n, .string s], .int .i64 c] w (castP k n s c w) := by
  have hbb : ∀ o o' w1, Below ((w.alloc o).alloc o').heap.size ((w.alloc o).alloc o') w1 → Below w.heap.size w w1 := fun o o' w1 h => bnext ((below_alloc w o).alloc (by simp) o') (by simp; omega) h
  have HB := Lib.hid hbb
  clear hbb
  go_enter Tryd.func9, Tryd.ntmps9
  go_wp2_with fail
  refine (rright_is k n s true HR.out _).mono ?_
  rintro e w1 ⟨rfl, hb1⟩
  have L1 := Lib.hid (HB.out _ _ _ hb1)
  obtain ⟨hc, hf⟩ := bcell hb1
  have hz : w.heap.size + 1 < w1.heap.size := by have := hb1.size; simp at this; omega
  go_wp2_with (go_at_call 14; refine (rcolumn_is c false HC.out _).mono ?_; rintro e w' ⟨rfl, rfl⟩)
  exact bodyPost_ret (v := .tuple #[.agg #[.int .i64 0, .int .i64 0, .string ⟨#[]⟩], .int .i64 1]) (by simp [results, Tryd.results9, go_sem, World.cell?_setCell_other, hc]) rfl (castP_no HE.out (by decide) (((L1.out.setCell (by simp) _).setCell (by simp) _).setCell (by simp) _))
set_option maxHeartbeats 4000000 in
theorem rcast_c (k n : Int) (s : ByteArray) (c : Int) (w : World) (HR : Hid (rightB k n s = true)) (HC : Hid (columnB c = true)) (hk : k = 0) (HE : Hid (castE k n s c = 0)) :
    Calls Tryd.prog 9 #[.agg #[.int .i64 k, .int .i64 n, .string s], .int .i64 c] w (castP k n s c w) := by
  subst hk
  have hbb : ∀ o o' w1, Below ((w.alloc o).alloc o').heap.size ((w.alloc o).alloc o') w1 → Below w.heap.size w w1 := fun o o' w1 h => bnext ((below_alloc w o).alloc (by simp) o') (by simp; omega) h
  have HB := Lib.hid hbb
  clear hbb
  go_enter Tryd.func9, Tryd.ntmps9
  go_wp2_with fail
  refine (rright_is 0 n s true HR.out _).mono ?_
  rintro e w1 ⟨rfl, hb1⟩
  have L1 := Lib.hid (HB.out _ _ _ hb1)
  obtain ⟨hc, hf⟩ := bcell hb1
  have hz : w.heap.size + 1 < w1.heap.size := by have := hb1.size; simp at this; omega
  go_wp2_with (go_at_call 14; refine (rcolumn_is c true HC.out _).mono ?_; rintro e w' ⟨rfl, rfl⟩)
  exact bodyPost_ret (v := .tuple #[.agg #[.int .i64 0, .int .i64 n, .string s], .int .i64 0]) (by simp [results, Tryd.results9, go_sem, World.cell?_setCell_other, hc]) rfl (castP_yes HE.out (by simp) rfl (((L1.out.setCell (by simp) _).setCell (by simp) _).setCell (by simp) _))
set_option maxHeartbeats 4000000 in
theorem rcast_d (k n : Int) (s : ByteArray) (c : Int) (w : World) (HR : Hid (rightB k n s = true)) (HC : Hid (columnB c = true)) (k0 : (k == 0) = false) (hk : k = c) (HE : Hid (castE k n s c = 0)) :
    Calls Tryd.prog 9 #[.agg #[.int .i64 k, .int .i64 n, .string s], .int .i64 c] w (castP k n s c w) := by
  subst hk
  have hbb : ∀ o o' w1, Below ((w.alloc o).alloc o').heap.size ((w.alloc o).alloc o') w1 → Below w.heap.size w w1 := fun o o' w1 h => bnext ((below_alloc w o).alloc (by simp) o') (by simp; omega) h
  have HB := Lib.hid hbb
  clear hbb
  go_enter Tryd.func9, Tryd.ntmps9
  go_wp2_with fail
  refine (rright_is k n s true HR.out _).mono ?_
  rintro e w1 ⟨rfl, hb1⟩
  have L1 := Lib.hid (HB.out _ _ _ hb1)
  obtain ⟨hc, hf⟩ := bcell hb1
  have hz : w.heap.size + 1 < w1.heap.size := by have := hb1.size; simp at this; omega
  go_wp2_with (go_at_call 14; refine (rcolumn_is k true HC.out _).mono ?_; rintro e w' ⟨rfl, rfl⟩)
  exact bodyPost_ret (v := .tuple #[.agg #[.int .i64 k, .int .i64 n, .string s], .int .i64 0]) (by simp [results, Tryd.results9, go_sem, World.cell?_setCell_other, hc]) rfl (castP_yes HE.out (by rw [if_neg (by simpa using k0)]) rfl (((L1.out.setCell (by simp) _).setCell (by simp) _).setCell (by simp) _))
set_option maxHeartbeats 4000000 in
theorem rcast_e (k n : Int) (s : ByteArray) (c : Int) (w : World) (HR : Hid (rightB k n s = true)) (HC : Hid (columnB c = true)) (kc : (k == c) = false) (hk : k = 4) (HE : Hid (castE k n s c = 31)) :
    Calls Tryd.prog 9 #[.agg #[.int .i64 k, .int .i64 n, .string s], .int .i64 c] w (castP k n s c w) := by
  subst hk
  have hbb : ∀ o o' w1, Below ((w.alloc o).alloc o').heap.size ((w.alloc o).alloc o') w1 → Below w.heap.size w w1 := fun o o' w1 h => bnext ((below_alloc w o).alloc (by simp) o') (by simp; omega) h
  have HB := Lib.hid hbb
  clear hbb
  go_enter Tryd.func9, Tryd.ntmps9
  go_wp2_with fail
  refine (rright_is 4 n s true HR.out _).mono ?_
  rintro e w1 ⟨rfl, hb1⟩
  have L1 := Lib.hid (HB.out _ _ _ hb1)
  obtain ⟨hc, hf⟩ := bcell hb1
  have hz : w.heap.size + 1 < w1.heap.size := by have := hb1.size; simp at this; omega
  go_wp2_with (go_at_call 14; refine (rcolumn_is c true HC.out _).mono ?_; rintro e w' ⟨rfl, rfl⟩)
  exact bodyPost_ret (v := .tuple #[.agg #[.int .i64 0, .int .i64 0, .string ⟨#[]⟩], .int .i64 31]) (by simp [results, Tryd.results9, go_sem, World.cell?_setCell_other, hc]) rfl (castP_no HE.out (by decide) (((L1.out.setCell (by simp) _).setCell (by simp) _).setCell (by simp) _))
set_option maxHeartbeats 4000000 in
theorem rcast_f (k n : Int) (s : ByteArray) (c : Int) (w : World) (HR : Hid (rightB k n s = true)) (HC : Hid (columnB c = true)) (k0 : (k == 0) = false) (kc : (k == c) = false) (k4 : (k == 4) = false) (hk : c = 4) (HE : Hid (castE k n s c = 31)) :
    Calls Tryd.prog 9 #[.agg #[.int .i64 k, .int .i64 n, .string s], .int .i64 c] w (castP k n s c w) := by
  subst hk
  have hbb : ∀ o o' w1, Below ((w.alloc o).alloc o').heap.size ((w.alloc o).alloc o') w1 → Below w.heap.size w w1 := fun o o' w1 h => bnext ((below_alloc w o).alloc (by simp) o') (by simp; omega) h
  have HB := Lib.hid hbb
  clear hbb
  go_enter Tryd.func9, Tryd.ntmps9
  go_wp2_with fail
  refine (rright_is k n s true HR.out _).mono ?_
  rintro e w1 ⟨rfl, hb1⟩
  have L1 := Lib.hid (HB.out _ _ _ hb1)
  obtain ⟨hc, hf⟩ := bcell hb1
  have hz : w.heap.size + 1 < w1.heap.size := by have := hb1.size; simp at this; omega
  go_wp2_with (go_at_call 14; refine (rcolumn_is 4 true HC.out _).mono ?_; rintro e w' ⟨rfl, rfl⟩)
  exact bodyPost_ret (v := .tuple #[.agg #[.int .i64 0, .int .i64 0, .string ⟨#[]⟩], .int .i64 31]) (by simp [results, Tryd.results9, go_sem, World.cell?_setCell_other, hc]) rfl (castP_no HE.out (by decide) (((L1.out.setCell (by simp) _).setCell (by simp) _).setCell (by simp) _))
set_option maxHeartbeats 4000000 in
theorem rcast_g (k n : Int) (s : ByteArray) (c : Int) (w : World) (HR : Hid (rightB k n s = true)) (HC : Hid (columnB c = true)) (k0 : (k == 0) = false) (kc : (k == c) = false) (k4 : (k == 4) = false) (c4 : (c == 4) = false) (HH : Hid (rightB c n ⟨#[]⟩ = false)) (HE : Hid (castE k n s c = 12)) :
    Calls Tryd.prog 9 #[.agg #[.int .i64 k, .int .i64 n, .string s], .int .i64 c] w (castP k n s c w) := by
  have hbb : ∀ o o' w1, Below ((w.alloc o).alloc o').heap.size ((w.alloc o).alloc o') w1 → Below w.heap.size w w1 := fun o o' w1 h => bnext ((below_alloc w o).alloc (by simp) o') (by simp; omega) h
  have HB := Lib.hid hbb
  clear hbb
  go_enter Tryd.func9, Tryd.ntmps9
  go_wp2_with fail
  refine (rright_is k n s true HR.out _).mono ?_
  rintro e w1 ⟨rfl, hb1⟩
  have L1 := Lib.hid (HB.out _ _ _ hb1)
  obtain ⟨hc, hf⟩ := bcell hb1
  have hz : w.heap.size + 1 < w1.heap.size := by have := hb1.size; simp at this; omega
  go_wp2_with (go_at_call 14; refine (rcolumn_is c true HC.out _).mono ?_; rintro e w' ⟨rfl, rfl⟩)
  refine (rright_is c n ⟨#[]⟩ false HH.out _).mono ?_
  rintro e w2 ⟨rfl, hb2⟩
  have L2 := Lib.hid (bnext (L1.out.alloc (by omega) _) (by simp; omega) hb2)
  have o0 : w2.cell? ⟨w1.heap.size, 0, none⟩ = some (.int .i64 c) := by rw [hb2.cell (p := ⟨w1.heap.size, 0, none⟩) (by simp)]; simp [go_sem]
  have o1 : w2.cell? ⟨w1.heap.size, 1, none⟩ = some (.int .i64 n) := by rw [hb2.cell (p := ⟨w1.heap.size, 1, none⟩) (by simp)]; simp [go_sem]
  have o2 : w2.cell? ⟨w1.heap.size, 2, none⟩ = some (.string ⟨#[]⟩) := by rw [hb2.cell (p := ⟨w1.heap.size, 2, none⟩) (by simp)]; simp [go_sem]
  have hz2 : w1.heap.size < w2.heap.size := by have := hb2.size; simp at this; omega
  clear hc hf
  obtain ⟨hc, hf⟩ := bcell (bnext (hb1.alloc hb1.size _) (Nat.le_trans hb1.size (by simp)) hb2)
  clear hb1 hb2
  go_wp2
  exact bodyPost_ret (v := .tuple #[.agg #[.int .i64 0, .int .i64 0, .string ⟨#[]⟩], .int .i64 12]) (by simp [results, Tryd.results9, go_sem, World.cell?_setCell_other, hc]) rfl (castP_no HE.out (by decide) (((L2.out.setCell (by simp) _).setCell (by simp) _).setCell (by simp) _))
set_option maxHeartbeats 4000000 in
theorem rcast_h (k n : Int) (s : ByteArray) (c : Int) (w : World) (HR : Hid (rightB k n s = true)) (HC : Hid (columnB c = true)) (k0 : (k == 0) = false) (kc : (k == c) = false) (k4 : (k == 4) = false) (c4 : (c == 4) = false) (HH : Hid (rightB c n ⟨#[]⟩ = true)) (HE : Hid (castE k n s c = 0)) (HS : Hid (s = ⟨#[]⟩)) :
    Calls Tryd.prog 9 #[.agg #[.int .i64 k, .int .i64 n, .string s], .int .i64 c] w (castP k n s c w) := by
  have hbb : ∀ o o' w1, Below ((w.alloc o).alloc o').heap.size ((w.alloc o).alloc o') w1 → Below w.heap.size w w1 := fun o o' w1 h => bnext ((below_alloc w o).alloc (by simp) o') (by simp; omega) h
  have HB := Lib.hid hbb
  clear hbb
  go_enter Tryd.func9, Tryd.ntmps9
  go_wp2_with fail
  refine (rright_is k n s true HR.out _).mono ?_
  rintro e w1 ⟨rfl, hb1⟩
  have L1 := Lib.hid (HB.out _ _ _ hb1)
  obtain ⟨hc, hf⟩ := bcell hb1
  have hz : w.heap.size + 1 < w1.heap.size := by have := hb1.size; simp at this; omega
  go_wp2_with (go_at_call 14; refine (rcolumn_is c true HC.out _).mono ?_; rintro e w' ⟨rfl, rfl⟩)
  refine (rright_is c n ⟨#[]⟩ true HH.out _).mono ?_
  rintro e w2 ⟨rfl, hb2⟩
  have L2 := Lib.hid (bnext (L1.out.alloc (by omega) _) (by simp; omega) hb2)
  have o0 : w2.cell? ⟨w1.heap.size, 0, none⟩ = some (.int .i64 c) := by rw [hb2.cell (p := ⟨w1.heap.size, 0, none⟩) (by simp)]; simp [go_sem]
  have o1 : w2.cell? ⟨w1.heap.size, 1, none⟩ = some (.int .i64 n) := by rw [hb2.cell (p := ⟨w1.heap.size, 1, none⟩) (by simp)]; simp [go_sem]
  have o2 : w2.cell? ⟨w1.heap.size, 2, none⟩ = some (.string ⟨#[]⟩) := by rw [hb2.cell (p := ⟨w1.heap.size, 2, none⟩) (by simp)]; simp [go_sem]
  have hz2 : w1.heap.size < w2.heap.size := by have := hb2.size; simp at this; omega
  clear hc hf
  obtain ⟨hc, hf⟩ := bcell (bnext (hb1.alloc hb1.size _) (Nat.le_trans hb1.size (by simp)) hb2)
  clear hb1 hb2
  go_wp2
  exact bodyPost_ret (v := .tuple #[.agg #[.int .i64 c, .int .i64 n, .string ⟨#[]⟩], .int .i64 0]) (by simp [results, Tryd.results9, go_sem, World.cell?_setCell_other, hc]) rfl (castP_yes HE.out (by rw [if_neg (by simpa using k0)]) HS.out.symm (((L2.out.setCell (by simp) _).setCell (by simp) _).setCell (by simp) _))
theorem rcast_any (k n : Int) (s : ByteArray) (c : Int) (w : World) :
    Calls Tryd.prog 9 #[.agg #[.int .i64 k, .int .i64 n, .string s], .int .i64 c] w (castP k n s c w) := by
  cases hr : rightB k n s with
  | false => exact rcast_a k n s c w (Lib.hid hr) (Lib.hid (by unfold castE; rw [if_pos (Or.inl hr)]))
  | true =>
    cases hcl : columnB c with
    | false => exact rcast_b k n s c w (Lib.hid hr) (Lib.hid hcl) (Lib.hid (by unfold castE; rw [if_pos (Or.inr hcl)]))
    | true =>
      have e1 : ¬ (rightB k n s = false ∨ columnB c = false) := by rw [hr, hcl]; simp
      by_cases h0 : k = 0
      · exact rcast_c k n s c w (Lib.hid hr) (Lib.hid hcl) h0 (Lib.hid (by unfold castE; rw [if_neg e1, if_pos (Or.inl h0)]))
      by_cases hc : k = c
      · exact rcast_d k n s c w (Lib.hid hr) (Lib.hid hcl) (by simpa using h0) hc (Lib.hid (by unfold castE; rw [if_neg e1, if_pos (Or.inr hc)]))
      have e2 : ¬ (k = 0 ∨ k = c) := by omega
      by_cases h4 : k = 4
      · exact rcast_e k n s c w (Lib.hid hr) (Lib.hid hcl) (by simpa using hc) h4 (Lib.hid (by unfold castE; rw [if_neg e1, if_neg e2, if_pos (Or.inl h4)]))
      by_cases hc4 : c = 4
      · exact rcast_f k n s c w (Lib.hid hr) (Lib.hid hcl) (by simpa using h0) (by simpa using hc) (by simpa using h4) hc4 (Lib.hid (by unfold castE; rw [if_neg e1, if_neg e2, if_pos (Or.inr hc4)]))
      have e3 : ¬ (k = 4 ∨ c = 4) := by omega
      have c0 : c ≠ 0 := by unfold columnB at hcl; simp at hcl; omega
      have hs := right_s hr h4
      cases hh : holdsB c n with
      | false => exact rcast_g k n s c w (Lib.hid hr) (Lib.hid hcl) (by simpa using h0) (by simpa using hc) (by simpa using h4) (by simpa using hc4) (Lib.hid (by rw [right_empty, if_neg hc4, if_neg c0]; exact hh)) (Lib.hid (by unfold castE; rw [if_neg e1, if_neg e2, if_neg e3, if_neg (by rw [hh]; simp)]))
      | true => exact rcast_h k n s c w (Lib.hid hr) (Lib.hid hcl) (by simpa using h0) (by simpa using hc) (by simpa using h4) (by simpa using hc4) (Lib.hid (by rw [right_empty, if_neg hc4, if_neg c0]; exact hh)) (Lib.hid (by unfold castE; rw [if_neg e1, if_neg e2, if_neg e3, if_pos hh])) (Lib.hid hs)
end Go.Proofs.YthfhehpfkpicmaaDoor.Val
