/-
  The contract of the program's Cast, for every argument (over the row's contracts; ValCast is the same over ValMore's).
-/
import Derived.Test.YtkibacolnagkcaaM9
import Derived.Test.YtkibacolnagkcaaM18
import Derived.Test.YtkibacolnagkcaaM8
import Derived.Test.YtkibacolnagkcaaM7
import Derived.Test.YtkibacolnagkcaaShelf
namespace Go.Proofs.Ytkibacolnagkcaa.Val
open Go.ChangeShapes Go.WideShapes Go.ChangeAt Go.RowKit Go.Proofs.Ytkibacolnagkcaa.Code
set_option linter.unusedVariables false

theorem column_is (k : Int) (b : Bool) (h : columnB k = b) (w : World) :
    Calls Try.prog 77 #[.int .i64 k] w fun e w' => e = .returned (.bool b) ∧ w = w' := by
  have := column_any k w
  rw [h] at this
  exact this
theorem holds_is (k n : Int) (hn : fits n) (b : Bool) (h : holdsB k n = b) (w : World) :
    Calls Try.prog 90 #[.int .i64 k, .int .i64 n] w fun e w' => e = .returned (.bool b) ∧ w = w' := by
  have := holds_any k n w hn
  rw [h] at this
  exact this
/-- what a cast answers -/
def castP (k n : Int) (s : ByteArray) (c : Int) (w : World) (e : Ending) (w' : World) : Prop :=
  e = .returned (.tuple #[.agg #[.int .i64 (castK k n s c), .int .i64 (castN k n s c), .string (castS k n s c)], .int .i64 (castE k n s c)]) ∧ Below w.heap.size w w'
theorem castP_no {k n c E : Int} {s : ByteArray} {w w' : World} (h : castE k n s c = E) (h0 : E ≠ 0) (hb : Below w.heap.size w w') :
    castP k n s c w (.returned (.tuple #[.agg #[.int .i64 0, .int .i64 0, .string ⟨#[]⟩], .int .i64 E])) w' := by
  unfold castP castK castN castS
  rw [h, if_neg h0, if_neg h0, if_neg h0]
  exact ⟨rfl, hb⟩
theorem castP_yes {k n c K : Int} {s S : ByteArray} {w w' : World} (h : castE k n s c = 0) (hk : K = if k = 0 then 0 else c) (hs : S = s) (hb : Below w.heap.size w w') :
    castP k n s c w (.returned (.tuple #[.agg #[.int .i64 K, .int .i64 n, .string S], .int .i64 0])) w' := by
  unfold castP castK castN castS
  rw [h, if_pos rfl, if_pos rfl, if_pos rfl, hk, hs]
  exact ⟨rfl, hb⟩

set_option maxHeartbeats 4000000 in
theorem cast_a (k n : Int) (s : ByteArray) (c : Int) (w : World) (hn : fits n) (HR : Hid (rightB k n s = false)) (HE : Hid (castE k n s c = 1)) :
    Calls Try.prog 73 #[.agg #[.int .i64 k, .int .i64 n, .string s], .int .i64 c] w (castP k n s c w) := by
  have hbb : ∀ o o' w1, Below ((w.alloc o).alloc o').heap.size ((w.alloc o).alloc o') w1 → Below w.heap.size w w1 := fun o o' w1 h => bnext ((below_alloc w o).alloc (by simp) o') (by simp; omega) h
  have HB := Lib.hid hbb
  clear hbb
  go_enter Try.func73, Try.ntmps73
  go_wp2_with fail
  refine (right_is k n s false hn HR.out _).mono ?_
  rintro e w1 ⟨rfl, hb1⟩
  have L1 := Lib.hid (HB.out _ _ _ hb1)
  obtain ⟨hc, hf⟩ := bcell hb1
  have hz : w.heap.size + 1 < w1.heap.size := by have := hb1.size; simp at this; omega
  go_wp2
  exact bodyPost_ret (v := .tuple #[.agg #[.int .i64 0, .int .i64 0, .string ⟨#[]⟩], .int .i64 1]) (by simp [results, Try.results73, go_sem, World.cell?_setCell_other, hc]) rfl (castP_no HE.out (by decide) (((L1.out.setCell (by simp) _).setCell (by simp) _).setCell (by simp) _))
set_option maxHeartbeats 4000000 in
theorem cast_b (k n : Int) (s : ByteArray) (c : Int) (w : World) (hn : fits n) (HR : Hid (rightB k n s = true)) (HC : Hid (columnB c = false)) (HE : Hid (castE k n s c = 1)) :
    Calls Try.prog 73 #[.agg #[.int .i64 k, .int .i64 n, .string s], .int .i64 c] w (castP k n s c w) := by
  have hbb : ∀ o o' w1, Below ((w.alloc o).alloc o').heap.size ((w.alloc o).alloc o') w1 → Below w.heap.size w w1 := fun o o' w1 h => bnext ((below_alloc w o).alloc (by simp) o') (by simp; omega) h
  have HB := Lib.hid hbb
  clear hbb
  go_enter Try.func73, Try.ntmps73
  go_wp2_with fail
  refine (right_is k n s true hn HR.out _).mono ?_
  rintro e w1 ⟨rfl, hb1⟩
  have L1 := Lib.hid (HB.out _ _ _ hb1)
  obtain ⟨hc, hf⟩ := bcell hb1
  have hz : w.heap.size + 1 < w1.heap.size := by have := hb1.size; simp at this; omega
  go_wp2_with (go_at_call 77; refine (column_is c false HC.out _).mono ?_; rintro e w' ⟨rfl, rfl⟩)
  exact bodyPost_ret (v := .tuple #[.agg #[.int .i64 0, .int .i64 0, .string ⟨#[]⟩], .int .i64 1]) (by simp [results, Try.results73, go_sem, World.cell?_setCell_other, hc]) rfl (castP_no HE.out (by decide) (((L1.out.setCell (by simp) _).setCell (by simp) _).setCell (by simp) _))
set_option maxHeartbeats 4000000 in
theorem cast_c (k n : Int) (s : ByteArray) (c : Int) (w : World) (hn : fits n) (HR : Hid (rightB k n s = true)) (HC : Hid (columnB c = true)) (hk : k = 0) (HE : Hid (castE k n s c = 0)) :
    Calls Try.prog 73 #[.agg #[.int .i64 k, .int .i64 n, .string s], .int .i64 c] w (castP k n s c w) := by
  subst hk
  have hbb : ∀ o o' w1, Below ((w.alloc o).alloc o').heap.size ((w.alloc o).alloc o') w1 → Below w.heap.size w w1 := fun o o' w1 h => bnext ((below_alloc w o).alloc (by simp) o') (by simp; omega) h
  have HB := Lib.hid hbb
  clear hbb
  go_enter Try.func73, Try.ntmps73
  go_wp2_with fail
  refine (right_is 0 n s true hn HR.out _).mono ?_
  rintro e w1 ⟨rfl, hb1⟩
  have L1 := Lib.hid (HB.out _ _ _ hb1)
  obtain ⟨hc, hf⟩ := bcell hb1
  have hz : w.heap.size + 1 < w1.heap.size := by have := hb1.size; simp at this; omega
  go_wp2_with (go_at_call 77; refine (column_is c true HC.out _).mono ?_; rintro e w' ⟨rfl, rfl⟩)
  exact bodyPost_ret (v := .tuple #[.agg #[.int .i64 0, .int .i64 n, .string s], .int .i64 0]) (by simp [results, Try.results73, go_sem, World.cell?_setCell_other, hc]) rfl (castP_yes HE.out (by simp) rfl (((L1.out.setCell (by simp) _).setCell (by simp) _).setCell (by simp) _))
set_option maxHeartbeats 4000000 in
theorem cast_d (k n : Int) (s : ByteArray) (c : Int) (w : World) (hn : fits n) (HR : Hid (rightB k n s = true)) (HC : Hid (columnB c = true)) (k0 : (k == 0) = false) (hk : k = c) (HE : Hid (castE k n s c = 0)) :
    Calls Try.prog 73 #[.agg #[.int .i64 k, .int .i64 n, .string s], .int .i64 c] w (castP k n s c w) := by
  subst hk
  have hbb : ∀ o o' w1, Below ((w.alloc o).alloc o').heap.size ((w.alloc o).alloc o') w1 → Below w.heap.size w w1 := fun o o' w1 h => bnext ((below_alloc w o).alloc (by simp) o') (by simp; omega) h
  have HB := Lib.hid hbb
  clear hbb
  go_enter Try.func73, Try.ntmps73
  go_wp2_with fail
  refine (right_is k n s true hn HR.out _).mono ?_
  rintro e w1 ⟨rfl, hb1⟩
  have L1 := Lib.hid (HB.out _ _ _ hb1)
  obtain ⟨hc, hf⟩ := bcell hb1
  have hz : w.heap.size + 1 < w1.heap.size := by have := hb1.size; simp at this; omega
  go_wp2_with (go_at_call 77; refine (column_is k true HC.out _).mono ?_; rintro e w' ⟨rfl, rfl⟩)
  exact bodyPost_ret (v := .tuple #[.agg #[.int .i64 k, .int .i64 n, .string s], .int .i64 0]) (by simp [results, Try.results73, go_sem, World.cell?_setCell_other, hc]) rfl (castP_yes HE.out (by rw [if_neg (by simpa using k0)]) rfl (((L1.out.setCell (by simp) _).setCell (by simp) _).setCell (by simp) _))
set_option maxHeartbeats 4000000 in
theorem cast_e (k n : Int) (s : ByteArray) (c : Int) (w : World) (hn : fits n) (HR : Hid (rightB k n s = true)) (HC : Hid (columnB c = true)) (kc : (k == c) = false) (hk : k = 4) (HE : Hid (castE k n s c = 31)) :
    Calls Try.prog 73 #[.agg #[.int .i64 k, .int .i64 n, .string s], .int .i64 c] w (castP k n s c w) := by
  subst hk
  have hbb : ∀ o o' w1, Below ((w.alloc o).alloc o').heap.size ((w.alloc o).alloc o') w1 → Below w.heap.size w w1 := fun o o' w1 h => bnext ((below_alloc w o).alloc (by simp) o') (by simp; omega) h
  have HB := Lib.hid hbb
  clear hbb
  go_enter Try.func73, Try.ntmps73
  go_wp2_with fail
  refine (right_is 4 n s true hn HR.out _).mono ?_
  rintro e w1 ⟨rfl, hb1⟩
  have L1 := Lib.hid (HB.out _ _ _ hb1)
  obtain ⟨hc, hf⟩ := bcell hb1
  have hz : w.heap.size + 1 < w1.heap.size := by have := hb1.size; simp at this; omega
  go_wp2_with (go_at_call 77; refine (column_is c true HC.out _).mono ?_; rintro e w' ⟨rfl, rfl⟩)
  exact bodyPost_ret (v := .tuple #[.agg #[.int .i64 0, .int .i64 0, .string ⟨#[]⟩], .int .i64 31]) (by simp [results, Try.results73, go_sem, World.cell?_setCell_other, hc]) rfl (castP_no HE.out (by decide) (((L1.out.setCell (by simp) _).setCell (by simp) _).setCell (by simp) _))
set_option maxHeartbeats 4000000 in
theorem cast_f (k n : Int) (s : ByteArray) (c : Int) (w : World) (hn : fits n) (HR : Hid (rightB k n s = true)) (HC : Hid (columnB c = true)) (k0 : (k == 0) = false) (kc : (k == c) = false) (k4 : (k == 4) = false) (hk : c = 4) (HE : Hid (castE k n s c = 31)) :
    Calls Try.prog 73 #[.agg #[.int .i64 k, .int .i64 n, .string s], .int .i64 c] w (castP k n s c w) := by
  subst hk
  have hbb : ∀ o o' w1, Below ((w.alloc o).alloc o').heap.size ((w.alloc o).alloc o') w1 → Below w.heap.size w w1 := fun o o' w1 h => bnext ((below_alloc w o).alloc (by simp) o') (by simp; omega) h
  have HB := Lib.hid hbb
  clear hbb
  go_enter Try.func73, Try.ntmps73
  go_wp2_with fail
  refine (right_is k n s true hn HR.out _).mono ?_
  rintro e w1 ⟨rfl, hb1⟩
  have L1 := Lib.hid (HB.out _ _ _ hb1)
  obtain ⟨hc, hf⟩ := bcell hb1
  have hz : w.heap.size + 1 < w1.heap.size := by have := hb1.size; simp at this; omega
  go_wp2_with (go_at_call 77; refine (column_is 4 true HC.out _).mono ?_; rintro e w' ⟨rfl, rfl⟩)
  exact bodyPost_ret (v := .tuple #[.agg #[.int .i64 0, .int .i64 0, .string ⟨#[]⟩], .int .i64 31]) (by simp [results, Try.results73, go_sem, World.cell?_setCell_other, hc]) rfl (castP_no HE.out (by decide) (((L1.out.setCell (by simp) _).setCell (by simp) _).setCell (by simp) _))
set_option maxHeartbeats 4000000 in
theorem cast_g (k n : Int) (s : ByteArray) (c : Int) (w : World) (hn : fits n) (HR : Hid (rightB k n s = true)) (HC : Hid (columnB c = true)) (k0 : (k == 0) = false) (kc : (k == c) = false) (k4 : (k == 4) = false) (c4 : (c == 4) = false) (HH : Hid (holdsB c n = false)) (HE : Hid (castE k n s c = 12)) :
    Calls Try.prog 73 #[.agg #[.int .i64 k, .int .i64 n, .string s], .int .i64 c] w (castP k n s c w) := by
  have hbb : ∀ o o' w1, Below ((w.alloc o).alloc o').heap.size ((w.alloc o).alloc o') w1 → Below w.heap.size w w1 := fun o o' w1 h => bnext ((below_alloc w o).alloc (by simp) o') (by simp; omega) h
  have HB := Lib.hid hbb
  clear hbb
  go_enter Try.func73, Try.ntmps73
  go_wp2_with fail
  refine (right_is k n s true hn HR.out _).mono ?_
  rintro e w1 ⟨rfl, hb1⟩
  have L1 := Lib.hid (HB.out _ _ _ hb1)
  obtain ⟨hc, hf⟩ := bcell hb1
  have hz : w.heap.size + 1 < w1.heap.size := by have := hb1.size; simp at this; omega
  go_wp2_with (first | (go_at_call 77; refine (column_is c true HC.out _).mono ?_; rintro e w' ⟨rfl, rfl⟩) | (go_at_call 90; refine (holds_is c n hn false HH.out _).mono ?_; rintro e w' ⟨rfl, rfl⟩))
  exact bodyPost_ret (v := .tuple #[.agg #[.int .i64 0, .int .i64 0, .string ⟨#[]⟩], .int .i64 12]) (by simp [results, Try.results73, go_sem, World.cell?_setCell_other, hc]) rfl (castP_no HE.out (by decide) (((L1.out.setCell (by simp) _).setCell (by simp) _).setCell (by simp) _))
set_option maxHeartbeats 4000000 in
theorem cast_h (k n : Int) (s : ByteArray) (c : Int) (w : World) (hn : fits n) (HR : Hid (rightB k n s = true)) (HC : Hid (columnB c = true)) (k0 : (k == 0) = false) (kc : (k == c) = false) (k4 : (k == 4) = false) (c4 : (c == 4) = false) (HH : Hid (holdsB c n = true)) (HE : Hid (castE k n s c = 0)) (HS : Hid (s = ⟨#[]⟩)) :
    Calls Try.prog 73 #[.agg #[.int .i64 k, .int .i64 n, .string s], .int .i64 c] w (castP k n s c w) := by
  have hbb : ∀ o o' w1, Below ((w.alloc o).alloc o').heap.size ((w.alloc o).alloc o') w1 → Below w.heap.size w w1 := fun o o' w1 h => bnext ((below_alloc w o).alloc (by simp) o') (by simp; omega) h
  have HB := Lib.hid hbb
  clear hbb
  go_enter Try.func73, Try.ntmps73
  go_wp2_with fail
  refine (right_is k n s true hn HR.out _).mono ?_
  rintro e w1 ⟨rfl, hb1⟩
  have L1 := Lib.hid (HB.out _ _ _ hb1)
  obtain ⟨hc, hf⟩ := bcell hb1
  have hz : w.heap.size + 1 < w1.heap.size := by have := hb1.size; simp at this; omega
  go_wp2_with (first | (go_at_call 77; refine (column_is c true HC.out _).mono ?_; rintro e w' ⟨rfl, rfl⟩) | (go_at_call 90; refine (holds_is c n hn true HH.out _).mono ?_; rintro e w' ⟨rfl, rfl⟩))
  exact bodyPost_ret (v := .tuple #[.agg #[.int .i64 c, .int .i64 n, .string ⟨#[]⟩], .int .i64 0]) (by simp [results, Try.results73, go_sem, World.cell?_setCell_other, hc]) rfl (castP_yes HE.out (by rw [if_neg (by simpa using k0)]) HS.out.symm (((L1.out.setCell (by simp) _).setCell (by simp) _).setCell (by simp) _))
theorem cast_any (k n : Int) (s : ByteArray) (c : Int) (w : World) (hn : fits n) :
    Calls Try.prog 73 #[.agg #[.int .i64 k, .int .i64 n, .string s], .int .i64 c] w (castP k n s c w) := by
  cases hr : rightB k n s with
  | false => exact cast_a k n s c w hn (Lib.hid hr) (Lib.hid (by unfold castE; rw [if_pos (Or.inl hr)]))
  | true =>
    cases hcl : columnB c with
    | false => exact cast_b k n s c w hn (Lib.hid hr) (Lib.hid hcl) (Lib.hid (by unfold castE; rw [if_pos (Or.inr hcl)]))
    | true =>
      have e1 : ¬ (rightB k n s = false ∨ columnB c = false) := by rw [hr, hcl]; simp
      by_cases h0 : k = 0
      · exact cast_c k n s c w hn (Lib.hid hr) (Lib.hid hcl) h0 (Lib.hid (by unfold castE; rw [if_neg e1, if_pos (Or.inl h0)]))
      by_cases hc : k = c
      · exact cast_d k n s c w hn (Lib.hid hr) (Lib.hid hcl) (by simpa using h0) hc (Lib.hid (by unfold castE; rw [if_neg e1, if_pos (Or.inr hc)]))
      have e2 : ¬ (k = 0 ∨ k = c) := by omega
      by_cases h4 : k = 4
      · exact cast_e k n s c w hn (Lib.hid hr) (Lib.hid hcl) (by simpa using hc) h4 (Lib.hid (by unfold castE; rw [if_neg e1, if_neg e2, if_pos (Or.inl h4)]))
      by_cases hc4 : c = 4
      · exact cast_f k n s c w hn (Lib.hid hr) (Lib.hid hcl) (by simpa using h0) (by simpa using hc) (by simpa using h4) hc4 (Lib.hid (by unfold castE; rw [if_neg e1, if_neg e2, if_pos (Or.inr hc4)]))
      have e3 : ¬ (k = 4 ∨ c = 4) := by omega
      have hs := right_s hr h4
      cases hh : holdsB c n with
      | false => exact cast_g k n s c w hn (Lib.hid hr) (Lib.hid hcl) (by simpa using h0) (by simpa using hc) (by simpa using h4) (by simpa using hc4) (Lib.hid hh) (Lib.hid (by unfold castE; rw [if_neg e1, if_neg e2, if_neg e3, if_neg (by rw [hh]; simp)]))
      | true => exact cast_h k n s c w hn (Lib.hid hr) (Lib.hid hcl) (by simpa using h0) (by simpa using hc) (by simpa using h4) (by simpa using hc4) (Lib.hid hh) (Lib.hid (by unfold castE; rw [if_neg e1, if_neg e2, if_neg e3, if_pos hh])) (Lib.hid hs)
end Go.Proofs.Ytkibacolnagkcaa.Val
/-
  Contracts of the document's Same and Compare over lists of values (cut out of CodeVals and CodeRef).
-/
namespace Go.Proofs.Ytkibacolnagkcaa.Code
open Go.ChangeShapes Go.WideShapes Go.ChangeAt Go.RowKit Val
set_option linter.unusedVariables false

theorem less_toList (s t : ByteArray) : Op.bytesLess s.toList t.toList = decide (Lib.compareBytes s.data.toList t.data.toList < 0) := by
  rw [ByteArray.toList_eq, ByteArray.toList_eq]
  exact less_cmp _ _
theorem cmpL_at (a b : List (Int × Int × ByteArray)) (k : Nat) (h : k < a.length) (g : k < b.length) :
    cmpL (a.drop k) (b.drop k) = if cmpV a[k].1 a[k].2.1 a[k].2.2 b[k].1 b[k].2.1 b[k].2.2 ≠ 0 then cmpV a[k].1 a[k].2.1 a[k].2.2 b[k].1 b[k].2.1 b[k].2.2 else cmpL (a.drop (k + 1)) (b.drop (k + 1)) := by
  rw [List.drop_eq_getElem_cons h, List.drop_eq_getElem_cons g, cmpL]
theorem cmpL_left (a b : List (Int × Int × ByteArray)) (k : Nat) (h : a.length = k) (g : k < b.length) : cmpL (a.drop k) (b.drop k) = -1 := by
  rw [List.drop_eq_getElem_cons g, List.drop_of_length_le (by omega), cmpL]
theorem cmpL_right (a b : List (Int × Int × ByteArray)) (k : Nat) (h : b.length = k) (g : k < a.length) : cmpL (a.drop k) (b.drop k) = 1 := by
  rw [List.drop_eq_getElem_cons g, List.drop_of_length_le (l := b) (by omega), cmpL]
theorem cmpL_none (a b : List (Int × Int × ByteArray)) (k : Nat) (h : a.length = k) (g : b.length = k) : cmpL (a.drop k) (b.drop k) = 0 := by
  rw [List.drop_of_length_le (by omega), List.drop_of_length_le (l := b) (by omega), cmpL]
end Go.Proofs.Ytkibacolnagkcaa.Code
/-
  Contracts of the document's Compare and Same of rows.
-/
namespace Go.Proofs.Ytkibacolnagkcaa.Code
open Go.ChangeShapes Go.WideShapes Go.ChangeAt Go.RowKit Val
set_option linter.unusedVariables false

end Go.Proofs.Ytkibacolnagkcaa.Code
/-
  The contract of value.Compare, for every two values (cut out of ValCmp).
-/
namespace Go.Proofs.Ytkibacolnagkcaa.Val
open Go.ChangeShapes Go.WideShapes Go.ChangeAt Go.RowKit
set_option linter.unusedVariables false

theorem cmpk_any (a b : Int) (w : World) :
    Calls Try.prog 93 #[.int .i64 a, .int .i64 b] w fun e w' => e = .returned (.int .i64 (cmpI a b)) ∧ w = w' := by
  by_cases h1 : a < b
  · go_enter Try.func93, Try.ntmps93
    go_wp2
    go_ret
    exact ⟨ret1 (by unfold cmpI; rw [if_pos h1]), rfl⟩
  · by_cases h2 : b < a
    all_goals
      go_enter Try.func93, Try.ntmps93
      go_wp2
      go_ret
      exact ⟨ret1 (by unfold cmpI; omega), rfl⟩
theorem cmpi_any (a b : Int) (w : World) :
    Calls Try.prog 94 #[.int .i64 a, .int .i64 b] w fun e w' => e = .returned (.int .i64 (cmpI a b)) ∧ w = w' := by
  by_cases h1 : a < b
  · go_enter Try.func94, Try.ntmps94
    go_wp2
    go_ret
    exact ⟨ret1 (by unfold cmpI; rw [if_pos h1]), rfl⟩
  · by_cases h2 : b < a
    all_goals
      go_enter Try.func94, Try.ntmps94
      go_wp2
      go_ret
      exact ⟨ret1 (by unfold cmpI; omega), rfl⟩
theorem cmps_any (a b : ByteArray) (w : World) :
    Calls Try.prog 95 #[.string a, .string b] w fun e w' => e = .returned (.int .i64 (Lib.compareBytes a.data.toList b.data.toList)) ∧ w = w' :=
  (Try.strings_Compare a b w).mono fun _ _ ⟨h, g⟩ => ⟨h, g.symm⟩

set_option maxHeartbeats 1000000 in
theorem or_any (x y z : Int) (b cap : Nat) (w : World) (h0 : w.cell? ⟨b, 0, none⟩ = some (.int .i64 x)) (h1 : w.cell? ⟨b, 1, none⟩ = some (.int .i64 y)) (h2 : w.cell? ⟨b, 2, none⟩ = some (.int .i64 z)) :
    Calls Try.prog 92 #[.slice (some ⟨b, 0, none⟩) 3 cap] w fun e w' => e = .returned (.int .i64 (orI x y z)) ∧ w = w' := by
  by_cases hx : x = 0
  · subst hx
    by_cases hy : y = 0
    · subst hy
      by_cases hz : z = 0
      all_goals
        go_enter Try.func92, Try.ntmps92
        go_wp2
        refine wp_loop_rounds 4 ?_
        iterate 4 (first | (rw [rounds_succ]; go_wp2) | skip)
        all_goals go_ret
        all_goals exact ⟨ret1 (by unfold orI; simp [hz]), rfl⟩
    · go_enter Try.func92, Try.ntmps92
      go_wp2
      refine wp_loop_rounds 4 ?_
      iterate 4 (first | (rw [rounds_succ]; go_wp2) | skip)
      all_goals go_ret
      all_goals exact ⟨ret1 (by unfold orI; simp [hy]), rfl⟩
  · go_enter Try.func92, Try.ntmps92
    go_wp2
    refine wp_loop_rounds 4 ?_
    iterate 4 (first | (rw [rounds_succ]; go_wp2) | skip)
    all_goals go_ret
    all_goals exact ⟨ret1 (by unfold orI; simp [hx]), rfl⟩

set_option maxHeartbeats 4000000 in
theorem compare_any (k n : Int) (s : ByteArray) (k' n' : Int) (s' : ByteArray) (w : World) :
    Calls Try.prog 82 #[.agg #[.int .i64 k, .int .i64 n, .string s], .agg #[.int .i64 k', .int .i64 n', .string s']] w fun e w' => e = .returned (.int .i64 (cmpV k n s k' n' s')) ∧ Below w.heap.size w w' := by
  go_enter Try.func82, Try.ntmps82
  go_wp2_with fail
  have A := (Box.fresh w k n s 38).alloc (.cells #[.int .i64 k', .int .i64 n', .string s'] 38)
  have B := Box.fresh (w.alloc (.cells #[.int .i64 k, .int .i64 n, .string s] 38)) k' n' s' 38
  have L := Lib.hid ((below_alloc w (.cells #[.int .i64 k, .int .i64 n, .string s] 38)).alloc (by simp) (.cells #[.int .i64 k', .int .i64 n', .string s'] 38))
  have hs : w.heap.size + 2 = ((w.alloc (.cells #[.int .i64 k, .int .i64 n, .string s] 38)).alloc (.cells #[.int .i64 k', .int .i64 n', .string s'] 38)).heap.size := by simp
  rw [show (w.alloc (.cells #[.int .i64 k, .int .i64 n, .string s] 38)).heap.size = w.heap.size + 1 by simp] at B
  generalize (w.alloc (.cells #[.int .i64 k, .int .i64 n, .string s] 38)).alloc (.cells #[.int .i64 k', .int .i64 n', .string s'] 38) = W at *
  obtain ⟨a0, a1, a2, az⟩ := A
  obtain ⟨b0, b1, b2, bz⟩ := B
  clear hs
  go_region_held3 (fun w' => (w'.cell? ⟨w.heap.size, 0, none⟩ = some (.int .i64 k) ∧ w'.cell? ⟨w.heap.size, 1, none⟩ = some (.int .i64 n) ∧ w'.cell? ⟨w.heap.size, 2, none⟩ = some (.string s) ∧ w'.cell? ⟨w.heap.size + 1, 0, none⟩ = some (.int .i64 k') ∧ w'.cell? ⟨w.heap.size + 1, 1, none⟩ = some (.int .i64 n') ∧ w'.cell? ⟨w.heap.size + 1, 2, none⟩ = some (.string s')) ∧ Below W.heap.size W w')
    (first | assumption | (refine keepD (by assumption) ?_; intro kk; exact ⟨by rw [kk _ _ az]; exact a0, by rw [kk _ _ az]; exact a1, by rw [kk _ _ az]; exact a2, by rw [kk _ _ bz]; exact b0, by rw [kk _ _ bz]; exact b1, by rw [kk _ _ bz]; exact b2⟩) | (refine keepA _ (by assumption) ?_; intro kk; exact ⟨by rw [kk _ _ az]; exact a0, by rw [kk _ _ az]; exact a1, by rw [kk _ _ az]; exact a2, by rw [kk _ _ bz]; exact b0, by rw [kk _ _ bz]; exact b1, by rw [kk _ _ bz]; exact b2⟩) | (exact ⟨⟨by simpa [go_sem] using a0, by simpa [go_sem] using a1, by simpa [go_sem] using a2, by simpa [go_sem] using b0, by simpa [go_sem] using b1, by simpa [go_sem] using b2⟩, Below.drew (Below.refl _ _)⟩))
    (first | (go_at_call 93; refine (cmpk_any _ _ _).mono ?_; rintro e w' ⟨rfl, rfl⟩) | (go_at_call 94; refine (cmpi_any _ _ _).mono ?_; rintro e w' ⟨rfl, rfl⟩) | (go_at_call 95; refine (cmps_any _ _ _).mono ?_; rintro e w' ⟨rfl, rfl⟩) | (go_at_call 92; refine (or_any (cmpI k k') (cmpI n n') (Lib.compareBytes s.data.toList s'.data.toList) _ _ _ ?c0 ?c1 ?c2).mono ?_; (case c0 => simp [go_sem]); (case c1 => simp [go_sem]); (case c2 => simp [go_sem]); rintro e w' ⟨rfl, rfl⟩))
  all_goals
    have M := Lib.hid (show Below W.heap.size W _ by rename_i hS; exact hS.2)
    go_wp2
    go_ret
    exact ⟨rfl, bnext L.out (by omega) M.out⟩

end Go.Proofs.Ytkibacolnagkcaa.Val

/-
  Contracts of row.Compare and row.Same.
-/
namespace Go.Proofs.Ytkibacolnagkcaa.Code
open Go.ChangeShapes Go.WideShapes Go.ChangeAt Go.RowKit Val
set_option linter.unusedVariables false

theorem compare_is (k n : Int) (s : ByteArray) (k' n' : Int) (s' : ByteArray) (x : Int) (h : cmpV k n s k' n' s' = x) (w : World) :
    Calls Try.prog 82 #[.agg #[.int .i64 k, .int .i64 n, .string s], .agg #[.int .i64 k', .int .i64 n', .string s']] w fun e w' => e = .returned (.int .i64 x) ∧ Below w.heap.size w w' := by
  have := compare_any k n s k' n' s' w
  rw [h] at this
  exact this
theorem cmpL_end (a b : List (Int × Int × ByteArray)) (k : Nat) (h : k = min a.length b.length) : cmpL (a.drop k) (b.drop k) = cmpI a.length b.length := by
  subst h
  rcases Nat.lt_trichotomy a.length b.length with h | h | h
  · rw [Nat.min_eq_left (by omega), cmpL_left a b a.length rfl h]
    unfold cmpI
    rw [if_pos (by omega)]
  · rw [Nat.min_eq_left (by omega), cmpL_none a b a.length rfl h.symm]
    unfold cmpI
    rw [if_neg (by omega), if_neg (by omega)]
  · rw [Nat.min_eq_right (by omega), cmpL_right a b b.length rfl h]
    unfold cmpI
    rw [if_neg (by omega), if_pos (by omega)]
end Go.Proofs.Ytkibacolnagkcaa.Code
