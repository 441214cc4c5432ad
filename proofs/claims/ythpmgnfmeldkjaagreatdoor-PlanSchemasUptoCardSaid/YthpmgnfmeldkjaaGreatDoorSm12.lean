/-
  The contract of the program's Cast, for every argument (over the row's contracts; ValCast is the same over ValMore's).
-/
import Derived.Test.YthpmgnfmeldkjaaGreatDoorSm5
import Derived.Test.YthpmgnfmeldkjaaGreatDoorSm6
import Derived.Test.YthpmgnfmeldkjaaGreatDoorSm2
import Derived.Test.YthpmgnfmeldkjaaGreatDoorSm1
import Derived.Test.YthpmgnfmeldkjaaGreatDoorShelf
import Derived.Test.YthpmgnfmeldkjaaGreatDoorSm11
import Derived.Laws.RangeAny
set_option maxRecDepth 100000
set_option maxHeartbeats 16000000
set_option linter.unusedVariables false
set_option linter.unusedSimpArgs false
open Go.Lib (hid)
namespace Go.Proofs.YthpmgnfmeldkjaaGreatDoor.Val
open Go.ChangeShapes Go.WideShapes Go.ChangeAt Go.RowKit Go.Proofs.YthpmgnfmeldkjaaGreatDoor.Code
theorem column_is (k : Int) (b : Bool) (h : columnB k = b) (w : World) :
  Calls Tryz.prog 250 #[.int .i64 k] w fun e w' => e = .returned (.bool b) ∧ w = w' := by
 have := column_any k w
 rw [h] at this
 exact this
theorem holds_is (k n : Int) (hn : fits n) (b : Bool) (h : holdsB k n = b) (w : World) :
  Calls Tryz.prog 242 #[.int .i64 k, .int .i64 n] w fun e w' => e = .returned (.bool b) ∧ w = w' := by
 have := holds_any k n w hn
 rw [h] at this
 exact this
def castP (k n : Int) (s : ByteArray) (c : Int) (w : World) (e : Ending) (w' : World) : Prop :=
 e = .returned (.tuple #[.agg #[.int .i64 (castK k n s c), .int .i64 (castN k n s c), .string (castS k n s c)], .int .i64 (castE k n s c)]) ∧ Below w.heap.size w w'
theorem castP_no {k n c E : Int} {s : ByteArray} {w w' : World} (h : castE k n s c = E) (h0 : E ≠ 0) (hb : Below w.heap.size w w') :
  castP k n s c w (.returned (.tuple #[.agg #[.int .i64 0, .int .i64 0, .string ⟨#[]⟩], .int .i64 E])) w' := by
 unfold castP castK castN castS
 rw [h, if_neg h0, if_neg h0, if_neg h0]
 exact ⟨rfl, hb⟩
theorem castP_yes {k n c K : Int} {s S : ByteArray} {w w' : World} (h : castE k n s c = 0) (hk : K = if k = 0 then 0 else c) (hs : S = s) (hb : Below w.heap.size w w') :
  castP k n s c w (.returned (.tuple #[.agg #[.int .i64 K, .int .i64 n, .string S], .int .i64 0])) w' := by
 unfold castP castK castN castS
 rw [h, if_pos rfl, if_pos rfl, if_pos rfl, hk, hs]
 exact ⟨rfl, hb⟩
theorem cast_a (k n : Int) (s : ByteArray) (c : Int) (w : World) (hn : fits n) (HR : Hid (rightB k n s = false)) (HE : Hid (castE k n s c = 1)) :
  Calls Tryz.prog 228 #[.agg #[.int .i64 k, .int .i64 n, .string s], .int .i64 c] w (castP k n s c w) := by
 have hbb : ∀ o o' w1, Below ((w.alloc o).alloc o').heap.size ((w.alloc o).alloc o') w1 → Below w.heap.size w w1 := fun o o' w1 h => bnext ((below_alloc w o).alloc (by simp) o') (by simp; omega) h
 have HB := hid hbb
 clear hbb
 go_enter Tryz.func228, Tryz.ntmps228
 go_wp2_with fail
 refine (right_is k n s false hn HR.out _).mono ?_
 rintro e w1 ⟨rfl, hb1⟩
 have L1 := hid (HB.out _ _ _ hb1)
 obtain ⟨hc, hf⟩ := bcell hb1
 have hz : w.heap.size + 1 < w1.heap.size := by have := hb1.size; simp at this; omega
 go_wp2
 exact bodyPost_ret (v := .tuple #[.agg #[.int .i64 0, .int .i64 0, .string ⟨#[]⟩], .int .i64 1]) (by simp [results, Tryz.results228, go_sem, World.cell?_setCell_other, hc]) rfl (castP_no HE.out (by decide) (((L1.out.setCell (by simp) _).setCell (by simp) _).setCell (by simp) _))
theorem cast_b (k n : Int) (s : ByteArray) (c : Int) (w : World) (hn : fits n) (HR : Hid (rightB k n s = true)) (HC : Hid (columnB c = false)) (HE : Hid (castE k n s c = 1)) :
  Calls Tryz.prog 228 #[.agg #[.int .i64 k, .int .i64 n, .string s], .int .i64 c] w (castP k n s c w) := by
 have hbb : ∀ o o' w1, Below ((w.alloc o).alloc o').heap.size ((w.alloc o).alloc o') w1 → Below w.heap.size w w1 := fun o o' w1 h => bnext ((below_alloc w o).alloc (by simp) o') (by simp; omega) h
 have HB := hid hbb
 clear hbb
 go_enter Tryz.func228, Tryz.ntmps228
 go_wp2_with fail
 refine (right_is k n s true hn HR.out _).mono ?_
 rintro e w1 ⟨rfl, hb1⟩
 have L1 := hid (HB.out _ _ _ hb1)
 obtain ⟨hc, hf⟩ := bcell hb1
 have hz : w.heap.size + 1 < w1.heap.size := by have := hb1.size; simp at this; omega
 go_wp2_with (go_at_call 250; refine (column_is c false HC.out _).mono ?_; rintro e w' ⟨rfl, rfl⟩)
 exact bodyPost_ret (v := .tuple #[.agg #[.int .i64 0, .int .i64 0, .string ⟨#[]⟩], .int .i64 1]) (by simp [results, Tryz.results228, go_sem, World.cell?_setCell_other, hc]) rfl (castP_no HE.out (by decide) (((L1.out.setCell (by simp) _).setCell (by simp) _).setCell (by simp) _))
theorem cast_c (k n : Int) (s : ByteArray) (c : Int) (w : World) (hn : fits n) (HR : Hid (rightB k n s = true)) (HC : Hid (columnB c = true)) (hk : k = 0) (HE : Hid (castE k n s c = 0)) :
  Calls Tryz.prog 228 #[.agg #[.int .i64 k, .int .i64 n, .string s], .int .i64 c] w (castP k n s c w) := by
 subst hk
 have hbb : ∀ o o' w1, Below ((w.alloc o).alloc o').heap.size ((w.alloc o).alloc o') w1 → Below w.heap.size w w1 := fun o o' w1 h => bnext ((below_alloc w o).alloc (by simp) o') (by simp; omega) h
 have HB := hid hbb
 clear hbb
 go_enter Tryz.func228, Tryz.ntmps228
 go_wp2_with fail
 refine (right_is 0 n s true hn HR.out _).mono ?_
 rintro e w1 ⟨rfl, hb1⟩
 have L1 := hid (HB.out _ _ _ hb1)
 obtain ⟨hc, hf⟩ := bcell hb1
 have hz : w.heap.size + 1 < w1.heap.size := by have := hb1.size; simp at this; omega
 go_wp2_with (go_at_call 250; refine (column_is c true HC.out _).mono ?_; rintro e w' ⟨rfl, rfl⟩)
 exact bodyPost_ret (v := .tuple #[.agg #[.int .i64 0, .int .i64 n, .string s], .int .i64 0]) (by simp [results, Tryz.results228, go_sem, World.cell?_setCell_other, hc]) rfl (castP_yes HE.out (by simp) rfl (((L1.out.setCell (by simp) _).setCell (by simp) _).setCell (by simp) _))
theorem cast_d (k n : Int) (s : ByteArray) (c : Int) (w : World) (hn : fits n) (HR : Hid (rightB k n s = true)) (HC : Hid (columnB c = true)) (k0 : (k == 0) = false) (hk : k = c) (HE : Hid (castE k n s c = 0)) :
  Calls Tryz.prog 228 #[.agg #[.int .i64 k, .int .i64 n, .string s], .int .i64 c] w (castP k n s c w) := by
 subst hk
 have hbb : ∀ o o' w1, Below ((w.alloc o).alloc o').heap.size ((w.alloc o).alloc o') w1 → Below w.heap.size w w1 := fun o o' w1 h => bnext ((below_alloc w o).alloc (by simp) o') (by simp; omega) h
 have HB := hid hbb
 clear hbb
 go_enter Tryz.func228, Tryz.ntmps228
 go_wp2_with fail
 refine (right_is k n s true hn HR.out _).mono ?_
 rintro e w1 ⟨rfl, hb1⟩
 have L1 := hid (HB.out _ _ _ hb1)
 obtain ⟨hc, hf⟩ := bcell hb1
 have hz : w.heap.size + 1 < w1.heap.size := by have := hb1.size; simp at this; omega
 go_wp2_with (go_at_call 250; refine (column_is k true HC.out _).mono ?_; rintro e w' ⟨rfl, rfl⟩)
 exact bodyPost_ret (v := .tuple #[.agg #[.int .i64 k, .int .i64 n, .string s], .int .i64 0]) (by simp [results, Tryz.results228, go_sem, World.cell?_setCell_other, hc]) rfl (castP_yes HE.out (by rw [if_neg (by simpa using k0)]) rfl (((L1.out.setCell (by simp) _).setCell (by simp) _).setCell (by simp) _))
theorem cast_e (k n : Int) (s : ByteArray) (c : Int) (w : World) (hn : fits n) (HR : Hid (rightB k n s = true)) (HC : Hid (columnB c = true)) (kc : (k == c) = false) (hk : k = 4) (HE : Hid (castE k n s c = 31)) :
  Calls Tryz.prog 228 #[.agg #[.int .i64 k, .int .i64 n, .string s], .int .i64 c] w (castP k n s c w) := by
 subst hk
 have hbb : ∀ o o' w1, Below ((w.alloc o).alloc o').heap.size ((w.alloc o).alloc o') w1 → Below w.heap.size w w1 := fun o o' w1 h => bnext ((below_alloc w o).alloc (by simp) o') (by simp; omega) h
 have HB := hid hbb
 clear hbb
 go_enter Tryz.func228, Tryz.ntmps228
 go_wp2_with fail
 refine (right_is 4 n s true hn HR.out _).mono ?_
 rintro e w1 ⟨rfl, hb1⟩
 have L1 := hid (HB.out _ _ _ hb1)
 obtain ⟨hc, hf⟩ := bcell hb1
 have hz : w.heap.size + 1 < w1.heap.size := by have := hb1.size; simp at this; omega
 go_wp2_with (go_at_call 250; refine (column_is c true HC.out _).mono ?_; rintro e w' ⟨rfl, rfl⟩)
 exact bodyPost_ret (v := .tuple #[.agg #[.int .i64 0, .int .i64 0, .string ⟨#[]⟩], .int .i64 31]) (by simp [results, Tryz.results228, go_sem, World.cell?_setCell_other, hc]) rfl (castP_no HE.out (by decide) (((L1.out.setCell (by simp) _).setCell (by simp) _).setCell (by simp) _))
theorem cast_f (k n : Int) (s : ByteArray) (c : Int) (w : World) (hn : fits n) (HR : Hid (rightB k n s = true)) (HC : Hid (columnB c = true)) (k0 : (k == 0) = false) (kc : (k == c) = false) (k4 : (k == 4) = false) (hk : c = 4) (HE : Hid (castE k n s c = 31)) :
  Calls Tryz.prog 228 #[.agg #[.int .i64 k, .int .i64 n, .string s], .int .i64 c] w (castP k n s c w) := by
 subst hk
 have hbb : ∀ o o' w1, Below ((w.alloc o).alloc o').heap.size ((w.alloc o).alloc o') w1 → Below w.heap.size w w1 := fun o o' w1 h => bnext ((below_alloc w o).alloc (by simp) o') (by simp; omega) h
 have HB := hid hbb
 clear hbb
 go_enter Tryz.func228, Tryz.ntmps228
 go_wp2_with fail
 refine (right_is k n s true hn HR.out _).mono ?_
 rintro e w1 ⟨rfl, hb1⟩
 have L1 := hid (HB.out _ _ _ hb1)
 obtain ⟨hc, hf⟩ := bcell hb1
 have hz : w.heap.size + 1 < w1.heap.size := by have := hb1.size; simp at this; omega
 go_wp2_with (go_at_call 250; refine (column_is 4 true HC.out _).mono ?_; rintro e w' ⟨rfl, rfl⟩)
 exact bodyPost_ret (v := .tuple #[.agg #[.int .i64 0, .int .i64 0, .string ⟨#[]⟩], .int .i64 31]) (by simp [results, Tryz.results228, go_sem, World.cell?_setCell_other, hc]) rfl (castP_no HE.out (by decide) (((L1.out.setCell (by simp) _).setCell (by simp) _).setCell (by simp) _))
theorem cast_g (k n : Int) (s : ByteArray) (c : Int) (w : World) (hn : fits n) (HR : Hid (rightB k n s = true)) (HC : Hid (columnB c = true)) (k0 : (k == 0) = false) (kc : (k == c) = false) (k4 : (k == 4) = false) (c4 : (c == 4) = false) (HH : Hid (holdsB c n = false)) (HE : Hid (castE k n s c = 12)) :
  Calls Tryz.prog 228 #[.agg #[.int .i64 k, .int .i64 n, .string s], .int .i64 c] w (castP k n s c w) := by
 have hbb : ∀ o o' w1, Below ((w.alloc o).alloc o').heap.size ((w.alloc o).alloc o') w1 → Below w.heap.size w w1 := fun o o' w1 h => bnext ((below_alloc w o).alloc (by simp) o') (by simp; omega) h
 have HB := hid hbb
 clear hbb
 go_enter Tryz.func228, Tryz.ntmps228
 go_wp2_with fail
 refine (right_is k n s true hn HR.out _).mono ?_
 rintro e w1 ⟨rfl, hb1⟩
 have L1 := hid (HB.out _ _ _ hb1)
 obtain ⟨hc, hf⟩ := bcell hb1
 have hz : w.heap.size + 1 < w1.heap.size := by have := hb1.size; simp at this; omega
 go_wp2_with (first | (go_at_call 250; refine (column_is c true HC.out _).mono ?_; rintro e w' ⟨rfl, rfl⟩) | (go_at_call 242; refine (holds_is c n hn false HH.out _).mono ?_; rintro e w' ⟨rfl, rfl⟩))
 exact bodyPost_ret (v := .tuple #[.agg #[.int .i64 0, .int .i64 0, .string ⟨#[]⟩], .int .i64 12]) (by simp [results, Tryz.results228, go_sem, World.cell?_setCell_other, hc]) rfl (castP_no HE.out (by decide) (((L1.out.setCell (by simp) _).setCell (by simp) _).setCell (by simp) _))
theorem cast_h (k n : Int) (s : ByteArray) (c : Int) (w : World) (hn : fits n) (HR : Hid (rightB k n s = true)) (HC : Hid (columnB c = true)) (k0 : (k == 0) = false) (kc : (k == c) = false) (k4 : (k == 4) = false) (c4 : (c == 4) = false) (HH : Hid (holdsB c n = true)) (HE : Hid (castE k n s c = 0)) (HS : Hid (s = ⟨#[]⟩)) :
  Calls Tryz.prog 228 #[.agg #[.int .i64 k, .int .i64 n, .string s], .int .i64 c] w (castP k n s c w) := by
 have hbb : ∀ o o' w1, Below ((w.alloc o).alloc o').heap.size ((w.alloc o).alloc o') w1 → Below w.heap.size w w1 := fun o o' w1 h => bnext ((below_alloc w o).alloc (by simp) o') (by simp; omega) h
 have HB := hid hbb
 clear hbb
 go_enter Tryz.func228, Tryz.ntmps228
 go_wp2_with fail
 refine (right_is k n s true hn HR.out _).mono ?_
 rintro e w1 ⟨rfl, hb1⟩
 have L1 := hid (HB.out _ _ _ hb1)
 obtain ⟨hc, hf⟩ := bcell hb1
 have hz : w.heap.size + 1 < w1.heap.size := by have := hb1.size; simp at this; omega
 go_wp2_with (first | (go_at_call 250; refine (column_is c true HC.out _).mono ?_; rintro e w' ⟨rfl, rfl⟩) | (go_at_call 242; refine (holds_is c n hn true HH.out _).mono ?_; rintro e w' ⟨rfl, rfl⟩))
 exact bodyPost_ret (v := .tuple #[.agg #[.int .i64 c, .int .i64 n, .string ⟨#[]⟩], .int .i64 0]) (by simp [results, Tryz.results228, go_sem, World.cell?_setCell_other, hc]) rfl (castP_yes HE.out (by rw [if_neg (by simpa using k0)]) HS.out.symm (((L1.out.setCell (by simp) _).setCell (by simp) _).setCell (by simp) _))
theorem cast_any (k n : Int) (s : ByteArray) (c : Int) (w : World) (hn : fits n) :
  Calls Tryz.prog 228 #[.agg #[.int .i64 k, .int .i64 n, .string s], .int .i64 c] w (castP k n s c w) := by
 cases hr : rightB k n s with
 | false => exact cast_a k n s c w hn (hid hr) (hid (by unfold castE; rw [if_pos (Or.inl hr)]))
 | true =>
  cases hcl : columnB c with
  | false => exact cast_b k n s c w hn (hid hr) (hid hcl) (hid (by unfold castE; rw [if_pos (Or.inr hcl)]))
  | true =>
   have e1 : ¬ (rightB k n s = false ∨ columnB c = false) := by rw [hr, hcl]; simp
   by_cases h0 : k = 0
   ·exact cast_c k n s c w hn (hid hr) (hid hcl) h0 (hid (by unfold castE; rw [if_neg e1, if_pos (Or.inl h0)]))
   by_cases hc : k = c
   ·exact cast_d k n s c w hn (hid hr) (hid hcl) (by simpa using h0) hc (hid (by unfold castE; rw [if_neg e1, if_pos (Or.inr hc)]))
   have e2 : ¬ (k = 0 ∨ k = c) := by omega
   by_cases h4 : k = 4
   ·exact cast_e k n s c w hn (hid hr) (hid hcl) (by simpa using hc) h4 (hid (by unfold castE; rw [if_neg e1, if_neg e2, if_pos (Or.inl h4)]))
   by_cases hc4 : c = 4
   ·exact cast_f k n s c w hn (hid hr) (hid hcl) (by simpa using h0) (by simpa using hc) (by simpa using h4) hc4 (hid (by unfold castE; rw [if_neg e1, if_neg e2, if_pos (Or.inr hc4)]))
   have e3 : ¬ (k = 4 ∨ c = 4) := by omega
   have hs := right_s hr h4
   cases hh : holdsB c n with
   | false => exact cast_g k n s c w hn (hid hr) (hid hcl) (by simpa using h0) (by simpa using hc) (by simpa using h4) (by simpa using hc4) (hid hh) (hid (by unfold castE; rw [if_neg e1, if_neg e2, if_neg e3, if_neg (by rw [hh]; simp)]))
   | true => exact cast_h k n s c w hn (hid hr) (hid hcl) (by simpa using h0) (by simpa using hc) (by simpa using h4) (by simpa using hc4) (hid hh) (hid (by unfold castE; rw [if_neg e1, if_neg e2, if_neg e3, if_pos hh])) (hid hs)
end Go.Proofs.YthpmgnfmeldkjaaGreatDoor.Val
/-
  Contracts of the document's Same and Compare over lists of values (cut out of CodeVals and CodeRef).
-/
namespace Go.Proofs.YthpmgnfmeldkjaaGreatDoor.Code
open Go.ChangeShapes Go.WideShapes Go.ChangeAt Go.RowKit Val
end Go.Proofs.YthpmgnfmeldkjaaGreatDoor.Code
/-
  The contract of value.Compare, for every two values (cut out of ValCmp).
-/
namespace Go.Proofs.YthpmgnfmeldkjaaGreatDoor.Val
open Go.ChangeShapes Go.WideShapes Go.ChangeAt Go.RowKit
end Go.Proofs.YthpmgnfmeldkjaaGreatDoor.Val
namespace Go.Proofs.YthpmgnfmeldkjaaGreatDoor.Code
open Go.ChangeShapes Go.WideShapes Go.ChangeAt Go.RowKit Val
set_option linter.unusedVariables false
end Go.Proofs.YthpmgnfmeldkjaaGreatDoor.Code
/-
  The program's sum of two numbers, of the wider one's kind; and whether a test of two values holds.
-/
namespace Go.Proofs.YthpmgnfmeldkjaaGreatDoor.Code
open Go.ChangeShapes Go.WideShapes Go.ChangeAt Go.RowKit Val Elems
def SumPost (w : World) (r : CV × Int) (e : Ending) (w' : World) : Prop := e = .returned (.tuple #[.agg #[.int .i64 r.1.1, .int .i64 r.1.2.1, .string r.1.2.2], .int .i64 r.2]) ∧ Below w.heap.size w w'
theorem lit_ne {op : ByteArray} {s : List UInt8} (h : op.data.toList ≠ s) : (op.toList == s) = false := by
 rw [ByteArray.toList_eq]
 simpa using h
def formB (op tx : List UInt8) (n : Nat) : Bool := decide (kidsN op = some n) && (decide (tx = []) || decide (op ∈ [sNum, sText, sCol]))
theorem form_is {op : List UInt8} {m : Nat} {b : Bool} (h : kidsN op = some m) (hb : decide (op ∈ [sNum, sText, sCol]) = b) (tx : List UInt8) (n : Nat) : formB op tx n = ((n == m) && (decide (tx = []) || b)) := by
 unfold formB
 rw [h, hb]
 congr 1
 rw [Bool.eq_iff_iff, decide_eq_true_eq, beq_iff_eq, Option.some.injEq]
 exact eq_comm
theorem form_no {op : List UInt8} (h : kidsN op = none) (tx : List UInt8) (n : Nat) : formB op tx n = false := by
 unfold formB
 rw [h]
 rfl
theorem kidsN_no {op : List UInt8} (h0 : op ≠ [111, 114]) (h1 : op ≠ [97, 110, 100]) (h2 : op ≠ [61]) (h3 : op ≠ [60, 62]) (h4 : op ≠ [60]) (h5 : op ≠ [60, 61]) (h6 : op ≠ [62]) (h7 : op ≠ [62, 61]) (h8 : op ≠ [43]) (h9 : op ≠ [45]) (h10 : op ≠ [42]) (h11 : op ≠ [110, 111, 116]) (h12 : op ≠ [110, 101, 103]) (h13 : op ≠ [105, 115, 32, 110, 117, 108, 108]) (h14 : op ≠ [116, 114, 117, 101]) (h15 : op ≠ [102, 97, 108, 115, 101]) (h16 : op ≠ [110, 117, 108, 108]) (h17 : op ≠ [110, 117, 109]) (h18 : op ≠ [116, 101, 120, 116]) (h19 : op ≠ [99, 111, 108]) : kidsN op = none := by
 unfold kidsN sNum sText sTrue sFalse sNull sCol sNeg sNot sIsNull sAnd sOr tests sums
 simp [*]
theorem formed_any (op tx : ByteArray) (X : Option Addr) (n k : Nat) (w : World) (hn : n ≤ 2600000000000) : Calls Tryz.prog 185 #[.agg #[.string op, .string tx, .slice X n k]] w fun e w' => e = .returned (.bool (formB op.data.toList tx.data.toList n)) ∧ Below w.heap.size w w' := by
 have HB := hid (fun (o : Obj) => below_alloc w o)
 obtain ⟨p, hp⟩ : ∃ p, (tx.toList == []) = p := ⟨_, rfl⟩
 have hpp : decide (tx.data.toList = []) = p := by rw [← hp, ByteArray.toList_eq, Bool.eq_iff_iff]; simp
 have hpe : tx.data.isEmpty = p := by rw [← hp, ByteArray.toList_eq, Bool.eq_iff_iff]; simp
 by_cases h0 : op.data.toList = [111, 114]
 ·obtain rfl : op = ⟨#[111, 114]⟩ := by rw [← Lib.mk_data op, h0]
  rw [form_is (m := 2) (b := false) (by decide) (by decide), hpp]
  clear h0 hpp
  obtain ⟨q, hq⟩ : ∃ q, (n == 2) = q := ⟨_, rfl⟩
  have hq2 : ((n : Int) == 2) = q := by rw [← hq, Bool.eq_iff_iff]; simp <;> omega
  rw [hq]
  cases q
  all_goals
   go_enter Tryz.func185, Tryz.ntmps185
   go_wp2
   go_ret
   exact ⟨retB (by simp [*]), HB.out _⟩
 by_cases h1 : op.data.toList = [97, 110, 100]
 ·obtain rfl : op = ⟨#[97, 110, 100]⟩ := by rw [← Lib.mk_data op, h1]
  rw [form_is (m := 2) (b := false) (by decide) (by decide), hpp]
  clear h0 h1 hpp
  obtain ⟨q, hq⟩ : ∃ q, (n == 2) = q := ⟨_, rfl⟩
  have hq2 : ((n : Int) == 2) = q := by rw [← hq, Bool.eq_iff_iff]; simp <;> omega
  rw [hq]
  cases q
  all_goals
   go_enter Tryz.func185, Tryz.ntmps185
   go_wp2
   go_ret
   exact ⟨retB (by simp [*]), HB.out _⟩
 by_cases h2 : op.data.toList = [61]
 ·obtain rfl : op = ⟨#[61]⟩ := by rw [← Lib.mk_data op, h2]
  rw [form_is (m := 2) (b := false) (by decide) (by decide), hpp]
  clear h0 h1 h2 hpp
  obtain ⟨q, hq⟩ : ∃ q, (n == 2) = q := ⟨_, rfl⟩
  have hq2 : ((n : Int) == 2) = q := by rw [← hq, Bool.eq_iff_iff]; simp <;> omega
  rw [hq]
  cases q
  all_goals
   go_enter Tryz.func185, Tryz.ntmps185
   go_wp2
   go_ret
   exact ⟨retB (by simp [*]), HB.out _⟩
 by_cases h3 : op.data.toList = [60, 62]
 ·obtain rfl : op = ⟨#[60, 62]⟩ := by rw [← Lib.mk_data op, h3]
  rw [form_is (m := 2) (b := false) (by decide) (by decide), hpp]
  clear h0 h1 h2 h3 hpp
  obtain ⟨q, hq⟩ : ∃ q, (n == 2) = q := ⟨_, rfl⟩
  have hq2 : ((n : Int) == 2) = q := by rw [← hq, Bool.eq_iff_iff]; simp <;> omega
  rw [hq]
  cases q
  all_goals
   go_enter Tryz.func185, Tryz.ntmps185
   go_wp2
   go_ret
   exact ⟨retB (by simp [*]), HB.out _⟩
 by_cases h4 : op.data.toList = [60]
 ·obtain rfl : op = ⟨#[60]⟩ := by rw [← Lib.mk_data op, h4]
  rw [form_is (m := 2) (b := false) (by decide) (by decide), hpp]
  clear h0 h1 h2 h3 h4 hpp
  obtain ⟨q, hq⟩ : ∃ q, (n == 2) = q := ⟨_, rfl⟩
  have hq2 : ((n : Int) == 2) = q := by rw [← hq, Bool.eq_iff_iff]; simp <;> omega
  rw [hq]
  cases q
  all_goals
   go_enter Tryz.func185, Tryz.ntmps185
   go_wp2
   go_ret
   exact ⟨retB (by simp [*]), HB.out _⟩
 by_cases h5 : op.data.toList = [60, 61]
 ·obtain rfl : op = ⟨#[60, 61]⟩ := by rw [← Lib.mk_data op, h5]
  rw [form_is (m := 2) (b := false) (by decide) (by decide), hpp]
  clear h0 h1 h2 h3 h4 h5 hpp
  obtain ⟨q, hq⟩ : ∃ q, (n == 2) = q := ⟨_, rfl⟩
  have hq2 : ((n : Int) == 2) = q := by rw [← hq, Bool.eq_iff_iff]; simp <;> omega
  rw [hq]
  cases q
  all_goals
   go_enter Tryz.func185, Tryz.ntmps185
   go_wp2
   go_ret
   exact ⟨retB (by simp [*]), HB.out _⟩
 by_cases h6 : op.data.toList = [62]
 ·obtain rfl : op = ⟨#[62]⟩ := by rw [← Lib.mk_data op, h6]
  rw [form_is (m := 2) (b := false) (by decide) (by decide), hpp]
  clear h0 h1 h2 h3 h4 h5 h6 hpp
  obtain ⟨q, hq⟩ : ∃ q, (n == 2) = q := ⟨_, rfl⟩
  have hq2 : ((n : Int) == 2) = q := by rw [← hq, Bool.eq_iff_iff]; simp <;> omega
  rw [hq]
  cases q
  all_goals
   go_enter Tryz.func185, Tryz.ntmps185
   go_wp2
   go_ret
   exact ⟨retB (by simp [*]), HB.out _⟩
 by_cases h7 : op.data.toList = [62, 61]
 ·obtain rfl : op = ⟨#[62, 61]⟩ := by rw [← Lib.mk_data op, h7]
  rw [form_is (m := 2) (b := false) (by decide) (by decide), hpp]
  clear h0 h1 h2 h3 h4 h5 h6 h7 hpp
  obtain ⟨q, hq⟩ : ∃ q, (n == 2) = q := ⟨_, rfl⟩
  have hq2 : ((n : Int) == 2) = q := by rw [← hq, Bool.eq_iff_iff]; simp <;> omega
  rw [hq]
  cases q
  all_goals
   go_enter Tryz.func185, Tryz.ntmps185
   go_wp2
   go_ret
   exact ⟨retB (by simp [*]), HB.out _⟩
 by_cases h8 : op.data.toList = [43]
 ·obtain rfl : op = ⟨#[43]⟩ := by rw [← Lib.mk_data op, h8]
  rw [form_is (m := 2) (b := false) (by decide) (by decide), hpp]
  clear h0 h1 h2 h3 h4 h5 h6 h7 h8 hpp
  obtain ⟨q, hq⟩ : ∃ q, (n == 2) = q := ⟨_, rfl⟩
  have hq2 : ((n : Int) == 2) = q := by rw [← hq, Bool.eq_iff_iff]; simp <;> omega
  rw [hq]
  cases q
  all_goals
   go_enter Tryz.func185, Tryz.ntmps185
   go_wp2
   go_ret
   exact ⟨retB (by simp [*]), HB.out _⟩
 by_cases h9 : op.data.toList = [45]
 ·obtain rfl : op = ⟨#[45]⟩ := by rw [← Lib.mk_data op, h9]
  rw [form_is (m := 2) (b := false) (by decide) (by decide), hpp]
  clear h0 h1 h2 h3 h4 h5 h6 h7 h8 h9 hpp
  obtain ⟨q, hq⟩ : ∃ q, (n == 2) = q := ⟨_, rfl⟩
  have hq2 : ((n : Int) == 2) = q := by rw [← hq, Bool.eq_iff_iff]; simp <;> omega
  rw [hq]
  cases q
  all_goals
   go_enter Tryz.func185, Tryz.ntmps185
   go_wp2
   go_ret
   exact ⟨retB (by simp [*]), HB.out _⟩
 by_cases h10 : op.data.toList = [42]
 ·obtain rfl : op = ⟨#[42]⟩ := by rw [← Lib.mk_data op, h10]
  rw [form_is (m := 2) (b := false) (by decide) (by decide), hpp]
  clear h0 h1 h2 h3 h4 h5 h6 h7 h8 h9 h10 hpp
  obtain ⟨q, hq⟩ : ∃ q, (n == 2) = q := ⟨_, rfl⟩
  have hq2 : ((n : Int) == 2) = q := by rw [← hq, Bool.eq_iff_iff]; simp <;> omega
  rw [hq]
  cases q
  all_goals
   go_enter Tryz.func185, Tryz.ntmps185
   go_wp2
   go_ret
   exact ⟨retB (by simp [*]), HB.out _⟩
 by_cases h11 : op.data.toList = [110, 111, 116]
 ·obtain rfl : op = ⟨#[110, 111, 116]⟩ := by rw [← Lib.mk_data op, h11]
  rw [form_is (m := 1) (b := false) (by decide) (by decide), hpp]
  clear h0 h1 h2 h3 h4 h5 h6 h7 h8 h9 h10 h11 hpp
  obtain ⟨q, hq⟩ : ∃ q, (n == 1) = q := ⟨_, rfl⟩
  have hq2 : ((n : Int) == 1) = q := by rw [← hq, Bool.eq_iff_iff]; simp <;> omega
  rw [hq]
  cases q
  all_goals
   go_enter Tryz.func185, Tryz.ntmps185
   go_wp2
   go_ret
   exact ⟨retB (by simp [*]), HB.out _⟩
 by_cases h12 : op.data.toList = [110, 101, 103]
 ·obtain rfl : op = ⟨#[110, 101, 103]⟩ := by rw [← Lib.mk_data op, h12]
  rw [form_is (m := 1) (b := false) (by decide) (by decide), hpp]
  clear h0 h1 h2 h3 h4 h5 h6 h7 h8 h9 h10 h11 h12 hpp
  obtain ⟨q, hq⟩ : ∃ q, (n == 1) = q := ⟨_, rfl⟩
  have hq2 : ((n : Int) == 1) = q := by rw [← hq, Bool.eq_iff_iff]; simp <;> omega
  rw [hq]
  cases q
  all_goals
   go_enter Tryz.func185, Tryz.ntmps185
   go_wp2
   go_ret
   exact ⟨retB (by simp [*]), HB.out _⟩
 by_cases h13 : op.data.toList = [105, 115, 32, 110, 117, 108, 108]
 ·obtain rfl : op = ⟨#[105, 115, 32, 110, 117, 108, 108]⟩ := by rw [← Lib.mk_data op, h13]
  rw [form_is (m := 1) (b := false) (by decide) (by decide), hpp]
  clear h0 h1 h2 h3 h4 h5 h6 h7 h8 h9 h10 h11 h12 h13 hpp
  obtain ⟨q, hq⟩ : ∃ q, (n == 1) = q := ⟨_, rfl⟩
  have hq2 : ((n : Int) == 1) = q := by rw [← hq, Bool.eq_iff_iff]; simp <;> omega
  rw [hq]
  cases q
  all_goals
   go_enter Tryz.func185, Tryz.ntmps185
   go_wp2
   go_ret
   exact ⟨retB (by simp [*]), HB.out _⟩
 by_cases h14 : op.data.toList = [116, 114, 117, 101]
 ·obtain rfl : op = ⟨#[116, 114, 117, 101]⟩ := by rw [← Lib.mk_data op, h14]
  rw [form_is (m := 0) (b := false) (by decide) (by decide), hpp]
  clear h0 h1 h2 h3 h4 h5 h6 h7 h8 h9 h10 h11 h12 h13 h14 hpp
  obtain ⟨q, hq⟩ : ∃ q, (n == 0) = q := ⟨_, rfl⟩
  have hq2 : ((n : Int) == 0) = q := by rw [← hq, Bool.eq_iff_iff]; simp <;> omega
  rw [hq]
  cases q
  all_goals
   go_enter Tryz.func185, Tryz.ntmps185
   go_wp2
   go_ret
   exact ⟨retB (by simp [*]), HB.out _⟩
 by_cases h15 : op.data.toList = [102, 97, 108, 115, 101]
 ·obtain rfl : op = ⟨#[102, 97, 108, 115, 101]⟩ := by rw [← Lib.mk_data op, h15]
  rw [form_is (m := 0) (b := false) (by decide) (by decide), hpp]
  clear h0 h1 h2 h3 h4 h5 h6 h7 h8 h9 h10 h11 h12 h13 h14 h15 hpp
  obtain ⟨q, hq⟩ : ∃ q, (n == 0) = q := ⟨_, rfl⟩
  have hq2 : ((n : Int) == 0) = q := by rw [← hq, Bool.eq_iff_iff]; simp <;> omega
  rw [hq]
  cases q
  all_goals
   go_enter Tryz.func185, Tryz.ntmps185
   go_wp2
   go_ret
   exact ⟨retB (by simp [*]), HB.out _⟩
 by_cases h16 : op.data.toList = [110, 117, 108, 108]
 ·obtain rfl : op = ⟨#[110, 117, 108, 108]⟩ := by rw [← Lib.mk_data op, h16]
  rw [form_is (m := 0) (b := false) (by decide) (by decide), hpp]
  clear h0 h1 h2 h3 h4 h5 h6 h7 h8 h9 h10 h11 h12 h13 h14 h15 h16 hpp
  obtain ⟨q, hq⟩ : ∃ q, (n == 0) = q := ⟨_, rfl⟩
  have hq2 : ((n : Int) == 0) = q := by rw [← hq, Bool.eq_iff_iff]; simp <;> omega
  rw [hq]
  cases q
  all_goals
   go_enter Tryz.func185, Tryz.ntmps185
   go_wp2
   go_ret
   exact ⟨retB (by simp [*]), HB.out _⟩
 by_cases h17 : op.data.toList = [110, 117, 109]
 ·obtain rfl : op = ⟨#[110, 117, 109]⟩ := by rw [← Lib.mk_data op, h17]
  rw [form_is (m := 0) (b := true) (by decide) (by decide), hpp]
  clear h0 h1 h2 h3 h4 h5 h6 h7 h8 h9 h10 h11 h12 h13 h14 h15 h16 h17 hpp
  obtain ⟨q, hq⟩ : ∃ q, (n == 0) = q := ⟨_, rfl⟩
  have hq2 : ((n : Int) == 0) = q := by rw [← hq, Bool.eq_iff_iff]; simp <;> omega
  rw [hq]
  cases q
  all_goals
   go_enter Tryz.func185, Tryz.ntmps185
   go_wp2
   go_ret
   exact ⟨retB (by simp [*]), HB.out _⟩
 by_cases h18 : op.data.toList = [116, 101, 120, 116]
 ·obtain rfl : op = ⟨#[116, 101, 120, 116]⟩ := by rw [← Lib.mk_data op, h18]
  rw [form_is (m := 0) (b := true) (by decide) (by decide), hpp]
  clear h0 h1 h2 h3 h4 h5 h6 h7 h8 h9 h10 h11 h12 h13 h14 h15 h16 h17 h18 hpp
  obtain ⟨q, hq⟩ : ∃ q, (n == 0) = q := ⟨_, rfl⟩
  have hq2 : ((n : Int) == 0) = q := by rw [← hq, Bool.eq_iff_iff]; simp <;> omega
  rw [hq]
  cases q
  all_goals
   go_enter Tryz.func185, Tryz.ntmps185
   go_wp2
   go_ret
   exact ⟨retB (by simp [*]), HB.out _⟩
 by_cases h19 : op.data.toList = [99, 111, 108]
 ·obtain rfl : op = ⟨#[99, 111, 108]⟩ := by rw [← Lib.mk_data op, h19]
  rw [form_is (m := 0) (b := true) (by decide) (by decide), hpp]
  clear h0 h1 h2 h3 h4 h5 h6 h7 h8 h9 h10 h11 h12 h13 h14 h15 h16 h17 h18 h19 hpp
  obtain ⟨q, hq⟩ : ∃ q, (n == 0) = q := ⟨_, rfl⟩
  have hq2 : ((n : Int) == 0) = q := by rw [← hq, Bool.eq_iff_iff]; simp <;> omega
  rw [hq]
  cases q
  all_goals
   go_enter Tryz.func185, Tryz.ntmps185
   go_wp2
   go_ret
   exact ⟨retB (by simp [*]), HB.out _⟩
 have f0 := lit_ne h0
 have f1 := lit_ne h1
 have f2 := lit_ne h2
 have f3 := lit_ne h3
 have f4 := lit_ne h4
 have f5 := lit_ne h5
 have f6 := lit_ne h6
 have f7 := lit_ne h7
 have f8 := lit_ne h8
 have f9 := lit_ne h9
 have f10 := lit_ne h10
 have f11 := lit_ne h11
 have f12 := lit_ne h12
 have f13 := lit_ne h13
 have f14 := lit_ne h14
 have f15 := lit_ne h15
 have f16 := lit_ne h16
 have f17 := lit_ne h17
 have f18 := lit_ne h18
 have f19 := lit_ne h19
 rw [form_no (kidsN_no h0 h1 h2 h3 h4 h5 h6 h7 h8 h9 h10 h11 h12 h13 h14 h15 h16 h17 h18 h19)]
 clear h0 h1 h2 h3 h4 h5 h6 h7 h8 h9 h10 h11 h12 h13 h14 h15 h16 h17 h18 h19 hpp
 go_enter Tryz.func185, Tryz.ntmps185
 go_wp2
 go_ret
 exact ⟨rfl, HB.out _⟩
theorem iter_below (w : World) (s : ByteArray) (k : Nat) : Below w.heap.size w (w.iter s k) := below_alloc w _
def AmtPost (w : World) (r : Option Int) (e : Ending) (w' : World) : Prop := e = .returned (.tuple #[.int .i64 (r.getD 0), .bool r.isSome]) ∧ Below w.heap.size w w'
theorem amt_none {w w' : World} {r : Option Int} (h : r = none) (hb : Below w.heap.size w w') : AmtPost w r (.returned (.tuple #[.int .i64 0, .bool false])) w' := by subst h; exact ⟨rfl, hb⟩
theorem amt_some {w w' : World} {r : Option Int} {n : Int} (h : r = some n) (hb : Below w.heap.size w w') : AmtPost w r (.returned (.tuple #[.int .i64 n, .bool true])) w' := by subst h; exact ⟨rfl, hb⟩
theorem amount_any (s : ByteArray) (w : World) : Calls Tryz.prog 261 #[.string s] w (AmtPost w (amountL s.data.toList)) := by
 have hsl : s.data.toList.length = s.size := rfl
 by_cases h1 : s.size < 1
 ·have HN := hid (amount_len (tx := s.data.toList) (by omega))
  have e1 : decide ((s.size : Int) < 1) = true := by simp; omega
  have B0 := hid (Below.refl w.heap.size w)
  clear hsl h1
  go_enter Tryz.func261, Tryz.ntmps261
  go_wp2
  go_ret2
  exact amt_none HN.out B0.out
 by_cases h2 : 19 < s.size
 ·have HN := hid (amount_len (tx := s.data.toList) (by omega))
  have e1 : decide ((s.size : Int) < 1) = false := by simp; omega
  have e2 : decide ((19 : Int) < (s.size : Int)) = true := by simp; omega
  have B0 := hid (Below.refl w.heap.size w)
  clear hsl h1 h2
  go_enter Tryz.func261, Tryz.ntmps261
  go_wp2
  go_ret2
  exact amt_none HN.out B0.out
 have e1 : decide ((s.size : Int) < 1) = false := by simp; omega
 have e2 : decide ((19 : Int) < (s.size : Int)) = false := by simp; omega
 have H12 := hid (show 1 ≤ s.data.toList.length ∧ s.data.toList.length ≤ 19 by omega)
 have HBI := hid (fun k => iter_below w s k)
 clear h1 h2 hsl
 go_enter Tryz.func261, Tryz.ntmps261
 go_wp2
 go_loopw [4] (fun n w' => ∃ (k : Nat), k ≤ s.size ∧ w' = w.iter s k ∧ n = .int .i64 (foldI (s.data.toList.take k) 0) ∧ foldI (s.data.toList.take k) 0 ≤ 9223372036854775807 ∧ (∀ j (hj : j < s.data.toList.length), j < k → figB s.data.toList[j] = true)) (fun _ w' => s.size - w'.iterPos w.heap.size)
 case atStart => exact ⟨0, by omega, rfl, rfl, by simp [foldI], fun j _ h => absurd h (Nat.not_lt_zero _)⟩
 case round =>
  obtain ⟨k, hk, rfl, rfl, hmx, hfg⟩ := hrel
  have HFG := hid hfg
  clear hfg
  have hpos := foldI_pos (s.data.toList.take k)
  by_cases hks : k < s.size
  ·have hkl : k < s.data.toList.length := hks
   by_cases hasc : s.data.toList[k].toNat < 128
   ·have hnx : ∀ ty, (Instr.next (.pointer (some ⟨w.heap.size, 0, none⟩)) true ty).run Tryz.prog (w.iter s k) = .ok (.tuple #[.bool true, .int .i64 (k : Int), .int .i32 (s.data.toList[k].toNat : Int)]) (w.iter s (k + 1)) := fun ty => run_next_ascii w s k ty hks hasc
    have HBAD := hid (fun (h : figB s.data.toList[k] = false) => amount_no hkl h)
    have HOVER := hid (fun h => amount_over (tx := s.data.toList) (k := k) hkl h)
    have HTAKE := hid (foldI_take s.data.toList k hkl)
    have HFG2 := hid (fun (h : figB s.data.toList[k] = true) => show ∀ j (hj : j < s.data.toList.length), j < k + 1 → figB s.data.toList[j] = true from fun j hj h2 => if e : j = k then by subst e; exact h else HFG.out j hj (by omega))
    have HFN := hid (fun (h : figB s.data.toList[k] = true) => fig_num h)
    have HFB := hid (show figB s.data.toList[k] = (decide (48 ≤ s.data.toList[k].toNat) && decide (s.data.toList[k].toNat ≤ 57)) by unfold figB; first | rfl | (rw [Bool.eq_iff_iff]; simp))
    obtain ⟨c, hc⟩ : ∃ c, s.data.toList[k] = c := ⟨_, rfl⟩
    simp only [hc] at hnx HBAD HOVER HTAKE HFG2 HFN HFB hasc
    unfold digI at HOVER HTAKE
    obtain ⟨C, hC⟩ : ∃ C, c.toNat = C := ⟨_, rfl⟩
    simp only [hC] at hnx HOVER HTAKE HFN HFB hasc
    obtain ⟨F, hF⟩ : ∃ F, foldI (s.data.toList.take k) 0 = F := ⟨_, rfl⟩
    rw [hF] at hmx hpos HOVER HTAKE ⊢
    clear hc hC hF
    by_cases hlo : C < 48
    ·have e3 : decide ((C : Int) < 48) = true := by simp; omega
     have HN := hid (HBAD.out (by rw [HFB.out]; simp; omega))
     go_wp2
     go_ret2
     exact amt_none HN.out (HBI.out _)
    by_cases hhi : 57 < C
    ·have e3 : decide ((C : Int) < 48) = false := by simp; omega
     have e4 : decide ((57 : Int) < (C : Int)) = true := by simp; omega
     have HN := hid (HBAD.out (by rw [HFB.out]; simp; omega))
     go_wp2
     go_ret2
     exact amt_none HN.out (HBI.out _)
    have e3 : decide ((C : Int) < 48) = false := by simp; omega
    have e4 : decide ((57 : Int) < (C : Int)) = false := by simp; omega
    obtain ⟨D, hD⟩ : ∃ D : Nat, C = 48 + D := ⟨C - 48, by omega⟩
    have hDl : D ≤ 9 := by omega
    have HN2 := hid (HFG2.out (by rw [HFB.out]; simp; omega))
    have e5 : IntKind.i32.wrap ((C : Int) - 48) = (D : Int) := by rw [hD, IntKind.wrap_i32]; omega
    have e6 : IntKind.i64.wrap (D : Int) = (D : Int) := by rw [IntKind.wrap_i64]; omega
    have HM := hid (fun w' => Num.mul_any F 10 w' ⟨by omega, by omega⟩ ⟨by decide, by decide⟩)
    have HAD := hid (fun (h : Num.fitE (F * 10) = 0) w' => Num.add_any (Num.fitV (F * 10)) (D : Int) w' (Num.fitV_fits _) ⟨by omega, by omega⟩)
    have HTK := hid (show foldI (s.data.toList.take (k + 1)) 0 = F * 10 + (D : Int) by rw [HTAKE.out]; omega)
    have HOV := hid (fun (h : 9223372036854775807 < F * 10 + (D : Int)) => HOVER.out (by omega))
    have hDn : (0 : Int) ≤ (D : Int) := by omega
    have hD9 : (D : Int) ≤ 9 := by omega
    obtain ⟨d, hd⟩ : ∃ d : Int, (D : Int) = d := ⟨_, rfl⟩
    rw [hd] at e5 e6 HAD HTK HOV hDn hD9
    have HV1 := hid (fun (h : Num.fitE (F * 10) = 0) => show Num.fitV (F * 10) = F * 10 ∧ F * 10 ≤ 9223372036854775807 by
     have : F * 10 ≤ 9223372036854775807 := by
      by_cases h9 : -9223372036854775808 ≤ F * 10 ∧ F * 10 ≤ 9223372036854775807
      ·exact h9.2
      ·rw [Num.fitE_out h9] at h; exact absurd h (by decide)
     exact ⟨Num.fitV_in ⟨by omega, this⟩, this⟩)
    have HV0 := hid (fun (h : Num.fitE (F * 10) ≠ 0) => show 9223372036854775807 < F * 10 + d by
     by_cases h9 : F * 10 ≤ 9223372036854775807
     ·exact absurd (Num.fitE_in ⟨by omega, h9⟩) h
     ·omega)
    obtain ⟨E, hE⟩ : ∃ E, Num.fitE (F * 10) = E := ⟨_, rfl⟩
    obtain ⟨V, hV⟩ : ∃ V, Num.fitV (F * 10) = V := ⟨_, rfl⟩
    rw [hE] at HM HAD HV1 HV0
    rw [hV] at HM HAD HV1
    clear hE hV hd hD hDl hlo hhi
    go_wp2_with fail
    refine (HM.out _).mono ?_
    rintro e w1 ⟨rfl, rfl⟩
    by_cases hE0 : E = 0
    ·subst hE0
     obtain ⟨hv1, hv2⟩ := HV1.out rfl
     have HAD2 := hid (HAD.out rfl)
     rw [hv1] at HAD2
     have HS0 := hid (fun (h : Num.fitE (F * 10 + d) = 0) => show Num.fitV (F * 10 + d) = F * 10 + d ∧ F * 10 + d ≤ 9223372036854775807 by
      have : F * 10 + d ≤ 9223372036854775807 := by
       by_cases h9 : -9223372036854775808 ≤ F * 10 + d ∧ F * 10 + d ≤ 9223372036854775807
       ·exact h9.2
       ·rw [Num.fitE_out h9] at h; exact absurd h (by decide)
      exact ⟨Num.fitV_in ⟨by omega, this⟩, this⟩)
     have HS1 := hid (fun (h : Num.fitE (F * 10 + d) ≠ 0) => show 9223372036854775807 < F * 10 + d by
      by_cases h9 : F * 10 + d ≤ 9223372036854775807
      ·exact absurd (Num.fitE_in ⟨by omega, h9⟩) h
      ·omega)
     obtain ⟨E2, hE2⟩ : ∃ E, Num.fitE (F * 10 + d) = E := ⟨_, rfl⟩
     obtain ⟨V2, hV2⟩ : ∃ V, Num.fitV (F * 10 + d) = V := ⟨_, rfl⟩
     rw [hE2] at HAD2 HS0 HS1
     rw [hV2] at HAD2 HS0
     rw [← hv1] at HAD2
     clear hE2 hV2 hv2
     subst hv1
     clear HV1 HV0 HM HAD
     go_wp2_with fail
     refine (HAD2.out _).mono ?_
     rintro e w1 ⟨rfl, rfl⟩
     by_cases hE1 : E2 = 0
     ·subst hE1
      have HZ := hid (HS0.out rfl)
      go_wp2
      go_roundw
      case rel => exact ⟨k + 1, by omega, rfl, by rw [HTK.out, HZ.out.1], by rw [HTK.out]; exact HZ.out.2, HN2.out⟩
      case measure => simp; omega
     ·have e7 : (E2 != 0) = true := by simpa using hE1
      have HN := hid (HOV.out (HS1.out hE1))
      clear hE1
      go_wp2
      go_ret2
      exact amt_none HN.out (HBI.out _)
    ·have e7 : (E != 0) = true := by simpa using hE0
     have HN := hid (HOV.out (HV0.out hE0))
     clear hE0
     go_wp2
     go_ret2
     exact amt_none HN.out (HBI.out _)
   ·have hnx : ∀ ty, (Instr.next (.pointer (some ⟨w.heap.size, 0, none⟩)) true ty).run Tryz.prog (w.iter s k) = .ok (.tuple #[.bool true, .int .i64 (k : Int), .int .i32 ((Utf8.decode s k).1 : Int)]) (w.iter s (k + (Utf8.decode s k).2)) := fun ty => run_next_any w s k ty hks
    have HN := hid (amount_no (tx := s.data.toList) hkl (by unfold figB; rw [decide_eq_false (show ¬ s.data.toList[k].toNat ≤ 57 by omega), Bool.and_false]))
    have hge := (decode_high s k hks (by have : s.data.toList[k] = s[k] := rfl; rw [← this]; omega)).1
    obtain ⟨C, hC⟩ : ∃ C, (Utf8.decode s k).1 = C := ⟨_, rfl⟩
    obtain ⟨G, hG⟩ : ∃ C, k + (Utf8.decode s k).2 = C := ⟨_, rfl⟩
    rw [hC] at hge
    simp only [hC, hG] at hnx
    have e3 : decide ((C : Int) < 48) = false := by simp; omega
    have e4 : decide ((57 : Int) < (C : Int)) = true := by simp; omega
    clear hC hG hasc
    go_wp2
    go_ret2
    exact amt_none HN.out (HBI.out _)
  ·obtain rfl : k = s.size := by omega
   have hnx : ∀ ty, (Instr.next (.pointer (some ⟨w.heap.size, 0, none⟩)) true ty).run Tryz.prog (w.iter s s.size) = .ok (.tuple #[.bool false]) (w.iter s s.size) := fun ty => run_next_end w s s.size ty (Nat.lt_irrefl _)
   have htk : s.data.toList.take s.size = s.data.toList := List.take_length
   rw [htk] at hmx ⊢
   have HN := hid (amount_yes H12.out (fun j hj => HFG.out j hj hj) hmx)
   clear htk
   go_wp2
   go_ret2
   exact amt_some HN.out (HBI.out _)
def OkPost (w : World) (r : Option CV) (e : Ending) (w' : World) : Prop := ∃ (v : CV) (b : Bool), e = .returned (.tuple #[.agg #[.int .i64 v.1, .int .i64 v.2.1, .string v.2.2], .bool b]) ∧ ((b = true ∧ r = some v) ∨ (b = false ∧ r = none)) ∧ Below w.heap.size w w'
theorem ok_some {w w' : World} {r : Option CV} {k n : Int} {s : ByteArray} (h : r = some (k, n, s)) (hb : Below w.heap.size w w') : OkPost w r (.returned (.tuple #[.agg #[.int .i64 k, .int .i64 n, .string s], .bool true])) w' := ⟨(k, n, s), true, rfl, .inl ⟨rfl, h⟩, hb⟩
theorem ok_none {w w' : World} {r : Option CV} {k n : Int} {s : ByteArray} (h : r = none) (hb : Below w.heap.size w w') : OkPost w r (.returned (.tuple #[.agg #[.int .i64 k, .int .i64 n, .string s], .bool false])) w' := ⟨(k, n, s), false, rfl, .inr ⟨rfl, h⟩, hb⟩
def numV (r : Option Int) : Option CV := r.map fun n => if n ≤ 2147483647 then (2, n, ⟨#[]⟩) else (3, n, ⟨#[]⟩)
theorem set3_below {B : Nat} {a w : World} (h : Below B a w) {g : Nat} (hg : B ≤ g) (x y z : Value) : Below B a (((w.setCell ⟨g, 0, none⟩ x).setCell ⟨g, 1, none⟩ y).setCell ⟨g, 2, none⟩ z) := ((h.setCell (p := ⟨g, 0, none⟩) hg x).setCell (p := ⟨g, 1, none⟩) hg y).setCell (p := ⟨g, 2, none⟩) hg z
theorem dnumber_any (s : ByteArray) (w : World) : Calls Tryz.prog 249 #[.string s, .bool false] w (OkPost w (numV (amountL s.data.toList))) := by
 obtain ⟨w0, hw0⟩ : ∃ w0, w.alloc (.cells #[.int .i64 0, .int .i64 0, .string ⟨#[]⟩] 159) = w0 := ⟨_, rfl⟩
 have B0 := hid (show Below w.heap.size w w0 by rw [← hw0]; exact below_alloc w _)
 have N0 := hid (show NBox w0 w.heap.size (.int .i64 0) (.int .i64 0) (.string ⟨#[]⟩) by rw [← hw0]; exact NBox.fresh _ _ _ _ _)
 have HA := hid (amount_any s w0)
 have HP := hid (fun n (h : amountL s.data.toList = some n) => amount_pos h)
 obtain ⟨r, hr⟩ : ∃ r, amountL s.data.toList = r := ⟨_, rfl⟩
 rw [hr] at HA HP
 rw [hr]
 have HW0 := hid hw0
 clear hr hw0
 cases r with
 | none =>
  go_enter Tryz.func249, Tryz.ntmps249
  go_upto_region 1 with fail
  rw [HW0.out]
  go_wp2_with fail
  refine HA.out.mono ?_
  rintro e w1 ⟨rfl, hb1⟩
  have B1 := hid (B0.out.trans (hb1.mono B0.out.size))
  have N1 := hid (N0.out.below hb1)
  have z1 := N1.out.lt
  clear hb1
  obtain ⟨x0, x1, x2, xf⟩ := N1.out
  go_wp2
  have Y9 := N1.out.set (.int .i64 0) (.int .i64 0) (.string ⟨#[]⟩)
  exact bodyPost_ret (v := .tuple #[.agg #[.int .i64 0, .int .i64 0, .string ⟨#[]⟩], .bool false]) (by simp [results, Tryz.results249, go_sem, Y9.c0, Y9.c1, Y9.c2]) rfl (ok_none rfl (set3_below B1.out (Nat.le_refl _) _ _ _))
 | some n =>
  obtain ⟨hn0, hn1⟩ := HP.out n rfl
  have HNR := hid (fun w' => Val.narrow_any n w' ⟨by omega, by omega⟩)
  have HS := hid (show numV (some n) = some (if n ≤ 2147483647 then (2, n, ⟨#[]⟩) else (3, n, ⟨#[]⟩)) from rfl)
  by_cases hs : n ≤ 2147483647
  ·rw [if_pos hs] at HS
   have he : nrE n = 0 := by unfold nrE; rw [if_pos ⟨by omega, hs⟩]
   rw [he] at HNR
   clear he
   go_enter Tryz.func249, Tryz.ntmps249
   go_upto_region 1 with fail
   rw [HW0.out]
   go_wp2_with fail
   refine HA.out.mono ?_
   rintro e w1 ⟨rfl, hb1⟩
   have B1 := hid (B0.out.trans (hb1.mono B0.out.size))
   have N1 := hid (N0.out.below hb1)
   have z1 := N1.out.lt
   clear hb1
   go_wp2_with fail
   refine (HNR.out w1).mono ?_
   rintro e w2 ⟨rfl, rfl⟩
   obtain ⟨x0, x1, x2, xf⟩ := N1.out
   go_wp2
   have Y9 := N1.out.set (.int .i64 2) (.int .i64 n) (.string ⟨#[]⟩)
   exact bodyPost_ret (v := .tuple #[.agg #[.int .i64 2, .int .i64 n, .string ⟨#[]⟩], .bool true]) (by simp [results, Tryz.results249, go_sem, Y9.c0, Y9.c1, Y9.c2]) rfl (ok_some HS.out (set3_below B1.out (Nat.le_refl _) _ _ _))
  ·rw [if_neg hs] at HS
   have he : nrE n = 12 := by unfold nrE; rw [if_neg (fun h => hs h.2)]
   rw [he] at HNR
   clear he
   go_enter Tryz.func249, Tryz.ntmps249
   go_upto_region 1 with fail
   rw [HW0.out]
   go_wp2_with fail
   refine HA.out.mono ?_
   rintro e w1 ⟨rfl, hb1⟩
   have B1 := hid (B0.out.trans (hb1.mono B0.out.size))
   have N1 := hid (N0.out.below hb1)
   have z1 := N1.out.lt
   clear hb1
   go_wp2_with fail
   refine (HNR.out w1).mono ?_
   rintro e w2 ⟨rfl, rfl⟩
   obtain ⟨x0, x1, x2, xf⟩ := N1.out
   go_wp2
   have Y9 := N1.out.set (.int .i64 3) (.int .i64 n) (.string ⟨#[]⟩)
   exact bodyPost_ret (v := .tuple #[.agg #[.int .i64 3, .int .i64 n, .string ⟨#[]⟩], .bool true]) (by simp [results, Tryz.results249, go_sem, Y9.c0, Y9.c1, Y9.c2]) rfl (ok_some HS.out (set3_below B1.out (Nat.le_refl _) _ _ _))
theorem are_none (X : Option Addr) (k : Nat) (w : World) : Calls Tryz.prog 259 #[.slice X 0 k, .slice none 0 0] w fun e w' => e = .returned (.bool true) ∧ w = w' := by
 go_enter Tryz.func259, Tryz.ntmps259
 go_wp2
 go_loopw [14] (fun t wr => t = .int .i64 0 ∧ w = wr) (fun _ _ => 0)
 case atStart => exact ⟨rfl, rfl⟩
 case round =>
  obtain ⟨rfl, rfl⟩ := hrel
  go_wp2
  go_ret
  exact ⟨rfl, rfl⟩
def lits : List (List UInt8) := [sNum, sText, sTrue, sFalse, sNull]
theorem isLiteral_any (op tx : ByteArray) (hop : op.data.toList ∈ lits) (X : Option Addr) (k : Nat) (w : World) : Calls Tryz.prog 248 #[.agg #[.string op, .string tx, .slice X 0 k]] w fun e w' => e = .returned (.bool true) ∧ Below w.heap.size w w' := by
 have HR := hid (fun w' => are_none X k w')
 have HB := hid (fun (o : Obj) => below_alloc w o)
 have hcs : op.data.toList = [110, 117, 109] ∨ op.data.toList = [116, 101, 120, 116] ∨ op.data.toList = [116, 114, 117, 101] ∨ op.data.toList = [102, 97, 108, 115, 101] ∨ op.data.toList = [110, 117, 108, 108] := by simpa [lits, sNum, sText, sTrue, sFalse, sNull] using hop
 clear hop
 rcases hcs with h | h | h | h | h
 all_goals
  rw [← Lib.mk_data op, h]
  clear h
  go_enter Tryz.func248, Tryz.ntmps248
  go_wp2_with fail
  refine (HR.out _).mono ?_
  rintro e w1 ⟨rfl, rfl⟩
  go_wp2
  go_ret
  exact ⟨rfl, HB.out _⟩
def litD (op tx : List UInt8) : Option CV := if op = sNum then numV (amountL tx) else if op = sText then some (4, 0, ⟨tx.toArray⟩) else if tx ≠ [] then none else if op = sTrue then some (1, 1, ⟨#[]⟩) else if op = sFalse then some (1, 0, ⟨#[]⟩) else some nulV
end Go.Proofs.YthpmgnfmeldkjaaGreatDoor.Code
