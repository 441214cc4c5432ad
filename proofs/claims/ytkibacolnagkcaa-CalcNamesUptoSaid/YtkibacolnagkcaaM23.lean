/-
  The program's formed: is a node an expression's, as far as its Op, its Kids, and the place of a Text tell?
-/
import Derived.Test.YtkibacolnagkcaaM19
import Derived.Test.YtkibacolnagkcaaM16
import Derived.Test.YtkibacolnagkcaaM22
import Derived.Laws.RangeAny
namespace Go.Proofs.Ytkibacolnagkcaa.Code
open Go.ChangeShapes Go.WideShapes Go.ChangeAt Go.RowKit Val Elems
set_option linter.unusedVariables false
set_option linter.unusedSimpArgs false
theorem lit_ne {op : ByteArray} {s : List UInt8} (h : op.data.toList ≠ s) : (op.toList == s) = false := by
  rw [ByteArray.toList_eq]
  simpa using h
def formB (op tx : List UInt8) (n : Nat) : Bool := decide (kidsN op = some n) && (decide (tx = []) || decide (op ∈ [sNum, sText, sCol]))
theorem form_is {op : List UInt8} {m : Nat} {b : Bool} (h : kidsN op = some m) (hb : decide (op ∈ [sNum, sText, sCol]) = b) (tx : List UInt8) (n : Nat) : formB op tx n = ((n == m) && (decide (tx = []) || b)) := by
  unfold formB
  rw [h, hb]
  congr 1
  rw [Bool.eq_iff_iff, decide_eq_true_eq, beq_iff_eq, Option.some.injEq]
  exact eq_comm
theorem form_no {op : List UInt8} (h : kidsN op = none) (tx : List UInt8) (n : Nat) : formB op tx n = false := by
  unfold formB
  rw [h]
  rfl
theorem kidsN_no {op : List UInt8} (h0 : op ≠ [111, 114]) (h1 : op ≠ [97, 110, 100]) (h2 : op ≠ [61]) (h3 : op ≠ [60, 62]) (h4 : op ≠ [60]) (h5 : op ≠ [60, 61]) (h6 : op ≠ [62]) (h7 : op ≠ [62, 61]) (h8 : op ≠ [43]) (h9 : op ≠ [45]) (h10 : op ≠ [42]) (h11 : op ≠ [110, 111, 116]) (h12 : op ≠ [110, 101, 103]) (h13 : op ≠ [105, 115, 32, 110, 117, 108, 108]) (h14 : op ≠ [116, 114, 117, 101]) (h15 : op ≠ [102, 97, 108, 115, 101]) (h16 : op ≠ [110, 117, 108, 108]) (h17 : op ≠ [110, 117, 109]) (h18 : op ≠ [116, 101, 120, 116]) (h19 : op ≠ [99, 111, 108]) : kidsN op = none := by
  unfold kidsN sNum sText sTrue sFalse sNull sCol sNeg sNot sIsNull sAnd sOr tests sums
  simp [*]
set_option maxHeartbeats 8000000 in
set_option maxRecDepth 100000 in
theorem formed_any (op tx : ByteArray) (X : Option Addr) (n k : Nat) (w : World) (hn : n ≤ 2600000000000) : Calls Try.prog 29 #[.agg #[.string op, .string tx, .slice X n k]] w fun e w' => e = .returned (.bool (formB op.data.toList tx.data.toList n)) ∧ Below w.heap.size w w' := by
  have HB := Lib.hid (fun (o : Obj) => below_alloc w o)
  obtain ⟨p, hp⟩ : ∃ p, (tx.toList == []) = p := ⟨_, rfl⟩
  have hpp : decide (tx.data.toList = []) = p := by rw [← hp, ByteArray.toList_eq, Bool.eq_iff_iff]; simp
  have hpe : tx.data.isEmpty = p := by rw [← hp, ByteArray.toList_eq, Bool.eq_iff_iff]; simp
  by_cases h0 : op.data.toList = [111, 114]
  · obtain rfl : op = ⟨#[111, 114]⟩ := by rw [← Lib.mk_data op, h0]
    rw [form_is (m := 2) (b := false) (by decide) (by decide), hpp]
    clear h0 hpp
    obtain ⟨q, hq⟩ : ∃ q, (n == 2) = q := ⟨_, rfl⟩
    have hq2 : ((n : Int) == 2) = q := by rw [← hq, Bool.eq_iff_iff]; simp <;> omega
    rw [hq]
    cases q
    all_goals
      go_enter Try.func29, Try.ntmps29
      go_wp2
      go_ret
      exact ⟨retB (by simp [*]), HB.out _⟩
  by_cases h1 : op.data.toList = [97, 110, 100]
  · obtain rfl : op = ⟨#[97, 110, 100]⟩ := by rw [← Lib.mk_data op, h1]
    rw [form_is (m := 2) (b := false) (by decide) (by decide), hpp]
    clear h0 h1 hpp
    obtain ⟨q, hq⟩ : ∃ q, (n == 2) = q := ⟨_, rfl⟩
    have hq2 : ((n : Int) == 2) = q := by rw [← hq, Bool.eq_iff_iff]; simp <;> omega
    rw [hq]
    cases q
    all_goals
      go_enter Try.func29, Try.ntmps29
      go_wp2
      go_ret
      exact ⟨retB (by simp [*]), HB.out _⟩
  by_cases h2 : op.data.toList = [61]
  · obtain rfl : op = ⟨#[61]⟩ := by rw [← Lib.mk_data op, h2]
    rw [form_is (m := 2) (b := false) (by decide) (by decide), hpp]
    clear h0 h1 h2 hpp
    obtain ⟨q, hq⟩ : ∃ q, (n == 2) = q := ⟨_, rfl⟩
    have hq2 : ((n : Int) == 2) = q := by rw [← hq, Bool.eq_iff_iff]; simp <;> omega
    rw [hq]
    cases q
    all_goals
      go_enter Try.func29, Try.ntmps29
      go_wp2
      go_ret
      exact ⟨retB (by simp [*]), HB.out _⟩
  by_cases h3 : op.data.toList = [60, 62]
  · obtain rfl : op = ⟨#[60, 62]⟩ := by rw [← Lib.mk_data op, h3]
    rw [form_is (m := 2) (b := false) (by decide) (by decide), hpp]
    clear h0 h1 h2 h3 hpp
    obtain ⟨q, hq⟩ : ∃ q, (n == 2) = q := ⟨_, rfl⟩
    have hq2 : ((n : Int) == 2) = q := by rw [← hq, Bool.eq_iff_iff]; simp <;> omega
    rw [hq]
    cases q
    all_goals
      go_enter Try.func29, Try.ntmps29
      go_wp2
      go_ret
      exact ⟨retB (by simp [*]), HB.out _⟩
  by_cases h4 : op.data.toList = [60]
  · obtain rfl : op = ⟨#[60]⟩ := by rw [← Lib.mk_data op, h4]
    rw [form_is (m := 2) (b := false) (by decide) (by decide), hpp]
    clear h0 h1 h2 h3 h4 hpp
    obtain ⟨q, hq⟩ : ∃ q, (n == 2) = q := ⟨_, rfl⟩
    have hq2 : ((n : Int) == 2) = q := by rw [← hq, Bool.eq_iff_iff]; simp <;> omega
    rw [hq]
    cases q
    all_goals
      go_enter Try.func29, Try.ntmps29
      go_wp2
      go_ret
      exact ⟨retB (by simp [*]), HB.out _⟩
  by_cases h5 : op.data.toList = [60, 61]
  · obtain rfl : op = ⟨#[60, 61]⟩ := by rw [← Lib.mk_data op, h5]
    rw [form_is (m := 2) (b := false) (by decide) (by decide), hpp]
    clear h0 h1 h2 h3 h4 h5 hpp
    obtain ⟨q, hq⟩ : ∃ q, (n == 2) = q := ⟨_, rfl⟩
    have hq2 : ((n : Int) == 2) = q := by rw [← hq, Bool.eq_iff_iff]; simp <;> omega
    rw [hq]
    cases q
    all_goals
      go_enter Try.func29, Try.ntmps29
      go_wp2
      go_ret
      exact ⟨retB (by simp [*]), HB.out _⟩
  by_cases h6 : op.data.toList = [62]
  · obtain rfl : op = ⟨#[62]⟩ := by rw [← Lib.mk_data op, h6]
    rw [form_is (m := 2) (b := false) (by decide) (by decide), hpp]
    clear h0 h1 h2 h3 h4 h5 h6 hpp
    obtain ⟨q, hq⟩ : ∃ q, (n == 2) = q := ⟨_, rfl⟩
    have hq2 : ((n : Int) == 2) = q := by rw [← hq, Bool.eq_iff_iff]; simp <;> omega
    rw [hq]
    cases q
    all_goals
      go_enter Try.func29, Try.ntmps29
      go_wp2
      go_ret
      exact ⟨retB (by simp [*]), HB.out _⟩
  by_cases h7 : op.data.toList = [62, 61]
  · obtain rfl : op = ⟨#[62, 61]⟩ := by rw [← Lib.mk_data op, h7]
    rw [form_is (m := 2) (b := false) (by decide) (by decide), hpp]
    clear h0 h1 h2 h3 h4 h5 h6 h7 hpp
    obtain ⟨q, hq⟩ : ∃ q, (n == 2) = q := ⟨_, rfl⟩
    have hq2 : ((n : Int) == 2) = q := by rw [← hq, Bool.eq_iff_iff]; simp <;> omega
    rw [hq]
    cases q
    all_goals
      go_enter Try.func29, Try.ntmps29
      go_wp2
      go_ret
      exact ⟨retB (by simp [*]), HB.out _⟩
  by_cases h8 : op.data.toList = [43]
  · obtain rfl : op = ⟨#[43]⟩ := by rw [← Lib.mk_data op, h8]
    rw [form_is (m := 2) (b := false) (by decide) (by decide), hpp]
    clear h0 h1 h2 h3 h4 h5 h6 h7 h8 hpp
    obtain ⟨q, hq⟩ : ∃ q, (n == 2) = q := ⟨_, rfl⟩
    have hq2 : ((n : Int) == 2) = q := by rw [← hq, Bool.eq_iff_iff]; simp <;> omega
    rw [hq]
    cases q
    all_goals
      go_enter Try.func29, Try.ntmps29
      go_wp2
      go_ret
      exact ⟨retB (by simp [*]), HB.out _⟩
  by_cases h9 : op.data.toList = [45]
  · obtain rfl : op = ⟨#[45]⟩ := by rw [← Lib.mk_data op, h9]
    rw [form_is (m := 2) (b := false) (by decide) (by decide), hpp]
    clear h0 h1 h2 h3 h4 h5 h6 h7 h8 h9 hpp
    obtain ⟨q, hq⟩ : ∃ q, (n == 2) = q := ⟨_, rfl⟩
    have hq2 : ((n : Int) == 2) = q := by rw [← hq, Bool.eq_iff_iff]; simp <;> omega
    rw [hq]
    cases q
    all_goals
      go_enter Try.func29, Try.ntmps29
      go_wp2
      go_ret
      exact ⟨retB (by simp [*]), HB.out _⟩
  by_cases h10 : op.data.toList = [42]
  · obtain rfl : op = ⟨#[42]⟩ := by rw [← Lib.mk_data op, h10]
    rw [form_is (m := 2) (b := false) (by decide) (by decide), hpp]
    clear h0 h1 h2 h3 h4 h5 h6 h7 h8 h9 h10 hpp
    obtain ⟨q, hq⟩ : ∃ q, (n == 2) = q := ⟨_, rfl⟩
    have hq2 : ((n : Int) == 2) = q := by rw [← hq, Bool.eq_iff_iff]; simp <;> omega
    rw [hq]
    cases q
    all_goals
      go_enter Try.func29, Try.ntmps29
      go_wp2
      go_ret
      exact ⟨retB (by simp [*]), HB.out _⟩
  by_cases h11 : op.data.toList = [110, 111, 116]
  · obtain rfl : op = ⟨#[110, 111, 116]⟩ := by rw [← Lib.mk_data op, h11]
    rw [form_is (m := 1) (b := false) (by decide) (by decide), hpp]
    clear h0 h1 h2 h3 h4 h5 h6 h7 h8 h9 h10 h11 hpp
    obtain ⟨q, hq⟩ : ∃ q, (n == 1) = q := ⟨_, rfl⟩
    have hq2 : ((n : Int) == 1) = q := by rw [← hq, Bool.eq_iff_iff]; simp <;> omega
    rw [hq]
    cases q
    all_goals
      go_enter Try.func29, Try.ntmps29
      go_wp2
      go_ret
      exact ⟨retB (by simp [*]), HB.out _⟩
  by_cases h12 : op.data.toList = [110, 101, 103]
  · obtain rfl : op = ⟨#[110, 101, 103]⟩ := by rw [← Lib.mk_data op, h12]
    rw [form_is (m := 1) (b := false) (by decide) (by decide), hpp]
    clear h0 h1 h2 h3 h4 h5 h6 h7 h8 h9 h10 h11 h12 hpp
    obtain ⟨q, hq⟩ : ∃ q, (n == 1) = q := ⟨_, rfl⟩
    have hq2 : ((n : Int) == 1) = q := by rw [← hq, Bool.eq_iff_iff]; simp <;> omega
    rw [hq]
    cases q
    all_goals
      go_enter Try.func29, Try.ntmps29
      go_wp2
      go_ret
      exact ⟨retB (by simp [*]), HB.out _⟩
  by_cases h13 : op.data.toList = [105, 115, 32, 110, 117, 108, 108]
  · obtain rfl : op = ⟨#[105, 115, 32, 110, 117, 108, 108]⟩ := by rw [← Lib.mk_data op, h13]
    rw [form_is (m := 1) (b := false) (by decide) (by decide), hpp]
    clear h0 h1 h2 h3 h4 h5 h6 h7 h8 h9 h10 h11 h12 h13 hpp
    obtain ⟨q, hq⟩ : ∃ q, (n == 1) = q := ⟨_, rfl⟩
    have hq2 : ((n : Int) == 1) = q := by rw [← hq, Bool.eq_iff_iff]; simp <;> omega
    rw [hq]
    cases q
    all_goals
      go_enter Try.func29, Try.ntmps29
      go_wp2
      go_ret
      exact ⟨retB (by simp [*]), HB.out _⟩
  by_cases h14 : op.data.toList = [116, 114, 117, 101]
  · obtain rfl : op = ⟨#[116, 114, 117, 101]⟩ := by rw [← Lib.mk_data op, h14]
    rw [form_is (m := 0) (b := false) (by decide) (by decide), hpp]
    clear h0 h1 h2 h3 h4 h5 h6 h7 h8 h9 h10 h11 h12 h13 h14 hpp
    obtain ⟨q, hq⟩ : ∃ q, (n == 0) = q := ⟨_, rfl⟩
    have hq2 : ((n : Int) == 0) = q := by rw [← hq, Bool.eq_iff_iff]; simp <;> omega
    rw [hq]
    cases q
    all_goals
      go_enter Try.func29, Try.ntmps29
      go_wp2
      go_ret
      exact ⟨retB (by simp [*]), HB.out _⟩
  by_cases h15 : op.data.toList = [102, 97, 108, 115, 101]
  · obtain rfl : op = ⟨#[102, 97, 108, 115, 101]⟩ := by rw [← Lib.mk_data op, h15]
    rw [form_is (m := 0) (b := false) (by decide) (by decide), hpp]
    clear h0 h1 h2 h3 h4 h5 h6 h7 h8 h9 h10 h11 h12 h13 h14 h15 hpp
    obtain ⟨q, hq⟩ : ∃ q, (n == 0) = q := ⟨_, rfl⟩
    have hq2 : ((n : Int) == 0) = q := by rw [← hq, Bool.eq_iff_iff]; simp <;> omega
    rw [hq]
    cases q
    all_goals
      go_enter Try.func29, Try.ntmps29
      go_wp2
      go_ret
      exact ⟨retB (by simp [*]), HB.out _⟩
  by_cases h16 : op.data.toList = [110, 117, 108, 108]
  · obtain rfl : op = ⟨#[110, 117, 108, 108]⟩ := by rw [← Lib.mk_data op, h16]
    rw [form_is (m := 0) (b := false) (by decide) (by decide), hpp]
    clear h0 h1 h2 h3 h4 h5 h6 h7 h8 h9 h10 h11 h12 h13 h14 h15 h16 hpp
    obtain ⟨q, hq⟩ : ∃ q, (n == 0) = q := ⟨_, rfl⟩
    have hq2 : ((n : Int) == 0) = q := by rw [← hq, Bool.eq_iff_iff]; simp <;> omega
    rw [hq]
    cases q
    all_goals
      go_enter Try.func29, Try.ntmps29
      go_wp2
      go_ret
      exact ⟨retB (by simp [*]), HB.out _⟩
  by_cases h17 : op.data.toList = [110, 117, 109]
  · obtain rfl : op = ⟨#[110, 117, 109]⟩ := by rw [← Lib.mk_data op, h17]
    rw [form_is (m := 0) (b := true) (by decide) (by decide), hpp]
    clear h0 h1 h2 h3 h4 h5 h6 h7 h8 h9 h10 h11 h12 h13 h14 h15 h16 h17 hpp
    obtain ⟨q, hq⟩ : ∃ q, (n == 0) = q := ⟨_, rfl⟩
    have hq2 : ((n : Int) == 0) = q := by rw [← hq, Bool.eq_iff_iff]; simp <;> omega
    rw [hq]
    cases q
    all_goals
      go_enter Try.func29, Try.ntmps29
      go_wp2
      go_ret
      exact ⟨retB (by simp [*]), HB.out _⟩
  by_cases h18 : op.data.toList = [116, 101, 120, 116]
  · obtain rfl : op = ⟨#[116, 101, 120, 116]⟩ := by rw [← Lib.mk_data op, h18]
    rw [form_is (m := 0) (b := true) (by decide) (by decide), hpp]
    clear h0 h1 h2 h3 h4 h5 h6 h7 h8 h9 h10 h11 h12 h13 h14 h15 h16 h17 h18 hpp
    obtain ⟨q, hq⟩ : ∃ q, (n == 0) = q := ⟨_, rfl⟩
    have hq2 : ((n : Int) == 0) = q := by rw [← hq, Bool.eq_iff_iff]; simp <;> omega
    rw [hq]
    cases q
    all_goals
      go_enter Try.func29, Try.ntmps29
      go_wp2
      go_ret
      exact ⟨retB (by simp [*]), HB.out _⟩
  by_cases h19 : op.data.toList = [99, 111, 108]
  · obtain rfl : op = ⟨#[99, 111, 108]⟩ := by rw [← Lib.mk_data op, h19]
    rw [form_is (m := 0) (b := true) (by decide) (by decide), hpp]
    clear h0 h1 h2 h3 h4 h5 h6 h7 h8 h9 h10 h11 h12 h13 h14 h15 h16 h17 h18 h19 hpp
    obtain ⟨q, hq⟩ : ∃ q, (n == 0) = q := ⟨_, rfl⟩
    have hq2 : ((n : Int) == 0) = q := by rw [← hq, Bool.eq_iff_iff]; simp <;> omega
    rw [hq]
    cases q
    all_goals
      go_enter Try.func29, Try.ntmps29
      go_wp2
      go_ret
      exact ⟨retB (by simp [*]), HB.out _⟩
  have f0 := lit_ne h0
  have f1 := lit_ne h1
  have f2 := lit_ne h2
  have f3 := lit_ne h3
  have f4 := lit_ne h4
  have f5 := lit_ne h5
  have f6 := lit_ne h6
  have f7 := lit_ne h7
  have f8 := lit_ne h8
  have f9 := lit_ne h9
  have f10 := lit_ne h10
  have f11 := lit_ne h11
  have f12 := lit_ne h12
  have f13 := lit_ne h13
  have f14 := lit_ne h14
  have f15 := lit_ne h15
  have f16 := lit_ne h16
  have f17 := lit_ne h17
  have f18 := lit_ne h18
  have f19 := lit_ne h19
  rw [form_no (kidsN_no h0 h1 h2 h3 h4 h5 h6 h7 h8 h9 h10 h11 h12 h13 h14 h15 h16 h17 h18 h19)]
  clear h0 h1 h2 h3 h4 h5 h6 h7 h8 h9 h10 h11 h12 h13 h14 h15 h16 h17 h18 h19 hpp
  go_enter Try.func29, Try.ntmps29
  go_wp2
  go_ret
  exact ⟨rfl, HB.out _⟩
end Go.Proofs.Ytkibacolnagkcaa.Code
/-
  The program's literals: the number that figures are; a literal's value, of the kind that it has by itself, and of a kind.
-/
namespace Go.Proofs.Ytkibacolnagkcaa.Code
open Go.ChangeShapes Go.WideShapes Go.ChangeAt Go.RowKit Val Elems
set_option linter.unusedVariables false
set_option linter.unusedSimpArgs false
theorem iter_below (w : World) (s : ByteArray) (k : Nat) : Below w.heap.size w (w.iter s k) := below_alloc w _
def AmtPost (w : World) (r : Option Int) (e : Ending) (w' : World) : Prop := e = .returned (.tuple #[.int .i64 (r.getD 0), .bool r.isSome]) ∧ Below w.heap.size w w'
theorem amt_none {w w' : World} {r : Option Int} (h : r = none) (hb : Below w.heap.size w w') : AmtPost w r (.returned (.tuple #[.int .i64 0, .bool false])) w' := by subst h; exact ⟨rfl, hb⟩
theorem amt_some {w w' : World} {r : Option Int} {n : Int} (h : r = some n) (hb : Below w.heap.size w w') : AmtPost w r (.returned (.tuple #[.int .i64 n, .bool true])) w' := by subst h; exact ⟨rfl, hb⟩
theorem byte_at (s : ByteArray) (k : Nat) (h : k < s.size) : s.data.toList[k]'(by exact h) = s[k] := rfl
set_option maxHeartbeats 4000000 in
set_option maxRecDepth 100000 in
theorem amount_any (s : ByteArray) (w : World) : Calls Try.prog 99 #[.string s] w (AmtPost w (amountL s.data.toList)) := by
  have hsl : s.data.toList.length = s.size := rfl
  by_cases h1 : s.size < 1
  · have HN := Lib.hid (amount_len (tx := s.data.toList) (by omega))
    have e1 : decide ((s.size : Int) < 1) = true := by simp; omega
    have B0 := Lib.hid (Below.refl w.heap.size w)
    clear hsl h1
    go_enter Try.func99, Try.ntmps99
    go_wp2
    go_ret2
    exact amt_none HN.out B0.out
  by_cases h2 : 19 < s.size
  · have HN := Lib.hid (amount_len (tx := s.data.toList) (by omega))
    have e1 : decide ((s.size : Int) < 1) = false := by simp; omega
    have e2 : decide ((19 : Int) < (s.size : Int)) = true := by simp; omega
    have B0 := Lib.hid (Below.refl w.heap.size w)
    clear hsl h1 h2
    go_enter Try.func99, Try.ntmps99
    go_wp2
    go_ret2
    exact amt_none HN.out B0.out
  have e1 : decide ((s.size : Int) < 1) = false := by simp; omega
  have e2 : decide ((19 : Int) < (s.size : Int)) = false := by simp; omega
  have H12 := Lib.hid (show 1 ≤ s.data.toList.length ∧ s.data.toList.length ≤ 19 by omega)
  have HBI := Lib.hid (fun k => iter_below w s k)
  clear h1 h2 hsl
  go_enter Try.func99, Try.ntmps99
  go_wp2
  go_loopw [4] (fun n w' => ∃ (k : Nat), k ≤ s.size ∧ w' = w.iter s k ∧ n = .int .i64 (foldI (s.data.toList.take k) 0) ∧ foldI (s.data.toList.take k) 0 ≤ 9223372036854775807 ∧ (∀ j (hj : j < s.data.toList.length), j < k → figB s.data.toList[j] = true)) (fun _ w' => s.size - w'.iterPos w.heap.size)
  case atStart => exact ⟨0, by omega, rfl, rfl, by simp [foldI], fun j _ h => absurd h (Nat.not_lt_zero _)⟩
  case round =>
    obtain ⟨k, hk, rfl, rfl, hmx, hfg⟩ := hrel
    have HFG := Lib.hid hfg
    clear hfg
    have hpos := foldI_pos (s.data.toList.take k)
    by_cases hks : k < s.size
    · have hkl : k < s.data.toList.length := hks
      by_cases hasc : s.data.toList[k].toNat < 128
      · have hnx : ∀ ty, (Instr.next (.pointer (some ⟨w.heap.size, 0, none⟩)) true ty).run Try.prog (w.iter s k) = .ok (.tuple #[.bool true, .int .i64 (k : Int), .int .i32 (s.data.toList[k].toNat : Int)]) (w.iter s (k + 1)) := fun ty => run_next_ascii w s k ty hks hasc
        have HBAD := Lib.hid (fun (h : figB s.data.toList[k] = false) => amount_no hkl h)
        have HOVER := Lib.hid (fun h => amount_over (tx := s.data.toList) (k := k) hkl h)
        have HTAKE := Lib.hid (foldI_take s.data.toList k hkl)
        have HFG2 := Lib.hid (fun (h : figB s.data.toList[k] = true) => show ∀ j (hj : j < s.data.toList.length), j < k + 1 → figB s.data.toList[j] = true from fun j hj h2 => if e : j = k then by subst e; exact h else HFG.out j hj (by omega))
        have HFN := Lib.hid (fun (h : figB s.data.toList[k] = true) => fig_num h)
        have HFB := Lib.hid (show figB s.data.toList[k] = (decide (48 ≤ s.data.toList[k].toNat) && decide (s.data.toList[k].toNat ≤ 57)) by unfold figB; first | rfl | (rw [Bool.eq_iff_iff]; simp))
        obtain ⟨c, hc⟩ : ∃ c, s.data.toList[k] = c := ⟨_, rfl⟩
        simp only [hc] at hnx HBAD HOVER HTAKE HFG2 HFN HFB hasc
        unfold digI at HOVER HTAKE
        obtain ⟨C, hC⟩ : ∃ C, c.toNat = C := ⟨_, rfl⟩
        simp only [hC] at hnx HOVER HTAKE HFN HFB hasc
        obtain ⟨F, hF⟩ : ∃ F, foldI (s.data.toList.take k) 0 = F := ⟨_, rfl⟩
        rw [hF] at hmx hpos HOVER HTAKE ⊢
        clear hc hC hF
        by_cases hlo : C < 48
        · have e3 : decide ((C : Int) < 48) = true := by simp; omega
          have HN := Lib.hid (HBAD.out (by rw [HFB.out]; simp; omega))
          go_wp2
          go_ret2
          exact amt_none HN.out (HBI.out _)
        by_cases hhi : 57 < C
        · have e3 : decide ((C : Int) < 48) = false := by simp; omega
          have e4 : decide ((57 : Int) < (C : Int)) = true := by simp; omega
          have HN := Lib.hid (HBAD.out (by rw [HFB.out]; simp; omega))
          go_wp2
          go_ret2
          exact amt_none HN.out (HBI.out _)
        have e3 : decide ((C : Int) < 48) = false := by simp; omega
        have e4 : decide ((57 : Int) < (C : Int)) = false := by simp; omega
        obtain ⟨D, hD⟩ : ∃ D : Nat, C = 48 + D := ⟨C - 48, by omega⟩
        have hDl : D ≤ 9 := by omega
        have HN2 := Lib.hid (HFG2.out (by rw [HFB.out]; simp; omega))
        have e5 : IntKind.i32.wrap ((C : Int) - 48) = (D : Int) := by rw [hD, IntKind.wrap_i32]; omega
        have e6 : IntKind.i64.wrap (D : Int) = (D : Int) := by rw [IntKind.wrap_i64]; omega
        have HM := Lib.hid (fun w' => Num.mul_any F 10 w' ⟨by omega, by omega⟩ ⟨by decide, by decide⟩)
        have HAD := Lib.hid (fun (h : Num.fitE (F * 10) = 0) w' => Num.add_any (Num.fitV (F * 10)) (D : Int) w' (Num.fitV_fits _) ⟨by omega, by omega⟩)
        have HTK := Lib.hid (show foldI (s.data.toList.take (k + 1)) 0 = F * 10 + (D : Int) by rw [HTAKE.out]; omega)
        have HOV := Lib.hid (fun (h : 9223372036854775807 < F * 10 + (D : Int)) => HOVER.out (by omega))
        have hDn : (0 : Int) ≤ (D : Int) := by omega
        have hD9 : (D : Int) ≤ 9 := by omega
        obtain ⟨d, hd⟩ : ∃ d : Int, (D : Int) = d := ⟨_, rfl⟩
        rw [hd] at e5 e6 HAD HTK HOV hDn hD9
        have HV1 := Lib.hid (fun (h : Num.fitE (F * 10) = 0) => show Num.fitV (F * 10) = F * 10 ∧ F * 10 ≤ 9223372036854775807 by
          have : F * 10 ≤ 9223372036854775807 := by
            by_cases h9 : -9223372036854775808 ≤ F * 10 ∧ F * 10 ≤ 9223372036854775807
            · exact h9.2
            · rw [Num.fitE_out h9] at h; exact absurd h (by decide)
          exact ⟨Num.fitV_in ⟨by omega, this⟩, this⟩)
        have HV0 := Lib.hid (fun (h : Num.fitE (F * 10) ≠ 0) => show 9223372036854775807 < F * 10 + d by
          by_cases h9 : F * 10 ≤ 9223372036854775807
          · exact absurd (Num.fitE_in ⟨by omega, h9⟩) h
          · omega)
        obtain ⟨E, hE⟩ : ∃ E, Num.fitE (F * 10) = E := ⟨_, rfl⟩
        obtain ⟨V, hV⟩ : ∃ V, Num.fitV (F * 10) = V := ⟨_, rfl⟩
        rw [hE] at HM HAD HV1 HV0
        rw [hV] at HM HAD HV1
        clear hE hV hd hD hDl hlo hhi
        go_wp2_with fail
        refine (HM.out _).mono ?_
        rintro e w1 ⟨rfl, rfl⟩
        by_cases hE0 : E = 0
        · subst hE0
          obtain ⟨hv1, hv2⟩ := HV1.out rfl
          have HAD2 := Lib.hid (HAD.out rfl)
          rw [hv1] at HAD2
          have HS0 := Lib.hid (fun (h : Num.fitE (F * 10 + d) = 0) => show Num.fitV (F * 10 + d) = F * 10 + d ∧ F * 10 + d ≤ 9223372036854775807 by
            have : F * 10 + d ≤ 9223372036854775807 := by
              by_cases h9 : -9223372036854775808 ≤ F * 10 + d ∧ F * 10 + d ≤ 9223372036854775807
              · exact h9.2
              · rw [Num.fitE_out h9] at h; exact absurd h (by decide)
            exact ⟨Num.fitV_in ⟨by omega, this⟩, this⟩)
          have HS1 := Lib.hid (fun (h : Num.fitE (F * 10 + d) ≠ 0) => show 9223372036854775807 < F * 10 + d by
            by_cases h9 : F * 10 + d ≤ 9223372036854775807
            · exact absurd (Num.fitE_in ⟨by omega, h9⟩) h
            · omega)
          obtain ⟨E2, hE2⟩ : ∃ E, Num.fitE (F * 10 + d) = E := ⟨_, rfl⟩
          obtain ⟨V2, hV2⟩ : ∃ V, Num.fitV (F * 10 + d) = V := ⟨_, rfl⟩
          rw [hE2] at HAD2 HS0 HS1
          rw [hV2] at HAD2 HS0
          rw [← hv1] at HAD2
          clear hE2 hV2 hv2
          subst hv1
          clear HV1 HV0 HM HAD
          go_wp2_with fail
          refine (HAD2.out _).mono ?_
          rintro e w1 ⟨rfl, rfl⟩
          by_cases hE1 : E2 = 0
          · subst hE1
            have HZ := Lib.hid (HS0.out rfl)
            go_wp2
            go_roundw
            case rel => exact ⟨k + 1, by omega, rfl, by rw [HTK.out, HZ.out.1], by rw [HTK.out]; exact HZ.out.2, HN2.out⟩
            case measure => simp; omega
          · have e7 : (E2 != 0) = true := by simpa using hE1
            have HN := Lib.hid (HOV.out (HS1.out hE1))
            clear hE1
            go_wp2
            go_ret2
            exact amt_none HN.out (HBI.out _)
        · have e7 : (E != 0) = true := by simpa using hE0
          have HN := Lib.hid (HOV.out (HV0.out hE0))
          clear hE0
          go_wp2
          go_ret2
          exact amt_none HN.out (HBI.out _)
      · have hnx : ∀ ty, (Instr.next (.pointer (some ⟨w.heap.size, 0, none⟩)) true ty).run Try.prog (w.iter s k) = .ok (.tuple #[.bool true, .int .i64 (k : Int), .int .i32 ((Utf8.decode s k).1 : Int)]) (w.iter s (k + (Utf8.decode s k).2)) := fun ty => run_next_any w s k ty hks
        have HN := Lib.hid (amount_no (tx := s.data.toList) hkl (by unfold figB; rw [decide_eq_false (show ¬ s.data.toList[k].toNat ≤ 57 by omega), Bool.and_false]))
        have hge := (decode_high s k hks (by have : s.data.toList[k] = s[k] := rfl; rw [← this]; omega)).1
        obtain ⟨C, hC⟩ : ∃ C, (Utf8.decode s k).1 = C := ⟨_, rfl⟩
        obtain ⟨G, hG⟩ : ∃ C, k + (Utf8.decode s k).2 = C := ⟨_, rfl⟩
        rw [hC] at hge
        simp only [hC, hG] at hnx
        have e3 : decide ((C : Int) < 48) = false := by simp; omega
        have e4 : decide ((57 : Int) < (C : Int)) = true := by simp; omega
        clear hC hG hasc
        go_wp2
        go_ret2
        exact amt_none HN.out (HBI.out _)
    · obtain rfl : k = s.size := by omega
      have hnx : ∀ ty, (Instr.next (.pointer (some ⟨w.heap.size, 0, none⟩)) true ty).run Try.prog (w.iter s s.size) = .ok (.tuple #[.bool false]) (w.iter s s.size) := fun ty => run_next_end w s s.size ty (Nat.lt_irrefl _)
      have htk : s.data.toList.take s.size = s.data.toList := List.take_length
      rw [htk] at hmx ⊢
      have HN := Lib.hid (amount_yes H12.out (fun j hj => HFG.out j hj hj) hmx)
      clear htk
      go_wp2
      go_ret2
      exact amt_some HN.out (HBI.out _)
end Go.Proofs.Ytkibacolnagkcaa.Code
/-
  The program's literals: a literal's value, of the kind that it has by itself; of a kind; of the widest kind that it needs.
-/
namespace Go.Proofs.Ytkibacolnagkcaa.Code
open Go.ChangeShapes Go.WideShapes Go.ChangeAt Go.RowKit Val Elems
set_option linter.unusedVariables false
set_option linter.unusedSimpArgs false
/-- a value, and whether there is one -/
def OkPost (w : World) (r : Option CV) (e : Ending) (w' : World) : Prop := ∃ (v : CV) (b : Bool), e = .returned (.tuple #[.agg #[.int .i64 v.1, .int .i64 v.2.1, .string v.2.2], .bool b]) ∧ ((b = true ∧ r = some v) ∨ (b = false ∧ r = none)) ∧ Below w.heap.size w w'
theorem ok_some {w w' : World} {r : Option CV} {k n : Int} {s : ByteArray} (h : r = some (k, n, s)) (hb : Below w.heap.size w w') : OkPost w r (.returned (.tuple #[.agg #[.int .i64 k, .int .i64 n, .string s], .bool true])) w' := ⟨(k, n, s), true, rfl, .inl ⟨rfl, h⟩, hb⟩
theorem ok_none {w w' : World} {r : Option CV} {k n : Int} {s : ByteArray} (h : r = none) (hb : Below w.heap.size w w') : OkPost w r (.returned (.tuple #[.agg #[.int .i64 k, .int .i64 n, .string s], .bool false])) w' := ⟨(k, n, s), false, rfl, .inr ⟨rfl, h⟩, hb⟩
def numV (r : Option Int) : Option CV := r.map fun n => if n ≤ 2147483647 then (2, n, ⟨#[]⟩) else (3, n, ⟨#[]⟩)
theorem set3_below {B : Nat} {a w : World} (h : Below B a w) {g : Nat} (hg : B ≤ g) (x y z : Value) : Below B a (((w.setCell ⟨g, 0, none⟩ x).setCell ⟨g, 1, none⟩ y).setCell ⟨g, 2, none⟩ z) := ((h.setCell (p := ⟨g, 0, none⟩) hg x).setCell (p := ⟨g, 1, none⟩) hg y).setCell (p := ⟨g, 2, none⟩) hg z
set_option maxHeartbeats 4000000 in
set_option maxRecDepth 100000 in
theorem dnumber_any (s : ByteArray) (w : World) : Calls Try.prog 89 #[.string s, .bool false] w (OkPost w (numV (amountL s.data.toList))) := by
  obtain ⟨w0, hw0⟩ : ∃ w0, w.alloc (.cells #[.int .i64 0, .int .i64 0, .string ⟨#[]⟩] 38) = w0 := ⟨_, rfl⟩
  have B0 := Lib.hid (show Below w.heap.size w w0 by rw [← hw0]; exact below_alloc w _)
  have N0 := Lib.hid (show NBox w0 w.heap.size (.int .i64 0) (.int .i64 0) (.string ⟨#[]⟩) by rw [← hw0]; exact NBox.fresh _ _ _ _ _)
  have HA := Lib.hid (amount_any s w0)
  have HP := Lib.hid (fun n (h : amountL s.data.toList = some n) => amount_pos h)
  obtain ⟨r, hr⟩ : ∃ r, amountL s.data.toList = r := ⟨_, rfl⟩
  rw [hr] at HA HP
  rw [hr]
  have HW0 := Lib.hid hw0
  clear hr hw0
  cases r with
  | none =>
    go_enter Try.func89, Try.ntmps89
    go_upto_region 1 with fail
    rw [HW0.out]
    go_wp2_with fail
    refine HA.out.mono ?_
    rintro e w1 ⟨rfl, hb1⟩
    have B1 := Lib.hid (B0.out.trans (hb1.mono B0.out.size))
    have N1 := Lib.hid (N0.out.below hb1)
    have z1 := N1.out.lt
    clear hb1
    obtain ⟨x0, x1, x2, xf⟩ := N1.out
    go_wp2
    have Y9 := N1.out.set (.int .i64 0) (.int .i64 0) (.string ⟨#[]⟩)
    exact bodyPost_ret (v := .tuple #[.agg #[.int .i64 0, .int .i64 0, .string ⟨#[]⟩], .bool false]) (by simp [results, Try.results89, go_sem, Y9.c0, Y9.c1, Y9.c2]) rfl (ok_none rfl (set3_below B1.out (Nat.le_refl _) _ _ _))
  | some n =>
    obtain ⟨hn0, hn1⟩ := HP.out n rfl
    have HNR := Lib.hid (fun w' => Val.narrow_any n w' ⟨by omega, by omega⟩)
    have HS := Lib.hid (show numV (some n) = some (if n ≤ 2147483647 then (2, n, ⟨#[]⟩) else (3, n, ⟨#[]⟩)) from rfl)
    by_cases hs : n ≤ 2147483647
    · rw [if_pos hs] at HS
      have he : nrE n = 0 := by unfold nrE; rw [if_pos ⟨by omega, hs⟩]
      rw [he] at HNR
      clear he
      go_enter Try.func89, Try.ntmps89
      go_upto_region 1 with fail
      rw [HW0.out]
      go_wp2_with fail
      refine HA.out.mono ?_
      rintro e w1 ⟨rfl, hb1⟩
      have B1 := Lib.hid (B0.out.trans (hb1.mono B0.out.size))
      have N1 := Lib.hid (N0.out.below hb1)
      have z1 := N1.out.lt
      clear hb1
      go_wp2_with fail
      refine (HNR.out w1).mono ?_
      rintro e w2 ⟨rfl, rfl⟩
      obtain ⟨x0, x1, x2, xf⟩ := N1.out
      go_wp2
      have Y9 := N1.out.set (.int .i64 2) (.int .i64 n) (.string ⟨#[]⟩)
      exact bodyPost_ret (v := .tuple #[.agg #[.int .i64 2, .int .i64 n, .string ⟨#[]⟩], .bool true]) (by simp [results, Try.results89, go_sem, Y9.c0, Y9.c1, Y9.c2]) rfl (ok_some HS.out (set3_below B1.out (Nat.le_refl _) _ _ _))
    · rw [if_neg hs] at HS
      have he : nrE n = 12 := by unfold nrE; rw [if_neg (fun h => hs h.2)]
      rw [he] at HNR
      clear he
      go_enter Try.func89, Try.ntmps89
      go_upto_region 1 with fail
      rw [HW0.out]
      go_wp2_with fail
      refine HA.out.mono ?_
      rintro e w1 ⟨rfl, hb1⟩
      have B1 := Lib.hid (B0.out.trans (hb1.mono B0.out.size))
      have N1 := Lib.hid (N0.out.below hb1)
      have z1 := N1.out.lt
      clear hb1
      go_wp2_with fail
      refine (HNR.out w1).mono ?_
      rintro e w2 ⟨rfl, rfl⟩
      obtain ⟨x0, x1, x2, xf⟩ := N1.out
      go_wp2
      have Y9 := N1.out.set (.int .i64 3) (.int .i64 n) (.string ⟨#[]⟩)
      exact bodyPost_ret (v := .tuple #[.agg #[.int .i64 3, .int .i64 n, .string ⟨#[]⟩], .bool true]) (by simp [results, Try.results89, go_sem, Y9.c0, Y9.c1, Y9.c2]) rfl (ok_some HS.out (set3_below B1.out (Nat.le_refl _) _ _ _))
theorem are_none (X : Option Addr) (k : Nat) (w : World) : Calls Try.prog 97 #[.slice X 0 k, .slice none 0 0] w fun e w' => e = .returned (.bool true) ∧ w = w' := by
  go_enter Try.func97, Try.ntmps97
  go_wp2
  go_loopw [14] (fun t wr => t = .int .i64 0 ∧ w = wr) (fun _ _ => 0)
  case atStart => exact ⟨rfl, rfl⟩
  case round =>
    obtain ⟨rfl, rfl⟩ := hrel
    go_wp2
    go_ret
    exact ⟨rfl, rfl⟩
def lits : List (List UInt8) := [sNum, sText, sTrue, sFalse, sNull]
set_option maxHeartbeats 4000000 in
set_option maxRecDepth 100000 in
theorem isLiteral_any (op tx : ByteArray) (hop : op.data.toList ∈ lits) (X : Option Addr) (k : Nat) (w : World) : Calls Try.prog 88 #[.agg #[.string op, .string tx, .slice X 0 k]] w fun e w' => e = .returned (.bool true) ∧ Below w.heap.size w w' := by
  have HR := Lib.hid (fun w' => are_none X k w')
  have HB := Lib.hid (fun (o : Obj) => below_alloc w o)
  have hcs : op.data.toList = [110, 117, 109] ∨ op.data.toList = [116, 101, 120, 116] ∨ op.data.toList = [116, 114, 117, 101] ∨ op.data.toList = [102, 97, 108, 115, 101] ∨ op.data.toList = [110, 117, 108, 108] := by simpa [lits, sNum, sText, sTrue, sFalse, sNull] using hop
  clear hop
  rcases hcs with h | h | h | h | h
  all_goals
    rw [← Lib.mk_data op, h]
    clear h
    go_enter Try.func88, Try.ntmps88
    go_wp2_with fail
    refine (HR.out _).mono ?_
    rintro e w1 ⟨rfl, rfl⟩
    go_wp2
    go_ret
    exact ⟨rfl, HB.out _⟩
/-- a literal's value, of the kind that it has by itself -/
def litD (op tx : List UInt8) : Option CV := if op = sNum then numV (amountL tx) else if op = sText then some (4, 0, ⟨tx.toArray⟩) else if tx ≠ [] then none else if op = sTrue then some (1, 1, ⟨#[]⟩) else if op = sFalse then some (1, 0, ⟨#[]⟩) else some nulV
end Go.Proofs.Ytkibacolnagkcaa.Code
