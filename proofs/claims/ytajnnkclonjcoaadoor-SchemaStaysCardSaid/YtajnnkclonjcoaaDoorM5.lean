/-
  The contract of the document's Right of a value, for every argument (cut out of CodeVal).
-/
import Derived.Test.YtajnnkclonjcoaaDoorM3
import Derived.Test.YtajnnkclonjcoaaDoorM4
import Derived.Test.YtajnnkclonjcoaaDoorChecked
import Derived.Test.YtajnnkclonjcoaaDoorShelf
import Derived.Shelf.Strings.BuilderK
import Derived.Lib.OthersKept
import Derived.WalkKit
import Derived.ProofKit
import Derived.Below
import Derived.Test.YtajnnkclonjcoaaDoorM1
import Derived.Deep.RegionHeld3
import Derived.Lib.SmallJoins
namespace Go.Proofs.YtajnnkclonjcoaaDoor.Val
open Go.ChangeShapes Go.WideShapes Go.ChangeAt Go.RowKit
set_option linter.unusedVariables false

end Go.Proofs.YtajnnkclonjcoaaDoor.Val
namespace Go.Proofs.YtajnnkclonjcoaaDoor.Code
open Go.ChangeShapes Go.WideShapes Go.ChangeAt Go.RowKit Val
end Go.Proofs.YtajnnkclonjcoaaDoor.Code
namespace Go.Proofs.YtajnnkclonjcoaaDoor.Val
end Go.Proofs.YtajnnkclonjcoaaDoor.Val
/-
  The contract of the document's Right of rows.
-/
namespace Go.Proofs.YtajnnkclonjcoaaDoor.Code
open Go.ChangeShapes Go.WideShapes Go.ChangeAt Go.RowKit Val
set_option linter.unusedVariables false

theorem rightL_snoc (l : List (Int × Int × ByteArray)) (k : Nat) (h : k < l.length) : rightL (l.take (k + 1)) = (rightL (l.take k) && rightV l[k]) := by
  unfold rightL
  rw [List.take_succ_eq_append_getElem h, List.all_append]
  simp
theorem rightL_not {l : List (Int × Int × ByteArray)} {k : Nat} (h : k < l.length) (g : rightV l[k] = false) : rightL l = false := by
  unfold rightL
  rw [List.all_eq_false]
  exact ⟨l[k], List.getElem_mem h, by simp [g]⟩
/-- whether a row is right -/
def rightR (l : List (Int × Int × ByteArray)) : Bool := decide (l.length ≤ 24) && rightL l
end Go.Proofs.YtajnnkclonjcoaaDoor.Code
/-
  Contracts of num.Narrow, value.holds and value.Right, for every argument (cut out of CodeVal).
-/
namespace Go.Proofs.YtajnnkclonjcoaaDoor.Val
open Go.ChangeShapes Go.WideShapes Go.ChangeAt Go.RowKit
set_option linter.unusedVariables false

def nrE (n : Int) : Int := if -2147483648 ≤ n ∧ n ≤ 2147483647 then 0 else 12
def nrV (n : Int) : Int := if -2147483648 ≤ n ∧ n ≤ 2147483647 then n else 0

theorem narrow_any (a : Int) (w : World) (ha : fits a) :
    Calls Tryd.prog 90 #[.int .i64 a] w fun e w' => e = .returned (.tuple #[.int .i32 (nrV a), .int .i64 (nrE a)]) ∧ w = w' := by
  unfold fits at ha
  go_enter Tryd.func90, Tryd.ntmps90
  go_wp2
  all_goals go_ret2
  all_goals refine ⟨ret2 ?_ ?_, rfl⟩
  all_goals (try unfold wrap64 at *)
  all_goals (try unfold wrap32 at *)
  all_goals (first | unfold nrV | unfold nrE)
  all_goals ((try simp at *) <;> omega)

set_option maxHeartbeats 400000 in
theorem holds_any (k n : Int) (w : World) (hn : fits n) :
    Calls Tryd.prog 84 #[.int .i64 k, .int .i64 n] w fun e w' => e = .returned (.bool (holdsB k n)) ∧ w = w' := by
  by_cases h1 : k = 1
  · subst h1
    unfold fits at hn
    go_enter Tryd.func84, Tryd.ntmps84
    go_wp2
    go_ret
    exact ⟨retB (by unfold holdsB; rw [if_pos rfl]; refine decide_eq_decide.2 ?_; rw [IntKind.wrap_u64]; omega), rfl⟩
  by_cases h2 : k = 2
  · subst h2
    go_enter Tryd.func84, Tryd.ntmps84
    go_wp2_with (go_at_call 90; refine (narrow_any _ _ hn).mono ?_; rintro e w' ⟨rfl, rfl⟩)
    go_ret
    exact ⟨retB (by unfold holdsB nrE; by_cases h : -2147483648 ≤ n ∧ n ≤ 2147483647 <;> simp [h]), rfl⟩
  · have e1 : (k == 1) = false := by simpa using h1
    have e2 : (k == 2) = false := by simpa using h2
    go_enter Tryd.func84, Tryd.ntmps84
    go_wp2
    go_ret
    exact ⟨retB (by unfold holdsB; by_cases h3 : k = 3 <;> simp [h1, h2, h3]), rfl⟩

set_option maxHeartbeats 1000000 in
theorem right_any (k n : Int) (s : ByteArray) (w : World) (hn : fits n) :
    Calls Tryd.prog 72 #[.agg #[.int .i64 k, .int .i64 n, .string s]] w fun e w' => e = .returned (.bool (rightB k n s)) ∧ Below w.heap.size w w' := by
  have hb0 : ∀ o, Below w.heap.size w (w.alloc o) := fun o => (Below.refl _ _).alloc (Nat.le_refl _) o
  by_cases h4 : k = 4
  · subst h4
    by_cases hl : s.size ≤ 200
    · have hl' : decide (200 < s.size) = false := by simpa using hl
      by_cases h0 : n = 0
      all_goals
        go_enter Tryd.func72, Tryd.ntmps72
        go_wp2
        go_ret
        exact ⟨retB (by unfold rightB; simp [h0, hl]), by first | exact hb0 _ | exact (hb0 _).setCell (by simp) _⟩
    · have hl' : 200 < s.size := by omega
      go_enter Tryd.func72, Tryd.ntmps72
      go_wp2
      go_ret
      exact ⟨retB (by unfold rightB; simp; omega), by first | exact hb0 _ | exact (hb0 _).setCell (by simp) _⟩
  by_cases hk0 : k = 0
  · subst hk0
    by_cases hs : s.size = 0
    · obtain rfl := size0 hs
      by_cases h0 : n = 0
      all_goals
        go_enter Tryd.func72, Tryd.ntmps72
        go_wp2
        go_ret
        exact ⟨retB (by unfold rightB; simp [h0]; try rfl), hb0 _⟩
    · obtain ⟨e1, e2, e3⟩ := size_pos hs
      by_cases h0 : n = 0
      all_goals
        go_enter Tryd.func72, Tryd.ntmps72
        go_wp2
        go_ret
        exact ⟨retB (by unfold rightB; simp [h0, hs]), hb0 _⟩
  have k4 : (k == 4) = false := by simpa using h4
  have k0 : (k == 0) = false := by simpa using hk0
  by_cases hs : s.size = 0
  · obtain rfl := size0 hs
    go_enter Tryd.func72, Tryd.ntmps72
    go_wp2_with (go_at_call 84; refine (holds_any _ _ _ hn).mono ?_; rintro e w' ⟨rfl, rfl⟩)
    all_goals go_ret
    all_goals exact ⟨retB (by unfold rightB; simp [h4, hk0]; try (intro _; rfl)), hb0 _⟩
  · obtain ⟨e1, e2, e3⟩ := size_pos hs
    go_enter Tryd.func72, Tryd.ntmps72
    go_wp2_with (go_at_call 84; refine (holds_any _ _ _ hn).mono ?_; rintro e w' ⟨rfl, rfl⟩)
    all_goals go_ret
    all_goals exact ⟨retB (by unfold rightB; simp [h4, hk0, hs]), hb0 _⟩

end Go.Proofs.YtajnnkclonjcoaaDoor.Val
namespace Go.Proofs.YtajnnkclonjcoaaDoor.Code
open Go.ChangeShapes Go.WideShapes Go.ChangeAt Go.RowKit Val
theorem right_is (k n : Int) (s : ByteArray) (b : Bool) (hn : fits n) (h : rightB k n s = b) (w : World) :
    Calls Tryd.prog 72 #[.agg #[.int .i64 k, .int .i64 n, .string s]] w fun e w' => e = .returned (.bool b) ∧ Below w.heap.size w w' := by
  have := right_any k n s w hn
  rw [h] at this
  exact this

end Go.Proofs.YtajnnkclonjcoaaDoor.Code
namespace Go.Proofs.YtajnnkclonjcoaaDoor.Val
end Go.Proofs.YtajnnkclonjcoaaDoor.Val

/-
  The contract of row.Right.
-/
namespace Go.Proofs.YtajnnkclonjcoaaDoor.Code
open Go.ChangeShapes Go.WideShapes Go.ChangeAt Go.RowKit Val
set_option linter.unusedVariables false

end Go.Proofs.YtajnnkclonjcoaaDoor.Code
/-
  The builder's writers and strings.Clone of Go's library at this translation: what they keep beside the builder.
-/
namespace Go.Proofs.YtajnnkclonjcoaaDoor.Code
open Go.Shelf Go.RowKit

/-- the builder in block b, of base B, holds these bytes -/
def Bld (B b : Nat) (l : List UInt8) (w : World) : Prop := Lib.IsBuilderF 83 5 B b (Lib.byteCells l) w
theorem writeString_k (B b : Nat) (l : List UInt8) (s : ByteArray) (w : World) (h : Bld B b l w) (hlen : l.length + s.size ≤ 140737488355328) (hBw : B ≤ w.heap.size) :
    Calls Tryd.prog 54 #[.pointer (some ⟨b, 0, none⟩), .string s] w fun e w' => e = .returned (.tuple #[.int .i64 s.size, .nilIface]) ∧ Bld B b (l ++ s.data.toList) w' ∧ Below B w w' ∧ Lib.OthersKept 5 (some b) w w' := by
  refine (Any.Builder_WriteString_k { Tryd.lays155 with } Tryd.Builder_Extra_155 B b (Lib.byteCells l) s w h (by simpa [Lib.byteCells] using hlen) hBw).mono ?_
  rintro e w' ⟨he, h1, h2, h3⟩
  refine ⟨he, Or.inr ?_, h2, h3⟩
  have e1 : Lib.byteCells (l ++ s.data.toList) = Lib.byteCells l ++ Lib.strCells s := by simp [Lib.byteCells, Lib.strCells]
  rw [e1]
  exact h1
theorem string_k (B b : Nat) (l : List UInt8) (w : World) (h : Bld B b l w) (hBw : B ≤ w.heap.size) :
    Calls Tryd.prog 55 #[.pointer (some ⟨b, 0, none⟩)] w fun e w' => e = .returned (.string ⟨l.toArray⟩) ∧ Bld B b l w' ∧ Below B w w' ∧ Lib.OthersKept 5 (some b) w w' :=
  Any.Builder_String_any_k Tryd.lays169 Tryd.Builder_Extra_169 B b l w h hBw
theorem Bld.fresh (w : World) : Bld w.heap.size w.heap.size [] (w.alloc (.cells #[.pointer none, .slice none 0 0] 83)) :=
  Lib.IsBuilderF.of (Lib.fresh_isBuilder _ _ w)
theorem Bld.call {B b : Nat} {l : List UInt8} {w w' : World} (h : Bld B b l w) (hb : Below w.heap.size w w') : Bld B b l w' := by
  refine h.elim (fun x => .inl ?_) (fun x => .inr ?_)
  all_goals
    obtain ⟨hB, v, hbk, hown, hne⟩ := x
    have hlt : b < w.heap.size := (Array.getElem?_eq_some_iff.1 hbk).1
    refine ⟨hB, v, (hb.block _ hlt).trans hbk, ⟨hown.1, ?_⟩, hne⟩
    rcases hown.2 with hn | ⟨g, cap, cur, fz, hv, hbg, hg, rest⟩
    · exact .inl hn
    · have hg2 : g < w.heap.size := (Array.getElem?_eq_some_iff.1 hg).1
      exact .inr ⟨g, cap, cur, fz, hv, hbg, (hb.block _ hg2).trans hg, rest⟩
theorem Bld.alloc {B b : Nat} {l : List UInt8} {w : World} (h : Bld B b l w) (o : Obj) : Bld B b l (w.alloc o) := h.call ((Below.refl _ _).alloc (Nat.le_refl _) o)
theorem Bld.lt {B b : Nat} {l : List UInt8} {w : World} (h : Bld B b l w) : b < w.heap.size := by
  rcases h with ⟨_, v, hbk, _⟩ | ⟨_, v, hbk, _⟩
  all_goals exact (Array.getElem?_eq_some_iff.1 hbk).1
end Go.Proofs.YtajnnkclonjcoaaDoor.Code
/-
  Contracts of package code's put and body, for every argument (cut out of CodeCalls).
-/
namespace Go.Proofs.YtajnnkclonjcoaaDoor.Code
open Go.ChangeShapes Go.WideShapes Go.ChangeAt Go.RowKit Val
set_option linter.unusedVariables false

theorem retS {a c : ByteArray} (h : a = c) : Ending.returned (.string a) = .returned (.string c) := by rw [h]
theorem ba_of {a : ByteArray} {l : List UInt8} (h : a.data.toList = l) : a = ⟨l.toArray⟩ := by
  obtain ⟨⟨m⟩⟩ := a
  simp at h
  rw [h]
theorem cons_eq {a b : UInt8} {l m : List UInt8} (h : a = b) (g : l = m) : a :: l = b :: m := by rw [h, g]
theorem ofNat_eq {a b : Int} (h : a = b) : UInt8.ofNat a.toNat = UInt8.ofNat b.toNat := by rw [h]
theorem putS_be (a : Int) (h : Num.fitsU a) : Num.putS a = ⟨(be 8 a).toArray⟩ := by
  unfold Num.fitsU at h
  refine ba_of ?_
  unfold Num.putS
  rw [strOfNums_data]
  simp only [Num.putL, List.map_cons, List.map_nil, be, byt]
  have p7 : (256 : Int) ^ 7 = 72057594037927936 := by decide
  have p6 : (256 : Int) ^ 6 = 281474976710656 := by decide
  have p5 : (256 : Int) ^ 5 = 1099511627776 := by decide
  have p4 : (256 : Int) ^ 4 = 4294967296 := by decide
  have p3 : (256 : Int) ^ 3 = 16777216 := by decide
  have p2 : (256 : Int) ^ 2 = 65536 := by decide
  have p1 : (256 : Int) ^ 1 = 256 := by decide
  have p0 : (256 : Int) ^ 0 = 1 := by decide
  rw [p7, p6, p5, p4, p3, p2, p1, p0]
  repeat (first | rfl | refine cons_eq (ofNat_eq (by omega)) ?_)
theorem strOf_be4 {u x0 x1 x2 x3 : Int} (h : 0 ≤ u ∧ u < 4294967296) (h0 : x0 = u / 16777216) (h1 : x1 = u / 65536 % 256) (h2 : x2 = u / 256 % 256) (h3 : x3 = u % 256) : strOfNums [x0, x1, x2, x3] = ⟨(be 4 u).toArray⟩ := by
  refine ba_of ?_
  rw [strOfNums_data]
  simp only [List.map_cons, List.map_nil, be, byt]
  have p3 : (256 : Int) ^ 3 = 16777216 := by decide
  have p2 : (256 : Int) ^ 2 = 65536 := by decide
  have p1 : (256 : Int) ^ 1 = 256 := by decide
  have p0 : (256 : Int) ^ 0 = 1 := by decide
  rw [p3, p2, p1, p0]
  repeat (first | rfl | refine cons_eq (ofNat_eq (by omega)) ?_)
theorem be8_drop {u : Int} (h : 0 ≤ u ∧ u < 4294967296) : (be 8 u).drop 4 = be 4 u := by
  have p7 : (256 : Int) ^ 7 = 72057594037927936 := by decide
  have p6 : (256 : Int) ^ 6 = 281474976710656 := by decide
  have p5 : (256 : Int) ^ 5 = 1099511627776 := by decide
  have p4 : (256 : Int) ^ 4 = 4294967296 := by decide
  show be 4 (u % 256 ^ 7 % 256 ^ 6 % 256 ^ 5 % 256 ^ 4) = _
  rw [p7, p6, p5, p4]
  congr 1
  omega
theorem conv4 (w : World) (x0 x1 x2 x3 : Int) (t : TypeId) :
    (convert 81 9 (.slice (some ⟨w.heap.size, 0, none⟩) 4 4)).run Tryd.prog (w.alloc (.cells #[.int .u8 x0, .int .u8 x1, .int .u8 x2, .int .u8 x3] t))
      = .ok (.string (strOfNums [x0, x1, x2, x3])) (w.alloc (.cells #[.int .u8 x0, .int .u8 x1, .int .u8 x2, .int .u8 x3] t)) := by
  refine run_convert_bytes_arg _ 81 5 Tryd.underlying81 Tryd.underlying5 w.heap.size 0 4 4 [x0, x1, x2, x3] rfl ?_ 9 Tryd.underlying9
  intro i hi
  rcases i with _ | _ | _ | _ | i
  all_goals first | (simp [go_sem]; done) | omega
theorem conv1 (w : World) (x0 : Int) (t : TypeId) :
    (convert 81 9 (.slice (some ⟨w.heap.size, 0, none⟩) 1 1)).run Tryd.prog (w.alloc (.cells #[.int .u8 x0] t))
      = .ok (.string (strOfNums [x0])) (w.alloc (.cells #[.int .u8 x0] t)) := by
  refine run_convert_bytes_arg _ 81 5 Tryd.underlying81 Tryd.underlying5 w.heap.size 0 1 1 [x0] rfl ?_ 9 Tryd.underlying9
  intro i hi
  rcases i with _ | i
  all_goals first | (simp [go_sem]; done) | omega

theorem xor_low32 (x : Nat) (h : x < 2 ^ 31) : x ^^^ 2 ^ 31 = 2 ^ 31 + x := by
  apply Nat.eq_of_testBit_eq
  intro i
  rw [Nat.testBit_xor, Nat.testBit_two_pow]
  rcases Nat.lt_trichotomy i 31 with g | g | g
  · rw [Nat.testBit_two_pow_add_gt g, decide_eq_false (by omega : ¬ 31 = i)]; simp
  · subst g; rw [Nat.testBit_two_pow_add_eq]; simp [Nat.testBit_lt_two_pow h]
  · have h2 : 2 ^ 31 + x < 2 ^ i := by
      have : 2 ^ 32 ≤ 2 ^ i := Nat.pow_le_pow_right (by decide) g
      omega
    have h3 : x < 2 ^ i := by omega
    rw [Nat.testBit_lt_two_pow h2, Nat.testBit_lt_two_pow h3, decide_eq_false (by omega : ¬ 31 = i)]; rfl
theorem xor_high32 (x : Nat) (h : 2 ^ 31 ≤ x) (h2 : x < 2 ^ 32) : x ^^^ 2 ^ 31 = x - 2 ^ 31 := by
  obtain ⟨y, rfl⟩ : ∃ y, x = 2 ^ 31 + y := ⟨x - 2 ^ 31, by omega⟩
  rw [← xor_low32 y (by omega), Nat.xor_assoc, Nat.xor_self, Nat.xor_zero, xor_low32 y (by omega)]
  omega
theorem bits_top32 (a : Int) (h : 0 ≤ a ∧ a < 4294967296) : bits .xor .u32 a 2147483648 = if a < 2147483648 then a + 2147483648 else a - 2147483648 := by
  obtain ⟨n, rfl⟩ := Int.eq_ofNat_of_zero_le h.1
  have h1 : (BitVec.ofInt 32 (n : Int)).toNat = n := by
    rw [BitVec.ofInt_natCast, BitVec.toNat_ofNat]; exact Nat.mod_eq_of_lt (by omega)
  have h2 : (BitVec.ofInt 32 (2147483648 : Int)).toNat = 2 ^ 31 := by decide
  show IntKind.u32.wrap ((BitVec.ofInt 32 (n : Int) ^^^ BitVec.ofInt 32 (2147483648 : Int)).toNat : Int) = _
  rw [BitVec.toNat_xor, h1, h2, IntKind.wrap_u32]
  by_cases g : n < 2 ^ 31
  · rw [xor_low32 n g, if_pos (by omega)]; omega
  · rw [xor_high32 n (by omega) (by omega), if_neg (by omega)]; omega
theorem top_there {n : Int} (h : -2147483648 ≤ n ∧ n ≤ 2147483647) : bits .xor .u32 (n % 4294967296) 2147483648 = n + 2147483648 := by
  rw [bits_top32 _ (by omega)]
  split <;> omega
theorem strCat (l m : List UInt8) : (⟨l.toArray⟩ : ByteArray) ++ (⟨m.toArray⟩ : ByteArray) = ⟨(l ++ m).toArray⟩ :=
  ba_of (Go.Joins.data_append _ _)
theorem rep0 (m : Int) (s : ByteArray) (w : World) (hs : s.size ≤ 200) (hm : w.cell? ⟨0, 0, none⟩ = some (.int .i64 m)) :
    Calls Tryd.prog 64 #[.string s, .string ⟨#[0]⟩, .string ⟨#[0, 255]⟩] w fun e w' => e = .returned (.string ⟨(esc s.data.toList).toArray⟩) ∧ Below w.heap.size w w' := by
  have hc := Lib.countB_mul_le ⟨#[0]⟩ (by decide) s.size s (Nat.le_refl _)
  rw [show (⟨#[0]⟩ : ByteArray).size = 1 from rfl] at hc
  have h := Tryd.strings_ReplaceAll s ⟨#[0]⟩ ⟨#[0, 255]⟩ m w (by omega) hm (by decide) (by rw [show (⟨#[0, 255]⟩ : ByteArray).size = 2 from rfl]; omega)
  rw [show Lib.replaceAll s.data.toList (⟨#[0]⟩ : ByteArray).data.toList (⟨#[0, 255]⟩ : ByteArray).data.toList = esc s.data.toList from rep_esc _] at h
  exact h
end Go.Proofs.YtajnnkclonjcoaaDoor.Code
/-
  The contract of code.Encode, for every list of values (cut out of CodeEnc).
-/
namespace Go.Proofs.YtajnnkclonjcoaaDoor.Code
open Go.ChangeShapes Go.WideShapes Go.ChangeAt Go.RowKit Val
set_option linter.unusedVariables false

theorem encL_snoc (l : List (Int × Int × ByteArray)) (k : Nat) (h : k < l.length) : encL (l.take (k + 1)) = encL (l.take k) ++ encV l[k] := by
  unfold encL
  rw [List.take_succ_eq_append_getElem h, List.flatMap_append]
  simp
def encS (l : List (Int × Int × ByteArray)) : ByteArray := if rightL l then ⟨(encL l).toArray⟩ else ⟨#[]⟩
def encE (l : List (Int × Int × ByteArray)) : Int := if rightL l then 0 else 1
theorem enc_yes {l : List (Int × Int × ByteArray)} (h : rightL l = true) : encS l = ⟨(encL l).toArray⟩ ∧ encE l = 0 := by
  unfold encS encE
  rw [h]
  exact ⟨rfl, rfl⟩
theorem enc_no {l : List (Int × Int × ByteArray)} (h : rightL l = false) : encS l = ⟨#[]⟩ ∧ encE l = 1 := by
  unfold encS encE
  rw [h]
  exact ⟨rfl, rfl⟩
theorem retSE {a c : ByteArray} {b d : Int} (h : a = c) (g : b = d) : Ending.returned (.tuple #[.string a, .int .i64 b]) = .returned (.tuple #[.string c, .int .i64 d]) := by rw [h, g]
end Go.Proofs.YtajnnkclonjcoaaDoor.Code
/-
  Contracts of the document's One and Encode (cut out of CodeOne and CodeRenc).
-/
namespace Go.Proofs.YtajnnkclonjcoaaDoor.Code
open Go.ChangeShapes Go.WideShapes Go.ChangeAt Go.RowKit Val
set_option linter.unusedVariables false

theorem esc_snoc (b : UInt8) : ∀ l : List UInt8, esc (l ++ [b]) = esc l ++ (if b = 0 then [0, 255] else [b])
  | [] => by simp [esc]
  | c :: l => by
    show esc (c :: (l ++ [b])) = _
    rw [esc, esc, esc_snoc b l]
    split <;> simp
theorem esc_take (s : ByteArray) (k : Nat) (h : k < s.size) : esc (s.data.toList.take (k + 1)) = esc (s.data.toList.take k) ++ (if s[k] = 0 then [0, 255] else [s[k]]) := by
  have hl : s.data.toList.length = s.size := rfl
  rw [List.take_succ_eq_append_getElem (by omega), esc_snoc]
  rfl
theorem one_at (s : ByteArray) (k : Nat) (h : k < s.size) : s.extract k (k + 1) = ⟨#[s[k]]⟩ := by
  refine ba_of ?_
  have hl : s.data.toList.length = s.size := rfl
  rw [ByteArray.data_extract, Array.toList_extract, List.extract_eq_take_drop, List.drop_eq_getElem_cons (by omega), show k + 1 - k = 1 by omega]
  rfl
theorem putS_size (a : Int) : (Num.putS a).size = 8 := by
  unfold Num.putS
  rw [size_list, strOfNums_data]
  rfl
theorem put_low (u : Int) (h : 0 ≤ u ∧ u < 4294967296) : (Num.putS u).extract 4 (Num.putS u).size = ⟨(be 4 u).toArray⟩ := by
  refine ba_of ?_
  rw [from_list, putS_be u (by unfold Num.fitsU; omega)]
  exact be8_drop h
theorem strV {a b : ByteArray} (h : a = b) : Value.string a = Value.string b := by rw [h]
end Go.Proofs.YtajnnkclonjcoaaDoor.Code
/-
  Contracts of lex's run and quoted, and of the document's run and quote: how many bytes come, and which text.
-/
namespace Go.Proofs.YtajnnkclonjcoaaDoor.Code
open Go.ChangeShapes Go.WideShapes Go.ChangeAt Go.RowKit Val
set_option linter.unusedVariables false
theorem list_get (s : ByteArray) (j : Nat) (h : j < s.size) (h' : j < s.data.toList.length) : s.data.toList[j] = s[j] := rfl
set_option maxHeartbeats 2000000 in
theorem run_any (p : UInt8 → Bool) (fn : Nat) (en : ∀ args w, (callFunc fn args).run Tryd.prog w = .ok (.enter fn args) w)
    (hp : ∀ (c : UInt8) (w : World), Calls Tryd.prog fn #[.int .u8 c.toNat] w fun e w' => e = .returned (.bool (p c)) ∧ w = w') (s : ByteArray) (w : World) (hs : s.size ≤ 281474976710656) :
    Calls Tryd.prog 79 #[.string s, .func (.func fn) #[] #[]] w fun e w' => e = .returned (.int .i64 (runL p s.data.toList : Nat)) ∧ w = w' := by
  have HP := Lib.hid hp
  clear hp
  go_enter Tryd.func79, Tryd.ntmps79
  go_wp2
  go_loop [5] (fun t => ∃ n : Nat, n ≤ s.size ∧ t = .int .i64 n ∧ n ≤ runL p s.data.toList) (fun t => s.size - (intOf t).toNat)
  case atStart => exact ⟨0, by omega, rfl, by omega⟩
  case round =>
    obtain ⟨n, hn, rfl, hr⟩ := hrel
    have HR := Lib.hid hr
    clear hr
    by_cases hlt : n < s.size
    · obtain ⟨c, hc⟩ : ∃ c, s[n] = c := ⟨_, rfl⟩
      cases hpc : p c
      · have HE := Lib.hid (runL_stop p s.data.toList n hlt HR.out (by rw [list_get s n hlt, hc, hpc]))
        have HP2 := Lib.hid (fun w => (HP.out c w).mono (R' := fun e w' => e = .returned (.bool false) ∧ w = w') (by rintro e w' ⟨h1, h2⟩; exact ⟨by rw [h1, hpc], h2⟩))
        clear hpc
        go_wp2_with fail
        refine (HP2.out _).mono ?_
        rintro e w1 ⟨rfl, rfl⟩
        go_wp2
        go_ret
        exact ⟨ret1 (by rw [HE.out]), rfl⟩
      · have HE := Lib.hid (runL_step p s.data.toList n hlt HR.out (by rw [list_get s n hlt, hc, hpc]))
        have HP2 := Lib.hid (fun w => (HP.out c w).mono (R' := fun e w' => e = .returned (.bool true) ∧ w = w') (by rintro e w' ⟨h1, h2⟩; exact ⟨by rw [h1, hpc], h2⟩))
        clear hpc
        go_wp2_with fail
        refine (HP2.out _).mono ?_
        rintro e w1 ⟨rfl, rfl⟩
        go_wp2
        go_round
        case rel => exact ⟨n + 1, by omega, by go_num, HE.out⟩
        case measure => simp [intOf]; omega
    · have HE := Lib.hid (show runL p s.data.toList = n by have := runL_le p s.data.toList; have := HR.out; rw [← size_list] at *; omega)
      go_wp2
      go_ret
      exact ⟨ret1 (by rw [HE.out]), rfl⟩
theorem u8_is39 {b : UInt8} (h : b = 39) : ((b.toNat : Int) == 39) = true := by subst h; rfl
theorem u8_no39 {b : UInt8} (h : ¬ b = 39) : ((b.toNat : Int) == 39) = false := by
  have : b.toNat ≠ 39 := fun e => h (UInt8.toNat_inj.1 e)
  simp
  omega
theorem u8_nq39 {b : UInt8} (h : ¬ b = 39) : ((b.toNat : Int) != 39) = true := by
  have : b.toNat ≠ 39 := fun e => h (UInt8.toNat_inj.1 e)
  simp
  omega
set_option maxHeartbeats 2000000 in
theorem quoted_any (s : ByteArray) (w : World) (hs : s.size ≤ 281474976710656) (h1 : 1 ≤ s.size) :
    Calls Tryd.prog 77 #[.string s] w fun e w' => e = .returned (.int .i64 (quoN s.data.toList : Nat)) ∧ w = w' := by
  go_enter Tryd.func77, Tryd.ntmps77
  go_wp2
  go_loop [3] (fun t => ∃ n : Nat, n ≤ s.size ∧ t = .int .i64 n ∧ 1 ≤ n ∧ Hid (∃ out, quoI s.data.toList n out)) (fun t => s.size - (intOf t).toNat)
  case atStart => exact ⟨1, by omega, rfl, by omega, Lib.hid ⟨[], quoI_start _⟩⟩
  case round =>
    obtain ⟨n, hn, rfl, hn1, HO⟩ := hrel
    by_cases hlt : n < s.size
    · obtain ⟨c, hc⟩ : ∃ c, s[n] = c := ⟨_, rfl⟩
      by_cases hc39 : c = 39
      · subst hc39
        by_cases hlt2 : n + 1 < s.size
        · obtain ⟨d, hd⟩ : ∃ d, s[n + 1] = d := ⟨_, rfl⟩
          by_cases hd39 : d = 39
          · subst hd39
            have HE := Lib.hid (show ∃ out, quoI s.data.toList (n + 2) out by
              obtain ⟨out, h⟩ := HO.out
              exact ⟨_, quoI_two h (show n + 1 < s.data.toList.length from hlt2) ((list_get s n hlt hlt).trans hc) ((list_get s (n + 1) hlt2 hlt2).trans hd)⟩)
            go_wp2
            go_round
            case rel => exact ⟨n + 2, by omega, by go_num, by omega, HE⟩
            case measure => simp [intOf]; omega
          · have HE := Lib.hid (show quoN s.data.toList = n + 1 by
              obtain ⟨out, h⟩ := HO.out
              exact (quoI_end h (show n < s.data.toList.length from hlt) ((list_get s n hlt hlt).trans hc) (fun g e => hd39 (hd.symm.trans ((list_get s (n + 1) hlt2 g).symm.trans e)))).1)
            have i0 := u8_no39 hd39
            clear hd39
            go_wp2
            go_ret
            exact ⟨ret1 (by rw [HE.out]; go_num), rfl⟩
        · have HE := Lib.hid (show quoN s.data.toList = n + 1 by
            obtain ⟨out, h⟩ := HO.out
            exact (quoI_end h (show n < s.data.toList.length from hlt) ((list_get s n hlt hlt).trans hc) (fun g => absurd g hlt2)).1)
          go_wp2
          go_ret
          exact ⟨ret1 (by rw [HE.out]; go_num), rfl⟩
      · have HE := Lib.hid (show ∃ out, quoI s.data.toList (n + 1) out by
          obtain ⟨out, h⟩ := HO.out
          exact ⟨_, quoI_other h (show n < s.data.toList.length from hlt) (by rw [list_get s n hlt, hc]; exact hc39)⟩)
        have i0 := u8_no39 hc39
        have i1 := u8_nq39 hc39
        clear hc39
        go_wp2
        go_round
        case rel => exact ⟨n + 1, by omega, by go_num, by omega, HE⟩
        case measure => simp [intOf]; omega
    · have HE := Lib.hid (show quoN s.data.toList = 0 by
        obtain ⟨out, h⟩ := HO.out
        exact (quoI_none h (by rw [← size_list]; omega)).1)
      go_wp2
      go_ret
      exact ⟨ret1 (by rw [HE.out]; rfl), rfl⟩
end Go.Proofs.YtajnnkclonjcoaaDoor.Code
/-
  Contracts of lex's begins and first: what a text begins with, and the word that begins it.
-/
namespace Go.Proofs.YtajnnkclonjcoaaDoor.Code
open Go.ChangeShapes Go.WideShapes Go.ChangeAt Go.RowKit Val
set_option linter.unusedVariables false
set_option linter.unusedSimpArgs false
def markB (c : UInt8) : Bool := decide (c ∈ [40, 41, 44, 61, 43, 45, 42])
theorem idx_mem : ∀ (l : List UInt8) (c : UInt8), 0 ≤ Lib.indexByte l c ↔ c ∈ l
  | [], c => by simp [Lib.indexByte]
  | b :: l, c => by
    have ih := idx_mem l c
    have hg := Lib.indexByte_ge l c
    unfold Lib.indexByte
    by_cases hb : b = c
    · subst hb
      simp
    · have hb2 : ¬ c = b := fun e => hb e.symm
      simp only [beq_iff_eq, if_neg hb, List.mem_cons, hb2, false_or]
      rw [← ih]
      split <;> omega
theorem mark_idx (c : UInt8) : decide (0 ≤ Lib.indexByte [40, 41, 44, 61, 43, 45, 42] c) = markB c := decide_eq_decide.2 (idx_mem _ c)
/-- what a text begins with: the kind, and how many bytes there are, however many -/
def beginsL (s : List UInt8) : Int × Nat :=
  match s with
  | [] => (3, 0)
  | c :: r =>
    if c = 60 ∨ c = 62 then (3, if twoB (c :: r) = true then 2 else 1)
    else if markB c = true then (3, 1)
    else if c = 39 then (2, quoN (c :: r))
    else if figB c = true then (1, runL figB (c :: r))
    else if letB c = true then (0, runL nameB (c :: r))
    else (3, 0)
theorem begins_cons (c : UInt8) (r : List UInt8) : beginsL (c :: r) = if c = 60 ∨ c = 62 then (3, if twoB (c :: r) = true then 2 else 1) else if markB c = true then (3, 1) else if c = 39 then (2, quoN (c :: r)) else if figB c = true then (1, runL figB (c :: r)) else if letB c = true then (0, runL nameB (c :: r)) else (3, 0) := rfl
theorem twoB_two (c d : UInt8) : twoB [c, d] = (c == 60 && (d == 62 || d == 61) || c == 62 && d == 61) := rfl
def textOf (s : List UInt8) : List UInt8 := if (beginsL s).1 = 2 ∧ 0 < (beginsL s).2 then quoT s else s.take (beginsL s).2
theorem fig_let {c : UInt8} (h : figB c = true) : letB c = false := by
  unfold figB at h
  unfold letB
  simp at *
  omega
theorem mark_cases {c : UInt8} (h : markB c = true) : c = 40 ∨ c = 41 ∨ c = 44 ∨ c = 61 ∨ c = 43 ∨ c = 45 ∨ c = 42 := by
  unfold markB at h
  simpa using h
theorem firstL_is (s : List UInt8) : firstL s = if (beginsL s).2 = 0 ∨ longK (beginsL s).1 < (textOf s).length then none else some ((beginsL s).1, textOf s, (beginsL s).2) := by
  cases s with
  | nil => rfl
  | cons c r =>
    by_cases h60 : c = 60 ∨ c = 62
    · have hb : beginsL (c :: r) = (3, if twoB (c :: r) = true then 2 else 1) := by rw [begins_cons, if_pos h60]
      have ht : textOf (c :: r) = (c :: r).take (if twoB (c :: r) = true then 2 else 1) := by unfold textOf; rw [hb, if_neg (by simp)]
      have hl : letB c = false := by rcases h60 with rfl | rfl <;> decide
      have hf : figB c = false := by rcases h60 with rfl | rfl <;> decide
      have h39 : c ≠ 39 := by rcases h60 with rfl | rfl <;> decide
      have h1 : oneB c = true := by rcases h60 with rfl | rfl <;> decide
      rw [firstL, if_neg (by rw [hl]; decide), if_neg (by rw [hf]; decide), if_neg h39, ht, hb]
      by_cases h2 : twoB (c :: r) = true
      · rw [if_pos h2, if_pos h2, if_neg]
        show ¬ (2 = 0 ∨ longK 3 < (((c :: r).take 2).length : Int))
        have : ((c :: r).take 2).length ≤ 2 := by rw [List.length_take]; omega
        rw [show longK 3 = 2 from rfl]
        omega
      · rw [if_neg h2, if_neg h2, if_pos h1, if_neg]
        · rfl
        · show ¬ (1 = 0 ∨ longK 3 < (((c :: r).take 1).length : Int))
          have : ((c :: r).take 1).length ≤ 1 := by rw [List.length_take]; omega
          rw [show longK 3 = 2 from rfl]
          omega
    by_cases hm : markB c = true
    · have hb : beginsL (c :: r) = (3, 1) := by rw [begins_cons, if_neg h60, if_pos hm]
      have ht : textOf (c :: r) = [c] := by unfold textOf; rw [hb, if_neg (by simp)]; rfl
      have hc := mark_cases hm
      have hl : letB c = false := by rcases hc with rfl | rfl | rfl | rfl | rfl | rfl | rfl <;> decide
      have hf : figB c = false := by rcases hc with rfl | rfl | rfl | rfl | rfl | rfl | rfl <;> decide
      have h39 : c ≠ 39 := by rcases hc with rfl | rfl | rfl | rfl | rfl | rfl | rfl <;> decide
      have h1 : oneB c = true := by rcases hc with rfl | rfl | rfl | rfl | rfl | rfl | rfl <;> decide
      have h2 : twoB (c :: r) = false := by
        cases r with
        | nil => rfl
        | cons d r =>
          rw [twoB_cons, twoB_two, show (c == 60) = false by simpa using fun e => h60 (.inl e), show (c == 62) = false by simpa using fun e => h60 (.inr e)]
          rfl
      rw [firstL, if_neg (by rw [hl]; decide), if_neg (by rw [hf]; decide), if_neg h39, if_neg (by rw [h2]; decide), if_pos h1, ht, hb]
      rfl
    by_cases h39 : c = 39
    · subst h39
      have hb : beginsL (39 :: r) = (2, quoN (39 :: r)) := by rw [begins_cons, if_neg h60, if_neg hm, if_pos rfl]
      rw [firstL, if_neg (by decide), if_neg (by decide), if_pos rfl]
      unfold textOf
      rw [hb]
      unfold quoN quoT
      rw [List.drop_one, List.tail_cons]
      cases quoL r with
      | none => rfl
      | some v =>
        obtain ⟨t, n⟩ := v
        dsimp only
        rw [if_pos (show (2 : Int) = 2 ∧ 0 < n + 1 from ⟨rfl, by omega⟩), show longK 2 = 200 from rfl]
        by_cases h200 : t.length ≤ 200
        · rw [if_pos h200, if_neg (by omega)]
        · rw [if_neg h200, if_pos (by omega)]
    by_cases hf : figB c = true
    · have hb : beginsL (c :: r) = (1, runL figB (c :: r)) := by rw [begins_cons, if_neg h60, if_neg hm, if_neg h39, if_pos hf]
      have ht : textOf (c :: r) = (c :: r).take (runL figB (c :: r)) := by unfold textOf; rw [hb, if_neg (by simp)]
      have hp := runL_pos (s := r) hf
      have hle := runL_le figB (c :: r)
      rw [firstL, if_neg (by rw [fig_let hf]; decide), if_pos hf, ht, hb, show longK 1 = 19 from rfl, List.length_take]
      dsimp only
      by_cases h19 : runL figB (c :: r) ≤ 19
      · rw [if_pos h19, if_neg (by omega)]
      · rw [if_neg h19, if_pos (by omega)]
    by_cases hl : letB c = true
    · have hb : beginsL (c :: r) = (0, runL nameB (c :: r)) := by rw [begins_cons, if_neg h60, if_neg hm, if_neg h39, if_neg hf, if_pos hl]
      have ht : textOf (c :: r) = (c :: r).take (runL nameB (c :: r)) := by unfold textOf; rw [hb, if_neg (by simp)]
      have hp : 1 ≤ runL nameB (c :: r) := runL_pos (by unfold nameB; rw [hl]; rfl)
      have hle := runL_le nameB (c :: r)
      rw [firstL, if_pos hl, ht, hb, show longK 0 = 20 from rfl, List.length_take]
      dsimp only
      by_cases h20 : runL nameB (c :: r) ≤ 20
      · rw [if_pos h20, if_neg (by omega)]
      · rw [if_neg h20, if_pos (by omega)]
    · have hb : beginsL (c :: r) = (3, 0) := by rw [begins_cons, if_neg h60, if_neg hm, if_neg h39, if_neg hf, if_neg hl]
      have h2 : twoB (c :: r) = false := by
        cases r with
        | nil => rfl
        | cons d r =>
          rw [twoB_cons, twoB_two, show (c == 60) = false by simpa using fun e => h60 (.inl e), show (c == 62) = false by simpa using fun e => h60 (.inr e)]
          rfl
      have h1 : oneB c = false := by
        have hm' : ¬ c ∈ [40, 41, 44, 61, 43, 45, 42] := by unfold markB at hm; simpa using hm
        unfold oneB
        simp at hm' h60 ⊢
        simp [hm', h60]
      rw [firstL, if_neg hl, if_neg hf, if_neg h39, if_neg (by rw [h2]; decide), if_neg (by rw [h1]; decide), hb, if_pos (.inl rfl)]
theorem begins_le (s : List UInt8) : (beginsL s).2 ≤ s.length := by
  cases s with
  | nil => exact Nat.le_refl _
  | cons c r =>
    rw [begins_cons]
    split
    · dsimp only
      split
      · rename_i h
        cases r with
        | nil => cases h
        | cons d r => simp
      · simp
    split
    · simp
    split
    · unfold quoN
      rw [List.drop_one, List.tail_cons]
      cases hq : quoL r with
      | none => exact Nat.zero_le _
      | some v =>
        obtain ⟨t, n⟩ := v
        obtain ⟨r', rfl, rfl, -⟩ := quoL_is r t n hq
        simp
    split
    · exact runL_le _ _
    split
    · exact runL_le _ _
    · exact Nat.zero_le _
/-- what stands between a quote's first ' and its last -/
theorem quote_inner (s : List UInt8) (h : 0 < quoN s) : ((s.take (quoN s)).drop 1).take (quoN s - 2) = dbl (quoT s) ∧ 2 ≤ quoN s := by
  unfold quoN quoT at *
  cases hq : quoL (s.drop 1) with
  | none => rw [hq] at h; simp at h
  | some v =>
    obtain ⟨t, n⟩ := v
    obtain ⟨r', e1, rfl, -⟩ := quoL_is _ t n hq
    dsimp only
    refine ⟨?_, by omega⟩
    rw [List.drop_take, e1, show (dbl t).length + 1 + 1 - 1 = (dbl t).length + 1 by omega, List.take_take, show min ((dbl t).length + 1 + 1 - 2) ((dbl t).length + 1) = (dbl t).length by omega]
    simp
end Go.Proofs.YtajnnkclonjcoaaDoor.Code
