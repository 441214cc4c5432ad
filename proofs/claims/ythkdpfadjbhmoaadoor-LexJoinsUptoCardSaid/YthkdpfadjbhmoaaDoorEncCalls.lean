/-
  Contracts of package code's put and body, for every argument (cut out of CodeCalls).
-/
import Derived.Test.YthkdpfadjbhmoaaDoorEncNum
import Derived.Test.YthkdpfadjbhmoaaDoorRowRights
import Derived.Test.YthkdpfadjbhmoaaDoorCodePure
import Derived.Test.YthkdpfadjbhmoaaDoorCodeShelf
import Derived.Deep.RegionHeld3
import Derived.Lib.SmallJoins
namespace Go.Proofs.YthkdpfadjbhmoaaDoor.Code
open Go.ChangeShapes Go.WideShapes Go.ChangeAt Go.RowKit Val
set_option linter.unusedVariables false

theorem retS {a c : ByteArray} (h : a = c) : Ending.returned (.string a) = .returned (.string c) := by rw [h]
theorem ba_of {a : ByteArray} {l : List UInt8} (h : a.data.toList = l) : a = ⟨l.toArray⟩ := by
  obtain ⟨⟨m⟩⟩ := a
  simp at h
  rw [h]
theorem cons_eq {a b : UInt8} {l m : List UInt8} (h : a = b) (g : l = m) : a :: l = b :: m := by rw [h, g]
theorem ofNat_eq {a b : Int} (h : a = b) : UInt8.ofNat a.toNat = UInt8.ofNat b.toNat := by rw [h]
theorem putS_be (a : Int) (h : Num.fitsU a) : Num.putS a = ⟨(be 8 a).toArray⟩ := by
  unfold Num.fitsU at h
  refine ba_of ?_
  unfold Num.putS
  rw [strOfNums_data]
  simp only [Num.putL, List.map_cons, List.map_nil, be, byt]
  have p7 : (256 : Int) ^ 7 = 72057594037927936 := by decide
  have p6 : (256 : Int) ^ 6 = 281474976710656 := by decide
  have p5 : (256 : Int) ^ 5 = 1099511627776 := by decide
  have p4 : (256 : Int) ^ 4 = 4294967296 := by decide
  have p3 : (256 : Int) ^ 3 = 16777216 := by decide
  have p2 : (256 : Int) ^ 2 = 65536 := by decide
  have p1 : (256 : Int) ^ 1 = 256 := by decide
  have p0 : (256 : Int) ^ 0 = 1 := by decide
  rw [p7, p6, p5, p4, p3, p2, p1, p0]
  repeat (first | rfl | refine cons_eq (ofNat_eq (by omega)) ?_)
theorem strOf_be4 {u x0 x1 x2 x3 : Int} (h : 0 ≤ u ∧ u < 4294967296) (h0 : x0 = u / 16777216) (h1 : x1 = u / 65536 % 256) (h2 : x2 = u / 256 % 256) (h3 : x3 = u % 256) : strOfNums [x0, x1, x2, x3] = ⟨(be 4 u).toArray⟩ := by
  refine ba_of ?_
  rw [strOfNums_data]
  simp only [List.map_cons, List.map_nil, be, byt]
  have p3 : (256 : Int) ^ 3 = 16777216 := by decide
  have p2 : (256 : Int) ^ 2 = 65536 := by decide
  have p1 : (256 : Int) ^ 1 = 256 := by decide
  have p0 : (256 : Int) ^ 0 = 1 := by decide
  rw [p3, p2, p1, p0]
  repeat (first | rfl | refine cons_eq (ofNat_eq (by omega)) ?_)
theorem be8_drop {u : Int} (h : 0 ≤ u ∧ u < 4294967296) : (be 8 u).drop 4 = be 4 u := by
  have p7 : (256 : Int) ^ 7 = 72057594037927936 := by decide
  have p6 : (256 : Int) ^ 6 = 281474976710656 := by decide
  have p5 : (256 : Int) ^ 5 = 1099511627776 := by decide
  have p4 : (256 : Int) ^ 4 = 4294967296 := by decide
  show be 4 (u % 256 ^ 7 % 256 ^ 6 % 256 ^ 5 % 256 ^ 4) = _
  rw [p7, p6, p5, p4]
  congr 1
  omega
theorem conv4 (w : World) (x0 x1 x2 x3 : Int) (t : TypeId) :
    (convert 65 9 (.slice (some ⟨w.heap.size, 0, none⟩) 4 4)).run Tryd.prog (w.alloc (.cells #[.int .u8 x0, .int .u8 x1, .int .u8 x2, .int .u8 x3] t))
      = .ok (.string (strOfNums [x0, x1, x2, x3])) (w.alloc (.cells #[.int .u8 x0, .int .u8 x1, .int .u8 x2, .int .u8 x3] t)) := by
  refine run_convert_bytes_arg _ 65 5 Tryd.underlying65 Tryd.underlying5 w.heap.size 0 4 4 [x0, x1, x2, x3] rfl ?_ 9 Tryd.underlying9
  intro i hi
  rcases i with _ | _ | _ | _ | i
  all_goals first | (simp [go_sem]; done) | omega
theorem conv1 (w : World) (x0 : Int) (t : TypeId) :
    (convert 65 9 (.slice (some ⟨w.heap.size, 0, none⟩) 1 1)).run Tryd.prog (w.alloc (.cells #[.int .u8 x0] t))
      = .ok (.string (strOfNums [x0])) (w.alloc (.cells #[.int .u8 x0] t)) := by
  refine run_convert_bytes_arg _ 65 5 Tryd.underlying65 Tryd.underlying5 w.heap.size 0 1 1 [x0] rfl ?_ 9 Tryd.underlying9
  intro i hi
  rcases i with _ | i
  all_goals first | (simp [go_sem]; done) | omega

theorem xor_low32 (x : Nat) (h : x < 2 ^ 31) : x ^^^ 2 ^ 31 = 2 ^ 31 + x := by
  apply Nat.eq_of_testBit_eq
  intro i
  rw [Nat.testBit_xor, Nat.testBit_two_pow]
  rcases Nat.lt_trichotomy i 31 with g | g | g
  · rw [Nat.testBit_two_pow_add_gt g, decide_eq_false (by omega : ¬ 31 = i)]; simp
  · subst g; rw [Nat.testBit_two_pow_add_eq]; simp [Nat.testBit_lt_two_pow h]
  · have h2 : 2 ^ 31 + x < 2 ^ i := by
      have : 2 ^ 32 ≤ 2 ^ i := Nat.pow_le_pow_right (by decide) g
      omega
    have h3 : x < 2 ^ i := by omega
    rw [Nat.testBit_lt_two_pow h2, Nat.testBit_lt_two_pow h3, decide_eq_false (by omega : ¬ 31 = i)]; rfl
theorem xor_high32 (x : Nat) (h : 2 ^ 31 ≤ x) (h2 : x < 2 ^ 32) : x ^^^ 2 ^ 31 = x - 2 ^ 31 := by
  obtain ⟨y, rfl⟩ : ∃ y, x = 2 ^ 31 + y := ⟨x - 2 ^ 31, by omega⟩
  rw [← xor_low32 y (by omega), Nat.xor_assoc, Nat.xor_self, Nat.xor_zero, xor_low32 y (by omega)]
  omega
theorem bits_top32 (a : Int) (h : 0 ≤ a ∧ a < 4294967296) : bits .xor .u32 a 2147483648 = if a < 2147483648 then a + 2147483648 else a - 2147483648 := by
  obtain ⟨n, rfl⟩ := Int.eq_ofNat_of_zero_le h.1
  have h1 : (BitVec.ofInt 32 (n : Int)).toNat = n := by
    rw [BitVec.ofInt_natCast, BitVec.toNat_ofNat]; exact Nat.mod_eq_of_lt (by omega)
  have h2 : (BitVec.ofInt 32 (2147483648 : Int)).toNat = 2 ^ 31 := by decide
  show IntKind.u32.wrap ((BitVec.ofInt 32 (n : Int) ^^^ BitVec.ofInt 32 (2147483648 : Int)).toNat : Int) = _
  rw [BitVec.toNat_xor, h1, h2, IntKind.wrap_u32]
  by_cases g : n < 2 ^ 31
  · rw [xor_low32 n g, if_pos (by omega)]; omega
  · rw [xor_high32 n (by omega) (by omega), if_neg (by omega)]; omega
theorem top_there {n : Int} (h : -2147483648 ≤ n ∧ n ≤ 2147483647) : bits .xor .u32 (n % 4294967296) 2147483648 = n + 2147483648 := by
  rw [bits_top32 _ (by omega)]
  split <;> omega
theorem strCat (l m : List UInt8) : (⟨l.toArray⟩ : ByteArray) ++ (⟨m.toArray⟩ : ByteArray) = ⟨(l ++ m).toArray⟩ :=
  ba_of (Go.Joins.data_append _ _)
theorem rep0 (m : Int) (s : ByteArray) (w : World) (hs : s.size ≤ 200) (hm : w.cell? ⟨1, 0, none⟩ = some (.int .i64 m)) :
    Calls Tryd.prog 23 #[.string s, .string ⟨#[0]⟩, .string ⟨#[0, 255]⟩] w fun e w' => e = .returned (.string ⟨(esc s.data.toList).toArray⟩) ∧ Below w.heap.size w w' := by
  have hc := Lib.countB_mul_le ⟨#[0]⟩ (by decide) s.size s (Nat.le_refl _)
  rw [show (⟨#[0]⟩ : ByteArray).size = 1 from rfl] at hc
  have h := Tryd.strings_ReplaceAll s ⟨#[0]⟩ ⟨#[0, 255]⟩ m w (by omega) hm (by decide) (by rw [show (⟨#[0, 255]⟩ : ByteArray).size = 2 from rfl]; omega)
  rw [show Lib.replaceAll s.data.toList (⟨#[0]⟩ : ByteArray).data.toList (⟨#[0, 255]⟩ : ByteArray).data.toList = esc s.data.toList from rep_esc _] at h
  exact h
end Go.Proofs.YthkdpfadjbhmoaaDoor.Code

