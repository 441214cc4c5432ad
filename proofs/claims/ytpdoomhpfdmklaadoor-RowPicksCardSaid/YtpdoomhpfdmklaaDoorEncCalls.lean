/-
  Contracts of package code's put and body, for every argument (cut out of CodeCalls).
-/
import Derived.Test.YtpdoomhpfdmklaaDoorEncNum
import Derived.Test.YtpdoomhpfdmklaaDoorCodeVal
import Derived.Test.YtpdoomhpfdmklaaDoorCodePure
import Derived.Test.YtpdoomhpfdmklaaDoorCodeShelf
import Derived.Deep.RegionHeld3
import Derived.Lib.SmallJoins
namespace Go.Proofs.YtpdoomhpfdmklaaDoor.Code
open Go.ChangeShapes Go.WideShapes Go.ChangeAt Go.RowKit Val
set_option linter.unusedVariables false

theorem retS {a c : ByteArray} (h : a = c) : Ending.returned (.string a) = .returned (.string c) := by rw [h]
theorem ba_of {a : ByteArray} {l : List UInt8} (h : a.data.toList = l) : a = ⟨l.toArray⟩ := by
  obtain ⟨⟨m⟩⟩ := a
  simp at h
  rw [h]
theorem cons_eq {a b : UInt8} {l m : List UInt8} (h : a = b) (g : l = m) : a :: l = b :: m := by rw [h, g]
theorem ofNat_eq {a b : Int} (h : a = b) : UInt8.ofNat a.toNat = UInt8.ofNat b.toNat := by rw [h]
theorem putS_be (a : Int) (h : Num.fitsU a) : Num.putS a = ⟨(be 8 a).toArray⟩ := by
  unfold Num.fitsU at h
  refine ba_of ?_
  unfold Num.putS
  rw [strOfNums_data]
  simp only [Num.putL, List.map_cons, List.map_nil, be, byt]
  have p7 : (256 : Int) ^ 7 = 72057594037927936 := by decide
  have p6 : (256 : Int) ^ 6 = 281474976710656 := by decide
  have p5 : (256 : Int) ^ 5 = 1099511627776 := by decide
  have p4 : (256 : Int) ^ 4 = 4294967296 := by decide
  have p3 : (256 : Int) ^ 3 = 16777216 := by decide
  have p2 : (256 : Int) ^ 2 = 65536 := by decide
  have p1 : (256 : Int) ^ 1 = 256 := by decide
  have p0 : (256 : Int) ^ 0 = 1 := by decide
  rw [p7, p6, p5, p4, p3, p2, p1, p0]
  repeat (first | rfl | refine cons_eq (ofNat_eq (by omega)) ?_)
theorem strOf_be4 {u x0 x1 x2 x3 : Int} (h : 0 ≤ u ∧ u < 4294967296) (h0 : x0 = u / 16777216) (h1 : x1 = u / 65536 % 256) (h2 : x2 = u / 256 % 256) (h3 : x3 = u % 256) : strOfNums [x0, x1, x2, x3] = ⟨(be 4 u).toArray⟩ := by
  refine ba_of ?_
  rw [strOfNums_data]
  simp only [List.map_cons, List.map_nil, be, byt]
  have p3 : (256 : Int) ^ 3 = 16777216 := by decide
  have p2 : (256 : Int) ^ 2 = 65536 := by decide
  have p1 : (256 : Int) ^ 1 = 256 := by decide
  have p0 : (256 : Int) ^ 0 = 1 := by decide
  rw [p3, p2, p1, p0]
  repeat (first | rfl | refine cons_eq (ofNat_eq (by omega)) ?_)
theorem be8_drop {u : Int} (h : 0 ≤ u ∧ u < 4294967296) : (be 8 u).drop 4 = be 4 u := by
  have p7 : (256 : Int) ^ 7 = 72057594037927936 := by decide
  have p6 : (256 : Int) ^ 6 = 281474976710656 := by decide
  have p5 : (256 : Int) ^ 5 = 1099511627776 := by decide
  have p4 : (256 : Int) ^ 4 = 4294967296 := by decide
  show be 4 (u % 256 ^ 7 % 256 ^ 6 % 256 ^ 5 % 256 ^ 4) = _
  rw [p7, p6, p5, p4]
  congr 1
  omega
theorem conv4 (w : World) (x0 x1 x2 x3 : Int) (t : TypeId) :
    (convert 62 9 (.slice (some ⟨w.heap.size, 0, none⟩) 4 4)).run Tryd.prog (w.alloc (.cells #[.int .u8 x0, .int .u8 x1, .int .u8 x2, .int .u8 x3] t))
      = .ok (.string (strOfNums [x0, x1, x2, x3])) (w.alloc (.cells #[.int .u8 x0, .int .u8 x1, .int .u8 x2, .int .u8 x3] t)) := by
  refine run_convert_bytes_arg _ 62 5 Tryd.underlying62 Tryd.underlying5 w.heap.size 0 4 4 [x0, x1, x2, x3] rfl ?_ 9 Tryd.underlying9
  intro i hi
  rcases i with _ | _ | _ | _ | i
  all_goals first | (simp [go_sem]; done) | omega
theorem conv1 (w : World) (x0 : Int) (t : TypeId) :
    (convert 62 9 (.slice (some ⟨w.heap.size, 0, none⟩) 1 1)).run Tryd.prog (w.alloc (.cells #[.int .u8 x0] t))
      = .ok (.string (strOfNums [x0])) (w.alloc (.cells #[.int .u8 x0] t)) := by
  refine run_convert_bytes_arg _ 62 5 Tryd.underlying62 Tryd.underlying5 w.heap.size 0 1 1 [x0] rfl ?_ 9 Tryd.underlying9
  intro i hi
  rcases i with _ | i
  all_goals first | (simp [go_sem]; done) | omega

theorem cput_any (u : Int) (w : World) (hu : 0 ≤ u ∧ u < 4294967296) :
    Calls Tryd.prog 63 #[.int .u32 u] w fun e w' => e = .returned (.string ⟨(be 4 u).toArray⟩) ∧ Below w.heap.size w w' := by
  have hc := conv4
  go_enter Tryd.func63, Tryd.ntmps63
  go_wp2
  go_ret
  exact ⟨retS (strOf_be4 hu rfl rfl rfl rfl), (Below.refl _ _).alloc (Nat.le_refl _) _⟩
theorem xor_low32 (x : Nat) (h : x < 2 ^ 31) : x ^^^ 2 ^ 31 = 2 ^ 31 + x := by
  apply Nat.eq_of_testBit_eq
  intro i
  rw [Nat.testBit_xor, Nat.testBit_two_pow]
  rcases Nat.lt_trichotomy i 31 with g | g | g
  · rw [Nat.testBit_two_pow_add_gt g, decide_eq_false (by omega : ¬ 31 = i)]; simp
  · subst g; rw [Nat.testBit_two_pow_add_eq]; simp [Nat.testBit_lt_two_pow h]
  · have h2 : 2 ^ 31 + x < 2 ^ i := by
      have : 2 ^ 32 ≤ 2 ^ i := Nat.pow_le_pow_right (by decide) g
      omega
    have h3 : x < 2 ^ i := by omega
    rw [Nat.testBit_lt_two_pow h2, Nat.testBit_lt_two_pow h3, decide_eq_false (by omega : ¬ 31 = i)]; rfl
theorem xor_high32 (x : Nat) (h : 2 ^ 31 ≤ x) (h2 : x < 2 ^ 32) : x ^^^ 2 ^ 31 = x - 2 ^ 31 := by
  obtain ⟨y, rfl⟩ : ∃ y, x = 2 ^ 31 + y := ⟨x - 2 ^ 31, by omega⟩
  rw [← xor_low32 y (by omega), Nat.xor_assoc, Nat.xor_self, Nat.xor_zero, xor_low32 y (by omega)]
  omega
theorem bits_top32 (a : Int) (h : 0 ≤ a ∧ a < 4294967296) : bits .xor .u32 a 2147483648 = if a < 2147483648 then a + 2147483648 else a - 2147483648 := by
  obtain ⟨n, rfl⟩ := Int.eq_ofNat_of_zero_le h.1
  have h1 : (BitVec.ofInt 32 (n : Int)).toNat = n := by
    rw [BitVec.ofInt_natCast, BitVec.toNat_ofNat]; exact Nat.mod_eq_of_lt (by omega)
  have h2 : (BitVec.ofInt 32 (2147483648 : Int)).toNat = 2 ^ 31 := by decide
  show IntKind.u32.wrap ((BitVec.ofInt 32 (n : Int) ^^^ BitVec.ofInt 32 (2147483648 : Int)).toNat : Int) = _
  rw [BitVec.toNat_xor, h1, h2, IntKind.wrap_u32]
  by_cases g : n < 2 ^ 31
  · rw [xor_low32 n g, if_pos (by omega)]; omega
  · rw [xor_high32 n (by omega) (by omega), if_neg (by omega)]; omega
theorem top_there {n : Int} (h : -2147483648 ≤ n ∧ n ≤ 2147483647) : bits .xor .u32 (n % 4294967296) 2147483648 = n + 2147483648 := by
  rw [bits_top32 _ (by omega)]
  split <;> omega
theorem strCat (l m : List UInt8) : (⟨l.toArray⟩ : ByteArray) ++ (⟨m.toArray⟩ : ByteArray) = ⟨(l ++ m).toArray⟩ :=
  ba_of (Go.Joins.data_append _ _)
theorem rep0 (m : Int) (s : ByteArray) (w : World) (hs : s.size ≤ 200) (hm : w.cell? ⟨0, 0, none⟩ = some (.int .i64 m)) :
    Calls Tryd.prog 40 #[.string s, .string ⟨#[0]⟩, .string ⟨#[0, 255]⟩] w fun e w' => e = .returned (.string ⟨(esc s.data.toList).toArray⟩) ∧ Below w.heap.size w w' := by
  have hc := Lib.countB_mul_le ⟨#[0]⟩ (by decide) s.size s (Nat.le_refl _)
  rw [show (⟨#[0]⟩ : ByteArray).size = 1 from rfl] at hc
  have h := Tryd.strings_ReplaceAll s ⟨#[0]⟩ ⟨#[0, 255]⟩ m w (by omega) hm (by decide) (by rw [show (⟨#[0, 255]⟩ : ByteArray).size = 2 from rfl]; omega)
  rw [show Lib.replaceAll s.data.toList (⟨#[0]⟩ : ByteArray).data.toList (⟨#[0, 255]⟩ : ByteArray).data.toList = esc s.data.toList from rep_esc _] at h
  exact h
/-- a right value's bytes behind that of its kind -/
theorem body_any (k n : Int) (s : ByteArray) (m : Int) (w : World) (hr : rightV (k, n, s) = true) (hf : fitV (k, n, s)) (hm : w.cell? ⟨0, 0, none⟩ = some (.int .i64 m)) :
    Calls Tryd.prog 47 #[.agg #[.int .i64 k, .int .i64 n, .string s]] w fun e w' => e = .returned (.string ⟨(bodyP (k, n, s)).toArray⟩) ∧ Below w.heap.size w w' := by
  have hlt : 0 < w.heap.size := World.block_lt_of_cell? _ _ hm
  have hk := right_k hr
  simp only at hk
  have HM := Lib.hid hm
  clear hm
  rcases hk with rfl | rfl | rfl | rfl | rfl
  · go_enter Tryd.func47, Tryd.ntmps47
    go_wp2
    go_ret
    exact ⟨retS rfl, below_alloc _ _⟩
  · have h1 := (right_1 hr).1
    have h2 : 0 ≤ n ∧ n ≤ 255 := by omega
    have hc := conv1 (w.alloc (.cells #[.int .i64 1, .int .i64 n, .string s] 41))
    rw [show (w.alloc (.cells #[.int .i64 1, .int .i64 n, .string s] 41)).heap.size = w.heap.size + 1 by simp] at hc
    go_enter Tryd.func47, Tryd.ntmps47
    go_wp2
    go_ret
    refine ⟨retS ?_, (below_alloc _ _).alloc (by simp) _⟩
    rcases h1 with rfl | rfl <;> rfl
  · have h1 := (right_2 hr).1
    have HT := Lib.hid (top_there h1)
    have h2 : 0 ≤ n + 2147483648 ∧ n + 2147483648 < 4294967296 := by omega
    go_enter Tryd.func47, Tryd.ntmps47
    go_wp2_with fail
    rw [HT.out]
    refine (cput_any _ _ h2).mono ?_
    rintro e w1 ⟨rfl, hb⟩
    go_wp2
    go_ret
    exact ⟨retS rfl, bnext (below_alloc w _) (by simp) hb⟩
  · have h1 : Num.fits n := hf
    have HT := Lib.hid (putS_be (Num.flip n) (Num.flip_fits h1))
    go_enter Tryd.func47, Tryd.ntmps47
    go_wp2_with fail
    refine (Num.flip_any _ _ h1).mono ?_
    rintro e w' ⟨rfl, rfl⟩
    go_wp2_with fail
    refine (Num.put_any _ _ (Num.flip_fits h1)).mono ?_
    rintro e w1 ⟨rfl, hb⟩
    go_wp2
    go_ret
    exact ⟨retS (by rw [HT.out]; rfl), bnext (below_alloc w _) (by simp) hb⟩
  · have h1 := (right_4 hr).2
    have hle : (esc s.data.toList).length ≤ 400 := by have := esc_length s.data.toList; have e : s.data.toList.length = s.size := rfl; omega
    go_enter Tryd.func47, Tryd.ntmps47
    go_wp2_with fail
    refine (rep0 m s _ h1 (by rw [(below_alloc w _).cell (p := ⟨0, 0, none⟩) hlt]; exact HM.out)).mono ?_
    rintro e w1 ⟨rfl, hb⟩
    go_wp2
    go_ret
    exact ⟨retS (strCat _ _), bnext (below_alloc w _) (by simp) hb⟩

end Go.Proofs.YtpdoomhpfdmklaaDoor.Code
