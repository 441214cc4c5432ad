/-
  Contracts of the document's One and Encode.
-/
import Derived.Test.YtmaecoidoejipaaDoorCodeDec
import Derived.Test.YtmaecoidoejipaaDoorCodeRef
namespace Go.Proofs.YtmaecoidoejipaaDoor.Code
open Go.ChangeShapes Go.WideShapes Go.ChangeAt Go.RowKit Val
set_option linter.unusedVariables false

theorem esc_snoc (b : UInt8) : ∀ l : List UInt8, esc (l ++ [b]) = esc l ++ (if b = 0 then [0, 255] else [b])
  | [] => by simp [esc]
  | c :: l => by
    show esc (c :: (l ++ [b])) = _
    rw [esc, esc, esc_snoc b l]
    split <;> simp
theorem esc_take (s : ByteArray) (k : Nat) (h : k < s.size) : esc (s.data.toList.take (k + 1)) = esc (s.data.toList.take k) ++ (if s[k] = 0 then [0, 255] else [s[k]]) := by
  have hl : s.data.toList.length = s.size := rfl
  rw [List.take_succ_eq_append_getElem (by omega), esc_snoc]
  rfl
theorem one_at (s : ByteArray) (k : Nat) (h : k < s.size) : s.extract k (k + 1) = ⟨#[s[k]]⟩ := by
  refine ba_of ?_
  have hl : s.data.toList.length = s.size := rfl
  rw [ByteArray.data_extract, Array.toList_extract, List.extract_eq_take_drop, List.drop_eq_getElem_cons (by omega), show k + 1 - k = 1 by omega]
  rfl
theorem putS_size (a : Int) : (Num.putS a).size = 8 := by
  unfold Num.putS
  rw [size_list, strOfNums_data]
  rfl
theorem put_low (u : Int) (h : 0 ≤ u ∧ u < 4294967296) : (Num.putS u).extract 4 (Num.putS u).size = ⟨(be 4 u).toArray⟩ := by
  refine ba_of ?_
  rw [from_list, putS_be u (by unfold Num.fitsU; omega)]
  exact be8_drop h
theorem strV {a b : ByteArray} (h : a = b) : Value.string a = Value.string b := by rw [h]
set_option maxHeartbeats 2000000 in
theorem one_any (k n : Int) (s : ByteArray) (w : World) (hr : rightV (k, n, s) = true) (hf : fitV (k, n, s)) :
    Calls Tryd.prog 21 #[.agg #[.int .i64 k, .int .i64 n, .string s]] w fun e w' => e = .returned (.string ⟨(encV (k, n, s)).toArray⟩) ∧ Below w.heap.size w w' := by
  have hk := right_k hr
  simp only at hk
  have hc := fun k => conv1 (w.alloc (.cells #[.int .i64 k, .int .i64 n, .string s] 32))
  have hz := fun (k : Int) => show (w.alloc (.cells #[.int .i64 k, .int .i64 n, .string s] 32)).heap.size = w.heap.size + 1 by simp
  rcases hk with rfl | rfl | rfl | rfl | rfl
  · have hc0 := hc 0
    rw [hz 0] at hc0
    clear hc hz
    go_enter Tryd.func21, Tryd.ntmps21
    go_wp2
    go_ret
    exact ⟨retS rfl, (below_alloc _ _).alloc (by simp) _⟩
  · have h1 := (right_1 hr).1
    have h2 : 0 ≤ n ∧ n ≤ 255 := by omega
    have hc0 := hc 1
    rw [hz 1] at hc0
    have hc1 := conv1 ((w.alloc (.cells #[.int .i64 1, .int .i64 n, .string s] 32)).alloc (.cells #[.int .u8 1] 5))
    rw [show ((w.alloc (.cells #[.int .i64 1, .int .i64 n, .string s] 32)).alloc (.cells #[.int .u8 1] 5)).heap.size = w.heap.size + 1 + 1 by simp] at hc1
    clear hc hz
    go_enter Tryd.func21, Tryd.ntmps21
    go_wp2
    go_ret
    refine ⟨retS ?_, ((below_alloc _ _).alloc (by simp) _).alloc (by simp; omega) _⟩
    rcases h1 with rfl | rfl <;> rfl
  · have h1 := (right_2 hr).1
    have h2 : 0 ≤ n + 2147483648 ∧ n + 2147483648 < 4294967296 := by omega
    have hc0 := hc 2
    rw [hz 2] at hc0
    have hps := putS_size (n + 2147483648)
    have hsl := cut_from (Num.putS (n + 2147483648)) 4 4 rfl (by omega)
    rw [put_low _ h2] at hsl
    clear hc hz
    go_enter Tryd.func21, Tryd.ntmps21
    go_wp2_with fail
    refine (Num.rput_any _ _ (by unfold Num.fitsU; omega)).mono ?_
    rintro e w1 ⟨rfl, hb⟩
    go_wp2
    go_ret
    exact ⟨retS (strCat [2] _), bnext ((below_alloc w _).alloc (by simp) _) (by simp; omega) hb⟩
  · have h1 : Num.fits n := hf
    have HT := Lib.hid (putS_be (Num.flip n) (Num.flip_fits h1))
    have hc0 := hc 3
    rw [hz 3] at hc0
    clear hc hz
    go_enter Tryd.func21, Tryd.ntmps21
    go_wp2_with fail
    refine (Num.rflip_any _ _ h1).mono ?_
    rintro e w' ⟨rfl, rfl⟩
    go_wp2_with fail
    refine (Num.rput_any _ _ (Num.flip_fits h1)).mono ?_
    rintro e w1 ⟨rfl, hb⟩
    go_wp2
    go_ret
    exact ⟨retS (by rw [HT.out]; exact strCat [3] _), bnext ((below_alloc w _).alloc (by simp) _) (by simp; omega) hb⟩
  · have h1 := (right_4 hr).2
    have hc0 := hc 4
    rw [hz 4] at hc0
    clear hc hz
    go_enter Tryd.func21, Tryd.ntmps21
    have h200 : s.size ≤ 200 := h1
    clear h1
    go_wp2
    go_loop [3, 4] (fun t i => ∃ j : Nat, j ≤ s.size ∧ i = .int .i64 j ∧ t = .string ⟨(4 :: esc (s.data.toList.take j)).toArray⟩) (fun _ i => s.size - (intOf i).toNat)
    case atStart => exact ⟨0, by omega, rfl, rfl⟩
    case round =>
      obtain ⟨j, hj, rfl, rfl⟩ := hrel
      have hle := esc_length (s.data.toList.take j)
      have hle2 : (s.data.toList.take j).length ≤ 200 := by rw [List.length_take]; omega
      by_cases hlt : j < s.size
      · have hsl := cut_at s j (j + 1) j (j + 1) rfl (by omega) (by omega) (by omega)
        rw [one_at s j hlt] at hsl
        have HE := Lib.hid (esc_take s j hlt)
        by_cases a0 : s[j] = 0
        · have i0 : (s[j].toNat : Int) = 0 := by rw [a0]; rfl
          have HE2 := Lib.hid (HE.out.trans (by rw [if_pos a0]))
          rw [a0] at hsl
          clear a0 HE
          go_wp2
          go_round
          case rel => exact ⟨j + 1, by omega, by go_num, by rw [HE2.out]; exact strV (ba_of (by simp))⟩
          case measure => simp [intOf]; omega
        · have i0 : ((s[j].toNat : Int) == 0) = false := by
            have : s[j].toNat ≠ 0 := fun e => a0 (UInt8.toNat_inj.1 e)
            simp
            exact this
          have HE2 := Lib.hid (HE.out.trans (by rw [if_neg a0]))
          clear a0 HE
          go_wp2
          go_round
          case rel => exact ⟨j + 1, by omega, by go_num, by rw [HE2.out]; exact strV (ba_of (by simp))⟩
          case measure => simp [intOf]; omega
      · obtain rfl : j = s.size := by omega
        rw [List.take_of_length_le (by rw [size_list]; exact Nat.le_refl _)] at *
        go_wp2
        go_ret
        exact ⟨retS (ba_of (by simp [encV, bodyP, byt_small])), (below_alloc _ _).alloc (by simp) _⟩
end Go.Proofs.YtmaecoidoejipaaDoor.Code
