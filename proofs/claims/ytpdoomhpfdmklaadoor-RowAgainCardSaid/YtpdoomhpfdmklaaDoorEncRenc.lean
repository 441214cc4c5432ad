/-
  Contracts of the document's One and Encode (cut out of CodeOne and CodeRenc).
-/
import Derived.Test.YtpdoomhpfdmklaaDoorEncEnc
namespace Go.Proofs.YtpdoomhpfdmklaaDoor.Code
open Go.ChangeShapes Go.WideShapes Go.ChangeAt Go.RowKit Val
set_option linter.unusedVariables false

theorem esc_snoc (b : UInt8) : ∀ l : List UInt8, esc (l ++ [b]) = esc l ++ (if b = 0 then [0, 255] else [b])
  | [] => by simp [esc]
  | c :: l => by
    show esc (c :: (l ++ [b])) = _
    rw [esc, esc, esc_snoc b l]
    split <;> simp
theorem esc_take (s : ByteArray) (k : Nat) (h : k < s.size) : esc (s.data.toList.take (k + 1)) = esc (s.data.toList.take k) ++ (if s[k] = 0 then [0, 255] else [s[k]]) := by
  have hl : s.data.toList.length = s.size := rfl
  rw [List.take_succ_eq_append_getElem (by omega), esc_snoc]
  rfl
theorem one_at (s : ByteArray) (k : Nat) (h : k < s.size) : s.extract k (k + 1) = ⟨#[s[k]]⟩ := by
  refine ba_of ?_
  have hl : s.data.toList.length = s.size := rfl
  rw [ByteArray.data_extract, Array.toList_extract, List.extract_eq_take_drop, List.drop_eq_getElem_cons (by omega), show k + 1 - k = 1 by omega]
  rfl
theorem putS_size (a : Int) : (Num.putS a).size = 8 := by
  unfold Num.putS
  rw [size_list, strOfNums_data]
  rfl
theorem put_low (u : Int) (h : 0 ≤ u ∧ u < 4294967296) : (Num.putS u).extract 4 (Num.putS u).size = ⟨(be 4 u).toArray⟩ := by
  refine ba_of ?_
  rw [from_list, putS_be u (by unfold Num.fitsU; omega)]
  exact be8_drop h
theorem strV {a b : ByteArray} (h : a = b) : Value.string a = Value.string b := by rw [h]
set_option maxHeartbeats 2000000 in
theorem one_any (k n : Int) (s : ByteArray) (w : World) (hr : rightV (k, n, s) = true) (hf : fitV (k, n, s)) :
    Calls Tryd.prog 48 #[.agg #[.int .i64 k, .int .i64 n, .string s]] w fun e w' => e = .returned (.string ⟨(encV (k, n, s)).toArray⟩) ∧ Below w.heap.size w w' := by
  have hk := right_k hr
  simp only at hk
  have hc := fun k => conv1 (w.alloc (.cells #[.int .i64 k, .int .i64 n, .string s] 41))
  have hz := fun (k : Int) => show (w.alloc (.cells #[.int .i64 k, .int .i64 n, .string s] 41)).heap.size = w.heap.size + 1 by simp
  rcases hk with rfl | rfl | rfl | rfl | rfl
  · have hc0 := hc 0
    rw [hz 0] at hc0
    clear hc hz
    go_enter Tryd.func48, Tryd.ntmps48
    go_wp2
    go_ret
    exact ⟨retS rfl, (below_alloc _ _).alloc (by simp) _⟩
  · have h1 := (right_1 hr).1
    have h2 : 0 ≤ n ∧ n ≤ 255 := by omega
    have hc0 := hc 1
    rw [hz 1] at hc0
    have hc1 := conv1 ((w.alloc (.cells #[.int .i64 1, .int .i64 n, .string s] 41)).alloc (.cells #[.int .u8 1] 5))
    rw [show ((w.alloc (.cells #[.int .i64 1, .int .i64 n, .string s] 41)).alloc (.cells #[.int .u8 1] 5)).heap.size = w.heap.size + 1 + 1 by simp] at hc1
    clear hc hz
    go_enter Tryd.func48, Tryd.ntmps48
    go_wp2
    go_ret
    refine ⟨retS ?_, ((below_alloc _ _).alloc (by simp) _).alloc (by simp; omega) _⟩
    rcases h1 with rfl | rfl <;> rfl
  · have h1 := (right_2 hr).1
    have h2 : 0 ≤ n + 2147483648 ∧ n + 2147483648 < 4294967296 := by omega
    have hc0 := hc 2
    rw [hz 2] at hc0
    have hps := putS_size (n + 2147483648)
    have hsl := cut_from (Num.putS (n + 2147483648)) 4 4 rfl (by omega)
    rw [put_low _ h2] at hsl
    clear hc hz
    go_enter Tryd.func48, Tryd.ntmps48
    go_wp2_with fail
    refine (Num.rput_any _ _ (by unfold Num.fitsU; omega)).mono ?_
    rintro e w1 ⟨rfl, hb⟩
    go_wp2
    go_ret
    exact ⟨retS (strCat [2] _), bnext ((below_alloc w _).alloc (by simp) _) (by simp; omega) hb⟩
  · have h1 : Num.fits n := hf
    have HT := Lib.hid (putS_be (Num.flip n) (Num.flip_fits h1))
    have hc0 := hc 3
    rw [hz 3] at hc0
    clear hc hz
    go_enter Tryd.func48, Tryd.ntmps48
    go_wp2_with fail
    refine (Num.rflip_any _ _ h1).mono ?_
    rintro e w' ⟨rfl, rfl⟩
    go_wp2_with fail
    refine (Num.rput_any _ _ (Num.flip_fits h1)).mono ?_
    rintro e w1 ⟨rfl, hb⟩
    go_wp2
    go_ret
    exact ⟨retS (by rw [HT.out]; exact strCat [3] _), bnext ((below_alloc w _).alloc (by simp) _) (by simp; omega) hb⟩
  · have h1 := (right_4 hr).2
    have hc0 := hc 4
    rw [hz 4] at hc0
    clear hc hz
    go_enter Tryd.func48, Tryd.ntmps48
    have h200 : s.size ≤ 200 := h1
    clear h1
    go_wp2
    go_loop [3, 4] (fun t i => ∃ j : Nat, j ≤ s.size ∧ i = .int .i64 j ∧ t = .string ⟨(4 :: esc (s.data.toList.take j)).toArray⟩) (fun _ i => s.size - (intOf i).toNat)
    case atStart => exact ⟨0, by omega, rfl, rfl⟩
    case round =>
      obtain ⟨j, hj, rfl, rfl⟩ := hrel
      have hle := esc_length (s.data.toList.take j)
      have hle2 : (s.data.toList.take j).length ≤ 200 := by rw [List.length_take]; omega
      by_cases hlt : j < s.size
      · have hsl := cut_at s j (j + 1) j (j + 1) rfl (by omega) (by omega) (by omega)
        rw [one_at s j hlt] at hsl
        have HE := Lib.hid (esc_take s j hlt)
        by_cases a0 : s[j] = 0
        · have i0 : (s[j].toNat : Int) = 0 := by rw [a0]; rfl
          have HE2 := Lib.hid (HE.out.trans (by rw [if_pos a0]))
          rw [a0] at hsl
          clear a0 HE
          go_wp2
          go_round
          case rel => exact ⟨j + 1, by omega, by go_num, by rw [HE2.out]; exact strV (ba_of (by simp))⟩
          case measure => simp [intOf]; omega
        · have i0 : ((s[j].toNat : Int) == 0) = false := by
            have : s[j].toNat ≠ 0 := fun e => a0 (UInt8.toNat_inj.1 e)
            simp
            exact this
          have HE2 := Lib.hid (HE.out.trans (by rw [if_neg a0]))
          clear a0 HE
          go_wp2
          go_round
          case rel => exact ⟨j + 1, by omega, by go_num, by rw [HE2.out]; exact strV (ba_of (by simp))⟩
          case measure => simp [intOf]; omega
      · obtain rfl : j = s.size := by omega
        rw [List.take_of_length_le (by rw [size_list]; exact Nat.le_refl _)] at *
        go_wp2
        go_ret
        exact ⟨retS (ba_of (by simp [encV, bodyP, byt_small])), (below_alloc _ _).alloc (by simp) _⟩

set_option maxHeartbeats 4000000 in
theorem rencode_any (A : Option Addr) (cap : Nat) (l : List (Int × Int × ByteArray)) (w : World) (hv : Vals w w.heap.size A l) (hf : FitL l) (hl : l.length ≤ 300000000000) :
    Calls Tryd.prog 31 #[.slice A l.length cap] w fun e w' => e = .returned (.tuple #[.string (encS l), .int .i64 (encE l)]) ∧ Below w.heap.size w w' := by
  have HV := Lib.hid hv
  have HF := Lib.hid hf
  clear hv hf
  go_enter Tryd.func31, Tryd.ntmps31
  go_wp2
  go_loopw [4, 5] (fun t i wr => ∃ k : Nat, k ≤ l.length ∧ i = .int .i64 k ∧ t = .string ⟨(encL (l.take k)).toArray⟩ ∧ Hid (rightL (l.take k) = true) ∧ Below w.heap.size w wr) (fun _ i _ => l.length - (intOf i).toNat)
  case atStart => exact ⟨0, by omega, rfl, rfl, Lib.hid rfl, Below.refl _ _⟩
  case round =>
    obtain ⟨k, hk, rfl, rfl, HK, hbel⟩ := hrel
    have hsz := hbel.size
    have hlen := encL_length HK.out
    rw [List.length_take_of_le hk] at hlen
    have HL := Lib.hid hbel
    have VA := Lib.hid (HV.out.below hbel)
    clear hbel
    by_cases hkl : k < l.length
    · obtain ⟨ad, hA, ha, c0, c1, c2⟩ := VA.out k hkl
      subst hA
      have HN := Lib.hid (HF.out l[k] (List.getElem_mem hkl))
      have HE := Lib.hid (encL_snoc l k hkl)
      have HR := Lib.hid (rightL_snoc l k hkl)
      by_cases hr : rightV l[k] = true
      · have HR2 := Lib.hid (rright_is l[k].1 l[k].2.1 l[k].2.2 true (by simpa [rightV] using hr))
        have HO := Lib.hid (fun w => one_any l[k].1 l[k].2.1 l[k].2.2 w hr HN.out)
        have hev : (encV (l[k].1, l[k].2.1, l[k].2.2)).length ≤ 403 := (enc_length hr).2
        have HK2 := Lib.hid (show rightL (l.take (k + 1)) = true by rw [HR.out, HK.out, hr]; rfl)
        clear hr
        go_wp2_with fail
        refine (HR2.out _).mono ?_
        rintro e w1 ⟨rfl, hb1⟩
        have L1 := Lib.hid (bnext HL.out hsz hb1)
        have hz1 := L1.out.size
        obtain ⟨ad2, hA, ha2, d0, d1, d2⟩ := (HV.out.below L1.out) k hkl
        obtain rfl : ad = ad2 := Option.some.inj hA
        clear hb1 c0 c1 c2
        go_wp2_with fail
        refine (HO.out _).mono ?_
        rintro e w2 ⟨rfl, hb2⟩
        have L2 := Lib.hid (bnext L1.out hz1 hb2)
        clear hb2
        go_wp2
        go_roundw
        case rel => exact ⟨k + 1, by omega, by go_num, strV (by rw [HE.out]; exact strCat _ _), HK2, L2.out⟩
        case measure => simp [intOf]; omega
      · have HR2 := Lib.hid (rright_is l[k].1 l[k].2.1 l[k].2.2 false (by simpa [rightV] using hr))
        have HX := Lib.hid (enc_no (rightL_not hkl (by simpa using hr)))
        clear hr
        go_wp2_with fail
        refine (HR2.out _).mono ?_
        rintro e w1 ⟨rfl, hb1⟩
        have L1 := Lib.hid (bnext HL.out hsz hb1)
        clear hb1
        go_wp2
        go_ret2
        exact ⟨retSE HX.out.1.symm HX.out.2.symm, L1.out⟩
    · obtain rfl : k = l.length := by omega
      rw [List.take_length] at *
      have HX := Lib.hid (enc_yes HK.out)
      go_wp2
      go_ret2
      exact ⟨retSE HX.out.1.symm HX.out.2.symm, HL.out⟩

end Go.Proofs.YtpdoomhpfdmklaaDoor.Code
