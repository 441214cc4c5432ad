/-
  The contract of code.Encode, for every list of values (cut out of CodeEnc).
-/
import Derived.Test.YtpdoomhpfdmklaaDoorEncCalls
import Derived.Test.YtpdoomhpfdmklaaDoorRowSmall
namespace Go.Proofs.YtpdoomhpfdmklaaDoor.Code
open Go.ChangeShapes Go.WideShapes Go.ChangeAt Go.RowKit Val
set_option linter.unusedVariables false

theorem writeByte_i (B b : Nat) (l : List UInt8) (k : Int) (hk : 0 ≤ k ∧ k < 256) (w : World) (h : Bld B b l w) (hlen : l.length + 1 ≤ 140737488355328) (hBw : B ≤ w.heap.size) :
    Calls Tryd.prog 46 #[.pointer (some ⟨b, 0, none⟩), .int .u8 k] w fun e w' => e = .returned .nilIface ∧ Bld B b (l ++ [byt k]) w' ∧ Below B w w' ∧ Lib.OthersKept 5 (some b) w w' := by
  have h2 := writeByte_k B b l (byt k) w h hlen hBw
  rw [byt_toNat hk.1 hk.2] at h2
  exact h2
theorem encL_snoc (l : List (Int × Int × ByteArray)) (k : Nat) (h : k < l.length) : encL (l.take (k + 1)) = encL (l.take k) ++ encV l[k] := by
  unfold encL
  rw [List.take_succ_eq_append_getElem h, List.flatMap_append]
  simp
def encS (l : List (Int × Int × ByteArray)) : ByteArray := if rightL l then ⟨(encL l).toArray⟩ else ⟨#[]⟩
def encE (l : List (Int × Int × ByteArray)) : Int := if rightL l then 0 else 1
theorem enc_yes {l : List (Int × Int × ByteArray)} (h : rightL l = true) : encS l = ⟨(encL l).toArray⟩ ∧ encE l = 0 := by
  unfold encS encE
  rw [h]
  exact ⟨rfl, rfl⟩
theorem enc_no {l : List (Int × Int × ByteArray)} (h : rightL l = false) : encS l = ⟨#[]⟩ ∧ encE l = 1 := by
  unfold encS encE
  rw [h]
  exact ⟨rfl, rfl⟩
theorem retSE {a c : ByteArray} {b d : Int} (h : a = c) (g : b = d) : Ending.returned (.tuple #[.string a, .int .i64 b]) = .returned (.tuple #[.string c, .int .i64 d]) := by rw [h, g]
set_option maxHeartbeats 4000000 in
theorem encode_any (A : Option Addr) (cap : Nat) (l : List (Int × Int × ByteArray)) (m : Int) (w : World) (hv : Vals w w.heap.size A l) (hf : FitL l) (hl : l.length ≤ 300000000000) (hm : w.cell? ⟨0, 0, none⟩ = some (.int .i64 m)) :
    Calls Tryd.prog 30 #[.slice A l.length cap] w fun e w' => e = .returned (.tuple #[.string (encS l), .int .i64 (encE l)]) ∧ Below w.heap.size w w' := by
  have hlt : 0 < w.heap.size := World.block_lt_of_cell? _ _ hm
  have HM := Lib.hid hm
  have HV := Lib.hid hv
  have HF := Lib.hid hf
  clear hm hv hf
  go_enter Tryd.func30, Tryd.ntmps30
  go_wp2
  have HB0 := Lib.hid (Bld.fresh w)
  have HL0 := Lib.hid (below_alloc w (.cells #[.pointer none, .slice none 0 0] 64))
  go_loopw [9] (fun i wr => ∃ k : Nat, k ≤ l.length ∧ i = .int .i64 k ∧ Hid (rightL (l.take k) = true) ∧ Bld w.heap.size w.heap.size (encL (l.take k)) wr ∧ Below w.heap.size w wr) (fun i _ => l.length - (intOf i).toNat)
  case atStart => exact ⟨0, by omega, rfl, Lib.hid rfl, HB0.out, HL0.out⟩
  case round =>
    obtain ⟨k, hk, rfl, HK, hbd, hbel⟩ := hrel
    have hsz := hbel.size
    have hlen := encL_length HK.out
    rw [List.length_take_of_le hk] at hlen
    have HB := Lib.hid hbd
    have hblt := hbd.lt
    have HL := Lib.hid hbel
    have VA := Lib.hid (HV.out.below hbel)
    clear hbel hbd
    by_cases hkl : k < l.length
    · obtain ⟨ad, rfl, ha, c0, c1, c2⟩ := VA.out k hkl
      have HN := Lib.hid (HF.out l[k] (List.getElem_mem hkl))
      have HE := Lib.hid (encL_snoc l k hkl)
      have HR := Lib.hid (rightL_snoc l k hkl)
      by_cases hr : rightV l[k] = true
      · have HR2 := Lib.hid (right_is l[k].1 l[k].2.1 l[k].2.2 true HN.out (by simpa [rightV] using hr))
        have hk4 := right_k hr
        have HBY := Lib.hid (fun w => body_any l[k].1 l[k].2.1 l[k].2.2 m w hr HN.out)
        have hev := (enc_length hr).2
        have HEV := Lib.hid (show encV l[k] = byt l[k].1 :: bodyP l[k] from rfl)
        have hbl : (bodyP l[k]).length ≤ 402 := by rw [HEV.out] at hev; simp at hev; omega
        have hkk : 0 ≤ l[k].1 ∧ l[k].1 ≤ 255 := by omega
        have HK2 := Lib.hid (show rightL (l.take (k + 1)) = true by rw [HR.out, HK.out, hr]; rfl)
        clear hr hk4 hev
        go_wp2_with fail
        refine (HR2.out _).mono ?_
        rintro e w1 ⟨rfl, hb1⟩
        have L1 := Lib.hid (bnext (HL.out.alloc hsz _) (by simp; omega) hb1)
        have hz1 := L1.out.size
        have B1 := Lib.hid ((HB.out.alloc _).call hb1)
        have X1 := Lib.hid ((VBlk.fresh wr l[k].1 l[k].2.1 l[k].2.2).call hb1)
        obtain ⟨x0, x1, x2, xz⟩ := X1.out.box
        clear hb1
        go_wp2_with fail
        refine (writeByte_i _ _ _ l[k].1 ⟨hkk.1, by omega⟩ _ B1.out (by omega) hz1).mono ?_
        rintro e w2 ⟨rfl, hb2, hc2, ho2⟩
        have B2 := Lib.hid hb2
        have L2 := Lib.hid (L1.out.trans hc2)
        have hz2 := L2.out.size
        have X2 := Lib.hid (X1.out.others ho2 (by omega))
        clear hb2 hc2 ho2 x0 x1 x2 xz
        obtain ⟨x0, x1, x2, xz⟩ := X2.out.box
        go_wp2_with fail
        refine (HBY.out _ (by rw [L2.out.cell (p := ⟨0, 0, none⟩) hlt]; exact HM.out)).mono ?_
        rintro e w3 ⟨rfl, hb3⟩
        have B3 := Lib.hid (B2.out.call hb3)
        have L3 := Lib.hid (bnext L2.out hz2 hb3)
        have hz3 := L3.out.size
        clear hb3 x0 x1 x2 xz
        go_wp2_with fail
        refine (writeString_k _ _ _ ⟨(bodyP l[k]).toArray⟩ _ B3.out (by rw [List.length_append]; show _ + (bodyP l[k]).length ≤ _; simp; omega) hz3).mono ?_
        rintro e w4 ⟨rfl, hb4, hc4, _⟩
        have B4 := Lib.hid (show Bld w.heap.size w.heap.size (encL (l.take (k + 1))) w4 by rw [HE.out, HEV.out]; simpa using hb4)
        have L4 := Lib.hid (L3.out.trans hc4)
        clear hb4 hc4
        go_wp2
        go_roundw
        case rel => exact ⟨k + 1, by omega, by go_num, HK2, B4.out, L4.out⟩
        case measure => simp [intOf]; omega
      · have HR2 := Lib.hid (right_is l[k].1 l[k].2.1 l[k].2.2 false HN.out (by simpa [rightV] using hr))
        have HX := Lib.hid (enc_no (rightL_not hkl (by simpa using hr)))
        clear hr
        go_wp2_with fail
        refine (HR2.out _).mono ?_
        rintro e w1 ⟨rfl, hb1⟩
        have L1 := Lib.hid (bnext (HL.out.alloc hsz _) (by simp; omega) hb1)
        clear hb1
        go_wp2
        go_ret2
        exact ⟨retSE HX.out.1.symm HX.out.2.symm, L1.out⟩
    · obtain rfl : k = l.length := by omega
      rw [List.take_length] at HK HB
      have HX := Lib.hid (enc_yes HK.out)
      go_wp2_with fail
      refine (string_k _ _ _ _ HB.out hsz).mono ?_
      rintro e w1 ⟨rfl, _, hc1, _⟩
      have L1 := Lib.hid (HL.out.trans hc1)
      clear hc1
      go_wp2
      go_ret2
      exact ⟨retSE HX.out.1.symm HX.out.2.symm, L1.out⟩

end Go.Proofs.YtpdoomhpfdmklaaDoor.Code
