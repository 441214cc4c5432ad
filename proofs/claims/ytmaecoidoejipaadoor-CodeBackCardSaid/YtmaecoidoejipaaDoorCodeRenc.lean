/-
  The contract of the document's Encode.
-/
import Derived.Test.YtmaecoidoejipaaDoorCodeOne
namespace Go.Proofs.YtmaecoidoejipaaDoor.Code
open Go.ChangeShapes Go.WideShapes Go.ChangeAt Go.RowKit Val
set_option linter.unusedVariables false

theorem rright_is (k n : Int) (s : ByteArray) (b : Bool) (h : rightB k n s = b) (w : World) :
    Calls Tryd.prog 11 #[.agg #[.int .i64 k, .int .i64 n, .string s]] w fun e w' => e = .returned (.bool b) ∧ Below w.heap.size w w' := by
  have := rright_any k n s w
  rw [h] at this
  exact this
set_option maxHeartbeats 4000000 in
theorem rencode_any (A : Option Addr) (cap : Nat) (l : List (Int × Int × ByteArray)) (w : World) (hv : Vals w w.heap.size A l) (hf : FitL l) (hl : l.length ≤ 300000000000) :
    Calls Tryd.prog 10 #[.slice A l.length cap] w fun e w' => e = .returned (.tuple #[.string (encS l), .int .i64 (encE l)]) ∧ Below w.heap.size w w' := by
  have HV := Lib.hid hv
  have HF := Lib.hid hf
  clear hv hf
  go_enter Tryd.func10, Tryd.ntmps10
  go_wp2
  go_loopw [4, 5] (fun t i wr => ∃ k : Nat, k ≤ l.length ∧ i = .int .i64 k ∧ t = .string ⟨(encL (l.take k)).toArray⟩ ∧ Hid (rightL (l.take k) = true) ∧ Below w.heap.size w wr) (fun _ i _ => l.length - (intOf i).toNat)
  case atStart => exact ⟨0, by omega, rfl, rfl, Lib.hid rfl, Below.refl _ _⟩
  case round =>
    obtain ⟨k, hk, rfl, rfl, HK, hbel⟩ := hrel
    have hsz := hbel.size
    have hlen := encL_length HK.out
    rw [List.length_take_of_le hk] at hlen
    have HL := Lib.hid hbel
    have VA := Lib.hid (HV.out.below hbel)
    clear hbel
    by_cases hkl : k < l.length
    · obtain ⟨ad, hA, ha, c0, c1, c2⟩ := VA.out k hkl
      subst hA
      have HN := Lib.hid (HF.out l[k] (List.getElem_mem hkl))
      have HE := Lib.hid (encL_snoc l k hkl)
      have HR := Lib.hid (rightL_snoc l k hkl)
      by_cases hr : rightV l[k] = true
      · have HR2 := Lib.hid (rright_is l[k].1 l[k].2.1 l[k].2.2 true (by simpa [rightV] using hr))
        have HO := Lib.hid (fun w => one_any l[k].1 l[k].2.1 l[k].2.2 w hr HN.out)
        have hev : (encV (l[k].1, l[k].2.1, l[k].2.2)).length ≤ 403 := (enc_length hr).2
        have HK2 := Lib.hid (show rightL (l.take (k + 1)) = true by rw [HR.out, HK.out, hr]; rfl)
        clear hr
        go_wp2_with fail
        refine (HR2.out _).mono ?_
        rintro e w1 ⟨rfl, hb1⟩
        have L1 := Lib.hid (bnext HL.out hsz hb1)
        have hz1 := L1.out.size
        obtain ⟨ad2, hA, ha2, d0, d1, d2⟩ := (HV.out.below L1.out) k hkl
        obtain rfl : ad = ad2 := Option.some.inj hA
        clear hb1 c0 c1 c2
        go_wp2_with fail
        refine (HO.out _).mono ?_
        rintro e w2 ⟨rfl, hb2⟩
        have L2 := Lib.hid (bnext L1.out hz1 hb2)
        clear hb2
        go_wp2
        go_roundw
        case rel => exact ⟨k + 1, by omega, by go_num, strV (by rw [HE.out]; exact strCat _ _), HK2, L2.out⟩
        case measure => simp [intOf]; omega
      · have HR2 := Lib.hid (rright_is l[k].1 l[k].2.1 l[k].2.2 false (by simpa [rightV] using hr))
        have HX := Lib.hid (enc_no (rightL_not hkl (by simpa using hr)))
        clear hr
        go_wp2_with fail
        refine (HR2.out _).mono ?_
        rintro e w1 ⟨rfl, hb1⟩
        have L1 := Lib.hid (bnext HL.out hsz hb1)
        clear hb1
        go_wp2
        go_ret2
        exact ⟨retSE HX.out.1.symm HX.out.2.symm, L1.out⟩
    · obtain rfl : k = l.length := by omega
      rw [List.take_length] at *
      have HX := Lib.hid (enc_yes HK.out)
      go_wp2
      go_ret2
      exact ⟨retSE HX.out.1.symm HX.out.2.symm, HL.out⟩
end Go.Proofs.YtmaecoidoejipaaDoor.Code
