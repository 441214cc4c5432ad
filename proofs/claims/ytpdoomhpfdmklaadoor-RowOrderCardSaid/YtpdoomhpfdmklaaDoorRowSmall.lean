/-
  Contracts of the law's Small, of row.Right and of the document's Right of rows.
-/
import Derived.Test.YtpdoomhpfdmklaaDoorRowMem
namespace Go.Proofs.YtpdoomhpfdmklaaDoor.Code
open Go.ChangeShapes Go.WideShapes Go.ChangeAt Go.RowKit Val
set_option linter.unusedVariables false

def smallB (l : List (Int × Int × ByteArray)) : Bool := decide (l.length ≤ 30) && decide (sizes l ≤ 600)
set_option maxHeartbeats 1000000 in
theorem small_any (A : Option Addr) (cap : Nat) (l : List (Int × Int × ByteArray)) (w : World) (hv : Vals w w.heap.size A l) (hs : Short l) (hl : l.length ≤ 140737488355328) :
    Calls Tryd.prog 7 #[.slice A l.length cap] w fun e w' => e = .returned (.bool (smallB l)) ∧ w = w' := by
  have HV := Lib.hid hv
  have HS := Lib.hid hs
  clear hv hs
  go_enter Tryd.func7, Tryd.ntmps7
  go_wp2
  go_loop [3, 4] (fun n i => ∃ k : Nat, k ≤ l.length ∧ k ≤ 31 ∧ i = .int .i64 k ∧ n = .int .i64 (sizes (l.take k) : Nat)) (fun _ i => 32 - (intOf i).toNat)
  case atStart => exact ⟨0, by omega, by omega, rfl, rfl⟩
  case round =>
    obtain ⟨k, hk, hk2, rfl, rfl⟩ := hrel
    have hz := sizes_le HS.out k
    by_cases hlt : k < l.length
    · by_cases h20 : k ≤ 30
      · obtain ⟨ad, rfl, hb, c0, c1, c2⟩ := HV.out k hlt
        have hz1 := HS.out l[k] (List.getElem_mem hlt)
        have HZ := Lib.hid (sizes_snoc l k hlt)
        go_wp2
        go_round
        case rel => exact ⟨k + 1, by omega, by omega, by go_num, by rw [HZ.out]; go_num⟩
        case measure => simp [intOf]; omega
      · have h20' : decide ((k : Int) ≤ 30) = false := by simp; omega
        have hb20 : decide ((l.length : Int) ≤ 30) = false := by simp; omega
        have HF := Lib.hid (show smallB l = false by unfold smallB; rw [decide_eq_false (by omega)]; rfl)
        go_wp2
        go_ret
        exact ⟨retB HF.out.symm, rfl⟩
    · obtain rfl : k = l.length := by omega
      rw [List.take_length] at *
      by_cases h20 : l.length ≤ 30
      · have h20' : decide ((l.length : Int) ≤ 30) = true := by simp; omega
        have HF := Lib.hid (show smallB l = decide (sizes l ≤ 600) by unfold smallB; rw [decide_eq_true h20]; rfl)
        go_wp2
        go_ret
        exact ⟨retB (by rw [HF.out]; exact decide_eq_decide.2 (by omega)), rfl⟩
      · have hb20 : decide ((l.length : Int) ≤ 30) = false := by simp; omega
        have HF := Lib.hid (show smallB l = false by unfold smallB; rw [decide_eq_false (by omega)]; rfl)
        go_wp2
        go_ret
        exact ⟨retB HF.out.symm, rfl⟩

theorem rightL_snoc (l : List (Int × Int × ByteArray)) (k : Nat) (h : k < l.length) : rightL (l.take (k + 1)) = (rightL (l.take k) && rightV l[k]) := by
  unfold rightL
  rw [List.take_succ_eq_append_getElem h, List.all_append]
  simp
theorem rightL_not {l : List (Int × Int × ByteArray)} {k : Nat} (h : k < l.length) (g : rightV l[k] = false) : rightL l = false := by
  unfold rightL
  rw [List.all_eq_false]
  exact ⟨l[k], List.getElem_mem h, by simp [g]⟩
/-- whether a row is right -/
def rightR (l : List (Int × Int × ByteArray)) : Bool := decide (l.length ≤ 24) && rightL l
set_option maxHeartbeats 1000000 in
theorem rowRight_any (A : Option Addr) (cap : Nat) (l : List (Int × Int × ByteArray)) (w : World) (hv : Vals w w.heap.size A l) (hf : FitL l) (hl : l.length ≤ 140737488355328) :
    Calls Tryd.prog 9 #[.slice A l.length cap] w fun e w' => e = .returned (.bool (rightR l)) ∧ Below w.heap.size w w' := by
  have HV := Lib.hid hv
  have HF := Lib.hid hf
  clear hv hf
  by_cases hlen : l.length ≤ 24
  · have e1 : decide ((24 : Int) < (l.length : Int)) = false := by simp; omega
    have HD := Lib.hid (show rightR l = rightL l by unfold rightR; rw [decide_eq_true hlen]; rfl)
    go_enter Tryd.func9, Tryd.ntmps9
    go_wp2
    go_loopw [9] (fun i wr => ∃ k : Nat, k ≤ l.length ∧ i = .int .i64 k ∧ Hid (rightL (l.take k) = true) ∧ Below w.heap.size w wr) (fun i _ => l.length - (intOf i).toNat)
    case atStart => exact ⟨0, by omega, rfl, Lib.hid rfl, Below.refl _ _⟩
    case round =>
      obtain ⟨k, hk, rfl, HK, hbel⟩ := hrel
      have hsz := hbel.size
      have HL := Lib.hid hbel
      have VA := Lib.hid (HV.out.below hbel)
      clear hbel
      by_cases hkl : k < l.length
      · obtain ⟨ad, rfl, ha, c0, c1, c2⟩ := VA.out k hkl
        have HN := Lib.hid (HF.out l[k] (List.getElem_mem hkl))
        have HR := Lib.hid (rightL_snoc l k hkl)
        by_cases hr : rightV l[k] = true
        · have HR2 := Lib.hid (right_is l[k].1 l[k].2.1 l[k].2.2 true HN.out (by simpa [rightV] using hr))
          have HK2 := Lib.hid (show rightL (l.take (k + 1)) = true by rw [HR.out, HK.out, hr]; rfl)
          clear hr
          go_wp2_with fail
          refine (HR2.out _).mono ?_
          rintro e w1 ⟨rfl, hb1⟩
          have L1 := Lib.hid (bnext HL.out hsz hb1)
          clear hb1 c0 c1 c2
          go_wp2
          go_roundw
          case rel => exact ⟨k + 1, by omega, by go_num, HK2, L1.out⟩
          case measure => simp [intOf]; omega
        · have HR2 := Lib.hid (right_is l[k].1 l[k].2.1 l[k].2.2 false HN.out (by simpa [rightV] using hr))
          have HX := Lib.hid (rightL_not hkl (by simpa using hr))
          clear hr
          go_wp2_with fail
          refine (HR2.out _).mono ?_
          rintro e w1 ⟨rfl, hb1⟩
          have L1 := Lib.hid (bnext HL.out hsz hb1)
          clear hb1 c0 c1 c2
          go_wp2
          go_ret
          exact ⟨retB (by rw [HD.out, HX.out]), L1.out⟩
      · have HX := Lib.hid (show rightL l = true by have := HK.out; rwa [List.take_of_length_le (by omega)] at this)
        go_wp2
        go_ret
        exact ⟨retB (by rw [HD.out, HX.out]), HL.out⟩
  · have e1 : decide ((24 : Int) < (l.length : Int)) = true := by simp; omega
    have HD := Lib.hid (show rightR l = false by unfold rightR; rw [decide_eq_false hlen]; rfl)
    go_enter Tryd.func9, Tryd.ntmps9
    go_wp2
    go_ret
    exact ⟨retB HD.out.symm, Below.refl _ _⟩
set_option maxHeartbeats 1000000 in
theorem rrowRight_any (A : Option Addr) (cap : Nat) (l : List (Int × Int × ByteArray)) (w : World) (hv : Vals w w.heap.size A l) (hl : l.length ≤ 140737488355328) :
    Calls Tryd.prog 10 #[.slice A l.length cap] w fun e w' => e = .returned (.bool (rightR l)) ∧ Below w.heap.size w w' := by
  have HV := Lib.hid hv
  clear hv
  go_enter Tryd.func10, Tryd.ntmps10
  go_wp2
  go_loopw [3] (fun i wr => ∃ k : Nat, k ≤ l.length ∧ i = .int .i64 k ∧ Hid (rightL (l.take k) = true) ∧ Below w.heap.size w wr) (fun i _ => l.length - (intOf i).toNat)
  case atStart => exact ⟨0, by omega, rfl, Lib.hid rfl, Below.refl _ _⟩
  case round =>
    obtain ⟨k, hk, rfl, HK, hbel⟩ := hrel
    have hsz := hbel.size
    have HL := Lib.hid hbel
    have VA := Lib.hid (HV.out.below hbel)
    clear hbel
    by_cases hkl : k < l.length
    · obtain ⟨ad, rfl, ha, c0, c1, c2⟩ := VA.out k hkl
      have HR := Lib.hid (rightL_snoc l k hkl)
      by_cases hr : rightV l[k] = true
      · have HR2 := Lib.hid (rright_is l[k].1 l[k].2.1 l[k].2.2 true (by simpa [rightV] using hr))
        have HK2 := Lib.hid (show rightL (l.take (k + 1)) = true by rw [HR.out, HK.out, hr]; rfl)
        clear hr
        go_wp2_with fail
        refine (HR2.out _).mono ?_
        rintro e w1 ⟨rfl, hb1⟩
        have L1 := Lib.hid (bnext HL.out hsz hb1)
        clear hb1 c0 c1 c2
        go_wp2
        go_roundw
        case rel => exact ⟨k + 1, by omega, by go_num, HK2, L1.out⟩
        case measure => simp [intOf]; omega
      · have HR2 := Lib.hid (rright_is l[k].1 l[k].2.1 l[k].2.2 false (by simpa [rightV] using hr))
        have HX := Lib.hid (show rightR l = false by unfold rightR; rw [rightL_not hkl (by simpa using hr), Bool.and_false])
        clear hr
        go_wp2_with fail
        refine (HR2.out _).mono ?_
        rintro e w1 ⟨rfl, hb1⟩
        have L1 := Lib.hid (bnext HL.out hsz hb1)
        clear hb1 c0 c1 c2
        go_wp2
        go_ret
        exact ⟨retB HX.out.symm, L1.out⟩
    · have HX := Lib.hid (show rightR l = decide (l.length ≤ 24) by unfold rightR; have := HK.out; rw [List.take_of_length_le (by omega)] at this; rw [this, Bool.and_true])
      go_wp2
      go_ret
      exact ⟨retB (by rw [HX.out]; exact decide_eq_decide.2 (by omega)), HL.out⟩
end Go.Proofs.YtpdoomhpfdmklaaDoor.Code
