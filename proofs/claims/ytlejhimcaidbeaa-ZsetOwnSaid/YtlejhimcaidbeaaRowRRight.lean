/-
  The contract of the document's Right of rows.
-/
import Derived.Test.YtlejhimcaidbeaaRowMem
import Derived.Test.YtlejhimcaidbeaaRefRight
namespace Go.Proofs.Ytlejhimcaidbeaa.Code
open Go.ChangeShapes Go.WideShapes Go.ChangeAt Go.RowKit Val
set_option linter.unusedVariables false

theorem rightL_snoc (l : List (Int × Int × ByteArray)) (k : Nat) (h : k < l.length) : rightL (l.take (k + 1)) = (rightL (l.take k) && rightV l[k]) := by
  unfold rightL
  rw [List.take_succ_eq_append_getElem h, List.all_append]
  simp
theorem rightL_not {l : List (Int × Int × ByteArray)} {k : Nat} (h : k < l.length) (g : rightV l[k] = false) : rightL l = false := by
  unfold rightL
  rw [List.all_eq_false]
  exact ⟨l[k], List.getElem_mem h, by simp [g]⟩
/-- whether a row is right -/
def rightR (l : List (Int × Int × ByteArray)) : Bool := decide (l.length ≤ 24) && rightL l
set_option maxHeartbeats 1000000 in
theorem rrowRight_any (A : Option Addr) (cap : Nat) (l : List (Int × Int × ByteArray)) (w : World) (hv : Vals w w.heap.size A l) (hl : l.length ≤ 140737488355328) :
    Calls Try.prog 29 #[.slice A l.length cap] w fun e w' => e = .returned (.bool (rightR l)) ∧ Below w.heap.size w w' := by
  have HV := Lib.hid hv
  clear hv
  go_enter Try.func29, Try.ntmps29
  go_wp2
  go_loopw [3] (fun i wr => ∃ k : Nat, k ≤ l.length ∧ i = .int .i64 k ∧ Hid (rightL (l.take k) = true) ∧ Below w.heap.size w wr) (fun i _ => l.length - (intOf i).toNat)
  case atStart => exact ⟨0, by omega, rfl, Lib.hid rfl, Below.refl _ _⟩
  case round =>
    obtain ⟨k, hk, rfl, HK, hbel⟩ := hrel
    have hsz := hbel.size
    have HL := Lib.hid hbel
    have VA := Lib.hid (HV.out.below hbel)
    clear hbel
    by_cases hkl : k < l.length
    · obtain ⟨ad, rfl, ha, c0, c1, c2⟩ := VA.out k hkl
      have HR := Lib.hid (rightL_snoc l k hkl)
      by_cases hr : rightV l[k] = true
      · have HR2 := Lib.hid (rright_is l[k].1 l[k].2.1 l[k].2.2 true (by simpa [rightV] using hr))
        have HK2 := Lib.hid (show rightL (l.take (k + 1)) = true by rw [HR.out, HK.out, hr]; rfl)
        clear hr
        go_wp2_with fail
        refine (HR2.out _).mono ?_
        rintro e w1 ⟨rfl, hb1⟩
        have L1 := Lib.hid (bnext HL.out hsz hb1)
        clear hb1 c0 c1 c2
        go_wp2
        go_roundw
        case rel => exact ⟨k + 1, by omega, by go_num, HK2, L1.out⟩
        case measure => simp [intOf]; omega
      · have HR2 := Lib.hid (rright_is l[k].1 l[k].2.1 l[k].2.2 false (by simpa [rightV] using hr))
        have HX := Lib.hid (show rightR l = false by unfold rightR; rw [rightL_not hkl (by simpa using hr), Bool.and_false])
        clear hr
        go_wp2_with fail
        refine (HR2.out _).mono ?_
        rintro e w1 ⟨rfl, hb1⟩
        have L1 := Lib.hid (bnext HL.out hsz hb1)
        clear hb1 c0 c1 c2
        go_wp2
        go_ret
        exact ⟨retB HX.out.symm, L1.out⟩
    · have HX := Lib.hid (show rightR l = decide (l.length ≤ 24) by unfold rightR; have := HK.out; rw [List.take_of_length_le (by omega)] at this; rw [this, Bool.and_true])
      go_wp2
      go_ret
      exact ⟨retB (by rw [HX.out]; exact decide_eq_decide.2 (by omega)), HL.out⟩

end Go.Proofs.Ytlejhimcaidbeaa.Code
