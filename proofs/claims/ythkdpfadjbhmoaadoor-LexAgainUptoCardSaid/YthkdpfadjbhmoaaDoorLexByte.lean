/-
  Contracts of lex's functions of a byte, and of the document's: which is a blank, a figure, a letter, a name's; how long a word may be.
-/
import Derived.Test.YthkdpfadjbhmoaaDoorLexPure
import Derived.Test.YthkdpfadjbhmoaaDoorEncNum
import Derived.Test.YthkdpfadjbhmoaaDoorKit
namespace Go.Proofs.YthkdpfadjbhmoaaDoor.Code
open Go.ChangeShapes Go.WideShapes Go.ChangeAt Go.RowKit Val
set_option linter.unusedVariables false
set_option linter.unusedSimpArgs false
theorem blank_any (c : UInt8) (w : World) :
    Calls Tryd.prog 16 #[.int .u8 c.toNat] w fun e w' => e = .returned (.bool (blankB c)) ∧ w = w' := by
  go_enter Tryd.func16, Tryd.ntmps16
  go_wp2
  all_goals go_ret
  all_goals (refine ⟨retB ?_, rfl⟩; rw [Bool.eq_iff_iff]; unfold blankB; simp only [Bool.or_eq_true, Bool.and_eq_true, decide_eq_true_eq, beq_iff_eq]; first | omega | (simp; omega))
theorem figure_any (c : UInt8) (w : World) :
    Calls Tryd.prog 41 #[.int .u8 c.toNat] w fun e w' => e = .returned (.bool (figB c)) ∧ w = w' := by
  go_enter Tryd.func41, Tryd.ntmps41
  go_wp2
  all_goals go_ret
  all_goals (refine ⟨retB ?_, rfl⟩; rw [Bool.eq_iff_iff]; unfold figB; simp only [Bool.or_eq_true, Bool.and_eq_true, decide_eq_true_eq, beq_iff_eq]; first | omega | (simp; omega))
theorem letter_any (c : UInt8) (w : World) :
    Calls Tryd.prog 43 #[.int .u8 c.toNat] w fun e w' => e = .returned (.bool (letB c)) ∧ w = w' := by
  go_enter Tryd.func43, Tryd.ntmps43
  go_wp2
  all_goals go_ret
  all_goals (refine ⟨retB ?_, rfl⟩; rw [Bool.eq_iff_iff]; unfold letB; simp only [Bool.or_eq_true, Bool.and_eq_true, decide_eq_true_eq, beq_iff_eq]; first | omega | (simp; omega))
theorem rfigure_any (c : UInt8) (w : World) :
    Calls Tryd.prog 27 #[.int .u8 c.toNat] w fun e w' => e = .returned (.bool (figB c)) ∧ w = w' := by
  go_enter Tryd.func27, Tryd.ntmps27
  go_wp2
  all_goals go_ret
  all_goals (refine ⟨retB ?_, rfl⟩; rw [Bool.eq_iff_iff]; unfold figB; simp only [Bool.or_eq_true, Bool.and_eq_true, decide_eq_true_eq, beq_iff_eq]; first | omega | (simp; omega))
theorem rletter_any (c : UInt8) (w : World) :
    Calls Tryd.prog 26 #[.int .u8 c.toNat] w fun e w' => e = .returned (.bool (letB c)) ∧ w = w' := by
  go_enter Tryd.func26, Tryd.ntmps26
  go_wp2
  all_goals go_ret
  all_goals (refine ⟨retB ?_, rfl⟩; rw [Bool.eq_iff_iff]; unfold letB; simp only [Bool.or_eq_true, Bool.and_eq_true, decide_eq_true_eq, beq_iff_eq]; first | omega | (simp; omega))
theorem inName_any (c : UInt8) (w : World) :
    Calls Tryd.prog 44 #[.int .u8 c.toNat] w fun e w' => e = .returned (.bool (nameB c)) ∧ w = w' := by
  go_enter Tryd.func44, Tryd.ntmps44
  go_wp2_with fail
  refine (letter_any c _).mono ?_
  rintro e w1 ⟨rfl, rfl⟩
  have HL := Lib.hid (show nameB c = (letB c || figB c || decide (c.toNat = 95)) by rfl)
  cases hl : letB c
  · have HL := Lib.hid (HL.out.trans (by rw [hl]) : nameB c = (false || figB c || decide (c.toNat = 95)))
    go_wp2_with fail
    refine (figure_any c _).mono ?_
    rintro e w1 ⟨rfl, rfl⟩
    cases hf : figB c
    · have HL := Lib.hid (HL.out.trans (by rw [hf]) : nameB c = (false || false || decide (c.toNat = 95)))
      go_wp2
      all_goals go_ret
      all_goals (refine ⟨retB ?_, rfl⟩; rw [HL.out, Bool.eq_iff_iff]; simp only [Bool.false_or, decide_eq_true_eq, beq_iff_eq]; first | omega | (simp; omega))
    · have HL := Lib.hid (HL.out.trans (by rw [hf]; rfl) : nameB c = true)
      go_wp2
      all_goals go_ret
      all_goals (refine ⟨retB ?_, rfl⟩; rw [HL.out])
  · have HL := Lib.hid (HL.out.trans (by rw [hl]; rfl) : nameB c = true)
    go_wp2
    all_goals go_ret
    all_goals (refine ⟨retB ?_, rfl⟩; rw [HL.out])
/-- how many bytes a kind's text may have -/
def longK (k : Int) : Int := if k = 0 then 20 else if k = 1 then 19 else if k = 2 then 200 else 2
theorem longest_any (k : Int) (w : World) :
    Calls Tryd.prog 24 #[.int .i64 k] w fun e w' => e = .returned (.int .i64 (longK k)) ∧ w = w' := by
  by_cases h0 : k = 0
  · subst h0
    go_enter Tryd.func24, Tryd.ntmps24
    go_wp2
    go_ret
    exact ⟨rfl, rfl⟩
  by_cases h1 : k = 1
  · subst h1
    go_enter Tryd.func24, Tryd.ntmps24
    go_wp2
    go_ret
    exact ⟨rfl, rfl⟩
  by_cases h2 : k = 2
  · subst h2
    go_enter Tryd.func24, Tryd.ntmps24
    go_wp2
    go_ret
    exact ⟨rfl, rfl⟩
  have HK := Lib.hid (show longK k = 2 by unfold longK; rw [if_neg h0, if_neg h1, if_neg h2])
  have e0 : (k == 0) = false := by simpa using h0
  have e1 : (k == 1) = false := by simpa using h1
  have e2 : (k == 2) = false := by simpa using h2
  clear h0 h1 h2
  go_enter Tryd.func24, Tryd.ntmps24
  go_wp2
  go_ret
  exact ⟨ret1 HK.out.symm, rfl⟩
end Go.Proofs.YthkdpfadjbhmoaaDoor.Code
