/-
  instar/instarlaw13.CalcLogic returns true for every input, and each argument reads behind the call as it read before. Conditions: none beside the row's own.
-/
import Derived.Test.YtkibacolnagkcaaRows
import Derived.Test.YtkibacolnagkcaaM36
import Derived.Test.YtkibacolnagkcaaM37
import Derived.Test.YtkibacolnagkcaaCalcLogicWalk
import Derived.WalkKit
import Derived.ProofKit
import Derived.OpenShut
import Derived.HandedShaped
namespace Go.Proofs.Ytkibacolnagkcaa.calcLogic
open Go.ChangeShapes Go.WideShapes Go.ChangeAt Go.RowKit
set_option linter.unusedVariables false

theorem own : ownKnob Try.prog.godebug = none := by kernel_rfl
theorem laid : laidOutB Try.prog = true := by kernel_rfl
theorem rows : Law.rowed Try.prog Try.f4.params.toList = true := by kernel_rfl

set_option maxRecDepth 100000 in
theorem lifted (os : Os) (started : os.Started) (H : Type) (enc : TypeId × Value → H) :
    ReturnsInHanded {} Try.checked os 4 .any (Rows.calcLogicSpec.pre6 enc Try.prog Try.f4 Rows.calcLogicRow.domain false) (Rows.calcLogicSpec.post enc Try.prog Try.f4 false true false false) := by
  refine returnsInHanded_of_change_shaped (C := Try.checked) own started (by kernel_rfl) Try.func4
    (ChangeSpec.witness6 (enc := enc) (C := Try.checked) false ⟨#[], #[.agg #[.string ByteArray.empty, .string ByteArray.empty, .slice none 0 0], .agg #[.string ByteArray.empty, .string ByteArray.empty, .slice none 0 0], .agg #[.slice none 0 0, .slice none 0 0]], []⟩ 8 (by kernel_rfl) (by kernel_rfl) (by kernel_rfl) (by kernel_rfl)) ?_
  intro W base args ds gs before hval0 hW hcnd hw0 hsh _
  have hval : ∀ (j : Nat) t v, Try.f4.params[j]? = some t → args[j]? = some v → Value.okWide Try.prog W .any base t v := hval0
  have hw := hw0
  have hW' := hW
  obtain ⟨p, q, hA0, hV, rfl, hfz, hnd⟩ := hW
  have hA : DataW.TrodAll enc Try.prog W 0 (fun _ => true) true Try.f4.params.toList args.toList ds p := hA0
  rw [Try.params4] at hA hval hw
  obtain ⟨v0, vs0, d0, ds0, p0, q0, hargs, rfl, rfl, h0, r0⟩ := trodAll_cons hA
  obtain ⟨v1, vs1, d1, ds1, p1, q1, rfl, rfl, rfl, h1, r1⟩ := trodAll_cons r0
  obtain ⟨v2, vs2, d2, ds2, p2, q2, rfl, rfl, rfl, h2, r2⟩ := trodAll_cons r1
  obtain ⟨rfl, rfl, rfl⟩ := trodAll_nil r2
  obtain rfl : args = #[v0, v1, v2] := by cases args; simp_all
  obtain ⟨rfl, rfl⟩ := trodVars_none hV
  simp only [List.cons_append, List.nil_append, List.append_nil, DataW.weightsEach, List.all_append, Bool.and_eq_true] at hw
  obtain ⟨a0, b0, c0, s0, n0, k0, rfl, x0⟩ := RowOpen.open_nodevF Try.underlying24 (by kernel_rfl) (by kernel_rfl) (by kernel_rfl) Try.underlying9 Try.underlying9 Try.underlying22 (hval 0 24 v0 rfl rfl) h0 hw.1
  obtain ⟨a1, b1, c1, s1, n1, k1, rfl, x1⟩ := RowOpen.open_nodevF Try.underlying24 (by kernel_rfl) (by kernel_rfl) (by kernel_rfl) Try.underlying9 Try.underlying9 Try.underlying22 (hval 1 24 v1 rfl rfl) h1 hw.2.1
  obtain ⟨a2, b2, c2, s2, n2, k2, rfl, x2, y2⟩ := RowOpen.open_case Try.underlying43 (by kernel_rfl) (by kernel_rfl) Try.underlying25 Try.underlying48 (by kernel_rfl) (by kernel_rfl) Try.underlying3 Try.underlying9 Try.underlying32 (by kernel_rfl) Try.underlying27 Try.underlying38 (by kernel_rfl) (by kernel_rfl) Try.underlying32 Try.underlying2 Try.underlying9 (by kernel_rfl) (hval 2 43 v2 rfl rfl) h2 hw.2.2.1
  clear hA0 hval0 hw0
  refine (calcLogic.walk a0 b0 c0 s0 n0 k0 a1 b1 c1 s1 n1 k1 a2 b2 c2 s2 n2 k2 W x0 x1 x2 y2).mono fun e W' ⟨he, hb⟩ => ?_
  subst he
  exact ⟨_, rfl, Law.post_true laid rows rfl rfl Try.underlying4 hW' rfl hb⟩

theorem over : Rows.calcLogicRow.holds Try.pinned (OpenSpec.ofChange Rows.calcLogicSpec) :=
  OpenClaim.holds_of_wide 4 Try.f4 rfl rfl rfl rfl rfl rfl rfl ⟨rfl, rfl, rfl, rfl, rfl⟩ rfl rfl rfl rfl rfl (by kernel_rfl) Try.func4 (by kernel_rfl)
    (of_decide_eq_true (by kernel_rfl)) (by unfold Func.isWrapper; first | (rw [if_pos (by decide +kernel)]; kernel_rfl) | (rw [if_neg (by decide +kernel)]; exact ⟨rfl, rfl⟩))
    (fun os started H enc _ => lifted os started H enc)

theorem proved : Rows.CalcLogicSaid :=
  over
#print axioms proved
end Go.Proofs.Ytkibacolnagkcaa.calcLogic
