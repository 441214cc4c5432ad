/-
  instar/instarlaw13.CalcNames returns true for every input of bulk at most 1048576 (the second form), and each argument reads behind the call as it read before (the tied card). Conditions: the bulk of the arguments; beside it the card's own alone.
-/
import Derived.Test.YtkibacolnagkcaaRows
import Derived.Test.YtkibacolnagkcaaM36
import Derived.Test.YtkibacolnagkcaaColsUpto
import Derived.Test.YtkibacolnagkcaaM37
import Derived.Test.YtkibacolnagkcaaNodOpen
import Derived.Test.YtkibacolnagkcaaBulk
import Derived.Test.YtkibacolnagkcaaCalcNamesWalk
import Derived.WalkKit
import Derived.ProofKit
import Derived.OpenShut
import Derived.ChangeMaps5
import Derived.SevenTiedAt
import Derived.Deep.DeepHandedRow
namespace Go.Proofs.Ytkibacolnagkcaa.calcNamesUpto
open Go.ChangeShapes Go.WideShapes Go.ChangeAt Go.RowKit
set_option linter.unusedVariables false

theorem own : ownKnob Try.prog.godebug = none := by kernel_rfl
theorem laid : laidOutB Try.prog = true := by kernel_rfl
theorem rows : Law.rowed Try.prog Try.f5.params.toList = true := by kernel_rfl
set_option maxRecDepth 100000 in
theorem contract (H : Type) (enc : TypeId × Value → H) (W : World) (base : Nat) (args : Array Value) (ds gs : List (DataW H)) (before : List MemPlace)
    (hval0 : ∀ (j : Nat) t v, Try.f5.params[j]? = some t → args[j]? = some v → Value.okWide Try.prog W .any base t v)
    (hW : DataW.Whole enc Try.prog Try.f5.params.toList Rows.calcNamesSpec.vars false W args.toList ds gs before) (hk : Rows.uptoSmall H (ds ++ gs) = true)
    (hw0 : (DataW.weightsEach Try.prog (Try.f5.params.toList ++ (Rows.OpenSpec.upto Rows.calcNamesSpec).bare.plain.varTypes Try.prog) (ds ++ gs)).all (· ≤ reachBytes) = true) (hsh : W.ShapedOpen Try.prog) :
    Calls Try.prog 5 args W fun e W' => ∃ v, e = .returned v ∧ Rows.calcNamesSpec.post enc Try.prog Try.f5 false true false false W args v W' := by
  have hval := hval0
  have hw := hw0
  have hW' := hW
  obtain ⟨p, q, hA0, hV, rfl, hfz, hnd⟩ := hW
  have hA : DataW.TrodAll enc Try.prog W 0 (fun _ => true) true Try.f5.params.toList args.toList ds p := hA0
  rw [Try.params5] at hA hval hw
  obtain ⟨v0, vs0, d0, ds0, p0, q0, hargs, rfl, rfl, h0, r0⟩ := trodAll_cons hA
  obtain ⟨v1, vs1, d1, ds1, p1, q1, rfl, rfl, rfl, h1, r1⟩ := trodAll_cons r0
  obtain ⟨v2, vs2, d2, ds2, p2, q2, rfl, rfl, rfl, h2, r2⟩ := trodAll_cons r1
  obtain ⟨rfl, rfl, rfl⟩ := trodAll_nil r2
  obtain rfl : args = #[v0, v1, v2] := by cases args; simp_all
  obtain ⟨rfl, rfl⟩ := trodVars_none hV
  simp only [List.cons_append, List.nil_append, List.append_nil, DataW.weightsEach, List.all_append, Bool.and_eq_true] at hw
  have hb := Bulk.bound hk
  simp only [List.append_nil, Rows.uptoBulkAll] at hb
  obtain ⟨a0, b0, c0, s0, n0, k0, rfl, x0, y0⟩ := RowOpen.open_nodev Try.underlying24 (by kernel_rfl) (by kernel_rfl) Try.underlying9 Try.underlying9 Try.underlying22 (hval 0 24 v0 rfl rfl) h0 (by omega)
  obtain ⟨a1, b1, c1, rfl, x1, y1, z1⟩ := RowOpen.open_wordsU Try.underlying25 Try.underlying48 (by kernel_rfl) (by kernel_rfl) Try.underlying3 Try.underlying9 Try.underlying32 (hval 1 25 v1 rfl rfl) h1 (by omega)
  obtain ⟨a2, b2, c2, rfl, x2, g2⟩ := RowOpen.open_rowv Try.underlying27 Try.underlying38 (by kernel_rfl) (by kernel_rfl) Try.underlying32 Try.underlying2 Try.underlying9 (hval 2 27 v2 rfl rfl) h2 hw.2.2.1 (by kernel_rfl)
  clear hA0 hval0 hw0
  refine (calcNames.walk a0 b0 c0 s0 n0 k0 a1 b1 c1 a2 b2 c2 W x0 y0 x1 z1 y1 x2).mono fun e W' ⟨he, hb⟩ => ?_
  subst he
  exact ⟨_, rfl, Law.post_true laid rows rfl rfl Try.underlying4 hW' rfl hb⟩

theorem reads (os : Os) {H : Type} (enc : TypeId × Value → H) : ∃ places, DataW.whole enc Try.prog ((World.laidAll Try.prog os Rows.calcNamesUptoRow.laid).forCall (fun _ _ => 0) ⟨#[], #[.agg #[.string ByteArray.empty, .string ByteArray.empty, .slice none 0 0], .slice none 0 0, .slice none 0 0], []⟩).memory Try.f5.params.toList Rows.calcNamesSpec.vars false (#[.agg #[.string ByteArray.empty, .string ByteArray.empty, .slice none 0 0], .slice none 0 0, .slice none 0 0] : Array Value).toList 8 = some ([.agg [.lit (.string []), .lit (.string []), .nil], .nil, .nil], [], places) :=
  ⟨[], by kernel_rfl⟩
set_option maxRecDepth 100000 in
theorem lifted (os : Os) (started : os.Started) (H : Type) (enc : TypeId × Value → H) (F : Stop.Interp) :
    ReturnsInHanded {} Try.checked os 5 .any ((Rows.OpenSpec.upto Rows.calcNamesSpec).preRow enc Try.prog Try.f5 Rows.calcNamesUptoRow.domain false Rows.calcNamesUptoRow.laid) (((Rows.OpenSpec.upto Rows.calcNamesSpec).at F).post enc Try.prog Try.f5 false true false false) := by
  obtain ⟨places, hx⟩ := reads os enc
  refine returnsInHanded_of_row (C := Try.checked) (s := (Rows.OpenSpec.upto Rows.calcNamesSpec)) own started (by kernel_rfl) Try.func5
    (witness_row_at (enc := enc) (C := Try.checked) false (World.laidAll Try.prog os Rows.calcNamesUptoRow.laid) #[.agg #[.string ByteArray.empty, .string ByteArray.empty, .slice none 0 0], .slice none 0 0, .slice none 0 0] (World.laidAll_os _ _ _) (by kernel_rfl) (by kernel_rfl) (by kernel_rfl)
      (OpenSpec.preRow_of_cond 8 hx (by kernel_rfl) (fun k hk => by cases hk; kernel_rfl) (by kernel_rfl) (laidMet_laidAll _ (by kernel_rfl) (by kernel_rfl)))) ?_
  intro W base args ds gs before hval hW _ hcond hw hL hsh _
  exact contract H enc W base args ds gs before hval hW (hcond _ rfl) hw hsh

theorem over : Rows.calcNamesUptoRow.holds Try.pinned (Rows.OpenSpec.upto Rows.calcNamesSpec) :=
  OpenClaim.holds_of_cond 5 Try.f5 rfl rfl rfl rfl rfl rfl rfl ⟨rfl, rfl, rfl, rfl, rfl⟩ rfl rfl rfl rfl rfl (by kernel_rfl) Try.func5 (by kernel_rfl)
    (of_decide_eq_true (by kernel_rfl)) (by unfold Func.isWrapper; first | (rw [if_pos (by decide +kernel)]; kernel_rfl) | (rw [if_neg (by decide +kernel)]; exact ⟨rfl, rfl⟩))
    (fun os started H enc _ F => by rw [OpenClaim.pre_eq_preRow]; exact lifted os started H enc F)

theorem proved : Rows.CalcNamesUptoSaid :=
  over
#print axioms proved
end Go.Proofs.Ytkibacolnagkcaa.calcNamesUpto
