/-
  Contracts of num's Flip and Put and of the document's, for every argument (cut out of CodeNum).
-/
import Derived.Test.YtpdoomhpfdmklaaDoorChecked
import Derived.Test.YtpdoomhpfdmklaaDoorNumPure
import Derived.WalkKit
import Derived.ProofKit
import Derived.Lib.Hide
import Derived.WalkLawsBesides
import Derived.LoopTactic
import Derived.Below
import Derived.OwnWalk
import Derived.Laws.BytesArg
import Derived.Maps.AppendAt
import Derived.Deep.AppendLies
namespace Go.Proofs.YtpdoomhpfdmklaaDoor.Num
open Go.ChangeShapes Go.WideShapes Go.ChangeAt Go.RowKit
set_option linter.unusedVariables false

theorem flip_any (a : Int) (w : World) (ha : fits a) :
    Calls Tryd.prog 65 #[.int .i64 a] w fun e w' => e = .returned (.int .u64 (flip a)) ∧ w = w' := by
  have HA := Lib.hid ha
  unfold fits at ha
  go_enter Tryd.func65, Tryd.ntmps65
  go_wp2
  all_goals go_ret
  all_goals refine ⟨ret1 ?_, rfl⟩
  all_goals exact flip_bits HA.out

theorem rflip_any (a : Int) (w : World) (ha : fits a) :
    Calls Tryd.prog 67 #[.int .i64 a] w fun e w' => e = .returned (.int .u64 (flip a)) ∧ w = w' := by
  have HA := Lib.hid ha
  unfold fits at ha
  go_enter Tryd.func67, Tryd.ntmps67
  go_wp2
  all_goals go_ret
  all_goals refine ⟨ret1 ?_, rfl⟩
  all_goals (unfold flip; (try simp at *) <;> omega)

/-- the eight bytes of an unsigned number, the highest first -/
def putL (a : Int) : List Int :=
  [a / 256 / 256 / 256 / 256 / 256 / 256 / 256 % 256, a / 256 / 256 / 256 / 256 / 256 / 256 % 256, a / 256 / 256 / 256 / 256 / 256 % 256, a / 256 / 256 / 256 / 256 % 256,
   a / 256 / 256 / 256 % 256, a / 256 / 256 % 256, a / 256 % 256, a % 256]
def putS (a : Int) : ByteArray := strOfNums (putL a)
theorem putL_of {a x0 x1 x2 x3 x4 x5 x6 x7 : Int} (h0 : x0 = a / 256 / 256 / 256 / 256 / 256 / 256 / 256 % 256) (h1 : x1 = a / 256 / 256 / 256 / 256 / 256 / 256 % 256) (h2 : x2 = a / 256 / 256 / 256 / 256 / 256 % 256)
    (h3 : x3 = a / 256 / 256 / 256 / 256 % 256) (h4 : x4 = a / 256 / 256 / 256 % 256) (h5 : x5 = a / 256 / 256 % 256) (h6 : x6 = a / 256 % 256) (h7 : x7 = a % 256) : strOfNums [x0, x1, x2, x3, x4, x5, x6, x7] = putS a := by
  subst h0 h1 h2 h3 h4 h5 h6 h7; rfl

/-- a new array of eight bytes as a text -/
theorem conv8 (w : World) (x0 x1 x2 x3 x4 x5 x6 x7 : Int) (t : TypeId) :
    (convert 62 9 (.slice (some ⟨w.heap.size, 0, none⟩) 8 8)).run Tryd.prog (w.alloc (.cells #[.int .u8 x0, .int .u8 x1, .int .u8 x2, .int .u8 x3, .int .u8 x4, .int .u8 x5, .int .u8 x6, .int .u8 x7] t))
      = .ok (.string (strOfNums [x0, x1, x2, x3, x4, x5, x6, x7])) (w.alloc (.cells #[.int .u8 x0, .int .u8 x1, .int .u8 x2, .int .u8 x3, .int .u8 x4, .int .u8 x5, .int .u8 x6, .int .u8 x7] t)) := by
  refine run_convert_bytes_arg _ 62 5 Tryd.underlying62 Tryd.underlying5 w.heap.size 0 8 8 [x0, x1, x2, x3, x4, x5, x6, x7] rfl ?_ 9 Tryd.underlying9
  intro i hi
  rcases i with _ | _ | _ | _ | _ | _ | _ | _ | i
  all_goals first | (simp [go_sem]; done) | omega

set_option maxHeartbeats 800000 in
theorem put_any (a : Int) (w : World) (ha : fitsU a) :
    Calls Tryd.prog 64 #[.int .u64 a] w fun e w' => e = .returned (.string (putS a)) ∧ Below w.heap.size w w' := by
  unfold fitsU at ha
  have hc := conv8
  go_enter Tryd.func64, Tryd.ntmps64
  go_wp2
  refine wp_loop_rounds 9 ?_
  iterate 9 (rw [rounds_succ]; go_wp2)
  go_ret
  refine ⟨congrArg (fun s => Ending.returned (.string s)) (putL_of ?_ ?_ ?_ ?_ ?_ ?_ ?_ ?_), (Below.refl _ _).alloc (Nat.le_refl _) _⟩
  all_goals omega

theorem info_u8 : (Tryd.prog.info? 5).map (fun i => (i.zero, i.size, i.bytes)) = some (some (.int .u8 0), 1, 1) := by kernel_rfl

theorem snoc0 {w : World} {B n : Nat} {v : Value} (h : w.ownsRow B 5 1 v (n + 1) (List.replicate n (.int .u8 0) ++ [.int .u8 0])) : w.ownsRow B 5 1 v (n + 1) (List.replicate (n + 1) (.int .u8 0)) := by
  rw [List.replicate_succ']; exact h

/-- eight bytes that were written into a row, as a text -/
theorem conv8set (w : World) (g cap : Nat) (hc : ∀ j, j < 8 → (w.cell? ⟨g, j, none⟩).isSome = true) (x0 x1 x2 x3 x4 x5 x6 x7 : Int) :
    (convert 62 9 (.slice (some ⟨g, 0, none⟩) 8 cap)).run Tryd.prog ((((((((w.setCell ⟨g, 7, none⟩ (.int .u8 x7)).setCell ⟨g, 6, none⟩ (.int .u8 x6)).setCell ⟨g, 5, none⟩ (.int .u8 x5)).setCell ⟨g, 4, none⟩ (.int .u8 x4)).setCell ⟨g, 3, none⟩ (.int .u8 x3)).setCell ⟨g, 2, none⟩ (.int .u8 x2)).setCell ⟨g, 1, none⟩ (.int .u8 x1)).setCell ⟨g, 0, none⟩ (.int .u8 x0))
      = .ok (.string (strOfNums [x0, x1, x2, x3, x4, x5, x6, x7])) ((((((((w.setCell ⟨g, 7, none⟩ (.int .u8 x7)).setCell ⟨g, 6, none⟩ (.int .u8 x6)).setCell ⟨g, 5, none⟩ (.int .u8 x5)).setCell ⟨g, 4, none⟩ (.int .u8 x4)).setCell ⟨g, 3, none⟩ (.int .u8 x3)).setCell ⟨g, 2, none⟩ (.int .u8 x2)).setCell ⟨g, 1, none⟩ (.int .u8 x1)).setCell ⟨g, 0, none⟩ (.int .u8 x0)) := by
  refine run_convert_bytes_arg _ 62 5 Tryd.underlying62 Tryd.underlying5 g 0 8 cap [x0, x1, x2, x3, x4, x5, x6, x7] rfl ?_ 9 Tryd.underlying9
  have c0 := hc 0 (by omega)
  have c1 := hc 1 (by omega)
  have c2 := hc 2 (by omega)
  have c3 := hc 3 (by omega)
  have c4 := hc 4 (by omega)
  have c5 := hc 5 (by omega)
  have c6 := hc 6 (by omega)
  have c7 := hc 7 (by omega)
  intro i hi
  rcases i with _ | _ | _ | _ | _ | _ | _ | _ | i
  all_goals first | (simp [go_sem, World.cell?_setCell_other, c0, c1, c2, c3, c4, c5, c6, c7]; done) | omega

set_option maxHeartbeats 1600000 in
set_option maxRecDepth 100000 in
theorem rput_any (a : Int) (w : World) (ha : fitsU a) :
    Calls Tryd.prog 66 #[.int .u64 a] w fun e w' => e = .returned (.string (putS a)) ∧ Below w.heap.size w w' := by
  unfold fitsU at ha
  obtain ⟨i0, hi, hz0, hz1, hz2⟩ := info_parts info_u8
  go_enter Tryd.func66, Tryd.ntmps66
  go_wp2
  go_loopw [3, 4] (fun v i wr => ∃ k : Nat, k ≤ 8 ∧ i = .int .i64 k ∧ wr.ownsRow w.heap.size 5 1 v k (List.replicate k (.int .u8 0)) ∧ Below w.heap.size w wr) (fun _ i _ => 8 - (intOf i).toNat)
  case atStart => exact ⟨0, by omega, rfl, World.ownsRow_nil _ _ _ _, Below.refl _ _⟩
  case round =>
    obtain ⟨k, hk, rfl, hown, hbel⟩ := hrel
    have HO := Lib.hid hown
    have HB := Lib.hid hbel
    have hsz := hbel.size
    clear hown hbel
    by_cases hlt : k < 8
    · go_wp2_with (at_builtin; refine wpList_append_own _ rfl _ _ 62 rfl w.heap.size 5 i0 (.int .u8 0) 1 1 Tryd.underlying62 hi hz0 hz1 hz2 rfl (by decide) _ _ _ rfl (HO.out.alloc _) ⟨wr.heap.size, 0, none⟩ 1 1 [.int .u8 0] rfl rfl ?c1 ?c2 ?c3 ?c4 ?c5 ?_)
      case c1 => exact cell_one_new _ _ _
      case c2 => simp [Value.oneCell']
      case c3 => unfold maxLen; omega
      case c4 => omega
      case c5 => simp; omega
      intro v' w1 hown' hgrow _
      have HO1 := Lib.hid (snoc0 hown')
      have HB1 := Lib.hid ((HB.out.alloc hsz _).grown hgrow (by simp; omega) (fun g hg => (HO.out.lt g hg).1))
      clear hown' hgrow
      go_wp2
      go_roundw
      case rel => exact ⟨k + 1, by omega, by go_num, HO1.out, HB1.out⟩
      case measure => simp [intOf]; omega
    · obtain rfl : k = 8 := by omega
      obtain ⟨g, cap, rfl, hg1, hg2⟩ := HO.out.form (by omega)
      have hc := fun x0 x1 x2 x3 x4 x5 x6 x7 => conv8set wr g cap (fun j hj => by rw [HO.out.cellAt j (by omega)]; simp [hj]) x0 x1 x2 x3 x4 x5 x6 x7
      have c0 : wr.cell? ⟨g, 0, none⟩ = some (.int .u8 0) := by rw [HO.out.cellAt 0 (by omega)]; rfl
      have c1 : wr.cell? ⟨g, 1, none⟩ = some (.int .u8 0) := by rw [HO.out.cellAt 1 (by omega)]; rfl
      have c2 : wr.cell? ⟨g, 2, none⟩ = some (.int .u8 0) := by rw [HO.out.cellAt 2 (by omega)]; rfl
      have c3 : wr.cell? ⟨g, 3, none⟩ = some (.int .u8 0) := by rw [HO.out.cellAt 3 (by omega)]; rfl
      have c4 : wr.cell? ⟨g, 4, none⟩ = some (.int .u8 0) := by rw [HO.out.cellAt 4 (by omega)]; rfl
      have c5 : wr.cell? ⟨g, 5, none⟩ = some (.int .u8 0) := by rw [HO.out.cellAt 5 (by omega)]; rfl
      have c6 : wr.cell? ⟨g, 6, none⟩ = some (.int .u8 0) := by rw [HO.out.cellAt 6 (by omega)]; rfl
      have c7 : wr.cell? ⟨g, 7, none⟩ = some (.int .u8 0) := by rw [HO.out.cellAt 7 (by omega)]; rfl
      have hf : ∀ j, wr.frozen? ⟨g, j, none⟩ = false := fun j => HO.out.frozenAt j
      go_wp2
      refine wp_loop_rounds 9 ?_
      iterate 9 (rw [rounds_succ]; go_wp2)
      go_ret
      refine ⟨congrArg (fun s => Ending.returned (.string s)) (putL_of ?_ ?_ ?_ ?_ ?_ ?_ ?_ ?_), ?_⟩
      all_goals first | omega | skip
      exact ((((((((HB.out.setCell hg1 _).setCell hg1 _).setCell hg1 _).setCell hg1 _).setCell hg1 _).setCell hg1 _).setCell hg1 _).setCell hg1 _)

end Go.Proofs.YtpdoomhpfdmklaaDoor.Num
