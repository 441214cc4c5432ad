/-
  Contracts of num's Flip, Unflip, Put and Get and of the document's Flip and Put, for every argument.
-/
import Derived.Test.YtmaecoidoejipaaDoorChecked
import Derived.Test.YtmaecoidoejipaaDoorNumPure
import Derived.WalkKit
import Derived.ProofKit
import Derived.Lib.Hide
import Derived.WalkLawsBesides
import Derived.LoopTactic
import Derived.Below
import Derived.OwnWalk
import Derived.Laws.BytesArg
import Derived.Maps.AppendAt
import Derived.Deep.AppendLies
namespace Go.Proofs.YtmaecoidoejipaaDoor.Num
open Go.ChangeShapes Go.WideShapes Go.ChangeAt Go.RowKit

theorem flip_any (a : Int) (w : World) (ha : fits a) :
    Calls Tryd.prog 28 #[.int .i64 a] w fun e w' => e = .returned (.int .u64 (flip a)) ∧ w = w' := by
  have HA := Lib.hid ha
  unfold fits at ha
  go_enter Tryd.func28, Tryd.ntmps28
  go_wp2
  all_goals go_ret
  all_goals refine ⟨ret1 ?_, rfl⟩
  all_goals exact flip_bits HA.out

theorem unflip_any (a : Int) (w : World) (ha : fitsU a) :
    Calls Tryd.prog 40 #[.int .u64 a] w fun e w' => e = .returned (.int .i64 (unflip a)) ∧ w = w' := by
  have HA := Lib.hid ha
  unfold fitsU at ha
  go_enter Tryd.func40, Tryd.ntmps40
  go_wp2
  all_goals go_ret
  all_goals refine ⟨ret1 ?_, rfl⟩
  all_goals exact unflip_bits HA.out

theorem rflip_any (a : Int) (w : World) (ha : fits a) :
    Calls Tryd.prog 31 #[.int .i64 a] w fun e w' => e = .returned (.int .u64 (flip a)) ∧ w = w' := by
  have HA := Lib.hid ha
  unfold fits at ha
  go_enter Tryd.func31, Tryd.ntmps31
  go_wp2
  all_goals go_ret
  all_goals refine ⟨ret1 ?_, rfl⟩
  all_goals (unfold flip; (try simp at *) <;> omega)

/-- the eight bytes of an unsigned number, the highest first -/
def putL (a : Int) : List Int :=
  [a / 256 / 256 / 256 / 256 / 256 / 256 / 256 % 256, a / 256 / 256 / 256 / 256 / 256 / 256 % 256, a / 256 / 256 / 256 / 256 / 256 % 256, a / 256 / 256 / 256 / 256 % 256,
   a / 256 / 256 / 256 % 256, a / 256 / 256 % 256, a / 256 % 256, a % 256]
def putS (a : Int) : ByteArray := strOfNums (putL a)
theorem putL_of {a x0 x1 x2 x3 x4 x5 x6 x7 : Int} (h0 : x0 = a / 256 / 256 / 256 / 256 / 256 / 256 / 256 % 256) (h1 : x1 = a / 256 / 256 / 256 / 256 / 256 / 256 % 256) (h2 : x2 = a / 256 / 256 / 256 / 256 / 256 % 256)
    (h3 : x3 = a / 256 / 256 / 256 / 256 % 256) (h4 : x4 = a / 256 / 256 / 256 % 256) (h5 : x5 = a / 256 / 256 % 256) (h6 : x6 = a / 256 % 256) (h7 : x7 = a % 256) : strOfNums [x0, x1, x2, x3, x4, x5, x6, x7] = putS a := by
  subst h0 h1 h2 h3 h4 h5 h6 h7; rfl

/-- a new array of eight bytes as a text -/
theorem conv8 (w : World) (x0 x1 x2 x3 x4 x5 x6 x7 : Int) (t : TypeId) :
    (convert 41 9 (.slice (some ⟨w.heap.size, 0, none⟩) 8 8)).run Tryd.prog (w.alloc (.cells #[.int .u8 x0, .int .u8 x1, .int .u8 x2, .int .u8 x3, .int .u8 x4, .int .u8 x5, .int .u8 x6, .int .u8 x7] t))
      = .ok (.string (strOfNums [x0, x1, x2, x3, x4, x5, x6, x7])) (w.alloc (.cells #[.int .u8 x0, .int .u8 x1, .int .u8 x2, .int .u8 x3, .int .u8 x4, .int .u8 x5, .int .u8 x6, .int .u8 x7] t)) := by
  refine run_convert_bytes_arg _ 41 5 Tryd.underlying41 Tryd.underlying5 w.heap.size 0 8 8 [x0, x1, x2, x3, x4, x5, x6, x7] rfl ?_ 9 Tryd.underlying9
  intro i hi
  rcases i with _ | _ | _ | _ | _ | _ | _ | _ | i
  all_goals first | (simp [go_sem]; done) | omega

set_option maxHeartbeats 800000 in
theorem put_any (a : Int) (w : World) (ha : fitsU a) :
    Calls Tryd.prog 27 #[.int .u64 a] w fun e w' => e = .returned (.string (putS a)) ∧ Below w.heap.size w w' := by
  unfold fitsU at ha
  have hc := conv8
  go_enter Tryd.func27, Tryd.ntmps27
  go_wp2
  refine wp_loop_rounds 9 ?_
  iterate 9 (rw [rounds_succ]; go_wp2)
  go_ret
  refine ⟨congrArg (fun s => Ending.returned (.string s)) (putL_of ?_ ?_ ?_ ?_ ?_ ?_ ?_ ?_), (Below.refl _ _).alloc (Nat.le_refl _) _⟩
  all_goals omega

theorem info_u8 : (Tryd.prog.info? 5).map (fun i => (i.zero, i.size, i.bytes)) = some (some (.int .u8 0), 1, 1) := by kernel_rfl

theorem snoc0 {w : World} {B n : Nat} {v : Value} (h : w.ownsRow B 5 1 v (n + 1) (List.replicate n (.int .u8 0) ++ [.int .u8 0])) : w.ownsRow B 5 1 v (n + 1) (List.replicate (n + 1) (.int .u8 0)) := by
  rw [List.replicate_succ']; exact h

/-- eight bytes that were written into a row, as a text -/
theorem conv8set (w : World) (g cap : Nat) (hc : ∀ j, j < 8 → (w.cell? ⟨g, j, none⟩).isSome = true) (x0 x1 x2 x3 x4 x5 x6 x7 : Int) :
    (convert 41 9 (.slice (some ⟨g, 0, none⟩) 8 cap)).run Tryd.prog ((((((((w.setCell ⟨g, 7, none⟩ (.int .u8 x7)).setCell ⟨g, 6, none⟩ (.int .u8 x6)).setCell ⟨g, 5, none⟩ (.int .u8 x5)).setCell ⟨g, 4, none⟩ (.int .u8 x4)).setCell ⟨g, 3, none⟩ (.int .u8 x3)).setCell ⟨g, 2, none⟩ (.int .u8 x2)).setCell ⟨g, 1, none⟩ (.int .u8 x1)).setCell ⟨g, 0, none⟩ (.int .u8 x0))
      = .ok (.string (strOfNums [x0, x1, x2, x3, x4, x5, x6, x7])) ((((((((w.setCell ⟨g, 7, none⟩ (.int .u8 x7)).setCell ⟨g, 6, none⟩ (.int .u8 x6)).setCell ⟨g, 5, none⟩ (.int .u8 x5)).setCell ⟨g, 4, none⟩ (.int .u8 x4)).setCell ⟨g, 3, none⟩ (.int .u8 x3)).setCell ⟨g, 2, none⟩ (.int .u8 x2)).setCell ⟨g, 1, none⟩ (.int .u8 x1)).setCell ⟨g, 0, none⟩ (.int .u8 x0)) := by
  refine run_convert_bytes_arg _ 41 5 Tryd.underlying41 Tryd.underlying5 g 0 8 cap [x0, x1, x2, x3, x4, x5, x6, x7] rfl ?_ 9 Tryd.underlying9
  have c0 := hc 0 (by omega)
  have c1 := hc 1 (by omega)
  have c2 := hc 2 (by omega)
  have c3 := hc 3 (by omega)
  have c4 := hc 4 (by omega)
  have c5 := hc 5 (by omega)
  have c6 := hc 6 (by omega)
  have c7 := hc 7 (by omega)
  intro i hi
  rcases i with _ | _ | _ | _ | _ | _ | _ | _ | i
  all_goals first | (simp [go_sem, World.cell?_setCell_other, c0, c1, c2, c3, c4, c5, c6, c7]; done) | omega

set_option maxHeartbeats 1600000 in
theorem rput_any (a : Int) (w : World) (ha : fitsU a) :
    Calls Tryd.prog 30 #[.int .u64 a] w fun e w' => e = .returned (.string (putS a)) ∧ Below w.heap.size w w' := by
  unfold fitsU at ha
  obtain ⟨i0, hi, hz0, hz1, hz2⟩ := info_parts info_u8
  go_enter Tryd.func30, Tryd.ntmps30
  go_wp2
  go_loopw [3, 4] (fun v i wr => ∃ k : Nat, k ≤ 8 ∧ i = .int .i64 k ∧ wr.ownsRow w.heap.size 5 1 v k (List.replicate k (.int .u8 0)) ∧ Below w.heap.size w wr) (fun _ i _ => 8 - (intOf i).toNat)
  case atStart => exact ⟨0, by omega, rfl, World.ownsRow_nil _ _ _ _, Below.refl _ _⟩
  case round =>
    obtain ⟨k, hk, rfl, hown, hbel⟩ := hrel
    have HO := Lib.hid hown
    have HB := Lib.hid hbel
    have hsz := hbel.size
    clear hown hbel
    by_cases hlt : k < 8
    · go_wp2_with (at_builtin; refine wpList_append_own _ rfl _ _ 41 rfl w.heap.size 5 i0 (.int .u8 0) 1 1 Tryd.underlying41 hi hz0 hz1 hz2 rfl (by decide) _ _ _ rfl (HO.out.alloc _) ⟨wr.heap.size, 0, none⟩ 1 1 [.int .u8 0] rfl rfl ?c1 ?c2 ?c3 ?c4 ?c5 ?_)
      case c1 => exact cell_one_new _ _ _
      case c2 => simp [Value.oneCell']
      case c3 => unfold maxLen; omega
      case c4 => omega
      case c5 => simp; omega
      intro v' w1 hown' hgrow _
      have HO1 := Lib.hid (snoc0 hown')
      have HB1 := Lib.hid ((HB.out.alloc hsz _).grown hgrow (by simp; omega) (fun g hg => (HO.out.lt g hg).1))
      clear hown' hgrow
      go_wp2
      go_roundw
      case rel => exact ⟨k + 1, by omega, by go_num, HO1.out, HB1.out⟩
      case measure => simp [intOf]; omega
    · obtain rfl : k = 8 := by omega
      obtain ⟨g, cap, rfl, hg1, hg2⟩ := HO.out.form (by omega)
      have hc := fun x0 x1 x2 x3 x4 x5 x6 x7 => conv8set wr g cap (fun j hj => by rw [HO.out.cellAt j (by omega)]; simp [hj]) x0 x1 x2 x3 x4 x5 x6 x7
      have c0 : wr.cell? ⟨g, 0, none⟩ = some (.int .u8 0) := by rw [HO.out.cellAt 0 (by omega)]; rfl
      have c1 : wr.cell? ⟨g, 1, none⟩ = some (.int .u8 0) := by rw [HO.out.cellAt 1 (by omega)]; rfl
      have c2 : wr.cell? ⟨g, 2, none⟩ = some (.int .u8 0) := by rw [HO.out.cellAt 2 (by omega)]; rfl
      have c3 : wr.cell? ⟨g, 3, none⟩ = some (.int .u8 0) := by rw [HO.out.cellAt 3 (by omega)]; rfl
      have c4 : wr.cell? ⟨g, 4, none⟩ = some (.int .u8 0) := by rw [HO.out.cellAt 4 (by omega)]; rfl
      have c5 : wr.cell? ⟨g, 5, none⟩ = some (.int .u8 0) := by rw [HO.out.cellAt 5 (by omega)]; rfl
      have c6 : wr.cell? ⟨g, 6, none⟩ = some (.int .u8 0) := by rw [HO.out.cellAt 6 (by omega)]; rfl
      have c7 : wr.cell? ⟨g, 7, none⟩ = some (.int .u8 0) := by rw [HO.out.cellAt 7 (by omega)]; rfl
      have hf : ∀ j, wr.frozen? ⟨g, j, none⟩ = false := fun j => HO.out.frozenAt j
      go_wp2
      refine wp_loop_rounds 9 ?_
      iterate 9 (rw [rounds_succ]; go_wp2)
      go_ret
      refine ⟨congrArg (fun s => Ending.returned (.string s)) (putL_of ?_ ?_ ?_ ?_ ?_ ?_ ?_ ?_), ?_⟩
      all_goals first | omega | skip
      exact ((((((((HB.out.setCell hg1 _).setCell hg1 _).setCell hg1 _).setCell hg1 _).setCell hg1 _).setCell hg1 _).setCell hg1 _).setCell hg1 _)

/-- the number that the first k bytes of a text are, the highest first -/
def byteAt (s : ByteArray) (k : Nat) : Int := if h : k < s.size then (s[k].toNat : Int) else 0
def getN (s : ByteArray) : Nat → Int
  | 0 => 0
  | k + 1 => 256 * getN s k + byteAt s k
def getV (s : ByteArray) : Int := if s.size = 8 then getN s 8 else 0
def getE (s : ByteArray) : Int := if s.size = 8 then 0 else 41
theorem byteAt_le (s : ByteArray) (k : Nat) : 0 ≤ byteAt s k ∧ byteAt s k ≤ 255 := by
  unfold byteAt
  split
  · have := s[k].toNat_lt; omega
  · omega
theorem byteAt_in (s : ByteArray) (k : Nat) (h : k < s.size) : (s[k].toNat : Int) = byteAt s k := by unfold byteAt; rw [dif_pos h]
theorem getN_lt (s : ByteArray) : ∀ k, 0 ≤ getN s k ∧ getN s k < 256 ^ k
  | 0 => by simp [getN]
  | k + 1 => by
    have h := getN_lt s k
    have b := byteAt_le s k
    have e : (256 : Int) ^ (k + 1) = 256 * 256 ^ k := by rw [Int.pow_succ]; omega
    rw [e]
    unfold getN
    omega
theorem getN_le (s : ByteArray) (k : Nat) (h : k < 8) : 0 ≤ getN s k ∧ getN s k ≤ 72057594037927935 := by
  have g := getN_lt s k
  have c : ∀ n : Nat, (256 : Int) ^ n = ((256 ^ n : Nat) : Int) := fun n => (Int.natCast_pow 256 n).symm
  have e : (256 : Int) ^ k ≤ 256 ^ 7 := by
    rw [c k, c 7]
    exact Int.ofNat_le.2 (Nat.pow_le_pow_right (by decide) (by omega))
  have e2 : (256 : Int) ^ 7 = 72057594037927936 := by decide
  omega
theorem getN_fits (s : ByteArray) : fitsU (getN s 8) := by
  have g := getN_lt s 8
  have e2 : (256 : Int) ^ 8 = 18446744073709551616 := by decide
  unfold fitsU
  omega
theorem or_byte (n b : Int) (hn : 0 ≤ n ∧ n ≤ 72057594037927935) (hb : 0 ≤ b ∧ b ≤ 255) : bits .or .u64 (n * 256) b = 256 * n + b := by
  have e := bits_join .u64 64 (by decide) (fun m h0 h1 => by rw [IntKind.wrap_u64]; omega) 8 (n * 256) b (by omega) (by omega) (by omega) (by omega) (by omega) (by omega)
  rw [e]; omega

set_option maxHeartbeats 400000 in
theorem get_any (s : ByteArray) (w : World) :
    Calls Tryd.prog 39 #[.string s] w fun e w' => e = .returned (.tuple #[.int .u64 (getV s), .int .i64 (getE s)]) ∧ w = w' := by
  by_cases h8 : s.size = 8
  · have g8 : ((s.size : Int) != 8) = false := by simp; omega
    have HE := Lib.hid (show getE s = 0 from if_pos h8)
    have HV := Lib.hid (show getV s = getN s 8 from if_pos h8)
    have hle : s.size ≤ 8 := by omega
    have hge : 8 ≤ s.size := by omega
    clear h8
    go_enter Tryd.func39, Tryd.ntmps39
    go_wp2
    go_loop [4, 9] (fun n i => ∃ k : Nat, k ≤ 8 ∧ i = .int .i64 k ∧ n = .int .u64 (getN s k)) (fun _ i => 8 - (intOf i).toNat)
    case atStart => exact ⟨0, by omega, rfl, rfl⟩
    case round =>
      obtain ⟨k, hk, rfl, rfl⟩ := hrel
      by_cases hlt : k < 8
      · have hb := getN_le s k hlt
        have hlt2 : k < s.size := by omega
        have hby := byteAt_le s k
        rw [← byteAt_in s k hlt2] at hby
        go_wp2
        go_round
        case rel => exact ⟨k + 1, by omega, by go_num, by rw [byteAt_in s k hlt2, or_byte _ _ hb (byteAt_le s k)]; rfl⟩
        case measure => simp [intOf]; omega
      · obtain rfl : k = 8 := by omega
        go_wp2
        go_ret2
        exact ⟨ret2 HV.out.symm HE.out.symm, rfl⟩
  · have g8 : ((s.size : Int) != 8) = true := by simp; omega
    have HE := Lib.hid (show getE s = 41 from if_neg h8)
    have HV := Lib.hid (show getV s = 0 from if_neg h8)
    clear h8
    go_enter Tryd.func39, Tryd.ntmps39
    go_wp2
    go_ret2
    exact ⟨ret2 HV.out.symm HE.out.symm, rfl⟩

end Go.Proofs.YtmaecoidoejipaaDoor.Num
