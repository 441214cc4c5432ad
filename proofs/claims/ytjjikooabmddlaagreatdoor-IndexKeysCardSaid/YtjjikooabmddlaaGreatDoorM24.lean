/-
  The contract of slices.Concat as package zset calls it: all lists' items, one behind the other, in a list of the call's own.
-/
import Derived.Test.YtjjikooabmddlaaGreatDoorM10
import Derived.Test.YtjjikooabmddlaaGreatDoorShelfSort
import Derived.Laws.OwnMore
namespace Go.Proofs.YtjjikooabmddlaaGreatDoor.Items
open Go.ChangeShapes Go.WideShapes Go.ChangeAt Go.RowKit Val Go.Proofs.YtjjikooabmddlaaGreatDoor.Code Go.Proofs.YtjjikooabmddlaaGreatDoor.Elems Go.Proofs.YtjjikooabmddlaaGreatDoor.ZP Go.Proofs.YtjjikooabmddlaaGreatDoor.Bits
set_option linter.unusedVariables false
set_option maxRecDepth 100000

theorem catS_snoc (LS : List (Option Addr × Nat × List It)) (k : Nat) (h : k < LS.length) : catS (LS.take (k + 1)) = catS (LS.take k) ++ LS[k].2.2 := by
  unfold catS
  rw [List.take_succ_eq_append_getElem h, List.flatMap_append]
  simp
theorem catS_le (LS : List (Option Addr × Nat × List It)) (k : Nat) : (catS (LS.take k)).length ≤ (catS LS).length := by
  have h : catS LS = catS (LS.take k) ++ catS (LS.drop k) := by
    unfold catS
    rw [← List.flatMap_append, List.take_append_drop]
  rw [h, List.length_append]
  omega
theorem SetsAt.keep {w w' : World} {B : Nat} {G : Option Addr} {LS : List (Option Addr × Nat × List It)} (h : SetsAt w B G LS) (hb : Below B w w') : SetsAt w' B G LS := by
  intro i hi
  obtain ⟨⟨ad, e, hl, hc⟩, h2⟩ := h i hi
  exact ⟨⟨ad, e, hl, (hb.cell (by rw [add_block]; exact hl)).trans hc⟩, h2.below hb⟩
/-- slices.Grow of no list -/
theorem grow_any (n : Nat) (w : World) (hn : n ≤ 4398046511104) :
    Calls Tryz.prog 82 #[.slice none 0 0, .int .i64 n] w fun e w' => ∃ v, e = .returned v ∧ w'.ownsRow w.heap.size 48 2 v 0 (flatC cellsI []) ∧ Below w.heap.size w w' := by
  obtain ⟨i0, hi0, hz0, hz1, hz2⟩ := info_parts info_item
  rcases Nat.eq_zero_or_pos n with h | h
  · subst h
    refine Calls.mono (Any8.slices_Grow_room Tryz.growI none 0 0 0 w (by omega) (by omega) (by omega) (by omega)) ?_
    rintro e w' ⟨rfl, rfl⟩
    exact ⟨_, rfl, World.ownsRow_nil _ _ _ _, Below.refl _ _⟩
  · refine Calls.mono (Any8.slices_Grow_grow Tryz.growI i0 _ hi0 hz0 (by rw [hz1]; decide) none 0 0 n [] w (by omega) (by omega) (by rw [hz2]; omega) (by omega) (by simp) (fun _ => rfl) (fun a e => by cases e)) ?_
    rintro e w' ⟨rfl, rfl⟩
    refine ⟨_, rfl, ?_, (Below.drew (Below.refl _ w)).alloc (Nat.le_refl _) _⟩
    have hg : 0 + n ≤ grownCap w (0 + n) 0 48 := grownCap_ge w _ _ _
    have hm := grownCap_le_maxLen w (0 + n) 0 48 (by unfold maxLen; omega)
    exact World.ownsRow_made (base := w.heap.size) w.drew _ _ (Nat.le_refl _) hm (by
      have e : ∀ n, (Builtin.zeroCells (Value.agg #[.slice none 0 0, .int .i64 0]).cells n).size = n * 2 := fun n => by simp [Builtin.zeroCells, Value.cells]
      have h4 : n ≤ grownCap w n 0 (Tryz.growI_ren.t 25) := by
        have h5 := hg
        rw [Nat.zero_add] at h5
        exact h5
      simp [e]
      omega)

set_option maxHeartbeats 4000000 in
theorem zconcat_any (G : Option Addr) (cap : Nat) (LS : List (Option Addr × Nat × List It)) (w : World) (hS : SetsAt w w.heap.size G LS) (hl : LS.length ≤ 1000) (hc : (catS LS).length ≤ 4398046511104) :
    Calls Tryz.prog 59 #[.slice G LS.length cap] w fun e w' => ∃ v, e = .returned v ∧ w'.ownsRow w.heap.size 48 2 v (catS LS).length (flatC cellsI (catS LS)) ∧ Below w.heap.size w w' := by
  have HS := Lib.hid hS
  clear hS
  obtain ⟨i0, hi0, hz0, hz1, hz2⟩ := info_parts info_item
  go_enter Tryz.func59, Tryz.ntmps59
  go_wp2
  go_loop [3, 11] (fun n i => ∃ (k m : Nat), k ≤ LS.length ∧ m ≤ 4398046511104 ∧ i = .int .i64 k ∧ n = .int .i64 m ∧ Hid (m = (catS (LS.take k)).length)) (fun _ i => LS.length - (intOf i).toNat)
  case atStart => exact ⟨0, 0, by omega, by omega, rfl, rfl, Lib.hid rfl⟩
  case round =>
    obtain ⟨k, m, hk, hm, rfl, rfl, HM⟩ := hrel
    by_cases hkl : k < LS.length
    · obtain ⟨⟨ad, rfl, ha, c0⟩, _⟩ := HS.out k hkl
      have HC := Lib.hid (catS_snoc LS k hkl)
      have hle := catS_le LS (k + 1)
      rw [HC.out, List.length_append, ← HM.out] at hle
      have hlx : LS[k].2.2.length ≤ 4398046511104 := by omega
      go_wp2
      go_round
      case rel => exact ⟨k + 1, m + LS[k].2.2.length, by omega, by omega, by go_num, by go_num, Lib.hid (by rw [HC.out, List.length_append, ← HM.out])⟩
      case measure => simp [intOf]; omega
    · obtain rfl : k = LS.length := by omega
      rw [List.take_length] at HM
      go_wp2_with fail
      refine (grow_any m _ hm).mono ?_
      rintro e w1 ⟨v, rfl, ho, hb⟩
      have HO1 := Lib.hid ho
      have HL1 := Lib.hid hb
      have zz1 := hb.size
      clear ho hb
      go_wp2_with fail
      go_loopw [6, 27] (fun v i wr => ∃ k : Nat, k ≤ LS.length ∧ i = .int .i64 k ∧ wr.ownsRow w.heap.size 48 2 v (catS (LS.take k)).length (flatC cellsI (catS (LS.take k))) ∧ Below w.heap.size w wr) (fun _ i _ => LS.length - (intOf i).toNat)
      case atStart => exact ⟨0, by omega, rfl, HO1.out, HL1.out⟩
      case round =>
        obtain ⟨k, hk, rfl, hown, hbel⟩ := hrel
        have hsz := hbel.size
        have HL := Lib.hid hbel
        have HO := Lib.hid hown
        have VS := Lib.hid (HS.out.keep hbel)
        clear hbel hown
        by_cases hkl : k < LS.length
        · obtain ⟨⟨ad, rfl, ha, c0⟩, v0⟩ := VS.out k hkl
          have V0 := Lib.hid v0.1
          have HC := Lib.hid (catS_snoc LS k hkl)
          have hle := catS_le LS (k + 1)
          rw [HC.out, List.length_append] at hle
          clear v0
          go_wp2_with (at_builtin; refine wpList_append_at (k := 2) (c := cellsI) cellsI_length (by decide) cellsI_one rfl _ _ 40 rfl w.heap.size 48 i0 (.agg #[.slice none 0 0, .int .i64 0]) 32 Tryz.underlying40 hi0 hz0 hz1 hz2 rfl _ _ _ rfl HO.out w.heap.size LS[k].1 LS[k].2.1 LS[k].2.2 rfl V0.out ?c3 ?c4 ?c5 ?_)
          case c3 => unfold maxLen; omega
          case c4 => omega
          case c5 => exact hsz
          intro v3 w3 hown3 hgrow3
          have O3 := Lib.hid (show w3.ownsRow w.heap.size 48 2 v3 (catS (LS.take (k + 1))).length (flatC cellsI (catS (LS.take (k + 1)))) by rw [HC.out, flatC_append, List.length_append]; exact hown3)
          have L3 := Lib.hid (HL.out.grown hgrow3 hsz (fun g hg => (HO.out.lt g hg).1))
          clear hown3 hgrow3
          go_wp2
          go_roundw
          case rel => exact ⟨k + 1, by omega, by go_num, O3.out, L3.out⟩
          case measure => simp [intOf]; omega
        · obtain rfl : k = LS.length := by omega
          rw [List.take_length] at HO
          go_wp2
          go_ret
          exact ⟨_, rfl, HO.out, HL.out⟩
end Go.Proofs.YtjjikooabmddlaaGreatDoor.Items
