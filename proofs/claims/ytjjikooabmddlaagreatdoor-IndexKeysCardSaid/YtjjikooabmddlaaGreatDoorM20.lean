/-
  Contracts of package wide, for every argument: Of, Add, Neg, Int (cut out of WideCalls). They make memory of their own alone.
-/
import Derived.Test.YtjjikooabmddlaaGreatDoorChecked
import Derived.Test.YtjjikooabmddlaaGreatDoorM19
import Derived.WalkKit
import Derived.ProofKit
import Derived.Lib.Hide
import Derived.Below
import Derived.OwnWalk
import Derived.Deep.RegionHeld3
import Derived.WalkLawsBesides
import Derived.LoopTactic
namespace Go.Proofs.YtjjikooabmddlaaGreatDoor.Wide
open Go.ChangeShapes Go.WideShapes Go.ChangeAt Go.RowKit

/-- a wide number as the program's value -/
abbrev wv (n : Int) : Value := .agg #[.int .i64 (hi n), .int .u64 (lo n)]
theorem wv_eq {m n : Int} (h : sn m = sn n) : wv m = wv n := by obtain ⟨a, b⟩ := sn_congr h; unfold wv; rw [a, b]
theorem agg2 {k l : IntKind} {a b c d : Int} (h : a = c) (g : b = d) : Ending.returned (.agg #[.int k a, .int l b]) = .returned (.agg #[.int k c, .int l d]) := by rw [h, g]

theorem ret1 {k : IntKind} {a c : Int} (h : a = c) : Ending.returned (.int k a) = .returned (.int k c) := by rw [h]
theorem ret2 {k l : IntKind} {a b c d : Int} (h : a = c) (g : b = d) : Ending.returned (.tuple #[.int k a, .int l b]) = .returned (.tuple #[.int k c, .int l d]) := by rw [h, g]

theorem sign_any (a : Int) (w : World) (ha : fits a) :
    Calls Tryz.prog 89 #[.int .i64 a] w fun e w' => e = .returned (.int .i64 (hi a)) ∧ w = w' := by
  have HA := Lib.hid (of_hi ha)
  unfold fits at ha
  go_enter Tryz.func89, Tryz.ntmps89
  go_wp2
  go_ret
  exact ⟨ret1 HA.out.symm, rfl⟩

theorem of_any (a : Int) (w : World) (ha : fits a) :
    Calls Tryz.prog 68 #[.int .i64 a] w fun e w' => e = .returned (wv a) ∧ Below w.heap.size w w' := by
  go_enter Tryz.func68, Tryz.ntmps68
  go_wp2_with (go_at_call 89; refine (sign_any _ _ ha).mono ?_; rintro e w' ⟨rfl, rfl⟩)
  exact bodyPost_ret (v := .agg #[.int .i64 (hi a), .int .u64 (IntKind.u64.wrap a)]) (by simp [results, Tryz.results68, go_sem]) rfl ⟨agg2 rfl (of_lo a), (Below.refl _ _).alloc (Nat.le_refl _) _⟩

theorem bel4 {w : World} (a b c d : Obj) : Below w.heap.size w ((((w.alloc a).alloc b).alloc c).alloc d) :=
  ((((Below.refl _ _).alloc (Nat.le_refl _) _).alloc (by simp) _).alloc (by simp; omega) _).alloc (by simp; omega) _

set_option maxHeartbeats 400000 in
theorem plus_any (m n : Int) (w : World) :
    Calls Tryz.prog 67 #[.agg #[.int .i64 (hi m), .int .u64 (lo m)], .agg #[.int .i64 (hi n), .int .u64 (lo n)]] w fun e w' => e = .returned (wv (m + n)) ∧ Below w.heap.size w w' := by
  go_enter Tryz.func67, Tryz.ntmps67
  go_wp2
  · exact bodyPost_ret (v := .agg #[.int .i64 (wrap64 (wrap64 (hi m + hi n) + 1)), .int .u64 (IntKind.u64.wrap (lo m + lo n))]) (by simp [results, Tryz.results67, go_sem]) rfl
      ⟨agg2 (plus_hi1 ‹_›) (plus_lo m n), bel4 _ _ _ _⟩
  · exact bodyPost_ret (v := .agg #[.int .i64 (wrap64 (hi m + hi n)), .int .u64 (IntKind.u64.wrap (lo m + lo n))]) (by simp [results, Tryz.results67, go_sem]) rfl
      ⟨agg2 (plus_hi0 ‹_›) (plus_lo m n), bel4 _ _ _ _⟩

theorem bcell {W w1 : World} (hb : Below W.heap.size W w1) : (∀ b o, b < W.heap.size → w1.cell? ⟨b, o, none⟩ = W.cell? ⟨b, o, none⟩) ∧ (∀ b o, b < W.heap.size → w1.frozen? ⟨b, o, none⟩ = W.frozen? ⟨b, o, none⟩) :=
  ⟨fun b o h => hb.cell (p := ⟨b, o, none⟩) h, fun b o h => hb.frozen (p := ⟨b, o, none⟩) h⟩
/-- the result's two cells are there, above the heap's old size, and below it all is as it was -/
def Rest (w w' : World) : Prop := (w'.cell? ⟨w.heap.size + 1, 0, none⟩).isSome = true ∧ (w'.cell? ⟨w.heap.size + 1, 1, none⟩).isSome = true ∧ w'.frozen? ⟨w.heap.size + 1, 0, none⟩ = false ∧ w'.frozen? ⟨w.heap.size + 1, 1, none⟩ = false ∧ w.heap.size + 2 ≤ w'.heap.size ∧ Below w.heap.size w w'
theorem rest_new (w : World) (a : Obj) (x y : Value) (t : TypeId) : Rest w ((w.alloc a).alloc (.cells #[x, y] t)).drew :=
  ⟨by simp [go_sem], by simp [go_sem], by simp [go_sem], by simp [go_sem], by simp, Below.drew (((Below.refl _ _).alloc (Nat.le_refl _) _).alloc (by simp) _)⟩
/-- what a call that makes memory leaves as it was: a box's two cells, the result's two cells -/
theorem keepS {w w1 w2 : World} {x y : Value} (hb : Below w1.heap.size w1 w2) (h : w1.cell? ⟨w.heap.size, 0, none⟩ = some x ∧ w1.cell? ⟨w.heap.size, 1, none⟩ = some y ∧ Rest w w1) :
    w2.cell? ⟨w.heap.size, 0, none⟩ = some x ∧ w2.cell? ⟨w.heap.size, 1, none⟩ = some y ∧ Rest w w2 := by
  obtain ⟨h0, h1, h2, h3, h4, h5, h6, h7⟩ := h
  have hs := hb.size
  refine ⟨?_, ?_, ?_, ?_, ?_, ?_, by omega, h7.trans (hb.mono (by omega))⟩
  · rw [hb.cell (p := ⟨_, 0, none⟩) (by simp; omega)]; exact h0
  · rw [hb.cell (p := ⟨_, 1, none⟩) (by simp; omega)]; exact h1
  · rw [hb.cell (p := ⟨_, 0, none⟩) (by simp; omega)]; exact h2
  · rw [hb.cell (p := ⟨_, 1, none⟩) (by simp; omega)]; exact h3
  · rw [hb.frozen (p := ⟨_, 0, none⟩) (by simp; omega)]; exact h4
  · rw [hb.frozen (p := ⟨_, 1, none⟩) (by simp; omega)]; exact h5
theorem restOpen {w w2 : World} (h : Rest w w2) : ∃ p q : Value, w2.cell? ⟨w.heap.size + 1, 0, none⟩ = some p ∧ w2.cell? ⟨w.heap.size + 1, 1, none⟩ = some q := by
  obtain ⟨p, hp⟩ := Option.isSome_iff_exists.1 h.1
  obtain ⟨q, hq⟩ := Option.isSome_iff_exists.1 h.2.1
  exact ⟨p, q, hp, hq⟩

/-- the result's two cells are written -/
theorem setS {w w2 : World} {x y : Value} (h : w2.cell? ⟨w.heap.size, 0, none⟩ = some x ∧ w2.cell? ⟨w.heap.size, 1, none⟩ = some y ∧ Rest w w2) (u v : Value) :
    ((w2.setCell ⟨w.heap.size + 1, 0, none⟩ u).setCell ⟨w.heap.size + 1, 1, none⟩ v).cell? ⟨w.heap.size, 0, none⟩ = some x ∧ ((w2.setCell ⟨w.heap.size + 1, 0, none⟩ u).setCell ⟨w.heap.size + 1, 1, none⟩ v).cell? ⟨w.heap.size, 1, none⟩ = some y ∧ Rest w ((w2.setCell ⟨w.heap.size + 1, 0, none⟩ u).setCell ⟨w.heap.size + 1, 1, none⟩ v) := by
  obtain ⟨h0, h1, h2, h3, h4, h5, h6, h7⟩ := h
  obtain ⟨p, hp⟩ := Option.isSome_iff_exists.1 h2
  obtain ⟨q, hq⟩ := Option.isSome_iff_exists.1 h3
  refine ⟨by simp [go_sem, World.cell?_setCell_other, h0], by simp [go_sem, World.cell?_setCell_other, h1], ?_, ?_, ?_, ?_, ?_, (h7.setCell (by simp) _).setCell (by simp) _⟩
  · simp [go_sem, World.cell?_setCell_other, hp]
  · simp [go_sem, World.cell?_setCell_other, hq]
  · simp [go_sem, h4]
  · simp [go_sem, h5]
  · simp [go_sem]; omega

set_option maxHeartbeats 800000 in
theorem neg_any (n : Int) (w : World) :
    Calls Tryz.prog 45 #[.agg #[.int .i64 (hi n), .int .u64 (lo n)]] w fun e w' => e = .returned (wv (-n)) ∧ Below w.heap.size w w' := by
  have r0 := fun a x y t => rest_new w a x y t
  go_enter Tryz.func45, Tryz.ntmps45
  go_wp2_with fail
  go_region_held3 (fun w' => w'.cell? ⟨w.heap.size, 0, none⟩ = some (.int .i64 (hi n)) ∧ w'.cell? ⟨w.heap.size, 1, none⟩ = some (.int .u64 (lo n)) ∧ Rest w w')
    (first | (exact setS (by assumption) _ _) | (exact keepS hb2 (by assumption)) | (exact keepS hb (by assumption)) | (exact ⟨by simp [go_sem], by simp [go_sem], r0 _ _ _ _⟩) | (trace_state; skip))
    (first | (go_at_call 68; refine (of_any _ _ (by unfold fits; omega)).mono ?_; rintro e w' ⟨rfl, hb⟩) | (go_at_call 67; rw [not_hi, not_lo]; refine (plus_any _ _ _).mono ?_; rintro e w2 ⟨rfl, hb2⟩; have hr2 := (keepS hb2 (by assumption)).2.2; obtain ⟨p2, q2, hp2, hq2⟩ := restOpen hr2; have hf0 := hr2.2.2.1; have hf1 := hr2.2.2.2.1))
  have hs := hb2.size
  have hlt : w.heap.size + 1 < w2.heap.size := by have := hr2.2.2.2.2.1; omega
  have hbl := ((hr2.2.2.2.2.2.setCell (p := ⟨w.heap.size + 1, 0, none⟩) (by simp) (.int .i64 (hi (-n)))).setCell (p := ⟨w.heap.size + 1, 1, none⟩) (by simp) (.int .u64 (lo (-n))))
  go_wp2
  exact bodyPost_ret (v := wv (-n)) (by simp [results, Tryz.results45, go_sem, World.cell?_setCell_other, hp2, hq2]) rfl ⟨rfl, hbl⟩

/-- two cells of a block that are written, one behind the other -/
theorem set2 {w : World} {b : Nat} {x y : Value} (h0 : w.cell? ⟨b, 0, none⟩ = some x) (h1 : w.cell? ⟨b, 1, none⟩ = some y) (u v : Value) :
    ((w.setCell ⟨b, 0, none⟩ u).setCell ⟨b, 1, none⟩ v).cell? ⟨b, 0, none⟩ = some u ∧ ((w.setCell ⟨b, 0, none⟩ u).setCell ⟨b, 1, none⟩ v).cell? ⟨b, 1, none⟩ = some v :=
  ⟨by simp [go_sem, World.cell?_setCell_other, h0], by simp [go_sem, World.cell?_setCell_other, h1]⟩
/-- the box of a sum in the making, and the result's cells -/
def Sum (w wr : World) (n : Int) : Prop := wr.cell? ⟨w.heap.size, 0, none⟩ = some (.int .i64 (hi n)) ∧ wr.cell? ⟨w.heap.size, 1, none⟩ = some (.int .u64 (lo n)) ∧ wr.frozen? ⟨w.heap.size, 0, none⟩ = false ∧ wr.frozen? ⟨w.heap.size, 1, none⟩ = false ∧ Rest w wr
theorem sum_new (w : World) (n : Int) (t t' : TypeId) (x y : Value) : Sum w ((w.alloc (.cells #[.int .i64 (hi n), .int .u64 (lo n)] t)).alloc (.cells #[x, y] t')) n :=
  ⟨by simp [go_sem], by simp [go_sem], by simp [go_sem], by simp [go_sem], by simp [go_sem], by simp [go_sem], by simp [go_sem], by simp [go_sem], by simp, ((Below.refl _ _).alloc (Nat.le_refl _) _).alloc (by simp) _⟩
theorem sum_call {w w1 w2 : World} {n : Int} {o : Obj} (h : Sum w w1 n) (hb : Below (w1.alloc o).heap.size (w1.alloc o) w2) : Sum w w2 n := by
  obtain ⟨h0, h1, f0, f1, h2, h3, h4, h5, h6, h7⟩ := h
  have hs := hb.size
  simp at hs
  have hb1 : Below w1.heap.size w1 w2 := ((Below.refl _ _).alloc (Nat.le_refl _) o).trans (hb.mono (by simp))
  have k := keepS hb1 ⟨h0, h1, h2, h3, h4, h5, h6, h7⟩
  refine ⟨k.1, k.2.1, ?_, ?_, k.2.2⟩
  · rw [hb1.frozen (p := ⟨_, 0, none⟩) (by simp; omega)]; exact f0
  · rw [hb1.frozen (p := ⟨_, 1, none⟩) (by simp; omega)]; exact f1
theorem sum_set {w w2 : World} {n : Int} (h : Sum w w2 n) (m : Int) : Sum w ((w2.setCell ⟨w.heap.size, 0, none⟩ (.int .i64 (hi m))).setCell ⟨w.heap.size, 1, none⟩ (.int .u64 (lo m))) m := by
  obtain ⟨h0, h1, f0, f1, h2, h3, h4, h5, h6, h7⟩ := h
  obtain ⟨p, hp⟩ := Option.isSome_iff_exists.1 h2
  obtain ⟨q, hq⟩ := Option.isSome_iff_exists.1 h3
  obtain ⟨g0, g1⟩ := set2 h0 h1 (.int .i64 (hi m)) (.int .u64 (lo m))
  refine ⟨g0, g1, by simp [go_sem, f0], by simp [go_sem, f1], ?_, ?_, by simp [go_sem, h4], by simp [go_sem, h5], by simp [go_sem]; omega, (h7.setCell (by simp) _).setCell (by simp) _⟩
  · simp [go_sem, World.cell?_setCell_other, hp]
  · simp [go_sem, World.cell?_setCell_other, hq]

theorem sum_snoc (l : List Int) (k : Nat) (h : k < l.length) : (l.take (k + 1)).sum = (l.take k).sum + l[k] := by
  rw [List.take_succ_eq_append_getElem h, List.sum_append]; simp

set_option maxHeartbeats 1600000 in
/-- the sum of it and others, that lie in a slice -/
theorem adds_any (n : Int) (ns : List Int) (b cap : Nat) (w : World) (hb : b < w.heap.size) (hl : ns.length ≤ maxLen)
    (hc : ∀ (i : Nat) (h : i < ns.length), w.cell? ⟨b, i * 2, none⟩ = some (.int .i64 (hi ns[i])) ∧ w.cell? ⟨b, i * 2 + 1, none⟩ = some (.int .u64 (lo ns[i]))) :
    Calls Tryz.prog 87 #[.agg #[.int .i64 (hi n), .int .u64 (lo n)], .slice (some ⟨b, 0, none⟩) ns.length cap] w fun e w' => e = .returned (wv (n + ns.sum)) ∧ Below w.heap.size w w' := by
  unfold maxLen at hl
  have HC := Lib.hid hc
  clear hc
  go_enter Tryz.func87, Tryz.ntmps87
  go_wp2
  go_loopw [9] (fun i wr => ∃ k : Nat, k ≤ ns.length ∧ i = .int .i64 k ∧ Sum w wr (n + (ns.take k).sum)) (fun i _ => ns.length - (intOf i).toNat)
  case atStart => exact ⟨0, by omega, rfl, by simpa using sum_new w n _ _ _ _⟩
  case round =>
    obtain ⟨k, hk, rfl, hs⟩ := hrel
    have HS := Lib.hid hs
    obtain ⟨c0, c1, f0, f1, hr⟩ := hs
    have hbl := hr.2.2.2.2.2
    have hsz := hr.2.2.2.2.1
    by_cases hlt : k < ns.length
    · have hc := HC.out k hlt
      have d0 : wr.cell? ⟨b, k * 2, none⟩ = some (.int .i64 (hi ns[k])) := by rw [hbl.cell (p := ⟨b, k * 2, none⟩) hb]; exact hc.1
      have d1 : wr.cell? ⟨b, k * 2 + 1, none⟩ = some (.int .u64 (lo ns[k])) := by rw [hbl.cell (p := ⟨b, k * 2 + 1, none⟩) hb]; exact hc.2
      have e0 : ∀ o, (wr.alloc o).cell? ⟨w.heap.size, 0, none⟩ = some (.int .i64 (hi (n + (ns.take k).sum))) := fun o => by rw [World.cell?_alloc_old _ _ _ (by simp; omega)]; exact c0
      have e1 : ∀ o, (wr.alloc o).cell? ⟨w.heap.size, 1, none⟩ = some (.int .u64 (lo (n + (ns.take k).sum))) := fun o => by rw [World.cell?_alloc_old _ _ _ (by simp; omega)]; exact c1
      clear hc hbl hr
      go_wp2_with fail
      refine (plus_any _ _ _).mono ?_
      rintro e w2 ⟨rfl, hb2⟩
      have HS2 := Lib.hid (sum_call HS.out hb2)
      obtain ⟨p0, p1, q0, q1, hr2⟩ := HS2.out
      clear hb2 e0 e1 hr2
      go_wp2
      go_roundw
      case rel => exact ⟨k + 1, by omega, by go_num, by rw [sum_snoc ns k hlt, ← Int.add_assoc]; exact sum_set HS2.out _⟩
      case measure => simp [intOf]; omega
    · obtain rfl : k = ns.length := by omega
      rw [List.take_length] at c0 c1
      obtain ⟨p, q, hp, hq⟩ := restOpen hr
      have r0 := hr.2.2.1
      have r1 := hr.2.2.2.1
      have HB := Lib.hid hbl
      clear hbl hr
      go_wp2
      exact bodyPost_ret (v := wv (n + ns.sum)) (by simp [results, Tryz.results87, go_sem, World.cell?_setCell_other, hp, hq]) rfl ⟨rfl, (HB.out.setCell (by simp) _).setCell (by simp) _⟩

theorem keepB {w w1 w2 : World} {x y : Value} (hb : Below w1.heap.size w1 w2) (h : w1.cell? ⟨w.heap.size, 0, none⟩ = some x ∧ w1.cell? ⟨w.heap.size, 1, none⟩ = some y ∧ w.heap.size + 1 ≤ w1.heap.size ∧ Below w.heap.size w w1) :
    w2.cell? ⟨w.heap.size, 0, none⟩ = some x ∧ w2.cell? ⟨w.heap.size, 1, none⟩ = some y ∧ w.heap.size + 1 ≤ w2.heap.size ∧ Below w.heap.size w w2 := by
  obtain ⟨h0, h1, h6, h7⟩ := h
  have hs := hb.size
  refine ⟨?_, ?_, by omega, h7.trans (hb.mono (by omega))⟩
  · rw [hb.cell (p := ⟨_, 0, none⟩) (by simp; omega)]; exact h0
  · rw [hb.cell (p := ⟨_, 1, none⟩) (by simp; omega)]; exact h1

set_option maxHeartbeats 800000 in
theorem int_any (n : Int) (w : World) :
    Calls Tryz.prog 65 #[.agg #[.int .i64 (hi n), .int .u64 (lo n)]] w fun e w' => e = .returned (.tuple #[.int .i64 (intV n), .int .i64 (intE n)]) ∧ Below w.heap.size w w' := by
  obtain ⟨m, hm⟩ : ∃ m, wrap64 (lo n) = m := ⟨_, rfl⟩
  have fm : fits m := hm ▸ wrap_fits _
  have HM := Lib.hid hm
  have hl : (lo n == lo m) = true := by rw [← hm, int_lo]; simp
  have hl2 : decide (lo n = lo m) = true := by rw [← hm, int_lo]; simp
  by_cases h : hi n = hi m
  · have hh : (hi n == hi m) = true := by simp [h]
    have hh2 : decide (hi n = hi m) = true := by simp [h]
    have HI := Lib.hid (int_yes (n := n) (by rw [hm]; exact h))
    clear h
    go_enter Tryz.func65, Tryz.ntmps65
    go_wp2_with fail
    go_region_held3 (fun w' => w'.cell? ⟨w.heap.size, 0, none⟩ = some (.int .i64 (hi n)) ∧ w'.cell? ⟨w.heap.size, 1, none⟩ = some (.int .u64 (lo n)) ∧ w.heap.size + 1 ≤ w'.heap.size ∧ Below w.heap.size w w')
      (first | (exact keepB hb (by assumption)) | (exact ⟨by simp [go_sem], by simp [go_sem], by simp, Below.drew ((Below.refl _ _).alloc (Nat.le_refl _) _)⟩) | assumption)
      (first | (go_at_call 68; refine (of_any _ _ fm).mono ?_; rintro e w' ⟨rfl, hb⟩))
    have HB := Lib.hid (show Below w.heap.size w w' by rename_i hS; exact hS.2.2.2)
    go_wp2
    go_ret2
    exact ⟨ret2 (by rw [HI.out.1, HM.out]) HI.out.2.symm, HB.out⟩
  · have hh : (hi n == hi m) = false := by simp [h]
    have hh2 : decide (hi n = hi m) = false := by simp [h]
    have HI := Lib.hid (int_no (n := n) (by rw [hm]; exact h))
    clear h
    go_enter Tryz.func65, Tryz.ntmps65
    go_wp2_with fail
    go_region_held3 (fun w' => w'.cell? ⟨w.heap.size, 0, none⟩ = some (.int .i64 (hi n)) ∧ w'.cell? ⟨w.heap.size, 1, none⟩ = some (.int .u64 (lo n)) ∧ w.heap.size + 1 ≤ w'.heap.size ∧ Below w.heap.size w w')
      (first | (exact keepB hb (by assumption)) | (exact ⟨by simp [go_sem], by simp [go_sem], by simp, Below.drew ((Below.refl _ _).alloc (Nat.le_refl _) _)⟩) | assumption)
      (first | (go_at_call 68; refine (of_any _ _ fm).mono ?_; rintro e w' ⟨rfl, hb⟩))
    have HB := Lib.hid (show Below w.heap.size w w' by rename_i hS; exact hS.2.2.2)
    go_wp2
    go_ret2
    exact ⟨ret2 HI.out.1.symm HI.out.2.symm, HB.out⟩
end Go.Proofs.YtjjikooabmddlaaGreatDoor.Wide

/-
  Boxes of wide numbers in memory, carried from call to call; contracts of package wide's calls in the forms that the laws of layer 2 meet.
-/
namespace Go.Proofs.YtjjikooabmddlaaGreatDoor.Wide
open Go.ChangeShapes Go.WideShapes Go.ChangeAt Go.RowKit

/-- a wide number's two cells at the beginning of a block -/
def Box (W : World) (b : Nat) (n : Int) : Prop := W.cell? ⟨b, 0, none⟩ = some (.int .i64 (hi n)) ∧ W.cell? ⟨b, 1, none⟩ = some (.int .u64 (lo n)) ∧ b < W.heap.size
theorem Box.call {W W' : World} {b : Nat} {n : Int} (h : Box W b n) (hb : Below W.heap.size W W') : Box W' b n := by
  obtain ⟨h0, h1, h2⟩ := h
  exact ⟨by rw [hb.cell (p := ⟨b, 0, none⟩) h2]; exact h0, by rw [hb.cell (p := ⟨b, 1, none⟩) h2]; exact h1, Nat.lt_of_lt_of_le h2 hb.size⟩
theorem below_alloc (W : World) (o : Obj) : Below W.heap.size W (W.alloc o) := (Below.refl _ _).alloc (Nat.le_refl _) o
theorem Box.alloc {W : World} {b : Nat} {n : Int} (h : Box W b n) (o : Obj) : Box (W.alloc o) b n := h.call (below_alloc W o)
theorem Box.fresh (W : World) (n : Int) (t : TypeId) : Box (W.alloc (.cells #[.int .i64 (hi n), .int .u64 (lo n)] t)) W.heap.size n := ⟨by simp [go_sem], by simp [go_sem], by simp⟩
theorem Box.set {W : World} {g : Nat} (h0 : (W.cell? ⟨g, 0, none⟩).isSome = true) (h1 : (W.cell? ⟨g, 1, none⟩).isSome = true) (hg : g < W.heap.size) (n : Int) : Box ((W.setCell ⟨g, 0, none⟩ (.int .i64 (hi n))).setCell ⟨g, 1, none⟩ (.int .u64 (lo n))) g n := by
  obtain ⟨p, hp⟩ := Option.isSome_iff_exists.1 h0
  obtain ⟨q, hq⟩ := Option.isSome_iff_exists.1 h1
  obtain ⟨k0, k1⟩ := set2 hp hq (.int .i64 (hi n)) (.int .u64 (lo n))
  exact ⟨k0, k1, by simpa [go_sem] using hg⟩
/-- one call behind another -/
theorem bnext {B : Nat} {w W W' : World} (h : Below B w W) (hB : B ≤ W.heap.size) (hb : Below W.heap.size W W') : Below B w W' := h.trans (hb.mono hB)

theorem keepD {C : Prop} {W w1 : World} {o : Obj} (h : C ∧ Below W.heap.size W w1.drew) {C' : Prop}
    (hC : (∀ b i, b < W.heap.size → (w1.alloc o).drew.cell? ⟨b, i, none⟩ = W.cell? ⟨b, i, none⟩) → C') : C' ∧ Below W.heap.size W (w1.alloc o).drew := by
  have h1 : Below W.heap.size W w1 := ⟨h.2.os, h.2.tape, h.2.output, h.2.size, h.2.block⟩
  have hB : Below W.heap.size W (w1.alloc o).drew := Below.drew (h1.alloc h1.size o)
  exact ⟨hC fun b i hl => hB.cell (p := ⟨b, i, none⟩) hl, hB⟩
/-- what was there when a region began is there when the newest block gets other cells -/
theorem below_other {W w1 : World} {o : Obj} (h : Below W.heap.size W (w1.alloc o)) (hs : W.heap.size ≤ w1.heap.size) (o' : Obj) : Below W.heap.size W (w1.alloc o') :=
  ⟨h.os, h.tape, h.output, by simp; omega, fun k hk => by rw [Below.heap_alloc w1 o' k (by omega), ← Below.heap_alloc w1 o k (by omega)]; exact h.block k hk⟩
theorem keepO {C : Prop} {W w1 : World} {o o' : Obj} (h : C ∧ Below W.heap.size W (w1.alloc o)) (hs : W.heap.size ≤ w1.heap.size) {C' : Prop}
    (hC : (∀ b i, b < W.heap.size → (w1.alloc o').cell? ⟨b, i, none⟩ = W.cell? ⟨b, i, none⟩) → C') : C' ∧ Below W.heap.size W (w1.alloc o') := by
  have hB := below_other h.2 hs o'
  exact ⟨hC fun b i hl => hB.cell (p := ⟨b, i, none⟩) hl, hB⟩
/-- what was there when a region began is there when a block that was made since is written -/
theorem keepW {C : Prop} {W w1 : World} {g : Nat} {u v : Value} (h : C ∧ Below W.heap.size W w1) (hg : W.heap.size ≤ g) {C' : Prop}
    (hC : (∀ b o, b < W.heap.size → ((w1.setCell ⟨g, 0, none⟩ u).setCell ⟨g, 1, none⟩ v).cell? ⟨b, o, none⟩ = W.cell? ⟨b, o, none⟩) → C') : C' ∧ Below W.heap.size W ((w1.setCell ⟨g, 0, none⟩ u).setCell ⟨g, 1, none⟩ v) := by
  have hB := (h.2.setCell (p := ⟨g, 0, none⟩) hg u).setCell (p := ⟨g, 1, none⟩) hg v
  exact ⟨hC fun b o hl => hB.cell (p := ⟨b, o, none⟩) hl, hB⟩

theorem add1_any (n m : Int) (b cap : Nat) (w : World) (hb : b < w.heap.size) (h0 : w.cell? ⟨b, 0, none⟩ = some (.int .i64 (hi m))) (h1 : w.cell? ⟨b, 1, none⟩ = some (.int .u64 (lo m))) :
    Calls Tryz.prog 87 #[.agg #[.int .i64 (hi n), .int .u64 (lo n)], .slice (some ⟨b, 0, none⟩) 1 cap] w fun e w' => e = .returned (wv (n + m)) ∧ Below w.heap.size w w' := by
  have g := adds_any n [m] b cap w hb (by unfold maxLen; simp) (fun i hi => by
    rcases i with _ | i
    · exact ⟨h0, h1⟩
    · simp at hi)
  rw [show n + [m].sum = n + m by simp] at g
  exact g
end Go.Proofs.YtjjikooabmddlaaGreatDoor.Wide

/-
  The contract of Total of package zset: all weights together, as a wide number.
-/
namespace Go.Proofs.YtjjikooabmddlaaGreatDoor.Items
open Go.ChangeShapes Go.WideShapes Go.ChangeAt Go.RowKit Val Go.Proofs.YtjjikooabmddlaaGreatDoor.Code Go.Proofs.YtjjikooabmddlaaGreatDoor.Elems Go.Proofs.YtjjikooabmddlaaGreatDoor.ZP Go.Proofs.YtjjikooabmddlaaGreatDoor.Bits Go.Proofs.YtjjikooabmddlaaGreatDoor.Range
set_option linter.unusedVariables false
set_option maxRecDepth 100000
attribute [local go_sem] Oper.semAt_some

/-- a wide number in a box that the call made -/
def WBox (w : World) (g : Nat) (n : Int) (W : World) : Prop := W.heap[g]? = some (.cells #[.int .i64 (Wide.hi n), .int .u64 (Wide.lo n)] 90 (0, 0)) ∧ Below w.heap.size w W
theorem WBox.cells {w W : World} {g : Nat} {n : Int} (h : WBox w g n W) : W.cell? ⟨g, 0, none⟩ = some (.int .i64 (Wide.hi n)) ∧ W.cell? ⟨g, 1, none⟩ = some (.int .u64 (Wide.lo n)) ∧ W.frozen? ⟨g, 0, none⟩ = false ∧ W.frozen? ⟨g, 1, none⟩ = false := by
  have h1 := h.1
  refine ⟨?_, ?_, ?_, ?_⟩ <;> simp [World.cell?, World.frozen?, h1]
theorem WBox.turn {w W W' : World} {g : Nat} {n : Int} {row : Option Nat} {B : Nat} (hg : W.grownBy W' row) (hr : ∀ r, row = some r → B ≤ r ∧ ∃ o : Obj, W.heap[r]? = some o ∧ o.isCells = false) (hB : w.heap.size ≤ B) (h : WBox w g n W) : WBox w g n W' :=
  ⟨(turn_block hg hr h.1).trans h.1, turn_below hg hr (Nat.le_refl _) hB h.2⟩

theorem WBox.keep {w W W' : World} {g : Nat} {n : Int} (h : WBox w g n W) (hb : Below W.heap.size W W') : WBox w g n W' :=
  ⟨(hb.block g (Array.getElem?_eq_some_iff.1 h.1).1).trans h.1, h.2.trans (hb.mono h.2.size)⟩
theorem WBox.set {w W : World} {g : Nat} {n : Int} (h : WBox w g n W) (hg : w.heap.size ≤ g) (m : Int) : WBox w g m ((W.setCell ⟨g, 0, none⟩ (.int .i64 (Wide.hi m))).setCell ⟨g, 1, none⟩ (.int .u64 (Wide.lo m))) := by
  refine ⟨?_, (h.2.setCell (p := ⟨g, 0, none⟩) hg _).setCell (p := ⟨g, 1, none⟩) hg _⟩
  obtain ⟨hlt, hk⟩ := Array.getElem?_eq_some_iff.1 h.1
  have e1 : (W.setCell ⟨g, 0, none⟩ (.int .i64 (Wide.hi m))).heap[g]? = some (.cells #[.int .i64 (Wide.hi m), .int .u64 (Wide.lo n)] 90 (0, 0)) := by
    show (W.heap.modify g _)[g]? = _
    rw [Array.getElem?_eq_getElem (by rw [Array.size_modify]; exact hlt), Array.getElem_modify_self, hk]
    rfl
  obtain ⟨hlt1, hk1⟩ := Array.getElem?_eq_some_iff.1 e1
  show ((W.setCell ⟨g, 0, none⟩ (.int .i64 (Wide.hi m))).heap.modify g _)[g]? = _
  rw [Array.getElem?_eq_getElem (by rw [Array.size_modify]; exact hlt1), Array.getElem_modify_self, hk1]
  rfl
theorem wbox_next {w W w2 w3 : World} {g : Nat} {n : Int} {o : Obj} (h : WBox w g n W) (hb2 : Below W.drew.heap.size W.drew w2) (hb3 : Below (w2.alloc o).heap.size (w2.alloc o) w3) : WBox w g n w3 :=
  ((h.keep (Below.trans (Below.drew (Below.refl _ W)) hb2)).keep (below_alloc w2 o)).keep hb3
theorem keeps_below {W W' : World} (h : Below W.heap.size W W') : KeepsOthers W W' := ⟨h.size, fun k o hk _ => (h.block k (Array.getElem?_eq_some_iff.1 hk).1).trans hk⟩
theorem total_add (pre : List It) (x : It) : totalP (pl (pre ++ [x])) = totalP (pl pre) + x.2.2.2 := by
  rw [pl_append]
  exact total_snoc _ _

theorem total_round {w W w2 w3 : World} {g : Nat} {n x m : Int} {o : Obj} {B : Nat} (h : WBox w g n W) (hb2 : Below W.drew.heap.size W.drew w2) (hb3 : Below (w2.alloc o).heap.size (w2.alloc o) w3) (hg : w.heap.size ≤ g) (hm : m = n + x) :
    KeepsFrom B W ((w3.setCell ⟨g, 0, none⟩ (.int .i64 (Wide.hi (n + x)))).setCell ⟨g, 1, none⟩ (.int .u64 (Wide.lo (n + x)))) ∧ Below w.heap.size W ((w3.setCell ⟨g, 0, none⟩ (.int .i64 (Wide.hi (n + x)))).setCell ⟨g, 1, none⟩ (.int .u64 (Wide.lo (n + x)))) ∧ WBox w g m ((w3.setCell ⟨g, 0, none⟩ (.int .i64 (Wide.hi (n + x)))).setCell ⟨g, 1, none⟩ (.int .u64 (Wide.lo (n + x)))) := by
  have b2 : Below W.heap.size W w2 := Below.trans (Below.drew (Below.refl _ W)) hb2
  have b3 : Below W.heap.size W w3 := (b2.trans ((below_alloc w2 o).mono b2.size)).trans (hb3.mono (by have := b2.size; simp; omega))
  rw [hm]
  exact ⟨((keeps_below b3).trans ((KeepsOthers.setCell _ _ _).trans (KeepsOthers.setCell _ _ _))).from _, ((b3.mono h.2.size).setCell (p := ⟨g, 0, none⟩) hg _).setCell (p := ⟨g, 1, none⟩) hg _, (wbox_next h hb2 hb3).set hg _⟩

end Go.Proofs.YtjjikooabmddlaaGreatDoor.Items
