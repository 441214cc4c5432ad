/-
  The program's Drop of columns, and slices.Concat as it calls it.
-/
import Derived.Test.YtajnnkclonjcoaaDoorM10
import Derived.Test.YtajnnkclonjcoaaDoorShelfSort
import Derived.Laws.OwnMore
import Derived.Deep.RegionLaw
import Derived.Test.YtajnnkclonjcoaaDoorM8
import Derived.Deep.AppendLies
import Derived.Test.YtajnnkclonjcoaaDoorM6
namespace Go.Proofs.YtajnnkclonjcoaaDoor.Code
open Go.ChangeShapes Go.WideShapes Go.ChangeAt Go.RowKit Val Elems
set_option linter.unusedVariables false
set_option linter.unusedSimpArgs false
set_option maxRecDepth 100000
/-- lists of columns in memory -/
def ColsAt (w : World) (B : Nat) (G : Option Addr) (LS : List (Option Addr × Nat × List W)) : Prop :=
  ∀ (i : Nat) (h : i < LS.length), (∃ ad : Addr, G = some ad ∧ ad.block < B ∧ w.cell? (ad.add i) = some (.slice LS[i].1 LS[i].2.2.length LS[i].2.1)) ∧ At wc 3 w B LS[i].1 LS[i].2.2
def catC (LS : List (Option Addr × Nat × List W)) : List W := LS.flatMap (·.2.2)
theorem colsAt_two (w : World) (A B : Option Addr) (ca cb : Nat) (a b : List W) (t : TypeId) (hA : At wc 3 w w.heap.size A a) (hB : At wc 3 w w.heap.size B b) :
    ColsAt (w.alloc (.cells #[.slice A a.length ca, .slice B b.length cb] t)) (w.alloc (.cells #[.slice A a.length ca, .slice B b.length cb] t)).heap.size (some ⟨w.heap.size, 0, none⟩) [(A, ca, a), (B, cb, b)] := by
  have hb := below_alloc w (.cells #[.slice A a.length ca, .slice B b.length cb] t)
  intro i hi
  match i, hi with
  | 0, _ => exact ⟨⟨_, rfl, by simp, by rw [Addr.add_lit]; simp⟩, (hA.below hb).more hb.size⟩
  | 1, _ => exact ⟨⟨_, rfl, by simp, by rw [Addr.add_lit]; simp⟩, (hB.below hb).more hb.size⟩
theorem catC_snoc (LS : List (Option Addr × Nat × List W)) (k : Nat) (h : k < LS.length) : catC (LS.take (k + 1)) = catC (LS.take k) ++ LS[k].2.2 := by
  unfold catC
  rw [List.take_succ_eq_append_getElem h, List.flatMap_append]
  simp
theorem catC_le (LS : List (Option Addr × Nat × List W)) (k : Nat) : (catC (LS.take k)).length ≤ (catC LS).length := by
  have h : catC LS = catC (LS.take k) ++ catC (LS.drop k) := by
    unfold catC
    rw [← List.flatMap_append, List.take_append_drop]
  rw [h, List.length_append]
  omega
theorem ColsAt.keep {w w' : World} {B : Nat} {G : Option Addr} {LS : List (Option Addr × Nat × List W)} (h : ColsAt w B G LS) (hb : Below B w w') : ColsAt w' B G LS := by
  intro i hi
  obtain ⟨⟨ad, e, hl, hc⟩, h2⟩ := h i hi
  exact ⟨⟨ad, e, hl, (hb.cell (by rw [add_block]; exact hl)).trans hc⟩, h2.below hb⟩
/-- slices.Grow of no list -/
theorem cgrow_any (n : Nat) (w : World) (hn : n ≤ 4398046511104) :
    Calls Tryd.prog 59 #[.slice none 0 0, .int .i64 n] w fun e w' => ∃ v, e = .returned v ∧ w'.ownsRow w.heap.size 41 3 v 0 (flatC wc []) ∧ Below w.heap.size w w' := by
  obtain ⟨i0, hi0, hz0, hz1, hz2⟩ := info_parts info_col
  rcases Nat.eq_zero_or_pos n with h | h
  · subst h
    refine Calls.mono (Any8.slices_Grow_room Tryd.growI none 0 0 0 w (by omega) (by omega) (by omega) (by omega)) ?_
    rintro e w' ⟨rfl, rfl⟩
    exact ⟨_, rfl, World.ownsRow_nil _ _ _ _, Below.refl _ _⟩
  · refine Calls.mono (Any8.slices_Grow_grow Tryd.growI i0 _ hi0 hz0 (by rw [hz1]; decide) none 0 0 n [] w (by omega) (by omega) (by rw [hz2]; omega) (by omega) (by simp) (fun _ => rfl) (fun a e => by cases e)) ?_
    rintro e w' ⟨rfl, rfl⟩
    refine ⟨_, rfl, ?_, (Below.drew (Below.refl _ w)).alloc (Nat.le_refl _) _⟩
    have hg : 0 + n ≤ grownCap w (0 + n) 0 41 := grownCap_ge w _ _ _
    have hm := grownCap_le_maxLen w (0 + n) 0 41 (by unfold maxLen; omega)
    exact World.ownsRow_made (base := w.heap.size) w.drew _ _ (Nat.le_refl _) hm (by
      have e : ∀ n, (Builtin.zeroCells (Value.agg #[.int .i64 0, .string ByteArray.empty, .int .i64 0]).cells n).size = n * 3 := fun n => by simp [Builtin.zeroCells, Value.cells]
      have h4 : n ≤ grownCap w n 0 (Tryd.growI_ren.t 25) := by
        have h5 := hg
        rw [Nat.zero_add] at h5
        exact h5
      simp [e]
      omega)
set_option maxHeartbeats 4000000 in
theorem cconcat_any (G : Option Addr) (cap : Nat) (LS : List (Option Addr × Nat × List W)) (w : World) (hS : ColsAt w w.heap.size G LS) (hl : LS.length ≤ 1000) (hc : (catC LS).length ≤ 4194304) :
    Calls Tryd.prog 44 #[.slice G LS.length cap] w fun e w' => ∃ v, e = .returned v ∧ w'.ownsRow w.heap.size 41 3 v (catC LS).length (flatC wc (catC LS)) ∧ Below w.heap.size w w' := by
  have HS := Lib.hid hS
  clear hS
  obtain ⟨i0, hi0, hz0, hz1, hz2⟩ := info_parts info_col
  go_enter Tryd.func44, Tryd.ntmps44
  go_wp2
  go_loop [3, 11] (fun n i => ∃ (k m : Nat), k ≤ LS.length ∧ m ≤ 4398046511104 ∧ i = .int .i64 k ∧ n = .int .i64 m ∧ Hid (m = (catC (LS.take k)).length)) (fun _ i => LS.length - (intOf i).toNat)
  case atStart => exact ⟨0, 0, by omega, by omega, rfl, rfl, Lib.hid rfl⟩
  case round =>
    obtain ⟨k, m, hk, hm, rfl, rfl, HM⟩ := hrel
    by_cases hkl : k < LS.length
    · obtain ⟨⟨ad, rfl, ha, c0⟩, _⟩ := HS.out k hkl
      have HC := Lib.hid (catC_snoc LS k hkl)
      have hle := catC_le LS (k + 1)
      rw [HC.out, List.length_append, ← HM.out] at hle
      have hlx : LS[k].2.2.length ≤ 4398046511104 := by omega
      go_wp2
      go_round
      case rel => exact ⟨k + 1, m + LS[k].2.2.length, by omega, by omega, by go_num, by go_num, Lib.hid (by rw [HC.out, List.length_append, ← HM.out])⟩
      case measure => simp [intOf]; omega
    · obtain rfl : k = LS.length := by omega
      rw [List.take_length] at HM
      go_wp2_with fail
      refine (cgrow_any m _ hm).mono ?_
      rintro e w1 ⟨v, rfl, ho, hb⟩
      have HO1 := Lib.hid ho
      have HL1 := Lib.hid hb
      have zz1 := hb.size
      clear ho hb
      go_wp2_with fail
      go_loopw [6, 27] (fun v i wr => ∃ k : Nat, k ≤ LS.length ∧ i = .int .i64 k ∧ wr.ownsRow w.heap.size 41 3 v (catC (LS.take k)).length (flatC wc (catC (LS.take k))) ∧ Below w.heap.size w wr) (fun _ i _ => LS.length - (intOf i).toNat)
      case atStart => exact ⟨0, by omega, rfl, HO1.out, HL1.out⟩
      case round =>
        obtain ⟨k, hk, rfl, hown, hbel⟩ := hrel
        have hsz := hbel.size
        have HL := Lib.hid hbel
        have HO := Lib.hid hown
        have VS := Lib.hid (HS.out.keep hbel)
        clear hbel hown
        by_cases hkl : k < LS.length
        · obtain ⟨⟨ad, rfl, ha, c0⟩, v0⟩ := VS.out k hkl
          have V0 := Lib.hid v0
          have HC := Lib.hid (catC_snoc LS k hkl)
          have hle := catC_le LS (k + 1)
          rw [HC.out, List.length_append] at hle
          clear v0
          go_wp2_with (at_builtin; refine wpList_append_at (k := 3) (c := wc) wc_length (by decide) wc_one rfl _ _ 25 rfl w.heap.size 41 i0 _ 32 Tryd.underlying25 hi0 hz0 hz1 hz2 rfl _ _ _ rfl HO.out w.heap.size LS[k].1 LS[k].2.1 LS[k].2.2 rfl V0.out ?c3 ?c4 ?c5 ?_)
          case c3 => unfold maxLen; omega
          case c4 => omega
          case c5 => exact hsz
          intro v3 w3 hown3 hgrow3
          have O3 := Lib.hid (show w3.ownsRow w.heap.size 41 3 v3 (catC (LS.take (k + 1))).length (flatC wc (catC (LS.take (k + 1)))) by rw [HC.out, flatC_append, List.length_append]; exact hown3)
          have L3 := Lib.hid (HL.out.grown hgrow3 hsz (fun g hg => (HO.out.lt g hg).1))
          clear hown3 hgrow3
          go_wp2
          go_roundw
          case rel => exact ⟨k + 1, by omega, by go_num, O3.out, L3.out⟩
          case measure => simp [intOf]; omega
        · obtain rfl : k = LS.length := by omega
          rw [List.take_length] at HO
          go_wp2
          go_ret
          exact ⟨_, rfl, HO.out, HL.out⟩
theorem cat_two (l : List W) (k : Nat) (A B : Option Addr) (ca cb : Nat) : catC [(A, ca, l.take k), (B, cb, l.drop (k + 1))] = l.eraseIdx k := by
  unfold catC
  simp [List.eraseIdx_eq_take_drop_succ]
set_option maxHeartbeats 4000000 in
theorem sdrop_any (A : Option Addr) (cap : Nat) (l : List W) (s : ByteArray) (w : World) (hv : At wc 3 w w.heap.size A l) (hl : l.length ≤ 4194304) (hc : l.length ≤ cap) :
    Calls Tryd.prog 23 #[.slice A l.length cap, .string s] w (SColsPost w (dropC l s.data.toList)) := by
  have HV := Lib.hid hv
  have HF := Lib.hid (sfind_any A cap l s w hv hl)
  unfold FindPost at HF
  obtain ⟨R, hR⟩ : ∃ R, dropC l s.data.toList = R := ⟨_, rfl⟩
  rw [hR]
  unfold dropC at hR
  have HR := Lib.hid hR
  clear hv hR
  go_enter Tryd.func23, Tryd.ntmps23
  go_wp2_with fail
  refine HF.out.mono ?_
  rintro e w1 ⟨rfl, hb⟩
  have L1 := Lib.hid hb
  have V1 := Lib.hid ((HV.out.below hb).more hb.size)
  clear hb HF HV
  cases hf : findC l s.data.toList with
  | none =>
    have hr : R = ([], 121) := by rw [← HR.out, hf]
    rw [findZ_neg hf]
    have e1 : max (-1 : Int) 0 = 0 := rfl
    have e2 : decide ((0 : Int) ≤ -1) = false := rfl
    rw [e1, e2]
    subst hr
    clear hf e1 e2
    go_wp2
    go_ret2
    exact SColsPost.no _ L1.out
  | some k =>
    obtain ⟨hk, _, _⟩ := find_some hf
    have hz := findZ_pos hf
    rw [hz]
    have e1 : max (k : Int) 0 = k := by omega
    have e2 : decide ((0 : Int) ≤ (k : Int)) = true := by simp
    rw [e1, e2]
    have HR2 := Lib.hid (show (if l.length = 1 then ([], 191) else (l.eraseIdx k, 0)) = R by rw [← HR.out, hf])
    clear hf hz e1 e2 HR
    by_cases h1 : l.length = 1
    · have hr : R = ([], 191) := by rw [← HR2.out, if_pos h1]
      subst hr
      rw [h1]
      clear h1
      go_wp2
      go_ret2
      exact SColsPost.no _ L1.out
    have hr : R = (l.eraseIdx k, 0) := by rw [← HR2.out, if_neg h1]
    subst hr
    obtain ⟨ad, rfl, _⟩ := V1.out k hk
    have hn1 : ((l.length : Int) == 1) = false := by simp; omega
    have hcH := run_cutH ad l.length cap k (by have := hc; have := hk; omega)
    have hcL := run_cutL ad l.length cap (k + 1) (by omega)
    have e9 : IntKind.i64.wrap ((k : Int) + 1) = ((k + 1 : Nat) : Int) := by rw [IntKind.wrap_i64]; omega
    rw [show ((k + 1 : Nat) : Int) = (k : Int) + 1 by omega] at hcL e9
    have hti : (l.take k).length = k := List.length_take_of_le (Nat.le_of_lt hk)
    have htd : (l.drop (k + 1)).length = l.length - (k + 1) := List.length_drop ..
    obtain ⟨A2, hA2⟩ : ∃ A2, (if cap = k + 1 then some ad else some (ad.add ((k + 1) * 3))) = A2 := ⟨_, rfl⟩
    rw [hA2] at hcL
    have hb2 := at_behind V1.out hc (k + 1)
    rw [hA2] at hb2
    have hat := colsAt_two w1 (some ad) A2 cap (cap - (k + 1)) (l.take k) (l.drop (k + 1)) 25 (V1.out.take k) hb2
    have hcat := cat_two l k (some ad) A2 cap (cap - (k + 1))
    have hel : (l.eraseIdx k).length ≤ 4194304 := by rw [List.length_eraseIdx_of_lt hk]; omega
    have HC := Lib.hid (fun w' (hb : Below (w1.alloc (.cells #[.slice (some ad) (l.take k).length cap, .slice A2 (l.drop (k + 1)).length (cap - (k + 1))] 25)).heap.size (w1.alloc (.cells #[.slice (some ad) (l.take k).length cap, .slice A2 (l.drop (k + 1)).length (cap - (k + 1))] 25)) w') =>
      cconcat_any (some ⟨w1.heap.size, 0, none⟩) 2 [(some ad, cap, l.take k), (A2, cap - (k + 1), l.drop (k + 1))] w' (by
        intro i hi
        obtain ⟨⟨ad', q1, q2, q3⟩, q4⟩ := hat.keep hb i hi
        exact ⟨⟨ad', q1, Nat.lt_of_lt_of_le q2 hb.size, q3⟩, q4.more hb.size⟩) (by simp) (by rw [hcat]; exact hel))
    rw [hcat, hti, htd] at HC
    have L2 := Lib.hid (show Below w.heap.size w (w1.alloc (.cells #[.slice (some ad) k cap, .slice A2 (l.length - (k + 1)) (cap - (k + 1))] 25)) from L1.out.alloc L1.out.size _)
    have hl63 : (l.length : Int) ≤ 4194304 := by omega
    clear hti htd hA2 hb2 hat hcat hel h1 HR2 V1
    go_wp2_with fail
    go_region_law (first
      | (go_simp; refine (HC.out _ (Below.drew (Below.refl _ _))).mono ?_; rintro e w5 ⟨v5, rfl, ho5, hb5⟩; have B5 := Lib.hid (L2.out.trans ((Below.drew (Below.refl _ _)).trans (hb5.mono (Nat.le_refl _)) |>.mono L2.out.size)); have O5 := Lib.hid ho5; clear ho5 hb5))
    all_goals
      obtain ⟨A', cap', rfl, hv'⟩ := own_at wc_length O5.out
      have hroom := own_room O5.out
      have HV' := Lib.hid hv'
      clear hv' O5
      go_wp2
      go_ret2
      exact ⟨A', cap', rfl, hroom, HV'.out, B5.out⟩
end Go.Proofs.YtajnnkclonjcoaaDoor.Code
/-
  Contracts of the program's Wider and Name of kinds.
-/
namespace Go.Proofs.YtajnnkclonjcoaaDoor.Val
open Go.ChangeShapes Go.WideShapes Go.ChangeAt Go.RowKit
set_option linter.unusedVariables false
theorem wider_out (k t : Int) (h : k ≠ t) (h0 : t ≠ 0) (h1 : t ≠ 1) (h2 : t ≠ 2) : widerB k t = false := by
  unfold widerB
  rw [if_neg (by omega)]
  exact decide_eq_false (by omega)
set_option maxHeartbeats 1000000 in
theorem wider_any (k t : Int) (w : World) :
    Calls Tryd.prog 49 #[.int .i64 k, .int .i64 t] w fun e w' => e = .returned (.bool (widerB k t)) ∧ w = w' := by
  rcases kinds k with rfl | rfl | rfl | rfl | rfl | ⟨k0, k1, k2, k3, k4⟩
  iterate 5
    · rcases kinds t with rfl | rfl | rfl | rfl | rfl | ⟨t0, t1, t2, t3, t4⟩
      iterate 5
        · go_enter Tryd.func49, Tryd.ntmps49
          go_wp2
          go_ret
          exact ⟨retB (by decide), rfl⟩
      · go_enter Tryd.func49, Tryd.ntmps49
        go_wp2
        go_ret
        simp at t0 t1 t2 t3 t4
        exact ⟨retB (wider_out _ t (by omega) t0 t1 t2).symm, rfl⟩
  · go_enter Tryd.func49, Tryd.ntmps49
    go_wp2
    go_ret
    simp at k0 k1 k2 k3 k4
    exact ⟨retB (by unfold widerB; split <;> exact (decide_eq_false (by omega)).symm), rfl⟩
theorem name_any (k : Int) (w : World) :
    Calls Tryd.prog 34 #[.int .i64 k] w fun e w' => e = .returned (.string (nameS k)) ∧ w = w' := by
  rcases kinds k with rfl | rfl | rfl | rfl | rfl | ⟨k0, k1, k2, k3, k4⟩
  all_goals
    go_enter Tryd.func34, Tryd.ntmps34
    go_wp2
    go_ret
    exact ⟨by unfold nameS; simp_all, rfl⟩
end Go.Proofs.YtajnnkclonjcoaaDoor.Val
/-
  The program's Rename, Widen and Add of columns.
-/
namespace Go.Proofs.YtajnnkclonjcoaaDoor.Code
open Go.ChangeShapes Go.WideShapes Go.ChangeAt Go.RowKit Val Elems
set_option linter.unusedVariables false
set_option linter.unusedSimpArgs false
/-- why a name may not be another column's -/
def renQ (l : List W) (ux : List UInt8) : Int := if nameC ux = false then 1 else if decide (0 ≤ findZ l ux) = true then 122 else 0
theorem rename_with (l : List W) (s ux : List UInt8) : renameC l s ux = withC (fun _ => renQ l ux) (fun c => (c.1, ux, c.2.2)) l s := by
  unfold renameC withC
  cases findC l s with
  | none => rfl
  | some k =>
    have : (findC l ux).isSome = decide (0 ≤ findZ l ux) := by
      unfold findZ
      cases findC l ux with
      | none => rfl
      | some k => simp
    dsimp only
    rw [this]
    unfold renQ
    repeat' split
    all_goals first | rfl | omega | skip
    all_goals simp_all
set_option maxHeartbeats 8000000 in
set_option maxRecDepth 100000 in
theorem renSet_any (A : Option Addr) (cap : Nat) (l : List W) (ux : ByteArray) (g0 g1 : Nat) (m : Int) (w0 : World) (hv : At wc 3 w0 w0.heap.size A l) (hl : l.length ≤ 4194304) (ht : ux.size ≤ 1000) (hg : MGlob m w0)
    (h0 : w0.cell? ⟨g0, 0, none⟩ = some (.slice A l.length cap)) (h1 : w0.cell? ⟨g1, 0, none⟩ = some (.string ux)) (z0 : g0 < w0.heap.size) (z1 : g1 < w0.heap.size) :
    SetC 46 #[.pointer (some ⟨g1, 0, none⟩), .pointer (some ⟨g0, 0, none⟩)] (fun _ => renQ l ux.data.toList) (fun c => (c.1, ux.data.toList, c.2.2)) (fun w' => Below w0.heap.size w0 w') := by
  intro n kk s g k w hb c0 c1 c2 hfr
  have V0 := Lib.hid ((hv.below hb).more hb.size)
  have G0 := Lib.hid (hg.next hb)
  have e0 : w.cell? ⟨g0, 0, none⟩ = some (.slice A l.length cap) := (hb.cell (p := ⟨g0, 0, none⟩) z0).trans h0
  have e1 : w.cell? ⟨g1, 0, none⟩ = some (.string ux) := (hb.cell (p := ⟨g1, 0, none⟩) z1).trans h1
  have y0 : g0 < w.heap.size := Nat.lt_of_lt_of_le z0 hb.size
  have y1 : g1 < w.heap.size := Nat.lt_of_lt_of_le z1 hb.size
  have yg : g < w.heap.size := World.block_lt_of_cell? _ _ c0
  have HN := Lib.hid (sname_any ux m w ht G0.out)
  have FF := Lib.hid (fun w' (h : Below w.heap.size w w') => sfind_any A cap l ux w' ((V0.out.below h).more h.size) hl)
  unfold FindPost at FF
  have HE := Lib.hid (fun w' (h : Below w.heap.size w w') => show w'.cell? ⟨g0, 0, none⟩ = some (.slice A l.length cap) ∧ w'.cell? ⟨g1, 0, none⟩ = some (.string ux) ∧ w'.cell? ⟨g, k * 3 + 1, none⟩ = some (.string s) ∧ w'.frozen? ⟨g, k * 3 + 1, none⟩ = false from
    ⟨(h.cell (p := ⟨g0, 0, none⟩) y0).trans e0, (h.cell (p := ⟨g1, 0, none⟩) y1).trans e1, (h.cell (p := ⟨g, k * 3 + 1, none⟩) yg).trans c1, by have := hfr (k * 3 + 1); unfold World.frozen? at this ⊢; rw [h.block _ yg]; exact this⟩)
  have HWC := Lib.hid (show wc (n, ux.data.toList, kk) = (wc (n, s.data.toList, kk)).set 1 (.string ux) by unfold wc; rw [Lib.mk_data]; rfl)
  obtain ⟨r, hr⟩ : ∃ r, renQ l ux.data.toList = r := ⟨_, rfl⟩
  dsimp only
  rw [hr]
  unfold renQ at hr
  obtain ⟨nb, hnb⟩ : ∃ b, nameC ux.data.toList = b := ⟨_, rfl⟩
  obtain ⟨fz, hfz⟩ : ∃ z, max (findZ l ux.data.toList) 0 = z := ⟨_, rfl⟩
  obtain ⟨fb, hfb⟩ : ∃ z, decide (0 ≤ findZ l ux.data.toList) = z := ⟨_, rfl⟩
  rw [hnb, hfb] at hr
  rw [hnb] at HN
  rw [hfz, hfb] at FF
  have HR := Lib.hid hr
  clear hr hnb hfz hfb hb hv hg h0 h1 z0 z1 c0 c1 c2 hfr
  go_enter Tryd.func46, Tryd.ntmps46
  go_wp2_with fail
  refine HN.out.mono ?_
  rintro e w1 ⟨rfl, hb1⟩
  have L1 := Lib.hid hb1
  clear hb1 HN e0 e1
  cases nb
  · have hr : r = 1 := by rw [← HR.out]; rfl
    subst hr
    go_wp2
    go_ret
    exact ⟨rfl, w1, L1.out, fun _ => rfl, fun h => absurd h (by decide)⟩
  obtain ⟨e0, e1, c1, f1⟩ := HE.out _ L1.out
  go_wp2_with fail
  refine (FF.out _ L1.out).mono ?_
  rintro e w2 ⟨rfl, hb2⟩
  have L2 := Lib.hid (L1.out.trans (hb2.mono L1.out.size))
  clear hb2 FF e0 e1 c1 f1
  obtain ⟨e0, e1, c1, f1⟩ := HE.out _ L2.out
  cases fb
  · have hr : r = 0 := by rw [← HR.out]; rfl
    subst hr
    go_wp2
    go_ret
    exact ⟨rfl, w2, L2.out, fun h => absurd rfl h, fun _ => ⟨1, .string ux, by decide, rfl, HWC.out⟩⟩
  · have hr : r = 122 := by rw [← HR.out]; rfl
    subst hr
    go_wp2
    go_ret
    exact ⟨rfl, w2, L2.out, fun _ => rfl, fun h => absurd h (by decide)⟩
set_option maxHeartbeats 4000000 in
set_option maxRecDepth 100000 in
theorem srename_any (A : Option Addr) (cap : Nat) (l : List W) (s ux : ByteArray) (m : Int) (w : World) (hv : At wc 3 w w.heap.size A l) (hl : l.length ≤ 4194304) (ht : ux.size ≤ 1000) (hg : MGlob m w) :
    Calls Tryd.prog 25 #[.slice A l.length cap, .string s, .string ux] w (SColsPost w (renameC l s.data.toList ux.data.toList)) := by
  rw [rename_with]
  obtain ⟨wa, hwa⟩ : ∃ wa, w.alloc (.cells #[.slice A l.length cap] 25) = wa := ⟨_, rfl⟩
  obtain ⟨w0, hw0⟩ : ∃ w0, wa.alloc (.cells #[.string ux] 9) = w0 := ⟨_, rfl⟩
  have hza : wa.heap.size = w.heap.size + 1 := by rw [← hwa]; simp
  have hz0 : w0.heap.size = w.heap.size + 2 := by rw [← hw0]; simp [hza]
  have HB := Lib.hid (show Below w.heap.size w w0 by rw [← hw0, ← hwa]; exact (below_alloc w _).alloc (by simp) _)
  have c0 : w0.cell? ⟨w.heap.size, 0, none⟩ = some (.slice A l.length cap) := by rw [← hw0, ← hwa]; simp [go_sem]
  have c1 : w0.cell? ⟨w.heap.size + 1, 0, none⟩ = some (.string ux) := by rw [← hw0, ← hwa]; simp [go_sem]
  have HF := Lib.hid (with_any 46 (enters_of Tryd.func46 (by kernel_rfl) rfl) #[.pointer (some ⟨w.heap.size + 1, 0, none⟩), .pointer (some ⟨w.heap.size, 0, none⟩)] (fun _ => renQ l ux.data.toList) (fun c => (c.1, ux.data.toList, c.2.2)) A cap l s w0
    ((hv.below HB.out).more HB.out.size) hl (renSet_any A cap l ux w.heap.size (w.heap.size + 1) m w0 ((hv.below HB.out).more HB.out.size) hl ht (hg.next HB.out) c0 c1 (by omega) (by omega)))
  obtain ⟨R, hR⟩ : ∃ R, withC (fun _ => renQ l ux.data.toList) (fun c => (c.1, ux.data.toList, c.2.2)) l s.data.toList = R := ⟨_, rfl⟩
  rw [hR] at HF ⊢
  unfold SColsPost at HF
  rw [← hwa] at hw0
  have HW := Lib.hid hw0
  clear hv hg hR c1 hwa hw0 hza hz0
  go_enter Tryd.func25, Tryd.ntmps25
  go_upto_region 1 with fail
  rw [HW.out]
  go_wp2_with fail
  refine HF.out.mono ?_
  rintro e w1 ⟨A', cap', rfl, h1, h2, h3⟩
  have H2 := Lib.hid h2
  have L1 := Lib.hid (HB.out.trans (h3.mono HB.out.size))
  clear h2 h3
  go_wp2
  go_ret2
  exact ⟨A', cap', rfl, h1, H2.out, L1.out⟩
def widQ (k : Int) (c : W) : Int := if columnB k = false then 1 else if widerB k c.2.2 = false then 12 else 0
theorem widen_with (l : List W) (s : List UInt8) (k : Int) : widenC l s k = withC (widQ k) (fun c => (c.1, c.2.1, k)) l s := by
  unfold widenC withC
  cases findC l s with
  | none => rfl
  | some i =>
    dsimp only
    unfold widQ
    repeat' split
    all_goals first | rfl | omega | skip
    all_goals simp_all
set_option maxHeartbeats 8000000 in
set_option maxRecDepth 100000 in
theorem widSet_any (q : Int) (g1 : Nat) (w0 : World) (h1 : w0.cell? ⟨g1, 0, none⟩ = some (.int .i64 q)) (z1 : g1 < w0.heap.size) :
    SetC 47 #[.pointer (some ⟨g1, 0, none⟩)] (widQ q) (fun c => (c.1, c.2.1, q)) (fun w' => Below w0.heap.size w0 w') := by
  intro n kk s g k w hb c0 c1 c2 hfr
  have e1 : w.cell? ⟨g1, 0, none⟩ = some (.int .i64 q) := (hb.cell (p := ⟨g1, 0, none⟩) z1).trans h1
  have y1 : g1 < w.heap.size := Nat.lt_of_lt_of_le z1 hb.size
  have yg : g < w.heap.size := World.block_lt_of_cell? _ _ c0
  have HC := Lib.hid (scolumn_any q w)
  have HWI := Lib.hid (fun w' => wider_any q kk w')
  have HE := Lib.hid (fun w' (h : Below w.heap.size w w') => show w'.cell? ⟨g1, 0, none⟩ = some (.int .i64 q) ∧ w'.cell? ⟨g, k * 3 + 2, none⟩ = some (.int .i64 kk) ∧ w'.frozen? ⟨g, k * 3 + 2, none⟩ = false from
    ⟨(h.cell (p := ⟨g1, 0, none⟩) y1).trans e1, (h.cell (p := ⟨g, k * 3 + 2, none⟩) yg).trans c2, by have := hfr (k * 3 + 2); unfold World.frozen? at this ⊢; rw [h.block _ yg]; exact this⟩)
  have HWC := Lib.hid (show wc (n, s.data.toList, q) = (wc (n, s.data.toList, kk)).set 2 (.int .i64 q) from rfl)
  obtain ⟨r, hr⟩ : ∃ r, widQ q (n, s.data.toList, kk) = r := ⟨_, rfl⟩
  dsimp only
  rw [hr]
  unfold widQ at hr
  dsimp only at hr
  obtain ⟨cb, hcb⟩ : ∃ b, columnB q = b := ⟨_, rfl⟩
  obtain ⟨wb, hwb⟩ : ∃ z, widerB q kk = z := ⟨_, rfl⟩
  rw [hcb, hwb] at hr
  rw [hcb] at HC
  rw [hwb] at HWI
  have HR := Lib.hid hr
  clear hr hcb hwb hb h1 z1 c0 c1 c2 hfr
  go_enter Tryd.func47, Tryd.ntmps47
  go_wp2_with fail
  refine HC.out.mono ?_
  rintro e w1 ⟨rfl, hb1⟩
  have L1 := Lib.hid hb1
  clear hb1 HC e1
  cases cb
  · have hr : r = 1 := by rw [← HR.out]; rfl
    subst hr
    go_wp2
    go_ret
    exact ⟨rfl, w1, L1.out, fun _ => rfl, fun h => absurd h (by decide)⟩
  obtain ⟨e1, c2, f2⟩ := HE.out _ L1.out
  have zz1 := L1.out.size
  have za : g < w1.heap.size := by omega
  have zb : g1 < w1.heap.size := by omega
  go_wp2_with fail
  go_region_held3 (fun w' => (w'.cell? ⟨g1, 0, none⟩ = some (.int .i64 q) ∧ w'.cell? ⟨g, k * 3 + 2, none⟩ = some (.int .i64 kk)) ∧ Below w1.heap.size w1 w')
    (first | assumption | (exact ⟨⟨e1, c2⟩, Below.drew (Below.refl _ _)⟩))
    (first | (go_at_call 49; refine (HWI.out _).mono ?_; rintro e w5 ⟨rfl, rfl⟩))
  all_goals
    have M1 := Lib.hid (show Below w1.heap.size w1 _ by rename_i hS; exact hS.2)
    have L2 := Lib.hid (L1.out.trans (M1.out.mono L1.out.size))
    clear e1 c2 f2
    obtain ⟨e1, c2, f2⟩ := HE.out _ L2.out
    cases wb
    · have hr : r = 12 := by rw [← HR.out]; rfl
      subst hr
      go_wp2
      go_ret
      exact ⟨rfl, _, L2.out, fun _ => rfl, fun h => absurd h (by decide)⟩
    · have hr : r = 0 := by rw [← HR.out]; rfl
      subst hr
      go_wp2
      go_ret
      exact ⟨rfl, _, L2.out, fun h => absurd rfl h, fun _ => ⟨2, .int .i64 q, by decide, rfl, HWC.out⟩⟩
set_option maxHeartbeats 4000000 in
set_option maxRecDepth 100000 in
theorem swiden_any (A : Option Addr) (cap : Nat) (l : List W) (s : ByteArray) (t : Int) (w : World) (hv : At wc 3 w w.heap.size A l) (hl : l.length ≤ 4194304) :
    Calls Tryd.prog 27 #[.slice A l.length cap, .string s, .int .i64 t] w (SColsPost w (widenC l s.data.toList t)) := by
  rw [widen_with]
  have HB := Lib.hid (below_alloc w (.cells #[.int .i64 t] 39))
  have c0 : (w.alloc (.cells #[.int .i64 t] 39)).cell? ⟨w.heap.size, 0, none⟩ = some (.int .i64 t) := by simp
  have HF := Lib.hid (with_any 47 (enters_of Tryd.func47 (by kernel_rfl) rfl) #[.pointer (some ⟨w.heap.size, 0, none⟩)] (widQ t) (fun c => (c.1, c.2.1, t)) A cap l s _
    ((hv.below HB.out).more HB.out.size) hl (widSet_any t w.heap.size _ c0 (by simp)))
  obtain ⟨R, hR⟩ : ∃ R, withC (widQ t) (fun c => (c.1, c.2.1, t)) l s.data.toList = R := ⟨_, rfl⟩
  rw [hR] at HF ⊢
  unfold SColsPost at HF
  clear hv hR c0
  go_enter Tryd.func27, Tryd.ntmps27
  go_wp2_with fail
  refine HF.out.mono ?_
  rintro e w1 ⟨A', cap', rfl, h1, h2, h3⟩
  have H2 := Lib.hid h2
  have L1 := Lib.hid (HB.out.trans (h3.mono HB.out.size))
  clear h2 h3
  go_wp2
  go_ret2
  exact ⟨A', cap', rfl, h1, H2.out, L1.out⟩
end Go.Proofs.YtajnnkclonjcoaaDoor.Code
/-
  The program's Add of columns.
-/
namespace Go.Proofs.YtajnnkclonjcoaaDoor.Code
open Go.ChangeShapes Go.WideShapes Go.ChangeAt Go.RowKit Val Elems
set_option linter.unusedVariables false
set_option linter.unusedSimpArgs false
theorem own_base {w : World} {B B' : Nat} {e : TypeId} {k : Nat} {v : Value} {n : Nat} {xs : List Value} (h : w.ownsRow B e k v n xs) (hb : B' ≤ B) : w.ownsRow B' e k v n xs := by
  refine ⟨h.1, ?_⟩
  rcases h.2 with hn | ⟨g, cap, cur, hv, hg, rest⟩
  · exact .inl hn
  · exact .inr ⟨g, cap, cur, hv, Nat.le_trans hb hg, rest⟩
theorem new_col (w : World) (n k : Int) (s : ByteArray) (j : Nat) (u : Value) (hu : (wc (n, s.data.toList, k))[j]? = some u) : (w.alloc (.cells #[.int .i64 n, .string s, .int .i64 k] 41)).cell? ⟨w.heap.size, j, none⟩ = some u := by
  have h := World.news_of_block (cs := #[.int .i64 n, .string s, .int .i64 k]) (t := 41) (fr := (0, 0)) (heap_alloc_new w _) j u (by simpa [wc, Lib.mk_data] using hu)
  rwa [Addr.add_lit, Nat.zero_add] at h
theorem new_drew (w : World) (n k : Int) (s : ByteArray) (j : Nat) (u : Value) (hu : (wc (n, s.data.toList, k))[j]? = some u) : (w.alloc (.cells #[.int .i64 n, .string s, .int .i64 k] 41)).drew.cell? ⟨w.heap.size, j, none⟩ = some u := new_col w n k s j u hu
/-- a column behind a row of the call's own, as a step of a region that draws -/
theorem step_addcol {ops : Array Oper} {o : Oper} {a : Act} {w : World} {K : Act → World → Prop} {Q : Exit → Act → World → Prop} {E : Prop} (hgd : o.guard = none) (s x : Operand)
    (ho : o.op = .call { callee := .builtin .append, args := #[s, x], argTypes := #[25, 25] }) (v : Value) (l : List W) (B : Nat) (c : W) (g : Nat) (hs : a.eval s = v) (hx : a.eval x = .slice (some ⟨g, 0, none⟩) 1 1)
    (hown : w.ownsRow B 41 3 v l.length (flatC wc l)) (hc : ∀ (j : Nat) (u : Value), (wc c)[j]? = some u → w.cell? ⟨g, j, none⟩ = some u) (hl : l.length ≤ 4194303) (hB : B ≤ w.heap.size)
    (h : ∀ v' w', w'.ownsRow B 41 3 v' (l ++ [c]).length (flatC wc (l ++ [c])) → w.grownBy w' v.ownBlock → K (a.put o.dst v') w') :
    if Region.wanted o (yielded ops a.tmps) = true then Oper.wp Tryd.prog o a w K Q else E := by
  obtain ⟨i0, hi0, hz0, hz1, hz2⟩ := info_parts info_col
  refine step_append_lies w hgd s x 25 ho B 41 i0 _ 3 32 Tryd.underlying25 hi0 hz0 hz1 hz2 rfl (by decide) v l.length (flatC wc l) hs hown ⟨g, 0, none⟩ 1 1 (wc c) hx rfl (fun j u hu => by rw [Addr.add_lit, Nat.zero_add]; exact hc j u hu) (wc_one _) (by decide) (by unfold maxLen; omega) (by omega) hB _ rfl ?_
  intro gg cap9 w9 hown9 hgrow9 _ _
  refine h _ w9 ?_ hgrow9
  rw [flatC_snoc, List.length_append]
  exact hown9
set_option maxHeartbeats 4000000 in
set_option maxRecDepth 100000 in
theorem sadd_any (A : Option Addr) (cap : Nat) (l : List W) (n k : Int) (s : ByteArray) (m : Int) (w : World) (hv : At wc 3 w w.heap.size A l) (hl : l.length ≤ 4194303) (hs : s.size ≤ 1000) (hg : MGlob m w) :
    Calls Tryd.prog 21 #[.slice A l.length cap, .agg #[.int .i64 n, .string s, .int .i64 k]] w (SColsPost w (addC l (n, s.data.toList, k))) := by
  obtain ⟨w0, hw0⟩ : ∃ w0, w.alloc (.cells #[.int .i64 n, .string s, .int .i64 k] 41) = w0 := ⟨_, rfl⟩
  have HB := Lib.hid (show Below w.heap.size w w0 by rw [← hw0]; exact below_alloc w _)
  have hlt : w.heap.size < w0.heap.size := by rw [← hw0]; simp
  have c0 : w0.cell? ⟨w.heap.size, 0, none⟩ = some (.int .i64 n) := by rw [← hw0]; simp
  have c1 : w0.cell? ⟨w.heap.size, 1, none⟩ = some (.string s) := by rw [← hw0]; simp
  have c2 : w0.cell? ⟨w.heap.size, 2, none⟩ = some (.int .i64 k) := by rw [← hw0]; simp
  have HE := Lib.hid (fun (w' : World) (h : Below w0.heap.size w0 w') => show w'.cell? ⟨w.heap.size, 0, none⟩ = some (.int .i64 n) ∧ w'.cell? ⟨w.heap.size, 1, none⟩ = some (.string s) ∧ w'.cell? ⟨w.heap.size, 2, none⟩ = some (.int .i64 k) from
    ⟨(h.cell (p := ⟨w.heap.size, 0, none⟩) hlt).trans c0, (h.cell (p := ⟨w.heap.size, 1, none⟩) hlt).trans c1, (h.cell (p := ⟨w.heap.size, 2, none⟩) hlt).trans c2⟩)
  have V0 := Lib.hid (fun w' (h : Below w0.heap.size w0 w') => show At wc 3 w' w'.heap.size A l from ((((hv.below HB.out).more HB.out.size).below h).more h.size))
  have HF := Lib.hid (refuses_any A cap l n k s m w0 (V0.out _ (Below.refl _ _)) (by omega) hs (hg.next HB.out))
  obtain ⟨R, hR⟩ : ∃ R, addC l (n, s.data.toList, k) = R := ⟨_, rfl⟩
  rw [hR]
  rw [addC_ref] at hR
  obtain ⟨r, hr⟩ : ∃ r, refC l (n, s.data.toList, k) = r := ⟨_, rfl⟩
  rw [hr] at hR HF
  have HR := Lib.hid hR
  have HW0 := Lib.hid hw0
  obtain ⟨i0, hi0, hz0, hz1, hz2⟩ := info_parts info_col
  clear hv hg hR hr hw0
  go_enter Tryd.func21, Tryd.ntmps21
  go_upto_region 1 with fail
  rw [HW0.out]
  go_wp2_with fail
  refine HF.out.mono ?_
  rintro e w1 ⟨rfl, hb⟩
  have D1 := Lib.hid hb
  clear hb HF c0 c1 c2
  obtain ⟨c0, c1, c2⟩ := HE.out _ D1.out
  have z1 : w0.heap.size ≤ w1.heap.size := D1.out.size
  by_cases hr0 : r = 0
  case neg =>
    have hr : R = ([], r) := by rw [← HR.out, if_neg hr0]
    have e5 : (r != 0) = true := by simpa using hr0
    subst hr
    clear hr0
    go_wp2
    go_ret2
    exact SColsPost.no _ (HB.out.trans (D1.out.mono HB.out.size))
  have hr : R = (l ++ [(n, s.data.toList, k)], 0) := by rw [← HR.out, if_pos hr0]
  subst hr0 hr
  have HC := Lib.hid (fun w' (h : Below w1.heap.size w1 w') => cclone_any A cap l w' (V0.out _ (D1.out.trans (h.mono z1))) (by omega))
  have L1 := Lib.hid (HB.out.trans (D1.out.mono HB.out.size))
  go_wp2_with fail
  have zz : w1.heap.size < (w1.alloc (.cells #[.int .i64 n, .string s, .int .i64 k] 41)).drew.heap.size := show w1.heap.size < (w1.alloc (.cells #[.int .i64 n, .string s, .int .i64 k] 41)).heap.size by simp
  have ZZ := Lib.hid zz
  clear zz
  have HB2 := Lib.hid (HC.out (w1.alloc (.cells #[.int .i64 n, .string s, .int .i64 k] 41)).drew (Below.drew (below_alloc w1 _)))
  go_region_law? (first
      | (go_simp; refine (HC.out w1.drew (Below.drew (Below.refl _ _))).mono ?_; rintro e w5 ⟨v5, rfl, ho5, hb5⟩; have B5 := Lib.hid (show Below w1.heap.size w1 w5 from (Below.drew (Below.refl w1.heap.size w1)).trans (hb5.mono (Nat.le_refl _))); have O5 := Lib.hid (own_base (B' := w1.heap.size) ho5 (Nat.le_refl _)); have z5 : w1.heap.size ≤ w5.heap.size := B5.out.size; obtain ⟨d0, d1, d2⟩ := HE.out w5 (D1.out.trans (B5.out.mono z1)); clear ho5 hb5)
      | (go_simp; refine (HB2.out).mono ?_; rintro e w5 ⟨v5, rfl, ho5, hb5⟩; have P5 := Lib.hid (fun (j : Nat) (u : Value) (hu : (wc (n, s.data.toList, k))[j]? = some u) => show w5.cell? ⟨w1.heap.size, j, none⟩ = some u from (hb5.cell (p := ⟨w1.heap.size, j, none⟩) ZZ.out).trans (new_drew w1 n k s j u hu)); have B5 := Lib.hid (show Below w1.heap.size w1 w5 from (Below.drew (below_alloc w1 _)).trans (hb5.mono (Nat.le_of_lt ZZ.out))); have O5 := Lib.hid (own_base (B' := w1.heap.size) ho5 (Nat.le_of_lt ZZ.out)); have z5 : w1.heap.size ≤ w5.heap.size := B5.out.size; have z6 : w1.heap.size < w5.heap.size := Nat.lt_of_lt_of_le ZZ.out hb5.size; clear ho5 hb5)
      | (refine step_addcol (by rfl) _ _ (by rfl) v5 l w1.heap.size (n, s.data.toList, k) w5.heap.size (by rfl) (by rfl) (O5.out.alloc _) (fun j u hu => new_col w5 n k s j u hu) (by omega) (by simp; omega) ?_; intro v9 w9 hown9 hgrow9; have G9 := Lib.hid (B5.out.alloc z5 (.cells #[.int .i64 n, .string s, .int .i64 k] 41) |>.grown hgrow9 (by simp; omega) (fun j hj => (O5.out.lt j hj).1)))
      | (refine step_addcol (by rfl) _ _ (by rfl) v5 l w1.heap.size (n, s.data.toList, k) w1.heap.size (by rfl) (by rfl) O5.out (fun j u hu => P5.out j u hu) (by omega) (by omega) ?_; intro v9 w9 hown9 hgrow9; have G9 := Lib.hid (B5.out.grown hgrow9 (by omega) (fun j hj => (O5.out.lt j hj).1))))
  all_goals
    obtain ⟨A', cap', rfl, hv'⟩ := own_at wc_length hown9
    have hroom := own_room hown9
    have HV' := Lib.hid hv'
    clear hv' hown9 hgrow9
    go_wp2
    go_ret2
    exact ⟨A', cap', rfl, hroom, HV'.out, L1.out.trans (G9.out.mono L1.out.size)⟩
end Go.Proofs.YtajnnkclonjcoaaDoor.Code
/-
  Contracts of the document's Figures below 0, and of its Show of one value.
-/
namespace Go.Proofs.YtajnnkclonjcoaaDoor.Code
open Go.ChangeShapes Go.WideShapes Go.ChangeAt Go.RowKit Val
set_option linter.unusedVariables false

end Go.Proofs.YtajnnkclonjcoaaDoor.Code
/-
  A block of texts that the call made (cut out of RowShow). No function of the program is named here.
-/
namespace Go.Proofs.YtajnnkclonjcoaaDoor.Code
open Go.ChangeShapes Go.WideShapes Go.ChangeAt Go.RowKit Val
set_option linter.unusedVariables false
/-- a block of texts, made by the call -/
def SBlk (w : World) (g : Nat) (D : List ByteArray) : Prop := w.heap[g]? = some (.cells (D.map Value.string).toArray 9 (0, 0))
theorem SBlk.lt {w : World} {g : Nat} {D : List ByteArray} (h : SBlk w g D) : g < w.heap.size := (Array.getElem?_eq_some_iff.1 h).1
theorem SBlk.call {w w' : World} {g : Nat} {D : List ByteArray} (h : SBlk w g D) (hb : Below w.heap.size w w') : SBlk w' g D := (hb.block g h.lt).trans h
theorem SBlk.cell {w : World} {g : Nat} {D : List ByteArray} (h : SBlk w g D) (j : Nat) (x : ByteArray) (hx : D[j]? = some x) : w.cell? ⟨g, j, none⟩ = some (.string x) := by
  unfold SBlk at h
  simp [World.cell?, h, hx]
theorem SBlk.free {w : World} {g : Nat} {D : List ByteArray} (h : SBlk w g D) (j : Nat) : w.frozen? ⟨g, j, none⟩ = false := by
  unfold SBlk at h
  simp [World.frozen?, h]
theorem SBlk.set {w : World} {g : Nat} {D : List ByteArray} (h : SBlk w g D) (k : Nat) (x : ByteArray) : SBlk (w.setCell ⟨g, k, none⟩ (.string x)) g (D.set k x) := by
  unfold SBlk at *
  rw [setCell_eq_setRow w g _ _ _ _ _ h, setRow_heap w g _ _ _ _ h, List.map_set]
  simp
theorem info_str : (Tryd.prog.info? 9).map (fun i => (i.zero, i.size, i.bytes)) = some (some (.string ByteArray.empty), 1, 16) := by kernel_rfl
theorem made_strs (n : Nat) : madeCells #[Value.string ByteArray.empty] (n * 1) = Array.replicate n (Value.string ByteArray.empty) := by
  apply Array.toList_inj.1
  rw [toList_madeCells_one, Nat.mul_one]
  simp
theorem SBlk.fresh (w : World) (n : Nat) : SBlk (w.alloc (.cells (Array.replicate n (Value.string ByteArray.empty)) 9)) w.heap.size (List.replicate n ByteArray.empty) := by
  unfold SBlk
  rw [heap_alloc_new]
  simp
theorem wpList_make_strs {P : Program} (w : World) {ops : Array Oper} {rest : List Oper} {o : Oper} {a : Act} {Q : Exit → Act → World → Prop}
    (hg : o.guard = none) (l c : Operand) (t : TypeId) (hop : o.op = Op.makeSlice t l c) (e : TypeId) (i : TypeInfo) (h1 : P.underlying t = some (.slice e)) (h2 : P.info? e = some i)
    (h3 : i.zero = some (.string ByteArray.empty)) (h4 : i.size = 1) (h5 : i.bytes = 16)
    (kl kc : IntKind) (L C : Int) (n : Nat) (hl : a.eval l = .int kl L) (hc : a.eval c = .int kc C) (hL : L = (n : Int)) (hC : C = (n : Int)) (b : n ≤ 8796093022208)
    (hK : wpList P ops Q rest (a.put o.dst (.slice (some ⟨w.heap.size, 0, none⟩) n n)) (w.alloc (.cells (Array.replicate n (Value.string ByteArray.empty)) e))) :
    wpList P ops Q (o :: rest) a w := by
  refine wpList_plain hg fun K hK' => ?_
  have hr := run_make (P := P) w t e i _ h1 h2 h3 kl kc n n (by omega) (Int.le_refl _) (by rw [h5]; omega) (by omega)
  rw [Int.toNat_natCast, h4, show (Value.string ByteArray.empty).cells = #[Value.string ByteArray.empty] by rfl, made_strs] at hr
  subst hL
  subst hC
  unfold Oper.wp
  simp [execOp, hop, hl, hc, hr, Result.andThen]
  exact hK' _ _ hK
theorem sfill_set (X : List ByteArray) (n : Nat) (hn : 0 < n) (v : ByteArray) : (X ++ List.replicate n ByteArray.empty).set X.length v = (X ++ [v]) ++ List.replicate (n - 1) ByteArray.empty := by
  obtain ⟨m, rfl⟩ : ∃ m, n = m + 1 := ⟨n - 1, by omega⟩
  rw [List.set_append_right _ _ (Nat.le_refl _), Nat.sub_self, List.replicate_succ, List.set_cons_zero, Nat.add_sub_cancel, List.append_assoc]
  rfl
end Go.Proofs.YtajnnkclonjcoaaDoor.Code
