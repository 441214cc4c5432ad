/-
  Contracts of the document's Same and Compare over lists of values (cut out of CodeVals and CodeRef).
-/
import Derived.Test.YtjjikooabmddlaaGreatDoorM3
namespace Go.Proofs.YtjjikooabmddlaaGreatDoor.Code
open Go.ChangeShapes Go.WideShapes Go.ChangeAt Go.RowKit Val
set_option linter.unusedVariables false

set_option maxHeartbeats 2000000 in
theorem same_any (A B : Option Addr) (ca cb : Nat) (a b : List (Int × Int × ByteArray)) (w : World) (hA : Vals w w.heap.size A a) (hB : Vals w w.heap.size B b) (hl : a.length ≤ 140737488355328) (hl2 : b.length ≤ 140737488355328) :
    Calls Tryz.prog 48 #[.slice A a.length ca, .slice B b.length cb] w fun e w' => e = .returned (.bool (decide (a = b))) ∧ Below w.heap.size w w' := by
  have HA := Lib.hid hA
  have HB := Lib.hid hB
  clear hA hB
  by_cases hlen : a.length = b.length
  · have el : ((a.length : Int) == (b.length : Int)) = true := by rw [hlen]; simp
    have HLEN := Lib.hid hlen
    have hlenA : a.length ≤ b.length := by omega
    have hlenB : b.length ≤ a.length := by omega
    clear hlen
    go_enter Tryz.func48, Tryz.ntmps48
    go_wp2
    go_loopw [5] (fun i wr => ∃ k : Nat, k ≤ a.length ∧ i = .int .i64 k ∧ Hid (a.take k = b.take k) ∧ Below w.heap.size w wr) (fun i _ => a.length - (intOf i).toNat)
    case atStart => exact ⟨0, by omega, rfl, Lib.hid rfl, Below.refl _ _⟩
    case round =>
      obtain ⟨k, hk, rfl, HK, hbel⟩ := hrel
      have HL := Lib.hid hbel
      have VA := Lib.hid (HA.out.below hbel)
      have VB := Lib.hid (HB.out.below hbel)
      clear hbel
      by_cases hlt : k < a.length
      · have hlt2 : k < b.length := by omega
        obtain ⟨ad, rfl, hb, c0, c1, c2⟩ := VA.out k hlt
        obtain ⟨bd, rfl, hb', d0, d1, d2⟩ := VB.out k hlt2
        obtain ⟨x, hx⟩ : ∃ x, a[k] = x := ⟨_, rfl⟩
        obtain ⟨y, hy⟩ : ∃ y, b[k] = y := ⟨_, rfl⟩
        rw [hx] at c0 c1 c2
        rw [hy] at d0 d1 d2
        have HX := Lib.hid hx
        have HY := Lib.hid hy
        clear hx hy
        obtain ⟨k1, n1, s1⟩ := x
        obtain ⟨k2, n2, s2⟩ := y
        simp only at c0 c1 c2 d0 d1 d2
        by_cases e0 : k1 = k2
        · subst e0
          by_cases e1 : n1 = n2
          · subst e1
            by_cases e2 : s1 = s2
            · subst e2
              have HS := Lib.hid (show a.take (k + 1) = b.take (k + 1) by rw [take_snoc a k hlt, take_snoc b k hlt2, HK.out, HX.out, HY.out])
              go_wp2
              go_quiet (fail)
              go_wp2
              go_roundw
              case rel => exact ⟨k + 1, by omega, by go_num, HS, drewN_below HL.out _⟩
              case measure => simp [intOf]; omega
            · have f2 := toList_ne e2
              have HD := Lib.hid (show ¬ a = b by intro h; subst h; have h2 := HX.out.symm.trans HY.out; simp at h2; exact e2 h2)
              clear e2
              go_wp2
              go_quiet (fail)
              go_wp2
              go_ret
              exact ⟨retB (decide_eq_false HD.out).symm, drewN_below HL.out _⟩
          · have f1 : (n1 == n2) = false := by simpa using e1
            have HD := Lib.hid (show ¬ a = b by intro h; subst h; have h2 := HX.out.symm.trans HY.out; simp at h2; exact e1 h2.1)
            clear e1
            go_wp2
            go_quiet (fail)
            go_wp2
            go_ret
            exact ⟨retB (decide_eq_false HD.out).symm, drewN_below HL.out _⟩
        · have f0 : (k1 == k2) = false := by simpa using e0
          have HD := Lib.hid (show ¬ a = b by intro h; subst h; have h2 := HX.out.symm.trans HY.out; simp at h2; exact e0 h2.1)
          clear e0
          go_wp2
          go_quiet (fail)
          go_wp2
          go_ret
          exact ⟨retB (decide_eq_false HD.out).symm, drewN_below HL.out _⟩
      · have HS := Lib.hid (show a = b by have h := HK.out; rw [List.take_of_length_le (by omega), List.take_of_length_le (by omega)] at h; exact h)
        go_wp2
        go_ret
        exact ⟨retB (decide_eq_true HS.out).symm, HL.out⟩
  · have el : ((a.length : Int) == (b.length : Int)) = false := by simp; omega
    have HS := Lib.hid (show ¬ a = b by intro h; subst h; exact hlen rfl)
    clear hlen
    go_enter Tryz.func48, Tryz.ntmps48
    go_wp2
    go_ret
    exact ⟨retB (decide_eq_false HS.out).symm, Below.refl _ _⟩

theorem less_toList (s t : ByteArray) : Op.bytesLess s.toList t.toList = decide (Lib.compareBytes s.data.toList t.data.toList < 0) := by
  rw [ByteArray.toList_eq, ByteArray.toList_eq]
  exact less_cmp _ _
set_option maxHeartbeats 1000000 in
theorem rcompare_any (k n : Int) (s : ByteArray) (k' n' : Int) (s' : ByteArray) (w : World) :
    Calls Tryz.prog 91 #[.agg #[.int .i64 k, .int .i64 n, .string s], .agg #[.int .i64 k', .int .i64 n', .string s']] w fun e w' => e = .returned (.int .i64 (cmpV k n s k' n' s')) ∧ Below w.heap.size w w' := by
  by_cases h1 : k < k'
  · have e0 : (k == k') = false := by simp; omega
    have HC := Lib.hid (show cmpV k n s k' n' s' = -1 by unfold cmpV orI cmpI; simp [h1])
    go_enter Tryz.func91, Tryz.ntmps91
    go_wp2
    go_ret
    exact ⟨ret1 HC.out.symm, below2 _ _ _⟩
  by_cases h2 : k' < k
  · have e0 : (k == k') = false := by simp; omega
    have HC := Lib.hid (show cmpV k n s k' n' s' = 1 by unfold cmpV orI cmpI; simp [h1, h2])
    go_enter Tryz.func91, Tryz.ntmps91
    go_wp2
    go_ret
    exact ⟨ret1 HC.out.symm, below2 _ _ _⟩
  obtain rfl : k = k' := by omega
  have hk : cmpI k k = 0 := by unfold cmpI; simp
  clear h1 h2
  by_cases h1 : n < n'
  · have e0 : (n == n') = false := by simp; omega
    have HC := Lib.hid (show cmpV k n s k n' s' = -1 by unfold cmpV; rw [hk]; unfold orI cmpI; simp [h1])
    clear hk
    go_enter Tryz.func91, Tryz.ntmps91
    go_wp2
    go_ret
    exact ⟨ret1 HC.out.symm, below2 _ _ _⟩
  by_cases h2 : n' < n
  · have e0 : (n == n') = false := by simp; omega
    have HC := Lib.hid (show cmpV k n s k n' s' = 1 by unfold cmpV; rw [hk]; unfold orI cmpI; simp [h1, h2])
    clear hk
    go_enter Tryz.func91, Tryz.ntmps91
    go_wp2
    go_ret
    exact ⟨ret1 HC.out.symm, below2 _ _ _⟩
  obtain rfl : n = n' := by omega
  have hn : cmpI n n = 0 := by unfold cmpI; simp
  clear h1 h2
  have hc : cmpV k n s k n s' = Lib.compareBytes s.data.toList s'.data.toList := by unfold cmpV; rw [hk, hn]; unfold orI; simp
  clear hk hn
  by_cases e : s = s'
  · subst e
    have HC := Lib.hid (hc.trans (cb_self _))
    clear hc
    go_enter Tryz.func91, Tryz.ntmps91
    go_wp2
    go_ret
    exact ⟨ret1 HC.out.symm, below2 _ _ _⟩
  have e2 := toList_ne e
  have hl := less_toList s s'
  have hz : Lib.compareBytes s.data.toList s'.data.toList ≠ 0 := by
    intro h
    have := cb_zero h
    apply e
    obtain ⟨⟨a⟩⟩ := s
    obtain ⟨⟨b⟩⟩ := s'
    simp at this
    rw [this]
  have hr := cb_range s.data.toList s'.data.toList
  by_cases h1 : Lib.compareBytes s.data.toList s'.data.toList < 0
  · rw [decide_eq_true h1] at hl
    have HC := Lib.hid (show cmpV k n s k n s' = -1 by rw [hc]; omega)
    clear hc hz hr h1 e
    go_enter Tryz.func91, Tryz.ntmps91
    go_wp2
    go_ret
    exact ⟨ret1 HC.out.symm, below2 _ _ _⟩
  · rw [decide_eq_false h1] at hl
    have HC := Lib.hid (show cmpV k n s k n s' = 1 by rw [hc]; omega)
    clear hc hz hr h1 e
    go_enter Tryz.func91, Tryz.ntmps91
    go_wp2
    go_ret
    exact ⟨ret1 HC.out.symm, below2 _ _ _⟩


theorem rcompare_is (k n : Int) (s : ByteArray) (k' n' : Int) (s' : ByteArray) (x : Int) (h : cmpV k n s k' n' s' = x) (w : World) :
    Calls Tryz.prog 91 #[.agg #[.int .i64 k, .int .i64 n, .string s], .agg #[.int .i64 k', .int .i64 n', .string s']] w fun e w' => e = .returned (.int .i64 x) ∧ Below w.heap.size w w' := by
  have := rcompare_any k n s k' n' s' w
  rw [h] at this
  exact this
theorem cmpL_at (a b : List (Int × Int × ByteArray)) (k : Nat) (h : k < a.length) (g : k < b.length) :
    cmpL (a.drop k) (b.drop k) = if cmpV a[k].1 a[k].2.1 a[k].2.2 b[k].1 b[k].2.1 b[k].2.2 ≠ 0 then cmpV a[k].1 a[k].2.1 a[k].2.2 b[k].1 b[k].2.1 b[k].2.2 else cmpL (a.drop (k + 1)) (b.drop (k + 1)) := by
  rw [List.drop_eq_getElem_cons h, List.drop_eq_getElem_cons g, cmpL]
theorem cmpL_left (a b : List (Int × Int × ByteArray)) (k : Nat) (h : a.length = k) (g : k < b.length) : cmpL (a.drop k) (b.drop k) = -1 := by
  rw [List.drop_eq_getElem_cons g, List.drop_of_length_le (by omega), cmpL]
theorem cmpL_right (a b : List (Int × Int × ByteArray)) (k : Nat) (h : b.length = k) (g : k < a.length) : cmpL (a.drop k) (b.drop k) = 1 := by
  rw [List.drop_eq_getElem_cons g, List.drop_of_length_le (l := b) (by omega), cmpL]
theorem cmpL_none (a b : List (Int × Int × ByteArray)) (k : Nat) (h : a.length = k) (g : b.length = k) : cmpL (a.drop k) (b.drop k) = 0 := by
  rw [List.drop_of_length_le (by omega), List.drop_of_length_le (l := b) (by omega), cmpL]
set_option maxHeartbeats 4000000 in
theorem rcmpl_any (A B : Option Addr) (ca cb : Nat) (a b : List (Int × Int × ByteArray)) (w : World) (hA : Vals w w.heap.size A a) (hB : Vals w w.heap.size B b) (hl : a.length ≤ 140737488355328) (hl2 : b.length ≤ 140737488355328) :
    Calls Tryz.prog 71 #[.slice A a.length ca, .slice B b.length cb] w fun e w' => e = .returned (.int .i64 (cmpL a b)) ∧ Below w.heap.size w w' := by
  have HA := Lib.hid hA
  have HB := Lib.hid hB
  clear hA hB
  go_enter Tryz.func71, Tryz.ntmps71
  go_wp2
  go_loopw [5] (fun i wr => ∃ k : Nat, k ≤ a.length ∧ k ≤ b.length ∧ i = .int .i64 k ∧ Hid (cmpL a b = cmpL (a.drop k) (b.drop k)) ∧ Below w.heap.size w wr) (fun i _ => a.length - (intOf i).toNat)
  case atStart => exact ⟨0, by omega, by omega, rfl, Lib.hid rfl, Below.refl _ _⟩
  case round =>
    obtain ⟨k, hk, hk2, rfl, HK, hbel⟩ := hrel
    have hsz := hbel.size
    have HL := Lib.hid hbel
    have VA := Lib.hid (HA.out.below hbel)
    have VB := Lib.hid (HB.out.below hbel)
    clear hbel
    by_cases hlt : k < a.length
    · by_cases hlt2 : k < b.length
      · obtain ⟨ad, rfl, ha, c0, c1, c2⟩ := VA.out k hlt
        obtain ⟨bd, rfl, hb, d0, d1, d2⟩ := VB.out k hlt2
        have HC := Lib.hid (cmpL_at a b k hlt hlt2)
        have hr := cmpV_range a[k].1 a[k].2.1 a[k].2.2 b[k].1 b[k].2.1 b[k].2.2
        have za : (ad.add (k * 3)).block < wr.heap.size := by rw [add_block]; omega
        have zb : (bd.add (k * 3)).block < wr.heap.size := by rw [add_block]; omega
        obtain ⟨p, hp⟩ : ∃ p, ad.add (k * 3) = p := ⟨_, rfl⟩
        obtain ⟨q, hq⟩ : ∃ q, bd.add (k * 3) = q := ⟨_, rfl⟩
        rcases hr with hr | hr | hr
        · have HR := Lib.hid hr
          rw [hr] at HC
          clear hr
          go_wp2_with fail
          rw [hp] at c0 c1 c2 za
          rw [hq] at d0 d1 d2 zb
          go_region_held3 (fun w' => (w'.cell? p = some (.int .i64 a[k].1) ∧ w'.cell? ⟨p.block, p.off + 1, none⟩ = some (.int .i64 a[k].2.1) ∧ w'.cell? ⟨p.block, p.off + 2, none⟩ = some (.string a[k].2.2) ∧ w'.cell? q = some (.int .i64 b[k].1) ∧ w'.cell? ⟨q.block, q.off + 1, none⟩ = some (.int .i64 b[k].2.1) ∧ w'.cell? ⟨q.block, q.off + 2, none⟩ = some (.string b[k].2.2)) ∧ Below wr.heap.size wr w')
            (first | assumption | (refine keepP hb5 (by assumption) ?_; intro kk; exact ⟨(kk p za).trans c0, (kk ⟨p.block, p.off + 1, none⟩ za).trans c1, (kk ⟨p.block, p.off + 2, none⟩ za).trans c2, (kk q zb).trans d0, (kk ⟨q.block, q.off + 1, none⟩ zb).trans d1, (kk ⟨q.block, q.off + 2, none⟩ zb).trans d2⟩) | (exact ⟨⟨c0, c1, c2, d0, d1, d2⟩, Below.drew (Below.refl _ _)⟩))
            (first | (go_at_call 91; refine (rcompare_is _ _ _ _ _ _ _ HR.out _).mono ?_; rintro e w5 ⟨rfl, hb5⟩))
          all_goals
            have M := Lib.hid (show Below wr.heap.size wr _ by rename_i hS; exact hS.2)
            go_wp2
            go_ret
            exact ⟨ret1 (by rw [HK.out, HC.out]; rfl), bnext HL.out hsz M.out⟩
        · have HR := Lib.hid hr
          rw [hr] at HC
          clear hr
          go_wp2_with fail
          rw [hp] at c0 c1 c2 za
          rw [hq] at d0 d1 d2 zb
          go_region_held3 (fun w' => (w'.cell? p = some (.int .i64 a[k].1) ∧ w'.cell? ⟨p.block, p.off + 1, none⟩ = some (.int .i64 a[k].2.1) ∧ w'.cell? ⟨p.block, p.off + 2, none⟩ = some (.string a[k].2.2) ∧ w'.cell? q = some (.int .i64 b[k].1) ∧ w'.cell? ⟨q.block, q.off + 1, none⟩ = some (.int .i64 b[k].2.1) ∧ w'.cell? ⟨q.block, q.off + 2, none⟩ = some (.string b[k].2.2)) ∧ Below wr.heap.size wr w')
            (first | assumption | (refine keepP hb5 (by assumption) ?_; intro kk; exact ⟨(kk p za).trans c0, (kk ⟨p.block, p.off + 1, none⟩ za).trans c1, (kk ⟨p.block, p.off + 2, none⟩ za).trans c2, (kk q zb).trans d0, (kk ⟨q.block, q.off + 1, none⟩ zb).trans d1, (kk ⟨q.block, q.off + 2, none⟩ zb).trans d2⟩) | (exact ⟨⟨c0, c1, c2, d0, d1, d2⟩, Below.drew (Below.refl _ _)⟩))
            (first | (go_at_call 91; refine (rcompare_is _ _ _ _ _ _ _ HR.out _).mono ?_; rintro e w5 ⟨rfl, hb5⟩))
          all_goals
            have M := Lib.hid (show Below wr.heap.size wr _ by rename_i hS; exact hS.2)
            go_wp2
            go_roundw
            case rel => exact ⟨k + 1, by omega, by omega, by go_num, Lib.hid (HK.out.trans (HC.out.trans (if_neg (by simp)))), bnext HL.out hsz M.out⟩
            case measure => simp [intOf]; omega
        · have HR := Lib.hid hr
          rw [hr] at HC
          clear hr
          go_wp2_with fail
          rw [hp] at c0 c1 c2 za
          rw [hq] at d0 d1 d2 zb
          go_region_held3 (fun w' => (w'.cell? p = some (.int .i64 a[k].1) ∧ w'.cell? ⟨p.block, p.off + 1, none⟩ = some (.int .i64 a[k].2.1) ∧ w'.cell? ⟨p.block, p.off + 2, none⟩ = some (.string a[k].2.2) ∧ w'.cell? q = some (.int .i64 b[k].1) ∧ w'.cell? ⟨q.block, q.off + 1, none⟩ = some (.int .i64 b[k].2.1) ∧ w'.cell? ⟨q.block, q.off + 2, none⟩ = some (.string b[k].2.2)) ∧ Below wr.heap.size wr w')
            (first | assumption | (refine keepP hb5 (by assumption) ?_; intro kk; exact ⟨(kk p za).trans c0, (kk ⟨p.block, p.off + 1, none⟩ za).trans c1, (kk ⟨p.block, p.off + 2, none⟩ za).trans c2, (kk q zb).trans d0, (kk ⟨q.block, q.off + 1, none⟩ zb).trans d1, (kk ⟨q.block, q.off + 2, none⟩ zb).trans d2⟩) | (exact ⟨⟨c0, c1, c2, d0, d1, d2⟩, Below.drew (Below.refl _ _)⟩))
            (first | (go_at_call 91; refine (rcompare_is _ _ _ _ _ _ _ HR.out _).mono ?_; rintro e w5 ⟨rfl, hb5⟩))
          all_goals
            have M := Lib.hid (show Below wr.heap.size wr _ by rename_i hS; exact hS.2)
            go_wp2
            go_ret
            exact ⟨ret1 (by rw [HK.out, HC.out]; rfl), bnext HL.out hsz M.out⟩
      · have HC := Lib.hid (cmpL_right a b k (by omega) hlt)
        obtain rfl : k = b.length := by omega
        go_wp2
        go_ret
        exact ⟨ret1 (by rw [HK.out, HC.out]), HL.out⟩
    · obtain rfl : k = a.length := by omega
      by_cases hlt2 : a.length < b.length
      · have HC := Lib.hid (cmpL_left a b a.length rfl hlt2)
        go_wp2
        go_ret
        exact ⟨ret1 (by rw [HK.out, HC.out]), HL.out⟩
      · have hle : b.length ≤ a.length := by omega
        have hge : a.length ≤ b.length := by omega
        have HC := Lib.hid (cmpL_none a b a.length rfl (by omega))
        have e1 : decide (b.length < a.length) = false := by simp; omega
        go_wp2
        go_ret
        exact ⟨ret1 (by rw [HK.out, HC.out]), HL.out⟩

end Go.Proofs.YtjjikooabmddlaaGreatDoor.Code

/-
  Contracts of the document's Compare and Same of rows.
-/
namespace Go.Proofs.YtjjikooabmddlaaGreatDoor.Code
open Go.ChangeShapes Go.WideShapes Go.ChangeAt Go.RowKit Val
set_option linter.unusedVariables false

theorem rrowCompare_any (A B : Option Addr) (ca cb : Nat) (a b : List (Int × Int × ByteArray)) (w : World) (hA : Vals w w.heap.size A a) (hB : Vals w w.heap.size B b) (hl : a.length ≤ 140737488355328) (hl2 : b.length ≤ 140737488355328) :
    Calls Tryz.prog 52 #[.slice A a.length ca, .slice B b.length cb] w fun e w' => e = .returned (.int .i64 (cmpL a b)) ∧ Below w.heap.size w w' := by
  have H := Lib.hid (rcmpl_any A B ca cb a b w hA hB hl hl2)
  clear hA hB
  go_enter Tryz.func52, Tryz.ntmps52
  go_wp2_with fail
  refine H.out.mono ?_
  rintro e w1 ⟨rfl, hb1⟩
  have L1 := Lib.hid hb1
  clear hb1
  go_wp2
  go_ret
  exact ⟨rfl, L1.out⟩
theorem rrowSame_any (A B : Option Addr) (ca cb : Nat) (a b : List (Int × Int × ByteArray)) (w : World) (hA : Vals w w.heap.size A a) (hB : Vals w w.heap.size B b) (hl : a.length ≤ 140737488355328) (hl2 : b.length ≤ 140737488355328) :
    Calls Tryz.prog 26 #[.slice A a.length ca, .slice B b.length cb] w fun e w' => e = .returned (.bool (decide (a = b))) ∧ Below w.heap.size w w' := by
  have H := Lib.hid (same_any A B ca cb a b w hA hB hl hl2)
  clear hA hB
  go_enter Tryz.func26, Tryz.ntmps26
  go_wp2_with fail
  refine H.out.mono ?_
  rintro e w1 ⟨rfl, hb1⟩
  have L1 := Lib.hid hb1
  clear hb1
  go_wp2
  go_ret
  exact ⟨rfl, L1.out⟩

end Go.Proofs.YtjjikooabmddlaaGreatDoor.Code
