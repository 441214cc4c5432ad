/-
  The contract of value.Compare, for every two values (cut out of ValCmp).
-/
import Derived.Test.YtjjikooabmddlaaGreatDoorM1
import Derived.Test.YtjjikooabmddlaaGreatDoorShelf
import Derived.Test.YtjjikooabmddlaaGreatDoorM7
import Derived.Test.YtjjikooabmddlaaGreatDoorM4
namespace Go.Proofs.YtjjikooabmddlaaGreatDoor.Val
open Go.ChangeShapes Go.WideShapes Go.ChangeAt Go.RowKit
set_option linter.unusedVariables false

theorem cmpk_any (a b : Int) (w : World) :
    Calls Tryz.prog 78 #[.int .i64 a, .int .i64 b] w fun e w' => e = .returned (.int .i64 (cmpI a b)) ∧ w = w' := by
  by_cases h1 : a < b
  · go_enter Tryz.func78, Tryz.ntmps78
    go_wp2
    go_ret
    exact ⟨ret1 (by unfold cmpI; rw [if_pos h1]), rfl⟩
  · by_cases h2 : b < a
    all_goals
      go_enter Tryz.func78, Tryz.ntmps78
      go_wp2
      go_ret
      exact ⟨ret1 (by unfold cmpI; omega), rfl⟩
theorem cmpi_any (a b : Int) (w : World) :
    Calls Tryz.prog 79 #[.int .i64 a, .int .i64 b] w fun e w' => e = .returned (.int .i64 (cmpI a b)) ∧ w = w' := by
  by_cases h1 : a < b
  · go_enter Tryz.func79, Tryz.ntmps79
    go_wp2
    go_ret
    exact ⟨ret1 (by unfold cmpI; rw [if_pos h1]), rfl⟩
  · by_cases h2 : b < a
    all_goals
      go_enter Tryz.func79, Tryz.ntmps79
      go_wp2
      go_ret
      exact ⟨ret1 (by unfold cmpI; omega), rfl⟩
theorem cmps_any (a b : ByteArray) (w : World) :
    Calls Tryz.prog 80 #[.string a, .string b] w fun e w' => e = .returned (.int .i64 (Lib.compareBytes a.data.toList b.data.toList)) ∧ w = w' :=
  (Tryz.strings_Compare a b w).mono fun _ _ ⟨h, g⟩ => ⟨h, g.symm⟩

set_option maxHeartbeats 1000000 in
theorem or_any (x y z : Int) (b cap : Nat) (w : World) (h0 : w.cell? ⟨b, 0, none⟩ = some (.int .i64 x)) (h1 : w.cell? ⟨b, 1, none⟩ = some (.int .i64 y)) (h2 : w.cell? ⟨b, 2, none⟩ = some (.int .i64 z)) :
    Calls Tryz.prog 77 #[.slice (some ⟨b, 0, none⟩) 3 cap] w fun e w' => e = .returned (.int .i64 (orI x y z)) ∧ w = w' := by
  by_cases hx : x = 0
  · subst hx
    by_cases hy : y = 0
    · subst hy
      by_cases hz : z = 0
      all_goals
        go_enter Tryz.func77, Tryz.ntmps77
        go_wp2
        refine wp_loop_rounds 4 ?_
        iterate 4 (first | (rw [rounds_succ]; go_wp2) | skip)
        all_goals go_ret
        all_goals exact ⟨ret1 (by unfold orI; simp [hz]), rfl⟩
    · go_enter Tryz.func77, Tryz.ntmps77
      go_wp2
      refine wp_loop_rounds 4 ?_
      iterate 4 (first | (rw [rounds_succ]; go_wp2) | skip)
      all_goals go_ret
      all_goals exact ⟨ret1 (by unfold orI; simp [hy]), rfl⟩
  · go_enter Tryz.func77, Tryz.ntmps77
    go_wp2
    refine wp_loop_rounds 4 ?_
    iterate 4 (first | (rw [rounds_succ]; go_wp2) | skip)
    all_goals go_ret
    all_goals exact ⟨ret1 (by unfold orI; simp [hx]), rfl⟩

set_option maxHeartbeats 4000000 in
theorem compare_any (k n : Int) (s : ByteArray) (k' n' : Int) (s' : ByteArray) (w : World) :
    Calls Tryz.prog 57 #[.agg #[.int .i64 k, .int .i64 n, .string s], .agg #[.int .i64 k', .int .i64 n', .string s']] w fun e w' => e = .returned (.int .i64 (cmpV k n s k' n' s')) ∧ Below w.heap.size w w' := by
  go_enter Tryz.func57, Tryz.ntmps57
  go_wp2_with fail
  have A := (Box.fresh w k n s 51).alloc (.cells #[.int .i64 k', .int .i64 n', .string s'] 51)
  have B := Box.fresh (w.alloc (.cells #[.int .i64 k, .int .i64 n, .string s] 51)) k' n' s' 51
  have L := Lib.hid ((below_alloc w (.cells #[.int .i64 k, .int .i64 n, .string s] 51)).alloc (by simp) (.cells #[.int .i64 k', .int .i64 n', .string s'] 51))
  have hs : w.heap.size + 2 = ((w.alloc (.cells #[.int .i64 k, .int .i64 n, .string s] 51)).alloc (.cells #[.int .i64 k', .int .i64 n', .string s'] 51)).heap.size := by simp
  rw [show (w.alloc (.cells #[.int .i64 k, .int .i64 n, .string s] 51)).heap.size = w.heap.size + 1 by simp] at B
  generalize (w.alloc (.cells #[.int .i64 k, .int .i64 n, .string s] 51)).alloc (.cells #[.int .i64 k', .int .i64 n', .string s'] 51) = W at *
  obtain ⟨a0, a1, a2, az⟩ := A
  obtain ⟨b0, b1, b2, bz⟩ := B
  clear hs
  go_region_held3 (fun w' => (w'.cell? ⟨w.heap.size, 0, none⟩ = some (.int .i64 k) ∧ w'.cell? ⟨w.heap.size, 1, none⟩ = some (.int .i64 n) ∧ w'.cell? ⟨w.heap.size, 2, none⟩ = some (.string s) ∧ w'.cell? ⟨w.heap.size + 1, 0, none⟩ = some (.int .i64 k') ∧ w'.cell? ⟨w.heap.size + 1, 1, none⟩ = some (.int .i64 n') ∧ w'.cell? ⟨w.heap.size + 1, 2, none⟩ = some (.string s')) ∧ Below W.heap.size W w')
    (first | assumption | (refine keepD (by assumption) ?_; intro kk; exact ⟨by rw [kk _ _ az]; exact a0, by rw [kk _ _ az]; exact a1, by rw [kk _ _ az]; exact a2, by rw [kk _ _ bz]; exact b0, by rw [kk _ _ bz]; exact b1, by rw [kk _ _ bz]; exact b2⟩) | (refine keepA _ (by assumption) ?_; intro kk; exact ⟨by rw [kk _ _ az]; exact a0, by rw [kk _ _ az]; exact a1, by rw [kk _ _ az]; exact a2, by rw [kk _ _ bz]; exact b0, by rw [kk _ _ bz]; exact b1, by rw [kk _ _ bz]; exact b2⟩) | (exact ⟨⟨by simpa [go_sem] using a0, by simpa [go_sem] using a1, by simpa [go_sem] using a2, by simpa [go_sem] using b0, by simpa [go_sem] using b1, by simpa [go_sem] using b2⟩, Below.drew (Below.refl _ _)⟩))
    (first | (go_at_call 78; refine (cmpk_any _ _ _).mono ?_; rintro e w' ⟨rfl, rfl⟩) | (go_at_call 79; refine (cmpi_any _ _ _).mono ?_; rintro e w' ⟨rfl, rfl⟩) | (go_at_call 80; refine (cmps_any _ _ _).mono ?_; rintro e w' ⟨rfl, rfl⟩) | (go_at_call 77; refine (or_any (cmpI k k') (cmpI n n') (Lib.compareBytes s.data.toList s'.data.toList) _ _ _ ?c0 ?c1 ?c2).mono ?_; (case c0 => simp [go_sem]); (case c1 => simp [go_sem]); (case c2 => simp [go_sem]); rintro e w' ⟨rfl, rfl⟩))
  all_goals
    have M := Lib.hid (show Below W.heap.size W _ by rename_i hS; exact hS.2)
    go_wp2
    go_ret
    exact ⟨rfl, bnext L.out (by omega) M.out⟩

end Go.Proofs.YtjjikooabmddlaaGreatDoor.Val

/-
  Contracts of row.Compare and row.Same.
-/
namespace Go.Proofs.YtjjikooabmddlaaGreatDoor.Code
open Go.ChangeShapes Go.WideShapes Go.ChangeAt Go.RowKit Val
set_option linter.unusedVariables false

theorem cmpn_any (a b : Int) (w : World) :
    Calls Tryz.prog 58 #[.int .i64 a, .int .i64 b] w fun e w' => e = .returned (.int .i64 (cmpI a b)) ∧ w = w' := by
  by_cases h1 : a < b
  · go_enter Tryz.func58, Tryz.ntmps58
    go_wp2
    go_ret
    exact ⟨ret1 (by unfold cmpI; rw [if_pos h1]), rfl⟩
  · by_cases h2 : b < a
    all_goals
      go_enter Tryz.func58, Tryz.ntmps58
      go_wp2
      go_ret
      exact ⟨ret1 (by unfold cmpI; omega), rfl⟩
theorem compare_is (k n : Int) (s : ByteArray) (k' n' : Int) (s' : ByteArray) (x : Int) (h : cmpV k n s k' n' s' = x) (w : World) :
    Calls Tryz.prog 57 #[.agg #[.int .i64 k, .int .i64 n, .string s], .agg #[.int .i64 k', .int .i64 n', .string s']] w fun e w' => e = .returned (.int .i64 x) ∧ Below w.heap.size w w' := by
  have := compare_any k n s k' n' s' w
  rw [h] at this
  exact this
theorem cmpL_end (a b : List (Int × Int × ByteArray)) (k : Nat) (h : k = min a.length b.length) : cmpL (a.drop k) (b.drop k) = cmpI a.length b.length := by
  subst h
  rcases Nat.lt_trichotomy a.length b.length with h | h | h
  · rw [Nat.min_eq_left (by omega), cmpL_left a b a.length rfl h]
    unfold cmpI
    rw [if_pos (by omega)]
  · rw [Nat.min_eq_left (by omega), cmpL_none a b a.length rfl h.symm]
    unfold cmpI
    rw [if_neg (by omega), if_neg (by omega)]
  · rw [Nat.min_eq_right (by omega), cmpL_right a b b.length rfl h]
    unfold cmpI
    rw [if_neg (by omega), if_pos (by omega)]
set_option maxHeartbeats 4000000 in
theorem rowCompare_any (A B : Option Addr) (ca cb : Nat) (a b : List (Int × Int × ByteArray)) (w : World) (hA : Vals w w.heap.size A a) (hB : Vals w w.heap.size B b) (hl : a.length ≤ 140737488355328) (hl2 : b.length ≤ 140737488355328) :
    Calls Tryz.prog 43 #[.slice A a.length ca, .slice B b.length cb] w fun e w' => e = .returned (.int .i64 (cmpL a b)) ∧ Below w.heap.size w w' := by
  have HA := Lib.hid hA
  have HB := Lib.hid hB
  clear hA hB
  obtain ⟨M, hM⟩ : ∃ M, M = min a.length b.length := ⟨_, rfl⟩
  have hM2 : min (a.length : Int) (b.length : Int) = (M : Int) := by omega
  have hMa : M ≤ a.length := by omega
  have hMb : M ≤ b.length := by omega
  have HE := Lib.hid (cmpL_end a b M hM)
  clear hM
  go_enter Tryz.func43, Tryz.ntmps43
  go_wp2
  go_loopw [12] (fun i wr => ∃ k : Nat, k ≤ M ∧ i = .int .i64 k ∧ Hid (cmpL a b = cmpL (a.drop k) (b.drop k)) ∧ Below w.heap.size w wr) (fun i _ => M - (intOf i).toNat)
  case atStart => exact ⟨0, by omega, rfl, Lib.hid rfl, Below.refl _ _⟩
  case round =>
    obtain ⟨k, hk, rfl, HK, hbel⟩ := hrel
    have hsz := hbel.size
    have HL := Lib.hid hbel
    have VA := Lib.hid (HA.out.below hbel)
    have VB := Lib.hid (HB.out.below hbel)
    clear hbel
    by_cases hlt : k < M
    · have hlt1 : k < a.length := by omega
      have hlt2 : k < b.length := by omega
      obtain ⟨ad, rfl, ha, c0, c1, c2⟩ := VA.out k hlt1
      obtain ⟨bd, rfl, hb, d0, d1, d2⟩ := VB.out k hlt2
      have HC := Lib.hid (cmpL_at a b k hlt1 hlt2)
      have hr := cmpV_range a[k].1 a[k].2.1 a[k].2.2 b[k].1 b[k].2.1 b[k].2.2
      have za : (ad.add (k * 3)).block < wr.heap.size := by rw [add_block]; omega
      have zb : (bd.add (k * 3)).block < wr.heap.size := by rw [add_block]; omega
      obtain ⟨p, hp⟩ : ∃ p, ad.add (k * 3) = p := ⟨_, rfl⟩
      obtain ⟨q, hq⟩ : ∃ q, bd.add (k * 3) = q := ⟨_, rfl⟩
      rcases hr with hr | hr | hr
      all_goals
        have HR := Lib.hid hr
        rw [hr] at HC
        clear hr
        go_wp2_with fail
        rw [hp] at c0 c1 c2 za
        rw [hq] at d0 d1 d2 zb
        go_region_held3 (fun w' => (w'.cell? p = some (.int .i64 a[k].1) ∧ w'.cell? ⟨p.block, p.off + 1, none⟩ = some (.int .i64 a[k].2.1) ∧ w'.cell? ⟨p.block, p.off + 2, none⟩ = some (.string a[k].2.2) ∧ w'.cell? q = some (.int .i64 b[k].1) ∧ w'.cell? ⟨q.block, q.off + 1, none⟩ = some (.int .i64 b[k].2.1) ∧ w'.cell? ⟨q.block, q.off + 2, none⟩ = some (.string b[k].2.2)) ∧ Below wr.heap.size wr w')
          (first | assumption | (refine keepP hb5 (by assumption) ?_; intro kk; exact ⟨(kk p za).trans c0, (kk ⟨p.block, p.off + 1, none⟩ za).trans c1, (kk ⟨p.block, p.off + 2, none⟩ za).trans c2, (kk q zb).trans d0, (kk ⟨q.block, q.off + 1, none⟩ zb).trans d1, (kk ⟨q.block, q.off + 2, none⟩ zb).trans d2⟩) | (exact ⟨⟨c0, c1, c2, d0, d1, d2⟩, Below.drew (Below.refl _ _)⟩))
          (first | (go_at_call 57; refine (compare_is _ _ _ _ _ _ _ HR.out _).mono ?_; rintro e w5 ⟨rfl, hb5⟩))
        all_goals
          have M1 := Lib.hid (show Below wr.heap.size wr _ by rename_i hS; exact hS.2)
          go_wp2
          first
            | (go_ret
               exact ⟨ret1 (by rw [HK.out, HC.out]; rfl), bnext HL.out hsz M1.out⟩)
            | (go_roundw
               case rel => exact ⟨k + 1, by omega, by go_num, Lib.hid (HK.out.trans (HC.out.trans (if_neg (by simp)))), bnext HL.out hsz M1.out⟩
               case measure => simp [intOf]; omega)
    · obtain rfl : k = M := by omega
      go_wp2_with fail
      refine (cmpn_any _ _ _).mono ?_
      rintro e w1 ⟨rfl, rfl⟩
      go_wp2
      go_ret
      exact ⟨ret1 (by rw [HK.out, HE.out]), HL.out⟩
theorem rowSame_any (A B : Option Addr) (ca cb : Nat) (a b : List (Int × Int × ByteArray)) (w : World) (hA : Vals w w.heap.size A a) (hB : Vals w w.heap.size B b) (hl : a.length ≤ 140737488355328) (hl2 : b.length ≤ 140737488355328) :
    Calls Tryz.prog 86 #[.slice A a.length ca, .slice B b.length cb] w fun e w' => e = .returned (.bool (cmpL a b == 0)) ∧ Below w.heap.size w w' := by
  have H := Lib.hid (rowCompare_any A B ca cb a b w hA hB hl hl2)
  clear hA hB
  go_enter Tryz.func86, Tryz.ntmps86
  go_wp2_with fail
  refine H.out.mono ?_
  rintro e w1 ⟨rfl, hb1⟩
  have L1 := Lib.hid hb1
  clear hb1
  go_wp2
  go_ret
  exact ⟨rfl, L1.out⟩

end Go.Proofs.YtjjikooabmddlaaGreatDoor.Code
