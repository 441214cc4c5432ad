/-
  Contracts of row.Compare and row.Same, and of the document's.
-/
import Derived.Test.YtpdoomhpfdmklaaDoorRowRef
import Derived.Test.YtpdoomhpfdmklaaDoorRowVCmp
import Derived.Test.YtpdoomhpfdmklaaDoorRowMem
namespace Go.Proofs.YtpdoomhpfdmklaaDoor.Code
open Go.ChangeShapes Go.WideShapes Go.ChangeAt Go.RowKit Val
set_option linter.unusedVariables false

theorem cmpn_any (a b : Int) (w : World) :
    Calls Tryd.prog 35 #[.int .i64 a, .int .i64 b] w fun e w' => e = .returned (.int .i64 (cmpI a b)) ∧ w = w' := by
  by_cases h1 : a < b
  · go_enter Tryd.func35, Tryd.ntmps35
    go_wp2
    go_ret
    exact ⟨ret1 (by unfold cmpI; rw [if_pos h1]), rfl⟩
  · by_cases h2 : b < a
    all_goals
      go_enter Tryd.func35, Tryd.ntmps35
      go_wp2
      go_ret
      exact ⟨ret1 (by unfold cmpI; omega), rfl⟩
theorem compare_is (k n : Int) (s : ByteArray) (k' n' : Int) (s' : ByteArray) (x : Int) (h : cmpV k n s k' n' s' = x) (w : World) :
    Calls Tryd.prog 34 #[.agg #[.int .i64 k, .int .i64 n, .string s], .agg #[.int .i64 k', .int .i64 n', .string s']] w fun e w' => e = .returned (.int .i64 x) ∧ Below w.heap.size w w' := by
  have := compare_any k n s k' n' s' w
  rw [h] at this
  exact this
theorem cmpL_end (a b : List (Int × Int × ByteArray)) (k : Nat) (h : k = min a.length b.length) : cmpL (a.drop k) (b.drop k) = cmpI a.length b.length := by
  subst h
  rcases Nat.lt_trichotomy a.length b.length with h | h | h
  · rw [Nat.min_eq_left (by omega), cmpL_left a b a.length rfl h]
    unfold cmpI
    rw [if_pos (by omega)]
  · rw [Nat.min_eq_left (by omega), cmpL_none a b a.length rfl h.symm]
    unfold cmpI
    rw [if_neg (by omega), if_neg (by omega)]
  · rw [Nat.min_eq_right (by omega), cmpL_right a b b.length rfl h]
    unfold cmpI
    rw [if_neg (by omega), if_pos (by omega)]
set_option maxHeartbeats 4000000 in
theorem rowCompare_any (A B : Option Addr) (ca cb : Nat) (a b : List (Int × Int × ByteArray)) (w : World) (hA : Vals w w.heap.size A a) (hB : Vals w w.heap.size B b) (hl : a.length ≤ 140737488355328) (hl2 : b.length ≤ 140737488355328) :
    Calls Tryd.prog 17 #[.slice A a.length ca, .slice B b.length cb] w fun e w' => e = .returned (.int .i64 (cmpL a b)) ∧ Below w.heap.size w w' := by
  have HA := Lib.hid hA
  have HB := Lib.hid hB
  clear hA hB
  obtain ⟨M, hM⟩ : ∃ M, M = min a.length b.length := ⟨_, rfl⟩
  have hM2 : min (a.length : Int) (b.length : Int) = (M : Int) := by omega
  have hMa : M ≤ a.length := by omega
  have hMb : M ≤ b.length := by omega
  have HE := Lib.hid (cmpL_end a b M hM)
  clear hM
  go_enter Tryd.func17, Tryd.ntmps17
  go_wp2
  go_loopw [12] (fun i wr => ∃ k : Nat, k ≤ M ∧ i = .int .i64 k ∧ Hid (cmpL a b = cmpL (a.drop k) (b.drop k)) ∧ Below w.heap.size w wr) (fun i _ => M - (intOf i).toNat)
  case atStart => exact ⟨0, by omega, rfl, Lib.hid rfl, Below.refl _ _⟩
  case round =>
    obtain ⟨k, hk, rfl, HK, hbel⟩ := hrel
    have hsz := hbel.size
    have HL := Lib.hid hbel
    have VA := Lib.hid (HA.out.below hbel)
    have VB := Lib.hid (HB.out.below hbel)
    clear hbel
    by_cases hlt : k < M
    · have hlt1 : k < a.length := by omega
      have hlt2 : k < b.length := by omega
      obtain ⟨ad, rfl, ha, c0, c1, c2⟩ := VA.out k hlt1
      obtain ⟨bd, rfl, hb, d0, d1, d2⟩ := VB.out k hlt2
      have HC := Lib.hid (cmpL_at a b k hlt1 hlt2)
      have hr := cmpV_range a[k].1 a[k].2.1 a[k].2.2 b[k].1 b[k].2.1 b[k].2.2
      have za : (ad.add (k * 3)).block < wr.heap.size := by rw [add_block]; omega
      have zb : (bd.add (k * 3)).block < wr.heap.size := by rw [add_block]; omega
      obtain ⟨p, hp⟩ : ∃ p, ad.add (k * 3) = p := ⟨_, rfl⟩
      obtain ⟨q, hq⟩ : ∃ q, bd.add (k * 3) = q := ⟨_, rfl⟩
      rcases hr with hr | hr | hr
      all_goals
        have HR := Lib.hid hr
        rw [hr] at HC
        clear hr
        go_wp2_with fail
        rw [hp] at c0 c1 c2 za
        rw [hq] at d0 d1 d2 zb
        go_region_held3 (fun w' => (w'.cell? p = some (.int .i64 a[k].1) ∧ w'.cell? ⟨p.block, p.off + 1, none⟩ = some (.int .i64 a[k].2.1) ∧ w'.cell? ⟨p.block, p.off + 2, none⟩ = some (.string a[k].2.2) ∧ w'.cell? q = some (.int .i64 b[k].1) ∧ w'.cell? ⟨q.block, q.off + 1, none⟩ = some (.int .i64 b[k].2.1) ∧ w'.cell? ⟨q.block, q.off + 2, none⟩ = some (.string b[k].2.2)) ∧ Below wr.heap.size wr w')
          (first | assumption | (refine keepP hb5 (by assumption) ?_; intro kk; exact ⟨(kk p za).trans c0, (kk ⟨p.block, p.off + 1, none⟩ za).trans c1, (kk ⟨p.block, p.off + 2, none⟩ za).trans c2, (kk q zb).trans d0, (kk ⟨q.block, q.off + 1, none⟩ zb).trans d1, (kk ⟨q.block, q.off + 2, none⟩ zb).trans d2⟩) | (exact ⟨⟨c0, c1, c2, d0, d1, d2⟩, Below.drew (Below.refl _ _)⟩))
          (first | (go_at_call 34; refine (compare_is _ _ _ _ _ _ _ HR.out _).mono ?_; rintro e w5 ⟨rfl, hb5⟩))
        all_goals
          have M1 := Lib.hid (show Below wr.heap.size wr _ by rename_i hS; exact hS.2)
          go_wp2
          first
            | (go_ret
               exact ⟨ret1 (by rw [HK.out, HC.out]; rfl), bnext HL.out hsz M1.out⟩)
            | (go_roundw
               case rel => exact ⟨k + 1, by omega, by go_num, Lib.hid (HK.out.trans (HC.out.trans (if_neg (by simp)))), bnext HL.out hsz M1.out⟩
               case measure => simp [intOf]; omega)
    · obtain rfl : k = M := by omega
      go_wp2_with fail
      refine (cmpn_any _ _ _).mono ?_
      rintro e w1 ⟨rfl, rfl⟩
      go_wp2
      go_ret
      exact ⟨ret1 (by rw [HK.out, HE.out]), HL.out⟩
theorem rowSame_any (A B : Option Addr) (ca cb : Nat) (a b : List (Int × Int × ByteArray)) (w : World) (hA : Vals w w.heap.size A a) (hB : Vals w w.heap.size B b) (hl : a.length ≤ 140737488355328) (hl2 : b.length ≤ 140737488355328) :
    Calls Tryd.prog 19 #[.slice A a.length ca, .slice B b.length cb] w fun e w' => e = .returned (.bool (cmpL a b == 0)) ∧ Below w.heap.size w w' := by
  have H := Lib.hid (rowCompare_any A B ca cb a b w hA hB hl hl2)
  clear hA hB
  go_enter Tryd.func19, Tryd.ntmps19
  go_wp2_with fail
  refine H.out.mono ?_
  rintro e w1 ⟨rfl, hb1⟩
  have L1 := Lib.hid hb1
  clear hb1
  go_wp2
  go_ret
  exact ⟨rfl, L1.out⟩
theorem rrowCompare_any (A B : Option Addr) (ca cb : Nat) (a b : List (Int × Int × ByteArray)) (w : World) (hA : Vals w w.heap.size A a) (hB : Vals w w.heap.size B b) (hl : a.length ≤ 140737488355328) (hl2 : b.length ≤ 140737488355328) :
    Calls Tryd.prog 18 #[.slice A a.length ca, .slice B b.length cb] w fun e w' => e = .returned (.int .i64 (cmpL a b)) ∧ Below w.heap.size w w' := by
  have H := Lib.hid (rcmpl_any A B ca cb a b w hA hB hl hl2)
  clear hA hB
  go_enter Tryd.func18, Tryd.ntmps18
  go_wp2_with fail
  refine H.out.mono ?_
  rintro e w1 ⟨rfl, hb1⟩
  have L1 := Lib.hid hb1
  clear hb1
  go_wp2
  go_ret
  exact ⟨rfl, L1.out⟩
theorem rrowSame_any (A B : Option Addr) (ca cb : Nat) (a b : List (Int × Int × ByteArray)) (w : World) (hA : Vals w w.heap.size A a) (hB : Vals w w.heap.size B b) (hl : a.length ≤ 140737488355328) (hl2 : b.length ≤ 140737488355328) :
    Calls Tryd.prog 20 #[.slice A a.length ca, .slice B b.length cb] w fun e w' => e = .returned (.bool (decide (a = b))) ∧ Below w.heap.size w w' := by
  have H := Lib.hid (same_any A B ca cb a b w hA hB hl hl2)
  clear hA hB
  go_enter Tryd.func20, Tryd.ntmps20
  go_wp2_with fail
  refine H.out.mono ?_
  rintro e w1 ⟨rfl, hb1⟩
  have L1 := Lib.hid hb1
  clear hb1
  go_wp2
  go_ret
  exact ⟨rfl, L1.out⟩
end Go.Proofs.YtpdoomhpfdmklaaDoor.Code
