/-
  Contracts of the document's Compare of two values, and of two lists.
-/
import Derived.Test.YtmaecoidoejipaaDoorCodeVals
namespace Go.Proofs.YtmaecoidoejipaaDoor.Code
open Go.ChangeShapes Go.WideShapes Go.ChangeAt Go.RowKit Val
set_option linter.unusedVariables false

theorem less_toList (s t : ByteArray) : Op.bytesLess s.toList t.toList = decide (Lib.compareBytes s.data.toList t.data.toList < 0) := by
  rw [ByteArray.toList_eq, ByteArray.toList_eq]
  exact less_cmp _ _
theorem below2 (w : World) (o o' : Obj) : Below w.heap.size w ((w.alloc o).alloc o') := (below_alloc w o).alloc (by simp) o'
set_option maxHeartbeats 1000000 in
theorem rcompare_any (k n : Int) (s : ByteArray) (k' n' : Int) (s' : ByteArray) (w : World) :
    Calls Tryd.prog 23 #[.agg #[.int .i64 k, .int .i64 n, .string s], .agg #[.int .i64 k', .int .i64 n', .string s']] w fun e w' => e = .returned (.int .i64 (cmpV k n s k' n' s')) ∧ Below w.heap.size w w' := by
  by_cases h1 : k < k'
  · have e0 : (k == k') = false := by simp; omega
    have HC := Lib.hid (show cmpV k n s k' n' s' = -1 by unfold cmpV orI cmpI; simp [h1])
    go_enter Tryd.func23, Tryd.ntmps23
    go_wp2
    go_ret
    exact ⟨ret1 HC.out.symm, below2 _ _ _⟩
  by_cases h2 : k' < k
  · have e0 : (k == k') = false := by simp; omega
    have HC := Lib.hid (show cmpV k n s k' n' s' = 1 by unfold cmpV orI cmpI; simp [h1, h2])
    go_enter Tryd.func23, Tryd.ntmps23
    go_wp2
    go_ret
    exact ⟨ret1 HC.out.symm, below2 _ _ _⟩
  obtain rfl : k = k' := by omega
  have hk : cmpI k k = 0 := by unfold cmpI; simp
  clear h1 h2
  by_cases h1 : n < n'
  · have e0 : (n == n') = false := by simp; omega
    have HC := Lib.hid (show cmpV k n s k n' s' = -1 by unfold cmpV; rw [hk]; unfold orI cmpI; simp [h1])
    clear hk
    go_enter Tryd.func23, Tryd.ntmps23
    go_wp2
    go_ret
    exact ⟨ret1 HC.out.symm, below2 _ _ _⟩
  by_cases h2 : n' < n
  · have e0 : (n == n') = false := by simp; omega
    have HC := Lib.hid (show cmpV k n s k n' s' = 1 by unfold cmpV; rw [hk]; unfold orI cmpI; simp [h1, h2])
    clear hk
    go_enter Tryd.func23, Tryd.ntmps23
    go_wp2
    go_ret
    exact ⟨ret1 HC.out.symm, below2 _ _ _⟩
  obtain rfl : n = n' := by omega
  have hn : cmpI n n = 0 := by unfold cmpI; simp
  clear h1 h2
  have hc : cmpV k n s k n s' = Lib.compareBytes s.data.toList s'.data.toList := by unfold cmpV; rw [hk, hn]; unfold orI; simp
  clear hk hn
  by_cases e : s = s'
  · subst e
    have HC := Lib.hid (hc.trans (cb_self _))
    clear hc
    go_enter Tryd.func23, Tryd.ntmps23
    go_wp2
    go_ret
    exact ⟨ret1 HC.out.symm, below2 _ _ _⟩
  have e2 := toList_ne e
  have hl := less_toList s s'
  have hz : Lib.compareBytes s.data.toList s'.data.toList ≠ 0 := by
    intro h
    have := cb_zero h
    apply e
    obtain ⟨⟨a⟩⟩ := s
    obtain ⟨⟨b⟩⟩ := s'
    simp at this
    rw [this]
  have hr := cb_range s.data.toList s'.data.toList
  by_cases h1 : Lib.compareBytes s.data.toList s'.data.toList < 0
  · rw [decide_eq_true h1] at hl
    have HC := Lib.hid (show cmpV k n s k n s' = -1 by rw [hc]; omega)
    clear hc hz hr h1 e
    go_enter Tryd.func23, Tryd.ntmps23
    go_wp2
    go_ret
    exact ⟨ret1 HC.out.symm, below2 _ _ _⟩
  · rw [decide_eq_false h1] at hl
    have HC := Lib.hid (show cmpV k n s k n s' = 1 by rw [hc]; omega)
    clear hc hz hr h1 e
    go_enter Tryd.func23, Tryd.ntmps23
    go_wp2
    go_ret
    exact ⟨ret1 HC.out.symm, below2 _ _ _⟩


theorem rcompare_is (k n : Int) (s : ByteArray) (k' n' : Int) (s' : ByteArray) (x : Int) (h : cmpV k n s k' n' s' = x) (w : World) :
    Calls Tryd.prog 23 #[.agg #[.int .i64 k, .int .i64 n, .string s], .agg #[.int .i64 k', .int .i64 n', .string s']] w fun e w' => e = .returned (.int .i64 x) ∧ Below w.heap.size w w' := by
  have := rcompare_any k n s k' n' s' w
  rw [h] at this
  exact this
/-- what was there is there behind what makes memory of its own alone, at any place -/
theorem keepP {C : Prop} {W w1 w2 : World} (hb : Below w1.heap.size w1 w2) (h : C ∧ Below W.heap.size W w1) {C' : Prop}
    (hC : (∀ p : Addr, p.block < W.heap.size → w2.cell? p = W.cell? p) → C') : C' ∧ Below W.heap.size W w2 := by
  have hB := h.2.trans (hb.mono h.2.size)
  exact ⟨hC fun p hl => hB.cell hl, hB⟩
theorem cmpL_at (a b : List (Int × Int × ByteArray)) (k : Nat) (h : k < a.length) (g : k < b.length) :
    cmpL (a.drop k) (b.drop k) = if cmpV a[k].1 a[k].2.1 a[k].2.2 b[k].1 b[k].2.1 b[k].2.2 ≠ 0 then cmpV a[k].1 a[k].2.1 a[k].2.2 b[k].1 b[k].2.1 b[k].2.2 else cmpL (a.drop (k + 1)) (b.drop (k + 1)) := by
  rw [List.drop_eq_getElem_cons h, List.drop_eq_getElem_cons g, cmpL]
theorem cmpL_left (a b : List (Int × Int × ByteArray)) (k : Nat) (h : a.length = k) (g : k < b.length) : cmpL (a.drop k) (b.drop k) = -1 := by
  rw [List.drop_eq_getElem_cons g, List.drop_of_length_le (by omega), cmpL]
theorem cmpL_right (a b : List (Int × Int × ByteArray)) (k : Nat) (h : b.length = k) (g : k < a.length) : cmpL (a.drop k) (b.drop k) = 1 := by
  rw [List.drop_eq_getElem_cons g, List.drop_of_length_le (l := b) (by omega), cmpL]
theorem cmpL_none (a b : List (Int × Int × ByteArray)) (k : Nat) (h : a.length = k) (g : b.length = k) : cmpL (a.drop k) (b.drop k) = 0 := by
  rw [List.drop_of_length_le (by omega), List.drop_of_length_le (l := b) (by omega), cmpL]
set_option maxHeartbeats 4000000 in
theorem rcmpl_any (A B : Option Addr) (ca cb : Nat) (a b : List (Int × Int × ByteArray)) (w : World) (hA : Vals w w.heap.size A a) (hB : Vals w w.heap.size B b) (hl : a.length ≤ 140737488355328) (hl2 : b.length ≤ 140737488355328) :
    Calls Tryd.prog 14 #[.slice A a.length ca, .slice B b.length cb] w fun e w' => e = .returned (.int .i64 (cmpL a b)) ∧ Below w.heap.size w w' := by
  have HA := Lib.hid hA
  have HB := Lib.hid hB
  clear hA hB
  go_enter Tryd.func14, Tryd.ntmps14
  go_wp2
  go_loopw [5] (fun i wr => ∃ k : Nat, k ≤ a.length ∧ k ≤ b.length ∧ i = .int .i64 k ∧ Hid (cmpL a b = cmpL (a.drop k) (b.drop k)) ∧ Below w.heap.size w wr) (fun i _ => a.length - (intOf i).toNat)
  case atStart => exact ⟨0, by omega, by omega, rfl, Lib.hid rfl, Below.refl _ _⟩
  case round =>
    obtain ⟨k, hk, hk2, rfl, HK, hbel⟩ := hrel
    have hsz := hbel.size
    have HL := Lib.hid hbel
    have VA := Lib.hid (HA.out.below hbel)
    have VB := Lib.hid (HB.out.below hbel)
    clear hbel
    by_cases hlt : k < a.length
    · by_cases hlt2 : k < b.length
      · obtain ⟨ad, rfl, ha, c0, c1, c2⟩ := VA.out k hlt
        obtain ⟨bd, rfl, hb, d0, d1, d2⟩ := VB.out k hlt2
        have HC := Lib.hid (cmpL_at a b k hlt hlt2)
        have hr := cmpV_range a[k].1 a[k].2.1 a[k].2.2 b[k].1 b[k].2.1 b[k].2.2
        have za : (ad.add (k * 3)).block < wr.heap.size := by rw [add_block]; omega
        have zb : (bd.add (k * 3)).block < wr.heap.size := by rw [add_block]; omega
        obtain ⟨p, hp⟩ : ∃ p, ad.add (k * 3) = p := ⟨_, rfl⟩
        obtain ⟨q, hq⟩ : ∃ q, bd.add (k * 3) = q := ⟨_, rfl⟩
        rcases hr with hr | hr | hr
        · have HR := Lib.hid hr
          rw [hr] at HC
          clear hr
          go_wp2_with fail
          rw [hp] at c0 c1 c2 za
          rw [hq] at d0 d1 d2 zb
          go_region_held3 (fun w' => (w'.cell? p = some (.int .i64 a[k].1) ∧ w'.cell? ⟨p.block, p.off + 1, none⟩ = some (.int .i64 a[k].2.1) ∧ w'.cell? ⟨p.block, p.off + 2, none⟩ = some (.string a[k].2.2) ∧ w'.cell? q = some (.int .i64 b[k].1) ∧ w'.cell? ⟨q.block, q.off + 1, none⟩ = some (.int .i64 b[k].2.1) ∧ w'.cell? ⟨q.block, q.off + 2, none⟩ = some (.string b[k].2.2)) ∧ Below wr.heap.size wr w')
            (first | assumption | (refine keepP hb5 (by assumption) ?_; intro kk; exact ⟨(kk p za).trans c0, (kk ⟨p.block, p.off + 1, none⟩ za).trans c1, (kk ⟨p.block, p.off + 2, none⟩ za).trans c2, (kk q zb).trans d0, (kk ⟨q.block, q.off + 1, none⟩ zb).trans d1, (kk ⟨q.block, q.off + 2, none⟩ zb).trans d2⟩) | (exact ⟨⟨c0, c1, c2, d0, d1, d2⟩, Below.drew (Below.refl _ _)⟩))
            (first | (go_at_call 23; refine (rcompare_is _ _ _ _ _ _ _ HR.out _).mono ?_; rintro e w5 ⟨rfl, hb5⟩))
          all_goals
            have M := Lib.hid (show Below wr.heap.size wr _ by rename_i hS; exact hS.2)
            go_wp2
            go_ret
            exact ⟨ret1 (by rw [HK.out, HC.out]; rfl), bnext HL.out hsz M.out⟩
        · have HR := Lib.hid hr
          rw [hr] at HC
          clear hr
          go_wp2_with fail
          rw [hp] at c0 c1 c2 za
          rw [hq] at d0 d1 d2 zb
          go_region_held3 (fun w' => (w'.cell? p = some (.int .i64 a[k].1) ∧ w'.cell? ⟨p.block, p.off + 1, none⟩ = some (.int .i64 a[k].2.1) ∧ w'.cell? ⟨p.block, p.off + 2, none⟩ = some (.string a[k].2.2) ∧ w'.cell? q = some (.int .i64 b[k].1) ∧ w'.cell? ⟨q.block, q.off + 1, none⟩ = some (.int .i64 b[k].2.1) ∧ w'.cell? ⟨q.block, q.off + 2, none⟩ = some (.string b[k].2.2)) ∧ Below wr.heap.size wr w')
            (first | assumption | (refine keepP hb5 (by assumption) ?_; intro kk; exact ⟨(kk p za).trans c0, (kk ⟨p.block, p.off + 1, none⟩ za).trans c1, (kk ⟨p.block, p.off + 2, none⟩ za).trans c2, (kk q zb).trans d0, (kk ⟨q.block, q.off + 1, none⟩ zb).trans d1, (kk ⟨q.block, q.off + 2, none⟩ zb).trans d2⟩) | (exact ⟨⟨c0, c1, c2, d0, d1, d2⟩, Below.drew (Below.refl _ _)⟩))
            (first | (go_at_call 23; refine (rcompare_is _ _ _ _ _ _ _ HR.out _).mono ?_; rintro e w5 ⟨rfl, hb5⟩))
          all_goals
            have M := Lib.hid (show Below wr.heap.size wr _ by rename_i hS; exact hS.2)
            go_wp2
            go_roundw
            case rel => exact ⟨k + 1, by omega, by omega, by go_num, Lib.hid (HK.out.trans (HC.out.trans (if_neg (by simp)))), bnext HL.out hsz M.out⟩
            case measure => simp [intOf]; omega
        · have HR := Lib.hid hr
          rw [hr] at HC
          clear hr
          go_wp2_with fail
          rw [hp] at c0 c1 c2 za
          rw [hq] at d0 d1 d2 zb
          go_region_held3 (fun w' => (w'.cell? p = some (.int .i64 a[k].1) ∧ w'.cell? ⟨p.block, p.off + 1, none⟩ = some (.int .i64 a[k].2.1) ∧ w'.cell? ⟨p.block, p.off + 2, none⟩ = some (.string a[k].2.2) ∧ w'.cell? q = some (.int .i64 b[k].1) ∧ w'.cell? ⟨q.block, q.off + 1, none⟩ = some (.int .i64 b[k].2.1) ∧ w'.cell? ⟨q.block, q.off + 2, none⟩ = some (.string b[k].2.2)) ∧ Below wr.heap.size wr w')
            (first | assumption | (refine keepP hb5 (by assumption) ?_; intro kk; exact ⟨(kk p za).trans c0, (kk ⟨p.block, p.off + 1, none⟩ za).trans c1, (kk ⟨p.block, p.off + 2, none⟩ za).trans c2, (kk q zb).trans d0, (kk ⟨q.block, q.off + 1, none⟩ zb).trans d1, (kk ⟨q.block, q.off + 2, none⟩ zb).trans d2⟩) | (exact ⟨⟨c0, c1, c2, d0, d1, d2⟩, Below.drew (Below.refl _ _)⟩))
            (first | (go_at_call 23; refine (rcompare_is _ _ _ _ _ _ _ HR.out _).mono ?_; rintro e w5 ⟨rfl, hb5⟩))
          all_goals
            have M := Lib.hid (show Below wr.heap.size wr _ by rename_i hS; exact hS.2)
            go_wp2
            go_ret
            exact ⟨ret1 (by rw [HK.out, HC.out]; rfl), bnext HL.out hsz M.out⟩
      · have HC := Lib.hid (cmpL_right a b k (by omega) hlt)
        obtain rfl : k = b.length := by omega
        go_wp2
        go_ret
        exact ⟨ret1 (by rw [HK.out, HC.out]), HL.out⟩
    · obtain rfl : k = a.length := by omega
      by_cases hlt2 : a.length < b.length
      · have HC := Lib.hid (cmpL_left a b a.length rfl hlt2)
        go_wp2
        go_ret
        exact ⟨ret1 (by rw [HK.out, HC.out]), HL.out⟩
      · have hle : b.length ≤ a.length := by omega
        have hge : a.length ≤ b.length := by omega
        have HC := Lib.hid (cmpL_none a b a.length rfl (by omega))
        have e1 : decide (b.length < a.length) = false := by simp; omega
        go_wp2
        go_ret
        exact ⟨ret1 (by rw [HK.out, HC.out]), HL.out⟩
end Go.Proofs.YtmaecoidoejipaaDoor.Code
