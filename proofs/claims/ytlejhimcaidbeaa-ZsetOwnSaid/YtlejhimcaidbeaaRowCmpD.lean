/-
  The contracts of value.Compare and row.Compare once more: beside the answer, that the call draws on (what a sort asks of what it compares by).
-/
import Derived.Test.YtlejhimcaidbeaaRowVCmp
namespace Go.Proofs.Ytlejhimcaidbeaa.Val
open Go.ChangeShapes Go.WideShapes Go.ChangeAt Go.RowKit
set_option linter.unusedVariables false

/-- nothing below B has changed, and the draws go on -/
def BelD (B : Nat) (w w' : World) : Prop := Below B w w' ∧ w.drawn ≤ w'.drawn
theorem belD_refl (B : Nat) (w : World) : BelD B w w := ⟨Below.refl _ _, Nat.le_refl _⟩
theorem belD_drew (w : World) : BelD w.heap.size w w.drew := ⟨Below.drew (Below.refl _ _), Nat.le_succ _⟩
theorem dnext {B : Nat} {w W W' : World} (h : BelD B w W) (hB : B ≤ W.heap.size) (hb : BelD W.heap.size W W') : BelD B w W' := ⟨bnext h.1 hB hb.1, Nat.le_trans h.2 hb.2⟩
theorem keepA2 {C : Prop} {W w1 : World} (o : Obj) (h : C ∧ BelD W.heap.size W w1) {C' : Prop}
    (hC : (∀ b o', b < W.heap.size → (w1.alloc o).cell? ⟨b, o', none⟩ = W.cell? ⟨b, o', none⟩) → C') : C' ∧ BelD W.heap.size W (w1.alloc o) :=
  have k := keepA (C := True) o ⟨trivial, h.2.1⟩ hC
  ⟨k.1, k.2, h.2.2⟩
theorem keepD2 {C : Prop} {W w1 : World} {o : Obj} (h : C ∧ BelD W.heap.size W w1.drew) {C' : Prop}
    (hC : (∀ b i, b < W.heap.size → (w1.alloc o).drew.cell? ⟨b, i, none⟩ = W.cell? ⟨b, i, none⟩) → C') : C' ∧ BelD W.heap.size W (w1.alloc o).drew :=
  have k := keepD (C := True) (o := o) ⟨trivial, h.2.1⟩ hC
  ⟨k.1, k.2, h.2.2⟩
theorem keepP2 {C : Prop} {W w1 w2 : World} (hb : BelD w1.heap.size w1 w2) (h : C ∧ BelD W.heap.size W w1) {C' : Prop}
    (hC : (∀ p : Addr, p.block < W.heap.size → w2.cell? p = W.cell? p) → C') : C' ∧ BelD W.heap.size W w2 :=
  have hB := h.2.1.trans (hb.1.mono h.2.1.size)
  ⟨hC fun p hl => hB.cell hl, hB, Nat.le_trans h.2.2 hb.2⟩

set_option maxHeartbeats 4000000 in
theorem compareD_any (k n : Int) (s : ByteArray) (k' n' : Int) (s' : ByteArray) (w : World) :
    Calls Try.prog 64 #[.agg #[.int .i64 k, .int .i64 n, .string s], .agg #[.int .i64 k', .int .i64 n', .string s']] w fun e w' => e = .returned (.int .i64 (cmpV k n s k' n' s')) ∧ BelD w.heap.size w w' := by
  go_enter Try.func64, Try.ntmps64
  go_wp2_with fail
  have A := (Box.fresh w k n s 52).alloc (.cells #[.int .i64 k', .int .i64 n', .string s'] 52)
  have B := Box.fresh (w.alloc (.cells #[.int .i64 k, .int .i64 n, .string s] 52)) k' n' s' 52
  have L := Lib.hid (show BelD w.heap.size w ((w.alloc (.cells #[.int .i64 k, .int .i64 n, .string s] 52)).alloc (.cells #[.int .i64 k', .int .i64 n', .string s'] 52)) from ⟨(below_alloc w (.cells #[.int .i64 k, .int .i64 n, .string s] 52)).alloc (by simp) (.cells #[.int .i64 k', .int .i64 n', .string s'] 52), Nat.le_refl _⟩)
  have hs : w.heap.size + 2 = ((w.alloc (.cells #[.int .i64 k, .int .i64 n, .string s] 52)).alloc (.cells #[.int .i64 k', .int .i64 n', .string s'] 52)).heap.size := by simp
  rw [show (w.alloc (.cells #[.int .i64 k, .int .i64 n, .string s] 52)).heap.size = w.heap.size + 1 by simp] at B
  generalize (w.alloc (.cells #[.int .i64 k, .int .i64 n, .string s] 52)).alloc (.cells #[.int .i64 k', .int .i64 n', .string s'] 52) = W at *
  obtain ⟨a0, a1, a2, az⟩ := A
  obtain ⟨b0, b1, b2, bz⟩ := B
  clear hs
  go_region_held3 (fun w' => (w'.cell? ⟨w.heap.size, 0, none⟩ = some (.int .i64 k) ∧ w'.cell? ⟨w.heap.size, 1, none⟩ = some (.int .i64 n) ∧ w'.cell? ⟨w.heap.size, 2, none⟩ = some (.string s) ∧ w'.cell? ⟨w.heap.size + 1, 0, none⟩ = some (.int .i64 k') ∧ w'.cell? ⟨w.heap.size + 1, 1, none⟩ = some (.int .i64 n') ∧ w'.cell? ⟨w.heap.size + 1, 2, none⟩ = some (.string s')) ∧ BelD W.heap.size W w')
    (first | assumption | (refine keepD2 (by assumption) ?_; intro kk; exact ⟨by rw [kk _ _ az]; exact a0, by rw [kk _ _ az]; exact a1, by rw [kk _ _ az]; exact a2, by rw [kk _ _ bz]; exact b0, by rw [kk _ _ bz]; exact b1, by rw [kk _ _ bz]; exact b2⟩) | (refine keepA2 _ (by assumption) ?_; intro kk; exact ⟨by rw [kk _ _ az]; exact a0, by rw [kk _ _ az]; exact a1, by rw [kk _ _ az]; exact a2, by rw [kk _ _ bz]; exact b0, by rw [kk _ _ bz]; exact b1, by rw [kk _ _ bz]; exact b2⟩) | (exact ⟨⟨by simpa [go_sem] using a0, by simpa [go_sem] using a1, by simpa [go_sem] using a2, by simpa [go_sem] using b0, by simpa [go_sem] using b1, by simpa [go_sem] using b2⟩, belD_drew W⟩))
    (first | (go_at_call 76; refine (cmpk_any _ _ _).mono ?_; rintro e w' ⟨rfl, rfl⟩) | (go_at_call 77; refine (cmpi_any _ _ _).mono ?_; rintro e w' ⟨rfl, rfl⟩) | (go_at_call 78; refine (cmps_any _ _ _).mono ?_; rintro e w' ⟨rfl, rfl⟩) | (go_at_call 75; refine (or_any (cmpI k k') (cmpI n n') (Lib.compareBytes s.data.toList s'.data.toList) _ _ _ ?c0 ?c1 ?c2).mono ?_; (case c0 => simp [go_sem]); (case c1 => simp [go_sem]); (case c2 => simp [go_sem]); rintro e w' ⟨rfl, rfl⟩))
  all_goals
    have M := Lib.hid (show BelD W.heap.size W _ by rename_i hS; exact hS.2)
    go_wp2
    go_ret
    exact ⟨rfl, dnext L.out (by omega) M.out⟩

end Go.Proofs.Ytlejhimcaidbeaa.Val
namespace Go.Proofs.Ytlejhimcaidbeaa.Code
open Go.ChangeShapes Go.WideShapes Go.ChangeAt Go.RowKit Val
set_option linter.unusedVariables false
theorem compareD_is (k n : Int) (s : ByteArray) (k' n' : Int) (s' : ByteArray) (x : Int) (h : cmpV k n s k' n' s' = x) (w : World) :
    Calls Try.prog 64 #[.agg #[.int .i64 k, .int .i64 n, .string s], .agg #[.int .i64 k', .int .i64 n', .string s']] w fun e w' => e = .returned (.int .i64 x) ∧ BelD w.heap.size w w' := by
  have := compareD_any k n s k' n' s' w
  rw [h] at this
  exact this
set_option maxHeartbeats 4000000 in
theorem rowCompareD_any (A B : Option Addr) (ca cb : Nat) (a b : List (Int × Int × ByteArray)) (w : World) (hA : Vals w w.heap.size A a) (hB : Vals w w.heap.size B b) (hl : a.length ≤ 140737488355328) (hl2 : b.length ≤ 140737488355328) :
    Calls Try.prog 39 #[.slice A a.length ca, .slice B b.length cb] w fun e w' => e = .returned (.int .i64 (cmpL a b)) ∧ BelD w.heap.size w w' := by
  have HA := Lib.hid hA
  have HB := Lib.hid hB
  clear hA hB
  obtain ⟨M, hM⟩ : ∃ M, M = min a.length b.length := ⟨_, rfl⟩
  have hM2 : min (a.length : Int) (b.length : Int) = (M : Int) := by omega
  have hMa : M ≤ a.length := by omega
  have hMb : M ≤ b.length := by omega
  have HE := Lib.hid (cmpL_end a b M hM)
  clear hM
  go_enter Try.func39, Try.ntmps39
  go_wp2
  go_loopw [12] (fun i wr => ∃ k : Nat, k ≤ M ∧ i = .int .i64 k ∧ Hid (cmpL a b = cmpL (a.drop k) (b.drop k)) ∧ BelD w.heap.size w wr) (fun i _ => M - (intOf i).toNat)
  case atStart => exact ⟨0, by omega, rfl, Lib.hid rfl, belD_refl _ _⟩
  case round =>
    obtain ⟨k, hk, rfl, HK, hbel⟩ := hrel
    have hsz := hbel.1.size
    have HL := Lib.hid hbel
    have VA := Lib.hid (HA.out.below hbel.1)
    have VB := Lib.hid (HB.out.below hbel.1)
    clear hbel
    by_cases hlt : k < M
    · have hlt1 : k < a.length := by omega
      have hlt2 : k < b.length := by omega
      obtain ⟨ad, rfl, ha, c0, c1, c2⟩ := VA.out k hlt1
      obtain ⟨bd, rfl, hb, d0, d1, d2⟩ := VB.out k hlt2
      have HC := Lib.hid (cmpL_at a b k hlt1 hlt2)
      have hr := cmpV_range a[k].1 a[k].2.1 a[k].2.2 b[k].1 b[k].2.1 b[k].2.2
      have za : (ad.add (k * 3)).block < wr.heap.size := by rw [add_block]; omega
      have zb : (bd.add (k * 3)).block < wr.heap.size := by rw [add_block]; omega
      obtain ⟨p, hp⟩ : ∃ p, ad.add (k * 3) = p := ⟨_, rfl⟩
      obtain ⟨q, hq⟩ : ∃ q, bd.add (k * 3) = q := ⟨_, rfl⟩
      rcases hr with hr | hr | hr
      all_goals
        have HR := Lib.hid hr
        rw [hr] at HC
        clear hr
        go_wp2_with fail
        rw [hp] at c0 c1 c2 za
        rw [hq] at d0 d1 d2 zb
        go_region_held3 (fun w' => (w'.cell? p = some (.int .i64 a[k].1) ∧ w'.cell? ⟨p.block, p.off + 1, none⟩ = some (.int .i64 a[k].2.1) ∧ w'.cell? ⟨p.block, p.off + 2, none⟩ = some (.string a[k].2.2) ∧ w'.cell? q = some (.int .i64 b[k].1) ∧ w'.cell? ⟨q.block, q.off + 1, none⟩ = some (.int .i64 b[k].2.1) ∧ w'.cell? ⟨q.block, q.off + 2, none⟩ = some (.string b[k].2.2)) ∧ BelD wr.heap.size wr w')
          (first | assumption | (refine keepP2 hb5 (by assumption) ?_; intro kk; exact ⟨(kk p za).trans c0, (kk ⟨p.block, p.off + 1, none⟩ za).trans c1, (kk ⟨p.block, p.off + 2, none⟩ za).trans c2, (kk q zb).trans d0, (kk ⟨q.block, q.off + 1, none⟩ zb).trans d1, (kk ⟨q.block, q.off + 2, none⟩ zb).trans d2⟩) | (exact ⟨⟨c0, c1, c2, d0, d1, d2⟩, belD_drew wr⟩))
          (first | (go_at_call 64; refine (compareD_is _ _ _ _ _ _ _ HR.out _).mono ?_; rintro e w5 ⟨rfl, hb5⟩))
        all_goals
          have M1 := Lib.hid (show BelD wr.heap.size wr _ by rename_i hS; exact hS.2)
          go_wp2
          first
            | (go_ret
               exact ⟨ret1 (by rw [HK.out, HC.out]; rfl), dnext HL.out hsz M1.out⟩)
            | (go_roundw
               case rel => exact ⟨k + 1, by omega, by go_num, Lib.hid (HK.out.trans (HC.out.trans (if_neg (by simp)))), dnext HL.out hsz M1.out⟩
               case measure => simp [intOf]; omega)
    · obtain rfl : k = M := by omega
      go_wp2_with fail
      refine (cmpn_any _ _ _).mono ?_
      rintro e w1 ⟨rfl, rfl⟩
      go_wp2
      go_ret
      exact ⟨ret1 (by rw [HK.out, HE.out]), HL.out⟩
end Go.Proofs.Ytlejhimcaidbeaa.Code
