/-
  The contracts of value.Compare and row.Compare once more: beside the answer, that the call draws on (what a sort asks of what it compares by).
-/
import Derived.Test.YtjjikooabmddlaaGreatDoorM21
import Derived.Test.YtjjikooabmddlaaGreatDoorM10
import Derived.Test.YtjjikooabmddlaaGreatDoorShelfSort
import Derived.Lib.OwnBridge
import Derived.Lib.QuietBelow
import Derived.Laws.OwnMore
import Derived.Test.YtjjikooabmddlaaGreatDoorM5
namespace Go.Proofs.YtjjikooabmddlaaGreatDoor.Val
open Go.ChangeShapes Go.WideShapes Go.ChangeAt Go.RowKit
set_option linter.unusedVariables false

/-- nothing below B has changed, and the draws go on -/
def BelD (B : Nat) (w w' : World) : Prop := Below B w w' ∧ w.drawn ≤ w'.drawn
theorem belD_refl (B : Nat) (w : World) : BelD B w w := ⟨Below.refl _ _, Nat.le_refl _⟩
theorem belD_drew (w : World) : BelD w.heap.size w w.drew := ⟨Below.drew (Below.refl _ _), Nat.le_succ _⟩
theorem dnext {B : Nat} {w W W' : World} (h : BelD B w W) (hB : B ≤ W.heap.size) (hb : BelD W.heap.size W W') : BelD B w W' := ⟨bnext h.1 hB hb.1, Nat.le_trans h.2 hb.2⟩
theorem keepA2 {C : Prop} {W w1 : World} (o : Obj) (h : C ∧ BelD W.heap.size W w1) {C' : Prop}
    (hC : (∀ b o', b < W.heap.size → (w1.alloc o).cell? ⟨b, o', none⟩ = W.cell? ⟨b, o', none⟩) → C') : C' ∧ BelD W.heap.size W (w1.alloc o) :=
  have k := keepA (C := True) o ⟨trivial, h.2.1⟩ hC
  ⟨k.1, k.2, h.2.2⟩
theorem keepD2 {C : Prop} {W w1 : World} {o : Obj} (h : C ∧ BelD W.heap.size W w1.drew) {C' : Prop}
    (hC : (∀ b i, b < W.heap.size → (w1.alloc o).drew.cell? ⟨b, i, none⟩ = W.cell? ⟨b, i, none⟩) → C') : C' ∧ BelD W.heap.size W (w1.alloc o).drew :=
  have k := keepD (C := True) (o := o) ⟨trivial, h.2.1⟩ hC
  ⟨k.1, k.2, h.2.2⟩
theorem keepP2 {C : Prop} {W w1 w2 : World} (hb : BelD w1.heap.size w1 w2) (h : C ∧ BelD W.heap.size W w1) {C' : Prop}
    (hC : (∀ p : Addr, p.block < W.heap.size → w2.cell? p = W.cell? p) → C') : C' ∧ BelD W.heap.size W w2 :=
  have hB := h.2.1.trans (hb.1.mono h.2.1.size)
  ⟨hC fun p hl => hB.cell hl, hB, Nat.le_trans h.2.2 hb.2⟩

set_option maxHeartbeats 4000000 in
theorem compareD_any (k n : Int) (s : ByteArray) (k' n' : Int) (s' : ByteArray) (w : World) :
    Calls Tryz.prog 57 #[.agg #[.int .i64 k, .int .i64 n, .string s], .agg #[.int .i64 k', .int .i64 n', .string s']] w fun e w' => e = .returned (.int .i64 (cmpV k n s k' n' s')) ∧ BelD w.heap.size w w' := by
  go_enter Tryz.func57, Tryz.ntmps57
  go_wp2_with fail
  have A := (Box.fresh w k n s 51).alloc (.cells #[.int .i64 k', .int .i64 n', .string s'] 51)
  have B := Box.fresh (w.alloc (.cells #[.int .i64 k, .int .i64 n, .string s] 51)) k' n' s' 51
  have L := Lib.hid (show BelD w.heap.size w ((w.alloc (.cells #[.int .i64 k, .int .i64 n, .string s] 51)).alloc (.cells #[.int .i64 k', .int .i64 n', .string s'] 51)) from ⟨(below_alloc w (.cells #[.int .i64 k, .int .i64 n, .string s] 51)).alloc (by simp) (.cells #[.int .i64 k', .int .i64 n', .string s'] 51), Nat.le_refl _⟩)
  have hs : w.heap.size + 2 = ((w.alloc (.cells #[.int .i64 k, .int .i64 n, .string s] 51)).alloc (.cells #[.int .i64 k', .int .i64 n', .string s'] 51)).heap.size := by simp
  rw [show (w.alloc (.cells #[.int .i64 k, .int .i64 n, .string s] 51)).heap.size = w.heap.size + 1 by simp] at B
  generalize (w.alloc (.cells #[.int .i64 k, .int .i64 n, .string s] 51)).alloc (.cells #[.int .i64 k', .int .i64 n', .string s'] 51) = W at *
  obtain ⟨a0, a1, a2, az⟩ := A
  obtain ⟨b0, b1, b2, bz⟩ := B
  clear hs
  go_region_held3 (fun w' => (w'.cell? ⟨w.heap.size, 0, none⟩ = some (.int .i64 k) ∧ w'.cell? ⟨w.heap.size, 1, none⟩ = some (.int .i64 n) ∧ w'.cell? ⟨w.heap.size, 2, none⟩ = some (.string s) ∧ w'.cell? ⟨w.heap.size + 1, 0, none⟩ = some (.int .i64 k') ∧ w'.cell? ⟨w.heap.size + 1, 1, none⟩ = some (.int .i64 n') ∧ w'.cell? ⟨w.heap.size + 1, 2, none⟩ = some (.string s')) ∧ BelD W.heap.size W w')
    (first | assumption | (refine keepD2 (by assumption) ?_; intro kk; exact ⟨by rw [kk _ _ az]; exact a0, by rw [kk _ _ az]; exact a1, by rw [kk _ _ az]; exact a2, by rw [kk _ _ bz]; exact b0, by rw [kk _ _ bz]; exact b1, by rw [kk _ _ bz]; exact b2⟩) | (refine keepA2 _ (by assumption) ?_; intro kk; exact ⟨by rw [kk _ _ az]; exact a0, by rw [kk _ _ az]; exact a1, by rw [kk _ _ az]; exact a2, by rw [kk _ _ bz]; exact b0, by rw [kk _ _ bz]; exact b1, by rw [kk _ _ bz]; exact b2⟩) | (exact ⟨⟨by simpa [go_sem] using a0, by simpa [go_sem] using a1, by simpa [go_sem] using a2, by simpa [go_sem] using b0, by simpa [go_sem] using b1, by simpa [go_sem] using b2⟩, belD_drew W⟩))
    (first | (go_at_call 78; refine (cmpk_any _ _ _).mono ?_; rintro e w' ⟨rfl, rfl⟩) | (go_at_call 79; refine (cmpi_any _ _ _).mono ?_; rintro e w' ⟨rfl, rfl⟩) | (go_at_call 80; refine (cmps_any _ _ _).mono ?_; rintro e w' ⟨rfl, rfl⟩) | (go_at_call 77; refine (or_any (cmpI k k') (cmpI n n') (Lib.compareBytes s.data.toList s'.data.toList) _ _ _ ?c0 ?c1 ?c2).mono ?_; (case c0 => simp [go_sem]); (case c1 => simp [go_sem]); (case c2 => simp [go_sem]); rintro e w' ⟨rfl, rfl⟩))
  all_goals
    have M := Lib.hid (show BelD W.heap.size W _ by rename_i hS; exact hS.2)
    go_wp2
    go_ret
    exact ⟨rfl, dnext L.out (by omega) M.out⟩

end Go.Proofs.YtjjikooabmddlaaGreatDoor.Val
namespace Go.Proofs.YtjjikooabmddlaaGreatDoor.Code
open Go.ChangeShapes Go.WideShapes Go.ChangeAt Go.RowKit Val
set_option linter.unusedVariables false
theorem compareD_is (k n : Int) (s : ByteArray) (k' n' : Int) (s' : ByteArray) (x : Int) (h : cmpV k n s k' n' s' = x) (w : World) :
    Calls Tryz.prog 57 #[.agg #[.int .i64 k, .int .i64 n, .string s], .agg #[.int .i64 k', .int .i64 n', .string s']] w fun e w' => e = .returned (.int .i64 x) ∧ BelD w.heap.size w w' := by
  have := compareD_any k n s k' n' s' w
  rw [h] at this
  exact this
set_option maxHeartbeats 4000000 in
theorem rowCompareD_any (A B : Option Addr) (ca cb : Nat) (a b : List (Int × Int × ByteArray)) (w : World) (hA : Vals w w.heap.size A a) (hB : Vals w w.heap.size B b) (hl : a.length ≤ 140737488355328) (hl2 : b.length ≤ 140737488355328) :
    Calls Tryz.prog 43 #[.slice A a.length ca, .slice B b.length cb] w fun e w' => e = .returned (.int .i64 (cmpL a b)) ∧ BelD w.heap.size w w' := by
  have HA := Lib.hid hA
  have HB := Lib.hid hB
  clear hA hB
  obtain ⟨M, hM⟩ : ∃ M, M = min a.length b.length := ⟨_, rfl⟩
  have hM2 : min (a.length : Int) (b.length : Int) = (M : Int) := by omega
  have hMa : M ≤ a.length := by omega
  have hMb : M ≤ b.length := by omega
  have HE := Lib.hid (cmpL_end a b M hM)
  clear hM
  go_enter Tryz.func43, Tryz.ntmps43
  go_wp2
  go_loopw [12] (fun i wr => ∃ k : Nat, k ≤ M ∧ i = .int .i64 k ∧ Hid (cmpL a b = cmpL (a.drop k) (b.drop k)) ∧ BelD w.heap.size w wr) (fun i _ => M - (intOf i).toNat)
  case atStart => exact ⟨0, by omega, rfl, Lib.hid rfl, belD_refl _ _⟩
  case round =>
    obtain ⟨k, hk, rfl, HK, hbel⟩ := hrel
    have hsz := hbel.1.size
    have HL := Lib.hid hbel
    have VA := Lib.hid (HA.out.below hbel.1)
    have VB := Lib.hid (HB.out.below hbel.1)
    clear hbel
    by_cases hlt : k < M
    · have hlt1 : k < a.length := by omega
      have hlt2 : k < b.length := by omega
      obtain ⟨ad, rfl, ha, c0, c1, c2⟩ := VA.out k hlt1
      obtain ⟨bd, rfl, hb, d0, d1, d2⟩ := VB.out k hlt2
      have HC := Lib.hid (cmpL_at a b k hlt1 hlt2)
      have hr := cmpV_range a[k].1 a[k].2.1 a[k].2.2 b[k].1 b[k].2.1 b[k].2.2
      have za : (ad.add (k * 3)).block < wr.heap.size := by rw [add_block]; omega
      have zb : (bd.add (k * 3)).block < wr.heap.size := by rw [add_block]; omega
      obtain ⟨p, hp⟩ : ∃ p, ad.add (k * 3) = p := ⟨_, rfl⟩
      obtain ⟨q, hq⟩ : ∃ q, bd.add (k * 3) = q := ⟨_, rfl⟩
      rcases hr with hr | hr | hr
      all_goals
        have HR := Lib.hid hr
        rw [hr] at HC
        clear hr
        go_wp2_with fail
        rw [hp] at c0 c1 c2 za
        rw [hq] at d0 d1 d2 zb
        go_region_held3 (fun w' => (w'.cell? p = some (.int .i64 a[k].1) ∧ w'.cell? ⟨p.block, p.off + 1, none⟩ = some (.int .i64 a[k].2.1) ∧ w'.cell? ⟨p.block, p.off + 2, none⟩ = some (.string a[k].2.2) ∧ w'.cell? q = some (.int .i64 b[k].1) ∧ w'.cell? ⟨q.block, q.off + 1, none⟩ = some (.int .i64 b[k].2.1) ∧ w'.cell? ⟨q.block, q.off + 2, none⟩ = some (.string b[k].2.2)) ∧ BelD wr.heap.size wr w')
          (first | assumption | (refine keepP2 hb5 (by assumption) ?_; intro kk; exact ⟨(kk p za).trans c0, (kk ⟨p.block, p.off + 1, none⟩ za).trans c1, (kk ⟨p.block, p.off + 2, none⟩ za).trans c2, (kk q zb).trans d0, (kk ⟨q.block, q.off + 1, none⟩ zb).trans d1, (kk ⟨q.block, q.off + 2, none⟩ zb).trans d2⟩) | (exact ⟨⟨c0, c1, c2, d0, d1, d2⟩, belD_drew wr⟩))
          (first | (go_at_call 57; refine (compareD_is _ _ _ _ _ _ _ HR.out _).mono ?_; rintro e w5 ⟨rfl, hb5⟩))
        all_goals
          have M1 := Lib.hid (show BelD wr.heap.size wr _ by rename_i hS; exact hS.2)
          go_wp2
          first
            | (go_ret
               exact ⟨ret1 (by rw [HK.out, HC.out]; rfl), dnext HL.out hsz M1.out⟩)
            | (go_roundw
               case rel => exact ⟨k + 1, by omega, by go_num, Lib.hid (HK.out.trans (HC.out.trans (if_neg (by simp)))), dnext HL.out hsz M1.out⟩
               case measure => simp [intOf]; omega)
    · obtain rfl : k = M := by omega
      go_wp2_with fail
      refine (cmpn_any _ _ _).mono ?_
      rintro e w1 ⟨rfl, rfl⟩
      go_wp2
      go_ret
      exact ⟨ret1 (by rw [HK.out, HE.out]), HL.out⟩
end Go.Proofs.YtjjikooabmddlaaGreatDoor.Code

/-
  The contract of slices.SortFunc as package zset calls it: a list of items of the call's own is put into the order of its rows.
-/
namespace Go.Proofs.YtjjikooabmddlaaGreatDoor.Items
open Go.ChangeShapes Go.WideShapes Go.ChangeAt Go.RowKit Val Go.Proofs.YtjjikooabmddlaaGreatDoor.Code Go.Proofs.YtjjikooabmddlaaGreatDoor.Elems Go.Proofs.YtjjikooabmddlaaGreatDoor.ZP Go.Proofs.YtjjikooabmddlaaGreatDoor.Bits
set_option linter.unusedVariables false
set_option maxRecDepth 100000

set_option maxHeartbeats 1000000 in
theorem cmp2_any (x1 y1 : Option Addr) (x2 y2 : Nat) (x3 y3 : List (Int × Int × ByteArray)) (x4 y4 : Int) (w : World) (hx : Vals w w.heap.size x1 x3) (hy : Vals w w.heap.size y1 y3) (lx : x3.length ≤ 140737488355328) (ly : y3.length ≤ 140737488355328) :
    Calls Tryz.prog 63 #[.agg #[.slice x1 x3.length x2, .int .i64 x4], .agg #[.slice y1 y3.length y2, .int .i64 y4]] w fun e w' => e = .returned (.int .i64 (cmpL x3 y3)) ∧ BelD w.heap.size w w' := by
  have HX := Lib.hid hx
  have HY := Lib.hid hy
  clear hx hy
  go_enter Tryz.func63, Tryz.ntmps63
  go_wp2_with fail
  have hb : Below w.heap.size w ((w.alloc (.cells #[.slice x1 x3.length x2, .int .i64 x4] 48)).alloc (.cells #[.slice y1 y3.length y2, .int .i64 y4] 48)) := (below_alloc w _).alloc (by simp) _
  have HB := Lib.hid hb
  refine (rowCompareD_any x1 y1 x2 y2 x3 y3 _ ((HX.out.below hb).more hb.size) ((HY.out.below hb).more hb.size) lx ly).mono ?_
  rintro e w1 ⟨rfl, hb1⟩
  have L1 := Lib.hid (dnext (⟨HB.out, Nat.le_refl _⟩ : BelD w.heap.size w _) HB.out.size hb1)
  clear hb hb1
  go_wp2
  go_ret
  exact ⟨rfl, L1.out⟩

/-- an item whose row lies below n₀ -/
abbrev ItAt (w : World) (n₀ : Nat) : Type := { x : It // Vals w n₀ x.1 x.2.2.1 ∧ x.2.2.1.length ≤ 140737488355328 }
instance (w : World) (n₀ : Nat) : Inhabited (ItAt w n₀) := ⟨⟨(none, 0, [], 0), fun i hi => absurd hi (Nat.not_lt_zero _), by simp⟩⟩
def cfI {w : World} {n₀ : Nat} (x y : ItAt w n₀) : Int := cmpL x.1.2.2.1 y.1.2.2.1
theorem ltOf_iff {w : World} {n₀ : Nat} (x y : ItAt w n₀) : ltOf cfI x y = true ↔ cmpL x.1.2.2.1 y.1.2.2.1 = -1 := by
  unfold ltOf cfI
  have := cmpL_range x.1.2.2.1 y.1.2.2.1
  rw [decide_eq_true_iff]
  omega
theorem swo_items (w : World) (n₀ : Nat) : Go.Sort.SWO (ltOf (cfI (w := w) (n₀ := n₀))) where
  irrefl x := by
    rw [Bool.eq_false_iff]
    intro h
    exact lt_irrefl ((ltOf_iff x x).1 h)
  trans x y z h1 h2 := (ltOf_iff x z).2 (cmpL_lt_trans ((ltOf_iff x y).1 h1) ((ltOf_iff y z).1 h2))
  ntrans x y z h1 h2 := by
    rw [Bool.eq_false_iff] at *
    intro h
    have h3 := (ltOf_iff x z).1 h
    rcases lt_cases x.1.2.2.1 y.1.2.2.1 with e | e | e
    · exact h1 ((ltOf_iff x y).2 e)
    · rw [e] at h3
      exact h2 ((ltOf_iff y z).2 h3)
    · exact h2 ((ltOf_iff y z).2 (cmpL_lt_trans e h3))
def encA {w : World} {n₀ : Nat} (x : ItAt w n₀) : List Value := cellsI x.1

/-- a world that differs from w in one block from n₀ on, and in what it has beyond -/
theorem sorted_below {α : Type} [Inhabited α] {enc : α → List Value} {w : World} {g m n₀ : Nat} {dk : Array α} {os : Array Obj} (hn : n₀ ≤ g) (hz : n₀ ≤ w.heap.size) : Below n₀ w (sortWorldK enc 2 w g 0 m dk os) := by
  have h1 : Below n₀ w (Sort.putRow id (Sort.ahead w m) g 0 (Sort.flatK enc 2 dk)) := Lib.below_putRow (Below.refl n₀ w) hn
  refine ⟨h1.os, h1.tape, h1.output, ?_, fun k hk => ?_⟩
  · have := h1.size
    simp only [sortWorldK, Sort.grow, Array.size_append]
    exact Nat.le_trans this (Nat.le_add_right _ _)
  · have hs := h1.size
    simp only [sortWorldK, Sort.grow]
    rw [Array.getElem?_append_left (by exact Nat.lt_of_lt_of_le hk (Nat.le_trans hz hs))]
    exact h1.block k hk
theorem grown_of_belD {w w' : World} (h : BelD w.heap.size w w') : ∃ q os', w' = Sort.grow (w.drewN q) os' := by
  obtain ⟨⟨d, os⟩, hp⟩ := regrown_of_below h.1
  have hd : w'.drawn = d := by rw [hp]; rfl
  have h2 := h.2
  refine ⟨d - w.drawn, os, ?_⟩
  rw [hp]
  have : redrawn w d = w.drewN (d - w.drawn) := by
    unfold redrawn World.drewN
    congr 1
    omega
  rw [this]

theorem flat_get {w : World} {n₀ : Nat} (l : List (ItAt w n₀)) (t : Nat) (h : t < l.length * 2) : (flatC cellsI (l.map (·.1)))[t]? = some ((encA (l.toArray[t / 2]!))[t % 2]!) := by
  have hi : t / 2 < l.length := by omega
  have h2 := flatC_at cellsI_length (l.map (·.1)) (t / 2) (by simpa using hi) (t % 2) (by omega)
  rw [show t / 2 * 2 + t % 2 = t by omega] at h2
  rw [h2]
  have e1 : l.toArray[t / 2]! = l[t / 2] := by simp [hi]
  rw [e1, List.getElem_map]
  unfold encA
  have h3 : t % 2 = 0 ∨ t % 2 = 1 := by omega
  rcases h3 with h3 | h3 <;> rw [h3] <;> rfl
/-- what slices.SortFunc leaves of items at g -/
def Sorted (w : World) (n₀ g : Nat) (L : List It) (w' : World) : Prop :=
  ∃ M : List It, M.Perm L ∧ M.Pairwise (fun a b => cmpL b.2.2.1 a.2.2.1 ≠ -1) ∧ At cellsI 2 w' w'.heap.size (some ⟨g, 0, none⟩) M ∧ Below n₀ w w'

set_option maxHeartbeats 1000000 in
theorem zsort_any (g cap n₀ : Nat) (L : List It) (w : World) (ho : w.ownsRow n₀ 48 2 (.slice (some ⟨g, 0, none⟩) L.length cap) L.length (flatC cellsI L)) (hv : ∀ x ∈ L, Vals w n₀ x.1 x.2.2.1 ∧ x.2.2.1.length ≤ 140737488355328) (hn : n₀ ≤ w.heap.size) (hl : L.length ≤ 4398046511104) :
    Calls Tryz.prog 62 #[.slice (some ⟨g, 0, none⟩) L.length cap, .func (.func 63) #[] #[]] w fun e w' => e = .returned (.tuple #[]) ∧ Sorted w n₀ g L w' := by
  obtain ⟨hgn, hgw⟩ := ho.lt g rfl
  obtain ⟨l, hlm⟩ : ∃ l : List (ItAt w n₀), l.map (·.1) = L := ⟨L.pmap (fun x h => ⟨x, h⟩) hv, by rw [List.map_pmap]; simp⟩
  have hll : l.length = L.length := by rw [← hlm]; simp
  have hH : Sort.HoldsK encA 2 w g 0 l.toArray := by
    intro j hj
    rw [Sort.size_flatK] at hj
    have hj' : j < L.length * 2 := by rw [← hll]; simpa using hj
    rw [Sort.get_flatK _ _ _ _ hj, Nat.zero_add]
    refine ⟨?_, ho.frozenAt j⟩
    rw [ho.cellAt j hj', ← hlm, flat_get l j (by omega)]
    rfl
  have hR : RowK (encA (w := w) (n₀ := n₀)) 2 w g 0 l.toArray := ⟨fun _ => rfl, fun x => cellsI_one x.1, hH, hgw⟩
  have hcmp : CmpLays Tryz.prog 63 #[] (encA (w := w) (n₀ := n₀)) 2 cfI g 0 l.toArray.size w := by
    intro m os dk hs x y
    have hb := sorted_below (enc := encA (w := w) (n₀ := n₀)) (m := m) (dk := dk) (os := os) hgn hn
    have hz := Nat.le_trans hn hb.size
    obtain ⟨⟨x1, x2, x3, x4⟩, hx, lx⟩ := x
    obtain ⟨⟨y1, y2, y3, y4⟩, hy, ly⟩ := y
    refine (cmp2_any x1 y1 x2 y2 x3 y3 x4 y4 _ ((hx.below hb).more hz) ((hy.below hb).more hz) lx ly).mono ?_
    rintro e w' ⟨he, hbd⟩
    exact ⟨he, grown_of_belD hbd⟩
  have eg : ∀ args w, (callFunc 63 args).run Tryz.prog w = .ok (.enter 63 args) w := enters_of Tryz.func63 (by kernel_rfl) rfl
  have hsz : l.toArray.size = L.length := by simpa using hll
  have hlim : Lib.bitLen L.length < 4611686018427387904 := Nat.lt_of_le_of_lt (Lib.bitLen_le L.length 62 (by omega) (by omega)) (by omega)
  have hp := AnyQ.pdqsortCmpFunc_all Tryz.pdqI 2 Tryz.isAgg48 Tryz.sizeOf48 encA cfI 63 #[] (swo_items w n₀) g 0 cap l.toArray w eg hcmp hR (L.length + 1) 0 L.length (Lib.bitLen L.length) l.toArray w (by omega) rfl (SWK.start hH) (Nat.zero_le _) (by rw [hsz]; exact Nat.le_refl _) (by rw [hsz]; omega) hlim (Or.inl rfl)
  have hq := Sort.pdq_sorts (ltOf cfI) (swo_items w n₀) l.toArray 0 L.length (Lib.bitLen L.length) true true (Nat.zero_le _) (by rw [hsz]; exact Nat.le_refl _) (Or.inl rfl)
  have hbl : Calls Tryz.prog 85 #[.int .u64 (L.length : Int)] w fun e w' => e = .returned (.int .i64 (Lib.bitLen L.length : Nat)) ∧ w' = w := by
    have h := Any.bits_Len (SlLaysF0.n15.bits (P := Tryz.prog) (ρ := Tryz.pdqI_ren) { Tryz.pdqI with }) (L.length : Int) w (by omega) (by omega)
    rwa [Int.toNat_natCast] at h
  rw [hsz] at hp
  change Calls Tryz.prog 84 _ _ _ at hp
  generalize Sort.pdq (ltOf cfI) l.toArray 0 L.length (Lib.bitLen L.length) true true = d' at hp hq
  have HP := Lib.hid hp
  have HQ := Lib.hid hq
  have HR := Lib.hid hR
  have HL := Lib.hid hbl
  have wr : IntKind.u64.wrap (L.length : Int) = L.length := by simp [IntKind.wrap, IntKind.bits, IntKind.signed]; omega
  clear hp hq hR hbl hcmp hH eg ho hv
  go_enter Tryz.func62, Tryz.ntmps62
  go_wp2_with fail
  refine HL.out.mono ?_
  rintro e w1 ⟨rfl, rfl⟩
  go_wp2_with fail
  refine HP.out.mono ?_
  rintro e w2 ⟨rfl, hw2⟩
  have H2 := Lib.hid hw2
  clear hw2
  go_wp2
  go_end0
  refine ⟨rfl, ?_⟩
  obtain ⟨⟨hs1, _, hperm⟩, hsorted⟩ := HQ.out
  have hs2 : d'.size = l.toArray.size := hs1
  have hs3 : d'.size = L.length := hs2.trans hsz
  have hh := H2.out.holds HR.out.hblk HR.out.hH hs2
  have hb2 : Below n₀ w1 w2 := by
    obtain ⟨m, os, e⟩ := H2.out
    rw [e]
    exact sorted_below hgn hn
  refine ⟨d'.toList.map (·.1), ?_, ?_, ?_, hb2⟩
  · rw [show d'.extract 0 L.length = d' by rw [← hs3]; simp, show l.toArray.extract 0 L.length = l.toArray by rw [← hsz]; simp] at hperm
    rw [← hlm]
    exact (by simpa using hperm : d'.toList.Perm l).map _
  · rw [List.pairwise_map, List.pairwise_iff_getElem]
    intro i j hi hj hij
    have h1 := hsorted i j (Nat.zero_le _) hij (by rw [← hs3]; simpa using hj)
    simp only [Array.length_toList] at hi hj
    rw [getElem!_pos d' i hi, getElem!_pos d' j hj] at h1
    intro h2
    rw [(ltOf_iff _ _).2 (by simpa using h2)] at h1
    cases h1
  · intro i hi
    have hi' : i < d'.size := by simpa using hi
    refine ⟨⟨g, 0, none⟩, rfl, Nat.lt_of_lt_of_le hgw H2.out.le, fun j u hu => ?_⟩
    have hj : j < 2 := by
      have := (List.getElem?_eq_some_iff.1 hu).1
      rwa [cellsI_length] at this
    have h1 := (hh.cell hi' hj).1
    rw [show (({ block := g, off := 0 } : Addr).add (i * 2 + j)) = ⟨g, 0 + i * 2 + j, none⟩ by rw [Addr.add_lit]; congr 1; omega]
    rw [h1, getElem!_pos d' i hi']
    rw [List.getElem_map, Array.getElem_toList] at hu
    have h3 : j = 0 ∨ j = 1 := by omega
    rcases h3 with rfl | rfl
    · simpa [encA, cellsI] using hu
    · simpa [encA, cellsI] using hu
end Go.Proofs.YtjjikooabmddlaaGreatDoor.Items

/-
  The contract of slices.ContainsFunc as package zset's sum calls it: is a row not right? and slices.SortFunc of no list.
-/
namespace Go.Proofs.YtjjikooabmddlaaGreatDoor.Items
open Go.ChangeShapes Go.WideShapes Go.ChangeAt Go.RowKit Val Go.Proofs.YtjjikooabmddlaaGreatDoor.Code Go.Proofs.YtjjikooabmddlaaGreatDoor.Elems Go.Proofs.YtjjikooabmddlaaGreatDoor.ZP Go.Proofs.YtjjikooabmddlaaGreatDoor.Bits
set_option linter.unusedVariables false
set_option maxRecDepth 100000

set_option maxHeartbeats 1000000 in
theorem bad_any (x1 : Option Addr) (x2 : Nat) (x3 : List (Int × Int × ByteArray)) (x4 : Int) (w : World) (hx : Vals w w.heap.size x1 x3) (hf : FitL x3) (lx : x3.length ≤ 140737488355328) :
    Calls Tryz.prog 61 #[.agg #[.slice x1 x3.length x2, .int .i64 x4]] w fun e w' => e = .returned (.bool (!rightR x3)) ∧ Below w.heap.size w w' := by
  have HX := Lib.hid hx
  have HF := Lib.hid hf
  clear hx hf
  go_enter Tryz.func61, Tryz.ntmps61
  go_wp2_with fail
  have hb := below_alloc w (.cells #[.slice x1 x3.length x2, .int .i64 x4] 48)
  have HB := Lib.hid hb
  refine (rowRight_any x1 x2 x3 _ ((HX.out.below hb).more hb.size) HF.out lx).mono ?_
  rintro e w1 ⟨rfl, hb1⟩
  have L1 := Lib.hid (bnext HB.out HB.out.size hb1)
  clear hb hb1
  obtain ⟨r, hr⟩ : ∃ r, rightR x3 = r := ⟨_, rfl⟩
  rw [hr]
  have HR := Lib.hid hr
  clear hr
  go_wp2
  go_ret
  exact ⟨by rw [HR.out]; rfl, L1.out⟩
abbrev ItOk (w : World) (n₀ : Nat) : Type := { x : It // Vals w n₀ x.1 x.2.2.1 ∧ FitL x.2.2.1 ∧ x.2.2.1.length ≤ 140737488355328 }
instance (w : World) (n₀ : Nat) : Inhabited (ItOk w n₀) := ⟨⟨(none, 0, [], 0), fun i hi => absurd hi (Nat.not_lt_zero _), (fun v hv => by cases hv), by simp⟩⟩
def encK {w : World} {n₀ : Nat} (x : ItOk w n₀) : List Value := cellsI x.1

theorem has_some (g cap n₀ : Nat) (L : List It) (w : World) (ho : w.ownsRow n₀ 48 2 (.slice (some ⟨g, 0, none⟩) L.length cap) L.length (flatC cellsI L)) (hv : ∀ x ∈ L, Vals w n₀ x.1 x.2.2.1 ∧ FitL x.2.2.1 ∧ x.2.2.1.length ≤ 140737488355328) (hn : n₀ ≤ w.heap.size) (hl : L.length ≤ 4398046511104) :
    Calls Tryz.prog 60 #[.slice (some ⟨g, 0, none⟩) L.length cap, .func (.func 61) #[] #[]] w fun e w' => e = .returned (.bool (!okRows L)) ∧ Below w.heap.size w w' := by
  obtain ⟨hgn, hgw⟩ := ho.lt g rfl
  obtain ⟨l, hlm⟩ : ∃ l : List (ItOk w n₀), l.map (·.1) = L := ⟨L.pmap (fun x h => ⟨x, h⟩) hv, by rw [List.map_pmap]; simp⟩
  have hll : l.length = L.length := by rw [← hlm]; simp
  have hp : PredBelow Tryz.prog 61 #[] (fun x => .agg (encK (w := w) (n₀ := n₀) x).toArray) (fun x => !rightR x.1.2.2.1) w := by
    intro W x hb
    obtain ⟨⟨x1, x2, x3, x4⟩, hx, hf, lx⟩ := x
    refine (bad_any x1 x2 x3 x4 W ((hx.below (hb.mono hn)).more (Nat.le_trans hn hb.size)) hf lx).mono ?_
    rintro e w' ⟨he, hb2⟩
    exact ⟨he, hb.trans (hb2.mono hb.size)⟩
  have hc := AnyQ.slices_ContainsFunc Tryz.hasI 2 Tryz.isAgg48 Tryz.sizeOf48 (encK (w := w) (n₀ := n₀)) (fun _ => rfl) (fun x => !rightR x.1.2.2.1) 61 #[] (enters_of Tryz.func61 (by kernel_rfl) rfl) g 0 L.length cap l w hp (by omega) (by omega) hgw (by
    intro j hj i u hu
    have hi : i < 2 := by
      have := (List.getElem?_eq_some_iff.1 hu).1
      exact this
    rw [ho.cellAt _ (by omega), Nat.zero_add, ← hlm, flatC_at cellsI_length _ _ (by simpa using hj) _ hi, List.getElem_map]
    rw [getElem!_pos l j hj] at hu
    exact hu)
  refine hc.mono ?_
  rintro e w' ⟨he, hb⟩
  refine ⟨?_, hb⟩
  rw [he, ← hll, List.take_length, ← hlm]
  unfold okRows
  rw [List.all_map, List.any_eq_not_all_not]
  simp [Function.comp_def]
theorem has_none (w : World) :
    Calls Tryz.prog 60 #[.slice none 0 0, .func (.func 61) #[] #[]] w fun e w' => e = .returned (.bool false) ∧ w' = w := by
  have h : ∀ w, Calls Tryz.prog 83 #[.slice none 0 0, .func (.func 61) #[] #[]] w fun e w' => e = .returned (.int .i64 (-1)) ∧ w' = w := by
    intro w
    go_enter Tryz.func83, Tryz.ntmps83
    go_wp2
    refine wp_loop_rounds 1 ?_
    rw [rounds_succ]
    go_wp2
    go_ret
    exact ⟨rfl, rfl⟩
  go_enter Tryz.func60, Tryz.ntmps60
  go_wp2_with fail
  refine (h _).mono ?_
  rintro e w1 ⟨rfl, rfl⟩
  go_wp2
  go_ret
  exact ⟨rfl, rfl⟩
set_option maxHeartbeats 1000000 in
theorem sort_none (w : World) :
    Calls Tryz.prog 62 #[.slice none 0 0, .func (.func 63) #[] #[]] w fun e w' => e = .returned (.tuple #[]) ∧ Below w.heap.size w w' := by
  have hbl : ∀ w, Calls Tryz.prog 85 #[.int .u64 (0 : Int)] w fun e w' => e = .returned (.int .i64 (0 : Int)) ∧ w' = w := fun w => by
    have h := Any.bits_Len (SlLaysF0.n15.bits (P := Tryz.prog) (ρ := Tryz.pdqI_ren) { Tryz.pdqI with }) 0 w (by omega) (by omega)
    exact h
  have hi : ∀ w, Calls Tryz.prog 101 #[.slice none 0 0, .int .i64 0, .int .i64 0, .func (.func 63) #[] #[]] w fun e w' => e = .returned (.tuple #[]) ∧ w' = w := by
    intro w
    go_enter Tryz.func101, Tryz.ntmps101
    go_wp2
    refine wp_loop_rounds 1 ?_
    rw [rounds_succ]
    go_wp2
    go_end0
    exact ⟨rfl, rfl⟩
  have hp : ∀ w, Calls Tryz.prog 84 #[.slice none 0 0, .int .i64 0, .int .i64 0, .int .i64 0, .func (.func 63) #[] #[]] w fun e w' => e = .returned (.tuple #[]) ∧ Below w.heap.size w w' := by
    intro w
    go_enter Tryz.func84, Tryz.ntmps84
    go_wp2
    refine wp_loop_rounds 1 ?_
    rw [rounds_succ]
    go_wp2_with fail
    refine (hi _).mono ?_
    rintro e w1 ⟨rfl, rfl⟩
    go_wp2
    first
      | (refine bodyPost_ret (results_none rfl _ _ _) rfl ?_; exact ⟨rfl, Below.refl _ _⟩)
      | (go_end0; exact ⟨rfl, Below.refl _ _⟩)
  go_enter Tryz.func62, Tryz.ntmps62
  go_wp2_with fail
  refine (hbl _).mono ?_
  rintro e w1 ⟨rfl, rfl⟩
  go_wp2_with fail
  refine (hp _).mono ?_
  rintro e w2 ⟨rfl, hb2⟩
  have L2 := Lib.hid hb2
  clear hb2
  go_wp2
  go_end0
  exact ⟨rfl, L2.out⟩

theorem has_any (n₀ : Nat) (v : Value) (L : List It) (w : World) (ho : w.ownsRow n₀ 48 2 v L.length (flatC cellsI L)) (hv : ∀ x ∈ L, Vals w n₀ x.1 x.2.2.1 ∧ FitL x.2.2.1 ∧ x.2.2.1.length ≤ 140737488355328) (hn : n₀ ≤ w.heap.size) (hl : L.length ≤ 4398046511104) :
    Calls Tryz.prog 60 #[v, .func (.func 61) #[] #[]] w fun e w' => e = .returned (.bool (!okRows L)) ∧ Below w.heap.size w w' := by
  rcases ho.2 with ⟨rfl, h0⟩ | ⟨g, cap, cur, rfl, h⟩
  · refine (has_none w).mono ?_
    rintro e w' ⟨he, rfl⟩
    have : L = [] := List.eq_nil_of_length_eq_zero h0
    subst this
    exact ⟨he, Below.refl _ _⟩
  · exact has_some g cap n₀ L w ho hv hn hl
theorem sort_any (n₀ : Nat) (v : Value) (L : List It) (w : World) (ho : w.ownsRow n₀ 48 2 v L.length (flatC cellsI L)) (hv : ∀ x ∈ L, Vals w n₀ x.1 x.2.2.1 ∧ FitL x.2.2.1 ∧ x.2.2.1.length ≤ 140737488355328) (hn : n₀ ≤ w.heap.size) (hl : L.length ≤ 4398046511104) :
    Calls Tryz.prog 62 #[v, .func (.func 63) #[] #[]] w fun e w' => e = .returned (.tuple #[]) ∧ ∃ (A : Option Addr) (cap : Nat) (M : List It), v = .slice A M.length cap ∧ M.length ≤ cap ∧ cap ≤ 9223372036854775807 ∧ M.Perm L ∧ M.Pairwise (fun a b => cmpL b.2.2.1 a.2.2.1 ≠ -1) ∧ Items w' w'.heap.size A M ∧ Below n₀ w w' := by
  rcases ho.2 with ⟨rfl, h0⟩ | ⟨g, cap, cur, rfl, _, _, hlc, hcm, _⟩
  · refine (sort_none w).mono ?_
    rintro e w' ⟨he, hb⟩
    have : L = [] := List.eq_nil_of_length_eq_zero h0
    subst this
    exact ⟨he, none, 0, [], rfl, Nat.le_refl _, by omega, List.Perm.refl _, List.Pairwise.nil, ⟨At.nil _ _ _, fun x hx => by cases hx⟩, hb.mono hn⟩
  · refine (zsort_any g cap n₀ L w ho (fun x hx => ⟨(hv x hx).1, (hv x hx).2.2⟩) hn hl).mono ?_
    rintro e w' ⟨he, M, hp, hs, ha, hb⟩
    refine ⟨he, some ⟨g, 0, none⟩, cap, M, by rw [hp.length_eq], by rw [hp.length_eq]; exact hlc, by unfold maxLen at hcm; omega, hp, hs, ⟨ha, fun x hx => ((hv x (hp.mem_iff.1 hx)).1.below hb).more (Nat.le_trans hn hb.size)⟩, hb⟩
end Go.Proofs.YtjjikooabmddlaaGreatDoor.Items
