/-
  Contracts of the document's weight, Get and Total of items.
-/
import Derived.Test.YtjjikooabmddlaaGreatDoorM6
import Derived.Test.YtjjikooabmddlaaGreatDoorM7
import Derived.Test.YtjjikooabmddlaaGreatDoorM8
import Derived.Test.YtjjikooabmddlaaGreatDoorM9
import Derived.Test.YtjjikooabmddlaaGreatDoorM4
namespace Go.Proofs.YtjjikooabmddlaaGreatDoor.Items
open Go.ChangeShapes Go.WideShapes Go.ChangeAt Go.RowKit Val Go.Proofs.YtjjikooabmddlaaGreatDoor.Code Go.Proofs.YtjjikooabmddlaaGreatDoor.Elems Go.Proofs.YtjjikooabmddlaaGreatDoor.ZP Go.Proofs.YtjjikooabmddlaaGreatDoor.Bits
set_option linter.unusedVariables false

theorem rsame_is (A B : Option Addr) (ca cb : Nat) (a b : List (Int × Int × ByteArray)) (z : Bool) (hz : decide (a = b) = z) (w : World) (hA : Vals w w.heap.size A a) (hB : Vals w w.heap.size B b) (hl : a.length ≤ 140737488355328) (hl2 : b.length ≤ 140737488355328) :
    Calls Tryz.prog 26 #[.slice A a.length ca, .slice B b.length cb] w fun e w' => e = .returned (.bool z) ∧ Below w.heap.size w w' := by
  have := rrowSame_any A B ca cb a b w hA hB hl hl2
  rw [hz] at this
  exact this
theorem wp_load_bits {ops : Array Oper} {o : Oper} {a : Act} {w : World} {K : Act → World → Prop} {Q : Exit → Act → World → Prop} {E : Prop} (hgd : o.guard = none) (x : Operand) (ho : o.op = .load 95 x) (g : Nat) (D : List Bool) (hx : a.eval x = .pointer (some ⟨g, 0, none⟩)) (hb : BBlk w g D) (hD : D.length = 128)
    (h : K (a.put o.dst (.agg (bools D))) w) : if Region.wanted o (yielded ops a.tmps) = true then Oper.wp Tryz.prog o a w K Q else E := by
  have hw : Region.wanted o (yielded ops a.tmps) = true := by simp [Region.wanted, hgd]
  rw [if_pos hw]
  have hr := run_loadVar_bits hb hD
  unfold Oper.wp
  simp [execOp, ho, hx, Instr.loadAt, Instr.sureAddr, hr, Result.andThen]
  exact h
theorem wp_store_bits {ops : Array Oper} {o : Oper} {a : Act} {w : World} {K : Act → World → Prop} {Q : Exit → Act → World → Prop} {E : Prop} (hgd : o.guard = none) (x y : Operand) (ho : o.op = .store 95 x y) (g : Nat) (D F : List Bool) (hx : a.eval x = .pointer (some ⟨g, 0, none⟩)) (hy : a.eval y = .agg (bools F)) (hb : BBlk w g D) (hD : D.length = 128) (hF : F.length = 128)
    (h : K (a.put o.dst undef) (w.setRow g (bools F))) : if Region.wanted o (yielded ops a.tmps) = true then Oper.wp Tryz.prog o a w K Q else E := by
  have hw : Region.wanted o (yielded ops a.tmps) = true := by simp [Region.wanted, hgd]
  rw [if_pos hw]
  obtain ⟨w', hr, rfl⟩ := run_storeVar_bits hb hD hF
  unfold Oper.wp
  simp [execOp, ho, hx, hy, Instr.storeAt, Instr.sureAddr, hr, Result.andThen]
  exact h
theorem total_snoc (x : List (Int × Int × ByteArray) × Int) : ∀ l, totalP (l ++ [x]) = totalP l + x.2
  | [] => by simp [totalP]
  | y :: l => by
    show totalP (y :: (l ++ [x])) = _
    rw [totalP, totalP, total_snoc x l]
    omega
theorem total_bound : ∀ (l : List (List (Int × Int × ByteArray) × Int)), (∀ x ∈ l, fits x.2) → -(9223372036854775808 * (l.length : Int)) ≤ totalP l ∧ totalP l ≤ 9223372036854775808 * (l.length : Int)
  | [], _ => by simp [totalP]
  | x :: l, h => by
    have h1 := h x (by simp)
    have h2 := total_bound l (fun y hy => h y (by simp [hy]))
    unfold fits at h1
    rw [totalP, List.length_cons]
    omega
theorem weight_bound (r : List (Int × Int × ByteArray)) : ∀ (l : List (List (Int × Int × ByteArray) × Int)), (∀ x ∈ l, fits x.2) → -(9223372036854775808 * (l.length : Int)) ≤ weightP l r ∧ weightP l r ≤ 9223372036854775808 * (l.length : Int)
  | [], _ => by simp [weightP]
  | x :: l, h => by
    have h1 := h x (by simp)
    have h2 := weight_bound r l (fun y hy => h y (by simp [hy]))
    unfold fits at h1
    rw [weightP, List.length_cons]
    split <;> omega
theorem weight_snoc (x : List (Int × Int × ByteArray) × Int) (r : List (Int × Int × ByteArray)) (l : List (List (Int × Int × ByteArray) × Int)) : weightP (l ++ [x]) r = weightP l r + (if x.1 = r then x.2 else 0) := by
  rw [weightP_append]
  simp [weightP]
theorem keepS {w w1 w2 : World} {p : Addr} {v : Value} (hp : p.block < w.heap.size) (hb : Below w1.heap.size w1 w2) (h : w1.cell? ⟨p.block, p.off + 1, none⟩ = some v ∧ Below w.heap.size w w1) :
    w2.cell? ⟨p.block, p.off + 1, none⟩ = some v ∧ Below w.heap.size w w2 := by
  have hB := h.2.trans (hb.mono h.2.size)
  exact ⟨(hb.cell (p := ⟨p.block, p.off + 1, none⟩) (Nat.lt_of_lt_of_le hp h.2.size)).trans h.1, hB⟩
theorem keepRow {w w1 : World} {p : Addr} {v : Value} {g : Nat} {cs : Array Value} (hp : p.block < w.heap.size) (hg : w.heap.size ≤ g) (h : w1.cell? ⟨p.block, p.off + 1, none⟩ = some v ∧ Below w.heap.size w w1) :
    (w1.setRow g cs).cell? ⟨p.block, p.off + 1, none⟩ = some v ∧ Below w.heap.size w (w1.setRow g cs) :=
  ⟨(cell_setRow_other w1 g cs _ (by show p.block ≠ g; omega)).trans h.1, below_row h.2 hg cs⟩
set_option maxHeartbeats 8000000 in
set_option maxRecDepth 100000 in
theorem weight_any (A R : Option Addr) (cap cr : Nat) (L : List It) (r : List (Int × Int × ByteArray)) (w : World) (hI : Items w w.heap.size A L) (hF : FitI L) (hl : L.length ≤ 4398046510976) (hs : ∀ x ∈ L, x.2.2.1.length ≤ 140737488355328) (hr : Vals w w.heap.size R r) (hrl : r.length ≤ 140737488355328) :
    Calls Tryz.prog 27 #[.slice A L.length cap, .slice R r.length cr] w fun e w' => e = .returned (.tuple #[.int .i64 (fitN (weightP (pl L) r)), .int .i64 (fitE (weightP (pl L) r))]) ∧ Below w.heap.size w w' := by
  have hz := zero_bits
  have HI := Lib.hid hI
  have HF := Lib.hid hF
  have HSZ := Lib.hid hs
  have HVR := Lib.hid hr
  have HBD := Lib.hid (weight_bound r (pl L) (fun x hx => by obtain ⟨y, hy, rfl⟩ := List.mem_map.1 hx; exact (hF y hy).2))
  clear hI hF hs hr
  have hn : none128 = bl 0 := by
    apply List.ext_getElem (by simp [none128, bl])
    intro i h1 h2
    simp only [none128, bl, List.getElem_replicate, List.getElem_map, List.getElem_range]
    unfold tb
    simp
  have HN := Lib.hid hn
  clear hn
  go_enter Tryz.func27, Tryz.ntmps27
  go_wp2
  have HB0 := Lib.hid (show BBlk (w.alloc (.cells (bools none128) 95)) w.heap.size (bl 0) by rw [← HN.out]; exact BBlk.fresh w none128)
  have HL0 := Lib.hid (below_alloc w (.cells (bools none128) 95))
  go_loopw [7] (fun i wr => ∃ (k : Nat) (T : Int), k ≤ L.length ∧ i = .int .i64 k ∧ Hid (T = weightP (pl (L.take k)) r) ∧ Hid (BBlk wr w.heap.size (bl T)) ∧ Hid (Below w.heap.size w wr)) (fun i _ => L.length - (intOf i).toNat)
  case atStart => exact ⟨0, 0, by omega, rfl, Lib.hid rfl, HB0, HL0⟩
  case round =>
    obtain ⟨k, T, hk, rfl, HT, HB0, HL0⟩ := hrel
    have hsz := HL0.out.size
    by_cases hlt : k < L.length
    · obtain ⟨ad, hA, ha, c0', c1', v0⟩ := (HI.out.below HL0.out).at k hlt
      subst hA
      have had : (ad.add (k * 2)).block < w.heap.size := by rw [add_block]; exact ha
      obtain ⟨n, hn⟩ : ∃ n, L[k].2.2.2 = n := ⟨_, rfl⟩
      obtain ⟨l, hl1⟩ : ∃ l, L[k].2.2.1 = l := ⟨_, rfl⟩
      obtain ⟨D, hD⟩ : ∃ D, L[k].1 = D := ⟨_, rfl⟩
      obtain ⟨cp, hcp⟩ : ∃ cp, L[k].2.1 = cp := ⟨_, rfl⟩
      have hll := HSZ.out _ (List.getElem_mem hlt)
      rw [hn] at c1'
      rw [hl1, hD, hcp] at c0'
      rw [hl1, hD] at v0
      rw [hl1] at hll
      have HNN := Lib.hid hn
      have HLL := Lib.hid hl1
      have HFN := Lib.hid (show fits n by rw [← hn]; exact (HF.out _ (List.getElem_mem hlt)).2)
      have HE1 := Lib.hid (bl_length T)
      have HE2 := Lib.hid (bl_length (T + n))
      have HINT := Lib.hid (int_is n HFN.out)
      have HADD := Lib.hid (fun w => add_any T n (T + n) rfl w)
      obtain ⟨z, hzz⟩ : ∃ z, decide (l = r) = z := ⟨_, rfl⟩
      have HS := Lib.hid (rsame_is D R cp cr l r z hzz wr (v0.more hsz) ((HVR.out.below HL0.out).more hsz) hll hrl)
      have HT2 := Lib.hid (show weightP (pl (L.take (k + 1))) r = T + (if l = r then n else 0) by rw [pl_snoc L k hlt, weight_snoc, ← HT.out]; show T + (if L[k].2.2.1 = r then L[k].2.2.2 else 0) = _; rw [HLL.out, HNN.out])
      clear hn hl1 hD hcp v0
      cases z
      · have HT3 := Lib.hid (show T = weightP (pl (L.take (k + 1))) r by rw [HT2.out, if_neg (of_decide_eq_false hzz), Int.add_zero])
        clear hzz
        go_wp2_with fail
        refine HS.out.mono ?_
        rintro e w5 ⟨rfl, hb5⟩
        have B5 := Lib.hid (HB0.out.call hb5)
        have L5 := Lib.hid (bnext HL0.out hsz hb5)
        clear hb5 c0' c1'
        go_wp2
        go_roundw
        case rel => exact ⟨k + 1, T, by omega, by go_num, HT3, B5, L5⟩
        case measure => simp [intOf]; omega
      · have HT3 := Lib.hid (show T + n = weightP (pl (L.take (k + 1))) r by rw [HT2.out, if_pos (of_decide_eq_true hzz)])
        clear hzz
        go_wp2_with fail
        refine HS.out.mono ?_
        rintro e w5 ⟨rfl, hb5⟩
        have HB := Lib.hid (HB0.out.call hb5)
        have HL := Lib.hid (bnext HL0.out hsz hb5)
        have c1 : w5.cell? ⟨(ad.add (k * 2)).block, (ad.add (k * 2)).off + 1, none⟩ = some (.int .i64 n) := (hb5.cell (p := ⟨(ad.add (k * 2)).block, (ad.add (k * 2)).off + 1, none⟩) (by show (ad.add (k * 2)).block < _; omega)).trans c1'
        clear hb5 c0' c1'
        go_wp2_with fail
        refine wp_region_held_drew (S := fun w' => w'.cell? ⟨(ad.add (k * 2)).block, (ad.add (k * 2)).off + 1, none⟩ = some (.int .i64 n) ∧ Below w.heap.size w w') (by kernel_rfl) ⟨c1, Below.drew HL.out⟩ (fun hHeld => ?_)
        refine wpAnyH_take (i := 1) (oi := ⟨some 24, _, _, _, _, _⟩) (v := ?_) rfl (by kernel_rfl) (by kernel_rfl) (by kernel_rfl) (fun _ _ _ h => h) (Or.inl ⟨by rfl, ?_⟩) (by assumption) ?_; rotate_left 1; (intro w hSw; (try dsimp only at hSw); go_simp; try with_reducible rfl); (try simp only [Act.put, List.setIfInBounds_toArray, List.set_cons_zero, List.set_cons_succ])
        refine wpAnyH_take (i := 2) (oi := ⟨some 25, _, _, _, _, _⟩) (v := ?_) rfl (by kernel_rfl) (by kernel_rfl) (by kernel_rfl) (fun _ _ _ h => h) (Or.inl ⟨by rfl, ?_⟩) (by assumption) ?_; rotate_left 1; (intro w hSw; (try dsimp only at hSw); go_simp; try with_reducible rfl); (try simp only [Act.put, List.setIfInBounds_toArray, List.set_cons_zero, List.set_cons_succ])
        refine wpAnyH_take (i := 3) (oi := ⟨some 26, _, _, _, _, _⟩) (v := ?_) rfl (by kernel_rfl) (by kernel_rfl) (by kernel_rfl) (fun _ _ _ h => h) (Or.inl ⟨by rfl, ?_⟩) (by assumption) ?_; rotate_left 1; (intro w hSw; (try dsimp only at hSw); go_simp; try with_reducible rfl); (try simp only [Act.put, List.setIfInBounds_toArray, List.set_cons_zero, List.set_cons_succ])
        refine wpAnyH_take (i := 4) (oi := ⟨some 27, _, _, _, _, _⟩) (v := ?_) rfl (by kernel_rfl) (by kernel_rfl) (by kernel_rfl) (fun _ _ _ h => h) (Or.inl ⟨by rfl, ?_⟩) (by assumption) ?_; rotate_left 1; (intro w hSw; (try dsimp only at hSw); go_simp; try with_reducible rfl); (try simp only [Act.put, List.setIfInBounds_toArray, List.set_cons_zero, List.set_cons_succ])
        refine wpAnyH_take (i := 5) (oi := ⟨some 28, _, _, _, _, _⟩) (v := ?_) rfl (by kernel_rfl) (by kernel_rfl) (by kernel_rfl) (fun _ _ _ h => h) (Or.inl ⟨by rfl, ?_⟩) (by assumption) ?_; rotate_left 1; (intro w hSw; (try dsimp only at hSw); go_simp; try with_reducible rfl); (try simp only [Act.put, List.setIfInBounds_toArray, List.set_cons_zero, List.set_cons_succ])
        refine wpAnyH_ready (rs := [0, 6]) (by kernel_rfl) (by simp) ?_
        refine AllReadyH.cons (o := ⟨some 23, _, _, _, _, _⟩) rfl (fun K hK => ?_) (AllReadyH.cons (o := ⟨some 29, _, _, _, _, _⟩) rfl (fun K hK => ?_) AllReadyH.nil)
        · refine wp_load_bits rfl _ rfl w.heap.size (bl T) rfl HB.out HE1.out ?_
          refine hK.out _ _ hHeld (fun hHeldA => ?_)
          clear hK K
          (try simp only [Act.put, List.setIfInBounds_toArray, List.set_cons_zero, List.set_cons_succ])
          refine wpAnyH_ready (rs := [6]) (by kernel_rfl) (by simp) ?_
          refine AllReadyH.cons (o := ⟨some 29, _, _, _, _, _⟩) rfl (fun K hK => ?_) AllReadyH.nil
          go_simp
          refine (HINT.out _).mono ?_
          rintro e w6 ⟨rfl, hbw6⟩
          have BB := Lib.hid ((show BBlk w5.drew w.heap.size (bl T) from HB.out).call hbw6)
          refine hK.out _ _ (keepS had hbw6 hHeldA) (fun hHeld6 => ?_)
          clear hK K
          (try simp only [Act.put, List.setIfInBounds_toArray, List.set_cons_zero, List.set_cons_succ])
          refine wpAnyH_ready (rs := [7]) (by kernel_rfl) (by simp) ?_
          refine AllReadyH.cons (o := ⟨some 30, _, _, _, _, _⟩) rfl (fun K hK => ?_) AllReadyH.nil
          go_simp
          refine (HADD.out _).mono ?_
          rintro e w7 ⟨rfl, hbw7⟩
          have B7 := Lib.hid (BB.out.call hbw7)
          refine hK.out _ _ (keepS had hbw7 hHeld6) (fun hHeld7 => ?_)
          clear hK K
          (try simp only [Act.put, List.setIfInBounds_toArray, List.set_cons_zero, List.set_cons_succ])
          refine wpAnyH_ready (rs := [8]) (by kernel_rfl) (by simp) ?_
          refine AllReadyH.cons (o := ⟨none, _, _, _, _, _⟩) rfl (fun K hK => ?_) AllReadyH.nil
          refine wp_store_bits rfl _ _ rfl w.heap.size (bl T) (bl (T + n)) rfl rfl B7.out HE1.out HE2.out ?_
          have B8 := Lib.hid (B7.out.row (bl (T + n)))
          have hHeld8 := keepRow (cs := bools (bl (T + n))) had (show w.heap.size ≤ w.heap.size by omega) hHeld7
          refine hK.out _ _ hHeld8 (fun hHeld9 => ?_)
          clear hK K
          (try simp only [Act.put])
          refine wpAnyH_done (by kernel_rfl) ?_ _
          have HL9 := Lib.hid hHeld9.2
          clear hHeld hHeld7 hHeld8 hHeld9
          go_wp2
          go_roundw
          case rel => exact ⟨k + 1, T + n, by omega, by go_num, HT3, B8, HL9⟩
          case measure => simp [intOf]; omega
        · go_simp
          refine (HINT.out _).mono ?_
          rintro e w6 ⟨rfl, hbw6⟩
          have BB := Lib.hid ((show BBlk w5.drew w.heap.size (bl T) from HB.out).call hbw6)
          refine hK.out _ _ (keepS had hbw6 hHeld) (fun hHeld6 => ?_)
          clear hK K
          (try simp only [Act.put, List.setIfInBounds_toArray, List.set_cons_zero, List.set_cons_succ])
          refine wpAnyH_ready (rs := [0]) (by kernel_rfl) (by simp) ?_
          refine AllReadyH.cons (o := ⟨some 23, _, _, _, _, _⟩) rfl (fun K hK => ?_) AllReadyH.nil
          refine wp_load_bits rfl _ rfl w.heap.size (bl T) rfl BB.out HE1.out ?_
          refine hK.out _ _ hHeld6 (fun hHeldB => ?_)
          clear hK K
          (try simp only [Act.put, List.setIfInBounds_toArray, List.set_cons_zero, List.set_cons_succ])
          refine wpAnyH_ready (rs := [7]) (by kernel_rfl) (by simp) ?_
          refine AllReadyH.cons (o := ⟨some 30, _, _, _, _, _⟩) rfl (fun K hK => ?_) AllReadyH.nil
          go_simp
          refine (HADD.out _).mono ?_
          rintro e w7 ⟨rfl, hbw7⟩
          have B7 := Lib.hid (BB.out.call hbw7)
          refine hK.out _ _ (keepS had hbw7 hHeldB) (fun hHeld7 => ?_)
          clear hK K
          (try simp only [Act.put, List.setIfInBounds_toArray, List.set_cons_zero, List.set_cons_succ])
          refine wpAnyH_ready (rs := [8]) (by kernel_rfl) (by simp) ?_
          refine AllReadyH.cons (o := ⟨none, _, _, _, _, _⟩) rfl (fun K hK => ?_) AllReadyH.nil
          refine wp_store_bits rfl _ _ rfl w.heap.size (bl T) (bl (T + n)) rfl rfl B7.out HE1.out HE2.out ?_
          have B8 := Lib.hid (B7.out.row (bl (T + n)))
          have hHeld8 := keepRow (cs := bools (bl (T + n))) had (show w.heap.size ≤ w.heap.size by omega) hHeld7
          refine hK.out _ _ hHeld8 (fun hHeld9 => ?_)
          clear hK K
          (try simp only [Act.put])
          refine wpAnyH_done (by kernel_rfl) ?_ _
          have HL9 := Lib.hid hHeld9.2
          clear hHeld hHeld7 hHeld8 hHeld9
          go_wp2
          go_roundw
          case rel => exact ⟨k + 1, T + n, by omega, by go_num, HT3, B8, HL9⟩
          case measure => simp [intOf]; omega
    · obtain rfl : k = L.length := by omega
      rw [List.take_length] at HT
      have hbx := HBD.out
      rw [← HT.out, pl_length] at hbx
      have HE1 := Lib.hid (bl_length T)
      have HFT := Lib.hid (fits6_any T (by omega))
      go_wp2_with (first | (refine wpList_load_bits rfl _ rfl w.heap.size (bl T) rfl HB0.out HE1.out ?_))
      refine (HFT.out _).mono ?_
      rintro e w1 ⟨rfl, hb1⟩
      have L1 := Lib.hid (bnext HL0.out hsz hb1)
      clear hb1
      go_wp2
      go_ret2
      exact ⟨ret2 (by rw [HT.out]) (by rw [HT.out]), L1.out⟩
end Go.Proofs.YtjjikooabmddlaaGreatDoor.Items

/-
  Contracts of the document's Distinct, Put and Neg of items: lists that the call makes.
-/
namespace Go.Proofs.YtjjikooabmddlaaGreatDoor.Items
open Go.ChangeShapes Go.WideShapes Go.ChangeAt Go.RowKit Val Go.Proofs.YtjjikooabmddlaaGreatDoor.Code Go.Proofs.YtjjikooabmddlaaGreatDoor.Elems Go.Proofs.YtjjikooabmddlaaGreatDoor.ZP
set_option linter.unusedVariables false
set_option maxRecDepth 100000

/-- an answer that is a list of items, which lie anywhere -/
def ItemsPost (w : World) (L : List It) (e : Ending) (w' : World) : Prop :=
  ∃ (A : Option Addr) (cap : Nat), e = .returned (.slice A L.length cap) ∧ Items w' w'.heap.size A L ∧ Below w.heap.size w w'
theorem itemsPost_own {w w' : World} {v : Value} {L : List It} (ho : w'.ownsRow w.heap.size 48 2 v L.length (flatC cellsI L)) (hv : ∀ x ∈ L, Vals w w.heap.size x.1 x.2.2.1) (hb : Below w.heap.size w w') : ItemsPost w L (.returned v) w' := by
  obtain ⟨A, cap, e, hI⟩ := own_items ho fun x hx => ((hv x hx).below hb).more hb.size
  exact ⟨A, cap, by rw [e], hI, hb⟩

def distI (L : List It) : List It := L.filterMap fun x => if 0 < x.2.2.2 then some (x.1, x.2.1, x.2.2.1, 1) else none
theorem distI_yes (L : List It) (k : Nat) (h : k < L.length) (g : 0 < L[k].2.2.2) : distI (L.take (k + 1)) = distI (L.take k) ++ [(L[k].1, L[k].2.1, L[k].2.2.1, 1)] := by
  unfold distI
  rw [List.take_succ_eq_append_getElem h, List.filterMap_append]
  simp [g]
theorem distI_not (L : List It) (k : Nat) (h : k < L.length) (g : ¬ 0 < L[k].2.2.2) : distI (L.take (k + 1)) = distI (L.take k) := by
  unfold distI
  rw [List.take_succ_eq_append_getElem h, List.filterMap_append]
  simp [g]
theorem distI_le (L : List It) : (distI L).length ≤ L.length := List.length_filterMap_le _ _
theorem distI_rows {L : List It} {P : Option Addr → List (Int × Int × ByteArray) → Prop} (h : ∀ x ∈ L, P x.1 x.2.2.1) : ∀ x ∈ distI L, P x.1 x.2.2.1 := by
  intro x hx
  obtain ⟨y, hy, e⟩ := List.mem_filterMap.1 hx
  split at e
  · cases e; exact h y hy
  · cases e
/-- an item put into a set, wherever rows lie -/
def putI (x : It) : List It → List It
  | [] => [x]
  | y :: l => if cmpL x.2.2.1 y.2.2.1 = -1 then x :: y :: l else y :: putI x l
theorem pl_put (x : It) : ∀ l, pl (putI x l) = putP (pu x) (pl l)
  | [] => rfl
  | y :: l => by
    rw [putI]
    show _ = putP (pu x) (pu y :: pl l)
    rw [putP]
    split
    · rename_i h
      rw [if_pos (show cmpL (pu x).1 (pu y).1 = -1 from h)]
      rfl
    · rename_i h
      rw [if_neg (show ¬ cmpL (pu x).1 (pu y).1 = -1 from h)]
      show pu y :: pl (putI x l) = _
      rw [pl_put x l]
theorem putI_length (x : It) : ∀ l, (putI x l).length = l.length + 1
  | [] => rfl
  | y :: l => by
    rw [putI]
    split
    · rfl
    · rw [List.length_cons, putI_length x l, List.length_cons]
theorem putI_mem {x z : It} : ∀ {l : List It}, z ∈ putI x l → z = x ∨ z ∈ l
  | [], h => by simp [putI] at h; exact .inl h
  | y :: l, h => by
    rw [putI] at h
    split at h
    · rcases List.mem_cons.1 h with h | h
      · exact .inl h
      · exact .inr h
    · rcases List.mem_cons.1 h with h | h
      · exact .inr (by simp [h])
      · rcases putI_mem h with h | h
        · exact .inl h
        · exact .inr (by simp [h])
/-- what stands after k rounds -/
def PutAt (x : It) (L : List It) (d : Bool) (k : Nat) (O : List It) : Prop :=
  O.length ≤ k + 1 ∧ (if d then O ++ L.drop k = putI x L else O = L.take k ∧ putI x L = L.take k ++ putI x (L.drop k))
theorem putAt_zero (x : It) (L : List It) : PutAt x L false 0 [] := ⟨by simp, by simp⟩
theorem putAt_keep {x : It} {L : List It} {k : Nat} {O : List It} (h : PutAt x L true k O) (hk : k < L.length) : PutAt x L true (k + 1) (O ++ [L[k]]) := by
  obtain ⟨h1, h2⟩ := h
  refine ⟨by rw [List.length_append]; simp; omega, ?_⟩
  simp only [if_true] at h2 ⊢
  rw [← h2, List.append_assoc, List.drop_eq_getElem_cons hk]
  rfl
theorem putAt_put {x : It} {L : List It} {k : Nat} {O : List It} (h : PutAt x L false k O) (hk : k < L.length) (hc : cmpL x.2.2.1 L[k].2.2.1 = -1) : PutAt x L true (k + 1) ((O ++ [x]) ++ [L[k]]) := by
  obtain ⟨h1, h2⟩ := h
  simp only [Bool.false_eq_true, if_false] at h2
  refine ⟨by have := h2.1; subst this; simp; omega, ?_⟩
  simp only [if_true]
  rw [h2.2, h2.1, List.drop_eq_getElem_cons hk, putI, if_pos hc, List.append_assoc, List.append_assoc]
  rfl
theorem putAt_pass {x : It} {L : List It} {k : Nat} {O : List It} (h : PutAt x L false k O) (hk : k < L.length) (hc : ¬ cmpL x.2.2.1 L[k].2.2.1 = -1) : PutAt x L false (k + 1) (O ++ [L[k]]) := by
  obtain ⟨h1, h2⟩ := h
  simp only [Bool.false_eq_true, if_false] at h2
  refine ⟨by have := h2.1; subst this; simp; omega, ?_⟩
  simp only [Bool.false_eq_true, if_false]
  refine ⟨by rw [h2.1, List.take_succ_eq_append_getElem hk], ?_⟩
  rw [h2.2, List.take_succ_eq_append_getElem hk, List.drop_eq_getElem_cons hk, putI, if_neg hc, List.append_assoc]
  rfl
theorem putAt_end {x : It} {L O : List It} (h : PutAt x L true L.length O) : O = putI x L := by
  have h2 := h.2
  simp only [if_true, List.drop_length, List.append_nil] at h2
  exact h2
theorem putAt_end2 {x : It} {L O : List It} (h : PutAt x L false L.length O) : O ++ [x] = putI x L := by
  have h2 := h.2
  simp only [Bool.false_eq_true, if_false, List.drop_length, List.take_length] at h2
  rw [h2.1]
  exact h2.2.symm
theorem box_item (w : World) (x : It) (ty : TypeId) : (w.alloc (.cells #[.slice x.1 x.2.2.1.length x.2.1, .int .i64 x.2.2.2] ty)).cell? ⟨w.heap.size, 0, none⟩ = some (.slice x.1 x.2.2.1.length x.2.1) ∧ (w.alloc (.cells #[.slice x.1 x.2.2.1.length x.2.1, .int .i64 x.2.2.2] ty)).cell? ⟨w.heap.size, 1, none⟩ = some (.int .i64 x.2.2.2) := by
  have h := World.news_of_block (heap_alloc_new w (.cells #[.slice x.1 x.2.2.1.length x.2.1, .int .i64 x.2.2.2] ty))
  exact ⟨h 0 _ rfl, h 1 _ rfl⟩
theorem own_mono {w : World} {base base' size n : Nat} {e : TypeId} {v : Value} {xs : List Value} (h : w.ownsRow base e size v n xs) (hb : base' ≤ base) : w.ownsRow base' e size v n xs :=
  ⟨h.1, h.2.imp_right fun ⟨g, cap, cur, a, b, c⟩ => ⟨g, cap, cur, a, Nat.le_trans hb b, c⟩⟩
theorem putP_of_own {w w1 w' : World} {v : Value} {x : It} {L : List It} (h1 : Below w.heap.size w w1) (ho : w'.ownsRow w1.heap.size 48 2 v (putI x L).length (flatC cellsI (putI x L))) (hx : Vals w w.heap.size x.1 x.2.2.1) (hv : ∀ y ∈ L, Vals w w.heap.size y.1 y.2.2.1) (hb : Below w1.heap.size w1 w') : ItemsPost w (putI x L) (.returned v) w' := by
  refine itemsPost_own (own_mono ho h1.size) (fun y hy => ?_) (h1.trans (hb.mono h1.size))
  rcases putI_mem hy with rfl | h
  · exact hx
  · exact hv y h

set_option maxHeartbeats 4000000 in
theorem put_any (A : Option Addr) (cap : Nat) (L : List It) (x1 : Option Addr) (x2 : Nat) (x3 : List (Int × Int × ByteArray)) (x4 : Int) (w : World) (hI : Items w w.heap.size A L) (hx : Vals w w.heap.size x1 x3) (hl : L.length ≤ 4398046510976) (hs : ∀ y ∈ L, y.2.2.1.length ≤ 140737488355328) (hxl : x3.length ≤ 140737488355328) :
    Calls Tryz.prog 28 #[.slice A L.length cap, .agg #[.slice x1 x3.length x2, .int .i64 x4]] w (ItemsPost w (putI (x1, x2, x3, x4) L)) := by
  have HI := Lib.hid hI
  have HS := Lib.hid hs
  have HX := Lib.hid hx
  clear hI hs hx
  obtain ⟨i0, hi0, hz0, hz1, hz2⟩ := info_parts info_item
  have hb1 := below_alloc w (.cells #[.slice x1 x3.length x2, .int .i64 x4] 48)
  obtain ⟨b0, b1⟩ := box_item w (x1, x2, x3, x4) 48
  simp only at b0 b1
  have hz : (w.alloc (.cells #[.slice x1 x3.length x2, .int .i64 x4] 48)).heap.size = w.heap.size + 1 := by simp
  obtain ⟨w1, hw1⟩ : ∃ w1, w.alloc (.cells #[.slice x1 x3.length x2, .int .i64 x4] 48) = w1 := ⟨_, rfl⟩
  rw [hw1] at hb1 b0 b1 hz
  have HB1 := Lib.hid hb1
  have B0 := Lib.hid b0
  have B1 := Lib.hid b1
  have HW := Lib.hid hw1
  clear hb1 b0 b1 hw1
  obtain ⟨g, hg⟩ : ∃ g, w.heap.size = g := ⟨_, rfl⟩
  have hgz : g < w1.heap.size := by omega
  clear hz
  go_enter Tryz.func28, Tryz.ntmps28
  go_wp2
  rw [HW.out]
  rw [hg] at B0 B1
  go_loopw [5, 6, 7] (fun v d i wr => ∃ (k : Nat) (O : List It) (b : Bool), k ≤ L.length ∧ i = .int .i64 k ∧ d = .bool b ∧ Hid (PutAt (x1, x2, x3, x4) L b k O) ∧ wr.ownsRow w1.heap.size 48 2 v O.length (flatC cellsI O) ∧ Below w1.heap.size w1 wr) (fun _ _ i _ => L.length - (intOf i).toNat)
  case atStart => exact ⟨0, [], false, by omega, rfl, rfl, Lib.hid (putAt_zero _ _), World.ownsRow_nil _ _ _ _, Below.refl _ _⟩
  case round =>
    obtain ⟨k, O, b, hk, rfl, rfl, HK, hown, hbel⟩ := hrel
    have hsz := hbel.size
    have HL := Lib.hid hbel
    have HO := Lib.hid hown
    have hX := HK.out.1
    clear hbel hown
    obtain ⟨N, hN⟩ : ∃ N, O.length = N := ⟨_, rfl⟩
    by_cases hlt : k < L.length
    · have VI := Lib.hid (((HI.out.below HB1.out).more (by omega : w.heap.size ≤ w1.heap.size)).below HL.out)
      obtain ⟨ad, hA, ha, c0, c1, v0⟩ := VI.out.at k hlt
      subst hA
      have hll := HS.out _ (List.getElem_mem hlt)
      have HP1 := Lib.hid (fun (h : b = true) => show PutAt (x1, x2, x3, x4) L true (k + 1) (O ++ [L[k]]) by subst h; exact putAt_keep HK.out hlt)
      have HP2 := Lib.hid (fun (h : b = false) (hc : cmpL x3 L[k].2.2.1 = -1) => show PutAt (x1, x2, x3, x4) L true (k + 1) ((O ++ [(x1, x2, x3, x4)]) ++ [L[k]]) by subst h; exact putAt_put HK.out hlt hc)
      have HP3 := Lib.hid (fun (h : b = false) (hc : ¬ cmpL x3 L[k].2.2.1 = -1) => show PutAt (x1, x2, x3, x4) L false (k + 1) (O ++ [L[k]]) by subst h; exact putAt_pass HK.out hlt hc)
      obtain ⟨y, hy⟩ : ∃ y, L[k] = y := ⟨_, rfl⟩
      rw [hy] at c0 c1 v0 hll HP1 HP2 HP3
      clear hy VI HK
      obtain ⟨y1, y2, y3, y4⟩ := y
      simp only at c0 c1 v0 hll HP2 HP3
      have V0 := Lib.hid (v0.more hsz)
      have VX := Lib.hid ((((HX.out.below HB1.out).more (by omega : w.heap.size ≤ w1.heap.size)).below HL.out).more hsz)
      clear v0
      cases b
      · obtain ⟨c, hc⟩ : ∃ c, cmpL x3 y3 = c := ⟨_, rfl⟩
        have hcr := cmpL_range x3 y3
        rw [hc] at hcr HP2 HP3
        have hs := fun (w' : World) (h1 : Vals w' w'.heap.size x1 x3) (h2 : Vals w' w'.heap.size y1 y3) => rrowCompare_any x1 y1 x2 y2 x3 y3 w' h1 h2 hxl hll
        rw [hc] at hs
        have HS := Lib.hid hs
        clear hs hc
        have bb0 := (HL.out.cell (p := ⟨g, 0, none⟩) (by show g < _; omega)).trans B0.out
        have bb1 := (HL.out.cell (p := ⟨g, 1, none⟩) (by show g < _; omega)).trans B1.out
        have za : (ad.add (k * 2)).block < wr.heap.size := by rw [add_block]; omega
        have zg : g < wr.heap.size := by omega
        obtain ⟨p, hp⟩ : ∃ p, ad.add (k * 2) = p := ⟨_, rfl⟩
        go_wp2_with fail
        rw [hp] at c0 c1 za
        go_region_held3 (fun w' => (w'.cell? ⟨g, 0, none⟩ = some (.slice x1 x3.length x2) ∧ w'.cell? p = some (.slice y1 y3.length y2)) ∧ Below wr.heap.size wr w')
          (first | assumption | (refine keepP hb5 (by assumption) ?_; intro kk; exact ⟨(kk ⟨g, 0, none⟩ zg).trans bb0, (kk p za).trans c0⟩) | (exact ⟨⟨bb0, c0⟩, Below.drew (Below.refl _ _)⟩))
          (first | (go_at_call 52; refine (HS.out _ ?cv ?cu).mono ?_; (case cv => exact VX.out); (case cu => exact V0.out); rintro e w5 ⟨rfl, hb5⟩))
        rename World => w6
        have M1 := Lib.hid (show Below wr.heap.size wr w6 by rename_i hS; exact hS.2)
        have hsz6 := M1.out.size
        have L6 := Lib.hid (bnext HL.out hsz M1.out)
        have O6 := Lib.hid (own_call HO.out M1.out)
        have f0 := (M1.out.cell (p := p) za).trans c0
        have f1 := (M1.out.cell (p := ⟨p.block, p.off + 1, none⟩) za).trans c1
        have g0 := (M1.out.cell (p := ⟨g, 0, none⟩) zg).trans bb0
        have g1 := (M1.out.cell (p := ⟨g, 1, none⟩) zg).trans bb1
        have za6 : p.block < w6.heap.size := by omega
        have L6s := Nat.le_trans hsz hsz6
        clear c0 c1 bb0 bb1
        rcases hcr with rfl | rfl | rfl
        · skip
          have HP := Lib.hid (HP2.out (by trivial) rfl)
          clear HP1 HP2 HP3
          go_wp2_with (at_builtin; refine wpList_append_own _ rfl _ _ 33 rfl w1.heap.size 48 i0 (.agg #[.slice none 0 0, .int .i64 0]) 2 32 Tryz.underlying33 hi0 hz0 hz1 hz2 rfl (by decide) _ _ _ rfl (O6.out.alloc _) ⟨w6.heap.size, 0, none⟩ 1 1 (cellsI (x1, x2, x3, x4)) rfl rfl ?c1 ?c2 ?c3 ?c4 ?c5 ?_)
          case c1 => intro j u hu; first | (simpa [cellsI] using hu) | exact World.news_of_block (heap_alloc_new _ _) j u hu
          case c2 => exact cellsI_one _
          case c3 => unfold maxLen; omega
          case c4 => omega
          case c5 => first | omega | (simp; omega)
          intro v' w7 hown' hgrow _
          have O7 := Lib.hid (show w7.ownsRow w1.heap.size 48 2 v' (O ++ [(x1, x2, x3, x4)]).length (flatC cellsI (O ++ [(x1, x2, x3, x4)])) by rw [flatC_snoc, List.length_append, hN]; exact hown')
          have L7 := Lib.hid ((L6.out.alloc L6s _).grown hgrow (by simp; omega) (fun g hg => (O6.out.lt g hg).1))
          have za1 : p.block < w1.heap.size := by have := ha; rw [← hp, add_block]; exact this
          have f0' := (L7.out.cell (p := p) za1).trans ((L6.out.cell (p := p) za1).symm.trans f0)
          have f1' := (L7.out.cell (p := ⟨p.block, p.off + 1, none⟩) za1).trans ((L6.out.cell (p := ⟨p.block, p.off + 1, none⟩) za1).symm.trans f1)
          have L7s := L7.out.size
          have hX7 : (O ++ [(x1, x2, x3, x4)]).length = N + 1 := by rw [List.length_append, hN]; rfl
          clear hown' hgrow f0 f1 g0 g1
          go_wp2_with (at_builtin; refine wpList_append_own _ rfl _ _ 33 rfl w1.heap.size 48 i0 (.agg #[.slice none 0 0, .int .i64 0]) 2 32 Tryz.underlying33 hi0 hz0 hz1 hz2 rfl (by decide) _ _ _ rfl (O7.out.alloc _) ⟨w7.heap.size, 0, none⟩ 1 1 (cellsI (y1, y2, y3, y4)) rfl rfl ?c1 ?c2 ?c3 ?c4 ?c5 ?_)
          case c1 => intro j u hu; first | (simpa [cellsI] using hu) | exact World.news_of_block (heap_alloc_new _ _) j u hu
          case c2 => exact cellsI_one _
          case c3 => unfold maxLen; omega
          case c4 => omega
          case c5 => first | omega | (simp; omega)
          intro v' w8 hown' hgrow _
          have O2 := Lib.hid (show w8.ownsRow w1.heap.size 48 2 v' ((O ++ [(x1, x2, x3, x4)]) ++ [(y1, y2, y3, y4)]).length (flatC cellsI ((O ++ [(x1, x2, x3, x4)]) ++ [(y1, y2, y3, y4)])) by rw [flatC_snoc, List.length_append, hX7]; exact hown')
          have L2 := Lib.hid ((L7.out.alloc L7s _).grown hgrow (by simp; omega) (fun g hg => (O7.out.lt g hg).1))
          clear hown' hgrow
          go_wp2
          go_roundw
          case rel => exact ⟨k + 1, _, true, by omega, by go_num, rfl, Lib.hid HP.out, O2.out, L2.out⟩
          case measure => simp [intOf]; omega
        · have HP := Lib.hid (HP3.out (by trivial) (by decide))
          clear HP1 HP2 HP3
          go_wp2_with (at_builtin; refine wpList_append_own _ rfl _ _ 33 rfl w1.heap.size 48 i0 (.agg #[.slice none 0 0, .int .i64 0]) 2 32 Tryz.underlying33 hi0 hz0 hz1 hz2 rfl (by decide) _ _ _ rfl (O6.out.alloc _) ⟨w6.heap.size, 0, none⟩ 1 1 (cellsI (y1, y2, y3, y4)) rfl rfl ?c1 ?c2 ?c3 ?c4 ?c5 ?_)
          case c1 => intro j u hu; first | (simpa [cellsI] using hu) | exact World.news_of_block (heap_alloc_new _ _) j u hu
          case c2 => exact cellsI_one _
          case c3 => unfold maxLen; omega
          case c4 => omega
          case c5 => first | omega | (simp; omega)
          intro v' w8 hown' hgrow _
          have O2 := Lib.hid (show w8.ownsRow w1.heap.size 48 2 v' (O ++ [(y1, y2, y3, y4)]).length (flatC cellsI (O ++ [(y1, y2, y3, y4)])) by rw [flatC_snoc, List.length_append, hN]; exact hown')
          have L2 := Lib.hid ((L6.out.alloc L6s _).grown hgrow (by simp; omega) (fun g hg => (O6.out.lt g hg).1))
          clear hown' hgrow
          go_wp2
          go_roundw
          case rel => exact ⟨k + 1, _, false, by omega, by go_num, rfl, Lib.hid HP.out, O2.out, L2.out⟩
          case measure => simp [intOf]; omega
        · have HP := Lib.hid (HP3.out (by trivial) (by decide))
          clear HP1 HP2 HP3
          go_wp2_with (at_builtin; refine wpList_append_own _ rfl _ _ 33 rfl w1.heap.size 48 i0 (.agg #[.slice none 0 0, .int .i64 0]) 2 32 Tryz.underlying33 hi0 hz0 hz1 hz2 rfl (by decide) _ _ _ rfl (O6.out.alloc _) ⟨w6.heap.size, 0, none⟩ 1 1 (cellsI (y1, y2, y3, y4)) rfl rfl ?c1 ?c2 ?c3 ?c4 ?c5 ?_)
          case c1 => intro j u hu; first | (simpa [cellsI] using hu) | exact World.news_of_block (heap_alloc_new _ _) j u hu
          case c2 => exact cellsI_one _
          case c3 => unfold maxLen; omega
          case c4 => omega
          case c5 => first | omega | (simp; omega)
          intro v' w8 hown' hgrow _
          have O2 := Lib.hid (show w8.ownsRow w1.heap.size 48 2 v' (O ++ [(y1, y2, y3, y4)]).length (flatC cellsI (O ++ [(y1, y2, y3, y4)])) by rw [flatC_snoc, List.length_append, hN]; exact hown')
          have L2 := Lib.hid ((L6.out.alloc L6s _).grown hgrow (by simp; omega) (fun g hg => (O6.out.lt g hg).1))
          clear hown' hgrow
          go_wp2
          go_roundw
          case rel => exact ⟨k + 1, _, false, by omega, by go_num, rfl, Lib.hid HP.out, O2.out, L2.out⟩
          case measure => simp [intOf]; omega
      · clear HP2 HP3
        have HP := Lib.hid (HP1.out (by trivial))
        clear HP1
        have za1 : (ad.add (k * 2)).block < wr.heap.size := by rw [add_block]; omega
        go_wp2
        go_quiet (fail)
        have M1 := Lib.hid (drewN_below (Below.refl wr.heap.size wr) nq)
        obtain ⟨w6, hw6⟩ : ∃ w6, wr.drewN nq = w6 := ⟨_, rfl⟩
        rw [hw6] at M1 ⊢
        clear hw6
        have hsz6 := M1.out.size
        have L6 := Lib.hid (bnext HL.out hsz M1.out)
        have O6 := Lib.hid (own_call HO.out M1.out)
        have f0 := (M1.out.cell (p := ad.add (k * 2)) za1).trans c0
        have f1 := (M1.out.cell (p := ⟨(ad.add (k * 2)).block, (ad.add (k * 2)).off + 1, none⟩) za1).trans c1
        have L6s := Nat.le_trans hsz hsz6
        clear c0 c1
        go_wp2_with (at_builtin; refine wpList_append_own _ rfl _ _ 33 rfl w1.heap.size 48 i0 (.agg #[.slice none 0 0, .int .i64 0]) 2 32 Tryz.underlying33 hi0 hz0 hz1 hz2 rfl (by decide) _ _ _ rfl (O6.out.alloc _) ⟨w6.heap.size, 0, none⟩ 1 1 (cellsI (y1, y2, y3, y4)) rfl rfl ?c1 ?c2 ?c3 ?c4 ?c5 ?_)
        case c1 => intro j u hu; first | (simpa [cellsI] using hu) | exact World.news_of_block (heap_alloc_new _ _) j u hu
        case c2 => exact cellsI_one _
        case c3 => unfold maxLen; omega
        case c4 => omega
        case c5 => first | omega | (simp; omega)
        intro v' w8 hown' hgrow _
        have O2 := Lib.hid (show w8.ownsRow w1.heap.size 48 2 v' (O ++ [(y1, y2, y3, y4)]).length (flatC cellsI (O ++ [(y1, y2, y3, y4)])) by rw [flatC_snoc, List.length_append, hN]; exact hown')
        have L2 := Lib.hid ((L6.out.alloc L6s _).grown hgrow (by simp; omega) (fun g hg => (O6.out.lt g hg).1))
        clear hown' hgrow
        go_wp2
        go_roundw
        case rel => exact ⟨k + 1, _, true, by omega, by go_num, rfl, Lib.hid HP.out, O2.out, L2.out⟩
        case measure => simp [intOf]; omega
    · obtain rfl : k = L.length := by omega
      have bb0 := (HL.out.cell (p := ⟨g, 0, none⟩) (by show g < _; omega)).trans B0.out
      have bb1 := (HL.out.cell (p := ⟨g, 1, none⟩) (by show g < _; omega)).trans B1.out
      have HI2 := Lib.hid HI.out.2
      cases b
      · have HE := Lib.hid (putAt_end2 HK.out)
        clear HK
        go_wp2_with (at_builtin; refine wpList_append_own _ rfl _ _ 33 rfl w1.heap.size 48 i0 (.agg #[.slice none 0 0, .int .i64 0]) 2 32 Tryz.underlying33 hi0 hz0 hz1 hz2 rfl (by decide) _ _ _ rfl (HO.out.alloc _) ⟨wr.heap.size, 0, none⟩ 1 1 (cellsI (x1, x2, x3, x4)) rfl rfl ?c1 ?c2 ?c3 ?c4 ?c5 ?_)
        case c1 => intro j u hu; first | (simpa [cellsI] using hu) | exact World.news_of_block (heap_alloc_new _ _) j u hu
        case c2 => exact cellsI_one _
        case c3 => unfold maxLen; omega
        case c4 => omega
        case c5 => first | omega | (simp; omega)
        intro v' w7 hown' hgrow _
        have O7 := Lib.hid (show w7.ownsRow w1.heap.size 48 2 v' (O ++ [(x1, x2, x3, x4)]).length (flatC cellsI (O ++ [(x1, x2, x3, x4)])) by rw [flatC_snoc, List.length_append, hN]; exact hown')
        have L7 := Lib.hid ((HL.out.alloc hsz _).grown hgrow (by simp; omega) (fun g hg => (HO.out.lt g hg).1))
        clear hown' hgrow
        go_wp2
        go_ret
        rw [HE.out] at O7
        exact putP_of_own HB1.out O7.out HX.out HI2.out L7.out
      · have HE := Lib.hid (putAt_end HK.out)
        clear HK
        go_wp2
        go_ret
        rw [HE.out] at HO
        exact putP_of_own HB1.out HO.out HX.out HI2.out HL.out
end Go.Proofs.YtjjikooabmddlaaGreatDoor.Items

/-
  The contract of the document's Neg of items.
-/
namespace Go.Proofs.YtjjikooabmddlaaGreatDoor.Items
open Go.ChangeShapes Go.WideShapes Go.ChangeAt Go.RowKit Val Go.Proofs.YtjjikooabmddlaaGreatDoor.Code Go.Proofs.YtjjikooabmddlaaGreatDoor.Elems Go.Proofs.YtjjikooabmddlaaGreatDoor.ZP Go.Proofs.YtjjikooabmddlaaGreatDoor.Bits
set_option linter.unusedVariables false
set_option maxRecDepth 100000

/-- .. with an error -/
def ItemsPostE (w : World) (L : List It) (E : Int) (e : Ending) (w' : World) : Prop :=
  ∃ (A : Option Addr) (cap : Nat), e = .returned (.tuple #[.slice A L.length cap, .int .i64 E]) ∧ Items w' w'.heap.size A L ∧ Below w.heap.size w w'
theorem itemsPostE_own {w w' : World} {v : Value} {L M : List It} {E F : Int} (hL : M = L) (hE : F = E) (ho : w'.ownsRow w.heap.size 48 2 v L.length (flatC cellsI L)) (hv : ∀ x ∈ L, Vals w w.heap.size x.1 x.2.2.1) (hb : Below w.heap.size w w') : ItemsPostE w M F (.returned (.tuple #[v, .int .i64 E])) w' := by
  subst hL hE
  obtain ⟨A, cap, e, hI⟩ := own_items ho fun x hx => ((hv x hx).below hb).more hb.size
  exact ⟨A, cap, by rw [e], hI, hb⟩
theorem itemsPostE_none {w w' : World} {M : List It} {E F : Int} (hL : M = []) (hE : F = E) (hb : Below w.heap.size w w') : ItemsPostE w M F (.returned (.tuple #[.slice none 0 0, .int .i64 E])) w' := by
  subst hL hE
  exact ⟨none, 0, rfl, ⟨At.nil _ _ _, fun x hx => by cases hx⟩, hb⟩

def okN (L : List It) : Bool := L.all fun x => decide (x.2.2.2 ≠ -9223372036854775808)
def mapN (L : List It) : List It := L.map fun x => (x.1, x.2.1, x.2.2.1, -x.2.2.2)
def negI (L : List It) : List It := if okN L then mapN L else []
def negIE (L : List It) : Int := if okN L then 0 else 11
theorem mapN_length (L : List It) : (mapN L).length = L.length := by simp [mapN]
theorem pl_neg (L : List It) : pl (mapN L) = negP (pl L) := by
  unfold pl mapN negP
  rw [List.map_map, List.map_map]
  rfl
theorem mapN_snoc (L : List It) (k : Nat) (h : k < L.length) : mapN (L.take (k + 1)) = mapN (L.take k) ++ [(L[k].1, L[k].2.1, L[k].2.2.1, -L[k].2.2.2)] := by
  unfold mapN
  rw [List.take_succ_eq_append_getElem h, List.map_append]
  rfl
theorem okN_snoc (L : List It) (k : Nat) (h : k < L.length) : okN (L.take (k + 1)) = (okN (L.take k) && decide (L[k].2.2.2 ≠ -9223372036854775808)) := by
  unfold okN
  rw [List.take_succ_eq_append_getElem h, List.all_append]
  simp
theorem okN_not {L : List It} {k : Nat} (h : k < L.length) (g : L[k].2.2.2 = -9223372036854775808) : okN L = false := by
  unfold okN
  rw [List.all_eq_false]
  exact ⟨L[k], List.getElem_mem h, by simp [g]⟩
end Go.Proofs.YtjjikooabmddlaaGreatDoor.Items

/-
  The contract of the document's Right of items.
-/
namespace Go.Proofs.YtjjikooabmddlaaGreatDoor.Items
open Go.ChangeShapes Go.WideShapes Go.ChangeAt Go.RowKit Val Go.Proofs.YtjjikooabmddlaaGreatDoor.Code Go.Proofs.YtjjikooabmddlaaGreatDoor.Elems Go.Proofs.YtjjikooabmddlaaGreatDoor.ZP
set_option linter.unusedVariables false
set_option maxRecDepth 100000

/-- is the row greater than that before it? -/
def prevOk (L : List It) : Nat → List (Int × Int × ByteArray) → Bool
  | 0, _ => true
  | j + 1, r => match L[j]? with
    | none => true
    | some y => decide (cmpL y.2.2.1 r = -1)
theorem prevOk_zero (L : List It) (r : List (Int × Int × ByteArray)) : prevOk L 0 r = true := rfl
theorem prevOk_succ (L : List It) (j : Nat) (h : j < L.length) (r : List (Int × Int × ByteArray)) : prevOk L (j + 1) r = decide (cmpL L[j].2.2.1 r = -1) := by
  rw [prevOk, List.getElem?_eq_getElem h]
/-- is the item at i right, and greater than that before it? -/
def rightAt (L : List It) (i : Nat) : Bool :=
  match L[i]? with
  | none => true
  | some x => rightR x.2.2.1 && (x.2.2.2 != 0) && prevOk L i x.2.2.1
theorem rightAt_eq (L : List It) (k : Nat) (h : k < L.length) : rightAt L k = (rightR L[k].2.2.1 && (L[k].2.2.2 != 0) && prevOk L k L[k].2.2.1) := by
  unfold rightAt
  rw [List.getElem?_eq_getElem h]
def rightI (L : List It) : Bool := (List.range L.length).all (rightAt L)
theorem rightI_not {L : List It} {k : Nat} (h : k < L.length) (g : rightAt L k = false) : rightI L = false := by
  unfold rightI
  rw [List.all_eq_false]
  exact ⟨k, List.mem_range.2 h, by simp [g]⟩
theorem rightI_snoc (L : List It) (k : Nat) : (List.range (k + 1)).all (rightAt L) = ((List.range k).all (rightAt L) && rightAt L k) := by
  rw [List.range_succ, List.all_append]
  simp
theorem rightI_set {L : List It} (h : rightI L = true) : (∀ x ∈ L, rightR x.2.2.1 = true) ∧ IsSet (pl L) := by
  unfold rightI at h
  rw [List.all_eq_true] at h
  have ha : ∀ (i : Nat) (hi : i < L.length), rightR L[i].2.2.1 = true ∧ L[i].2.2.2 ≠ 0 := by
    intro i hi
    have h1 := h i (List.mem_range.2 hi)
    rw [rightAt_eq L i hi] at h1
    simp only [Bool.and_eq_true, bne_iff_ne, ne_eq] at h1
    exact ⟨h1.1.1, h1.1.2⟩
  have hb : ∀ (i : Nat) (hi : i + 1 < L.length), cmpL L[i].2.2.1 L[i + 1].2.2.1 = -1 := by
    intro i hi
    have h1 := h (i + 1) (List.mem_range.2 hi)
    rw [rightAt_eq L _ hi, prevOk_succ L i (by omega)] at h1
    simp only [Bool.and_eq_true, decide_eq_true_eq] at h1
    exact h1.2
  have hlt : ∀ (d i : Nat) (hi : i + d + 1 < L.length), cmpL L[i].2.2.1 L[i + d + 1].2.2.1 = -1 := by
    intro d
    induction d with
    | zero => exact fun i hi => hb i hi
    | succ d ih => exact fun i hi => cmpL_lt_trans (ih i (by omega)) (hb (i + d + 1) hi)
  refine ⟨fun x hx => ?_, ?_, fun x hx => ?_⟩
  · obtain ⟨i, hi, rfl⟩ := List.mem_iff_getElem.1 hx
    exact (ha i hi).1
  · unfold Rising pl
    rw [List.pairwise_map, List.pairwise_iff_getElem]
    intro i j hi hj hij
    have := hlt (j - i - 1) i (by omega)
    simp only [show i + (j - i - 1) + 1 = j by omega] at this
    exact this
  · obtain ⟨y, hy, rfl⟩ := List.mem_map.1 hx
    obtain ⟨i, hi, rfl⟩ := List.mem_iff_getElem.1 hy
    exact (ha i hi).2
theorem rightI_of {L : List It} (h : ∀ x ∈ L, rightR x.2.2.1 = true) (g : IsSet (pl L)) : rightI L = true := by
  unfold rightI
  rw [List.all_eq_true]
  intro i hi
  have hi := List.mem_range.1 hi
  rw [rightAt_eq L i hi]
  simp only [Bool.and_eq_true, bne_iff_ne, ne_eq]
  refine ⟨⟨h _ (List.getElem_mem hi), g.2 (pu L[i]) (List.mem_map.2 ⟨_, List.getElem_mem hi, rfl⟩)⟩, ?_⟩
  cases i with
  | zero => rfl
  | succ j =>
    rw [prevOk_succ L j (by omega)]
    have h1 := g.1
    unfold Rising pl at h1
    rw [List.pairwise_map, List.pairwise_iff_getElem] at h1
    exact decide_eq_true (h1 j (j + 1) (by omega) hi (by omega))
end Go.Proofs.YtjjikooabmddlaaGreatDoor.Items

/-
  What the document's Of answers, in plain words.
-/
namespace Go.Proofs.YtjjikooabmddlaaGreatDoor.Items
open Go.ChangeShapes Go.WideShapes Go.ChangeAt Go.RowKit Val Go.Proofs.YtjjikooabmddlaaGreatDoor.Code Go.Proofs.YtjjikooabmddlaaGreatDoor.Elems Go.Proofs.YtjjikooabmddlaaGreatDoor.ZP Go.Proofs.YtjjikooabmddlaaGreatDoor.Bits
set_option linter.unusedVariables false
set_option maxRecDepth 100000

/-- is no row before that at i the same? -/
def firstAt (L : List It) (i : Nat) : Bool :=
  match L[i]? with
  | none => false
  | some x => (L.take i).all fun y => !decide (y.2.2.1 = x.2.2.1)
theorem firstAt_eq (L : List It) (i : Nat) (h : i < L.length) : firstAt L i = (L.take i).all fun y => !decide (y.2.2.1 = L[i].2.2.1) := by
  unfold firstAt
  rw [List.getElem?_eq_getElem h]
theorem firstAt_iff (L : List It) (i : Nat) (h : i < L.length) : firstAt L i = true ↔ L[i].2.2.1 ∉ (L.take i).map (fun x : It => x.2.2.1) := by
  rw [firstAt_eq L i h, List.all_eq_true]
  constructor
  · intro g hm
    obtain ⟨y, hy, e⟩ := List.mem_map.1 hm
    have := g y hy
    simp [e] at this
  · intro g y hy
    have : ¬ y.2.2.1 = L[i].2.2.1 := fun e => g (List.mem_map.2 ⟨y, hy, e⟩)
    simp [this]
/-- the sum's items, of the first k -/
def ofI (L : List It) : Nat → List It
  | 0 => []
  | k + 1 => match L[k]? with
    | none => ofI L k
    | some x => if firstAt L k = true ∧ weightP (pl L) x.2.2.1 ≠ 0 then putI (x.1, x.2.1, x.2.2.1, weightP (pl L) x.2.2.1) (ofI L k) else ofI L k
theorem ofI_step (L : List It) (k : Nat) (h : k < L.length) : ofI L (k + 1) = if firstAt L k = true ∧ weightP (pl L) L[k].2.2.1 ≠ 0 then putI (L[k].1, L[k].2.1, L[k].2.2.1, weightP (pl L) L[k].2.2.1) (ofI L k) else ofI L k := by
  rw [ofI, List.getElem?_eq_getElem h]
theorem ofI_length (L : List It) : ∀ k, (ofI L k).length ≤ k
  | 0 => Nat.le_refl _
  | k + 1 => by
    have ih := ofI_length L k
    rw [ofI]
    split
    · omega
    · split
      · rw [putI_length]; omega
      · omega
/-- each row of it is one of the items' rows -/
theorem ofI_rows (L : List It) : ∀ k, ∀ x ∈ ofI L k, ∃ y ∈ L.take k, y.1 = x.1 ∧ y.2.1 = x.2.1 ∧ y.2.2.1 = x.2.2.1
  | 0, x, hx => by cases hx
  | k + 1, x, hx => by
    have hup : ∀ y ∈ L.take k, y ∈ L.take (k + 1) := fun y hy => List.take_subset_take_left L (Nat.le_succ k) hy
    have old : x ∈ ofI L k → ∃ y ∈ L.take (k + 1), y.1 = x.1 ∧ y.2.1 = x.2.1 ∧ y.2.2.1 = x.2.2.1 := fun h => by
      obtain ⟨y, hy, e⟩ := ofI_rows L k x h
      exact ⟨y, hup y hy, e⟩
    rw [ofI] at hx
    split at hx
    · exact old hx
    · rename_i z hz
      split at hx
      · rcases putI_mem hx with rfl | h
        · obtain ⟨hk, e⟩ := List.getElem?_eq_some_iff.1 hz
          exact ⟨z, by rw [← e]; exact List.mem_take_iff_getElem.2 ⟨k, by omega, rfl⟩, rfl, rfl, rfl⟩
        · exact old h
      · exact old hx
theorem ofI_all {L : List It} {P : Option Addr → List (Int × Int × ByteArray) → Prop} (h : ∀ x ∈ L, P x.1 x.2.2.1) (k : Nat) : ∀ x ∈ ofI L k, P x.1 x.2.2.1 := by
  intro x hx
  obtain ⟨y, hy, e1, e2, e3⟩ := ofI_rows L k x hx
  rw [← e1, ← e3]
  exact h y (List.mem_of_mem_take hy)
def rowsI (L : List It) : List (List (Int × Int × ByteArray)) := L.map fun x : It => x.2.2.1
/-- it is a set, and tells each row's weight of all items -/
theorem ofI_set (L : List It) : ∀ k, k ≤ L.length → IsSet (pl (ofI L k)) ∧ ∀ r, (r ∈ rowsI (L.take k) → weightP (pl (ofI L k)) r = weightP (pl L) r) ∧ (r ∉ rowsI (L.take k) → weightP (pl (ofI L k)) r = 0)
  | 0, _ => ⟨IsSet.nil, fun r => ⟨fun h => by simp [rowsI] at h, fun _ => rfl⟩⟩
  | k + 1, hk => by
    have h : k < L.length := by omega
    obtain ⟨ih1, ih2⟩ := ofI_set L k (by omega)
    have hf := firstAt_iff L k h
    have hm : ∀ r, r ∈ rowsI (L.take (k + 1)) ↔ r ∈ rowsI (L.take k) ∨ r = L[k].2.2.1 := by
      intro r
      unfold rowsI
      rw [List.take_succ_eq_append_getElem h, List.map_append, List.mem_append]
      simp
    have hno : firstAt L k = true → ∀ y ∈ pl (ofI L k), y.1 ≠ L[k].2.2.1 := by
      intro g y hy e
      obtain ⟨x, hx, rfl⟩ := List.mem_map.1 hy
      obtain ⟨z, hz, e1, e2, e3⟩ := ofI_rows L k x hx
      exact hf.1 g (List.mem_map.2 ⟨z, hz, e3.trans e⟩)
    rw [ofI_step L k h]
    split
    · rename_i g
      refine ⟨?_, fun r => ?_⟩
      · rw [pl_put]
        exact put_set _ g.2 ih1 (hno g.1)
      · rw [pl_put, put_weight]
        have hnot : L[k].2.2.1 ∉ rowsI (L.take k) := hf.1 g.1
        by_cases e : L[k].2.2.1 = r
        · subst e
          rw [(ih2 _).2 hnot, if_pos (show (pu (L[k].1, L[k].2.1, L[k].2.2.1, weightP (pl L) L[k].2.2.1)).1 = L[k].2.2.1 from rfl)]
          refine ⟨fun _ => ?_, fun h3 => absurd ((hm _).2 (.inr rfl)) h3⟩
          show weightP (pl L) L[k].2.2.1 + 0 = _
          omega
        · rw [if_neg (show ¬ (pu (L[k].1, L[k].2.1, L[k].2.2.1, weightP (pl L) L[k].2.2.1)).1 = r from e), Int.zero_add]
          refine ⟨fun h3 => (ih2 r).1 ?_, fun h3 => (ih2 r).2 fun h4 => h3 ((hm r).2 (.inl h4))⟩
          rcases (hm r).1 h3 with h4 | h4
          · exact h4
          · exact absurd h4.symm e
    · rename_i g
      refine ⟨ih1, fun r => ⟨fun h3 => ?_, fun h3 => (ih2 r).2 fun h4 => h3 ((hm r).2 (.inl h4))⟩⟩
      by_cases e2 : r ∈ rowsI (L.take k)
      · exact (ih2 r).1 e2
      · rcases (hm r).1 h3 with h4 | h4
        · exact absurd h4 e2
        · rw [(ih2 r).2 e2]
          subst h4
          refine Classical.byContradiction fun hw => g ⟨hf.2 e2, fun h5 => hw h5.symm⟩
theorem ofI_weight (L : List It) (r : List (Int × Int × ByteArray)) : weightP (pl (ofI L L.length)) r = weightP (pl L) r := by
  have h := (ofI_set L L.length (Nat.le_refl _)).2 r
  rw [List.take_length] at h
  by_cases e : r ∈ rowsI L
  · exact h.1 e
  · rw [h.2 e]
    refine (weightP_out fun x hx e2 => ?_).symm
    obtain ⟨y, hy, rfl⟩ := List.mem_map.1 hx
    exact e (List.mem_map.2 ⟨y, hy, e2⟩)
/-- do the weights of the first k rows fit? -/
def okK (L : List It) (k : Nat) : Bool := (L.take k).all fun x => decide (-9223372036854775808 ≤ weightP (pl L) x.2.2.1 ∧ weightP (pl L) x.2.2.1 ≤ 9223372036854775807)
theorem okK_snoc (L : List It) (k : Nat) (h : k < L.length) : okK L (k + 1) = (okK L k && decide (-9223372036854775808 ≤ weightP (pl L) L[k].2.2.1 ∧ weightP (pl L) L[k].2.2.1 ≤ 9223372036854775807)) := by
  unfold okK
  rw [List.take_succ_eq_append_getElem h, List.all_append, List.all_cons, List.all_nil, Bool.and_true]
theorem okK_all {L : List It} {k : Nat} (h : okK L k = true) : ∀ x ∈ L.take k, -9223372036854775808 ≤ weightP (pl L) x.2.2.1 ∧ weightP (pl L) x.2.2.1 ≤ 9223372036854775807 := by
  unfold okK at h
  rw [List.all_eq_true] at h
  exact fun x hx => of_decide_eq_true (h x hx)
/-- a row seen before needs no look -/
theorem okK_seen {L : List It} {k : Nat} (h : k < L.length) (hk : okK L k = true) (hf : firstAt L k = false) : okK L (k + 1) = true := by
  have hm : L[k].2.2.1 ∈ (L.take k).map (fun x : It => x.2.2.1) := by
    refine Classical.byContradiction fun g => ?_
    rw [(firstAt_iff L k h).2 g] at hf
    cases hf
  obtain ⟨y, hy, e⟩ := List.mem_map.1 hm
  have := okK_all hk y hy
  rw [e] at this
  rw [okK_snoc L k h, hk, decide_eq_true this]
  rfl
theorem okK_not {L : List It} {k : Nat} (h : k < L.length) (g : ¬ (-9223372036854775808 ≤ weightP (pl L) L[k].2.2.1 ∧ weightP (pl L) L[k].2.2.1 ≤ 9223372036854775807)) : okK L L.length = false := by
  unfold okK
  rw [List.take_length, List.all_eq_false]
  exact ⟨L[k], List.getElem_mem h, by simpa using g⟩
def okRows (L : List It) : Bool := L.all fun x => rightR x.2.2.1
def ofE (L : List It) : Int := if okRows L then if okK L L.length then 0 else 11 else 51
def ofL (L : List It) : List It := if okRows L && okK L L.length then ofI L L.length else []
end Go.Proofs.YtjjikooabmddlaaGreatDoor.Items

/-
  The contract of the document's Of of items.
-/
namespace Go.Proofs.YtjjikooabmddlaaGreatDoor.Items
open Go.ChangeShapes Go.WideShapes Go.ChangeAt Go.RowKit Val Go.Proofs.YtjjikooabmddlaaGreatDoor.Code Go.Proofs.YtjjikooabmddlaaGreatDoor.Elems Go.Proofs.YtjjikooabmddlaaGreatDoor.ZP Go.Proofs.YtjjikooabmddlaaGreatDoor.Bits
set_option linter.unusedVariables false
set_option maxRecDepth 100000

theorem okRows_snoc (L : List It) (k : Nat) (h : k < L.length) : okRows (L.take (k + 1)) = (okRows (L.take k) && rightR L[k].2.2.1) := by
  unfold okRows
  rw [List.take_succ_eq_append_getElem h, List.all_append]
  simp
theorem okRows_not {L : List It} {k : Nat} (h : k < L.length) (g : rightR L[k].2.2.1 = false) : okRows L = false := by
  unfold okRows
  rw [List.all_eq_false]
  exact ⟨L[k], List.getElem_mem h, by simp [g]⟩
/-- is none of the first j rows the same as that at i? -/
def noneTo (L : List It) (j : Nat) (r : List (Int × Int × ByteArray)) : Bool := (L.take j).all fun y => !decide (y.2.2.1 = r)
theorem noneTo_snoc (L : List It) (j : Nat) (h : j < L.length) (r : List (Int × Int × ByteArray)) : noneTo L (j + 1) r = (noneTo L j r && !decide (L[j].2.2.1 = r)) := by
  unfold noneTo
  rw [List.take_succ_eq_append_getElem h, List.all_append]
  simp
theorem itemsPostE_at {w w' : World} {L M : List It} {E F : Int} {A : Option Addr} {cap : Nat} (hL : M = L) (hE : F = E) (hI : Items w' w'.heap.size A L) (hb : Below w.heap.size w w') : ItemsPostE w M F (.returned (.tuple #[.slice A L.length cap, .int .i64 E])) w' := by
  subst hL hE
  exact ⟨A, cap, rfl, hI, hb⟩
set_option maxHeartbeats 8000000 in
set_option maxRecDepth 100000 in
theorem iof_any (A : Option Addr) (cap : Nat) (L : List It) (w : World) (hI : Items w w.heap.size A L) (hF : FitI L) (hl : L.length ≤ 4398046510976) (hs : ∀ x ∈ L, x.2.2.1.length ≤ 140737488355328) :
    Calls Tryz.prog 10 #[.slice A L.length cap] w (ItemsPostE w (ofL L) (ofE L)) := by
  have HI := Lib.hid hI
  have HF := Lib.hid hF
  have HSZ := Lib.hid hs
  clear hI hF hs
  go_enter Tryz.func10, Tryz.ntmps10
  go_wp2
  go_loopw [4] (fun i wr => ∃ k : Nat, k ≤ L.length ∧ i = .int .i64 k ∧ Hid (okRows (L.take k) = true) ∧ Hid (Below w.heap.size w wr)) (fun i _ => L.length - (intOf i).toNat)
  case atStart => exact ⟨0, by omega, rfl, Lib.hid rfl, Lib.hid (Below.refl _ _)⟩
  case round =>
    obtain ⟨k, hk, rfl, HK, HL⟩ := hrel
    have hsz := HL.out.size
    by_cases hlt : k < L.length
    · obtain ⟨ad, hA, ha, c0, c1, v0⟩ := HI.out.at k hlt
      subst hA
      have hll := HSZ.out _ (List.getElem_mem hlt)
      have HSN := Lib.hid (okRows_snoc L k hlt)
      have HNOT := Lib.hid (fun g => okRows_not (L := L) hlt g)
      obtain ⟨x, hx⟩ : ∃ x, L[k] = x := ⟨_, rfl⟩
      rw [hx] at c0 c1 v0 hll HSN HNOT
      clear hx
      obtain ⟨x1, x2, x3, x4⟩ := x
      simp only at c0 c1 v0 hll HSN HNOT
      obtain ⟨z, hz⟩ : ∃ z, rightR x3 = z := ⟨_, rfl⟩
      have hc := fun w' (h : Vals w' w'.heap.size x1 x3) => rrowRight_any x1 x2 x3 w' h hll
      rw [hz] at hc HSN HNOT
      have HC := Lib.hid hc
      have VX := Lib.hid ((v0.below HL.out).more hsz)
      clear hc v0 hz
      have hcz : (ad.add (k * 2)).block < w.heap.size := by rw [add_block]; exact ha
      have d0 := (HL.out.cell (p := ad.add (k * 2)) hcz).trans c0
      go_wp2_with fail
      refine (HC.out _ VX.out).mono ?_
      rintro e w2 ⟨rfl, hb2⟩
      have L2 := Lib.hid (bnext HL.out hsz hb2)
      clear hb2 c0 c1 d0 VX HC
      cases z
      · have HX := Lib.hid (HNOT.out rfl)
        go_wp2
        go_ret2
        exact itemsPostE_none (by unfold ofL; rw [HX.out]; rfl) (by unfold ofE; rw [HX.out]; rfl) L2.out
      · have HX := Lib.hid (show okRows (L.take (k + 1)) = true by rw [HSN.out, HK.out]; rfl)
        go_wp2
        go_roundw
        case rel => exact ⟨k + 1, by omega, by go_num, HX, L2⟩
        case measure => simp [intOf]; omega
    · have HR := Lib.hid (show okRows L = true by have := HK.out; rwa [List.take_of_length_le (by omega)] at this)
      clear HK
      go_wp2
      clear hlt hk
      go_loopw [6, 7] (fun v i w2 => ∃ (k : Nat) (B : Option Addr) (cb : Nat), k ≤ L.length ∧ i = .int .i64 k ∧ v = .slice B (ofI L k).length cb ∧ Hid (okK L k = true) ∧ Hid (Items w2 w2.heap.size B (ofI L k)) ∧ Hid (Below w.heap.size w w2)) (fun _ i _ => L.length - (intOf i).toNat)
      case atStart => exact ⟨0, none, 0, by omega, rfl, rfl, Lib.hid rfl, Lib.hid ⟨At.nil _ _ _, fun x hx => by cases hx⟩, HL⟩
      case round =>
        obtain ⟨k, B, cb, hk, rfl, rfl, HK, HO, HL2⟩ := hrel
        clear HL hsz
        rename World => w2
        have hsz2 := HL2.out.size
        by_cases hlt : k < L.length
        · obtain ⟨ad, hA, ha, c0, c1, v0⟩ := HI.out.at k hlt
          subst hA
          have hll := HSZ.out _ (List.getElem_mem hlt)
          have HW := Lib.hid (weight_any (some ad) L[k].1 cap L[k].2.1 L L[k].2.2.1)
          have HFIRST := Lib.hid (firstAt_eq L k hlt)
          have HSTEP := Lib.hid (ofI_step L k hlt)
          have HOKS := Lib.hid (okK_snoc L k hlt)
          have HSEEN := Lib.hid (fun h => okK_seen hlt HK.out h)
          have HNOT := Lib.hid (fun g => okK_not (L := L) hlt g)
          have HMEM := Lib.hid (List.getElem_mem hlt)
          obtain ⟨x, hx⟩ : ∃ x, L[k] = x := ⟨_, rfl⟩
          rw [hx] at c0 c1 v0 hll HFIRST HSTEP HOKS HNOT HMEM HW
          clear hx c1
          obtain ⟨x1, x2, x3, x4⟩ := x
          simp only at c0 v0 hll HFIRST HSTEP HOKS HNOT HW
          have hcz : (ad.add (k * 2)).block < w.heap.size := by rw [add_block]; exact ha
          go_wp2
          go_loopw [8, 9] (fun f i w3 => ∃ (j : Nat) (b : Bool), j ≤ k ∧ i = .int .i64 j ∧ f = .bool b ∧ Hid (b = noneTo L j x3) ∧ Hid (Below w2.heap.size w2 w3)) (fun _ i _ => k - (intOf i).toNat)
          case atStart => exact ⟨0, true, by omega, rfl, rfl, Lib.hid rfl, Lib.hid (Below.refl _ _)⟩
          case round =>
            obtain ⟨j, b, hj, rfl, rfl, HB, HM⟩ := hrel
            rename World => w3
            have hsz3 := HM.out.size
            have L3 := Lib.hid (bnext HL2.out hsz2 HM.out)
            have hsz23 := L3.out.size
            by_cases hjk : j < k
            · have hjl : j < L.length := by omega
              obtain ⟨bd, hA, hb, g0, g1, v1⟩ := HI.out.at j hjl
              obtain rfl : ad = bd := Option.some.inj hA
              have hll1 := HSZ.out _ (List.getElem_mem hjl)
              have HSN := Lib.hid (noneTo_snoc L j hjl x3)
              obtain ⟨y, hy⟩ : ∃ y, L[j] = y := ⟨_, rfl⟩
              rw [hy] at g0 v1 hll1 HSN
              clear hy g1
              obtain ⟨y1, y2, y3, y4⟩ := y
              simp only at g0 v1 hll1 HSN
              have hgz : (ad.add (j * 2)).block < w.heap.size := by rw [add_block]; exact ha
              have f0 := (L3.out.cell (p := ad.add (k * 2)) hcz).trans c0
              have g0' := (L3.out.cell (p := ad.add (j * 2)) hgz).trans g0
              have V0 := Lib.hid ((v0.below L3.out).more hsz23)
              have V1 := Lib.hid ((v1.below L3.out).more hsz23)
              obtain ⟨z, hz⟩ : ∃ z, decide (y3 = x3) = z := ⟨_, rfl⟩
              have hs := fun (w' : World) (h1 : Vals w' w'.heap.size y1 y3) (h2 : Vals w' w'.heap.size x1 x3) => rrowSame_any y1 x1 y2 x2 y3 x3 w' h1 h2 hll1 hll
              rw [hz] at hs HSN
              have HS := Lib.hid hs
              clear hs hz v1 g0
              have z0 : (ad.add (j * 2)).block < w3.heap.size := Nat.lt_of_lt_of_le hgz hsz23
              have z1 : (ad.add (k * 2)).block < w3.heap.size := Nat.lt_of_lt_of_le hcz hsz23
              obtain ⟨p, hp⟩ : ∃ p, ad.add (j * 2) = p := ⟨_, rfl⟩
              obtain ⟨q, hq⟩ : ∃ q, ad.add (k * 2) = q := ⟨_, rfl⟩
              go_wp2_with fail
              rw [hp] at g0' z0
              rw [hq] at f0 z1
              go_region_held3 (fun w' => (w'.cell? p = some (.slice y1 y3.length y2) ∧ w'.cell? q = some (.slice x1 x3.length x2)) ∧ Below w3.heap.size w3 w')
                (first | assumption | (refine keepP hb5 (by assumption) ?_; intro kk; exact ⟨(kk p z0).trans g0', (kk q z1).trans f0⟩) | (exact ⟨⟨g0', f0⟩, Below.drew (Below.refl _ _)⟩))
                (first | (go_at_call 26; refine (HS.out _ ?cv ?cu).mono ?_; (case cv => exact V1.out); (case cu => exact V0.out); rintro e w5 ⟨rfl, hb5⟩))
              rename World => w6
              have M1 := Lib.hid (show Below w3.heap.size w3 w6 by rename_i hS; exact hS.2)
              have L6 := Lib.hid (bnext HM.out hsz3 M1.out)
              have HB2 := Lib.hid (show (b && !z) = noneTo L (j + 1) x3 by rw [HSN.out, ← HB.out])
              clear HSN HB
              cases b
              · go_wp2
                go_roundw
                case rel => exact ⟨j + 1, false, by omega, by go_num, rfl, HB2, L6⟩
                case measure => simp [intOf]; omega
              · go_wp2
                go_roundw
                case rel => exact ⟨j + 1, !z, by omega, by go_num, rfl, HB2, L6⟩
                case measure => simp [intOf]; omega
            · obtain rfl : j = k := by omega
              have HFI := Lib.hid (show firstAt L j = b from HFIRST.out.trans HB.out.symm)
              clear HFIRST HB
              have O3 := Lib.hid ((HO.out.below HM.out).more hsz3)
              cases b
              · have HX := Lib.hid (show ofI L (j + 1) = ofI L j by rw [HSTEP.out, if_neg (by rw [HFI.out]; simp)])
                have HK2 := Lib.hid (HSEEN.out HFI.out)
                go_wp2
                go_roundw
                case rel => exact ⟨j + 1, B, cb, by omega, by go_num, by rw [HX.out], HK2, Lib.hid (by rw [HX.out]; exact O3.out), L3⟩
                case measure => simp [intOf]; omega
              · obtain ⟨t, ht⟩ : ∃ t, weightP (pl L) x3 = t := ⟨_, rfl⟩
                have hwc := HW.out w3 ((HI.out.below L3.out).more hsz23) HF.out hl HSZ.out ((v0.below L3.out).more hsz23) hll
                rw [ht] at hwc HSTEP HOKS HNOT
                have f0 := (L3.out.cell (p := ad.add (j * 2)) hcz).trans c0
                clear HW
                by_cases hfit : -9223372036854775808 ≤ t ∧ t ≤ 9223372036854775807
                · have e1 : fitE t = 0 := by unfold fitE; rw [if_pos hfit]
                  have e2 : fitN t = t := by unfold fitN; rw [if_pos hfit]
                  rw [e1, e2] at hwc
                  have HWC := Lib.hid hwc
                  have HK2 := Lib.hid (show okK L (j + 1) = true by rw [HOKS.out, HK.out, decide_eq_true hfit]; rfl)
                  clear hwc e1 e2 hfit ht HOKS HNOT
                  go_wp2_with fail
                  refine HWC.out.mono ?_
                  rintro e w4 ⟨rfl, hb4⟩
                  have L4 := Lib.hid (bnext L3.out hsz23 hb4)
                  have O4 := Lib.hid ((O3.out.below hb4).more hb4.size)
                  have hsz4 := L4.out.size
                  have f4 := (L4.out.cell (p := ad.add (j * 2)) hcz).trans c0
                  clear hb4 f0 HWC
                  by_cases h0 : t = 0
                  · subst h0
                    have HX := Lib.hid (show ofI L (j + 1) = ofI L j by rw [HSTEP.out, if_neg (by simp)])
                    go_wp2
                    go_roundw
                    case rel => exact ⟨j + 1, B, cb, by omega, by go_num, by rw [HX.out], HK2, Lib.hid (by rw [HX.out]; exact O4.out), L4⟩
                    case measure => simp [intOf]; omega
                  · have h0' : (t != 0) = true := by simpa using h0
                    have HX := Lib.hid (show ofI L (j + 1) = putI (x1, x2, x3, t) (ofI L j) by rw [HSTEP.out, if_pos ⟨HFI.out, h0⟩])
                    have HV4 := Lib.hid ((v0.below L4.out).more hsz4)
                    obtain ⟨N, hN⟩ : ∃ N, ofI L j = N := ⟨_, rfl⟩
                    have hNl : N.length ≤ 4398046510976 := by rw [← hN]; exact Nat.le_trans (ofI_length L j) (by omega)
                    have HNS := Lib.hid (show ∀ y ∈ N, y.2.2.1.length ≤ 140737488355328 by rw [← hN]; exact ofI_all (P := fun _ r => r.length ≤ 140737488355328) HSZ.out j)
                    rw [hN] at O4 HX ⊢
                    have HPUT := Lib.hid (put_any B cb N x1 x2 x3 t w4 O4.out HV4.out hNl HNS.out hll)
                    clear hN h0 HSTEP
                    go_wp2_with fail
                    refine HPUT.out.mono ?_
                    rintro e w5 ⟨C, cc, rfl, hI5, hb5⟩
                    have L5 := Lib.hid (bnext L4.out hsz4 hb5)
                    have HI5 := Lib.hid hI5
                    clear hI5 hb5 HPUT
                    go_wp2
                    go_roundw
                    case rel => exact ⟨j + 1, C, cc, by omega, by go_num, by rw [HX.out], HK2, Lib.hid (by rw [HX.out]; exact HI5.out), L5⟩
                    case measure => simp [intOf]; omega
                · have e1 : fitE t = 11 := by unfold fitE; rw [if_neg hfit]
                  obtain ⟨f, hf⟩ : ∃ f, fitN t = f := ⟨_, rfl⟩
                  rw [e1, hf] at hwc
                  have HWC := Lib.hid hwc
                  have HX := Lib.hid (HNOT.out hfit)
                  clear hwc e1 hf hfit ht HOKS HNOT HSTEP
                  go_wp2_with fail
                  refine HWC.out.mono ?_
                  rintro e w4 ⟨rfl, hb4⟩
                  have L4 := Lib.hid (bnext L3.out hsz23 hb4)
                  clear hb4 HWC
                  go_wp2
                  go_ret2
                  exact itemsPostE_none (by unfold ofL; rw [HR.out, HX.out]; rfl) (by unfold ofE; rw [HR.out, HX.out]; rfl) L4.out
        · obtain rfl : k = L.length := by omega
          go_wp2
          go_ret2
          exact itemsPostE_at (by unfold ofL; rw [HR.out, HK.out]; rfl) (by unfold ofE; rw [HR.out, HK.out]; rfl) HO.out HL2.out
end Go.Proofs.YtjjikooabmddlaaGreatDoor.Items

/-
  The contract of the document's Add of items.
-/
namespace Go.Proofs.YtjjikooabmddlaaGreatDoor.Items
open Go.ChangeShapes Go.WideShapes Go.ChangeAt Go.RowKit Val Go.Proofs.YtjjikooabmddlaaGreatDoor.Code Go.Proofs.YtjjikooabmddlaaGreatDoor.Elems Go.Proofs.YtjjikooabmddlaaGreatDoor.ZP Go.Proofs.YtjjikooabmddlaaGreatDoor.Bits
set_option linter.unusedVariables false
set_option maxRecDepth 100000

theorem own_empty (w : World) {B : Nat} (hB : B ≤ w.heap.size) : (w.alloc (.cells #[] 48)).ownsRow B 48 2 (.slice (some ⟨w.heap.size, 0, none⟩) 0 0) 0 (flatC cellsI []) :=
  ⟨rfl, .inr ⟨w.heap.size, 0, #[], rfl, hB, heap_alloc_new w _, Nat.le_refl _, by unfold maxLen; omega, rfl, rfl⟩⟩
theorem pl_mem_fit {L : List It} (h : FitI L) : ∀ x ∈ pl L, fits x.2 := fun x hx => by
  obtain ⟨y, hy, rfl⟩ := List.mem_map.1 hx
  exact (h y hy).2
set_option maxHeartbeats 4000000 in
theorem iadd_any (A B : Option Addr) (ca cb : Nat) (a b : List It) (w : World) (hA : Items w w.heap.size A a) (hB : Items w w.heap.size B b) (fa : FitI a) (fb : FitI b) (hl : a.length + b.length ≤ 4398046510976) (sa : ∀ x ∈ a, x.2.2.1.length ≤ 140737488355328) (sb : ∀ x ∈ b, x.2.2.1.length ≤ 140737488355328) :
    Calls Tryz.prog 33 #[.slice A a.length ca, .slice B b.length cb] w (ItemsPostE w (ofL (a ++ b)) (ofE (a ++ b))) := by
  have HA := Lib.hid hA
  have HB := Lib.hid hB
  have hof := (fun (C : Option Addr) (cc : Nat) (w' : World) (h : Items w' w'.heap.size C (a ++ b)) => iof_any C cc (a ++ b) w' h (fun x hx => by rcases List.mem_append.1 hx with h | h; exact fa x h; exact fb x h) (by rw [List.length_append]; exact hl) (fun x hx => by rcases List.mem_append.1 hx with h | h; exact sa x h; exact sb x h))
  obtain ⟨R, hR⟩ : ∃ R, ofL (a ++ b) = R := ⟨_, rfl⟩
  obtain ⟨E, hE⟩ : ∃ E, ofE (a ++ b) = E := ⟨_, rfl⟩
  rw [hR, hE] at hof ⊢
  have HOF := Lib.hid hof
  clear hR hE hof
  have HLEN := Lib.hid (show (a ++ b).length = a.length + b.length from List.length_append)
  have HFL := Lib.hid (show flatC cellsI (a ++ b) = flatC cellsI a ++ flatC cellsI b from flatC_append _ _)
  clear hA hB fa fb sa sb
  obtain ⟨i0, hi0, hz0, hz1, hz2⟩ := info_parts info_item
  go_enter Tryz.func33, Tryz.ntmps33
  have HA1 := Lib.hid ((HA.out.below (below_alloc w (.cells #[] 48))))
  go_wp2_with (at_builtin; refine wpList_append_at cellsI_length (by decide) cellsI_one rfl _ _ 33 rfl w.heap.size 48 i0 (.agg #[.slice none 0 0, .int .i64 0]) 32 Tryz.underlying33 hi0 hz0 hz1 hz2 rfl _ 0 _ rfl (own_empty w (Nat.le_refl _)) w.heap.size A ca a rfl HA1.out.1 ?c1 ?c2 ?c3 ?_)
  case c1 => unfold maxLen; omega
  case c2 => omega
  case c3 => first | omega | (simp; omega) | simp
  intro v1 w1 hown1 hgrow1
  have L1 := Lib.hid (((Below.refl w.heap.size w).alloc (Nat.le_refl _) (.cells #[] 48)).grown hgrow1 (by simp) (fun g hg => by simp only [Value.ownBlock, Option.some.injEq] at hg; omega))
  have hsz := L1.out.size
  have O1 := Lib.hid (show w1.ownsRow w.heap.size 48 2 v1 a.length (flatC cellsI a) by simpa [flatC] using hown1)
  have HB1 := Lib.hid (HB.out.below L1.out)
  clear hown1 hgrow1
  go_wp2_with (at_builtin; refine wpList_append_at cellsI_length (by decide) cellsI_one rfl _ _ 33 rfl w.heap.size 48 i0 (.agg #[.slice none 0 0, .int .i64 0]) 32 Tryz.underlying33 hi0 hz0 hz1 hz2 rfl _ a.length _ rfl O1.out w.heap.size B cb b rfl HB1.out.1 ?c1 ?c2 ?c3 ?_)
  case c1 => unfold maxLen; omega
  case c2 => omega
  case c3 => omega
  intro v2 w2 hown2 hgrow2
  have L2 := Lib.hid (L1.out.grown hgrow2 hsz (fun g hg => (O1.out.lt g hg).1))
  have O2 := Lib.hid (show w2.ownsRow w.heap.size 48 2 v2 (a ++ b).length (flatC cellsI (a ++ b)) by rw [HLEN.out, HFL.out]; exact hown2)
  have hsz2 := L2.out.size
  clear hown2 hgrow2
  obtain ⟨C, cc, rfl, hI⟩ := own_items O2.out (fun x hx => by
    rcases List.mem_append.1 hx with h | h
    · exact ((HA.out.2 x h).below L2.out).more hsz2
    · exact ((HB.out.2 x h).below L2.out).more hsz2)
  have HC := Lib.hid (HOF.out C cc w2 hI)
  clear hI
  obtain ⟨N, hN⟩ : ∃ N, a ++ b = N := ⟨_, rfl⟩
  rw [hN] at HC ⊢
  clear hN
  go_wp2_with fail
  refine HC.out.mono ?_
  rintro e w3 ⟨D, cd, rfl, hI3, hb3⟩
  have L3 := Lib.hid (bnext L2.out hsz2 hb3)
  have HI3 := Lib.hid hI3
  clear hb3 hI3
  go_wp2
  go_ret2
  exact itemsPostE_at rfl rfl HI3.out L3.out
end Go.Proofs.YtjjikooabmddlaaGreatDoor.Items

/-
  Answers told by what they say, wherever they lie; lists of lists of items.
-/
namespace Go.Proofs.YtjjikooabmddlaaGreatDoor.Items
open Go.ChangeShapes Go.WideShapes Go.ChangeAt Go.RowKit Val Go.Proofs.YtjjikooabmddlaaGreatDoor.Code Go.Proofs.YtjjikooabmddlaaGreatDoor.Elems Go.Proofs.YtjjikooabmddlaaGreatDoor.ZP Go.Proofs.YtjjikooabmddlaaGreatDoor.Bits
set_option linter.unusedVariables false
set_option maxRecDepth 100000

/-- an answer told by what it says -/
def SetPost (w : World) (Q : List (List (Int × Int × ByteArray) × Int)) (E : Int) (e : Ending) (w' : World) : Prop :=
  ∃ (A : Option Addr) (cap : Nat) (M : List It), e = .returned (.tuple #[.slice A M.length cap, .int .i64 E]) ∧ Items w' w'.heap.size A M ∧ pl M = Q ∧ Below w.heap.size w w'
/-- lists of items in memory -/
def SetsAt (w : World) (B : Nat) (G : Option Addr) (LS : List (Option Addr × Nat × List It)) : Prop :=
  ∀ (i : Nat) (h : i < LS.length), (∃ ad : Addr, G = some ad ∧ ad.block < B ∧ w.cell? (ad.add i) = some (.slice LS[i].1 LS[i].2.2.length LS[i].2.1)) ∧ Items w B LS[i].1 LS[i].2.2
def catS (LS : List (Option Addr × Nat × List It)) : List It := LS.flatMap (·.2.2)
theorem Items.next {w w' : World} {A : Option Addr} {L : List It} (h : Items w w.heap.size A L) (hb : Below w.heap.size w w') : Items w' w'.heap.size A L := (h.below hb).more hb.size
theorem setsAt_two (w : World) (A B : Option Addr) (ca cb : Nat) (a b : List It) (t : TypeId) (hA : Items w w.heap.size A a) (hB : Items w w.heap.size B b) :
    SetsAt (w.alloc (.cells #[.slice A a.length ca, .slice B b.length cb] t)) (w.alloc (.cells #[.slice A a.length ca, .slice B b.length cb] t)).heap.size (some ⟨w.heap.size, 0, none⟩) [(A, ca, a), (B, cb, b)] := by
  have hb := below_alloc w (.cells #[.slice A a.length ca, .slice B b.length cb] t)
  have hn := World.news_of_block (heap_alloc_new w (.cells #[.slice A a.length ca, .slice B b.length cb] t))
  have hz : w.heap.size < (w.alloc (.cells #[.slice A a.length ca, .slice B b.length cb] t)).heap.size := by simp
  intro i hi
  match i, hi with
  | 0, _ => exact ⟨⟨_, rfl, hz, hn 0 _ rfl⟩, hA.next hb⟩
  | 1, _ => exact ⟨⟨_, rfl, hz, hn 1 _ rfl⟩, hB.next hb⟩
theorem catS_two (A B : Option Addr) (ca cb : Nat) (a b : List It) : catS [(A, ca, a), (B, cb, b)] = a ++ b := by simp [catS]
theorem pl_short {M L : List It} (h : pl M = pl L) : M.length = L.length := by
  have := congrArg List.length h
  rwa [pl_length, pl_length] at this
theorem pl_rows {M L : List It} {P : List (Int × Int × ByteArray) → Int → Prop} (h : pl M = pl L) (g : ∀ x ∈ L, P x.2.2.1 x.2.2.2) : ∀ x ∈ M, P x.2.2.1 x.2.2.2 := by
  intro x hx
  have : pu x ∈ pl L := by rw [← h]; exact List.mem_map.2 ⟨x, hx, rfl⟩
  obtain ⟨y, hy, e⟩ := List.mem_map.1 this
  have h1 := congrArg Prod.fst e
  have h2 := congrArg Prod.snd e
  have := g y hy
  simp only [pu] at h1 h2
  rwa [h1, h2] at this
theorem okN_pl {M L : List It} (h : pl M = pl L) : okN M = okN L := by
  have : ∀ L : List It, okN L = (pl L).all fun x => decide (x.2 ≠ -9223372036854775808) := fun L => by
    unfold okN pl
    rw [List.all_map]
    rfl
  rw [this, this, h]
theorem negI_pl {M L : List It} (h : pl M = pl L) : pl (negI M) = pl (negI L) ∧ negIE M = negIE L := by
  unfold negI negIE
  rw [okN_pl h]
  refine ⟨?_, rfl⟩
  split
  · rw [pl_neg, pl_neg, h]
  · rfl
theorem ofL_length (L : List It) : (ofL L).length ≤ L.length := by
  unfold ofL
  split
  · exact ofI_length L _
  · simp
theorem ofL_weights (L : List It) : ∀ x ∈ ofL L, fits x.2.2.2 := by
  intro x hx
  unfold ofL at hx
  split at hx
  · rename_i h
    rw [Bool.and_eq_true] at h
    have h1 := mem_weight (ofI_set L L.length (Nat.le_refl _)).1 (pu x) (List.mem_map.2 ⟨x, hx, rfl⟩)
    rw [ofI_weight] at h1
    obtain ⟨y, hy, _, _, e⟩ := ofI_rows L _ x hx
    have := okK_all h.2 y hy
    rw [e] at this
    simp only [pu] at h1
    rw [h1] at this
    exact this
  · cases hx
theorem ofL_rows {L : List It} {P : List (Int × Int × ByteArray) → Prop} (h : ∀ x ∈ L, P x.2.2.1) : ∀ x ∈ ofL L, P x.2.2.1 := by
  intro x hx
  unfold ofL at hx
  split at hx
  · exact ofI_all (P := fun _ r => P r) h L.length x hx
  · cases hx
theorem ofL_right (L : List It) : rightI (ofL L) = true := by
  unfold ofL
  split
  · rename_i h
    rw [Bool.and_eq_true] at h
    refine rightI_of (ofI_all (P := fun _ r => rightR r = true) (fun x hx => ?_) _) (ofI_set L L.length (Nat.le_refl _)).1
    have h1 := h.1
    unfold okRows at h1
    rw [List.all_eq_true] at h1
    exact h1 x hx
  · rfl
theorem right_pl {M L : List It} (h : pl M = pl L) (g : rightI L = true) : rightI M = true := by
  obtain ⟨h1, h2⟩ := rightI_set g
  exact rightI_of (pl_rows (P := fun r _ => rightR r = true) h h1) (by rw [h]; exact h2)
theorem isame_true (A B : Option Addr) (ca cb : Nat) (a b : List It) (w : World) (h : pl a = pl b) (hA : Items w w.heap.size A a) (hB : Items w w.heap.size B b) (hl : a.length ≤ 140737488355328) (hl2 : b.length ≤ 140737488355328) (la : ∀ x ∈ a, x.2.2.1.length ≤ 140737488355328) (lb : ∀ x ∈ b, x.2.2.1.length ≤ 140737488355328) :
    Calls Tryz.prog 19 #[.slice A a.length ca, .slice B b.length cb] w fun e w' => e = .returned (.bool true) ∧ Below w.heap.size w w' := by
  have := isame_any A B ca cb a b w hA hB hl hl2 la lb
  rwa [decide_eq_true h] at this
end Go.Proofs.YtjjikooabmddlaaGreatDoor.Items
