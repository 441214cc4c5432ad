/-
  The contract of Same of package zset.
-/
import Derived.Test.YtlejhimcaidbeaaItemsAll
import Derived.Test.YtlejhimcaidbeaaRowVCmp
namespace Go.Proofs.Ytlejhimcaidbeaa.Items
open Go.ChangeShapes Go.WideShapes Go.ChangeAt Go.RowKit Val Go.Proofs.Ytlejhimcaidbeaa.Code Go.Proofs.Ytlejhimcaidbeaa.Elems Go.Proofs.Ytlejhimcaidbeaa.ZP Go.Proofs.Ytlejhimcaidbeaa.Bits
set_option linter.unusedVariables false
set_option maxRecDepth 100000

set_option maxHeartbeats 2000000 in
theorem sameI_any (x1 y1 : Option Addr) (x2 y2 : Nat) (x3 y3 : List (Int × Int × ByteArray)) (x4 y4 : Int) (w : World) (hx : Vals w w.heap.size x1 x3) (hy : Vals w w.heap.size y1 y3) (lx : x3.length ≤ 140737488355328) (ly : y3.length ≤ 140737488355328) :
    Calls Try.prog 42 #[.agg #[.slice x1 x3.length x2, .int .i64 x4], .agg #[.slice y1 y3.length y2, .int .i64 y4]] w fun e w' => e = .returned (.bool (x4 == y4 && cmpL x3 y3 == 0)) ∧ Below w.heap.size w w' := by
  have HX := Lib.hid hx
  have HY := Lib.hid hy
  clear hx hy
  have hb : Below w.heap.size w ((w.alloc (.cells #[.slice x1 x3.length x2, .int .i64 x4] 48)).alloc (.cells #[.slice y1 y3.length y2, .int .i64 y4] 48)) := (below_alloc w _).alloc (by simp) _
  have HB := Lib.hid hb
  by_cases h : x4 = y4
  · subst h
    obtain ⟨b, hbq⟩ : ∃ b, (cmpL x3 y3 == 0) = b := ⟨_, rfl⟩
    have hc := rowSame_any x1 y1 x2 y2 x3 y3 _ ((HX.out.below hb).more hb.size) ((HY.out.below hb).more hb.size) lx ly
    rw [hbq] at hc ⊢
    have HC := Lib.hid hc
    clear hc hbq hb
    go_enter Try.func42, Try.ntmps42
    go_wp2_with fail
    refine HC.out.mono ?_
    rintro e w1 ⟨rfl, hb1⟩
    have L1 := Lib.hid (bnext HB.out HB.out.size hb1)
    clear hb1
    go_wp2
    go_ret
    exact ⟨by simp, L1.out⟩
  · have h1 : (x4 == y4) = false := by simpa using h
    rw [h1]
    clear hb
    go_enter Try.func42, Try.ntmps42
    go_wp2
    go_ret
    exact ⟨by simp, HB.out⟩
theorem pu_eq (x y : It) : (x.2.2.2 == y.2.2.2 && cmpL x.2.2.1 y.2.2.1 == 0) = decide (pu x = pu y) := by
  rw [Bool.eq_iff_iff, Bool.and_eq_true, beq_iff_eq, beq_iff_eq, decide_eq_true_iff]
  unfold pu
  rw [Prod.mk.injEq]
  exact ⟨fun h => ⟨cmpL_zero h.2, h.1⟩, fun h => ⟨h.2, by rw [h.1, cmpL_self]⟩⟩

set_option maxHeartbeats 4000000 in
theorem zequal_any (A B : Option Addr) (ca cb : Nat) (a b : List It) (w : World) (hA : Items w w.heap.size A a) (hB : Items w w.heap.size B b) (hl : a.length ≤ 140737488355328) (hl2 : b.length ≤ 140737488355328) (la : ∀ x ∈ a, x.2.2.1.length ≤ 140737488355328) (lb : ∀ x ∈ b, x.2.2.1.length ≤ 140737488355328) :
    Calls Try.prog 41 #[.slice A a.length ca, .slice B b.length cb, .func (.func 42) #[] #[]] w fun e w' => e = .returned (.bool (decide (pl a = pl b))) ∧ Below w.heap.size w w' := by
  have HA := Lib.hid hA
  have HB := Lib.hid hB
  have LA := Lib.hid la
  have LB := Lib.hid lb
  clear hA hB la lb
  by_cases hlen : a.length = b.length
  · have hlen2 : ((a.length : Int) != (b.length : Int)) = false := by simp [hlen]
    have HLEN := Lib.hid hlen
    clear hlen
    go_enter Try.func41, Try.ntmps41
    go_wp2
    go_loopw [17] (fun i wr => ∃ k : Nat, k ≤ a.length ∧ i = .int .i64 k ∧ Hid (pl (a.take k) = pl (b.take k)) ∧ Hid (Below w.heap.size w wr)) (fun i _ => a.length - (intOf i).toNat)
    case atStart => exact ⟨0, by omega, rfl, Lib.hid rfl, Lib.hid (Below.refl _ _)⟩
    case round =>
      obtain ⟨k, hk, rfl, HK, HL⟩ := hrel
      have hsz := HL.out.size
      by_cases hlt : k < a.length
      · have hlt2 : k < b.length := by have := HLEN.out; omega
        obtain ⟨ad, rfl, ha, c0, c1, v0⟩ := (HA.out.below HL.out).at k hlt
        obtain ⟨bd, rfl, hb, d0, d1, v1⟩ := (HB.out.below HL.out).at k hlt2
        have hla := LA.out _ (List.getElem_mem hlt)
        have hlb := LB.out _ (List.getElem_mem hlt2)
        have HS := Lib.hid (show pl (a.take (k + 1)) = pl (b.take (k + 1)) ↔ pu a[k] = pu b[k] by
          rw [pl_snoc a k hlt, pl_snoc b k hlt2, HK.out]
          simp)
        have HN := Lib.hid (show pu a[k] ≠ pu b[k] → pl a ≠ pl b from fun h e => h (by
          have h1 : (pl a)[k]? = (pl b)[k]? := by rw [e]
          unfold pl at h1
          rw [List.getElem?_map, List.getElem?_map, List.getElem?_eq_getElem hlt, List.getElem?_eq_getElem hlt2] at h1
          simpa using h1))
        have HPU := Lib.hid (pu_eq a[k] b[k])
        obtain ⟨x, hx⟩ : ∃ x, a[k] = x := ⟨_, rfl⟩
        obtain ⟨y, hy⟩ : ∃ y, b[k] = y := ⟨_, rfl⟩
        rw [hx] at c0 c1 v0 hla HS HN HPU
        rw [hy] at d0 d1 v1 hlb HS HN HPU
        clear hx hy
        obtain ⟨x1, x2, x3, x4⟩ := x
        obtain ⟨y1, y2, y3, y4⟩ := y
        simp only at c0 c1 v0 hla d0 d1 v1 hlb HPU
        obtain ⟨W, hW⟩ : ∃ W, (wr.alloc (.cells #[.slice x1 x3.length x2, .int .i64 x4] 48)).alloc (.cells #[.slice y1 y3.length y2, .int .i64 y4] 48) = W := ⟨_, rfl⟩
        have hbW : Below wr.heap.size wr W := hW ▸ (below_alloc wr _).alloc (by simp) _
        have LW := Lib.hid (bnext HL.out hsz hbW)
        have k0 : W.cell? ⟨wr.heap.size, 0, none⟩ = some (.slice x1 x3.length x2) := by rw [← hW]; simp [go_sem]
        have k1 : W.cell? ⟨wr.heap.size, 1, none⟩ = some (.int .i64 x4) := by rw [← hW]; simp [go_sem]
        have k2 : W.cell? ⟨wr.heap.size + 1, 0, none⟩ = some (.slice y1 y3.length y2) := by rw [← hW]; simp [go_sem]
        have k3 : W.cell? ⟨wr.heap.size + 1, 1, none⟩ = some (.int .i64 y4) := by rw [← hW]; simp [go_sem]
        have VX := Lib.hid ((v0.more hsz).below hbW)
        have VY := Lib.hid ((v1.more hsz).below hbW)
        obtain ⟨c, hc⟩ : ∃ c, (x4 == y4 && cmpL x3 y3 == 0) = c := ⟨_, rfl⟩
        have hcall := sameI_any x1 y1 x2 y2 x3 y3 x4 y4 W (VX.out.more hbW.size) (VY.out.more hbW.size) hla hlb
        rw [hc] at hcall HPU
        have HC := Lib.hid hcall
        have e0 : ∀ o, (wr.alloc o).cell? (bd.add (k * 2)) = some (.slice y1 y3.length y2) := fun o => (World.cell?_alloc_old wr _ _ (by rw [add_block]; omega)).trans d0
        have e1 : ∀ o, (wr.alloc o).cell? ⟨(bd.add (k * 2)).block, (bd.add (k * 2)).off + 1, none⟩ = some (.int .i64 y4) := fun o => (World.cell?_alloc_old wr _ _ (by rw [add_block]; omega)).trans d1
        clear hcall hc v0 v1 hbW
        go_wp2_with fail
        refine HC.out.mono ?_
        rintro e w1 ⟨rfl, hb1⟩
        have L1 := Lib.hid (bnext LW.out LW.out.size hb1)
        clear hb1 HC hW
        cases c
        · have HE := Lib.hid (HN.out (of_decide_eq_false HPU.out.symm))
          go_wp2
          go_ret
          exact ⟨retB (decide_eq_false HE.out).symm, L1.out⟩
        · have HE := Lib.hid (HS.out.2 (of_decide_eq_true HPU.out.symm))
          go_wp2
          go_roundw
          case rel => exact ⟨k + 1, by omega, by go_num, HE, L1⟩
          case measure => simp [intOf]; omega
      · obtain rfl : k = a.length := by omega
        have HE := Lib.hid (show pl a = pl b by
          have := HK.out
          rw [List.take_length, List.take_of_length_le (by have := HLEN.out; omega)] at this
          exact this)
        go_wp2
        go_ret
        exact ⟨retB (decide_eq_true HE.out).symm, HL.out⟩
  · have hlen2 : ((a.length : Int) != (b.length : Int)) = true := by simp; omega
    have HE := Lib.hid (show pl a ≠ pl b from fun e => hlen (pl_short e))
    go_enter Try.func41, Try.ntmps41
    go_wp2
    go_ret
    exact ⟨retB (decide_eq_false HE.out).symm, Below.refl _ _⟩
theorem zsame_any (A B : Option Addr) (ca cb : Nat) (a b : List It) (w : World) (hA : Items w w.heap.size A a) (hB : Items w w.heap.size B b) (hl : a.length ≤ 140737488355328) (hl2 : b.length ≤ 140737488355328) (la : ∀ x ∈ a, x.2.2.1.length ≤ 140737488355328) (lb : ∀ x ∈ b, x.2.2.1.length ≤ 140737488355328) :
    Calls Try.prog 19 #[.slice A a.length ca, .slice B b.length cb] w fun e w' => e = .returned (.bool (decide (pl a = pl b))) ∧ Below w.heap.size w w' := by
  have H := Lib.hid (zequal_any A B ca cb a b w hA hB hl hl2 la lb)
  clear hA hB la lb
  obtain ⟨c, hc⟩ : ∃ c, decide (pl a = pl b) = c := ⟨_, rfl⟩
  rw [hc] at H ⊢
  go_enter Try.func19, Try.ntmps19
  go_wp2_with fail
  refine H.out.mono ?_
  rintro e w1 ⟨rfl, hb1⟩
  have L1 := Lib.hid hb1
  clear hb1
  go_wp2
  go_ret
  exact ⟨rfl, L1.out⟩
end Go.Proofs.Ytlejhimcaidbeaa.Items
