/-
  The program's filter, project, join, union and distinct.
-/
import Derived.Test.YtjbpkpfmgbhlpaaGreatDoorMs23
import Derived.Test.YtjbpkpfmgbhlpaaGreatDoorMs24
import Derived.Test.YtjbpkpfmgbhlpaaGreatDoorMs18
import Derived.Shelf.Spec.SlicesInsertGrow
set_option maxRecDepth 100000
set_option maxHeartbeats 16000000
open Go.Lib (hid)
namespace Go.Proofs.YtjbpkpfmgbhlpaaGreatDoor.Code
open Go.ChangeShapes Go.WideShapes Go.ChangeAt Go.RowKit Val Elems
set_option linter.unusedVariables false
set_option linter.unusedSimpArgs false
theorem name_ends {L : List V} {o : List UInt8} {i : Nat} (h : i ≤ L.length) : i ≤ (nameP L o i).2.1 ∧ (nameP L o i).2.1 ≤ L.length := by
 unfold nameP
 split
 ·rename_i hs
  have := (isK_lt (Bool.and_eq_true _ _ ▸ hs).1).1
  exact ⟨Nat.le_succ _, this⟩
 ·exact ⟨Nat.le_refl _, h⟩
theorem exprP_ends {L : List V} {i : Nat} (h : i ≤ L.length) : i ≤ (exprP L i).2.1 ∧ (exprP L i).2.1 ≤ L.length := by
 have := expr_ends (L := L) (b := false) h
 exact ⟨this.1, this.2.1⟩
theorem named_ends {L : List V} {o : List UInt8} {el : Nat → Res} {i : Nat} (h : i ≤ L.length) (he : ∀ j, j ≤ L.length → j ≤ (el j).2.1 ∧ (el j).2.1 ≤ L.length) : i ≤ (namedP L o el i).2.1 ∧ (namedP L o el i).2.1 ≤ L.length := by
 unfold namedP
 cases hn : nmOk L i with
 | false => exact ⟨Nat.le_refl _, h⟩
 | true =>
  have h1 := (isK_lt (Bool.and_eq_true _ _ ▸ hn).1).1
  rw [iftf]
  cases hc : isW L (i + 1) false [61] with
  | false => exact ⟨Nat.le_succ _, h1⟩
  | true =>
   have h2 := isW_lt hc
   rw [iftf]
   have h3 := he (i + 2) h2
   exact ⟨by have := h3.1; dsimp only; omega, h3.2⟩
section
variable {r : Nat} {m : Int} {A : Option Addr} {cap : Nat} {l : List W} {qb qa : Nat}
theorem pfilter_any (hg : Good l) (i : Nat) (w : World) (h : Rq w r m A cap l qb qa i) (hi : i ≤ l.length) (q : Nat → Res) (hqe : ∀ j, i ≤ j → j ≤ l.length → j ≤ (q j).2.1 ∧ (q j).2.1 ≤ l.length)
  (HQ : ∀ (j : Nat) (w1 : World), i ≤ j → j ≤ l.length → Rq w1 r m A cap l qb qa j → Calls Tryz.prog 30 #[.pointer (some ⟨r, 0, none⟩)] w1 (GiveN r m A cap l qb qa w1 (q j))) :
  Calls Tryz.prog 45 #[.pointer (some ⟨r, 0, none⟩)] w (GiveN r m A cap l qb qa w (.mk [] [] (filterP (Code.bare l) q i).1, (filterP (Code.bare l) q i).2)) := by
 obtain ⟨res, hres⟩ : ∃ res, filterP (Code.bare l) q i = res := ⟨_, rfl⟩
 have hends : ∀ k j, i ≤ j → j ≤ l.length → j ≤ ((fun k j => if k < 1 then q j else exprP (Code.bare l) j) k j).2.1 ∧ ((fun k j => if k < 1 then q j else exprP (Code.bare l) j) k j).2.1 ≤ l.length := by
  intro k j hij hj
  try dsimp only
  split
  ·exact hqe j hij hj
  ·have := exprP_ends (L := Code.bare l) (i := j) (by rw [bare_length]; exact hj)
   rw [bare_length] at this
   exact this
 have HC := hid (fun (w0 : World) (h0 : Rq w0 r m A cap l qb qa i) (rb : Nat) (hrb : rb ≠ r) (hcb : w0.cell? ⟨rb, 0, none⟩ = some (.pointer (some ⟨r, 0, none⟩))) =>
  (plist_any hg (g := r) (T := none) (Pre := fun w1 => w1.cell? ⟨rb, 0, none⟩ = some (.pointer (some ⟨r, 0, none⟩))) 83 (enters_of Tryz.func83 (by kernel_rfl) rfl) #[.pointer (some ⟨rb, 0, none⟩)] i (fun k j => if k < 1 then q j else exprP (Code.bare l) j) 2 2 w0 (by decide) (by decide) (by decide)
   hends (fun k j w1 hij hj hk hr1 hc1 => by
    have hlt1 := World.block_lt_of_cell? _ _ hc1
    have hx : Calls Tryz.prog 83 #[.int .i64 k, .pointer (some ⟨rb, 0, none⟩)] w1 (GiveN r m A cap l qb qa w1 ((fun k j => if k < 1 then q j else exprP (Code.bare l) j) k j)) := by
     try dsimp only
     by_cases hk1 : k < 1
     ·rw [if_pos hk1]
      exact pclo_filter_q hg k j rb w1 hr1 hj hc1 q (fun w2 h2 => HQ j w2 hij hj h2) hk1
     ·rw [if_neg hk1]
      exact pclo_filter_e hg k j rb w1 hr1 hj hc1 (by omega)
    exact hx.mono fun e w' hp => hp.part (by
     obtain ⟨op, tx, X, n, c, he, hn, hb, hr⟩ := hp
     exact (hb.cell (q := ⟨rb, 0, none⟩) hlt1 hrb).trans hc1))
   h0 hi hcb (fun w1 w2 hk h1 => by
    have := hk rb (World.block_lt_of_cell? _ _ hcb) hrb
    dsimp only at h1 ⊢
    unfold World.cell? at h1 ⊢
    dsimp only at h1 ⊢
    rw [this]
    exact h1) h0.lt (fun t e => by cases e)).mono fun e w' hp => hp.node)
 rw [show lsP (Code.bare l) 2 2 (fun k j => if k < 1 then q j else exprP (Code.bare l) j) ((Code.bare l).length + 8) 0 i = filterP (Code.bare l) q i from rfl, hres] at HC
 rw [hres]
 obtain ⟨K, j, b⟩ := res
 have HR := hid h
 have hrl := h.lt
 have hql := h.ltq
 have hal := h.lta
 clear h hres hg HQ hqe
 go_enter Tryz.func45, Tryz.ntmps45
 obtain ⟨wb, hwb⟩ : ∃ wb, w.alloc (.cells #[.pointer (some ⟨r, 0, none⟩)] 92) = wb := ⟨_, rfl⟩
 obtain ⟨w0, hw0⟩ : ∃ w0, wb.alloc (.cells #[.string ⟨#[]⟩, .string ⟨#[]⟩, .slice none 0 0] 25) = w0 := ⟨_, rfl⟩
 have hzb : wb.heap.size = w.heap.size + 1 := by rw [← hwb]; simp
 have hz0 : w0.heap.size = w.heap.size + 2 := by rw [← hw0]; simp [hzb]
 have N0 := hid (show NBox w0 (w.heap.size + 1) (.string ⟨#[]⟩) (.string ⟨#[]⟩) (.slice none 0 0) by rw [← hw0, ← hzb]; exact NBox.fresh _ _ _ _ _)
 have B0 := hid (show But w w0 r by rw [← hw0, ← hwb]; exact ((But.refl w r).alloc _).alloc _)
 have R0 := hid (show Rq w0 r m A cap l qb qa i by rw [← hw0, ← hwb]; exact (HR.out.alloc _).alloc _)
 have cb : w0.cell? ⟨w.heap.size, 0, none⟩ = some (.pointer (some ⟨r, 0, none⟩)) := by rw [← hw0, ← hwb]; simp [go_sem]
 rw [← hwb] at hw0
 have HW0 := hid hw0
 clear hwb hzb hw0 wb
 go_upto_region 1 with fail
 rw [HW0.out]
 go_wp2_with fail
 refine (HC.out _ R0.out w.heap.size (by omega) cb).mono ?_
 rintro e w2 ⟨o1, t1, X, n, c, rfl, hn1, hb1, hr1⟩
 dsimp only at hn1 hr1
 have zb1 := hb1.size
 have I2 := hid hn1
 have B2 := hid (B0.out.trans hb1)
 have R2 := hid hr1
 have N2 := hid (N0.out.but (by omega) hb1)
 clear hn1 hb1 hr1 cb
 obtain ⟨x0, x1, x2, xf⟩ := N2.out
 have zn := N2.out.lt
 obtain ⟨qq9, hq⟩ : ∃ qq9, (!b) = qq9 := ⟨_, rfl⟩
 go_wp2
 have Y := N2.out.set (.string o1) (.string t1) (.slice X n c)
 exact bodyPost_ret (v := .tuple #[.agg #[.string o1, .string t1, .slice X n c], .bool (!b)]) (by simp [results, Tryz.results45, go_sem, Y.c0, Y.c1, Y.c2, hq]) rfl
  ⟨o1, t1, X, n, c, rfl, fun e => ((I2.out e).w3 (g := w.heap.size + 1) (fun hg => by have := hg.1; omega) _ _ _).imp (fun g hg => ⟨by have := hg.1; omega, by show g < (W3 w2 _ _ _ _).heap.size; rw [W3.size]; exact hg.2⟩), W3.but B2.out (by omega) _ _ _, R2.out.w3 (by omega) (by omega) (by omega) _ _ _⟩
theorem pproject_any (hg : Good l) (i : Nat) (w : World) (h : Rq w r m A cap l qb qa i) (hi : i ≤ l.length) (q : Nat → Res) (hqe : ∀ j, i ≤ j → j ≤ l.length → j ≤ (q j).2.1 ∧ (q j).2.1 ≤ l.length)
  (HQ : ∀ (j : Nat) (w1 : World), i ≤ j → j ≤ l.length → Rq w1 r m A cap l qb qa j → Calls Tryz.prog 30 #[.pointer (some ⟨r, 0, none⟩)] w1 (GiveN r m A cap l qb qa w1 (q j))) :
  Calls Tryz.prog 46 #[.pointer (some ⟨r, 0, none⟩)] w (GiveN r m A cap l qb qa w (.mk [] [] (projectP (Code.bare l) q i).1, (projectP (Code.bare l) q i).2)) := by
 obtain ⟨res, hres⟩ : ∃ res, projectP (Code.bare l) q i = res := ⟨_, rfl⟩
 have hends : ∀ k j, i ≤ j → j ≤ l.length → j ≤ ((fun k j => if k < 1 then q j else itemP (Code.bare l) j) k j).2.1 ∧ ((fun k j => if k < 1 then q j else itemP (Code.bare l) j) k j).2.1 ≤ l.length := by
  intro k j hij hj
  try dsimp only
  split
  ·exact hqe j hij hj
  ·have := named_ends (L := Code.bare l) (o := sItem) (el := exprP (Code.bare l)) (i := j) (by rw [bare_length]; exact hj) (fun _ h => exprP_ends h)
   rw [bare_length] at this
   exact this
 have HC := hid (fun (w0 : World) (h0 : Rq w0 r m A cap l qb qa i) (rb : Nat) (hrb : rb ≠ r) (hcb : w0.cell? ⟨rb, 0, none⟩ = some (.pointer (some ⟨r, 0, none⟩))) =>
  (plist_any hg (g := r) (T := none) (Pre := fun w1 => w1.cell? ⟨rb, 0, none⟩ = some (.pointer (some ⟨r, 0, none⟩))) 85 (enters_of Tryz.func85 (by kernel_rfl) rfl) #[.pointer (some ⟨rb, 0, none⟩)] i (fun k j => if k < 1 then q j else itemP (Code.bare l) j) 2 9223372036854775807 w0 (by decide) (by decide) (by decide)
   hends (fun k j w1 hij hj hk hr1 hc1 => by
    have hlt1 := World.block_lt_of_cell? _ _ hc1
    have hx : Calls Tryz.prog 85 #[.int .i64 k, .pointer (some ⟨rb, 0, none⟩)] w1 (GiveN r m A cap l qb qa w1 ((fun k j => if k < 1 then q j else itemP (Code.bare l) j) k j)) := by
     try dsimp only
     by_cases hk1 : k < 1
     ·rw [if_pos hk1]
      exact pclo_project_q hg k j rb w1 hr1 hj hc1 q (fun w2 h2 => HQ j w2 hij hj h2) hk1
     ·rw [if_neg hk1]
      exact pclo_project_e hg k j rb w1 hr1 hj hc1 (by omega)
    exact hx.mono fun e w' hp => hp.part (by
     obtain ⟨op, tx, X, n, c, he, hn, hb, hr⟩ := hp
     exact (hb.cell (q := ⟨rb, 0, none⟩) hlt1 hrb).trans hc1))
   h0 hi hcb (fun w1 w2 hk h1 => by
    have := hk rb (World.block_lt_of_cell? _ _ hcb) hrb
    dsimp only at h1 ⊢
    unfold World.cell? at h1 ⊢
    dsimp only at h1 ⊢
    rw [this]
    exact h1) h0.lt (fun t e => by cases e)).mono fun e w' hp => hp.node)
 rw [show lsP (Code.bare l) 2 9223372036854775807 (fun k j => if k < 1 then q j else itemP (Code.bare l) j) ((Code.bare l).length + 8) 0 i = projectP (Code.bare l) q i from rfl, hres] at HC
 rw [hres]
 obtain ⟨K, j, b⟩ := res
 have HR := hid h
 have hrl := h.lt
 have hql := h.ltq
 have hal := h.lta
 clear h hres hg HQ hqe
 go_enter Tryz.func46, Tryz.ntmps46
 obtain ⟨wb, hwb⟩ : ∃ wb, w.alloc (.cells #[.pointer (some ⟨r, 0, none⟩)] 92) = wb := ⟨_, rfl⟩
 obtain ⟨w0, hw0⟩ : ∃ w0, wb.alloc (.cells #[.string ⟨#[]⟩, .string ⟨#[]⟩, .slice none 0 0] 25) = w0 := ⟨_, rfl⟩
 have hzb : wb.heap.size = w.heap.size + 1 := by rw [← hwb]; simp
 have hz0 : w0.heap.size = w.heap.size + 2 := by rw [← hw0]; simp [hzb]
 have N0 := hid (show NBox w0 (w.heap.size + 1) (.string ⟨#[]⟩) (.string ⟨#[]⟩) (.slice none 0 0) by rw [← hw0, ← hzb]; exact NBox.fresh _ _ _ _ _)
 have B0 := hid (show But w w0 r by rw [← hw0, ← hwb]; exact ((But.refl w r).alloc _).alloc _)
 have R0 := hid (show Rq w0 r m A cap l qb qa i by rw [← hw0, ← hwb]; exact (HR.out.alloc _).alloc _)
 have cb : w0.cell? ⟨w.heap.size, 0, none⟩ = some (.pointer (some ⟨r, 0, none⟩)) := by rw [← hw0, ← hwb]; simp [go_sem]
 rw [← hwb] at hw0
 have HW0 := hid hw0
 clear hwb hzb hw0 wb
 go_upto_region 1 with fail
 rw [HW0.out]
 go_wp2_with fail
 refine (HC.out _ R0.out w.heap.size (by omega) cb).mono ?_
 rintro e w2 ⟨o1, t1, X, n, c, rfl, hn1, hb1, hr1⟩
 dsimp only at hn1 hr1
 have zb1 := hb1.size
 have I2 := hid hn1
 have B2 := hid (B0.out.trans hb1)
 have R2 := hid hr1
 have N2 := hid (N0.out.but (by omega) hb1)
 clear hn1 hb1 hr1 cb
 obtain ⟨x0, x1, x2, xf⟩ := N2.out
 have zn := N2.out.lt
 obtain ⟨qq9, hq⟩ : ∃ qq9, (!b) = qq9 := ⟨_, rfl⟩
 go_wp2
 have Y := N2.out.set (.string o1) (.string t1) (.slice X n c)
 exact bodyPost_ret (v := .tuple #[.agg #[.string o1, .string t1, .slice X n c], .bool (!b)]) (by simp [results, Tryz.results46, go_sem, Y.c0, Y.c1, Y.c2, hq]) rfl
  ⟨o1, t1, X, n, c, rfl, fun e => ((I2.out e).w3 (g := w.heap.size + 1) (fun hg => by have := hg.1; omega) _ _ _).imp (fun g hg => ⟨by have := hg.1; omega, by show g < (W3 w2 _ _ _ _).heap.size; rw [W3.size]; exact hg.2⟩), W3.but B2.out (by omega) _ _ _, R2.out.w3 (by omega) (by omega) (by omega) _ _ _⟩
theorem pjoin_any (hg : Good l) (i : Nat) (w : World) (h : Rq w r m A cap l qb qa i) (hi : i ≤ l.length) (q : Nat → Res) (hqe : ∀ j, i ≤ j → j ≤ l.length → j ≤ (q j).2.1 ∧ (q j).2.1 ≤ l.length)
  (HQ : ∀ (j : Nat) (w1 : World), i ≤ j → j ≤ l.length → Rq w1 r m A cap l qb qa j → Calls Tryz.prog 30 #[.pointer (some ⟨r, 0, none⟩)] w1 (GiveN r m A cap l qb qa w1 (q j))) :
  Calls Tryz.prog 47 #[.pointer (some ⟨r, 0, none⟩)] w (GiveN r m A cap l qb qa w (.mk [] [] (joinP (Code.bare l) q i).1, (joinP (Code.bare l) q i).2)) := by
 obtain ⟨res, hres⟩ : ∃ res, joinP (Code.bare l) q i = res := ⟨_, rfl⟩
 have hends : ∀ k j, i ≤ j → j ≤ l.length → j ≤ ((fun k j => if k < 2 then q j else onP (Code.bare l) j) k j).2.1 ∧ ((fun k j => if k < 2 then q j else onP (Code.bare l) j) k j).2.1 ≤ l.length := by
  intro k j hij hj
  try dsimp only
  split
  ·exact hqe j hij hj
  ·have := named_ends (L := Code.bare l) (o := sOn) (el := nameP (Code.bare l) sCol) (i := j) (by rw [bare_length]; exact hj) (fun _ h => name_ends h)
   rw [bare_length] at this
   exact this
 have HC := hid (fun (w0 : World) (h0 : Rq w0 r m A cap l qb qa i) (rb : Nat) (hrb : rb ≠ r) (hcb : w0.cell? ⟨rb, 0, none⟩ = some (.pointer (some ⟨r, 0, none⟩))) =>
  (plist_any hg (g := r) (T := none) (Pre := fun w1 => w1.cell? ⟨rb, 0, none⟩ = some (.pointer (some ⟨r, 0, none⟩))) 87 (enters_of Tryz.func87 (by kernel_rfl) rfl) #[.pointer (some ⟨rb, 0, none⟩)] i (fun k j => if k < 2 then q j else onP (Code.bare l) j) 3 9223372036854775807 w0 (by decide) (by decide) (by decide)
   hends (fun k j w1 hij hj hk hr1 hc1 => by
    have hlt1 := World.block_lt_of_cell? _ _ hc1
    have hx : Calls Tryz.prog 87 #[.int .i64 k, .pointer (some ⟨rb, 0, none⟩)] w1 (GiveN r m A cap l qb qa w1 ((fun k j => if k < 2 then q j else onP (Code.bare l) j) k j)) := by
     try dsimp only
     by_cases hk1 : k < 2
     ·rw [if_pos hk1]
      exact pclo_join_q hg k j rb w1 hr1 hj hc1 q (fun w2 h2 => HQ j w2 hij hj h2) hk1
     ·rw [if_neg hk1]
      exact pclo_join_e hg k j rb w1 hr1 hj hc1 (by omega)
    exact hx.mono fun e w' hp => hp.part (by
     obtain ⟨op, tx, X, n, c, he, hn, hb, hr⟩ := hp
     exact (hb.cell (q := ⟨rb, 0, none⟩) hlt1 hrb).trans hc1))
   h0 hi hcb (fun w1 w2 hk h1 => by
    have := hk rb (World.block_lt_of_cell? _ _ hcb) hrb
    dsimp only at h1 ⊢
    unfold World.cell? at h1 ⊢
    dsimp only at h1 ⊢
    rw [this]
    exact h1) h0.lt (fun t e => by cases e)).mono fun e w' hp => hp.node)
 rw [show lsP (Code.bare l) 3 9223372036854775807 (fun k j => if k < 2 then q j else onP (Code.bare l) j) ((Code.bare l).length + 8) 0 i = joinP (Code.bare l) q i from rfl, hres] at HC
 rw [hres]
 obtain ⟨K, j, b⟩ := res
 have HR := hid h
 have hrl := h.lt
 have hql := h.ltq
 have hal := h.lta
 clear h hres hg HQ hqe
 go_enter Tryz.func47, Tryz.ntmps47
 obtain ⟨wb, hwb⟩ : ∃ wb, w.alloc (.cells #[.pointer (some ⟨r, 0, none⟩)] 92) = wb := ⟨_, rfl⟩
 obtain ⟨w0, hw0⟩ : ∃ w0, wb.alloc (.cells #[.string ⟨#[]⟩, .string ⟨#[]⟩, .slice none 0 0] 25) = w0 := ⟨_, rfl⟩
 have hzb : wb.heap.size = w.heap.size + 1 := by rw [← hwb]; simp
 have hz0 : w0.heap.size = w.heap.size + 2 := by rw [← hw0]; simp [hzb]
 have N0 := hid (show NBox w0 (w.heap.size + 1) (.string ⟨#[]⟩) (.string ⟨#[]⟩) (.slice none 0 0) by rw [← hw0, ← hzb]; exact NBox.fresh _ _ _ _ _)
 have B0 := hid (show But w w0 r by rw [← hw0, ← hwb]; exact ((But.refl w r).alloc _).alloc _)
 have R0 := hid (show Rq w0 r m A cap l qb qa i by rw [← hw0, ← hwb]; exact (HR.out.alloc _).alloc _)
 have cb : w0.cell? ⟨w.heap.size, 0, none⟩ = some (.pointer (some ⟨r, 0, none⟩)) := by rw [← hw0, ← hwb]; simp [go_sem]
 rw [← hwb] at hw0
 have HW0 := hid hw0
 clear hwb hzb hw0 wb
 go_upto_region 1 with fail
 rw [HW0.out]
 go_wp2_with fail
 refine (HC.out _ R0.out w.heap.size (by omega) cb).mono ?_
 rintro e w2 ⟨o1, t1, X, n, c, rfl, hn1, hb1, hr1⟩
 dsimp only at hn1 hr1
 have zb1 := hb1.size
 have I2 := hid hn1
 have B2 := hid (B0.out.trans hb1)
 have R2 := hid hr1
 have N2 := hid (N0.out.but (by omega) hb1)
 clear hn1 hb1 hr1 cb
 obtain ⟨x0, x1, x2, xf⟩ := N2.out
 have zn := N2.out.lt
 obtain ⟨qq9, hq⟩ : ∃ qq9, (!b) = qq9 := ⟨_, rfl⟩
 go_wp2
 have Y := N2.out.set (.string o1) (.string t1) (.slice X n c)
 exact bodyPost_ret (v := .tuple #[.agg #[.string o1, .string t1, .slice X n c], .bool (!b)]) (by simp [results, Tryz.results47, go_sem, Y.c0, Y.c1, Y.c2, hq]) rfl
  ⟨o1, t1, X, n, c, rfl, fun e => ((I2.out e).w3 (g := w.heap.size + 1) (fun hg => by have := hg.1; omega) _ _ _).imp (fun g hg => ⟨by have := hg.1; omega, by show g < (W3 w2 _ _ _ _).heap.size; rw [W3.size]; exact hg.2⟩), W3.but B2.out (by omega) _ _ _, R2.out.w3 (by omega) (by omega) (by omega) _ _ _⟩
theorem punion_any (hg : Good l) (i : Nat) (w : World) (h : Rq w r m A cap l qb qa i) (hi : i ≤ l.length) (q : Nat → Res) (hqe : ∀ j, i ≤ j → j ≤ l.length → j ≤ (q j).2.1 ∧ (q j).2.1 ≤ l.length)
  (HQ : ∀ (j : Nat) (w1 : World), i ≤ j → j ≤ l.length → Rq w1 r m A cap l qb qa j → Calls Tryz.prog 30 #[.pointer (some ⟨r, 0, none⟩)] w1 (GiveN r m A cap l qb qa w1 (q j))) :
  Calls Tryz.prog 48 #[.pointer (some ⟨r, 0, none⟩)] w (GiveN r m A cap l qb qa w (.mk [] [] (unionP (Code.bare l) q i).1, (unionP (Code.bare l) q i).2)) := by
 obtain ⟨res, hres⟩ : ∃ res, unionP (Code.bare l) q i = res := ⟨_, rfl⟩
 have hends : ∀ k j, i ≤ j → j ≤ l.length → j ≤ ((fun (k j : Nat) => q j) k j).2.1 ∧ ((fun (k j : Nat) => q j) k j).2.1 ≤ l.length := by
  intro k j hij hj
  exact hqe j hij hj
 have HC := hid (fun (w0 : World) (h0 : Rq w0 r m A cap l qb qa i) (rb : Nat) (hrb : rb ≠ r) (hcb : w0.cell? ⟨rb, 0, none⟩ = some (.pointer (some ⟨r, 0, none⟩))) =>
  (plist_any hg (g := r) (T := none) (Pre := fun w1 => w1.cell? ⟨rb, 0, none⟩ = some (.pointer (some ⟨r, 0, none⟩))) 88 (enters_of Tryz.func88 (by kernel_rfl) rfl) #[.pointer (some ⟨rb, 0, none⟩)] i (fun (k j : Nat) => q j) 2 9223372036854775807 w0 (by decide) (by decide) (by decide)
   hends (fun k j w1 hij hj hk hr1 hc1 => by
    have hlt1 := World.block_lt_of_cell? _ _ hc1
    have hx : Calls Tryz.prog 88 #[.int .i64 k, .pointer (some ⟨rb, 0, none⟩)] w1 (GiveN r m A cap l qb qa w1 ((fun (k j : Nat) => q j) k j)) := by
     exact pclo_union hg k j rb w1 hr1 hj hc1 q (fun w2 h2 => HQ j w2 hij hj h2)
    exact hx.mono fun e w' hp => hp.part (by
     obtain ⟨op, tx, X, n, c, he, hn, hb, hr⟩ := hp
     exact (hb.cell (q := ⟨rb, 0, none⟩) hlt1 hrb).trans hc1))
   h0 hi hcb (fun w1 w2 hk h1 => by
    have := hk rb (World.block_lt_of_cell? _ _ hcb) hrb
    dsimp only at h1 ⊢
    unfold World.cell? at h1 ⊢
    dsimp only at h1 ⊢
    rw [this]
    exact h1) h0.lt (fun t e => by cases e)).mono fun e w' hp => hp.node)
 rw [show lsP (Code.bare l) 2 9223372036854775807 (fun (k j : Nat) => q j) ((Code.bare l).length + 8) 0 i = unionP (Code.bare l) q i from rfl, hres] at HC
 rw [hres]
 obtain ⟨K, j, b⟩ := res
 have HR := hid h
 have hrl := h.lt
 have hql := h.ltq
 have hal := h.lta
 clear h hres hg HQ hqe
 go_enter Tryz.func48, Tryz.ntmps48
 obtain ⟨wb, hwb⟩ : ∃ wb, w.alloc (.cells #[.pointer (some ⟨r, 0, none⟩)] 92) = wb := ⟨_, rfl⟩
 obtain ⟨w0, hw0⟩ : ∃ w0, wb.alloc (.cells #[.string ⟨#[]⟩, .string ⟨#[]⟩, .slice none 0 0] 25) = w0 := ⟨_, rfl⟩
 have hzb : wb.heap.size = w.heap.size + 1 := by rw [← hwb]; simp
 have hz0 : w0.heap.size = w.heap.size + 2 := by rw [← hw0]; simp [hzb]
 have N0 := hid (show NBox w0 (w.heap.size + 1) (.string ⟨#[]⟩) (.string ⟨#[]⟩) (.slice none 0 0) by rw [← hw0, ← hzb]; exact NBox.fresh _ _ _ _ _)
 have B0 := hid (show But w w0 r by rw [← hw0, ← hwb]; exact ((But.refl w r).alloc _).alloc _)
 have R0 := hid (show Rq w0 r m A cap l qb qa i by rw [← hw0, ← hwb]; exact (HR.out.alloc _).alloc _)
 have cb : w0.cell? ⟨w.heap.size, 0, none⟩ = some (.pointer (some ⟨r, 0, none⟩)) := by rw [← hw0, ← hwb]; simp [go_sem]
 rw [← hwb] at hw0
 have HW0 := hid hw0
 clear hwb hzb hw0 wb
 go_upto_region 1 with fail
 rw [HW0.out]
 go_wp2_with fail
 refine (HC.out _ R0.out w.heap.size (by omega) cb).mono ?_
 rintro e w2 ⟨o1, t1, X, n, c, rfl, hn1, hb1, hr1⟩
 dsimp only at hn1 hr1
 have zb1 := hb1.size
 have I2 := hid hn1
 have B2 := hid (B0.out.trans hb1)
 have R2 := hid hr1
 have N2 := hid (N0.out.but (by omega) hb1)
 clear hn1 hb1 hr1 cb
 obtain ⟨x0, x1, x2, xf⟩ := N2.out
 have zn := N2.out.lt
 obtain ⟨qq9, hq⟩ : ∃ qq9, (!b) = qq9 := ⟨_, rfl⟩
 go_wp2
 have Y := N2.out.set (.string o1) (.string t1) (.slice X n c)
 exact bodyPost_ret (v := .tuple #[.agg #[.string o1, .string t1, .slice X n c], .bool (!b)]) (by simp [results, Tryz.results48, go_sem, Y.c0, Y.c1, Y.c2, hq]) rfl
  ⟨o1, t1, X, n, c, rfl, fun e => ((I2.out e).w3 (g := w.heap.size + 1) (fun hg => by have := hg.1; omega) _ _ _).imp (fun g hg => ⟨by have := hg.1; omega, by show g < (W3 w2 _ _ _ _).heap.size; rw [W3.size]; exact hg.2⟩), W3.but B2.out (by omega) _ _ _, R2.out.w3 (by omega) (by omega) (by omega) _ _ _⟩
theorem pdistinct_any (hg : Good l) (i : Nat) (w : World) (h : Rq w r m A cap l qb qa i) (hi : i ≤ l.length) (q : Nat → Res) (hqe : ∀ j, i ≤ j → j ≤ l.length → j ≤ (q j).2.1 ∧ (q j).2.1 ≤ l.length)
  (HQ : ∀ (j : Nat) (w1 : World), i ≤ j → j ≤ l.length → Rq w1 r m A cap l qb qa j → Calls Tryz.prog 30 #[.pointer (some ⟨r, 0, none⟩)] w1 (GiveN r m A cap l qb qa w1 (q j))) :
  Calls Tryz.prog 49 #[.pointer (some ⟨r, 0, none⟩)] w (GiveN r m A cap l qb qa w (.mk [] [] (distinctP (Code.bare l) q i).1, (distinctP (Code.bare l) q i).2)) := by
 obtain ⟨res, hres⟩ : ∃ res, distinctP (Code.bare l) q i = res := ⟨_, rfl⟩
 have hends : ∀ k j, i ≤ j → j ≤ l.length → j ≤ ((fun (k j : Nat) => q j) k j).2.1 ∧ ((fun (k j : Nat) => q j) k j).2.1 ≤ l.length := by
  intro k j hij hj
  exact hqe j hij hj
 have HC := hid (fun (w0 : World) (h0 : Rq w0 r m A cap l qb qa i) (rb : Nat) (hrb : rb ≠ r) (hcb : w0.cell? ⟨rb, 0, none⟩ = some (.pointer (some ⟨r, 0, none⟩))) =>
  (plist_any hg (g := r) (T := none) (Pre := fun w1 => w1.cell? ⟨rb, 0, none⟩ = some (.pointer (some ⟨r, 0, none⟩))) 89 (enters_of Tryz.func89 (by kernel_rfl) rfl) #[.pointer (some ⟨rb, 0, none⟩)] i (fun (k j : Nat) => q j) 1 1 w0 (by decide) (by decide) (by decide)
   hends (fun k j w1 hij hj hk hr1 hc1 => by
    have hlt1 := World.block_lt_of_cell? _ _ hc1
    have hx : Calls Tryz.prog 89 #[.int .i64 k, .pointer (some ⟨rb, 0, none⟩)] w1 (GiveN r m A cap l qb qa w1 ((fun (k j : Nat) => q j) k j)) := by
     exact pclo_distinct hg k j rb w1 hr1 hj hc1 q (fun w2 h2 => HQ j w2 hij hj h2)
    exact hx.mono fun e w' hp => hp.part (by
     obtain ⟨op, tx, X, n, c, he, hn, hb, hr⟩ := hp
     exact (hb.cell (q := ⟨rb, 0, none⟩) hlt1 hrb).trans hc1))
   h0 hi hcb (fun w1 w2 hk h1 => by
    have := hk rb (World.block_lt_of_cell? _ _ hcb) hrb
    dsimp only at h1 ⊢
    unfold World.cell? at h1 ⊢
    dsimp only at h1 ⊢
    rw [this]
    exact h1) h0.lt (fun t e => by cases e)).mono fun e w' hp => hp.node)
 rw [show lsP (Code.bare l) 1 1 (fun (k j : Nat) => q j) ((Code.bare l).length + 8) 0 i = distinctP (Code.bare l) q i from rfl, hres] at HC
 rw [hres]
 obtain ⟨K, j, b⟩ := res
 have HR := hid h
 have hrl := h.lt
 have hql := h.ltq
 have hal := h.lta
 clear h hres hg HQ hqe
 go_enter Tryz.func49, Tryz.ntmps49
 obtain ⟨wb, hwb⟩ : ∃ wb, w.alloc (.cells #[.pointer (some ⟨r, 0, none⟩)] 92) = wb := ⟨_, rfl⟩
 obtain ⟨w0, hw0⟩ : ∃ w0, wb.alloc (.cells #[.string ⟨#[]⟩, .string ⟨#[]⟩, .slice none 0 0] 25) = w0 := ⟨_, rfl⟩
 have hzb : wb.heap.size = w.heap.size + 1 := by rw [← hwb]; simp
 have hz0 : w0.heap.size = w.heap.size + 2 := by rw [← hw0]; simp [hzb]
 have N0 := hid (show NBox w0 (w.heap.size + 1) (.string ⟨#[]⟩) (.string ⟨#[]⟩) (.slice none 0 0) by rw [← hw0, ← hzb]; exact NBox.fresh _ _ _ _ _)
 have B0 := hid (show But w w0 r by rw [← hw0, ← hwb]; exact ((But.refl w r).alloc _).alloc _)
 have R0 := hid (show Rq w0 r m A cap l qb qa i by rw [← hw0, ← hwb]; exact (HR.out.alloc _).alloc _)
 have cb : w0.cell? ⟨w.heap.size, 0, none⟩ = some (.pointer (some ⟨r, 0, none⟩)) := by rw [← hw0, ← hwb]; simp [go_sem]
 rw [← hwb] at hw0
 have HW0 := hid hw0
 clear hwb hzb hw0 wb
 go_upto_region 1 with fail
 rw [HW0.out]
 go_wp2_with fail
 refine (HC.out _ R0.out w.heap.size (by omega) cb).mono ?_
 rintro e w2 ⟨o1, t1, X, n, c, rfl, hn1, hb1, hr1⟩
 dsimp only at hn1 hr1
 have zb1 := hb1.size
 have I2 := hid hn1
 have B2 := hid (B0.out.trans hb1)
 have R2 := hid hr1
 have N2 := hid (N0.out.but (by omega) hb1)
 clear hn1 hb1 hr1 cb
 obtain ⟨x0, x1, x2, xf⟩ := N2.out
 have zn := N2.out.lt
 obtain ⟨qq9, hq⟩ : ∃ qq9, (!b) = qq9 := ⟨_, rfl⟩
 go_wp2
 have Y := N2.out.set (.string o1) (.string t1) (.slice X n c)
 exact bodyPost_ret (v := .tuple #[.agg #[.string o1, .string t1, .slice X n c], .bool (!b)]) (by simp [results, Tryz.results49, go_sem, Y.c0, Y.c1, Y.c2, hq]) rfl
  ⟨o1, t1, X, n, c, rfl, fun e => ((I2.out e).w3 (g := w.heap.size + 1) (fun hg => by have := hg.1; omega) _ _ _).imp (fun g hg => ⟨by have := hg.1; omega, by show g < (W3 w2 _ _ _ _).heap.size; rw [W3.size]; exact hg.2⟩), W3.but B2.out (by omega) _ _ _, R2.out.w3 (by omega) (by omega) (by omega) _ _ _⟩
end
section
variable {r : Nat} {m : Int} {A : Option Addr} {cap : Nat} {l : List W} {qb qa : Nat}
theorem paggn_any (hg : Good l) (i : Nat) (w : World) (h : Rq w r m A cap l qb qa i) (hi : i ≤ l.length) :
  Calls Tryz.prog 86 #[.pointer (some ⟨r, 0, none⟩), .string ⟨#[97, 103, 103]⟩, .func (.func 92) #[] #[]] w (GiveN r m A cap l qb qa w (aggP (Code.bare l) i)) :=
 pnamed_any hg ⟨#[97, 103, 103]⟩ _ (enters_of Tryz.func92 (by kernel_rfl) rfl) (aggC (Code.bare l)) i w h hi (fun h2 w1 h1 => pagg_any hg (i + 2) w1 h1 h2)
theorem pclo_group_q (hg : Good l) (k i rb gb : Nat) (w : World) (h : Rq w r m A cap l qb qa i) (hi : i ≤ l.length) (hcb : w.cell? ⟨rb, 0, none⟩ = some (.pointer (some ⟨r, 0, none⟩))) (q : Nat → Res) (HQ : ∀ w1, Rq w1 r m A cap l qb qa i → Calls Tryz.prog 30 #[.pointer (some ⟨r, 0, none⟩)] w1 (GiveN r m A cap l qb qa w1 (q i))) (hk : k < 1) :
  Calls Tryz.prog 90 #[.int .i64 k, .pointer (some ⟨rb, 0, none⟩), .pointer (some ⟨gb, 0, none⟩)] w (GiveN r m A cap l qb qa w (q i)) := by
 obtain ⟨res, hres⟩ : ∃ res, (q i) = res := ⟨_, rfl⟩
 have HC := hid HQ
 clear HQ
 rw [hres] at HC
 rw [hres]
 obtain ⟨T, j, b⟩ := res
 have HR := hid h
 have hrl := h.lt
 have hql := h.ltq
 have hal := h.lta
 have e1 : decide ((k : Int) < 1) = true := by simp; omega
 have e1n : decide (k < 1) = true := by simp; omega
 clear hk
 have zrb := World.block_lt_of_cell? _ _ hcb
 have cb : ∀ o, (w.alloc o).cell? ⟨rb, 0, none⟩ = some (.pointer (some ⟨r, 0, none⟩)) := fun o => ((below_alloc w o).cell (p := ⟨rb, 0, none⟩) zrb).trans hcb
 clear h hres hg hcb
 go_enter Tryz.func90, Tryz.ntmps90
 obtain ⟨w0, hw0, hz0, N0, B0⟩ := made0 w r
 have R0 := hid (show Rq w0 r m A cap l qb qa i by rw [← hw0]; exact HR.out.alloc _)
 have cb := cb (.cells #[.string ⟨#[]⟩, .string ⟨#[]⟩, .slice none 0 0] 25)
 rw [hw0] at cb
 go_wp2_with fail
 try rw [hw0]
 refine (HC.out _ R0.out).mono ?_
 rintro e w2 ⟨o1, t1, X, n, c, rfl, hn1, hb1, hr1⟩
 dsimp only at hn1 hr1
 have I2 := hid (giveN_pass (w := w) hn1 (by omega))
 have B2 := hid (B0.out.trans hb1)
 have R2 := hid hr1
 have N2 := hid (N0.out.but (by omega) hb1)
 clear hn1 hb1 hr1 cb
 obtain ⟨x0, x1, x2, xf⟩ := N2.out
 have zn := N2.out.lt
 obtain ⟨q, hq⟩ : ∃ q, (!b) = q := ⟨_, rfl⟩
 go_wp2
 have Y := N2.out.set (.string o1) (.string t1) (.slice X n c)
 exact bodyPost_ret (v := .tuple #[.agg #[.string o1, .string t1, .slice X n c], .bool (!b)]) (by simp [results, Tryz.results90, go_sem, Y.c0, Y.c1, Y.c2, hq]) rfl
  (giveN_ret I2.out B2.out R2.out hrl hql hal)
theorem pclo_group_n (hg : Good l) (k i rb gb : Nat) (w : World) (h : Rq w r m A cap l qb qa i) (hi : i ≤ l.length) (hcb : w.cell? ⟨rb, 0, none⟩ = some (.pointer (some ⟨r, 0, none⟩))) (hk : 2 ≤ k) :
  Calls Tryz.prog 90 #[.int .i64 k, .pointer (some ⟨rb, 0, none⟩), .pointer (some ⟨gb, 0, none⟩)] w (GiveN r m A cap l qb qa w (aggP (Code.bare l) i)) := by
 obtain ⟨res, hres⟩ : ∃ res, (aggP (Code.bare l) i) = res := ⟨_, rfl⟩
 have HC := hid (fun w0 (h0 : Rq w0 r m A cap l qb qa i) => paggn_any hg i w0 h0 hi)
 rw [hres] at HC
 rw [hres]
 obtain ⟨T, j, b⟩ := res
 have HR := hid h
 have hrl := h.lt
 have hql := h.ltq
 have hal := h.lta
 have e1 : decide ((k : Int) < 1) = false := by simp; omega
 have e1n : decide (k < 1) = false := by simp; omega
 have e2 : ((k : Int) == 1) = false := by simp; omega
 have e2n : (k == 1) = false := by simp; omega
 clear hk
 have zrb := World.block_lt_of_cell? _ _ hcb
 have cb : ∀ o, (w.alloc o).cell? ⟨rb, 0, none⟩ = some (.pointer (some ⟨r, 0, none⟩)) := fun o => ((below_alloc w o).cell (p := ⟨rb, 0, none⟩) zrb).trans hcb
 clear h hres hg hcb
 go_enter Tryz.func90, Tryz.ntmps90
 obtain ⟨w0, hw0, hz0, N0, B0⟩ := made0 w r
 have R0 := hid (show Rq w0 r m A cap l qb qa i by rw [← hw0]; exact HR.out.alloc _)
 have cb := cb (.cells #[.string ⟨#[]⟩, .string ⟨#[]⟩, .slice none 0 0] 25)
 rw [hw0] at cb
 go_wp2_with fail
 try rw [hw0]
 refine (HC.out _ R0.out).mono ?_
 rintro e w2 ⟨o1, t1, X, n, c, rfl, hn1, hb1, hr1⟩
 dsimp only at hn1 hr1
 have I2 := hid (giveN_pass (w := w) hn1 (by omega))
 have B2 := hid (B0.out.trans hb1)
 have R2 := hid hr1
 have N2 := hid (N0.out.but (by omega) hb1)
 clear hn1 hb1 hr1 cb
 obtain ⟨x0, x1, x2, xf⟩ := N2.out
 have zn := N2.out.lt
 obtain ⟨q, hq⟩ : ∃ q, (!b) = q := ⟨_, rfl⟩
 go_wp2
 have Y := N2.out.set (.string o1) (.string t1) (.slice X n c)
 exact bodyPost_ret (v := .tuple #[.agg #[.string o1, .string t1, .slice X n c], .bool (!b)]) (by simp [results, Tryz.results90, go_sem, Y.c0, Y.c1, Y.c2, hq]) rfl
  (giveN_ret I2.out B2.out R2.out hrl hql hal)
theorem GiveE.w3 {w w3 : World} {T : Nod} {j k i g : Nat} {b : Bool} {op tx : ByteArray} {X : Option Addr} {n c : Nat} {t : Nat → Nod} {Pre : World → Prop} (hn : b = false → RIn w3 (fun h => w.heap.size < h ∧ h < w3.heap.size) T (op, tx, X, n, c)) (hb : But2 w w3 r g) (hr : Rq w3 r m A cap l qb qa j) (hrl : r < w.heap.size) (hq : qb < w.heap.size) (ha : qa < w.heap.size) (hgl : g < w.heap.size)
  (hp : Pre (W3 w3 w.heap.size (.string op) (.string tx) (.slice X n c))) (hk : k = 1) (hx : b = false → ∃ y : NV, NVBox w3 g y ∧ RIn w3 (fun h => w.heap.size < h ∧ h < w3.heap.size) (t i) y) :
  GiveE r m A cap l qb qa g (some t) Pre k i w (T, j, b) (.returned (.tuple #[.agg #[.string op, .string tx, .slice X n c], .bool (!b)])) (W3 w3 w.heap.size (.string op) (.string tx) (.slice X n c)) := by
 have him : ∀ h, (fun h => w.heap.size < h ∧ h < w3.heap.size) h → New w (W3 w3 w.heap.size (.string op) (.string tx) (.slice X n c)) h := fun h hh => ⟨Nat.le_of_lt hh.1, by rw [W3.size]; exact hh.2⟩
 refine ⟨op, tx, X, n, c, rfl, fun e => ((hn e).w3 (g := w.heap.size) (fun h => Nat.lt_irrefl _ h.1) _ _ _).imp him, ((hb.new _ (Nat.le_refl _) _).new _ (Nat.le_refl _) _).new _ (Nat.le_refl _) _, hr.w3 hrl (by omega) (by omega) _ _ _, hp, fun e => absurd hk e, fun t' ht' _ e => ?_⟩
 cases ht'
 obtain ⟨y, hy, hi⟩ := hx e
 exact ⟨y, ((hy.far ⟨w.heap.size, 0, none⟩ (by show w.heap.size ≠ g; omega) _).far ⟨w.heap.size, 1, none⟩ (by show w.heap.size ≠ g; omega) _).far ⟨w.heap.size, 2, none⟩ (by show w.heap.size ≠ g; omega) _, (hi.w3 (g := w.heap.size) (fun h => Nat.lt_irrefl _ h.1) _ _ _).imp him⟩
theorem first_bad {L : List V} {i j : Nat} {x : Nod} (h : byP L i = (x, j, true)) : firstG L i = (zeroN, j, true) := by unfold firstG; rw [h]; rfl
theorem first_good {L : List V} {i j : Nat} {x : Nod} (h : byP L i = (x, j, false)) : firstG L i = aggP L j := by unfold firstG; rw [h]; rfl
theorem pclo_group_1 (hg : Good l) (k i rb gb : Nat) (w : World) (h : Rq w r m A cap l qb qa i) (hi : i ≤ l.length) (hcb : w.cell? ⟨rb, 0, none⟩ = some (.pointer (some ⟨r, 0, none⟩))) (hk : k = 1) (y0 : NV) (hy0 : NVBox w gb y0) (hrg : r < gb) (hgq : gb ≠ qb) (hga : gb ≠ qa) (hrr : rb ≠ r) (hrbg : rb ≠ gb) (hbe : (byP (Code.bare l) i).2.1 ≤ l.length) :
  Calls Tryz.prog 90 #[.int .i64 k, .pointer (some ⟨rb, 0, none⟩), .pointer (some ⟨gb, 0, none⟩)] w (GiveE r m A cap l qb qa gb (some fun j => (byP (Code.bare l) j).1) (fun w1 => w1.cell? ⟨rb, 0, none⟩ = some (.pointer (some ⟨r, 0, none⟩)) ∧ ∃ y : NV, NVBox w1 gb y) k i w (firstG (Code.bare l) i)) := by
 have HBY := hid (fun w0 (h0 : Rq w0 r m A cap l qb qa i) => pby_any hg i w0 h0 hi)
 have e1 : decide ((k : Int) < 1) = false := by simp; omega
 have e1n : decide (k < 1) = false := by simp; omega
 have e2 : ((k : Int) == 1) = true := by simp; omega
 have e2n : (k == 1) = true := by simp; omega
 have HK1 := hid hk
 have HAG := hid (fun j (hj : j ≤ l.length) w0 (h0 : Rq w0 r m A cap l qb qa j) => paggn_any hg j w0 h0 hj)
 obtain ⟨bres, hbr⟩ : ∃ bres, byP (Code.bare l) i = bres := ⟨_, rfl⟩
 obtain ⟨bn, bj, bb⟩ := bres
 obtain ⟨t9, ht9⟩ : ∃ t9 : Nat → Nod, (fun j => (byP (Code.bare l) j).1) = t9 := ⟨_, rfl⟩
 have HT9 := hid (show t9 i = bn by rw [← ht9]; show (byP (Code.bare l) i).1 = bn; rw [hbr])
 rw [ht9]
 rw [hbr] at HBY hbe
 dsimp only at hbe
 obtain ⟨res, hres⟩ : ∃ res, firstG (Code.bare l) i = res := ⟨_, rfl⟩
 rw [hres]
 obtain ⟨Pre, hPre⟩ : ∃ Pre : World → Prop, (fun w1 : World => w1.cell? ⟨rb, 0, none⟩ = some (.pointer (some ⟨r, 0, none⟩)) ∧ ∃ y : NV, NVBox w1 gb y) = Pre := ⟨_, rfl⟩
 have HPRE := hid (fun w1 (h1 : w1.cell? ⟨rb, 0, none⟩ = some (.pointer (some ⟨r, 0, none⟩))) (y : NV) (h2 : NVBox w1 gb y) => show Pre w1 by rw [← hPre]; exact ⟨h1, y, h2⟩)
 rw [hPre]
 have HY0 := hid hy0
 have hgl := hy0.lt
 have HR := hid h
 have hrl := h.lt
 have hql := h.ltq
 have hal := h.lta
 have zrb := World.block_lt_of_cell? _ _ hcb
 have cb : ∀ o, (w.alloc o).cell? ⟨rb, 0, none⟩ = some (.pointer (some ⟨r, 0, none⟩)) := fun o => ((below_alloc w o).cell (p := ⟨rb, 0, none⟩) zrb).trans hcb
 have HRES := hid hres
 have HBR := hid hbr
 have HCB := hid hcb
 clear h hg hcb hk hy0 hres hbr ht9 hPre
 go_enter Tryz.func90, Tryz.ntmps90
 obtain ⟨w0, hw0, hz0, N0, B0⟩ := made0 w r
 have R0 := hid (show Rq w0 r m A cap l qb qa i by rw [← hw0]; exact HR.out.alloc _)
 have cb := cb (.cells #[.string ⟨#[]⟩, .string ⟨#[]⟩, .slice none 0 0] 25)
 rw [hw0] at cb
 have Y0 := hid (show NVBox w0 gb y0 by rw [← hw0]; exact HY0.out.alloc _)
 have HW0 := hid hw0
 clear hw0
 go_wp2_with fail
 try rw [HW0.out]
 refine (HBY.out _ R0.out).mono ?_
 rintro e w1 ⟨o1, t1, X1, n1, c1, rfl, hn1, hb1, hr1⟩
 dsimp only at hn1 hr1
 have z1 := hb1.size
 have Y1 := hid (Y0.out.but (by omega) hb1)
 have CB1 := hid ((hb1.cell (q := ⟨rb, 0, none⟩) (by show rb < w0.heap.size; omega) hrr).trans cb)
 obtain ⟨w2, hw2⟩ : ∃ w2, W3 w1 gb (.string o1) (.string t1) (.slice X1 n1 c1) = w2 := ⟨_, rfl⟩
 have z2 : w2.heap.size = w1.heap.size := by rw [← hw2, W3.size]
 have Y2 := hid (show NBox w2 gb (.string o1) (.string t1) (.slice X1 n1 c1) by rw [← hw2]; exact W3.box Y1.out _ _ _)
 have R2 := hid (show Rq w2 r m A cap l qb qa bj by rw [← hw2]; exact hr1.w3 hrg hgq hga _ _ _)
 have N2 := hid (show NBox w2 w.heap.size (.string ⟨#[]⟩) (.string ⟨#[]⟩) (.slice none 0 0) by rw [← hw2]; exact (N0.out.but (by omega) hb1).w3 (by omega) _ _ _)
 have B2 := hid (show But2 w w2 r gb by
  rw [← hw2]
  have hb := (B0.out.trans hb1).two gb
  refine ⟨hb.os, hb.tape, hb.output, by rw [W3.size]; exact hb.size, fun k hk hn hm => ?_⟩
  unfold W3
  rw [Below.heap_setCell _ ⟨gb, 2, none⟩ _ k hm, Below.heap_setCell _ ⟨gb, 1, none⟩ _ k hm, Below.heap_setCell _ ⟨gb, 0, none⟩ _ k hm]
  exact hb.block k hk hn hm)
 have CB2 := hid (show w2.cell? ⟨rb, 0, none⟩ = some (.pointer (some ⟨r, 0, none⟩)) by
  rw [← hw2]
  unfold W3
  rw [World.cell?_setCell_other _ _ _ _ (fun e => hrbg (congrArg Addr.block e).symm), World.cell?_setCell_other _ _ _ _ (fun e => hrbg (congrArg Addr.block e).symm), World.cell?_setCell_other _ _ _ _ (fun e => hrbg (congrArg Addr.block e).symm)]
  exact CB1.out)
 have I2 := hid (show bb = false → RIn w2 (New w0 w1) bn (o1, t1, X1, n1, c1) by
  intro e
  rw [← hw2]
  exact (hn1 e).w3 (fun hg => by have := hg.1; omega) _ _ _)
 unfold W3 at hw2
 have HW2 := hid hw2
 obtain ⟨y0c, y1c, y2c, yfc⟩ := Y1.out
 have zg1 := Y1.out.lt
 clear hn1 hb1 hr1 cb hw2
 go_upto_region 6 with fail
 rw [HW2.out]
 clear y0c y1c y2c yfc
 cases bb with
 | true =>
  obtain rfl : res = (zeroN, bj, true) := by rw [← HRES.out]; exact first_bad HBR.out
  obtain ⟨y0c, y1c, y2c, yfc⟩ := Y2.out
  obtain ⟨x0, x1, x2, xf⟩ := N2.out
  have zg2 := Y2.out.lt
  have zn := N2.out.lt
  go_wp2
  have Y := N2.out.set (.string o1) (.string t1) (.slice X1 n1 c1)
  exact bodyPost_ret (v := .tuple #[.agg #[.string o1, .string t1, .slice X1 n1 c1], .bool (!true)]) (by simp [results, Tryz.results90, go_sem, Y.c0, Y.c1, Y.c2]) rfl
   (GiveE.w3 (b := true) (fun e => by cases e) B2.out R2.out hrl hql hal hgl (HPRE.out _ (by
    unfold W3
    rw [World.cell?_setCell_other _ _ _ _ (fun e => by have := congrArg Addr.block e; dsimp only at this; omega), World.cell?_setCell_other _ _ _ _ (fun e => by have := congrArg Addr.block e; dsimp only at this; omega), World.cell?_setCell_other _ _ _ _ (fun e => by have := congrArg Addr.block e; dsimp only at this; omega)]
    exact CB2.out) (o1, t1, X1, n1, c1) (Y2.out.w3 (by omega) _ _ _)) HK1.out (fun e => by cases e))
 | false =>
  have HAJ := hid (fun w0 (h0 : Rq w0 r m A cap l qb qa bj) => HAG.out bj hbe w0 h0)
  rw [← first_good HBR.out, HRES.out] at HAJ
  obtain ⟨T, j, b⟩ := res
  have cb2 := CB2.out
  go_wp2_with fail
  refine (HAJ.out _ R2.out).mono ?_
  rintro e w3 ⟨o3, t3, X3, n3, c3, rfl, hn3, hb3, hr3⟩
  dsimp only at hn3 hr3
  have z3 := hb3.size
  have Y3 := hid (Y2.out.but (by omega) hb3)
  have N3 := hid (N2.out.but (by omega) hb3)
  have R3 := hid hr3
  have CB3 := hid ((hb3.cell (q := ⟨rb, 0, none⟩) (by show rb < w2.heap.size; omega) hrr).trans cb2)
  have B3 := hid (B2.out.trans (hb3.two gb))
  have I3 := hid (fun e => (hn3 e).imp (S' := fun h => w.heap.size < h ∧ h < w3.heap.size) (fun h hh => ⟨by have := hh.1; omega, hh.2⟩))
  have J3 := hid (((I2.out (by first | rfl | trivial)).but (fun h hh => ⟨by have := hh.2; omega, by have := hh.1; omega⟩) hb3).imp (S' := fun h => w.heap.size < h ∧ h < w3.heap.size) (fun h hh => ⟨by have := hh.1; omega, by have := hh.2; omega⟩))
  clear hn3 hb3 hr3 cb2
  obtain ⟨x0, x1, x2, xf⟩ := N3.out
  have zn := N3.out.lt
  obtain ⟨qq9, hqq⟩ : ∃ qq9, (!b) = qq9 := ⟨_, rfl⟩
  go_wp2
  have Y := N3.out.set (.string o3) (.string t3) (.slice X3 n3 c3)
  exact bodyPost_ret (v := .tuple #[.agg #[.string o3, .string t3, .slice X3 n3 c3], .bool (!b)]) (by simp [results, Tryz.results90, go_sem, Y.c0, Y.c1, Y.c2, hqq]) rfl
   (GiveE.w3 I3.out B3.out R3.out hrl hql hal hgl (HPRE.out _ (by
    unfold W3
    rw [World.cell?_setCell_other _ _ _ _ (fun e => by have := congrArg Addr.block e; dsimp only at this; omega), World.cell?_setCell_other _ _ _ _ (fun e => by have := congrArg Addr.block e; dsimp only at this; omega), World.cell?_setCell_other _ _ _ _ (fun e => by have := congrArg Addr.block e; dsimp only at this; omega)]
    exact CB3.out) (o1, t1, X1, n1, c1) (Y3.out.w3 (by omega) _ _ _)) HK1.out (fun e => ⟨(o1, t1, X1, n1, c1), Y3.out, by rw [HT9.out]; exact J3.out⟩))
end
end Go.Proofs.YtjbpkpfmgbhlpaaGreatDoor.Code
/-
  Go's slices.Insert of one node at place 1 of a list: in place where there is room, else in a new row.
-/
namespace Go.Proofs.YtjbpkpfmgbhlpaaGreatDoor.Code
open Go.ChangeShapes Go.WideShapes Go.ChangeAt Go.RowKit Val Elems Go.Lib
set_option linter.unusedVariables false
set_option linter.unusedSimpArgs false
theorem size_node : (Tryz.prog.info? 25).map (·.size) = some 3 := by kernel_rfl
theorem pins_room (g vb n cap : Nat) (cur : Array Value) (xs : List Value) (y : NV) (w : World) (hn : 2 ≤ n) (hroom : n + 1 ≤ cap) (hcap : cap ≤ maxLen) (hg : w.heap[g]? = some (.cells cur 25 (0, 0))) (hcs : cur.size = cap * 3) (hxs : cur.toList.take (n * 3) = xs)
  (h1 : ∀ v ∈ xs, v.oneCell' = true) (hv : w.heap[vb]? = some (.cells #[.string y.1, .string y.2.1, .slice y.2.2.1 y.2.2.2.1 y.2.2.2.2] 25 (0, 0))) (hne : vb ≠ g) :
  Calls Tryz.prog 93 #[.slice (some ⟨g, 0, none⟩) n cap, .int .i64 1, .slice (some ⟨vb, 0, none⟩) 1 1] w fun e w' => e = .returned (.slice (some ⟨g, 0, none⟩) (n + 1) cap) ∧ ∃ R1 : Array Value, R1 = (cur.toList.take 6 ++ xs.drop 3 ++ cur.toList.drop (6 + (xs.drop 3).length)).toArray ∧
   w' = (w.drew.setRow g R1).setRow g (R1.toList.take 3 ++ nc y ++ R1.toList.drop 6).toArray := by
 have hxl : xs.length = n * 3 := by rw [← hxs, List.length_take, Array.length_toList, hcs]; omega
 have hdl : (xs.drop 3).length = (n - 1) * 3 := by rw [List.length_drop, hxl]; omega
 obtain ⟨R1, hR1⟩ : ∃ R1 : Array Value, R1 = (cur.toList.take 6 ++ xs.drop 3 ++ cur.toList.drop (6 + (xs.drop 3).length)).toArray := ⟨_, rfl⟩
 have hR1s : R1.size = cap * 3 := by
  rw [hR1]
  simp only [List.size_toArray, List.length_append, List.length_take, List.length_drop, Array.length_toList, hcs, hxl]
  omega
 have hmx : maxLen = 9223372036854775807 := rfl
 have e1 : ((1 : Int) == (n : Int)) = false := by simp; omega
 have e2 : IntKind.i64.wrap ((n : Int) + 1) = (n : Int) + 1 := by rw [IntKind.wrap_i64]; omega
 have e3 : decide ((cap : Int) < (n : Int) + 1) = false := by simp; omega
 have e3n : decide (cap < n + 1) = false := by simp; omega
 have mixed : Tryz.prog.follows Departure.mixedOrders = true := by kernel_rfl
 have e4 : IntKind.i64.wrap 2 = 2 := by rw [IntKind.wrap_i64]; omega
 have e5 : (2 : Int) ≤ (n : Int) + 1 := by omega
 have e5n : 2 ≤ n + 1 := by omega
 have e6 : ¬ cap = 2 := by omega
 have e7 : ¬ cap = 1 := by omega
 have e8 : (1 : Int) ≤ (n : Int) + 1 := by omega
 have hov : ∀ lb cb, (callFunc 123 #[.slice (some ⟨vb, 0, none⟩) 1 1, .slice (some ⟨g, 6, none⟩) lb cb]).run Tryz.prog w = .ok (.value (.bool false)) w := fun lb cb => by
  rw [run_callFunc_extern Tryz.func123 (by kernel_rfl) (by kernel_rfl) (by kernel_rfl) (e := Extern.SlicesOverlaps.overlaps #[23, 23] #[4]) (by kernel_rfl),
   Lib.run_overlaps_apart w 23 4 25 Tryz.underlying23 3 (fun _ => by kernel_rfl) ⟨vb, 0, none⟩ ⟨g, 6, none⟩ 1 1 lb cb hne 25 25 3 (cap * 3) (by unfold World.shape?; rw [hv]; rfl) (by unfold World.shape?; rw [hg]; simp only [hcs]) (by omega) (Lib.frozen_of_heap hv 0) (Lib.frozen_of_heap hv 3)]
  rfl
 have hgd : w.drew.heap[g]? = some (.cells cur 25 (0, 0)) := hg
 have hcell : ∀ j v, (xs.drop 3)[j]? = some v → w.drew.cell? ((⟨g, 3, none⟩ : Addr).add j) = some v := fun j v hj => by
  rw [Addr.add_lit]
  rw [List.getElem?_drop, ← hxs, List.getElem?_take] at hj
  split at hj
  ·rw [Array.getElem?_toList] at hj
   exact (Lib.cell_of_heap hgd (3 + j)).trans hj
  ·cases hj
 have hcp1 : ∀ ty dc sc, (Builtin.copy_ #[23, 23] ty #[.slice (some ⟨g, 6, none⟩) (n - 1) dc, .slice (some ⟨g, 3, none⟩) n sc]).run Tryz.prog w.drew = .ok (goInt (Nat.min n (n - 1))) (w.drew.setRow g R1) := fun ty dc sc => by
  rw [hR1]
  exact run_copy_rowK w.drew _ _ ty 25 g 6 (n - 1) dc ⟨g, 3, none⟩ n sc cur _ (xs.drop 3) 3 Tryz.underlying23 size_node hgd (by rw [hdl]; simp only [Nat.min_def]; split <;> omega) hcell (by rw [hdl, hcs]; omega) (fun v hv => h1 v (List.mem_of_mem_drop hv))
 have hg1 : (w.drew.setRow g R1).heap[g]? = some (.cells R1 25 (0, 0)) := setRow_heap w.drew g _ R1 _ _ hgd
 have hv1 : (w.drew.setRow g R1).heap[vb]? = some (.cells #[.string y.1, .string y.2.1, .slice y.2.2.1 y.2.2.2.1 y.2.2.2.2] 25 (0, 0)) := by rw [setRow_other w.drew g vb R1 hne]; exact hv
 have hcp2 : ∀ ty dc, (Builtin.copy_ #[23, 23] ty #[.slice (some ⟨g, 3, none⟩) n dc, .slice (some ⟨vb, 0, none⟩) 1 1]).run Tryz.prog (w.drew.setRow g R1) = .ok (goInt (Nat.min 1 n)) ((w.drew.setRow g R1).setRow g (R1.toList.take 3 ++ nc y ++ R1.toList.drop (3 + (nc y).length)).toArray) := fun ty dc =>
  run_copy_rowK _ _ _ ty 25 g 3 n dc ⟨vb, 0, none⟩ 1 1 R1 _ (nc y) 3 Tryz.underlying23 size_node hg1 (by rw [nc_length]; simp only [Nat.min_def]; split <;> omega) (fun j v hj => World.news_of_block hv1 j v (by simpa [nc] using hj)) (by rw [nc_length, hR1s]; omega) (nc_one y)
 have HR1 := hid hR1
 clear hxs h1 hv hg hcell hg1 hv1 hR1s hR1 hdl
 go_enter Tryz.func93, Tryz.ntmps93
 go_wp2_with (simp only [hov])
 go_region_law_o (refine step_copy_runI rfl _ _ 23 23 rfl _ _ (by simp [Act.eval, Act.put]) (by simp [Act.eval, Act.put]) (hcp1 _ _ _) ?_)
 go_wp2_with (at_builtin; refine wpList_copy_runI _ rfl _ _ 23 23 rfl _ _ rfl rfl (hcp2 _ _) ?_)
 go_ret
 exact ⟨rfl, R1, HR1.out, by rw [List.append_assoc]; rfl⟩
theorem zeros_len (z : Value) (k : Nat) : (Builtin.zeroCells z.cells k).size = z.cells.size * k := by simp [Builtin.zeroCells, Nat.mul_comm]
theorem pins_grow (g vb n cap : Nat) (cur : Array Value) (xs : List Value) (y : NV) (w : World) (hn : 2 ≤ n) (hnc : n ≤ cap) (hroom : cap < n + 1) (hbig : n ≤ 1000000000) (hg : w.heap[g]? = some (.cells cur 25 (0, 0))) (hcs : cur.size = cap * 3) (hxs : cur.toList.take (n * 3) = xs)
  (h1 : ∀ v ∈ xs, v.oneCell' = true) (hv : w.heap[vb]? = some (.cells #[.string y.1, .string y.2.1, .slice y.2.2.1 y.2.2.2.1 y.2.2.2.2] 25 (0, 0))) (hne : vb ≠ g) :
  Calls Tryz.prog 93 #[.slice (some ⟨g, 0, none⟩) n cap, .int .i64 1, .slice (some ⟨vb, 0, none⟩) 1 1] w fun e w' => ∃ (G : Nat) (Z : List Value) (W : World), e = .returned (.slice (some ⟨w.heap.size, 0, none⟩) (n + 1) G) ∧ n + 1 ≤ G ∧ G ≤ maxLen ∧ (xs.take 3 ++ nc y ++ xs.drop 3 ++ Z).length = G * 3 ∧
   w'.heap[w.heap.size]? = some (.cells (xs.take 3 ++ nc y ++ xs.drop 3 ++ Z).toArray 25 (0, 0)) ∧ Below w.heap.size w w' := by
 have hxl : xs.length = n * 3 := by rw [← hxs, List.length_take, Array.length_toList, hcs]; omega
 have hdl : (xs.drop 3).length = (n - 1) * 3 := by rw [List.length_drop, hxl]; omega
 have hmx : maxLen = 9223372036854775807 := rfl
 obtain ⟨i0, hi0, hz0, hzs, hzb⟩ := info_parts info_node
 have hlt : g < w.heap.size := (Array.getElem?_eq_some_iff.1 hg).1
 have hvlt : vb < w.heap.size := (Array.getElem?_eq_some_iff.1 hv).1
 have mixed : Tryz.prog.follows Departure.mixedOrders = true := by kernel_rfl
 have e1 : ((1 : Int) == (n : Int)) = false := by simp; omega
 have e2 : IntKind.i64.wrap ((n : Int) + 1) = (n : Int) + 1 := by rw [IntKind.wrap_i64]; omega
 have e3 : decide ((cap : Int) < (n : Int) + 1) = true := by simp; omega
 have e3n : decide (cap < n + 1) = true := by simp; omega
 have e4 : IntKind.i64.wrap 2 = 2 := by rw [IntKind.wrap_i64]; omega
 have e5 : (2 : Int) ≤ (n : Int) + 1 := by omega
 have e5n : 2 ≤ n + 1 := by omega
 have e5m : (2 : Int) ≤ (n : Int) := by omega
 have e6 : ¬ cap = 2 ∨ cap = 2 := by omega
 have e7 : ¬ cap = 1 := by omega
 have e8 : (1 : Int) ≤ (n : Int) := by omega
 have e8m : 1 ≤ n := by omega
 have e9 : IntKind.i64.wrap ((n : Int) + 1 - 1) = (n : Int) := by rw [IntKind.wrap_i64]; omega
 have e10 : IntKind.i64.wrap (n : Int) = (n : Int) := by rw [IntKind.wrap_i64]; omega
 have hcellx : ∀ j v, xs[j]? = some v → w.cell? ⟨g, j, none⟩ = some v := fun j v hj => by
  rw [← hxs, List.getElem?_take] at hj
  split at hj
  ·rw [Array.getElem?_toList] at hj
   exact (Lib.cell_of_heap hg j).trans hj
  ·cases hj
 have hold : (Builtin.firstCells i0.size 1 (.slice (some ⟨g, 0, none⟩) 1 cap)).run Tryz.prog w.drew = .ok (xs.take 3).toArray w.drew := by
  rw [hzs]
  exact run_firstCells_some w.drew 3 1 ⟨g, 0, none⟩ 1 cap (xs.take 3) (by rw [List.length_take, hxl]; omega) (fun j v hj => by
   rw [Addr.add_lit, Nat.zero_add]
   rw [List.getElem?_take] at hj
   split at hj
   ·exact hcellx j v hj
   ·cases hj)
 have hrz : ∀ ty, (Builtin.append_ #[23, 3] ty #[.slice (some ⟨g, 0, none⟩) 1 cap, .int .i64 (n : Int)]).run Tryz.prog w =
   .ok (.slice (some ⟨w.heap.size, 0, none⟩) (n + 1) (grownCap w (n + 1) cap 25)) (w.drew.alloc (.cells ((xs.take 3).toArray ++ Builtin.zeroCells (Value.agg #[.string ByteArray.empty, .string ByteArray.empty, .slice none 0 0]).cells n ++ Builtin.zeroCells (Value.agg #[.string ByteArray.empty, .string ByteArray.empty, .slice none 0 0]).cells (grownCap w (n + 1) cap 25 - (n + 1))) 25)) := fun ty => by
  have h := Lib.run_append_grow_zeros w 23 3 ty 25 i0 _ .i64 .i64 Tryz.underlying23 Tryz.underlying3 hi0 hz0 (some ⟨g, 0, none⟩) 1 cap (xs.take 3) hold n (by omega) (by omega) (by omega) (by omega) (by rw [hzb]; omega) (by rw [hzb, Nat.add_comm 1 n]; exact growslice_fits hroom (by omega))
  rw [Nat.add_comm 1 n] at h
  exact h
 obtain ⟨G, hG⟩ : ∃ G, G = grownCap w (n + 1) cap 25 := ⟨_, rfl⟩
 have hGn : n + 1 ≤ G := by rw [hG]; exact grownCap_ge w _ _ _
 have hG63 : G ≤ maxLen := by rw [hG]; exact grownCap_le_maxLen w (n + 1) cap _ (by unfold maxLen; omega)
 obtain ⟨ROW, hROW⟩ : ∃ ROW : Array Value, ROW = (xs.take 3).toArray ++ Builtin.zeroCells (Value.agg #[.string ByteArray.empty, .string ByteArray.empty, .slice none 0 0]).cells n ++ Builtin.zeroCells (Value.agg #[.string ByteArray.empty, .string ByteArray.empty, .slice none 0 0]).cells (G - (n + 1)) := ⟨_, rfl⟩
 rw [← hG, ← hROW] at hrz
 have hRs : ROW.size = G * 3 := by
  rw [hROW]
  simp only [Array.size_append, List.size_toArray, List.length_take, hxl, zeros_len]
  rw [show (Value.agg #[.string ByteArray.empty, .string ByteArray.empty, .slice none 0 0]).cells.size = 3 from rfl]
  omega
 obtain ⟨Nb, hNb⟩ : ∃ Nb, w.heap.size = Nb := ⟨_, rfl⟩
 rw [hNb] at hrz hlt hvlt ⊢
 obtain ⟨W1, hW1⟩ : ∃ W1, W1 = w.drew.alloc (.cells ROW 25) := ⟨_, rfl⟩
 rw [← hW1] at hrz
 have hN1 : W1.heap[Nb]? = some (.cells ROW 25 (0, 0)) := by rw [hW1, ← hNb]; exact heap_alloc_new w.drew _
 have hb1 : Below Nb w W1 := by rw [hW1, ← hNb]; exact (Below.drew (Below.refl _ _)).alloc (Nat.le_refl _) _
 have hv1 : W1.heap[vb]? = some (.cells #[.string y.1, .string y.2.1, .slice y.2.2.1 y.2.2.2.1 y.2.2.2.2] 25 (0, 0)) := (hb1.block vb hvlt).trans hv
 obtain ⟨R1, hR1⟩ : ∃ R1 : Array Value, R1 = (ROW.toList.take 3 ++ nc y ++ ROW.toList.drop (3 + (nc y).length)).toArray := ⟨_, rfl⟩
 have hcpA : ∀ (W : World), W.heap = W1.heap → ∀ ty dc, (Builtin.copy_ #[23, 23] ty #[.slice (some ⟨Nb, 3, none⟩) n dc, .slice (some ⟨vb, 0, none⟩) 1 1]).run Tryz.prog W = .ok (goInt (Nat.min 1 n)) (W.setRow Nb R1) := fun W hW ty dc => by
  rw [hR1]
  exact run_copy_rowK W _ _ ty 25 Nb 3 n dc ⟨vb, 0, none⟩ 1 1 ROW _ (nc y) 3 Tryz.underlying23 size_node (by rw [hW]; exact hN1) (by rw [nc_length]; simp only [Nat.min_def]; split <;> omega) (fun j v hj => World.news_of_block (by rw [hW]; exact hv1) j v (by simpa [nc] using hj)) (by rw [nc_length, hRs]; omega) (nc_one y)
 have hR1s : R1.size = G * 3 := by
  rw [hR1]
  simp only [List.size_toArray, List.length_append, List.length_take, List.length_drop, Array.length_toList, hRs, nc_length]
  omega
 obtain ⟨R2, hR2⟩ : ∃ R2 : Array Value, R2 = (R1.toList.take 6 ++ xs.drop 3 ++ R1.toList.drop (6 + (xs.drop 3).length)).toArray := ⟨_, rfl⟩
 have hcpB : ∀ (W : World), W.heap = (W1.setRow Nb R1).heap → ∀ ty dc sc, (Builtin.copy_ #[23, 23] ty #[.slice (some ⟨Nb, 6, none⟩) (n - 1) dc, .slice (some ⟨g, 3, none⟩) (n - 1) sc]).run Tryz.prog W = .ok (goInt (Nat.min (n - 1) (n - 1))) (W.setRow Nb R2) := fun W hW ty dc sc => by
  rw [hR2]
  refine run_copy_rowK W _ _ ty 25 Nb 6 (n - 1) dc ⟨g, 3, none⟩ (n - 1) sc R1 _ (xs.drop 3) 3 Tryz.underlying23 size_node (by rw [hW]; exact setRow_heap W1 Nb _ R1 _ _ hN1) (by rw [hdl]; simp only [Nat.min_def]; split <;> omega) (fun j v hj => ?_) (by rw [hdl, hR1s]; omega) (fun v hv => h1 v (List.mem_of_mem_drop hv))
  rw [Addr.add_lit]
  rw [List.getElem?_drop] at hj
  have hh : W.heap[g]? = w.heap[g]? := by rw [hW, setRow_other W1 Nb g R1 (by omega)]; exact hb1.block g hlt
  have := hcellx (3 + j) v hj
  unfold World.cell? at this ⊢
  rw [hh]
  exact this
 have HF := hid (show ∃ Z : List Value, R2 = (xs.take 3 ++ nc y ++ xs.drop 3 ++ Z).toArray ∧ (xs.take 3 ++ nc y ++ xs.drop 3 ++ Z).length = G * 3 from by
  refine ⟨R1.toList.drop (6 + (xs.drop 3).length), ?_, ?_⟩
  ·rw [hR2, hR1]
   have h3 : (xs.take 3).length = 3 := by rw [List.length_take, hxl]; omega
   have hr3 : ROW.toList.take 3 = xs.take 3 := by
    rw [hROW, Array.toList_append, Array.toList_append, List.append_assoc, List.take_append_of_le_length (by simp [h3]), List.take_of_length_le (by simp [h3])]
   rw [hr3]
   have h6 : (xs.take 3 ++ nc y ++ ROW.toList.drop (3 + (nc y).length)).take 6 = xs.take 3 ++ nc y := by
    rw [List.take_append_of_le_length (by simp [h3, nc_length]), List.take_of_length_le (by simp [h3, nc_length])]
   simp only [List.toList_toArray]
   rw [h6]
  ·simp only [List.length_append, List.length_take, List.length_drop, hxl, nc_length, Array.length_toList, hR1s]
   omega)
 clear hxs h1 hv hcellx hold hROW hG hRs hR1 hR2 hR1s hdl hi0 hz0 hzs hzb
 have hGi : ¬ (G = 1) := by omega
 have hGim : ¬ (G = 2) := by omega
 have HN1 := hid hN1
 have HB1 := hid hb1
 have HW1 := hid hW1
 have hW1' : W1.heap = W1.heap := rfl
 clear hN1 hb1 hv1 hW1 hW1' hg
 go_enter Tryz.func93, Tryz.ntmps93
 go_wp2_with (first
  | (at_builtin; refine Lib.wpList_append_run _ rfl _ _ _ _ rfl _ _ rfl rfl _ _ (hrz _) ?_)
  | (at_builtin; refine wpList_copy_runI _ rfl _ _ 23 23 rfl _ _ rfl rfl (hcpA _ rfl _ _) ?_))
 go_region_law_o (refine step_copy_runI rfl _ _ 23 23 rfl (.slice (some ⟨Nb, 6, none⟩) (n - 1) (G - 2)) (.slice (some ⟨g, 3, none⟩) (n - 1) (cap - 1)) (by simp [Act.eval, Act.put]) (by simp [Act.eval, Act.put]) (hcpB (W1.setRow Nb R1).drew rfl 3 (G - 2) (cap - 1)) ?_)
 go_wp2
 go_ret
 obtain ⟨Z, hZ, hZl⟩ := HF.out
 refine ⟨G, Z, W1, rfl, hGn, hG63, hZl, ?_, ?_⟩
 ·have h2 := setRow_heap (W1.setRow Nb R1) Nb R1 R2 _ _ (setRow_heap W1 Nb _ R1 _ _ HN1.out)
  rw [← hZ]
  exact h2
 ·exact below_setRow (Below.drew (below_setRow HB1.out (Nat.le_refl _) R1)) (Nat.le_refl _) R2
end Go.Proofs.YtjbpkpfmgbhlpaaGreatDoor.Code
