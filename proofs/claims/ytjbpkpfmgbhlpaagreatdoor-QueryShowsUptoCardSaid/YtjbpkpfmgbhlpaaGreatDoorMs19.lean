/-
  The program's call: a word, and in brackets the part that it begins.
-/
import Derived.Test.YtjbpkpfmgbhlpaaGreatDoorMs18
import Derived.Deep.RegionHeld3
import Derived.Test.YtjbpkpfmgbhlpaaGreatDoorMs14
import Derived.Test.YtjbpkpfmgbhlpaaGreatDoorMs4
set_option maxRecDepth 100000
set_option maxHeartbeats 16000000
open Go.Lib (hid)
namespace Go.Proofs.YtjbpkpfmgbhlpaaGreatDoor.Code
open Go.ChangeShapes Go.WideShapes Go.ChangeAt Go.RowKit Val Elems
set_option linter.unusedVariables false
set_option linter.unusedSimpArgs false
section
variable {r : Nat} {m : Int} {A : Option Addr} {cap : Nat} {l : List W} {qb qa : Nat}
theorem GiveN.drew {w w' : World} {res : Res} {e : Ending} (h : GiveN r m A cap l qb qa w res e w') : GiveN r m A cap l qb qa w res e w'.drew := by
 obtain ⟨op, tx, X, n, k, he, hn, hb, hr⟩ := h
 exact ⟨op, tx, X, n, k, he, fun e => RIn.keep (w := w') (w' := w'.drew) (S' := New w w'.drew) (fun g hg => hg) (fun p _ => rfl) (hn e), hb.next (Below.drew (Below.refl _ _)), hr.below (Below.drew (Below.refl _ _))⟩
theorem field0 (k p : Int) (T : ByteArray) (w : World) : (Instr.field 48 (.agg #[.int .i64 k, .string T, .int .i64 p]) 0).run Tryz.prog w = .ok (.int .i64 k) w := by kernel_rfl
theorem field1 (k p : Int) (T : ByteArray) (w : World) : (Instr.field 48 (.agg #[.int .i64 k, .string T, .int .i64 p]) 1).run Tryz.prog w = .ok (.string T) w := by kernel_rfl
theorem call_no {L : List V} {el : Nat → Res} {i : Nat} (h : isW L (i + 1) false [40] = false) : callP L el i = (zeroN, i + 1, true) := by unfold callP; rw [h]; rfl
theorem call_bad {L : List V} {el : Nat → Res} {i : Nat} (h : isW L (i + 1) false [40] = true) {T : Nod} {j : Nat} (he : el (i + 2) = (T, j, true)) : callP L el i = (zeroN, j, true) := by unfold callP; rw [h, he]; rfl
theorem call_noend {L : List V} {el : Nat → Res} {i : Nat} (h : isW L (i + 1) false [40] = true) {T : Nod} {j : Nat} (he : el (i + 2) = (T, j, false)) (h2 : isW L j false [41] = false) : callP L el i = (zeroN, j, true) := by
 unfold callP
 rw [h, he]
 dsimp only
 rw [h2]
 rfl
theorem call_yes {L : List V} {el : Nat → Res} {i : Nat} (h : isW L (i + 1) false [40] = true) {T : Nod} {j : Nat} (he : el (i + 2) = (T, j, false)) (h2 : isW L j false [41] = true) : callP L el i = (.mk (txt L i) T.tx T.ks, j + 1, false) := by
 unfold callP
 rw [h, he]
 dsimp only
 rw [h2]
 rfl
theorem pcall_any (hg : Good l) (fn : Nat) (en : ∀ args w, (callFunc fn args).run Tryz.prog w = .ok (.enter fn args) w) (el : Nat → Res) (i : Nat) (w : World) (h : Rq w r m A cap l qb qa i) (hil : i < l.length)
  (HP : i + 2 ≤ l.length → ∀ w1, Rq w1 r m A cap l qb qa (i + 2) → Calls Tryz.prog fn #[.pointer (some ⟨r, 0, none⟩)] w1 (GiveN r m A cap l qb qa w1 (el (i + 2)))) (hend : i + 2 ≤ l.length → (el (i + 2)).2.1 ≤ l.length) :
  Calls Tryz.prog 55 #[.pointer (some ⟨r, 0, none⟩), .func (.func fn) #[] #[]] w (GiveN r m A cap l qb qa w (callP (bare l) el i)) := by
 have hll := hg.len
 have HWD := hid (fun w0 (h0 : Rq w0 r m A cap l qb qa i) => pword_any i 0 w0 h0 (Nat.le_of_lt hil) hll (by decide))
 rw [Nat.add_zero, wd_in hil] at HWD
 have htx := txt_in hil
 unfold wv at HWD
 obtain ⟨x, hx⟩ : ∃ x, l[i] = x := ⟨_, rfl⟩
 rw [hx] at HWD htx
 obtain ⟨wk, wt, wp⟩ := x
 dsimp only at HWD htx
 obtain ⟨T, hT⟩ : ∃ T : ByteArray, ⟨wt.toArray⟩ = T := ⟨_, rfl⟩
 obtain rfl : wt = T.data.toList := by rw [← hT]
 rw [hT] at HWD
 have hfd := fun w0 => field1 wk wp T w0
 obtain ⟨c, hc⟩ : ∃ c, isW (bare l) (i + 1) false [40] = c := ⟨_, rfl⟩
 have HT1 := hid (fun w0 (h0 : Rq w0 r m A cap l qb qa (i + 1)) => ptake_any (i + 1) ⟨#[40]⟩ w0 h0 hil hll (by decide) c hc)
 have HR := hid h
 have hrl := h.lt
 have hql := h.ltq
 have hal := h.lta
 cases c with
 | false =>
  rw [call_no hc]
  clear h HP hend hg hx hT hc htx
  go_enter Tryz.func55, Tryz.ntmps55
  obtain ⟨w0, hw0, hz0, N0, B0⟩ := made0 w r
  have R0 := hid (show Rq w0 r m A cap l qb qa i by rw [← hw0]; exact HR.out.alloc _)
  go_wp2_with fail
  try rw [hw0]
  refine (HWD.out _ R0.out).mono ?_
  rintro e w1 ⟨rfl, hb1⟩
  have N1 := hid (N0.out.below hb1)
  have z1 := hb1.size
  have B1 := hid (B0.out.next hb1)
  have R1 := hid (R0.out.below hb1)
  clear hb1
  have c1 := R1.out.rd.c1
  have f1 := R1.out.rd.fr 1
  have zr1 := R1.out.lt
  obtain ⟨i1, hi1⟩ : ∃ i1, i + 1 = i1 := ⟨_, rfl⟩
  have e2 : IntKind.i64.wrap ((i : Int) + 1) = (i1 : Int) := by rw [IntKind.wrap_i64]; omega
  obtain ⟨w2, hw2⟩ : ∃ w2, w1.setCell ⟨r, 1, none⟩ (.int .i64 (i1 : Int)) = w2 := ⟨_, rfl⟩
  have z2 : w2.heap.size = w1.heap.size := by rw [← hw2]; simp
  have R2 := hid (show Rq w2 r m A cap l qb qa (i + 1) by rw [← hw2, hi1]; exact R1.out.at i1)
  have B2 := hid (show But w w2 r by rw [← hw2]; exact B1.out.setCell 1 _)
  have N2 := hid (show NBox w2 w.heap.size (.string ⟨#[]⟩) (.string ⟨#[]⟩) (.slice none 0 0) by rw [← hw2]; exact N1.out.far _ (by show r ≠ _; omega) _)
  have HW2 := hid hw2
  clear hw2 hi1
  go_upto_region 3 with fail
  rw [HW2.out]
  clear c1 f1
  go_wp2_with fail
  refine (HT1.out _ R2.out).mono ?_
  rintro e w3 ⟨rfl, hb3, hr3⟩
  have z3 := hb3.size
  have N3 := hid (N2.out.but (by omega) hb3)
  have B3 := hid (B2.out.trans hb3)
  have R3 := hid (show Rq w3 r m A cap l qb qa (i + 1) by rw [if_neg (by simp)] at hr3; exact hr3)
  clear hb3 hr3
  obtain ⟨x0, x1, x2, xf⟩ := N3.out
  have zn := N3.out.lt
  go_wp2
  have Y := N3.out.set (.string ⟨#[]⟩) (.string ⟨#[]⟩) (.slice none 0 0)
  exact bodyPost_ret (v := .tuple #[.agg #[.string ⟨#[]⟩, .string ⟨#[]⟩, .slice none 0 0], .bool (!true)]) (by simp [results, Tryz.results55, go_sem, Y.c0, Y.c1, Y.c2]) rfl
   (giveN_ret (b := true) (fun h => (by cases h)) B3.out R3.out hrl hql hal)
 | true =>
  have hil2 : i + 2 ≤ l.length := by have := isW_lt hc; rw [bare_length] at this; exact this
  have HPP := hid (HP hil2)
  have hjl := hend hil2
  obtain ⟨q, hq⟩ : ∃ q, el (i + 2) = q := ⟨_, rfl⟩
  obtain ⟨TT, j, b⟩ := q
  rw [hq] at HPP hjl
  dsimp only at hjl
  cases b with
  | true =>
   rw [call_bad hc hq]
   clear h HP hend hg hx hT hc htx hq
   go_enter Tryz.func55, Tryz.ntmps55
   obtain ⟨w0, hw0, hz0, N0, B0⟩ := made0 w r
   have R0 := hid (show Rq w0 r m A cap l qb qa i by rw [← hw0]; exact HR.out.alloc _)
   go_wp2_with fail
   try rw [hw0]
   refine (HWD.out _ R0.out).mono ?_
   rintro e w1 ⟨rfl, hb1⟩
   have N1 := hid (N0.out.below hb1)
   have z1 := hb1.size
   have B1 := hid (B0.out.next hb1)
   have R1 := hid (R0.out.below hb1)
   clear hb1
   have c1 := R1.out.rd.c1
   have f1 := R1.out.rd.fr 1
   have zr1 := R1.out.lt
   obtain ⟨i1, hi1⟩ : ∃ i1, i + 1 = i1 := ⟨_, rfl⟩
   have e2 : IntKind.i64.wrap ((i : Int) + 1) = (i1 : Int) := by rw [IntKind.wrap_i64]; omega
   obtain ⟨w2, hw2⟩ : ∃ w2, w1.setCell ⟨r, 1, none⟩ (.int .i64 (i1 : Int)) = w2 := ⟨_, rfl⟩
   have z2 : w2.heap.size = w1.heap.size := by rw [← hw2]; simp
   have R2 := hid (show Rq w2 r m A cap l qb qa (i + 1) by rw [← hw2, hi1]; exact R1.out.at i1)
   have B2 := hid (show But w w2 r by rw [← hw2]; exact B1.out.setCell 1 _)
   have N2 := hid (show NBox w2 w.heap.size (.string ⟨#[]⟩) (.string ⟨#[]⟩) (.slice none 0 0) by rw [← hw2]; exact N1.out.far _ (by show r ≠ _; omega) _)
   have HW2 := hid hw2
   clear hw2 hi1
   go_upto_region 3 with fail
   rw [HW2.out]
   clear c1 f1
   go_wp2_with fail
   refine (HT1.out _ R2.out).mono ?_
   rintro e w3 ⟨rfl, hb3, hr3⟩
   have z3 := hb3.size
   have N3 := hid (N2.out.but (by omega) hb3)
   have B3 := hid (B2.out.trans hb3)
   have R3 := hid (show Rq w3 r m A cap l qb qa (i + 2) by rw [if_pos (by simp)] at hr3; exact hr3)
   clear hb3 hr3
   go_wp2_with fail
   refine (HPP.out _ R3.out).mono ?_
   rintro e w4 ⟨op, tx, X, n, k, rfl, hn4, hb4, hr4⟩
   dsimp only at hn4 hr4
   have z4 := hb4.size
   obtain ⟨w6, hw6⟩ : ∃ w6, w4.alloc (.cells #[.string T, .string tx, .slice X n k] 25) = w6 := ⟨_, rfl⟩
   have z6 : w6.heap.size = w4.heap.size + 1 := by rw [← hw6]; simp
   have N6 := hid (show NBox w6 w.heap.size (.string ⟨#[]⟩) (.string ⟨#[]⟩) (.slice none 0 0) by rw [← hw6]; exact (N3.out.but (by omega) hb4).alloc _)
   have V6 := hid (show NBox w6 w4.heap.size (.string T) (.string tx) (.slice X n k) by rw [← hw6]; exact NBox.fresh _ _ _ _ _)
   have B6 := hid (show But w w6 r by rw [← hw6]; exact (B3.out.trans hb4).alloc _)
   have R6 := hid (show Rq w6 r m A cap l qb qa j by rw [← hw6]; exact hr4.alloc _)
   have I6 := hid (show (true = false) → RIn w6 (New w3 w4) TT (op, tx, X, n, k) by rw [← hw6]; exact fun e => (hn4 e).alloc (fun g hg => hg.2) _)
   have zr4 : r < w4.heap.size := hr4.lt
   have HW6 := hid hw6
   clear hb4 hr4 hn4 hw6
   go_upto_region 7 with fail
   rw [HW6.out]
   obtain ⟨v0, v1, v2, vf⟩ := V6.out
   obtain ⟨x0, x1, x2, xf⟩ := N6.out
   have zn := N6.out.lt
   have zv := V6.out.lt
   refine wp_region_held_drew (S := fun w' => w'.cell? ⟨w4.heap.size, 0, none⟩ = some (.string T) ∧ w'.cell? ⟨w4.heap.size, 1, none⟩ = some (.string tx) ∧ w'.cell? ⟨w4.heap.size, 2, none⟩ = some (.slice X n k)) (by kernel_rfl) ⟨v0, v1, v2⟩ (fun hHeld => ?_)
   refine take1 (v := ?_) 0 31 rfl ?_ ?_; rotate_left; (intro w hSw; (try dsimp only at hSw); go_simp; try with_reducible rfl); (try simp only [Act.put, List.setIfInBounds_toArray, List.set_cons_zero, List.set_cons_succ])
   refine take1 (v := ?_) 1 32 rfl ?_ ?_; rotate_left; (intro w hSw; (try dsimp only at hSw); go_simp; try with_reducible rfl); (try simp only [Act.put, List.setIfInBounds_toArray, List.set_cons_zero, List.set_cons_succ])
   refine take1 (v := ?_) 2 33 rfl ?_ ?_; rotate_left; (intro w hSw; (try dsimp only at hSw); go_simp; try with_reducible rfl); (try simp only [Act.put, List.setIfInBounds_toArray, List.set_cons_zero, List.set_cons_succ])
   refine wpAnyH_take (i := 3) (oi := ⟨some 34, _, _, _, _, _⟩) (v := undef) rfl (by kernel_rfl) (by kernel_rfl) (by kernel_rfl) (fun _ _ _ h => h) (Or.inr ⟨by rfl, rfl⟩) (by assumption) ?_; (try simp only [Act.put, List.setIfInBounds_toArray, List.set_cons_zero, List.set_cons_succ])
   refine wpAnyH_take (i := 4) (oi := ⟨some 35, _, _, _, _, _⟩) (v := undef) rfl (by kernel_rfl) (by kernel_rfl) (by kernel_rfl) (fun _ _ _ h => h) (Or.inr ⟨by rfl, rfl⟩) (by assumption) ?_; (try simp only [Act.put, List.setIfInBounds_toArray, List.set_cons_zero, List.set_cons_succ])
   refine take1 (v := ?_) 5 36 rfl ?_ ?_; rotate_left; (intro w hSw; (try dsimp only at hSw); go_simp; try with_reducible rfl); (try simp only [Act.put, List.setIfInBounds_toArray, List.set_cons_zero, List.set_cons_succ])
   have VV := ((V6.out.far ⟨w.heap.size, 0, none⟩ (by show w.heap.size ≠ _; omega) (.string T)).far ⟨w.heap.size, 1, none⟩ (by show w.heap.size ≠ _; omega) (.string tx)).far ⟨w.heap.size, 2, none⟩ (by show w.heap.size ≠ _; omega) (.slice X n k)
   refine wpAnyH_ready (rs := [6]) (by kernel_rfl) (by simp) ?_
   refine AllReadyH.cons (o := ⟨none, _, _, _, _, _⟩) rfl (fun K hK => ?_) AllReadyH.nil
   go_simp
   refine hK.out _ _ ⟨VV.c0, VV.c1, VV.c2⟩ (fun hHeld3 => ?_)
   clear hK K
   (try simp only [Act.put, List.setIfInBounds_toArray, List.set_cons_zero, List.set_cons_succ])
   refine take1 (v := ?_) 7 5 rfl ?_ ?_; rotate_left; (intro w hSw; (try dsimp only at hSw); go_simp; try with_reducible rfl); (try simp only [Act.put, List.setIfInBounds_toArray, List.set_cons_zero, List.set_cons_succ])
   refine wpAnyH_done (by kernel_rfl) ?_ _
   go_wp2
   have Y := N6.out.set (.string T) (.string tx) (.slice X n k)
   exact bodyPost_ret (v := .tuple #[.agg #[.string T, .string tx, .slice X n k], .bool (!true)]) (by simp [results, Tryz.results55, go_sem, Y.c0, Y.c1, Y.c2]) rfl
    ((giveN_ret (b := true) (fun h => (by cases h)) B6.out R6.out hrl hql hal).drew)
  | false =>
   obtain ⟨c2, hc2⟩ : ∃ c2, isW (bare l) j false [41] = c2 := ⟨_, rfl⟩
   have HT2 := hid (fun w0 (h0 : Rq w0 r m A cap l qb qa j) => ptake_any j ⟨#[41]⟩ w0 h0 hjl hll (by decide) c2 hc2)
   have hres : callP (bare l) el i = if c2 = true then (.mk T.data.toList TT.tx TT.ks, j + 1, false) else (zeroN, j, true) := by
    cases c2 with
    | true => rw [call_yes hc hq hc2, htx, ift]
    | false => rw [call_noend hc hq hc2, iff']
   rw [hres]
   obtain ⟨res, hrs⟩ : ∃ res, (if c2 = true then ((Nod.mk T.data.toList TT.tx TT.ks, j + 1, false) : Res) else (zeroN, j, true)) = res := ⟨_, rfl⟩
   rw [hrs]
   have HRS := hid hrs
   clear h HP hend hg hx hT hc htx hq hc2 hres hrs
   go_enter Tryz.func55, Tryz.ntmps55
   obtain ⟨w0, hw0, hz0, N0, B0⟩ := made0 w r
   have R0 := hid (show Rq w0 r m A cap l qb qa i by rw [← hw0]; exact HR.out.alloc _)
   go_wp2_with fail
   try rw [hw0]
   refine (HWD.out _ R0.out).mono ?_
   rintro e w1 ⟨rfl, hb1⟩
   have N1 := hid (N0.out.below hb1)
   have z1 := hb1.size
   have B1 := hid (B0.out.next hb1)
   have R1 := hid (R0.out.below hb1)
   clear hb1
   have c1 := R1.out.rd.c1
   have f1 := R1.out.rd.fr 1
   have zr1 := R1.out.lt
   obtain ⟨i1, hi1⟩ : ∃ i1, i + 1 = i1 := ⟨_, rfl⟩
   have e2 : IntKind.i64.wrap ((i : Int) + 1) = (i1 : Int) := by rw [IntKind.wrap_i64]; omega
   obtain ⟨w2, hw2⟩ : ∃ w2, w1.setCell ⟨r, 1, none⟩ (.int .i64 (i1 : Int)) = w2 := ⟨_, rfl⟩
   have z2 : w2.heap.size = w1.heap.size := by rw [← hw2]; simp
   have R2 := hid (show Rq w2 r m A cap l qb qa (i + 1) by rw [← hw2, hi1]; exact R1.out.at i1)
   have B2 := hid (show But w w2 r by rw [← hw2]; exact B1.out.setCell 1 _)
   have N2 := hid (show NBox w2 w.heap.size (.string ⟨#[]⟩) (.string ⟨#[]⟩) (.slice none 0 0) by rw [← hw2]; exact N1.out.far _ (by show r ≠ _; omega) _)
   have HW2 := hid hw2
   clear hw2 hi1
   go_upto_region 3 with fail
   rw [HW2.out]
   clear c1 f1
   go_wp2_with fail
   refine (HT1.out _ R2.out).mono ?_
   rintro e w3 ⟨rfl, hb3, hr3⟩
   have z3 := hb3.size
   have N3 := hid (N2.out.but (by omega) hb3)
   have B3 := hid (B2.out.trans hb3)
   have R3 := hid (show Rq w3 r m A cap l qb qa (i + 2) by rw [if_pos (by simp)] at hr3; exact hr3)
   clear hb3 hr3
   go_wp2_with fail
   refine (HPP.out _ R3.out).mono ?_
   rintro e w4 ⟨op, tx, X, n, k, rfl, hn4, hb4, hr4⟩
   dsimp only at hn4 hr4
   have z4 := hb4.size
   obtain ⟨w6, hw6⟩ : ∃ w6, w4.alloc (.cells #[.string T, .string tx, .slice X n k] 25) = w6 := ⟨_, rfl⟩
   have z6 : w6.heap.size = w4.heap.size + 1 := by rw [← hw6]; simp
   have N6 := hid (show NBox w6 w.heap.size (.string ⟨#[]⟩) (.string ⟨#[]⟩) (.slice none 0 0) by rw [← hw6]; exact (N3.out.but (by omega) hb4).alloc _)
   have V6 := hid (show NBox w6 w4.heap.size (.string T) (.string tx) (.slice X n k) by rw [← hw6]; exact NBox.fresh _ _ _ _ _)
   have B6 := hid (show But w w6 r by rw [← hw6]; exact (B3.out.trans hb4).alloc _)
   have R6 := hid (show Rq w6 r m A cap l qb qa j by rw [← hw6]; exact hr4.alloc _)
   have I6 := hid (show (false = false) → RIn w6 (New w3 w4) TT (op, tx, X, n, k) by rw [← hw6]; exact fun e => (hn4 e).alloc (fun g hg => hg.2) _)
   have zr4 : r < w4.heap.size := hr4.lt
   have HW6 := hid hw6
   clear hb4 hr4 hn4 hw6
   go_upto_region 7 with fail
   rw [HW6.out]
   obtain ⟨v0, v1, v2, vf⟩ := V6.out
   obtain ⟨x0, x1, x2, xf⟩ := N6.out
   have zn := N6.out.lt
   have zv := V6.out.lt
   refine wp_region_held_drew (S := fun w' => w'.cell? ⟨w4.heap.size, 0, none⟩ = some (.string T) ∧ w'.cell? ⟨w4.heap.size, 1, none⟩ = some (.string tx) ∧ w'.cell? ⟨w4.heap.size, 2, none⟩ = some (.slice X n k)) (by kernel_rfl) ⟨v0, v1, v2⟩ (fun hHeld => ?_)
   refine take1 (v := ?_) 0 31 rfl ?_ ?_; rotate_left; (intro w hSw; (try dsimp only at hSw); go_simp; try with_reducible rfl); (try simp only [Act.put, List.setIfInBounds_toArray, List.set_cons_zero, List.set_cons_succ])
   refine take1 (v := ?_) 1 32 rfl ?_ ?_; rotate_left; (intro w hSw; (try dsimp only at hSw); go_simp; try with_reducible rfl); (try simp only [Act.put, List.setIfInBounds_toArray, List.set_cons_zero, List.set_cons_succ])
   refine take1 (v := ?_) 2 33 rfl ?_ ?_; rotate_left; (intro w hSw; (try dsimp only at hSw); go_simp; try with_reducible rfl); (try simp only [Act.put, List.setIfInBounds_toArray, List.set_cons_zero, List.set_cons_succ])
   refine take1 (v := ?_) 3 34 rfl ?_ ?_; rotate_left; (intro w hSw; (try dsimp only at hSw); go_simp; try with_reducible rfl); (try simp only [Act.put, List.setIfInBounds_toArray, List.set_cons_zero, List.set_cons_succ])
   refine wpAnyH_ready (rs := [4]) (by kernel_rfl) (by simp) ?_
   refine AllReadyH.cons (o := ⟨some 35, _, _, _, _, _⟩) rfl (fun K hK => ?_) AllReadyH.nil
   go_simp
   refine (HT2.out _ (R6.out.below (Below.drew (Below.refl _ _)))).mono ?_
   rintro e w7 ⟨rfl, hb7, hr7⟩
   have V7 := hid ((V6.out.below (Below.drew (Below.refl _ _))).but (by omega) hb7)
   have N7 := hid ((N6.out.below (Below.drew (Below.refl _ _))).but (by omega) hb7)
   have B7 := hid ((B6.out.next (Below.drew (Below.refl _ _))).trans hb7)
   have R7 := hid hr7
   have zd6 : w6.drew.heap.size = w6.heap.size := rfl
   have z7 : w6.heap.size ≤ w7.heap.size := hb7.size
   have I7 := hid (show RIn w7 (New w3 w4) TT (op, tx, X, n, k) from ((I6.out (by first | rfl | trivial)).bel (fun g hg => by have := hg.2; omega) (Below.drew (Below.refl _ _))).but (fun g hg => ⟨by have := hg.2; omega, by have := hg.1; omega⟩) hb7)
   refine hK.out _ _ ⟨V7.out.c0, V7.out.c1, V7.out.c2⟩ (fun hHeld2 => ?_)
   clear hK K hb7 hr7
   obtain ⟨y0, y1, y2, yf⟩ := N7.out
   have zn7 := N7.out.lt
   (try simp only [Act.put, List.setIfInBounds_toArray, List.set_cons_zero, List.set_cons_succ])
   refine take1 (v := ?_) 5 36 rfl ?_ ?_; rotate_left; (intro w hSw; (try dsimp only at hSw); go_simp; try with_reducible rfl); (try simp only [Act.put, List.setIfInBounds_toArray, List.set_cons_zero, List.set_cons_succ])
   have VV := ((V7.out.far ⟨w.heap.size, 0, none⟩ (by show w.heap.size ≠ _; omega) (.string T)).far ⟨w.heap.size, 1, none⟩ (by show w.heap.size ≠ _; omega) (.string tx)).far ⟨w.heap.size, 2, none⟩ (by show w.heap.size ≠ _; omega) (.slice X n k)
   refine wpAnyH_ready (rs := [6]) (by kernel_rfl) (by simp) ?_
   refine AllReadyH.cons (o := ⟨none, _, _, _, _, _⟩) rfl (fun K hK => ?_) AllReadyH.nil
   go_simp
   refine hK.out _ _ ⟨VV.c0, VV.c1, VV.c2⟩ (fun hHeld3 => ?_)
   clear hK K
   (try simp only [Act.put, List.setIfInBounds_toArray, List.set_cons_zero, List.set_cons_succ])
   refine take1 (v := ?_) 7 5 rfl ?_ ?_; rotate_left; (intro w hSw; (try dsimp only at hSw); go_simp; try with_reducible rfl); (try simp only [Act.put, List.setIfInBounds_toArray, List.set_cons_zero, List.set_cons_succ])
   refine wpAnyH_done (by kernel_rfl) ?_ _
   go_wp2
   have Y := N7.out.set (.string T) (.string tx) (.slice X n k)
   refine bodyPost_ret (v := .tuple #[.agg #[.string T, .string tx, .slice X n k], .bool c2]) (by simp [results, Tryz.results55, go_sem, Y.c0, Y.c1, Y.c2]) rfl ?_
   have R8 := R7.out
   cases c2 with
   | true =>
    have e := HRS.out
    rw [ift] at e
    subst e
    rw [if_pos (by simp)] at R8
    exact (giveN_ret (b := false) (fun _ => by
     have h1 := I7.out
     rw [nodEta TT] at h1
     exact (h1.opped T).imp (fun g hg => ⟨by have := hg.1; omega, by have := hg.2; omega⟩)) B7.out R8 hrl hql hal)
   | false =>
    have e := HRS.out
    rw [iff'] at e
    subst e
    rw [if_neg (by simp)] at R8
    exact (giveN_ret (b := true) (fun h => (by cases h)) B7.out R8 hrl hql hal)
end
theorem W3.rd {w : World} {r : Nat} {m : Int} {A : Option Addr} {cap : Nat} {l : List W} {i : Nat} (h : Rd w r m A cap l i) {g : Nat} (hg : r < g) (x y z : Value) : Rd (W3 w g x y z) r m A cap l i := ((h.new _ hg _).new _ hg _).new _ hg _
theorem eof_any (op : ByteArray) (X : Option Addr) (n k : Nat) (w : World) :
  Calls Tryz.prog 162 #[.string op, .slice X n k] w fun e w' => e = .returned (.agg #[.string op, .string ⟨#[]⟩, .slice X n k]) ∧ Below w.heap.size w w' := by
 go_enter Tryz.func162, Tryz.ntmps162
 go_wp2
 have Y := NBox.fresh w (.string op) (.string ⟨#[]⟩) (.slice X n k) 25
 exact bodyPost_ret (v := .agg #[.string op, .string ⟨#[]⟩, .slice X n k]) (by simp [results, Tryz.results162, go_sem, Y.c0, Y.c1, Y.c2]) rfl
  ⟨rfl, below_alloc w _⟩
section
variable {r : Nat} {m : Int} {A : Option Addr} {cap : Nat} {l : List W}
theorem give_ret {w w3 : World} {T : Tr} {j : Nat} {b : Bool} {op tx : ByteArray} {X : Option Addr} {n k : Nat} (hn : b = false → NIn w3 (fun g => w.heap.size < g ∧ g < w3.heap.size) T (.string op) (.string tx) (.slice X n k)) (hb : But w w3 r) (hr : Rd w3 r m A cap l j) (hrl : r < w.heap.size) :
  Gives r m A cap l w NoBlk (T, j, b) (.returned (.tuple #[.agg #[.string op, .string tx, .slice X n k], .bool (!b)])) (W3 w3 w.heap.size (.string op) (.string tx) (.slice X n k)) :=
 ⟨op, tx, X, n, k, rfl, fun hq => (W3.nin (hn hq) (fun h => Nat.lt_irrefl _ h.1) _ _ _).imp (fun g hg => .inr ⟨Nat.le_of_lt hg.1, by rw [W3.size]; exact hg.2⟩), W3.but hb (Nat.le_refl _) _ _ _, W3.rd hr hrl _ _ _⟩
theorem eahead_any (op : ByteArray) (fn : Nat) (en : ∀ args w, (callFunc fn args).run Tryz.prog w = .ok (.enter fn args) w) (i : Nat) (x : Tr) (j : Nat) (b : Bool) (w : World) (h : Rd w r m A cap l i)
  (hp : ∀ w1, Rd w1 r m A cap l i → Calls Tryz.prog fn #[.pointer (some ⟨r, 0, none⟩)] w1 (Gives r m A cap l w1 NoBlk (x, j, b))) :
  Calls Tryz.prog 169 #[.pointer (some ⟨r, 0, none⟩), .string op, .func (.func fn) #[.pointer (some ⟨r, 0, none⟩)] #[]] w (Gives r m A cap l w NoBlk (.one op.data.toList x, j, b)) := by
 have HP := hid hp
 have HR := hid h
 have hrl := h.lt
 have HO := hid (fun X n k w => eof_any op X n k w)
 clear h hp
 go_enter Tryz.func169, Tryz.ntmps169
 obtain ⟨w0, hw0, hz0, N0, B0⟩ := made0 w r
 have R0 := hid (show Rd w0 r m A cap l i by rw [← hw0]; exact HR.out.alloc _)
 go_wp2_with fail
 try rw [hw0]
 refine (HP.out _ R0.out).mono ?_
 rintro e w1 ⟨o1, t1, X, n, k, rfl, hn1, hb1, hr1⟩
 dsimp only at hn1 hr1
 have z1 := hb1.size
 obtain ⟨q, hq⟩ : ∃ q, (!b) = q := ⟨_, rfl⟩
 have I1 := hid (fun hq : b = false => NIn.one op ((hn1 hq).alloc (fun g hg => by rcases hg with hg | hg; exact hg.elim; exact hg.2) (.cells #[.string o1, .string t1, .slice X n k] 25)) (fun g hg => by rcases hg with hg | hg; exact hg.elim; simp; omega) (S' := fun g => w.heap.size < g ∧ g < w1.heap.size + 2) (fun g hg => by rcases hg with hg | hg; exact hg.elim; omega) (by simp; omega) 25)
 have s1 : (w1.alloc (.cells #[.string o1, .string t1, .slice X n k] 25)).heap.size = w1.heap.size + 1 := by simp
 rw [s1] at I1
 have B1 := hid (((B0.out.trans hb1).alloc (.cells #[.string o1, .string t1, .slice X n k] 25)).alloc (.cells #[.string o1, .string t1, .slice X n k] 25))
 have R1 := hid ((hr1.alloc (.cells #[.string o1, .string t1, .slice X n k] 25)).alloc (.cells #[.string o1, .string t1, .slice X n k] 25))
 have N1 := hid (((N0.out.but (by omega) hb1).alloc (.cells #[.string o1, .string t1, .slice X n k] 25)).alloc (.cells #[.string o1, .string t1, .slice X n k] 25))
 clear hn1 hb1 hr1
 go_wp2_with fail
 refine (HO.out _ _ _ _).mono ?_
 rintro e w3 ⟨rfl, hb3⟩
 have z3 : w1.heap.size + 2 ≤ w3.heap.size := by have := hb3.size; simp at this; omega
 have B3 := hid (B1.out.next hb3)
 have R3 := hid (R1.out.below hb3)
 have N3 := hid (N1.out.below hb3)
 have I3 := hid (fun hq : b = false => ((I1.out hq).below (fun g hg => by have := hg.2; simp; omega) hb3).imp (S' := fun g => w.heap.size < g ∧ g < w3.heap.size) (fun g hg => ⟨hg.1, by have := hg.2; omega⟩))
 have zn := N3.out.lt
 obtain ⟨x0, x1, x2, xf⟩ := N3.out
 clear hb3
 go_wp2
 have Y := N3.out.set (.string op) (.string ⟨#[]⟩) (.slice (some ⟨w1.heap.size + 1, 0, none⟩) 1 1)
 exact bodyPost_ret (v := .tuple #[.agg #[.string op, .string ⟨#[]⟩, .slice (some ⟨w1.heap.size + 1, 0, none⟩) 1 1], .bool (!b)]) (by simp [results, Tryz.results169, go_sem, Y.c0, Y.c1, Y.c2, hq]) rfl
  (give_ret I3.out B3.out R3.out hrl)
end
theorem NBox.w3 {w : World} {g g' : Nat} {a b c : Value} (h : NBox w g a b c) (hg : g ≠ g') (x y z : Value) : NBox (W3 w g' x y z) g a b c := by
 have hne : ∀ j k : Nat, (⟨g', j, none⟩ : Addr) ≠ ⟨g, k, none⟩ := fun j k e => hg (congrArg Addr.block e).symm
 unfold W3
 exact ⟨by rw [World.cell?_setCell_other _ _ _ _ (hne _ _), World.cell?_setCell_other _ _ _ _ (hne _ _), World.cell?_setCell_other _ _ _ _ (hne _ _)]; exact h.c0, by rw [World.cell?_setCell_other _ _ _ _ (hne _ _), World.cell?_setCell_other _ _ _ _ (hne _ _), World.cell?_setCell_other _ _ _ _ (hne _ _)]; exact h.c1, by rw [World.cell?_setCell_other _ _ _ _ (hne _ _), World.cell?_setCell_other _ _ _ _ (hne _ _), World.cell?_setCell_other _ _ _ _ (hne _ _)]; exact h.c2, fun k => by rw [World.frozen?_setCell, World.frozen?_setCell, World.frozen?_setCell]; exact h.fr k⟩
section
variable {r : Nat} {m : Int} {A : Option Addr} {cap : Nat} {l : List W} {f : Nat}
theorem Rd.atOf {w : World} {i : Nat} (h : Rd w r m A cap l i) : atOf w r = i := by
 unfold Code.atOf
 rw [h.c1]
 simp
theorem one_bad {L : List V} {i : Nat} (ls : List (List UInt8)) : oneL L i true ls = [] := oneL_none fun s _ => isW_bad s
def LoopE (r : Nat) (m : Int) (A : Option Addr) (cap : Nat) (l : List W) (w : World) (lv i0 : Nat) (res : Tr × Nat × Bool) (g8 : Nat) (v : Value) (wr : World) : Prop :=
 ∃ (t : Tr) (op tx : ByteArray) (X : Option Addr) (n k j : Nat) (b : Bool), v = .bool (!b) ∧ P (bare l) (16 * (l.length - j) + 2) (.loop lv t) j b = res ∧ i0 ≤ j ∧ j ≤ l.length ∧ NBox wr g8 (.string op) (.string tx) (.slice X n k) ∧ (b = false → NIn wr (fun g => w.heap.size < g ∧ g < wr.heap.size ∧ g ≠ g8) t (.string op) (.string tx) (.slice X n k)) ∧ But w wr r ∧ Rd wr r m A cap l j ∧ NBox wr w.heap.size (.string ⟨#[]⟩) (.string ⟨#[]⟩) (.slice none 0 0)
theorem echain_any (lv : Nat) (hlv : lv = 1 ∨ lv = 2 ∨ lv = 5 ∨ lv = 6) (fn : Nat) (en : ∀ args w, (callFunc fn args).run Tryz.prog w = .ok (.enter fn args) w)
  (D : ∀ (i : Nat) (w1 : World), i ≤ l.length → mu (bare l) (.expr (lv + 1)) i < f → Rd w1 r m A cap l i → Calls Tryz.prog fn #[.pointer (some ⟨r, 0, none⟩)] w1 (Gives r m A cap l w1 NoBlk (P (bare l) f (.expr (lv + 1)) i false)))
  (hg : Good l) (S : Option Addr) (sc' : Nat) (i : Nat) (w : World) (hs : At sc 1 w w.heap.size S (opsL lv)) (hne : ∀ ad, S = some ad → ad.block ≠ r) (hi : i ≤ l.length) (hm : mu (bare l) (.expr lv) i < f + 1) (h : Rd w r m A cap l i) :
  Calls Tryz.prog 154 #[.pointer (some ⟨r, 0, none⟩), .func (.func fn) #[.pointer (some ⟨r, 0, none⟩)] #[], .slice S (opsL lv).length sc'] w (Gives r m A cap l w NoBlk (P (bare l) (f + 1) (.expr lv) i false)) := by
 obtain ⟨R0, hx⟩ : ∃ R0, P (bare l) f (.expr (lv + 1)) i false = R0 := ⟨_, rfl⟩
 obtain ⟨x, j, b'⟩ := R0
 obtain ⟨res, hres⟩ : ∃ res, P (bare l) (f + 1) (.expr lv) i false = res := ⟨_, rfl⟩
 have hbg := loop_begin hlv hi hm hx
 rw [hres] at hbg
 rw [hres]
 have e0 : mu (bare l) (.expr lv) i = 16 * ((bare l).length - i) + (17 - 2 * lv) := rfl
 have e1 : mu (bare l) (.expr (lv + 1)) i = 16 * ((bare l).length - i) + (17 - 2 * (lv + 1)) := rfl
 have HI := hid (fun w1 hr => D i w1 hi (by omega) hr)
 rw [hx] at HI
 have HD := hid D
 have HMF := hid (show 16 * (l.length - i) + (17 - 2 * lv) < f + 1 by rw [e0, bare_length] at hm; exact hm)
 have HIJ := hid (show i ≤ j by
  have he := P_ends (bare l) f (.expr (lv + 1)) i false (by rw [bare_length]; exact hi)
  rw [hx] at he
  exact he.1)
 have HBG := hid hbg
 have HR := hid h
 have hrl := h.lt
 have HF := hid (opsL_few hlv)
 have HS := hid (fun (w1 : World) (hb : But w w1 r) => show At sc 1 w1 w1.heap.size S (opsL lv) from (at_but hs hb (Nat.le_refl _) hne).more hb.size)
 have HT := hid (fun (j : Nat) (hj : j ≤ l.length) (w1 : World) (hr : Rd w1 r m A cap l j) hs q hq => etake_any hg j S sc' (opsL lv) w1 hr hj hs hne HF.out.1 HF.out.2 q hq)
 have HO := hid (fun o X n k w => eof_any o X n k w)
 have HLV := hid hlv
 clear h hx hm D e0 e1 hres hbg hs hlv hne hg
 go_enter Tryz.func154, Tryz.ntmps154
 obtain ⟨w0, hw0, hz0, N0, B0⟩ := made0 w r
 have R0 := hid (show Rd w0 r m A cap l i by rw [← hw0]; exact HR.out.alloc _)
 go_wp2_with fail
 try rw [hw0]
 refine (HI.out _ R0.out).mono ?_
 rintro e w1 ⟨o1, t1, X1, n1, k1, rfl, hn1, hb1, hr1⟩
 dsimp only at hn1 hr1
 have hz1 : w0.heap.size ≤ w1.heap.size := hb1.size
 have N1 := hid (N0.out.but (by omega) hb1)
 have B1 := hid (B0.out.trans hb1)
 have R1 := hid hr1
 have I1 := hid (fun hq : b' = false => (hn1 hq).imp (S' := fun g => w.heap.size < g ∧ g < w1.heap.size) (fun g hg => by rcases hg with hg | hg; exact hg.elim; omega))
 clear hb1 hr1 hn1
 go_wp2
 go_loopw [9] (fun v wr => LoopE r m A cap l w lv i res w1.heap.size v wr) (fun _ wr => l.length - atOf wr r)
 case atStart => exact ⟨x, o1, t1, X1, n1, k1, j, b', rfl, HBG.out.1, HIJ.out, HBG.out.2, NBox.fresh _ _ _ _ _, fun hq => ((I1.out hq).alloc (fun g hg => hg.2) _).imp (fun g hg => ⟨hg.1, by have := hg.2; simp; omega, by have := hg.2; omega⟩), B1.out.alloc _, R1.out.alloc _, N1.out.alloc _⟩
 case round =>
  obtain ⟨t1, op1, tx1, X1, n1, k1, j1, b, rfl, hP, hij, hj, V, K, hB, hR, Z⟩ := hrel
  have hz2 := hB.size
  have hgw := V.lt
  have hzw := Z.lt
  have V0 := hid V
  have K0 := hid K
  have B2 := hid hB
  have R2 := hid hR
  have Z0 := hid Z
  have HPP := hid hP
  clear V K hB hR Z hP
  cases b
  case true =>
   have hre : res = (t1, j1, true) := HPP.out.symm.trans (loop_end _ (one_bad _))
   subst hre
   obtain ⟨x0, x1, x2, xf⟩ := Z0.out
   obtain ⟨v0, v1, v2, vf⟩ := V0.out
   go_wp2
   have Y := Z0.out.set (.string op1) (.string tx1) (.slice X1 n1 k1)
   exact bodyPost_ret (v := .tuple #[.agg #[.string op1, .string tx1, .slice X1 n1 k1], .bool (!true)]) (by simp [results, Tryz.results154, go_sem, Y.c0, Y.c1, Y.c2]) rfl
    (give_ret (b := true) (fun h => (by cases h)) B2.out R2.out hrl)
  case false =>
   have K1 := hid (K0.out rfl)
   clear K0
   obtain ⟨q, hq⟩ : ∃ q, oneL (bare l) j1 false (opsL lv) = q := ⟨_, rfl⟩
   have HQ := hid hq
   clear hq
   go_wp2_with fail
   refine (HT.out j1 hj _ R2.out (HS.out _ B2.out) q HQ.out).mono ?_
   rintro e wa ⟨rfl, hb1, hr1⟩
   have Va := hid (V0.out.but (by omega) hb1)
   have Ka := hid (K1.out.but (fun g hg => ⟨hg.2.1, by have := hg.1; omega⟩) hb1)
   have Za := hid (Z0.out.but (by omega) hb1)
   have Ba := hid (B2.out.trans hb1)
   have za := hb1.size
   clear hb1
   by_cases hq0 : q = []
   ·subst hq0
    rw [if_pos rfl] at hr1
    have Ra := hid hr1
    have hre : res = (t1, j1, false) := HPP.out.symm.trans (loop_end _ HQ.out)
    subst hre
    clear hr1
    have zv := Va.out.lt
    have zz := Za.out.lt
    obtain ⟨x0, x1, x2, xf⟩ := Za.out
    obtain ⟨v0, v1, v2, vf⟩ := Va.out
    go_wp2
    have Y := Za.out.set (.string op1) (.string tx1) (.slice X1 n1 k1)
    exact bodyPost_ret (v := .tuple #[.agg #[.string op1, .string tx1, .slice X1 n1 k1], .bool (!false)]) (by simp [results, Tryz.results154, go_sem, Y.c0, Y.c1, Y.c2]) rfl
     (give_ret (b := false) (fun _ => Ka.out.imp (fun g hg => ⟨hg.1, by have := hg.2.1; omega⟩)) Ba.out Ra.out hrl)
   ·rw [if_neg hq0] at hr1
    obtain ⟨hkl, -⟩ := oneL_lt (show oneL (bare l) j1 false (opsL lv) ≠ [] by rw [HQ.out]; exact hq0)
    rw [bare_length] at hkl
    obtain ⟨R3, hy⟩ : ∃ R3, P (bare l) f (.expr (lv + 1)) (j1 + 1) false = R3 := ⟨_, rfl⟩
    obtain ⟨y, j2, b2⟩ := R3
    have hmu : mu (bare l) (.expr (lv + 1)) (j1 + 1) < f := by
     have e1 : mu (bare l) (.expr (lv + 1)) (j1 + 1) = 16 * ((bare l).length - (j1 + 1)) + (17 - 2 * (lv + 1)) := rfl
     rw [bare_length] at e1
     have := HMF.out
     have := HLV.out
     omega
    have hnx := loop_next (t := t1) (by have := HLV.out; omega) hkl HQ.out hq0 hmu hy
    have HNX := hid (hnx.1.symm.trans HPP.out)
    have hj2 := hnx.2
    have HY := hid (fun w1 hr => HD.out (j1 + 1) w1 (by omega) hmu hr)
    rw [hy] at HY
    obtain ⟨Q, hQ⟩ : ∃ Q : ByteArray, ⟨q.toArray⟩ = Q := ⟨_, rfl⟩
    obtain rfl : q = Q.data.toList := by rw [← hQ]
    have hQ0 : (Q.toList == []) = false := by
     rw [ByteArray.toList_eq]
     simpa using hq0
    have Ra := hid hr1
    rw [hQ]
    clear hQ hnx hy hmu HQ hr1 hq0
    have zz := Za.out.lt
    have zv := Va.out.lt
    have Rb := hid (Ra.out.alloc (.cells #[.string ⟨#[]⟩, .string ⟨#[]⟩, .slice none 0 0] 25))
    have Bb := hid (Ba.out.alloc (.cells #[.string ⟨#[]⟩, .string ⟨#[]⟩, .slice none 0 0] 25))
    have Kb := hid (Ka.out.alloc (fun g hg => by have := hg.2.1; omega) (.cells #[.string ⟨#[]⟩, .string ⟨#[]⟩, .slice none 0 0] 25))
    have Vb := hid (Va.out.alloc (.cells #[.string ⟨#[]⟩, .string ⟨#[]⟩, .slice none 0 0] 25))
    have Zb := hid (Za.out.alloc (.cells #[.string ⟨#[]⟩, .string ⟨#[]⟩, .slice none 0 0] 25))
    have Nb := hid (NBox.fresh wa (.string ⟨#[]⟩) (.string ⟨#[]⟩) (.slice none 0 0) 25)
    go_wp2_with fail
    refine (HY.out _ Rb.out).mono ?_
    rintro e wc ⟨o2, t2, X2, n2, k2, rfl, hn3, hb3, hr3⟩
    dsimp only at hn3 hr3
    have zc : wa.heap.size + 1 ≤ wc.heap.size := by have := hb3.size; simpa using this
    have Kc := hid (Kb.out.but (fun g hg => ⟨by have := hg.2.1; simp; omega, by have := hg.1; omega⟩) hb3)
    have Vc := hid (Vb.out.but (by omega) hb3)
    have Zc := hid (Zb.out.but (by omega) hb3)
    have Nc := hid (Nb.out.but (by omega) hb3)
    have Bc := hid (Bb.out.trans hb3)
    have Rc := hid hr3
    have Yc := hid (fun hq : b2 = false => (hn3 hq).imp (S' := fun g => wa.heap.size < g ∧ g < wc.heap.size) (fun g hg => by rcases hg with hg | hg; exact hg.elim; exact ⟨by have := hg.1; simp at this; omega, hg.2⟩))
    clear hb3 hr3 hn3
    obtain ⟨wd, hwd⟩ : ∃ wd, W3 wc wa.heap.size (.string o2) (.string t2) (.slice X2 n2 k2) = wd := ⟨_, rfl⟩
    have zd : wd.heap.size = wc.heap.size := by rw [← hwd, W3.size]
    have Kd := hid (show NIn wd _ t1 (.string op1) (.string tx1) (.slice X1 n1 k1) by rw [← hwd]; exact W3.nin Kc.out (fun hg => by have := hg.2.1; omega) _ _ _)
    have Vd := hid (show NBox wd w1.heap.size (.string op1) (.string tx1) (.slice X1 n1 k1) by rw [← hwd]; exact Vc.out.w3 (by omega) _ _ _)
    have Zd := hid (show NBox wd w.heap.size (.string ⟨#[]⟩) (.string ⟨#[]⟩) (.slice none 0 0) by rw [← hwd]; exact Zc.out.w3 (by omega) _ _ _)
    have Nd := hid (show NBox wd wa.heap.size (.string o2) (.string t2) (.slice X2 n2 k2) by rw [← hwd]; exact Nc.out.set _ _ _)
    have Bd := hid (show But w wd r by rw [← hwd]; exact W3.but Bc.out (by omega) _ _ _)
    have Rd' := hid (show Rd wd r m A cap l j2 by rw [← hwd]; exact W3.rd Rc.out (by omega) _ _ _)
    have Yd := hid (fun hq : b2 = false => (show NIn wd (fun g => wa.heap.size < g ∧ g < wc.heap.size) y (.string o2) (.string t2) (.slice X2 n2 k2) by rw [← hwd]; exact W3.nin (Yc.out hq) (fun hg => by have := hg.1; omega) _ _ _))
    have Be := hid (Bd.out.alloc (.cells #[.string op1, .string tx1, .slice X1 n1 k1, .string o2, .string t2, .slice X2 n2 k2] 25))
    have Re := hid (Rd'.out.alloc (.cells #[.string op1, .string tx1, .slice X1 n1 k1, .string o2, .string t2, .slice X2 n2 k2] 25))
    have Ve := hid (Vd.out.alloc (.cells #[.string op1, .string tx1, .slice X1 n1 k1, .string o2, .string t2, .slice X2 n2 k2] 25))
    have Ze := hid (Zd.out.alloc (.cells #[.string op1, .string tx1, .slice X1 n1 k1, .string o2, .string t2, .slice X2 n2 k2] 25))
    have Ie := hid (fun hq : b2 = false => NIn.two Q (Kd.out.imp (S' := fun g => w.heap.size < g ∧ g < wc.heap.size ∧ g ≠ w1.heap.size) (fun g hg => ⟨hg.1, by have := hg.2.1; omega, hg.2.2⟩)) ((Yd.out hq).imp (S' := fun g => w.heap.size < g ∧ g < wc.heap.size ∧ g ≠ w1.heap.size) (fun g hg => ⟨by have := hg.1; omega, hg.2, by have := hg.1; omega⟩)) (fun g hg => by have := hg.2.1; omega) (S' := fun g => w.heap.size < g ∧ g < wc.heap.size + 1 ∧ g ≠ w1.heap.size) (fun g hg => ⟨hg.1, by have := hg.2.1; omega, hg.2.2⟩) ⟨by omega, by omega, by omega⟩ 25)
    rw [zd] at Ie
    obtain ⟨x0, x1, x2, xf⟩ := Nc.out
    obtain ⟨v0, v1, v2, vf⟩ := Vc.out
    go_wp2_with fail
    unfold W3 at hwd
    rw [hwd]
    refine (HO.out _ _ _ _ _).mono ?_
    rintro e wf ⟨rfl, hb5⟩
    have zf : wc.heap.size + 1 ≤ wf.heap.size := by have := hb5.size; simp at this; omega
    have Bf := hid (Be.out.next hb5)
    have Rf := hid (Re.out.below hb5)
    have Vf := hid (Ve.out.below hb5)
    have Zf := hid (Ze.out.below hb5)
    have If := hid (fun hq : b2 = false => ((Ie.out hq).below (fun g hg => by have := hg.2.1; simp; omega) hb5))
    clear hb5 hwd x0 x1 x2 xf v0 v1 v2 vf
    have zv := Vf.out.lt
    obtain ⟨v0, v1, v2, vf⟩ := Vf.out
    have Rg := hid (show Rd (W3 wf w1.heap.size (.string Q) (.string ⟨#[]⟩) (.slice (some ⟨wc.heap.size, 0, none⟩) 2 2)) r m A cap l j2 from W3.rd Rf.out (by omega) _ _ _)
    have Yg := hid (show LoopE r m A cap l w lv i res w1.heap.size (.bool (!b2)) (W3 wf w1.heap.size (.string Q) (.string ⟨#[]⟩) (.slice (some ⟨wc.heap.size, 0, none⟩) 2 2)) from
     ⟨.two Q.data.toList t1 y, Q, ⟨#[]⟩, _, 2, 2, j2, b2, rfl, HNX.out, by omega, hj2.2, W3.box Vf.out _ _ _, fun hq => (W3.nin (If.out hq) (fun hg => hg.2.2 rfl) _ _ _).imp (fun g hg => ⟨hg.1, by rw [W3.size]; have := hg.2.1; omega, hg.2.2⟩), W3.but Bf.out (by omega) _ _ _, Rg.out, Zf.out.w3 (by omega) _ _ _⟩)
    go_wp2
    go_roundw
    case rel => exact Yg.out
    case measure =>
     refine Nat.lt_of_le_of_lt (Nat.le_of_eq (congrArg (fun a => l.length - a) (Rd.atOf Rg.out))) ?_
     rw [Rd.atOf R2.out]
     omega
end
section
variable {r : Nat} {m : Int} {A : Option Addr} {cap : Nat} {l : List W} {f : Nat}
def Part (fn : Nat) (r : Nat) (m : Int) (A : Option Addr) (cap : Nat) (l : List W) (f lv : Nat) : Prop :=
 ∀ (i : Nat) (w : World), i ≤ l.length → mu (bare l) (.expr lv) i < f → Rd w r m A cap l i → Calls Tryz.prog fn #[.pointer (some ⟨r, 0, none⟩)] w (Gives r m A cap l w NoBlk (P (bare l) f (.expr lv) i false))
structure Goes (r : Nat) (m : Int) (A : Option Addr) (cap : Nat) (l : List W) (f : Nat) : Prop where
 g_or : Part 144 r m A cap l f 1
 g_and : Part 155 r m A cap l f 2
 g_not : Part 163 r m A cap l f 3
 g_test : Part 170 r m A cap l f 4
 g_sum : Part 176 r m A cap l f 5
 g_times : Part 182 r m A cap l f 6
 g_sign : Part 185 r m A cap l f 7
theorem at_texts (w : World) (ls : List (List UInt8)) (cs : Array Value) (t : TypeId) (hc : cs = (ls.map fun s => Value.string ⟨s.toArray⟩).toArray) : At sc 1 (w.alloc (.cells cs t)) (w.alloc (.cells cs t)).heap.size (some ⟨w.heap.size, 0, none⟩) ls := by
 subst hc
 have := texts_new w ls t _ rfl
 rw [show ∀ o, (w.alloc o).heap.size = w.heap.size + 1 from fun o => by simp]
 exact this
theorem give_pass {w w0 w3 : World} {T : Tr} {b : Bool} {op tx : ByteArray} {X : Option Addr} {n k : Nat} (hn : b = false → NIn w3 (fun g => NoBlk g ∨ (w0.heap.size ≤ g ∧ g < w3.heap.size)) T (.string op) (.string tx) (.slice X n k)) (h0 : w.heap.size < w0.heap.size) : b = false → NIn w3 (fun g => w.heap.size < g ∧ g < w3.heap.size) T (.string op) (.string tx) (.slice X n k) :=
 fun hq => (hn hq).imp (fun g hg => by rcases hg with hg | hg; exact hg.elim; omega)
theorem e_or (D : Goes r m A cap l f) (hg : Good l) : Part 144 r m A cap l (f + 1) 1 := by
 intro i w hi hm h
 obtain ⟨res, hres⟩ : ∃ res, P (bare l) (f + 1) (.expr 1) i false = res := ⟨_, rfl⟩
 have HC := hid (fun S sc' w1 hs hne hr => echain_any (r := r) (m := m) (A := A) (cap := cap) (l := l) (f := f) 1 (by omega) 155 (enters_of Tryz.func155 (by kernel_rfl) rfl) D.g_and hg S sc' i w1 hs hne hi hm hr)
 rw [hres] at HC
 rw [hres]
 obtain ⟨x, j, b⟩ := res
 have HR := hid h
 have hrl := h.lt
 clear h hm D hg hres
 go_enter Tryz.func144, Tryz.ntmps144
 obtain ⟨w0, hw0, hz0, N0, B0⟩ := made0 w r
 have R0 := hid (show Rd w0 r m A cap l i by rw [← hw0]; exact HR.out.alloc _)
 go_wp2_with fail
 try rw [hw0]
 have HA := hid (at_texts w0 (opsL 1) #[.string ⟨#[111, 114]⟩] 9 rfl)
 rw [hz0] at HA
 refine (HC.out _ _ _ HA.out (fun ad e => by cases e; show w.heap.size + 1 ≠ r; omega) (R0.out.alloc _)).mono ?_
 rintro e w2 ⟨o1, t1, X, n, k, rfl, hn1, hb1, hr1⟩
 dsimp only at hn1 hr1
 have I2 := hid (give_pass (w := w) hn1 (by simp; omega))
 have B2 := hid ((B0.out.alloc _).trans hb1)
 have R2 := hid hr1
 have N2 := hid ((N0.out.alloc _).but (by omega) hb1)
 clear hn1 hb1 hr1
 obtain ⟨x0, x1, x2, xf⟩ := N2.out
 have zn := N2.out.lt
 obtain ⟨q, hq⟩ : ∃ q, (!b) = q := ⟨_, rfl⟩
 go_wp2
 have Y := N2.out.set (.string o1) (.string t1) (.slice X n k)
 exact bodyPost_ret (v := .tuple #[.agg #[.string o1, .string t1, .slice X n k], .bool (!b)]) (by simp [results, Tryz.results144, go_sem, Y.c0, Y.c1, Y.c2, hq]) rfl
  (give_ret I2.out B2.out R2.out hrl)
theorem e_and (D : Goes r m A cap l f) (hg : Good l) : Part 155 r m A cap l (f + 1) 2 := by
 intro i w hi hm h
 obtain ⟨res, hres⟩ : ∃ res, P (bare l) (f + 1) (.expr 2) i false = res := ⟨_, rfl⟩
 have HC := hid (fun S sc' w1 hs hne hr => echain_any (r := r) (m := m) (A := A) (cap := cap) (l := l) (f := f) 2 (by omega) 163 (enters_of Tryz.func163 (by kernel_rfl) rfl) D.g_not hg S sc' i w1 hs hne hi hm hr)
 rw [hres] at HC
 rw [hres]
 obtain ⟨x, j, b⟩ := res
 have HR := hid h
 have hrl := h.lt
 clear h hm D hg hres
 go_enter Tryz.func155, Tryz.ntmps155
 obtain ⟨w0, hw0, hz0, N0, B0⟩ := made0 w r
 have R0 := hid (show Rd w0 r m A cap l i by rw [← hw0]; exact HR.out.alloc _)
 go_wp2_with fail
 try rw [hw0]
 have HA := hid (at_texts w0 (opsL 2) #[.string ⟨#[97, 110, 100]⟩] 9 rfl)
 rw [hz0] at HA
 refine (HC.out _ _ _ HA.out (fun ad e => by cases e; show w.heap.size + 1 ≠ r; omega) (R0.out.alloc _)).mono ?_
 rintro e w2 ⟨o1, t1, X, n, k, rfl, hn1, hb1, hr1⟩
 dsimp only at hn1 hr1
 have I2 := hid (give_pass (w := w) hn1 (by simp; omega))
 have B2 := hid ((B0.out.alloc _).trans hb1)
 have R2 := hid hr1
 have N2 := hid ((N0.out.alloc _).but (by omega) hb1)
 clear hn1 hb1 hr1
 obtain ⟨x0, x1, x2, xf⟩ := N2.out
 have zn := N2.out.lt
 obtain ⟨q, hq⟩ : ∃ q, (!b) = q := ⟨_, rfl⟩
 go_wp2
 have Y := N2.out.set (.string o1) (.string t1) (.slice X n k)
 exact bodyPost_ret (v := .tuple #[.agg #[.string o1, .string t1, .slice X n k], .bool (!b)]) (by simp [results, Tryz.results155, go_sem, Y.c0, Y.c1, Y.c2, hq]) rfl
  (give_ret I2.out B2.out R2.out hrl)
theorem e_sum (D : Goes r m A cap l f) (hg : Good l) : Part 176 r m A cap l (f + 1) 5 := by
 intro i w hi hm h
 obtain ⟨res, hres⟩ : ∃ res, P (bare l) (f + 1) (.expr 5) i false = res := ⟨_, rfl⟩
 have HC := hid (fun S sc' w1 hs hne hr => echain_any (r := r) (m := m) (A := A) (cap := cap) (l := l) (f := f) 5 (by omega) 182 (enters_of Tryz.func182 (by kernel_rfl) rfl) D.g_times hg S sc' i w1 hs hne hi hm hr)
 rw [hres] at HC
 rw [hres]
 obtain ⟨x, j, b⟩ := res
 have HR := hid h
 have hrl := h.lt
 clear h hm D hg hres
 go_enter Tryz.func176, Tryz.ntmps176
 obtain ⟨w0, hw0, hz0, N0, B0⟩ := made0 w r
 have R0 := hid (show Rd w0 r m A cap l i by rw [← hw0]; exact HR.out.alloc _)
 go_wp2_with fail
 try rw [hw0]
 have HA := hid (at_texts w0 (opsL 5) #[.string ⟨#[43]⟩, .string ⟨#[45]⟩] 9 rfl)
 rw [hz0] at HA
 refine (HC.out _ _ _ HA.out (fun ad e => by cases e; show w.heap.size + 1 ≠ r; omega) (R0.out.alloc _)).mono ?_
 rintro e w2 ⟨o1, t1, X, n, k, rfl, hn1, hb1, hr1⟩
 dsimp only at hn1 hr1
 have I2 := hid (give_pass (w := w) hn1 (by simp; omega))
 have B2 := hid ((B0.out.alloc _).trans hb1)
 have R2 := hid hr1
 have N2 := hid ((N0.out.alloc _).but (by omega) hb1)
 clear hn1 hb1 hr1
 obtain ⟨x0, x1, x2, xf⟩ := N2.out
 have zn := N2.out.lt
 obtain ⟨q, hq⟩ : ∃ q, (!b) = q := ⟨_, rfl⟩
 go_wp2
 have Y := N2.out.set (.string o1) (.string t1) (.slice X n k)
 exact bodyPost_ret (v := .tuple #[.agg #[.string o1, .string t1, .slice X n k], .bool (!b)]) (by simp [results, Tryz.results176, go_sem, Y.c0, Y.c1, Y.c2, hq]) rfl
  (give_ret I2.out B2.out R2.out hrl)
theorem e_times (D : Goes r m A cap l f) (hg : Good l) : Part 182 r m A cap l (f + 1) 6 := by
 intro i w hi hm h
 obtain ⟨res, hres⟩ : ∃ res, P (bare l) (f + 1) (.expr 6) i false = res := ⟨_, rfl⟩
 have HC := hid (fun S sc' w1 hs hne hr => echain_any (r := r) (m := m) (A := A) (cap := cap) (l := l) (f := f) 6 (by omega) 185 (enters_of Tryz.func185 (by kernel_rfl) rfl) D.g_sign hg S sc' i w1 hs hne hi hm hr)
 rw [hres] at HC
 rw [hres]
 obtain ⟨x, j, b⟩ := res
 have HR := hid h
 have hrl := h.lt
 clear h hm D hg hres
 go_enter Tryz.func182, Tryz.ntmps182
 obtain ⟨w0, hw0, hz0, N0, B0⟩ := made0 w r
 have R0 := hid (show Rd w0 r m A cap l i by rw [← hw0]; exact HR.out.alloc _)
 go_wp2_with fail
 try rw [hw0]
 have HA := hid (at_texts w0 (opsL 6) #[.string ⟨#[42]⟩] 9 rfl)
 rw [hz0] at HA
 refine (HC.out _ _ _ HA.out (fun ad e => by cases e; show w.heap.size + 1 ≠ r; omega) (R0.out.alloc _)).mono ?_
 rintro e w2 ⟨o1, t1, X, n, k, rfl, hn1, hb1, hr1⟩
 dsimp only at hn1 hr1
 have I2 := hid (give_pass (w := w) hn1 (by simp; omega))
 have B2 := hid ((B0.out.alloc _).trans hb1)
 have R2 := hid hr1
 have N2 := hid ((N0.out.alloc _).but (by omega) hb1)
 clear hn1 hb1 hr1
 obtain ⟨x0, x1, x2, xf⟩ := N2.out
 have zn := N2.out.lt
 obtain ⟨q, hq⟩ : ∃ q, (!b) = q := ⟨_, rfl⟩
 go_wp2
 have Y := N2.out.set (.string o1) (.string t1) (.slice X n k)
 exact bodyPost_ret (v := .tuple #[.agg #[.string o1, .string t1, .slice X n k], .bool (!b)]) (by simp [results, Tryz.results182, go_sem, Y.c0, Y.c1, Y.c2, hq]) rfl
  (give_ret I2.out B2.out R2.out hrl)
end
end Go.Proofs.YtjbpkpfmgbhlpaaGreatDoor.Code
