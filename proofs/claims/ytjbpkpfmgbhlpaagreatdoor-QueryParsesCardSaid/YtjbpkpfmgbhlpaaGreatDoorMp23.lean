/-
  The program's by: its names.
-/
import Derived.Test.YtjbpkpfmgbhlpaaGreatDoorMp22
import Derived.Test.YtjbpkpfmgbhlpaaGreatDoorMp19
set_option maxRecDepth 100000
set_option maxHeartbeats 16000000
open Go.Lib (hid)
namespace Go.Proofs.YtjbpkpfmgbhlpaaGreatDoor.Code
open Go.ChangeShapes Go.WideShapes Go.ChangeAt Go.RowKit Val Elems
set_option linter.unusedVariables false
set_option linter.unusedSimpArgs false
theorem RIn.bare {w w' : World} {S S' : Nat → Prop} {o t : List UInt8} {x : NV} (h : RIn w S (.mk o t []) x) : RIn w' S' (.mk o t []) x := by
 cases h with
 | mk op tx ks X cap l hl hb hc hat hks =>
  exact .mk o t [] X cap [] rfl (by decide) (Nat.zero_le _) (fun i h => absurd h (Nat.not_lt_zero _)) (fun i h => absurd h (Nat.not_lt_zero _))
section
variable {r : Nat} {m : Int} {A : Option Addr} {cap : Nat} {l : List W} {qb qa : Nat}
def BYI (r : Nat) (m : Int) (A : Option Addr) (cap : Nat) (l : List W) (qb qa : Nat) (R : List Nod × Nat) (w wr : World) : Prop :=
 ∃ (f j : Nat) (ks : List Nod) (xs : List NV) (X : Option Addr) (cp : Nat), NBox wr w.heap.size (.string ⟨#[]⟩) (.string ⟨#[]⟩) (.slice none 0 0) ∧ NBox wr (w.heap.size + 1) (.string ⟨#[98, 121]⟩) (.string ⟨#[]⟩) (.slice X xs.length cp) ∧ wr.ownsRow (w.heap.size + 2) 25 3 (.slice X xs.length cp) xs.length (flatC nc xs) ∧ RAll wr (fun _ => False) ks xs ∧
  j ≤ l.length ∧ l.length - j < f ∧ ks.length ≤ j ∧ Hid (R = (ks ++ (namesP (Code.bare l) f j).1, (namesP (Code.bare l) f j).2)) ∧ But w wr r ∧ Rq wr r m A cap l qb qa j ∧ (ks.length = 0 → nmOk (Code.bare l) j = true)
theorem pby_none (hg : Good l) (i : Nat) (w : World) (h : Rq w r m A cap l qb qa i) (hi : i ≤ l.length) (hk : (wd l i).1 = 0) (ht : (wd l i).2.1 = sBy) (hil : i < l.length) (hm : isW (Code.bare l) (i + 1) false [61] = false) (hn : nmOk (Code.bare l) (i + 1) = false) :
  Calls Tryz.prog 91 #[.pointer (some ⟨r, 0, none⟩)] w (GiveN r m A cap l qb qa w (zeroN, i + 1, true)) := by
 have hll := hg.len
 have HWD := hid (fun w0 (h0 : Rq w0 r m A cap l qb qa i) => pword_any i 0 w0 h0 hi hll (by decide))
 rw [Nat.add_zero] at HWD
 unfold wv at HWD
 have HMK := hid (fun w0 (h0 : Rq w0 r m A cap l qb qa i) => pmark_any i 1 ⟨#[61]⟩ w0 h0 hi hll (by decide) (by decide) false hm)
 obtain ⟨x, hx⟩ : ∃ x, wd l i = x := ⟨_, rfl⟩
 rw [hx] at HWD hk ht
 obtain ⟨wk, wt, wp⟩ := x
 dsimp only at HWD hk ht
 obtain ⟨T, hT⟩ : ∃ T : ByteArray, ⟨wt.toArray⟩ = T := ⟨_, rfl⟩
 obtain rfl : wt = T.data.toList := by rw [← hT]
 rw [hT] at HWD
 have hfd0 := fun w0 => field0 wk wp T w0
 have hfd1 := fun w0 => field1 wk wp T w0
 subst hk
 obtain rfl : T = ⟨#[98, 121]⟩ := by rw [← Lib.mk_data T, ht]; rfl
 have f2 : ((⟨#[98, 121]⟩ : ByteArray).toList == [98, 121]) = true := by rw [ByteArray.toList_eq]; rfl
 have f3 : ((⟨#[98, 121]⟩ : ByteArray).toList != [98, 121]) = false := by simp [bne, f2]
 have HR := hid h
 have hrl := h.lt
 have hql := h.ltq
 have hal := h.lta
 have HCL := hid (fun w0 (h0 : Rq w0 r m A cap l qb qa (i + 1)) => pcolumn_any hg (i + 1) w0 h0 hil)
 rw [nameP_no hn] at HCL
 clear h hx hT hg ht hm hn
 go_enter Tryz.func91, Tryz.ntmps91
 obtain ⟨wa, hwa⟩ : ∃ wa, w.alloc (.cells #[.string ⟨#[]⟩, .string ⟨#[]⟩, .slice none 0 0] 25) = wa := ⟨_, rfl⟩
 obtain ⟨w0, hw0⟩ : ∃ w0, wa.alloc (.cells #[.string ⟨#[98, 121]⟩, .string ⟨#[]⟩, .slice none 0 0] 25) = w0 := ⟨_, rfl⟩
 have hza : wa.heap.size = w.heap.size + 1 := by rw [← hwa]; simp
 have hz0 : w0.heap.size = w.heap.size + 2 := by rw [← hw0, ← hwa]; simp
 have N0 := hid (show NBox w0 w.heap.size (.string ⟨#[]⟩) (.string ⟨#[]⟩) (.slice none 0 0) by rw [← hw0, ← hwa]; exact (NBox.fresh _ _ _ _ _).alloc _)
 have M0 := hid (show NBox w0 (w.heap.size + 1) (.string ⟨#[98, 121]⟩) (.string ⟨#[]⟩) (.slice none 0 0) by rw [← hw0, ← hza]; exact NBox.fresh _ _ _ _ _)
 have R0 := hid (show Rq w0 r m A cap l qb qa i by rw [← hw0, ← hwa]; exact (HR.out.alloc _).alloc _)
 have B0 := hid (show But w w0 r by rw [← hw0, ← hwa]; exact ((But.refl w r).alloc _).alloc _)
 rw [← hwa] at hw0
 have HW0 := hid hw0
 clear hwa hza hw0 wa
 go_upto_region 2 with fail
 rw [HW0.out]
 go_wp2_with fail
 refine (HWD.out _ R0.out).mono ?_
 rintro e w1 ⟨rfl, hb1⟩
 have zb1 := hb1.size
 have N1 := hid (N0.out.below hb1)
 have M1 := hid (M0.out.below hb1)
 have R1 := hid (R0.out.below hb1)
 have B1 := hid (B0.out.next hb1)
 clear hb1
 go_wp2_with fail
 refine (HWD.out _ R1.out).mono ?_
 rintro e w2 ⟨rfl, hb2⟩
 have zb2 := hb2.size
 have N2 := hid (N1.out.below hb2)
 have M2 := hid (M1.out.below hb2)
 have R2 := hid (R1.out.below hb2)
 have B2 := hid (B1.out.next hb2)
 clear hb2
 go_wp2_with fail
 refine (HMK.out _ R2.out).mono ?_
 rintro e w3 ⟨rfl, hb3⟩
 have zb3 := hb3.size
 have N3 := hid (N2.out.below hb3)
 have M3 := hid (M2.out.below hb3)
 have R3 := hid (R2.out.below hb3)
 have B3 := hid (B2.out.next hb3)
 clear hb3
 have c1 := R3.out.rd.c1
 have f1 := R3.out.rd.fr 1
 have zr3 := R3.out.lt
 obtain ⟨i1, hi1⟩ : ∃ i1, i + 1 = i1 := ⟨_, rfl⟩
 have e2 : IntKind.i64.wrap ((i : Int) + 1) = (i1 : Int) := by rw [IntKind.wrap_i64]; omega
 obtain ⟨w4, hw4⟩ : ∃ w4, w3.setCell ⟨r, 1, none⟩ (.int .i64 (i1 : Int)) = w4 := ⟨_, rfl⟩
 have z4 : w4.heap.size = w3.heap.size := by rw [← hw4]; simp
 have R4 := hid (show Rq w4 r m A cap l qb qa i1 by rw [← hw4]; exact R3.out.at i1)
 have B4 := hid (show But w w4 r by rw [← hw4]; exact B3.out.setCell 1 _)
 have N4 := hid (show NBox w4 w.heap.size (.string ⟨#[]⟩) (.string ⟨#[]⟩) (.slice none 0 0) by rw [← hw4]; exact N3.out.far _ (by show r ≠ _; omega) _)
 have M4 := hid (show NBox w4 (w.heap.size + 1) (.string ⟨#[98, 121]⟩) (.string ⟨#[]⟩) (.slice none 0 0) by rw [← hw4]; exact M3.out.far _ (by show r ≠ _; omega) _)
 have HW4 := hid hw4
 have HI1 := hid hi1
 clear hw4 hi1
 go_wp2
 rw [HW4.out]
 clear c1 f1
 go_loopw [6] (fun _ wr => NBox wr w.heap.size (.string ⟨#[]⟩) (.string ⟨#[]⟩) (.slice none 0 0) ∧ NBox wr (w.heap.size + 1) (.string ⟨#[98, 121]⟩) (.string ⟨#[]⟩) (.slice none 0 0) ∧ But w wr r ∧ Rq wr r m A cap l qb qa i1) (fun _ _ => 0)
 case atStart => exact ⟨N4.out, M4.out, B4.out, R4.out⟩
 case round =>
  obtain ⟨N5', M5', B5', R5'⟩ := hrel
  have N5 := hid N5'
  have M5 := hid M5'
  have B5 := hid B5'
  have R5 := hid R5'
  have y2 := M5'.c2
  have yf := M5'.fr 2
  have zm5 := M5'.lt
  have zr5 := R5'.lt
  have zb5 := B5'.size
  rw [← HI1.out] at R5
  clear N5' M5' B5' R5'
  go_wp2_with fail
  refine (HCL.out _ R5.out).mono ?_
  rintro e w6 ⟨op, tx, Y, n, c6, rfl, hn6, hb6, hr6⟩
  dsimp only at hn6 hr6
  have zb6 := hb6.size
  obtain ⟨w7, hw7⟩ : ∃ w7, w6.alloc (.cells #[.string op, .string tx, .slice Y n c6] 25) = w7 := ⟨_, rfl⟩
  have N7 := hid (show NBox w7 w.heap.size (.string ⟨#[]⟩) (.string ⟨#[]⟩) (.slice none 0 0) by rw [← hw7]; exact (N5.out.but (by omega) hb6).alloc _)
  have M7 := hid (show NBox w7 (w.heap.size + 1) (.string ⟨#[98, 121]⟩) (.string ⟨#[]⟩) (.slice none 0 0) by rw [← hw7]; exact (M5.out.but (by omega) hb6).alloc _)
  have B7 := hid (show But w w7 r by rw [← hw7]; exact (B5.out.trans hb6).alloc _)
  have R7 := hid (show Rq w7 r m A cap l qb qa (i + 1) by rw [← hw7]; exact hr6.alloc _)
  have HW7 := hid hw7
  clear hb6 hr6 hn6 hw7 y2 yf
  go_upto_region 7 with fail
  rw [HW7.out]
  obtain ⟨x0, x1, x2, xf⟩ := N7.out
  obtain ⟨v0, v1, v2, vf⟩ := M7.out
  have zn := N7.out.lt
  have zv := M7.out.lt
  go_wp2
  have Y := N7.out.set (.string ⟨#[98, 121]⟩) (.string ⟨#[]⟩) (.slice none 0 0)
  exact bodyPost_ret (v := .tuple #[.agg #[.string ⟨#[98, 121]⟩, .string ⟨#[]⟩, .slice none 0 0], .bool (!true)]) (by simp [results, Tryz.results91, go_sem, Y.c0, Y.c1, Y.c2]) rfl
   (giveN_ret (b := true) (fun h => (by cases h)) B7.out R7.out hrl hql hal)
theorem pby_names (hg : Good l) (i : Nat) (w : World) (h : Rq w r m A cap l qb qa i) (hi : i ≤ l.length) (hk : (wd l i).1 = 0) (ht : (wd l i).2.1 = sBy) (hil : i < l.length) (hm : isW (Code.bare l) (i + 1) false [61] = false) (hn : nmOk (Code.bare l) (i + 1) = true) (res : Res) (hres : (if isW (Code.bare l) (namesP (Code.bare l) ((Code.bare l).length + 1) (i + 1)).2 false [44] = true then ((Nod.mk sBy [] (namesP (Code.bare l) ((Code.bare l).length + 1) (i + 1)).1, (namesP (Code.bare l) ((Code.bare l).length + 1) (i + 1)).2 + 1, false) : Res) else (zeroN, (namesP (Code.bare l) ((Code.bare l).length + 1) (i + 1)).2, true)) = res) :
  Calls Tryz.prog 91 #[.pointer (some ⟨r, 0, none⟩)] w (GiveN r m A cap l qb qa w res) := by
 have hll := hg.len
 have HWD := hid (fun w0 (h0 : Rq w0 r m A cap l qb qa i) => pword_any i 0 w0 h0 hi hll (by decide))
 rw [Nat.add_zero] at HWD
 unfold wv at HWD
 have HMK := hid (fun w0 (h0 : Rq w0 r m A cap l qb qa i) => pmark_any i 1 ⟨#[61]⟩ w0 h0 hi hll (by decide) (by decide) false hm)
 obtain ⟨x, hx⟩ : ∃ x, wd l i = x := ⟨_, rfl⟩
 rw [hx] at HWD hk ht
 obtain ⟨wk, wt, wp⟩ := x
 dsimp only at HWD hk ht
 obtain ⟨T, hT⟩ : ∃ T : ByteArray, ⟨wt.toArray⟩ = T := ⟨_, rfl⟩
 obtain rfl : wt = T.data.toList := by rw [← hT]
 rw [hT] at HWD
 have hfd0 := fun w0 => field0 wk wp T w0
 have hfd1 := fun w0 => field1 wk wp T w0
 subst hk
 obtain rfl : T = ⟨#[98, 121]⟩ := by rw [← Lib.mk_data T, ht]; rfl
 have f2 : ((⟨#[98, 121]⟩ : ByteArray).toList == [98, 121]) = true := by rw [ByteArray.toList_eq]; rfl
 have f3 : ((⟨#[98, 121]⟩ : ByteArray).toList != [98, 121]) = false := by simp [bne, f2]
 have HR := hid h
 have hrl := h.lt
 have hql := h.ltq
 have hal := h.lta
 obtain ⟨R, hR⟩ : ∃ R, namesP (Code.bare l) ((Code.bare l).length + 1) (i + 1) = R := ⟨_, rfl⟩
 rw [hR] at hres
 have HRS := hid hres
 have HRR := hid hR
 have HG9 := hid hg
 have HN1 := hid hn
 obtain ⟨zi, hi0, hz0', hz1, hz2⟩ := info_parts info_node
 clear h hx hT hg ht hm hn hres hR
 go_enter Tryz.func91, Tryz.ntmps91
 obtain ⟨wa, hwa⟩ : ∃ wa, w.alloc (.cells #[.string ⟨#[]⟩, .string ⟨#[]⟩, .slice none 0 0] 25) = wa := ⟨_, rfl⟩
 obtain ⟨w0, hw0⟩ : ∃ w0, wa.alloc (.cells #[.string ⟨#[98, 121]⟩, .string ⟨#[]⟩, .slice none 0 0] 25) = w0 := ⟨_, rfl⟩
 have hza : wa.heap.size = w.heap.size + 1 := by rw [← hwa]; simp
 have hz0 : w0.heap.size = w.heap.size + 2 := by rw [← hw0, ← hwa]; simp
 have N0 := hid (show NBox w0 w.heap.size (.string ⟨#[]⟩) (.string ⟨#[]⟩) (.slice none 0 0) by rw [← hw0, ← hwa]; exact (NBox.fresh _ _ _ _ _).alloc _)
 have M0 := hid (show NBox w0 (w.heap.size + 1) (.string ⟨#[98, 121]⟩) (.string ⟨#[]⟩) (.slice none 0 0) by rw [← hw0, ← hza]; exact NBox.fresh _ _ _ _ _)
 have R0 := hid (show Rq w0 r m A cap l qb qa i by rw [← hw0, ← hwa]; exact (HR.out.alloc _).alloc _)
 have B0 := hid (show But w w0 r by rw [← hw0, ← hwa]; exact ((But.refl w r).alloc _).alloc _)
 rw [← hwa] at hw0
 have HW0 := hid hw0
 clear hwa hza hw0 wa
 go_upto_region 2 with fail
 rw [HW0.out]
 go_wp2_with fail
 refine (HWD.out _ R0.out).mono ?_
 rintro e w1 ⟨rfl, hb1⟩
 have zb1 := hb1.size
 have N1 := hid (N0.out.below hb1)
 have M1 := hid (M0.out.below hb1)
 have R1 := hid (R0.out.below hb1)
 have B1 := hid (B0.out.next hb1)
 clear hb1
 go_wp2_with fail
 refine (HWD.out _ R1.out).mono ?_
 rintro e w2 ⟨rfl, hb2⟩
 have zb2 := hb2.size
 have N2 := hid (N1.out.below hb2)
 have M2 := hid (M1.out.below hb2)
 have R2 := hid (R1.out.below hb2)
 have B2 := hid (B1.out.next hb2)
 clear hb2
 go_wp2_with fail
 refine (HMK.out _ R2.out).mono ?_
 rintro e w3 ⟨rfl, hb3⟩
 have zb3 := hb3.size
 have N3 := hid (N2.out.below hb3)
 have M3 := hid (M2.out.below hb3)
 have R3 := hid (R2.out.below hb3)
 have B3 := hid (B2.out.next hb3)
 clear hb3
 have c1 := R3.out.rd.c1
 have f1 := R3.out.rd.fr 1
 have zr3 := R3.out.lt
 obtain ⟨i1, hi1⟩ : ∃ i1, i + 1 = i1 := ⟨_, rfl⟩
 have e2 : IntKind.i64.wrap ((i : Int) + 1) = (i1 : Int) := by rw [IntKind.wrap_i64]; omega
 obtain ⟨w4, hw4⟩ : ∃ w4, w3.setCell ⟨r, 1, none⟩ (.int .i64 (i1 : Int)) = w4 := ⟨_, rfl⟩
 have z4 : w4.heap.size = w3.heap.size := by rw [← hw4]; simp
 have R4 := hid (show Rq w4 r m A cap l qb qa i1 by rw [← hw4]; exact R3.out.at i1)
 have B4 := hid (show But w w4 r by rw [← hw4]; exact B3.out.setCell 1 _)
 have N4 := hid (show NBox w4 w.heap.size (.string ⟨#[]⟩) (.string ⟨#[]⟩) (.slice none 0 0) by rw [← hw4]; exact N3.out.far _ (by show r ≠ _; omega) _)
 have M4 := hid (show NBox w4 (w.heap.size + 1) (.string ⟨#[98, 121]⟩) (.string ⟨#[]⟩) (.slice none 0 0) by rw [← hw4]; exact M3.out.far _ (by show r ≠ _; omega) _)
 have HW4 := hid hw4
 have HI1 := hid hi1
 clear hw4 hi1
 go_wp2
 rw [HW4.out]
 clear c1 f1
 go_loopw [6] (fun _ wr => BYI r m A cap l qb qa R w wr) (fun _ wr => l.length - atOf wr r)
 case atStart =>
  have hi1 := HI1.out
  refine ⟨(Code.bare l).length + 1, i1, [], [], none, 0, N4.out, M4.out, World.ownsRow_nil _ _ _ _, RAll.nil _ _, by omega, by rw [bare_length]; omega, by simp, hid ?_, B4.out, R4.out, fun _ => by rw [← hi1]; exact HN1.out⟩
  rw [← HRR.out, hi1]
  rfl
 case round =>
  obtain ⟨f, j, ks, xs, X, cp, hn5, hm5, hown, hall, hj, hf, hkj, HE, hbut, hqr, hfst⟩ := hrel
  have N5 := hid hn5
  have HO := hid hown
  have HA := hid hall
  have HB := hid hbut
  have R5 := hid hqr
  have HAT := hid hqr.rd.atOf
  have zr5 := hqr.lt
  have zb5 := hbut.size
  have hks := hall.1
  obtain ⟨N, hN⟩ : ∃ N, xs.length = N := ⟨_, rfl⟩
  rw [hN] at hm5 HO
  have M5 := hid hm5
  have HKS := hid (show ks.length = N by omega)
  have HN := hid hN
  have HFS := hid hfst
  have hNj : N ≤ j := by omega
  obtain ⟨f', rfl⟩ : ∃ f', f = f' + 1 := ⟨f - 1, by omega⟩
  have y2 := hm5.c2
  have yf := hm5.fr 2
  have zm5 := hm5.lt
  have HWJ := hid (fun w0 (h0 : Rq w0 r m A cap l qb qa j) => pword_any j 0 w0 h0 hj hll (by decide))
  rw [Nat.add_zero] at HWJ
  have HCL := hid (fun w0 (h0 : Rq w0 r m A cap l qb qa j) => pcolumn_any HG9.out j w0 h0 hj)
  have HNM := hid (fun w0 (he : Env w0.heap.size m w0) => pisname_any (m := m) HG9.out j w0 he)
  clear hn5 hm5 hown hall hbut hqr hks hN hfst hkj
  obtain ⟨ok, hok⟩ : ∃ ok, nmOk (Code.bare l) j = ok := ⟨_, rfl⟩
  rw [hok] at HNM
  by_cases hN0 : N = 0
  ·have hok1 := HFS.out (by rw [HKS.out]; exact hN0)
   have hjl : j < l.length := by have := (isK_lt (Bool.and_eq_true _ _ ▸ hok1).1).1; rw [bare_length] at this; exact this
   have HE5 := hid (show R = (ks ++ [Nod.mk sCol (txt (Code.bare l) j) []] ++ (namesP (Code.bare l) f' (j + 1)).1, (namesP (Code.bare l) f' (j + 1)).2) by rw [HE.out, namesP, if_pos hok1]; simp)
   rw [nameP_yes hok1] at HCL
   have e0 : ((N : Int) == 0) = true := by simp [hN0]
   have e0n : (N == 0) = true := by simp [hN0]
   have HN0 := hid hN0
   clear hok hok1 hN0 HE
   go_wp2_with fail
   refine (HCL.out _ R5.out).mono ?_
   rintro e w6 ⟨op, tx, Y, n, c6, rfl, hn6, hb6, hr6⟩
   dsimp only at hn6 hr6
   have zb6 := hb6.size
   have N6 := hid (N5.out.but (by omega) hb6)
   have M6 := hid (M5.out.but (by omega) hb6)
   have O6 := hid (own_but HO.out hb6 (by omega))
   have B6 := hid (HB.out.trans hb6)
   have R6 := hid hr6
   have I6 := hid (hn6 (by first | rfl | trivial))
   clear hb6 hr6 hn6 y2 yf
   obtain ⟨w7, hw7⟩ : ∃ w7, w6.alloc (.cells #[.string op, .string tx, .slice Y n c6] 25) = w7 := ⟨_, rfl⟩
   have z7 : w7.heap.size = w6.heap.size + 1 := by rw [← hw7]; simp
   have N7 := hid (show NBox w7 w.heap.size (.string ⟨#[]⟩) (.string ⟨#[]⟩) (.slice none 0 0) by rw [← hw7]; exact N6.out.alloc _)
   have M7 := hid (show NBox w7 (w.heap.size + 1) (.string ⟨#[98, 121]⟩) (.string ⟨#[]⟩) (.slice X N cp) by rw [← hw7]; exact M6.out.alloc _)
   have O7 := hid (show w7.ownsRow (w.heap.size + 2) 25 3 (.slice X N cp) N (flatC nc xs) by rw [← hw7]; exact own_call O6.out (below_alloc _ _))
   have B7 := hid (show But w w7 r by rw [← hw7]; exact B6.out.alloc _)
   have R7 := hid (show Rq w7 r m A cap l qb qa (j + 1) by rw [← hw7]; exact R6.out.alloc _)
   have V7 := hid (show NBox w7 w6.heap.size (.string op) (.string tx) (.slice Y n c6) by rw [← hw7]; exact NBox.fresh _ _ _ _ _)
   have y2 := M7.out.c2
   obtain ⟨v0, v1, v2, vf⟩ := V7.out
   rw [← hw7] at y2 v0 v1 v2
   have HW7 := hid hw7
   clear hw7 vf
   go_wp2_with (at_builtin; rw [HW7.out]; refine wpList_append_lies _ rfl _ _ _ rfl (w.heap.size + 2) 25 zi _ 3 56 Tryz.underlying23 hi0 hz0' hz1 hz2 rfl (by omega) _ N (flatC nc xs) rfl ?ca ⟨w6.heap.size + 1, 0, none⟩ 1 1 [.string op, .string tx, .slice Y n c6] rfl rfl ?cn ?co (by omega) ?cm ?cb ?cs (w6.heap.size + 1 + 1) ?ch ?_)
   case ca => exact own_call O7.out (below_alloc _ _)
   case cn => have h := World.news_of_block (heap_alloc_new w7 (.cells #[.string op, .string tx, .slice Y n c6] 25)); rw [z7] at h; exact h
   case co => exact nc_one (op, tx, Y, n, c6)
   case cm => unfold maxLen; omega
   case cb => omega
   case cs => simp; omega
   case ch => simp [z7]
   intro gg cap9 w9 hown9 hgrow hat hlt9
   obtain ⟨w8, hw8⟩ : ∃ w8, w7.alloc (.cells #[.string op, .string tx, .slice Y n c6] 25) = w8 := ⟨_, rfl⟩
   have z8 : w8.heap.size = w6.heap.size + 1 + 1 := by rw [← hw8]; simp [z7]
   have BA := hid (show Below w7.heap.size w7 w8 by rw [← hw8]; exact below_alloc _ _)
   rw [hw8] at hgrow
   have hrow : ∀ k, (Value.slice X N cp).ownBlock = some k → w.heap.size + 2 ≤ k := fun k e => (O7.out.lt k e).1
   have hz9 := hgrow.size
   have N9 := hid ((N7.out.below BA.out).grown hgrow (fun e => by have := hrow _ e; omega))
   have M9 := hid ((M7.out.below BA.out).grown hgrow (fun e => by have := hrow _ e; omega))
   have B9 := hid ((B7.out.next BA.out).grown hgrow (fun k e => by have := hrow _ e; omega))
   have R9 := hid ((R7.out.below BA.out).under (B := w.heap.size) ⟨hgrow.os, hgrow.tape, hgrow.output, hgrow.size, fun k hk => hgrow.block k (by have := B7.out.size; omega) (fun e => by have := hrow _ e.symm; omega)⟩ hrl hql hal)
   have y2' := M9.out.c2
   have yf' := M9.out.fr 2
   have hsz := M9.out.lt
   have zwb : (w9.setCell ⟨w.heap.size + 1, 2, none⟩ (.slice (some ⟨gg, 0, none⟩) (N + 1) cap9)).heap.size = w9.heap.size := by simp
   have R10 := (R9.out.new ⟨w.heap.size + 1, 2, none⟩ (by show r < w.heap.size + 1; omega) (by show w.heap.size + 1 ≠ qb; omega) (by show w.heap.size + 1 ≠ qa; omega) (.slice (some ⟨gg, 0, none⟩) (N + 1) cap9))
   have IV := hid (show BYI r m A cap l qb qa R w (w9.setCell ⟨w.heap.size + 1, 2, none⟩ (.slice (some ⟨gg, 0, none⟩) (N + 1) cap9)) from by
    have hl1 : (xs ++ [(op, tx, Y, n, c6)]).length = N + 1 := by simp [HN.out]
    have hfl : flatC nc (xs ++ [(op, tx, Y, n, c6)]) = flatC nc xs ++ nc (op, tx, Y, n, c6) := flatC_snoc xs _
    refine ⟨f', j + 1, ks ++ [.mk sCol (txt (bare l) j) []], xs ++ [(op, tx, Y, n, c6)], some ⟨gg, 0, none⟩, cap9, N9.out.far _ (by show w.heap.size + 1 ≠ _; omega) _, by rw [hl1]; exact M9.out.kid _, by rw [hl1, hfl]; exact own_set hown9 _ (by show w.heap.size + 1 < _; omega) _, ?_, by omega, by omega, by rw [List.length_append, HKS.out]; simp; omega, HE5, B9.out.new _ (by show w.heap.size ≤ w.heap.size + 1; omega) _, R10, fun e => by rw [List.length_append] at e; simp at e⟩
    exact (HA.out.keep (fun g h => h) (fun p h => h.elim)).snoc I6.out.bare)
   have hms : l.length - atOf (w9.setCell ⟨w.heap.size + 1, 2, none⟩ (.slice (some ⟨gg, 0, none⟩) (N + 1) cap9)) r < l.length - atOf wr r := by
    rw [R10.rd.atOf, HAT.out]
    omega
   clear hgrow hat hown9 hlt9 R10
   go_wp2
   go_roundw
   case rel => exact IV.out
   case measure => exact hms
  ·have e0 : ((N : Int) == 0) = false := by simp; omega
   have e0n : (N == 0) = false := by simp; omega
   cases ok with
   | false =>
    obtain ⟨cc, hcc⟩ : ∃ cc, isW (Code.bare l) j false [44] = cc := ⟨_, rfl⟩
    have HTK := hid (fun w0 (h0 : Rq w0 r m A cap l qb qa j) => ptake_any j ⟨#[44]⟩ w0 h0 hj hll (by decide) cc hcc)
    have HCC := hid hcc
    clear hcc
    have HEE := hid (show R = (ks, j) by rw [HE.out, namesP, if_neg (by rw [hok]; decide)]; simp)
    clear HE
    go_wp2_with fail
    refine (HWJ.out _ R5.out).mono ?_
    rintro e w6 ⟨rfl, hb6⟩
    have zb6 := hb6.size
    have N6 := hid (N5.out.below hb6)
    have M6 := hid (M5.out.below hb6)
    have O6 := hid (own_call HO.out hb6)
    have B6 := hid (HB.out.next hb6)
    have R6 := hid (R5.out.below hb6)
    clear hb6 y2 yf
    go_wp2_with fail
    refine (HNM.out _ R6.out.rd.env).mono ?_
    rintro e w7 ⟨rfl, hb7⟩
    have zb7 := hb7.size
    have N7 := hid (N6.out.below hb7)
    have M7 := hid (M6.out.below hb7)
    have O7 := hid (own_call O6.out hb7)
    have B7 := hid (B6.out.next hb7)
    have R7 := hid (R6.out.below hb7)
    clear hb7
    obtain ⟨v0, v1, v2, vf⟩ := M7.out
    obtain ⟨x0, x1, x2, xf⟩ := N7.out
    have zn := N7.out.lt
    have zv := M7.out.lt
    go_upto_region 10 with fail
    refine wp_region_held_drew (S := fun w' => w'.cell? ⟨w.heap.size + 1, 0, none⟩ = some (.string ⟨#[98, 121]⟩) ∧ w'.cell? ⟨w.heap.size + 1, 1, none⟩ = some (.string ⟨#[]⟩) ∧ w'.cell? ⟨w.heap.size + 1, 2, none⟩ = some (.slice X N cp)) (by kernel_rfl) ⟨v0, v1, v2⟩ (fun hHeld => ?_)
    refine take1 (v := ?_) 0 53 rfl ?_ ?_; rotate_left; (intro w hSw; (try dsimp only at hSw); go_simp; try with_reducible rfl); (try simp only [Act.put, List.setIfInBounds_toArray, List.set_cons_zero, List.set_cons_succ])
    refine take1 (v := ?_) 1 54 rfl ?_ ?_; rotate_left; (intro w hSw; (try dsimp only at hSw); go_simp; try with_reducible rfl); (try simp only [Act.put, List.setIfInBounds_toArray, List.set_cons_zero, List.set_cons_succ])
    refine wpAnyH_ready (rs := [2]) (by kernel_rfl) (by simp) ?_
    refine AllReadyH.cons (o := ⟨some 55, _, _, _, _, _⟩) rfl (fun K hK => ?_) AllReadyH.nil
    go_simp
    refine (HTK.out _ (R7.out.below (Below.drew (Below.refl _ _)))).mono ?_
    rintro e w8 ⟨rfl, hb8, hr8⟩
    have zb8 : w7.heap.size ≤ w8.heap.size := hb8.size
    have M8 := hid ((M7.out.below (Below.drew (Below.refl _ _))).but (by omega) hb8)
    have N8 := hid ((N7.out.below (Below.drew (Below.refl _ _))).but (by omega) hb8)
    have O8 := hid (own_but (own_call O7.out (Below.drew (Below.refl _ _))) hb8 (by omega))
    have B8 := hid ((B7.out.next (Below.drew (Below.refl _ _))).trans hb8)
    have R8 := hid hr8
    refine hK.out _ _ ⟨M8.out.c0, M8.out.c1, M8.out.c2⟩ (fun hHeld2 => ?_)
    clear hK K hb8 hr8
    obtain ⟨y0, y1, y2, yf⟩ := N8.out
    have zn8 := N8.out.lt
    (try simp only [Act.put, List.setIfInBounds_toArray, List.set_cons_zero, List.set_cons_succ])
    have VV := ((M8.out.far ⟨w.heap.size, 0, none⟩ (by show w.heap.size ≠ _; omega) (.string ⟨#[98, 121]⟩)).far ⟨w.heap.size, 1, none⟩ (by show w.heap.size ≠ _; omega) (.string ⟨#[]⟩)).far ⟨w.heap.size, 2, none⟩ (by show w.heap.size ≠ _; omega) (.slice X N cp)
    refine wpAnyH_ready (rs := [3]) (by kernel_rfl) (by simp) ?_
    refine AllReadyH.cons (o := ⟨none, _, _, _, _, _⟩) rfl (fun K hK => ?_) AllReadyH.nil
    go_simp
    refine hK.out _ _ ⟨VV.c0, VV.c1, VV.c2⟩ (fun hHeld3 => ?_)
    clear hK K
    (try simp only [Act.put, List.setIfInBounds_toArray, List.set_cons_zero, List.set_cons_succ])
    refine take1 (v := ?_) 4 3 rfl ?_ ?_; rotate_left; (intro w hSw; (try dsimp only at hSw); go_simp; try with_reducible rfl); (try simp only [Act.put, List.setIfInBounds_toArray, List.set_cons_zero, List.set_cons_succ])
    refine wpAnyH_done (by kernel_rfl) ?_ _
    go_wp2
    have Y := N8.out.set (.string ⟨#[98, 121]⟩) (.string ⟨#[]⟩) (.slice X N cp)
    refine bodyPost_ret (v := .tuple #[.agg #[.string ⟨#[98, 121]⟩, .string ⟨#[]⟩, .slice X N cp], .bool cc]) (by simp [results, Tryz.results91, go_sem, Y.c0, Y.c1, Y.c2]) rfl ?_
    have R9 := R8.out
    have hres := HRS.out
    rw [HEE.out] at hres
    dsimp only at hres
    rw [HCC.out] at hres
    cases cc with
    | true =>
     rw [ift] at hres
     subst hres
     rw [if_pos (by simp)] at R9
     exact giveN_ret (b := false) (fun _ => by
      have hO8 := O8.out
      rw [← HN.out] at hO8
      obtain ⟨A', cap', e, hat, hcp⟩ := own_nat hO8
      injection e with e _ e2
      subst e e2
      have h1 := RIn.made cp ⟨#[98, 121]⟩ ⟨#[]⟩ (hat.keep (S' := fun k => w.heap.size < k ∧ k < w8.heap.size) (fun k hk => ⟨by have := hk.1; omega, hk.2⟩) (fun _ _ => rfl)) (HA.out.keep (S' := fun k => w.heap.size < k ∧ k < w8.heap.size) (fun _ h => h.elim) (fun _ h => h.elim)) (by rw [HKS.out]; omega) (by rw [← HA.out.1]; exact hcp)
      rw [HKS.out] at h1
      exact h1) B8.out R9 hrl hql hal
    | false =>
     rw [iff'] at hres
     subst hres
     rw [if_neg (by simp)] at R9
     exact giveN_ret (b := true) (fun h => (by cases h)) B8.out R9 hrl hql hal
   | true =>
    have hjl : j < l.length := by have := (isK_lt (Bool.and_eq_true _ _ ▸ hok).1).1; rw [bare_length] at this; exact this
    have HE5 := hid (show R = (ks ++ [Nod.mk sCol (txt (Code.bare l) j) []] ++ (namesP (Code.bare l) f' (j + 1)).1, (namesP (Code.bare l) f' (j + 1)).2) by rw [HE.out, namesP, if_pos hok]; simp)
    rw [nameP_yes hok] at HCL
    clear hok HE
    go_wp2_with fail
    refine (HWJ.out _ R5.out).mono ?_
    rintro e wb ⟨rfl, hb6⟩
    have zbb := hb6.size
    have Nb := hid (N5.out.below hb6)
    have Mb := hid (M5.out.below hb6)
    have Ob := hid (own_call HO.out hb6)
    have Bb := hid (HB.out.next hb6)
    have Rb := hid (R5.out.below hb6)
    clear hb6 y2 yf
    go_wp2_with fail
    refine (HNM.out _ Rb.out.rd.env).mono ?_
    rintro e wc ⟨rfl, hb7⟩
    have zbc := hb7.size
    have Nc := hid (Nb.out.below hb7)
    have Mc := hid (Mb.out.below hb7)
    have Oc := hid (own_call Ob.out hb7)
    have Bc := hid (Bb.out.next hb7)
    have Rc := hid (Rb.out.below hb7)
    clear hb7
    have y2 := Mc.out.c2
    have yf := Mc.out.fr 2
    go_wp2_with fail
    refine (HCL.out _ Rc.out).mono ?_
    rintro e w6 ⟨op, tx, Y, n, c6, rfl, hn6, hb6, hr6⟩
    dsimp only at hn6 hr6
    have zb6 := hb6.size
    have N6 := hid (Nc.out.but (by omega) hb6)
    have M6 := hid (Mc.out.but (by omega) hb6)
    have O6 := hid (own_but Oc.out hb6 (by omega))
    have B6 := hid (Bc.out.trans hb6)
    have R6 := hid hr6
    have I6 := hid (hn6 (by first | rfl | trivial))
    clear hb6 hr6 hn6 y2 yf
    obtain ⟨w7, hw7⟩ : ∃ w7, w6.alloc (.cells #[.string op, .string tx, .slice Y n c6] 25) = w7 := ⟨_, rfl⟩
    have z7 : w7.heap.size = w6.heap.size + 1 := by rw [← hw7]; simp
    have N7 := hid (show NBox w7 w.heap.size (.string ⟨#[]⟩) (.string ⟨#[]⟩) (.slice none 0 0) by rw [← hw7]; exact N6.out.alloc _)
    have M7 := hid (show NBox w7 (w.heap.size + 1) (.string ⟨#[98, 121]⟩) (.string ⟨#[]⟩) (.slice X N cp) by rw [← hw7]; exact M6.out.alloc _)
    have O7 := hid (show w7.ownsRow (w.heap.size + 2) 25 3 (.slice X N cp) N (flatC nc xs) by rw [← hw7]; exact own_call O6.out (below_alloc _ _))
    have B7 := hid (show But w w7 r by rw [← hw7]; exact B6.out.alloc _)
    have R7 := hid (show Rq w7 r m A cap l qb qa (j + 1) by rw [← hw7]; exact R6.out.alloc _)
    have V7 := hid (show NBox w7 w6.heap.size (.string op) (.string tx) (.slice Y n c6) by rw [← hw7]; exact NBox.fresh _ _ _ _ _)
    have y2 := M7.out.c2
    obtain ⟨v0, v1, v2, vf⟩ := V7.out
    rw [← hw7] at y2 v0 v1 v2
    have HW7 := hid hw7
    clear hw7 vf
    go_wp2_with (at_builtin; rw [HW7.out]; refine wpList_append_lies _ rfl _ _ _ rfl (w.heap.size + 2) 25 zi _ 3 56 Tryz.underlying23 hi0 hz0' hz1 hz2 rfl (by omega) _ N (flatC nc xs) rfl ?ca ⟨w6.heap.size + 1, 0, none⟩ 1 1 [.string op, .string tx, .slice Y n c6] rfl rfl ?cn ?co (by omega) ?cm ?cb ?cs (w6.heap.size + 1 + 1) ?ch ?_)
    case ca => exact own_call O7.out (below_alloc _ _)
    case cn => have h := World.news_of_block (heap_alloc_new w7 (.cells #[.string op, .string tx, .slice Y n c6] 25)); rw [z7] at h; exact h
    case co => exact nc_one (op, tx, Y, n, c6)
    case cm => unfold maxLen; omega
    case cb => omega
    case cs => simp; omega
    case ch => simp [z7]
    intro gg cap9 w9 hown9 hgrow hat hlt9
    obtain ⟨w8, hw8⟩ : ∃ w8, w7.alloc (.cells #[.string op, .string tx, .slice Y n c6] 25) = w8 := ⟨_, rfl⟩
    have z8 : w8.heap.size = w6.heap.size + 1 + 1 := by rw [← hw8]; simp [z7]
    have BA := hid (show Below w7.heap.size w7 w8 by rw [← hw8]; exact below_alloc _ _)
    rw [hw8] at hgrow
    have hrow : ∀ k, (Value.slice X N cp).ownBlock = some k → w.heap.size + 2 ≤ k := fun k e => (O7.out.lt k e).1
    have hz9 := hgrow.size
    have N9 := hid ((N7.out.below BA.out).grown hgrow (fun e => by have := hrow _ e; omega))
    have M9 := hid ((M7.out.below BA.out).grown hgrow (fun e => by have := hrow _ e; omega))
    have B9 := hid ((B7.out.next BA.out).grown hgrow (fun k e => by have := hrow _ e; omega))
    have R9 := hid ((R7.out.below BA.out).under (B := w.heap.size) ⟨hgrow.os, hgrow.tape, hgrow.output, hgrow.size, fun k hk => hgrow.block k (by have := B7.out.size; omega) (fun e => by have := hrow _ e.symm; omega)⟩ hrl hql hal)
    have y2' := M9.out.c2
    have yf' := M9.out.fr 2
    have hsz := M9.out.lt
    have zwb : (w9.setCell ⟨w.heap.size + 1, 2, none⟩ (.slice (some ⟨gg, 0, none⟩) (N + 1) cap9)).heap.size = w9.heap.size := by simp
    have R10 := (R9.out.new ⟨w.heap.size + 1, 2, none⟩ (by show r < w.heap.size + 1; omega) (by show w.heap.size + 1 ≠ qb; omega) (by show w.heap.size + 1 ≠ qa; omega) (.slice (some ⟨gg, 0, none⟩) (N + 1) cap9))
    have IV := hid (show BYI r m A cap l qb qa R w (w9.setCell ⟨w.heap.size + 1, 2, none⟩ (.slice (some ⟨gg, 0, none⟩) (N + 1) cap9)) from by
     have hl1 : (xs ++ [(op, tx, Y, n, c6)]).length = N + 1 := by simp [HN.out]
     have hfl : flatC nc (xs ++ [(op, tx, Y, n, c6)]) = flatC nc xs ++ nc (op, tx, Y, n, c6) := flatC_snoc xs _
     refine ⟨f', j + 1, ks ++ [.mk sCol (txt (bare l) j) []], xs ++ [(op, tx, Y, n, c6)], some ⟨gg, 0, none⟩, cap9, N9.out.far _ (by show w.heap.size + 1 ≠ _; omega) _, by rw [hl1]; exact M9.out.kid _, by rw [hl1, hfl]; exact own_set hown9 _ (by show w.heap.size + 1 < _; omega) _, ?_, by omega, by omega, by rw [List.length_append, HKS.out]; simp; omega, HE5, B9.out.new _ (by show w.heap.size ≤ w.heap.size + 1; omega) _, R10, fun e => by rw [List.length_append] at e; simp at e⟩
     exact (HA.out.keep (fun g h => h) (fun p h => h.elim)).snoc I6.out.bare)
    have hms : l.length - atOf (w9.setCell ⟨w.heap.size + 1, 2, none⟩ (.slice (some ⟨gg, 0, none⟩) (N + 1) cap9)) r < l.length - atOf wr r := by
     rw [R10.rd.atOf, HAT.out]
     omega
    clear hgrow hat hown9 hlt9 R10
    go_wp2
    go_roundw
    case rel => exact IV.out
    case measure => exact hms
end
end Go.Proofs.YtjbpkpfmgbhlpaaGreatDoor.Code
/-
  The program's by, whatever comes.
-/
namespace Go.Proofs.YtjbpkpfmgbhlpaaGreatDoor.Code
open Go.ChangeShapes Go.WideShapes Go.ChangeAt Go.RowKit Val Elems
set_option linter.unusedVariables false
section
variable {r : Nat} {m : Int} {A : Option Addr} {cap : Nat} {l : List W} {qb qa : Nat}
theorem isK_wd {i : Nat} (h : i < l.length) (k : Int) : isK (Code.bare l) i false k = ((wd l i).1 == k) := by rw [isK_in h, wd_in h]
theorem txt_wd (i : Nat) : txt (Code.bare l) i = (wd l i).2.1 := by
 by_cases hil : i < l.length
 ·rw [txt_in hil, wd_in hil]
 ·rw [wd_out hil]; unfold txt; rw [bare_out hil]
theorem pby_any (hg : Good l) (i : Nat) (w : World) (h : Rq w r m A cap l qb qa i) (hi : i ≤ l.length) :
  Calls Tryz.prog 91 #[.pointer (some ⟨r, 0, none⟩)] w (GiveN r m A cap l qb qa w (byP (Code.bare l) i)) := by
 unfold byP hasP
 rw [txt_wd]
 by_cases hil : i < l.length
 ·rw [isK_wd hil]
  by_cases hk : (wd l i).1 = 0
  ·by_cases ht : (wd l i).2.1 = sBy
   ·have e1 : ((wd l i).1 == 0) = true := by simp [hk]
    have e2 : ((wd l i).2.1 == sBy) = true := by simp [ht]
    rw [e1, e2]
    cases hm : isW (Code.bare l) (i + 1) false [61] with
    | true => exact pby_mark hg i w h hi hk ht hm
    | false =>
     cases hn : nmOk (Code.bare l) (i + 1) with
     | false => exact pby_none hg i w h hi hk ht hil hm hn
     | true => exact pby_names hg i w h hi hk ht hil hm hn _ rfl
   ·have e2 : ((wd l i).2.1 == sBy) = false := by simp [ht]
    rw [e2]
    have := pby_other hg i w h hi hk ht
    simpa using this
  ·have e1 : ((wd l i).1 == 0) = false := by simp [hk]
   rw [e1]
   have := pby_kind hg i w h hi hk
   simpa using this
 ·rw [isK_out hil]
  have h0 := wd_out hil
  have := pby_other hg i w h hi (by rw [h0]) (by rw [h0]; decide)
  simpa using this
end
end Go.Proofs.YtjbpkpfmgbhlpaaGreatDoor.Code
/-
  The program's agg.
-/
namespace Go.Proofs.YtjbpkpfmgbhlpaaGreatDoor.Code
open Go.ChangeShapes Go.WideShapes Go.ChangeAt Go.RowKit Val Elems
set_option linter.unusedVariables false
set_option linter.unusedSimpArgs false
section
variable {r : Nat} {m : Int} {A : Option Addr} {cap : Nat} {l : List W} {qb qa : Nat}
theorem mput_get (f : ByteArray → Option Value) (k : ByteArray) (s : Value) (x : ByteArray) : mput f k s x = if x = k then some s else f x := rfl
theorem bytesEq9 {T : ByteArray} {s : List UInt8} : T = ⟨s.toArray⟩ ↔ T.data.toList = s := ⟨fun e => by rw [e], fun e => by rw [← e, Lib.mk_data]⟩
theorem aggs_none {T : ByteArray} (h : T.data.toList ∉ aggOps) : aggsF T = none := by
 simp only [aggOps, List.mem_cons, List.not_mem_nil, or_false, not_or] at h
 obtain ⟨h1, h2, h3, h4⟩ := h
 unfold aggsF
 rw [mput_get, if_neg (fun e => h4 (by rw [e]; rfl)), mput_get, if_neg (fun e => h3 (by rw [e]; rfl)), mput_get, if_neg (fun e => h2 (by rw [e]; rfl)), mput_get, if_neg (fun e => h1 (by rw [e]; rfl))]
theorem agg_fn (hg : Good l) {T : ByteArray} (h : T.data.toList ∈ aggOps) : ∃ fn, aggsF T = some (.func (.func fn) #[] #[]) ∧ (∀ args w, (callFunc fn args).run Tryz.prog w = .ok (.enter fn args) w) ∧
  ∀ (j : Nat) (w1 : World), j ≤ l.length → Rq w1 r m A cap l qb qa j → Calls Tryz.prog fn #[.pointer (some ⟨r, 0, none⟩)] w1 (GiveN r m A cap l qb qa w1 ((if T.data.toList = sCount then noneP (Code.bare l) else nameP (Code.bare l) sCol) j)) := by
 have hn := enters_of Tryz.func51 (by kernel_rfl) rfl
 have hc := enters_of Tryz.func52 (by kernel_rfl) rfl
 simp only [aggOps, List.mem_cons, List.not_mem_nil, or_false] at h
 rcases h with h | h | h | h
 all_goals
  obtain rfl := bytesEq9.2 h
 ·refine ⟨_, rfl, hn, fun j w1 hj hr => ?_⟩
  rw [if_pos rfl]
  exact pnothing_any j w1 hr
 all_goals
  refine ⟨_, rfl, hc, fun j w1 hj hr => ?_⟩
  rw [if_neg (by decide)]
  exact pcolumn_any hg j w1 hr hj
theorem pagg_none (hg : Good l) (i : Nat) (w : World) (h : Rq w r m A cap l qb qa i) (hi : i ≤ l.length) (hT0 : (wd l i).2.1 ∉ aggOps) :
  Calls Tryz.prog 92 #[.pointer (some ⟨r, 0, none⟩)] w (GiveN r m A cap l qb qa w (zeroN, i, true)) := by
 have hll := hg.len
 have HWD := hid (fun w0 (h0 : Rq w0 r m A cap l qb qa i) => pword_any i 0 w0 h0 hi hll (by decide))
 rw [Nat.add_zero] at HWD
 unfold wv at HWD
 obtain ⟨x, hx⟩ : ∃ x, wd l i = x := ⟨_, rfl⟩
 have hfit : x.2.1.length ≤ 4194304 := by
  rw [← hx]
  by_cases hil : i < l.length
  ·rw [wd_in hil]; exact hg.fit l[i] (List.getElem_mem hil)
  ·rw [wd_out hil]; simp
 rw [hx] at HWD hT0
 obtain ⟨wk, wt, wp⟩ := x
 dsimp only at HWD hfit hT0
 obtain ⟨T, hT⟩ : ∃ T : ByteArray, ⟨wt.toArray⟩ = T := ⟨_, rfl⟩
 obtain rfl : wt = T.data.toList := by rw [← hT]
 rw [hT] at HWD
 have hTl : T.size ≤ maxLen := by have : T.size ≤ 4194304 := hfit; unfold maxLen; omega
 have hfd0 := fun w0 => field0 wk wp T w0
 have hfd1 := fun w0 => field1 wk wp T w0
 have hu9 := aggs_none hT0
 have HR := hid h
 have hrl := h.lt
 have hql := h.ltq
 have hal := h.lta
 clear h hx hT hg hT0
 go_enter Tryz.func92, Tryz.ntmps92
 obtain ⟨w0, hw0, hz0, N0, B0⟩ := made0 w r
 have R0 := hid (show Rq w0 r m A cap l qb qa i by rw [← hw0]; exact HR.out.alloc _)
 go_upto_region 1 with fail
 try rw [hw0]
 refine wp_region_held_drew (S := fun w' => w'.cell? ⟨r, 3, none⟩ = some (.map (some qa)) ∧ MapR w' qa 4 aggsF) (by kernel_rfl) ⟨R0.out.c3, R0.out.ma⟩ (fun hHeld => ?_)
 refine take1 (v := ?_) 0 7 rfl ?_ ?_; rotate_left; (intro w hSw; (try dsimp only at hSw); go_simp; try with_reducible rfl); (try simp only [Act.put, List.setIfInBounds_toArray, List.set_cons_zero, List.set_cons_succ])
 refine take1 (v := ?_) 1 8 rfl ?_ ?_; rotate_left; (intro w hSw; (try dsimp only at hSw); go_simp; try with_reducible rfl); (try simp only [Act.put, List.setIfInBounds_toArray, List.set_cons_zero, List.set_cons_succ])
 refine take1 (v := ?_) 2 9 rfl ?_ ?_; rotate_left; (intro w hSw; (try dsimp only at hSw); go_simp; try with_reducible rfl); (try simp only [Act.put, List.setIfInBounds_toArray, List.set_cons_zero, List.set_cons_succ])
 refine take1 (v := ?_) 3 10 rfl ?_ ?_; rotate_left; (intro w hSw; (try dsimp only at hSw); go_simp; try with_reducible rfl); (try simp only [Act.put, List.setIfInBounds_toArray, List.set_cons_zero, List.set_cons_succ])
 refine take1 (v := ?_) 4 11 rfl ?_ ?_; rotate_left; (intro w hSw; (try dsimp only at hSw); go_simp; try with_reducible rfl); (try simp only [Act.put, List.setIfInBounds_toArray, List.set_cons_zero, List.set_cons_succ])
 refine wpAnyH_ready (rs := [5]) (by kernel_rfl) (by simp) ?_
 refine AllReadyH.cons (o := ⟨some 12, _, _, _, _, _⟩) rfl (fun K hK => ?_) AllReadyH.nil
 go_simp
 refine (HWD.out _ (R0.out.below (Below.drew (Below.refl _ _)))).mono ?_
 rintro e w1 ⟨rfl, hb1⟩
 have R1 := hid ((R0.out.below (Below.drew (Below.refl _ _))).below hb1)
 have zb1 : w0.heap.size ≤ w1.heap.size := hb1.size
 have N1 := hid ((N0.out.below (Below.drew (Below.refl _ _))).below hb1)
 have B1 := hid ((B0.out.next (Below.drew (Below.refl _ _))).next hb1)
 clear hb1
 refine hK.out _ _ ⟨R1.out.c3, R1.out.ma⟩ (fun hHeld2 => ?_)
 clear hK K
 (try simp only [Act.put, List.setIfInBounds_toArray, List.set_cons_zero, List.set_cons_succ])
 refine take1 (v := ?_) 6 13 rfl ?_ ?_; rotate_left; (intro w hSw; (try dsimp only at hSw); go_simp; try with_reducible rfl); (try simp only [Act.put, List.setIfInBounds_toArray, List.set_cons_zero, List.set_cons_succ])
 refine take1 (v := ?_) 7 14 rfl ?_ ?_; rotate_left; (intro w hSw; (try dsimp only at hSw); have hlk := run_lookq w _ _ _ hSw.2 T hTl _ hu9; go_simp; try with_reducible rfl); (try simp only [Act.put, List.setIfInBounds_toArray, List.set_cons_zero, List.set_cons_succ])
 refine take1 (v := ?_) 8 6 rfl ?_ ?_; rotate_left; (intro w hSw; (try dsimp only at hSw); go_simp; try with_reducible rfl); (try simp only [Act.put, List.setIfInBounds_toArray, List.set_cons_zero, List.set_cons_succ])
 refine take1 (v := ?_) 9 15 rfl ?_ ?_; rotate_left; (intro w hSw; (try dsimp only at hSw); go_simp; try with_reducible rfl); (try simp only [Act.put, List.setIfInBounds_toArray, List.set_cons_zero, List.set_cons_succ])
 refine take1 (v := ?_) 10 16 rfl ?_ ?_; rotate_left; (intro w hSw; (try dsimp only at hSw); go_simp; try with_reducible rfl); (try simp only [Act.put, List.setIfInBounds_toArray, List.set_cons_zero, List.set_cons_succ])
 refine take1 (v := ?_) 11 4 rfl ?_ ?_; rotate_left; (intro w hSw; (try dsimp only at hSw); go_simp; try with_reducible rfl); (try simp only [Act.put, List.setIfInBounds_toArray, List.set_cons_zero, List.set_cons_succ])
 refine take1 (v := ?_) 12 5 rfl ?_ ?_; rotate_left; (intro w hSw; (try dsimp only at hSw); go_simp; try with_reducible rfl); (try simp only [Act.put, List.setIfInBounds_toArray, List.set_cons_zero, List.set_cons_succ])
 refine wpAnyH_done (by kernel_rfl) ?_ _
 obtain ⟨x0, x1, x2, xf⟩ := N1.out
 have zn := N1.out.lt
 go_wp2
 have Y := N1.out.set (.string ⟨#[]⟩) (.string ⟨#[]⟩) (.slice none 0 0)
 exact bodyPost_ret (v := .tuple #[.agg #[.string ⟨#[]⟩, .string ⟨#[]⟩, .slice none 0 0], .bool (!true)]) (by simp [results, Tryz.results92, go_sem, Y.c0, Y.c1, Y.c2]) rfl
  (giveN_ret (b := true) (fun h => (by cases h)) B1.out R1.out hrl hql hal)
theorem pagg_kind (hg : Good l) (i : Nat) (w : World) (h : Rq w r m A cap l qb qa i) (hi : i ≤ l.length) (hT0 : (wd l i).2.1 ∈ aggOps) (hk : (wd l i).1 ≠ 0) :
  Calls Tryz.prog 92 #[.pointer (some ⟨r, 0, none⟩)] w (GiveN r m A cap l qb qa w (zeroN, i, true)) := by
 have hll := hg.len
 have HWD := hid (fun w0 (h0 : Rq w0 r m A cap l qb qa i) => pword_any i 0 w0 h0 hi hll (by decide))
 rw [Nat.add_zero] at HWD
 unfold wv at HWD
 obtain ⟨x, hx⟩ : ∃ x, wd l i = x := ⟨_, rfl⟩
 have hfit : x.2.1.length ≤ 4194304 := by
  rw [← hx]
  by_cases hil : i < l.length
  ·rw [wd_in hil]; exact hg.fit l[i] (List.getElem_mem hil)
  ·rw [wd_out hil]; simp
 rw [hx] at HWD hT0 hk
 obtain ⟨wk, wt, wp⟩ := x
 dsimp only at HWD hfit hT0 hk
 obtain ⟨T, hT⟩ : ∃ T : ByteArray, ⟨wt.toArray⟩ = T := ⟨_, rfl⟩
 obtain rfl : wt = T.data.toList := by rw [← hT]
 rw [hT] at HWD
 have hTl : T.size ≤ maxLen := by have : T.size ≤ 4194304 := hfit; unfold maxLen; omega
 have hfd0 := fun w0 => field0 wk wp T w0
 have hfd1 := fun w0 => field1 wk wp T w0
 obtain ⟨fn, hu9, -, -⟩ := agg_fn (r := r) (m := m) (A := A) (cap := cap) (qb := qb) (qa := qa) hg hT0
 have e0 : (wk == 0) = false := by simpa using hk
 have e0' : (wk != 0) = true := by simp [bne, e0]
 have HR := hid h
 have hrl := h.lt
 have hql := h.ltq
 have hal := h.lta
 clear h hx hT hg hT0 hk
 go_enter Tryz.func92, Tryz.ntmps92
 obtain ⟨w0, hw0, hz0, N0, B0⟩ := made0 w r
 have R0 := hid (show Rq w0 r m A cap l qb qa i by rw [← hw0]; exact HR.out.alloc _)
 go_upto_region 1 with fail
 try rw [hw0]
 refine wp_region_held_drew (S := fun w' => w'.cell? ⟨r, 3, none⟩ = some (.map (some qa)) ∧ MapR w' qa 4 aggsF) (by kernel_rfl) ⟨R0.out.c3, R0.out.ma⟩ (fun hHeld => ?_)
 refine take1 (v := ?_) 0 7 rfl ?_ ?_; rotate_left; (intro w hSw; (try dsimp only at hSw); go_simp; try with_reducible rfl); (try simp only [Act.put, List.setIfInBounds_toArray, List.set_cons_zero, List.set_cons_succ])
 refine take1 (v := ?_) 1 8 rfl ?_ ?_; rotate_left; (intro w hSw; (try dsimp only at hSw); go_simp; try with_reducible rfl); (try simp only [Act.put, List.setIfInBounds_toArray, List.set_cons_zero, List.set_cons_succ])
 refine take1 (v := ?_) 2 9 rfl ?_ ?_; rotate_left; (intro w hSw; (try dsimp only at hSw); go_simp; try with_reducible rfl); (try simp only [Act.put, List.setIfInBounds_toArray, List.set_cons_zero, List.set_cons_succ])
 refine take1 (v := ?_) 3 10 rfl ?_ ?_; rotate_left; (intro w hSw; (try dsimp only at hSw); go_simp; try with_reducible rfl); (try simp only [Act.put, List.setIfInBounds_toArray, List.set_cons_zero, List.set_cons_succ])
 refine take1 (v := ?_) 4 11 rfl ?_ ?_; rotate_left; (intro w hSw; (try dsimp only at hSw); go_simp; try with_reducible rfl); (try simp only [Act.put, List.setIfInBounds_toArray, List.set_cons_zero, List.set_cons_succ])
 refine wpAnyH_ready (rs := [5]) (by kernel_rfl) (by simp) ?_
 refine AllReadyH.cons (o := ⟨some 12, _, _, _, _, _⟩) rfl (fun K hK => ?_) AllReadyH.nil
 go_simp
 refine (HWD.out _ (R0.out.below (Below.drew (Below.refl _ _)))).mono ?_
 rintro e w1 ⟨rfl, hb1⟩
 have R1 := hid ((R0.out.below (Below.drew (Below.refl _ _))).below hb1)
 have zb1 : w0.heap.size ≤ w1.heap.size := hb1.size
 have N1 := hid ((N0.out.below (Below.drew (Below.refl _ _))).below hb1)
 have B1 := hid ((B0.out.next (Below.drew (Below.refl _ _))).next hb1)
 clear hb1
 refine hK.out _ _ ⟨R1.out.c3, R1.out.ma⟩ (fun hHeld2 => ?_)
 clear hK K
 (try simp only [Act.put, List.setIfInBounds_toArray, List.set_cons_zero, List.set_cons_succ])
 refine take1 (v := ?_) 6 13 rfl ?_ ?_; rotate_left; (intro w hSw; (try dsimp only at hSw); go_simp; try with_reducible rfl); (try simp only [Act.put, List.setIfInBounds_toArray, List.set_cons_zero, List.set_cons_succ])
 refine take1 (v := ?_) 7 14 rfl ?_ ?_; rotate_left; (intro w hSw; (try dsimp only at hSw); have hlk := run_lookq w _ _ _ hSw.2 T hTl _ hu9; go_simp; try with_reducible rfl); (try simp only [Act.put, List.setIfInBounds_toArray, List.set_cons_zero, List.set_cons_succ])
 refine take1 (v := ?_) 8 6 rfl ?_ ?_; rotate_left; (intro w hSw; (try dsimp only at hSw); go_simp; try with_reducible rfl); (try simp only [Act.put, List.setIfInBounds_toArray, List.set_cons_zero, List.set_cons_succ])
 refine take1 (v := ?_) 9 15 rfl ?_ ?_; rotate_left; (intro w hSw; (try dsimp only at hSw); go_simp; try with_reducible rfl); (try simp only [Act.put, List.setIfInBounds_toArray, List.set_cons_zero, List.set_cons_succ])
 refine take1 (v := ?_) 10 16 rfl ?_ ?_; rotate_left; (intro w hSw; (try dsimp only at hSw); go_simp; try with_reducible rfl); (try simp only [Act.put, List.setIfInBounds_toArray, List.set_cons_zero, List.set_cons_succ])
 refine take1 (v := ?_) 11 4 rfl ?_ ?_; rotate_left; (intro w hSw; (try dsimp only at hSw); go_simp; try with_reducible rfl); (try simp only [Act.put, List.setIfInBounds_toArray, List.set_cons_zero, List.set_cons_succ])
 refine take1 (v := ?_) 12 5 rfl ?_ ?_; rotate_left; (intro w hSw; (try dsimp only at hSw); go_simp; try with_reducible rfl); (try simp only [Act.put, List.setIfInBounds_toArray, List.set_cons_zero, List.set_cons_succ])
 refine wpAnyH_done (by kernel_rfl) ?_ _
 go_wp2_with fail
 refine (HWD.out _ R1.out).mono ?_
 rintro e w2 ⟨rfl, hb2⟩
 have zb2 := hb2.size
 have N2 := hid (N1.out.below hb2)
 have B2 := hid (B1.out.next hb2)
 have R2 := hid (R1.out.below hb2)
 clear hb2
 obtain ⟨x0, x1, x2, xf⟩ := N2.out
 have zn := N2.out.lt
 go_wp2
 have Y := N2.out.set (.string ⟨#[]⟩) (.string ⟨#[]⟩) (.slice none 0 0)
 exact bodyPost_ret (v := .tuple #[.agg #[.string ⟨#[]⟩, .string ⟨#[]⟩, .slice none 0 0], .bool (!true)]) (by simp [results, Tryz.results92, go_sem, Y.c0, Y.c1, Y.c2]) rfl
  (giveN_ret (b := true) (fun h => (by cases h)) B2.out R2.out hrl hql hal)
theorem pagg_call (hg : Good l) (i : Nat) (w : World) (h : Rq w r m A cap l qb qa i) (hi : i ≤ l.length) (hil : i < l.length) (hT0 : (wd l i).2.1 ∈ aggOps) (hk : (wd l i).1 = 0) (res : Res) (hres : callP (Code.bare l) (if txt (Code.bare l) i = sCount then noneP (Code.bare l) else nameP (Code.bare l) sCol) i = res) :
  Calls Tryz.prog 92 #[.pointer (some ⟨r, 0, none⟩)] w (GiveN r m A cap l qb qa w res) := by
 rw [txt_wd] at hres
 have hll := hg.len
 have HWD := hid (fun w0 (h0 : Rq w0 r m A cap l qb qa i) => pword_any i 0 w0 h0 hi hll (by decide))
 rw [Nat.add_zero] at HWD
 unfold wv at HWD
 obtain ⟨x, hx⟩ : ∃ x, wd l i = x := ⟨_, rfl⟩
 have hfit : x.2.1.length ≤ 4194304 := by
  rw [← hx]
  by_cases hil : i < l.length
  ·rw [wd_in hil]; exact hg.fit l[i] (List.getElem_mem hil)
  ·rw [wd_out hil]; simp
 rw [hx] at HWD hT0 hk hres
 obtain ⟨wk, wt, wp⟩ := x
 dsimp only at HWD hfit hT0 hk hres
 obtain ⟨T, hT⟩ : ∃ T : ByteArray, ⟨wt.toArray⟩ = T := ⟨_, rfl⟩
 obtain rfl : wt = T.data.toList := by rw [← hT]
 rw [hT] at HWD
 have hTl : T.size ≤ maxLen := by have : T.size ≤ 4194304 := hfit; unfold maxLen; omega
 have hfd0 := fun w0 => field0 wk wp T w0
 have hfd1 := fun w0 => field1 wk wp T w0
 subst hk
 obtain ⟨fn, hu9, en, HPF⟩ := agg_fn (r := r) (m := m) (A := A) (cap := cap) (qb := qb) (qa := qa) hg hT0
 have HCA := hid (fun w0 (h0 : Rq w0 r m A cap l qb qa i) => pcall_any hg fn en (if T.data.toList = sCount then noneP (Code.bare l) else nameP (Code.bare l) sCol) i w0 h0 hil (fun h2 w1 hr1 => HPF (i + 2) w1 h2 hr1) (fun h2 => by
  split
  ·exact h2
  ·unfold nameP
   split
   ·rename_i hs
    have := (isK_lt (Bool.and_eq_true _ _ ▸ hs).1).1
    rw [bare_length] at this
    exact this
   ·exact h2))
 rw [hres] at HCA
 obtain ⟨TT, j, b⟩ := res
 have HR := hid h
 have hrl := h.lt
 have hql := h.ltq
 have hal := h.lta
 clear h hx hT hg hT0 hres
 go_enter Tryz.func92, Tryz.ntmps92
 obtain ⟨w0, hw0, hz0, N0, B0⟩ := made0 w r
 have R0 := hid (show Rq w0 r m A cap l qb qa i by rw [← hw0]; exact HR.out.alloc _)
 go_upto_region 1 with fail
 try rw [hw0]
 refine wp_region_held_drew (S := fun w' => w'.cell? ⟨r, 3, none⟩ = some (.map (some qa)) ∧ MapR w' qa 4 aggsF) (by kernel_rfl) ⟨R0.out.c3, R0.out.ma⟩ (fun hHeld => ?_)
 refine take1 (v := ?_) 0 7 rfl ?_ ?_; rotate_left; (intro w hSw; (try dsimp only at hSw); go_simp; try with_reducible rfl); (try simp only [Act.put, List.setIfInBounds_toArray, List.set_cons_zero, List.set_cons_succ])
 refine take1 (v := ?_) 1 8 rfl ?_ ?_; rotate_left; (intro w hSw; (try dsimp only at hSw); go_simp; try with_reducible rfl); (try simp only [Act.put, List.setIfInBounds_toArray, List.set_cons_zero, List.set_cons_succ])
 refine take1 (v := ?_) 2 9 rfl ?_ ?_; rotate_left; (intro w hSw; (try dsimp only at hSw); go_simp; try with_reducible rfl); (try simp only [Act.put, List.setIfInBounds_toArray, List.set_cons_zero, List.set_cons_succ])
 refine take1 (v := ?_) 3 10 rfl ?_ ?_; rotate_left; (intro w hSw; (try dsimp only at hSw); go_simp; try with_reducible rfl); (try simp only [Act.put, List.setIfInBounds_toArray, List.set_cons_zero, List.set_cons_succ])
 refine take1 (v := ?_) 4 11 rfl ?_ ?_; rotate_left; (intro w hSw; (try dsimp only at hSw); go_simp; try with_reducible rfl); (try simp only [Act.put, List.setIfInBounds_toArray, List.set_cons_zero, List.set_cons_succ])
 refine wpAnyH_ready (rs := [5]) (by kernel_rfl) (by simp) ?_
 refine AllReadyH.cons (o := ⟨some 12, _, _, _, _, _⟩) rfl (fun K hK => ?_) AllReadyH.nil
 go_simp
 refine (HWD.out _ (R0.out.below (Below.drew (Below.refl _ _)))).mono ?_
 rintro e w1 ⟨rfl, hb1⟩
 have R1 := hid ((R0.out.below (Below.drew (Below.refl _ _))).below hb1)
 have zb1 : w0.heap.size ≤ w1.heap.size := hb1.size
 have N1 := hid ((N0.out.below (Below.drew (Below.refl _ _))).below hb1)
 have B1 := hid ((B0.out.next (Below.drew (Below.refl _ _))).next hb1)
 clear hb1
 refine hK.out _ _ ⟨R1.out.c3, R1.out.ma⟩ (fun hHeld2 => ?_)
 clear hK K
 (try simp only [Act.put, List.setIfInBounds_toArray, List.set_cons_zero, List.set_cons_succ])
 refine take1 (v := ?_) 6 13 rfl ?_ ?_; rotate_left; (intro w hSw; (try dsimp only at hSw); go_simp; try with_reducible rfl); (try simp only [Act.put, List.setIfInBounds_toArray, List.set_cons_zero, List.set_cons_succ])
 refine take1 (v := ?_) 7 14 rfl ?_ ?_; rotate_left; (intro w hSw; (try dsimp only at hSw); have hlk := run_lookq w _ _ _ hSw.2 T hTl _ hu9; go_simp; try with_reducible rfl); (try simp only [Act.put, List.setIfInBounds_toArray, List.set_cons_zero, List.set_cons_succ])
 refine take1 (v := ?_) 8 6 rfl ?_ ?_; rotate_left; (intro w hSw; (try dsimp only at hSw); go_simp; try with_reducible rfl); (try simp only [Act.put, List.setIfInBounds_toArray, List.set_cons_zero, List.set_cons_succ])
 refine take1 (v := ?_) 9 15 rfl ?_ ?_; rotate_left; (intro w hSw; (try dsimp only at hSw); go_simp; try with_reducible rfl); (try simp only [Act.put, List.setIfInBounds_toArray, List.set_cons_zero, List.set_cons_succ])
 refine take1 (v := ?_) 10 16 rfl ?_ ?_; rotate_left; (intro w hSw; (try dsimp only at hSw); go_simp; try with_reducible rfl); (try simp only [Act.put, List.setIfInBounds_toArray, List.set_cons_zero, List.set_cons_succ])
 refine take1 (v := ?_) 11 4 rfl ?_ ?_; rotate_left; (intro w hSw; (try dsimp only at hSw); go_simp; try with_reducible rfl); (try simp only [Act.put, List.setIfInBounds_toArray, List.set_cons_zero, List.set_cons_succ])
 refine take1 (v := ?_) 12 5 rfl ?_ ?_; rotate_left; (intro w hSw; (try dsimp only at hSw); go_simp; try with_reducible rfl); (try simp only [Act.put, List.setIfInBounds_toArray, List.set_cons_zero, List.set_cons_succ])
 refine wpAnyH_done (by kernel_rfl) ?_ _
 go_wp2_with fail
 refine (HWD.out _ R1.out).mono ?_
 rintro e w2 ⟨rfl, hb2⟩
 have zb2 := hb2.size
 have N2 := hid (N1.out.below hb2)
 have B2 := hid (B1.out.next hb2)
 have R2 := hid (R1.out.below hb2)
 clear hb2
 go_wp2_with fail
 refine (HCA.out _ R2.out).mono ?_
 rintro e w3 ⟨o1, t1, X, n, k, rfl, hn1, hb1, hr1⟩
 dsimp only at hn1 hr1
 have I3 := hid (giveN_pass (w := w) hn1 (by omega))
 have B3 := hid (B2.out.trans hb1)
 have R3 := hid hr1
 have N3 := hid (N2.out.but (by omega) hb1)
 clear hn1 hb1 hr1
 obtain ⟨x0, x1, x2, xf⟩ := N3.out
 have zn := N3.out.lt
 obtain ⟨q, hq⟩ : ∃ q, (!b) = q := ⟨_, rfl⟩
 go_wp2
 have Y := N3.out.set (.string o1) (.string t1) (.slice X n k)
 exact bodyPost_ret (v := .tuple #[.agg #[.string o1, .string t1, .slice X n k], .bool (!b)]) (by simp [results, Tryz.results92, go_sem, Y.c0, Y.c1, Y.c2, hq]) rfl
  (giveN_ret I3.out B3.out R3.out hrl hql hal)
theorem pagg_any (hg : Good l) (i : Nat) (w : World) (h : Rq w r m A cap l qb qa i) (hi : i ≤ l.length) :
  Calls Tryz.prog 92 #[.pointer (some ⟨r, 0, none⟩)] w (GiveN r m A cap l qb qa w (aggC (Code.bare l) i)) := by
 obtain ⟨res, hres⟩ : ∃ res, aggC (Code.bare l) i = res := ⟨_, rfl⟩
 rw [hres]
 unfold aggC at hres
 by_cases hT0 : (wd l i).2.1 ∈ aggOps
 ·have e1 : aggOps.contains (txt (Code.bare l) i) = true := by rw [txt_wd]; simpa using hT0
  rw [e1] at hres
  by_cases hil : i < l.length
  ·rw [isK_wd hil] at hres
   by_cases hk : (wd l i).1 = 0
   ·rw [if_pos (by simp [hk])] at hres
    exact pagg_call hg i w h hi hil hT0 hk res hres
   ·rw [if_neg (by simp [hk])] at hres
    subst hres
    exact pagg_kind hg i w h hi hT0 hk
  ·rw [wd_out hil] at hT0
   exact absurd hT0 (by decide)
 ·have e1 : aggOps.contains (txt (Code.bare l) i) = false := by rw [txt_wd]; simpa using hT0
  rw [e1, if_neg (by simp)] at hres
  subst hres
  exact pagg_none hg i w h hi hT0
end
end Go.Proofs.YtjbpkpfmgbhlpaaGreatDoor.Code
