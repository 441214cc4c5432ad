/-
  The document's reader of expressions: a sign: numbers, texts.
-/
import Derived.Test.YthpmgnfmeldkjaaGreatDoorSm4
import Derived.Deep.DeepCutAuto
import Derived.Test.YthpmgnfmeldkjaaGreatDoorSm8
import Derived.Test.YthpmgnfmeldkjaaGreatDoorSm1
import Derived.Test.YthpmgnfmeldkjaaGreatDoorSm5
import Derived.Deep.RegionHeld3
import Derived.Test.YthpmgnfmeldkjaaGreatDoorSm6
set_option maxRecDepth 100000
set_option maxHeartbeats 16000000
set_option linter.unusedVariables false
set_option linter.unusedSimpArgs false
open Go.Lib (hid)
namespace Go.Proofs.YthpmgnfmeldkjaaGreatDoor.Code
open Go.ChangeShapes Go.WideShapes Go.ChangeAt Go.RowKit Val Elems
theorem swapO {B : Nat} {a w : World} {o o' : Obj} (h : Below B a (w.alloc o)) (hB : B ≤ w.heap.size) : Below B a (w.alloc o') :=
 ⟨h.os, h.tape, h.output, by have := h.size; simp at *; omega, fun k hk => (Below.heap_alloc w o' k (by omega)).trans ((Below.heap_alloc w o k (by omega)).symm.trans (h.block k hk))⟩
theorem sign_num {r : Nat} {A : Option Addr} {cap : Nat} {l : List W} {f : Nat} (i : Nat) (b : Bool) (w : World) (hi : i ≤ l.length) (hl : l.length ≤ 4194304) (hfg : ∀ w ∈ l, w.1 = 1 → FigS w.2.1 ∧ w.2.1.length ≤ 4194304) (h : Rdr w r A cap l i b) (hq1 : isW (bare l) i b [45] = false) (hq2 : isW (bare l) i b [40] = false) (q : List UInt8) (hq : oneL (bare l) i b [sTrue, sFalse, sNull] = q) (hq0 : q = []) (k1 : isK (bare l) i b 1 = true) :
  Calls Tryz.prog 202 #[.pointer (some ⟨r, 0, none⟩)] w (Reads r A cap l w NoB (P (bare l) (f + 1) .sign i b)) := by
 have hil := isK_len k1
 obtain rfl : b = false := (isK_lt k1).2
 have HWS := hid h.ws
 obtain ⟨ad, hA, ha, d0, d1, d2⟩ := at_word HWS.out i hil
 have hk1 : l[i].1 = 1 := by
  have := k1
  rw [isK_at hil] at this
  simpa using this
 have hfl := hfg l[i] (List.getElem_mem hil) hk1
 have htx := txt_at hil
 obtain ⟨t, htt⟩ : ∃ t, l[i].2.1 = t := ⟨_, rfl⟩
 rw [htt] at d1 hfl htx
 obtain ⟨T, hT⟩ : ∃ T : ByteArray, ⟨t.toArray⟩ = T := ⟨_, rfl⟩
 have hTt : t = T.data.toList := by rw [← hT]
 rw [hT] at d1
 rw [hTt] at hfl htx
 have HNU := hid (fun w => rnumber_any T hfl.1 (by rw [size_list]; exact hfl.2) w)
 obtain ⟨OP, hOP⟩ : ∃ OP : ByteArray, ⟨(numOp T.data.toList).toArray⟩ = OP := ⟨_, rfl⟩
 obtain ⟨TX, hTX⟩ : ∃ TX : ByteArray, ⟨(numTx T.data.toList).toArray⟩ = TX := ⟨_, rfl⟩
 obtain ⟨ok, hok⟩ : ∃ ok, numOk T.data.toList = ok := ⟨_, rfl⟩
 rw [hOP, hTX, hok] at HNU
 have hP : P (bare l) (f + 1) .sign i false = if ok = true then (.leaf OP.data.toList TX.data.toList, i + 1, false) else (zeroT, i, true) := by
  rw [P, if_neg (by rw [hq1]; decide), if_neg (by rw [hq2]; decide), hq, if_pos hq0, if_pos k1, htx, ← hok, ← hOP, ← hTX]
  unfold numOk numOp numTx
  cases numL T.data.toList <;> rfl
 obtain ⟨res, hres⟩ : ∃ res, (if ok = true then (Tr.leaf OP.data.toList TX.data.toList, i + 1, false) else (zeroT, i, true)) = res := ⟨_, rfl⟩
 rw [hP, hres]
 have HRS := hid hres
 clear hres
 have HR := hid h
 have hrl := h.lt
 have HT1 := hid (fun w1 hr => rtake_any r A cap l i false ⟨#[45]⟩ false hq1 w1 hr hi hl)
 have HT2 := hid (fun w1 hr => rtake_any r A cap l i false ⟨#[40]⟩ false hq2 w1 hr hi hl)
 have HT3 := hid (fun (w1 : World) (t : TypeId) (hr : Rdr w1 r A cap l i false) => (show Calls Tryz.prog 204 #[.pointer (some ⟨r, 0, none⟩), .slice (some ⟨w1.heap.size, 0, none⟩) 3 3] (w1.alloc (.cells #[.string ⟨#[116, 114, 117, 101]⟩, .string ⟨#[102, 97, 108, 115, 101]⟩, .string ⟨#[110, 117, 108, 108]⟩] t)) _ from
  rone_any r A cap l i false (some ⟨w1.heap.size, 0, none⟩) 3 [sTrue, sFalse, sNull] (w1.alloc (.cells #[.string ⟨#[116, 114, 117, 101]⟩, .string ⟨#[102, 97, 108, 115, 101]⟩, .string ⟨#[110, 117, 108, 108]⟩] t)) (hr.alloc _) hi hl
   (by rw [show ∀ o, (w1.alloc o).heap.size = w1.heap.size + 1 from fun o => by simp]; exact texts_new w1 [sTrue, sFalse, sNull] t _ rfl) (fun ad e => by cases e; have := hr.lt; show w1.heap.size ≠ r; omega) (by decide) (by decide) q hq))
 have HK1 := hid (fun w1 hr => rkind_any r A cap l i false 1 w1 hr hi hl)
 rw [k1] at HK1
 subst hq
 rw [if_pos hq0] at HT3
 rw [hq0] at HT3
 have HD := hid (fun (w' : World) (hb : But w w' r) => show w'.cell? ⟨(ad.add (i * 3)).block, (ad.add (i * 3)).off + 1, none⟩ = some (.string T) from (hb.cell (q := ⟨(ad.add (i * 3)).block, (ad.add (i * 3)).off + 1, none⟩) (by show (ad.add (i * 3)).block < _; rw [add_block]; omega) (by show (ad.add (i * 3)).block ≠ _; rw [add_block]; omega)).trans d1)
 have hda : (ad.add (i * 3)).block < r := by rw [add_block]; exact ha
 subst hA
 clear h hP hq1 hq2 k1 hk1 hfl htx htt hT hTt hOP hTX hok d0 d1 d2 hq0
 go_enter Tryz.func202, Tryz.ntmps202
 have N0 := hid (NBox.fresh w (.string ⟨#[]⟩) (.string ⟨#[]⟩) (.slice none 0 0) 24)
 have B0 := hid ((But.refl w r).alloc (.cells #[.string ⟨#[]⟩, .string ⟨#[]⟩, .slice none 0 0] 24))
 go_wp2_with fail
 refine (HT1.out _ (HR.out.alloc _)).mono ?_
 rintro e w1 ⟨rfl, hb1, hr1⟩
 have N1 := hid (N0.out.but (by omega) hb1)
 have B1 := hid (B0.out.trans hb1)
 have R1 := hid hr1
 clear hb1 hr1
 go_wp2_with fail
 refine (HT2.out _ R1.out).mono ?_
 rintro e w2 ⟨rfl, hb2, hr2⟩
 have N2 := hid (N1.out.but (by omega) hb2)
 have B2 := hid (B1.out.trans hb2)
 have R2 := hid hr2
 clear hb2 hr2
 go_wp2_with fail
 refine (HT3.out w2 _ R2.out).mono ?_
 rintro e w3 ⟨rfl, hb3, hr3⟩
 have N3 := hid ((N2.out.alloc _).but (by omega) hb3)
 have B3 := hid ((B2.out.alloc _).trans hb3)
 have R3 := hid hr3
 have hlt3 : w.heap.size < w3.heap.size := N3.out.lt
 clear hb3 hr3
 go_wp2_with fail
 refine (HK1.out _ R3.out).mono ?_
 rintro e w4 ⟨rfl, hb4⟩
 have N4 := hid (N3.out.below hb4)
 have B4 := hid (B3.out.next hb4)
 have R4 := hid (R3.out.below hb4)
 clear hb4
 have hlt4 := R4.out.lt
 have hg4 : w.heap.size < w4.heap.size := N4.out.lt
 have c0 := R4.out.c0
 have c1 := R4.out.c1
 have d1 := HD.out _ B4.out
 have zd : (ad.add (i * 3)).block < w4.heap.size := by omega
 have e1 : (i : Int) < (l.length : Int) := by omega
 have FQ := hid (fun (w' : World) (hb : Below w4.heap.size w4 w') => show w'.cell? ⟨r, 0, none⟩ = some (.slice (some ad) l.length cap) ∧ w'.cell? ⟨r, 1, none⟩ = some (.int .i64 (i : Int)) ∧ w'.cell? ⟨(ad.add (i * 3)).block, (ad.add (i * 3)).off + 1, none⟩ = some (.string T) from
  ⟨(hb.cell (p := ⟨r, 0, none⟩) hlt4).trans c0, (hb.cell (p := ⟨r, 1, none⟩) hlt4).trans c1, (hb.cell (p := ⟨(ad.add (i * 3)).block, (ad.add (i * 3)).off + 1, none⟩) zd).trans d1⟩)
 go_upto_region 14 with fail
 go_cut [8, 9] (fun s8 s9 wx => ∃ g : Nat, s8 = .pointer (some ⟨g, 0, none⟩) ∧ s9 = .bool ok ∧ w4.heap.size ≤ g ∧ NBox wx g (.string OP) (.string TX) (.slice none 0 0) ∧ Below w4.heap.size w4 wx)
 case first =>
  go_region_held3 (fun w' => (w'.cell? ⟨r, 0, none⟩ = some (.slice (some ad) l.length cap) ∧ w'.cell? ⟨r, 1, none⟩ = some (.int .i64 (i : Int)) ∧ w'.cell? ⟨(ad.add (i * 3)).block, (ad.add (i * 3)).off + 1, none⟩ = some (.string T)) ∧ Below w4.heap.size w4 w')
   (first | assumption | (refine keepK hb (by assumption) ?_; intro k; exact ⟨(k _ _ hlt4).trans c0, (k _ _ hlt4).trans c1, (k _ _ zd).trans d1⟩) | (refine keepA _ (by assumption) ?_; intro k; exact ⟨(k _ _ hlt4).trans c0, (k _ _ hlt4).trans c1, (k _ _ zd).trans d1⟩) | (refine keepD (by assumption) ?_; intro k; exact ⟨(k _ _ hlt4).trans c0, (k _ _ hlt4).trans c1, (k _ _ zd).trans d1⟩) | (exact ⟨⟨c0, c1, d1⟩, Below.drew (Below.refl _ _)⟩) | (refine (fun hS9 : Below w4.heap.size w4 _ => ⟨FQ.out _ hS9, hS9⟩) (swapO (show _ ∧ Below w4.heap.size w4 _ by assumption).2 (by omega))) | (refine (fun hS9 : Below w4.heap.size w4 _ => ⟨FQ.out _ hS9, hS9⟩) ((((show _ ∧ Below w4.heap.size w4 _ by assumption).2.setCell (by first | (simp; done) | (simp; omega) | omega) _).setCell (by first | (simp; done) | (simp; omega) | omega) _).setCell (by first | (simp; done) | (simp; omega) | omega) _)) | (trace_state; fail))
   (first | (go_at_call 226; refine (HNU.out _).mono ?_; rintro e w5 ⟨rfl, hb⟩; have hs5 : w4.heap.size ≤ w5.heap.size := Nat.le_trans (show _ ∧ Below w4.heap.size w4 _ by assumption).2.size hb.size; have hk := (bcell hb).1; have hf := (bcell hb).2; have hs6 := hb.size; (try simp at hs6); (try have hq0 : w4.heap.size < w5.heap.size := by omega)))
  all_goals go_wp2_with fail
  all_goals go_meet
  all_goals (refine ⟨_, rfl, rfl, ?_, ?_, (show _ ∧ Below w4.heap.size w4 _ by assumption).2⟩)
  all_goals (first | omega | exact NBox.fresh _ _ _ _ _ | (refine (NBox.below (a := .string ⟨#[]⟩) (b := .string ⟨#[]⟩) (c := .slice none 0 0) ?_ hb).set _ _ _; exact ⟨by simp [go_sem], by simp [go_sem], by simp [go_sem], fun j => by simp [go_sem]⟩))
 case rest =>
  obtain ⟨g, rfl, rfl, hge, G, hB⟩ := hcut
  have N5 := hid (N4.out.below hB)
  have B5 := hid (B4.out.next hB)
  have R5 := hid (R4.out.below hB)
  have V5 := hid G
  have hgr : g ≠ r := by omega
  have hrg : r ≠ g := by omega
  obtain ⟨x0, x1, x2, xf⟩ := N5.out
  obtain ⟨v0, v1, v2, vf⟩ := V5.out
  have r1 := R5.out.c1
  have r2 := R5.out.c2
  have f1 := R5.out.fr 1
  have f2 := R5.out.fr 2
  have hgw : w.heap.size ≠ r := by omega
  have hrw : r ≠ w.heap.size := by omega
  clear hB G FQ c0 c1 d1
  cases ok
  ·have HE := hid (show (zeroT, i, true) = res from HRS.out)
   go_wp2
   have N6 := NBox.but N5.out (r := r) (by omega) ((But.refl wc r).setCell 2 (.bool true))
   have Y := N6.set (.string ⟨#[]⟩) (.string ⟨#[]⟩) (.slice none 0 0)
   rw [← HE.out]
   exact bodyPost_ret (v := .agg #[.string ⟨#[]⟩, .string ⟨#[]⟩, .slice none 0 0]) (by simp [results, Tryz.results202, go_sem, Y.c0, Y.c1, Y.c2]) rfl
    (ret_same (S2 := NoB) (NIn.leaf _ NoB ⟨#[]⟩ ⟨#[]⟩) (fun g hg => hg.elim) (B5.out.setCell 2 _) R5.out.wrong hrl)
  ·have HE := hid (show (Tr.leaf OP.data.toList TX.data.toList, i + 1, false) = res from HRS.out)
   go_wp2
   have N6 := NBox.but N5.out (r := r) (by omega) ((But.refl wc r).setCell 1 (.int .i64 ((i : Int) + 1)))
   have Y := N6.set (.string OP) (.string TX) (.slice none 0 0)
   have R6 := R5.out.at (i + 1)
   rw [Int.natCast_add] at R6
   rw [← HE.out]
   exact bodyPost_ret (v := .agg #[.string OP, .string TX, .slice none 0 0]) (by simp [results, Tryz.results202, go_sem, Y.c0, Y.c1, Y.c2]) rfl
    (ret_same (S2 := NoB) (NIn.leaf _ NoB OP TX) (fun g hg => hg.elim) (B5.out.setCell 1 _) R6 hrl)
theorem Reads.drew {r : Nat} {A : Option Addr} {cap : Nat} {l : List W} {w : World} {S : Nat → Prop} {res : Tr × Nat × Bool} {e : Ending} {w' : World} (h : Reads r A cap l w S res e w') : Reads r A cap l w S res e w'.drew := by
 obtain ⟨op, tx, X, n, m, he, hn, hb, hr⟩ := h
 exact ⟨op, tx, X, n, m, he, NIn.keep (w := w') (w' := w'.drew) (S' := fun g => S g ∨ New w w'.drew g) (fun _ h => h) (fun _ _ _ => rfl) _ _ _ _ hn, ⟨hb.os, hb.tape, hb.output, hb.size, hb.block⟩, ⟨hr.c0, hr.c1, hr.c2, hr.fr, hr.ws⟩⟩
theorem sign_text {r : Nat} {A : Option Addr} {cap : Nat} {l : List W} {f : Nat} (i : Nat) (b : Bool) (w : World) (hi : i ≤ l.length) (hl : l.length ≤ 4194304) (h : Rdr w r A cap l i b) (hq1 : isW (bare l) i b [45] = false) (hq2 : isW (bare l) i b [40] = false) (q : List UInt8) (hq : oneL (bare l) i b [sTrue, sFalse, sNull] = q) (hq0 : q = []) (k1 : isK (bare l) i b 1 = false) (k2 : isK (bare l) i b 2 = true) :
  Calls Tryz.prog 202 #[.pointer (some ⟨r, 0, none⟩)] w (Reads r A cap l w NoB (P (bare l) (f + 1) .sign i b)) := by
 have hil := isK_len k2
 obtain rfl : b = false := (isK_lt k2).2
 have HWS := hid h.ws
 obtain ⟨ad, hA, ha, d0, d1, d2⟩ := at_word HWS.out i hil
 have htx := txt_at hil
 obtain ⟨t, htt⟩ : ∃ t, l[i].2.1 = t := ⟨_, rfl⟩
 rw [htt] at d1 htx
 obtain ⟨T, hT⟩ : ∃ T : ByteArray, ⟨t.toArray⟩ = T := ⟨_, rfl⟩
 have hTt : t = T.data.toList := by rw [← hT]
 rw [hT] at d1
 rw [hTt] at htx
 have hP : P (bare l) (f + 1) .sign i false = (.leaf sText T.data.toList, i + 1, false) := by
  rw [P, if_neg (by rw [hq1]; decide), if_neg (by rw [hq2]; decide), hq, if_pos hq0, if_neg (by rw [k1]; decide), if_pos k2, htx]
 rw [hP]
 have HR := hid h
 have hrl := h.lt
 have HT1 := hid (fun w1 hr => rtake_any r A cap l i false ⟨#[45]⟩ false hq1 w1 hr hi hl)
 have HT2 := hid (fun w1 hr => rtake_any r A cap l i false ⟨#[40]⟩ false hq2 w1 hr hi hl)
 have HT3 := hid (fun (w1 : World) (t : TypeId) (hr : Rdr w1 r A cap l i false) => (show Calls Tryz.prog 204 #[.pointer (some ⟨r, 0, none⟩), .slice (some ⟨w1.heap.size, 0, none⟩) 3 3] (w1.alloc (.cells #[.string ⟨#[116, 114, 117, 101]⟩, .string ⟨#[102, 97, 108, 115, 101]⟩, .string ⟨#[110, 117, 108, 108]⟩] t)) _ from
  rone_any r A cap l i false (some ⟨w1.heap.size, 0, none⟩) 3 [sTrue, sFalse, sNull] (w1.alloc (.cells #[.string ⟨#[116, 114, 117, 101]⟩, .string ⟨#[102, 97, 108, 115, 101]⟩, .string ⟨#[110, 117, 108, 108]⟩] t)) (hr.alloc _) hi hl
   (by rw [show ∀ o, (w1.alloc o).heap.size = w1.heap.size + 1 from fun o => by simp]; exact texts_new w1 [sTrue, sFalse, sNull] t _ rfl) (fun ad e => by cases e; have := hr.lt; show w1.heap.size ≠ r; omega) (by decide) (by decide) q hq))
 have HK1 := hid (fun w1 hr => rkind_any r A cap l i false 1 w1 hr hi hl)
 rw [k1] at HK1
 have HK2 := hid (fun w1 hr => rkind_any r A cap l i false 2 w1 hr hi hl)
 rw [k2] at HK2
 subst hq
 rw [if_pos hq0] at HT3
 rw [hq0] at HT3
 have HD := hid (fun (w' : World) (hb : But w w' r) => show w'.cell? ⟨(ad.add (i * 3)).block, (ad.add (i * 3)).off + 1, none⟩ = some (.string T) from (hb.cell (q := ⟨(ad.add (i * 3)).block, (ad.add (i * 3)).off + 1, none⟩) (by show (ad.add (i * 3)).block < _; rw [add_block]; omega) (by show (ad.add (i * 3)).block ≠ _; rw [add_block]; omega)).trans d1)
 have hda : (ad.add (i * 3)).block < r := by rw [add_block]; exact ha
 subst hA
 clear h hP hq1 hq2 k1 k2 htx htt hT hTt d0 d1 d2 hq0
 go_enter Tryz.func202, Tryz.ntmps202
 have N0 := hid (NBox.fresh w (.string ⟨#[]⟩) (.string ⟨#[]⟩) (.slice none 0 0) 24)
 have B0 := hid ((But.refl w r).alloc (.cells #[.string ⟨#[]⟩, .string ⟨#[]⟩, .slice none 0 0] 24))
 go_wp2_with fail
 refine (HT1.out _ (HR.out.alloc _)).mono ?_
 rintro e w1 ⟨rfl, hb1, hr1⟩
 have N1 := hid (N0.out.but (by omega) hb1)
 have B1 := hid (B0.out.trans hb1)
 have R1 := hid hr1
 clear hb1 hr1
 go_wp2_with fail
 refine (HT2.out _ R1.out).mono ?_
 rintro e w2 ⟨rfl, hb2, hr2⟩
 have N2 := hid (N1.out.but (by omega) hb2)
 have B2 := hid (B1.out.trans hb2)
 have R2 := hid hr2
 clear hb2 hr2
 go_wp2_with fail
 refine (HT3.out w2 _ R2.out).mono ?_
 rintro e w3 ⟨rfl, hb3, hr3⟩
 have N3 := hid ((N2.out.alloc _).but (by omega) hb3)
 have B3 := hid ((B2.out.alloc _).trans hb3)
 have R3 := hid hr3
 have hlt3 : w.heap.size < w3.heap.size := N3.out.lt
 clear hb3 hr3
 go_wp2_with fail
 refine (HK1.out _ R3.out).mono ?_
 rintro e w4 ⟨rfl, hb4⟩
 have N4 := hid (N3.out.below hb4)
 have B4 := hid (B3.out.next hb4)
 have R4 := hid (R3.out.below hb4)
 clear hb4
 go_wp2_with fail
 refine (HK2.out _ R4.out).mono ?_
 rintro e w5 ⟨rfl, hb5⟩
 have N5 := hid (N4.out.below hb5)
 have B5 := hid (B4.out.next hb5)
 have R5 := hid (R4.out.below hb5)
 clear hb5
 have c1 := R5.out.c1
 have f1 := R5.out.fr 1
 go_upto_region 22 with fail
 have R6 := hid (R5.out.at (i + 1))
 have N6 := hid (N5.out.but (r := r) (by omega) ((But.refl w5 r).setCell 1 (.int .i64 ((i + 1 : Nat) : Int))))
 have B6 := hid (B5.out.setCell 1 (.int .i64 ((i + 1 : Nat) : Int)))
 rw [Int.natCast_add] at R6 N6 B6
 generalize hw6 : w5.setCell ⟨r, 1, none⟩ (.int .i64 ((i : Int) + ((1 : Nat) : Int))) = w6 at R6 N6 B6
 clear hw6 c1 f1
 have c0 := R6.out.c0
 have c1 : w6.cell? ⟨r, 1, none⟩ = some (.int .i64 ((i : Int) + 1)) := by have := R6.out.c1; rwa [Int.natCast_add] at this
 have d1 := HD.out _ B6.out
 obtain ⟨x0, x1, x2, xf⟩ := N6.out
 have zd : (ad.add (i * 3)).block < w.heap.size := by omega
 have zr : r < w.heap.size := hrl
 have e1 : (i : Int) < (l.length : Int) := by omega
 have e0 : (0 : Int) ≤ (i : Int) := by omega
 have f4 : IntKind.i64.wrap ((i : Int) + 1 - 1) = (i : Int) := by rw [IntKind.wrap_i64]; omega
 have f6 : IntKind.i64.wrap (i : Int) = (i : Int) := by rw [IntKind.wrap_i64]; omega
 have f5 : (i : Int) + 1 - 1 = (i : Int) := by omega
 have FQ := hid (fun (w' : World) (hb : Below w.heap.size w6 w') => show w'.cell? ⟨r, 0, none⟩ = some (.slice (some ad) l.length cap) ∧ w'.cell? ⟨r, 1, none⟩ = some (.int .i64 ((i : Int) + 1)) ∧ w'.cell? ⟨(ad.add (i * 3)).block, (ad.add (i * 3)).off + 1, none⟩ = some (.string T) from
  ⟨(hb.cell (p := ⟨r, 0, none⟩) zr).trans c0, (hb.cell (p := ⟨r, 1, none⟩) zr).trans c1, (hb.cell (p := ⟨(ad.add (i * 3)).block, (ad.add (i * 3)).off + 1, none⟩) zd).trans d1⟩)
 have HB := hid (Below.refl w.heap.size w6)
 have k0 := FQ.out _ HB.out
 go_region_held3 (fun w' => (w'.cell? ⟨r, 0, none⟩ = some (.slice (some ad) l.length cap) ∧ w'.cell? ⟨r, 1, none⟩ = some (.int .i64 ((i : Int) + 1)) ∧ w'.cell? ⟨(ad.add (i * 3)).block, (ad.add (i * 3)).off + 1, none⟩ = some (.string T)) ∧ Below w.heap.size w6 w')
  (first | assumption | (exact ⟨FQ.out _ HB.out.drew, HB.out.drew⟩) | (exact ⟨FQ.out _ HB.out, HB.out⟩) | (refine (fun hS9 : Below w.heap.size w6 _ => ⟨FQ.out _ hS9, hS9⟩) (((HB.out.setCell (Nat.le_refl _) _).setCell (Nat.le_refl _) _).setCell (Nat.le_refl _) _).drew))
  (fail)
 go_wp2
 have Y := N6.out.set (.string ⟨#[116, 101, 120, 116]⟩) (.string T) (.slice none 0 0)
 exact bodyPost_ret (v := .agg #[.string ⟨#[116, 101, 120, 116]⟩, .string T, .slice none 0 0]) (by simp [results, Tryz.results202, go_sem, Y.c0, Y.c1, Y.c2]) rfl
  (ret_same (S2 := NoB) (NIn.leaf w6 NoB ⟨#[116, 101, 120, 116]⟩ T) (fun g hg => hg.elim) B6.out R6.out hrl).drew
def FigW (l : List W) : Prop := ∀ w ∈ l, w.1 = 1 → FigS w.2.1 ∧ w.2.1.length ≤ 4194304
section
variable {r : Nat} {A : Option Addr} {cap : Nat} {l : List W} {f : Nat}
theorem sign_does (D : Does r A cap l f) (i : Nat) (b : Bool) (w : World) (hi : i ≤ l.length) (hl : l.length ≤ 4194304) (hfg : FigW l) (hm : mu (bare l) .sign i < f + 1) (h : Rdr w r A cap l i b) :
  Calls Tryz.prog 202 #[.pointer (some ⟨r, 0, none⟩)] w (Reads r A cap l w NoB (P (bare l) (f + 1) .sign i b)) := by
 cases q1 : isW (bare l) i b [45] with
 | true => exact sign_neg D i b w hi hl hm h q1
 | false =>
  cases q2 : isW (bare l) i b [40] with
  | true => exact sign_open D i b w hi hl hm h q1 q2
  | false =>
   by_cases q0 : oneL (bare l) i b [sTrue, sFalse, sNull] = []
   ·cases k1 : isK (bare l) i b 1 with
    | true => exact sign_num i b w hi hl hfg h q1 q2 _ rfl q0 k1
    | false =>
     cases k2 : isK (bare l) i b 2 with
     | true => exact sign_text i b w hi hl h q1 q2 _ rfl q0 k1 k2
     | false => exact sign_name i b w hi hl h q1 q2 _ rfl q0 k1 k2
   ·exact sign_word i b w hi hl h q1 q2 _ rfl q0
theorem does (hl : l.length ≤ 4194304) (hfg : FigW l) : ∀ f, Does r A cap l f
 | 0 => ⟨fun _ _ _ _ _ _ _ h => absurd h (Nat.not_lt_zero _), fun _ _ _ _ h => absurd h (Nat.not_lt_zero _), fun _ _ _ _ _ _ _ _ _ _ _ _ _ h => absurd h (Nat.not_lt_zero _)⟩
 | f + 1 => by
  have D := does hl hfg f
  refine ⟨fun lv i b w h1 h7 hi hm h => ?_, fun i b w hi hm h => sign_does D i b w hi hl hfg hm h, fun S t op tx X n m i b w hS hn hi hm h => test_does D S t op tx X n m i b w hS hn hi hl hm h⟩
  have hc : (lv = 1 ∨ lv = 2 ∨ lv = 5 ∨ lv = 6) ∨ lv = 3 ∨ lv = 4 ∨ lv = 7 := by omega
  rcases hc with hc | rfl | rfl | rfl
  ·exact expr_loop D lv hc i b w hi hl hm h
  ·exact expr_not D i b w hi hl hm h
  ·exact expr_test D i b w hi hm h
  ·exact expr_sign D i b w hi hm h
end
structure QRd (w : World) (r q : Nat) (A : Option Addr) (cap : Nat) (l : List W) (i : Nat) (b : Bool) : Prop where
 rd : Rdr w r A cap l i b
 cq : w.cell? ⟨q, 0, none⟩ = some (.pointer (some ⟨r, 0, none⟩))
 ne : q ≠ r
section
variable {w w' : World} {r q : Nat} {A : Option Addr} {cap : Nat} {l : List W} {i j : Nat} {b c : Bool}
theorem QRd.lt (h : QRd w r q A cap l i b) : r < w.heap.size := h.rd.lt
theorem QRd.ltq (h : QRd w r q A cap l i b) : q < w.heap.size := World.block_lt_of_cell? _ _ h.cq
theorem QRd.below (h : QRd w r q A cap l i b) (hb : Below w.heap.size w w') : QRd w' r q A cap l i b := ⟨h.rd.below hb, (hb.cell (p := ⟨q, 0, none⟩) h.ltq).trans h.cq, h.ne⟩
theorem QRd.alloc (h : QRd w r q A cap l i b) (o : Obj) : QRd (w.alloc o) r q A cap l i b := h.below (below_alloc w o)
theorem QRd.but (h : QRd w r q A cap l i b) (hb : But w w' r) (hr : Rdr w' r A cap l j c) : QRd w' r q A cap l j c := ⟨hr, (hb.cell (q := ⟨q, 0, none⟩) h.ltq h.ne).trans h.cq, h.ne⟩
theorem QRd.new (h : QRd w r q A cap l i b) (p : Addr) (hp : r < p.block) (hq : q ≠ p.block) (u : Value) : QRd (w.setCell p u) r q A cap l i b :=
 ⟨h.rd.new p hp u, (World.cell?_setCell_other _ _ _ _ (fun e => hq (by rw [e]))).trans h.cq, h.ne⟩
theorem QRd.w3 (h : QRd w r q A cap l i b) {g : Nat} (hp : r < g) (hq : q ≠ g) (x y z : Value) : QRd (W3 w g x y z) r q A cap l i b := ((h.new ⟨g, 0, none⟩ hp hq _).new ⟨g, 1, none⟩ hp hq _).new ⟨g, 2, none⟩ hp hq _
end
theorem word_at {l : List W} {i : Nat} (h : i < l.length) (s m : List UInt8) : wordQ (bare l) i false s m = (l[i].1 == 0 && (l[i].2.1 == s && (bare l)[i + 1]? == some (3, m))) := by
 unfold wordQ
 rw [isK_at h, txt_at h]
 simp
theorem qword_any (r q : Nat) (A : Option Addr) (cap : Nat) (l : List W) (i : Nat) (b : Bool) (s mk : ByteArray) (w : World) (h : QRd w r q A cap l i b) (hi : i ≤ l.length) (hl : l.length ≤ 4194304) :
  Calls Tryz.prog 178 #[.pointer (some ⟨q, 0, none⟩), .string s, .string mk] w fun e w' => e = .returned (.bool (wordQ (bare l) i b s.data.toList mk.data.toList)) ∧ Below w.heap.size w w' := by
 have HK := hid (rkind_any r A cap l i b 0 w h.rd hi hl)
 have HR := hid h
 have q0 := h.cq
 obtain ⟨ans, hans⟩ : ∃ ans, wordQ (bare l) i b s.data.toList mk.data.toList = ans := ⟨_, rfl⟩
 have HA := hid hans
 rw [hans]
 clear h hans
 obtain ⟨kk, hkk⟩ : ∃ kk, isK (bare l) i b 0 = kk := ⟨_, rfl⟩
 rw [hkk] at HK
 cases kk
 ·obtain rfl : ans = false := by
   have := HA.out
   unfold wordQ at this
   rw [hkk] at this
   exact this.symm
  clear hkk
  go_enter Tryz.func178, Tryz.ntmps178
  go_wp2_with fail
  refine HK.out.mono ?_
  rintro e w1 ⟨rfl, hb1⟩
  have B1 := hid hb1
  clear hb1
  go_wp2
  refine wp_region_quiet_lit (by kernel_rfl) (by kernel_rfl) ?_
  repeat (with_reducible refine wpQuiet_step ?_; intro K hK; go_simp; with_reducible refine hK _ ?_; clear hK K)
  refine wpQuiet_nil ?_
  intro _ hw'
  obtain ⟨nq, hw''⟩ := hw'
  subst hw''
  go_wp2
  go_ret
  exact ⟨rfl, bnext B1.out B1.out.size (drewN_below (Below.refl _ _) _)⟩
 ·have hil := isK_len hkk
  obtain rfl : b = false := (isK_lt hkk).2
  have hx := HA.out
  rw [word_at hil] at hx
  rw [isK_at hil] at hkk
  have hx0 : (l[i].1 == 0) = true := by simpa using hkk
  rw [hx0] at hx
  clear hkk hx0
  obtain ⟨ad, rfl, ha, d0, d1, d2⟩ := at_word HR.out.rd.ws i hil
  obtain ⟨t, htt⟩ : ∃ t, l[i].2.1 = t := ⟨_, rfl⟩
  rw [htt] at d1 hx
  obtain ⟨T, hT⟩ : ∃ T : ByteArray, ⟨t.toArray⟩ = T := ⟨_, rfl⟩
  have hTt : t = T.data.toList := by rw [← hT]
  rw [hT] at d1
  rw [hTt] at hx
  clear hTt hT htt d0 d2
  have hlr := HR.out.lt
  have za : (ad.add (i * 3)).block < w.heap.size := by rw [add_block]; omega
  have HD := hid (fun (w' : World) (hb : Below w.heap.size w w') => show w'.cell? ⟨(ad.add (i * 3)).block, (ad.add (i * 3)).off + 1, none⟩ = some (.string T) from (hb.cell (p := ⟨(ad.add (i * 3)).block, (ad.add (i * 3)).off + 1, none⟩) za).trans d1)
  by_cases hts : T = s
  ·subst hts
   by_cases hi1 : i + 1 < l.length
   ·obtain ⟨ad', e', ha', g0, g1, g2⟩ := at_word HR.out.rd.ws (i + 1) hi1
    obtain rfl : ad = ad' := Option.some.inj e'
    rw [bare_get hi1] at hx
    obtain ⟨k1, hk1⟩ : ∃ k1, l[i + 1].1 = k1 := ⟨_, rfl⟩
    obtain ⟨t1, ht1⟩ : ∃ t1, l[i + 1].2.1 = t1 := ⟨_, rfl⟩
    obtain ⟨p1, hp1⟩ : ∃ p1, l[i + 1].2.2 = p1 := ⟨_, rfl⟩
    rw [hk1] at g0 hx
    rw [ht1] at g1 hx
    rw [hp1] at g2
    obtain ⟨U, hU⟩ : ∃ U : ByteArray, ⟨t1.toArray⟩ = U := ⟨_, rfl⟩
    have hUt : t1 = U.data.toList := by rw [← hU]
    rw [hU] at g1
    rw [hUt] at hx
    clear hUt hU hk1 ht1 hp1 d1
    obtain ⟨j, hj⟩ : ∃ j, i + 1 = j := ⟨_, rfl⟩
    rw [hj] at g0 g1 g2 hi1
    obtain ⟨uk, huk⟩ : ∃ uk, (U.toList == mk.toList) = uk := ⟨_, rfl⟩
    have hans2 : ans = ((k1 == 3) && uk) := by
     have hp : (some (k1, U.data.toList) == some (3, mk.data.toList)) = ((k1 == 3) && (U.data.toList == mk.data.toList)) := rfl
     rw [← hx, hp, ← huk, ByteArray.toList_eq, ByteArray.toList_eq]
     simp
    rw [hans2]
    have zb : (ad.add (j * 3)).block < w.heap.size := by rw [add_block]; omega
    have HG := hid (fun (w' : World) (hb : Below w.heap.size w w') => (show w'.cell? (ad.add (j * 3)) = some (.int .i64 k1) ∧ w'.cell? ⟨(ad.add (j * 3)).block, (ad.add (j * 3)).off + 1, none⟩ = some (.string U) ∧ w'.cell? ⟨(ad.add (j * 3)).block, (ad.add (j * 3)).off + 2, none⟩ = some (.int .i64 p1) from
     ⟨(hb.cell zb).trans g0, (hb.cell (p := ⟨(ad.add (j * 3)).block, (ad.add (j * 3)).off + 1, none⟩) zb).trans g1, (hb.cell (p := ⟨(ad.add (j * 3)).block, (ad.add (j * 3)).off + 2, none⟩) zb).trans g2⟩))
    clear hx g0 g1 g2 hans2
    have e1 : decide ((l.length : Int) ≤ (j : Int)) = false := by simp; omega
    have e2 : IntKind.i64.wrap ((i : Int) + 1) = (j : Int) := by rw [IntKind.wrap_i64]; omega
    have e3 : (i : Int) < (l.length : Int) := by omega
    have e4 : (j : Int) < (l.length : Int) := by omega
    have e6 : decide (l.length ≤ j) = false := by simp; omega
    clear hj
    go_enter Tryz.func178, Tryz.ntmps178
    go_wp2_with fail
    refine HK.out.mono ?_
    rintro e w1 ⟨rfl, hb1⟩
    have B1 := hid hb1
    have R1 := hid (HR.out.below hb1)
    have c0 := R1.out.rd.c0
    have c1 := R1.out.rd.c1
    have cq := R1.out.cq
    have d1 := HD.out _ hb1
    clear hb1 q0
    go_wp2
    go_quiet (fail)
    obtain ⟨w2, hw2⟩ : ∃ w2, w1.drewN nq = w2 := ⟨_, rfl⟩
    have B2 := hid (show Below w.heap.size w w2 by rw [← hw2]; exact bnext B1.out B1.out.size (drewN_below (Below.refl _ _) _))
    have R2 := hid (HR.out.below B2.out)
    rw [hw2]
    clear hw2 c0 c1 cq d1
    have c0 := R2.out.rd.c0
    have c1 := R2.out.rd.c1
    have cq := R2.out.cq
    obtain ⟨g0, g1, g2⟩ := HG.out _ B2.out
    have zr := R2.out.lt
    have zq := R2.out.ltq
    have K0 := hid (fun (w' : World) (hb : Below w2.heap.size w2 w') => (show (w'.cell? ⟨q, 0, none⟩ = some (.pointer (some ⟨r, 0, none⟩)) ∧ w'.cell? ⟨r, 0, none⟩ = some (.slice (some ad) l.length cap) ∧ w'.cell? ⟨r, 1, none⟩ = some (.int .i64 i) ∧ w'.cell? (ad.add (j * 3)) = some (.int .i64 k1) ∧ w'.cell? ⟨(ad.add (j * 3)).block, (ad.add (j * 3)).off + 1, none⟩ = some (.string U) ∧ w'.cell? ⟨(ad.add (j * 3)).block, (ad.add (j * 3)).off + 2, none⟩ = some (.int .i64 p1)) ∧ Below w2.heap.size w2 w' from
     ⟨⟨(R2.out.below hb).cq, (R2.out.below hb).rd.c0, (R2.out.below hb).rd.c1, (HG.out _ (bnext B2.out B2.out.size hb)).1, (HG.out _ (bnext B2.out B2.out.size hb)).2.1, (HG.out _ (bnext B2.out B2.out.size hb)).2.2⟩, hb⟩))
    go_wp2_with fail
    go_region_held3 (fun w' => (w'.cell? ⟨q, 0, none⟩ = some (.pointer (some ⟨r, 0, none⟩)) ∧ w'.cell? ⟨r, 0, none⟩ = some (.slice (some ad) l.length cap) ∧ w'.cell? ⟨r, 1, none⟩ = some (.int .i64 i) ∧ w'.cell? (ad.add (j * 3)) = some (.int .i64 k1) ∧ w'.cell? ⟨(ad.add (j * 3)).block, (ad.add (j * 3)).off + 1, none⟩ = some (.string U) ∧ w'.cell? ⟨(ad.add (j * 3)).block, (ad.add (j * 3)).off + 2, none⟩ = some (.int .i64 p1)) ∧ Below w2.heap.size w2 w')
     (first | assumption | (exact K0.out _ (((Below.refl w2.heap.size w2).drew).alloc (Nat.le_refl _) _)) | (exact K0.out _ ((Below.refl _ _).drew)))
     (fail)
    have B3 := hid (show Below w2.heap.size w2 _ by rename_i hS; exact hS.2)
    clear c0 c1 cq g0 g1 g2
    cases hk3 : k1 == 3
    ·go_wp2
     go_ret
     exact ⟨retB (by simp [hk3]), bnext B2.out B2.out.size B3.out⟩
    ·go_wp2
     go_ret
     exact ⟨retB (by simp [hk3, huk]), bnext B2.out B2.out.size B3.out⟩
   ·obtain rfl : ans = false := by
     rw [← hx, bare_none hi1]
     simp
    clear hx
    have e1 : decide ((l.length : Int) ≤ (i : Int) + 1) = true := by simp; omega
    have e2 : IntKind.i64.wrap ((i : Int) + 1) = (i : Int) + 1 := by rw [IntKind.wrap_i64]; omega
    have e3 : (i : Int) < (l.length : Int) := by omega
    have e4 : ¬ (i : Int) + 1 < (l.length : Int) := by omega
    have e6 : decide (l.length ≤ i + 1) = true := by simp; omega
    go_enter Tryz.func178, Tryz.ntmps178
    go_wp2_with fail
    refine HK.out.mono ?_
    rintro e w1 ⟨rfl, hb1⟩
    have B1 := hid hb1
    have R1 := hid (HR.out.below hb1)
    have c0 := R1.out.rd.c0
    have c1 := R1.out.rd.c1
    have cq := R1.out.cq
    have d1 := HD.out _ hb1
    clear hb1 q0
    go_wp2
    go_quiet (fail)
    go_wp2
    go_ret
    exact ⟨rfl, bnext B1.out B1.out.size (drewN_below (Below.refl _ _) _)⟩
  ·obtain rfl : ans = false := by
    have f3 : ¬ T.data.toList = s.data.toList := fun e => hts (by rw [← Lib.mk_data T, e, Lib.mk_data])
    have e9 : (T.data.toList == s.data.toList) = false := by simpa using f3
    rw [e9] at hx
    simpa using hx.symm
   have f2 := toList_ne hts
   have e3 : (i : Int) < (l.length : Int) := by omega
   clear hx
   go_enter Tryz.func178, Tryz.ntmps178
   go_wp2_with fail
   refine HK.out.mono ?_
   rintro e w1 ⟨rfl, hb1⟩
   have B1 := hid hb1
   have R1 := hid (HR.out.below hb1)
   have c0 := R1.out.rd.c0
   have c1 := R1.out.rd.c1
   have cq := R1.out.cq
   have d1 := HD.out _ hb1
   clear hb1 q0
   go_wp2
   refine wp_region_quiet_lit (by kernel_rfl) (by kernel_rfl) ?_
   repeat (with_reducible refine wpQuiet_step ?_; intro K hK; go_simp; with_reducible refine hK _ ?_; clear hK K)
   refine wpQuiet_nil ?_
   intro _ hw'
   obtain ⟨nq, hw''⟩ := hw'
   subst hw''
   go_wp2
   go_ret
   exact ⟨rfl, bnext B1.out B1.out.size (drewN_below (Below.refl _ _) _)⟩
theorem opQ_none {L : List V} {i : Nat} {b : Bool} : ∀ {l : List (List UInt8)}, (∀ s ∈ l, wordQ L i b s [40] = false) → opQ L i b l = []
 | [], _ => rfl
 | s :: l, h => by rw [opQ, if_neg (by rw [h s (List.mem_cons_self ..)]; decide)]; exact opQ_none fun t ht => h t (List.mem_cons_of_mem _ ht)
theorem opQ_step {L : List V} {i : Nat} {b : Bool} : ∀ (ls : List (List UInt8)) (k : Nat) (h : k < ls.length), (∀ j (hj : j < ls.length), j < k → wordQ L i b ls[j] [40] = false) → wordQ L i b ls[k] [40] = true → opQ L i b ls = ls[k]
 | [], k, h, _, _ => absurd h (Nat.not_lt_zero _)
 | s :: ls, 0, h, _, hw => by
  rw [opQ, if_pos (show wordQ L i b s [40] = true from hw)]
  rfl
 | s :: ls, k + 1, h, hb, hw => by
  have h0 := hb 0 (by simp) (by omega)
  rw [opQ, if_neg (by rw [show wordQ L i b s [40] = false from h0]; decide)]
  exact opQ_step ls k (by simpa using h) (fun j hj hjk => hb (j + 1) (by simpa using hj) (by omega)) hw
theorem add_zero (g k : Nat) : (⟨g, 0, none⟩ : Addr).add k = ⟨g, k, none⟩ := by
 unfold Addr.add
 split
 ·rename_i h; subst h; rfl
 ·simp
theorem Rdr.at2 {w : World} {r : Nat} {A : Option Addr} {cap : Nat} {l : List W} {i : Nat} {b : Bool} (h : Rdr w r A cap l i b) : Rdr (w.setCell ⟨r, 1, none⟩ (.int .i64 ((i : Int) + 2))) r A cap l (i + 2) b := by
 have := h.at (i + 2)
 rw [Int.natCast_add] at this
 exact this
theorem qop_any (r q : Nat) (A : Option Addr) (cap : Nat) (l : List W) (i : Nat) (b : Bool) (w : World) (h : QRd w r q A cap l i b) (hi : i ≤ l.length) (hl : l.length ≤ 4194304) (o : List UInt8) (ho : opQ (bare l) i b opsQ = o) :
  Calls Tryz.prog 143 #[.pointer (some ⟨q, 0, none⟩)] w fun e w' => e = .returned (.string ⟨o.toArray⟩) ∧ But w w' r ∧ QRd w' r q A cap l (if o = [] then i else i + 2) b := by
 have HR := hid h
 have HO := hid ho
 have zr := h.lt
 clear h ho
 go_enter Tryz.func143, Tryz.ntmps143
 go_wp2
 obtain ⟨w0, hw0⟩ : ∃ w0, w.alloc (.cells #[.string ⟨#[102, 105, 108, 116, 101, 114]⟩, .string ⟨#[112, 114, 111, 106, 101, 99, 116]⟩, .string ⟨#[106, 111, 105, 110]⟩, .string ⟨#[117, 110, 105, 111, 110]⟩, .string ⟨#[100, 105, 115, 116, 105, 110, 99, 116]⟩, .string ⟨#[103, 114, 111, 117, 112]⟩] 9) = w0 := ⟨_, rfl⟩
 have hz0 : w0.heap.size = w.heap.size + 1 := by rw [← hw0]; simp
 have VS := hid (show At sc 1 w0 w0.heap.size (some ⟨w.heap.size, 0, none⟩) opsQ by rw [hz0, ← hw0]; exact texts_new w opsQ _ _ rfl)
 have R0 := hid (show QRd w0 r q A cap l i b by rw [← hw0]; exact HR.out.alloc _)
 have B0 := hid (show But w w0 r by rw [← hw0]; exact (But.refl w r).alloc _)
 rw [hw0]
 clear hw0
 go_loopw [4] (fun t wr => ∃ k : Nat, k ≤ 6 ∧ t = .int .i64 k ∧ Hid (∀ j (hj : j < opsQ.length), j < k → wordQ (bare l) i b opsQ[j] [40] = false) ∧ Below w0.heap.size w0 wr) (fun t _ => 6 - (intOf t).toNat)
 case atStart => exact ⟨0, by omega, rfl, hid (fun j hj h => absurd h (Nat.not_lt_zero _)), Below.refl _ _⟩
 case round =>
  obtain ⟨k, hk, rfl, HB, hbel⟩ := hrel
  have HBE := hid hbel
  have HRD := hid (R0.out.below hbel)
  have VS2 := hid (VS.out.below hbel)
  have hz := hbel.size
  clear hbel
  by_cases hkl : k < 6
  ·obtain ⟨ad, e0, ha, c0⟩ := at_text VS2.out k (show k < opsQ.length from hkl)
   obtain rfl : (⟨w.heap.size, 0, none⟩ : Addr) = ad := Option.some.inj e0
   obtain ⟨s, hsx⟩ : ∃ s, opsQ[k]'(show k < opsQ.length from hkl) = s := ⟨_, rfl⟩
   obtain ⟨T, hT⟩ : ∃ T : ByteArray, ⟨s.toArray⟩ = T := ⟨_, rfl⟩
   have hTs : T.data.toList = s := by rw [← hT]
   rw [hsx, hT, add_zero] at c0
   obtain ⟨g, hg⟩ : ∃ g, wordQ (bare l) i b s [40] = g := ⟨_, rfl⟩
   have HTK := hid (qword_any r q A cap l i b T ⟨#[40]⟩ wr HRD.out hi hl)
   rw [hTs, show (⟨#[40]⟩ : ByteArray).data.toList = [40] from rfl, hg] at HTK
   cases g
   ·have HB2 := hid (show ∀ j (hj : j < opsQ.length), j < k + 1 → wordQ (bare l) i b opsQ[j] [40] = false by
     intro j hj hjk
     by_cases e : j = k
     ·subst e; rw [hsx]; exact hg
     ·exact HB.out j hj (by omega))
    clear hg hsx hT hTs
    go_wp2_with fail
    refine HTK.out.mono ?_
    rintro e w1 ⟨rfl, hb1⟩
    have B1 := hid (bnext HBE.out hz hb1)
    clear hb1 c0 HTK
    go_wp2
    go_roundw
    case rel => exact ⟨k + 1, by omega, by go_num, HB2, B1.out⟩
    case measure => simp [intOf]; omega
   ·have hx := opQ_step opsQ k (show k < opsQ.length from hkl) HB.out (by rw [hsx]; exact hg)
    rw [HO.out, hsx] at hx
    subst hx
    have hq0 : o ≠ [] := op_ne (hsx ▸ List.getElem_mem _)
    have hilt := word_lt hg
    obtain rfl : b = false := hilt.2
    have HC := hid (fun (w' : World) (hb : Below wr.heap.size wr w') => show w'.cell? ⟨w.heap.size, k, none⟩ = some (.string T) from (hb.cell (p := ⟨w.heap.size, k, none⟩) (by show w.heap.size < _; omega)).trans c0)
    have HT := hid hT
    clear hg hsx hT hTs
    go_wp2_with fail
    refine HTK.out.mono ?_
    rintro e w1 ⟨rfl, hb1⟩
    have R1 := hid (HRD.out.below hb1)
    have B1 := hid (B0.out.trans (But.of (bnext HBE.out hz hb1) r))
    have hz1 := hb1.size
    have d1 := HC.out _ hb1
    have K0 := hid (fun (w' : World) (hb : But w1 w' r) => (show (w'.cell? ⟨q, 0, none⟩ = some (.pointer (some ⟨r, 0, none⟩))) ∧ But w1 w' r from ⟨(hb.cell (q := ⟨q, 0, none⟩) R1.out.ltq R1.out.ne).trans R1.out.cq, hb⟩))
    have c1 : w1.drew.cell? ⟨r, 1, none⟩ = some (.int .i64 i) := R1.out.rd.c1
    have f1 : w1.drew.frozen? ⟨r, 1, none⟩ = false := R1.out.rd.fr 1
    have e1 : IntKind.i64.wrap ((i : Int) + 2) = (i : Int) + 2 := by
     have := hilt.1
     rw [bare_length] at this
     rw [IntKind.wrap_i64]
     omega
    clear hb1 c0 HTK
    go_wp2_with fail
    refine wp_region_held_drew (S := fun w' => (w'.cell? ⟨q, 0, none⟩ = some (.pointer (some ⟨r, 0, none⟩))) ∧ But w1 w' r) (by kernel_rfl) (K0.out _ (But.of ((Below.refl _ _).drew) r)) (fun hHeld => ?_)
    refine take1 (v := ?_) 0 20 rfl ?_ ?_; rotate_left; (intro w hSw; (try dsimp only at hSw); go_simp; try with_reducible rfl); (try simp only [Act.put, List.setIfInBounds_toArray, List.set_cons_zero, List.set_cons_succ])
    refine take1 (v := ?_) 1 21 rfl ?_ ?_; rotate_left; (intro w hSw; (try dsimp only at hSw); go_simp; try with_reducible rfl); (try simp only [Act.put, List.setIfInBounds_toArray, List.set_cons_zero, List.set_cons_succ])
    refine take1 (v := ?_) 2 22 rfl ?_ ?_; rotate_left; (intro w hSw; (try dsimp only at hSw); go_simp; try with_reducible rfl); (try simp only [Act.put, List.setIfInBounds_toArray, List.set_cons_zero, List.set_cons_succ])
    refine take1 (v := ?_) 3 23 rfl ?_ ?_; rotate_left; (intro w hSw; (try dsimp only at hSw); go_simp; try with_reducible rfl); (try simp only [Act.put, List.setIfInBounds_toArray, List.set_cons_zero, List.set_cons_succ])
    refine take1 (v := ?_) 4 24 rfl ?_ ?_; rotate_left; (intro w hSw; (try dsimp only at hSw); go_simp; try with_reducible rfl); (try simp only [Act.put, List.setIfInBounds_toArray, List.set_cons_zero, List.set_cons_succ])
    refine take1 (v := ?_) 5 25 rfl ?_ ?_; rotate_left; (intro w hSw; (try dsimp only at hSw); go_simp; try with_reducible rfl); (try simp only [Act.put, List.setIfInBounds_toArray, List.set_cons_zero, List.set_cons_succ])
    refine take1 (v := ?_) 6 26 rfl ?_ ?_; rotate_left; (intro w hSw; (try dsimp only at hSw); go_simp; try with_reducible rfl); (try simp only [Act.put, List.setIfInBounds_toArray, List.set_cons_zero, List.set_cons_succ])
    refine take1 (v := ?_) 7 27 rfl ?_ ?_; rotate_left; (intro w hSw; (try dsimp only at hSw); go_simp; try with_reducible rfl); (try simp only [Act.put, List.setIfInBounds_toArray, List.set_cons_zero, List.set_cons_succ])
    refine take1 (v := ?_) 8 28 rfl ?_ ?_; rotate_left; (intro w hSw; (try dsimp only at hSw); go_simp; try with_reducible rfl); (try simp only [Act.put, List.setIfInBounds_toArray, List.set_cons_zero, List.set_cons_succ])
    refine take1 (v := ?_) 9 29 rfl ?_ ?_; rotate_left; (intro w hSw; (try dsimp only at hSw); go_simp; try with_reducible rfl); (try simp only [Act.put, List.setIfInBounds_toArray, List.set_cons_zero, List.set_cons_succ])
    refine wpAnyH_ready (rs := [10]) (by kernel_rfl) (by simp) ?_
    refine AllReadyH.cons (o := ⟨some 30, _, _, _, _, _⟩) rfl (fun K hK => ?_) AllReadyH.nil
    go_simp
    refine hK.out _ _ (K0.out _ (But.of ((Below.refl _ _).drew) r)) (fun hHeld2 => ?_)
    clear hK K
    (try simp only [Act.put, List.setIfInBounds_toArray, List.set_cons_zero, List.set_cons_succ])
    refine take1 (v := ?_) 11 31 rfl ?_ ?_; rotate_left; (intro w hSw; (try dsimp only at hSw); go_simp; try with_reducible rfl); (try simp only [Act.put, List.setIfInBounds_toArray, List.set_cons_zero, List.set_cons_succ])
    refine take1 (v := ?_) 12 32 rfl ?_ ?_; rotate_left; (intro w hSw; (try dsimp only at hSw); go_simp; try with_reducible rfl); (try simp only [Act.put, List.setIfInBounds_toArray, List.set_cons_zero, List.set_cons_succ])
    refine take1 (v := ?_) 13 33 rfl ?_ ?_; rotate_left; (intro w hSw; (try dsimp only at hSw); go_simp; try with_reducible rfl); (try simp only [Act.put, List.setIfInBounds_toArray, List.set_cons_zero, List.set_cons_succ])
    refine wpAnyH_ready (rs := [14]) (by kernel_rfl) (by simp) ?_
    refine AllReadyH.cons (o := ⟨none, _, _, _, _, _⟩) rfl (fun K hK => ?_) AllReadyH.nil
    go_simp
    refine hK.out _ _ (K0.out _ ((But.of ((Below.refl _ _).drew) r).setCell 1 _)) (fun hHeld3 => ?_)
    clear hK K
    (try simp only [Act.put, List.setIfInBounds_toArray, List.set_cons_zero, List.set_cons_succ])
    refine wpAnyH_done (by kernel_rfl) ?_ _
    clear hHeld hHeld2 hHeld3
    obtain ⟨w2, hw2⟩ : ∃ w2, (w1.setCell ⟨r, 1, none⟩ (.int .i64 ((i : Int) + 2))).drew = w2 := ⟨_, rfl⟩
    have hw3 : w1.drew.setCell ⟨r, 1, none⟩ (.int .i64 ((i : Int) + 2)) = w2 := hw2
    have R2 := hid (show QRd w2 r q A cap l (i + 2) false by
     rw [← hw3]
     exact ⟨(R1.out.rd.below (Below.drew (Below.refl _ _))).at2, (World.cell?_setCell_other _ _ _ _ (fun e => R1.out.ne (congrArg Addr.block e).symm)).trans R1.out.cq, R1.out.ne⟩)
    have B2 := hid (show But w w2 r by rw [← hw3]; exact (B1.out.next (Below.drew (Below.refl _ _))).setCell 1 _)
    have d2 : w2.cell? ⟨w.heap.size, k, none⟩ = some (.string T) := by
     rw [← hw3, World.cell?_setCell_other _ _ _ _ (by
      intro e
      have h2 : r = w.heap.size := congrArg Addr.block e
      omega)]
     exact d1
    try rw [hw2]
    clear hw2 hw3 c1 f1 d1
    go_wp2
    go_ret
    refine ⟨retS HT.out.symm, B2.out, ?_⟩
    first | exact R2.out | (rw [if_neg hq0]; exact R2.out)
  ·have hx : opQ (bare l) i b opsQ = [] := opQ_none fun s hs => by
    obtain ⟨j, hj, rfl⟩ := List.mem_iff_getElem.1 hs
    exact HB.out j hj (by have : j < 6 := hj; omega)
   rw [HO.out] at hx
   subst hx
   obtain rfl : k = 6 := by omega
   go_wp2
   go_ret
   exact ⟨rfl, B0.out.next HBE.out, HRD.out⟩
theorem QRd.must {w w' : World} {r q : Nat} {A : Option Addr} {cap : Nat} {l : List W} {i j : Nat} {b c : Bool} (h : QRd w r q A cap l i b) (hb : But w w' r) (hr : Rdr w' r A cap l j c) {p : Nat × Bool} (hp : p = (j, c)) : QRd w' r q A cap l p.1 p.2 := by
 subst hp
 exact h.but hb hr
theorem must_is (L : List V) (i : Nat) (b : Bool) (s : List UInt8) (g : Bool) (hg : isW L i b s = g) : mustQ L i b s = (if g = true then i + 1 else i, if g = true then b else true) := by
 unfold mustQ
 rw [hg]
 cases g <;> simp
theorem qmust_any (r q : Nat) (A : Option Addr) (cap : Nat) (l : List W) (i : Nat) (b : Bool) (s : ByteArray) (w : World) (h : QRd w r q A cap l i b) (hi : i ≤ l.length) (hl : l.length ≤ 4194304) :
  Calls Tryz.prog 145 #[.pointer (some ⟨r, 0, none⟩), .string s] w fun e w' => e = .returned (.tuple #[]) ∧ But w w' r ∧ QRd w' r q A cap l (mustQ (bare l) i b s.data.toList).1 (mustQ (bare l) i b s.data.toList).2 := by
 refine (rmust_any r A cap l i b s _ rfl w h.rd hi hl).mono fun e w' hp => ⟨hp.1, hp.2.1, h.must hp.2.1 hp.2.2 (must_is _ _ _ _ _ rfl)⟩
theorem qtake_any (r q : Nat) (A : Option Addr) (cap : Nat) (l : List W) (i : Nat) (b : Bool) (s : ByteArray) (g : Bool) (hg : isW (bare l) i b s.data.toList = g) (w : World) (h : QRd w r q A cap l i b) (hi : i ≤ l.length) (hl : l.length ≤ 4194304) :
  Calls Tryz.prog 180 #[.pointer (some ⟨r, 0, none⟩), .string s] w fun e w' => e = .returned (.bool g) ∧ But w w' r ∧ QRd w' r q A cap l (if g = true then i + 1 else i) b :=
 (rtake_any r A cap l i b s g hg w h.rd hi hl).mono fun e w' hp => ⟨hp.1, hp.2.1, h.but hp.2.1 hp.2.2⟩
theorem qname_any (r q : Nat) (A : Option Addr) (cap : Nat) (l : List W) (i : Nat) (b : Bool) (w : World) (h : QRd w r q A cap l i b) (hi : i ≤ l.length) (hl : l.length ≤ 4194304) :
  Calls Tryz.prog 144 #[.pointer (some ⟨r, 0, none⟩)] w fun e w' => e = .returned (.string ⟨(nmQ (bare l) i b).1.toArray⟩) ∧ But w w' r ∧ QRd w' r q A cap l (nmQ (bare l) i b).2.1 (nmQ (bare l) i b).2.2 := by
 refine (rname_any r A cap l i b w h.rd hi hl _ rfl).mono fun e w' hp => ?_
 have e1 : nmQ (bare l) i b = (if (isK (bare l) i b 0 && !ownL (txt (bare l) i)) = true then txt (bare l) i else [], if (isK (bare l) i b 0 && !ownL (txt (bare l) i)) = true then i + 1 else i, if (isK (bare l) i b 0 && !ownL (txt (bare l) i)) = true then b else true) := by
  unfold nmQ
  split <;> rfl
 rw [e1]
 exact ⟨hp.1, hp.2.1, h.but hp.2.1 hp.2.2⟩
theorem qmore_any (r q : Nat) (A : Option Addr) (cap : Nat) (l : List W) (i : Nat) (b first : Bool) (w : World) (h : QRd w r q A cap l i b) (hi : i ≤ l.length) (hl : l.length ≤ 4194304) :
  Calls Tryz.prog 182 #[.pointer (some ⟨q, 0, none⟩), .bool first] w fun e w' => e = .returned (.bool (moreQ (bare l) i b first).1) ∧ But w w' r ∧ QRd w' r q A cap l (moreQ (bare l) i b first).2.1 (moreQ (bare l) i b first).2.2 := by
 have HR := hid h
 have cq := h.cq
 have HM := hid (fun (w' : World) (h' : QRd w' r q A cap l i b) => qmust_any r q A cap l i b ⟨#[44]⟩ w' h' hi hl)
 obtain ⟨M, hM⟩ : ∃ M, moreQ (bare l) i b first = M := ⟨_, rfl⟩
 obtain ⟨C, hC⟩ : ∃ C, mustQ (bare l) i b [44] = C := ⟨_, rfl⟩
 rw [show (⟨#[44]⟩ : ByteArray).data.toList = [44] from rfl, hC] at HM
 have hmore := hM
 unfold moreQ at hmore
 rw [hC] at hmore
 rw [hM]
 clear h hM hC
 cases first
 ·obtain ⟨g, hg⟩ : ∃ g, isW (bare l) i b [41] = g := ⟨_, rfl⟩
  have HT := hid (fun (w' : World) (h' : QRd w' r q A cap l i b) => qtake_any r q A cap l i b ⟨#[41]⟩ g hg w' h' hi hl)
  rw [hg] at hmore
  cases g
  ·clear hg
   cases b
   ·obtain ⟨c1, c2⟩ := C
    subst hmore
    go_enter Tryz.func182, Tryz.ntmps182
    go_wp2_with fail
    refine (HT.out _ HR.out).mono ?_
    rintro e w1 ⟨rfl, hb1, hr1⟩
    have B1 := hid hb1
    have R1 := hid hr1
    have c0 := R1.out.cq
    have c2' := R1.out.rd.c2
    clear hb1 hr1 cq
    go_wp2_with fail
    refine (HM.out _ R1.out).mono ?_
    rintro e w2 ⟨rfl, hb2, hr2⟩
    have B2 := hid (B1.out.trans hb2)
    have R2 := hid hr2
    have d0 := R2.out.cq
    have d2 := R2.out.rd.c2
    try dsimp only at d2
    clear hb2 hr2 c0 c2'
    go_wp2
    go_ret
    exact ⟨rfl, B2.out, R2.out⟩
   ·subst hmore
    go_enter Tryz.func182, Tryz.ntmps182
    go_wp2_with fail
    refine (HT.out _ HR.out).mono ?_
    rintro e w1 ⟨rfl, hb1, hr1⟩
    have B1 := hid hb1
    have R1 := hid hr1
    have c0 := R1.out.cq
    have c2' := R1.out.rd.c2
    clear hb1 hr1 cq
    go_wp2
    go_ret
    exact ⟨rfl, B1.out, R1.out⟩
  ·subst hmore
   obtain rfl : b = false := isW_good hg
   clear hg
   go_enter Tryz.func182, Tryz.ntmps182
   go_wp2_with fail
   refine (HT.out _ HR.out).mono ?_
   rintro e w1 ⟨rfl, hb1, hr1⟩
   have B1 := hid hb1
   have R1 := hid hr1
   clear hb1 hr1 cq
   go_wp2
   go_ret
   exact ⟨rfl, B1.out, R1.out⟩
 ·obtain ⟨c1, c2⟩ := C
  subst hmore
  go_enter Tryz.func182, Tryz.ntmps182
  go_wp2_with fail
  refine (HM.out _ HR.out).mono ?_
  rintro e w2 ⟨rfl, hb2, hr2⟩
  have B2 := hid hb2
  have R2 := hid hr2
  have d0 := R2.out.cq
  have d2 := R2.out.rd.c2
  try dsimp only at d2
  clear hb2 hr2 cq
  go_wp2
  go_ret
  exact ⟨rfl, B2.out, R2.out⟩
def GetN (r q : Nat) (A : Option Addr) (cap : Nat) (l : List W) (w : World) (res : Res) (e : Ending) (w' : World) : Prop :=
 ∃ (op tx : ByteArray) (X : Option Addr) (n k : Nat), e = .returned (.agg #[.string op, .string tx, .slice X n k]) ∧ RIn w' (New w w') res.1 (op, tx, X, n, k) ∧ But w w' r ∧ QRd w' r q A cap l res.2.1 res.2.2
theorem qexpr_any (r q : Nat) (A : Option Addr) (cap : Nat) (l : List W) (i : Nat) (b : Bool) (w : World) (h : QRd w r q A cap l i b) (hi : i ≤ l.length) (hl : l.length ≤ 4194304) (hfg : FigW l) :
  Calls Tryz.prog 146 #[.pointer (some ⟨q, 0, none⟩)] w (GetN r q A cap l w ((exprQ (bare l) i b).1.n, (exprQ (bare l) i b).2)) := by
 have HR := hid h
 have zq := h.ltq
 have zr := h.lt
 have HE := hid (fun (w' : World) (h' : QRd w' r q A cap l i b) => (does (r := r) (A := A) (cap := cap) hl hfg (stepsN (bare l))).expr 1 i b w' (by omega) (by omega) hi (by
  have e : mu (bare l) (.expr 1) i = 16 * ((bare l).length - i) + 15 := rfl
  unfold stepsN
  omega) h'.rd)
 obtain ⟨P0, hP⟩ : ∃ P0, exprQ (bare l) i b = P0 := ⟨_, rfl⟩
 have hP' : P (bare l) (stepsN (bare l)) (.expr 1) i b = P0 := hP
 rw [hP'] at HE
 rw [hP]
 unfold Reads at HE
 obtain ⟨x, j, c⟩ := P0
 clear h hP hP'
 go_enter Tryz.func146, Tryz.ntmps146
 obtain ⟨w0, hw0, hz0, N0, B0⟩ := made0 w r
 have R0 := hid (show QRd w0 r q A cap l i b by rw [← hw0]; exact HR.out.alloc _)
 have cq := R0.out.cq
 go_wp2_with fail
 try rw [hw0]
 refine (HE.out _ R0.out).mono ?_
 rintro e w1 ⟨op, tx, X, n, m, rfl, hn1, hb1, hr1⟩
 try dsimp only at hn1 hr1
 have z1 := hb1.size
 have R1 := hid (R0.out.but hb1 hr1)
 have B1 := hid (B0.out.trans hb1)
 have N1 := hid (N0.out.but (by omega) hb1)
 have I1 := hid (hn1.imp (S' := fun g => w.heap.size < g ∧ g < w1.heap.size) (fun g hg => by rcases hg with hg | hg; exact hg.elim; exact ⟨by have := hg.1; omega, hg.2⟩)).rin
 clear hn1 hb1 hr1 cq
 obtain ⟨x0, x1, x2, xf⟩ := N1.out
 go_wp2
 have Y := N1.out.set (.string op) (.string tx) (.slice X n m)
 exact bodyPost_ret (v := .agg #[.string op, .string tx, .slice X n m]) (by simp [results, Tryz.results146, go_sem, Y.c0, Y.c1, Y.c2]) rfl
  ⟨op, tx, X, n, m, rfl, ((I1.out).w3 (g := w.heap.size) (fun h => Nat.lt_irrefl _ h.1) _ _ _).imp (fun g hg => ⟨Nat.le_of_lt hg.1, by show g < (W3 w1 w.heap.size _ _ _).heap.size; rw [W3.size]; exact hg.2⟩), W3.but B1.out (Nat.le_refl _) _ _ _, R1.out.w3 zr (by omega) _ _ _⟩
end Go.Proofs.YthpmgnfmeldkjaaGreatDoor.Code
