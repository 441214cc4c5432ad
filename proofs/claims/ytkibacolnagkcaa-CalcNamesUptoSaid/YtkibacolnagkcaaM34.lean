/-
  The document's reader of expressions: a sign: numbers, texts.
-/
import Derived.Test.YtkibacolnagkcaaM15
import Derived.Deep.DeepCutAuto
import Derived.Test.YtkibacolnagkcaaM33
import Derived.Test.YtkibacolnagkcaaM32
import Derived.Test.YtkibacolnagkcaaM6
namespace Go.Proofs.Ytkibacolnagkcaa.Code
open Go.ChangeShapes Go.WideShapes Go.ChangeAt Go.RowKit Val Elems
set_option linter.unusedVariables false
set_option linter.unusedSimpArgs false
/-- the newest block holds another thing -/
theorem swapO {B : Nat} {a w : World} {o o' : Obj} (h : Below B a (w.alloc o)) (hB : B ≤ w.heap.size) : Below B a (w.alloc o') :=
  ⟨h.os, h.tape, h.output, by have := h.size; simp at *; omega, fun k hk => (Below.heap_alloc w o' k (by omega)).trans ((Below.heap_alloc w o k (by omega)).symm.trans (h.block k hk))⟩
set_option maxHeartbeats 8000000 in
set_option maxRecDepth 100000 in
theorem sign_num {r : Nat} {A : Option Addr} {cap : Nat} {l : List W} {f : Nat} (i : Nat) (b : Bool) (w : World) (hi : i ≤ l.length) (hl : l.length ≤ 4194304) (hfg : ∀ w ∈ l, w.1 = 1 → FigS w.2.1 ∧ w.2.1.length ≤ 4194304) (h : Rdr w r A cap l i b) (hq1 : isW (bare l) i b [45] = false) (hq2 : isW (bare l) i b [40] = false) (q : List UInt8) (hq : oneL (bare l) i b [sTrue, sFalse, sNull] = q) (hq0 : q = []) (k1 : isK (bare l) i b 1 = true) :
    Calls Try.prog 67 #[.pointer (some ⟨r, 0, none⟩)] w (Reads r A cap l w NoB (P (bare l) (f + 1) .sign i b)) := by
  have hil := isK_len k1
  obtain rfl : b = false := (isK_lt k1).2
  have HWS := Lib.hid h.ws
  obtain ⟨ad, hA, ha, d0, d1, d2⟩ := at_word HWS.out i hil
  have hk1 : l[i].1 = 1 := by
    have := k1
    rw [isK_at hil] at this
    simpa using this
  have hfl := hfg l[i] (List.getElem_mem hil) hk1
  have htx := txt_at hil
  obtain ⟨t, htt⟩ : ∃ t, l[i].2.1 = t := ⟨_, rfl⟩
  rw [htt] at d1 hfl htx
  obtain ⟨T, hT⟩ : ∃ T : ByteArray, ⟨t.toArray⟩ = T := ⟨_, rfl⟩
  have hTt : t = T.data.toList := by rw [← hT]
  rw [hT] at d1
  rw [hTt] at hfl htx
  have HNU := Lib.hid (fun w => rnumber_any T hfl.1 (by rw [size_list]; exact hfl.2) w)
  obtain ⟨OP, hOP⟩ : ∃ OP : ByteArray, ⟨(numOp T.data.toList).toArray⟩ = OP := ⟨_, rfl⟩
  obtain ⟨TX, hTX⟩ : ∃ TX : ByteArray, ⟨(numTx T.data.toList).toArray⟩ = TX := ⟨_, rfl⟩
  obtain ⟨ok, hok⟩ : ∃ ok, numOk T.data.toList = ok := ⟨_, rfl⟩
  rw [hOP, hTX, hok] at HNU
  have hP : P (bare l) (f + 1) .sign i false = if ok = true then (.leaf OP.data.toList TX.data.toList, i + 1, false) else (zeroT, i, true) := by
    rw [P, if_neg (by rw [hq1]; decide), if_neg (by rw [hq2]; decide), hq, if_pos hq0, if_pos k1, htx, ← hok, ← hOP, ← hTX]
    unfold numOk numOp numTx
    cases numL T.data.toList <;> rfl
  obtain ⟨res, hres⟩ : ∃ res, (if ok = true then (Tr.leaf OP.data.toList TX.data.toList, i + 1, false) else (zeroT, i, true)) = res := ⟨_, rfl⟩
  rw [hP, hres]
  have HRS := Lib.hid hres
  clear hres
  have HR := Lib.hid h
  have hrl := h.lt
  have HT1 := Lib.hid (fun w1 hr => rtake_any r A cap l i false ⟨#[45]⟩ false hq1 w1 hr hi hl)
  have HT2 := Lib.hid (fun w1 hr => rtake_any r A cap l i false ⟨#[40]⟩ false hq2 w1 hr hi hl)
  have HT3 := Lib.hid (fun (w1 : World) (t : TypeId) (hr : Rdr w1 r A cap l i false) => (show Calls Try.prog 70 #[.pointer (some ⟨r, 0, none⟩), .slice (some ⟨w1.heap.size, 0, none⟩) 3 3] (w1.alloc (.cells #[.string ⟨#[116, 114, 117, 101]⟩, .string ⟨#[102, 97, 108, 115, 101]⟩, .string ⟨#[110, 117, 108, 108]⟩] t)) _ from
    rone_any r A cap l i false (some ⟨w1.heap.size, 0, none⟩) 3 [sTrue, sFalse, sNull] (w1.alloc (.cells #[.string ⟨#[116, 114, 117, 101]⟩, .string ⟨#[102, 97, 108, 115, 101]⟩, .string ⟨#[110, 117, 108, 108]⟩] t)) (hr.alloc _) hi hl
      (by rw [show ∀ o, (w1.alloc o).heap.size = w1.heap.size + 1 from fun o => by simp]; exact texts_new w1 [sTrue, sFalse, sNull] t _ rfl) (fun ad e => by cases e; have := hr.lt; show w1.heap.size ≠ r; omega) (by decide) (by decide) q hq))
  have HK1 := Lib.hid (fun w1 hr => rkind_any r A cap l i false 1 w1 hr hi hl)
  rw [k1] at HK1
  subst hq
  rw [if_pos hq0] at HT3
  rw [hq0] at HT3
  have HD := Lib.hid (fun (w' : World) (hb : But w w' r) => show w'.cell? ⟨(ad.add (i * 3)).block, (ad.add (i * 3)).off + 1, none⟩ = some (.string T) from (hb.cell (q := ⟨(ad.add (i * 3)).block, (ad.add (i * 3)).off + 1, none⟩) (by show (ad.add (i * 3)).block < _; rw [add_block]; omega) (by show (ad.add (i * 3)).block ≠ _; rw [add_block]; omega)).trans d1)
  have hda : (ad.add (i * 3)).block < r := by rw [add_block]; exact ha
  subst hA
  clear h hP hq1 hq2 k1 hk1 hfl htx htt hT hTt hOP hTX hok d0 d1 d2 hq0
  go_enter Try.func67, Try.ntmps67
  have N0 := Lib.hid (NBox.fresh w (.string ⟨#[]⟩) (.string ⟨#[]⟩) (.slice none 0 0) 24)
  have B0 := Lib.hid ((But.refl w r).alloc (.cells #[.string ⟨#[]⟩, .string ⟨#[]⟩, .slice none 0 0] 24))
  go_wp2_with fail
  refine (HT1.out _ (HR.out.alloc _)).mono ?_
  rintro e w1 ⟨rfl, hb1, hr1⟩
  have N1 := Lib.hid (N0.out.but (by omega) hb1)
  have B1 := Lib.hid (B0.out.trans hb1)
  have R1 := Lib.hid hr1
  clear hb1 hr1
  go_wp2_with fail
  refine (HT2.out _ R1.out).mono ?_
  rintro e w2 ⟨rfl, hb2, hr2⟩
  have N2 := Lib.hid (N1.out.but (by omega) hb2)
  have B2 := Lib.hid (B1.out.trans hb2)
  have R2 := Lib.hid hr2
  clear hb2 hr2
  go_wp2_with fail
  refine (HT3.out w2 _ R2.out).mono ?_
  rintro e w3 ⟨rfl, hb3, hr3⟩
  have N3 := Lib.hid ((N2.out.alloc _).but (by omega) hb3)
  have B3 := Lib.hid ((B2.out.alloc _).trans hb3)
  have R3 := Lib.hid hr3
  have hlt3 : w.heap.size < w3.heap.size := N3.out.lt
  clear hb3 hr3
  go_wp2_with fail
  refine (HK1.out _ R3.out).mono ?_
  rintro e w4 ⟨rfl, hb4⟩
  have N4 := Lib.hid (N3.out.below hb4)
  have B4 := Lib.hid (B3.out.next hb4)
  have R4 := Lib.hid (R3.out.below hb4)
  clear hb4
  have hlt4 := R4.out.lt
  have hg4 : w.heap.size < w4.heap.size := N4.out.lt
  have c0 := R4.out.c0
  have c1 := R4.out.c1
  have d1 := HD.out _ B4.out
  have zd : (ad.add (i * 3)).block < w4.heap.size := by omega
  have e1 : (i : Int) < (l.length : Int) := by omega
  have FQ := Lib.hid (fun (w' : World) (hb : Below w4.heap.size w4 w') => show w'.cell? ⟨r, 0, none⟩ = some (.slice (some ad) l.length cap) ∧ w'.cell? ⟨r, 1, none⟩ = some (.int .i64 (i : Int)) ∧ w'.cell? ⟨(ad.add (i * 3)).block, (ad.add (i * 3)).off + 1, none⟩ = some (.string T) from
    ⟨(hb.cell (p := ⟨r, 0, none⟩) hlt4).trans c0, (hb.cell (p := ⟨r, 1, none⟩) hlt4).trans c1, (hb.cell (p := ⟨(ad.add (i * 3)).block, (ad.add (i * 3)).off + 1, none⟩) zd).trans d1⟩)
  go_upto_region 14 with fail
  go_cut [8, 9] (fun s8 s9 wx => ∃ g : Nat, s8 = .pointer (some ⟨g, 0, none⟩) ∧ s9 = .bool ok ∧ w4.heap.size ≤ g ∧ NBox wx g (.string OP) (.string TX) (.slice none 0 0) ∧ Below w4.heap.size w4 wx)
  case first =>
    go_region_held3 (fun w' => (w'.cell? ⟨r, 0, none⟩ = some (.slice (some ad) l.length cap) ∧ w'.cell? ⟨r, 1, none⟩ = some (.int .i64 (i : Int)) ∧ w'.cell? ⟨(ad.add (i * 3)).block, (ad.add (i * 3)).off + 1, none⟩ = some (.string T)) ∧ Below w4.heap.size w4 w')
      (first | assumption | (refine keepK hb (by assumption) ?_; intro k; exact ⟨(k _ _ hlt4).trans c0, (k _ _ hlt4).trans c1, (k _ _ zd).trans d1⟩) | (refine keepA _ (by assumption) ?_; intro k; exact ⟨(k _ _ hlt4).trans c0, (k _ _ hlt4).trans c1, (k _ _ zd).trans d1⟩) | (refine keepD (by assumption) ?_; intro k; exact ⟨(k _ _ hlt4).trans c0, (k _ _ hlt4).trans c1, (k _ _ zd).trans d1⟩) | (exact ⟨⟨c0, c1, d1⟩, Below.drew (Below.refl _ _)⟩) | (refine (fun hS9 : Below w4.heap.size w4 _ => ⟨FQ.out _ hS9, hS9⟩) (swapO (show _ ∧ Below w4.heap.size w4 _ by assumption).2 (by omega))) | (refine (fun hS9 : Below w4.heap.size w4 _ => ⟨FQ.out _ hS9, hS9⟩) ((((show _ ∧ Below w4.heap.size w4 _ by assumption).2.setCell (by first | (simp; done) | (simp; omega) | omega) _).setCell (by first | (simp; done) | (simp; omega) | omega) _).setCell (by first | (simp; done) | (simp; omega) | omega) _)) | (trace_state; fail))
      (first | (go_at_call 85; refine (HNU.out _).mono ?_; rintro e w5 ⟨rfl, hb⟩; have hs5 : w4.heap.size ≤ w5.heap.size := Nat.le_trans (show _ ∧ Below w4.heap.size w4 _ by assumption).2.size hb.size; have hk := (bcell hb).1; have hf := (bcell hb).2; have hs6 := hb.size; (try simp at hs6); (try have hq0 : w4.heap.size < w5.heap.size := by omega)))
    all_goals go_wp2_with fail
    all_goals go_meet
    all_goals (refine ⟨_, rfl, rfl, ?_, ?_, (show _ ∧ Below w4.heap.size w4 _ by assumption).2⟩)
    all_goals (first | omega | exact NBox.fresh _ _ _ _ _ | (refine (NBox.below (a := .string ⟨#[]⟩) (b := .string ⟨#[]⟩) (c := .slice none 0 0) ?_ hb).set _ _ _; exact ⟨by simp [go_sem], by simp [go_sem], by simp [go_sem], fun j => by simp [go_sem]⟩))
  case rest =>
    obtain ⟨g, rfl, rfl, hge, G, hB⟩ := hcut
    have N5 := Lib.hid (N4.out.below hB)
    have B5 := Lib.hid (B4.out.next hB)
    have R5 := Lib.hid (R4.out.below hB)
    have V5 := Lib.hid G
    have hgr : g ≠ r := by omega
    have hrg : r ≠ g := by omega
    obtain ⟨x0, x1, x2, xf⟩ := N5.out
    obtain ⟨v0, v1, v2, vf⟩ := V5.out
    have r1 := R5.out.c1
    have r2 := R5.out.c2
    have f1 := R5.out.fr 1
    have f2 := R5.out.fr 2
    have hgw : w.heap.size ≠ r := by omega
    have hrw : r ≠ w.heap.size := by omega
    clear hB G FQ c0 c1 d1
    cases ok
    · have HE := Lib.hid (show (zeroT, i, true) = res from HRS.out)
      go_wp2
      have N6 := NBox.but N5.out (r := r) (by omega) ((But.refl wc r).setCell 2 (.bool true))
      have Y := N6.set (.string ⟨#[]⟩) (.string ⟨#[]⟩) (.slice none 0 0)
      rw [← HE.out]
      exact bodyPost_ret (v := .agg #[.string ⟨#[]⟩, .string ⟨#[]⟩, .slice none 0 0]) (by simp [results, Try.results67, go_sem, Y.c0, Y.c1, Y.c2]) rfl
        (ret_same (S2 := NoB) (NIn.leaf _ NoB ⟨#[]⟩ ⟨#[]⟩) (fun g hg => hg.elim) (B5.out.setCell 2 _) R5.out.wrong hrl)
    · have HE := Lib.hid (show (Tr.leaf OP.data.toList TX.data.toList, i + 1, false) = res from HRS.out)
      go_wp2
      have N6 := NBox.but N5.out (r := r) (by omega) ((But.refl wc r).setCell 1 (.int .i64 ((i : Int) + 1)))
      have Y := N6.set (.string OP) (.string TX) (.slice none 0 0)
      have R6 := R5.out.at (i + 1)
      rw [Int.natCast_add] at R6
      rw [← HE.out]
      exact bodyPost_ret (v := .agg #[.string OP, .string TX, .slice none 0 0]) (by simp [results, Try.results67, go_sem, Y.c0, Y.c1, Y.c2]) rfl
        (ret_same (S2 := NoB) (NIn.leaf _ NoB OP TX) (fun g hg => hg.elim) (B5.out.setCell 1 _) R6 hrl)
end Go.Proofs.Ytkibacolnagkcaa.Code
/-
  The document's reader of expressions: a sign: texts.
-/
namespace Go.Proofs.Ytkibacolnagkcaa.Code
open Go.ChangeShapes Go.WideShapes Go.ChangeAt Go.RowKit Val Elems
set_option linter.unusedVariables false
set_option linter.unusedSimpArgs false
theorem Reads.drew {r : Nat} {A : Option Addr} {cap : Nat} {l : List W} {w : World} {S : Nat → Prop} {res : Tr × Nat × Bool} {e : Ending} {w' : World} (h : Reads r A cap l w S res e w') : Reads r A cap l w S res e w'.drew := by
  obtain ⟨op, tx, X, n, m, he, hn, hb, hr⟩ := h
  exact ⟨op, tx, X, n, m, he, NIn.keep (w := w') (w' := w'.drew) (S' := fun g => S g ∨ New w w'.drew g) (fun _ h => h) (fun _ _ _ => rfl) _ _ _ _ hn, ⟨hb.os, hb.tape, hb.output, hb.size, hb.block⟩, ⟨hr.c0, hr.c1, hr.c2, hr.fr, hr.ws⟩⟩
set_option maxHeartbeats 8000000 in
set_option maxRecDepth 100000 in
theorem sign_text {r : Nat} {A : Option Addr} {cap : Nat} {l : List W} {f : Nat} (i : Nat) (b : Bool) (w : World) (hi : i ≤ l.length) (hl : l.length ≤ 4194304) (h : Rdr w r A cap l i b) (hq1 : isW (bare l) i b [45] = false) (hq2 : isW (bare l) i b [40] = false) (q : List UInt8) (hq : oneL (bare l) i b [sTrue, sFalse, sNull] = q) (hq0 : q = []) (k1 : isK (bare l) i b 1 = false) (k2 : isK (bare l) i b 2 = true) :
    Calls Try.prog 67 #[.pointer (some ⟨r, 0, none⟩)] w (Reads r A cap l w NoB (P (bare l) (f + 1) .sign i b)) := by
  have hil := isK_len k2
  obtain rfl : b = false := (isK_lt k2).2
  have HWS := Lib.hid h.ws
  obtain ⟨ad, hA, ha, d0, d1, d2⟩ := at_word HWS.out i hil
  have htx := txt_at hil
  obtain ⟨t, htt⟩ : ∃ t, l[i].2.1 = t := ⟨_, rfl⟩
  rw [htt] at d1 htx
  obtain ⟨T, hT⟩ : ∃ T : ByteArray, ⟨t.toArray⟩ = T := ⟨_, rfl⟩
  have hTt : t = T.data.toList := by rw [← hT]
  rw [hT] at d1
  rw [hTt] at htx
  have hP : P (bare l) (f + 1) .sign i false = (.leaf sText T.data.toList, i + 1, false) := by
    rw [P, if_neg (by rw [hq1]; decide), if_neg (by rw [hq2]; decide), hq, if_pos hq0, if_neg (by rw [k1]; decide), if_pos k2, htx]
  rw [hP]
  have HR := Lib.hid h
  have hrl := h.lt
  have HT1 := Lib.hid (fun w1 hr => rtake_any r A cap l i false ⟨#[45]⟩ false hq1 w1 hr hi hl)
  have HT2 := Lib.hid (fun w1 hr => rtake_any r A cap l i false ⟨#[40]⟩ false hq2 w1 hr hi hl)
  have HT3 := Lib.hid (fun (w1 : World) (t : TypeId) (hr : Rdr w1 r A cap l i false) => (show Calls Try.prog 70 #[.pointer (some ⟨r, 0, none⟩), .slice (some ⟨w1.heap.size, 0, none⟩) 3 3] (w1.alloc (.cells #[.string ⟨#[116, 114, 117, 101]⟩, .string ⟨#[102, 97, 108, 115, 101]⟩, .string ⟨#[110, 117, 108, 108]⟩] t)) _ from
    rone_any r A cap l i false (some ⟨w1.heap.size, 0, none⟩) 3 [sTrue, sFalse, sNull] (w1.alloc (.cells #[.string ⟨#[116, 114, 117, 101]⟩, .string ⟨#[102, 97, 108, 115, 101]⟩, .string ⟨#[110, 117, 108, 108]⟩] t)) (hr.alloc _) hi hl
      (by rw [show ∀ o, (w1.alloc o).heap.size = w1.heap.size + 1 from fun o => by simp]; exact texts_new w1 [sTrue, sFalse, sNull] t _ rfl) (fun ad e => by cases e; have := hr.lt; show w1.heap.size ≠ r; omega) (by decide) (by decide) q hq))
  have HK1 := Lib.hid (fun w1 hr => rkind_any r A cap l i false 1 w1 hr hi hl)
  rw [k1] at HK1
  have HK2 := Lib.hid (fun w1 hr => rkind_any r A cap l i false 2 w1 hr hi hl)
  rw [k2] at HK2
  subst hq
  rw [if_pos hq0] at HT3
  rw [hq0] at HT3
  have HD := Lib.hid (fun (w' : World) (hb : But w w' r) => show w'.cell? ⟨(ad.add (i * 3)).block, (ad.add (i * 3)).off + 1, none⟩ = some (.string T) from (hb.cell (q := ⟨(ad.add (i * 3)).block, (ad.add (i * 3)).off + 1, none⟩) (by show (ad.add (i * 3)).block < _; rw [add_block]; omega) (by show (ad.add (i * 3)).block ≠ _; rw [add_block]; omega)).trans d1)
  have hda : (ad.add (i * 3)).block < r := by rw [add_block]; exact ha
  subst hA
  clear h hP hq1 hq2 k1 k2 htx htt hT hTt d0 d1 d2 hq0
  go_enter Try.func67, Try.ntmps67
  have N0 := Lib.hid (NBox.fresh w (.string ⟨#[]⟩) (.string ⟨#[]⟩) (.slice none 0 0) 24)
  have B0 := Lib.hid ((But.refl w r).alloc (.cells #[.string ⟨#[]⟩, .string ⟨#[]⟩, .slice none 0 0] 24))
  go_wp2_with fail
  refine (HT1.out _ (HR.out.alloc _)).mono ?_
  rintro e w1 ⟨rfl, hb1, hr1⟩
  have N1 := Lib.hid (N0.out.but (by omega) hb1)
  have B1 := Lib.hid (B0.out.trans hb1)
  have R1 := Lib.hid hr1
  clear hb1 hr1
  go_wp2_with fail
  refine (HT2.out _ R1.out).mono ?_
  rintro e w2 ⟨rfl, hb2, hr2⟩
  have N2 := Lib.hid (N1.out.but (by omega) hb2)
  have B2 := Lib.hid (B1.out.trans hb2)
  have R2 := Lib.hid hr2
  clear hb2 hr2
  go_wp2_with fail
  refine (HT3.out w2 _ R2.out).mono ?_
  rintro e w3 ⟨rfl, hb3, hr3⟩
  have N3 := Lib.hid ((N2.out.alloc _).but (by omega) hb3)
  have B3 := Lib.hid ((B2.out.alloc _).trans hb3)
  have R3 := Lib.hid hr3
  have hlt3 : w.heap.size < w3.heap.size := N3.out.lt
  clear hb3 hr3
  go_wp2_with fail
  refine (HK1.out _ R3.out).mono ?_
  rintro e w4 ⟨rfl, hb4⟩
  have N4 := Lib.hid (N3.out.below hb4)
  have B4 := Lib.hid (B3.out.next hb4)
  have R4 := Lib.hid (R3.out.below hb4)
  clear hb4
  go_wp2_with fail
  refine (HK2.out _ R4.out).mono ?_
  rintro e w5 ⟨rfl, hb5⟩
  have N5 := Lib.hid (N4.out.below hb5)
  have B5 := Lib.hid (B4.out.next hb5)
  have R5 := Lib.hid (R4.out.below hb5)
  clear hb5
  have c1 := R5.out.c1
  have f1 := R5.out.fr 1
  go_upto_region 22 with fail
  have R6 := Lib.hid (R5.out.at (i + 1))
  have N6 := Lib.hid (N5.out.but (r := r) (by omega) ((But.refl w5 r).setCell 1 (.int .i64 ((i + 1 : Nat) : Int))))
  have B6 := Lib.hid (B5.out.setCell 1 (.int .i64 ((i + 1 : Nat) : Int)))
  rw [Int.natCast_add] at R6 N6 B6
  generalize hw6 : w5.setCell ⟨r, 1, none⟩ (.int .i64 ((i : Int) + ((1 : Nat) : Int))) = w6 at R6 N6 B6
  clear hw6 c1 f1
  have c0 := R6.out.c0
  have c1 : w6.cell? ⟨r, 1, none⟩ = some (.int .i64 ((i : Int) + 1)) := by have := R6.out.c1; rwa [Int.natCast_add] at this
  have d1 := HD.out _ B6.out
  obtain ⟨x0, x1, x2, xf⟩ := N6.out
  have zd : (ad.add (i * 3)).block < w.heap.size := by omega
  have zr : r < w.heap.size := hrl
  have e1 : (i : Int) < (l.length : Int) := by omega
  have e0 : (0 : Int) ≤ (i : Int) := by omega
  have f4 : IntKind.i64.wrap ((i : Int) + 1 - 1) = (i : Int) := by rw [IntKind.wrap_i64]; omega
  have f6 : IntKind.i64.wrap (i : Int) = (i : Int) := by rw [IntKind.wrap_i64]; omega
  have f5 : (i : Int) + 1 - 1 = (i : Int) := by omega
  have FQ := Lib.hid (fun (w' : World) (hb : Below w.heap.size w6 w') => show w'.cell? ⟨r, 0, none⟩ = some (.slice (some ad) l.length cap) ∧ w'.cell? ⟨r, 1, none⟩ = some (.int .i64 ((i : Int) + 1)) ∧ w'.cell? ⟨(ad.add (i * 3)).block, (ad.add (i * 3)).off + 1, none⟩ = some (.string T) from
    ⟨(hb.cell (p := ⟨r, 0, none⟩) zr).trans c0, (hb.cell (p := ⟨r, 1, none⟩) zr).trans c1, (hb.cell (p := ⟨(ad.add (i * 3)).block, (ad.add (i * 3)).off + 1, none⟩) zd).trans d1⟩)
  have HB := Lib.hid (Below.refl w.heap.size w6)
  have k0 := FQ.out _ HB.out
  go_region_held3 (fun w' => (w'.cell? ⟨r, 0, none⟩ = some (.slice (some ad) l.length cap) ∧ w'.cell? ⟨r, 1, none⟩ = some (.int .i64 ((i : Int) + 1)) ∧ w'.cell? ⟨(ad.add (i * 3)).block, (ad.add (i * 3)).off + 1, none⟩ = some (.string T)) ∧ Below w.heap.size w6 w')
    (first | assumption | (exact ⟨FQ.out _ HB.out.drew, HB.out.drew⟩) | (exact ⟨FQ.out _ HB.out, HB.out⟩) | (refine (fun hS9 : Below w.heap.size w6 _ => ⟨FQ.out _ hS9, hS9⟩) (((HB.out.setCell (Nat.le_refl _) _).setCell (Nat.le_refl _) _).setCell (Nat.le_refl _) _).drew))
    (fail)
  go_wp2
  have Y := N6.out.set (.string ⟨#[116, 101, 120, 116]⟩) (.string T) (.slice none 0 0)
  exact bodyPost_ret (v := .agg #[.string ⟨#[116, 101, 120, 116]⟩, .string T, .slice none 0 0]) (by simp [results, Try.results67, go_sem, Y.c0, Y.c1, Y.c2]) rfl
    (ret_same (S2 := NoB) (NIn.leaf w6 NoB ⟨#[116, 101, 120, 116]⟩ T) (fun g hg => hg.elim) B6.out R6.out hrl).drew
end Go.Proofs.Ytkibacolnagkcaa.Code
/-
  The document's reader of expressions does as it should, with any number of steps.
-/
namespace Go.Proofs.Ytkibacolnagkcaa.Code
open Go.ChangeShapes Go.WideShapes Go.ChangeAt Go.RowKit Val Elems
set_option linter.unusedVariables false
/-- the numbers among the words are figures, and not too many -/
def FigW (l : List W) : Prop := ∀ w ∈ l, w.1 = 1 → FigS w.2.1 ∧ w.2.1.length ≤ 4194304
section
variable {r : Nat} {A : Option Addr} {cap : Nat} {l : List W} {f : Nat}
theorem sign_does (D : Does r A cap l f) (i : Nat) (b : Bool) (w : World) (hi : i ≤ l.length) (hl : l.length ≤ 4194304) (hfg : FigW l) (hm : mu (bare l) .sign i < f + 1) (h : Rdr w r A cap l i b) :
    Calls Try.prog 67 #[.pointer (some ⟨r, 0, none⟩)] w (Reads r A cap l w NoB (P (bare l) (f + 1) .sign i b)) := by
  cases q1 : isW (bare l) i b [45] with
  | true => exact sign_neg D i b w hi hl hm h q1
  | false =>
    cases q2 : isW (bare l) i b [40] with
    | true => exact sign_open D i b w hi hl hm h q1 q2
    | false =>
      by_cases q0 : oneL (bare l) i b [sTrue, sFalse, sNull] = []
      · cases k1 : isK (bare l) i b 1 with
        | true => exact sign_num i b w hi hl hfg h q1 q2 _ rfl q0 k1
        | false =>
          cases k2 : isK (bare l) i b 2 with
          | true => exact sign_text i b w hi hl h q1 q2 _ rfl q0 k1 k2
          | false => exact sign_name i b w hi hl h q1 q2 _ rfl q0 k1 k2
      · exact sign_word i b w hi hl h q1 q2 _ rfl q0
theorem does (hl : l.length ≤ 4194304) (hfg : FigW l) : ∀ f, Does r A cap l f
  | 0 => ⟨fun _ _ _ _ _ _ _ h => absurd h (Nat.not_lt_zero _), fun _ _ _ _ h => absurd h (Nat.not_lt_zero _), fun _ _ _ _ _ _ _ _ _ _ _ _ _ h => absurd h (Nat.not_lt_zero _)⟩
  | f + 1 => by
    have D := does hl hfg f
    refine ⟨fun lv i b w h1 h7 hi hm h => ?_, fun i b w hi hm h => sign_does D i b w hi hl hfg hm h, fun S t op tx X n m i b w hS hn hi hm h => test_does D S t op tx X n m i b w hS hn hi hl hm h⟩
    have hc : (lv = 1 ∨ lv = 2 ∨ lv = 5 ∨ lv = 6) ∨ lv = 3 ∨ lv = 4 ∨ lv = 7 := by omega
    rcases hc with hc | rfl | rfl | rfl
    · exact expr_loop D lv hc i b w hi hl hm h
    · exact expr_not D i b w hi hl hm h
    · exact expr_test D i b w hi hm h
    · exact expr_sign D i b w hi hm h
/-- what is read from a place on -/
def fromP (L : List V) (i : Nat) : Tr × Nat × Bool := P L (stepsN L) (.expr 1) i false
theorem from_top (L : List V) : fromP L 0 = topP L := rfl
/-- an expression, from a place on -/
theorem expr_any (hl : l.length ≤ 4194304) (hfg : FigW l) (i : Nat) (w : World) (hi : i ≤ l.length) (h : Rdr w r A cap l i false) :
    Calls Try.prog 42 #[.pointer (some ⟨r, 0, none⟩), .int .i64 1] w (Reads r A cap l w NoB (fromP (bare l) i)) := by
  have hd := (does (r := r) (A := A) (cap := cap) hl hfg (stepsN (bare l))).expr 1 i false w (by omega) (by omega) hi (by
    have e : mu (bare l) (.expr 1) i = 16 * ((bare l).length - i) + 15 := rfl
    unfold stepsN
    omega) h
  exact hd
end
end Go.Proofs.Ytkibacolnagkcaa.Code
/-
  How deep what is read is nested; the numbers among a text's words; how many words a text has. No program is named here.
-/
namespace Go.Proofs.Ytkibacolnagkcaa.Code
open Val
set_option linter.unusedVariables false
def m0 : Mode → Nat
  | .loop _ a => a.deep
  | .test a => a.deep
  | _ => 1
theorem deep_pos (t : Tr) : 1 ≤ t.deep := by cases t <;> simp [Tr.deep]
theorem m0_pos (m : Mode) : 1 ≤ m0 m := by cases m <;> first | exact Nat.le_refl _ | exact deep_pos _
theorem deep_one (o : List UInt8) (a : Tr) : (Tr.one o a).deep = a.deep + 1 := rfl
theorem deep_two (o : List UInt8) (a b : Tr) : (Tr.two o a b).deep = max a.deep b.deep + 1 := rfl
theorem deep_leaf (o x : List UInt8) : (Tr.leaf o x).deep = 1 := rfl
/-- no node is nested deeper than it has words -/
theorem P_deep (L : List V) : ∀ (f : Nat) (m : Mode) (i : Nat) (b : Bool), i ≤ L.length → (P L f m i b).1.deep + i ≤ m0 m + (P L f m i b).2.1
  | 0, m, i, b, _ => by
    have := m0_pos m
    show 1 + i ≤ m0 m + i
    omega
  | f + 1, .expr l, i, b, h => by
    rw [P]
    split
    · exact P_deep L f .sign i b h
    split
    · split
      · rename_i hs
        have h1 := isW_lt hs
        have ih := P_deep L f (.expr 3) (i + 1) b (by omega)
        simp only [m0, deep_one] at ih ⊢
        omega
      · exact P_deep L f (.expr 4) i b h
    split
    · have ih := P_deep L f (.expr 5) i b h
      have he := P_ends L f (.expr 5) i b h
      have ih2 := P_deep L f (.test (P L f (.expr 5) i b).1) (P L f (.expr 5) i b).2.1 (P L f (.expr 5) i b).2.2 he.2.1
      simp only [m0] at ih ih2 ⊢
      omega
    · have ih := P_deep L f (.expr (l + 1)) i b h
      have he := P_ends L f (.expr (l + 1)) i b h
      have ih2 := P_deep L f (.loop l (P L f (.expr (l + 1)) i b).1) (P L f (.expr (l + 1)) i b).2.1 (P L f (.expr (l + 1)) i b).2.2 he.2.1
      simp only [m0] at ih ih2 ⊢
      omega
  | f + 1, .loop l a, i, b, h => by
    rw [P]
    split
    · simp only [m0]; omega
    · rename_i ho
      obtain ⟨h1, h2⟩ := oneL_lt ho
      have ih := P_deep L f (.expr (l + 1)) (i + 1) b (by omega)
      have he := P_ends L f (.expr (l + 1)) (i + 1) b (by omega)
      have ih2 := P_deep L f (.loop l (.two (oneL L i b (opsL l)) a (P L f (.expr (l + 1)) (i + 1) b).1)) (P L f (.expr (l + 1)) (i + 1) b).2.1 (P L f (.expr (l + 1)) (i + 1) b).2.2 he.2.1
      have hp := deep_pos a
      simp only [m0, deep_two] at ih ih2 ⊢
      omega
  | f + 1, .test a, i, b, h => by
    have hp := deep_pos a
    rw [P]
    split
    · split
      · rename_i hs
        have h1 := isW_lt hs
        split
        · simp only [m0, deep_one]; omega
        · simp only [m0, deep_one]; omega
      · simp only [m0]; omega
    · rename_i ho
      obtain ⟨h1, h2⟩ := oneL_lt ho
      have ih := P_deep L f (.expr 5) (i + 1) b (by omega)
      have he := P_ends L f (.expr 5) (i + 1) b (by omega)
      simp only [m0, deep_two] at ih ⊢
      omega
  | f + 1, .sign, i, b, h => by
    rw [P]
    split
    · rename_i hs
      have h1 := isW_lt hs
      have ih := P_deep L f .sign (i + 1) b (by omega)
      simp only [m0, deep_one] at ih ⊢
      omega
    split
    · rename_i hs
      have h1 := isW_lt hs
      have ih := P_deep L f (.expr 1) (i + 1) b (by omega)
      split
      · simp only [m0] at ih ⊢; omega
      · simp only [m0] at ih ⊢; omega
    split
    · split
      · split
        · simp only [m0, deep_leaf]; omega
        · show 1 + i ≤ 1 + i; omega
      split
      · simp only [m0, deep_leaf]; omega
      split
      · simp only [m0, deep_leaf]; omega
      · simp only [m0, deep_leaf]; omega
    · simp only [m0, deep_leaf]; omega
theorem top_deep (L : List V) : (topP L).1.deep ≤ 1 + L.length := by
  have h := P_deep L (stepsN L) (.expr 1) 0 false (Nat.zero_le _)
  have he := P_ends L (stepsN L) (.expr 1) 0 false (Nat.zero_le _)
  simp only [m0] at h
  unfold topP
  omega
theorem run_fig {p : UInt8 → Bool} : ∀ (s : List UInt8), ∀ c ∈ s.take (runL p s), p c = true
  | [], c, h => by simp at h
  | d :: s, c, h => by
    by_cases hd : p d = true
    · rw [runL, if_pos hd, List.take_succ_cons] at h
      rcases List.mem_cons.1 h with rfl | h
      · exact hd
      · exact run_fig s c h
    · rw [runL, if_neg hd] at h
      simp at h
theorem came_fig {l : List W} (h : CameB l) : ∀ w ∈ l, w.1 = 1 → (∀ c ∈ w.2.1, figB c = true) ∧ w.2.1.length ≤ 19 := by
  intro w hw hk
  have hf := h w hw
  rw [hk, show showW 1 w.2.1 = w.2.1 from rfl] at hf
  rcases first_cases hf with ⟨c, r, _, _, e, _⟩ | ⟨c, r, e1, e2, e3, _, ht, hn, hn2⟩ | ⟨r, _, e, _⟩ | ⟨c, d, r, _, _, _, _, _, e, _⟩ | ⟨c, r, _, _, _, _, _, _, e, _⟩
  · exact absurd e (by decide)
  · refine ⟨fun c hc => ?_, hn2⟩
    rw [ht] at hc
    exact run_fig _ c hc
  · exact absurd e (by decide)
  · exact absurd e (by decide)
  · exact absurd e (by decide)
theorem words_len (s : List UInt8) : ∀ (i : Int) (l : List W), wordsL s i = .ok l → l.length ≤ s.length := by
  refine words_way (Q := fun s => ∀ (i : Int) (l : List W), wordsL s i = .ok l → l.length ≤ s.length) ?_ ?_ ?_ ?_ s
  · intro i l h; cases h; exact Nat.le_refl _
  · intro c s hb ih i l h
    rw [wordsL_blank hb] at h
    have := ih _ l h
    simp only [List.length_cons]
    omega
  · intro c s hb hf i l h
    rw [wordsL_none hb hf] at h
    cases h
  · intro c s k t n hf ih i l h
    have hn := first_n hf
    rw [wordsL_one hf] at h
    cases hw : wordsL ((c :: s).drop n) (i + n) with
    | error j' => rw [hw] at h; cases h
    | ok l' =>
      rw [hw] at h
      cases h
      have := ih _ l' hw
      rw [List.length_drop] at this
      simp only [List.length_cons] at this hn ⊢
      omega
end Go.Proofs.Ytkibacolnagkcaa.Code
