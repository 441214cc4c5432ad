/-
  The document's reader of expressions: a sign: brackets, truths, names.
-/
import Derived.Test.YtpohpgahnompbaaGreatDoorM16
import Derived.Deep.DeepCutAuto
namespace Go.Proofs.YtpohpgahnompbaaGreatDoor.Code
open Go.ChangeShapes Go.WideShapes Go.ChangeAt Go.RowKit Val Elems
set_option linter.unusedVariables false
set_option linter.unusedSimpArgs false
set_option maxHeartbeats 8000000 in
set_option maxRecDepth 100000 in
theorem sign_open {r : Nat} {A : Option Addr} {cap : Nat} {l : List W} {f : Nat} (D : Does r A cap l f) (i : Nat) (b : Bool) (w : World) (hi : i ≤ l.length) (hl : l.length ≤ 4194304) (hm : mu (bare l) .sign i < f + 1) (h : Rdr w r A cap l i b) (hq1 : isW (bare l) i b [45] = false) (hq : isW (bare l) i b [40] = true) :
    Calls Tryz.prog 41 #[.pointer (some ⟨r, 0, none⟩)] w (Reads r A cap l w NoB (P (bare l) (f + 1) .sign i b)) := by
  have hil := isW_len hq
  obtain ⟨x, j, b', hx⟩ : ∃ x j b', P (bare l) f (.expr 1) (i + 1) b = (x, j, b') := ⟨_, _, _, rfl⟩
  obtain ⟨q3, hq3⟩ : ∃ q3, isW (bare l) j b' [41] = q3 := ⟨_, rfl⟩
  have hP : P (bare l) (f + 1) .sign i b = (x, (if q3 = true then j + 1 else j), (if q3 = true then b' else true)) := by
    rw [P, if_neg (by rw [hq1]; decide), if_pos hq, hx]
    dsimp only
    rw [hq3]
    cases q3 <;> rfl
  have hmu := mu_next (L := bare l) (by rw [bare_length]; exact hil) (.expr 1) .sign ⟨by omega, by omega⟩ (Nat.le_refl 1)
  have hj := (P_ends (bare l) f (.expr 1) (i + 1) b (by rw [bare_length]; exact hil)).2.1
  rw [hx, bare_length] at hj
  rw [hP]
  have HI := Lib.hid (fun w1 hr => D.expr 1 (i + 1) b w1 (by omega) (by omega) (by omega) (by omega) hr)
  rw [hx] at HI
  have HR := Lib.hid h
  have hrl := h.lt
  have HT1 := Lib.hid (fun w1 hr => rtake_any r A cap l i b ⟨#[45]⟩ false hq1 w1 hr hi hl)
  have HT2 := Lib.hid (fun w1 hr => rtake_any r A cap l i b ⟨#[40]⟩ true hq w1 hr hi hl)
  have HM3 := Lib.hid (fun w1 hr => rmust_any r A cap l j b' ⟨#[41]⟩ q3 hq3 w1 hr hj hl)
  obtain ⟨j2, hj2⟩ : ∃ j2, (if q3 = true then j + 1 else j) = j2 := ⟨_, rfl⟩
  obtain ⟨b2, hb2⟩ : ∃ b2, (if q3 = true then b' else true) = b2 := ⟨_, rfl⟩
  rw [hj2, hb2] at HM3
  rw [hj2, hb2]
  clear hj2 hb2
  clear h hP hmu hx hq hq1 hq3 hm D
  go_enter Tryz.func41, Tryz.ntmps41
  have N0 := Lib.hid (NBox.fresh w (.string ⟨#[]⟩) (.string ⟨#[]⟩) (.slice none 0 0) 25)
  have B0 := Lib.hid ((But.refl w r).alloc (.cells #[.string ⟨#[]⟩, .string ⟨#[]⟩, .slice none 0 0] 25))
  go_wp2_with fail
  refine (HT1.out _ (HR.out.alloc _)).mono ?_
  rintro e w1 ⟨rfl, hb1, hr1⟩
  have N1 := Lib.hid (N0.out.but (by omega) hb1)
  have B1 := Lib.hid (B0.out.trans hb1)
  have R1 := Lib.hid hr1
  clear hb1 hr1
  go_wp2_with fail
  refine (HT2.out _ R1.out).mono ?_
  rintro e w2 ⟨rfl, hb2, hr2⟩
  have N2 := Lib.hid (N1.out.but (by omega) hb2)
  have B2 := Lib.hid (B1.out.trans hb2)
  have R2 := Lib.hid hr2
  clear hb2 hr2
  have hlt1 : w.heap.size < w2.heap.size := N2.out.lt
  go_wp2_with fail
  refine (HI.out _ R2.out).mono ?_
  rintro e w3 ⟨op, tx, X, n, m, rfl, hn3, hb3, hr3⟩
  have N3 := Lib.hid (N2.out.but (by omega) hb3)
  have B3 := Lib.hid (B2.out.trans hb3)
  have R3 := Lib.hid hr3
  have I3 := Lib.hid (hn3.alloc (fun g hg => by rcases hg with hg | hg; exact hg.elim; exact hg.2) (.cells #[.string op, .string tx, .slice X n m] 25))
  have V3 := Lib.hid (NBox.fresh w3 (.string op) (.string tx) (.slice X n m) 25)
  have hlt3 : w2.heap.size ≤ w3.heap.size := hb3.size
  have hrl3 := R3.out.lt
  clear hb3 hr3 hn3
  go_wp2_with fail
  refine (HM3.out _ (R3.out.alloc _)).mono ?_
  rintro e w4 ⟨rfl, hb4, hr4⟩
  have N4 := Lib.hid ((N3.out.alloc _).but (by omega) hb4)
  have B4 := Lib.hid ((B3.out.alloc _).trans hb4)
  have R4 := Lib.hid hr4
  have V4 := Lib.hid (V3.out.but (by omega) hb4)
  have I4 := Lib.hid (I3.out.but (fun g hg => by rcases hg with hg | hg; exact hg.elim; exact ⟨by have := hg.2; simp; omega, by have := hg.1; omega⟩) hb4)
  have hlt4 : w3.heap.size < w4.heap.size := by have := hb4.size; simp at this; omega
  clear hb4 hr4
  obtain ⟨x0, x1, x2, xf⟩ := N4.out
  obtain ⟨v0, v1, v2, vf⟩ := V4.out
  go_wp2
  have Y := N4.out.set (.string op) (.string tx) (.slice X n m)
  exact bodyPost_ret (v := .agg #[.string op, .string tx, .slice X n m]) (by simp [results, Tryz.results41, go_sem, Y.c0, Y.c1, Y.c2]) rfl
    (ret_same I4.out (fun g hg => by rcases hg with hg | hg; exact hg.elim; exact ⟨by have := hg.2; omega, by have := hg.1; omega, .inr (by have := hg.1; omega)⟩) B4.out R4.out hrl)
set_option maxHeartbeats 8000000 in
set_option maxRecDepth 100000 in
theorem sign_word {r : Nat} {A : Option Addr} {cap : Nat} {l : List W} {f : Nat} (i : Nat) (b : Bool) (w : World) (hi : i ≤ l.length) (hl : l.length ≤ 4194304) (h : Rdr w r A cap l i b) (hq1 : isW (bare l) i b [45] = false) (hq2 : isW (bare l) i b [40] = false) (q : List UInt8) (hq : oneL (bare l) i b [sTrue, sFalse, sNull] = q) (hq0 : q ≠ []) :
    Calls Tryz.prog 41 #[.pointer (some ⟨r, 0, none⟩)] w (Reads r A cap l w NoB (P (bare l) (f + 1) .sign i b)) := by
  have hP : P (bare l) (f + 1) .sign i b = (.leaf q [], i + 1, b) := by
    rw [P, if_neg (by rw [hq1]; decide), if_neg (by rw [hq2]; decide), hq, if_neg hq0]
  rw [hP]
  have HR := Lib.hid h
  have hrl := h.lt
  have HT1 := Lib.hid (fun w1 hr => rtake_any r A cap l i b ⟨#[45]⟩ false hq1 w1 hr hi hl)
  have HT2 := Lib.hid (fun w1 hr => rtake_any r A cap l i b ⟨#[40]⟩ false hq2 w1 hr hi hl)
  have HT3 := Lib.hid (fun (w1 : World) (t : TypeId) (hr : Rdr w1 r A cap l i b) => (show Calls Tryz.prog 44 #[.pointer (some ⟨r, 0, none⟩), .slice (some ⟨w1.heap.size, 0, none⟩) 3 3] (w1.alloc (.cells #[.string ⟨#[116, 114, 117, 101]⟩, .string ⟨#[102, 97, 108, 115, 101]⟩, .string ⟨#[110, 117, 108, 108]⟩] t)) _ from
    rone_any r A cap l i b (some ⟨w1.heap.size, 0, none⟩) 3 [sTrue, sFalse, sNull] (w1.alloc (.cells #[.string ⟨#[116, 114, 117, 101]⟩, .string ⟨#[102, 97, 108, 115, 101]⟩, .string ⟨#[110, 117, 108, 108]⟩] t)) (hr.alloc _) hi hl
      (by rw [show ∀ o, (w1.alloc o).heap.size = w1.heap.size + 1 from fun o => by simp]; exact texts_new w1 [sTrue, sFalse, sNull] t _ rfl) (fun ad e => by cases e; have := hr.lt; show w1.heap.size ≠ r; omega) (by decide) (by decide) q hq))
  rw [if_neg hq0] at HT3
  obtain ⟨T, hT⟩ : ∃ T : ByteArray, ⟨q.toArray⟩ = T := ⟨_, rfl⟩
  have hTq : q = T.data.toList := by rw [← hT]
  rw [hT] at HT3
  have hT0 : (T.toList == []) = false := by
    rw [ByteArray.toList_eq, ← hTq]
    simpa using hq0
  have hT1 : (T.toList != []) = true := by
    rw [ByteArray.toList_eq, ← hTq]
    simpa using hq0
  rw [hTq]
  clear h hP hq hq1 hq2 hT hTq hq0
  go_enter Tryz.func41, Tryz.ntmps41
  have N0 := Lib.hid (NBox.fresh w (.string ⟨#[]⟩) (.string ⟨#[]⟩) (.slice none 0 0) 25)
  have B0 := Lib.hid ((But.refl w r).alloc (.cells #[.string ⟨#[]⟩, .string ⟨#[]⟩, .slice none 0 0] 25))
  go_wp2_with fail
  refine (HT1.out _ (HR.out.alloc _)).mono ?_
  rintro e w1 ⟨rfl, hb1, hr1⟩
  have N1 := Lib.hid (N0.out.but (by omega) hb1)
  have B1 := Lib.hid (B0.out.trans hb1)
  have R1 := Lib.hid hr1
  clear hb1 hr1
  go_wp2_with fail
  refine (HT2.out _ R1.out).mono ?_
  rintro e w2 ⟨rfl, hb2, hr2⟩
  have N2 := Lib.hid (N1.out.but (by omega) hb2)
  have B2 := Lib.hid (B1.out.trans hb2)
  have R2 := Lib.hid hr2
  clear hb2 hr2
  go_wp2_with fail
  refine (HT3.out w2 _ R2.out).mono ?_
  rintro e w3 ⟨rfl, hb3, hr3⟩
  have N3 := Lib.hid ((N2.out.alloc _).but (by omega) hb3)
  have B3 := Lib.hid ((B2.out.alloc _).trans hb3)
  have R3 := Lib.hid hr3
  have hlt3 : w.heap.size < w3.heap.size := N3.out.lt
  clear hb3 hr3
  obtain ⟨x0, x1, x2, xf⟩ := N3.out
  go_wp2
  have Y := N3.out.set (.string T) (.string ⟨#[]⟩) (.slice none 0 0)
  exact bodyPost_ret (v := .agg #[.string T, .string ⟨#[]⟩, .slice none 0 0]) (by simp [results, Tryz.results41, go_sem, Y.c0, Y.c1, Y.c2]) rfl
    (ret_same (S2 := NoB) (NIn.leaf w3 NoB T ⟨#[]⟩) (fun g hg => hg.elim) B3.out R3.out hrl)
set_option maxHeartbeats 8000000 in
set_option maxRecDepth 100000 in
theorem sign_name {r : Nat} {A : Option Addr} {cap : Nat} {l : List W} {f : Nat} (i : Nat) (b : Bool) (w : World) (hi : i ≤ l.length) (hl : l.length ≤ 4194304) (h : Rdr w r A cap l i b) (hq1 : isW (bare l) i b [45] = false) (hq2 : isW (bare l) i b [40] = false) (q : List UInt8) (hq : oneL (bare l) i b [sTrue, sFalse, sNull] = q) (hq0 : q = []) (k1 : isK (bare l) i b 1 = false) (k2 : isK (bare l) i b 2 = false) :
    Calls Tryz.prog 41 #[.pointer (some ⟨r, 0, none⟩)] w (Reads r A cap l w NoB (P (bare l) (f + 1) .sign i b)) := by
  obtain ⟨g, hg⟩ : ∃ g, (isK (bare l) i b 0 && !ownL (txt (bare l) i)) = g := ⟨_, rfl⟩
  have hP : P (bare l) (f + 1) .sign i b = (.leaf sCol (if g = true then txt (bare l) i else []), (if g = true then i + 1 else i), (if g = true then b else true)) := by
    rw [P, if_neg (by rw [hq1]; decide), if_neg (by rw [hq2]; decide), hq, if_pos hq0, if_neg (by rw [k1]; decide), if_neg (by rw [k2]; decide), hg]
    cases g <;> rfl
  rw [hP]
  have HR := Lib.hid h
  have hrl := h.lt
  have HN := Lib.hid (fun w1 hr => rname_any r A cap l i b w1 hr hi hl g hg)
  have HT1 := Lib.hid (fun w1 hr => rtake_any r A cap l i b ⟨#[45]⟩ false hq1 w1 hr hi hl)
  have HT2 := Lib.hid (fun w1 hr => rtake_any r A cap l i b ⟨#[40]⟩ false hq2 w1 hr hi hl)
  have HT3 := Lib.hid (fun (w1 : World) (t : TypeId) (hr : Rdr w1 r A cap l i b) => (show Calls Tryz.prog 44 #[.pointer (some ⟨r, 0, none⟩), .slice (some ⟨w1.heap.size, 0, none⟩) 3 3] (w1.alloc (.cells #[.string ⟨#[116, 114, 117, 101]⟩, .string ⟨#[102, 97, 108, 115, 101]⟩, .string ⟨#[110, 117, 108, 108]⟩] t)) _ from
    rone_any r A cap l i b (some ⟨w1.heap.size, 0, none⟩) 3 [sTrue, sFalse, sNull] (w1.alloc (.cells #[.string ⟨#[116, 114, 117, 101]⟩, .string ⟨#[102, 97, 108, 115, 101]⟩, .string ⟨#[110, 117, 108, 108]⟩] t)) (hr.alloc _) hi hl
      (by rw [show ∀ o, (w1.alloc o).heap.size = w1.heap.size + 1 from fun o => by simp]; exact texts_new w1 [sTrue, sFalse, sNull] t _ rfl) (fun ad e => by cases e; have := hr.lt; show w1.heap.size ≠ r; omega) (by decide) (by decide) q hq))
  have HK1 := Lib.hid (fun w1 hr => rkind_any r A cap l i b 1 w1 hr hi hl)
  rw [k1] at HK1
  have HK2 := Lib.hid (fun w1 hr => rkind_any r A cap l i b 2 w1 hr hi hl)
  rw [k2] at HK2
  subst hq
  rw [if_pos hq0] at HT3
  rw [hq0] at HT3
  obtain ⟨T, hT⟩ : ∃ T : ByteArray, ⟨(if g = true then txt (bare l) i else []).toArray⟩ = T := ⟨_, rfl⟩
  have hTq : (if g = true then txt (bare l) i else []) = T.data.toList := by rw [← hT]
  rw [hT] at HN
  rw [hTq]
  obtain ⟨j2, hj2⟩ : ∃ j2, (if g = true then i + 1 else i) = j2 := ⟨_, rfl⟩
  obtain ⟨b2, hb2⟩ : ∃ b2, (if g = true then b else true) = b2 := ⟨_, rfl⟩
  rw [hj2, hb2] at HN
  rw [hj2, hb2]
  clear h hP hq1 hq2 hT hTq k1 k2 hg hj2 hb2
  go_enter Tryz.func41, Tryz.ntmps41
  have N0 := Lib.hid (NBox.fresh w (.string ⟨#[]⟩) (.string ⟨#[]⟩) (.slice none 0 0) 25)
  have B0 := Lib.hid ((But.refl w r).alloc (.cells #[.string ⟨#[]⟩, .string ⟨#[]⟩, .slice none 0 0] 25))
  go_wp2_with fail
  refine (HT1.out _ (HR.out.alloc _)).mono ?_
  rintro e w1 ⟨rfl, hb1, hr1⟩
  have N1 := Lib.hid (N0.out.but (by omega) hb1)
  have B1 := Lib.hid (B0.out.trans hb1)
  have R1 := Lib.hid hr1
  clear hb1 hr1
  go_wp2_with fail
  refine (HT2.out _ R1.out).mono ?_
  rintro e w2 ⟨rfl, hb2, hr2⟩
  have N2 := Lib.hid (N1.out.but (by omega) hb2)
  have B2 := Lib.hid (B1.out.trans hb2)
  have R2 := Lib.hid hr2
  clear hb2 hr2
  go_wp2_with fail
  refine (HT3.out w2 _ R2.out).mono ?_
  rintro e w3 ⟨rfl, hb3, hr3⟩
  have N3 := Lib.hid ((N2.out.alloc _).but (by omega) hb3)
  have B3 := Lib.hid ((B2.out.alloc _).trans hb3)
  have R3 := Lib.hid hr3
  have hlt3 : w.heap.size < w3.heap.size := N3.out.lt
  clear hb3 hr3
  go_wp2_with fail
  refine (HK1.out _ R3.out).mono ?_
  rintro e w4 ⟨rfl, hb4⟩
  have N4 := Lib.hid (N3.out.below hb4)
  have B4 := Lib.hid (B3.out.next hb4)
  have R4 := Lib.hid (R3.out.below hb4)
  clear hb4
  go_wp2_with fail
  refine (HK2.out _ R4.out).mono ?_
  rintro e w5 ⟨rfl, hb5⟩
  have N5 := Lib.hid (N4.out.below hb5)
  have B5 := Lib.hid (B4.out.next hb5)
  have R5 := Lib.hid (R4.out.below hb5)
  clear hb5
  go_wp2_with fail
  refine (HN.out _ R5.out).mono ?_
  rintro e w6 ⟨rfl, hb6, hr6⟩
  have N6 := Lib.hid (N5.out.but (by omega) hb6)
  have B6 := Lib.hid (B5.out.trans hb6)
  have R6 := Lib.hid hr6
  clear hb6 hr6
  obtain ⟨x0, x1, x2, xf⟩ := N6.out
  go_wp2
  have Y := N6.out.set (.string ⟨#[99, 111, 108]⟩) (.string T) (.slice none 0 0)
  exact bodyPost_ret (v := .agg #[.string ⟨#[99, 111, 108]⟩, .string T, .slice none 0 0]) (by simp [results, Tryz.results41, go_sem, Y.c0, Y.c1, Y.c2]) rfl
    (ret_same (S2 := NoB) (NIn.leaf w6 NoB ⟨#[99, 111, 108]⟩ T) (fun g hg => hg.elim) B6.out R6.out hrl)
end Go.Proofs.YtpohpgahnompbaaGreatDoor.Code

/-
  The document's reader of expressions: a sign: numbers, texts.
-/
namespace Go.Proofs.YtpohpgahnompbaaGreatDoor.Code
open Go.ChangeShapes Go.WideShapes Go.ChangeAt Go.RowKit Val Elems
set_option linter.unusedVariables false
set_option linter.unusedSimpArgs false
/-- the newest block holds another thing -/
theorem swapO {B : Nat} {a w : World} {o o' : Obj} (h : Below B a (w.alloc o)) (hB : B ≤ w.heap.size) : Below B a (w.alloc o') :=
  ⟨h.os, h.tape, h.output, by have := h.size; simp at *; omega, fun k hk => (Below.heap_alloc w o' k (by omega)).trans ((Below.heap_alloc w o k (by omega)).symm.trans (h.block k hk))⟩
set_option maxHeartbeats 8000000 in
set_option maxRecDepth 100000 in
theorem sign_num {r : Nat} {A : Option Addr} {cap : Nat} {l : List W} {f : Nat} (i : Nat) (b : Bool) (w : World) (hi : i ≤ l.length) (hl : l.length ≤ 4194304) (hfg : ∀ w ∈ l, w.1 = 1 → FigS w.2.1 ∧ w.2.1.length ≤ 4194304) (h : Rdr w r A cap l i b) (hq1 : isW (bare l) i b [45] = false) (hq2 : isW (bare l) i b [40] = false) (q : List UInt8) (hq : oneL (bare l) i b [sTrue, sFalse, sNull] = q) (hq0 : q = []) (k1 : isK (bare l) i b 1 = true) :
    Calls Tryz.prog 41 #[.pointer (some ⟨r, 0, none⟩)] w (Reads r A cap l w NoB (P (bare l) (f + 1) .sign i b)) := by
  have hil := isK_len k1
  obtain rfl : b = false := (isK_lt k1).2
  have HWS := Lib.hid h.ws
  obtain ⟨ad, hA, ha, d0, d1, d2⟩ := at_word HWS.out i hil
  have hk1 : l[i].1 = 1 := by
    have := k1
    rw [isK_at hil] at this
    simpa using this
  have hfl := hfg l[i] (List.getElem_mem hil) hk1
  have htx := txt_at hil
  obtain ⟨t, htt⟩ : ∃ t, l[i].2.1 = t := ⟨_, rfl⟩
  rw [htt] at d1 hfl htx
  obtain ⟨T, hT⟩ : ∃ T : ByteArray, ⟨t.toArray⟩ = T := ⟨_, rfl⟩
  have hTt : t = T.data.toList := by rw [← hT]
  rw [hT] at d1
  rw [hTt] at hfl htx
  have HNU := Lib.hid (fun w => rnumber_any T hfl.1 (by rw [size_list]; exact hfl.2) w)
  obtain ⟨OP, hOP⟩ : ∃ OP : ByteArray, ⟨(numOp T.data.toList).toArray⟩ = OP := ⟨_, rfl⟩
  obtain ⟨TX, hTX⟩ : ∃ TX : ByteArray, ⟨(numTx T.data.toList).toArray⟩ = TX := ⟨_, rfl⟩
  obtain ⟨ok, hok⟩ : ∃ ok, numOk T.data.toList = ok := ⟨_, rfl⟩
  rw [hOP, hTX, hok] at HNU
  have hP : P (bare l) (f + 1) .sign i false = if ok = true then (.leaf OP.data.toList TX.data.toList, i + 1, false) else (zeroT, i, true) := by
    rw [P, if_neg (by rw [hq1]; decide), if_neg (by rw [hq2]; decide), hq, if_pos hq0, if_pos k1, htx, ← hok, ← hOP, ← hTX]
    unfold numOk numOp numTx
    cases numL T.data.toList <;> rfl
  obtain ⟨res, hres⟩ : ∃ res, (if ok = true then (Tr.leaf OP.data.toList TX.data.toList, i + 1, false) else (zeroT, i, true)) = res := ⟨_, rfl⟩
  rw [hP, hres]
  have HRS := Lib.hid hres
  clear hres
  have HR := Lib.hid h
  have hrl := h.lt
  have HT1 := Lib.hid (fun w1 hr => rtake_any r A cap l i false ⟨#[45]⟩ false hq1 w1 hr hi hl)
  have HT2 := Lib.hid (fun w1 hr => rtake_any r A cap l i false ⟨#[40]⟩ false hq2 w1 hr hi hl)
  have HT3 := Lib.hid (fun (w1 : World) (t : TypeId) (hr : Rdr w1 r A cap l i false) => (show Calls Tryz.prog 44 #[.pointer (some ⟨r, 0, none⟩), .slice (some ⟨w1.heap.size, 0, none⟩) 3 3] (w1.alloc (.cells #[.string ⟨#[116, 114, 117, 101]⟩, .string ⟨#[102, 97, 108, 115, 101]⟩, .string ⟨#[110, 117, 108, 108]⟩] t)) _ from
    rone_any r A cap l i false (some ⟨w1.heap.size, 0, none⟩) 3 [sTrue, sFalse, sNull] (w1.alloc (.cells #[.string ⟨#[116, 114, 117, 101]⟩, .string ⟨#[102, 97, 108, 115, 101]⟩, .string ⟨#[110, 117, 108, 108]⟩] t)) (hr.alloc _) hi hl
      (by rw [show ∀ o, (w1.alloc o).heap.size = w1.heap.size + 1 from fun o => by simp]; exact texts_new w1 [sTrue, sFalse, sNull] t _ rfl) (fun ad e => by cases e; have := hr.lt; show w1.heap.size ≠ r; omega) (by decide) (by decide) q hq))
  have HK1 := Lib.hid (fun w1 hr => rkind_any r A cap l i false 1 w1 hr hi hl)
  rw [k1] at HK1
  subst hq
  rw [if_pos hq0] at HT3
  rw [hq0] at HT3
  have HD := Lib.hid (fun (w' : World) (hb : But w w' r) => show w'.cell? ⟨(ad.add (i * 3)).block, (ad.add (i * 3)).off + 1, none⟩ = some (.string T) from (hb.cell (q := ⟨(ad.add (i * 3)).block, (ad.add (i * 3)).off + 1, none⟩) (by show (ad.add (i * 3)).block < _; rw [add_block]; omega) (by show (ad.add (i * 3)).block ≠ _; rw [add_block]; omega)).trans d1)
  have hda : (ad.add (i * 3)).block < r := by rw [add_block]; exact ha
  subst hA
  clear h hP hq1 hq2 k1 hk1 hfl htx htt hT hTt hOP hTX hok d0 d1 d2 hq0
  go_enter Tryz.func41, Tryz.ntmps41
  have N0 := Lib.hid (NBox.fresh w (.string ⟨#[]⟩) (.string ⟨#[]⟩) (.slice none 0 0) 25)
  have B0 := Lib.hid ((But.refl w r).alloc (.cells #[.string ⟨#[]⟩, .string ⟨#[]⟩, .slice none 0 0] 25))
  go_wp2_with fail
  refine (HT1.out _ (HR.out.alloc _)).mono ?_
  rintro e w1 ⟨rfl, hb1, hr1⟩
  have N1 := Lib.hid (N0.out.but (by omega) hb1)
  have B1 := Lib.hid (B0.out.trans hb1)
  have R1 := Lib.hid hr1
  clear hb1 hr1
  go_wp2_with fail
  refine (HT2.out _ R1.out).mono ?_
  rintro e w2 ⟨rfl, hb2, hr2⟩
  have N2 := Lib.hid (N1.out.but (by omega) hb2)
  have B2 := Lib.hid (B1.out.trans hb2)
  have R2 := Lib.hid hr2
  clear hb2 hr2
  go_wp2_with fail
  refine (HT3.out w2 _ R2.out).mono ?_
  rintro e w3 ⟨rfl, hb3, hr3⟩
  have N3 := Lib.hid ((N2.out.alloc _).but (by omega) hb3)
  have B3 := Lib.hid ((B2.out.alloc _).trans hb3)
  have R3 := Lib.hid hr3
  have hlt3 : w.heap.size < w3.heap.size := N3.out.lt
  clear hb3 hr3
  go_wp2_with fail
  refine (HK1.out _ R3.out).mono ?_
  rintro e w4 ⟨rfl, hb4⟩
  have N4 := Lib.hid (N3.out.below hb4)
  have B4 := Lib.hid (B3.out.next hb4)
  have R4 := Lib.hid (R3.out.below hb4)
  clear hb4
  have hlt4 := R4.out.lt
  have hg4 : w.heap.size < w4.heap.size := N4.out.lt
  have c0 := R4.out.c0
  have c1 := R4.out.c1
  have d1 := HD.out _ B4.out
  have zd : (ad.add (i * 3)).block < w4.heap.size := by omega
  have e1 : (i : Int) < (l.length : Int) := by omega
  have FQ := Lib.hid (fun (w' : World) (hb : Below w4.heap.size w4 w') => show w'.cell? ⟨r, 0, none⟩ = some (.slice (some ad) l.length cap) ∧ w'.cell? ⟨r, 1, none⟩ = some (.int .i64 (i : Int)) ∧ w'.cell? ⟨(ad.add (i * 3)).block, (ad.add (i * 3)).off + 1, none⟩ = some (.string T) from
    ⟨(hb.cell (p := ⟨r, 0, none⟩) hlt4).trans c0, (hb.cell (p := ⟨r, 1, none⟩) hlt4).trans c1, (hb.cell (p := ⟨(ad.add (i * 3)).block, (ad.add (i * 3)).off + 1, none⟩) zd).trans d1⟩)
  go_upto_region 14 with fail
  go_cut [8, 9] (fun s8 s9 wx => ∃ g : Nat, s8 = .pointer (some ⟨g, 0, none⟩) ∧ s9 = .bool ok ∧ w4.heap.size ≤ g ∧ NBox wx g (.string OP) (.string TX) (.slice none 0 0) ∧ Below w4.heap.size w4 wx)
  case first =>
    go_region_held3 (fun w' => (w'.cell? ⟨r, 0, none⟩ = some (.slice (some ad) l.length cap) ∧ w'.cell? ⟨r, 1, none⟩ = some (.int .i64 (i : Int)) ∧ w'.cell? ⟨(ad.add (i * 3)).block, (ad.add (i * 3)).off + 1, none⟩ = some (.string T)) ∧ Below w4.heap.size w4 w')
      (first | assumption | (refine keepK hb (by assumption) ?_; intro k; exact ⟨(k _ _ hlt4).trans c0, (k _ _ hlt4).trans c1, (k _ _ zd).trans d1⟩) | (refine keepA _ (by assumption) ?_; intro k; exact ⟨(k _ _ hlt4).trans c0, (k _ _ hlt4).trans c1, (k _ _ zd).trans d1⟩) | (refine keepD (by assumption) ?_; intro k; exact ⟨(k _ _ hlt4).trans c0, (k _ _ hlt4).trans c1, (k _ _ zd).trans d1⟩) | (exact ⟨⟨c0, c1, d1⟩, Below.drew (Below.refl _ _)⟩) | (refine (fun hS9 : Below w4.heap.size w4 _ => ⟨FQ.out _ hS9, hS9⟩) (swapO (show _ ∧ Below w4.heap.size w4 _ by assumption).2 (by omega))) | (refine (fun hS9 : Below w4.heap.size w4 _ => ⟨FQ.out _ hS9, hS9⟩) ((((show _ ∧ Below w4.heap.size w4 _ by assumption).2.setCell (by first | (simp; done) | (simp; omega) | omega) _).setCell (by first | (simp; done) | (simp; omega) | omega) _).setCell (by first | (simp; done) | (simp; omega) | omega) _)) | (trace_state; fail))
      (first | (go_at_call 64; refine (HNU.out _).mono ?_; rintro e w5 ⟨rfl, hb⟩; have hs5 : w4.heap.size ≤ w5.heap.size := Nat.le_trans (show _ ∧ Below w4.heap.size w4 _ by assumption).2.size hb.size; have hk := (bcell hb).1; have hf := (bcell hb).2; have hs6 := hb.size; (try simp at hs6); (try have hq0 : w4.heap.size < w5.heap.size := by omega)))
    all_goals go_wp2_with fail
    all_goals go_meet
    all_goals (refine ⟨_, rfl, rfl, ?_, ?_, (show _ ∧ Below w4.heap.size w4 _ by assumption).2⟩)
    all_goals (first | omega | exact NBox.fresh _ _ _ _ _ | (refine (NBox.below (a := .string ⟨#[]⟩) (b := .string ⟨#[]⟩) (c := .slice none 0 0) ?_ hb).set _ _ _; exact ⟨by simp [go_sem], by simp [go_sem], by simp [go_sem], fun j => by simp [go_sem]⟩))
  case rest =>
    obtain ⟨g, rfl, rfl, hge, G, hB⟩ := hcut
    have N5 := Lib.hid (N4.out.below hB)
    have B5 := Lib.hid (B4.out.next hB)
    have R5 := Lib.hid (R4.out.below hB)
    have V5 := Lib.hid G
    have hgr : g ≠ r := by omega
    have hrg : r ≠ g := by omega
    obtain ⟨x0, x1, x2, xf⟩ := N5.out
    obtain ⟨v0, v1, v2, vf⟩ := V5.out
    have r1 := R5.out.c1
    have r2 := R5.out.c2
    have f1 := R5.out.fr 1
    have f2 := R5.out.fr 2
    have hgw : w.heap.size ≠ r := by omega
    have hrw : r ≠ w.heap.size := by omega
    clear hB G FQ c0 c1 d1
    cases ok
    · have HE := Lib.hid (show (zeroT, i, true) = res from HRS.out)
      go_wp2
      have N6 := NBox.but N5.out (r := r) (by omega) ((But.refl wc r).setCell 2 (.bool true))
      have Y := N6.set (.string ⟨#[]⟩) (.string ⟨#[]⟩) (.slice none 0 0)
      rw [← HE.out]
      exact bodyPost_ret (v := .agg #[.string ⟨#[]⟩, .string ⟨#[]⟩, .slice none 0 0]) (by simp [results, Tryz.results41, go_sem, Y.c0, Y.c1, Y.c2]) rfl
        (ret_same (S2 := NoB) (NIn.leaf _ NoB ⟨#[]⟩ ⟨#[]⟩) (fun g hg => hg.elim) (B5.out.setCell 2 _) R5.out.wrong hrl)
    · have HE := Lib.hid (show (Tr.leaf OP.data.toList TX.data.toList, i + 1, false) = res from HRS.out)
      go_wp2
      have N6 := NBox.but N5.out (r := r) (by omega) ((But.refl wc r).setCell 1 (.int .i64 ((i : Int) + 1)))
      have Y := N6.set (.string OP) (.string TX) (.slice none 0 0)
      have R6 := R5.out.at (i + 1)
      rw [Int.natCast_add] at R6
      rw [← HE.out]
      exact bodyPost_ret (v := .agg #[.string OP, .string TX, .slice none 0 0]) (by simp [results, Tryz.results41, go_sem, Y.c0, Y.c1, Y.c2]) rfl
        (ret_same (S2 := NoB) (NIn.leaf _ NoB OP TX) (fun g hg => hg.elim) (B5.out.setCell 1 _) R6 hrl)
end Go.Proofs.YtpohpgahnompbaaGreatDoor.Code
