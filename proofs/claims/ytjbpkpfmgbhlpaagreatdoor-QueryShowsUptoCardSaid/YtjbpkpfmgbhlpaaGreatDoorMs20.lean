/-
  The program's reader of expressions: not; a sign that is a sign of one, a word of the language's, another word.
-/
import Derived.Test.YtjbpkpfmgbhlpaaGreatDoorMs19
set_option maxRecDepth 100000
set_option maxHeartbeats 16000000
open Go.Lib (hid)
namespace Go.Proofs.YtjbpkpfmgbhlpaaGreatDoor.Code
open Go.ChangeShapes Go.WideShapes Go.ChangeAt Go.RowKit Val Elems
set_option linter.unusedVariables false
set_option linter.unusedSimpArgs false
section
variable {r : Nat} {m : Int} {A : Option Addr} {cap : Nat} {l : List W} {f : Nat}
theorem one_yes {L : List V} {i : Nat} {b : Bool} {s : List UInt8} (h : isW L i b s = true) : oneL L i b [s] = s := by rw [oneL, if_pos h]
theorem one_no {L : List V} {i : Nat} {b : Bool} {s : List UInt8} (h : isW L i b s = false) : oneL L i b [s] = [] := by rw [oneL, if_neg (by rw [h]; decide), oneL]
theorem etake_no (hg : Good l) (i : Nat) (ls : List (List UInt8)) (S : Option Addr) (sc' : Nat) (w : World) (h : Rd w r m A cap l i) (hi : i ≤ l.length) (hs : At sc 1 w w.heap.size S ls) (hne : ∀ ad, S = some ad → ad.block ≠ r) (hls : ls.length ≤ 100) (hn0 : [] ∉ ls) (hq : oneL (bare l) i false ls = []) :
  Calls Tryz.prog 161 #[.pointer (some ⟨r, 0, none⟩), .slice S ls.length sc'] w fun e w' => e = .returned (.string ⟨#[]⟩) ∧ But w w' r ∧ Rd w' r m A cap l i :=
 (etake_any hg i S sc' ls w h hi hs hne hls hn0 [] hq).mono fun e w' ⟨h1, h2, h3⟩ => ⟨h1, h2, h3⟩
theorem etake_yes (hg : Good l) (i : Nat) (ls : List (List UInt8)) (o : ByteArray) (S : Option Addr) (sc' : Nat) (w : World) (h : Rd w r m A cap l i) (hi : i ≤ l.length) (hs : At sc 1 w w.heap.size S ls) (hne : ∀ ad, S = some ad → ad.block ≠ r) (hls : ls.length ≤ 100) (hn0 : [] ∉ ls) (ho : o.data.toList ≠ []) (hq : oneL (bare l) i false ls = o.data.toList) :
  Calls Tryz.prog 161 #[.pointer (some ⟨r, 0, none⟩), .slice S ls.length sc'] w fun e w' => e = .returned (.string o) ∧ But w w' r ∧ Rd w' r m A cap l (i + 1) :=
 (etake_any hg i S sc' ls w h hi hs hne hls hn0 _ hq).mono fun e w' ⟨h1, h2, h3⟩ => ⟨by rw [h1, Lib.mk_data], h2, by rw [if_neg ho] at h3; exact h3⟩
theorem Gives.alloc {w w' : World} {S : Nat → Prop} {res : Tr × Nat × Bool} {e : Ending} (h : Gives r m A cap l w S res e w') (hS : ∀ g, S g → g < w'.heap.size) (o : Obj) : Gives r m A cap l w S res e (w'.alloc o) := by
 obtain ⟨op, tx, X, n, k, he, hn, hb, hr⟩ := h
 exact ⟨op, tx, X, n, k, he, fun hq => ((hn hq).alloc (fun g hg => by rcases hg with hg | hg; exact hS g hg; exact hg.2) o).imp (fun g hg => by rcases hg with hg | hg; exact .inl hg; exact .inr ⟨hg.1, by simp; omega⟩), hb.alloc o, hr.alloc o⟩
theorem e_not_yes (D : Goes r m A cap l f) (hg : Good l) (i : Nat) (w : World) (hi : i ≤ l.length) (hm : mu (bare l) (.expr 3) i < f + 1) (h : Rd w r m A cap l i) (hq : isW (bare l) i false sNot = true) :
  Calls Tryz.prog 163 #[.pointer (some ⟨r, 0, none⟩)] w (Gives r m A cap l w NoBlk (P (bare l) (f + 1) (.expr 3) i false)) := by
 have hil : i < l.length := by have := isW_lt hq; rwa [bare_length] at this
 obtain ⟨R, hx⟩ : ∃ R, P (bare l) f (.expr 3) (i + 1) false = R := ⟨_, rfl⟩
 obtain ⟨x, j, b⟩ := R
 have hP : P (bare l) (f + 1) (.expr 3) i false = (.one sNot x, j, b) := by rw [P, if_neg (by decide), if_pos rfl, if_pos hq, hx]
 have hmu := mu_next (L := bare l) (by rw [bare_length]; exact hil) (.expr 3) (.expr 3) ⟨by omega, by omega⟩ (by decide)
 rw [hP]
 have HI := hid (fun w1 hr => eahead_any (r := r) (m := m) (A := A) (cap := cap) (l := l) ⟨#[110, 111, 116]⟩ 163 (enters_of Tryz.func163 (by kernel_rfl) rfl) (i + 1) x j b w1 hr (fun w2 hr2 => by rw [← hx]; exact D.g_not (i + 1) w2 (by omega) (by omega) hr2))
 have H1 := hid (fun S sc' w1 (hr : Rd w1 r m A cap l i) hs hne => etake_yes hg i [sNot] ⟨#[110, 111, 116]⟩ S sc' w1 hr hi hs hne (by decide) (by decide) (by decide) (one_yes hq))
 have HR := hid h
 have hrl := h.lt
 clear h hm D hg hx hP hmu hq
 go_enter Tryz.func163, Tryz.ntmps163
 obtain ⟨w0, hw0, hz0, N0, B0⟩ := made0 w r
 have R0 := hid (show Rd w0 r m A cap l i by rw [← hw0]; exact HR.out.alloc _)
 go_wp2_with fail
 try rw [hw0]
 have HA1 := hid (at_texts w0 [sNot] #[.string ⟨#[110, 111, 116]⟩] 9 rfl)
 rw [hz0] at HA1
 have zr0 := R0.out.lt
 refine (H1.out _ _ _ (R0.out.alloc _) HA1.out (fun ad e => by cases e; first | (show w.heap.size + 1 ≠ r; omega) | (show w0.heap.size ≠ r; omega))).mono ?_
 rintro e w1 ⟨rfl, hb, hr⟩
 have N1 := hid ((N0.out.alloc _).but (by omega) hb)
 have B1 := hid ((B0.out.alloc _).trans hb)
 have R1 := hid hr
 have zs1 : w0.heap.size ≤ w1.heap.size := by have := hb.size; simp at this; omega
 clear hb hr
 go_wp2_with fail
 refine (HI.out _ R1.out).mono ?_
 rintro e w2 ⟨o1, t1, X, n, k, rfl, hn1, hb1, hr1⟩
 dsimp only at hn1 hr1
 have z1 := R1.out.lt
 have I2 := hid (give_pass (w := w) hn1 (by omega))
 have B2 := hid (B1.out.trans hb1)
 have R2 := hid hr1
 have N2 := hid (N1.out.but (by omega) hb1)
 clear hn1 hb1 hr1
 obtain ⟨x0, x1, x2, xf⟩ := N2.out
 have zn := N2.out.lt
 obtain ⟨q, hq⟩ : ∃ q, (!b) = q := ⟨_, rfl⟩
 go_wp2
 have Y := N2.out.set (.string o1) (.string t1) (.slice X n k)
 exact bodyPost_ret (v := .tuple #[.agg #[.string o1, .string t1, .slice X n k], .bool (!b)]) (by simp [results, Tryz.results163, go_sem, Y.c0, Y.c1, Y.c2, hq]) rfl
  (give_ret I2.out B2.out R2.out hrl)
theorem e_not_no (D : Goes r m A cap l f) (hg : Good l) (i : Nat) (w : World) (hi : i ≤ l.length) (hm : mu (bare l) (.expr 3) i < f + 1) (h : Rd w r m A cap l i) (hq : isW (bare l) i false sNot = false) :
  Calls Tryz.prog 163 #[.pointer (some ⟨r, 0, none⟩)] w (Gives r m A cap l w NoBlk (P (bare l) (f + 1) (.expr 3) i false)) := by
 obtain ⟨R, hx⟩ : ∃ R, P (bare l) f (.expr 4) i false = R := ⟨_, rfl⟩
 obtain ⟨x, j, b⟩ := R
 have hP : P (bare l) (f + 1) (.expr 3) i false = (x, j, b) := by rw [P, if_neg (by decide), if_pos rfl, if_neg (by rw [hq]; decide), hx]
 rw [hP]
 have e0 : mu (bare l) (.expr 3) i = 16 * ((bare l).length - i) + 11 := rfl
 have e1 : mu (bare l) (.expr 4) i = 16 * ((bare l).length - i) + 9 := rfl
 have HI := hid (fun w1 hr => D.g_test i w1 hi (by omega) hr)
 rw [hx] at HI
 have H1 := hid (fun S sc' w1 (hr : Rd w1 r m A cap l i) hs hne => etake_no hg i [sNot] S sc' w1 hr hi hs hne (by decide) (by decide) (one_no hq))
 have HR := hid h
 have hrl := h.lt
 clear h hm D hg hx hP hq e0 e1
 go_enter Tryz.func163, Tryz.ntmps163
 obtain ⟨w0, hw0, hz0, N0, B0⟩ := made0 w r
 have R0 := hid (show Rd w0 r m A cap l i by rw [← hw0]; exact HR.out.alloc _)
 go_wp2_with fail
 try rw [hw0]
 have HA1 := hid (at_texts w0 [sNot] #[.string ⟨#[110, 111, 116]⟩] 9 rfl)
 rw [hz0] at HA1
 have zr0 := R0.out.lt
 refine (H1.out _ _ _ (R0.out.alloc _) HA1.out (fun ad e => by cases e; first | (show w.heap.size + 1 ≠ r; omega) | (show w0.heap.size ≠ r; omega))).mono ?_
 rintro e w1 ⟨rfl, hb, hr⟩
 have N1 := hid ((N0.out.alloc _).but (by omega) hb)
 have B1 := hid ((B0.out.alloc _).trans hb)
 have R1 := hid hr
 have zs1 : w0.heap.size ≤ w1.heap.size := by have := hb.size; simp at this; omega
 clear hb hr
 go_wp2_with fail
 refine (HI.out _ R1.out).mono ?_
 rintro e w2 ⟨o1, t1, X, n, k, rfl, hn1, hb1, hr1⟩
 dsimp only at hn1 hr1
 have z1 := R1.out.lt
 have I2 := hid (give_pass (w := w) hn1 (by omega))
 have B2 := hid (B1.out.trans hb1)
 have R2 := hid hr1
 have N2 := hid (N1.out.but (by omega) hb1)
 clear hn1 hb1 hr1
 obtain ⟨x0, x1, x2, xf⟩ := N2.out
 have zn := N2.out.lt
 obtain ⟨q, hq⟩ : ∃ q, (!b) = q := ⟨_, rfl⟩
 go_wp2
 have Y := N2.out.set (.string o1) (.string t1) (.slice X n k)
 exact bodyPost_ret (v := .tuple #[.agg #[.string o1, .string t1, .slice X n k], .bool (!b)]) (by simp [results, Tryz.results163, go_sem, Y.c0, Y.c1, Y.c2, hq]) rfl
  (give_ret I2.out B2.out R2.out hrl)
theorem sgn (L : List V) (f i : Nat) (b : Bool) : P L (f + 1) (.expr 7) i b = P L f .sign i b := by rw [P, if_pos rfl]
theorem es_neg (D : Goes r m A cap l (f + 1)) (hg : Good l) (i : Nat) (w : World) (hi : i ≤ l.length) (hm : mu (bare l) (.expr 7) i < f + 2) (h : Rd w r m A cap l i) (hq : isW (bare l) i false [45] = true) :
  Calls Tryz.prog 185 #[.pointer (some ⟨r, 0, none⟩)] w (Gives r m A cap l w NoBlk (P (bare l) (f + 1) .sign i false)) := by
 have hil : i < l.length := by have := isW_lt hq; rwa [bare_length] at this
 obtain ⟨R, hx⟩ : ∃ R, P (bare l) f .sign (i + 1) false = R := ⟨_, rfl⟩
 obtain ⟨x, j, b⟩ := R
 have hP : P (bare l) (f + 1) .sign i false = (.one sNeg x, j, b) := by rw [P, if_pos hq, hx]
 have hmu := mu_next (L := bare l) (by rw [bare_length]; exact hil) (.expr 7) (.expr 7) ⟨by omega, by omega⟩ (by decide)
 rw [hP]
 have HI := hid (fun w1 hr => eahead_any (r := r) (m := m) (A := A) (cap := cap) (l := l) ⟨#[110, 101, 103]⟩ 185 (enters_of Tryz.func185 (by kernel_rfl) rfl) (i + 1) x j b w1 hr (fun w2 hr2 => by rw [← hx, ← sgn]; exact D.g_sign (i + 1) w2 (by omega) (by omega) hr2))
 have H1 := hid (fun S sc' w1 (hr : Rd w1 r m A cap l i) hs hne => etake_yes hg i [[45]] ⟨#[45]⟩ S sc' w1 hr hi hs hne (by decide) (by decide) (by decide) (one_yes hq))
 have HR := hid h
 have hrl := h.lt
 clear h hm D hg hx hP hmu hq
 go_enter Tryz.func185, Tryz.ntmps185
 obtain ⟨w0, hw0, hz0, N0, B0⟩ := made0 w r
 have R0 := hid (show Rd w0 r m A cap l i by rw [← hw0]; exact HR.out.alloc _)
 go_wp2_with fail
 try rw [hw0]
 have HA1 := hid (at_texts w0 [[45]] #[.string ⟨#[45]⟩] 9 rfl)
 rw [hz0] at HA1
 have zr0 := R0.out.lt
 refine (H1.out _ _ _ (R0.out.alloc _) HA1.out (fun ad e => by cases e; first | (show w.heap.size + 1 ≠ r; omega) | (show w0.heap.size ≠ r; omega))).mono ?_
 rintro e w1 ⟨rfl, hb, hr⟩
 have N1 := hid ((N0.out.alloc _).but (by omega) hb)
 have B1 := hid ((B0.out.alloc _).trans hb)
 have R1 := hid hr
 have zs1 : w0.heap.size ≤ w1.heap.size := by have := hb.size; simp at this; omega
 clear hb hr
 go_wp2_with fail
 refine (HI.out _ R1.out).mono ?_
 rintro e w2 ⟨o1, t1, X, n, k, rfl, hn1, hb1, hr1⟩
 dsimp only at hn1 hr1
 have z1 := R1.out.lt
 have I2 := hid (give_pass (w := w) hn1 (by omega))
 have B2 := hid (B1.out.trans hb1)
 have R2 := hid hr1
 have N2 := hid (N1.out.but (by omega) hb1)
 clear hn1 hb1 hr1
 obtain ⟨x0, x1, x2, xf⟩ := N2.out
 have zn := N2.out.lt
 obtain ⟨q, hq⟩ : ∃ q, (!b) = q := ⟨_, rfl⟩
 go_wp2
 have Y := N2.out.set (.string o1) (.string t1) (.slice X n k)
 exact bodyPost_ret (v := .tuple #[.agg #[.string o1, .string t1, .slice X n k], .bool (!b)]) (by simp [results, Tryz.results185, go_sem, Y.c0, Y.c1, Y.c2, hq]) rfl
  (give_ret I2.out B2.out R2.out hrl)
theorem es_word (D : Goes r m A cap l (f + 1)) (hg : Good l) (i : Nat) (w : World) (hi : i ≤ l.length) (hm : mu (bare l) (.expr 7) i < f + 2) (h : Rd w r m A cap l i) (q1 : isW (bare l) i false [45] = false) (q2 : isW (bare l) i false [40] = false) (o : ByteArray) (ho : o.data.toList ≠ []) (q3 : oneL (bare l) i false [sTrue, sFalse, sNull] = o.data.toList) :
  Calls Tryz.prog 185 #[.pointer (some ⟨r, 0, none⟩)] w (Gives r m A cap l w NoBlk (P (bare l) (f + 1) .sign i false)) := by
 have hP : P (bare l) (f + 1) .sign i false = (.leaf o.data.toList [], i + 1, false) := by rw [P, if_neg (by rw [q1]; decide), if_neg (by rw [q2]; decide), if_neg (by rw [q3]; exact ho), q3]
 rw [hP]
 have H1 := hid (fun S sc' w1 (hr : Rd w1 r m A cap l i) hs hne => etake_no hg i [[45]] S sc' w1 hr hi hs hne (by decide) (by decide) (one_no q1))
 have H2 := hid (fun S sc' w1 (hr : Rd w1 r m A cap l i) hs hne => etake_no hg i [[40]] S sc' w1 hr hi hs hne (by decide) (by decide) (one_no q2))
 have H3 := hid (fun S sc' w1 (hr : Rd w1 r m A cap l i) hs hne => etake_yes hg i [sTrue, sFalse, sNull] o S sc' w1 hr hi hs hne (by decide) (by decide) ho q3)
 have ho2 : (o.toList == []) = false := by
  rw [ByteArray.toList_eq]
  simpa using ho
 have ho3 : (o.toList != []) = true := by
  rw [ByteArray.toList_eq]
  simpa using ho
 have HO := hid (fun o X n k w => eof_any o X n k w)
 have HR := hid h
 have hrl := h.lt
 clear h hm D hg hP q1 q2 q3 ho
 go_enter Tryz.func185, Tryz.ntmps185
 obtain ⟨w0, hw0, hz0, N0, B0⟩ := made0 w r
 have R0 := hid (show Rd w0 r m A cap l i by rw [← hw0]; exact HR.out.alloc _)
 go_wp2_with fail
 try rw [hw0]
 have HA1 := hid (at_texts w0 [[45]] #[.string ⟨#[45]⟩] 9 rfl)
 rw [hz0] at HA1
 have zr0 := R0.out.lt
 refine (H1.out _ _ _ (R0.out.alloc _) HA1.out (fun ad e => by cases e; first | (show w.heap.size + 1 ≠ r; omega) | (show w0.heap.size ≠ r; omega))).mono ?_
 rintro e w1 ⟨rfl, hb, hr⟩
 have N1 := hid ((N0.out.alloc _).but (by omega) hb)
 have B1 := hid ((B0.out.alloc _).trans hb)
 have R1 := hid hr
 have zs1 : w0.heap.size ≤ w1.heap.size := by have := hb.size; simp at this; omega
 clear hb hr
 go_wp2_with fail
 have HA2 := hid (at_texts w1 [[40]] #[.string ⟨#[40]⟩] 9 rfl)
 have zr1 := R1.out.lt
 refine (H2.out _ _ _ (R1.out.alloc _) HA2.out (fun ad e => by cases e; first | (show w.heap.size + 1 ≠ r; omega) | (show w1.heap.size ≠ r; omega))).mono ?_
 rintro e w2 ⟨rfl, hb, hr⟩
 have N2 := hid ((N1.out.alloc _).but (by omega) hb)
 have B2 := hid ((B1.out.alloc _).trans hb)
 have R2 := hid hr
 have zs2 : w1.heap.size ≤ w2.heap.size := by have := hb.size; simp at this; omega
 clear hb hr
 go_wp2_with fail
 have HA3 := hid (at_texts w2 [sTrue, sFalse, sNull] #[.string ⟨#[116, 114, 117, 101]⟩, .string ⟨#[102, 97, 108, 115, 101]⟩, .string ⟨#[110, 117, 108, 108]⟩] 9 rfl)
 have zr2 := R2.out.lt
 refine (H3.out _ _ _ (R2.out.alloc _) HA3.out (fun ad e => by cases e; first | (show w.heap.size + 1 ≠ r; omega) | (show w2.heap.size ≠ r; omega))).mono ?_
 rintro e w3 ⟨rfl, hb, hr⟩
 have N3 := hid ((N2.out.alloc _).but (by omega) hb)
 have B3 := hid ((B2.out.alloc _).trans hb)
 have R3 := hid hr
 have zs3 : w2.heap.size ≤ w3.heap.size := by have := hb.size; simp at this; omega
 clear hb hr
 go_wp2_with fail
 refine (HO.out _ _ _ _ _).mono ?_
 rintro e w4 ⟨rfl, hb⟩
 have N4 := hid (N3.out.below hb)
 have B4 := hid (B3.out.next hb)
 have R4 := hid (R3.out.below hb)
 have I4 := hid (show NIn w4 (fun g => w.heap.size < g ∧ g < w4.heap.size) (.leaf o.data.toList []) (.string o) (.string ⟨#[]⟩) (.slice none 0 0) from ⟨by rw [Lib.mk_data], rfl, rfl⟩)
 clear hb
 obtain ⟨x0, x1, x2, xf⟩ := N4.out
 have zn := N4.out.lt
 go_wp2
 have Y := N4.out.set (.string o) (.string ⟨#[]⟩) (.slice none 0 0)
 exact bodyPost_ret (v := .tuple #[.agg #[.string o, .string ⟨#[]⟩, .slice none 0 0], .bool (!false)]) (by simp [results, Tryz.results185, go_sem, Y.c0, Y.c1, Y.c2]) rfl
  (give_ret (b := false) (fun _ => I4.out) B4.out R4.out hrl)
theorem es_rest (D : Goes r m A cap l (f + 1)) (hg : Good l) (i : Nat) (w : World) (hi : i ≤ l.length) (hm : mu (bare l) (.expr 7) i < f + 2) (h : Rd w r m A cap l i) (q1 : isW (bare l) i false [45] = false) (q2 : isW (bare l) i false [40] = false) (q3 : oneL (bare l) i false [sTrue, sFalse, sNull] = []) (T : Tr) (j : Nat) (b : Bool) (o tx : ByteArray) (hT : b = false → T = .leaf o.data.toList tx.data.toList) (hP : P (bare l) (f + 1) .sign i false = (T, j, b)) (hj : j = if b = true then i else i + 1) (hop : ∀ w0, Env w0.heap.size m w0 → Calls Tryz.prog 186 #[.agg #[.int .i64 (wd l i).1, .string ⟨(wd l i).2.1.toArray⟩, .int .i64 (wd l i).2.2]] w0 fun e w' => e = .returned (.tuple #[.agg #[.string o, .string tx, .slice none 0 0], .bool (!b)]) ∧ Below w0.heap.size w0 w') :
  Calls Tryz.prog 185 #[.pointer (some ⟨r, 0, none⟩)] w (Gives r m A cap l w NoBlk (P (bare l) (f + 1) .sign i false)) := by
 rw [hP]
 have H1 := hid (fun S sc' w1 (hr : Rd w1 r m A cap l i) hs hne => etake_no hg i [[45]] S sc' w1 hr hi hs hne (by decide) (by decide) (one_no q1))
 have H2 := hid (fun S sc' w1 (hr : Rd w1 r m A cap l i) hs hne => etake_no hg i [[40]] S sc' w1 hr hi hs hne (by decide) (by decide) (one_no q2))
 have H3 := hid (fun S sc' w1 (hr : Rd w1 r m A cap l i) hs hne => etake_no hg i [sTrue, sFalse, sNull] S sc' w1 hr hi hs hne (by decide) (by decide) q3)
 have hlen := hg.len
 have HW := hid (fun w0 (hr : Rd w0 r m A cap l i) => eword_any i w0 hr hi hlen)
 have HOP := hid hop
 have HTT := hid (show false = b → T = .leaf o.data.toList tx.data.toList from fun e => hT e.symm)
 have HR := hid h
 have hrl := h.lt
 have HJ := hid hj
 clear h hm D hg hP q1 q2 q3 hop hT hj
 go_enter Tryz.func185, Tryz.ntmps185
 obtain ⟨w0, hw0, hz0, N0, B0⟩ := made0 w r
 have R0 := hid (show Rd w0 r m A cap l i by rw [← hw0]; exact HR.out.alloc _)
 go_wp2_with fail
 try rw [hw0]
 have HA1 := hid (at_texts w0 [[45]] #[.string ⟨#[45]⟩] 9 rfl)
 rw [hz0] at HA1
 have zr0 := R0.out.lt
 refine (H1.out _ _ _ (R0.out.alloc _) HA1.out (fun ad e => by cases e; first | (show w.heap.size + 1 ≠ r; omega) | (show w0.heap.size ≠ r; omega))).mono ?_
 rintro e w1 ⟨rfl, hb, hr⟩
 have N1 := hid ((N0.out.alloc _).but (by omega) hb)
 have B1 := hid ((B0.out.alloc _).trans hb)
 have R1 := hid hr
 have zs1 : w0.heap.size ≤ w1.heap.size := by have := hb.size; simp at this; omega
 clear hb hr
 go_wp2_with fail
 have HA2 := hid (at_texts w1 [[40]] #[.string ⟨#[40]⟩] 9 rfl)
 have zr1 := R1.out.lt
 refine (H2.out _ _ _ (R1.out.alloc _) HA2.out (fun ad e => by cases e; first | (show w.heap.size + 1 ≠ r; omega) | (show w1.heap.size ≠ r; omega))).mono ?_
 rintro e w2 ⟨rfl, hb, hr⟩
 have N2 := hid ((N1.out.alloc _).but (by omega) hb)
 have B2 := hid ((B1.out.alloc _).trans hb)
 have R2 := hid hr
 have zs2 : w1.heap.size ≤ w2.heap.size := by have := hb.size; simp at this; omega
 clear hb hr
 go_wp2_with fail
 have HA3 := hid (at_texts w2 [sTrue, sFalse, sNull] #[.string ⟨#[116, 114, 117, 101]⟩, .string ⟨#[102, 97, 108, 115, 101]⟩, .string ⟨#[110, 117, 108, 108]⟩] 9 rfl)
 have zr2 := R2.out.lt
 refine (H3.out _ _ _ (R2.out.alloc _) HA3.out (fun ad e => by cases e; first | (show w.heap.size + 1 ≠ r; omega) | (show w2.heap.size ≠ r; omega))).mono ?_
 rintro e w3 ⟨rfl, hb, hr⟩
 have N3 := hid ((N2.out.alloc _).but (by omega) hb)
 have B3 := hid ((B2.out.alloc _).trans hb)
 have R3 := hid hr
 have zs3 : w2.heap.size ≤ w3.heap.size := by have := hb.size; simp at this; omega
 clear hb hr
 go_wp2_with fail
 refine (HW.out _ R3.out).mono ?_
 rintro e w4 ⟨rfl, hb⟩
 have N4 := hid (N3.out.below hb)
 have B4 := hid (B3.out.next hb)
 have R4 := hid (R3.out.below hb)
 clear hb
 go_wp2_with fail
 refine (HOP.out _ R4.out.env).mono ?_
 rintro e w5 ⟨rfl, hb⟩
 have N5w := hid (N4.out.below hb)
 have B5w := hid (B4.out.next hb)
 have R5w := hid (R4.out.below hb)
 have N5 := hid ((N4.out.below hb).alloc (.cells #[.string o, .string tx, .slice none 0 0] 25))
 have B5 := hid ((B4.out.next hb).alloc (.cells #[.string o, .string tx, .slice none 0 0] 25))
 have R5 := hid ((R4.out.below hb).alloc (.cells #[.string o, .string tx, .slice none 0 0] 25))
 have V5 := hid (NBox.fresh w5 (.string o) (.string tx) (.slice none 0 0) 25)
 have z5 : w.heap.size < w5.heap.size := by have := R4.out.lt; have := hb.size; have := N4.out.lt; omega
 clear hb
 cases b
 ·obtain rfl : j = i + 1 := HJ.out
  have I5 := hid (show NIn ((w5.alloc (.cells #[.string o, .string tx, .slice none 0 0] 25)).setCell ⟨r, 1, none⟩ (.int .i64 ((i : Int) + 1))) (fun g => w.heap.size < g ∧ g < ((w5.alloc (.cells #[.string o, .string tx, .slice none 0 0] 25)).setCell ⟨r, 1, none⟩ (.int .i64 ((i : Int) + 1))).heap.size) T (.string o) (.string tx) (.slice none 0 0) by rw [HTT.out rfl]; exact ⟨by rw [Lib.mk_data], by rw [Lib.mk_data], rfl⟩)
  have R6 := hid (show Rd ((w5.alloc (.cells #[.string o, .string tx, .slice none 0 0] 25)).setCell ⟨r, 1, none⟩ (.int .i64 ((i : Int) + 1))) r m A cap l (i + 1) by have := R5.out.at (i + 1); rw [Int.natCast_add] at this; exact this)
  have B6 := hid (B5.out.setCell 1 (.int .i64 ((i : Int) + 1)))
  have N6 := hid (show NBox ((w5.alloc (.cells #[.string o, .string tx, .slice none 0 0] 25)).setCell ⟨r, 1, none⟩ (.int .i64 ((i : Int) + 1))) w.heap.size (.string ⟨#[]⟩) (.string ⟨#[]⟩) (.slice none 0 0) from
   ⟨(World.cell?_setCell_other _ _ _ _ (by first | (simp; omega) | simp)).trans N5.out.c0, (World.cell?_setCell_other _ _ _ _ (by first | (simp; omega) | simp)).trans N5.out.c1, (World.cell?_setCell_other _ _ _ _ (by first | (simp; omega) | simp)).trans N5.out.c2, fun k => by rw [World.frozen?_setCell]; exact N5.out.fr k⟩)
  have c1 := R5.out.c1
  have fr := R5.out.fr 1
  obtain ⟨x0, x1, x2, xf⟩ := N5w.out
  have zn := N5w.out.lt
  go_wp2
  have Y := N6.out.set (.string o) (.string tx) (.slice none 0 0)
  exact bodyPost_ret (v := .tuple #[.agg #[.string o, .string tx, .slice none 0 0], .bool (!false)]) (by simp [results, Tryz.results185, go_sem, Y.c0, Y.c1, Y.c2]) rfl
   (give_ret (b := false) (fun _ => I5.out) B6.out R6.out hrl)
 ·obtain rfl : j = i := HJ.out
  obtain ⟨x0, x1, x2, xf⟩ := N5w.out
  have zn := N5w.out.lt
  go_wp2
  have Y := (N5w.out.set (.string o) (.string tx) (.slice none 0 0)).alloc (.cells #[.string o, .string tx, .slice none 0 0] 25)
  exact bodyPost_ret (v := .tuple #[.agg #[.string o, .string tx, .slice none 0 0], .bool (!true)]) (by simp [results, Tryz.results185, go_sem, Y.c0, Y.c1, Y.c2]) rfl
   ((give_ret (b := true) (op := o) (tx := tx) (X := none) (n := 0) (k := 0) (fun h => (by cases h)) B5w.out R5w.out hrl).alloc (fun g hg => hg.elim) _)
end
section
variable {r : Nat} {m : Int} {A : Option Addr} {cap : Nat} {l : List W} {f : Nat}
theorem is_ops {L : List V} {i : Nat} {b : Bool} (h : isW L i b sIs = true) : oneL L i b (opsL 4) = [] := by
 refine oneL_none fun s hs => ?_
 unfold isW at h ⊢
 cases hx : L[i]? with
 | none => rfl
 | some w =>
  rw [hx] at h
  dsimp only at h ⊢
  simp only [Bool.and_eq_true, beq_iff_eq] at h
  have hne : ¬ w.2 = s := by
   rw [h.1.2]
   intro e
   rw [← e] at hs
   revert hs
   decide
  simp [hne]
theorem et_bad (D : Goes r m A cap l (f + 1)) (hg : Good l) (i : Nat) (w : World) (hi : i ≤ l.length) (hm : mu (bare l) (.expr 4) i < f + 2) (h : Rd w r m A cap l i) (x : Tr) (j : Nat) (hx : P (bare l) (f + 1) (.expr 5) i false = (x, j, true))  :
  Calls Tryz.prog 170 #[.pointer (some ⟨r, 0, none⟩)] w (Gives r m A cap l w NoBlk (P (bare l) (f + 2) (.expr 4) i false)) := by
 have e0 : mu (bare l) (.expr 4) i = 16 * ((bare l).length - i) + 9 := rfl
 have e1 : mu (bare l) (.expr 5) i = 16 * ((bare l).length - i) + 7 := rfl
 have hje := P_ends (bare l) (f + 1) (.expr 5) i false (by rw [bare_length]; omega)
 rw [hx, bare_length] at hje
 have hjl : j ≤ l.length := hje.2.1
 have hij : i ≤ j := hje.1
 have HI := hid (fun w1 hr => D.g_sum i w1 hi (by omega) hr)
 rw [hx] at HI
 have hP0 : P (bare l) (f + 2) (.expr 4) i false = P (bare l) (f + 1) (.test x) j true := by rw [P, if_neg (by decide), if_neg (by decide), if_pos rfl, hx]
 have hP : P (bare l) (f + 2) (.expr 4) i false = (x, j, true) := by rw [hP0, P, if_pos (one_bad _), if_neg (by rw [isW_bad]; decide)]
 rw [hP]
 have HR := hid h
 have hrl := h.lt
 clear h hm D hg hx hP hP0 e0 e1 hje
 go_enter Tryz.func170, Tryz.ntmps170
 obtain ⟨w0, hw0, hz0, N0, B0⟩ := made0 w r
 have R0 := hid (show Rd w0 r m A cap l i by rw [← hw0]; exact HR.out.alloc _)
 go_wp2_with fail
 try rw [hw0]
 refine (HI.out _ R0.out).mono ?_
 rintro e w1 ⟨o1, t1, X, n, k, rfl, hn1, hb1, hr1⟩
 dsimp only at hn1 hr1
 have z0 := R0.out.lt
 have I1 := hid (give_pass (w := w) hn1 (by omega))
 have B1 := hid (B0.out.trans hb1)
 have R1 := hid hr1
 have N1 := hid (N0.out.but (by omega) hb1)
 clear hn1 hb1 hr1
 have N2 := hid (N1.out.alloc (.cells #[.string o1, .string t1, .slice X n k] 25))
 have B2 := hid (B1.out.alloc (.cells #[.string o1, .string t1, .slice X n k] 25))
 have R2 := hid (R1.out.alloc (.cells #[.string o1, .string t1, .slice X n k] 25))
 have I2 := hid (fun hq => (I1.out hq).alloc (fun g hg => hg.2) (.cells #[.string o1, .string t1, .slice X n k] 25))
 have V2 := hid (NBox.fresh w1 (.string o1) (.string t1) (.slice X n k) 25)
 have zn1 := N1.out.lt
 obtain ⟨w2, hw2⟩ : ∃ w2, w1.alloc (.cells #[.string o1, .string t1, .slice X n k] 25) = w2 := ⟨_, rfl⟩
 have hz2 : w2.heap.size = w1.heap.size + 1 := by rw [← hw2]; simp
 rw [hw2] at N2 B2 R2 I2 V2
 obtain ⟨x0, x1, x2, xf⟩ := N2.out
 obtain ⟨v0, v1, v2, vf⟩ := V2.out
 have zn := N2.out.lt
 go_upto_region 2 with fail
 try rw [hw2]
 clear hw2
 go_wp2
 have Y := N2.out.set (.string o1) (.string t1) (.slice X n k)
 exact bodyPost_ret (v := .tuple #[.agg #[.string o1, .string t1, .slice X n k], .bool (!true)]) (by simp [results, Tryz.results170, go_sem, Y.c0, Y.c1, Y.c2]) rfl
  (give_ret (w := w) (b := true) (op := o1) (tx := t1) (X := X) (n := n) (k := k) (fun h => (by cases h)) B2.out R2.out hrl)
theorem et_one (D : Goes r m A cap l (f + 1)) (hg : Good l) (i : Nat) (w : World) (hi : i ≤ l.length) (hm : mu (bare l) (.expr 4) i < f + 2) (h : Rd w r m A cap l i) (x : Tr) (j : Nat) (hx : P (bare l) (f + 1) (.expr 5) i false = (x, j, false)) (q1 : isW (bare l) j false sIs = false) (q2 : oneL (bare l) j false (opsL 4) = []) :
  Calls Tryz.prog 170 #[.pointer (some ⟨r, 0, none⟩)] w (Gives r m A cap l w NoBlk (P (bare l) (f + 2) (.expr 4) i false)) := by
 have e0 : mu (bare l) (.expr 4) i = 16 * ((bare l).length - i) + 9 := rfl
 have e1 : mu (bare l) (.expr 5) i = 16 * ((bare l).length - i) + 7 := rfl
 have hje := P_ends (bare l) (f + 1) (.expr 5) i false (by rw [bare_length]; omega)
 rw [hx, bare_length] at hje
 have hjl : j ≤ l.length := hje.2.1
 have hij : i ≤ j := hje.1
 have HI := hid (fun w1 hr => D.g_sum i w1 hi (by omega) hr)
 rw [hx] at HI
 have hP0 : P (bare l) (f + 2) (.expr 4) i false = P (bare l) (f + 1) (.test x) j false := by rw [P, if_neg (by decide), if_neg (by decide), if_pos rfl, hx]
 have hP : P (bare l) (f + 2) (.expr 4) i false = (x, j, false) := by rw [hP0, P, if_pos q2, if_neg (by rw [q1]; decide)]
 rw [hP]
 have H1 := hid (fun S sc' w1 (hr : Rd w1 r m A cap l j) hs hne => etake_no hg j [sIs] S sc' w1 hr hjl hs hne (by decide) (by decide) (one_no q1))
 have H2 := hid (fun S sc' w1 (hr : Rd w1 r m A cap l j) hs hne => etake_no hg j (opsL 4) S sc' w1 hr hjl hs hne (by decide) (by decide) q2)
 have HR := hid h
 have hrl := h.lt
 clear h hm D hg hx hP hP0 e0 e1 hje q1 q2
 go_enter Tryz.func170, Tryz.ntmps170
 obtain ⟨w0, hw0, hz0, N0, B0⟩ := made0 w r
 have R0 := hid (show Rd w0 r m A cap l i by rw [← hw0]; exact HR.out.alloc _)
 go_wp2_with fail
 try rw [hw0]
 refine (HI.out _ R0.out).mono ?_
 rintro e w1 ⟨o1, t1, X, n, k, rfl, hn1, hb1, hr1⟩
 dsimp only at hn1 hr1
 have z0 := R0.out.lt
 have I1 := hid (give_pass (w := w) hn1 (by omega))
 have B1 := hid (B0.out.trans hb1)
 have R1 := hid hr1
 have N1 := hid (N0.out.but (by omega) hb1)
 clear hn1 hb1 hr1
 have N2 := hid (N1.out.alloc (.cells #[.string o1, .string t1, .slice X n k] 25))
 have B2 := hid (B1.out.alloc (.cells #[.string o1, .string t1, .slice X n k] 25))
 have R2 := hid (R1.out.alloc (.cells #[.string o1, .string t1, .slice X n k] 25))
 have I2 := hid (fun hq => (I1.out hq).alloc (fun g hg => hg.2) (.cells #[.string o1, .string t1, .slice X n k] 25))
 have V2 := hid (NBox.fresh w1 (.string o1) (.string t1) (.slice X n k) 25)
 have zn1 := N1.out.lt
 obtain ⟨w2, hw2⟩ : ∃ w2, w1.alloc (.cells #[.string o1, .string t1, .slice X n k] 25) = w2 := ⟨_, rfl⟩
 have hz2 : w2.heap.size = w1.heap.size + 1 := by rw [← hw2]; simp
 rw [hw2] at N2 B2 R2 I2 V2
 go_wp2_with fail
 have HA3 := hid (at_texts w2 [sIs] #[.string ⟨#[105, 115]⟩] 9 rfl)
 try rw [hw2]
 rw [hz2] at HA3
 have zr2 := R2.out.lt
 refine (H1.out _ _ _ (R2.out.alloc _) HA3.out (fun ad e => by cases e; first | (show w.heap.size + 1 ≠ r; omega) | (show w1.heap.size + 1 ≠ r; omega))).mono ?_
 rintro e w3 ⟨rfl, hb, hr⟩
 have N3 := hid ((N2.out.alloc _).but (by omega) hb)
 have B3 := hid ((B2.out.alloc _).trans hb)
 have R3 := hid hr
 have V3 := hid ((V2.out.alloc _).but (by omega) hb)
 have zi3 : w1.heap.size < w3.heap.size := V3.out.lt
 have I3 := hid (fun hq => ((I2.out hq).alloc (fun g hg => by have h9 := hg.2; omega) _).but (fun g hg => ⟨by have h9 := hg.2; simp; omega, by have h9 := hg.1; omega⟩) hb)
 have zs3 : w2.heap.size ≤ w3.heap.size := by have := hb.size; simp at this; omega
 clear hb hr
 go_wp2_with fail
 have HA4 := hid (at_texts w3 (opsL 4) #[.string ⟨#[61]⟩, .string ⟨#[60, 62]⟩, .string ⟨#[60]⟩, .string ⟨#[60, 61]⟩, .string ⟨#[62]⟩, .string ⟨#[62, 61]⟩] 9 rfl)
 have zr3 := R3.out.lt
 refine (H2.out _ _ _ (R3.out.alloc _) HA4.out (fun ad e => by cases e; first | (show w.heap.size + 1 ≠ r; omega) | (show w3.heap.size ≠ r; omega))).mono ?_
 rintro e w4 ⟨rfl, hb, hr⟩
 have N4 := hid ((N3.out.alloc _).but (by omega) hb)
 have B4 := hid ((B3.out.alloc _).trans hb)
 have R4 := hid hr
 have V4 := hid ((V3.out.alloc _).but (by omega) hb)
 have zi4 : w1.heap.size < w4.heap.size := V4.out.lt
 have I4 := hid (fun hq => ((I3.out hq).alloc (fun g hg => by have h9 := hg.2; omega) _).but (fun g hg => ⟨by have h9 := hg.2; simp; omega, by have h9 := hg.1; omega⟩) hb)
 have zs4 : w3.heap.size ≤ w4.heap.size := by have := hb.size; simp at this; omega
 clear hb hr
 obtain ⟨x0, x1, x2, xf⟩ := N4.out
 obtain ⟨v0, v1, v2, vf⟩ := V4.out
 have zn := N4.out.lt
 go_wp2
 have Y := N4.out.set (.string o1) (.string t1) (.slice X n k)
 exact bodyPost_ret (v := .tuple #[.agg #[.string o1, .string t1, .slice X n k], .bool (!false)]) (by simp [results, Tryz.results170, go_sem, Y.c0, Y.c1, Y.c2]) rfl
  (give_ret (w := w) (b := false) (op := o1) (tx := t1) (X := X) (n := n) (k := k) (fun _ => (I4.out (by first | exact trivial | rfl)).imp (fun g hg => ⟨hg.1, by have h9 := hg.2; omega⟩)) B4.out R4.out hrl)
theorem et_null (D : Goes r m A cap l (f + 1)) (hg : Good l) (i : Nat) (w : World) (hi : i ≤ l.length) (hm : mu (bare l) (.expr 4) i < f + 2) (h : Rd w r m A cap l i) (x : Tr) (j : Nat) (hx : P (bare l) (f + 1) (.expr 5) i false = (x, j, false)) (q1 : isW (bare l) j false sIs = true) (q2 : isW (bare l) (j + 1) false sNull = true) :
  Calls Tryz.prog 170 #[.pointer (some ⟨r, 0, none⟩)] w (Gives r m A cap l w NoBlk (P (bare l) (f + 2) (.expr 4) i false)) := by
 have e0 : mu (bare l) (.expr 4) i = 16 * ((bare l).length - i) + 9 := rfl
 have e1 : mu (bare l) (.expr 5) i = 16 * ((bare l).length - i) + 7 := rfl
 have hje := P_ends (bare l) (f + 1) (.expr 5) i false (by rw [bare_length]; omega)
 rw [hx, bare_length] at hje
 have hjl : j ≤ l.length := hje.2.1
 have hij : i ≤ j := hje.1
 have HI := hid (fun w1 hr => D.g_sum i w1 hi (by omega) hr)
 rw [hx] at HI
 have hP0 : P (bare l) (f + 2) (.expr 4) i false = P (bare l) (f + 1) (.test x) j false := by rw [P, if_neg (by decide), if_neg (by decide), if_pos rfl, hx]
 have hjl1 : j + 1 ≤ l.length := by have := isW_lt q1; rw [bare_length] at this; omega
 have hP : P (bare l) (f + 2) (.expr 4) i false = (.one sIsNull x, j + 2, false) := by rw [hP0, P, if_pos (is_ops q1), if_pos q1, if_pos q2]
 rw [hP]
 have H1 := hid (fun S sc' w1 (hr : Rd w1 r m A cap l j) hs hne => etake_yes hg j [sIs] ⟨#[105, 115]⟩ S sc' w1 hr hjl hs hne (by decide) (by decide) (by decide) (one_yes q1))
 have H2 := hid (fun S sc' w1 (hr : Rd w1 r m A cap l (j + 1)) hs hne => etake_yes hg (j + 1) [sNull] ⟨#[110, 117, 108, 108]⟩ S sc' w1 hr hjl1 hs hne (by decide) (by decide) (by decide) (one_yes q2))
 have HO := hid (fun o X n k w => eof_any o X n k w)
 have HR := hid h
 have hrl := h.lt
 clear h hm D hg hx hP hP0 e0 e1 hje q1 q2
 go_enter Tryz.func170, Tryz.ntmps170
 obtain ⟨w0, hw0, hz0, N0, B0⟩ := made0 w r
 have R0 := hid (show Rd w0 r m A cap l i by rw [← hw0]; exact HR.out.alloc _)
 go_wp2_with fail
 try rw [hw0]
 refine (HI.out _ R0.out).mono ?_
 rintro e w1 ⟨o1, t1, X, n, k, rfl, hn1, hb1, hr1⟩
 dsimp only at hn1 hr1
 have z0 := R0.out.lt
 have I1 := hid (give_pass (w := w) hn1 (by omega))
 have B1 := hid (B0.out.trans hb1)
 have R1 := hid hr1
 have N1 := hid (N0.out.but (by omega) hb1)
 clear hn1 hb1 hr1
 have N2 := hid (N1.out.alloc (.cells #[.string o1, .string t1, .slice X n k] 25))
 have B2 := hid (B1.out.alloc (.cells #[.string o1, .string t1, .slice X n k] 25))
 have R2 := hid (R1.out.alloc (.cells #[.string o1, .string t1, .slice X n k] 25))
 have I2 := hid (fun hq => (I1.out hq).alloc (fun g hg => hg.2) (.cells #[.string o1, .string t1, .slice X n k] 25))
 have V2 := hid (NBox.fresh w1 (.string o1) (.string t1) (.slice X n k) 25)
 have zn1 := N1.out.lt
 obtain ⟨w2, hw2⟩ : ∃ w2, w1.alloc (.cells #[.string o1, .string t1, .slice X n k] 25) = w2 := ⟨_, rfl⟩
 have hz2 : w2.heap.size = w1.heap.size + 1 := by rw [← hw2]; simp
 rw [hw2] at N2 B2 R2 I2 V2
 go_wp2_with fail
 have HA3 := hid (at_texts w2 [sIs] #[.string ⟨#[105, 115]⟩] 9 rfl)
 try rw [hw2]
 rw [hz2] at HA3
 have zr2 := R2.out.lt
 refine (H1.out _ _ _ (R2.out.alloc _) HA3.out (fun ad e => by cases e; first | (show w.heap.size + 1 ≠ r; omega) | (show w1.heap.size + 1 ≠ r; omega))).mono ?_
 rintro e w3 ⟨rfl, hb, hr⟩
 have N3 := hid ((N2.out.alloc _).but (by omega) hb)
 have B3 := hid ((B2.out.alloc _).trans hb)
 have R3 := hid hr
 have V3 := hid ((V2.out.alloc _).but (by omega) hb)
 have zi3 : w1.heap.size < w3.heap.size := V3.out.lt
 have I3 := hid (fun hq => ((I2.out hq).alloc (fun g hg => by have h9 := hg.2; omega) _).but (fun g hg => ⟨by have h9 := hg.2; simp; omega, by have h9 := hg.1; omega⟩) hb)
 have zs3 : w2.heap.size ≤ w3.heap.size := by have := hb.size; simp at this; omega
 clear hb hr
 obtain ⟨x0, x1, x2, xf⟩ := N3.out
 obtain ⟨v0, v1, v2, vf⟩ := V3.out
 have zn := N3.out.lt
 have N4 := hid (N3.out.alloc (.cells #[.string o1, .string t1, .slice X n k] 25))
 have B4 := hid (B3.out.alloc (.cells #[.string o1, .string t1, .slice X n k] 25))
 have R4 := hid (R3.out.alloc (.cells #[.string o1, .string t1, .slice X n k] 25))
 have I4 := hid (fun hq => NIn.one ⟨#[105, 115, 32, 110, 117, 108, 108]⟩ (I3.out hq) (fun g hg => by have h9 := hg.2; omega) (S' := fun g => w.heap.size < g ∧ g < w3.heap.size + 1) (fun g hg => ⟨hg.1, by have h9 := hg.2; omega⟩) ⟨by omega, by omega⟩ 25)
 go_wp2_with fail
 refine (HO.out _ _ _ _ _).mono ?_
 rintro e w5 ⟨rfl, hb⟩
 have N5 := hid (N4.out.below hb)
 have B5 := hid (B4.out.next hb)
 have R5 := hid (R4.out.below hb)
 have z5 : w3.heap.size + 1 ≤ w5.heap.size := by have h9 := hb.size; simp at h9; omega
 have I5 := hid (fun hq => (I4.out hq).below (fun g hg => by have h9 := hg.2; simp; omega) hb)
 clear hb x0 x1 x2 xf v0 v1 v2 vf
 go_wp2_with fail
 have HA6 := hid (at_texts w5 [sNull] #[.string ⟨#[110, 117, 108, 108]⟩] 9 rfl)
 have zr5 := R5.out.lt
 refine (H2.out _ _ _ (R5.out.alloc _) HA6.out (fun ad e => by cases e; first | (show w.heap.size + 1 ≠ r; omega) | (show w5.heap.size ≠ r; omega))).mono ?_
 rintro e w6 ⟨rfl, hb, hr⟩
 have N6 := hid ((N5.out.alloc _).but (by omega) hb)
 have B6 := hid ((B5.out.alloc _).trans hb)
 have R6 := hid hr
 have I6 := hid (fun hq => ((I5.out hq).alloc (fun g hg => by have h9 := hg.2; omega) _).but (fun g hg => ⟨by have h9 := hg.2; simp; omega, by have h9 := hg.1; omega⟩) hb)
 have zs6 : w5.heap.size ≤ w6.heap.size := by have := hb.size; simp at this; omega
 clear hb hr
 obtain ⟨x0, x1, x2, xf⟩ := N6.out
 have zn := N6.out.lt
 go_wp2
 have Y := N6.out.set (.string ⟨#[105, 115, 32, 110, 117, 108, 108]⟩) (.string ⟨#[]⟩) (.slice (some ⟨w3.heap.size, 0, none⟩) 1 1)
 exact bodyPost_ret (v := .tuple #[.agg #[.string ⟨#[105, 115, 32, 110, 117, 108, 108]⟩, .string ⟨#[]⟩, .slice (some ⟨w3.heap.size, 0, none⟩) 1 1], .bool (!false)]) (by simp [results, Tryz.results170, go_sem, Y.c0, Y.c1, Y.c2]) rfl
  (give_ret (w := w) (b := false) (op := ⟨#[105, 115, 32, 110, 117, 108, 108]⟩) (tx := ⟨#[]⟩) (X := some ⟨w3.heap.size, 0, none⟩) (n := 1) (k := 1) (fun _ => (I6.out (by first | exact trivial | rfl)).imp (fun g hg => ⟨hg.1, by have h9 := hg.2; omega⟩)) B6.out R6.out hrl)
theorem et_nonull (D : Goes r m A cap l (f + 1)) (hg : Good l) (i : Nat) (w : World) (hi : i ≤ l.length) (hm : mu (bare l) (.expr 4) i < f + 2) (h : Rd w r m A cap l i) (x : Tr) (j : Nat) (hx : P (bare l) (f + 1) (.expr 5) i false = (x, j, false)) (q1 : isW (bare l) j false sIs = true) (q2 : isW (bare l) (j + 1) false sNull = false) :
  Calls Tryz.prog 170 #[.pointer (some ⟨r, 0, none⟩)] w (Gives r m A cap l w NoBlk (P (bare l) (f + 2) (.expr 4) i false)) := by
 have e0 : mu (bare l) (.expr 4) i = 16 * ((bare l).length - i) + 9 := rfl
 have e1 : mu (bare l) (.expr 5) i = 16 * ((bare l).length - i) + 7 := rfl
 have hje := P_ends (bare l) (f + 1) (.expr 5) i false (by rw [bare_length]; omega)
 rw [hx, bare_length] at hje
 have hjl : j ≤ l.length := hje.2.1
 have hij : i ≤ j := hje.1
 have HI := hid (fun w1 hr => D.g_sum i w1 hi (by omega) hr)
 rw [hx] at HI
 have hP0 : P (bare l) (f + 2) (.expr 4) i false = P (bare l) (f + 1) (.test x) j false := by rw [P, if_neg (by decide), if_neg (by decide), if_pos rfl, hx]
 have hjl1 : j + 1 ≤ l.length := by have := isW_lt q1; rw [bare_length] at this; omega
 have hP : P (bare l) (f + 2) (.expr 4) i false = (.one sIsNull x, j + 1, true) := by rw [hP0, P, if_pos (is_ops q1), if_pos q1, if_neg (by rw [q2]; decide)]
 rw [hP]
 have H1 := hid (fun S sc' w1 (hr : Rd w1 r m A cap l j) hs hne => etake_yes hg j [sIs] ⟨#[105, 115]⟩ S sc' w1 hr hjl hs hne (by decide) (by decide) (by decide) (one_yes q1))
 have H2 := hid (fun S sc' w1 (hr : Rd w1 r m A cap l (j + 1)) hs hne => etake_no hg (j + 1) [sNull] S sc' w1 hr hjl1 hs hne (by decide) (by decide) (one_no q2))
 have HO := hid (fun o X n k w => eof_any o X n k w)
 have HR := hid h
 have hrl := h.lt
 clear h hm D hg hx hP hP0 e0 e1 hje q1 q2
 go_enter Tryz.func170, Tryz.ntmps170
 obtain ⟨w0, hw0, hz0, N0, B0⟩ := made0 w r
 have R0 := hid (show Rd w0 r m A cap l i by rw [← hw0]; exact HR.out.alloc _)
 go_wp2_with fail
 try rw [hw0]
 refine (HI.out _ R0.out).mono ?_
 rintro e w1 ⟨o1, t1, X, n, k, rfl, hn1, hb1, hr1⟩
 dsimp only at hn1 hr1
 have z0 := R0.out.lt
 have I1 := hid (give_pass (w := w) hn1 (by omega))
 have B1 := hid (B0.out.trans hb1)
 have R1 := hid hr1
 have N1 := hid (N0.out.but (by omega) hb1)
 clear hn1 hb1 hr1
 have N2 := hid (N1.out.alloc (.cells #[.string o1, .string t1, .slice X n k] 25))
 have B2 := hid (B1.out.alloc (.cells #[.string o1, .string t1, .slice X n k] 25))
 have R2 := hid (R1.out.alloc (.cells #[.string o1, .string t1, .slice X n k] 25))
 have I2 := hid (fun hq => (I1.out hq).alloc (fun g hg => hg.2) (.cells #[.string o1, .string t1, .slice X n k] 25))
 have V2 := hid (NBox.fresh w1 (.string o1) (.string t1) (.slice X n k) 25)
 have zn1 := N1.out.lt
 obtain ⟨w2, hw2⟩ : ∃ w2, w1.alloc (.cells #[.string o1, .string t1, .slice X n k] 25) = w2 := ⟨_, rfl⟩
 have hz2 : w2.heap.size = w1.heap.size + 1 := by rw [← hw2]; simp
 rw [hw2] at N2 B2 R2 I2 V2
 go_wp2_with fail
 have HA3 := hid (at_texts w2 [sIs] #[.string ⟨#[105, 115]⟩] 9 rfl)
 try rw [hw2]
 rw [hz2] at HA3
 have zr2 := R2.out.lt
 refine (H1.out _ _ _ (R2.out.alloc _) HA3.out (fun ad e => by cases e; first | (show w.heap.size + 1 ≠ r; omega) | (show w1.heap.size + 1 ≠ r; omega))).mono ?_
 rintro e w3 ⟨rfl, hb, hr⟩
 have N3 := hid ((N2.out.alloc _).but (by omega) hb)
 have B3 := hid ((B2.out.alloc _).trans hb)
 have R3 := hid hr
 have V3 := hid ((V2.out.alloc _).but (by omega) hb)
 have zi3 : w1.heap.size < w3.heap.size := V3.out.lt
 have I3 := hid (fun hq => ((I2.out hq).alloc (fun g hg => by have h9 := hg.2; omega) _).but (fun g hg => ⟨by have h9 := hg.2; simp; omega, by have h9 := hg.1; omega⟩) hb)
 have zs3 : w2.heap.size ≤ w3.heap.size := by have := hb.size; simp at this; omega
 clear hb hr
 obtain ⟨x0, x1, x2, xf⟩ := N3.out
 obtain ⟨v0, v1, v2, vf⟩ := V3.out
 have zn := N3.out.lt
 have N4 := hid (N3.out.alloc (.cells #[.string o1, .string t1, .slice X n k] 25))
 have B4 := hid (B3.out.alloc (.cells #[.string o1, .string t1, .slice X n k] 25))
 have R4 := hid (R3.out.alloc (.cells #[.string o1, .string t1, .slice X n k] 25))
 have I4 := hid (fun hq => NIn.one ⟨#[105, 115, 32, 110, 117, 108, 108]⟩ (I3.out hq) (fun g hg => by have h9 := hg.2; omega) (S' := fun g => w.heap.size < g ∧ g < w3.heap.size + 1) (fun g hg => ⟨hg.1, by have h9 := hg.2; omega⟩) ⟨by omega, by omega⟩ 25)
 go_wp2_with fail
 refine (HO.out _ _ _ _ _).mono ?_
 rintro e w5 ⟨rfl, hb⟩
 have N5 := hid (N4.out.below hb)
 have B5 := hid (B4.out.next hb)
 have R5 := hid (R4.out.below hb)
 have z5 : w3.heap.size + 1 ≤ w5.heap.size := by have h9 := hb.size; simp at h9; omega
 have I5 := hid (fun hq => (I4.out hq).below (fun g hg => by have h9 := hg.2; simp; omega) hb)
 clear hb x0 x1 x2 xf v0 v1 v2 vf
 go_wp2_with fail
 have HA6 := hid (at_texts w5 [sNull] #[.string ⟨#[110, 117, 108, 108]⟩] 9 rfl)
 have zr5 := R5.out.lt
 refine (H2.out _ _ _ (R5.out.alloc _) HA6.out (fun ad e => by cases e; first | (show w.heap.size + 1 ≠ r; omega) | (show w5.heap.size ≠ r; omega))).mono ?_
 rintro e w6 ⟨rfl, hb, hr⟩
 have N6 := hid ((N5.out.alloc _).but (by omega) hb)
 have B6 := hid ((B5.out.alloc _).trans hb)
 have R6 := hid hr
 have I6 := hid (fun hq => ((I5.out hq).alloc (fun g hg => by have h9 := hg.2; omega) _).but (fun g hg => ⟨by have h9 := hg.2; simp; omega, by have h9 := hg.1; omega⟩) hb)
 have zs6 : w5.heap.size ≤ w6.heap.size := by have := hb.size; simp at this; omega
 clear hb hr
 obtain ⟨x0, x1, x2, xf⟩ := N6.out
 have zn := N6.out.lt
 go_wp2
 have Y := N6.out.set (.string ⟨#[105, 115, 32, 110, 117, 108, 108]⟩) (.string ⟨#[]⟩) (.slice (some ⟨w3.heap.size, 0, none⟩) 1 1)
 exact bodyPost_ret (v := .tuple #[.agg #[.string ⟨#[105, 115, 32, 110, 117, 108, 108]⟩, .string ⟨#[]⟩, .slice (some ⟨w3.heap.size, 0, none⟩) 1 1], .bool (!true)]) (by simp [results, Tryz.results170, go_sem, Y.c0, Y.c1, Y.c2]) rfl
  (give_ret (w := w) (b := true) (op := ⟨#[105, 115, 32, 110, 117, 108, 108]⟩) (tx := ⟨#[]⟩) (X := some ⟨w3.heap.size, 0, none⟩) (n := 1) (k := 1) (fun h => (by cases h)) B6.out R6.out hrl)
theorem et_two (D : Goes r m A cap l (f + 1)) (hg : Good l) (i : Nat) (w : World) (hi : i ≤ l.length) (hm : mu (bare l) (.expr 4) i < f + 2) (h : Rd w r m A cap l i) (x : Tr) (j : Nat) (hx : P (bare l) (f + 1) (.expr 5) i false = (x, j, false)) (q1 : isW (bare l) j false sIs = false) (o : ByteArray) (ho : o.data.toList ≠ []) (q2 : oneL (bare l) j false (opsL 4) = o.data.toList) :
  Calls Tryz.prog 170 #[.pointer (some ⟨r, 0, none⟩)] w (Gives r m A cap l w NoBlk (P (bare l) (f + 2) (.expr 4) i false)) := by
 have e0 : mu (bare l) (.expr 4) i = 16 * ((bare l).length - i) + 9 := rfl
 have e1 : mu (bare l) (.expr 5) i = 16 * ((bare l).length - i) + 7 := rfl
 have hje := P_ends (bare l) (f + 1) (.expr 5) i false (by rw [bare_length]; omega)
 rw [hx, bare_length] at hje
 have hjl : j ≤ l.length := hje.2.1
 have hij : i ≤ j := hje.1
 have HI := hid (fun w1 hr => D.g_sum i w1 hi (by omega) hr)
 rw [hx] at HI
 have hP0 : P (bare l) (f + 2) (.expr 4) i false = P (bare l) (f + 1) (.test x) j false := by rw [P, if_neg (by decide), if_neg (by decide), if_pos rfl, hx]
 obtain ⟨hjl1, -⟩ := oneL_lt (show oneL (bare l) j false (opsL 4) ≠ [] by rw [q2]; exact ho)
 rw [bare_length] at hjl1
 obtain ⟨R3, hy⟩ : ∃ R3, P (bare l) (f + 1) (.expr 5) (j + 1) false = R3 := ⟨_, rfl⟩
 obtain ⟨y, j2, b⟩ := R3
 have e2 : mu (bare l) (.expr 5) (j + 1) = 16 * ((bare l).length - (j + 1)) + 7 := rfl
 have hps : P (bare l) f (.expr 5) (j + 1) false = P (bare l) (f + 1) (.expr 5) (j + 1) false := P_steps _ _ _ _ _ _ (by rw [bare_length]; omega) ⟨by omega, by omega⟩ (by rw [bare_length] at e0 e2; omega) (by rw [bare_length] at e0 e2; omega)
 have hP : P (bare l) (f + 2) (.expr 4) i false = (.two o.data.toList x y, j2, b) := by rw [hP0, P, if_neg (by rw [q2]; exact ho), q2, hps, hy]
 rw [hP]
 have HY := hid (fun w1 hr => D.g_sum (j + 1) w1 (by omega) (by rw [bare_length] at e0 e2; omega) hr)
 rw [hy] at HY
 have ho2 : (o.toList == []) = false := by
  rw [ByteArray.toList_eq]
  simpa using ho
 have H1 := hid (fun S sc' w1 (hr : Rd w1 r m A cap l j) hs hne => etake_no hg j [sIs] S sc' w1 hr hjl hs hne (by decide) (by decide) (one_no q1))
 have H2 := hid (fun S sc' w1 (hr : Rd w1 r m A cap l j) hs hne => etake_yes hg j (opsL 4) o S sc' w1 hr hjl hs hne (by decide) (by decide) ho q2)
 have HO := hid (fun o X n k w => eof_any o X n k w)
 have HR := hid h
 have hrl := h.lt
 clear h hm D hg hx hP hP0 e0 e1 hje q1 q2 hy e2 hps ho
 go_enter Tryz.func170, Tryz.ntmps170
 obtain ⟨w0, hw0, hz0, N0, B0⟩ := made0 w r
 have R0 := hid (show Rd w0 r m A cap l i by rw [← hw0]; exact HR.out.alloc _)
 go_wp2_with fail
 try rw [hw0]
 refine (HI.out _ R0.out).mono ?_
 rintro e w1 ⟨o1, t1, X, n, k, rfl, hn1, hb1, hr1⟩
 dsimp only at hn1 hr1
 have z0 := R0.out.lt
 have I1 := hid (give_pass (w := w) hn1 (by omega))
 have B1 := hid (B0.out.trans hb1)
 have R1 := hid hr1
 have N1 := hid (N0.out.but (by omega) hb1)
 clear hn1 hb1 hr1
 have N2 := hid (N1.out.alloc (.cells #[.string o1, .string t1, .slice X n k] 25))
 have B2 := hid (B1.out.alloc (.cells #[.string o1, .string t1, .slice X n k] 25))
 have R2 := hid (R1.out.alloc (.cells #[.string o1, .string t1, .slice X n k] 25))
 have I2 := hid (fun hq => (I1.out hq).alloc (fun g hg => hg.2) (.cells #[.string o1, .string t1, .slice X n k] 25))
 have V2 := hid (NBox.fresh w1 (.string o1) (.string t1) (.slice X n k) 25)
 have zn1 := N1.out.lt
 obtain ⟨w2, hw2⟩ : ∃ w2, w1.alloc (.cells #[.string o1, .string t1, .slice X n k] 25) = w2 := ⟨_, rfl⟩
 have hz2 : w2.heap.size = w1.heap.size + 1 := by rw [← hw2]; simp
 rw [hw2] at N2 B2 R2 I2 V2
 go_wp2_with fail
 have HA3 := hid (at_texts w2 [sIs] #[.string ⟨#[105, 115]⟩] 9 rfl)
 try rw [hw2]
 rw [hz2] at HA3
 have zr2 := R2.out.lt
 refine (H1.out _ _ _ (R2.out.alloc _) HA3.out (fun ad e => by cases e; first | (show w.heap.size + 1 ≠ r; omega) | (show w1.heap.size + 1 ≠ r; omega))).mono ?_
 rintro e w3 ⟨rfl, hb, hr⟩
 have N3 := hid ((N2.out.alloc _).but (by omega) hb)
 have B3 := hid ((B2.out.alloc _).trans hb)
 have R3 := hid hr
 have V3 := hid ((V2.out.alloc _).but (by omega) hb)
 have zi3 : w1.heap.size < w3.heap.size := V3.out.lt
 have I3 := hid (fun hq => ((I2.out hq).alloc (fun g hg => by have h9 := hg.2; omega) _).but (fun g hg => ⟨by have h9 := hg.2; simp; omega, by have h9 := hg.1; omega⟩) hb)
 have zs3 : w2.heap.size ≤ w3.heap.size := by have := hb.size; simp at this; omega
 clear hb hr
 go_wp2_with fail
 have HA4 := hid (at_texts w3 (opsL 4) #[.string ⟨#[61]⟩, .string ⟨#[60, 62]⟩, .string ⟨#[60]⟩, .string ⟨#[60, 61]⟩, .string ⟨#[62]⟩, .string ⟨#[62, 61]⟩] 9 rfl)
 have zr3 := R3.out.lt
 refine (H2.out _ _ _ (R3.out.alloc _) HA4.out (fun ad e => by cases e; first | (show w.heap.size + 1 ≠ r; omega) | (show w3.heap.size ≠ r; omega))).mono ?_
 rintro e w4 ⟨rfl, hb, hr⟩
 have N4 := hid ((N3.out.alloc _).but (by omega) hb)
 have B4 := hid ((B3.out.alloc _).trans hb)
 have R4 := hid hr
 have V4 := hid ((V3.out.alloc _).but (by omega) hb)
 have zi4 : w1.heap.size < w4.heap.size := V4.out.lt
 have I4 := hid (fun hq => ((I3.out hq).alloc (fun g hg => by have h9 := hg.2; omega) _).but (fun g hg => ⟨by have h9 := hg.2; simp; omega, by have h9 := hg.1; omega⟩) hb)
 have zs4 : w3.heap.size ≤ w4.heap.size := by have := hb.size; simp at this; omega
 clear hb hr
 go_wp2_with fail
 refine (HY.out _ R4.out).mono ?_
 rintro e w5 ⟨o2, t2, X2, n2, k2, rfl, hn5, hb, hr5⟩
 dsimp only at hn5 hr5
 have z5 : w4.heap.size ≤ w5.heap.size := hb.size
 have N5 := hid (N4.out.but (by omega) hb)
 have V5 := hid (V4.out.but (by omega) hb)
 have B5 := hid (B4.out.trans hb)
 have R5 := hid hr5
 have I5 := hid (fun hq => (I4.out hq).but (fun g hg => ⟨by have h9 := hg.2; omega, by have h9 := hg.1; omega⟩) hb)
 have Y5 := hid (fun hq : b = false => (hn5 hq).imp (S' := fun g => w1.heap.size < g ∧ g < w5.heap.size) (fun g hg => by rcases hg with hg | hg; exact hg.elim; omega))
 clear hn5 hb hr5
 have N6 := hid (N5.out.alloc (.cells #[.string o2, .string t2, .slice X2 n2 k2] 25))
 have V6 := hid (V5.out.alloc (.cells #[.string o2, .string t2, .slice X2 n2 k2] 25))
 have B6 := hid (B5.out.alloc (.cells #[.string o2, .string t2, .slice X2 n2 k2] 25))
 have R6 := hid (R5.out.alloc (.cells #[.string o2, .string t2, .slice X2 n2 k2] 25))
 have U6 := hid (NBox.fresh w5 (.string o2) (.string t2) (.slice X2 n2 k2) 25)
 have I6 := hid (fun hq => (I5.out hq).alloc (fun g hg => by have h9 := hg.2; omega) (.cells #[.string o2, .string t2, .slice X2 n2 k2] 25))
 have Y6 := hid (fun hq : b = false => (Y5.out hq).alloc (fun g hg => hg.2) (.cells #[.string o2, .string t2, .slice X2 n2 k2] 25))
 have zv5 := V5.out.lt
 have zn5 := N5.out.lt
 obtain ⟨w6, hw6⟩ : ∃ w6, w5.alloc (.cells #[.string o2, .string t2, .slice X2 n2 k2] 25) = w6 := ⟨_, rfl⟩
 have hz6 : w6.heap.size = w5.heap.size + 1 := by rw [← hw6]; simp
 rw [hw6] at N6 V6 B6 R6 U6 I6 Y6
 have I7 := hid (fun hq : b = false => NIn.two o ((I6.out (by first | exact trivial | rfl)).imp (S' := fun g => w.heap.size < g ∧ g < w5.heap.size) (fun g hg => ⟨hg.1, by have h9 := hg.2; omega⟩)) ((Y6.out hq).imp (S' := fun g => w.heap.size < g ∧ g < w5.heap.size) (fun g hg => ⟨by have h9 := hg.1; omega, hg.2⟩)) (fun g hg => by have h9 := hg.2; omega) (S' := fun g => w.heap.size < g ∧ g < w6.heap.size + 1) (fun g hg => ⟨hg.1, by have h9 := hg.2; omega⟩) ⟨by omega, by omega⟩ 25)
 rw [hz6] at I7
 have N7 := hid (N6.out.alloc (.cells #[.string o1, .string t1, .slice X n k, .string o2, .string t2, .slice X2 n2 k2] 25))
 have B7 := hid (B6.out.alloc (.cells #[.string o1, .string t1, .slice X n k, .string o2, .string t2, .slice X2 n2 k2] 25))
 have R7 := hid (R6.out.alloc (.cells #[.string o1, .string t1, .slice X n k, .string o2, .string t2, .slice X2 n2 k2] 25))
 obtain ⟨v0, v1, v2, vf⟩ := V6.out
 obtain ⟨u0, u1, u2, uf⟩ := U6.out
 go_wp2_with fail
 try rw [hw6]
 refine (HO.out _ _ _ _ _).mono ?_
 rintro e w8 ⟨rfl, hb⟩
 have z8 : w5.heap.size + 2 ≤ w8.heap.size := by have h9 := hb.size; simp at h9; omega
 have N8 := hid (N7.out.below hb)
 have B8 := hid (B7.out.next hb)
 have R8 := hid (R7.out.below hb)
 have I8 := hid (fun hq : b = false => ((I7.out hq).below (fun g hg => by have h9 := hg.2; simp; omega) hb).imp (S' := fun g => w.heap.size < g ∧ g < w8.heap.size) (fun g hg => ⟨hg.1, by have h9 := hg.2; omega⟩))
 clear hb v0 v1 v2 vf u0 u1 u2 uf
 obtain ⟨x0, x1, x2, xf⟩ := N8.out
 have zn := N8.out.lt
 obtain ⟨q, hq⟩ : ∃ q, (!b) = q := ⟨_, rfl⟩
 go_wp2
 have Y := N8.out.set (.string o) (.string ⟨#[]⟩) (.slice (some ⟨w5.heap.size + 1, 0, none⟩) 2 2)
 exact bodyPost_ret (v := .tuple #[.agg #[.string o, .string ⟨#[]⟩, .slice (some ⟨w5.heap.size + 1, 0, none⟩) 2 2], .bool (!b)]) (by simp [results, Tryz.results170, go_sem, Y.c0, Y.c1, Y.c2, hq]) rfl
  (give_ret I8.out B8.out R8.out hrl)
end
end Go.Proofs.YtjbpkpfmgbhlpaaGreatDoor.Code
