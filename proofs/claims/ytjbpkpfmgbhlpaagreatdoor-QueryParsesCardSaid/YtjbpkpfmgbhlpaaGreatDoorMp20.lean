/-
  The program's reader of expressions: what its functions do with so many steps; or, and, sum, times, not.
-/
import Derived.Test.YtjbpkpfmgbhlpaaGreatDoorMp19
set_option maxRecDepth 100000
set_option maxHeartbeats 16000000
open Go.Lib (hid)
namespace Go.Proofs.YtjbpkpfmgbhlpaaGreatDoor.Code
open Go.ChangeShapes Go.WideShapes Go.ChangeAt Go.RowKit Val Elems
set_option linter.unusedVariables false
set_option linter.unusedSimpArgs false
section
variable {r : Nat} {m : Int} {A : Option Addr} {cap : Nat} {l : List W} {f : Nat}
def Part (fn : Nat) (r : Nat) (m : Int) (A : Option Addr) (cap : Nat) (l : List W) (f lv : Nat) : Prop :=
 ∀ (i : Nat) (w : World), i ≤ l.length → mu (bare l) (.expr lv) i < f → Rd w r m A cap l i → Calls Tryz.prog fn #[.pointer (some ⟨r, 0, none⟩)] w (Gives r m A cap l w NoBlk (P (bare l) f (.expr lv) i false))
structure Goes (r : Nat) (m : Int) (A : Option Addr) (cap : Nat) (l : List W) (f : Nat) : Prop where
 g_or : Part 144 r m A cap l f 1
 g_and : Part 155 r m A cap l f 2
 g_not : Part 163 r m A cap l f 3
 g_test : Part 170 r m A cap l f 4
 g_sum : Part 176 r m A cap l f 5
 g_times : Part 182 r m A cap l f 6
 g_sign : Part 185 r m A cap l f 7
theorem at_texts (w : World) (ls : List (List UInt8)) (cs : Array Value) (t : TypeId) (hc : cs = (ls.map fun s => Value.string ⟨s.toArray⟩).toArray) : At sc 1 (w.alloc (.cells cs t)) (w.alloc (.cells cs t)).heap.size (some ⟨w.heap.size, 0, none⟩) ls := by
 subst hc
 have := texts_new w ls t _ rfl
 rw [show ∀ o, (w.alloc o).heap.size = w.heap.size + 1 from fun o => by simp]
 exact this
theorem give_pass {w w0 w3 : World} {T : Tr} {b : Bool} {op tx : ByteArray} {X : Option Addr} {n k : Nat} (hn : b = false → NIn w3 (fun g => NoBlk g ∨ (w0.heap.size ≤ g ∧ g < w3.heap.size)) T (.string op) (.string tx) (.slice X n k)) (h0 : w.heap.size < w0.heap.size) : b = false → NIn w3 (fun g => w.heap.size < g ∧ g < w3.heap.size) T (.string op) (.string tx) (.slice X n k) :=
 fun hq => (hn hq).imp (fun g hg => by rcases hg with hg | hg; exact hg.elim; omega)
theorem e_or (D : Goes r m A cap l f) (hg : Good l) : Part 144 r m A cap l (f + 1) 1 := by
 intro i w hi hm h
 obtain ⟨res, hres⟩ : ∃ res, P (bare l) (f + 1) (.expr 1) i false = res := ⟨_, rfl⟩
 have HC := hid (fun S sc' w1 hs hne hr => echain_any (r := r) (m := m) (A := A) (cap := cap) (l := l) (f := f) 1 (by omega) 155 (enters_of Tryz.func155 (by kernel_rfl) rfl) D.g_and hg S sc' i w1 hs hne hi hm hr)
 rw [hres] at HC
 rw [hres]
 obtain ⟨x, j, b⟩ := res
 have HR := hid h
 have hrl := h.lt
 clear h hm D hg hres
 go_enter Tryz.func144, Tryz.ntmps144
 obtain ⟨w0, hw0, hz0, N0, B0⟩ := made0 w r
 have R0 := hid (show Rd w0 r m A cap l i by rw [← hw0]; exact HR.out.alloc _)
 go_wp2_with fail
 try rw [hw0]
 have HA := hid (at_texts w0 (opsL 1) #[.string ⟨#[111, 114]⟩] 9 rfl)
 rw [hz0] at HA
 refine (HC.out _ _ _ HA.out (fun ad e => by cases e; show w.heap.size + 1 ≠ r; omega) (R0.out.alloc _)).mono ?_
 rintro e w2 ⟨o1, t1, X, n, k, rfl, hn1, hb1, hr1⟩
 dsimp only at hn1 hr1
 have I2 := hid (give_pass (w := w) hn1 (by simp; omega))
 have B2 := hid ((B0.out.alloc _).trans hb1)
 have R2 := hid hr1
 have N2 := hid ((N0.out.alloc _).but (by omega) hb1)
 clear hn1 hb1 hr1
 obtain ⟨x0, x1, x2, xf⟩ := N2.out
 have zn := N2.out.lt
 obtain ⟨q, hq⟩ : ∃ q, (!b) = q := ⟨_, rfl⟩
 go_wp2
 have Y := N2.out.set (.string o1) (.string t1) (.slice X n k)
 exact bodyPost_ret (v := .tuple #[.agg #[.string o1, .string t1, .slice X n k], .bool (!b)]) (by simp [results, Tryz.results144, go_sem, Y.c0, Y.c1, Y.c2, hq]) rfl
  (give_ret I2.out B2.out R2.out hrl)
theorem e_and (D : Goes r m A cap l f) (hg : Good l) : Part 155 r m A cap l (f + 1) 2 := by
 intro i w hi hm h
 obtain ⟨res, hres⟩ : ∃ res, P (bare l) (f + 1) (.expr 2) i false = res := ⟨_, rfl⟩
 have HC := hid (fun S sc' w1 hs hne hr => echain_any (r := r) (m := m) (A := A) (cap := cap) (l := l) (f := f) 2 (by omega) 163 (enters_of Tryz.func163 (by kernel_rfl) rfl) D.g_not hg S sc' i w1 hs hne hi hm hr)
 rw [hres] at HC
 rw [hres]
 obtain ⟨x, j, b⟩ := res
 have HR := hid h
 have hrl := h.lt
 clear h hm D hg hres
 go_enter Tryz.func155, Tryz.ntmps155
 obtain ⟨w0, hw0, hz0, N0, B0⟩ := made0 w r
 have R0 := hid (show Rd w0 r m A cap l i by rw [← hw0]; exact HR.out.alloc _)
 go_wp2_with fail
 try rw [hw0]
 have HA := hid (at_texts w0 (opsL 2) #[.string ⟨#[97, 110, 100]⟩] 9 rfl)
 rw [hz0] at HA
 refine (HC.out _ _ _ HA.out (fun ad e => by cases e; show w.heap.size + 1 ≠ r; omega) (R0.out.alloc _)).mono ?_
 rintro e w2 ⟨o1, t1, X, n, k, rfl, hn1, hb1, hr1⟩
 dsimp only at hn1 hr1
 have I2 := hid (give_pass (w := w) hn1 (by simp; omega))
 have B2 := hid ((B0.out.alloc _).trans hb1)
 have R2 := hid hr1
 have N2 := hid ((N0.out.alloc _).but (by omega) hb1)
 clear hn1 hb1 hr1
 obtain ⟨x0, x1, x2, xf⟩ := N2.out
 have zn := N2.out.lt
 obtain ⟨q, hq⟩ : ∃ q, (!b) = q := ⟨_, rfl⟩
 go_wp2
 have Y := N2.out.set (.string o1) (.string t1) (.slice X n k)
 exact bodyPost_ret (v := .tuple #[.agg #[.string o1, .string t1, .slice X n k], .bool (!b)]) (by simp [results, Tryz.results155, go_sem, Y.c0, Y.c1, Y.c2, hq]) rfl
  (give_ret I2.out B2.out R2.out hrl)
theorem e_sum (D : Goes r m A cap l f) (hg : Good l) : Part 176 r m A cap l (f + 1) 5 := by
 intro i w hi hm h
 obtain ⟨res, hres⟩ : ∃ res, P (bare l) (f + 1) (.expr 5) i false = res := ⟨_, rfl⟩
 have HC := hid (fun S sc' w1 hs hne hr => echain_any (r := r) (m := m) (A := A) (cap := cap) (l := l) (f := f) 5 (by omega) 182 (enters_of Tryz.func182 (by kernel_rfl) rfl) D.g_times hg S sc' i w1 hs hne hi hm hr)
 rw [hres] at HC
 rw [hres]
 obtain ⟨x, j, b⟩ := res
 have HR := hid h
 have hrl := h.lt
 clear h hm D hg hres
 go_enter Tryz.func176, Tryz.ntmps176
 obtain ⟨w0, hw0, hz0, N0, B0⟩ := made0 w r
 have R0 := hid (show Rd w0 r m A cap l i by rw [← hw0]; exact HR.out.alloc _)
 go_wp2_with fail
 try rw [hw0]
 have HA := hid (at_texts w0 (opsL 5) #[.string ⟨#[43]⟩, .string ⟨#[45]⟩] 9 rfl)
 rw [hz0] at HA
 refine (HC.out _ _ _ HA.out (fun ad e => by cases e; show w.heap.size + 1 ≠ r; omega) (R0.out.alloc _)).mono ?_
 rintro e w2 ⟨o1, t1, X, n, k, rfl, hn1, hb1, hr1⟩
 dsimp only at hn1 hr1
 have I2 := hid (give_pass (w := w) hn1 (by simp; omega))
 have B2 := hid ((B0.out.alloc _).trans hb1)
 have R2 := hid hr1
 have N2 := hid ((N0.out.alloc _).but (by omega) hb1)
 clear hn1 hb1 hr1
 obtain ⟨x0, x1, x2, xf⟩ := N2.out
 have zn := N2.out.lt
 obtain ⟨q, hq⟩ : ∃ q, (!b) = q := ⟨_, rfl⟩
 go_wp2
 have Y := N2.out.set (.string o1) (.string t1) (.slice X n k)
 exact bodyPost_ret (v := .tuple #[.agg #[.string o1, .string t1, .slice X n k], .bool (!b)]) (by simp [results, Tryz.results176, go_sem, Y.c0, Y.c1, Y.c2, hq]) rfl
  (give_ret I2.out B2.out R2.out hrl)
theorem e_times (D : Goes r m A cap l f) (hg : Good l) : Part 182 r m A cap l (f + 1) 6 := by
 intro i w hi hm h
 obtain ⟨res, hres⟩ : ∃ res, P (bare l) (f + 1) (.expr 6) i false = res := ⟨_, rfl⟩
 have HC := hid (fun S sc' w1 hs hne hr => echain_any (r := r) (m := m) (A := A) (cap := cap) (l := l) (f := f) 6 (by omega) 185 (enters_of Tryz.func185 (by kernel_rfl) rfl) D.g_sign hg S sc' i w1 hs hne hi hm hr)
 rw [hres] at HC
 rw [hres]
 obtain ⟨x, j, b⟩ := res
 have HR := hid h
 have hrl := h.lt
 clear h hm D hg hres
 go_enter Tryz.func182, Tryz.ntmps182
 obtain ⟨w0, hw0, hz0, N0, B0⟩ := made0 w r
 have R0 := hid (show Rd w0 r m A cap l i by rw [← hw0]; exact HR.out.alloc _)
 go_wp2_with fail
 try rw [hw0]
 have HA := hid (at_texts w0 (opsL 6) #[.string ⟨#[42]⟩] 9 rfl)
 rw [hz0] at HA
 refine (HC.out _ _ _ HA.out (fun ad e => by cases e; show w.heap.size + 1 ≠ r; omega) (R0.out.alloc _)).mono ?_
 rintro e w2 ⟨o1, t1, X, n, k, rfl, hn1, hb1, hr1⟩
 dsimp only at hn1 hr1
 have I2 := hid (give_pass (w := w) hn1 (by simp; omega))
 have B2 := hid ((B0.out.alloc _).trans hb1)
 have R2 := hid hr1
 have N2 := hid ((N0.out.alloc _).but (by omega) hb1)
 clear hn1 hb1 hr1
 obtain ⟨x0, x1, x2, xf⟩ := N2.out
 have zn := N2.out.lt
 obtain ⟨q, hq⟩ : ∃ q, (!b) = q := ⟨_, rfl⟩
 go_wp2
 have Y := N2.out.set (.string o1) (.string t1) (.slice X n k)
 exact bodyPost_ret (v := .tuple #[.agg #[.string o1, .string t1, .slice X n k], .bool (!b)]) (by simp [results, Tryz.results182, go_sem, Y.c0, Y.c1, Y.c2, hq]) rfl
  (give_ret I2.out B2.out R2.out hrl)
end
section
variable {r : Nat} {m : Int} {A : Option Addr} {cap : Nat} {l : List W} {f : Nat}
theorem one_yes {L : List V} {i : Nat} {b : Bool} {s : List UInt8} (h : isW L i b s = true) : oneL L i b [s] = s := by rw [oneL, if_pos h]
theorem one_no {L : List V} {i : Nat} {b : Bool} {s : List UInt8} (h : isW L i b s = false) : oneL L i b [s] = [] := by rw [oneL, if_neg (by rw [h]; decide), oneL]
theorem etake_no (hg : Good l) (i : Nat) (ls : List (List UInt8)) (S : Option Addr) (sc' : Nat) (w : World) (h : Rd w r m A cap l i) (hi : i ≤ l.length) (hs : At sc 1 w w.heap.size S ls) (hne : ∀ ad, S = some ad → ad.block ≠ r) (hls : ls.length ≤ 100) (hn0 : [] ∉ ls) (hq : oneL (bare l) i false ls = []) :
  Calls Tryz.prog 161 #[.pointer (some ⟨r, 0, none⟩), .slice S ls.length sc'] w fun e w' => e = .returned (.string ⟨#[]⟩) ∧ But w w' r ∧ Rd w' r m A cap l i :=
 (etake_any hg i S sc' ls w h hi hs hne hls hn0 [] hq).mono fun e w' ⟨h1, h2, h3⟩ => ⟨h1, h2, h3⟩
theorem etake_yes (hg : Good l) (i : Nat) (ls : List (List UInt8)) (o : ByteArray) (S : Option Addr) (sc' : Nat) (w : World) (h : Rd w r m A cap l i) (hi : i ≤ l.length) (hs : At sc 1 w w.heap.size S ls) (hne : ∀ ad, S = some ad → ad.block ≠ r) (hls : ls.length ≤ 100) (hn0 : [] ∉ ls) (ho : o.data.toList ≠ []) (hq : oneL (bare l) i false ls = o.data.toList) :
  Calls Tryz.prog 161 #[.pointer (some ⟨r, 0, none⟩), .slice S ls.length sc'] w fun e w' => e = .returned (.string o) ∧ But w w' r ∧ Rd w' r m A cap l (i + 1) :=
 (etake_any hg i S sc' ls w h hi hs hne hls hn0 _ hq).mono fun e w' ⟨h1, h2, h3⟩ => ⟨by rw [h1, Lib.mk_data], h2, by rw [if_neg ho] at h3; exact h3⟩
theorem Gives.alloc {w w' : World} {S : Nat → Prop} {res : Tr × Nat × Bool} {e : Ending} (h : Gives r m A cap l w S res e w') (hS : ∀ g, S g → g < w'.heap.size) (o : Obj) : Gives r m A cap l w S res e (w'.alloc o) := by
 obtain ⟨op, tx, X, n, k, he, hn, hb, hr⟩ := h
 exact ⟨op, tx, X, n, k, he, fun hq => ((hn hq).alloc (fun g hg => by rcases hg with hg | hg; exact hS g hg; exact hg.2) o).imp (fun g hg => by rcases hg with hg | hg; exact .inl hg; exact .inr ⟨hg.1, by simp; omega⟩), hb.alloc o, hr.alloc o⟩
theorem e_not_yes (D : Goes r m A cap l f) (hg : Good l) (i : Nat) (w : World) (hi : i ≤ l.length) (hm : mu (bare l) (.expr 3) i < f + 1) (h : Rd w r m A cap l i) (hq : isW (bare l) i false sNot = true) :
  Calls Tryz.prog 163 #[.pointer (some ⟨r, 0, none⟩)] w (Gives r m A cap l w NoBlk (P (bare l) (f + 1) (.expr 3) i false)) := by
 have hil : i < l.length := by have := isW_lt hq; rwa [bare_length] at this
 obtain ⟨R, hx⟩ : ∃ R, P (bare l) f (.expr 3) (i + 1) false = R := ⟨_, rfl⟩
 obtain ⟨x, j, b⟩ := R
 have hP : P (bare l) (f + 1) (.expr 3) i false = (.one sNot x, j, b) := by rw [P, if_neg (by decide), if_pos rfl, if_pos hq, hx]
 have hmu := mu_next (L := bare l) (by rw [bare_length]; exact hil) (.expr 3) (.expr 3) ⟨by omega, by omega⟩ (by decide)
 rw [hP]
 have HI := hid (fun w1 hr => eahead_any (r := r) (m := m) (A := A) (cap := cap) (l := l) ⟨#[110, 111, 116]⟩ 163 (enters_of Tryz.func163 (by kernel_rfl) rfl) (i + 1) x j b w1 hr (fun w2 hr2 => by rw [← hx]; exact D.g_not (i + 1) w2 (by omega) (by omega) hr2))
 have H1 := hid (fun S sc' w1 (hr : Rd w1 r m A cap l i) hs hne => etake_yes hg i [sNot] ⟨#[110, 111, 116]⟩ S sc' w1 hr hi hs hne (by decide) (by decide) (by decide) (one_yes hq))
 have HR := hid h
 have hrl := h.lt
 clear h hm D hg hx hP hmu hq
 go_enter Tryz.func163, Tryz.ntmps163
 obtain ⟨w0, hw0, hz0, N0, B0⟩ := made0 w r
 have R0 := hid (show Rd w0 r m A cap l i by rw [← hw0]; exact HR.out.alloc _)
 go_wp2_with fail
 try rw [hw0]
 have HA1 := hid (at_texts w0 [sNot] #[.string ⟨#[110, 111, 116]⟩] 9 rfl)
 rw [hz0] at HA1
 have zr0 := R0.out.lt
 refine (H1.out _ _ _ (R0.out.alloc _) HA1.out (fun ad e => by cases e; first | (show w.heap.size + 1 ≠ r; omega) | (show w0.heap.size ≠ r; omega))).mono ?_
 rintro e w1 ⟨rfl, hb, hr⟩
 have N1 := hid ((N0.out.alloc _).but (by omega) hb)
 have B1 := hid ((B0.out.alloc _).trans hb)
 have R1 := hid hr
 have zs1 : w0.heap.size ≤ w1.heap.size := by have := hb.size; simp at this; omega
 clear hb hr
 go_wp2_with fail
 refine (HI.out _ R1.out).mono ?_
 rintro e w2 ⟨o1, t1, X, n, k, rfl, hn1, hb1, hr1⟩
 dsimp only at hn1 hr1
 have z1 := R1.out.lt
 have I2 := hid (give_pass (w := w) hn1 (by omega))
 have B2 := hid (B1.out.trans hb1)
 have R2 := hid hr1
 have N2 := hid (N1.out.but (by omega) hb1)
 clear hn1 hb1 hr1
 obtain ⟨x0, x1, x2, xf⟩ := N2.out
 have zn := N2.out.lt
 obtain ⟨q, hq⟩ : ∃ q, (!b) = q := ⟨_, rfl⟩
 go_wp2
 have Y := N2.out.set (.string o1) (.string t1) (.slice X n k)
 exact bodyPost_ret (v := .tuple #[.agg #[.string o1, .string t1, .slice X n k], .bool (!b)]) (by simp [results, Tryz.results163, go_sem, Y.c0, Y.c1, Y.c2, hq]) rfl
  (give_ret I2.out B2.out R2.out hrl)
theorem e_not_no (D : Goes r m A cap l f) (hg : Good l) (i : Nat) (w : World) (hi : i ≤ l.length) (hm : mu (bare l) (.expr 3) i < f + 1) (h : Rd w r m A cap l i) (hq : isW (bare l) i false sNot = false) :
  Calls Tryz.prog 163 #[.pointer (some ⟨r, 0, none⟩)] w (Gives r m A cap l w NoBlk (P (bare l) (f + 1) (.expr 3) i false)) := by
 obtain ⟨R, hx⟩ : ∃ R, P (bare l) f (.expr 4) i false = R := ⟨_, rfl⟩
 obtain ⟨x, j, b⟩ := R
 have hP : P (bare l) (f + 1) (.expr 3) i false = (x, j, b) := by rw [P, if_neg (by decide), if_pos rfl, if_neg (by rw [hq]; decide), hx]
 rw [hP]
 have e0 : mu (bare l) (.expr 3) i = 16 * ((bare l).length - i) + 11 := rfl
 have e1 : mu (bare l) (.expr 4) i = 16 * ((bare l).length - i) + 9 := rfl
 have HI := hid (fun w1 hr => D.g_test i w1 hi (by omega) hr)
 rw [hx] at HI
 have H1 := hid (fun S sc' w1 (hr : Rd w1 r m A cap l i) hs hne => etake_no hg i [sNot] S sc' w1 hr hi hs hne (by decide) (by decide) (one_no hq))
 have HR := hid h
 have hrl := h.lt
 clear h hm D hg hx hP hq e0 e1
 go_enter Tryz.func163, Tryz.ntmps163
 obtain ⟨w0, hw0, hz0, N0, B0⟩ := made0 w r
 have R0 := hid (show Rd w0 r m A cap l i by rw [← hw0]; exact HR.out.alloc _)
 go_wp2_with fail
 try rw [hw0]
 have HA1 := hid (at_texts w0 [sNot] #[.string ⟨#[110, 111, 116]⟩] 9 rfl)
 rw [hz0] at HA1
 have zr0 := R0.out.lt
 refine (H1.out _ _ _ (R0.out.alloc _) HA1.out (fun ad e => by cases e; first | (show w.heap.size + 1 ≠ r; omega) | (show w0.heap.size ≠ r; omega))).mono ?_
 rintro e w1 ⟨rfl, hb, hr⟩
 have N1 := hid ((N0.out.alloc _).but (by omega) hb)
 have B1 := hid ((B0.out.alloc _).trans hb)
 have R1 := hid hr
 have zs1 : w0.heap.size ≤ w1.heap.size := by have := hb.size; simp at this; omega
 clear hb hr
 go_wp2_with fail
 refine (HI.out _ R1.out).mono ?_
 rintro e w2 ⟨o1, t1, X, n, k, rfl, hn1, hb1, hr1⟩
 dsimp only at hn1 hr1
 have z1 := R1.out.lt
 have I2 := hid (give_pass (w := w) hn1 (by omega))
 have B2 := hid (B1.out.trans hb1)
 have R2 := hid hr1
 have N2 := hid (N1.out.but (by omega) hb1)
 clear hn1 hb1 hr1
 obtain ⟨x0, x1, x2, xf⟩ := N2.out
 have zn := N2.out.lt
 obtain ⟨q, hq⟩ : ∃ q, (!b) = q := ⟨_, rfl⟩
 go_wp2
 have Y := N2.out.set (.string o1) (.string t1) (.slice X n k)
 exact bodyPost_ret (v := .tuple #[.agg #[.string o1, .string t1, .slice X n k], .bool (!b)]) (by simp [results, Tryz.results163, go_sem, Y.c0, Y.c1, Y.c2, hq]) rfl
  (give_ret I2.out B2.out R2.out hrl)
theorem sgn (L : List V) (f i : Nat) (b : Bool) : P L (f + 1) (.expr 7) i b = P L f .sign i b := by rw [P, if_pos rfl]
theorem es_neg (D : Goes r m A cap l (f + 1)) (hg : Good l) (i : Nat) (w : World) (hi : i ≤ l.length) (hm : mu (bare l) (.expr 7) i < f + 2) (h : Rd w r m A cap l i) (hq : isW (bare l) i false [45] = true) :
  Calls Tryz.prog 185 #[.pointer (some ⟨r, 0, none⟩)] w (Gives r m A cap l w NoBlk (P (bare l) (f + 1) .sign i false)) := by
 have hil : i < l.length := by have := isW_lt hq; rwa [bare_length] at this
 obtain ⟨R, hx⟩ : ∃ R, P (bare l) f .sign (i + 1) false = R := ⟨_, rfl⟩
 obtain ⟨x, j, b⟩ := R
 have hP : P (bare l) (f + 1) .sign i false = (.one sNeg x, j, b) := by rw [P, if_pos hq, hx]
 have hmu := mu_next (L := bare l) (by rw [bare_length]; exact hil) (.expr 7) (.expr 7) ⟨by omega, by omega⟩ (by decide)
 rw [hP]
 have HI := hid (fun w1 hr => eahead_any (r := r) (m := m) (A := A) (cap := cap) (l := l) ⟨#[110, 101, 103]⟩ 185 (enters_of Tryz.func185 (by kernel_rfl) rfl) (i + 1) x j b w1 hr (fun w2 hr2 => by rw [← hx, ← sgn]; exact D.g_sign (i + 1) w2 (by omega) (by omega) hr2))
 have H1 := hid (fun S sc' w1 (hr : Rd w1 r m A cap l i) hs hne => etake_yes hg i [[45]] ⟨#[45]⟩ S sc' w1 hr hi hs hne (by decide) (by decide) (by decide) (one_yes hq))
 have HR := hid h
 have hrl := h.lt
 clear h hm D hg hx hP hmu hq
 go_enter Tryz.func185, Tryz.ntmps185
 obtain ⟨w0, hw0, hz0, N0, B0⟩ := made0 w r
 have R0 := hid (show Rd w0 r m A cap l i by rw [← hw0]; exact HR.out.alloc _)
 go_wp2_with fail
 try rw [hw0]
 have HA1 := hid (at_texts w0 [[45]] #[.string ⟨#[45]⟩] 9 rfl)
 rw [hz0] at HA1
 have zr0 := R0.out.lt
 refine (H1.out _ _ _ (R0.out.alloc _) HA1.out (fun ad e => by cases e; first | (show w.heap.size + 1 ≠ r; omega) | (show w0.heap.size ≠ r; omega))).mono ?_
 rintro e w1 ⟨rfl, hb, hr⟩
 have N1 := hid ((N0.out.alloc _).but (by omega) hb)
 have B1 := hid ((B0.out.alloc _).trans hb)
 have R1 := hid hr
 have zs1 : w0.heap.size ≤ w1.heap.size := by have := hb.size; simp at this; omega
 clear hb hr
 go_wp2_with fail
 refine (HI.out _ R1.out).mono ?_
 rintro e w2 ⟨o1, t1, X, n, k, rfl, hn1, hb1, hr1⟩
 dsimp only at hn1 hr1
 have z1 := R1.out.lt
 have I2 := hid (give_pass (w := w) hn1 (by omega))
 have B2 := hid (B1.out.trans hb1)
 have R2 := hid hr1
 have N2 := hid (N1.out.but (by omega) hb1)
 clear hn1 hb1 hr1
 obtain ⟨x0, x1, x2, xf⟩ := N2.out
 have zn := N2.out.lt
 obtain ⟨q, hq⟩ : ∃ q, (!b) = q := ⟨_, rfl⟩
 go_wp2
 have Y := N2.out.set (.string o1) (.string t1) (.slice X n k)
 exact bodyPost_ret (v := .tuple #[.agg #[.string o1, .string t1, .slice X n k], .bool (!b)]) (by simp [results, Tryz.results185, go_sem, Y.c0, Y.c1, Y.c2, hq]) rfl
  (give_ret I2.out B2.out R2.out hrl)
theorem es_word (D : Goes r m A cap l (f + 1)) (hg : Good l) (i : Nat) (w : World) (hi : i ≤ l.length) (hm : mu (bare l) (.expr 7) i < f + 2) (h : Rd w r m A cap l i) (q1 : isW (bare l) i false [45] = false) (q2 : isW (bare l) i false [40] = false) (o : ByteArray) (ho : o.data.toList ≠ []) (q3 : oneL (bare l) i false [sTrue, sFalse, sNull] = o.data.toList) :
  Calls Tryz.prog 185 #[.pointer (some ⟨r, 0, none⟩)] w (Gives r m A cap l w NoBlk (P (bare l) (f + 1) .sign i false)) := by
 have hP : P (bare l) (f + 1) .sign i false = (.leaf o.data.toList [], i + 1, false) := by rw [P, if_neg (by rw [q1]; decide), if_neg (by rw [q2]; decide), if_neg (by rw [q3]; exact ho), q3]
 rw [hP]
 have H1 := hid (fun S sc' w1 (hr : Rd w1 r m A cap l i) hs hne => etake_no hg i [[45]] S sc' w1 hr hi hs hne (by decide) (by decide) (one_no q1))
 have H2 := hid (fun S sc' w1 (hr : Rd w1 r m A cap l i) hs hne => etake_no hg i [[40]] S sc' w1 hr hi hs hne (by decide) (by decide) (one_no q2))
 have H3 := hid (fun S sc' w1 (hr : Rd w1 r m A cap l i) hs hne => etake_yes hg i [sTrue, sFalse, sNull] o S sc' w1 hr hi hs hne (by decide) (by decide) ho q3)
 have ho2 : (o.toList == []) = false := by
  rw [ByteArray.toList_eq]
  simpa using ho
 have ho3 : (o.toList != []) = true := by
  rw [ByteArray.toList_eq]
  simpa using ho
 have HO := hid (fun o X n k w => eof_any o X n k w)
 have HR := hid h
 have hrl := h.lt
 clear h hm D hg hP q1 q2 q3 ho
 go_enter Tryz.func185, Tryz.ntmps185
 obtain ⟨w0, hw0, hz0, N0, B0⟩ := made0 w r
 have R0 := hid (show Rd w0 r m A cap l i by rw [← hw0]; exact HR.out.alloc _)
 go_wp2_with fail
 try rw [hw0]
 have HA1 := hid (at_texts w0 [[45]] #[.string ⟨#[45]⟩] 9 rfl)
 rw [hz0] at HA1
 have zr0 := R0.out.lt
 refine (H1.out _ _ _ (R0.out.alloc _) HA1.out (fun ad e => by cases e; first | (show w.heap.size + 1 ≠ r; omega) | (show w0.heap.size ≠ r; omega))).mono ?_
 rintro e w1 ⟨rfl, hb, hr⟩
 have N1 := hid ((N0.out.alloc _).but (by omega) hb)
 have B1 := hid ((B0.out.alloc _).trans hb)
 have R1 := hid hr
 have zs1 : w0.heap.size ≤ w1.heap.size := by have := hb.size; simp at this; omega
 clear hb hr
 go_wp2_with fail
 have HA2 := hid (at_texts w1 [[40]] #[.string ⟨#[40]⟩] 9 rfl)
 have zr1 := R1.out.lt
 refine (H2.out _ _ _ (R1.out.alloc _) HA2.out (fun ad e => by cases e; first | (show w.heap.size + 1 ≠ r; omega) | (show w1.heap.size ≠ r; omega))).mono ?_
 rintro e w2 ⟨rfl, hb, hr⟩
 have N2 := hid ((N1.out.alloc _).but (by omega) hb)
 have B2 := hid ((B1.out.alloc _).trans hb)
 have R2 := hid hr
 have zs2 : w1.heap.size ≤ w2.heap.size := by have := hb.size; simp at this; omega
 clear hb hr
 go_wp2_with fail
 have HA3 := hid (at_texts w2 [sTrue, sFalse, sNull] #[.string ⟨#[116, 114, 117, 101]⟩, .string ⟨#[102, 97, 108, 115, 101]⟩, .string ⟨#[110, 117, 108, 108]⟩] 9 rfl)
 have zr2 := R2.out.lt
 refine (H3.out _ _ _ (R2.out.alloc _) HA3.out (fun ad e => by cases e; first | (show w.heap.size + 1 ≠ r; omega) | (show w2.heap.size ≠ r; omega))).mono ?_
 rintro e w3 ⟨rfl, hb, hr⟩
 have N3 := hid ((N2.out.alloc _).but (by omega) hb)
 have B3 := hid ((B2.out.alloc _).trans hb)
 have R3 := hid hr
 have zs3 : w2.heap.size ≤ w3.heap.size := by have := hb.size; simp at this; omega
 clear hb hr
 go_wp2_with fail
 refine (HO.out _ _ _ _ _).mono ?_
 rintro e w4 ⟨rfl, hb⟩
 have N4 := hid (N3.out.below hb)
 have B4 := hid (B3.out.next hb)
 have R4 := hid (R3.out.below hb)
 have I4 := hid (show NIn w4 (fun g => w.heap.size < g ∧ g < w4.heap.size) (.leaf o.data.toList []) (.string o) (.string ⟨#[]⟩) (.slice none 0 0) from ⟨by rw [Lib.mk_data], rfl, rfl⟩)
 clear hb
 obtain ⟨x0, x1, x2, xf⟩ := N4.out
 have zn := N4.out.lt
 go_wp2
 have Y := N4.out.set (.string o) (.string ⟨#[]⟩) (.slice none 0 0)
 exact bodyPost_ret (v := .tuple #[.agg #[.string o, .string ⟨#[]⟩, .slice none 0 0], .bool (!false)]) (by simp [results, Tryz.results185, go_sem, Y.c0, Y.c1, Y.c2]) rfl
  (give_ret (b := false) (fun _ => I4.out) B4.out R4.out hrl)
theorem es_rest (D : Goes r m A cap l (f + 1)) (hg : Good l) (i : Nat) (w : World) (hi : i ≤ l.length) (hm : mu (bare l) (.expr 7) i < f + 2) (h : Rd w r m A cap l i) (q1 : isW (bare l) i false [45] = false) (q2 : isW (bare l) i false [40] = false) (q3 : oneL (bare l) i false [sTrue, sFalse, sNull] = []) (T : Tr) (j : Nat) (b : Bool) (o tx : ByteArray) (hT : b = false → T = .leaf o.data.toList tx.data.toList) (hP : P (bare l) (f + 1) .sign i false = (T, j, b)) (hj : j = if b = true then i else i + 1) (hop : ∀ w0, Env w0.heap.size m w0 → Calls Tryz.prog 186 #[.agg #[.int .i64 (wd l i).1, .string ⟨(wd l i).2.1.toArray⟩, .int .i64 (wd l i).2.2]] w0 fun e w' => e = .returned (.tuple #[.agg #[.string o, .string tx, .slice none 0 0], .bool (!b)]) ∧ Below w0.heap.size w0 w') :
  Calls Tryz.prog 185 #[.pointer (some ⟨r, 0, none⟩)] w (Gives r m A cap l w NoBlk (P (bare l) (f + 1) .sign i false)) := by
 rw [hP]
 have H1 := hid (fun S sc' w1 (hr : Rd w1 r m A cap l i) hs hne => etake_no hg i [[45]] S sc' w1 hr hi hs hne (by decide) (by decide) (one_no q1))
 have H2 := hid (fun S sc' w1 (hr : Rd w1 r m A cap l i) hs hne => etake_no hg i [[40]] S sc' w1 hr hi hs hne (by decide) (by decide) (one_no q2))
 have H3 := hid (fun S sc' w1 (hr : Rd w1 r m A cap l i) hs hne => etake_no hg i [sTrue, sFalse, sNull] S sc' w1 hr hi hs hne (by decide) (by decide) q3)
 have hlen := hg.len
 have HW := hid (fun w0 (hr : Rd w0 r m A cap l i) => eword_any i w0 hr hi hlen)
 have HOP := hid hop
 have HTT := hid (show false = b → T = .leaf o.data.toList tx.data.toList from fun e => hT e.symm)
 have HR := hid h
 have hrl := h.lt
 have HJ := hid hj
 clear h hm D hg hP q1 q2 q3 hop hT hj
 go_enter Tryz.func185, Tryz.ntmps185
 obtain ⟨w0, hw0, hz0, N0, B0⟩ := made0 w r
 have R0 := hid (show Rd w0 r m A cap l i by rw [← hw0]; exact HR.out.alloc _)
 go_wp2_with fail
 try rw [hw0]
 have HA1 := hid (at_texts w0 [[45]] #[.string ⟨#[45]⟩] 9 rfl)
 rw [hz0] at HA1
 have zr0 := R0.out.lt
 refine (H1.out _ _ _ (R0.out.alloc _) HA1.out (fun ad e => by cases e; first | (show w.heap.size + 1 ≠ r; omega) | (show w0.heap.size ≠ r; omega))).mono ?_
 rintro e w1 ⟨rfl, hb, hr⟩
 have N1 := hid ((N0.out.alloc _).but (by omega) hb)
 have B1 := hid ((B0.out.alloc _).trans hb)
 have R1 := hid hr
 have zs1 : w0.heap.size ≤ w1.heap.size := by have := hb.size; simp at this; omega
 clear hb hr
 go_wp2_with fail
 have HA2 := hid (at_texts w1 [[40]] #[.string ⟨#[40]⟩] 9 rfl)
 have zr1 := R1.out.lt
 refine (H2.out _ _ _ (R1.out.alloc _) HA2.out (fun ad e => by cases e; first | (show w.heap.size + 1 ≠ r; omega) | (show w1.heap.size ≠ r; omega))).mono ?_
 rintro e w2 ⟨rfl, hb, hr⟩
 have N2 := hid ((N1.out.alloc _).but (by omega) hb)
 have B2 := hid ((B1.out.alloc _).trans hb)
 have R2 := hid hr
 have zs2 : w1.heap.size ≤ w2.heap.size := by have := hb.size; simp at this; omega
 clear hb hr
 go_wp2_with fail
 have HA3 := hid (at_texts w2 [sTrue, sFalse, sNull] #[.string ⟨#[116, 114, 117, 101]⟩, .string ⟨#[102, 97, 108, 115, 101]⟩, .string ⟨#[110, 117, 108, 108]⟩] 9 rfl)
 have zr2 := R2.out.lt
 refine (H3.out _ _ _ (R2.out.alloc _) HA3.out (fun ad e => by cases e; first | (show w.heap.size + 1 ≠ r; omega) | (show w2.heap.size ≠ r; omega))).mono ?_
 rintro e w3 ⟨rfl, hb, hr⟩
 have N3 := hid ((N2.out.alloc _).but (by omega) hb)
 have B3 := hid ((B2.out.alloc _).trans hb)
 have R3 := hid hr
 have zs3 : w2.heap.size ≤ w3.heap.size := by have := hb.size; simp at this; omega
 clear hb hr
 go_wp2_with fail
 refine (HW.out _ R3.out).mono ?_
 rintro e w4 ⟨rfl, hb⟩
 have N4 := hid (N3.out.below hb)
 have B4 := hid (B3.out.next hb)
 have R4 := hid (R3.out.below hb)
 clear hb
 go_wp2_with fail
 refine (HOP.out _ R4.out.env).mono ?_
 rintro e w5 ⟨rfl, hb⟩
 have N5w := hid (N4.out.below hb)
 have B5w := hid (B4.out.next hb)
 have R5w := hid (R4.out.below hb)
 have N5 := hid ((N4.out.below hb).alloc (.cells #[.string o, .string tx, .slice none 0 0] 25))
 have B5 := hid ((B4.out.next hb).alloc (.cells #[.string o, .string tx, .slice none 0 0] 25))
 have R5 := hid ((R4.out.below hb).alloc (.cells #[.string o, .string tx, .slice none 0 0] 25))
 have V5 := hid (NBox.fresh w5 (.string o) (.string tx) (.slice none 0 0) 25)
 have z5 : w.heap.size < w5.heap.size := by have := R4.out.lt; have := hb.size; have := N4.out.lt; omega
 clear hb
 cases b
 ·obtain rfl : j = i + 1 := HJ.out
  have I5 := hid (show NIn ((w5.alloc (.cells #[.string o, .string tx, .slice none 0 0] 25)).setCell ⟨r, 1, none⟩ (.int .i64 ((i : Int) + 1))) (fun g => w.heap.size < g ∧ g < ((w5.alloc (.cells #[.string o, .string tx, .slice none 0 0] 25)).setCell ⟨r, 1, none⟩ (.int .i64 ((i : Int) + 1))).heap.size) T (.string o) (.string tx) (.slice none 0 0) by rw [HTT.out rfl]; exact ⟨by rw [Lib.mk_data], by rw [Lib.mk_data], rfl⟩)
  have R6 := hid (show Rd ((w5.alloc (.cells #[.string o, .string tx, .slice none 0 0] 25)).setCell ⟨r, 1, none⟩ (.int .i64 ((i : Int) + 1))) r m A cap l (i + 1) by have := R5.out.at (i + 1); rw [Int.natCast_add] at this; exact this)
  have B6 := hid (B5.out.setCell 1 (.int .i64 ((i : Int) + 1)))
  have N6 := hid (show NBox ((w5.alloc (.cells #[.string o, .string tx, .slice none 0 0] 25)).setCell ⟨r, 1, none⟩ (.int .i64 ((i : Int) + 1))) w.heap.size (.string ⟨#[]⟩) (.string ⟨#[]⟩) (.slice none 0 0) from
   ⟨(World.cell?_setCell_other _ _ _ _ (by first | (simp; omega) | simp)).trans N5.out.c0, (World.cell?_setCell_other _ _ _ _ (by first | (simp; omega) | simp)).trans N5.out.c1, (World.cell?_setCell_other _ _ _ _ (by first | (simp; omega) | simp)).trans N5.out.c2, fun k => by rw [World.frozen?_setCell]; exact N5.out.fr k⟩)
  have c1 := R5.out.c1
  have fr := R5.out.fr 1
  obtain ⟨x0, x1, x2, xf⟩ := N5w.out
  have zn := N5w.out.lt
  go_wp2
  have Y := N6.out.set (.string o) (.string tx) (.slice none 0 0)
  exact bodyPost_ret (v := .tuple #[.agg #[.string o, .string tx, .slice none 0 0], .bool (!false)]) (by simp [results, Tryz.results185, go_sem, Y.c0, Y.c1, Y.c2]) rfl
   (give_ret (b := false) (fun _ => I5.out) B6.out R6.out hrl)
 ·obtain rfl : j = i := HJ.out
  obtain ⟨x0, x1, x2, xf⟩ := N5w.out
  have zn := N5w.out.lt
  go_wp2
  have Y := (N5w.out.set (.string o) (.string tx) (.slice none 0 0)).alloc (.cells #[.string o, .string tx, .slice none 0 0] 25)
  exact bodyPost_ret (v := .tuple #[.agg #[.string o, .string tx, .slice none 0 0], .bool (!true)]) (by simp [results, Tryz.results185, go_sem, Y.c0, Y.c1, Y.c2]) rfl
   ((give_ret (b := true) (op := o) (tx := tx) (X := none) (n := 0) (k := 0) (fun h => (by cases h)) B5w.out R5w.out hrl).alloc (fun g hg => hg.elim) _)
end
end Go.Proofs.YtjbpkpfmgbhlpaaGreatDoor.Code
