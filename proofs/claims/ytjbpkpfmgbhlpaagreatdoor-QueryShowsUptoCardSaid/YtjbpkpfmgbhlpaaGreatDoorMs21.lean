/-
  The program's reader of expressions: a sign that is an expression in brackets.
-/
import Derived.Test.YtjbpkpfmgbhlpaaGreatDoorMs20
import Derived.Deep.RegionHeld3
import Derived.Test.YtjbpkpfmgbhlpaaGreatDoorMs18
import Derived.Test.YtjbpkpfmgbhlpaaGreatDoorMs4
import Derived.Test.YtjbpkpfmgbhlpaaGreatDoorMs3
set_option maxRecDepth 100000
set_option maxHeartbeats 16000000
open Go.Lib (hid)
namespace Go.Proofs.YtjbpkpfmgbhlpaaGreatDoor.Code
open Go.ChangeShapes Go.WideShapes Go.ChangeAt Go.RowKit Val Elems
set_option linter.unusedVariables false
set_option linter.unusedSimpArgs false
section
variable {r : Nat} {m : Int} {A : Option Addr} {cap : Nat} {l : List W} {f : Nat}
theorem Gives.next {w w' w2 : World} {S : Nat → Prop} {res : Tr × Nat × Bool} {e : Ending} (h : Gives r m A cap l w S res e w') (hb2 : Below w'.heap.size w' w2) (hS : ∀ g, S g → g < w'.heap.size) : Gives r m A cap l w S res e w2 := by
 obtain ⟨op, tx, X, n, k, he, hn, hb, hr⟩ := h
 have hz := hb2.size
 exact ⟨op, tx, X, n, k, he, fun hq => ((hn hq).below (fun g hg => by rcases hg with hg | hg; exact hS g hg; exact hg.2) hb2).imp (fun g hg => by rcases hg with hg | hg; exact .inl hg; exact .inr ⟨hg.1, by omega⟩), hb.next hb2, hr.below hb2⟩
theorem es_bad (D : Goes r m A cap l (f + 1)) (hg : Good l) (i : Nat) (w : World) (hi : i ≤ l.length) (hm : mu (bare l) (.expr 7) i < f + 2) (h : Rd w r m A cap l i) (q1 : isW (bare l) i false [45] = false) (q2 : isW (bare l) i false [40] = true) (x : Tr) (j : Nat) (hx : P (bare l) (f + 1) (.expr 1) (i + 1) false = (x, j, true)) :
  Calls Tryz.prog 185 #[.pointer (some ⟨r, 0, none⟩)] w (Gives r m A cap l w NoBlk (P (bare l) (f + 1) .sign i false)) := by
 have hil : i < l.length := by have := isW_lt q2; rwa [bare_length] at this
 have e0 : mu (bare l) (.expr 7) i = 16 * ((bare l).length - i) + 3 := rfl
 have e1 : mu (bare l) (.expr 1) (i + 1) = 16 * ((bare l).length - (i + 1)) + 15 := rfl
 have hps : P (bare l) f (.expr 1) (i + 1) false = P (bare l) (f + 1) (.expr 1) (i + 1) false := P_steps _ _ _ _ _ _ (by rw [bare_length]; omega) ⟨by omega, by omega⟩ (by rw [bare_length] at e0 e1; omega) (by rw [bare_length] at e0 e1; omega)
 have hje := P_ends (bare l) (f + 1) (.expr 1) (i + 1) false (by rw [bare_length]; omega)
 rw [hx, bare_length] at hje
 have hjl : j ≤ l.length := hje.2.1
 have HI := hid (fun w1 hr => D.g_or (i + 1) w1 (by omega) (by rw [bare_length] at e0 e1; omega) hr)
 rw [hx] at HI
 have hP : P (bare l) (f + 1) .sign i false = (x, j, true) := by rw [P, if_neg (by rw [q1]; decide), if_pos q2, hps, hx, if_neg (by rw [isW_bad]; decide)]
 rw [hP]
 have H1 := hid (fun S sc' w1 (hr : Rd w1 r m A cap l i) hs hne => etake_no hg i [[45]] S sc' w1 hr hi hs hne (by decide) (by decide) (one_no q1))
 have H2 := hid (fun S sc' w1 (hr : Rd w1 r m A cap l i) hs hne => etake_yes hg i [[40]] ⟨#[40]⟩ S sc' w1 hr hi hs hne (by decide) (by decide) (by decide) (one_yes q2))
 have HR := hid h
 have hrl := h.lt
 clear h hm D hg hx hP q1 q2 e0 e1 hps hje
 go_enter Tryz.func185, Tryz.ntmps185
 obtain ⟨w0, hw0, hz0, N0, B0⟩ := made0 w r
 have R0 := hid (show Rd w0 r m A cap l i by rw [← hw0]; exact HR.out.alloc _)
 go_wp2_with fail
 try rw [hw0]
 have HA1 := hid (at_texts w0 [[45]] #[.string ⟨#[45]⟩] 9 rfl)
 rw [hz0] at HA1
 have zr0 := R0.out.lt
 refine (H1.out _ _ _ (R0.out.alloc _) HA1.out (fun ad e => by cases e; first | (show w.heap.size + 1 ≠ r; omega) | (show w0.heap.size ≠ r; omega))).mono ?_
 rintro e w1 ⟨rfl, hb, hr⟩
 have N1 := hid ((N0.out.alloc _).but (by omega) hb)
 have B1 := hid ((B0.out.alloc _).trans hb)
 have R1 := hid hr
 have zs1 : w0.heap.size ≤ w1.heap.size := by have := hb.size; simp at this; omega
 clear hb hr
 go_wp2_with fail
 have HA2 := hid (at_texts w1 [[40]] #[.string ⟨#[40]⟩] 9 rfl)
 have zr1 := R1.out.lt
 refine (H2.out _ _ _ (R1.out.alloc _) HA2.out (fun ad e => by cases e; first | (show w.heap.size + 1 ≠ r; omega) | (show w1.heap.size ≠ r; omega))).mono ?_
 rintro e w2 ⟨rfl, hb, hr⟩
 have N2 := hid ((N1.out.alloc _).but (by omega) hb)
 have B2 := hid ((B1.out.alloc _).trans hb)
 have R2 := hid hr
 have zs2 : w1.heap.size ≤ w2.heap.size := by have := hb.size; simp at this; omega
 clear hb hr
 go_wp2_with fail
 refine (HI.out _ R2.out).mono ?_
 rintro e w3 ⟨o1, t1, X, n, k, rfl, hn1, hb1, hr1⟩
 dsimp only at hn1 hr1
 have z2 := R2.out.lt
 have I3 := hid (give_pass (w := w) hn1 (by omega))
 have B3 := hid (B2.out.trans hb1)
 have R3 := hid hr1
 have N3 := hid (N2.out.but (by omega) hb1)
 clear hn1 hb1 hr1
 have N4 := hid (N3.out.alloc (.cells #[.string o1, .string t1, .slice X n k] 25))
 have B4 := hid (B3.out.alloc (.cells #[.string o1, .string t1, .slice X n k] 25))
 have R4 := hid (R3.out.alloc (.cells #[.string o1, .string t1, .slice X n k] 25))
 have I4 := hid (fun hq => ((I3.out hq).alloc (fun g hg => hg.2) (.cells #[.string o1, .string t1, .slice X n k] 25)).imp (S' := fun g => w.heap.size < g ∧ g < w3.heap.size + 1) (fun g hg => ⟨hg.1, by have := hg.2; omega⟩))
 have V4 := hid (NBox.fresh w3 (.string o1) (.string t1) (.slice X n k) 25)
 have zn3 := N3.out.lt
 obtain ⟨w4, hw4⟩ : ∃ w4, w3.alloc (.cells #[.string o1, .string t1, .slice X n k] 25) = w4 := ⟨_, rfl⟩
 have hz4 : w4.heap.size = w3.heap.size + 1 := by rw [← hw4]; simp
 rw [hw4] at N4 B4 R4 I4 V4
 obtain ⟨v0, v1, v2, vf⟩ := V4.out
 obtain ⟨x0, x1, x2, xf⟩ := N4.out
 go_upto_region 5 with fail
 refine wp_region_held_drew (S := fun w' => w'.cell? ⟨w3.heap.size, 0, none⟩ = some (.string o1) ∧ w'.cell? ⟨w3.heap.size, 1, none⟩ = some (.string t1) ∧ w'.cell? ⟨w3.heap.size, 2, none⟩ = some (.slice X n k)) (by kernel_rfl) ⟨v0, v1, v2⟩ (fun hHeld => ?_)
 refine take1 (v := ?_) 0 28 rfl ?_ ?_; rotate_left; (intro w hSw; (try dsimp only at hSw); go_simp; try with_reducible rfl); (try simp only [Act.put, List.setIfInBounds_toArray, List.set_cons_zero, List.set_cons_succ])
 refine take1 (v := ?_) 1 29 rfl ?_ ?_; rotate_left; (intro w hSw; (try dsimp only at hSw); go_simp; try with_reducible rfl); (try simp only [Act.put, List.setIfInBounds_toArray, List.set_cons_zero, List.set_cons_succ])
 refine take1 (v := ?_) 2 30 rfl ?_ ?_; rotate_left; (intro w hSw; (try dsimp only at hSw); go_simp; try with_reducible rfl); (try simp only [Act.put, List.setIfInBounds_toArray, List.set_cons_zero, List.set_cons_succ])
 refine wpAnyH_take (i := 3) (oi := ⟨some 31, _, _, _, _, _⟩) (v := undef) rfl (by kernel_rfl) (by kernel_rfl) (by kernel_rfl) (fun _ _ _ h => h) (Or.inr ⟨by rfl, rfl⟩) (by assumption) ?_; (try simp only [Act.put, List.setIfInBounds_toArray, List.set_cons_zero, List.set_cons_succ])
 refine wpAnyH_take (i := 4) (oi := ⟨some 32, _, _, _, _, _⟩) (v := undef) rfl (by kernel_rfl) (by kernel_rfl) (by kernel_rfl) (fun _ _ _ h => h) (Or.inr ⟨by rfl, rfl⟩) (by assumption) ?_; (try simp only [Act.put, List.setIfInBounds_toArray, List.set_cons_zero, List.set_cons_succ])
 refine wpAnyH_take (i := 5) (oi := ⟨some 33, _, _, _, _, _⟩) (v := undef) rfl (by kernel_rfl) (by kernel_rfl) (by kernel_rfl) (fun _ _ _ h => h) (Or.inr ⟨by rfl, rfl⟩) (by assumption) ?_; (try simp only [Act.put, List.setIfInBounds_toArray, List.set_cons_zero, List.set_cons_succ])
 refine wpAnyH_take (i := 6) (oi := ⟨some 34, _, _, _, _, _⟩) (v := undef) rfl (by kernel_rfl) (by kernel_rfl) (by kernel_rfl) (fun _ _ _ h => h) (Or.inr ⟨by rfl, rfl⟩) (by assumption) ?_; (try simp only [Act.put, List.setIfInBounds_toArray, List.set_cons_zero, List.set_cons_succ])
 refine take1 (v := ?_) 7 35 rfl ?_ ?_; rotate_left; (intro w hSw; (try dsimp only at hSw); go_simp; try with_reducible rfl); (try simp only [Act.put, List.setIfInBounds_toArray, List.set_cons_zero, List.set_cons_succ])
 refine wpAnyH_ready (rs := [8]) (by kernel_rfl) (by simp) ?_
 refine AllReadyH.cons (o := ⟨none, _, _, _, _, _⟩) rfl (fun K hK => ?_) AllReadyH.nil
 go_simp
 have hne : ∀ a b : Nat, (⟨w.heap.size, a, none⟩ : Addr) ≠ ⟨w3.heap.size, b, none⟩ := fun a b e => by have := congrArg Addr.block e; dsimp only at this; omega
 have hfar : ∀ b : Nat, (W3 w4 w.heap.size (.string o1) (.string t1) (.slice X n k)).cell? ⟨w3.heap.size, b, none⟩ = w4.cell? ⟨w3.heap.size, b, none⟩ := fun b => by unfold W3; rw [World.cell?_setCell_other _ _ _ _ (hne _ _), World.cell?_setCell_other _ _ _ _ (hne _ _), World.cell?_setCell_other _ _ _ _ (hne _ _)]
 refine hK.out _ _ ⟨(hfar 0).trans v0, (hfar 1).trans v1, (hfar 2).trans v2⟩ (fun hHeld4 => ?_)
 clear hK K
 (try simp only [Act.put, List.setIfInBounds_toArray, List.set_cons_zero, List.set_cons_succ])
 refine take1 (v := ?_) 9 3 rfl ?_ ?_; rotate_left; (intro w hSw; (try dsimp only at hSw); go_simp; try with_reducible rfl); (try simp only [Act.put, List.setIfInBounds_toArray, List.set_cons_zero, List.set_cons_succ])
 refine wpAnyH_done (by kernel_rfl) ?_ _
 go_wp2
 have Y := N4.out.set (.string o1) (.string t1) (.slice X n k)
 exact bodyPost_ret (v := .tuple #[.agg #[.string o1, .string t1, .slice X n k], .bool (!true)]) (by simp [results, Tryz.results185, go_sem, Y.c0, Y.c1, Y.c2]) rfl
  ((give_ret (w := w) (b := true) (op := o1) (tx := t1) (X := X) (n := n) (k := k) (fun h => (by cases h)) B4.out R4.out hrl).next (Below.drew (Below.refl _ _)) (fun g hg => hg.elim))
theorem es_shut (D : Goes r m A cap l (f + 1)) (hg : Good l) (i : Nat) (w : World) (hi : i ≤ l.length) (hm : mu (bare l) (.expr 7) i < f + 2) (h : Rd w r m A cap l i) (q1 : isW (bare l) i false [45] = false) (q2 : isW (bare l) i false [40] = true) (x : Tr) (j : Nat) (hx : P (bare l) (f + 1) (.expr 1) (i + 1) false = (x, j, false)) (hq : isW (bare l) j false [41] = true) :
  Calls Tryz.prog 185 #[.pointer (some ⟨r, 0, none⟩)] w (Gives r m A cap l w NoBlk (P (bare l) (f + 1) .sign i false)) := by
 have hil : i < l.length := by have := isW_lt q2; rwa [bare_length] at this
 have e0 : mu (bare l) (.expr 7) i = 16 * ((bare l).length - i) + 3 := rfl
 have e1 : mu (bare l) (.expr 1) (i + 1) = 16 * ((bare l).length - (i + 1)) + 15 := rfl
 have hps : P (bare l) f (.expr 1) (i + 1) false = P (bare l) (f + 1) (.expr 1) (i + 1) false := P_steps _ _ _ _ _ _ (by rw [bare_length]; omega) ⟨by omega, by omega⟩ (by rw [bare_length] at e0 e1; omega) (by rw [bare_length] at e0 e1; omega)
 have hje := P_ends (bare l) (f + 1) (.expr 1) (i + 1) false (by rw [bare_length]; omega)
 rw [hx, bare_length] at hje
 have hjl : j ≤ l.length := hje.2.1
 have HI := hid (fun w1 hr => D.g_or (i + 1) w1 (by omega) (by rw [bare_length] at e0 e1; omega) hr)
 rw [hx] at HI
 have hP : P (bare l) (f + 1) .sign i false = (x, j + 1, false) := by
  rw [P, if_neg (by rw [q1]; decide), if_pos q2, hps, hx, hq]
  rfl
 rw [hP]
 have H1 := hid (fun S sc' w1 (hr : Rd w1 r m A cap l i) hs hne => etake_no hg i [[45]] S sc' w1 hr hi hs hne (by decide) (by decide) (one_no q1))
 have H2 := hid (fun S sc' w1 (hr : Rd w1 r m A cap l i) hs hne => etake_yes hg i [[40]] ⟨#[40]⟩ S sc' w1 hr hi hs hne (by decide) (by decide) (by decide) (one_yes q2))
 have H3 := hid (fun S sc' w1 (hr : Rd w1 r m A cap l j) hs hne => etake_yes hg j [[41]] ⟨#[41]⟩ S sc' w1 hr hjl hs hne (by decide) (by decide) (by decide) (one_yes hq))
 have HR := hid h
 have hrl := h.lt
 clear h hm D hg hx hP q1 q2 e0 e1 hps hje hq
 go_enter Tryz.func185, Tryz.ntmps185
 obtain ⟨w0, hw0, hz0, N0, B0⟩ := made0 w r
 have R0 := hid (show Rd w0 r m A cap l i by rw [← hw0]; exact HR.out.alloc _)
 go_wp2_with fail
 try rw [hw0]
 have HA1 := hid (at_texts w0 [[45]] #[.string ⟨#[45]⟩] 9 rfl)
 rw [hz0] at HA1
 have zr0 := R0.out.lt
 refine (H1.out _ _ _ (R0.out.alloc _) HA1.out (fun ad e => by cases e; first | (show w.heap.size + 1 ≠ r; omega) | (show w0.heap.size ≠ r; omega))).mono ?_
 rintro e w1 ⟨rfl, hb, hr⟩
 have N1 := hid ((N0.out.alloc _).but (by omega) hb)
 have B1 := hid ((B0.out.alloc _).trans hb)
 have R1 := hid hr
 have zs1 : w0.heap.size ≤ w1.heap.size := by have := hb.size; simp at this; omega
 clear hb hr
 go_wp2_with fail
 have HA2 := hid (at_texts w1 [[40]] #[.string ⟨#[40]⟩] 9 rfl)
 have zr1 := R1.out.lt
 refine (H2.out _ _ _ (R1.out.alloc _) HA2.out (fun ad e => by cases e; first | (show w.heap.size + 1 ≠ r; omega) | (show w1.heap.size ≠ r; omega))).mono ?_
 rintro e w2 ⟨rfl, hb, hr⟩
 have N2 := hid ((N1.out.alloc _).but (by omega) hb)
 have B2 := hid ((B1.out.alloc _).trans hb)
 have R2 := hid hr
 have zs2 : w1.heap.size ≤ w2.heap.size := by have := hb.size; simp at this; omega
 clear hb hr
 go_wp2_with fail
 refine (HI.out _ R2.out).mono ?_
 rintro e w3 ⟨o1, t1, X, n, k, rfl, hn1, hb1, hr1⟩
 dsimp only at hn1 hr1
 have z2 := R2.out.lt
 have I3 := hid (give_pass (w := w) hn1 (by omega))
 have B3 := hid (B2.out.trans hb1)
 have R3 := hid hr1
 have N3 := hid (N2.out.but (by omega) hb1)
 clear hn1 hb1 hr1
 have N4 := hid (N3.out.alloc (.cells #[.string o1, .string t1, .slice X n k] 25))
 have B4 := hid (B3.out.alloc (.cells #[.string o1, .string t1, .slice X n k] 25))
 have R4 := hid (R3.out.alloc (.cells #[.string o1, .string t1, .slice X n k] 25))
 have I4 := hid (fun hq => ((I3.out hq).alloc (fun g hg => hg.2) (.cells #[.string o1, .string t1, .slice X n k] 25)).imp (S' := fun g => w.heap.size < g ∧ g < w3.heap.size + 1) (fun g hg => ⟨hg.1, by have := hg.2; omega⟩))
 have V4 := hid (NBox.fresh w3 (.string o1) (.string t1) (.slice X n k) 25)
 have zn3 := N3.out.lt
 obtain ⟨w4, hw4⟩ : ∃ w4, w3.alloc (.cells #[.string o1, .string t1, .slice X n k] 25) = w4 := ⟨_, rfl⟩
 have hz4 : w4.heap.size = w3.heap.size + 1 := by rw [← hw4]; simp
 rw [hw4] at N4 B4 R4 I4 V4
 obtain ⟨v0, v1, v2, vf⟩ := V4.out
 obtain ⟨x0, x1, x2, xf⟩ := N4.out
 go_upto_region 5 with fail
 refine wp_region_held_drew (S := fun w' => w'.cell? ⟨w3.heap.size, 0, none⟩ = some (.string o1) ∧ w'.cell? ⟨w3.heap.size, 1, none⟩ = some (.string t1) ∧ w'.cell? ⟨w3.heap.size, 2, none⟩ = some (.slice X n k)) (by kernel_rfl) ⟨v0, v1, v2⟩ (fun hHeld => ?_)
 refine take1 (v := ?_) 0 28 rfl ?_ ?_; rotate_left; (intro w hSw; (try dsimp only at hSw); go_simp; try with_reducible rfl); (try simp only [Act.put, List.setIfInBounds_toArray, List.set_cons_zero, List.set_cons_succ])
 refine take1 (v := ?_) 1 29 rfl ?_ ?_; rotate_left; (intro w hSw; (try dsimp only at hSw); go_simp; try with_reducible rfl); (try simp only [Act.put, List.setIfInBounds_toArray, List.set_cons_zero, List.set_cons_succ])
 refine take1 (v := ?_) 2 30 rfl ?_ ?_; rotate_left; (intro w hSw; (try dsimp only at hSw); go_simp; try with_reducible rfl); (try simp only [Act.put, List.setIfInBounds_toArray, List.set_cons_zero, List.set_cons_succ])
 refine take1 (v := ?_) 3 31 rfl ?_ ?_; rotate_left; (intro w hSw; (try dsimp only at hSw); go_simp; try with_reducible rfl); (try simp only [Act.put, List.setIfInBounds_toArray, List.set_cons_zero, List.set_cons_succ])
 refine wpAnyH_ready (rs := [4]) (by kernel_rfl) (by simp) ?_
 refine AllReadyH.cons (o := ⟨some 32, _, _, _, _, _⟩) rfl (fun K hK => ?_) AllReadyH.nil
 go_simp
 refine hK.out _ _ ⟨?_, ?_, ?_⟩ (fun hHeld2 => ?_)
 iterate 3 (first | (exact (World.cell?_alloc_some _ _ _ (by rw [v0]; rfl)).trans v0) | (exact (World.cell?_alloc_some _ _ _ (by rw [v1]; rfl)).trans v1) | (exact (World.cell?_alloc_some _ _ _ (by rw [v2]; rfl)).trans v2))
 clear hK K
 (try simp only [Act.put, List.setIfInBounds_toArray, List.set_cons_zero, List.set_cons_succ])
 refine wpAnyH_ready (rs := [5]) (by kernel_rfl) (by simp) ?_
 refine AllReadyH.cons (o := ⟨some 33, _, _, _, _, _⟩) rfl (fun K hK => ?_) AllReadyH.nil
 go_simp
 have HA5 := hid (at_texts w4 [[41]] #[.string ⟨#[41]⟩] 9 rfl)
 rw [hz4] at HA5
 have zr4 := R4.out.lt
 have zn4 := N4.out.lt
 have zv4 := V4.out.lt
 have L5 := hid (show Below w4.heap.size w4 (w4.alloc (.cells #[.string ⟨#[41]⟩] 9)).drew from (below_alloc w4 _).drew)
 refine (H3.out _ _ _ (R4.out.below L5.out) (HA5.out.below (Below.drew (Below.refl _ _))) (fun ad e => by cases e; show w3.heap.size + 1 ≠ r; omega)).mono ?_
 rintro e w5 ⟨rfl, hb, hr⟩
 have N5 := hid ((N4.out.below L5.out).but (by omega) hb)
 have V5 := hid ((V4.out.below L5.out).but (by omega) hb)
 have B5 := hid ((B4.out.next L5.out).trans hb)
 have R5 := hid hr
 have z5 : w3.heap.size + 1 ≤ w5.heap.size := by have := hb.size; have := L5.out.size; omega
 have I5 := hid (fun hq => ((I4.out hq).below (fun g hg => by have := hg.2; omega) L5.out).but (fun g hg => ⟨by have h9 := hg.2; have := L5.out.size; omega, by have h9 := hg.1; omega⟩) hb)
 obtain ⟨u0, u1, u2, uf⟩ := V5.out
 refine hK.out _ _ ⟨u0, u1, u2⟩ (fun hHeld3 => ?_)
 clear hK K hb hr v0 v1 v2 vf x0 x1 x2 xf
 (try simp only [Act.put, List.setIfInBounds_toArray, List.set_cons_zero, List.set_cons_succ])
 obtain ⟨x0, x1, x2, xf⟩ := N5.out
 refine take1 (v := ?_) 6 34 rfl ?_ ?_; rotate_left; (intro w hSw; (try dsimp only at hSw); go_simp; try with_reducible rfl); (try simp only [Act.put, List.setIfInBounds_toArray, List.set_cons_zero, List.set_cons_succ])
 refine take1 (v := ?_) 7 35 rfl ?_ ?_; rotate_left; (intro w hSw; (try dsimp only at hSw); go_simp; try with_reducible rfl); (try simp only [Act.put, List.setIfInBounds_toArray, List.set_cons_zero, List.set_cons_succ])
 refine wpAnyH_ready (rs := [8]) (by kernel_rfl) (by simp) ?_
 refine AllReadyH.cons (o := ⟨none, _, _, _, _, _⟩) rfl (fun K hK => ?_) AllReadyH.nil
 go_simp
 have hne : ∀ a b : Nat, (⟨w.heap.size, a, none⟩ : Addr) ≠ ⟨w3.heap.size, b, none⟩ := fun a b e => by have := congrArg Addr.block e; dsimp only at this; omega
 have hfar : ∀ b : Nat, (W3 w5 w.heap.size (.string o1) (.string t1) (.slice X n k)).cell? ⟨w3.heap.size, b, none⟩ = w5.cell? ⟨w3.heap.size, b, none⟩ := fun b => by unfold W3; rw [World.cell?_setCell_other _ _ _ _ (hne _ _), World.cell?_setCell_other _ _ _ _ (hne _ _), World.cell?_setCell_other _ _ _ _ (hne _ _)]
 refine hK.out _ _ ⟨(hfar 0).trans u0, (hfar 1).trans u1, (hfar 2).trans u2⟩ (fun hHeld4 => ?_)
 clear hK K
 (try simp only [Act.put, List.setIfInBounds_toArray, List.set_cons_zero, List.set_cons_succ])
 refine take1 (v := ?_) 9 3 rfl ?_ ?_; rotate_left; (intro w hSw; (try dsimp only at hSw); go_simp; try with_reducible rfl); (try simp only [Act.put, List.setIfInBounds_toArray, List.set_cons_zero, List.set_cons_succ])
 refine wpAnyH_done (by kernel_rfl) ?_ _
 go_wp2
 have Y := N5.out.set (.string o1) (.string t1) (.slice X n k)
 exact bodyPost_ret (v := .tuple #[.agg #[.string o1, .string t1, .slice X n k], .bool (!false)]) (by simp [results, Tryz.results185, go_sem, Y.c0, Y.c1, Y.c2]) rfl
  (give_ret (w := w) (b := false) (op := o1) (tx := t1) (X := X) (n := n) (k := k) (fun _ => (I5.out (by first | exact trivial | rfl)).imp (fun g hg => ⟨hg.1, by have := hg.2; omega⟩)) B5.out R5.out hrl)
theorem es_noshut (D : Goes r m A cap l (f + 1)) (hg : Good l) (i : Nat) (w : World) (hi : i ≤ l.length) (hm : mu (bare l) (.expr 7) i < f + 2) (h : Rd w r m A cap l i) (q1 : isW (bare l) i false [45] = false) (q2 : isW (bare l) i false [40] = true) (x : Tr) (j : Nat) (hx : P (bare l) (f + 1) (.expr 1) (i + 1) false = (x, j, false)) (hq : isW (bare l) j false [41] = false) :
  Calls Tryz.prog 185 #[.pointer (some ⟨r, 0, none⟩)] w (Gives r m A cap l w NoBlk (P (bare l) (f + 1) .sign i false)) := by
 have hil : i < l.length := by have := isW_lt q2; rwa [bare_length] at this
 have e0 : mu (bare l) (.expr 7) i = 16 * ((bare l).length - i) + 3 := rfl
 have e1 : mu (bare l) (.expr 1) (i + 1) = 16 * ((bare l).length - (i + 1)) + 15 := rfl
 have hps : P (bare l) f (.expr 1) (i + 1) false = P (bare l) (f + 1) (.expr 1) (i + 1) false := P_steps _ _ _ _ _ _ (by rw [bare_length]; omega) ⟨by omega, by omega⟩ (by rw [bare_length] at e0 e1; omega) (by rw [bare_length] at e0 e1; omega)
 have hje := P_ends (bare l) (f + 1) (.expr 1) (i + 1) false (by rw [bare_length]; omega)
 rw [hx, bare_length] at hje
 have hjl : j ≤ l.length := hje.2.1
 have HI := hid (fun w1 hr => D.g_or (i + 1) w1 (by omega) (by rw [bare_length] at e0 e1; omega) hr)
 rw [hx] at HI
 have hP : P (bare l) (f + 1) .sign i false = (x, j, true) := by
  rw [P, if_neg (by rw [q1]; decide), if_pos q2, hps, hx, hq]
  rfl
 rw [hP]
 have H1 := hid (fun S sc' w1 (hr : Rd w1 r m A cap l i) hs hne => etake_no hg i [[45]] S sc' w1 hr hi hs hne (by decide) (by decide) (one_no q1))
 have H2 := hid (fun S sc' w1 (hr : Rd w1 r m A cap l i) hs hne => etake_yes hg i [[40]] ⟨#[40]⟩ S sc' w1 hr hi hs hne (by decide) (by decide) (by decide) (one_yes q2))
 have H3 := hid (fun S sc' w1 (hr : Rd w1 r m A cap l j) hs hne => etake_no hg j [[41]] S sc' w1 hr hjl hs hne (by decide) (by decide) (one_no hq))
 have HR := hid h
 have hrl := h.lt
 clear h hm D hg hx hP q1 q2 e0 e1 hps hje hq
 go_enter Tryz.func185, Tryz.ntmps185
 obtain ⟨w0, hw0, hz0, N0, B0⟩ := made0 w r
 have R0 := hid (show Rd w0 r m A cap l i by rw [← hw0]; exact HR.out.alloc _)
 go_wp2_with fail
 try rw [hw0]
 have HA1 := hid (at_texts w0 [[45]] #[.string ⟨#[45]⟩] 9 rfl)
 rw [hz0] at HA1
 have zr0 := R0.out.lt
 refine (H1.out _ _ _ (R0.out.alloc _) HA1.out (fun ad e => by cases e; first | (show w.heap.size + 1 ≠ r; omega) | (show w0.heap.size ≠ r; omega))).mono ?_
 rintro e w1 ⟨rfl, hb, hr⟩
 have N1 := hid ((N0.out.alloc _).but (by omega) hb)
 have B1 := hid ((B0.out.alloc _).trans hb)
 have R1 := hid hr
 have zs1 : w0.heap.size ≤ w1.heap.size := by have := hb.size; simp at this; omega
 clear hb hr
 go_wp2_with fail
 have HA2 := hid (at_texts w1 [[40]] #[.string ⟨#[40]⟩] 9 rfl)
 have zr1 := R1.out.lt
 refine (H2.out _ _ _ (R1.out.alloc _) HA2.out (fun ad e => by cases e; first | (show w.heap.size + 1 ≠ r; omega) | (show w1.heap.size ≠ r; omega))).mono ?_
 rintro e w2 ⟨rfl, hb, hr⟩
 have N2 := hid ((N1.out.alloc _).but (by omega) hb)
 have B2 := hid ((B1.out.alloc _).trans hb)
 have R2 := hid hr
 have zs2 : w1.heap.size ≤ w2.heap.size := by have := hb.size; simp at this; omega
 clear hb hr
 go_wp2_with fail
 refine (HI.out _ R2.out).mono ?_
 rintro e w3 ⟨o1, t1, X, n, k, rfl, hn1, hb1, hr1⟩
 dsimp only at hn1 hr1
 have z2 := R2.out.lt
 have I3 := hid (give_pass (w := w) hn1 (by omega))
 have B3 := hid (B2.out.trans hb1)
 have R3 := hid hr1
 have N3 := hid (N2.out.but (by omega) hb1)
 clear hn1 hb1 hr1
 have N4 := hid (N3.out.alloc (.cells #[.string o1, .string t1, .slice X n k] 25))
 have B4 := hid (B3.out.alloc (.cells #[.string o1, .string t1, .slice X n k] 25))
 have R4 := hid (R3.out.alloc (.cells #[.string o1, .string t1, .slice X n k] 25))
 have I4 := hid (fun hq => ((I3.out hq).alloc (fun g hg => hg.2) (.cells #[.string o1, .string t1, .slice X n k] 25)).imp (S' := fun g => w.heap.size < g ∧ g < w3.heap.size + 1) (fun g hg => ⟨hg.1, by have := hg.2; omega⟩))
 have V4 := hid (NBox.fresh w3 (.string o1) (.string t1) (.slice X n k) 25)
 have zn3 := N3.out.lt
 obtain ⟨w4, hw4⟩ : ∃ w4, w3.alloc (.cells #[.string o1, .string t1, .slice X n k] 25) = w4 := ⟨_, rfl⟩
 have hz4 : w4.heap.size = w3.heap.size + 1 := by rw [← hw4]; simp
 rw [hw4] at N4 B4 R4 I4 V4
 obtain ⟨v0, v1, v2, vf⟩ := V4.out
 obtain ⟨x0, x1, x2, xf⟩ := N4.out
 go_upto_region 5 with fail
 refine wp_region_held_drew (S := fun w' => w'.cell? ⟨w3.heap.size, 0, none⟩ = some (.string o1) ∧ w'.cell? ⟨w3.heap.size, 1, none⟩ = some (.string t1) ∧ w'.cell? ⟨w3.heap.size, 2, none⟩ = some (.slice X n k)) (by kernel_rfl) ⟨v0, v1, v2⟩ (fun hHeld => ?_)
 refine take1 (v := ?_) 0 28 rfl ?_ ?_; rotate_left; (intro w hSw; (try dsimp only at hSw); go_simp; try with_reducible rfl); (try simp only [Act.put, List.setIfInBounds_toArray, List.set_cons_zero, List.set_cons_succ])
 refine take1 (v := ?_) 1 29 rfl ?_ ?_; rotate_left; (intro w hSw; (try dsimp only at hSw); go_simp; try with_reducible rfl); (try simp only [Act.put, List.setIfInBounds_toArray, List.set_cons_zero, List.set_cons_succ])
 refine take1 (v := ?_) 2 30 rfl ?_ ?_; rotate_left; (intro w hSw; (try dsimp only at hSw); go_simp; try with_reducible rfl); (try simp only [Act.put, List.setIfInBounds_toArray, List.set_cons_zero, List.set_cons_succ])
 refine take1 (v := ?_) 3 31 rfl ?_ ?_; rotate_left; (intro w hSw; (try dsimp only at hSw); go_simp; try with_reducible rfl); (try simp only [Act.put, List.setIfInBounds_toArray, List.set_cons_zero, List.set_cons_succ])
 refine wpAnyH_ready (rs := [4]) (by kernel_rfl) (by simp) ?_
 refine AllReadyH.cons (o := ⟨some 32, _, _, _, _, _⟩) rfl (fun K hK => ?_) AllReadyH.nil
 go_simp
 refine hK.out _ _ ⟨?_, ?_, ?_⟩ (fun hHeld2 => ?_)
 iterate 3 (first | (exact (World.cell?_alloc_some _ _ _ (by rw [v0]; rfl)).trans v0) | (exact (World.cell?_alloc_some _ _ _ (by rw [v1]; rfl)).trans v1) | (exact (World.cell?_alloc_some _ _ _ (by rw [v2]; rfl)).trans v2))
 clear hK K
 (try simp only [Act.put, List.setIfInBounds_toArray, List.set_cons_zero, List.set_cons_succ])
 refine wpAnyH_ready (rs := [5]) (by kernel_rfl) (by simp) ?_
 refine AllReadyH.cons (o := ⟨some 33, _, _, _, _, _⟩) rfl (fun K hK => ?_) AllReadyH.nil
 go_simp
 have HA5 := hid (at_texts w4 [[41]] #[.string ⟨#[41]⟩] 9 rfl)
 rw [hz4] at HA5
 have zr4 := R4.out.lt
 have zn4 := N4.out.lt
 have zv4 := V4.out.lt
 have L5 := hid (show Below w4.heap.size w4 (w4.alloc (.cells #[.string ⟨#[41]⟩] 9)).drew from (below_alloc w4 _).drew)
 refine (H3.out _ _ _ (R4.out.below L5.out) (HA5.out.below (Below.drew (Below.refl _ _))) (fun ad e => by cases e; show w3.heap.size + 1 ≠ r; omega)).mono ?_
 rintro e w5 ⟨rfl, hb, hr⟩
 have N5 := hid ((N4.out.below L5.out).but (by omega) hb)
 have V5 := hid ((V4.out.below L5.out).but (by omega) hb)
 have B5 := hid ((B4.out.next L5.out).trans hb)
 have R5 := hid hr
 have z5 : w3.heap.size + 1 ≤ w5.heap.size := by have := hb.size; have := L5.out.size; omega
 have I5 := hid (fun hq => ((I4.out hq).below (fun g hg => by have := hg.2; omega) L5.out).but (fun g hg => ⟨by have h9 := hg.2; have := L5.out.size; omega, by have h9 := hg.1; omega⟩) hb)
 obtain ⟨u0, u1, u2, uf⟩ := V5.out
 refine hK.out _ _ ⟨u0, u1, u2⟩ (fun hHeld3 => ?_)
 clear hK K hb hr v0 v1 v2 vf x0 x1 x2 xf
 (try simp only [Act.put, List.setIfInBounds_toArray, List.set_cons_zero, List.set_cons_succ])
 obtain ⟨x0, x1, x2, xf⟩ := N5.out
 refine take1 (v := ?_) 6 34 rfl ?_ ?_; rotate_left; (intro w hSw; (try dsimp only at hSw); go_simp; try with_reducible rfl); (try simp only [Act.put, List.setIfInBounds_toArray, List.set_cons_zero, List.set_cons_succ])
 refine take1 (v := ?_) 7 35 rfl ?_ ?_; rotate_left; (intro w hSw; (try dsimp only at hSw); go_simp; try with_reducible rfl); (try simp only [Act.put, List.setIfInBounds_toArray, List.set_cons_zero, List.set_cons_succ])
 refine wpAnyH_ready (rs := [8]) (by kernel_rfl) (by simp) ?_
 refine AllReadyH.cons (o := ⟨none, _, _, _, _, _⟩) rfl (fun K hK => ?_) AllReadyH.nil
 go_simp
 have hne : ∀ a b : Nat, (⟨w.heap.size, a, none⟩ : Addr) ≠ ⟨w3.heap.size, b, none⟩ := fun a b e => by have := congrArg Addr.block e; dsimp only at this; omega
 have hfar : ∀ b : Nat, (W3 w5 w.heap.size (.string o1) (.string t1) (.slice X n k)).cell? ⟨w3.heap.size, b, none⟩ = w5.cell? ⟨w3.heap.size, b, none⟩ := fun b => by unfold W3; rw [World.cell?_setCell_other _ _ _ _ (hne _ _), World.cell?_setCell_other _ _ _ _ (hne _ _), World.cell?_setCell_other _ _ _ _ (hne _ _)]
 refine hK.out _ _ ⟨(hfar 0).trans u0, (hfar 1).trans u1, (hfar 2).trans u2⟩ (fun hHeld4 => ?_)
 clear hK K
 (try simp only [Act.put, List.setIfInBounds_toArray, List.set_cons_zero, List.set_cons_succ])
 refine take1 (v := ?_) 9 3 rfl ?_ ?_; rotate_left; (intro w hSw; (try dsimp only at hSw); go_simp; try with_reducible rfl); (try simp only [Act.put, List.setIfInBounds_toArray, List.set_cons_zero, List.set_cons_succ])
 refine wpAnyH_done (by kernel_rfl) ?_ _
 go_wp2
 have Y := N5.out.set (.string o1) (.string t1) (.slice X n k)
 exact bodyPost_ret (v := .tuple #[.agg #[.string o1, .string t1, .slice X n k], .bool (!true)]) (by simp [results, Tryz.results185, go_sem, Y.c0, Y.c1, Y.c2]) rfl
  (give_ret (w := w) (b := true) (op := o1) (tx := t1) (X := X) (n := n) (k := k) (fun h => (by cases h)) B5.out R5.out hrl)
end
section
variable {r : Nat} {m : Int} {A : Option Addr} {cap : Nat} {l : List W} {f : Nat}
theorem numL_some {s : List UInt8} {v : Int} (h : numF s 0 = some v) : numL s = some (Lib.itoa v) := by unfold numL; rw [h]; rfl
theorem numL_none {s : List UInt8} (h : numF s 0 = none) : numL s = none := by unfold numL; rw [h]; rfl
theorem es_oper (D : Goes r m A cap l (f + 1)) (hg : Good l) (i : Nat) (w : World) (hi : i ≤ l.length) (hm : mu (bare l) (.expr 7) i < f + 2) (h : Rd w r m A cap l i)
  (q1 : isW (bare l) i false [45] = false) (q2 : isW (bare l) i false [40] = false) (q3 : oneL (bare l) i false [sTrue, sFalse, sNull] = []) :
  Calls Tryz.prog 185 #[.pointer (some ⟨r, 0, none⟩)] w (Gives r m A cap l w NoBlk (P (bare l) (f + 1) .sign i false)) := by
 have hP : P (bare l) (f + 1) .sign i false = (if isK (bare l) i false 1 = true then (match numL (txt (bare l) i) with | some t => (Tr.leaf sNum t, i + 1, false) | none => (zeroT, i, true))
   else if isK (bare l) i false 2 = true then (.leaf sText (txt (bare l) i), i + 1, false)
   else if (isK (bare l) i false 0 && !ownL (txt (bare l) i)) = true then (.leaf sCol (txt (bare l) i), i + 1, false)
   else (.leaf sCol [], i, true)) := by rw [P, if_neg (by rw [q1]; decide), if_neg (by rw [q2]; decide), if_pos q3]; rfl
 by_cases hil : i < l.length
 ·have hc := hg.came l[i] (List.getElem_mem hil)
  have hft := hg.fit l[i] (List.getElem_mem hil)
  have hkd := came_kind hg.came l[i] (List.getElem_mem hil)
  have hfg := came_fig hg.came l[i] (List.getElem_mem hil)
  have hfl := came_full hg.came l[i] (List.getElem_mem hil)
  rw [isK_in hil, isK_in hil, isK_in hil, txt_in hil] at hP
  have hwd := wd_in hil
  obtain ⟨v, hv⟩ : ∃ v, l[i] = v := ⟨_, rfl⟩
  rw [hv] at hc hft hkd hfg hfl hP hwd
  obtain ⟨k, t, p⟩ := v
  obtain ⟨T, rfl⟩ : ∃ T : ByteArray, t = T.data.toList := ⟨⟨t.toArray⟩, rfl⟩
  have hT : (⟨T.data.toList.toArray⟩ : ByteArray) = T := Lib.mk_data T
  have hts : T.size ≤ 4194304 := hft
  dsimp only at hc hkd hfg hfl hP hwd
  rcases hkd with rfl | rfl | rfl | rfl
  ·obtain ⟨ow, how⟩ : ∃ ow, ownL T.data.toList = ow := ⟨_, rfl⟩
   rw [how] at hP
   cases ow
   ·refine es_rest D hg i w hi hm h q1 q2 q3 (.leaf sCol T.data.toList) (i + 1) false ⟨#[99, 111, 108]⟩ T (fun _ => rfl) (by rw [hP]; rfl) rfl (fun w0 he => ?_)
    rw [hwd]
    dsimp only
    rw [hT]
    exact eoper_name p T m w0 hc hts he false how
   ·refine es_rest D hg i w hi hm h q1 q2 q3 (.leaf sCol []) i true ⟨#[99, 111, 108]⟩ T (fun e => by cases e) (by rw [hP]; rfl) rfl (fun w0 he => ?_)
    rw [hwd]
    dsimp only
    rw [hT]
    exact eoper_name p T m w0 hc hts he true how
  ·obtain ⟨hfg1, hfg2⟩ := hfg rfl
   have hnp := num_parse hfg1 (hfl rfl)
   cases hn : numF T.data.toList 0 with
   | none =>
    rw [numL_none hn] at hP
    refine es_rest D hg i w hi hm h q1 q2 q3 zeroT i true ⟨#[]⟩ ⟨#[]⟩ (fun e => by cases e) (by rw [hP]; rfl) rfl (fun w0 he => ?_)
    rw [hwd]
    dsimp only
    rw [hT]
    exact eoper_much p T m w0 hc hts he (hnp.2 hn)
   | some v =>
    rw [numL_some hn] at hP
    obtain ⟨hv1, hv2, hv3⟩ := hnp.1 v hn
    refine es_rest D hg i w hi hm h q1 q2 q3 (.leaf sNum (Lib.itoa v)) (i + 1) false ⟨#[110, 117, 109]⟩ ⟨(Lib.itoa v).toArray⟩ (fun _ => rfl) (by rw [hP]; rfl) rfl (fun w0 he => ?_)
    rw [hwd]
    dsimp only
    rw [hT]
    exact eoper_num p T m w0 hc hts he v hv1 hv2 hv3
  ·refine es_rest D hg i w hi hm h q1 q2 q3 (.leaf sText T.data.toList) (i + 1) false ⟨#[116, 101, 120, 116]⟩ T (fun _ => rfl) (by rw [hP]; rfl) rfl (fun w0 he => ?_)
   rw [hwd]
   dsimp only
   rw [hT]
   exact eoper_text p T m w0 hc hts he
  ·refine es_rest D hg i w hi hm h q1 q2 q3 (.leaf sCol []) i true ⟨#[]⟩ ⟨#[]⟩ (fun e => by cases e) (by rw [hP]; rfl) rfl (fun w0 he => ?_)
   rw [hwd]
   dsimp only
   rw [hT]
   exact eoper_mark p T m w0 hc hts he
 ·rw [isK_out hil, isK_out hil, isK_out hil] at hP
  refine es_rest D hg i w hi hm h q1 q2 q3 (.leaf sCol []) i true ⟨#[]⟩ ⟨#[]⟩ (fun e => by cases e) (by rw [hP]; rfl) rfl (fun w0 he => ?_)
  rw [wd_out hil]
  exact eoper_zero m w0 he
theorem e_sign (D : Goes r m A cap l f) (hg : Good l) : Part 185 r m A cap l (f + 1) 7 := by
 intro i w hi hm h
 have e0 : mu (bare l) (.expr 7) i = 16 * ((bare l).length - i) + 3 := rfl
 obtain ⟨f2, rfl⟩ : ∃ f2, f = f2 + 1 := ⟨f - 1, by omega⟩
 rw [sgn]
 cases q1 : isW (bare l) i false [45] with
 | true => exact es_neg D hg i w hi hm h q1
 | false =>
  cases q2 : isW (bare l) i false [40] with
  | true =>
   obtain ⟨R, hx⟩ : ∃ R, P (bare l) (f2 + 1) (.expr 1) (i + 1) false = R := ⟨_, rfl⟩
   obtain ⟨x, j, b⟩ := R
   cases b with
   | true => exact es_bad D hg i w hi hm h q1 q2 x j hx
   | false =>
    cases q : isW (bare l) j false [41] with
    | true => exact es_shut D hg i w hi hm h q1 q2 x j hx q
    | false => exact es_noshut D hg i w hi hm h q1 q2 x j hx q
  | false =>
   by_cases q3 : oneL (bare l) i false [sTrue, sFalse, sNull] = []
   ·exact es_oper D hg i w hi hm h q1 q2 q3
   ·exact es_word D hg i w hi hm h q1 q2 ⟨(oneL (bare l) i false [sTrue, sFalse, sNull]).toArray⟩ q3 rfl
theorem e_test (D : Goes r m A cap l f) (hg : Good l) : Part 170 r m A cap l (f + 1) 4 := by
 intro i w hi hm h
 have e0 : mu (bare l) (.expr 4) i = 16 * ((bare l).length - i) + 9 := rfl
 obtain ⟨f2, rfl⟩ : ∃ f2, f = f2 + 1 := ⟨f - 1, by omega⟩
 obtain ⟨R, hx⟩ : ∃ R, P (bare l) (f2 + 1) (.expr 5) i false = R := ⟨_, rfl⟩
 obtain ⟨x, j, b⟩ := R
 cases b with
 | true => exact et_bad D hg i w hi hm h x j hx
 | false =>
  cases q1 : isW (bare l) j false sIs with
  | true =>
   cases q2 : isW (bare l) (j + 1) false sNull with
   | true => exact et_null D hg i w hi hm h x j hx q1 q2
   | false => exact et_nonull D hg i w hi hm h x j hx q1 q2
  | false =>
   by_cases q2 : oneL (bare l) j false (opsL 4) = []
   ·exact et_one D hg i w hi hm h x j hx q1 q2
   ·exact et_two D hg i w hi hm h x j hx q1 ⟨(oneL (bare l) j false (opsL 4)).toArray⟩ q2 rfl
theorem e_not (D : Goes r m A cap l f) (hg : Good l) : Part 163 r m A cap l (f + 1) 3 := by
 intro i w hi hm h
 cases q : isW (bare l) i false sNot with
 | true => exact e_not_yes D hg i w hi hm h q
 | false => exact e_not_no D hg i w hi hm h q
theorem goes (hg : Good l) : ∀ f, Goes r m A cap l f
 | 0 => by constructor <;> exact fun i w hi hm h => absurd hm (Nat.not_lt_zero _)
 | f + 1 => by
  have D := goes hg f
  exact ⟨e_or D hg, e_and D hg, e_not D hg, e_test D hg, e_sum D hg, e_times D hg, e_sign D hg⟩
theorem eor_any (hg : Good l) (i : Nat) (w : World) (hi : i ≤ l.length) (h : Rd w r m A cap l i) :
  Calls Tryz.prog 144 #[.pointer (some ⟨r, 0, none⟩)] w (Gives r m A cap l w NoBlk (fromP (bare l) i)) := by
 have hd := (goes (r := r) (m := m) (A := A) (cap := cap) hg (stepsN (bare l))).g_or i w hi (by
  have e : mu (bare l) (.expr 1) i = 16 * ((bare l).length - i) + 15 := rfl
  unfold stepsN
  omega) h
 exact hd
end
def readN (l : List W) (i : Nat) : Tr × Nat × Int := if (fromP (bare l) i).2.2 = true then (zeroT, (fromP (bare l) i).2.1, 91) else ((fromP (bare l) i).1, (fromP (bare l) i).2.1, 0)
def ReadPost (w : World) (res : Tr × Nat × Int) (e : Ending) (w' : World) : Prop :=
 ∃ (op tx : ByteArray) (X : Option Addr) (n m : Nat), e = .returned (.tuple #[.agg #[.string op, .string tx, .slice X n m], .int .i64 res.2.1, .int .i64 res.2.2]) ∧ NIn w' (New w w') res.1 (.string op) (.string tx) (.slice X n m) ∧ Below w.heap.size w w'
theorem bytes_len (s : ByteArray) : s.data.toList.length = s.size := Array.length_toList
theorem Rd.fresh (w : World) (m : Int) (A : Option Addr) (cap : Nat) (l : List W) (i : Nat) (t : TypeId) (h : At wc 3 w w.heap.size A l) (he : Env w.heap.size m w) : Rd (w.alloc (.cells #[.slice A l.length cap, .int .i64 i] t)) w.heap.size m A cap l i :=
 ⟨by simp [go_sem], by simp [go_sem], fun k => by simp [go_sem], h.below ((Below.refl _ _).alloc (Nat.le_refl _) _), he.below ((Below.refl _ _).alloc (Nat.le_refl _) _)⟩
theorem eread_any (A : Option Addr) (cap : Nat) (l : List W) (i : Nat) (m : Int) (w : World) (h : At wc 3 w w.heap.size A l) (hg : Good l) (he : Env w.heap.size m w) (hi : i < l.length) :
  Calls Tryz.prog 122 #[.slice A l.length cap, .int .i64 i] w (ReadPost w (readN l i)) := by
 obtain ⟨R, hx⟩ : ∃ R, fromP (bare l) i = R := ⟨_, rfl⟩
 obtain ⟨x, j, b⟩ := R
 have hrd : readN l i = if b = true then (zeroT, j, 91) else (x, j, 0) := by unfold readN; rw [hx]
 rw [hrd]
 obtain ⟨q, hq⟩ : ∃ q, (if b = true then (zeroT, j, (91 : Int)) else (x, j, 0)) = q := ⟨_, rfl⟩
 rw [hq]
 have HQ := hid hq
 have HA := hid h
 have HE := hid he
 have HX0 := hid (fun w1 (hr : Rd w1 (w.heap.size + 1) m A cap l i) => eor_any hg i w1 (by omega) hr)
 rw [hx] at HX0
 have e1 : (i : Int) < (l.length : Int) := by omega
 have e0 : (0 : Int) ≤ (i : Int) := by omega
 have e2 : decide ((i : Int) < 0) = false := by simp
 have e3 : decide ((l.length : Int) ≤ (i : Int)) = false := by simp; omega
 clear h hx hrd hg hq he
 go_enter Tryz.func122, Tryz.ntmps122
 obtain ⟨w1, hw1⟩ : ∃ w1, (w.alloc (.cells #[.string ⟨#[]⟩, .string ⟨#[]⟩, .slice none 0 0] 25)).alloc (.cells #[.slice A l.length cap, .int .i64 i] 146) = w1 := ⟨_, rfl⟩
 have hz1 : w1.heap.size = w.heap.size + 2 := by rw [← hw1]; simp
 have N1 := hid (show NBox w1 w.heap.size (.string ⟨#[]⟩) (.string ⟨#[]⟩) (.slice none 0 0) by rw [← hw1]; exact (NBox.fresh _ _ _ _ _).alloc _)
 have B1 := hid (show Below w.heap.size w w1 by rw [← hw1]; exact ((Below.refl _ _).alloc (Nat.le_refl _) _).alloc (by simp) _)
 have R1 := hid (show Rd w1 (w.heap.size + 1) m A cap l i by
  rw [← hw1, show w.heap.size + 1 = (w.alloc (.cells #[.string ⟨#[]⟩, .string ⟨#[]⟩, .slice none 0 0] 25)).heap.size by simp]
  exact Rd.fresh _ m A cap l i 146 ((HA.out.below ((Below.refl _ _).alloc (Nat.le_refl _) _)).more (by simp)) (HE.out.next (below_alloc w _)))
 go_wp2_with fail
 try rw [hw1]
 refine (HX0.out _ R1.out).mono ?_
 rintro e w2 ⟨op, tx, X, n, k, rfl, hn2, hb2, hr2⟩
 dsimp only at hn2 hr2
 have N2 := hid ((N1.out.but (by omega) hb2).alloc (.cells #[.string op, .string tx, .slice X n k] 25))
 have R2 := hid (hr2.alloc (.cells #[.string op, .string tx, .slice X n k] 25))
 have hz2 : w1.heap.size ≤ w2.heap.size := hb2.size
 have I2 := hid (fun hq : b = false => ((hn2 hq).imp (S' := fun g => w.heap.size < g ∧ g < w2.heap.size) (fun g hg => by rcases hg with hg | hg; exact hg.elim; exact ⟨by have := hg.1; omega, hg.2⟩)).alloc (fun g hg => hg.2) (.cells #[.string op, .string tx, .slice X n k] 25))
 have B2 := hid ((B1.out.trans (hb2.below (B := w.heap.size) (by omega) (by omega))).alloc (by omega) (.cells #[.string op, .string tx, .slice X n k] 25))
 have V2 := hid (NBox.fresh w2 (.string op) (.string tx) (.slice X n k) 25)
 have zn := N2.out.lt
 have zr := R2.out.lt
 clear hb2 hr2 hn2
 obtain ⟨x0, x1, x2, xf⟩ := N2.out
 obtain ⟨w6, hw6⟩ : ∃ w6, w2.alloc (.cells #[.string op, .string tx, .slice X n k] 25) = w6 := ⟨_, rfl⟩
 rw [hw6] at N2 R2 I2 B2 V2 zn zr x0 x1 x2 xf
 obtain ⟨v0, v1, v2, vf⟩ := V2.out
 have c1 := R2.out.c1
 have HO := hid (Ox.refl w.heap.size w6)
 have FQ := hid (fun w' (h : Ox w.heap.size w6 w') => show w'.cell? ⟨w.heap.size + 1, 1, none⟩ = some (.int .i64 j) ∧ w'.cell? ⟨w2.heap.size, 0, none⟩ = some (.string op) ∧ w'.cell? ⟨w2.heap.size, 1, none⟩ = some (.string tx) ∧ w'.cell? ⟨w2.heap.size, 2, none⟩ = some (.slice X n k) from
  ⟨(h.2 ⟨w.heap.size + 1, 1, none⟩ (by simp)).trans c1, (h.2 ⟨w2.heap.size, 0, none⟩ (by simp; omega)).trans v0, (h.2 ⟨w2.heap.size, 1, none⟩ (by simp; omega)).trans v1, (h.2 ⟨w2.heap.size, 2, none⟩ (by simp; omega)).trans v2⟩)
 cases b
 ·go_upto_region 7 with fail
  go_region_held3 (fun w' => (w'.cell? ⟨w.heap.size + 1, 1, none⟩ = some (.int .i64 j) ∧ w'.cell? ⟨w2.heap.size, 0, none⟩ = some (.string op) ∧ w'.cell? ⟨w2.heap.size, 1, none⟩ = some (.string tx) ∧ w'.cell? ⟨w2.heap.size, 2, none⟩ = some (.slice X n k)) ∧ Ox w.heap.size w6 w')
   (first | assumption | (exact ⟨FQ.out _ HO.out.drew, HO.out.drew⟩) | (exact ⟨FQ.out _ HO.out, HO.out⟩) | (refine (fun hS9 : Ox w.heap.size w6 _ => ⟨FQ.out _ hS9, hS9⟩) (((HO.out.setCell _ rfl _).setCell _ rfl _).setCell _ rfl _).drew))
   (fail)
  go_wp2
  obtain rfl : q = (x, j, 0) := by have := HQ.out; simpa using this.symm
  have Y := N2.out.set (.string op) (.string tx) (.slice X n k)
  have h6 : w6.heap.size = w2.heap.size + 1 := by rw [← hw6]; simp
  exact bodyPost_ret (v := .tuple #[.agg #[.string op, .string tx, .slice X n k], .int .i64 j, .int .i64 0]) (by simp [results, Tryz.results122, go_sem, Y.c0, Y.c1, Y.c2]) rfl
   ⟨op, tx, X, n, k, rfl, NIn.keep (w := W3 w6 w.heap.size (.string op) (.string tx) (.slice X n k)) (w' := (W3 w6 w.heap.size (.string op) (.string tx) (.slice X n k)).drew) (fun g hg => ⟨by have := hg.1; omega, by show g < (W3 w6 w.heap.size (.string op) (.string tx) (.slice X n k)).heap.size; rw [W3.size, h6]; have := hg.2; omega⟩) (fun _ _ _ => rfl) _ _ _ _ (W3.nin (I2.out (by first | exact trivial | rfl)) (fun hg => Nat.lt_irrefl _ hg.1) _ _ _), (((B2.out.setCell (Nat.le_refl _) _).setCell (Nat.le_refl _) _).setCell (Nat.le_refl _) _).drew⟩
 ·go_upto_region 6 with fail
  go_region_held3 (fun w' => (w'.cell? ⟨w.heap.size + 1, 1, none⟩ = some (.int .i64 j) ∧ w'.cell? ⟨w2.heap.size, 0, none⟩ = some (.string op) ∧ w'.cell? ⟨w2.heap.size, 1, none⟩ = some (.string tx) ∧ w'.cell? ⟨w2.heap.size, 2, none⟩ = some (.slice X n k)) ∧ Ox w.heap.size w6 w')
   (first | assumption | (exact ⟨FQ.out _ HO.out.drew, HO.out.drew⟩) | (exact ⟨FQ.out _ HO.out, HO.out⟩) | (refine (fun hS9 : Ox w.heap.size w6 _ => ⟨FQ.out _ hS9, hS9⟩) (((HO.out.setCell _ rfl _).setCell _ rfl _).setCell _ rfl _).drew))
   (fail)
  go_wp2
  obtain rfl : q = (zeroT, j, 91) := by have := HQ.out; simpa using this.symm
  have Y := N2.out.set (.string ⟨#[]⟩) (.string ⟨#[]⟩) (.slice none 0 0)
  exact bodyPost_ret (v := .tuple #[.agg #[.string ⟨#[]⟩, .string ⟨#[]⟩, .slice none 0 0], .int .i64 j, .int .i64 91]) (by simp [results, Tryz.results122, go_sem, Y.c0, Y.c1, Y.c2]) rfl
   ⟨⟨#[]⟩, ⟨#[]⟩, none, 0, 0, rfl, ⟨rfl, rfl, rfl⟩, (((B2.out.setCell (Nat.le_refl _) _).setCell (Nat.le_refl _) _).setCell (Nat.le_refl _) _).drew⟩
theorem word_small {s : List UInt8} {k : Int} {t : List UInt8} {n : Nat} (h : firstL s = some (k, t, n)) : t.length ≤ 200 := by
 rcases first_cases h with ⟨c, r, rfl, hl, -, rfl, rfl, h20⟩ | ⟨c, r, rfl, hl, hf, -, rfl, rfl, h19⟩ | ⟨r, rfl, -, m, hq, -, h200⟩ | ⟨c, d, r, rfl, -, -, -, -, -, rfl, -⟩ | ⟨c, r, rfl, -, -, -, -, -, -, rfl, -⟩
 ·rw [List.length_take]; omega
 ·rw [List.length_take]; omega
 ·exact h200
 ·simp
 ·simp
theorem came_short {l : List W} (h : CameB l) : FitW l := fun w hw => Nat.le_trans (word_small (h w hw)) (by decide)
theorem node_block_ne {w : World} {g : Nat} {a b : ByteArray} {X : Option Addr} {n k : Nat} {t : TypeId} {fz : Nat × Nat} (h : w.heap[g]? = some (.cells #[.string a, .string b, .slice X n k] t fz)) {p : Addr} {v : Int} (hc : w.cell? p = some (.int .i64 v)) : p.block ≠ g := by
 intro e
 unfold World.cell? at hc
 rw [e, h] at hc
 dsimp only at hc
 split at hc
 ·cases hc
 ·rcases p with ⟨p1, p2, p3⟩
  match p2, hc with
  | 0, hc => simp at hc
  | 1, hc => simp at hc
  | 2, hc => simp at hc
  | n + 3, hc => simp at hc
def WordsE (s : ByteArray) (l : List W) (p ee m : Int) : Prop := ∀ w, Env w.heap.size m w → Calls Tryz.prog 11 #[.string s] w (fun e w' => ∃ (A : Option Addr) (cap : Nat), e = .returned (.tuple #[.slice A l.length cap, .int .i64 p, .int .i64 ee]) ∧ At wc 3 w' w'.heap.size A l ∧ Below w.heap.size w w')
theorem words_e (s : ByteArray) (m : Int) (hs : s.size ≤ 4194304) : WordsE s (wL s.data.toList) (wP s.data.toList) (wE s.data.toList) m := fun w he => words_any s m w hs he.gl.cell
theorem isW_far {L : List V} (b : Bool) (s : List UInt8) : isW L L.length b s = false := by unfold isW; rw [List.getElem?_eq_none (Nat.le_refl _)]
theorem isK_far {L : List V} (b : Bool) (k : Int) : isK L L.length b k = false := by unfold isK; rw [List.getElem?_eq_none (Nat.le_refl _)]
theorem oneL_far {L : List V} (b : Bool) : ∀ ls, oneL L L.length b ls = []
 | [] => rfl
 | s :: ls => by rw [oneL, isW_far, if_neg (by decide)]; exact oneL_far b ls
theorem P_out {L : List V} : ∀ f : Nat, (∀ lv, 1 ≤ lv → lv ≤ 7 → 9 - lv ≤ f → (P L f (.expr lv) L.length false).2 = (L.length, true)) ∧ (1 ≤ f → (P L f .sign L.length false).2 = (L.length, true))
 | 0 => ⟨fun lv _ h h2 => by omega, fun h => absurd h (by omega)⟩
 | f + 1 => by
  have ih := P_out (L := L) f
  refine ⟨fun lv h1 h7 hf => ?_, fun _ => ?_⟩
  ·rw [P]
   split
   ·exact ih.2 (by omega)
   split
   ·rw [isW_far, if_neg (by decide)]
    exact ih.1 4 (by decide) (by decide) (by omega)
   split
   ·rw [ih.1 5 (by decide) (by decide) (by omega)]
    exact (P_ends L f (.test _) L.length true (Nat.le_refl _)).2.2 rfl
   ·rw [ih.1 (lv + 1) (by omega) (by omega) (by omega)]
    exact (P_ends L f (.loop lv _) L.length true (Nat.le_refl _)).2.2 rfl
  ·rw [P, isW_far, if_neg (by decide), isW_far, if_neg (by decide), oneL_far, if_pos rfl, isK_far, isK_far, isK_far]
   rfl
theorem read_out {l : List W} : readN l l.length = (zeroT, l.length, 91) := by
 have h : (fromP (bare l) l.length).2 = (l.length, true) := by
  have h1 := (P_out (L := bare l) (stepsN (bare l))).1 1 (by decide) (by decide) (by unfold stepsN; omega)
  rw [bare_length] at h1
  exact h1
 unfold readN
 rw [h]
 rfl
theorem eread_out (A : Option Addr) (cap n : Nat) (w : World) :
  Calls Tryz.prog 122 #[.slice A n cap, .int .i64 n] w (ReadPost w (zeroT, n, 91)) := by
 have e2 : decide ((n : Int) < 0) = false := by simp
 have e3 : decide ((n : Int) ≤ (n : Int)) = true := by simp
 have e4 : decide (n ≤ n) = true := by simp
 go_enter Tryz.func122, Tryz.ntmps122
 go_wp2
 have Y := NBox.fresh w (.string ⟨#[]⟩) (.string ⟨#[]⟩) (.slice none 0 0) 25
 exact bodyPost_ret (v := .tuple #[.agg #[.string ⟨#[]⟩, .string ⟨#[]⟩, .slice none 0 0], .int .i64 n, .int .i64 91]) (by simp [results, Tryz.results122, go_sem, Y.c0, Y.c1, Y.c2]) rfl
  ⟨⟨#[]⟩, ⟨#[]⟩, none, 0, 0, rfl, ⟨rfl, rfl, rfl⟩, (Below.refl _ _).alloc (Nat.le_refl _) _⟩
section
variable {r : Nat} {m : Int} {A : Option Addr} {cap : Nat} {l : List W} {qb qa : Nat}
theorem eread_all (hg : Good l) (i : Nat) (w : World) (h : Rq w r m A cap l qb qa i) (hi : i ≤ l.length) :
  Calls Tryz.prog 122 #[.slice A l.length cap, .int .i64 i] w (ReadPost w (readN l i)) := by
 by_cases hil : i < l.length
 ·exact eread_any A cap l i m w (h.rd.ws.more (Nat.le_of_lt h.lt)) hg h.rd.env hil
 ·obtain rfl : i = l.length := by omega
  rw [read_out]
  exact eread_out A cap l.length w
theorem readN_cases (i : Nat) : ∃ (x : Tr) (j : Nat) (b : Bool) (y : Tr) (ee : Int), exprP (bare l) i = (x.n, j, b) ∧ readN l i = (y, j, ee) ∧ (ee == 0) = (!b) ∧ (b = false → y = x) := by
 obtain ⟨R, hR⟩ : ∃ R, fromP (bare l) i = R := ⟨_, rfl⟩
 obtain ⟨x, j, b⟩ := R
 have h1 : exprP (bare l) i = (x.n, j, b) := by
  unfold exprP
  rw [show exprQ (bare l) i false = fromP (bare l) i from rfl, hR]
 cases b with
 | true => exact ⟨x, j, true, zeroT, 91, h1, by unfold readN; rw [hR]; rfl, rfl, fun e => by cases e⟩
 | false => exact ⟨x, j, false, x, 0, h1, by unfold readN; rw [hR]; rfl, rfl, fun _ => rfl⟩
theorem pexpr_any (hg : Good l) (i : Nat) (w : World) (h : Rq w r m A cap l qb qa i) (hi : i ≤ l.length) :
  Calls Tryz.prog 84 #[.pointer (some ⟨r, 0, none⟩)] w (GiveN r m A cap l qb qa w (exprP (bare l) i)) := by
 obtain ⟨x, j, b, y, ee, hx, hrd, hee, hxy⟩ := readN_cases (l := l) i
 rw [hx]
 have HE := hid (fun w' (h' : Rq w' r m A cap l qb qa i) => eread_all hg i w' h' hi)
 rw [hrd] at HE
 have HXY := hid hxy
 have HEE := hid hee
 have HR := hid h
 have hrl := h.lt
 have hql := h.ltq
 have hal := h.lta
 clear h hx hrd hxy hee
 go_enter Tryz.func84, Tryz.ntmps84
 obtain ⟨w0, hw0, hz0, N0, B0⟩ := made0 w r
 have R0 := hid (show Rq w0 r m A cap l qb qa i by rw [← hw0]; exact HR.out.alloc _)
 have NF := hid (NBox.fresh w0 (.string ⟨#[]⟩) (.string ⟨#[]⟩) (.slice none 0 0) 25)
 rw [hz0] at NF
 have HW0 := hid hw0
 clear hw0
 go_upto_region 1 with fail
 rw [HW0.out]
 have hrl0 := R0.out.lt
 have c0 := R0.out.rd.c0
 have c1 := R0.out.rd.c1
 have FQ := hid (fun (w' : World) (hb : Below w0.heap.size w0 w') => show w'.cell? ⟨r, 0, none⟩ = some (.slice A l.length cap) ∧ w'.cell? ⟨r, 1, none⟩ = some (.int .i64 (i : Int)) from ⟨(hb.cell (p := ⟨r, 0, none⟩) hrl0).trans c0, (hb.cell (p := ⟨r, 1, none⟩) hrl0).trans c1⟩)
 go_cut [4, 5, 6] (fun s4 s5 s6 wx => ∃ (g : Nat) (op tx : ByteArray) (X : Option Addr) (n k : Nat), s4 = .pointer (some ⟨g, 0, none⟩) ∧ s5 = .int .i64 (j : Int) ∧ s6 = .int .i64 ee ∧ w0.heap.size ≤ g ∧ NBox wx g (.string op) (.string tx) (.slice X n k) ∧ RIn wx (fun h => w0.heap.size ≤ h ∧ h < wx.heap.size) y.n (op, tx, X, n, k) ∧ Below w0.heap.size w0 wx)
 case first =>
  go_region_held3 (fun w' => (w'.cell? ⟨r, 0, none⟩ = some (.slice A l.length cap) ∧ w'.cell? ⟨r, 1, none⟩ = some (.int .i64 (i : Int))) ∧ Below w0.heap.size w0 w')
   (first | assumption | (refine keepK hb (by assumption) ?_; intro k; exact ⟨(k _ _ hrl0).trans c0, (k _ _ hrl0).trans c1⟩) | (refine keepA _ (by assumption) ?_; intro k; exact ⟨(k _ _ hrl0).trans c0, (k _ _ hrl0).trans c1⟩) | (refine keepD (by assumption) ?_; intro k; exact ⟨(k _ _ hrl0).trans c0, (k _ _ hrl0).trans c1⟩) | (exact ⟨⟨c0, c1⟩, Below.drew (Below.refl _ _)⟩) | (refine (fun hS9 : Below w0.heap.size w0 _ => ⟨FQ.out _ hS9, hS9⟩) (swapO (show _ ∧ Below w0.heap.size w0 _ by assumption).2 (by omega))) | (refine (fun hS9 : Below w0.heap.size w0 _ => ⟨FQ.out _ hS9, hS9⟩) ((((show _ ∧ Below w0.heap.size w0 _ by assumption).2.setCell (by first | (simp; done) | (simp; omega) | omega) _).setCell (by first | (simp; done) | (simp; omega) | omega) _).setCell (by first | (simp; done) | (simp; omega) | omega) _)))
   (first | (go_at_call 122; refine (HE.out _ (R0.out.below (show _ ∧ Below w0.heap.size w0 _ by assumption).2)).mono ?_; rintro e w5 ⟨op, tx, X, n, k, rfl, hn5, hb⟩; try dsimp only at hn5; have hs5 : w0.heap.size ≤ w5.heap.size := Nat.le_trans (show _ ∧ Below w0.heap.size w0 _ by assumption).2.size hb.size; have hk := (bcell hb).1; have hf := (bcell hb).2; have hs6 := hb.size; (try simp at hs6); (try have hq0 : w0.heap.size < w5.heap.size := by omega)))
  all_goals go_wp2_with fail
  all_goals go_meet
  all_goals (refine ⟨_, op, tx, X, n, k, rfl, rfl, rfl, ?_, ?_, ?_, (show _ ∧ Below w0.heap.size w0 _ by assumption).2⟩)
  all_goals first | omega | exact NBox.fresh _ _ _ _ _ | exact (NBox.below NF.out hb).set _ _ _ | exact (NBox.below (NF.out.below (Below.drew (Below.refl _ _))) hb).set _ _ _ | exact (hn5.rin.alloc (fun g hg => hg.2) _).imp (fun g hg => ⟨by have := hg.1; simp at this; omega, by have := hg.2; simp; omega⟩) | exact (hn5.rin.w3 (fun hg => by have := hg.1; simp at this; omega) _ _ _).imp (fun g hg => ⟨by have := hg.1; simp at this; omega, by show g < (W3 w5 _ _ _ _).heap.size; rw [W3.size]; exact hg.2⟩)
 case rest =>
  obtain ⟨g, op, tx, X, n, k, rfl, rfl, rfl, hge, G, I, hB⟩ := hcut
  have R5 := hid (R0.out.below hB)
  have B5 := hid (B0.out.next hB)
  have N5 := hid (N0.out.below hB)
  have G5 := hid G
  have I5 := hid I
  have zx := hB.size
  have zg := G.lt
  have hgr : g ≠ r := by omega
  clear c0 c1 hB I
  obtain ⟨g0, g1, g2, gf⟩ := G
  have c1 := R5.out.rd.c1
  have f1 := R5.out.rd.fr 1
  rename World => wx
  obtain ⟨w6, hw6⟩ : ∃ w6, wx.setCell ⟨r, 1, none⟩ (.int .i64 j) = w6 := ⟨_, rfl⟩
  have R6 := hid (show Rq w6 r m A cap l qb qa j by rw [← hw6]; exact R5.out.at j)
  have B6 := hid (show But w w6 r by rw [← hw6]; exact B5.out.setCell 1 _)
  have N6 := hid (show NBox w6 w.heap.size (.string ⟨#[]⟩) (.string ⟨#[]⟩) (.slice none 0 0) by rw [← hw6]; exact N5.out.far _ (by show r ≠ _; omega) _)
  have G6 := hid (show NBox w6 g (.string op) (.string tx) (.slice X n k) by rw [← hw6]; exact G5.out.far _ (by show r ≠ _; omega) _)
  have z6 : w6.heap.size = wx.heap.size := by rw [← hw6]; simp
  have I6 := hid (show RIn w6 (fun h => w.heap.size < h ∧ h < w6.heap.size) y.n (op, tx, X, n, k) by
   rw [← hw6]
   exact (I5.out.setCell _ (fun h => by have h1 := h.1; dsimp only at h1; omega) _).imp (fun h hh => ⟨by have := hh.1; omega, by have := hh.2; simp; omega⟩))
  have HW6 := hid hw6
  clear hw6
  go_upto_region 3 with fail
  rw [HW6.out]
  clear g0 g1 g2 gf c1 f1
  obtain ⟨x0, x1, x2, xf⟩ := N6.out
  obtain ⟨g0, g1, g2, gf⟩ := G6.out
  have hee := HEE.out
  have xl := N6.out.lt
  have gl := G6.out.lt
  go_wp2
  have Y := N6.out.set (.string op) (.string tx) (.slice X n k)
  exact bodyPost_ret (v := .tuple #[.agg #[.string op, .string tx, .slice X n k], .bool (!b)]) (by simp [results, Tryz.results84, go_sem, Y.c0, Y.c1, Y.c2, hee]) rfl
   (giveN_ret (fun e => by rw [← HXY.out e]; exact I6.out) B6.out R6.out hrl hql hal)
end
end Go.Proofs.YtjbpkpfmgbhlpaaGreatDoor.Code
