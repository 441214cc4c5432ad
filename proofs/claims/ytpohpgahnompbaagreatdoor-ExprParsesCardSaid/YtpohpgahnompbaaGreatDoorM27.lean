/-
  The program's reader of expressions: a sign that is an expression in brackets.
-/
import Derived.Test.YtpohpgahnompbaaGreatDoorM25
import Derived.Deep.RegionHeld3
namespace Go.Proofs.YtpohpgahnompbaaGreatDoor.Code
open Go.ChangeShapes Go.WideShapes Go.ChangeAt Go.RowKit Val Elems
set_option linter.unusedVariables false
set_option linter.unusedSimpArgs false
section
variable {r : Nat} {m : Int} {A : Option Addr} {cap : Nat} {l : List W} {f : Nat}
theorem Gives.next {w w' w2 : World} {S : Nat → Prop} {res : Tr × Nat × Bool} {e : Ending} (h : Gives r m A cap l w S res e w') (hb2 : Below w'.heap.size w' w2) (hS : ∀ g, S g → g < w'.heap.size) : Gives r m A cap l w S res e w2 := by
  obtain ⟨op, tx, X, n, k, he, hn, hb, hr⟩ := h
  have hz := hb2.size
  exact ⟨op, tx, X, n, k, he, fun hq => ((hn hq).below (fun g hg => by rcases hg with hg | hg; exact hS g hg; exact hg.2) hb2).imp (fun g hg => by rcases hg with hg | hg; exact .inl hg; exact .inr ⟨hg.1, by omega⟩), hb.next hb2, hr.below hb2⟩
set_option maxHeartbeats 8000000 in
set_option maxRecDepth 100000 in
theorem es_bad (D : Goes r m A cap l (f + 1)) (hg : Good l) (i : Nat) (w : World) (hi : i ≤ l.length) (hm : mu (bare l) (.expr 7) i < f + 2) (h : Rd w r m A cap l i) (q1 : isW (bare l) i false [45] = false) (q2 : isW (bare l) i false [40] = true) (x : Tr) (j : Nat) (hx : P (bare l) (f + 1) (.expr 1) (i + 1) false = (x, j, true)) :
    Calls Tryz.prog 109 #[.pointer (some ⟨r, 0, none⟩)] w (Gives r m A cap l w NoBlk (P (bare l) (f + 1) .sign i false)) := by
  have hil : i < l.length := by have := isW_lt q2; rwa [bare_length] at this
  have e0 : mu (bare l) (.expr 7) i = 16 * ((bare l).length - i) + 3 := rfl
  have e1 : mu (bare l) (.expr 1) (i + 1) = 16 * ((bare l).length - (i + 1)) + 15 := rfl
  have hps : P (bare l) f (.expr 1) (i + 1) false = P (bare l) (f + 1) (.expr 1) (i + 1) false := P_steps _ _ _ _ _ _ (by rw [bare_length]; omega) ⟨by omega, by omega⟩ (by rw [bare_length] at e0 e1; omega) (by rw [bare_length] at e0 e1; omega)
  have hje := P_ends (bare l) (f + 1) (.expr 1) (i + 1) false (by rw [bare_length]; omega)
  rw [hx, bare_length] at hje
  have hjl : j ≤ l.length := hje.2.1
  have HI := Lib.hid (fun w1 hr => D.g_or (i + 1) w1 (by omega) (by rw [bare_length] at e0 e1; omega) hr)
  rw [hx] at HI
  have hP : P (bare l) (f + 1) .sign i false = (x, j, true) := by rw [P, if_neg (by rw [q1]; decide), if_pos q2, hps, hx, if_neg (by rw [isW_bad]; decide)]
  rw [hP]
  have H1 := Lib.hid (fun S sc' w1 (hr : Rd w1 r m A cap l i) hs hne => etake_no hg i [[45]] S sc' w1 hr hi hs hne (by decide) (by decide) (one_no q1))
  have H2 := Lib.hid (fun S sc' w1 (hr : Rd w1 r m A cap l i) hs hne => etake_yes hg i [[40]] ⟨#[40]⟩ S sc' w1 hr hi hs hne (by decide) (by decide) (by decide) (one_yes q2))
  have HR := Lib.hid h
  have hrl := h.lt
  clear h hm D hg hx hP q1 q2 e0 e1 hps hje
  go_enter Tryz.func109, Tryz.ntmps109
  obtain ⟨w0, hw0⟩ : ∃ w0, w.alloc (.cells #[.string ⟨#[]⟩, .string ⟨#[]⟩, .slice none 0 0] 25) = w0 := ⟨_, rfl⟩
  have hz0 : w0.heap.size = w.heap.size + 1 := by rw [← hw0]; simp
  have N0 := Lib.hid (show NBox w0 w.heap.size (.string ⟨#[]⟩) (.string ⟨#[]⟩) (.slice none 0 0) by rw [← hw0]; exact NBox.fresh _ _ _ _ _)
  have B0 := Lib.hid (show But w w0 r by rw [← hw0]; exact (But.refl w r).alloc _)
  have R0 := Lib.hid (show Rd w0 r m A cap l i by rw [← hw0]; exact HR.out.alloc _)
  go_wp2_with fail
  try rw [hw0]
  have HA1 := Lib.hid (at_texts w0 [[45]] #[.string ⟨#[45]⟩] 9 rfl)
  rw [hz0] at HA1
  have zr0 := R0.out.lt
  refine (H1.out _ _ _ (R0.out.alloc _) HA1.out (fun ad e => by cases e; first | (show w.heap.size + 1 ≠ r; omega) | (show w0.heap.size ≠ r; omega))).mono ?_
  rintro e w1 ⟨rfl, hb, hr⟩
  have N1 := Lib.hid ((N0.out.alloc _).but (by omega) hb)
  have B1 := Lib.hid ((B0.out.alloc _).trans hb)
  have R1 := Lib.hid hr
  have zs1 : w0.heap.size ≤ w1.heap.size := by have := hb.size; simp at this; omega
  clear hb hr
  go_wp2_with fail
  have HA2 := Lib.hid (at_texts w1 [[40]] #[.string ⟨#[40]⟩] 9 rfl)
  have zr1 := R1.out.lt
  refine (H2.out _ _ _ (R1.out.alloc _) HA2.out (fun ad e => by cases e; first | (show w.heap.size + 1 ≠ r; omega) | (show w1.heap.size ≠ r; omega))).mono ?_
  rintro e w2 ⟨rfl, hb, hr⟩
  have N2 := Lib.hid ((N1.out.alloc _).but (by omega) hb)
  have B2 := Lib.hid ((B1.out.alloc _).trans hb)
  have R2 := Lib.hid hr
  have zs2 : w1.heap.size ≤ w2.heap.size := by have := hb.size; simp at this; omega
  clear hb hr
  go_wp2_with fail
  refine (HI.out _ R2.out).mono ?_
  rintro e w3 ⟨o1, t1, X, n, k, rfl, hn1, hb1, hr1⟩
  dsimp only at hn1 hr1
  have z2 := R2.out.lt
  have I3 := Lib.hid (give_pass (w := w) hn1 (by omega))
  have B3 := Lib.hid (B2.out.trans hb1)
  have R3 := Lib.hid hr1
  have N3 := Lib.hid (N2.out.but (by omega) hb1)
  clear hn1 hb1 hr1
  have N4 := Lib.hid (N3.out.alloc (.cells #[.string o1, .string t1, .slice X n k] 25))
  have B4 := Lib.hid (B3.out.alloc (.cells #[.string o1, .string t1, .slice X n k] 25))
  have R4 := Lib.hid (R3.out.alloc (.cells #[.string o1, .string t1, .slice X n k] 25))
  have I4 := Lib.hid (fun hq => ((I3.out hq).alloc (fun g hg => hg.2) (.cells #[.string o1, .string t1, .slice X n k] 25)).imp (S' := fun g => w.heap.size < g ∧ g < w3.heap.size + 1) (fun g hg => ⟨hg.1, by have := hg.2; omega⟩))
  have V4 := Lib.hid (NBox.fresh w3 (.string o1) (.string t1) (.slice X n k) 25)
  have zn3 := N3.out.lt
  obtain ⟨w4, hw4⟩ : ∃ w4, w3.alloc (.cells #[.string o1, .string t1, .slice X n k] 25) = w4 := ⟨_, rfl⟩
  have hz4 : w4.heap.size = w3.heap.size + 1 := by rw [← hw4]; simp
  rw [hw4] at N4 B4 R4 I4 V4
  obtain ⟨v0, v1, v2, vf⟩ := V4.out
  obtain ⟨x0, x1, x2, xf⟩ := N4.out
  go_upto_region 5 with fail
  refine wp_region_held_drew (S := fun w' => w'.cell? ⟨w3.heap.size, 0, none⟩ = some (.string o1) ∧ w'.cell? ⟨w3.heap.size, 1, none⟩ = some (.string t1) ∧ w'.cell? ⟨w3.heap.size, 2, none⟩ = some (.slice X n k)) (by kernel_rfl) ⟨v0, v1, v2⟩ (fun hHeld => ?_)
  refine wpAnyH_take (i := 0) (oi := ⟨some 28, _, _, _, _, _⟩) (v := ?_) rfl (by kernel_rfl) (by kernel_rfl) (by kernel_rfl) (fun _ _ _ h => h) (Or.inl ⟨by rfl, ?_⟩) (by assumption) ?_; rotate_left 1; (intro w hSw; (try dsimp only at hSw); go_simp; try with_reducible rfl); (try simp only [Act.put, List.setIfInBounds_toArray, List.set_cons_zero, List.set_cons_succ])
  refine wpAnyH_take (i := 1) (oi := ⟨some 29, _, _, _, _, _⟩) (v := ?_) rfl (by kernel_rfl) (by kernel_rfl) (by kernel_rfl) (fun _ _ _ h => h) (Or.inl ⟨by rfl, ?_⟩) (by assumption) ?_; rotate_left 1; (intro w hSw; (try dsimp only at hSw); go_simp; try with_reducible rfl); (try simp only [Act.put, List.setIfInBounds_toArray, List.set_cons_zero, List.set_cons_succ])
  refine wpAnyH_take (i := 2) (oi := ⟨some 30, _, _, _, _, _⟩) (v := ?_) rfl (by kernel_rfl) (by kernel_rfl) (by kernel_rfl) (fun _ _ _ h => h) (Or.inl ⟨by rfl, ?_⟩) (by assumption) ?_; rotate_left 1; (intro w hSw; (try dsimp only at hSw); go_simp; try with_reducible rfl); (try simp only [Act.put, List.setIfInBounds_toArray, List.set_cons_zero, List.set_cons_succ])
  refine wpAnyH_take (i := 3) (oi := ⟨some 31, _, _, _, _, _⟩) (v := undef) rfl (by kernel_rfl) (by kernel_rfl) (by kernel_rfl) (fun _ _ _ h => h) (Or.inr ⟨by rfl, rfl⟩) (by assumption) ?_; (try simp only [Act.put, List.setIfInBounds_toArray, List.set_cons_zero, List.set_cons_succ])
  refine wpAnyH_take (i := 4) (oi := ⟨some 32, _, _, _, _, _⟩) (v := undef) rfl (by kernel_rfl) (by kernel_rfl) (by kernel_rfl) (fun _ _ _ h => h) (Or.inr ⟨by rfl, rfl⟩) (by assumption) ?_; (try simp only [Act.put, List.setIfInBounds_toArray, List.set_cons_zero, List.set_cons_succ])
  refine wpAnyH_take (i := 5) (oi := ⟨some 33, _, _, _, _, _⟩) (v := undef) rfl (by kernel_rfl) (by kernel_rfl) (by kernel_rfl) (fun _ _ _ h => h) (Or.inr ⟨by rfl, rfl⟩) (by assumption) ?_; (try simp only [Act.put, List.setIfInBounds_toArray, List.set_cons_zero, List.set_cons_succ])
  refine wpAnyH_take (i := 6) (oi := ⟨some 34, _, _, _, _, _⟩) (v := undef) rfl (by kernel_rfl) (by kernel_rfl) (by kernel_rfl) (fun _ _ _ h => h) (Or.inr ⟨by rfl, rfl⟩) (by assumption) ?_; (try simp only [Act.put, List.setIfInBounds_toArray, List.set_cons_zero, List.set_cons_succ])
  refine wpAnyH_take (i := 7) (oi := ⟨some 35, _, _, _, _, _⟩) (v := ?_) rfl (by kernel_rfl) (by kernel_rfl) (by kernel_rfl) (fun _ _ _ h => h) (Or.inl ⟨by rfl, ?_⟩) (by assumption) ?_; rotate_left 1; (intro w hSw; (try dsimp only at hSw); go_simp; try with_reducible rfl); (try simp only [Act.put, List.setIfInBounds_toArray, List.set_cons_zero, List.set_cons_succ])
  refine wpAnyH_ready (rs := [8]) (by kernel_rfl) (by simp) ?_
  refine AllReadyH.cons (o := ⟨none, _, _, _, _, _⟩) rfl (fun K hK => ?_) AllReadyH.nil
  go_simp
  have hne : ∀ a b : Nat, (⟨w.heap.size, a, none⟩ : Addr) ≠ ⟨w3.heap.size, b, none⟩ := fun a b e => by have := congrArg Addr.block e; dsimp only at this; omega
  have hfar : ∀ b : Nat, (W3 w4 w.heap.size (.string o1) (.string t1) (.slice X n k)).cell? ⟨w3.heap.size, b, none⟩ = w4.cell? ⟨w3.heap.size, b, none⟩ := fun b => by unfold W3; rw [World.cell?_setCell_other _ _ _ _ (hne _ _), World.cell?_setCell_other _ _ _ _ (hne _ _), World.cell?_setCell_other _ _ _ _ (hne _ _)]
  refine hK.out _ _ ⟨(hfar 0).trans v0, (hfar 1).trans v1, (hfar 2).trans v2⟩ (fun hHeld4 => ?_)
  clear hK K
  (try simp only [Act.put, List.setIfInBounds_toArray, List.set_cons_zero, List.set_cons_succ])
  refine wpAnyH_take (i := 9) (oi := ⟨some 3, _, _, _, _, _⟩) (v := ?_) rfl (by kernel_rfl) (by kernel_rfl) (by kernel_rfl) (fun _ _ _ h => h) (Or.inl ⟨by rfl, ?_⟩) (by assumption) ?_; rotate_left 1; (intro w hSw; (try dsimp only at hSw); go_simp; try with_reducible rfl); (try simp only [Act.put, List.setIfInBounds_toArray, List.set_cons_zero, List.set_cons_succ])
  refine wpAnyH_done (by kernel_rfl) ?_ _
  go_wp2
  have Y := N4.out.set (.string o1) (.string t1) (.slice X n k)
  exact bodyPost_ret (v := .tuple #[.agg #[.string o1, .string t1, .slice X n k], .bool (!true)]) (by simp [results, Tryz.results109, go_sem, Y.c0, Y.c1, Y.c2]) rfl
    ((give_ret (w := w) (b := true) (op := o1) (tx := t1) (X := X) (n := n) (k := k) (fun h => (by cases h)) B4.out R4.out hrl).next (Below.drew (Below.refl _ _)) (fun g hg => hg.elim))
set_option maxHeartbeats 8000000 in
set_option maxRecDepth 100000 in
theorem es_shut (D : Goes r m A cap l (f + 1)) (hg : Good l) (i : Nat) (w : World) (hi : i ≤ l.length) (hm : mu (bare l) (.expr 7) i < f + 2) (h : Rd w r m A cap l i) (q1 : isW (bare l) i false [45] = false) (q2 : isW (bare l) i false [40] = true) (x : Tr) (j : Nat) (hx : P (bare l) (f + 1) (.expr 1) (i + 1) false = (x, j, false)) (hq : isW (bare l) j false [41] = true) :
    Calls Tryz.prog 109 #[.pointer (some ⟨r, 0, none⟩)] w (Gives r m A cap l w NoBlk (P (bare l) (f + 1) .sign i false)) := by
  have hil : i < l.length := by have := isW_lt q2; rwa [bare_length] at this
  have e0 : mu (bare l) (.expr 7) i = 16 * ((bare l).length - i) + 3 := rfl
  have e1 : mu (bare l) (.expr 1) (i + 1) = 16 * ((bare l).length - (i + 1)) + 15 := rfl
  have hps : P (bare l) f (.expr 1) (i + 1) false = P (bare l) (f + 1) (.expr 1) (i + 1) false := P_steps _ _ _ _ _ _ (by rw [bare_length]; omega) ⟨by omega, by omega⟩ (by rw [bare_length] at e0 e1; omega) (by rw [bare_length] at e0 e1; omega)
  have hje := P_ends (bare l) (f + 1) (.expr 1) (i + 1) false (by rw [bare_length]; omega)
  rw [hx, bare_length] at hje
  have hjl : j ≤ l.length := hje.2.1
  have HI := Lib.hid (fun w1 hr => D.g_or (i + 1) w1 (by omega) (by rw [bare_length] at e0 e1; omega) hr)
  rw [hx] at HI
  have hP : P (bare l) (f + 1) .sign i false = (x, j + 1, false) := by
    rw [P, if_neg (by rw [q1]; decide), if_pos q2, hps, hx, hq]
    rfl
  rw [hP]
  have H1 := Lib.hid (fun S sc' w1 (hr : Rd w1 r m A cap l i) hs hne => etake_no hg i [[45]] S sc' w1 hr hi hs hne (by decide) (by decide) (one_no q1))
  have H2 := Lib.hid (fun S sc' w1 (hr : Rd w1 r m A cap l i) hs hne => etake_yes hg i [[40]] ⟨#[40]⟩ S sc' w1 hr hi hs hne (by decide) (by decide) (by decide) (one_yes q2))
  have H3 := Lib.hid (fun S sc' w1 (hr : Rd w1 r m A cap l j) hs hne => etake_yes hg j [[41]] ⟨#[41]⟩ S sc' w1 hr hjl hs hne (by decide) (by decide) (by decide) (one_yes hq))
  have HR := Lib.hid h
  have hrl := h.lt
  clear h hm D hg hx hP q1 q2 e0 e1 hps hje hq
  go_enter Tryz.func109, Tryz.ntmps109
  obtain ⟨w0, hw0⟩ : ∃ w0, w.alloc (.cells #[.string ⟨#[]⟩, .string ⟨#[]⟩, .slice none 0 0] 25) = w0 := ⟨_, rfl⟩
  have hz0 : w0.heap.size = w.heap.size + 1 := by rw [← hw0]; simp
  have N0 := Lib.hid (show NBox w0 w.heap.size (.string ⟨#[]⟩) (.string ⟨#[]⟩) (.slice none 0 0) by rw [← hw0]; exact NBox.fresh _ _ _ _ _)
  have B0 := Lib.hid (show But w w0 r by rw [← hw0]; exact (But.refl w r).alloc _)
  have R0 := Lib.hid (show Rd w0 r m A cap l i by rw [← hw0]; exact HR.out.alloc _)
  go_wp2_with fail
  try rw [hw0]
  have HA1 := Lib.hid (at_texts w0 [[45]] #[.string ⟨#[45]⟩] 9 rfl)
  rw [hz0] at HA1
  have zr0 := R0.out.lt
  refine (H1.out _ _ _ (R0.out.alloc _) HA1.out (fun ad e => by cases e; first | (show w.heap.size + 1 ≠ r; omega) | (show w0.heap.size ≠ r; omega))).mono ?_
  rintro e w1 ⟨rfl, hb, hr⟩
  have N1 := Lib.hid ((N0.out.alloc _).but (by omega) hb)
  have B1 := Lib.hid ((B0.out.alloc _).trans hb)
  have R1 := Lib.hid hr
  have zs1 : w0.heap.size ≤ w1.heap.size := by have := hb.size; simp at this; omega
  clear hb hr
  go_wp2_with fail
  have HA2 := Lib.hid (at_texts w1 [[40]] #[.string ⟨#[40]⟩] 9 rfl)
  have zr1 := R1.out.lt
  refine (H2.out _ _ _ (R1.out.alloc _) HA2.out (fun ad e => by cases e; first | (show w.heap.size + 1 ≠ r; omega) | (show w1.heap.size ≠ r; omega))).mono ?_
  rintro e w2 ⟨rfl, hb, hr⟩
  have N2 := Lib.hid ((N1.out.alloc _).but (by omega) hb)
  have B2 := Lib.hid ((B1.out.alloc _).trans hb)
  have R2 := Lib.hid hr
  have zs2 : w1.heap.size ≤ w2.heap.size := by have := hb.size; simp at this; omega
  clear hb hr
  go_wp2_with fail
  refine (HI.out _ R2.out).mono ?_
  rintro e w3 ⟨o1, t1, X, n, k, rfl, hn1, hb1, hr1⟩
  dsimp only at hn1 hr1
  have z2 := R2.out.lt
  have I3 := Lib.hid (give_pass (w := w) hn1 (by omega))
  have B3 := Lib.hid (B2.out.trans hb1)
  have R3 := Lib.hid hr1
  have N3 := Lib.hid (N2.out.but (by omega) hb1)
  clear hn1 hb1 hr1
  have N4 := Lib.hid (N3.out.alloc (.cells #[.string o1, .string t1, .slice X n k] 25))
  have B4 := Lib.hid (B3.out.alloc (.cells #[.string o1, .string t1, .slice X n k] 25))
  have R4 := Lib.hid (R3.out.alloc (.cells #[.string o1, .string t1, .slice X n k] 25))
  have I4 := Lib.hid (fun hq => ((I3.out hq).alloc (fun g hg => hg.2) (.cells #[.string o1, .string t1, .slice X n k] 25)).imp (S' := fun g => w.heap.size < g ∧ g < w3.heap.size + 1) (fun g hg => ⟨hg.1, by have := hg.2; omega⟩))
  have V4 := Lib.hid (NBox.fresh w3 (.string o1) (.string t1) (.slice X n k) 25)
  have zn3 := N3.out.lt
  obtain ⟨w4, hw4⟩ : ∃ w4, w3.alloc (.cells #[.string o1, .string t1, .slice X n k] 25) = w4 := ⟨_, rfl⟩
  have hz4 : w4.heap.size = w3.heap.size + 1 := by rw [← hw4]; simp
  rw [hw4] at N4 B4 R4 I4 V4
  obtain ⟨v0, v1, v2, vf⟩ := V4.out
  obtain ⟨x0, x1, x2, xf⟩ := N4.out
  go_upto_region 5 with fail
  refine wp_region_held_drew (S := fun w' => w'.cell? ⟨w3.heap.size, 0, none⟩ = some (.string o1) ∧ w'.cell? ⟨w3.heap.size, 1, none⟩ = some (.string t1) ∧ w'.cell? ⟨w3.heap.size, 2, none⟩ = some (.slice X n k)) (by kernel_rfl) ⟨v0, v1, v2⟩ (fun hHeld => ?_)
  refine wpAnyH_take (i := 0) (oi := ⟨some 28, _, _, _, _, _⟩) (v := ?_) rfl (by kernel_rfl) (by kernel_rfl) (by kernel_rfl) (fun _ _ _ h => h) (Or.inl ⟨by rfl, ?_⟩) (by assumption) ?_; rotate_left 1; (intro w hSw; (try dsimp only at hSw); go_simp; try with_reducible rfl); (try simp only [Act.put, List.setIfInBounds_toArray, List.set_cons_zero, List.set_cons_succ])
  refine wpAnyH_take (i := 1) (oi := ⟨some 29, _, _, _, _, _⟩) (v := ?_) rfl (by kernel_rfl) (by kernel_rfl) (by kernel_rfl) (fun _ _ _ h => h) (Or.inl ⟨by rfl, ?_⟩) (by assumption) ?_; rotate_left 1; (intro w hSw; (try dsimp only at hSw); go_simp; try with_reducible rfl); (try simp only [Act.put, List.setIfInBounds_toArray, List.set_cons_zero, List.set_cons_succ])
  refine wpAnyH_take (i := 2) (oi := ⟨some 30, _, _, _, _, _⟩) (v := ?_) rfl (by kernel_rfl) (by kernel_rfl) (by kernel_rfl) (fun _ _ _ h => h) (Or.inl ⟨by rfl, ?_⟩) (by assumption) ?_; rotate_left 1; (intro w hSw; (try dsimp only at hSw); go_simp; try with_reducible rfl); (try simp only [Act.put, List.setIfInBounds_toArray, List.set_cons_zero, List.set_cons_succ])
  refine wpAnyH_take (i := 3) (oi := ⟨some 31, _, _, _, _, _⟩) (v := ?_) rfl (by kernel_rfl) (by kernel_rfl) (by kernel_rfl) (fun _ _ _ h => h) (Or.inl ⟨by rfl, ?_⟩) (by assumption) ?_; rotate_left 1; (intro w hSw; (try dsimp only at hSw); go_simp; try with_reducible rfl); (try simp only [Act.put, List.setIfInBounds_toArray, List.set_cons_zero, List.set_cons_succ])
  refine wpAnyH_ready (rs := [4]) (by kernel_rfl) (by simp) ?_
  refine AllReadyH.cons (o := ⟨some 32, _, _, _, _, _⟩) rfl (fun K hK => ?_) AllReadyH.nil
  go_simp
  refine hK.out _ _ ⟨?_, ?_, ?_⟩ (fun hHeld2 => ?_)
  iterate 3 (first | (exact (World.cell?_alloc_some _ _ _ (by rw [v0]; rfl)).trans v0) | (exact (World.cell?_alloc_some _ _ _ (by rw [v1]; rfl)).trans v1) | (exact (World.cell?_alloc_some _ _ _ (by rw [v2]; rfl)).trans v2))
  clear hK K
  (try simp only [Act.put, List.setIfInBounds_toArray, List.set_cons_zero, List.set_cons_succ])
  refine wpAnyH_ready (rs := [5]) (by kernel_rfl) (by simp) ?_
  refine AllReadyH.cons (o := ⟨some 33, _, _, _, _, _⟩) rfl (fun K hK => ?_) AllReadyH.nil
  go_simp
  have HA5 := Lib.hid (at_texts w4 [[41]] #[.string ⟨#[41]⟩] 9 rfl)
  rw [hz4] at HA5
  have zr4 := R4.out.lt
  have zn4 := N4.out.lt
  have zv4 := V4.out.lt
  have L5 := Lib.hid (show Below w4.heap.size w4 (w4.alloc (.cells #[.string ⟨#[41]⟩] 9)).drew from (below_alloc w4 _).drew)
  refine (H3.out _ _ _ (R4.out.below L5.out) (HA5.out.below (Below.drew (Below.refl _ _))) (fun ad e => by cases e; show w3.heap.size + 1 ≠ r; omega)).mono ?_
  rintro e w5 ⟨rfl, hb, hr⟩
  have N5 := Lib.hid ((N4.out.below L5.out).but (by omega) hb)
  have V5 := Lib.hid ((V4.out.below L5.out).but (by omega) hb)
  have B5 := Lib.hid ((B4.out.next L5.out).trans hb)
  have R5 := Lib.hid hr
  have z5 : w3.heap.size + 1 ≤ w5.heap.size := by have := hb.size; have := L5.out.size; omega
  have I5 := Lib.hid (fun hq => ((I4.out hq).below (fun g hg => by have := hg.2; omega) L5.out).but (fun g hg => ⟨by have h9 := hg.2; have := L5.out.size; omega, by have h9 := hg.1; omega⟩) hb)
  obtain ⟨u0, u1, u2, uf⟩ := V5.out
  refine hK.out _ _ ⟨u0, u1, u2⟩ (fun hHeld3 => ?_)
  clear hK K hb hr v0 v1 v2 vf x0 x1 x2 xf
  (try simp only [Act.put, List.setIfInBounds_toArray, List.set_cons_zero, List.set_cons_succ])
  obtain ⟨x0, x1, x2, xf⟩ := N5.out
  refine wpAnyH_take (i := 6) (oi := ⟨some 34, _, _, _, _, _⟩) (v := ?_) rfl (by kernel_rfl) (by kernel_rfl) (by kernel_rfl) (fun _ _ _ h => h) (Or.inl ⟨by rfl, ?_⟩) (by assumption) ?_; rotate_left 1; (intro w hSw; (try dsimp only at hSw); go_simp; try with_reducible rfl); (try simp only [Act.put, List.setIfInBounds_toArray, List.set_cons_zero, List.set_cons_succ])
  refine wpAnyH_take (i := 7) (oi := ⟨some 35, _, _, _, _, _⟩) (v := ?_) rfl (by kernel_rfl) (by kernel_rfl) (by kernel_rfl) (fun _ _ _ h => h) (Or.inl ⟨by rfl, ?_⟩) (by assumption) ?_; rotate_left 1; (intro w hSw; (try dsimp only at hSw); go_simp; try with_reducible rfl); (try simp only [Act.put, List.setIfInBounds_toArray, List.set_cons_zero, List.set_cons_succ])
  refine wpAnyH_ready (rs := [8]) (by kernel_rfl) (by simp) ?_
  refine AllReadyH.cons (o := ⟨none, _, _, _, _, _⟩) rfl (fun K hK => ?_) AllReadyH.nil
  go_simp
  have hne : ∀ a b : Nat, (⟨w.heap.size, a, none⟩ : Addr) ≠ ⟨w3.heap.size, b, none⟩ := fun a b e => by have := congrArg Addr.block e; dsimp only at this; omega
  have hfar : ∀ b : Nat, (W3 w5 w.heap.size (.string o1) (.string t1) (.slice X n k)).cell? ⟨w3.heap.size, b, none⟩ = w5.cell? ⟨w3.heap.size, b, none⟩ := fun b => by unfold W3; rw [World.cell?_setCell_other _ _ _ _ (hne _ _), World.cell?_setCell_other _ _ _ _ (hne _ _), World.cell?_setCell_other _ _ _ _ (hne _ _)]
  refine hK.out _ _ ⟨(hfar 0).trans u0, (hfar 1).trans u1, (hfar 2).trans u2⟩ (fun hHeld4 => ?_)
  clear hK K
  (try simp only [Act.put, List.setIfInBounds_toArray, List.set_cons_zero, List.set_cons_succ])
  refine wpAnyH_take (i := 9) (oi := ⟨some 3, _, _, _, _, _⟩) (v := ?_) rfl (by kernel_rfl) (by kernel_rfl) (by kernel_rfl) (fun _ _ _ h => h) (Or.inl ⟨by rfl, ?_⟩) (by assumption) ?_; rotate_left 1; (intro w hSw; (try dsimp only at hSw); go_simp; try with_reducible rfl); (try simp only [Act.put, List.setIfInBounds_toArray, List.set_cons_zero, List.set_cons_succ])
  refine wpAnyH_done (by kernel_rfl) ?_ _
  go_wp2
  have Y := N5.out.set (.string o1) (.string t1) (.slice X n k)
  exact bodyPost_ret (v := .tuple #[.agg #[.string o1, .string t1, .slice X n k], .bool (!false)]) (by simp [results, Tryz.results109, go_sem, Y.c0, Y.c1, Y.c2]) rfl
    (give_ret (w := w) (b := false) (op := o1) (tx := t1) (X := X) (n := n) (k := k) (fun _ => (I5.out (by first | exact trivial | rfl)).imp (fun g hg => ⟨hg.1, by have := hg.2; omega⟩)) B5.out R5.out hrl)
set_option maxHeartbeats 8000000 in
set_option maxRecDepth 100000 in
theorem es_noshut (D : Goes r m A cap l (f + 1)) (hg : Good l) (i : Nat) (w : World) (hi : i ≤ l.length) (hm : mu (bare l) (.expr 7) i < f + 2) (h : Rd w r m A cap l i) (q1 : isW (bare l) i false [45] = false) (q2 : isW (bare l) i false [40] = true) (x : Tr) (j : Nat) (hx : P (bare l) (f + 1) (.expr 1) (i + 1) false = (x, j, false)) (hq : isW (bare l) j false [41] = false) :
    Calls Tryz.prog 109 #[.pointer (some ⟨r, 0, none⟩)] w (Gives r m A cap l w NoBlk (P (bare l) (f + 1) .sign i false)) := by
  have hil : i < l.length := by have := isW_lt q2; rwa [bare_length] at this
  have e0 : mu (bare l) (.expr 7) i = 16 * ((bare l).length - i) + 3 := rfl
  have e1 : mu (bare l) (.expr 1) (i + 1) = 16 * ((bare l).length - (i + 1)) + 15 := rfl
  have hps : P (bare l) f (.expr 1) (i + 1) false = P (bare l) (f + 1) (.expr 1) (i + 1) false := P_steps _ _ _ _ _ _ (by rw [bare_length]; omega) ⟨by omega, by omega⟩ (by rw [bare_length] at e0 e1; omega) (by rw [bare_length] at e0 e1; omega)
  have hje := P_ends (bare l) (f + 1) (.expr 1) (i + 1) false (by rw [bare_length]; omega)
  rw [hx, bare_length] at hje
  have hjl : j ≤ l.length := hje.2.1
  have HI := Lib.hid (fun w1 hr => D.g_or (i + 1) w1 (by omega) (by rw [bare_length] at e0 e1; omega) hr)
  rw [hx] at HI
  have hP : P (bare l) (f + 1) .sign i false = (x, j, true) := by
    rw [P, if_neg (by rw [q1]; decide), if_pos q2, hps, hx, hq]
    rfl
  rw [hP]
  have H1 := Lib.hid (fun S sc' w1 (hr : Rd w1 r m A cap l i) hs hne => etake_no hg i [[45]] S sc' w1 hr hi hs hne (by decide) (by decide) (one_no q1))
  have H2 := Lib.hid (fun S sc' w1 (hr : Rd w1 r m A cap l i) hs hne => etake_yes hg i [[40]] ⟨#[40]⟩ S sc' w1 hr hi hs hne (by decide) (by decide) (by decide) (one_yes q2))
  have H3 := Lib.hid (fun S sc' w1 (hr : Rd w1 r m A cap l j) hs hne => etake_no hg j [[41]] S sc' w1 hr hjl hs hne (by decide) (by decide) (one_no hq))
  have HR := Lib.hid h
  have hrl := h.lt
  clear h hm D hg hx hP q1 q2 e0 e1 hps hje hq
  go_enter Tryz.func109, Tryz.ntmps109
  obtain ⟨w0, hw0⟩ : ∃ w0, w.alloc (.cells #[.string ⟨#[]⟩, .string ⟨#[]⟩, .slice none 0 0] 25) = w0 := ⟨_, rfl⟩
  have hz0 : w0.heap.size = w.heap.size + 1 := by rw [← hw0]; simp
  have N0 := Lib.hid (show NBox w0 w.heap.size (.string ⟨#[]⟩) (.string ⟨#[]⟩) (.slice none 0 0) by rw [← hw0]; exact NBox.fresh _ _ _ _ _)
  have B0 := Lib.hid (show But w w0 r by rw [← hw0]; exact (But.refl w r).alloc _)
  have R0 := Lib.hid (show Rd w0 r m A cap l i by rw [← hw0]; exact HR.out.alloc _)
  go_wp2_with fail
  try rw [hw0]
  have HA1 := Lib.hid (at_texts w0 [[45]] #[.string ⟨#[45]⟩] 9 rfl)
  rw [hz0] at HA1
  have zr0 := R0.out.lt
  refine (H1.out _ _ _ (R0.out.alloc _) HA1.out (fun ad e => by cases e; first | (show w.heap.size + 1 ≠ r; omega) | (show w0.heap.size ≠ r; omega))).mono ?_
  rintro e w1 ⟨rfl, hb, hr⟩
  have N1 := Lib.hid ((N0.out.alloc _).but (by omega) hb)
  have B1 := Lib.hid ((B0.out.alloc _).trans hb)
  have R1 := Lib.hid hr
  have zs1 : w0.heap.size ≤ w1.heap.size := by have := hb.size; simp at this; omega
  clear hb hr
  go_wp2_with fail
  have HA2 := Lib.hid (at_texts w1 [[40]] #[.string ⟨#[40]⟩] 9 rfl)
  have zr1 := R1.out.lt
  refine (H2.out _ _ _ (R1.out.alloc _) HA2.out (fun ad e => by cases e; first | (show w.heap.size + 1 ≠ r; omega) | (show w1.heap.size ≠ r; omega))).mono ?_
  rintro e w2 ⟨rfl, hb, hr⟩
  have N2 := Lib.hid ((N1.out.alloc _).but (by omega) hb)
  have B2 := Lib.hid ((B1.out.alloc _).trans hb)
  have R2 := Lib.hid hr
  have zs2 : w1.heap.size ≤ w2.heap.size := by have := hb.size; simp at this; omega
  clear hb hr
  go_wp2_with fail
  refine (HI.out _ R2.out).mono ?_
  rintro e w3 ⟨o1, t1, X, n, k, rfl, hn1, hb1, hr1⟩
  dsimp only at hn1 hr1
  have z2 := R2.out.lt
  have I3 := Lib.hid (give_pass (w := w) hn1 (by omega))
  have B3 := Lib.hid (B2.out.trans hb1)
  have R3 := Lib.hid hr1
  have N3 := Lib.hid (N2.out.but (by omega) hb1)
  clear hn1 hb1 hr1
  have N4 := Lib.hid (N3.out.alloc (.cells #[.string o1, .string t1, .slice X n k] 25))
  have B4 := Lib.hid (B3.out.alloc (.cells #[.string o1, .string t1, .slice X n k] 25))
  have R4 := Lib.hid (R3.out.alloc (.cells #[.string o1, .string t1, .slice X n k] 25))
  have I4 := Lib.hid (fun hq => ((I3.out hq).alloc (fun g hg => hg.2) (.cells #[.string o1, .string t1, .slice X n k] 25)).imp (S' := fun g => w.heap.size < g ∧ g < w3.heap.size + 1) (fun g hg => ⟨hg.1, by have := hg.2; omega⟩))
  have V4 := Lib.hid (NBox.fresh w3 (.string o1) (.string t1) (.slice X n k) 25)
  have zn3 := N3.out.lt
  obtain ⟨w4, hw4⟩ : ∃ w4, w3.alloc (.cells #[.string o1, .string t1, .slice X n k] 25) = w4 := ⟨_, rfl⟩
  have hz4 : w4.heap.size = w3.heap.size + 1 := by rw [← hw4]; simp
  rw [hw4] at N4 B4 R4 I4 V4
  obtain ⟨v0, v1, v2, vf⟩ := V4.out
  obtain ⟨x0, x1, x2, xf⟩ := N4.out
  go_upto_region 5 with fail
  refine wp_region_held_drew (S := fun w' => w'.cell? ⟨w3.heap.size, 0, none⟩ = some (.string o1) ∧ w'.cell? ⟨w3.heap.size, 1, none⟩ = some (.string t1) ∧ w'.cell? ⟨w3.heap.size, 2, none⟩ = some (.slice X n k)) (by kernel_rfl) ⟨v0, v1, v2⟩ (fun hHeld => ?_)
  refine wpAnyH_take (i := 0) (oi := ⟨some 28, _, _, _, _, _⟩) (v := ?_) rfl (by kernel_rfl) (by kernel_rfl) (by kernel_rfl) (fun _ _ _ h => h) (Or.inl ⟨by rfl, ?_⟩) (by assumption) ?_; rotate_left 1; (intro w hSw; (try dsimp only at hSw); go_simp; try with_reducible rfl); (try simp only [Act.put, List.setIfInBounds_toArray, List.set_cons_zero, List.set_cons_succ])
  refine wpAnyH_take (i := 1) (oi := ⟨some 29, _, _, _, _, _⟩) (v := ?_) rfl (by kernel_rfl) (by kernel_rfl) (by kernel_rfl) (fun _ _ _ h => h) (Or.inl ⟨by rfl, ?_⟩) (by assumption) ?_; rotate_left 1; (intro w hSw; (try dsimp only at hSw); go_simp; try with_reducible rfl); (try simp only [Act.put, List.setIfInBounds_toArray, List.set_cons_zero, List.set_cons_succ])
  refine wpAnyH_take (i := 2) (oi := ⟨some 30, _, _, _, _, _⟩) (v := ?_) rfl (by kernel_rfl) (by kernel_rfl) (by kernel_rfl) (fun _ _ _ h => h) (Or.inl ⟨by rfl, ?_⟩) (by assumption) ?_; rotate_left 1; (intro w hSw; (try dsimp only at hSw); go_simp; try with_reducible rfl); (try simp only [Act.put, List.setIfInBounds_toArray, List.set_cons_zero, List.set_cons_succ])
  refine wpAnyH_take (i := 3) (oi := ⟨some 31, _, _, _, _, _⟩) (v := ?_) rfl (by kernel_rfl) (by kernel_rfl) (by kernel_rfl) (fun _ _ _ h => h) (Or.inl ⟨by rfl, ?_⟩) (by assumption) ?_; rotate_left 1; (intro w hSw; (try dsimp only at hSw); go_simp; try with_reducible rfl); (try simp only [Act.put, List.setIfInBounds_toArray, List.set_cons_zero, List.set_cons_succ])
  refine wpAnyH_ready (rs := [4]) (by kernel_rfl) (by simp) ?_
  refine AllReadyH.cons (o := ⟨some 32, _, _, _, _, _⟩) rfl (fun K hK => ?_) AllReadyH.nil
  go_simp
  refine hK.out _ _ ⟨?_, ?_, ?_⟩ (fun hHeld2 => ?_)
  iterate 3 (first | (exact (World.cell?_alloc_some _ _ _ (by rw [v0]; rfl)).trans v0) | (exact (World.cell?_alloc_some _ _ _ (by rw [v1]; rfl)).trans v1) | (exact (World.cell?_alloc_some _ _ _ (by rw [v2]; rfl)).trans v2))
  clear hK K
  (try simp only [Act.put, List.setIfInBounds_toArray, List.set_cons_zero, List.set_cons_succ])
  refine wpAnyH_ready (rs := [5]) (by kernel_rfl) (by simp) ?_
  refine AllReadyH.cons (o := ⟨some 33, _, _, _, _, _⟩) rfl (fun K hK => ?_) AllReadyH.nil
  go_simp
  have HA5 := Lib.hid (at_texts w4 [[41]] #[.string ⟨#[41]⟩] 9 rfl)
  rw [hz4] at HA5
  have zr4 := R4.out.lt
  have zn4 := N4.out.lt
  have zv4 := V4.out.lt
  have L5 := Lib.hid (show Below w4.heap.size w4 (w4.alloc (.cells #[.string ⟨#[41]⟩] 9)).drew from (below_alloc w4 _).drew)
  refine (H3.out _ _ _ (R4.out.below L5.out) (HA5.out.below (Below.drew (Below.refl _ _))) (fun ad e => by cases e; show w3.heap.size + 1 ≠ r; omega)).mono ?_
  rintro e w5 ⟨rfl, hb, hr⟩
  have N5 := Lib.hid ((N4.out.below L5.out).but (by omega) hb)
  have V5 := Lib.hid ((V4.out.below L5.out).but (by omega) hb)
  have B5 := Lib.hid ((B4.out.next L5.out).trans hb)
  have R5 := Lib.hid hr
  have z5 : w3.heap.size + 1 ≤ w5.heap.size := by have := hb.size; have := L5.out.size; omega
  have I5 := Lib.hid (fun hq => ((I4.out hq).below (fun g hg => by have := hg.2; omega) L5.out).but (fun g hg => ⟨by have h9 := hg.2; have := L5.out.size; omega, by have h9 := hg.1; omega⟩) hb)
  obtain ⟨u0, u1, u2, uf⟩ := V5.out
  refine hK.out _ _ ⟨u0, u1, u2⟩ (fun hHeld3 => ?_)
  clear hK K hb hr v0 v1 v2 vf x0 x1 x2 xf
  (try simp only [Act.put, List.setIfInBounds_toArray, List.set_cons_zero, List.set_cons_succ])
  obtain ⟨x0, x1, x2, xf⟩ := N5.out
  refine wpAnyH_take (i := 6) (oi := ⟨some 34, _, _, _, _, _⟩) (v := ?_) rfl (by kernel_rfl) (by kernel_rfl) (by kernel_rfl) (fun _ _ _ h => h) (Or.inl ⟨by rfl, ?_⟩) (by assumption) ?_; rotate_left 1; (intro w hSw; (try dsimp only at hSw); go_simp; try with_reducible rfl); (try simp only [Act.put, List.setIfInBounds_toArray, List.set_cons_zero, List.set_cons_succ])
  refine wpAnyH_take (i := 7) (oi := ⟨some 35, _, _, _, _, _⟩) (v := ?_) rfl (by kernel_rfl) (by kernel_rfl) (by kernel_rfl) (fun _ _ _ h => h) (Or.inl ⟨by rfl, ?_⟩) (by assumption) ?_; rotate_left 1; (intro w hSw; (try dsimp only at hSw); go_simp; try with_reducible rfl); (try simp only [Act.put, List.setIfInBounds_toArray, List.set_cons_zero, List.set_cons_succ])
  refine wpAnyH_ready (rs := [8]) (by kernel_rfl) (by simp) ?_
  refine AllReadyH.cons (o := ⟨none, _, _, _, _, _⟩) rfl (fun K hK => ?_) AllReadyH.nil
  go_simp
  have hne : ∀ a b : Nat, (⟨w.heap.size, a, none⟩ : Addr) ≠ ⟨w3.heap.size, b, none⟩ := fun a b e => by have := congrArg Addr.block e; dsimp only at this; omega
  have hfar : ∀ b : Nat, (W3 w5 w.heap.size (.string o1) (.string t1) (.slice X n k)).cell? ⟨w3.heap.size, b, none⟩ = w5.cell? ⟨w3.heap.size, b, none⟩ := fun b => by unfold W3; rw [World.cell?_setCell_other _ _ _ _ (hne _ _), World.cell?_setCell_other _ _ _ _ (hne _ _), World.cell?_setCell_other _ _ _ _ (hne _ _)]
  refine hK.out _ _ ⟨(hfar 0).trans u0, (hfar 1).trans u1, (hfar 2).trans u2⟩ (fun hHeld4 => ?_)
  clear hK K
  (try simp only [Act.put, List.setIfInBounds_toArray, List.set_cons_zero, List.set_cons_succ])
  refine wpAnyH_take (i := 9) (oi := ⟨some 3, _, _, _, _, _⟩) (v := ?_) rfl (by kernel_rfl) (by kernel_rfl) (by kernel_rfl) (fun _ _ _ h => h) (Or.inl ⟨by rfl, ?_⟩) (by assumption) ?_; rotate_left 1; (intro w hSw; (try dsimp only at hSw); go_simp; try with_reducible rfl); (try simp only [Act.put, List.setIfInBounds_toArray, List.set_cons_zero, List.set_cons_succ])
  refine wpAnyH_done (by kernel_rfl) ?_ _
  go_wp2
  have Y := N5.out.set (.string o1) (.string t1) (.slice X n k)
  exact bodyPost_ret (v := .tuple #[.agg #[.string o1, .string t1, .slice X n k], .bool (!true)]) (by simp [results, Tryz.results109, go_sem, Y.c0, Y.c1, Y.c2]) rfl
    (give_ret (w := w) (b := true) (op := o1) (tx := t1) (X := X) (n := n) (k := k) (fun h => (by cases h)) B5.out R5.out hrl)
end
end Go.Proofs.YtpohpgahnompbaaGreatDoor.Code
