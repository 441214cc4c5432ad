/-
  The program's expression within a query.
-/
import Derived.Test.YtjbpkpfmgbhlpaaGreatDoorMw16
import Derived.Test.YtjbpkpfmgbhlpaaGreatDoorMw19
import Derived.Test.YtjbpkpfmgbhlpaaGreatDoorMw17
namespace Go.Proofs.YtjbpkpfmgbhlpaaGreatDoor.Code
open Go.ChangeShapes Go.WideShapes Go.ChangeAt Go.RowKit Val Elems
set_option linter.unusedVariables false
set_option linter.unusedSimpArgs false
theorem isW_far {L : List V} (b : Bool) (s : List UInt8) : isW L L.length b s = false := by unfold isW; rw [List.getElem?_eq_none (Nat.le_refl _)]
theorem isK_far {L : List V} (b : Bool) (k : Int) : isK L L.length b k = false := by unfold isK; rw [List.getElem?_eq_none (Nat.le_refl _)]
theorem oneL_far {L : List V} (b : Bool) : ∀ ls, oneL L L.length b ls = []
 | [] => rfl
 | s :: ls => by rw [oneL, isW_far, if_neg (by decide)]; exact oneL_far b ls
theorem P_out {L : List V} : ∀ f : Nat, (∀ lv, 1 ≤ lv → lv ≤ 7 → 9 - lv ≤ f → (P L f (.expr lv) L.length false).2 = (L.length, true)) ∧ (1 ≤ f → (P L f .sign L.length false).2 = (L.length, true))
 | 0 => ⟨fun lv _ h h2 => by omega, fun h => absurd h (by omega)⟩
 | f + 1 => by
  have ih := P_out (L := L) f
  refine ⟨fun lv h1 h7 hf => ?_, fun _ => ?_⟩
  ·rw [P]
   split
   ·exact ih.2 (by omega)
   split
   ·rw [isW_far, if_neg (by decide)]
    exact ih.1 4 (by decide) (by decide) (by omega)
   split
   ·rw [ih.1 5 (by decide) (by decide) (by omega)]
    exact (P_ends L f (.test _) L.length true (Nat.le_refl _)).2.2 rfl
   ·rw [ih.1 (lv + 1) (by omega) (by omega) (by omega)]
    exact (P_ends L f (.loop lv _) L.length true (Nat.le_refl _)).2.2 rfl
  ·rw [P, isW_far, if_neg (by decide), isW_far, if_neg (by decide), oneL_far, if_pos rfl, isK_far, isK_far, isK_far]
   rfl
theorem read_out {l : List W} : readN l l.length = (zeroT, l.length, 91) := by
 have h : (fromP (bare l) l.length).2 = (l.length, true) := by
  have h1 := (P_out (L := bare l) (stepsN (bare l))).1 1 (by decide) (by decide) (by unfold stepsN; omega)
  rw [bare_length] at h1
  exact h1
 unfold readN
 rw [h]
 rfl
set_option maxHeartbeats 8000000 in
set_option maxRecDepth 100000 in
theorem eread_out (A : Option Addr) (cap n : Nat) (w : World) :
  Calls Tryz.prog 122 #[.slice A n cap, .int .i64 n] w (ReadPost w (zeroT, n, 91)) := by
 have e2 : decide ((n : Int) < 0) = false := by simp
 have e3 : decide ((n : Int) ≤ (n : Int)) = true := by simp
 have e4 : decide (n ≤ n) = true := by simp
 go_enter Tryz.func122, Tryz.ntmps122
 go_wp2
 have Y := NBox.fresh w (.string ⟨#[]⟩) (.string ⟨#[]⟩) (.slice none 0 0) 25
 exact bodyPost_ret (v := .tuple #[.agg #[.string ⟨#[]⟩, .string ⟨#[]⟩, .slice none 0 0], .int .i64 n, .int .i64 91]) (by simp [results, Tryz.results122, go_sem, Y.c0, Y.c1, Y.c2]) rfl
  ⟨⟨#[]⟩, ⟨#[]⟩, none, 0, 0, rfl, ⟨rfl, rfl, rfl⟩, (Below.refl _ _).alloc (Nat.le_refl _) _⟩
section
variable {r : Nat} {m : Int} {A : Option Addr} {cap : Nat} {l : List W} {qb qa : Nat}
theorem eread_all (hg : Good l) (i : Nat) (w : World) (h : Rq w r m A cap l qb qa i) (hi : i ≤ l.length) :
  Calls Tryz.prog 122 #[.slice A l.length cap, .int .i64 i] w (ReadPost w (readN l i)) := by
 by_cases hil : i < l.length
 ·exact eread_any A cap l i m w (h.rd.ws.more (Nat.le_of_lt h.lt)) hg h.rd.env hil
 ·obtain rfl : i = l.length := by omega
  rw [read_out]
  exact eread_out A cap l.length w
theorem readN_cases (i : Nat) : ∃ (x : Tr) (j : Nat) (b : Bool) (y : Tr) (ee : Int), exprP (bare l) i = (x.n, j, b) ∧ readN l i = (y, j, ee) ∧ (ee == 0) = (!b) ∧ (b = false → y = x) := by
 obtain ⟨R, hR⟩ : ∃ R, fromP (bare l) i = R := ⟨_, rfl⟩
 obtain ⟨x, j, b⟩ := R
 have h1 : exprP (bare l) i = (x.n, j, b) := by
  unfold exprP
  rw [show exprQ (bare l) i false = fromP (bare l) i from rfl, hR]
 cases b with
 | true => exact ⟨x, j, true, zeroT, 91, h1, by unfold readN; rw [hR]; rfl, rfl, fun e => by cases e⟩
 | false => exact ⟨x, j, false, x, 0, h1, by unfold readN; rw [hR]; rfl, rfl, fun _ => rfl⟩
set_option maxHeartbeats 8000000 in
set_option maxRecDepth 100000 in
theorem pexpr_any (hg : Good l) (i : Nat) (w : World) (h : Rq w r m A cap l qb qa i) (hi : i ≤ l.length) :
  Calls Tryz.prog 84 #[.pointer (some ⟨r, 0, none⟩)] w (GiveN r m A cap l qb qa w (exprP (bare l) i)) := by
 obtain ⟨x, j, b, y, ee, hx, hrd, hee, hxy⟩ := readN_cases (l := l) i
 rw [hx]
 have HE := Lib.hid (fun w' (h' : Rq w' r m A cap l qb qa i) => eread_all hg i w' h' hi)
 rw [hrd] at HE
 have HXY := Lib.hid hxy
 have HEE := Lib.hid hee
 have HR := Lib.hid h
 have hrl := h.lt
 have hql := h.ltq
 have hal := h.lta
 clear h hx hrd hxy hee
 go_enter Tryz.func84, Tryz.ntmps84
 obtain ⟨w0, hw0⟩ : ∃ w0, w.alloc (.cells #[.string ⟨#[]⟩, .string ⟨#[]⟩, .slice none 0 0] 25) = w0 := ⟨_, rfl⟩
 have hz0 : w0.heap.size = w.heap.size + 1 := by rw [← hw0]; simp
 have N0 := Lib.hid (show NBox w0 w.heap.size (.string ⟨#[]⟩) (.string ⟨#[]⟩) (.slice none 0 0) by rw [← hw0]; exact NBox.fresh _ _ _ _ _)
 have B0 := Lib.hid (show But w w0 r by rw [← hw0]; exact (But.refl w r).alloc _)
 have R0 := Lib.hid (show Rq w0 r m A cap l qb qa i by rw [← hw0]; exact HR.out.alloc _)
 have NF := Lib.hid (NBox.fresh w0 (.string ⟨#[]⟩) (.string ⟨#[]⟩) (.slice none 0 0) 25)
 rw [hz0] at NF
 have HW0 := Lib.hid hw0
 clear hw0
 go_upto_region 1 with fail
 rw [HW0.out]
 have hrl0 := R0.out.lt
 have c0 := R0.out.rd.c0
 have c1 := R0.out.rd.c1
 have FQ := Lib.hid (fun (w' : World) (hb : Below w0.heap.size w0 w') => show w'.cell? ⟨r, 0, none⟩ = some (.slice A l.length cap) ∧ w'.cell? ⟨r, 1, none⟩ = some (.int .i64 (i : Int)) from ⟨(hb.cell (p := ⟨r, 0, none⟩) hrl0).trans c0, (hb.cell (p := ⟨r, 1, none⟩) hrl0).trans c1⟩)
 go_cut [4, 5, 6] (fun s4 s5 s6 wx => ∃ (g : Nat) (op tx : ByteArray) (X : Option Addr) (n k : Nat), s4 = .pointer (some ⟨g, 0, none⟩) ∧ s5 = .int .i64 (j : Int) ∧ s6 = .int .i64 ee ∧ w0.heap.size ≤ g ∧ NBox wx g (.string op) (.string tx) (.slice X n k) ∧ RIn wx (fun h => w0.heap.size ≤ h ∧ h < wx.heap.size) y.n (op, tx, X, n, k) ∧ Below w0.heap.size w0 wx)
 case first =>
  go_region_held3 (fun w' => (w'.cell? ⟨r, 0, none⟩ = some (.slice A l.length cap) ∧ w'.cell? ⟨r, 1, none⟩ = some (.int .i64 (i : Int))) ∧ Below w0.heap.size w0 w')
   (first | assumption | (refine keepK hb (by assumption) ?_; intro k; exact ⟨(k _ _ hrl0).trans c0, (k _ _ hrl0).trans c1⟩) | (refine keepA _ (by assumption) ?_; intro k; exact ⟨(k _ _ hrl0).trans c0, (k _ _ hrl0).trans c1⟩) | (refine keepD (by assumption) ?_; intro k; exact ⟨(k _ _ hrl0).trans c0, (k _ _ hrl0).trans c1⟩) | (exact ⟨⟨c0, c1⟩, Below.drew (Below.refl _ _)⟩) | (refine (fun hS9 : Below w0.heap.size w0 _ => ⟨FQ.out _ hS9, hS9⟩) (swapO (show _ ∧ Below w0.heap.size w0 _ by assumption).2 (by omega))) | (refine (fun hS9 : Below w0.heap.size w0 _ => ⟨FQ.out _ hS9, hS9⟩) ((((show _ ∧ Below w0.heap.size w0 _ by assumption).2.setCell (by first | (simp; done) | (simp; omega) | omega) _).setCell (by first | (simp; done) | (simp; omega) | omega) _).setCell (by first | (simp; done) | (simp; omega) | omega) _)))
   (first | (go_at_call 122; refine (HE.out _ (R0.out.below (show _ ∧ Below w0.heap.size w0 _ by assumption).2)).mono ?_; rintro e w5 ⟨op, tx, X, n, k, rfl, hn5, hb⟩; try dsimp only at hn5; have hs5 : w0.heap.size ≤ w5.heap.size := Nat.le_trans (show _ ∧ Below w0.heap.size w0 _ by assumption).2.size hb.size; have hk := (bcell hb).1; have hf := (bcell hb).2; have hs6 := hb.size; (try simp at hs6); (try have hq0 : w0.heap.size < w5.heap.size := by omega)))
  all_goals go_wp2_with fail
  all_goals go_meet
  all_goals (refine ⟨_, op, tx, X, n, k, rfl, rfl, rfl, ?_, ?_, ?_, (show _ ∧ Below w0.heap.size w0 _ by assumption).2⟩)
  all_goals first | omega | exact NBox.fresh _ _ _ _ _ | exact (NBox.below NF.out hb).set _ _ _ | exact (NBox.below (NF.out.below (Below.drew (Below.refl _ _))) hb).set _ _ _ | exact (hn5.rin.alloc (fun g hg => hg.2) _).imp (fun g hg => ⟨by have := hg.1; simp at this; omega, by have := hg.2; simp; omega⟩) | exact (hn5.rin.w3 (fun hg => by have := hg.1; simp at this; omega) _ _ _).imp (fun g hg => ⟨by have := hg.1; simp at this; omega, by show g < (W3 w5 _ _ _ _).heap.size; rw [W3.size]; exact hg.2⟩)
 case rest =>
  obtain ⟨g, op, tx, X, n, k, rfl, rfl, rfl, hge, G, I, hB⟩ := hcut
  have R5 := Lib.hid (R0.out.below hB)
  have B5 := Lib.hid (B0.out.next hB)
  have N5 := Lib.hid (N0.out.below hB)
  have G5 := Lib.hid G
  have I5 := Lib.hid I
  have zx := hB.size
  have zg := G.lt
  have hgr : g ≠ r := by omega
  clear c0 c1 hB I
  obtain ⟨g0, g1, g2, gf⟩ := G
  have c1 := R5.out.rd.c1
  have f1 := R5.out.rd.fr 1
  rename World => wx
  obtain ⟨w6, hw6⟩ : ∃ w6, wx.setCell ⟨r, 1, none⟩ (.int .i64 j) = w6 := ⟨_, rfl⟩
  have R6 := Lib.hid (show Rq w6 r m A cap l qb qa j by rw [← hw6]; exact R5.out.at j)
  have B6 := Lib.hid (show But w w6 r by rw [← hw6]; exact B5.out.setCell 1 _)
  have N6 := Lib.hid (show NBox w6 w.heap.size (.string ⟨#[]⟩) (.string ⟨#[]⟩) (.slice none 0 0) by rw [← hw6]; exact N5.out.far _ (by show r ≠ _; omega) _)
  have G6 := Lib.hid (show NBox w6 g (.string op) (.string tx) (.slice X n k) by rw [← hw6]; exact G5.out.far _ (by show r ≠ _; omega) _)
  have z6 : w6.heap.size = wx.heap.size := by rw [← hw6]; simp
  have I6 := Lib.hid (show RIn w6 (fun h => w.heap.size < h ∧ h < w6.heap.size) y.n (op, tx, X, n, k) by
   rw [← hw6]
   exact (I5.out.setCell _ (fun h => by have h1 := h.1; dsimp only at h1; omega) _).imp (fun h hh => ⟨by have := hh.1; omega, by have := hh.2; simp; omega⟩))
  have HW6 := Lib.hid hw6
  clear hw6
  go_upto_region 3 with fail
  rw [HW6.out]
  clear g0 g1 g2 gf c1 f1
  obtain ⟨x0, x1, x2, xf⟩ := N6.out
  obtain ⟨g0, g1, g2, gf⟩ := G6.out
  have hee := HEE.out
  have xl := N6.out.lt
  have gl := G6.out.lt
  go_wp2
  have Y := N6.out.set (.string op) (.string tx) (.slice X n k)
  exact bodyPost_ret (v := .tuple #[.agg #[.string op, .string tx, .slice X n k], .bool (!b)]) (by simp [results, Tryz.results84, go_sem, Y.c0, Y.c1, Y.c2, hee]) rfl
   (giveN_ret (fun e => by rw [← HXY.out e]; exact I6.out) B6.out R6.out hrl hql hal)
end
section
variable {r : Nat} {m : Int} {A : Option Addr} {cap : Nat} {l : List W} {qb qa : Nat}
set_option maxHeartbeats 8000000 in
set_option maxRecDepth 100000 in
theorem pby_kind (hg : Good l) (i : Nat) (w : World) (h : Rq w r m A cap l qb qa i) (hi : i ≤ l.length) (hk : (wd l i).1 ≠ 0) :
  Calls Tryz.prog 91 #[.pointer (some ⟨r, 0, none⟩)] w (GiveN r m A cap l qb qa w (.mk sBy [] [], i, false)) := by
 have hll := hg.len
 have HWD := Lib.hid (fun w0 (h0 : Rq w0 r m A cap l qb qa i) => pword_any i 0 w0 h0 hi hll (by decide))
 rw [Nat.add_zero] at HWD
 unfold wv at HWD
 obtain ⟨x, hx⟩ : ∃ x, wd l i = x := ⟨_, rfl⟩
 rw [hx] at HWD hk
 obtain ⟨wk, wt, wp⟩ := x
 dsimp only at HWD hk
 obtain ⟨T, hT⟩ : ∃ T : ByteArray, ⟨wt.toArray⟩ = T := ⟨_, rfl⟩
 obtain rfl : wt = T.data.toList := by rw [← hT]
 rw [hT] at HWD
 have hfd0 := fun w0 => field0 wk wp T w0
 have hfd1 := fun w0 => field1 wk wp T w0
 have e0 : (wk == 0) = false := by simpa using hk
 have e0' : (wk != 0) = true := by simp [bne, e0]
 have HR := Lib.hid h
 have hrl := h.lt
 have hql := h.ltq
 have hal := h.lta
 clear h hx hT hg hk
 go_enter Tryz.func91, Tryz.ntmps91
 obtain ⟨wa, hwa⟩ : ∃ wa, w.alloc (.cells #[.string ⟨#[]⟩, .string ⟨#[]⟩, .slice none 0 0] 25) = wa := ⟨_, rfl⟩
 obtain ⟨w0, hw0⟩ : ∃ w0, wa.alloc (.cells #[.string ⟨#[98, 121]⟩, .string ⟨#[]⟩, .slice none 0 0] 25) = w0 := ⟨_, rfl⟩
 have hza : wa.heap.size = w.heap.size + 1 := by rw [← hwa]; simp
 have hz0 : w0.heap.size = w.heap.size + 2 := by rw [← hw0, ← hwa]; simp
 have N0 := Lib.hid (show NBox w0 w.heap.size (.string ⟨#[]⟩) (.string ⟨#[]⟩) (.slice none 0 0) by rw [← hw0, ← hwa]; exact (NBox.fresh _ _ _ _ _).alloc _)
 have M0 := Lib.hid (show NBox w0 (w.heap.size + 1) (.string ⟨#[98, 121]⟩) (.string ⟨#[]⟩) (.slice none 0 0) by rw [← hw0, ← hza]; exact NBox.fresh _ _ _ _ _)
 have R0 := Lib.hid (show Rq w0 r m A cap l qb qa i by rw [← hw0, ← hwa]; exact (HR.out.alloc _).alloc _)
 have B0 := Lib.hid (show But w w0 r by rw [← hw0, ← hwa]; exact ((But.refl w r).alloc _).alloc _)
 rw [← hwa] at hw0
 have HW0 := Lib.hid hw0
 clear hwa hza hw0 wa
 go_upto_region 2 with fail
 rw [HW0.out]
 go_wp2_with fail
 refine (HWD.out _ R0.out).mono ?_
 rintro e w1 ⟨rfl, hb1⟩
 have zb1 := hb1.size
 have N1 := Lib.hid (N0.out.below hb1)
 have M1 := Lib.hid (M0.out.below hb1)
 have R1 := Lib.hid (R0.out.below hb1)
 have B1 := Lib.hid (B0.out.next hb1)
 clear hb1
 obtain ⟨x0, x1, x2, xf⟩ := N1.out
 obtain ⟨y0, y1, y2, yf⟩ := M1.out
 have zn := N1.out.lt
 have zm := M1.out.lt
 go_wp2
 have Y := N1.out.set (.string ⟨#[98, 121]⟩) (.string ⟨#[]⟩) (.slice none 0 0)
 exact bodyPost_ret (v := .tuple #[.agg #[.string ⟨#[98, 121]⟩, .string ⟨#[]⟩, .slice none 0 0], .bool (!false)]) (by simp [results, Tryz.results91, go_sem, Y.c0, Y.c1, Y.c2]) rfl
  (giveN_ret (b := false) (fun _ => RIn.leafN _ _ ⟨#[98, 121]⟩ ⟨#[]⟩) B1.out R1.out hrl hql hal)
set_option maxHeartbeats 8000000 in
set_option maxRecDepth 100000 in
theorem pby_other (hg : Good l) (i : Nat) (w : World) (h : Rq w r m A cap l qb qa i) (hi : i ≤ l.length) (hk : (wd l i).1 = 0) (ht : (wd l i).2.1 ≠ sBy) :
  Calls Tryz.prog 91 #[.pointer (some ⟨r, 0, none⟩)] w (GiveN r m A cap l qb qa w (.mk sBy [] [], i, false)) := by
 have hll := hg.len
 have HWD := Lib.hid (fun w0 (h0 : Rq w0 r m A cap l qb qa i) => pword_any i 0 w0 h0 hi hll (by decide))
 rw [Nat.add_zero] at HWD
 unfold wv at HWD
 obtain ⟨x, hx⟩ : ∃ x, wd l i = x := ⟨_, rfl⟩
 rw [hx] at HWD hk ht
 obtain ⟨wk, wt, wp⟩ := x
 dsimp only at HWD hk ht
 obtain ⟨T, hT⟩ : ∃ T : ByteArray, ⟨wt.toArray⟩ = T := ⟨_, rfl⟩
 obtain rfl : wt = T.data.toList := by rw [← hT]
 rw [hT] at HWD
 have hfd0 := fun w0 => field0 wk wp T w0
 have hfd1 := fun w0 => field1 wk wp T w0
 subst hk
 have hne : T ≠ ⟨#[98, 121]⟩ := fun e => ht (by rw [e]; rfl)
 have f2 : (T.toList == [98, 121]) = false := by
  have h := toList_ne hne
  rw [ByteArray.toList_eq ⟨#[98, 121]⟩] at h
  exact h
 have f3 : (T.toList != [98, 121]) = true := by simp [bne, f2]
 have HR := Lib.hid h
 have hrl := h.lt
 have hql := h.ltq
 have hal := h.lta
 clear h hx hT hg ht hne
 go_enter Tryz.func91, Tryz.ntmps91
 obtain ⟨wa, hwa⟩ : ∃ wa, w.alloc (.cells #[.string ⟨#[]⟩, .string ⟨#[]⟩, .slice none 0 0] 25) = wa := ⟨_, rfl⟩
 obtain ⟨w0, hw0⟩ : ∃ w0, wa.alloc (.cells #[.string ⟨#[98, 121]⟩, .string ⟨#[]⟩, .slice none 0 0] 25) = w0 := ⟨_, rfl⟩
 have hza : wa.heap.size = w.heap.size + 1 := by rw [← hwa]; simp
 have hz0 : w0.heap.size = w.heap.size + 2 := by rw [← hw0, ← hwa]; simp
 have N0 := Lib.hid (show NBox w0 w.heap.size (.string ⟨#[]⟩) (.string ⟨#[]⟩) (.slice none 0 0) by rw [← hw0, ← hwa]; exact (NBox.fresh _ _ _ _ _).alloc _)
 have M0 := Lib.hid (show NBox w0 (w.heap.size + 1) (.string ⟨#[98, 121]⟩) (.string ⟨#[]⟩) (.slice none 0 0) by rw [← hw0, ← hza]; exact NBox.fresh _ _ _ _ _)
 have R0 := Lib.hid (show Rq w0 r m A cap l qb qa i by rw [← hw0, ← hwa]; exact (HR.out.alloc _).alloc _)
 have B0 := Lib.hid (show But w w0 r by rw [← hw0, ← hwa]; exact ((But.refl w r).alloc _).alloc _)
 rw [← hwa] at hw0
 have HW0 := Lib.hid hw0
 clear hwa hza hw0 wa
 go_upto_region 2 with fail
 rw [HW0.out]
 go_wp2_with fail
 refine (HWD.out _ R0.out).mono ?_
 rintro e w1 ⟨rfl, hb1⟩
 have zb1 := hb1.size
 have N1 := Lib.hid (N0.out.below hb1)
 have M1 := Lib.hid (M0.out.below hb1)
 have R1 := Lib.hid (R0.out.below hb1)
 have B1 := Lib.hid (B0.out.next hb1)
 clear hb1
 go_wp2_with fail
 refine (HWD.out _ R1.out).mono ?_
 rintro e w2 ⟨rfl, hb2⟩
 have zb2 := hb2.size
 have N2 := Lib.hid (N1.out.below hb2)
 have M2 := Lib.hid (M1.out.below hb2)
 have R2 := Lib.hid (R1.out.below hb2)
 have B2 := Lib.hid (B1.out.next hb2)
 clear hb2
 obtain ⟨x0, x1, x2, xf⟩ := N2.out
 obtain ⟨y0, y1, y2, yf⟩ := M2.out
 have zn := N2.out.lt
 have zm := M2.out.lt
 go_wp2
 have Y := N2.out.set (.string ⟨#[98, 121]⟩) (.string ⟨#[]⟩) (.slice none 0 0)
 exact bodyPost_ret (v := .tuple #[.agg #[.string ⟨#[98, 121]⟩, .string ⟨#[]⟩, .slice none 0 0], .bool (!false)]) (by simp [results, Tryz.results91, go_sem, Y.c0, Y.c1, Y.c2]) rfl
  (giveN_ret (b := false) (fun _ => RIn.leafN _ _ ⟨#[98, 121]⟩ ⟨#[]⟩) B2.out R2.out hrl hql hal)
set_option maxHeartbeats 8000000 in
set_option maxRecDepth 100000 in
theorem pby_mark (hg : Good l) (i : Nat) (w : World) (h : Rq w r m A cap l qb qa i) (hi : i ≤ l.length) (hk : (wd l i).1 = 0) (ht : (wd l i).2.1 = sBy) (hm : isW (bare l) (i + 1) false [61] = true) :
  Calls Tryz.prog 91 #[.pointer (some ⟨r, 0, none⟩)] w (GiveN r m A cap l qb qa w (.mk sBy [] [], i, false)) := by
 have hll := hg.len
 have HWD := Lib.hid (fun w0 (h0 : Rq w0 r m A cap l qb qa i) => pword_any i 0 w0 h0 hi hll (by decide))
 rw [Nat.add_zero] at HWD
 unfold wv at HWD
 have HMK := Lib.hid (fun w0 (h0 : Rq w0 r m A cap l qb qa i) => pmark_any i 1 ⟨#[61]⟩ w0 h0 hi hll (by decide) (by decide) true hm)
 obtain ⟨x, hx⟩ : ∃ x, wd l i = x := ⟨_, rfl⟩
 rw [hx] at HWD hk ht
 obtain ⟨wk, wt, wp⟩ := x
 dsimp only at HWD hk ht
 obtain ⟨T, hT⟩ : ∃ T : ByteArray, ⟨wt.toArray⟩ = T := ⟨_, rfl⟩
 obtain rfl : wt = T.data.toList := by rw [← hT]
 rw [hT] at HWD
 have hfd0 := fun w0 => field0 wk wp T w0
 have hfd1 := fun w0 => field1 wk wp T w0
 subst hk
 obtain rfl : T = ⟨#[98, 121]⟩ := by rw [← Lib.mk_data T, ht]; rfl
 have f2 : ((⟨#[98, 121]⟩ : ByteArray).toList == [98, 121]) = true := by rw [ByteArray.toList_eq]; rfl
 have f3 : ((⟨#[98, 121]⟩ : ByteArray).toList != [98, 121]) = false := by simp [bne, f2]
 have HR := Lib.hid h
 have hrl := h.lt
 have hql := h.ltq
 have hal := h.lta
 clear h hx hT hg ht hm
 go_enter Tryz.func91, Tryz.ntmps91
 obtain ⟨wa, hwa⟩ : ∃ wa, w.alloc (.cells #[.string ⟨#[]⟩, .string ⟨#[]⟩, .slice none 0 0] 25) = wa := ⟨_, rfl⟩
 obtain ⟨w0, hw0⟩ : ∃ w0, wa.alloc (.cells #[.string ⟨#[98, 121]⟩, .string ⟨#[]⟩, .slice none 0 0] 25) = w0 := ⟨_, rfl⟩
 have hza : wa.heap.size = w.heap.size + 1 := by rw [← hwa]; simp
 have hz0 : w0.heap.size = w.heap.size + 2 := by rw [← hw0, ← hwa]; simp
 have N0 := Lib.hid (show NBox w0 w.heap.size (.string ⟨#[]⟩) (.string ⟨#[]⟩) (.slice none 0 0) by rw [← hw0, ← hwa]; exact (NBox.fresh _ _ _ _ _).alloc _)
 have M0 := Lib.hid (show NBox w0 (w.heap.size + 1) (.string ⟨#[98, 121]⟩) (.string ⟨#[]⟩) (.slice none 0 0) by rw [← hw0, ← hza]; exact NBox.fresh _ _ _ _ _)
 have R0 := Lib.hid (show Rq w0 r m A cap l qb qa i by rw [← hw0, ← hwa]; exact (HR.out.alloc _).alloc _)
 have B0 := Lib.hid (show But w w0 r by rw [← hw0, ← hwa]; exact ((But.refl w r).alloc _).alloc _)
 rw [← hwa] at hw0
 have HW0 := Lib.hid hw0
 clear hwa hza hw0 wa
 go_upto_region 2 with fail
 rw [HW0.out]
 go_wp2_with fail
 refine (HWD.out _ R0.out).mono ?_
 rintro e w1 ⟨rfl, hb1⟩
 have zb1 := hb1.size
 have N1 := Lib.hid (N0.out.below hb1)
 have M1 := Lib.hid (M0.out.below hb1)
 have R1 := Lib.hid (R0.out.below hb1)
 have B1 := Lib.hid (B0.out.next hb1)
 clear hb1
 go_wp2_with fail
 refine (HWD.out _ R1.out).mono ?_
 rintro e w2 ⟨rfl, hb2⟩
 have zb2 := hb2.size
 have N2 := Lib.hid (N1.out.below hb2)
 have M2 := Lib.hid (M1.out.below hb2)
 have R2 := Lib.hid (R1.out.below hb2)
 have B2 := Lib.hid (B1.out.next hb2)
 clear hb2
 go_wp2_with fail
 refine (HMK.out _ R2.out).mono ?_
 rintro e w3 ⟨rfl, hb3⟩
 have zb3 := hb3.size
 have N3 := Lib.hid (N2.out.below hb3)
 have M3 := Lib.hid (M2.out.below hb3)
 have R3 := Lib.hid (R2.out.below hb3)
 have B3 := Lib.hid (B2.out.next hb3)
 clear hb3
 obtain ⟨x0, x1, x2, xf⟩ := N3.out
 obtain ⟨y0, y1, y2, yf⟩ := M3.out
 have zn := N3.out.lt
 have zm := M3.out.lt
 go_wp2
 have Y := N3.out.set (.string ⟨#[98, 121]⟩) (.string ⟨#[]⟩) (.slice none 0 0)
 exact bodyPost_ret (v := .tuple #[.agg #[.string ⟨#[98, 121]⟩, .string ⟨#[]⟩, .slice none 0 0], .bool (!false)]) (by simp [results, Tryz.results91, go_sem, Y.c0, Y.c1, Y.c2]) rfl
  (giveN_ret (b := false) (fun _ => RIn.leafN _ _ ⟨#[98, 121]⟩ ⟨#[]⟩) B3.out R3.out hrl hql hal)
end
section
variable {r : Nat} {m : Int} {A : Option Addr} {cap : Nat} {l : List W} {qb qa : Nat}
theorem named_no {L : List V} {o : List UInt8} {el : Nat → Res} {i : Nat} (h : nmOk L i = false) : namedP L o el i = (zeroN, i, true) := by unfold namedP; rw [h]; rfl
theorem named_noeq {L : List V} {o : List UInt8} {el : Nat → Res} {i : Nat} (h : nmOk L i = true) (h1 : isW L (i + 1) false [61] = false) : namedP L o el i = (zeroN, i + 1, true) := by unfold namedP; rw [h, h1]; rfl
theorem named_yes {L : List V} {o : List UInt8} {el : Nat → Res} {i : Nat} (h : nmOk L i = true) (h1 : isW L (i + 1) false [61] = true) : namedP L o el i = (.mk o (txt L i) [(el (i + 2)).1], (el (i + 2)).2) := by unfold namedP; rw [h, h1]; rfl
theorem nameP_no {L : List V} {o : List UInt8} {i : Nat} (h : nmOk L i = false) : nameP L o i = (zeroN, i, true) := by unfold nameP; rw [h]; rfl
theorem nameP_yes {L : List V} {o : List UInt8} {i : Nat} (h : nmOk L i = true) : nameP L o i = (.mk o (txt L i) [], i + 1, false) := by unfold nameP; rw [h]; rfl
theorem RIn.kidded {w : World} {S : Nat → Prop} {o t : List UInt8} {op tx : ByteArray} {X Y : Option Addr} {n k n' k' g : Nat} {op' tx' : ByteArray} {T : Nod} (h : RIn w S (.mk o t []) (op, tx, X, n, k)) (hT : RIn w S T (op', tx', Y, n', k')) (hb : NBox w g (.string op') (.string tx') (.slice Y n' k')) (hg : S g) : RIn w S (.mk o t [T]) (op, tx, some ⟨g, 0, none⟩, 1, 1) := by
 obtain ⟨e1, e2, -, -⟩ := h.texts
 dsimp only [Nod.op, Nod.tx] at e1 e2
 subst e1 e2
 have := RIn.made 1 ⟨o.toArray⟩ ⟨t.toArray⟩ (nat_box hb hg) (RAll.one hT) (by simp) (by simp)
 exact this
set_option maxHeartbeats 8000000 in
set_option maxRecDepth 100000 in
theorem pnamed_any (hg : Good l) (o : ByteArray) (fn : Nat) (en : ∀ args w, (callFunc fn args).run Tryz.prog w = .ok (.enter fn args) w) (el : Nat → Res) (i : Nat) (w : World) (h : Rq w r m A cap l qb qa i) (hi : i ≤ l.length)
  (HP : i + 2 ≤ l.length → ∀ w1, Rq w1 r m A cap l qb qa (i + 2) → Calls Tryz.prog fn #[.pointer (some ⟨r, 0, none⟩)] w1 (GiveN r m A cap l qb qa w1 (el (i + 2)))) :
  Calls Tryz.prog 86 #[.pointer (some ⟨r, 0, none⟩), .string o, .func (.func fn) #[] #[]] w (GiveN r m A cap l qb qa w (namedP (bare l) o.data.toList el i)) := by
 have HC := Lib.hid (fun w0 (h0 : Rq w0 r m A cap l qb qa i) => pname_any hg o i w0 h0 hi)
 have hll := hg.len
 have HR := Lib.hid h
 have hrl := h.lt
 have hql := h.ltq
 have hal := h.lta
 cases hnm : nmOk (bare l) i with
 | false =>
  rw [named_no hnm]
  rw [nameP_no hnm] at HC
  clear h HP hg hnm
  go_enter Tryz.func86, Tryz.ntmps86
  obtain ⟨w0, hw0⟩ : ∃ w0, w.alloc (.cells #[.string ⟨#[]⟩, .string ⟨#[]⟩, .slice none 0 0] 25) = w0 := ⟨_, rfl⟩
  have hz0 : w0.heap.size = w.heap.size + 1 := by rw [← hw0]; simp
  have N0 := Lib.hid (show NBox w0 w.heap.size (.string ⟨#[]⟩) (.string ⟨#[]⟩) (.slice none 0 0) by rw [← hw0]; exact NBox.fresh _ _ _ _ _)
  have B0 := Lib.hid (show But w w0 r by rw [← hw0]; exact (But.refl w r).alloc _)
  have R0 := Lib.hid (show Rq w0 r m A cap l qb qa i by rw [← hw0]; exact HR.out.alloc _)
  go_wp2_with fail
  try rw [hw0]
  refine (HC.out _ R0.out).mono ?_
  rintro e w2 ⟨op, tx, X, n, k, rfl, hn1, hb1, hr1⟩
  dsimp only at hn1 hr1
  have z2 := hb1.size
  obtain ⟨w3, hw3⟩ : ∃ w3, w2.alloc (.cells #[.string op, .string tx, .slice X n k] 25) = w3 := ⟨_, rfl⟩
  have B3 := Lib.hid (show But w w3 r by rw [← hw3]; exact (B0.out.trans hb1).alloc _)
  have R3 := Lib.hid (show Rq w3 r m A cap l qb qa i by rw [← hw3]; exact hr1.alloc _)
  have N3 := Lib.hid (show NBox w3 w.heap.size (.string ⟨#[]⟩) (.string ⟨#[]⟩) (.slice none 0 0) by rw [← hw3]; exact (N0.out.but (by omega) hb1).alloc _)
  have V3 := Lib.hid (show NBox w3 w2.heap.size (.string op) (.string tx) (.slice X n k) by rw [← hw3]; exact NBox.fresh _ _ _ _ _)
  have HW3 := Lib.hid hw3
  clear hb1 hr1 hn1 hw3
  go_upto_region 2 with fail
  rw [HW3.out]
  obtain ⟨x0, x1, x2, xf⟩ := N3.out
  obtain ⟨v0, v1, v2, vf⟩ := V3.out
  have zn := N3.out.lt
  have zv := V3.out.lt
  go_wp2
  have Y := N3.out.set (.string op) (.string tx) (.slice X n k)
  exact bodyPost_ret (v := .tuple #[.agg #[.string op, .string tx, .slice X n k], .bool (!true)]) (by simp [results, Tryz.results86, go_sem, Y.c0, Y.c1, Y.c2]) rfl
   (giveN_ret (b := true) (fun h => (by cases h)) B3.out R3.out hrl hql hal)
 | true =>
  have hil : i + 1 ≤ l.length := by have := (isK_lt (Bool.and_eq_true _ _ ▸ hnm).1).1; rw [bare_length] at this; exact this
  obtain ⟨c, hc⟩ : ∃ c, isW (bare l) (i + 1) false [61] = c := ⟨_, rfl⟩
  have HT := Lib.hid (fun w0 (h0 : Rq w0 r m A cap l qb qa (i + 1)) => ptake_any (i + 1) ⟨#[61]⟩ w0 h0 hil hll (by decide) c hc)
  rw [nameP_yes hnm] at HC
  obtain ⟨txi, htxi⟩ : ∃ txi, txt (bare l) i = txi := ⟨_, rfl⟩
  rw [htxi] at HC
  cases c with
  | false =>
   rw [named_noeq hnm hc]
   clear h HP hg hnm hc
   go_enter Tryz.func86, Tryz.ntmps86
   obtain ⟨w0, hw0⟩ : ∃ w0, w.alloc (.cells #[.string ⟨#[]⟩, .string ⟨#[]⟩, .slice none 0 0] 25) = w0 := ⟨_, rfl⟩
   have hz0 : w0.heap.size = w.heap.size + 1 := by rw [← hw0]; simp
   have N0 := Lib.hid (show NBox w0 w.heap.size (.string ⟨#[]⟩) (.string ⟨#[]⟩) (.slice none 0 0) by rw [← hw0]; exact NBox.fresh _ _ _ _ _)
   have B0 := Lib.hid (show But w w0 r by rw [← hw0]; exact (But.refl w r).alloc _)
   have R0 := Lib.hid (show Rq w0 r m A cap l qb qa i by rw [← hw0]; exact HR.out.alloc _)
   go_wp2_with fail
   try rw [hw0]
   refine (HC.out _ R0.out).mono ?_
   rintro e w2 ⟨op, tx, X, n, k, rfl, hn1, hb1, hr1⟩
   dsimp only at hn1 hr1
   have z2 := hb1.size
   obtain ⟨w3, hw3⟩ : ∃ w3, w2.alloc (.cells #[.string op, .string tx, .slice X n k] 25) = w3 := ⟨_, rfl⟩
   have z3 : w3.heap.size = w2.heap.size + 1 := by rw [← hw3]; simp
   have B3 := Lib.hid (show But w w3 r by rw [← hw3]; exact (B0.out.trans hb1).alloc _)
   have R3 := Lib.hid (show Rq w3 r m A cap l qb qa (i + 1) by rw [← hw3]; exact hr1.alloc _)
   have N3 := Lib.hid (show NBox w3 w.heap.size (.string ⟨#[]⟩) (.string ⟨#[]⟩) (.slice none 0 0) by rw [← hw3]; exact (N0.out.but (by omega) hb1).alloc _)
   have V3 := Lib.hid (show NBox w3 w2.heap.size (.string op) (.string tx) (.slice X n k) by rw [← hw3]; exact NBox.fresh _ _ _ _ _)
   have HW3 := Lib.hid hw3
   have hr2 : r < w2.heap.size := hr1.lt
   clear hb1 hr1 hn1 hw3
   go_upto_region 2 with fail
   rw [HW3.out]
   go_wp2_with fail
   refine (HT.out _ R3.out).mono ?_
   rintro e w4 ⟨rfl, hb4, hr4⟩
   rw [if_neg (by simp)] at hr4
   have z4 := hb4.size
   have N4 := Lib.hid (N3.out.but (by omega) hb4)
   have V4 := Lib.hid (V3.out.but (by omega) hb4)
   have B4 := Lib.hid (B3.out.trans hb4)
   have R4 := Lib.hid hr4
   clear hb4 hr4
   obtain ⟨x0, x1, x2, xf⟩ := N4.out
   obtain ⟨v0, v1, v2, vf⟩ := V4.out
   have zn := N4.out.lt
   have zv := V4.out.lt
   go_wp2
   have Y := N4.out.set (.string op) (.string tx) (.slice X n k)
   exact bodyPost_ret (v := .tuple #[.agg #[.string op, .string tx, .slice X n k], .bool (!true)]) (by simp [results, Tryz.results86, go_sem, Y.c0, Y.c1, Y.c2]) rfl
    (giveN_ret (b := true) (fun h => (by cases h)) B4.out R4.out hrl hql hal)
  | true =>
   have hil2 : i + 2 ≤ l.length := by have := isW_lt hc; rw [bare_length] at this; exact this
   have HPP := Lib.hid (HP hil2)
   rw [named_yes hnm hc, htxi]
   obtain ⟨q, hq⟩ : ∃ q, el (i + 2) = q := ⟨_, rfl⟩
   obtain ⟨T, j, b⟩ := q
   rw [hq] at HPP
   rw [hq]
   clear h HP hg hnm hc hq
   go_enter Tryz.func86, Tryz.ntmps86
   obtain ⟨w0, hw0⟩ : ∃ w0, w.alloc (.cells #[.string ⟨#[]⟩, .string ⟨#[]⟩, .slice none 0 0] 25) = w0 := ⟨_, rfl⟩
   have hz0 : w0.heap.size = w.heap.size + 1 := by rw [← hw0]; simp
   have N0 := Lib.hid (show NBox w0 w.heap.size (.string ⟨#[]⟩) (.string ⟨#[]⟩) (.slice none 0 0) by rw [← hw0]; exact NBox.fresh _ _ _ _ _)
   have B0 := Lib.hid (show But w w0 r by rw [← hw0]; exact (But.refl w r).alloc _)
   have R0 := Lib.hid (show Rq w0 r m A cap l qb qa i by rw [← hw0]; exact HR.out.alloc _)
   go_wp2_with fail
   try rw [hw0]
   refine (HC.out _ R0.out).mono ?_
   rintro e w2 ⟨op, tx, X, n, k, rfl, hn1, hb1, hr1⟩
   dsimp only at hn1 hr1
   have z2 := hb1.size
   obtain ⟨w3, hw3⟩ : ∃ w3, w2.alloc (.cells #[.string op, .string tx, .slice X n k] 25) = w3 := ⟨_, rfl⟩
   have z3 : w3.heap.size = w2.heap.size + 1 := by rw [← hw3]; simp
   have B3 := Lib.hid (show But w w3 r by rw [← hw3]; exact (B0.out.trans hb1).alloc _)
   have R3 := Lib.hid (show Rq w3 r m A cap l qb qa (i + 1) by rw [← hw3]; exact hr1.alloc _)
   have N3 := Lib.hid (show NBox w3 w.heap.size (.string ⟨#[]⟩) (.string ⟨#[]⟩) (.slice none 0 0) by rw [← hw3]; exact (N0.out.but (by omega) hb1).alloc _)
   have V3 := Lib.hid (show NBox w3 w2.heap.size (.string op) (.string tx) (.slice X n k) by rw [← hw3]; exact NBox.fresh _ _ _ _ _)
   have I3 := Lib.hid (show RIn w3 (New w0 w2) (.mk o.data.toList txi []) (op, tx, X, n, k) by rw [← hw3]; exact (hn1 (by first | rfl | trivial)).alloc (fun g hg => hg.2) _)
   have HW3 := Lib.hid hw3
   have hr2 : r < w2.heap.size := hr1.lt
   clear hb1 hr1 hn1 hw3
   go_upto_region 2 with fail
   rw [HW3.out]
   go_wp2_with fail
   refine (HT.out _ R3.out).mono ?_
   rintro e w4 ⟨rfl, hb4, hr4⟩
   rw [if_pos (by simp)] at hr4
   have z4 := hb4.size
   have N4 := Lib.hid (N3.out.but (by omega) hb4)
   have V4 := Lib.hid (V3.out.but (by omega) hb4)
   have I4 := Lib.hid (I3.out.but (fun g hg => ⟨by have := hg.2; omega, by have := hg.1; omega⟩) hb4)
   have B4 := Lib.hid (B3.out.trans hb4)
   have R4 := Lib.hid hr4
   clear hb4 hr4
   go_wp2_with fail
   refine (HPP.out _ R4.out).mono ?_
   rintro e w5 ⟨op5, tx5, X5, n5, k5, rfl, hn5, hb5, hr5⟩
   dsimp only at hn5 hr5
   have z5 := hb5.size
   have N5 := Lib.hid (N4.out.but (by omega) hb5)
   have V5 := Lib.hid (V4.out.but (by omega) hb5)
   have I5 := Lib.hid (I4.out.but (fun g hg => ⟨by have := hg.2; omega, by have := hg.1; omega⟩) hb5)
   have B5 := Lib.hid (B4.out.trans hb5)
   have R5 := Lib.hid hr5
   have J5 := Lib.hid hn5
   clear hb5 hr5 hn5
   obtain ⟨w6, hw6⟩ : ∃ w6, w5.alloc (.cells #[.string op5, .string tx5, .slice X5 n5 k5] 25) = w6 := ⟨_, rfl⟩
   have z6 : w6.heap.size = w5.heap.size + 1 := by rw [← hw6]; simp
   have E6 := Lib.hid (show NBox w6 w5.heap.size (.string op5) (.string tx5) (.slice X5 n5 k5) by rw [← hw6]; exact NBox.fresh _ _ _ _ _)
   have HW6 := Lib.hid hw6
   go_upto_region 5 with fail
   try rw [HW6.out]
   obtain ⟨w7, hw7⟩ : ∃ w7, w6.alloc (.cells #[.string op5, .string tx5, .slice X5 n5 k5] 25) = w7 := ⟨_, rfl⟩
   have z7 : w7.heap.size = w5.heap.size + 2 := by rw [← hw7]; simp [z6]
   have V7 := Lib.hid (show NBox w7 w2.heap.size (.string op) (.string tx) (.slice X n k) by rw [← hw7, ← hw6]; exact (V5.out.alloc _).alloc _)
   obtain ⟨w8, hw8⟩ : ∃ w8, w7.setCell ⟨w2.heap.size, 2, none⟩ (.slice (some ⟨w5.heap.size + 1, 0, none⟩) 1 1) = w8 := ⟨_, rfl⟩
   have z8 : w8.heap.size = w5.heap.size + 2 := by rw [← hw8]; simp [z7]
   have V8 := Lib.hid (show NBox w8 w2.heap.size (.string op) (.string tx) (.slice (some ⟨w5.heap.size + 1, 0, none⟩) 1 1) by rw [← hw8]; exact V7.out.kid _)
   have N8 := Lib.hid (show NBox w8 w.heap.size (.string ⟨#[]⟩) (.string ⟨#[]⟩) (.slice none 0 0) by rw [← hw8, ← hw7, ← hw6]; exact ((N5.out.alloc _).alloc _).far _ (by show w2.heap.size ≠ _; omega) _)
   have B8 := Lib.hid (show But w w8 r by rw [← hw8, ← hw7, ← hw6]; exact ((B5.out.alloc _).alloc _).new _ (by show w.heap.size ≤ w2.heap.size; omega) _)
   have R8 := Lib.hid (show Rq w8 r m A cap l qb qa j by rw [← hw8, ← hw7, ← hw6]; exact ((R5.out.alloc _).alloc _).new _ (by show r < w2.heap.size; omega) (by show w2.heap.size ≠ qb; omega) (by show w2.heap.size ≠ qa; omega) _)
   have I8 := Lib.hid (show b = false → RIn w8 (fun g => w.heap.size < g ∧ g < w8.heap.size) (.mk o.data.toList txi [T]) (op, tx, some ⟨w5.heap.size + 1, 0, none⟩, 1, 1) by
    intro e
    have h1 : RIn w8 (fun g => w.heap.size < g ∧ g < w8.heap.size) (.mk o.data.toList txi []) (op, tx, X, n, k) := by
     rw [← hw8, ← hw7, ← hw6]
     exact (((I5.out.alloc (fun g hg => by have := hg.2; omega) _).alloc (fun g hg => by have := hg.2; simp; omega) _).setCell _ (fun hg => by have := hg.2; dsimp only at this; omega) _).imp (fun g hg => ⟨by have := hg.1; omega, by have := hg.2; simp; omega⟩)
    have h2 : RIn w8 (fun g => w.heap.size < g ∧ g < w8.heap.size) T (op5, tx5, X5, n5, k5) := by
     rw [← hw8, ← hw7, ← hw6]
     exact ((((J5.out e).alloc (fun g hg => hg.2) _).alloc (fun g hg => by have := hg.2; simp; omega) _).setCell _ (fun hg => by have := hg.1; dsimp only at this; omega) _).imp (fun g hg => ⟨by have := hg.1; omega, by have := hg.2; simp; omega⟩)
    have h3 : NBox w8 (w5.heap.size + 1) (.string op5) (.string tx5) (.slice X5 n5 k5) := by
     have h4 := NBox.fresh w6 (.string op5) (.string tx5) (.slice X5 n5 k5) 25
     rw [z6, hw7] at h4
     rw [← hw8]
     exact h4.far _ (by show w2.heap.size ≠ _; omega) _
    exact h1.kidded h2 h3 ⟨by omega, by omega⟩)
   obtain ⟨e0, e1, e2, ef⟩ := E6.out
   have V6 := Lib.hid (show NBox w6 w2.heap.size (.string op) (.string tx) (.slice X n k) by rw [← hw6]; exact V5.out.alloc _)
   have v0 := V7.out.c0
   have v1 := V7.out.c1
   have v2 := V7.out.c2
   have vf := V7.out.fr 2
   rw [← hw7] at v0 v1 v2 vf
   have HW7 := Lib.hid hw7
   have HW8 := Lib.hid hw8
   have zv6 := V6.out.lt
   clear hw6 hw7 hw8
   go_upto_region 6 with fail
   rw [HW7.out]
   rw [HW8.out]
   clear v0 v1 v2 vf e0 e1 e2 ef
   obtain ⟨x0, x1, x2, xf⟩ := N8.out
   obtain ⟨v0, v1, v2, vf⟩ := V8.out
   have zn := N8.out.lt
   have zv := V8.out.lt
   obtain ⟨qq, hqq⟩ : ∃ qq, (!b) = qq := ⟨_, rfl⟩
   go_wp2
   have Y := N8.out.set (.string op) (.string tx) (.slice (some ⟨w5.heap.size + 1, 0, none⟩) 1 1)
   exact bodyPost_ret (v := .tuple #[.agg #[.string op, .string tx, .slice (some ⟨w5.heap.size + 1, 0, none⟩) 1 1], .bool (!b)]) (by simp [results, Tryz.results86, go_sem, Y.c0, Y.c1, Y.c2, hqq]) rfl
    (giveN_ret I8.out B8.out R8.out hrl hql hal)
end
end Go.Proofs.YtjbpkpfmgbhlpaaGreatDoor.Code
