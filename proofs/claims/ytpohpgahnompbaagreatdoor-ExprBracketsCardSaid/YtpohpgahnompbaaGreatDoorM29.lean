/-
  The program's Read and Parse: a text's node, or what is wrong, and where.
-/
import Derived.Test.YtpohpgahnompbaaGreatDoorM28
import Derived.Test.YtpohpgahnompbaaGreatDoorM20
namespace Go.Proofs.YtpohpgahnompbaaGreatDoor.Code
open Go.ChangeShapes Go.WideShapes Go.ChangeAt Go.RowKit Val Elems
set_option linter.unusedVariables false
set_option linter.unusedSimpArgs false
set_option maxHeartbeats 8000000 in
set_option maxRecDepth 100000 in
theorem eread_none (A : Option Addr) (cap : Nat) (w : World) :
    Calls Tryz.prog 13 #[.slice A 0 cap, .int .i64 0] w (ReadPost w (zeroT, 0, 91)) := by
  go_enter Tryz.func13, Tryz.ntmps13
  go_wp2
  have Y := NBox.fresh w (.string ⟨#[]⟩) (.string ⟨#[]⟩) (.slice none 0 0) 25
  exact bodyPost_ret (v := .tuple #[.agg #[.string ⟨#[]⟩, .string ⟨#[]⟩, .slice none 0 0], .int .i64 0, .int .i64 91]) (by simp [results, Tryz.results13, go_sem, Y.c0, Y.c1, Y.c2]) rfl
    ⟨⟨#[]⟩, ⟨#[]⟩, none, 0, 0, rfl, ⟨rfl, rfl, rfl⟩, (Below.refl _ _).alloc (Nat.le_refl _) _⟩
theorem Rd.fresh (w : World) (m : Int) (A : Option Addr) (cap : Nat) (l : List W) (i : Nat) (t : TypeId) (h : At wc 3 w w.heap.size A l) (he : Env w.heap.size m w) : Rd (w.alloc (.cells #[.slice A l.length cap, .int .i64 i] t)) w.heap.size m A cap l i :=
  ⟨by simp [go_sem], by simp [go_sem], fun k => by simp [go_sem], h.below ((Below.refl _ _).alloc (Nat.le_refl _) _), he.below ((Below.refl _ _).alloc (Nat.le_refl _) _)⟩
set_option maxHeartbeats 8000000 in
set_option maxRecDepth 100000 in
theorem eread_any (A : Option Addr) (cap : Nat) (l : List W) (i : Nat) (m : Int) (w : World) (h : At wc 3 w w.heap.size A l) (hg : Good l) (he : Env w.heap.size m w) (hi : i < l.length) :
    Calls Tryz.prog 13 #[.slice A l.length cap, .int .i64 i] w (ReadPost w (readN l i)) := by
  obtain ⟨R, hx⟩ : ∃ R, fromP (bare l) i = R := ⟨_, rfl⟩
  obtain ⟨x, j, b⟩ := R
  have hrd : readN l i = if b = true then (zeroT, j, 91) else (x, j, 0) := by unfold readN; rw [hx]
  rw [hrd]
  obtain ⟨q, hq⟩ : ∃ q, (if b = true then (zeroT, j, (91 : Int)) else (x, j, 0)) = q := ⟨_, rfl⟩
  rw [hq]
  have HQ := Lib.hid hq
  have HA := Lib.hid h
  have HE := Lib.hid he
  have HX0 := Lib.hid (fun w1 (hr : Rd w1 (w.heap.size + 1) m A cap l i) => eor_any hg i w1 (by omega) hr)
  rw [hx] at HX0
  have e1 : (i : Int) < (l.length : Int) := by omega
  have e0 : (0 : Int) ≤ (i : Int) := by omega
  have e2 : decide ((i : Int) < 0) = false := by simp
  have e3 : decide ((l.length : Int) ≤ (i : Int)) = false := by simp; omega
  clear h hx hrd hg hq he
  go_enter Tryz.func13, Tryz.ntmps13
  obtain ⟨w1, hw1⟩ : ∃ w1, (w.alloc (.cells #[.string ⟨#[]⟩, .string ⟨#[]⟩, .slice none 0 0] 25)).alloc (.cells #[.slice A l.length cap, .int .i64 i] 60) = w1 := ⟨_, rfl⟩
  have hz1 : w1.heap.size = w.heap.size + 2 := by rw [← hw1]; simp
  have N1 := Lib.hid (show NBox w1 w.heap.size (.string ⟨#[]⟩) (.string ⟨#[]⟩) (.slice none 0 0) by rw [← hw1]; exact (NBox.fresh _ _ _ _ _).alloc _)
  have B1 := Lib.hid (show Below w.heap.size w w1 by rw [← hw1]; exact ((Below.refl _ _).alloc (Nat.le_refl _) _).alloc (by simp) _)
  have R1 := Lib.hid (show Rd w1 (w.heap.size + 1) m A cap l i by
    rw [← hw1, show w.heap.size + 1 = (w.alloc (.cells #[.string ⟨#[]⟩, .string ⟨#[]⟩, .slice none 0 0] 25)).heap.size by simp]
    exact Rd.fresh _ m A cap l i 60 ((HA.out.below ((Below.refl _ _).alloc (Nat.le_refl _) _)).more (by simp)) (HE.out.next (below_alloc w _)))
  go_wp2_with fail
  try rw [hw1]
  refine (HX0.out _ R1.out).mono ?_
  rintro e w2 ⟨op, tx, X, n, k, rfl, hn2, hb2, hr2⟩
  dsimp only at hn2 hr2
  have N2 := Lib.hid ((N1.out.but (by omega) hb2).alloc (.cells #[.string op, .string tx, .slice X n k] 25))
  have R2 := Lib.hid (hr2.alloc (.cells #[.string op, .string tx, .slice X n k] 25))
  have hz2 : w1.heap.size ≤ w2.heap.size := hb2.size
  have I2 := Lib.hid (fun hq : b = false => ((hn2 hq).imp (S' := fun g => w.heap.size < g ∧ g < w2.heap.size) (fun g hg => by rcases hg with hg | hg; exact hg.elim; exact ⟨by have := hg.1; omega, hg.2⟩)).alloc (fun g hg => hg.2) (.cells #[.string op, .string tx, .slice X n k] 25))
  have B2 := Lib.hid ((B1.out.trans (hb2.below (B := w.heap.size) (by omega) (by omega))).alloc (by omega) (.cells #[.string op, .string tx, .slice X n k] 25))
  have V2 := Lib.hid (NBox.fresh w2 (.string op) (.string tx) (.slice X n k) 25)
  have zn := N2.out.lt
  have zr := R2.out.lt
  clear hb2 hr2 hn2
  obtain ⟨x0, x1, x2, xf⟩ := N2.out
  obtain ⟨w6, hw6⟩ : ∃ w6, w2.alloc (.cells #[.string op, .string tx, .slice X n k] 25) = w6 := ⟨_, rfl⟩
  rw [hw6] at N2 R2 I2 B2 V2 zn zr x0 x1 x2 xf
  obtain ⟨v0, v1, v2, vf⟩ := V2.out
  have c1 := R2.out.c1
  have HO := Lib.hid (Ox.refl w.heap.size w6)
  have FQ := Lib.hid (fun w' (h : Ox w.heap.size w6 w') => show w'.cell? ⟨w.heap.size + 1, 1, none⟩ = some (.int .i64 j) ∧ w'.cell? ⟨w2.heap.size, 0, none⟩ = some (.string op) ∧ w'.cell? ⟨w2.heap.size, 1, none⟩ = some (.string tx) ∧ w'.cell? ⟨w2.heap.size, 2, none⟩ = some (.slice X n k) from
    ⟨(h.2 ⟨w.heap.size + 1, 1, none⟩ (by simp)).trans c1, (h.2 ⟨w2.heap.size, 0, none⟩ (by simp; omega)).trans v0, (h.2 ⟨w2.heap.size, 1, none⟩ (by simp; omega)).trans v1, (h.2 ⟨w2.heap.size, 2, none⟩ (by simp; omega)).trans v2⟩)
  cases b
  · go_upto_region 7 with fail
    go_region_held3 (fun w' => (w'.cell? ⟨w.heap.size + 1, 1, none⟩ = some (.int .i64 j) ∧ w'.cell? ⟨w2.heap.size, 0, none⟩ = some (.string op) ∧ w'.cell? ⟨w2.heap.size, 1, none⟩ = some (.string tx) ∧ w'.cell? ⟨w2.heap.size, 2, none⟩ = some (.slice X n k)) ∧ Ox w.heap.size w6 w')
      (first | assumption | (exact ⟨FQ.out _ HO.out.drew, HO.out.drew⟩) | (exact ⟨FQ.out _ HO.out, HO.out⟩) | (refine (fun hS9 : Ox w.heap.size w6 _ => ⟨FQ.out _ hS9, hS9⟩) (((HO.out.setCell _ rfl _).setCell _ rfl _).setCell _ rfl _).drew))
      (fail)
    go_wp2
    obtain rfl : q = (x, j, 0) := by have := HQ.out; simpa using this.symm
    have Y := N2.out.set (.string op) (.string tx) (.slice X n k)
    have h6 : w6.heap.size = w2.heap.size + 1 := by rw [← hw6]; simp
    exact bodyPost_ret (v := .tuple #[.agg #[.string op, .string tx, .slice X n k], .int .i64 j, .int .i64 0]) (by simp [results, Tryz.results13, go_sem, Y.c0, Y.c1, Y.c2]) rfl
      ⟨op, tx, X, n, k, rfl, NIn.keep (w := W3 w6 w.heap.size (.string op) (.string tx) (.slice X n k)) (w' := (W3 w6 w.heap.size (.string op) (.string tx) (.slice X n k)).drew) (fun g hg => ⟨by have := hg.1; omega, by show g < (W3 w6 w.heap.size (.string op) (.string tx) (.slice X n k)).heap.size; rw [W3.size, h6]; have := hg.2; omega⟩) (fun _ _ _ => rfl) _ _ _ _ (W3.nin (I2.out (by first | exact trivial | rfl)) (fun hg => Nat.lt_irrefl _ hg.1) _ _ _), (((B2.out.setCell (Nat.le_refl _) _).setCell (Nat.le_refl _) _).setCell (Nat.le_refl _) _).drew⟩
  · go_upto_region 6 with fail
    go_region_held3 (fun w' => (w'.cell? ⟨w.heap.size + 1, 1, none⟩ = some (.int .i64 j) ∧ w'.cell? ⟨w2.heap.size, 0, none⟩ = some (.string op) ∧ w'.cell? ⟨w2.heap.size, 1, none⟩ = some (.string tx) ∧ w'.cell? ⟨w2.heap.size, 2, none⟩ = some (.slice X n k)) ∧ Ox w.heap.size w6 w')
      (first | assumption | (exact ⟨FQ.out _ HO.out.drew, HO.out.drew⟩) | (exact ⟨FQ.out _ HO.out, HO.out⟩) | (refine (fun hS9 : Ox w.heap.size w6 _ => ⟨FQ.out _ hS9, hS9⟩) (((HO.out.setCell _ rfl _).setCell _ rfl _).setCell _ rfl _).drew))
      (fail)
    go_wp2
    obtain rfl : q = (zeroT, j, 91) := by have := HQ.out; simpa using this.symm
    have Y := N2.out.set (.string ⟨#[]⟩) (.string ⟨#[]⟩) (.slice none 0 0)
    exact bodyPost_ret (v := .tuple #[.agg #[.string ⟨#[]⟩, .string ⟨#[]⟩, .slice none 0 0], .int .i64 j, .int .i64 91]) (by simp [results, Tryz.results13, go_sem, Y.c0, Y.c1, Y.c2]) rfl
      ⟨⟨#[]⟩, ⟨#[]⟩, none, 0, 0, rfl, ⟨rfl, rfl, rfl⟩, (((B2.out.setCell (Nat.le_refl _) _).setCell (Nat.le_refl _) _).setCell (Nat.le_refl _) _).drew⟩
theorem word_small {s : List UInt8} {k : Int} {t : List UInt8} {n : Nat} (h : firstL s = some (k, t, n)) : t.length ≤ 200 := by
  rcases first_cases h with ⟨c, r, rfl, hl, -, rfl, rfl, h20⟩ | ⟨c, r, rfl, hl, hf, -, rfl, rfl, h19⟩ | ⟨r, rfl, -, m, hq, -, h200⟩ | ⟨c, d, r, rfl, -, -, -, -, -, rfl, -⟩ | ⟨c, r, rfl, -, -, -, -, -, -, rfl, -⟩
  · rw [List.length_take]; omega
  · rw [List.length_take]; omega
  · exact h200
  · simp
  · simp
theorem came_short {l : List W} (h : CameB l) : FitW l := fun w hw => Nat.le_trans (word_small (h w hw)) (by decide)
/-- no word lies where a node does -/
theorem node_block_ne {w : World} {g : Nat} {a b : ByteArray} {X : Option Addr} {n k : Nat} {t : TypeId} {fz : Nat × Nat} (h : w.heap[g]? = some (.cells #[.string a, .string b, .slice X n k] t fz)) {p : Addr} {v : Int} (hc : w.cell? p = some (.int .i64 v)) : p.block ≠ g := by
  intro e
  unfold World.cell? at hc
  rw [e, h] at hc
  dsimp only at hc
  split at hc
  · cases hc
  · rcases p with ⟨p1, p2, p3⟩
    match p2, hc with
    | 0, hc => simp at hc
    | 1, hc => simp at hc
    | 2, hc => simp at hc
    | n + 3, hc => simp at hc
/-- what the program's Words answers, by letters -/
def WordsE (s : ByteArray) (l : List W) (p ee m : Int) : Prop := ∀ w, Env w.heap.size m w → Calls Tryz.prog 12 #[.string s] w (fun e w' => ∃ (A : Option Addr) (cap : Nat), e = .returned (.tuple #[.slice A l.length cap, .int .i64 p, .int .i64 ee]) ∧ At wc 3 w' w'.heap.size A l ∧ Below w.heap.size w w')
theorem words_e (s : ByteArray) (m : Int) (hs : s.size ≤ 4194304) : WordsE s (wL s.data.toList) (wP s.data.toList) (wE s.data.toList) m := fun w he => words_any s m w hs he.gl.cell
def ReadE (l : List W) (m : Int) (res : Tr × Nat × Int) : Prop := ∀ A cap w, At wc 3 w w.heap.size A l → Env w.heap.size m w → Calls Tryz.prog 13 #[.slice A l.length cap, .int .i64 0] w (ReadPost w res)
set_option maxHeartbeats 8000000 in
set_option maxRecDepth 100000 in
theorem eparse_lex (s : ByteArray) (m : Int) (w : World) (he : Env w.heap.size m w) (j : Int) (hw : WordsE s [] j 81 m) :
    Calls Tryz.prog 6 #[.string s] w (ParsePost w (zeroT, j, 81)) := by
  have HW := Lib.hid hw
  have HE := Lib.hid he
  clear hw he
  go_enter Tryz.func6, Tryz.ntmps6
  have N0 := Lib.hid (NBox.fresh w (.string ⟨#[]⟩) (.string ⟨#[]⟩) (.slice none 0 0) 25)
  have B0 := Lib.hid ((Below.refl w.heap.size w).alloc (Nat.le_refl _) (.cells #[.string ⟨#[]⟩, .string ⟨#[]⟩, .slice none 0 0] 25))
  go_wp2_with fail
  refine (HW.out _ (HE.out.next B0.out)).mono ?_
  rintro e w1 ⟨A, cap, rfl, hat, hb1⟩
  have N1 := Lib.hid (N0.out.below hb1)
  have B1 := Lib.hid (B0.out.trans (hb1.mono (by simp)))
  have A1 := Lib.hid hat
  have H1 := Lib.hid ((hb1.block w.heap.size (by simp)).trans (heap_alloc_new w (.cells #[.string ⟨#[]⟩, .string ⟨#[]⟩, .slice none 0 0] 25)))
  have z1 := N1.out.lt
  clear hb1 hat
  obtain ⟨x0, x1, x2, xf⟩ := N1.out
  go_wp2
  have Y := N1.out.set (.string ⟨#[]⟩) (.string ⟨#[]⟩) (.slice none 0 0)
  exact bodyPost_ret (v := .tuple #[.agg #[.string ⟨#[]⟩, .string ⟨#[]⟩, .slice none 0 0], .int .i64 j, .int .i64 81]) (by simp [results, Tryz.results6, go_sem, Y.c0, Y.c1, Y.c2]) rfl
    ⟨⟨#[]⟩, ⟨#[]⟩, none, 0, 0, rfl, ⟨rfl, rfl, rfl⟩, ((B1.out.setCell (Nat.le_refl _) _).setCell (Nat.le_refl _) _).setCell (Nat.le_refl _) _⟩
set_option maxHeartbeats 8000000 in
set_option maxRecDepth 100000 in
theorem eparse_at (s : ByteArray) (m : Int) (w : World) (he : Env w.heap.size m w) (l : List W) (hw : WordsE s l 0 0 m) (x : Tr) (j : Nat) (ee : Int) (hr : ReadE l m (x, j, ee)) (hj : j < l.length) :
    Calls Tryz.prog 6 #[.string s] w (ParsePost w (zeroT, placeL s.size l j, 91)) := by
  have hp : placeL s.size l j = l[j].2.2 := by unfold placeL; rw [List.getElem?_eq_getElem hj]
  rw [hp]
  obtain ⟨v, hv⟩ : ∃ v, l[j] = v := ⟨_, rfl⟩
  have HV := Lib.hid hv
  rw [hv]
  obtain ⟨vk, vt, p⟩ := v
  dsimp only
  unfold ReadE at hr
  have HW := Lib.hid hw
  have HR := Lib.hid hr
  have HE := Lib.hid he
  have e1 : decide ((j : Int) < (l.length : Int)) = true := by simp; omega
  have e2 : (j : Int) < (l.length : Int) := by omega
  clear hw hr hp he hv
  go_enter Tryz.func6, Tryz.ntmps6
  have N0 := Lib.hid (NBox.fresh w (.string ⟨#[]⟩) (.string ⟨#[]⟩) (.slice none 0 0) 25)
  have B0 := Lib.hid ((Below.refl w.heap.size w).alloc (Nat.le_refl _) (.cells #[.string ⟨#[]⟩, .string ⟨#[]⟩, .slice none 0 0] 25))
  go_wp2_with fail
  refine (HW.out _ (HE.out.next B0.out)).mono ?_
  rintro e w1 ⟨A, cap, rfl, hat, hb1⟩
  have N1 := Lib.hid (N0.out.below hb1)
  have B1 := Lib.hid (B0.out.trans (hb1.mono (by simp)))
  have A1 := Lib.hid hat
  have H1 := Lib.hid ((hb1.block w.heap.size (by simp)).trans (heap_alloc_new w (.cells #[.string ⟨#[]⟩, .string ⟨#[]⟩, .slice none 0 0] 25)))
  have z1 := N1.out.lt
  clear hb1 hat
  go_wp2_with fail
  refine (HR.out A cap _ A1.out (HE.out.next B1.out)).mono ?_
  rintro e w2 ⟨op, tx, X, n, k, rfl, hn2, hb2⟩
  have N2w := Lib.hid (N1.out.below hb2)
  have N2 := Lib.hid ((N1.out.below hb2).alloc (.cells #[.string op, .string tx, .slice X n k] 25))
  have B2 := Lib.hid ((B1.out.trans (hb2.mono (by omega))).alloc (by have := hb2.size; omega) (.cells #[.string op, .string tx, .slice X n k] 25))
  have A2 := Lib.hid (show At wc 3 (w2.alloc (.cells #[.string op, .string tx, .slice X n k] 25)) w2.heap.size A l from (((A1.out.below hb2).more hb2.size).below ((Below.refl _ _).alloc (Nat.le_refl _) (.cells #[.string op, .string tx, .slice X n k] 25))))
  have I2 := Lib.hid ((hn2.imp (S' := fun g => w.heap.size < g ∧ g < w2.heap.size) (fun g hg => ⟨by have := hg.1; omega, hg.2⟩)).alloc (fun g hg => hg.2) (.cells #[.string op, .string tx, .slice X n k] 25))
  have V2 := Lib.hid (NBox.fresh w2 (.string op) (.string tx) (.slice X n k) 25)
  have z2 := hb2.size
  have znw := N2w.out.lt
  clear hb2 hn2
  obtain ⟨w6, hw6⟩ : ∃ w6, w2.alloc (.cells #[.string op, .string tx, .slice X n k] 25) = w6 := ⟨_, rfl⟩
  have hz6 : w6.heap.size = w2.heap.size + 1 := by rw [← hw6]; simp
  rw [hw6] at N2 B2 A2 I2 V2
  obtain ⟨x0, x1, x2, xf⟩ := N2.out
  obtain ⟨ad, rfl, ha, d0, d1, d2⟩ := at_word A2.out j hj
  rw [HV.out] at d2
  dsimp only at d2
  obtain ⟨q, hq⟩ : ∃ q, ad.add (j * 3) = q := ⟨_, rfl⟩
  have hbn : q.block ≠ w.heap.size := by
    obtain ⟨a1, h1, h2, c0, c1, c2⟩ := at_word A1.out j hj
    obtain rfl : ad = a1 := Option.some.inj h1
    rw [← hq]
    exact node_block_ne H1.out c0
  rw [hq] at d2
  have HO := Lib.hid (Ox.refl w.heap.size w6)
  have FQ := Lib.hid (fun w' (h : Ox w.heap.size w6 w') => show w'.cell? ⟨q.block, q.off + 2, none⟩ = some (.int .i64 p) from (h.2 ⟨q.block, q.off + 2, none⟩ hbn).trans d2)
  clear d0 d1
  go_upto_region 6 with fail
  try rw [hw6]
  clear hw6
  go_region_held3 (fun w' => (w'.cell? ⟨q.block, q.off + 2, none⟩ = some (.int .i64 p)) ∧ Ox w.heap.size w6 w')
    (first | assumption | (exact ⟨FQ.out _ HO.out.drew, HO.out.drew⟩) | (exact ⟨FQ.out _ HO.out, HO.out⟩) | (refine (fun hS9 : Ox w.heap.size w6 _ => ⟨FQ.out _ hS9, hS9⟩) (((HO.out.setCell _ rfl _).setCell _ rfl _).setCell _ rfl _).drew))
    (fail)
  go_wp2
  have Y := N2.out.set (.string ⟨#[]⟩) (.string ⟨#[]⟩) (.slice none 0 0)
  exact bodyPost_ret (v := .tuple #[.agg #[.string ⟨#[]⟩, .string ⟨#[]⟩, .slice none 0 0], .int .i64 p, .int .i64 91]) (by simp [results, Tryz.results6, go_sem, Y.c0, Y.c1, Y.c2]) rfl
    ⟨⟨#[]⟩, ⟨#[]⟩, none, 0, 0, rfl, ⟨rfl, rfl, rfl⟩, (((B2.out.setCell (Nat.le_refl _) _).setCell (Nat.le_refl _) _).setCell (Nat.le_refl _) _).drew⟩
set_option maxHeartbeats 8000000 in
set_option maxRecDepth 100000 in
theorem eparse_end (s : ByteArray) (m : Int) (w : World) (he : Env w.heap.size m w) (l : List W) (hw : WordsE s l 0 0 m) (x : Tr) (hr : ReadE l m (x, l.length, 91)) :
    Calls Tryz.prog 6 #[.string s] w (ParsePost w (zeroT, s.size, 91)) := by
  unfold ReadE at hr
  have HW := Lib.hid hw
  have HR := Lib.hid hr
  have HE := Lib.hid he
  have e1 : decide ((l.length : Int) < (l.length : Int)) = false := by simp
  clear hw hr he
  go_enter Tryz.func6, Tryz.ntmps6
  have N0 := Lib.hid (NBox.fresh w (.string ⟨#[]⟩) (.string ⟨#[]⟩) (.slice none 0 0) 25)
  have B0 := Lib.hid ((Below.refl w.heap.size w).alloc (Nat.le_refl _) (.cells #[.string ⟨#[]⟩, .string ⟨#[]⟩, .slice none 0 0] 25))
  go_wp2_with fail
  refine (HW.out _ (HE.out.next B0.out)).mono ?_
  rintro e w1 ⟨A, cap, rfl, hat, hb1⟩
  have N1 := Lib.hid (N0.out.below hb1)
  have B1 := Lib.hid (B0.out.trans (hb1.mono (by simp)))
  have A1 := Lib.hid hat
  have H1 := Lib.hid ((hb1.block w.heap.size (by simp)).trans (heap_alloc_new w (.cells #[.string ⟨#[]⟩, .string ⟨#[]⟩, .slice none 0 0] 25)))
  have z1 := N1.out.lt
  clear hb1 hat
  go_wp2_with fail
  refine (HR.out A cap _ A1.out (HE.out.next B1.out)).mono ?_
  rintro e w2 ⟨op, tx, X, n, k, rfl, hn2, hb2⟩
  have N2w := Lib.hid (N1.out.below hb2)
  have N2 := Lib.hid ((N1.out.below hb2).alloc (.cells #[.string op, .string tx, .slice X n k] 25))
  have B2 := Lib.hid ((B1.out.trans (hb2.mono (by omega))).alloc (by have := hb2.size; omega) (.cells #[.string op, .string tx, .slice X n k] 25))
  have A2 := Lib.hid (show At wc 3 (w2.alloc (.cells #[.string op, .string tx, .slice X n k] 25)) w2.heap.size A l from (((A1.out.below hb2).more hb2.size).below ((Below.refl _ _).alloc (Nat.le_refl _) (.cells #[.string op, .string tx, .slice X n k] 25))))
  have I2 := Lib.hid ((hn2.imp (S' := fun g => w.heap.size < g ∧ g < w2.heap.size) (fun g hg => ⟨by have := hg.1; omega, hg.2⟩)).alloc (fun g hg => hg.2) (.cells #[.string op, .string tx, .slice X n k] 25))
  have V2 := Lib.hid (NBox.fresh w2 (.string op) (.string tx) (.slice X n k) 25)
  have z2 := hb2.size
  have znw := N2w.out.lt
  clear hb2 hn2
  obtain ⟨w6, hw6⟩ : ∃ w6, w2.alloc (.cells #[.string op, .string tx, .slice X n k] 25) = w6 := ⟨_, rfl⟩
  have hz6 : w6.heap.size = w2.heap.size + 1 := by rw [← hw6]; simp
  rw [hw6] at N2 B2 A2 I2 V2
  obtain ⟨x0, x1, x2, xf⟩ := N2.out
  have zn := N2.out.lt
  go_upto_region 5 with fail
  try rw [hw6]
  clear hw6
  go_wp2
  have Y := N2.out.set (.string ⟨#[]⟩) (.string ⟨#[]⟩) (.slice none 0 0)
  exact bodyPost_ret (v := .tuple #[.agg #[.string ⟨#[]⟩, .string ⟨#[]⟩, .slice none 0 0], .int .i64 s.size, .int .i64 91]) (by simp [results, Tryz.results6, go_sem, Y.c0, Y.c1, Y.c2]) rfl
    ⟨⟨#[]⟩, ⟨#[]⟩, none, 0, 0, rfl, ⟨rfl, rfl, rfl⟩, ((B2.out.setCell (Nat.le_refl _) _).setCell (Nat.le_refl _) _).setCell (Nat.le_refl _) _⟩
set_option maxHeartbeats 8000000 in
set_option maxRecDepth 100000 in
theorem eparse_deep (s : ByteArray) (m : Int) (w : World) (he : Env w.heap.size m w) (l : List W) (hw : WordsE s l 0 0 m) (x : Tr) (hr : ReadE l m (x, l.length, 0)) (hd : x.deep ≤ 1000000000) (h16 : 16 < x.deep) :
    Calls Tryz.prog 6 #[.string s] w (ParsePost w (zeroT, 0, 92)) := by
  unfold ReadE at hr
  have HW := Lib.hid hw
  have HR := Lib.hid hr
  have HE := Lib.hid he
  have HD := Lib.hid (edeep_any 1000000000 x hd (Nat.le_refl _))
  obtain ⟨d, hdd⟩ : ∃ d, x.deep = d := ⟨_, rfl⟩
  rw [hdd] at HD h16 hd
  have e1 : decide ((l.length : Int) < (l.length : Int)) = false := by simp
  have e2 : decide ((16 : Int) < (d : Int)) = true := by simp; omega
  clear hw hr he hdd
  go_enter Tryz.func6, Tryz.ntmps6
  have N0 := Lib.hid (NBox.fresh w (.string ⟨#[]⟩) (.string ⟨#[]⟩) (.slice none 0 0) 25)
  have B0 := Lib.hid ((Below.refl w.heap.size w).alloc (Nat.le_refl _) (.cells #[.string ⟨#[]⟩, .string ⟨#[]⟩, .slice none 0 0] 25))
  go_wp2_with fail
  refine (HW.out _ (HE.out.next B0.out)).mono ?_
  rintro e w1 ⟨A, cap, rfl, hat, hb1⟩
  have N1 := Lib.hid (N0.out.below hb1)
  have B1 := Lib.hid (B0.out.trans (hb1.mono (by simp)))
  have A1 := Lib.hid hat
  have H1 := Lib.hid ((hb1.block w.heap.size (by simp)).trans (heap_alloc_new w (.cells #[.string ⟨#[]⟩, .string ⟨#[]⟩, .slice none 0 0] 25)))
  have z1 := N1.out.lt
  clear hb1 hat
  go_wp2_with fail
  refine (HR.out A cap _ A1.out (HE.out.next B1.out)).mono ?_
  rintro e w2 ⟨op, tx, X, n, k, rfl, hn2, hb2⟩
  have N2w := Lib.hid (N1.out.below hb2)
  have N2 := Lib.hid ((N1.out.below hb2).alloc (.cells #[.string op, .string tx, .slice X n k] 25))
  have B2 := Lib.hid ((B1.out.trans (hb2.mono (by omega))).alloc (by have := hb2.size; omega) (.cells #[.string op, .string tx, .slice X n k] 25))
  have A2 := Lib.hid (show At wc 3 (w2.alloc (.cells #[.string op, .string tx, .slice X n k] 25)) w2.heap.size A l from (((A1.out.below hb2).more hb2.size).below ((Below.refl _ _).alloc (Nat.le_refl _) (.cells #[.string op, .string tx, .slice X n k] 25))))
  have I2 := Lib.hid ((hn2.imp (S' := fun g => w.heap.size < g ∧ g < w2.heap.size) (fun g hg => ⟨by have := hg.1; omega, hg.2⟩)).alloc (fun g hg => hg.2) (.cells #[.string op, .string tx, .slice X n k] 25))
  have V2 := Lib.hid (NBox.fresh w2 (.string op) (.string tx) (.slice X n k) 25)
  have z2 := hb2.size
  have znw := N2w.out.lt
  clear hb2 hn2
  obtain ⟨w6, hw6⟩ : ∃ w6, w2.alloc (.cells #[.string op, .string tx, .slice X n k] 25) = w6 := ⟨_, rfl⟩
  have hz6 : w6.heap.size = w2.heap.size + 1 := by rw [← hw6]; simp
  rw [hw6] at N2 B2 A2 I2 V2
  obtain ⟨x0, x1, x2, xf⟩ := N2.out
  obtain ⟨v0, v1, v2, vf⟩ := V2.out
  go_upto_region 5 with fail
  try rw [hw6]
  clear hw6
  go_wp2_with fail
  refine (HD.out _ _ _ _ _ _ _ (fun g hg => by have := hg.2; omega) I2.out).mono ?_
  rintro e w3 ⟨rfl, hb3⟩
  have N3 := Lib.hid (N2.out.below hb3)
  have V3 := Lib.hid (V2.out.below hb3)
  have I3 := Lib.hid (I2.out.below (fun g hg => by have := hg.2; omega) hb3)
  have B3 := Lib.hid (B2.out.trans (hb3.mono (by omega)))
  have z3 := N3.out.lt
  have z4 : w2.heap.size < w3.heap.size := V3.out.lt
  clear hb3 x0 x1 x2 xf v0 v1 v2 vf
  obtain ⟨x0, x1, x2, xf⟩ := N3.out
  obtain ⟨v0, v1, v2, vf⟩ := V3.out
  go_wp2
  have Y := N3.out.set (.string ⟨#[]⟩) (.string ⟨#[]⟩) (.slice none 0 0)
  exact bodyPost_ret (v := .tuple #[.agg #[.string ⟨#[]⟩, .string ⟨#[]⟩, .slice none 0 0], .int .i64 0, .int .i64 92]) (by simp [results, Tryz.results6, go_sem, Y.c0, Y.c1, Y.c2]) rfl
    ⟨⟨#[]⟩, ⟨#[]⟩, none, 0, 0, rfl, ⟨rfl, rfl, rfl⟩, ((B3.out.setCell (Nat.le_refl _) _).setCell (Nat.le_refl _) _).setCell (Nat.le_refl _) _⟩
set_option maxHeartbeats 8000000 in
set_option maxRecDepth 100000 in
theorem eparse_ok (s : ByteArray) (m : Int) (w : World) (he : Env w.heap.size m w) (l : List W) (hw : WordsE s l 0 0 m) (x : Tr) (hr : ReadE l m (x, l.length, 0)) (hd : x.deep ≤ 1000000000) (h16 : x.deep ≤ 16) :
    Calls Tryz.prog 6 #[.string s] w (ParsePost w (x, 0, 0)) := by
  unfold ReadE at hr
  have HW := Lib.hid hw
  have HR := Lib.hid hr
  have HE := Lib.hid he
  have HD := Lib.hid (edeep_any 1000000000 x hd (Nat.le_refl _))
  obtain ⟨d, hdd⟩ : ∃ d, x.deep = d := ⟨_, rfl⟩
  rw [hdd] at HD h16 hd
  have e1 : decide ((l.length : Int) < (l.length : Int)) = false := by simp
  have e2 : decide ((16 : Int) < (d : Int)) = false := by simp; omega
  clear hw hr he hdd
  go_enter Tryz.func6, Tryz.ntmps6
  have N0 := Lib.hid (NBox.fresh w (.string ⟨#[]⟩) (.string ⟨#[]⟩) (.slice none 0 0) 25)
  have B0 := Lib.hid ((Below.refl w.heap.size w).alloc (Nat.le_refl _) (.cells #[.string ⟨#[]⟩, .string ⟨#[]⟩, .slice none 0 0] 25))
  go_wp2_with fail
  refine (HW.out _ (HE.out.next B0.out)).mono ?_
  rintro e w1 ⟨A, cap, rfl, hat, hb1⟩
  have N1 := Lib.hid (N0.out.below hb1)
  have B1 := Lib.hid (B0.out.trans (hb1.mono (by simp)))
  have A1 := Lib.hid hat
  have H1 := Lib.hid ((hb1.block w.heap.size (by simp)).trans (heap_alloc_new w (.cells #[.string ⟨#[]⟩, .string ⟨#[]⟩, .slice none 0 0] 25)))
  have z1 := N1.out.lt
  clear hb1 hat
  go_wp2_with fail
  refine (HR.out A cap _ A1.out (HE.out.next B1.out)).mono ?_
  rintro e w2 ⟨op, tx, X, n, k, rfl, hn2, hb2⟩
  have N2w := Lib.hid (N1.out.below hb2)
  have N2 := Lib.hid ((N1.out.below hb2).alloc (.cells #[.string op, .string tx, .slice X n k] 25))
  have B2 := Lib.hid ((B1.out.trans (hb2.mono (by omega))).alloc (by have := hb2.size; omega) (.cells #[.string op, .string tx, .slice X n k] 25))
  have A2 := Lib.hid (show At wc 3 (w2.alloc (.cells #[.string op, .string tx, .slice X n k] 25)) w2.heap.size A l from (((A1.out.below hb2).more hb2.size).below ((Below.refl _ _).alloc (Nat.le_refl _) (.cells #[.string op, .string tx, .slice X n k] 25))))
  have I2 := Lib.hid ((hn2.imp (S' := fun g => w.heap.size < g ∧ g < w2.heap.size) (fun g hg => ⟨by have := hg.1; omega, hg.2⟩)).alloc (fun g hg => hg.2) (.cells #[.string op, .string tx, .slice X n k] 25))
  have V2 := Lib.hid (NBox.fresh w2 (.string op) (.string tx) (.slice X n k) 25)
  have z2 := hb2.size
  have znw := N2w.out.lt
  clear hb2 hn2
  obtain ⟨w6, hw6⟩ : ∃ w6, w2.alloc (.cells #[.string op, .string tx, .slice X n k] 25) = w6 := ⟨_, rfl⟩
  have hz6 : w6.heap.size = w2.heap.size + 1 := by rw [← hw6]; simp
  rw [hw6] at N2 B2 A2 I2 V2
  obtain ⟨x0, x1, x2, xf⟩ := N2.out
  obtain ⟨v0, v1, v2, vf⟩ := V2.out
  go_upto_region 5 with fail
  try rw [hw6]
  clear hw6
  go_wp2_with fail
  refine (HD.out _ _ _ _ _ _ _ (fun g hg => by have := hg.2; omega) I2.out).mono ?_
  rintro e w3 ⟨rfl, hb3⟩
  have N3 := Lib.hid (N2.out.below hb3)
  have V3 := Lib.hid (V2.out.below hb3)
  have I3 := Lib.hid (I2.out.below (fun g hg => by have := hg.2; omega) hb3)
  have B3 := Lib.hid (B2.out.trans (hb3.mono (by omega)))
  have z3 := N3.out.lt
  have z4 : w2.heap.size < w3.heap.size := V3.out.lt
  clear hb3 x0 x1 x2 xf v0 v1 v2 vf
  obtain ⟨x0, x1, x2, xf⟩ := N3.out
  obtain ⟨v0, v1, v2, vf⟩ := V3.out
  go_wp2
  have Y := N3.out.set (.string op) (.string tx) (.slice X n k)
  exact bodyPost_ret (v := .tuple #[.agg #[.string op, .string tx, .slice X n k], .int .i64 0, .int .i64 0]) (by simp [results, Tryz.results6, go_sem, Y.c0, Y.c1, Y.c2]) rfl
    ⟨op, tx, X, n, k, rfl, (W3.nin (w := w3) I3.out (fun hg => Nat.lt_irrefl _ hg.1) (.string op) (.string tx) (.slice X n k)).imp (fun g hg => ⟨Nat.le_of_lt hg.1, by show g < (W3 w3 w.heap.size (.string op) (.string tx) (.slice X n k)).heap.size; rw [W3.size]; have := hg.2; omega⟩), ((B3.out.setCell (Nat.le_refl _) _).setCell (Nat.le_refl _) _).setCell (Nat.le_refl _) _⟩
/-- the program's Parse, of any text -/
theorem eparse_any (s : ByteArray) (hs : s.size ≤ 1000000) (m : Int) (w : World) (he : Env w.heap.size m w) :
    Calls Tryz.prog 6 #[.string s] w (ParsePost w (parseL s.data.toList)) := by
  have hw := words_e s m (by omega)
  have hL := bytes_len s
  unfold parseL
  cases e : wordsL s.data.toList 0 with
  | error j =>
    have h1 : wL s.data.toList = [] := by unfold wL; rw [e]
    have h2 : wP s.data.toList = j := by unfold wP; rw [e]
    have h3 : wE s.data.toList = 81 := by unfold wE; rw [e]
    rw [h1, h2, h3] at hw
    exact eparse_lex s m w he j hw
  | ok l =>
    have h1 : wL s.data.toList = l := by unfold wL; rw [e]
    have h2 : wP s.data.toList = 0 := by unfold wP; rw [e]
    have h3 : wE s.data.toList = 0 := by unfold wE; rw [e]
    rw [h1, h2, h3] at hw
    have hlen := words_len _ _ _ e
    have hl : l.length ≤ 1000000 := by omega
    have hgood : Good l := ⟨by omega, words_came _ _ _ e, came_short (words_came _ _ _ e)⟩
    show Calls Tryz.prog 6 #[.string s] w (ParsePost w (parseW s.data.toList.length l))
    rw [hL]
    by_cases hl0 : l = []
    · subst hl0
      exact eparse_end s m w he [] hw zeroT (fun A cap w _ _ => eread_none A cap w)
    · have hpos : 0 < l.length := List.length_pos_iff.2 hl0
      obtain ⟨R, hx⟩ : ∃ R, fromP (bare l) 0 = R := ⟨_, rfl⟩
      obtain ⟨x, j, b⟩ := R
      have htop : topP (bare l) = (x, j, b) := hx
      have hrd : readN l 0 = if b = true then (zeroT, j, 91) else (x, j, 0) := by unfold readN; rw [hx]
      have hr : ReadE l m (readN l 0) := fun A cap w h he => eread_any A cap l 0 m w h hgood he hpos
      rw [hrd] at hr
      have hj : j ≤ l.length := by have := top_le (bare l); rw [htop, bare_length] at this; exact this
      have hd : x.deep ≤ 1 + l.length := by have := top_deep (bare l); rw [htop, bare_length] at this; exact this
      unfold parseW
      rw [if_neg hl0, htop]
      by_cases hjl : j < l.length
      · rw [if_pos (Or.inr hjl)]
        cases b
        · exact eparse_at s m w he l hw x j 0 hr hjl
        · exact eparse_at s m w he l hw zeroT j 91 hr hjl
      · obtain rfl : j = l.length := by omega
        cases b
        · rw [if_neg (by simp)]
          by_cases h16 : 16 < x.deep
          · rw [if_pos h16]
            exact eparse_deep s m w he l hw x hr (by omega) h16
          · rw [if_neg h16]
            exact eparse_ok s m w he l hw x hr (by omega) (by omega)
        · rw [if_pos (Or.inl rfl)]
          have hp : placeL s.size l l.length = s.size := by unfold placeL; rw [List.getElem?_eq_none (Nat.le_refl _)]
          show Calls _ _ _ _ (ParsePost w (zeroT, placeL s.size l l.length, 91))
          rw [hp]
          exact eparse_end s m w he l hw zeroT hr
end Go.Proofs.YtpohpgahnompbaaGreatDoor.Code
