/-
  The program's reader of expressions does as it should, with any number of steps.
-/
import Derived.Test.YtjbpkpfmgbhlpaaGreatDoorMp21
import Derived.Test.YtjbpkpfmgbhlpaaGreatDoorMp7
import Derived.Test.YtjbpkpfmgbhlpaaGreatDoorMp11
import Derived.Test.YtjbpkpfmgbhlpaaGreatDoorMp19
set_option maxRecDepth 100000
set_option maxHeartbeats 16000000
open Go.Lib (hid)
namespace Go.Proofs.YtjbpkpfmgbhlpaaGreatDoor.Code
open Go.ChangeShapes Go.WideShapes Go.ChangeAt Go.RowKit Val Elems
set_option linter.unusedVariables false
set_option linter.unusedSimpArgs false
section
variable {r : Nat} {m : Int} {A : Option Addr} {cap : Nat} {l : List W} {f : Nat}
theorem numL_some {s : List UInt8} {v : Int} (h : numF s 0 = some v) : numL s = some (Lib.itoa v) := by unfold numL; rw [h]; rfl
theorem numL_none {s : List UInt8} (h : numF s 0 = none) : numL s = none := by unfold numL; rw [h]; rfl
theorem es_oper (D : Goes r m A cap l (f + 1)) (hg : Good l) (i : Nat) (w : World) (hi : i ≤ l.length) (hm : mu (bare l) (.expr 7) i < f + 2) (h : Rd w r m A cap l i)
  (q1 : isW (bare l) i false [45] = false) (q2 : isW (bare l) i false [40] = false) (q3 : oneL (bare l) i false [sTrue, sFalse, sNull] = []) :
  Calls Tryz.prog 185 #[.pointer (some ⟨r, 0, none⟩)] w (Gives r m A cap l w NoBlk (P (bare l) (f + 1) .sign i false)) := by
 have hP : P (bare l) (f + 1) .sign i false = (if isK (bare l) i false 1 = true then (match numL (txt (bare l) i) with | some t => (Tr.leaf sNum t, i + 1, false) | none => (zeroT, i, true))
   else if isK (bare l) i false 2 = true then (.leaf sText (txt (bare l) i), i + 1, false)
   else if (isK (bare l) i false 0 && !ownL (txt (bare l) i)) = true then (.leaf sCol (txt (bare l) i), i + 1, false)
   else (.leaf sCol [], i, true)) := by rw [P, if_neg (by rw [q1]; decide), if_neg (by rw [q2]; decide), if_pos q3]; rfl
 by_cases hil : i < l.length
 ·have hc := hg.came l[i] (List.getElem_mem hil)
  have hft := hg.fit l[i] (List.getElem_mem hil)
  have hkd := came_kind hg.came l[i] (List.getElem_mem hil)
  have hfg := came_fig hg.came l[i] (List.getElem_mem hil)
  have hfl := came_full hg.came l[i] (List.getElem_mem hil)
  rw [isK_in hil, isK_in hil, isK_in hil, txt_in hil] at hP
  have hwd := wd_in hil
  obtain ⟨v, hv⟩ : ∃ v, l[i] = v := ⟨_, rfl⟩
  rw [hv] at hc hft hkd hfg hfl hP hwd
  obtain ⟨k, t, p⟩ := v
  obtain ⟨T, rfl⟩ : ∃ T : ByteArray, t = T.data.toList := ⟨⟨t.toArray⟩, rfl⟩
  have hT : (⟨T.data.toList.toArray⟩ : ByteArray) = T := Lib.mk_data T
  have hts : T.size ≤ 4194304 := hft
  dsimp only at hc hkd hfg hfl hP hwd
  rcases hkd with rfl | rfl | rfl | rfl
  ·obtain ⟨ow, how⟩ : ∃ ow, ownL T.data.toList = ow := ⟨_, rfl⟩
   rw [how] at hP
   cases ow
   ·refine es_rest D hg i w hi hm h q1 q2 q3 (.leaf sCol T.data.toList) (i + 1) false ⟨#[99, 111, 108]⟩ T (fun _ => rfl) (by rw [hP]; rfl) rfl (fun w0 he => ?_)
    rw [hwd]
    dsimp only
    rw [hT]
    exact eoper_name p T m w0 hc hts he false how
   ·refine es_rest D hg i w hi hm h q1 q2 q3 (.leaf sCol []) i true ⟨#[99, 111, 108]⟩ T (fun e => by cases e) (by rw [hP]; rfl) rfl (fun w0 he => ?_)
    rw [hwd]
    dsimp only
    rw [hT]
    exact eoper_name p T m w0 hc hts he true how
  ·obtain ⟨hfg1, hfg2⟩ := hfg rfl
   have hnp := num_parse hfg1 (hfl rfl)
   cases hn : numF T.data.toList 0 with
   | none =>
    rw [numL_none hn] at hP
    refine es_rest D hg i w hi hm h q1 q2 q3 zeroT i true ⟨#[]⟩ ⟨#[]⟩ (fun e => by cases e) (by rw [hP]; rfl) rfl (fun w0 he => ?_)
    rw [hwd]
    dsimp only
    rw [hT]
    exact eoper_much p T m w0 hc hts he (hnp.2 hn)
   | some v =>
    rw [numL_some hn] at hP
    obtain ⟨hv1, hv2, hv3⟩ := hnp.1 v hn
    refine es_rest D hg i w hi hm h q1 q2 q3 (.leaf sNum (Lib.itoa v)) (i + 1) false ⟨#[110, 117, 109]⟩ ⟨(Lib.itoa v).toArray⟩ (fun _ => rfl) (by rw [hP]; rfl) rfl (fun w0 he => ?_)
    rw [hwd]
    dsimp only
    rw [hT]
    exact eoper_num p T m w0 hc hts he v hv1 hv2 hv3
  ·refine es_rest D hg i w hi hm h q1 q2 q3 (.leaf sText T.data.toList) (i + 1) false ⟨#[116, 101, 120, 116]⟩ T (fun _ => rfl) (by rw [hP]; rfl) rfl (fun w0 he => ?_)
   rw [hwd]
   dsimp only
   rw [hT]
   exact eoper_text p T m w0 hc hts he
  ·refine es_rest D hg i w hi hm h q1 q2 q3 (.leaf sCol []) i true ⟨#[]⟩ ⟨#[]⟩ (fun e => by cases e) (by rw [hP]; rfl) rfl (fun w0 he => ?_)
   rw [hwd]
   dsimp only
   rw [hT]
   exact eoper_mark p T m w0 hc hts he
 ·rw [isK_out hil, isK_out hil, isK_out hil] at hP
  refine es_rest D hg i w hi hm h q1 q2 q3 (.leaf sCol []) i true ⟨#[]⟩ ⟨#[]⟩ (fun e => by cases e) (by rw [hP]; rfl) rfl (fun w0 he => ?_)
  rw [wd_out hil]
  exact eoper_zero m w0 he
theorem e_sign (D : Goes r m A cap l f) (hg : Good l) : Part 185 r m A cap l (f + 1) 7 := by
 intro i w hi hm h
 have e0 : mu (bare l) (.expr 7) i = 16 * ((bare l).length - i) + 3 := rfl
 obtain ⟨f2, rfl⟩ : ∃ f2, f = f2 + 1 := ⟨f - 1, by omega⟩
 rw [sgn]
 cases q1 : isW (bare l) i false [45] with
 | true => exact es_neg D hg i w hi hm h q1
 | false =>
  cases q2 : isW (bare l) i false [40] with
  | true =>
   obtain ⟨R, hx⟩ : ∃ R, P (bare l) (f2 + 1) (.expr 1) (i + 1) false = R := ⟨_, rfl⟩
   obtain ⟨x, j, b⟩ := R
   cases b with
   | true => exact es_bad D hg i w hi hm h q1 q2 x j hx
   | false =>
    cases q : isW (bare l) j false [41] with
    | true => exact es_shut D hg i w hi hm h q1 q2 x j hx q
    | false => exact es_noshut D hg i w hi hm h q1 q2 x j hx q
  | false =>
   by_cases q3 : oneL (bare l) i false [sTrue, sFalse, sNull] = []
   ·exact es_oper D hg i w hi hm h q1 q2 q3
   ·exact es_word D hg i w hi hm h q1 q2 ⟨(oneL (bare l) i false [sTrue, sFalse, sNull]).toArray⟩ q3 rfl
theorem e_test (D : Goes r m A cap l f) (hg : Good l) : Part 170 r m A cap l (f + 1) 4 := by
 intro i w hi hm h
 have e0 : mu (bare l) (.expr 4) i = 16 * ((bare l).length - i) + 9 := rfl
 obtain ⟨f2, rfl⟩ : ∃ f2, f = f2 + 1 := ⟨f - 1, by omega⟩
 obtain ⟨R, hx⟩ : ∃ R, P (bare l) (f2 + 1) (.expr 5) i false = R := ⟨_, rfl⟩
 obtain ⟨x, j, b⟩ := R
 cases b with
 | true => exact et_bad D hg i w hi hm h x j hx
 | false =>
  cases q1 : isW (bare l) j false sIs with
  | true =>
   cases q2 : isW (bare l) (j + 1) false sNull with
   | true => exact et_null D hg i w hi hm h x j hx q1 q2
   | false => exact et_nonull D hg i w hi hm h x j hx q1 q2
  | false =>
   by_cases q2 : oneL (bare l) j false (opsL 4) = []
   ·exact et_one D hg i w hi hm h x j hx q1 q2
   ·exact et_two D hg i w hi hm h x j hx q1 ⟨(oneL (bare l) j false (opsL 4)).toArray⟩ q2 rfl
theorem e_not (D : Goes r m A cap l f) (hg : Good l) : Part 163 r m A cap l (f + 1) 3 := by
 intro i w hi hm h
 cases q : isW (bare l) i false sNot with
 | true => exact e_not_yes D hg i w hi hm h q
 | false => exact e_not_no D hg i w hi hm h q
theorem goes (hg : Good l) : ∀ f, Goes r m A cap l f
 | 0 => by constructor <;> exact fun i w hi hm h => absurd hm (Nat.not_lt_zero _)
 | f + 1 => by
  have D := goes hg f
  exact ⟨e_or D hg, e_and D hg, e_not D hg, e_test D hg, e_sum D hg, e_times D hg, e_sign D hg⟩
theorem eor_any (hg : Good l) (i : Nat) (w : World) (hi : i ≤ l.length) (h : Rd w r m A cap l i) :
  Calls Tryz.prog 144 #[.pointer (some ⟨r, 0, none⟩)] w (Gives r m A cap l w NoBlk (fromP (bare l) i)) := by
 have hd := (goes (r := r) (m := m) (A := A) (cap := cap) hg (stepsN (bare l))).g_or i w hi (by
  have e : mu (bare l) (.expr 1) i = 16 * ((bare l).length - i) + 15 := rfl
  unfold stepsN
  omega) h
 exact hd
end
theorem Rd.fresh (w : World) (m : Int) (A : Option Addr) (cap : Nat) (l : List W) (i : Nat) (t : TypeId) (h : At wc 3 w w.heap.size A l) (he : Env w.heap.size m w) : Rd (w.alloc (.cells #[.slice A l.length cap, .int .i64 i] t)) w.heap.size m A cap l i :=
 ⟨by simp [go_sem], by simp [go_sem], fun k => by simp [go_sem], h.below ((Below.refl _ _).alloc (Nat.le_refl _) _), he.below ((Below.refl _ _).alloc (Nat.le_refl _) _)⟩
theorem eread_any (A : Option Addr) (cap : Nat) (l : List W) (i : Nat) (m : Int) (w : World) (h : At wc 3 w w.heap.size A l) (hg : Good l) (he : Env w.heap.size m w) (hi : i < l.length) :
  Calls Tryz.prog 122 #[.slice A l.length cap, .int .i64 i] w (ReadPost w (readN l i)) := by
 obtain ⟨R, hx⟩ : ∃ R, fromP (bare l) i = R := ⟨_, rfl⟩
 obtain ⟨x, j, b⟩ := R
 have hrd : readN l i = if b = true then (zeroT, j, 91) else (x, j, 0) := by unfold readN; rw [hx]
 rw [hrd]
 obtain ⟨q, hq⟩ : ∃ q, (if b = true then (zeroT, j, (91 : Int)) else (x, j, 0)) = q := ⟨_, rfl⟩
 rw [hq]
 have HQ := hid hq
 have HA := hid h
 have HE := hid he
 have HX0 := hid (fun w1 (hr : Rd w1 (w.heap.size + 1) m A cap l i) => eor_any hg i w1 (by omega) hr)
 rw [hx] at HX0
 have e1 : (i : Int) < (l.length : Int) := by omega
 have e0 : (0 : Int) ≤ (i : Int) := by omega
 have e2 : decide ((i : Int) < 0) = false := by simp
 have e3 : decide ((l.length : Int) ≤ (i : Int)) = false := by simp; omega
 clear h hx hrd hg hq he
 go_enter Tryz.func122, Tryz.ntmps122
 obtain ⟨w1, hw1⟩ : ∃ w1, (w.alloc (.cells #[.string ⟨#[]⟩, .string ⟨#[]⟩, .slice none 0 0] 25)).alloc (.cells #[.slice A l.length cap, .int .i64 i] 146) = w1 := ⟨_, rfl⟩
 have hz1 : w1.heap.size = w.heap.size + 2 := by rw [← hw1]; simp
 have N1 := hid (show NBox w1 w.heap.size (.string ⟨#[]⟩) (.string ⟨#[]⟩) (.slice none 0 0) by rw [← hw1]; exact (NBox.fresh _ _ _ _ _).alloc _)
 have B1 := hid (show Below w.heap.size w w1 by rw [← hw1]; exact ((Below.refl _ _).alloc (Nat.le_refl _) _).alloc (by simp) _)
 have R1 := hid (show Rd w1 (w.heap.size + 1) m A cap l i by
  rw [← hw1, show w.heap.size + 1 = (w.alloc (.cells #[.string ⟨#[]⟩, .string ⟨#[]⟩, .slice none 0 0] 25)).heap.size by simp]
  exact Rd.fresh _ m A cap l i 146 ((HA.out.below ((Below.refl _ _).alloc (Nat.le_refl _) _)).more (by simp)) (HE.out.next (below_alloc w _)))
 go_wp2_with fail
 try rw [hw1]
 refine (HX0.out _ R1.out).mono ?_
 rintro e w2 ⟨op, tx, X, n, k, rfl, hn2, hb2, hr2⟩
 dsimp only at hn2 hr2
 have N2 := hid ((N1.out.but (by omega) hb2).alloc (.cells #[.string op, .string tx, .slice X n k] 25))
 have R2 := hid (hr2.alloc (.cells #[.string op, .string tx, .slice X n k] 25))
 have hz2 : w1.heap.size ≤ w2.heap.size := hb2.size
 have I2 := hid (fun hq : b = false => ((hn2 hq).imp (S' := fun g => w.heap.size < g ∧ g < w2.heap.size) (fun g hg => by rcases hg with hg | hg; exact hg.elim; exact ⟨by have := hg.1; omega, hg.2⟩)).alloc (fun g hg => hg.2) (.cells #[.string op, .string tx, .slice X n k] 25))
 have B2 := hid ((B1.out.trans (hb2.below (B := w.heap.size) (by omega) (by omega))).alloc (by omega) (.cells #[.string op, .string tx, .slice X n k] 25))
 have V2 := hid (NBox.fresh w2 (.string op) (.string tx) (.slice X n k) 25)
 have zn := N2.out.lt
 have zr := R2.out.lt
 clear hb2 hr2 hn2
 obtain ⟨x0, x1, x2, xf⟩ := N2.out
 obtain ⟨w6, hw6⟩ : ∃ w6, w2.alloc (.cells #[.string op, .string tx, .slice X n k] 25) = w6 := ⟨_, rfl⟩
 rw [hw6] at N2 R2 I2 B2 V2 zn zr x0 x1 x2 xf
 obtain ⟨v0, v1, v2, vf⟩ := V2.out
 have c1 := R2.out.c1
 have HO := hid (Ox.refl w.heap.size w6)
 have FQ := hid (fun w' (h : Ox w.heap.size w6 w') => show w'.cell? ⟨w.heap.size + 1, 1, none⟩ = some (.int .i64 j) ∧ w'.cell? ⟨w2.heap.size, 0, none⟩ = some (.string op) ∧ w'.cell? ⟨w2.heap.size, 1, none⟩ = some (.string tx) ∧ w'.cell? ⟨w2.heap.size, 2, none⟩ = some (.slice X n k) from
  ⟨(h.2 ⟨w.heap.size + 1, 1, none⟩ (by simp)).trans c1, (h.2 ⟨w2.heap.size, 0, none⟩ (by simp; omega)).trans v0, (h.2 ⟨w2.heap.size, 1, none⟩ (by simp; omega)).trans v1, (h.2 ⟨w2.heap.size, 2, none⟩ (by simp; omega)).trans v2⟩)
 cases b
 ·go_upto_region 7 with fail
  go_region_held3 (fun w' => (w'.cell? ⟨w.heap.size + 1, 1, none⟩ = some (.int .i64 j) ∧ w'.cell? ⟨w2.heap.size, 0, none⟩ = some (.string op) ∧ w'.cell? ⟨w2.heap.size, 1, none⟩ = some (.string tx) ∧ w'.cell? ⟨w2.heap.size, 2, none⟩ = some (.slice X n k)) ∧ Ox w.heap.size w6 w')
   (first | assumption | (exact ⟨FQ.out _ HO.out.drew, HO.out.drew⟩) | (exact ⟨FQ.out _ HO.out, HO.out⟩) | (refine (fun hS9 : Ox w.heap.size w6 _ => ⟨FQ.out _ hS9, hS9⟩) (((HO.out.setCell _ rfl _).setCell _ rfl _).setCell _ rfl _).drew))
   (fail)
  go_wp2
  obtain rfl : q = (x, j, 0) := by have := HQ.out; simpa using this.symm
  have Y := N2.out.set (.string op) (.string tx) (.slice X n k)
  have h6 : w6.heap.size = w2.heap.size + 1 := by rw [← hw6]; simp
  exact bodyPost_ret (v := .tuple #[.agg #[.string op, .string tx, .slice X n k], .int .i64 j, .int .i64 0]) (by simp [results, Tryz.results122, go_sem, Y.c0, Y.c1, Y.c2]) rfl
   ⟨op, tx, X, n, k, rfl, NIn.keep (w := W3 w6 w.heap.size (.string op) (.string tx) (.slice X n k)) (w' := (W3 w6 w.heap.size (.string op) (.string tx) (.slice X n k)).drew) (fun g hg => ⟨by have := hg.1; omega, by show g < (W3 w6 w.heap.size (.string op) (.string tx) (.slice X n k)).heap.size; rw [W3.size, h6]; have := hg.2; omega⟩) (fun _ _ _ => rfl) _ _ _ _ (W3.nin (I2.out (by first | exact trivial | rfl)) (fun hg => Nat.lt_irrefl _ hg.1) _ _ _), (((B2.out.setCell (Nat.le_refl _) _).setCell (Nat.le_refl _) _).setCell (Nat.le_refl _) _).drew⟩
 ·go_upto_region 6 with fail
  go_region_held3 (fun w' => (w'.cell? ⟨w.heap.size + 1, 1, none⟩ = some (.int .i64 j) ∧ w'.cell? ⟨w2.heap.size, 0, none⟩ = some (.string op) ∧ w'.cell? ⟨w2.heap.size, 1, none⟩ = some (.string tx) ∧ w'.cell? ⟨w2.heap.size, 2, none⟩ = some (.slice X n k)) ∧ Ox w.heap.size w6 w')
   (first | assumption | (exact ⟨FQ.out _ HO.out.drew, HO.out.drew⟩) | (exact ⟨FQ.out _ HO.out, HO.out⟩) | (refine (fun hS9 : Ox w.heap.size w6 _ => ⟨FQ.out _ hS9, hS9⟩) (((HO.out.setCell _ rfl _).setCell _ rfl _).setCell _ rfl _).drew))
   (fail)
  go_wp2
  obtain rfl : q = (zeroT, j, 91) := by have := HQ.out; simpa using this.symm
  have Y := N2.out.set (.string ⟨#[]⟩) (.string ⟨#[]⟩) (.slice none 0 0)
  exact bodyPost_ret (v := .tuple #[.agg #[.string ⟨#[]⟩, .string ⟨#[]⟩, .slice none 0 0], .int .i64 j, .int .i64 91]) (by simp [results, Tryz.results122, go_sem, Y.c0, Y.c1, Y.c2]) rfl
   ⟨⟨#[]⟩, ⟨#[]⟩, none, 0, 0, rfl, ⟨rfl, rfl, rfl⟩, (((B2.out.setCell (Nat.le_refl _) _).setCell (Nat.le_refl _) _).setCell (Nat.le_refl _) _).drew⟩
theorem word_small {s : List UInt8} {k : Int} {t : List UInt8} {n : Nat} (h : firstL s = some (k, t, n)) : t.length ≤ 200 := by
 rcases first_cases h with ⟨c, r, rfl, hl, -, rfl, rfl, h20⟩ | ⟨c, r, rfl, hl, hf, -, rfl, rfl, h19⟩ | ⟨r, rfl, -, m, hq, -, h200⟩ | ⟨c, d, r, rfl, -, -, -, -, -, rfl, -⟩ | ⟨c, r, rfl, -, -, -, -, -, -, rfl, -⟩
 ·rw [List.length_take]; omega
 ·rw [List.length_take]; omega
 ·exact h200
 ·simp
 ·simp
theorem came_short {l : List W} (h : CameB l) : FitW l := fun w hw => Nat.le_trans (word_small (h w hw)) (by decide)
theorem node_block_ne {w : World} {g : Nat} {a b : ByteArray} {X : Option Addr} {n k : Nat} {t : TypeId} {fz : Nat × Nat} (h : w.heap[g]? = some (.cells #[.string a, .string b, .slice X n k] t fz)) {p : Addr} {v : Int} (hc : w.cell? p = some (.int .i64 v)) : p.block ≠ g := by
 intro e
 unfold World.cell? at hc
 rw [e, h] at hc
 dsimp only at hc
 split at hc
 ·cases hc
 ·rcases p with ⟨p1, p2, p3⟩
  match p2, hc with
  | 0, hc => simp at hc
  | 1, hc => simp at hc
  | 2, hc => simp at hc
  | n + 3, hc => simp at hc
def WordsE (s : ByteArray) (l : List W) (p ee m : Int) : Prop := ∀ w, Env w.heap.size m w → Calls Tryz.prog 11 #[.string s] w (fun e w' => ∃ (A : Option Addr) (cap : Nat), e = .returned (.tuple #[.slice A l.length cap, .int .i64 p, .int .i64 ee]) ∧ At wc 3 w' w'.heap.size A l ∧ Below w.heap.size w w')
theorem words_e (s : ByteArray) (m : Int) (hs : s.size ≤ 4194304) : WordsE s (wL s.data.toList) (wP s.data.toList) (wE s.data.toList) m := fun w he => words_any s m w hs he.gl.cell
theorem isW_far {L : List V} (b : Bool) (s : List UInt8) : isW L L.length b s = false := by unfold isW; rw [List.getElem?_eq_none (Nat.le_refl _)]
theorem isK_far {L : List V} (b : Bool) (k : Int) : isK L L.length b k = false := by unfold isK; rw [List.getElem?_eq_none (Nat.le_refl _)]
theorem oneL_far {L : List V} (b : Bool) : ∀ ls, oneL L L.length b ls = []
 | [] => rfl
 | s :: ls => by rw [oneL, isW_far, if_neg (by decide)]; exact oneL_far b ls
theorem P_out {L : List V} : ∀ f : Nat, (∀ lv, 1 ≤ lv → lv ≤ 7 → 9 - lv ≤ f → (P L f (.expr lv) L.length false).2 = (L.length, true)) ∧ (1 ≤ f → (P L f .sign L.length false).2 = (L.length, true))
 | 0 => ⟨fun lv _ h h2 => by omega, fun h => absurd h (by omega)⟩
 | f + 1 => by
  have ih := P_out (L := L) f
  refine ⟨fun lv h1 h7 hf => ?_, fun _ => ?_⟩
  ·rw [P]
   split
   ·exact ih.2 (by omega)
   split
   ·rw [isW_far, if_neg (by decide)]
    exact ih.1 4 (by decide) (by decide) (by omega)
   split
   ·rw [ih.1 5 (by decide) (by decide) (by omega)]
    exact (P_ends L f (.test _) L.length true (Nat.le_refl _)).2.2 rfl
   ·rw [ih.1 (lv + 1) (by omega) (by omega) (by omega)]
    exact (P_ends L f (.loop lv _) L.length true (Nat.le_refl _)).2.2 rfl
  ·rw [P, isW_far, if_neg (by decide), isW_far, if_neg (by decide), oneL_far, if_pos rfl, isK_far, isK_far, isK_far]
   rfl
theorem read_out {l : List W} : readN l l.length = (zeroT, l.length, 91) := by
 have h : (fromP (bare l) l.length).2 = (l.length, true) := by
  have h1 := (P_out (L := bare l) (stepsN (bare l))).1 1 (by decide) (by decide) (by unfold stepsN; omega)
  rw [bare_length] at h1
  exact h1
 unfold readN
 rw [h]
 rfl
theorem eread_out (A : Option Addr) (cap n : Nat) (w : World) :
  Calls Tryz.prog 122 #[.slice A n cap, .int .i64 n] w (ReadPost w (zeroT, n, 91)) := by
 have e2 : decide ((n : Int) < 0) = false := by simp
 have e3 : decide ((n : Int) ≤ (n : Int)) = true := by simp
 have e4 : decide (n ≤ n) = true := by simp
 go_enter Tryz.func122, Tryz.ntmps122
 go_wp2
 have Y := NBox.fresh w (.string ⟨#[]⟩) (.string ⟨#[]⟩) (.slice none 0 0) 25
 exact bodyPost_ret (v := .tuple #[.agg #[.string ⟨#[]⟩, .string ⟨#[]⟩, .slice none 0 0], .int .i64 n, .int .i64 91]) (by simp [results, Tryz.results122, go_sem, Y.c0, Y.c1, Y.c2]) rfl
  ⟨⟨#[]⟩, ⟨#[]⟩, none, 0, 0, rfl, ⟨rfl, rfl, rfl⟩, (Below.refl _ _).alloc (Nat.le_refl _) _⟩
section
variable {r : Nat} {m : Int} {A : Option Addr} {cap : Nat} {l : List W} {qb qa : Nat}
theorem eread_all (hg : Good l) (i : Nat) (w : World) (h : Rq w r m A cap l qb qa i) (hi : i ≤ l.length) :
  Calls Tryz.prog 122 #[.slice A l.length cap, .int .i64 i] w (ReadPost w (readN l i)) := by
 by_cases hil : i < l.length
 ·exact eread_any A cap l i m w (h.rd.ws.more (Nat.le_of_lt h.lt)) hg h.rd.env hil
 ·obtain rfl : i = l.length := by omega
  rw [read_out]
  exact eread_out A cap l.length w
theorem readN_cases (i : Nat) : ∃ (x : Tr) (j : Nat) (b : Bool) (y : Tr) (ee : Int), exprP (bare l) i = (x.n, j, b) ∧ readN l i = (y, j, ee) ∧ (ee == 0) = (!b) ∧ (b = false → y = x) := by
 obtain ⟨R, hR⟩ : ∃ R, fromP (bare l) i = R := ⟨_, rfl⟩
 obtain ⟨x, j, b⟩ := R
 have h1 : exprP (bare l) i = (x.n, j, b) := by
  unfold exprP
  rw [show exprQ (bare l) i false = fromP (bare l) i from rfl, hR]
 cases b with
 | true => exact ⟨x, j, true, zeroT, 91, h1, by unfold readN; rw [hR]; rfl, rfl, fun e => by cases e⟩
 | false => exact ⟨x, j, false, x, 0, h1, by unfold readN; rw [hR]; rfl, rfl, fun _ => rfl⟩
theorem pexpr_any (hg : Good l) (i : Nat) (w : World) (h : Rq w r m A cap l qb qa i) (hi : i ≤ l.length) :
  Calls Tryz.prog 84 #[.pointer (some ⟨r, 0, none⟩)] w (GiveN r m A cap l qb qa w (exprP (bare l) i)) := by
 obtain ⟨x, j, b, y, ee, hx, hrd, hee, hxy⟩ := readN_cases (l := l) i
 rw [hx]
 have HE := hid (fun w' (h' : Rq w' r m A cap l qb qa i) => eread_all hg i w' h' hi)
 rw [hrd] at HE
 have HXY := hid hxy
 have HEE := hid hee
 have HR := hid h
 have hrl := h.lt
 have hql := h.ltq
 have hal := h.lta
 clear h hx hrd hxy hee
 go_enter Tryz.func84, Tryz.ntmps84
 obtain ⟨w0, hw0, hz0, N0, B0⟩ := made0 w r
 have R0 := hid (show Rq w0 r m A cap l qb qa i by rw [← hw0]; exact HR.out.alloc _)
 have NF := hid (NBox.fresh w0 (.string ⟨#[]⟩) (.string ⟨#[]⟩) (.slice none 0 0) 25)
 rw [hz0] at NF
 have HW0 := hid hw0
 clear hw0
 go_upto_region 1 with fail
 rw [HW0.out]
 have hrl0 := R0.out.lt
 have c0 := R0.out.rd.c0
 have c1 := R0.out.rd.c1
 have FQ := hid (fun (w' : World) (hb : Below w0.heap.size w0 w') => show w'.cell? ⟨r, 0, none⟩ = some (.slice A l.length cap) ∧ w'.cell? ⟨r, 1, none⟩ = some (.int .i64 (i : Int)) from ⟨(hb.cell (p := ⟨r, 0, none⟩) hrl0).trans c0, (hb.cell (p := ⟨r, 1, none⟩) hrl0).trans c1⟩)
 go_cut [4, 5, 6] (fun s4 s5 s6 wx => ∃ (g : Nat) (op tx : ByteArray) (X : Option Addr) (n k : Nat), s4 = .pointer (some ⟨g, 0, none⟩) ∧ s5 = .int .i64 (j : Int) ∧ s6 = .int .i64 ee ∧ w0.heap.size ≤ g ∧ NBox wx g (.string op) (.string tx) (.slice X n k) ∧ RIn wx (fun h => w0.heap.size ≤ h ∧ h < wx.heap.size) y.n (op, tx, X, n, k) ∧ Below w0.heap.size w0 wx)
 case first =>
  go_region_held3 (fun w' => (w'.cell? ⟨r, 0, none⟩ = some (.slice A l.length cap) ∧ w'.cell? ⟨r, 1, none⟩ = some (.int .i64 (i : Int))) ∧ Below w0.heap.size w0 w')
   (first | assumption | (refine keepK hb (by assumption) ?_; intro k; exact ⟨(k _ _ hrl0).trans c0, (k _ _ hrl0).trans c1⟩) | (refine keepA _ (by assumption) ?_; intro k; exact ⟨(k _ _ hrl0).trans c0, (k _ _ hrl0).trans c1⟩) | (refine keepD (by assumption) ?_; intro k; exact ⟨(k _ _ hrl0).trans c0, (k _ _ hrl0).trans c1⟩) | (exact ⟨⟨c0, c1⟩, Below.drew (Below.refl _ _)⟩) | (refine (fun hS9 : Below w0.heap.size w0 _ => ⟨FQ.out _ hS9, hS9⟩) (swapO (show _ ∧ Below w0.heap.size w0 _ by assumption).2 (by omega))) | (refine (fun hS9 : Below w0.heap.size w0 _ => ⟨FQ.out _ hS9, hS9⟩) ((((show _ ∧ Below w0.heap.size w0 _ by assumption).2.setCell (by first | (simp; done) | (simp; omega) | omega) _).setCell (by first | (simp; done) | (simp; omega) | omega) _).setCell (by first | (simp; done) | (simp; omega) | omega) _)))
   (first | (go_at_call 122; refine (HE.out _ (R0.out.below (show _ ∧ Below w0.heap.size w0 _ by assumption).2)).mono ?_; rintro e w5 ⟨op, tx, X, n, k, rfl, hn5, hb⟩; try dsimp only at hn5; have hs5 : w0.heap.size ≤ w5.heap.size := Nat.le_trans (show _ ∧ Below w0.heap.size w0 _ by assumption).2.size hb.size; have hk := (bcell hb).1; have hf := (bcell hb).2; have hs6 := hb.size; (try simp at hs6); (try have hq0 : w0.heap.size < w5.heap.size := by omega)))
  all_goals go_wp2_with fail
  all_goals go_meet
  all_goals (refine ⟨_, op, tx, X, n, k, rfl, rfl, rfl, ?_, ?_, ?_, (show _ ∧ Below w0.heap.size w0 _ by assumption).2⟩)
  all_goals first | omega | exact NBox.fresh _ _ _ _ _ | exact (NBox.below NF.out hb).set _ _ _ | exact (NBox.below (NF.out.below (Below.drew (Below.refl _ _))) hb).set _ _ _ | exact (hn5.rin.alloc (fun g hg => hg.2) _).imp (fun g hg => ⟨by have := hg.1; simp at this; omega, by have := hg.2; simp; omega⟩) | exact (hn5.rin.w3 (fun hg => by have := hg.1; simp at this; omega) _ _ _).imp (fun g hg => ⟨by have := hg.1; simp at this; omega, by show g < (W3 w5 _ _ _ _).heap.size; rw [W3.size]; exact hg.2⟩)
 case rest =>
  obtain ⟨g, op, tx, X, n, k, rfl, rfl, rfl, hge, G, I, hB⟩ := hcut
  have R5 := hid (R0.out.below hB)
  have B5 := hid (B0.out.next hB)
  have N5 := hid (N0.out.below hB)
  have G5 := hid G
  have I5 := hid I
  have zx := hB.size
  have zg := G.lt
  have hgr : g ≠ r := by omega
  clear c0 c1 hB I
  obtain ⟨g0, g1, g2, gf⟩ := G
  have c1 := R5.out.rd.c1
  have f1 := R5.out.rd.fr 1
  rename World => wx
  obtain ⟨w6, hw6⟩ : ∃ w6, wx.setCell ⟨r, 1, none⟩ (.int .i64 j) = w6 := ⟨_, rfl⟩
  have R6 := hid (show Rq w6 r m A cap l qb qa j by rw [← hw6]; exact R5.out.at j)
  have B6 := hid (show But w w6 r by rw [← hw6]; exact B5.out.setCell 1 _)
  have N6 := hid (show NBox w6 w.heap.size (.string ⟨#[]⟩) (.string ⟨#[]⟩) (.slice none 0 0) by rw [← hw6]; exact N5.out.far _ (by show r ≠ _; omega) _)
  have G6 := hid (show NBox w6 g (.string op) (.string tx) (.slice X n k) by rw [← hw6]; exact G5.out.far _ (by show r ≠ _; omega) _)
  have z6 : w6.heap.size = wx.heap.size := by rw [← hw6]; simp
  have I6 := hid (show RIn w6 (fun h => w.heap.size < h ∧ h < w6.heap.size) y.n (op, tx, X, n, k) by
   rw [← hw6]
   exact (I5.out.setCell _ (fun h => by have h1 := h.1; dsimp only at h1; omega) _).imp (fun h hh => ⟨by have := hh.1; omega, by have := hh.2; simp; omega⟩))
  have HW6 := hid hw6
  clear hw6
  go_upto_region 3 with fail
  rw [HW6.out]
  clear g0 g1 g2 gf c1 f1
  obtain ⟨x0, x1, x2, xf⟩ := N6.out
  obtain ⟨g0, g1, g2, gf⟩ := G6.out
  have hee := HEE.out
  have xl := N6.out.lt
  have gl := G6.out.lt
  go_wp2
  have Y := N6.out.set (.string op) (.string tx) (.slice X n k)
  exact bodyPost_ret (v := .tuple #[.agg #[.string op, .string tx, .slice X n k], .bool (!b)]) (by simp [results, Tryz.results84, go_sem, Y.c0, Y.c1, Y.c2, hee]) rfl
   (giveN_ret (fun e => by rw [← HXY.out e]; exact I6.out) B6.out R6.out hrl hql hal)
end
section
variable {r : Nat} {m : Int} {A : Option Addr} {cap : Nat} {l : List W} {qb qa : Nat}
theorem pby_kind (hg : Good l) (i : Nat) (w : World) (h : Rq w r m A cap l qb qa i) (hi : i ≤ l.length) (hk : (wd l i).1 ≠ 0) :
  Calls Tryz.prog 91 #[.pointer (some ⟨r, 0, none⟩)] w (GiveN r m A cap l qb qa w (.mk sBy [] [], i, false)) := by
 have hll := hg.len
 have HWD := hid (fun w0 (h0 : Rq w0 r m A cap l qb qa i) => pword_any i 0 w0 h0 hi hll (by decide))
 rw [Nat.add_zero] at HWD
 unfold wv at HWD
 obtain ⟨x, hx⟩ : ∃ x, wd l i = x := ⟨_, rfl⟩
 rw [hx] at HWD hk
 obtain ⟨wk, wt, wp⟩ := x
 dsimp only at HWD hk
 obtain ⟨T, hT⟩ : ∃ T : ByteArray, ⟨wt.toArray⟩ = T := ⟨_, rfl⟩
 obtain rfl : wt = T.data.toList := by rw [← hT]
 rw [hT] at HWD
 have hfd0 := fun w0 => field0 wk wp T w0
 have hfd1 := fun w0 => field1 wk wp T w0
 have e0 : (wk == 0) = false := by simpa using hk
 have e0' : (wk != 0) = true := by simp [bne, e0]
 have HR := hid h
 have hrl := h.lt
 have hql := h.ltq
 have hal := h.lta
 clear h hx hT hg hk
 go_enter Tryz.func91, Tryz.ntmps91
 obtain ⟨wa, hwa⟩ : ∃ wa, w.alloc (.cells #[.string ⟨#[]⟩, .string ⟨#[]⟩, .slice none 0 0] 25) = wa := ⟨_, rfl⟩
 obtain ⟨w0, hw0⟩ : ∃ w0, wa.alloc (.cells #[.string ⟨#[98, 121]⟩, .string ⟨#[]⟩, .slice none 0 0] 25) = w0 := ⟨_, rfl⟩
 have hza : wa.heap.size = w.heap.size + 1 := by rw [← hwa]; simp
 have hz0 : w0.heap.size = w.heap.size + 2 := by rw [← hw0, ← hwa]; simp
 have N0 := hid (show NBox w0 w.heap.size (.string ⟨#[]⟩) (.string ⟨#[]⟩) (.slice none 0 0) by rw [← hw0, ← hwa]; exact (NBox.fresh _ _ _ _ _).alloc _)
 have M0 := hid (show NBox w0 (w.heap.size + 1) (.string ⟨#[98, 121]⟩) (.string ⟨#[]⟩) (.slice none 0 0) by rw [← hw0, ← hza]; exact NBox.fresh _ _ _ _ _)
 have R0 := hid (show Rq w0 r m A cap l qb qa i by rw [← hw0, ← hwa]; exact (HR.out.alloc _).alloc _)
 have B0 := hid (show But w w0 r by rw [← hw0, ← hwa]; exact ((But.refl w r).alloc _).alloc _)
 rw [← hwa] at hw0
 have HW0 := hid hw0
 clear hwa hza hw0 wa
 go_upto_region 2 with fail
 rw [HW0.out]
 go_wp2_with fail
 refine (HWD.out _ R0.out).mono ?_
 rintro e w1 ⟨rfl, hb1⟩
 have zb1 := hb1.size
 have N1 := hid (N0.out.below hb1)
 have M1 := hid (M0.out.below hb1)
 have R1 := hid (R0.out.below hb1)
 have B1 := hid (B0.out.next hb1)
 clear hb1
 obtain ⟨x0, x1, x2, xf⟩ := N1.out
 obtain ⟨y0, y1, y2, yf⟩ := M1.out
 have zn := N1.out.lt
 have zm := M1.out.lt
 go_wp2
 have Y := N1.out.set (.string ⟨#[98, 121]⟩) (.string ⟨#[]⟩) (.slice none 0 0)
 exact bodyPost_ret (v := .tuple #[.agg #[.string ⟨#[98, 121]⟩, .string ⟨#[]⟩, .slice none 0 0], .bool (!false)]) (by simp [results, Tryz.results91, go_sem, Y.c0, Y.c1, Y.c2]) rfl
  (giveN_ret (b := false) (fun _ => RIn.leafN _ _ ⟨#[98, 121]⟩ ⟨#[]⟩) B1.out R1.out hrl hql hal)
theorem pby_other (hg : Good l) (i : Nat) (w : World) (h : Rq w r m A cap l qb qa i) (hi : i ≤ l.length) (hk : (wd l i).1 = 0) (ht : (wd l i).2.1 ≠ sBy) :
  Calls Tryz.prog 91 #[.pointer (some ⟨r, 0, none⟩)] w (GiveN r m A cap l qb qa w (.mk sBy [] [], i, false)) := by
 have hll := hg.len
 have HWD := hid (fun w0 (h0 : Rq w0 r m A cap l qb qa i) => pword_any i 0 w0 h0 hi hll (by decide))
 rw [Nat.add_zero] at HWD
 unfold wv at HWD
 obtain ⟨x, hx⟩ : ∃ x, wd l i = x := ⟨_, rfl⟩
 rw [hx] at HWD hk ht
 obtain ⟨wk, wt, wp⟩ := x
 dsimp only at HWD hk ht
 obtain ⟨T, hT⟩ : ∃ T : ByteArray, ⟨wt.toArray⟩ = T := ⟨_, rfl⟩
 obtain rfl : wt = T.data.toList := by rw [← hT]
 rw [hT] at HWD
 have hfd0 := fun w0 => field0 wk wp T w0
 have hfd1 := fun w0 => field1 wk wp T w0
 subst hk
 have hne : T ≠ ⟨#[98, 121]⟩ := fun e => ht (by rw [e]; rfl)
 have f2 : (T.toList == [98, 121]) = false := by
  have h := toList_ne hne
  rw [ByteArray.toList_eq ⟨#[98, 121]⟩] at h
  exact h
 have f3 : (T.toList != [98, 121]) = true := by simp [bne, f2]
 have HR := hid h
 have hrl := h.lt
 have hql := h.ltq
 have hal := h.lta
 clear h hx hT hg ht hne
 go_enter Tryz.func91, Tryz.ntmps91
 obtain ⟨wa, hwa⟩ : ∃ wa, w.alloc (.cells #[.string ⟨#[]⟩, .string ⟨#[]⟩, .slice none 0 0] 25) = wa := ⟨_, rfl⟩
 obtain ⟨w0, hw0⟩ : ∃ w0, wa.alloc (.cells #[.string ⟨#[98, 121]⟩, .string ⟨#[]⟩, .slice none 0 0] 25) = w0 := ⟨_, rfl⟩
 have hza : wa.heap.size = w.heap.size + 1 := by rw [← hwa]; simp
 have hz0 : w0.heap.size = w.heap.size + 2 := by rw [← hw0, ← hwa]; simp
 have N0 := hid (show NBox w0 w.heap.size (.string ⟨#[]⟩) (.string ⟨#[]⟩) (.slice none 0 0) by rw [← hw0, ← hwa]; exact (NBox.fresh _ _ _ _ _).alloc _)
 have M0 := hid (show NBox w0 (w.heap.size + 1) (.string ⟨#[98, 121]⟩) (.string ⟨#[]⟩) (.slice none 0 0) by rw [← hw0, ← hza]; exact NBox.fresh _ _ _ _ _)
 have R0 := hid (show Rq w0 r m A cap l qb qa i by rw [← hw0, ← hwa]; exact (HR.out.alloc _).alloc _)
 have B0 := hid (show But w w0 r by rw [← hw0, ← hwa]; exact ((But.refl w r).alloc _).alloc _)
 rw [← hwa] at hw0
 have HW0 := hid hw0
 clear hwa hza hw0 wa
 go_upto_region 2 with fail
 rw [HW0.out]
 go_wp2_with fail
 refine (HWD.out _ R0.out).mono ?_
 rintro e w1 ⟨rfl, hb1⟩
 have zb1 := hb1.size
 have N1 := hid (N0.out.below hb1)
 have M1 := hid (M0.out.below hb1)
 have R1 := hid (R0.out.below hb1)
 have B1 := hid (B0.out.next hb1)
 clear hb1
 go_wp2_with fail
 refine (HWD.out _ R1.out).mono ?_
 rintro e w2 ⟨rfl, hb2⟩
 have zb2 := hb2.size
 have N2 := hid (N1.out.below hb2)
 have M2 := hid (M1.out.below hb2)
 have R2 := hid (R1.out.below hb2)
 have B2 := hid (B1.out.next hb2)
 clear hb2
 obtain ⟨x0, x1, x2, xf⟩ := N2.out
 obtain ⟨y0, y1, y2, yf⟩ := M2.out
 have zn := N2.out.lt
 have zm := M2.out.lt
 go_wp2
 have Y := N2.out.set (.string ⟨#[98, 121]⟩) (.string ⟨#[]⟩) (.slice none 0 0)
 exact bodyPost_ret (v := .tuple #[.agg #[.string ⟨#[98, 121]⟩, .string ⟨#[]⟩, .slice none 0 0], .bool (!false)]) (by simp [results, Tryz.results91, go_sem, Y.c0, Y.c1, Y.c2]) rfl
  (giveN_ret (b := false) (fun _ => RIn.leafN _ _ ⟨#[98, 121]⟩ ⟨#[]⟩) B2.out R2.out hrl hql hal)
theorem pby_mark (hg : Good l) (i : Nat) (w : World) (h : Rq w r m A cap l qb qa i) (hi : i ≤ l.length) (hk : (wd l i).1 = 0) (ht : (wd l i).2.1 = sBy) (hm : isW (bare l) (i + 1) false [61] = true) :
  Calls Tryz.prog 91 #[.pointer (some ⟨r, 0, none⟩)] w (GiveN r m A cap l qb qa w (.mk sBy [] [], i, false)) := by
 have hll := hg.len
 have HWD := hid (fun w0 (h0 : Rq w0 r m A cap l qb qa i) => pword_any i 0 w0 h0 hi hll (by decide))
 rw [Nat.add_zero] at HWD
 unfold wv at HWD
 have HMK := hid (fun w0 (h0 : Rq w0 r m A cap l qb qa i) => pmark_any i 1 ⟨#[61]⟩ w0 h0 hi hll (by decide) (by decide) true hm)
 obtain ⟨x, hx⟩ : ∃ x, wd l i = x := ⟨_, rfl⟩
 rw [hx] at HWD hk ht
 obtain ⟨wk, wt, wp⟩ := x
 dsimp only at HWD hk ht
 obtain ⟨T, hT⟩ : ∃ T : ByteArray, ⟨wt.toArray⟩ = T := ⟨_, rfl⟩
 obtain rfl : wt = T.data.toList := by rw [← hT]
 rw [hT] at HWD
 have hfd0 := fun w0 => field0 wk wp T w0
 have hfd1 := fun w0 => field1 wk wp T w0
 subst hk
 obtain rfl : T = ⟨#[98, 121]⟩ := by rw [← Lib.mk_data T, ht]; rfl
 have f2 : ((⟨#[98, 121]⟩ : ByteArray).toList == [98, 121]) = true := by rw [ByteArray.toList_eq]; rfl
 have f3 : ((⟨#[98, 121]⟩ : ByteArray).toList != [98, 121]) = false := by simp [bne, f2]
 have HR := hid h
 have hrl := h.lt
 have hql := h.ltq
 have hal := h.lta
 clear h hx hT hg ht hm
 go_enter Tryz.func91, Tryz.ntmps91
 obtain ⟨wa, hwa⟩ : ∃ wa, w.alloc (.cells #[.string ⟨#[]⟩, .string ⟨#[]⟩, .slice none 0 0] 25) = wa := ⟨_, rfl⟩
 obtain ⟨w0, hw0⟩ : ∃ w0, wa.alloc (.cells #[.string ⟨#[98, 121]⟩, .string ⟨#[]⟩, .slice none 0 0] 25) = w0 := ⟨_, rfl⟩
 have hza : wa.heap.size = w.heap.size + 1 := by rw [← hwa]; simp
 have hz0 : w0.heap.size = w.heap.size + 2 := by rw [← hw0, ← hwa]; simp
 have N0 := hid (show NBox w0 w.heap.size (.string ⟨#[]⟩) (.string ⟨#[]⟩) (.slice none 0 0) by rw [← hw0, ← hwa]; exact (NBox.fresh _ _ _ _ _).alloc _)
 have M0 := hid (show NBox w0 (w.heap.size + 1) (.string ⟨#[98, 121]⟩) (.string ⟨#[]⟩) (.slice none 0 0) by rw [← hw0, ← hza]; exact NBox.fresh _ _ _ _ _)
 have R0 := hid (show Rq w0 r m A cap l qb qa i by rw [← hw0, ← hwa]; exact (HR.out.alloc _).alloc _)
 have B0 := hid (show But w w0 r by rw [← hw0, ← hwa]; exact ((But.refl w r).alloc _).alloc _)
 rw [← hwa] at hw0
 have HW0 := hid hw0
 clear hwa hza hw0 wa
 go_upto_region 2 with fail
 rw [HW0.out]
 go_wp2_with fail
 refine (HWD.out _ R0.out).mono ?_
 rintro e w1 ⟨rfl, hb1⟩
 have zb1 := hb1.size
 have N1 := hid (N0.out.below hb1)
 have M1 := hid (M0.out.below hb1)
 have R1 := hid (R0.out.below hb1)
 have B1 := hid (B0.out.next hb1)
 clear hb1
 go_wp2_with fail
 refine (HWD.out _ R1.out).mono ?_
 rintro e w2 ⟨rfl, hb2⟩
 have zb2 := hb2.size
 have N2 := hid (N1.out.below hb2)
 have M2 := hid (M1.out.below hb2)
 have R2 := hid (R1.out.below hb2)
 have B2 := hid (B1.out.next hb2)
 clear hb2
 go_wp2_with fail
 refine (HMK.out _ R2.out).mono ?_
 rintro e w3 ⟨rfl, hb3⟩
 have zb3 := hb3.size
 have N3 := hid (N2.out.below hb3)
 have M3 := hid (M2.out.below hb3)
 have R3 := hid (R2.out.below hb3)
 have B3 := hid (B2.out.next hb3)
 clear hb3
 obtain ⟨x0, x1, x2, xf⟩ := N3.out
 obtain ⟨y0, y1, y2, yf⟩ := M3.out
 have zn := N3.out.lt
 have zm := M3.out.lt
 go_wp2
 have Y := N3.out.set (.string ⟨#[98, 121]⟩) (.string ⟨#[]⟩) (.slice none 0 0)
 exact bodyPost_ret (v := .tuple #[.agg #[.string ⟨#[98, 121]⟩, .string ⟨#[]⟩, .slice none 0 0], .bool (!false)]) (by simp [results, Tryz.results91, go_sem, Y.c0, Y.c1, Y.c2]) rfl
  (giveN_ret (b := false) (fun _ => RIn.leafN _ _ ⟨#[98, 121]⟩ ⟨#[]⟩) B3.out R3.out hrl hql hal)
end
section
variable {r : Nat} {m : Int} {A : Option Addr} {cap : Nat} {l : List W} {qb qa : Nat}
theorem named_no {L : List V} {o : List UInt8} {el : Nat → Res} {i : Nat} (h : nmOk L i = false) : namedP L o el i = (zeroN, i, true) := by unfold namedP; rw [h]; rfl
theorem named_noeq {L : List V} {o : List UInt8} {el : Nat → Res} {i : Nat} (h : nmOk L i = true) (h1 : isW L (i + 1) false [61] = false) : namedP L o el i = (zeroN, i + 1, true) := by unfold namedP; rw [h, h1]; rfl
theorem named_yes {L : List V} {o : List UInt8} {el : Nat → Res} {i : Nat} (h : nmOk L i = true) (h1 : isW L (i + 1) false [61] = true) : namedP L o el i = (.mk o (txt L i) [(el (i + 2)).1], (el (i + 2)).2) := by unfold namedP; rw [h, h1]; rfl
theorem nameP_no {L : List V} {o : List UInt8} {i : Nat} (h : nmOk L i = false) : nameP L o i = (zeroN, i, true) := by unfold nameP; rw [h]; rfl
theorem nameP_yes {L : List V} {o : List UInt8} {i : Nat} (h : nmOk L i = true) : nameP L o i = (.mk o (txt L i) [], i + 1, false) := by unfold nameP; rw [h]; rfl
theorem RIn.kidded {w : World} {S : Nat → Prop} {o t : List UInt8} {op tx : ByteArray} {X Y : Option Addr} {n k n' k' g : Nat} {op' tx' : ByteArray} {T : Nod} (h : RIn w S (.mk o t []) (op, tx, X, n, k)) (hT : RIn w S T (op', tx', Y, n', k')) (hb : NBox w g (.string op') (.string tx') (.slice Y n' k')) (hg : S g) : RIn w S (.mk o t [T]) (op, tx, some ⟨g, 0, none⟩, 1, 1) := by
 obtain ⟨e1, e2, -, -⟩ := h.texts
 dsimp only [Nod.op, Nod.tx] at e1 e2
 subst e1 e2
 have := RIn.made 1 ⟨o.toArray⟩ ⟨t.toArray⟩ (nat_box hb hg) (RAll.one hT) (by simp) (by simp)
 exact this
theorem pnamed_any (hg : Good l) (o : ByteArray) (fn : Nat) (en : ∀ args w, (callFunc fn args).run Tryz.prog w = .ok (.enter fn args) w) (el : Nat → Res) (i : Nat) (w : World) (h : Rq w r m A cap l qb qa i) (hi : i ≤ l.length)
  (HP : i + 2 ≤ l.length → ∀ w1, Rq w1 r m A cap l qb qa (i + 2) → Calls Tryz.prog fn #[.pointer (some ⟨r, 0, none⟩)] w1 (GiveN r m A cap l qb qa w1 (el (i + 2)))) :
  Calls Tryz.prog 86 #[.pointer (some ⟨r, 0, none⟩), .string o, .func (.func fn) #[] #[]] w (GiveN r m A cap l qb qa w (namedP (bare l) o.data.toList el i)) := by
 have HC := hid (fun w0 (h0 : Rq w0 r m A cap l qb qa i) => pname_any hg o i w0 h0 hi)
 have hll := hg.len
 have HR := hid h
 have hrl := h.lt
 have hql := h.ltq
 have hal := h.lta
 cases hnm : nmOk (bare l) i with
 | false =>
  rw [named_no hnm]
  rw [nameP_no hnm] at HC
  clear h HP hg hnm
  go_enter Tryz.func86, Tryz.ntmps86
  obtain ⟨w0, hw0, hz0, N0, B0⟩ := made0 w r
  have R0 := hid (show Rq w0 r m A cap l qb qa i by rw [← hw0]; exact HR.out.alloc _)
  go_wp2_with fail
  try rw [hw0]
  refine (HC.out _ R0.out).mono ?_
  rintro e w2 ⟨op, tx, X, n, k, rfl, hn1, hb1, hr1⟩
  dsimp only at hn1 hr1
  have z2 := hb1.size
  obtain ⟨w3, hw3⟩ : ∃ w3, w2.alloc (.cells #[.string op, .string tx, .slice X n k] 25) = w3 := ⟨_, rfl⟩
  have B3 := hid (show But w w3 r by rw [← hw3]; exact (B0.out.trans hb1).alloc _)
  have R3 := hid (show Rq w3 r m A cap l qb qa i by rw [← hw3]; exact hr1.alloc _)
  have N3 := hid (show NBox w3 w.heap.size (.string ⟨#[]⟩) (.string ⟨#[]⟩) (.slice none 0 0) by rw [← hw3]; exact (N0.out.but (by omega) hb1).alloc _)
  have V3 := hid (show NBox w3 w2.heap.size (.string op) (.string tx) (.slice X n k) by rw [← hw3]; exact NBox.fresh _ _ _ _ _)
  have HW3 := hid hw3
  clear hb1 hr1 hn1 hw3
  go_upto_region 2 with fail
  rw [HW3.out]
  obtain ⟨x0, x1, x2, xf⟩ := N3.out
  obtain ⟨v0, v1, v2, vf⟩ := V3.out
  have zn := N3.out.lt
  have zv := V3.out.lt
  go_wp2
  have Y := N3.out.set (.string op) (.string tx) (.slice X n k)
  exact bodyPost_ret (v := .tuple #[.agg #[.string op, .string tx, .slice X n k], .bool (!true)]) (by simp [results, Tryz.results86, go_sem, Y.c0, Y.c1, Y.c2]) rfl
   (giveN_ret (b := true) (fun h => (by cases h)) B3.out R3.out hrl hql hal)
 | true =>
  have hil : i + 1 ≤ l.length := by have := (isK_lt (Bool.and_eq_true _ _ ▸ hnm).1).1; rw [bare_length] at this; exact this
  obtain ⟨c, hc⟩ : ∃ c, isW (bare l) (i + 1) false [61] = c := ⟨_, rfl⟩
  have HT := hid (fun w0 (h0 : Rq w0 r m A cap l qb qa (i + 1)) => ptake_any (i + 1) ⟨#[61]⟩ w0 h0 hil hll (by decide) c hc)
  rw [nameP_yes hnm] at HC
  obtain ⟨txi, htxi⟩ : ∃ txi, txt (bare l) i = txi := ⟨_, rfl⟩
  rw [htxi] at HC
  cases c with
  | false =>
   rw [named_noeq hnm hc]
   clear h HP hg hnm hc
   go_enter Tryz.func86, Tryz.ntmps86
   obtain ⟨w0, hw0, hz0, N0, B0⟩ := made0 w r
   have R0 := hid (show Rq w0 r m A cap l qb qa i by rw [← hw0]; exact HR.out.alloc _)
   go_wp2_with fail
   try rw [hw0]
   refine (HC.out _ R0.out).mono ?_
   rintro e w2 ⟨op, tx, X, n, k, rfl, hn1, hb1, hr1⟩
   dsimp only at hn1 hr1
   have z2 := hb1.size
   obtain ⟨w3, hw3⟩ : ∃ w3, w2.alloc (.cells #[.string op, .string tx, .slice X n k] 25) = w3 := ⟨_, rfl⟩
   have z3 : w3.heap.size = w2.heap.size + 1 := by rw [← hw3]; simp
   have B3 := hid (show But w w3 r by rw [← hw3]; exact (B0.out.trans hb1).alloc _)
   have R3 := hid (show Rq w3 r m A cap l qb qa (i + 1) by rw [← hw3]; exact hr1.alloc _)
   have N3 := hid (show NBox w3 w.heap.size (.string ⟨#[]⟩) (.string ⟨#[]⟩) (.slice none 0 0) by rw [← hw3]; exact (N0.out.but (by omega) hb1).alloc _)
   have V3 := hid (show NBox w3 w2.heap.size (.string op) (.string tx) (.slice X n k) by rw [← hw3]; exact NBox.fresh _ _ _ _ _)
   have HW3 := hid hw3
   have hr2 : r < w2.heap.size := hr1.lt
   clear hb1 hr1 hn1 hw3
   go_upto_region 2 with fail
   rw [HW3.out]
   go_wp2_with fail
   refine (HT.out _ R3.out).mono ?_
   rintro e w4 ⟨rfl, hb4, hr4⟩
   rw [if_neg (by simp)] at hr4
   have z4 := hb4.size
   have N4 := hid (N3.out.but (by omega) hb4)
   have V4 := hid (V3.out.but (by omega) hb4)
   have B4 := hid (B3.out.trans hb4)
   have R4 := hid hr4
   clear hb4 hr4
   obtain ⟨x0, x1, x2, xf⟩ := N4.out
   obtain ⟨v0, v1, v2, vf⟩ := V4.out
   have zn := N4.out.lt
   have zv := V4.out.lt
   go_wp2
   have Y := N4.out.set (.string op) (.string tx) (.slice X n k)
   exact bodyPost_ret (v := .tuple #[.agg #[.string op, .string tx, .slice X n k], .bool (!true)]) (by simp [results, Tryz.results86, go_sem, Y.c0, Y.c1, Y.c2]) rfl
    (giveN_ret (b := true) (fun h => (by cases h)) B4.out R4.out hrl hql hal)
  | true =>
   have hil2 : i + 2 ≤ l.length := by have := isW_lt hc; rw [bare_length] at this; exact this
   have HPP := hid (HP hil2)
   rw [named_yes hnm hc, htxi]
   obtain ⟨q, hq⟩ : ∃ q, el (i + 2) = q := ⟨_, rfl⟩
   obtain ⟨T, j, b⟩ := q
   rw [hq] at HPP
   rw [hq]
   clear h HP hg hnm hc hq
   go_enter Tryz.func86, Tryz.ntmps86
   obtain ⟨w0, hw0, hz0, N0, B0⟩ := made0 w r
   have R0 := hid (show Rq w0 r m A cap l qb qa i by rw [← hw0]; exact HR.out.alloc _)
   go_wp2_with fail
   try rw [hw0]
   refine (HC.out _ R0.out).mono ?_
   rintro e w2 ⟨op, tx, X, n, k, rfl, hn1, hb1, hr1⟩
   dsimp only at hn1 hr1
   have z2 := hb1.size
   obtain ⟨w3, hw3⟩ : ∃ w3, w2.alloc (.cells #[.string op, .string tx, .slice X n k] 25) = w3 := ⟨_, rfl⟩
   have z3 : w3.heap.size = w2.heap.size + 1 := by rw [← hw3]; simp
   have B3 := hid (show But w w3 r by rw [← hw3]; exact (B0.out.trans hb1).alloc _)
   have R3 := hid (show Rq w3 r m A cap l qb qa (i + 1) by rw [← hw3]; exact hr1.alloc _)
   have N3 := hid (show NBox w3 w.heap.size (.string ⟨#[]⟩) (.string ⟨#[]⟩) (.slice none 0 0) by rw [← hw3]; exact (N0.out.but (by omega) hb1).alloc _)
   have V3 := hid (show NBox w3 w2.heap.size (.string op) (.string tx) (.slice X n k) by rw [← hw3]; exact NBox.fresh _ _ _ _ _)
   have I3 := hid (show RIn w3 (New w0 w2) (.mk o.data.toList txi []) (op, tx, X, n, k) by rw [← hw3]; exact (hn1 (by first | rfl | trivial)).alloc (fun g hg => hg.2) _)
   have HW3 := hid hw3
   have hr2 : r < w2.heap.size := hr1.lt
   clear hb1 hr1 hn1 hw3
   go_upto_region 2 with fail
   rw [HW3.out]
   go_wp2_with fail
   refine (HT.out _ R3.out).mono ?_
   rintro e w4 ⟨rfl, hb4, hr4⟩
   rw [if_pos (by simp)] at hr4
   have z4 := hb4.size
   have N4 := hid (N3.out.but (by omega) hb4)
   have V4 := hid (V3.out.but (by omega) hb4)
   have I4 := hid (I3.out.but (fun g hg => ⟨by have := hg.2; omega, by have := hg.1; omega⟩) hb4)
   have B4 := hid (B3.out.trans hb4)
   have R4 := hid hr4
   clear hb4 hr4
   go_wp2_with fail
   refine (HPP.out _ R4.out).mono ?_
   rintro e w5 ⟨op5, tx5, X5, n5, k5, rfl, hn5, hb5, hr5⟩
   dsimp only at hn5 hr5
   have z5 := hb5.size
   have N5 := hid (N4.out.but (by omega) hb5)
   have V5 := hid (V4.out.but (by omega) hb5)
   have I5 := hid (I4.out.but (fun g hg => ⟨by have := hg.2; omega, by have := hg.1; omega⟩) hb5)
   have B5 := hid (B4.out.trans hb5)
   have R5 := hid hr5
   have J5 := hid hn5
   clear hb5 hr5 hn5
   obtain ⟨w6, hw6⟩ : ∃ w6, w5.alloc (.cells #[.string op5, .string tx5, .slice X5 n5 k5] 25) = w6 := ⟨_, rfl⟩
   have z6 : w6.heap.size = w5.heap.size + 1 := by rw [← hw6]; simp
   have E6 := hid (show NBox w6 w5.heap.size (.string op5) (.string tx5) (.slice X5 n5 k5) by rw [← hw6]; exact NBox.fresh _ _ _ _ _)
   have HW6 := hid hw6
   go_upto_region 5 with fail
   try rw [HW6.out]
   obtain ⟨w7, hw7⟩ : ∃ w7, w6.alloc (.cells #[.string op5, .string tx5, .slice X5 n5 k5] 25) = w7 := ⟨_, rfl⟩
   have z7 : w7.heap.size = w5.heap.size + 2 := by rw [← hw7]; simp [z6]
   have V7 := hid (show NBox w7 w2.heap.size (.string op) (.string tx) (.slice X n k) by rw [← hw7, ← hw6]; exact (V5.out.alloc _).alloc _)
   obtain ⟨w8, hw8⟩ : ∃ w8, w7.setCell ⟨w2.heap.size, 2, none⟩ (.slice (some ⟨w5.heap.size + 1, 0, none⟩) 1 1) = w8 := ⟨_, rfl⟩
   have z8 : w8.heap.size = w5.heap.size + 2 := by rw [← hw8]; simp [z7]
   have V8 := hid (show NBox w8 w2.heap.size (.string op) (.string tx) (.slice (some ⟨w5.heap.size + 1, 0, none⟩) 1 1) by rw [← hw8]; exact V7.out.kid _)
   have N8 := hid (show NBox w8 w.heap.size (.string ⟨#[]⟩) (.string ⟨#[]⟩) (.slice none 0 0) by rw [← hw8, ← hw7, ← hw6]; exact ((N5.out.alloc _).alloc _).far _ (by show w2.heap.size ≠ _; omega) _)
   have B8 := hid (show But w w8 r by rw [← hw8, ← hw7, ← hw6]; exact ((B5.out.alloc _).alloc _).new _ (by show w.heap.size ≤ w2.heap.size; omega) _)
   have R8 := hid (show Rq w8 r m A cap l qb qa j by rw [← hw8, ← hw7, ← hw6]; exact ((R5.out.alloc _).alloc _).new _ (by show r < w2.heap.size; omega) (by show w2.heap.size ≠ qb; omega) (by show w2.heap.size ≠ qa; omega) _)
   have I8 := hid (show b = false → RIn w8 (fun g => w.heap.size < g ∧ g < w8.heap.size) (.mk o.data.toList txi [T]) (op, tx, some ⟨w5.heap.size + 1, 0, none⟩, 1, 1) by
    intro e
    have h1 : RIn w8 (fun g => w.heap.size < g ∧ g < w8.heap.size) (.mk o.data.toList txi []) (op, tx, X, n, k) := by
     rw [← hw8, ← hw7, ← hw6]
     exact (((I5.out.alloc (fun g hg => by have := hg.2; omega) _).alloc (fun g hg => by have := hg.2; simp; omega) _).setCell _ (fun hg => by have := hg.2; dsimp only at this; omega) _).imp (fun g hg => ⟨by have := hg.1; omega, by have := hg.2; simp; omega⟩)
    have h2 : RIn w8 (fun g => w.heap.size < g ∧ g < w8.heap.size) T (op5, tx5, X5, n5, k5) := by
     rw [← hw8, ← hw7, ← hw6]
     exact ((((J5.out e).alloc (fun g hg => hg.2) _).alloc (fun g hg => by have := hg.2; simp; omega) _).setCell _ (fun hg => by have := hg.1; dsimp only at this; omega) _).imp (fun g hg => ⟨by have := hg.1; omega, by have := hg.2; simp; omega⟩)
    have h3 : NBox w8 (w5.heap.size + 1) (.string op5) (.string tx5) (.slice X5 n5 k5) := by
     have h4 := NBox.fresh w6 (.string op5) (.string tx5) (.slice X5 n5 k5) 25
     rw [z6, hw7] at h4
     rw [← hw8]
     exact h4.far _ (by show w2.heap.size ≠ _; omega) _
    exact h1.kidded h2 h3 ⟨by omega, by omega⟩)
   obtain ⟨e0, e1, e2, ef⟩ := E6.out
   have V6 := hid (show NBox w6 w2.heap.size (.string op) (.string tx) (.slice X n k) by rw [← hw6]; exact V5.out.alloc _)
   have v0 := V7.out.c0
   have v1 := V7.out.c1
   have v2 := V7.out.c2
   have vf := V7.out.fr 2
   rw [← hw7] at v0 v1 v2 vf
   have HW7 := hid hw7
   have HW8 := hid hw8
   have zv6 := V6.out.lt
   clear hw6 hw7 hw8
   go_upto_region 6 with fail
   rw [HW7.out]
   rw [HW8.out]
   clear v0 v1 v2 vf e0 e1 e2 ef
   obtain ⟨x0, x1, x2, xf⟩ := N8.out
   obtain ⟨v0, v1, v2, vf⟩ := V8.out
   have zn := N8.out.lt
   have zv := V8.out.lt
   obtain ⟨qq, hqq⟩ : ∃ qq, (!b) = qq := ⟨_, rfl⟩
   go_wp2
   have Y := N8.out.set (.string op) (.string tx) (.slice (some ⟨w5.heap.size + 1, 0, none⟩) 1 1)
   exact bodyPost_ret (v := .tuple #[.agg #[.string op, .string tx, .slice (some ⟨w5.heap.size + 1, 0, none⟩) 1 1], .bool (!b)]) (by simp [results, Tryz.results86, go_sem, Y.c0, Y.c1, Y.c2, hqq]) rfl
    (giveN_ret I8.out B8.out R8.out hrl hql hal)
end
end Go.Proofs.YtjbpkpfmgbhlpaaGreatDoor.Code
