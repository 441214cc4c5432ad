/-
  The program's Read of queries: the query from a place on.
-/
import Derived.Test.YtjbpkpfmgbhlpaaGreatDoorMp26
import Derived.Test.YtjbpkpfmgbhlpaaGreatDoorMp10
import Derived.Test.YtjbpkpfmgbhlpaaGreatDoorMp11
import Derived.Test.YtjbpkpfmgbhlpaaGreatDoorMp8
import Derived.Test.YtjbpkpfmgbhlpaaGreatDoorMp17
import Derived.Test.YtjbpkpfmgbhlpaaGreatDoorMp18
import Derived.Carry
import Derived.ChangeOld
import Derived.ChangeSame
import Derived.OpenShut
import Derived.ProofKit
import Derived.Lib.SmallJoins
import Derived.LaidMore
import Derived.Lay
import Derived.Stop.Joined
import Derived.Shelf.Vars
import Derived.Test.YtjbpkpfmgbhlpaaGreatDoorMp2
import Derived.Deep.Slices
import Derived.Deep.Fields
import Derived.Test.YtjbpkpfmgbhlpaaGreatDoorMp3
import Derived.LaidSub
import Derived.MakeChecks
import Derived.Lib.LaidTab
set_option maxRecDepth 100000
set_option maxHeartbeats 16000000
open Go.Lib (hid)
namespace Go.Proofs.YtjbpkpfmgbhlpaaGreatDoor.Code
open Go.ChangeShapes Go.WideShapes Go.ChangeAt Go.RowKit Val Elems
set_option linter.unusedVariables false
set_option linter.unusedSimpArgs false
theorem preadQ_out (A : Option Addr) (cap n : Nat) (at9 : Int) (w : World) (h : at9 < 0 ∨ (n : Int) ≤ at9) :
  Calls Tryz.prog 12 #[.slice A n cap, .int .i64 at9] w fun e w' => e = .returned (.tuple #[.agg #[.string ⟨#[]⟩, .string ⟨#[]⟩, .slice none 0 0], .int .i64 at9, .int .i64 91]) ∧ Below w.heap.size w w' := by
 have Y := NBox.fresh w (.string ⟨#[]⟩) (.string ⟨#[]⟩) (.slice none 0 0) 25
 by_cases h1 : at9 < 0
 ·have e1 : decide (at9 < 0) = true := by simpa using h1
  clear h h1
  go_enter Tryz.func12, Tryz.ntmps12
  go_wp2
  exact bodyPost_ret (v := .tuple #[.agg #[.string ⟨#[]⟩, .string ⟨#[]⟩, .slice none 0 0], .int .i64 at9, .int .i64 91]) (by simp [results, Tryz.results12, go_sem, Y.c0, Y.c1, Y.c2]) rfl
   ⟨rfl, (Below.refl _ _).alloc (Nat.le_refl _) _⟩
 ·have e1 : decide (at9 < 0) = false := by simpa using h1
  have e2 : decide ((n : Int) ≤ at9) = true := by simp; omega
  clear h h1
  go_enter Tryz.func12, Tryz.ntmps12
  go_wp2
  exact bodyPost_ret (v := .tuple #[.agg #[.string ⟨#[]⟩, .string ⟨#[]⟩, .slice none 0 0], .int .i64 at9, .int .i64 91]) (by simp [results, Tryz.results12, go_sem, Y.c0, Y.c1, Y.c2]) rfl
   ⟨rfl, (Below.refl _ _).alloc (Nat.le_refl _) _⟩
theorem preadQ_any (A : Option Addr) (cap : Nat) (l : List W) (i : Nat) (m : Int) (w : World) (h : At wc 3 w w.heap.size A l) (hg : Good l) (he : Env w.heap.size m w) (hi : i < l.length) :
  Calls Tryz.prog 12 #[.slice A l.length cap, .int .i64 i] w (ReadQPost w (readQ l i)) := by
 obtain ⟨R, hx⟩ : ∃ R, fromQ (Code.bare l) i = R := ⟨_, rfl⟩
 obtain ⟨x, j, b⟩ := R
 have hrd : readQ l i = if b = true then (zeroN, j, 91) else (x, j, 0) := by unfold readQ; rw [hx]
 rw [hrd]
 obtain ⟨q, hq⟩ : ∃ q, (if b = true then (zeroN, j, (91 : Int)) else (x, j, 0)) = q := ⟨_, rfl⟩
 rw [hq]
 have HQ := hid hq
 have HA := hid h
 have HE := hid he
 have HTQ := hid (fun w0 => pqueries_any w0)
 have HTA := hid (fun w0 => paggs_any w0)
 have HX0 := hid (fun (r qb qa : Nat) w1 (hr : Rq w1 r m A cap l qb qa i) => pquery_all hg ((Code.bare l).length + 1) i w1 hr (by omega) (by rw [bare_length]; omega))
 rw [show qq (Code.bare l) ((Code.bare l).length + 1) i false = (x, j, b) from hx] at HX0
 have e1 : (i : Int) < (l.length : Int) := by omega
 have e0 : (0 : Int) ≤ (i : Int) := by omega
 have e2 : decide ((i : Int) < 0) = false := by simp
 have e3 : decide ((l.length : Int) ≤ (i : Int)) = false := by simp; omega
 clear h hx hrd hg hq he
 go_enter Tryz.func12, Tryz.ntmps12
 obtain ⟨w0, hw0⟩ : ∃ w0, w.alloc (.cells #[.string ⟨#[]⟩, .string ⟨#[]⟩, .slice none 0 0] 25) = w0 := ⟨_, rfl⟩
 have hz0 : w0.heap.size = w.heap.size + 1 := by rw [← hw0]; simp
 have N0 := hid (show NBox w0 w.heap.size (.string ⟨#[]⟩) (.string ⟨#[]⟩) (.slice none 0 0) by rw [← hw0]; exact NBox.fresh _ _ _ _ _)
 have B0 := hid (show Below w.heap.size w w0 by rw [← hw0]; exact below_alloc _ _)
 have HW0 := hid hw0
 clear hw0
 go_wp2_with fail
 try rw [HW0.out]
 refine (HTQ.out _).mono ?_
 rintro e wq ⟨qb, rfl, hmq, hqb, hbq⟩
 have zq := hbq.size
 have Nq := hid (N0.out.below hbq)
 have Bq := hid (bnext B0.out B0.out.size hbq)
 have MQ := hid hmq
 clear hmq hbq
 go_wp2_with fail
 refine (HTA.out _).mono ?_
 rintro e wa ⟨qa, rfl, hma, hqa, hba⟩
 have za := hba.size
 have Na := hid (Nq.out.below hba)
 have Ba := hid (bnext Bq.out Bq.out.size hba)
 have MQ2 := hid (MQ.out.below hba)
 have MA2 := hid hma
 have hlq := MQ2.out.lt
 have hla := hma.lt
 clear hma hba MQ
 obtain ⟨w1, hw1⟩ : ∃ w1, wa.alloc (.cells #[.slice A l.length cap, .int .i64 i, .map (some qb), .map (some qa)] 58) = w1 := ⟨_, rfl⟩
 have z1 : w1.heap.size = wa.heap.size + 1 := by rw [← hw1]; simp
 have N1 := hid (show NBox w1 w.heap.size (.string ⟨#[]⟩) (.string ⟨#[]⟩) (.slice none 0 0) by rw [← hw1]; exact Na.out.alloc _)
 have B1 := hid (show Below w.heap.size w w1 by rw [← hw1]; exact Ba.out.alloc Ba.out.size _)
 have R1 := hid (show Rq w1 wa.heap.size m A cap l qb qa i from by
  have hbw := below_alloc wa (.cells #[.slice A l.length cap, .int .i64 i, .map (some qb), .map (some qa)] 58)
  rw [hw1] at hbw
  refine ⟨⟨by rw [← hw1]; simp [go_sem], by rw [← hw1]; simp [go_sem], fun k => by rw [← hw1]; simp [go_sem], ?_, ?_⟩, by rw [← hw1]; simp [go_sem], by rw [← hw1]; simp [go_sem], MQ2.out.below hbw, MA2.out.below hbw, by omega, by omega⟩
  ·exact (HA.out.below B1.out).more (by have := Ba.out.size; omega)
  ·have h1 : Env wa.heap.size m wa := HE.out.next Ba.out
   exact h1.below hbw)
 have HW1 := hid hw1
 clear hw1
 go_upto_region 4 with fail
 rw [HW1.out]
 go_wp2_with fail
 refine (HX0.out _ _ _ _ R1.out).mono ?_
 rintro e w2 ⟨op, tx, X, n, k, rfl, hn2, hb2, hr2⟩
 dsimp only at hn2 hr2
 have N2 := hid ((N1.out.but (by have := Ba.out.size; omega) hb2).alloc (.cells #[.string op, .string tx, .slice X n k] 25))
 have R2 := hid (hr2.alloc (.cells #[.string op, .string tx, .slice X n k] 25))
 have hz2 : w1.heap.size ≤ w2.heap.size := hb2.size
 have zwa : w.heap.size < wa.heap.size := by omega
 have I2 := hid (fun hq : b = false => ((hn2 hq).imp (S' := fun g => w.heap.size < g ∧ g < w2.heap.size) (fun g hg => ⟨by have := hg.1; omega, hg.2⟩)).alloc (fun g hg => hg.2) (.cells #[.string op, .string tx, .slice X n k] 25))
 have B2 := hid ((B1.out.trans (hb2.below (B := w.heap.size) (by omega) (by omega))).alloc (by omega) (.cells #[.string op, .string tx, .slice X n k] 25))
 have V2 := hid (NBox.fresh w2 (.string op) (.string tx) (.slice X n k) 25)
 have zn := N2.out.lt
 have zr := R2.out.lt
 clear hb2 hr2 hn2
 obtain ⟨x0, x1, x2, xf⟩ := N2.out
 obtain ⟨w6, hw6⟩ : ∃ w6, w2.alloc (.cells #[.string op, .string tx, .slice X n k] 25) = w6 := ⟨_, rfl⟩
 rw [hw6] at N2 R2 I2 B2 V2 zn zr x0 x1 x2 xf
 obtain ⟨v0, v1, v2, vf⟩ := V2.out
 have c1 := R2.out.rd.c1
 have HO := hid (Ox.refl w.heap.size w6)
 have FQ := hid (fun w' (h : Ox w.heap.size w6 w') => show w'.cell? ⟨wa.heap.size, 1, none⟩ = some (.int .i64 j) ∧ w'.cell? ⟨w2.heap.size, 0, none⟩ = some (.string op) ∧ w'.cell? ⟨w2.heap.size, 1, none⟩ = some (.string tx) ∧ w'.cell? ⟨w2.heap.size, 2, none⟩ = some (.slice X n k) from
  ⟨(h.2 ⟨wa.heap.size, 1, none⟩ (by simp; omega)).trans c1, (h.2 ⟨w2.heap.size, 0, none⟩ (by simp; omega)).trans v0, (h.2 ⟨w2.heap.size, 1, none⟩ (by simp; omega)).trans v1, (h.2 ⟨w2.heap.size, 2, none⟩ (by simp; omega)).trans v2⟩)
 cases b
 ·go_upto_region 7 with fail
  go_region_held3 (fun w' => (w'.cell? ⟨wa.heap.size, 1, none⟩ = some (.int .i64 j) ∧ w'.cell? ⟨w2.heap.size, 0, none⟩ = some (.string op) ∧ w'.cell? ⟨w2.heap.size, 1, none⟩ = some (.string tx) ∧ w'.cell? ⟨w2.heap.size, 2, none⟩ = some (.slice X n k)) ∧ Ox w.heap.size w6 w')
   (first | assumption | (exact ⟨FQ.out _ HO.out.drew, HO.out.drew⟩) | (exact ⟨FQ.out _ HO.out, HO.out⟩) | (refine (fun hS9 : Ox w.heap.size w6 _ => ⟨FQ.out _ hS9, hS9⟩) (((HO.out.setCell _ rfl _).setCell _ rfl _).setCell _ rfl _).drew))
   (fail)
  go_wp2
  obtain rfl : q = (x, j, 0) := by have := HQ.out; simpa using this.symm
  have Y := N2.out.set (.string op) (.string tx) (.slice X n k)
  have h6 : w6.heap.size = w2.heap.size + 1 := by rw [← hw6]; simp
  exact bodyPost_ret (v := .tuple #[.agg #[.string op, .string tx, .slice X n k], .int .i64 j, .int .i64 0]) (by simp [results, Tryz.results12, go_sem, Y.c0, Y.c1, Y.c2]) rfl
   ⟨op, tx, X, n, k, rfl, RIn.keep (w := W3 w6 w.heap.size (.string op) (.string tx) (.slice X n k)) (w' := (W3 w6 w.heap.size (.string op) (.string tx) (.slice X n k)).drew) (fun g hg => ⟨by have := hg.1; omega, by show g < (W3 w6 w.heap.size (.string op) (.string tx) (.slice X n k)).heap.size; rw [W3.size, h6]; have := hg.2; omega⟩) (fun _ _ => rfl) ((I2.out (by first | exact trivial | rfl)).w3 (g := w.heap.size) (fun hg => Nat.lt_irrefl _ hg.1) _ _ _), (((B2.out.setCell (Nat.le_refl _) _).setCell (Nat.le_refl _) _).setCell (Nat.le_refl _) _).drew⟩
 ·go_upto_region 6 with fail
  go_region_held3 (fun w' => (w'.cell? ⟨wa.heap.size, 1, none⟩ = some (.int .i64 j) ∧ w'.cell? ⟨w2.heap.size, 0, none⟩ = some (.string op) ∧ w'.cell? ⟨w2.heap.size, 1, none⟩ = some (.string tx) ∧ w'.cell? ⟨w2.heap.size, 2, none⟩ = some (.slice X n k)) ∧ Ox w.heap.size w6 w')
   (first | assumption | (exact ⟨FQ.out _ HO.out.drew, HO.out.drew⟩) | (exact ⟨FQ.out _ HO.out, HO.out⟩) | (refine (fun hS9 : Ox w.heap.size w6 _ => ⟨FQ.out _ hS9, hS9⟩) (((HO.out.setCell _ rfl _).setCell _ rfl _).setCell _ rfl _).drew))
   (fail)
  go_wp2
  obtain rfl : q = (zeroN, j, 91) := by have := HQ.out; simpa using this.symm
  have Y := N2.out.set (.string ⟨#[]⟩) (.string ⟨#[]⟩) (.slice none 0 0)
  exact bodyPost_ret (v := .tuple #[.agg #[.string ⟨#[]⟩, .string ⟨#[]⟩, .slice none 0 0], .int .i64 j, .int .i64 91]) (by simp [results, Tryz.results12, go_sem, Y.c0, Y.c1, Y.c2]) rfl
   ⟨⟨#[]⟩, ⟨#[]⟩, none, 0, 0, rfl, RIn.leafN _ _ ⟨#[]⟩ ⟨#[]⟩, (((B2.out.setCell (Nat.le_refl _) _).setCell (Nat.le_refl _) _).setCell (Nat.le_refl _) _).drew⟩
def ReadQE (l : List W) (m : Int) (res : Nod × Nat × Int) : Prop := ∀ A cap w, At wc 3 w w.heap.size A l → Env w.heap.size m w → Calls Tryz.prog 12 #[.slice A l.length cap, .int .i64 0] w (ReadQPost w res)
theorem pparseQ_lex (s : ByteArray) (m : Int) (w : World) (he : Env w.heap.size m w) (j : Int) (hw : WordsE s [] j 81 m) :
  Calls Tryz.prog 8 #[.string s] w (ParseQPost w (zeroN, j, 81)) := by
 have HW := hid hw
 have HE := hid he
 clear hw he
 go_enter Tryz.func8, Tryz.ntmps8
 have N0 := hid (NBox.fresh w (.string ⟨#[]⟩) (.string ⟨#[]⟩) (.slice none 0 0) 25)
 have B0 := hid ((Below.refl w.heap.size w).alloc (Nat.le_refl _) (.cells #[.string ⟨#[]⟩, .string ⟨#[]⟩, .slice none 0 0] 25))
 go_wp2_with fail
 refine (HW.out _ (HE.out.next B0.out)).mono ?_
 rintro e w1 ⟨A, cap, rfl, hat, hb1⟩
 have N1 := hid (N0.out.below hb1)
 have B1 := hid (B0.out.trans (hb1.mono (by simp)))
 have A1 := hid hat
 have H1 := hid ((hb1.block w.heap.size (by simp)).trans (heap_alloc_new w (.cells #[.string ⟨#[]⟩, .string ⟨#[]⟩, .slice none 0 0] 25)))
 have z1 := N1.out.lt
 clear hb1 hat
 obtain ⟨x0, x1, x2, xf⟩ := N1.out
 go_wp2
 have Y := N1.out.set (.string ⟨#[]⟩) (.string ⟨#[]⟩) (.slice none 0 0)
 exact bodyPost_ret (v := .tuple #[.agg #[.string ⟨#[]⟩, .string ⟨#[]⟩, .slice none 0 0], .int .i64 j, .int .i64 81]) (by simp [results, Tryz.results8, go_sem, Y.c0, Y.c1, Y.c2]) rfl
  ⟨⟨#[]⟩, ⟨#[]⟩, none, 0, 0, rfl, RIn.leafN _ _ ⟨#[]⟩ ⟨#[]⟩, ((B1.out.setCell (Nat.le_refl _) _).setCell (Nat.le_refl _) _).setCell (Nat.le_refl _) _⟩
theorem pparseQ_at (s : ByteArray) (m : Int) (w : World) (he : Env w.heap.size m w) (l : List W) (hw : WordsE s l 0 0 m) (x : Nod) (j : Nat) (ee : Int) (hr : ReadQE l m (x, j, ee)) (hj : j < l.length) :
  Calls Tryz.prog 8 #[.string s] w (ParseQPost w (zeroN, placeL s.size l j, 91)) := by
 have hp : placeL s.size l j = l[j].2.2 := by unfold placeL; rw [List.getElem?_eq_getElem hj]
 rw [hp]
 obtain ⟨v, hv⟩ : ∃ v, l[j] = v := ⟨_, rfl⟩
 have HV := hid hv
 rw [hv]
 obtain ⟨vk, vt, p⟩ := v
 dsimp only
 unfold ReadQE at hr
 have HW := hid hw
 have HR := hid hr
 have HE := hid he
 have e1 : decide ((j : Int) < (l.length : Int)) = true := by simp; omega
 have e2 : (j : Int) < (l.length : Int) := by omega
 clear hw hr hp he hv
 go_enter Tryz.func8, Tryz.ntmps8
 have N0 := hid (NBox.fresh w (.string ⟨#[]⟩) (.string ⟨#[]⟩) (.slice none 0 0) 25)
 have B0 := hid ((Below.refl w.heap.size w).alloc (Nat.le_refl _) (.cells #[.string ⟨#[]⟩, .string ⟨#[]⟩, .slice none 0 0] 25))
 go_wp2_with fail
 refine (HW.out _ (HE.out.next B0.out)).mono ?_
 rintro e w1 ⟨A, cap, rfl, hat, hb1⟩
 have N1 := hid (N0.out.below hb1)
 have B1 := hid (B0.out.trans (hb1.mono (by simp)))
 have A1 := hid hat
 have H1 := hid ((hb1.block w.heap.size (by simp)).trans (heap_alloc_new w (.cells #[.string ⟨#[]⟩, .string ⟨#[]⟩, .slice none 0 0] 25)))
 have z1 := N1.out.lt
 clear hb1 hat
 go_wp2_with fail
 refine (HR.out A cap _ A1.out (HE.out.next B1.out)).mono ?_
 rintro e w2 ⟨op, tx, X, n, k, rfl, hn2, hb2⟩
 have N2w := hid (N1.out.below hb2)
 have N2 := hid ((N1.out.below hb2).alloc (.cells #[.string op, .string tx, .slice X n k] 25))
 have B2 := hid ((B1.out.trans (hb2.mono (by omega))).alloc (by have := hb2.size; omega) (.cells #[.string op, .string tx, .slice X n k] 25))
 have A2 := hid (show At wc 3 (w2.alloc (.cells #[.string op, .string tx, .slice X n k] 25)) w2.heap.size A l from (((A1.out.below hb2).more hb2.size).below ((Below.refl _ _).alloc (Nat.le_refl _) (.cells #[.string op, .string tx, .slice X n k] 25))))
 have I2 := hid ((hn2.imp (S' := fun g => w.heap.size < g ∧ g < w2.heap.size) (fun g hg => ⟨by have := hg.1; omega, hg.2⟩)).alloc (fun g hg => hg.2) (.cells #[.string op, .string tx, .slice X n k] 25))
 have V2 := hid (NBox.fresh w2 (.string op) (.string tx) (.slice X n k) 25)
 have z2 := hb2.size
 have znw := N2w.out.lt
 clear hb2 hn2
 obtain ⟨w6, hw6⟩ : ∃ w6, w2.alloc (.cells #[.string op, .string tx, .slice X n k] 25) = w6 := ⟨_, rfl⟩
 have hz6 : w6.heap.size = w2.heap.size + 1 := by rw [← hw6]; simp
 rw [hw6] at N2 B2 A2 I2 V2
 obtain ⟨x0, x1, x2, xf⟩ := N2.out
 obtain ⟨ad, rfl, ha, d0, d1, d2⟩ := at_word A2.out j hj
 rw [HV.out] at d2
 dsimp only at d2
 obtain ⟨q, hq⟩ : ∃ q, ad.add (j * 3) = q := ⟨_, rfl⟩
 have hbn : q.block ≠ w.heap.size := by
  obtain ⟨a1, h1, h2, c0, c1, c2⟩ := at_word A1.out j hj
  obtain rfl : ad = a1 := Option.some.inj h1
  rw [← hq]
  exact node_block_ne H1.out c0
 rw [hq] at d2
 have HO := hid (Ox.refl w.heap.size w6)
 have FQ := hid (fun w' (h : Ox w.heap.size w6 w') => show w'.cell? ⟨q.block, q.off + 2, none⟩ = some (.int .i64 p) from (h.2 ⟨q.block, q.off + 2, none⟩ hbn).trans d2)
 clear d0 d1
 go_upto_region 6 with fail
 try rw [hw6]
 clear hw6
 go_region_held3 (fun w' => (w'.cell? ⟨q.block, q.off + 2, none⟩ = some (.int .i64 p)) ∧ Ox w.heap.size w6 w')
  (first | assumption | (exact ⟨FQ.out _ HO.out.drew, HO.out.drew⟩) | (exact ⟨FQ.out _ HO.out, HO.out⟩) | (refine (fun hS9 : Ox w.heap.size w6 _ => ⟨FQ.out _ hS9, hS9⟩) (((HO.out.setCell _ rfl _).setCell _ rfl _).setCell _ rfl _).drew))
  (fail)
 go_wp2
 have Y := N2.out.set (.string ⟨#[]⟩) (.string ⟨#[]⟩) (.slice none 0 0)
 exact bodyPost_ret (v := .tuple #[.agg #[.string ⟨#[]⟩, .string ⟨#[]⟩, .slice none 0 0], .int .i64 p, .int .i64 91]) (by simp [results, Tryz.results8, go_sem, Y.c0, Y.c1, Y.c2]) rfl
  ⟨⟨#[]⟩, ⟨#[]⟩, none, 0, 0, rfl, RIn.leafN _ _ ⟨#[]⟩ ⟨#[]⟩, (((B2.out.setCell (Nat.le_refl _) _).setCell (Nat.le_refl _) _).setCell (Nat.le_refl _) _).drew⟩
theorem pparseQ_end (s : ByteArray) (m : Int) (w : World) (he : Env w.heap.size m w) (l : List W) (hw : WordsE s l 0 0 m) (x : Nod) (hr : ReadQE l m (x, l.length, 91)) :
  Calls Tryz.prog 8 #[.string s] w (ParseQPost w (zeroN, s.size, 91)) := by
 unfold ReadQE at hr
 have HW := hid hw
 have HR := hid hr
 have HE := hid he
 have e1 : decide ((l.length : Int) < (l.length : Int)) = false := by simp
 clear hw hr he
 go_enter Tryz.func8, Tryz.ntmps8
 have N0 := hid (NBox.fresh w (.string ⟨#[]⟩) (.string ⟨#[]⟩) (.slice none 0 0) 25)
 have B0 := hid ((Below.refl w.heap.size w).alloc (Nat.le_refl _) (.cells #[.string ⟨#[]⟩, .string ⟨#[]⟩, .slice none 0 0] 25))
 go_wp2_with fail
 refine (HW.out _ (HE.out.next B0.out)).mono ?_
 rintro e w1 ⟨A, cap, rfl, hat, hb1⟩
 have N1 := hid (N0.out.below hb1)
 have B1 := hid (B0.out.trans (hb1.mono (by simp)))
 have A1 := hid hat
 have H1 := hid ((hb1.block w.heap.size (by simp)).trans (heap_alloc_new w (.cells #[.string ⟨#[]⟩, .string ⟨#[]⟩, .slice none 0 0] 25)))
 have z1 := N1.out.lt
 clear hb1 hat
 go_wp2_with fail
 refine (HR.out A cap _ A1.out (HE.out.next B1.out)).mono ?_
 rintro e w2 ⟨op, tx, X, n, k, rfl, hn2, hb2⟩
 have N2w := hid (N1.out.below hb2)
 have N2 := hid ((N1.out.below hb2).alloc (.cells #[.string op, .string tx, .slice X n k] 25))
 have B2 := hid ((B1.out.trans (hb2.mono (by omega))).alloc (by have := hb2.size; omega) (.cells #[.string op, .string tx, .slice X n k] 25))
 have A2 := hid (show At wc 3 (w2.alloc (.cells #[.string op, .string tx, .slice X n k] 25)) w2.heap.size A l from (((A1.out.below hb2).more hb2.size).below ((Below.refl _ _).alloc (Nat.le_refl _) (.cells #[.string op, .string tx, .slice X n k] 25))))
 have I2 := hid ((hn2.imp (S' := fun g => w.heap.size < g ∧ g < w2.heap.size) (fun g hg => ⟨by have := hg.1; omega, hg.2⟩)).alloc (fun g hg => hg.2) (.cells #[.string op, .string tx, .slice X n k] 25))
 have V2 := hid (NBox.fresh w2 (.string op) (.string tx) (.slice X n k) 25)
 have z2 := hb2.size
 have znw := N2w.out.lt
 clear hb2 hn2
 obtain ⟨w6, hw6⟩ : ∃ w6, w2.alloc (.cells #[.string op, .string tx, .slice X n k] 25) = w6 := ⟨_, rfl⟩
 have hz6 : w6.heap.size = w2.heap.size + 1 := by rw [← hw6]; simp
 rw [hw6] at N2 B2 A2 I2 V2
 obtain ⟨x0, x1, x2, xf⟩ := N2.out
 have zn := N2.out.lt
 go_upto_region 5 with fail
 try rw [hw6]
 clear hw6
 go_wp2
 have Y := N2.out.set (.string ⟨#[]⟩) (.string ⟨#[]⟩) (.slice none 0 0)
 exact bodyPost_ret (v := .tuple #[.agg #[.string ⟨#[]⟩, .string ⟨#[]⟩, .slice none 0 0], .int .i64 s.size, .int .i64 91]) (by simp [results, Tryz.results8, go_sem, Y.c0, Y.c1, Y.c2]) rfl
  ⟨⟨#[]⟩, ⟨#[]⟩, none, 0, 0, rfl, RIn.leafN _ _ ⟨#[]⟩ ⟨#[]⟩, ((B2.out.setCell (Nat.le_refl _) _).setCell (Nat.le_refl _) _).setCell (Nat.le_refl _) _⟩
theorem pparseQ_deep (s : ByteArray) (m : Int) (w : World) (he : Env w.heap.size m w) (l : List W) (hw : WordsE s l 0 0 m) (x : Nod) (hr : ReadQE l m (x, l.length, 0)) (hd : x.deep ≤ 1000000000) (h16 : 16 < x.deep) :
  Calls Tryz.prog 8 #[.string s] w (ParseQPost w (zeroN, 0, 92)) := by
 unfold ReadQE at hr
 have HW := hid hw
 have HR := hid hr
 have HE := hid he
 have HD := hid (edeepN_any 1000000000 x hd (Nat.le_refl _))
 obtain ⟨d, hdd⟩ : ∃ d, x.deep = d := ⟨_, rfl⟩
 rw [hdd] at HD h16 hd
 have e1 : decide ((l.length : Int) < (l.length : Int)) = false := by simp
 have e2 : decide ((16 : Int) < (d : Int)) = true := by simp; omega
 clear hw hr he hdd
 go_enter Tryz.func8, Tryz.ntmps8
 have N0 := hid (NBox.fresh w (.string ⟨#[]⟩) (.string ⟨#[]⟩) (.slice none 0 0) 25)
 have B0 := hid ((Below.refl w.heap.size w).alloc (Nat.le_refl _) (.cells #[.string ⟨#[]⟩, .string ⟨#[]⟩, .slice none 0 0] 25))
 go_wp2_with fail
 refine (HW.out _ (HE.out.next B0.out)).mono ?_
 rintro e w1 ⟨A, cap, rfl, hat, hb1⟩
 have N1 := hid (N0.out.below hb1)
 have B1 := hid (B0.out.trans (hb1.mono (by simp)))
 have A1 := hid hat
 have H1 := hid ((hb1.block w.heap.size (by simp)).trans (heap_alloc_new w (.cells #[.string ⟨#[]⟩, .string ⟨#[]⟩, .slice none 0 0] 25)))
 have z1 := N1.out.lt
 clear hb1 hat
 go_wp2_with fail
 refine (HR.out A cap _ A1.out (HE.out.next B1.out)).mono ?_
 rintro e w2 ⟨op, tx, X, n, k, rfl, hn2, hb2⟩
 have N2w := hid (N1.out.below hb2)
 have N2 := hid ((N1.out.below hb2).alloc (.cells #[.string op, .string tx, .slice X n k] 25))
 have B2 := hid ((B1.out.trans (hb2.mono (by omega))).alloc (by have := hb2.size; omega) (.cells #[.string op, .string tx, .slice X n k] 25))
 have A2 := hid (show At wc 3 (w2.alloc (.cells #[.string op, .string tx, .slice X n k] 25)) w2.heap.size A l from (((A1.out.below hb2).more hb2.size).below ((Below.refl _ _).alloc (Nat.le_refl _) (.cells #[.string op, .string tx, .slice X n k] 25))))
 have I2 := hid ((hn2.imp (S' := fun g => w.heap.size < g ∧ g < w2.heap.size) (fun g hg => ⟨by have := hg.1; omega, hg.2⟩)).alloc (fun g hg => hg.2) (.cells #[.string op, .string tx, .slice X n k] 25))
 have V2 := hid (NBox.fresh w2 (.string op) (.string tx) (.slice X n k) 25)
 have z2 := hb2.size
 have znw := N2w.out.lt
 clear hb2 hn2
 obtain ⟨w6, hw6⟩ : ∃ w6, w2.alloc (.cells #[.string op, .string tx, .slice X n k] 25) = w6 := ⟨_, rfl⟩
 have hz6 : w6.heap.size = w2.heap.size + 1 := by rw [← hw6]; simp
 rw [hw6] at N2 B2 A2 I2 V2
 obtain ⟨x0, x1, x2, xf⟩ := N2.out
 obtain ⟨v0, v1, v2, vf⟩ := V2.out
 go_upto_region 5 with fail
 try rw [hw6]
 clear hw6
 go_wp2_with fail
 refine (HD.out _ _ _ _ _ _ _ (fun g hg => by have := hg.2; omega) I2.out).mono ?_
 rintro e w3 ⟨rfl, hb3⟩
 have N3 := hid (N2.out.below hb3)
 have V3 := hid (V2.out.below hb3)
 have I3 := hid (I2.out.bel (fun g hg => by have := hg.2; omega) hb3)
 have B3 := hid (B2.out.trans (hb3.mono (by omega)))
 have z3 := N3.out.lt
 have z4 : w2.heap.size < w3.heap.size := V3.out.lt
 clear hb3 x0 x1 x2 xf v0 v1 v2 vf
 obtain ⟨x0, x1, x2, xf⟩ := N3.out
 obtain ⟨v0, v1, v2, vf⟩ := V3.out
 go_wp2
 have Y := N3.out.set (.string ⟨#[]⟩) (.string ⟨#[]⟩) (.slice none 0 0)
 exact bodyPost_ret (v := .tuple #[.agg #[.string ⟨#[]⟩, .string ⟨#[]⟩, .slice none 0 0], .int .i64 0, .int .i64 92]) (by simp [results, Tryz.results8, go_sem, Y.c0, Y.c1, Y.c2]) rfl
  ⟨⟨#[]⟩, ⟨#[]⟩, none, 0, 0, rfl, RIn.leafN _ _ ⟨#[]⟩ ⟨#[]⟩, ((B3.out.setCell (Nat.le_refl _) _).setCell (Nat.le_refl _) _).setCell (Nat.le_refl _) _⟩
theorem pparseQ_ok (s : ByteArray) (m : Int) (w : World) (he : Env w.heap.size m w) (l : List W) (hw : WordsE s l 0 0 m) (x : Nod) (hr : ReadQE l m (x, l.length, 0)) (hd : x.deep ≤ 1000000000) (h16 : x.deep ≤ 16) :
  Calls Tryz.prog 8 #[.string s] w (ParseQPost w (x, 0, 0)) := by
 unfold ReadQE at hr
 have HW := hid hw
 have HR := hid hr
 have HE := hid he
 have HD := hid (edeepN_any 1000000000 x hd (Nat.le_refl _))
 obtain ⟨d, hdd⟩ : ∃ d, x.deep = d := ⟨_, rfl⟩
 rw [hdd] at HD h16 hd
 have e1 : decide ((l.length : Int) < (l.length : Int)) = false := by simp
 have e2 : decide ((16 : Int) < (d : Int)) = false := by simp; omega
 clear hw hr he hdd
 go_enter Tryz.func8, Tryz.ntmps8
 have N0 := hid (NBox.fresh w (.string ⟨#[]⟩) (.string ⟨#[]⟩) (.slice none 0 0) 25)
 have B0 := hid ((Below.refl w.heap.size w).alloc (Nat.le_refl _) (.cells #[.string ⟨#[]⟩, .string ⟨#[]⟩, .slice none 0 0] 25))
 go_wp2_with fail
 refine (HW.out _ (HE.out.next B0.out)).mono ?_
 rintro e w1 ⟨A, cap, rfl, hat, hb1⟩
 have N1 := hid (N0.out.below hb1)
 have B1 := hid (B0.out.trans (hb1.mono (by simp)))
 have A1 := hid hat
 have H1 := hid ((hb1.block w.heap.size (by simp)).trans (heap_alloc_new w (.cells #[.string ⟨#[]⟩, .string ⟨#[]⟩, .slice none 0 0] 25)))
 have z1 := N1.out.lt
 clear hb1 hat
 go_wp2_with fail
 refine (HR.out A cap _ A1.out (HE.out.next B1.out)).mono ?_
 rintro e w2 ⟨op, tx, X, n, k, rfl, hn2, hb2⟩
 have N2w := hid (N1.out.below hb2)
 have N2 := hid ((N1.out.below hb2).alloc (.cells #[.string op, .string tx, .slice X n k] 25))
 have B2 := hid ((B1.out.trans (hb2.mono (by omega))).alloc (by have := hb2.size; omega) (.cells #[.string op, .string tx, .slice X n k] 25))
 have A2 := hid (show At wc 3 (w2.alloc (.cells #[.string op, .string tx, .slice X n k] 25)) w2.heap.size A l from (((A1.out.below hb2).more hb2.size).below ((Below.refl _ _).alloc (Nat.le_refl _) (.cells #[.string op, .string tx, .slice X n k] 25))))
 have I2 := hid ((hn2.imp (S' := fun g => w.heap.size < g ∧ g < w2.heap.size) (fun g hg => ⟨by have := hg.1; omega, hg.2⟩)).alloc (fun g hg => hg.2) (.cells #[.string op, .string tx, .slice X n k] 25))
 have V2 := hid (NBox.fresh w2 (.string op) (.string tx) (.slice X n k) 25)
 have z2 := hb2.size
 have znw := N2w.out.lt
 clear hb2 hn2
 obtain ⟨w6, hw6⟩ : ∃ w6, w2.alloc (.cells #[.string op, .string tx, .slice X n k] 25) = w6 := ⟨_, rfl⟩
 have hz6 : w6.heap.size = w2.heap.size + 1 := by rw [← hw6]; simp
 rw [hw6] at N2 B2 A2 I2 V2
 obtain ⟨x0, x1, x2, xf⟩ := N2.out
 obtain ⟨v0, v1, v2, vf⟩ := V2.out
 go_upto_region 5 with fail
 try rw [hw6]
 clear hw6
 go_wp2_with fail
 refine (HD.out _ _ _ _ _ _ _ (fun g hg => by have := hg.2; omega) I2.out).mono ?_
 rintro e w3 ⟨rfl, hb3⟩
 have N3 := hid (N2.out.below hb3)
 have V3 := hid (V2.out.below hb3)
 have I3 := hid (I2.out.bel (fun g hg => by have := hg.2; omega) hb3)
 have B3 := hid (B2.out.trans (hb3.mono (by omega)))
 have z3 := N3.out.lt
 have z4 : w2.heap.size < w3.heap.size := V3.out.lt
 clear hb3 x0 x1 x2 xf v0 v1 v2 vf
 obtain ⟨x0, x1, x2, xf⟩ := N3.out
 obtain ⟨v0, v1, v2, vf⟩ := V3.out
 go_wp2
 have Y := N3.out.set (.string op) (.string tx) (.slice X n k)
 exact bodyPost_ret (v := .tuple #[.agg #[.string op, .string tx, .slice X n k], .int .i64 0, .int .i64 0]) (by simp [results, Tryz.results8, go_sem, Y.c0, Y.c1, Y.c2]) rfl
  ⟨op, tx, X, n, k, rfl, (RIn.w3 (g := w.heap.size) I3.out (fun hg => Nat.lt_irrefl _ hg.1) (.string op) (.string tx) (.slice X n k)).imp (fun g hg => ⟨Nat.le_of_lt hg.1, by show g < (W3 w3 w.heap.size (.string op) (.string tx) (.slice X n k)).heap.size; rw [W3.size]; have := hg.2; omega⟩), ((B3.out.setCell (Nat.le_refl _) _).setCell (Nat.le_refl _) _).setCell (Nat.le_refl _) _⟩
theorem preadQ_none (A : Option Addr) (cap : Nat) (w : World) : Calls Tryz.prog 12 #[.slice A 0 cap, .int .i64 0] w (ReadQPost w (zeroN, 0, 91)) := by
 refine (preadQ_out A cap 0 0 w (Or.inr (Int.le_refl _))).mono fun e w' hp => ?_
 exact ⟨⟨#[]⟩, ⟨#[]⟩, none, 0, 0, hp.1, RIn.leafN _ _ ⟨#[]⟩ ⟨#[]⟩, hp.2⟩
theorem pparseQ_any (s : ByteArray) (hs : s.size ≤ 1000000) (m : Int) (w : World) (he : Env w.heap.size m w) :
  Calls Tryz.prog 8 #[.string s] w (ParseQPost w (parseQ s.data.toList)) := by
 have hw := words_e s m (by omega)
 have hL := bytes_len s
 unfold parseQ
 cases e : wordsL s.data.toList 0 with
 | error j =>
  have h1 : wL s.data.toList = [] := by unfold wL; rw [e]
  have h2 : wP s.data.toList = j := by unfold wP; rw [e]
  have h3 : wE s.data.toList = 81 := by unfold wE; rw [e]
  rw [h1, h2, h3] at hw
  exact pparseQ_lex s m w he j hw
 | ok l =>
  have h1 : wL s.data.toList = l := by unfold wL; rw [e]
  have h2 : wP s.data.toList = 0 := by unfold wP; rw [e]
  have h3 : wE s.data.toList = 0 := by unfold wE; rw [e]
  rw [h1, h2, h3] at hw
  have hlen := words_len _ _ _ e
  have hl : l.length ≤ 1000000 := by omega
  have hgood : Good l := ⟨by omega, words_came _ _ _ e, came_short (words_came _ _ _ e)⟩
  show Calls Tryz.prog 8 #[.string s] w (ParseQPost w (parseQW s.data.toList.length l))
  rw [hL]
  by_cases hl0 : l = []
  ·subst hl0
   exact pparseQ_end s m w he [] hw zeroN (fun A cap w _ _ => preadQ_none A cap w)
  ·have hpos : 0 < l.length := List.length_pos_iff.2 hl0
   obtain ⟨R, hx⟩ : ∃ R, fromQ (Code.bare l) 0 = R := ⟨_, rfl⟩
   obtain ⟨x, j, b⟩ := R
   have htop : topQ (Code.bare l) = (x, j, b) := hx
   have hrd : readQ l 0 = if b = true then (zeroN, j, 91) else (x, j, 0) := by unfold readQ; rw [hx]
   have hr : ReadQE l m (readQ l 0) := fun A cap w h he => preadQ_any A cap l 0 m w h hgood he hpos
   rw [hrd] at hr
   have hj : j ≤ l.length := by have := topQ_le (Code.bare l); rw [htop, bare_length] at this; exact this
   have hd : x.deep ≤ 1 + l.length := by have := topQ_deep (Code.bare l); rw [htop, bare_length] at this; exact this
   unfold parseQW
   rw [if_neg hl0, htop]
   by_cases hjl : j < l.length
   ·rw [if_pos (Or.inr hjl)]
    cases b
    ·exact pparseQ_at s m w he l hw x j 0 hr hjl
    ·exact pparseQ_at s m w he l hw zeroN j 91 hr hjl
   ·obtain rfl : j = l.length := by omega
    cases b
    ·rw [if_neg (by simp)]
     by_cases h16 : 16 < x.deep
     ·rw [if_pos h16]
      exact pparseQ_deep s m w he l hw x hr (by omega) h16
     ·rw [if_neg h16]
      exact pparseQ_ok s m w he l hw x hr (by omega) (by omega)
    ·rw [if_pos (Or.inl rfl)]
     have hp : placeL s.size l l.length = s.size := by unfold placeL; rw [List.getElem?_eq_none (Nat.le_refl _)]
     show Calls _ _ _ _ (ParseQPost w (zeroN, placeL s.size l l.length, 91))
     rw [hp]
     exact pparseQ_end s m w he l hw zeroN hr
theorem info_strQ : (Tryz.prog.info? 9).map (fun i => (i.zero, i.size, i.bytes)) = some (some (.string ByteArray.empty), 1, 16) := by kernel_rfl
theorem leavess_take (l : List Nod) (k : Nat) : (leavessQ (l.take k)).length ≤ (leavessQ l).length := by
 induction l generalizing k with
 | nil => simp [leavessQ]
 | cons n l ih =>
  cases k with
  | zero => simp [leavessQ]
  | succ k =>
   have := ih k
   simp only [List.take_succ_cons, leavessQ, List.length_append]
   omega
theorem leaves_is (t : Nod) : leavesQ t = (if t.op = sFrom then [t.tx] else []) ++ leavessQ t.ks := by
 cases t with
 | mk o x ks => exact leavesQ.eq_1 o x ks
theorem leavess_mem {x : Nod} : ∀ {l : List Nod}, x ∈ l → (leavesQ x).length ≤ (leavessQ l).length
 | [], h => absurd h (by simp)
 | t :: l, h => by
  simp only [leavessQ, List.length_append]
  rcases List.mem_cons.1 h with rfl | h
  ·omega
  ·have := leavess_mem h
   omega
theorem pleaves_any : ∀ (d : Nat) (t : Nod), t.deep ≤ d → ∀ (S : Nat → Prop) (op tx : ByteArray) (X : Option Addr) (n m : Nat) (w : World) (B : Nat), B ≤ w.heap.size → ∀ (Q : List (List UInt8)) (v : Value), w.ownsRow B 9 1 v Q.length (flatC sc Q) → (∀ g, S g → g < B) → RIn w S t (op, tx, X, n, m) → Q.length + (leavesQ t).length ≤ 100000000 →
  Calls Tryz.prog 38 #[v, .agg #[.string op, .string tx, .slice X n m]] w fun e w' => ∃ v', e = .returned v' ∧ w'.ownsRow B 9 1 v' (Q ++ leavesQ t).length (flatC sc (Q ++ leavesQ t)) ∧ Below B w w'
 | 0, t, h, _, _, _, _, _, _, _, _, _, _, _, _, _, _, _ => absurd h (by rw [deep_ks]; omega)
 | d + 1, t, h, S, op, tx, X, n, m, w, B, hBw, Q, v, hv, hS, hn, hln => by
  have hlv := leaves_is t
  have ih := hid (fun k (hk : k < t.ks.length) => pleaves_any d t.ks[k] (by have := deepL_mem (List.getElem_mem hk); rw [deep_ks] at h; omega))
  have ihl := hid (fun k (hk : k < t.ks.length) => (leavess_mem (List.getElem_mem hk) : (leavesQ t.ks[k]).length ≤ (leavessQ t.ks).length))
  obtain ⟨eo, et, en, hkl⟩ := hn.texts
  dsimp only at eo et en
  obtain ⟨i0, hi0, hz0, hz1, hz2⟩ := info_parts info_strQ
  obtain ⟨P0, hP0⟩ : ∃ P0, Q ++ (if t.op = sFrom then [t.tx] else []) = P0 := ⟨_, rfl⟩
  have hlv2 : Q ++ leavesQ t = P0 ++ leavessQ t.ks := by rw [hlv, ← List.append_assoc, hP0]
  have HS := hid hS
  have HLV := hid hlv2
  have HLN := hid (show P0.length + (leavessQ t.ks).length ≤ 100000000 by rw [← List.length_append, ← hlv2, List.length_append]; exact hln)
  subst en
  have HN := hid hn
  have HV := hid hv
  obtain ⟨w0, hw0⟩ : ∃ w0, w.alloc (.cells #[.string op, .string tx, .slice X t.ks.length m] 25) = w0 := ⟨_, rfl⟩
  have N0 := hid (show NBox w0 w.heap.size (.string op) (.string tx) (.slice X t.ks.length m) by rw [← hw0]; exact NBox.fresh _ _ _ _ _)
  have B0 := hid (show Below B w w0 by rw [← hw0]; exact (Below.refl _ _).alloc hBw _)
  have O0 := hid (show w0.ownsRow B 9 1 v Q.length (flatC sc Q) by rw [← hw0]; exact own_call hv (below_alloc _ _))
  have zw0 : w0.heap.size = w.heap.size + 1 := by rw [← hw0]; simp
  have HW0 := hid hw0
  by_cases hf : t.op = sFrom
  ·rw [if_pos hf] at hP0
   have ho : op = ⟨#[102, 114, 111, 109]⟩ := by rw [eo, hf]; rfl
   subst ho
   have HP0 := hid (show P0.length = Q.length + 1 by rw [← hP0]; simp)
   have HPQ := hid hP0
   have HT := hid et
   have hqs : Q.length ≤ 100000000 := by omega
   clear h hln hS hn hlv hlv2 hP0 eo et hf hw0 hv
   go_enter Tryz.func38, Tryz.ntmps38
   go_wp2_with (at_builtin; rw [HW0.out]; refine wpList_append_lies _ rfl _ _ _ rfl B 9 i0 _ 1 16 Tryz.underlying42 hi0 hz0 hz1 hz2 rfl (by omega) _ Q.length (flatC sc Q) rfl ?ca ⟨w.heap.size + 1, 0, none⟩ 1 1 [.string tx] rfl rfl ?cn ?co (by omega) ?cm ?cb ?cz9 (w.heap.size + 1 + 1) ?ch ?_)
   case ca => exact own_call O0.out (below_alloc _ _)
   case cn => exact World.news_of_block (cs := #[.string tx]) (t := 9) (fr := (0, 0)) (by rw [← zw0]; exact heap_alloc_new w0 _)
   case co =>
    intro u hu
    simp at hu
    subst hu
    rfl
   case cm => unfold maxLen; omega
   case cb => omega
   case cz9 => simp; omega
   case ch => simp [zw0]
   intro gg cap9 w9 hown9 hgrow hat hlt9
   have hrow : ∀ k, v.ownBlock = some k → B ≤ k := fun k e => (O0.out.lt k e).1
   have B1 := hid (show Below B w w9 from B0.out.trans (((Below.refl B w0).alloc (by omega) _).trans ⟨hgrow.os, hgrow.tape, hgrow.output, hgrow.size, fun j hj => hgrow.block j (by simp; omega) (fun e => by have := hrow j e.symm; omega)⟩))
   have Z1 : w.heap.size < w9.heap.size := by have := hgrow.size; simp at this; omega
   have N1 := hid ((N0.out.alloc (.cells #[.string tx] 9)).grown hgrow (fun e => by have := (HV.out.lt _ e).2; omega))
   have O1 := hid (show w9.ownsRow B 9 1 (.slice (some ⟨gg, 0, none⟩) (Q.length + 1) cap9) (P0 ++ leavessQ (t.ks.take 0)).length (flatC sc (P0 ++ leavessQ (t.ks.take 0))) by
    have e : P0 ++ leavessQ (t.ks.take 0) = Q ++ [t.tx] := by simp [leavessQ, HPQ.out]
    rw [e, flatC_append]
    have e2 : flatC sc [t.tx] = [.string tx] := by simp [flatC, sc, ← HT.out]
    rw [e2, List.length_append]
    exact hown9)
   clear hown9 hgrow hat hlt9 HW0 hrow
   obtain ⟨x0, x1, x2, xf⟩ := N1.out
   go_wp2
   go_loopw [0, 18] (fun v t' wr => ∃ (k : Nat), k ≤ t.ks.length ∧ t' = .int .i64 k ∧ wr.ownsRow B 9 1 v (P0 ++ leavessQ (t.ks.take k)).length (flatC sc (P0 ++ leavessQ (t.ks.take k))) ∧ Below B w wr ∧ w.heap.size < wr.heap.size) (fun _ t' _ => t.ks.length - (intOf t').toNat)
   case atStart => exact ⟨0, by omega, rfl, O1.out, B1.out, Z1⟩
   case round =>
    obtain ⟨k, hk, rfl, hown, hb, hz⟩ := hrel
    have HB := hid hb
    have HO := hid hown
    have HK := hid (HN.out.keep (w' := wr) (fun _ h => h) (fun p hp => hb.cell (HS.out _ hp)))
    clear hb hown
    by_cases hlt : k < t.ks.length
    ·obtain ⟨ad, ⟨op', tx', X', n', m'⟩, eA, hS', q0, q1, q2, hk'⟩ := HK.out.kid k hlt
     dsimp only at eA q0 q1 q2
     subst eA
     have had := HS.out _ hS'
     have HDT := hid (leavessQ_take t.ks k hlt)
     have hb1 : (P0 ++ leavessQ (t.ks.take k)).length + (leavesQ t.ks[k]).length ≤ 100000000 := by
      have h1 := leavess_take t.ks (k + 1)
      rw [leavessQ_take t.ks k hlt, List.length_append] at h1
      have := HLN.out
      rw [List.length_append]
      omega
     obtain ⟨Q0, hQ0⟩ : ∃ Q0, P0 ++ leavessQ (t.ks.take k) = Q0 := ⟨_, rfl⟩
     rw [hQ0] at hb1 HO
     have HQ0 := hid hQ0
     obtain ⟨Y, hY⟩ : ∃ Y, leavesQ t.ks[k] = Y := ⟨_, rfl⟩
     obtain ⟨w6, hw6⟩ : ∃ w6, wr.alloc (.cells #[.string op', .string tx', .slice X' n' m'] 25) = w6 := ⟨_, rfl⟩
     have z6 : w6.heap.size = wr.heap.size + 1 := by rw [← hw6]; simp
     have HI := hid (fun v (hv : w6.ownsRow B 9 1 v Q0.length (flatC sc Q0)) => ih.out k hlt S op' tx' X' n' m' w6 B (by omega) Q0 v hv HS.out (hk'.keep (w' := w6) (fun _ h => h) (fun p hp => by rw [← hw6]; exact (below_alloc wr _).cell (by have := HS.out _ hp; omega))) hb1)
     rw [hY] at hb1 HI HDT
     have O6 := hid (show w6.ownsRow B 9 1 _ Q0.length (flatC sc Q0) by rw [← hw6]; exact own_call HO.out (below_alloc _ _))
     have B6 := hid (show Below B w w6 by rw [← hw6]; exact HB.out.alloc (by omega) _)
     have V6 := hid (NBox.fresh wr (.string op') (.string tx') (.slice X' n' m') 25)
     rw [hw6] at V6
     have HW6 := hid hw6
     clear hk' hQ0 hY hw6
     go_upto_region 6 with fail
     rw [HW6.out]
     clear q0 q1 q2
     obtain ⟨v0, v1, v2, vf⟩ := V6.out
     go_wp2_with fail
     refine (HI.out _ O6.out).mono ?_
     rintro e w7 ⟨v7, rfl, ho7, hb7⟩
     have O7 := hid (show w7.ownsRow B 9 1 v7 (P0 ++ leavessQ (t.ks.take (k + 1))).length (flatC sc (P0 ++ leavessQ (t.ks.take (k + 1)))) by
      rw [HDT.out, ← List.append_assoc, HQ0.out]
      exact ho7)
     have B7 := hid (B6.out.trans hb7)
     have z7 : w.heap.size < w7.heap.size := by have := hb7.size; omega
     clear ho7 hb7 v0 v1 v2 vf HI
     go_wp2
     go_roundw
     case rel => exact ⟨k + 1, by omega, by go_num, O7.out, B7.out, z7⟩
     case measure => simp [intOf]; omega
    ·obtain rfl : k = t.ks.length := by omega
     rw [List.take_length] at HO
     go_wp2
     go_ret
     exact ⟨_, rfl, by rw [HLV.out]; exact HO.out, HB.out⟩
  ·rw [if_neg hf, List.append_nil] at hP0
   have hne : op ≠ ⟨#[102, 114, 111, 109]⟩ := fun e => hf (by have h9 := eo; rw [e] at h9; have := congrArg (fun b => b.data.toList) h9; exact this.symm)
   have f2 : (op.toList == [102, 114, 111, 109]) = false := by
    have h := toList_ne hne
    rw [ByteArray.toList_eq ⟨#[102, 114, 111, 109]⟩] at h
    exact h
   have HP0 := hid (show Q.length ≤ P0.length by rw [← hP0]; exact Nat.le_refl _)
   have B1 := B0
   have Z1 : w.heap.size < w0.heap.size := by omega
   have O1 := hid (show w0.ownsRow B 9 1 v (P0 ++ leavessQ (t.ks.take 0)).length (flatC sc (P0 ++ leavessQ (t.ks.take 0))) by
    have e : P0 ++ leavessQ (t.ks.take 0) = Q := by simp [leavessQ, ← hP0]
    rw [e]
    exact O0.out)
   clear h hln hS hn hlv hlv2 hP0 eo et hf hw0 hv hne
   go_enter Tryz.func38, Tryz.ntmps38
   go_upto_region 3 with fail
   try rw [HW0.out]
   obtain ⟨x0, x1, x2, xf⟩ := N0.out
   go_wp2
   go_loopw [0, 18] (fun v t' wr => ∃ (k : Nat), k ≤ t.ks.length ∧ t' = .int .i64 k ∧ wr.ownsRow B 9 1 v (P0 ++ leavessQ (t.ks.take k)).length (flatC sc (P0 ++ leavessQ (t.ks.take k))) ∧ Below B w wr ∧ w.heap.size < wr.heap.size) (fun _ t' _ => t.ks.length - (intOf t').toNat)
   case atStart => exact ⟨0, by omega, rfl, O1.out, B1.out, Z1⟩
   case round =>
    obtain ⟨k, hk, rfl, hown, hb, hz⟩ := hrel
    have HB := hid hb
    have HO := hid hown
    have HK := hid (HN.out.keep (w' := wr) (fun _ h => h) (fun p hp => hb.cell (HS.out _ hp)))
    clear hb hown
    by_cases hlt : k < t.ks.length
    ·obtain ⟨ad, ⟨op', tx', X', n', m'⟩, eA, hS', q0, q1, q2, hk'⟩ := HK.out.kid k hlt
     dsimp only at eA q0 q1 q2
     subst eA
     have had := HS.out _ hS'
     have HDT := hid (leavessQ_take t.ks k hlt)
     have hb1 : (P0 ++ leavessQ (t.ks.take k)).length + (leavesQ t.ks[k]).length ≤ 100000000 := by
      have h1 := leavess_take t.ks (k + 1)
      rw [leavessQ_take t.ks k hlt, List.length_append] at h1
      have := HLN.out
      rw [List.length_append]
      omega
     obtain ⟨Q0, hQ0⟩ : ∃ Q0, P0 ++ leavessQ (t.ks.take k) = Q0 := ⟨_, rfl⟩
     rw [hQ0] at hb1 HO
     have HQ0 := hid hQ0
     obtain ⟨Y, hY⟩ : ∃ Y, leavesQ t.ks[k] = Y := ⟨_, rfl⟩
     obtain ⟨w6, hw6⟩ : ∃ w6, wr.alloc (.cells #[.string op', .string tx', .slice X' n' m'] 25) = w6 := ⟨_, rfl⟩
     have z6 : w6.heap.size = wr.heap.size + 1 := by rw [← hw6]; simp
     have HI := hid (fun v (hv : w6.ownsRow B 9 1 v Q0.length (flatC sc Q0)) => ih.out k hlt S op' tx' X' n' m' w6 B (by omega) Q0 v hv HS.out (hk'.keep (w' := w6) (fun _ h => h) (fun p hp => by rw [← hw6]; exact (below_alloc wr _).cell (by have := HS.out _ hp; omega))) hb1)
     rw [hY] at hb1 HI HDT
     have O6 := hid (show w6.ownsRow B 9 1 _ Q0.length (flatC sc Q0) by rw [← hw6]; exact own_call HO.out (below_alloc _ _))
     have B6 := hid (show Below B w w6 by rw [← hw6]; exact HB.out.alloc (by omega) _)
     have V6 := hid (NBox.fresh wr (.string op') (.string tx') (.slice X' n' m') 25)
     rw [hw6] at V6
     have HW6 := hid hw6
     clear hk' hQ0 hY hw6
     go_upto_region 6 with fail
     rw [HW6.out]
     clear q0 q1 q2
     obtain ⟨v0, v1, v2, vf⟩ := V6.out
     go_wp2_with fail
     refine (HI.out _ O6.out).mono ?_
     rintro e w7 ⟨v7, rfl, ho7, hb7⟩
     have O7 := hid (show w7.ownsRow B 9 1 v7 (P0 ++ leavessQ (t.ks.take (k + 1))).length (flatC sc (P0 ++ leavessQ (t.ks.take (k + 1)))) by
      rw [HDT.out, ← List.append_assoc, HQ0.out]
      exact ho7)
     have B7 := hid (B6.out.trans hb7)
     have z7 : w.heap.size < w7.heap.size := by have := hb7.size; omega
     clear ho7 hb7 v0 v1 v2 vf HI
     go_wp2
     go_roundw
     case rel => exact ⟨k + 1, by omega, by go_num, O7.out, B7.out, z7⟩
     case measure => simp [intOf]; omega
    ·obtain rfl : k = t.ks.length := by omega
     rw [List.take_length] at HO
     go_wp2
     go_ret
     exact ⟨_, rfl, by rw [HLV.out]; exact HO.out, HB.out⟩
theorem pLeaves_any (t : Nod) (S : Nat → Prop) (op tx : ByteArray) (X : Option Addr) (n m : Nat) (w : World) (hS : ∀ g, S g → g < w.heap.size) (hn : RIn w S t (op, tx, X, n, m)) (hln : (leavesQ t).length ≤ 100000000) :
  Calls Tryz.prog 19 #[.agg #[.string op, .string tx, .slice X n m]] w fun e w' => ∃ (A : Option Addr) (cap : Nat), e = .returned (.slice A (leavesQ t).length cap) ∧ At sc 1 w' w'.heap.size A (leavesQ t) ∧ Below w.heap.size w w' := by
 have HL := hid (fun w0 (hb : Below w.heap.size w w0) (hw : w.heap.size ≤ w0.heap.size) => pleaves_any t.deep t (Nat.le_refl _) S op tx X n m w0 w.heap.size hw [] (.slice none 0 0) (World.ownsRow_nil _ _ _ _) hS (hn.bel hS hb) (by simpa using hln))
 clear hn hS
 go_enter Tryz.func19, Tryz.ntmps19
 obtain ⟨w0, hw0⟩ : ∃ w0, w.alloc (.cells #[.string op, .string tx, .slice X n m] 25) = w0 := ⟨_, rfl⟩
 have N0 := hid (show NBox w0 w.heap.size (.string op) (.string tx) (.slice X n m) by rw [← hw0]; exact NBox.fresh _ _ _ _ _)
 have B0 := hid (show Below w.heap.size w w0 by rw [← hw0]; exact below_alloc _ _)
 have HW0 := hid hw0
 clear hw0
 obtain ⟨x0, x1, x2, xf⟩ := N0.out
 go_wp2_with fail
 try rw [HW0.out]
 refine (HL.out _ B0.out B0.out.size).mono ?_
 rintro e w1 ⟨v', rfl, ho, hb⟩
 rw [List.nil_append] at ho
 obtain ⟨A', cap', rfl, hv'⟩ := own_at sc_length ho
 have L1 := hid (B0.out.trans hb)
 have HV := hid hv'
 clear ho hb hv' x0 x1 x2 xf
 obtain ⟨N, hN⟩ : ∃ N, (leavesQ t).length = N := ⟨_, rfl⟩
 have HNN := hid hN
 rw [hN]
 go_wp2
 go_ret
 exact ⟨A', cap', congrArg (fun n9 => Ending.returned (.slice A' n9 cap')) HNN.out.symm, HV.out, L1.out⟩
theorem aliveQ_tot : aliveQT.tot ≤ 100000 := by decide +kernel
theorem aliveQ_bytes : (⟨aliveQS.toArray⟩ : ByteArray) = ⟨#[103, 114, 111, 117, 112, 40, 106, 111, 105, 110, 40, 116, 44, 32, 102, 105, 108, 116, 101, 114, 40, 117, 44, 32, 97, 32, 60, 32, 51, 41, 44, 32, 97, 32, 61, 32, 98, 41, 44, 32, 98, 121, 32, 97, 32, 98, 44, 32, 110, 32, 61, 32, 99, 111, 117, 110, 116, 40, 41, 44, 32, 109, 32, 61, 32, 109, 97, 120, 40, 99, 41, 41]⟩ := rfl
theorem qalive_any (m : Int) (w : World) (he : Env w.heap.size m w) : Calls Tryz.prog 7 #[] w fun e w' => e = .returned (.bool true) ∧ Below w.heap.size w w' := by
 have H1 := hid (fun (w0 : World) (hb : Below w.heap.size w w0) => (show Calls Tryz.prog 8 #[.string ⟨#[103, 114, 111, 117, 112, 40, 106, 111, 105, 110, 40, 116, 44, 32, 102, 105, 108, 116, 101, 114, 40, 117, 44, 32, 97, 32, 60, 32, 51, 41, 44, 32, 97, 32, 61, 32, 98, 41, 44, 32, 98, 121, 32, 97, 32, 98, 44, 32, 110, 32, 61, 32, 99, 111, 117, 110, 116, 40, 41, 44, 32, 109, 32, 61, 32, 109, 97, 120, 40, 99, 41, 41]⟩] w0 (ParseQPost w0 (aliveQT, 0, 0)) by
  have h := pparseQ_any ⟨aliveQS.toArray⟩ (by decide) m w0 (he.next hb)
  rw [show (⟨aliveQS.toArray⟩ : ByteArray).data.toList = aliveQS from rfl, aliveQ_1, aliveQ_bytes] at h
  exact h))
 have H2 := hid (fun (w0 : World) (hb : Below w.heap.size w w0) => (show Calls Tryz.prog 8 #[.string ⟨#[112, 114, 111, 106, 101, 99, 116, 40, 116, 41]⟩] w0 (ParseQPost w0 (zeroN, 9, 91)) by
  have h := pparseQ_any ⟨#[112, 114, 111, 106, 101, 99, 116, 40, 116, 41]⟩ (by decide) m w0 (he.next hb)
  rw [show (⟨#[112, 114, 111, 106, 101, 99, 116, 40, 116, 41]⟩ : ByteArray).data.toList = [112, 114, 111, 106, 101, 99, 116, 40, 116, 41] from rfl, aliveQ_2] at h
  exact h))
 have HL := hid (fun (S : Nat → Prop) (op tx : ByteArray) (X : Option Addr) (n k : Nat) (w0 : World) (hS : ∀ g, S g → g < w0.heap.size) (hn : RIn w0 S aliveQT (op, tx, X, n, k)) => (show Calls Tryz.prog 19 #[.agg #[.string op, .string tx, .slice X n k]] w0 (fun e w' => ∃ (A : Option Addr) (cap : Nat), e = .returned (.slice A 2 cap) ∧ At sc 1 w' w'.heap.size A [[116], [117]] ∧ Below w0.heap.size w0 w') by
  have h := pLeaves_any aliveQT S op tx X n k w0 hS hn (by rw [aliveQ_leaves]; decide)
  rw [aliveQ_leaves] at h
  exact h))
 have HSH := hid (fun (S : Nat → Prop) (op tx : ByteArray) (X : Option Addr) (n k : Nat) (w0 : World) (hb : Below w.heap.size w w0) (hS : ∀ g, S g → g < w0.heap.size) (hn : RIn w0 S aliveQT (op, tx, X, n, k)) => (show Calls Tryz.prog 16 #[.agg #[.string op, .string tx, .slice X n k]] w0 (fun e w' => e = .returned (.string ⟨#[103, 114, 111, 117, 112, 40, 106, 111, 105, 110, 40, 116, 44, 32, 102, 105, 108, 116, 101, 114, 40, 117, 44, 32, 97, 32, 60, 32, 51, 41, 44, 32, 97, 32, 61, 32, 98, 41, 44, 32, 98, 121, 32, 97, 32, 98, 44, 32, 110, 32, 61, 32, 99, 111, 117, 110, 116, 40, 41, 44, 32, 109, 32, 61, 32, 109, 97, 120, 40, 99, 41, 41]⟩) ∧ Below w0.heap.size w0 w') by
  have h := pShow_of aliveQT alive_exprs aliveQ_tot (by rw [aliveQ_show]; decide) m S op tx X n k w0 (he.next hb) hS hn
  rw [aliveQ_show, aliveQ_bytes] at h
  exact h))
 clear he
 go_enter Tryz.func7, Tryz.ntmps7
 go_wp2_with fail
 refine (H1.out _ (Below.refl _ _)).mono ?_
 rintro e w1 ⟨op, tx, X, n, k, rfl, hn1, hb1⟩
 have z1 := hb1.size
 obtain ⟨W1, hW1⟩ : ∃ W1, w1.alloc (.cells #[.string op, .string tx, .slice X n k] 25) = W1 := ⟨_, rfl⟩
 have zW1 : W1.heap.size = w1.heap.size + 1 := by rw [← hW1]; simp
 have L1 := hid (show Below w.heap.size w W1 by rw [← hW1]; exact hb1.alloc z1 _)
 have I1 := hid (show RIn W1 (fun g => g < w1.heap.size) aliveQT (op, tx, X, n, k) by rw [← hW1]; exact (hn1.imp (S' := fun g => g < w1.heap.size) (fun g hg => hg.2)).alloc (fun g hg => hg) _)
 have V1 := hid (show NBox W1 w1.heap.size (.string op) (.string tx) (.slice X n k) by rw [← hW1]; exact NBox.fresh _ _ _ _ _)
 have ZW1 := hid zW1
 have HW1 := hid hW1
 clear hb1 hn1 hW1 zW1
 go_upto_region 3 with fail
 rw [HW1.out]
 go_wp2_with fail
 refine (H2.out _ L1.out).mono ?_
 rintro e w2 ⟨op2, tx2, X2, n2, k2, rfl, hn2, hb2⟩
 have z2 : w1.heap.size < w2.heap.size := by have := hb2.size; have := ZW1.out; omega
 obtain ⟨W2, hW2⟩ : ∃ W2, w2.alloc (.cells #[.string op2, .string tx2, .slice X2 n2 k2] 25) = W2 := ⟨_, rfl⟩
 have zW2 : w1.heap.size < W2.heap.size := by rw [← hW2]; simp; omega
 have zw2 : w.heap.size ≤ W2.heap.size := by omega
 have L2 := hid (show Below w.heap.size w W2 by rw [← hW2]; exact (L1.out.trans (hb2.mono (by have := ZW1.out; omega))).alloc (by omega) _)
 have G2 := hid (show Below W1.heap.size W1 W2 by rw [← hW2]; exact hb2.alloc hb2.size _)
 have I2 := hid (I1.out.bel (fun g hg => by have h9 : g < w1.heap.size := hg; have := ZW1.out; omega) G2.out)
 have V2 := hid (V1.out.below G2.out)
 have HW2 := hid hW2
 clear hb2 hn2 hW2
 go_upto_region 4 with fail
 rw [HW2.out]
 obtain ⟨v0, v1, v2, vf⟩ := V2.out
 go_wp2_with fail
 refine (HL.out _ _ _ _ _ _ _ (fun g hg => by have h9 : g < w1.heap.size := hg; omega) I2.out).mono ?_
 rintro e w3 ⟨A, cap, rfl, hA, hb3⟩
 have z3 : w1.heap.size < w3.heap.size := by have := hb3.size; omega
 have L3 := hid (L2.out.trans (hb3.mono zw2))
 have I3 := hid (I2.out.bel (fun g hg => by have h9 : g < w1.heap.size := hg; omega) hb3)
 have V3 := hid (V2.out.below hb3)
 obtain ⟨ad, eA, hab, hc⟩ := hA 1 (by decide)
 have hcell := hc 0 _ rfl
 subst eA
 have HA := hid hab
 have HCC := hid hcell
 clear hb3 hA hc hab hcell v0 v1 v2 vf
 obtain ⟨v0, v1, v2, vf⟩ := V3.out
 go_wp2_with fail
 refine (HSH.out _ _ _ _ _ _ _ L3.out (fun g hg => by have h9 : g < w1.heap.size := hg; omega) I3.out).mono ?_
 rintro e w4 ⟨rfl, hb4⟩
 have L4 := hid (L3.out.trans (hb4.mono (by omega)))
 have c1 : w4.cell? ⟨ad.block, ad.off + 1, none⟩ = some (.string ⟨#[117]⟩) := by
  have h9 : w3.cell? ⟨ad.block, ad.off + 1, none⟩ = some (.string ⟨#[117]⟩) := by
   have h8 := HCC.out
   simpa [Addr.add] using h8
  exact (hb4.cell (p := ⟨ad.block, ad.off + 1, none⟩) HA.out).trans h9
 clear hb4 v0 v1 v2 vf
 go_wp2
 go_ret
 exact ⟨by simp, L4.out⟩
end Go.Proofs.YtjbpkpfmgbhlpaaGreatDoor.Code
/-
  How a law's row is shut, whatever its arguments are: where a law returns true and nothing that was there has changed ('Below'), each argument reads behind the call as it read before.
-/
namespace Go.Proofs.YtjbpkpfmgbhlpaaGreatDoor.Law
open Go.ChangeShapes Go.WideShapes Go.WideElems Go.RowKit
section
variable {H : Type} {enc : TypeId × Value → H} {P : Program}
def rowed (P : Program) (ts : List TypeId) : Bool := ts.all fun t => P.readableRec t && decide (t < P.types.size)
theorem stays (hl : laidOutB P = true) {W W' : World} (hb : Below W.heap.size W W') : ∀ {ts : List TypeId} {vs : List Value} {ds : List (DataW H)} {ps : List MemPlace},
  rowed P ts = true → DataW.TrodAll enc P W 0 (fun _ => true) true ts vs ds ps → (∀ p ∈ ps, p.block < W.heap.size) →
  DataW.TrodAll enc P W' 0 (fun b => decide (b < W.heap.size)) true ts vs ds ps
 | [], _, _, _, _, h, _ => by
  obtain ⟨rfl, rfl, rfl⟩ := trodAll_nil h
  exact rfl
 | t :: ts, _, _, _, hr, h, hlt => by
  obtain ⟨v, vs, d, ds, p, q, rfl, rfl, rfl, ⟨fuel, h1⟩, h2⟩ := trodAll_cons h
  simp only [rowed, List.all_cons, Bool.and_eq_true, decide_eq_true_eq] at hr
  have hp : ∀ x ∈ p, x.block < W.heap.size := fun x hx => hlt x (List.mem_append_left _ hx)
  refine ⟨p, q, ⟨fuel, ?_⟩, stays hl hb (by simpa [rowed] using hr.2) h2 (fun x hx => hlt x (List.mem_append_right _ hx)), rfl⟩
  exact DataW.trod_stays (kids_book hl hr.1.1) (book_sized hr.1.1) (fun h => by cases h) ⟨hr.1.2, book_self t⟩ h1 (fun x hx => hb.same (hp x hx)) (fun x hx => by simpa using hp x hx)
theorem post_true (hl : laidOutB P = true) {f : Func} (hr : rowed P f.params.toList = true) {s : ChangeSpec} (hs : s.vars = []) {tb : TypeId} (hres : f.resultTypes = #[tb]) (hbool : P.underlying tb = some .bool)
  {W W' : World} {args : Array Value} {ds gs : List (DataW H)} {before : List MemPlace} (hW : DataW.Whole enc P f.params.toList s.vars false W args.toList ds gs before)
  (hfn : s.fn H (ds ++ gs) = { results := [.lit (.bool true)], args := ds }) (hb : Below W.heap.size W W') :
  s.post enc P f false true false false W args (.bool true) W' := by
 have hlt : ∀ p ∈ before, p.block < W.heap.size := fun p hp => hW.lt p hp
 have hW2 := hW
 obtain ⟨p, q, hA, hV, rfl, _, _⟩ := hW2
 refine ⟨ds, gs, p ++ q, [], p, [], hW, ?_, ?_, ?_, ?_, ?_⟩
 ·rw [hfn, hres]
  exact trodAll_cons_mk (shut_bool hbool true) trodAll_mk0
 ·rw [hfn]
  exact stays hl hb hr hA (fun x hx => hlt x (List.mem_append_left _ hx))
 ·rw [hfn, hs]
  exact rfl
 ·exact hb.frame _
 ·intro h
  cases h
end
end Go.Proofs.YtjbpkpfmgbhlpaaGreatDoor.Law
/-
  A law whose row lists package-level variables: how it is lifted, the world's shape kept beside what is listed; and a value's three parts opened.
-/
namespace Go.Proofs.YtjbpkpfmgbhlpaaGreatDoor.Law
open Go.Joins Go.ChangeShapes Go.WideShapes Go.WideElems Go.RowKit Go.Deep
section
variable {H : Type} {enc : TypeId × Value → H}
end
section
variable {H : Type} {enc : TypeId × Value → H} {P : Program} {w : World} {base : Nat} {spare : Nat → Bool} {held : Bool}
end
end Go.Proofs.YtjbpkpfmgbhlpaaGreatDoor.Law
/-
  Arguments that came in, opened: a list of values (a row), of numbers, of rows. No function is named.
-/
namespace Go.Proofs.YtjbpkpfmgbhlpaaGreatDoor.RowOpen
open Go.ChangeShapes Go.WideShapes Go.ChangeAt Go.RowKit Go.Deep Val Go.Proofs.YtjbpkpfmgbhlpaaGreatDoor.Code
set_option linter.unusedVariables false
section
variable {H : Type} {enc : TypeId × Value → H} {P : Program} {w : World} {base : Nat} {spare : Nat → Bool} {held : Bool}
end
theorem glob_of {laid : List (String × DataW Unit)} {d : DataW Unit} {m : Int} {W : World} (hL : laidMetH Tryz.prog laid W) (hp : (laid.all fun x => x.2.handleName?.isNone) = true) (hf : laid.filter (fun x => x.1 == "internal/strconv.uint64pow10") = [("internal/strconv.uint64pow10", d)]) (hd : d = Lib.tabData .u64 Lib.pow10Tab)
  (hm : W.cell? ⟨0, 0, none⟩ = some (.int .i64 m)) : Glob W.heap.size m W := by
 rw [Go.MakeChecks.laidMetH_plain _ _ _ hp] at hL
 have h := hL.filter (fun x => x.1 == "internal/strconv.uint64pow10")
 rw [hf, hd] at h
 have tab : Lib.TabIs Tryz.prog W "internal/strconv.uint64pow10" .u64 Lib.pow10Tab := by
  obtain ⟨n, t, e, h1, h2, h3, h4, h5⟩ : ∃ (n : Nat) (t e : TypeId), (Tryz.prog.globals[3]?).map (·.type) = some t ∧ Tryz.prog.underlying t = some (.array n e) ∧ Tryz.prog.underlying e = some (.int .u64) ∧ Tryz.prog.cellsOf e = 1 ∧ Tryz.prog.cellsOf t = n :=
   ⟨20, 187, 177, by kernel_rfl, by kernel_rfl, by kernel_rfl, by kernel_rfl, by kernel_rfl⟩
  exact Lib.tabIs_of_head glob_pow h1 h2 h3 h4 h5 h
 refine ⟨World.block_lt_of_cell? _ _ hm, ?_, hm, tab⟩
 unfold Lib.TabIs at tab
 simp only [World.var?, glob_pow, Option.bind_some] at tab
 by_cases hlt : 3 < W.heap.size
 ·exact hlt
 ·rw [Array.getElem?_eq_none (by omega)] at tab
  cases tab
end Go.Proofs.YtjbpkpfmgbhlpaaGreatDoor.RowOpen
