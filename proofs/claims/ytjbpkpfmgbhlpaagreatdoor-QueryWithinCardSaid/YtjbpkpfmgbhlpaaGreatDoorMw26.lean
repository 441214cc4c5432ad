/-
  The program's maps of what a word begins.
-/
import Derived.Test.YtjbpkpfmgbhlpaaGreatDoorMw9
import Derived.Test.YtjbpkpfmgbhlpaaGreatDoorMw25
import Derived.Test.YtjbpkpfmgbhlpaaGreatDoorMw5
import Derived.Test.YtjbpkpfmgbhlpaaGreatDoorMw6
import Derived.Test.YtjbpkpfmgbhlpaaGreatDoorMw15
import Derived.Carry
import Derived.ChangeOld
import Derived.ChangeSame
import Derived.OpenShut
import Derived.ProofKit
import Derived.Lib.SmallJoins
import Derived.LaidMore
import Derived.Lay
import Derived.Stop.Joined
import Derived.Shelf.Vars
import Derived.Test.YtjbpkpfmgbhlpaaGreatDoorMw2
import Derived.Deep.Slices
import Derived.Deep.Fields
import Derived.Test.YtjbpkpfmgbhlpaaGreatDoorMw3
import Derived.LaidSub
import Derived.MakeChecks
import Derived.Lib.LaidTab
import Derived.Test.YtjbpkpfmgbhlpaaGreatDoorMw7
import Derived.Stop.LaidErr
namespace Go.Proofs.YtjbpkpfmgbhlpaaGreatDoor.Code
open Go.ChangeMaps Go.MapKept Go.ChangeShapes Go.WideShapes Go.ChangeAt Go.RowKit Val Elems
set_option linter.unusedVariables false
set_option linter.unusedSimpArgs false
set_option maxHeartbeats 8000000 in
set_option maxRecDepth 100000 in
theorem pqueries_any (w : World) :
  Calls Tryz.prog 28 #[] w fun e w' => ∃ mb, e = .returned (.map (some mb)) ∧ MapR w' mb 6 queriesF ∧ w.heap.size ≤ mb ∧ Below w.heap.size w w' := by
 have hmm := @run_makeMap Tryz.prog
 have M0 := Lib.hid (mapR_made w)
 have L0 := Lib.hid (below_alloc w (.map #[] 0))
 go_enter Tryz.func28, Tryz.ntmps28
 go_wp2_with (refine wpList_insp _ rfl _ _ _ rfl w.heap.size 0 _ rfl M0.out (by decide) ⟨#[102, 105, 108, 116, 101, 114]⟩ rfl (by decide) _ rfl ?_)
 intro w1 m1 g1 s1
 have M1 := Lib.hid m1
 have L1 := Lib.hid (L0.out.grown g1 L0.out.size (fun k hk => by cases hk; exact Nat.le_refl _))
 clear m1 g1 s1
 go_wp2_with (refine wpList_insp _ rfl _ _ _ rfl w.heap.size 1 _ rfl M1.out (by decide) ⟨#[112, 114, 111, 106, 101, 99, 116]⟩ rfl (by decide) _ rfl ?_)
 intro w2 m2 g2 s2
 have M2 := Lib.hid m2
 have L2 := Lib.hid (L1.out.grown g2 L1.out.size (fun k hk => by cases hk; exact Nat.le_refl _))
 clear m2 g2 s2
 go_wp2_with (refine wpList_insp _ rfl _ _ _ rfl w.heap.size 2 _ rfl M2.out (by decide) ⟨#[106, 111, 105, 110]⟩ rfl (by decide) _ rfl ?_)
 intro w3 m3 g3 s3
 have M3 := Lib.hid m3
 have L3 := Lib.hid (L2.out.grown g3 L2.out.size (fun k hk => by cases hk; exact Nat.le_refl _))
 clear m3 g3 s3
 go_wp2_with (refine wpList_insp _ rfl _ _ _ rfl w.heap.size 3 _ rfl M3.out (by decide) ⟨#[117, 110, 105, 111, 110]⟩ rfl (by decide) _ rfl ?_)
 intro w4 m4 g4 s4
 have M4 := Lib.hid m4
 have L4 := Lib.hid (L3.out.grown g4 L3.out.size (fun k hk => by cases hk; exact Nat.le_refl _))
 clear m4 g4 s4
 go_wp2_with (refine wpList_insp _ rfl _ _ _ rfl w.heap.size 4 _ rfl M4.out (by decide) ⟨#[100, 105, 115, 116, 105, 110, 99, 116]⟩ rfl (by decide) _ rfl ?_)
 intro w5 m5 g5 s5
 have M5 := Lib.hid m5
 have L5 := Lib.hid (L4.out.grown g5 L4.out.size (fun k hk => by cases hk; exact Nat.le_refl _))
 clear m5 g5 s5
 go_wp2_with (refine wpList_insp _ rfl _ _ _ rfl w.heap.size 5 _ rfl M5.out (by decide) ⟨#[103, 114, 111, 117, 112]⟩ rfl (by decide) _ rfl ?_)
 intro w6 m6 g6 s6
 have M6 := Lib.hid m6
 have L6 := Lib.hid (L5.out.grown g6 L5.out.size (fun k hk => by cases hk; exact Nat.le_refl _))
 clear m6 g6 s6
 go_wp2
 go_ret
 exact ⟨w.heap.size, rfl, M6.out, Nat.le_refl _, L6.out⟩
set_option maxHeartbeats 8000000 in
set_option maxRecDepth 100000 in
theorem paggs_any (w : World) :
  Calls Tryz.prog 29 #[] w fun e w' => ∃ mb, e = .returned (.map (some mb)) ∧ MapR w' mb 4 aggsF ∧ w.heap.size ≤ mb ∧ Below w.heap.size w w' := by
 have hmm := @run_makeMap Tryz.prog
 have M0 := Lib.hid (mapR_made w)
 have L0 := Lib.hid (below_alloc w (.map #[] 0))
 go_enter Tryz.func29, Tryz.ntmps29
 go_wp2_with (refine wpList_insp _ rfl _ _ _ rfl w.heap.size 0 _ rfl M0.out (by decide) ⟨#[99, 111, 117, 110, 116]⟩ rfl (by decide) _ rfl ?_)
 intro w1 m1 g1 s1
 have M1 := Lib.hid m1
 have L1 := Lib.hid (L0.out.grown g1 L0.out.size (fun k hk => by cases hk; exact Nat.le_refl _))
 clear m1 g1 s1
 go_wp2_with (refine wpList_insp _ rfl _ _ _ rfl w.heap.size 1 _ rfl M1.out (by decide) ⟨#[115, 117, 109]⟩ rfl (by decide) _ rfl ?_)
 intro w2 m2 g2 s2
 have M2 := Lib.hid m2
 have L2 := Lib.hid (L1.out.grown g2 L1.out.size (fun k hk => by cases hk; exact Nat.le_refl _))
 clear m2 g2 s2
 go_wp2_with (refine wpList_insp _ rfl _ _ _ rfl w.heap.size 2 _ rfl M2.out (by decide) ⟨#[109, 105, 110]⟩ rfl (by decide) _ rfl ?_)
 intro w3 m3 g3 s3
 have M3 := Lib.hid m3
 have L3 := Lib.hid (L2.out.grown g3 L2.out.size (fun k hk => by cases hk; exact Nat.le_refl _))
 clear m3 g3 s3
 go_wp2_with (refine wpList_insp _ rfl _ _ _ rfl w.heap.size 3 _ rfl M3.out (by decide) ⟨#[109, 97, 120]⟩ rfl (by decide) _ rfl ?_)
 intro w4 m4 g4 s4
 have M4 := Lib.hid m4
 have L4 := Lib.hid (L3.out.grown g4 L3.out.size (fun k hk => by cases hk; exact Nat.le_refl _))
 clear m4 g4 s4
 go_wp2
 go_ret
 exact ⟨w.heap.size, rfl, M4.out, Nat.le_refl _, L4.out⟩
end Go.Proofs.YtjbpkpfmgbhlpaaGreatDoor.Code
/-
  The program's Read of queries: the query from a place on.
-/
namespace Go.Proofs.YtjbpkpfmgbhlpaaGreatDoor.Code
open Go.ChangeShapes Go.WideShapes Go.ChangeAt Go.RowKit Val Elems
set_option linter.unusedVariables false
set_option linter.unusedSimpArgs false
set_option maxHeartbeats 8000000 in
set_option maxRecDepth 100000 in
theorem preadQ_out (A : Option Addr) (cap n : Nat) (at9 : Int) (w : World) (h : at9 < 0 ∨ (n : Int) ≤ at9) :
  Calls Tryz.prog 12 #[.slice A n cap, .int .i64 at9] w fun e w' => e = .returned (.tuple #[.agg #[.string ⟨#[]⟩, .string ⟨#[]⟩, .slice none 0 0], .int .i64 at9, .int .i64 91]) ∧ Below w.heap.size w w' := by
 have Y := NBox.fresh w (.string ⟨#[]⟩) (.string ⟨#[]⟩) (.slice none 0 0) 25
 by_cases h1 : at9 < 0
 ·have e1 : decide (at9 < 0) = true := by simpa using h1
  clear h h1
  go_enter Tryz.func12, Tryz.ntmps12
  go_wp2
  exact bodyPost_ret (v := .tuple #[.agg #[.string ⟨#[]⟩, .string ⟨#[]⟩, .slice none 0 0], .int .i64 at9, .int .i64 91]) (by simp [results, Tryz.results12, go_sem, Y.c0, Y.c1, Y.c2]) rfl
   ⟨rfl, (Below.refl _ _).alloc (Nat.le_refl _) _⟩
 ·have e1 : decide (at9 < 0) = false := by simpa using h1
  have e2 : decide ((n : Int) ≤ at9) = true := by simp; omega
  clear h h1
  go_enter Tryz.func12, Tryz.ntmps12
  go_wp2
  exact bodyPost_ret (v := .tuple #[.agg #[.string ⟨#[]⟩, .string ⟨#[]⟩, .slice none 0 0], .int .i64 at9, .int .i64 91]) (by simp [results, Tryz.results12, go_sem, Y.c0, Y.c1, Y.c2]) rfl
   ⟨rfl, (Below.refl _ _).alloc (Nat.le_refl _) _⟩
set_option maxHeartbeats 8000000 in
set_option maxRecDepth 100000 in
theorem preadQ_any (A : Option Addr) (cap : Nat) (l : List W) (i : Nat) (m : Int) (w : World) (h : At wc 3 w w.heap.size A l) (hg : Good l) (he : Env w.heap.size m w) (hi : i < l.length) :
  Calls Tryz.prog 12 #[.slice A l.length cap, .int .i64 i] w (ReadQPost w (readQ l i)) := by
 obtain ⟨R, hx⟩ : ∃ R, fromQ (Code.bare l) i = R := ⟨_, rfl⟩
 obtain ⟨x, j, b⟩ := R
 have hrd : readQ l i = if b = true then (zeroN, j, 91) else (x, j, 0) := by unfold readQ; rw [hx]
 rw [hrd]
 obtain ⟨q, hq⟩ : ∃ q, (if b = true then (zeroN, j, (91 : Int)) else (x, j, 0)) = q := ⟨_, rfl⟩
 rw [hq]
 have HQ := Lib.hid hq
 have HA := Lib.hid h
 have HE := Lib.hid he
 have HTQ := Lib.hid (fun w0 => pqueries_any w0)
 have HTA := Lib.hid (fun w0 => paggs_any w0)
 have HX0 := Lib.hid (fun (r qb qa : Nat) w1 (hr : Rq w1 r m A cap l qb qa i) => pquery_all hg ((Code.bare l).length + 1) i w1 hr (by omega) (by rw [bare_length]; omega))
 rw [show qq (Code.bare l) ((Code.bare l).length + 1) i false = (x, j, b) from hx] at HX0
 have e1 : (i : Int) < (l.length : Int) := by omega
 have e0 : (0 : Int) ≤ (i : Int) := by omega
 have e2 : decide ((i : Int) < 0) = false := by simp
 have e3 : decide ((l.length : Int) ≤ (i : Int)) = false := by simp; omega
 clear h hx hrd hg hq he
 go_enter Tryz.func12, Tryz.ntmps12
 obtain ⟨w0, hw0⟩ : ∃ w0, w.alloc (.cells #[.string ⟨#[]⟩, .string ⟨#[]⟩, .slice none 0 0] 25) = w0 := ⟨_, rfl⟩
 have hz0 : w0.heap.size = w.heap.size + 1 := by rw [← hw0]; simp
 have N0 := Lib.hid (show NBox w0 w.heap.size (.string ⟨#[]⟩) (.string ⟨#[]⟩) (.slice none 0 0) by rw [← hw0]; exact NBox.fresh _ _ _ _ _)
 have B0 := Lib.hid (show Below w.heap.size w w0 by rw [← hw0]; exact below_alloc _ _)
 have HW0 := Lib.hid hw0
 clear hw0
 go_wp2_with fail
 try rw [HW0.out]
 refine (HTQ.out _).mono ?_
 rintro e wq ⟨qb, rfl, hmq, hqb, hbq⟩
 have zq := hbq.size
 have Nq := Lib.hid (N0.out.below hbq)
 have Bq := Lib.hid (bnext B0.out B0.out.size hbq)
 have MQ := Lib.hid hmq
 clear hmq hbq
 go_wp2_with fail
 refine (HTA.out _).mono ?_
 rintro e wa ⟨qa, rfl, hma, hqa, hba⟩
 have za := hba.size
 have Na := Lib.hid (Nq.out.below hba)
 have Ba := Lib.hid (bnext Bq.out Bq.out.size hba)
 have MQ2 := Lib.hid (MQ.out.below hba)
 have MA2 := Lib.hid hma
 have hlq := MQ2.out.lt
 have hla := hma.lt
 clear hma hba MQ
 obtain ⟨w1, hw1⟩ : ∃ w1, wa.alloc (.cells #[.slice A l.length cap, .int .i64 i, .map (some qb), .map (some qa)] 58) = w1 := ⟨_, rfl⟩
 have z1 : w1.heap.size = wa.heap.size + 1 := by rw [← hw1]; simp
 have N1 := Lib.hid (show NBox w1 w.heap.size (.string ⟨#[]⟩) (.string ⟨#[]⟩) (.slice none 0 0) by rw [← hw1]; exact Na.out.alloc _)
 have B1 := Lib.hid (show Below w.heap.size w w1 by rw [← hw1]; exact Ba.out.alloc Ba.out.size _)
 have R1 := Lib.hid (show Rq w1 wa.heap.size m A cap l qb qa i from by
  have hbw := below_alloc wa (.cells #[.slice A l.length cap, .int .i64 i, .map (some qb), .map (some qa)] 58)
  rw [hw1] at hbw
  refine ⟨⟨by rw [← hw1]; simp [go_sem], by rw [← hw1]; simp [go_sem], fun k => by rw [← hw1]; simp [go_sem], ?_, ?_⟩, by rw [← hw1]; simp [go_sem], by rw [← hw1]; simp [go_sem], MQ2.out.below hbw, MA2.out.below hbw, by omega, by omega⟩
  ·exact (HA.out.below B1.out).more (by have := Ba.out.size; omega)
  ·have h1 : Env wa.heap.size m wa := HE.out.next Ba.out
   exact h1.below hbw)
 have HW1 := Lib.hid hw1
 clear hw1
 go_upto_region 4 with fail
 rw [HW1.out]
 go_wp2_with fail
 refine (HX0.out _ _ _ _ R1.out).mono ?_
 rintro e w2 ⟨op, tx, X, n, k, rfl, hn2, hb2, hr2⟩
 dsimp only at hn2 hr2
 have N2 := Lib.hid ((N1.out.but (by have := Ba.out.size; omega) hb2).alloc (.cells #[.string op, .string tx, .slice X n k] 25))
 have R2 := Lib.hid (hr2.alloc (.cells #[.string op, .string tx, .slice X n k] 25))
 have hz2 : w1.heap.size ≤ w2.heap.size := hb2.size
 have zwa : w.heap.size < wa.heap.size := by omega
 have I2 := Lib.hid (fun hq : b = false => ((hn2 hq).imp (S' := fun g => w.heap.size < g ∧ g < w2.heap.size) (fun g hg => ⟨by have := hg.1; omega, hg.2⟩)).alloc (fun g hg => hg.2) (.cells #[.string op, .string tx, .slice X n k] 25))
 have B2 := Lib.hid ((B1.out.trans (hb2.below (B := w.heap.size) (by omega) (by omega))).alloc (by omega) (.cells #[.string op, .string tx, .slice X n k] 25))
 have V2 := Lib.hid (NBox.fresh w2 (.string op) (.string tx) (.slice X n k) 25)
 have zn := N2.out.lt
 have zr := R2.out.lt
 clear hb2 hr2 hn2
 obtain ⟨x0, x1, x2, xf⟩ := N2.out
 obtain ⟨w6, hw6⟩ : ∃ w6, w2.alloc (.cells #[.string op, .string tx, .slice X n k] 25) = w6 := ⟨_, rfl⟩
 rw [hw6] at N2 R2 I2 B2 V2 zn zr x0 x1 x2 xf
 obtain ⟨v0, v1, v2, vf⟩ := V2.out
 have c1 := R2.out.rd.c1
 have HO := Lib.hid (Ox.refl w.heap.size w6)
 have FQ := Lib.hid (fun w' (h : Ox w.heap.size w6 w') => show w'.cell? ⟨wa.heap.size, 1, none⟩ = some (.int .i64 j) ∧ w'.cell? ⟨w2.heap.size, 0, none⟩ = some (.string op) ∧ w'.cell? ⟨w2.heap.size, 1, none⟩ = some (.string tx) ∧ w'.cell? ⟨w2.heap.size, 2, none⟩ = some (.slice X n k) from
  ⟨(h.2 ⟨wa.heap.size, 1, none⟩ (by simp; omega)).trans c1, (h.2 ⟨w2.heap.size, 0, none⟩ (by simp; omega)).trans v0, (h.2 ⟨w2.heap.size, 1, none⟩ (by simp; omega)).trans v1, (h.2 ⟨w2.heap.size, 2, none⟩ (by simp; omega)).trans v2⟩)
 cases b
 ·go_upto_region 7 with fail
  go_region_held3 (fun w' => (w'.cell? ⟨wa.heap.size, 1, none⟩ = some (.int .i64 j) ∧ w'.cell? ⟨w2.heap.size, 0, none⟩ = some (.string op) ∧ w'.cell? ⟨w2.heap.size, 1, none⟩ = some (.string tx) ∧ w'.cell? ⟨w2.heap.size, 2, none⟩ = some (.slice X n k)) ∧ Ox w.heap.size w6 w')
   (first | assumption | (exact ⟨FQ.out _ HO.out.drew, HO.out.drew⟩) | (exact ⟨FQ.out _ HO.out, HO.out⟩) | (refine (fun hS9 : Ox w.heap.size w6 _ => ⟨FQ.out _ hS9, hS9⟩) (((HO.out.setCell _ rfl _).setCell _ rfl _).setCell _ rfl _).drew))
   (fail)
  go_wp2
  obtain rfl : q = (x, j, 0) := by have := HQ.out; simpa using this.symm
  have Y := N2.out.set (.string op) (.string tx) (.slice X n k)
  have h6 : w6.heap.size = w2.heap.size + 1 := by rw [← hw6]; simp
  exact bodyPost_ret (v := .tuple #[.agg #[.string op, .string tx, .slice X n k], .int .i64 j, .int .i64 0]) (by simp [results, Tryz.results12, go_sem, Y.c0, Y.c1, Y.c2]) rfl
   ⟨op, tx, X, n, k, rfl, RIn.keep (w := W3 w6 w.heap.size (.string op) (.string tx) (.slice X n k)) (w' := (W3 w6 w.heap.size (.string op) (.string tx) (.slice X n k)).drew) (fun g hg => ⟨by have := hg.1; omega, by show g < (W3 w6 w.heap.size (.string op) (.string tx) (.slice X n k)).heap.size; rw [W3.size, h6]; have := hg.2; omega⟩) (fun _ _ => rfl) ((I2.out (by first | exact trivial | rfl)).w3 (g := w.heap.size) (fun hg => Nat.lt_irrefl _ hg.1) _ _ _), (((B2.out.setCell (Nat.le_refl _) _).setCell (Nat.le_refl _) _).setCell (Nat.le_refl _) _).drew⟩
 ·go_upto_region 6 with fail
  go_region_held3 (fun w' => (w'.cell? ⟨wa.heap.size, 1, none⟩ = some (.int .i64 j) ∧ w'.cell? ⟨w2.heap.size, 0, none⟩ = some (.string op) ∧ w'.cell? ⟨w2.heap.size, 1, none⟩ = some (.string tx) ∧ w'.cell? ⟨w2.heap.size, 2, none⟩ = some (.slice X n k)) ∧ Ox w.heap.size w6 w')
   (first | assumption | (exact ⟨FQ.out _ HO.out.drew, HO.out.drew⟩) | (exact ⟨FQ.out _ HO.out, HO.out⟩) | (refine (fun hS9 : Ox w.heap.size w6 _ => ⟨FQ.out _ hS9, hS9⟩) (((HO.out.setCell _ rfl _).setCell _ rfl _).setCell _ rfl _).drew))
   (fail)
  go_wp2
  obtain rfl : q = (zeroN, j, 91) := by have := HQ.out; simpa using this.symm
  have Y := N2.out.set (.string ⟨#[]⟩) (.string ⟨#[]⟩) (.slice none 0 0)
  exact bodyPost_ret (v := .tuple #[.agg #[.string ⟨#[]⟩, .string ⟨#[]⟩, .slice none 0 0], .int .i64 j, .int .i64 91]) (by simp [results, Tryz.results12, go_sem, Y.c0, Y.c1, Y.c2]) rfl
   ⟨⟨#[]⟩, ⟨#[]⟩, none, 0, 0, rfl, RIn.leafN _ _ ⟨#[]⟩ ⟨#[]⟩, (((B2.out.setCell (Nat.le_refl _) _).setCell (Nat.le_refl _) _).setCell (Nat.le_refl _) _).drew⟩
def ReadQE (l : List W) (m : Int) (res : Nod × Nat × Int) : Prop := ∀ A cap w, At wc 3 w w.heap.size A l → Env w.heap.size m w → Calls Tryz.prog 12 #[.slice A l.length cap, .int .i64 0] w (ReadQPost w res)
set_option maxHeartbeats 8000000 in
set_option maxRecDepth 100000 in
theorem pparseQ_lex (s : ByteArray) (m : Int) (w : World) (he : Env w.heap.size m w) (j : Int) (hw : WordsE s [] j 81 m) :
  Calls Tryz.prog 8 #[.string s] w (ParseQPost w (zeroN, j, 81)) := by
 have HW := Lib.hid hw
 have HE := Lib.hid he
 clear hw he
 go_enter Tryz.func8, Tryz.ntmps8
 have N0 := Lib.hid (NBox.fresh w (.string ⟨#[]⟩) (.string ⟨#[]⟩) (.slice none 0 0) 25)
 have B0 := Lib.hid ((Below.refl w.heap.size w).alloc (Nat.le_refl _) (.cells #[.string ⟨#[]⟩, .string ⟨#[]⟩, .slice none 0 0] 25))
 go_wp2_with fail
 refine (HW.out _ (HE.out.next B0.out)).mono ?_
 rintro e w1 ⟨A, cap, rfl, hat, hb1⟩
 have N1 := Lib.hid (N0.out.below hb1)
 have B1 := Lib.hid (B0.out.trans (hb1.mono (by simp)))
 have A1 := Lib.hid hat
 have H1 := Lib.hid ((hb1.block w.heap.size (by simp)).trans (heap_alloc_new w (.cells #[.string ⟨#[]⟩, .string ⟨#[]⟩, .slice none 0 0] 25)))
 have z1 := N1.out.lt
 clear hb1 hat
 obtain ⟨x0, x1, x2, xf⟩ := N1.out
 go_wp2
 have Y := N1.out.set (.string ⟨#[]⟩) (.string ⟨#[]⟩) (.slice none 0 0)
 exact bodyPost_ret (v := .tuple #[.agg #[.string ⟨#[]⟩, .string ⟨#[]⟩, .slice none 0 0], .int .i64 j, .int .i64 81]) (by simp [results, Tryz.results8, go_sem, Y.c0, Y.c1, Y.c2]) rfl
  ⟨⟨#[]⟩, ⟨#[]⟩, none, 0, 0, rfl, RIn.leafN _ _ ⟨#[]⟩ ⟨#[]⟩, ((B1.out.setCell (Nat.le_refl _) _).setCell (Nat.le_refl _) _).setCell (Nat.le_refl _) _⟩
set_option maxHeartbeats 8000000 in
set_option maxRecDepth 100000 in
theorem pparseQ_at (s : ByteArray) (m : Int) (w : World) (he : Env w.heap.size m w) (l : List W) (hw : WordsE s l 0 0 m) (x : Nod) (j : Nat) (ee : Int) (hr : ReadQE l m (x, j, ee)) (hj : j < l.length) :
  Calls Tryz.prog 8 #[.string s] w (ParseQPost w (zeroN, placeL s.size l j, 91)) := by
 have hp : placeL s.size l j = l[j].2.2 := by unfold placeL; rw [List.getElem?_eq_getElem hj]
 rw [hp]
 obtain ⟨v, hv⟩ : ∃ v, l[j] = v := ⟨_, rfl⟩
 have HV := Lib.hid hv
 rw [hv]
 obtain ⟨vk, vt, p⟩ := v
 dsimp only
 unfold ReadQE at hr
 have HW := Lib.hid hw
 have HR := Lib.hid hr
 have HE := Lib.hid he
 have e1 : decide ((j : Int) < (l.length : Int)) = true := by simp; omega
 have e2 : (j : Int) < (l.length : Int) := by omega
 clear hw hr hp he hv
 go_enter Tryz.func8, Tryz.ntmps8
 have N0 := Lib.hid (NBox.fresh w (.string ⟨#[]⟩) (.string ⟨#[]⟩) (.slice none 0 0) 25)
 have B0 := Lib.hid ((Below.refl w.heap.size w).alloc (Nat.le_refl _) (.cells #[.string ⟨#[]⟩, .string ⟨#[]⟩, .slice none 0 0] 25))
 go_wp2_with fail
 refine (HW.out _ (HE.out.next B0.out)).mono ?_
 rintro e w1 ⟨A, cap, rfl, hat, hb1⟩
 have N1 := Lib.hid (N0.out.below hb1)
 have B1 := Lib.hid (B0.out.trans (hb1.mono (by simp)))
 have A1 := Lib.hid hat
 have H1 := Lib.hid ((hb1.block w.heap.size (by simp)).trans (heap_alloc_new w (.cells #[.string ⟨#[]⟩, .string ⟨#[]⟩, .slice none 0 0] 25)))
 have z1 := N1.out.lt
 clear hb1 hat
 go_wp2_with fail
 refine (HR.out A cap _ A1.out (HE.out.next B1.out)).mono ?_
 rintro e w2 ⟨op, tx, X, n, k, rfl, hn2, hb2⟩
 have N2w := Lib.hid (N1.out.below hb2)
 have N2 := Lib.hid ((N1.out.below hb2).alloc (.cells #[.string op, .string tx, .slice X n k] 25))
 have B2 := Lib.hid ((B1.out.trans (hb2.mono (by omega))).alloc (by have := hb2.size; omega) (.cells #[.string op, .string tx, .slice X n k] 25))
 have A2 := Lib.hid (show At wc 3 (w2.alloc (.cells #[.string op, .string tx, .slice X n k] 25)) w2.heap.size A l from (((A1.out.below hb2).more hb2.size).below ((Below.refl _ _).alloc (Nat.le_refl _) (.cells #[.string op, .string tx, .slice X n k] 25))))
 have I2 := Lib.hid ((hn2.imp (S' := fun g => w.heap.size < g ∧ g < w2.heap.size) (fun g hg => ⟨by have := hg.1; omega, hg.2⟩)).alloc (fun g hg => hg.2) (.cells #[.string op, .string tx, .slice X n k] 25))
 have V2 := Lib.hid (NBox.fresh w2 (.string op) (.string tx) (.slice X n k) 25)
 have z2 := hb2.size
 have znw := N2w.out.lt
 clear hb2 hn2
 obtain ⟨w6, hw6⟩ : ∃ w6, w2.alloc (.cells #[.string op, .string tx, .slice X n k] 25) = w6 := ⟨_, rfl⟩
 have hz6 : w6.heap.size = w2.heap.size + 1 := by rw [← hw6]; simp
 rw [hw6] at N2 B2 A2 I2 V2
 obtain ⟨x0, x1, x2, xf⟩ := N2.out
 obtain ⟨ad, rfl, ha, d0, d1, d2⟩ := at_word A2.out j hj
 rw [HV.out] at d2
 dsimp only at d2
 obtain ⟨q, hq⟩ : ∃ q, ad.add (j * 3) = q := ⟨_, rfl⟩
 have hbn : q.block ≠ w.heap.size := by
  obtain ⟨a1, h1, h2, c0, c1, c2⟩ := at_word A1.out j hj
  obtain rfl : ad = a1 := Option.some.inj h1
  rw [← hq]
  exact node_block_ne H1.out c0
 rw [hq] at d2
 have HO := Lib.hid (Ox.refl w.heap.size w6)
 have FQ := Lib.hid (fun w' (h : Ox w.heap.size w6 w') => show w'.cell? ⟨q.block, q.off + 2, none⟩ = some (.int .i64 p) from (h.2 ⟨q.block, q.off + 2, none⟩ hbn).trans d2)
 clear d0 d1
 go_upto_region 6 with fail
 try rw [hw6]
 clear hw6
 go_region_held3 (fun w' => (w'.cell? ⟨q.block, q.off + 2, none⟩ = some (.int .i64 p)) ∧ Ox w.heap.size w6 w')
  (first | assumption | (exact ⟨FQ.out _ HO.out.drew, HO.out.drew⟩) | (exact ⟨FQ.out _ HO.out, HO.out⟩) | (refine (fun hS9 : Ox w.heap.size w6 _ => ⟨FQ.out _ hS9, hS9⟩) (((HO.out.setCell _ rfl _).setCell _ rfl _).setCell _ rfl _).drew))
  (fail)
 go_wp2
 have Y := N2.out.set (.string ⟨#[]⟩) (.string ⟨#[]⟩) (.slice none 0 0)
 exact bodyPost_ret (v := .tuple #[.agg #[.string ⟨#[]⟩, .string ⟨#[]⟩, .slice none 0 0], .int .i64 p, .int .i64 91]) (by simp [results, Tryz.results8, go_sem, Y.c0, Y.c1, Y.c2]) rfl
  ⟨⟨#[]⟩, ⟨#[]⟩, none, 0, 0, rfl, RIn.leafN _ _ ⟨#[]⟩ ⟨#[]⟩, (((B2.out.setCell (Nat.le_refl _) _).setCell (Nat.le_refl _) _).setCell (Nat.le_refl _) _).drew⟩
set_option maxHeartbeats 8000000 in
set_option maxRecDepth 100000 in
theorem pparseQ_end (s : ByteArray) (m : Int) (w : World) (he : Env w.heap.size m w) (l : List W) (hw : WordsE s l 0 0 m) (x : Nod) (hr : ReadQE l m (x, l.length, 91)) :
  Calls Tryz.prog 8 #[.string s] w (ParseQPost w (zeroN, s.size, 91)) := by
 unfold ReadQE at hr
 have HW := Lib.hid hw
 have HR := Lib.hid hr
 have HE := Lib.hid he
 have e1 : decide ((l.length : Int) < (l.length : Int)) = false := by simp
 clear hw hr he
 go_enter Tryz.func8, Tryz.ntmps8
 have N0 := Lib.hid (NBox.fresh w (.string ⟨#[]⟩) (.string ⟨#[]⟩) (.slice none 0 0) 25)
 have B0 := Lib.hid ((Below.refl w.heap.size w).alloc (Nat.le_refl _) (.cells #[.string ⟨#[]⟩, .string ⟨#[]⟩, .slice none 0 0] 25))
 go_wp2_with fail
 refine (HW.out _ (HE.out.next B0.out)).mono ?_
 rintro e w1 ⟨A, cap, rfl, hat, hb1⟩
 have N1 := Lib.hid (N0.out.below hb1)
 have B1 := Lib.hid (B0.out.trans (hb1.mono (by simp)))
 have A1 := Lib.hid hat
 have H1 := Lib.hid ((hb1.block w.heap.size (by simp)).trans (heap_alloc_new w (.cells #[.string ⟨#[]⟩, .string ⟨#[]⟩, .slice none 0 0] 25)))
 have z1 := N1.out.lt
 clear hb1 hat
 go_wp2_with fail
 refine (HR.out A cap _ A1.out (HE.out.next B1.out)).mono ?_
 rintro e w2 ⟨op, tx, X, n, k, rfl, hn2, hb2⟩
 have N2w := Lib.hid (N1.out.below hb2)
 have N2 := Lib.hid ((N1.out.below hb2).alloc (.cells #[.string op, .string tx, .slice X n k] 25))
 have B2 := Lib.hid ((B1.out.trans (hb2.mono (by omega))).alloc (by have := hb2.size; omega) (.cells #[.string op, .string tx, .slice X n k] 25))
 have A2 := Lib.hid (show At wc 3 (w2.alloc (.cells #[.string op, .string tx, .slice X n k] 25)) w2.heap.size A l from (((A1.out.below hb2).more hb2.size).below ((Below.refl _ _).alloc (Nat.le_refl _) (.cells #[.string op, .string tx, .slice X n k] 25))))
 have I2 := Lib.hid ((hn2.imp (S' := fun g => w.heap.size < g ∧ g < w2.heap.size) (fun g hg => ⟨by have := hg.1; omega, hg.2⟩)).alloc (fun g hg => hg.2) (.cells #[.string op, .string tx, .slice X n k] 25))
 have V2 := Lib.hid (NBox.fresh w2 (.string op) (.string tx) (.slice X n k) 25)
 have z2 := hb2.size
 have znw := N2w.out.lt
 clear hb2 hn2
 obtain ⟨w6, hw6⟩ : ∃ w6, w2.alloc (.cells #[.string op, .string tx, .slice X n k] 25) = w6 := ⟨_, rfl⟩
 have hz6 : w6.heap.size = w2.heap.size + 1 := by rw [← hw6]; simp
 rw [hw6] at N2 B2 A2 I2 V2
 obtain ⟨x0, x1, x2, xf⟩ := N2.out
 have zn := N2.out.lt
 go_upto_region 5 with fail
 try rw [hw6]
 clear hw6
 go_wp2
 have Y := N2.out.set (.string ⟨#[]⟩) (.string ⟨#[]⟩) (.slice none 0 0)
 exact bodyPost_ret (v := .tuple #[.agg #[.string ⟨#[]⟩, .string ⟨#[]⟩, .slice none 0 0], .int .i64 s.size, .int .i64 91]) (by simp [results, Tryz.results8, go_sem, Y.c0, Y.c1, Y.c2]) rfl
  ⟨⟨#[]⟩, ⟨#[]⟩, none, 0, 0, rfl, RIn.leafN _ _ ⟨#[]⟩ ⟨#[]⟩, ((B2.out.setCell (Nat.le_refl _) _).setCell (Nat.le_refl _) _).setCell (Nat.le_refl _) _⟩
set_option maxHeartbeats 8000000 in
set_option maxRecDepth 100000 in
theorem pparseQ_deep (s : ByteArray) (m : Int) (w : World) (he : Env w.heap.size m w) (l : List W) (hw : WordsE s l 0 0 m) (x : Nod) (hr : ReadQE l m (x, l.length, 0)) (hd : x.deep ≤ 1000000000) (h16 : 16 < x.deep) :
  Calls Tryz.prog 8 #[.string s] w (ParseQPost w (zeroN, 0, 92)) := by
 unfold ReadQE at hr
 have HW := Lib.hid hw
 have HR := Lib.hid hr
 have HE := Lib.hid he
 have HD := Lib.hid (edeepN_any 1000000000 x hd (Nat.le_refl _))
 obtain ⟨d, hdd⟩ : ∃ d, x.deep = d := ⟨_, rfl⟩
 rw [hdd] at HD h16 hd
 have e1 : decide ((l.length : Int) < (l.length : Int)) = false := by simp
 have e2 : decide ((16 : Int) < (d : Int)) = true := by simp; omega
 clear hw hr he hdd
 go_enter Tryz.func8, Tryz.ntmps8
 have N0 := Lib.hid (NBox.fresh w (.string ⟨#[]⟩) (.string ⟨#[]⟩) (.slice none 0 0) 25)
 have B0 := Lib.hid ((Below.refl w.heap.size w).alloc (Nat.le_refl _) (.cells #[.string ⟨#[]⟩, .string ⟨#[]⟩, .slice none 0 0] 25))
 go_wp2_with fail
 refine (HW.out _ (HE.out.next B0.out)).mono ?_
 rintro e w1 ⟨A, cap, rfl, hat, hb1⟩
 have N1 := Lib.hid (N0.out.below hb1)
 have B1 := Lib.hid (B0.out.trans (hb1.mono (by simp)))
 have A1 := Lib.hid hat
 have H1 := Lib.hid ((hb1.block w.heap.size (by simp)).trans (heap_alloc_new w (.cells #[.string ⟨#[]⟩, .string ⟨#[]⟩, .slice none 0 0] 25)))
 have z1 := N1.out.lt
 clear hb1 hat
 go_wp2_with fail
 refine (HR.out A cap _ A1.out (HE.out.next B1.out)).mono ?_
 rintro e w2 ⟨op, tx, X, n, k, rfl, hn2, hb2⟩
 have N2w := Lib.hid (N1.out.below hb2)
 have N2 := Lib.hid ((N1.out.below hb2).alloc (.cells #[.string op, .string tx, .slice X n k] 25))
 have B2 := Lib.hid ((B1.out.trans (hb2.mono (by omega))).alloc (by have := hb2.size; omega) (.cells #[.string op, .string tx, .slice X n k] 25))
 have A2 := Lib.hid (show At wc 3 (w2.alloc (.cells #[.string op, .string tx, .slice X n k] 25)) w2.heap.size A l from (((A1.out.below hb2).more hb2.size).below ((Below.refl _ _).alloc (Nat.le_refl _) (.cells #[.string op, .string tx, .slice X n k] 25))))
 have I2 := Lib.hid ((hn2.imp (S' := fun g => w.heap.size < g ∧ g < w2.heap.size) (fun g hg => ⟨by have := hg.1; omega, hg.2⟩)).alloc (fun g hg => hg.2) (.cells #[.string op, .string tx, .slice X n k] 25))
 have V2 := Lib.hid (NBox.fresh w2 (.string op) (.string tx) (.slice X n k) 25)
 have z2 := hb2.size
 have znw := N2w.out.lt
 clear hb2 hn2
 obtain ⟨w6, hw6⟩ : ∃ w6, w2.alloc (.cells #[.string op, .string tx, .slice X n k] 25) = w6 := ⟨_, rfl⟩
 have hz6 : w6.heap.size = w2.heap.size + 1 := by rw [← hw6]; simp
 rw [hw6] at N2 B2 A2 I2 V2
 obtain ⟨x0, x1, x2, xf⟩ := N2.out
 obtain ⟨v0, v1, v2, vf⟩ := V2.out
 go_upto_region 5 with fail
 try rw [hw6]
 clear hw6
 go_wp2_with fail
 refine (HD.out _ _ _ _ _ _ _ (fun g hg => by have := hg.2; omega) I2.out).mono ?_
 rintro e w3 ⟨rfl, hb3⟩
 have N3 := Lib.hid (N2.out.below hb3)
 have V3 := Lib.hid (V2.out.below hb3)
 have I3 := Lib.hid (I2.out.bel (fun g hg => by have := hg.2; omega) hb3)
 have B3 := Lib.hid (B2.out.trans (hb3.mono (by omega)))
 have z3 := N3.out.lt
 have z4 : w2.heap.size < w3.heap.size := V3.out.lt
 clear hb3 x0 x1 x2 xf v0 v1 v2 vf
 obtain ⟨x0, x1, x2, xf⟩ := N3.out
 obtain ⟨v0, v1, v2, vf⟩ := V3.out
 go_wp2
 have Y := N3.out.set (.string ⟨#[]⟩) (.string ⟨#[]⟩) (.slice none 0 0)
 exact bodyPost_ret (v := .tuple #[.agg #[.string ⟨#[]⟩, .string ⟨#[]⟩, .slice none 0 0], .int .i64 0, .int .i64 92]) (by simp [results, Tryz.results8, go_sem, Y.c0, Y.c1, Y.c2]) rfl
  ⟨⟨#[]⟩, ⟨#[]⟩, none, 0, 0, rfl, RIn.leafN _ _ ⟨#[]⟩ ⟨#[]⟩, ((B3.out.setCell (Nat.le_refl _) _).setCell (Nat.le_refl _) _).setCell (Nat.le_refl _) _⟩
set_option maxHeartbeats 8000000 in
set_option maxRecDepth 100000 in
theorem pparseQ_ok (s : ByteArray) (m : Int) (w : World) (he : Env w.heap.size m w) (l : List W) (hw : WordsE s l 0 0 m) (x : Nod) (hr : ReadQE l m (x, l.length, 0)) (hd : x.deep ≤ 1000000000) (h16 : x.deep ≤ 16) :
  Calls Tryz.prog 8 #[.string s] w (ParseQPost w (x, 0, 0)) := by
 unfold ReadQE at hr
 have HW := Lib.hid hw
 have HR := Lib.hid hr
 have HE := Lib.hid he
 have HD := Lib.hid (edeepN_any 1000000000 x hd (Nat.le_refl _))
 obtain ⟨d, hdd⟩ : ∃ d, x.deep = d := ⟨_, rfl⟩
 rw [hdd] at HD h16 hd
 have e1 : decide ((l.length : Int) < (l.length : Int)) = false := by simp
 have e2 : decide ((16 : Int) < (d : Int)) = false := by simp; omega
 clear hw hr he hdd
 go_enter Tryz.func8, Tryz.ntmps8
 have N0 := Lib.hid (NBox.fresh w (.string ⟨#[]⟩) (.string ⟨#[]⟩) (.slice none 0 0) 25)
 have B0 := Lib.hid ((Below.refl w.heap.size w).alloc (Nat.le_refl _) (.cells #[.string ⟨#[]⟩, .string ⟨#[]⟩, .slice none 0 0] 25))
 go_wp2_with fail
 refine (HW.out _ (HE.out.next B0.out)).mono ?_
 rintro e w1 ⟨A, cap, rfl, hat, hb1⟩
 have N1 := Lib.hid (N0.out.below hb1)
 have B1 := Lib.hid (B0.out.trans (hb1.mono (by simp)))
 have A1 := Lib.hid hat
 have H1 := Lib.hid ((hb1.block w.heap.size (by simp)).trans (heap_alloc_new w (.cells #[.string ⟨#[]⟩, .string ⟨#[]⟩, .slice none 0 0] 25)))
 have z1 := N1.out.lt
 clear hb1 hat
 go_wp2_with fail
 refine (HR.out A cap _ A1.out (HE.out.next B1.out)).mono ?_
 rintro e w2 ⟨op, tx, X, n, k, rfl, hn2, hb2⟩
 have N2w := Lib.hid (N1.out.below hb2)
 have N2 := Lib.hid ((N1.out.below hb2).alloc (.cells #[.string op, .string tx, .slice X n k] 25))
 have B2 := Lib.hid ((B1.out.trans (hb2.mono (by omega))).alloc (by have := hb2.size; omega) (.cells #[.string op, .string tx, .slice X n k] 25))
 have A2 := Lib.hid (show At wc 3 (w2.alloc (.cells #[.string op, .string tx, .slice X n k] 25)) w2.heap.size A l from (((A1.out.below hb2).more hb2.size).below ((Below.refl _ _).alloc (Nat.le_refl _) (.cells #[.string op, .string tx, .slice X n k] 25))))
 have I2 := Lib.hid ((hn2.imp (S' := fun g => w.heap.size < g ∧ g < w2.heap.size) (fun g hg => ⟨by have := hg.1; omega, hg.2⟩)).alloc (fun g hg => hg.2) (.cells #[.string op, .string tx, .slice X n k] 25))
 have V2 := Lib.hid (NBox.fresh w2 (.string op) (.string tx) (.slice X n k) 25)
 have z2 := hb2.size
 have znw := N2w.out.lt
 clear hb2 hn2
 obtain ⟨w6, hw6⟩ : ∃ w6, w2.alloc (.cells #[.string op, .string tx, .slice X n k] 25) = w6 := ⟨_, rfl⟩
 have hz6 : w6.heap.size = w2.heap.size + 1 := by rw [← hw6]; simp
 rw [hw6] at N2 B2 A2 I2 V2
 obtain ⟨x0, x1, x2, xf⟩ := N2.out
 obtain ⟨v0, v1, v2, vf⟩ := V2.out
 go_upto_region 5 with fail
 try rw [hw6]
 clear hw6
 go_wp2_with fail
 refine (HD.out _ _ _ _ _ _ _ (fun g hg => by have := hg.2; omega) I2.out).mono ?_
 rintro e w3 ⟨rfl, hb3⟩
 have N3 := Lib.hid (N2.out.below hb3)
 have V3 := Lib.hid (V2.out.below hb3)
 have I3 := Lib.hid (I2.out.bel (fun g hg => by have := hg.2; omega) hb3)
 have B3 := Lib.hid (B2.out.trans (hb3.mono (by omega)))
 have z3 := N3.out.lt
 have z4 : w2.heap.size < w3.heap.size := V3.out.lt
 clear hb3 x0 x1 x2 xf v0 v1 v2 vf
 obtain ⟨x0, x1, x2, xf⟩ := N3.out
 obtain ⟨v0, v1, v2, vf⟩ := V3.out
 go_wp2
 have Y := N3.out.set (.string op) (.string tx) (.slice X n k)
 exact bodyPost_ret (v := .tuple #[.agg #[.string op, .string tx, .slice X n k], .int .i64 0, .int .i64 0]) (by simp [results, Tryz.results8, go_sem, Y.c0, Y.c1, Y.c2]) rfl
  ⟨op, tx, X, n, k, rfl, (RIn.w3 (g := w.heap.size) I3.out (fun hg => Nat.lt_irrefl _ hg.1) (.string op) (.string tx) (.slice X n k)).imp (fun g hg => ⟨Nat.le_of_lt hg.1, by show g < (W3 w3 w.heap.size (.string op) (.string tx) (.slice X n k)).heap.size; rw [W3.size]; have := hg.2; omega⟩), ((B3.out.setCell (Nat.le_refl _) _).setCell (Nat.le_refl _) _).setCell (Nat.le_refl _) _⟩
theorem preadQ_none (A : Option Addr) (cap : Nat) (w : World) : Calls Tryz.prog 12 #[.slice A 0 cap, .int .i64 0] w (ReadQPost w (zeroN, 0, 91)) := by
 refine (preadQ_out A cap 0 0 w (Or.inr (Int.le_refl _))).mono fun e w' hp => ?_
 exact ⟨⟨#[]⟩, ⟨#[]⟩, none, 0, 0, hp.1, RIn.leafN _ _ ⟨#[]⟩ ⟨#[]⟩, hp.2⟩
theorem pparseQ_any (s : ByteArray) (hs : s.size ≤ 1000000) (m : Int) (w : World) (he : Env w.heap.size m w) :
  Calls Tryz.prog 8 #[.string s] w (ParseQPost w (parseQ s.data.toList)) := by
 have hw := words_e s m (by omega)
 have hL := bytes_len s
 unfold parseQ
 cases e : wordsL s.data.toList 0 with
 | error j =>
  have h1 : wL s.data.toList = [] := by unfold wL; rw [e]
  have h2 : wP s.data.toList = j := by unfold wP; rw [e]
  have h3 : wE s.data.toList = 81 := by unfold wE; rw [e]
  rw [h1, h2, h3] at hw
  exact pparseQ_lex s m w he j hw
 | ok l =>
  have h1 : wL s.data.toList = l := by unfold wL; rw [e]
  have h2 : wP s.data.toList = 0 := by unfold wP; rw [e]
  have h3 : wE s.data.toList = 0 := by unfold wE; rw [e]
  rw [h1, h2, h3] at hw
  have hlen := words_len _ _ _ e
  have hl : l.length ≤ 1000000 := by omega
  have hgood : Good l := ⟨by omega, words_came _ _ _ e, came_short (words_came _ _ _ e)⟩
  show Calls Tryz.prog 8 #[.string s] w (ParseQPost w (parseQW s.data.toList.length l))
  rw [hL]
  by_cases hl0 : l = []
  ·subst hl0
   exact pparseQ_end s m w he [] hw zeroN (fun A cap w _ _ => preadQ_none A cap w)
  ·have hpos : 0 < l.length := List.length_pos_iff.2 hl0
   obtain ⟨R, hx⟩ : ∃ R, fromQ (Code.bare l) 0 = R := ⟨_, rfl⟩
   obtain ⟨x, j, b⟩ := R
   have htop : topQ (Code.bare l) = (x, j, b) := hx
   have hrd : readQ l 0 = if b = true then (zeroN, j, 91) else (x, j, 0) := by unfold readQ; rw [hx]
   have hr : ReadQE l m (readQ l 0) := fun A cap w h he => preadQ_any A cap l 0 m w h hgood he hpos
   rw [hrd] at hr
   have hj : j ≤ l.length := by have := topQ_le (Code.bare l); rw [htop, bare_length] at this; exact this
   have hd : x.deep ≤ 1 + l.length := by have := topQ_deep (Code.bare l); rw [htop, bare_length] at this; exact this
   unfold parseQW
   rw [if_neg hl0, htop]
   by_cases hjl : j < l.length
   ·rw [if_pos (Or.inr hjl)]
    cases b
    ·exact pparseQ_at s m w he l hw x j 0 hr hjl
    ·exact pparseQ_at s m w he l hw zeroN j 91 hr hjl
   ·obtain rfl : j = l.length := by omega
    cases b
    ·rw [if_neg (by simp)]
     by_cases h16 : 16 < x.deep
     ·rw [if_pos h16]
      exact pparseQ_deep s m w he l hw x hr (by omega) h16
     ·rw [if_neg h16]
      exact pparseQ_ok s m w he l hw x hr (by omega) (by omega)
    ·rw [if_pos (Or.inl rfl)]
     have hp : placeL s.size l l.length = s.size := by unfold placeL; rw [List.getElem?_eq_none (Nat.le_refl _)]
     show Calls _ _ _ _ (ParseQPost w (zeroN, placeL s.size l l.length, 91))
     rw [hp]
     exact pparseQ_end s m w he l hw zeroN hr
theorem aliveQ_tot : aliveQT.tot ≤ 100000 := by decide +kernel
theorem aliveQ_bytes : (⟨aliveQS.toArray⟩ : ByteArray) = ⟨#[103, 114, 111, 117, 112, 40, 106, 111, 105, 110, 40, 116, 44, 32, 102, 105, 108, 116, 101, 114, 40, 117, 44, 32, 97, 32, 60, 32, 51, 41, 44, 32, 97, 32, 61, 32, 98, 41, 44, 32, 98, 121, 32, 97, 32, 98, 44, 32, 110, 32, 61, 32, 99, 111, 117, 110, 116, 40, 41, 44, 32, 109, 32, 61, 32, 109, 97, 120, 40, 99, 41, 41]⟩ := rfl
set_option maxHeartbeats 4000000 in
set_option maxRecDepth 100000 in
theorem qalive_any (m : Int) (w : World) (he : Env w.heap.size m w) : Calls Tryz.prog 7 #[] w fun e w' => e = .returned (.bool true) ∧ Below w.heap.size w w' := by
 have H1 := Lib.hid (fun (w0 : World) (hb : Below w.heap.size w w0) => (show Calls Tryz.prog 8 #[.string ⟨#[103, 114, 111, 117, 112, 40, 106, 111, 105, 110, 40, 116, 44, 32, 102, 105, 108, 116, 101, 114, 40, 117, 44, 32, 97, 32, 60, 32, 51, 41, 44, 32, 97, 32, 61, 32, 98, 41, 44, 32, 98, 121, 32, 97, 32, 98, 44, 32, 110, 32, 61, 32, 99, 111, 117, 110, 116, 40, 41, 44, 32, 109, 32, 61, 32, 109, 97, 120, 40, 99, 41, 41]⟩] w0 (ParseQPost w0 (aliveQT, 0, 0)) by
  have h := pparseQ_any ⟨aliveQS.toArray⟩ (by decide) m w0 (he.next hb)
  rw [show (⟨aliveQS.toArray⟩ : ByteArray).data.toList = aliveQS from rfl, aliveQ_1, aliveQ_bytes] at h
  exact h))
 have H2 := Lib.hid (fun (w0 : World) (hb : Below w.heap.size w w0) => (show Calls Tryz.prog 8 #[.string ⟨#[112, 114, 111, 106, 101, 99, 116, 40, 116, 41]⟩] w0 (ParseQPost w0 (zeroN, 9, 91)) by
  have h := pparseQ_any ⟨#[112, 114, 111, 106, 101, 99, 116, 40, 116, 41]⟩ (by decide) m w0 (he.next hb)
  rw [show (⟨#[112, 114, 111, 106, 101, 99, 116, 40, 116, 41]⟩ : ByteArray).data.toList = [112, 114, 111, 106, 101, 99, 116, 40, 116, 41] from rfl, aliveQ_2] at h
  exact h))
 have HL := Lib.hid (fun (S : Nat → Prop) (op tx : ByteArray) (X : Option Addr) (n k : Nat) (w0 : World) (hS : ∀ g, S g → g < w0.heap.size) (hn : RIn w0 S aliveQT (op, tx, X, n, k)) => (show Calls Tryz.prog 19 #[.agg #[.string op, .string tx, .slice X n k]] w0 (fun e w' => ∃ (A : Option Addr) (cap : Nat), e = .returned (.slice A 2 cap) ∧ At sc 1 w' w'.heap.size A [[116], [117]] ∧ Below w0.heap.size w0 w') by
  have h := pLeaves_any aliveQT S op tx X n k w0 hS hn (by rw [aliveQ_leaves]; decide)
  rw [aliveQ_leaves] at h
  exact h))
 have HSH := Lib.hid (fun (S : Nat → Prop) (op tx : ByteArray) (X : Option Addr) (n k : Nat) (w0 : World) (hb : Below w.heap.size w w0) (hS : ∀ g, S g → g < w0.heap.size) (hn : RIn w0 S aliveQT (op, tx, X, n, k)) => (show Calls Tryz.prog 16 #[.agg #[.string op, .string tx, .slice X n k]] w0 (fun e w' => e = .returned (.string ⟨#[103, 114, 111, 117, 112, 40, 106, 111, 105, 110, 40, 116, 44, 32, 102, 105, 108, 116, 101, 114, 40, 117, 44, 32, 97, 32, 60, 32, 51, 41, 44, 32, 97, 32, 61, 32, 98, 41, 44, 32, 98, 121, 32, 97, 32, 98, 44, 32, 110, 32, 61, 32, 99, 111, 117, 110, 116, 40, 41, 44, 32, 109, 32, 61, 32, 109, 97, 120, 40, 99, 41, 41]⟩) ∧ Below w0.heap.size w0 w') by
  have h := pShow_any aliveQT aliveQ_tot (by rw [aliveQ_show]; decide) m S op tx X n k w0 (he.next hb) hS hn
  rw [aliveQ_show, aliveQ_bytes] at h
  exact h))
 clear he
 go_enter Tryz.func7, Tryz.ntmps7
 go_wp2_with fail
 refine (H1.out _ (Below.refl _ _)).mono ?_
 rintro e w1 ⟨op, tx, X, n, k, rfl, hn1, hb1⟩
 have z1 := hb1.size
 obtain ⟨W1, hW1⟩ : ∃ W1, w1.alloc (.cells #[.string op, .string tx, .slice X n k] 25) = W1 := ⟨_, rfl⟩
 have zW1 : W1.heap.size = w1.heap.size + 1 := by rw [← hW1]; simp
 have L1 := Lib.hid (show Below w.heap.size w W1 by rw [← hW1]; exact hb1.alloc z1 _)
 have I1 := Lib.hid (show RIn W1 (fun g => g < w1.heap.size) aliveQT (op, tx, X, n, k) by rw [← hW1]; exact (hn1.imp (S' := fun g => g < w1.heap.size) (fun g hg => hg.2)).alloc (fun g hg => hg) _)
 have V1 := Lib.hid (show NBox W1 w1.heap.size (.string op) (.string tx) (.slice X n k) by rw [← hW1]; exact NBox.fresh _ _ _ _ _)
 have ZW1 := Lib.hid zW1
 have HW1 := Lib.hid hW1
 clear hb1 hn1 hW1 zW1
 go_upto_region 3 with fail
 rw [HW1.out]
 go_wp2_with fail
 refine (H2.out _ L1.out).mono ?_
 rintro e w2 ⟨op2, tx2, X2, n2, k2, rfl, hn2, hb2⟩
 have z2 : w1.heap.size < w2.heap.size := by have := hb2.size; have := ZW1.out; omega
 obtain ⟨W2, hW2⟩ : ∃ W2, w2.alloc (.cells #[.string op2, .string tx2, .slice X2 n2 k2] 25) = W2 := ⟨_, rfl⟩
 have zW2 : w1.heap.size < W2.heap.size := by rw [← hW2]; simp; omega
 have zw2 : w.heap.size ≤ W2.heap.size := by omega
 have L2 := Lib.hid (show Below w.heap.size w W2 by rw [← hW2]; exact (L1.out.trans (hb2.mono (by have := ZW1.out; omega))).alloc (by omega) _)
 have G2 := Lib.hid (show Below W1.heap.size W1 W2 by rw [← hW2]; exact hb2.alloc hb2.size _)
 have I2 := Lib.hid (I1.out.bel (fun g hg => by have h9 : g < w1.heap.size := hg; have := ZW1.out; omega) G2.out)
 have V2 := Lib.hid (V1.out.below G2.out)
 have HW2 := Lib.hid hW2
 clear hb2 hn2 hW2
 go_upto_region 4 with fail
 rw [HW2.out]
 obtain ⟨v0, v1, v2, vf⟩ := V2.out
 go_wp2_with fail
 refine (HL.out _ _ _ _ _ _ _ (fun g hg => by have h9 : g < w1.heap.size := hg; omega) I2.out).mono ?_
 rintro e w3 ⟨A, cap, rfl, hA, hb3⟩
 have z3 : w1.heap.size < w3.heap.size := by have := hb3.size; omega
 have L3 := Lib.hid (L2.out.trans (hb3.mono zw2))
 have I3 := Lib.hid (I2.out.bel (fun g hg => by have h9 : g < w1.heap.size := hg; omega) hb3)
 have V3 := Lib.hid (V2.out.below hb3)
 obtain ⟨ad, eA, hab, hc⟩ := hA 1 (by decide)
 have hcell := hc 0 _ rfl
 subst eA
 have HA := Lib.hid hab
 have HCC := Lib.hid hcell
 clear hb3 hA hc hab hcell v0 v1 v2 vf
 obtain ⟨v0, v1, v2, vf⟩ := V3.out
 go_wp2_with fail
 refine (HSH.out _ _ _ _ _ _ _ L3.out (fun g hg => by have h9 : g < w1.heap.size := hg; omega) I3.out).mono ?_
 rintro e w4 ⟨rfl, hb4⟩
 have L4 := Lib.hid (L3.out.trans (hb4.mono (by omega)))
 have c1 : w4.cell? ⟨ad.block, ad.off + 1, none⟩ = some (.string ⟨#[117]⟩) := by
  have h9 : w3.cell? ⟨ad.block, ad.off + 1, none⟩ = some (.string ⟨#[117]⟩) := by
   have h8 := HCC.out
   simpa [Addr.add] using h8
  exact (hb4.cell (p := ⟨ad.block, ad.off + 1, none⟩) HA.out).trans h9
 clear hb4 v0 v1 v2 vf
 go_wp2
 go_ret
 exact ⟨by simp, L4.out⟩
end Go.Proofs.YtjbpkpfmgbhlpaaGreatDoor.Code
/-
  How a law's row is shut, whatever its arguments are: where a law returns true and nothing that was there has changed ('Below'), each argument reads behind the call as it read before.
-/
namespace Go.Proofs.YtjbpkpfmgbhlpaaGreatDoor.Law
open Go.ChangeShapes Go.WideShapes Go.WideElems Go.RowKit
section
variable {H : Type} {enc : TypeId × Value → H} {P : Program}
def rowed (P : Program) (ts : List TypeId) : Bool := ts.all fun t => P.readableRec t && decide (t < P.types.size)
theorem stays (hl : laidOutB P = true) {W W' : World} (hb : Below W.heap.size W W') : ∀ {ts : List TypeId} {vs : List Value} {ds : List (DataW H)} {ps : List MemPlace},
  rowed P ts = true → DataW.TrodAll enc P W 0 (fun _ => true) true ts vs ds ps → (∀ p ∈ ps, p.block < W.heap.size) →
  DataW.TrodAll enc P W' 0 (fun b => decide (b < W.heap.size)) true ts vs ds ps
 | [], _, _, _, _, h, _ => by
  obtain ⟨rfl, rfl, rfl⟩ := trodAll_nil h
  exact rfl
 | t :: ts, _, _, _, hr, h, hlt => by
  obtain ⟨v, vs, d, ds, p, q, rfl, rfl, rfl, ⟨fuel, h1⟩, h2⟩ := trodAll_cons h
  simp only [rowed, List.all_cons, Bool.and_eq_true, decide_eq_true_eq] at hr
  have hp : ∀ x ∈ p, x.block < W.heap.size := fun x hx => hlt x (List.mem_append_left _ hx)
  refine ⟨p, q, ⟨fuel, ?_⟩, stays hl hb (by simpa [rowed] using hr.2) h2 (fun x hx => hlt x (List.mem_append_right _ hx)), rfl⟩
  exact DataW.trod_stays (kids_book hl hr.1.1) (book_sized hr.1.1) (fun h => by cases h) ⟨hr.1.2, book_self t⟩ h1 (fun x hx => hb.same (hp x hx)) (fun x hx => by simpa using hp x hx)
theorem post_true (hl : laidOutB P = true) {f : Func} (hr : rowed P f.params.toList = true) {s : ChangeSpec} (hs : s.vars = []) {tb : TypeId} (hres : f.resultTypes = #[tb]) (hbool : P.underlying tb = some .bool)
  {W W' : World} {args : Array Value} {ds gs : List (DataW H)} {before : List MemPlace} (hW : DataW.Whole enc P f.params.toList s.vars false W args.toList ds gs before)
  (hfn : s.fn H (ds ++ gs) = { results := [.lit (.bool true)], args := ds }) (hb : Below W.heap.size W W') :
  s.post enc P f false true false false W args (.bool true) W' := by
 have hlt : ∀ p ∈ before, p.block < W.heap.size := fun p hp => hW.lt p hp
 have hW2 := hW
 obtain ⟨p, q, hA, hV, rfl, _, _⟩ := hW2
 refine ⟨ds, gs, p ++ q, [], p, [], hW, ?_, ?_, ?_, ?_, ?_⟩
 ·rw [hfn, hres]
  exact trodAll_cons_mk (shut_bool hbool true) trodAll_mk0
 ·rw [hfn]
  exact stays hl hb hr hA (fun x hx => hlt x (List.mem_append_left _ hx))
 ·rw [hfn, hs]
  exact rfl
 ·exact hb.frame _
 ·intro h
  cases h
end
end Go.Proofs.YtjbpkpfmgbhlpaaGreatDoor.Law
/-
  A law whose row lists package-level variables: how it is lifted, the world's shape kept beside what is listed; and a value's three parts opened.
-/
namespace Go.Proofs.YtjbpkpfmgbhlpaaGreatDoor.Law
open Go.Joins Go.ChangeShapes Go.WideShapes Go.WideElems Go.RowKit Go.Deep
section
variable {H : Type} {enc : TypeId × Value → H}
end
section
variable {H : Type} {enc : TypeId × Value → H} {P : Program} {w : World} {base : Nat} {spare : Nat → Bool} {held : Bool}
end
end Go.Proofs.YtjbpkpfmgbhlpaaGreatDoor.Law
/-
  Arguments that came in, opened: a list of values (a row), of numbers, of rows. No function is named.
-/
namespace Go.Proofs.YtjbpkpfmgbhlpaaGreatDoor.RowOpen
open Go.ChangeShapes Go.WideShapes Go.ChangeAt Go.RowKit Go.Deep Val Go.Proofs.YtjbpkpfmgbhlpaaGreatDoor.Code
set_option linter.unusedVariables false
section
variable {H : Type} {enc : TypeId × Value → H} {P : Program} {w : World} {base : Nat} {spare : Nat → Bool} {held : Bool}
end
theorem glob_of {laid : List (String × DataW Unit)} {d : DataW Unit} {m : Int} {W : World} (hL : laidMetH Tryz.prog laid W) (hp : (laid.all fun x => x.2.handleName?.isNone) = true) (hf : laid.filter (fun x => x.1 == "internal/strconv.uint64pow10") = [("internal/strconv.uint64pow10", d)]) (hd : d = Lib.tabData .u64 Lib.pow10Tab)
  (hm : W.cell? ⟨0, 0, none⟩ = some (.int .i64 m)) : Glob W.heap.size m W := by
 rw [Go.MakeChecks.laidMetH_plain _ _ _ hp] at hL
 have h := hL.filter (fun x => x.1 == "internal/strconv.uint64pow10")
 rw [hf, hd] at h
 have tab : Lib.TabIs Tryz.prog W "internal/strconv.uint64pow10" .u64 Lib.pow10Tab := by
  obtain ⟨n, t, e, h1, h2, h3, h4, h5⟩ : ∃ (n : Nat) (t e : TypeId), (Tryz.prog.globals[3]?).map (·.type) = some t ∧ Tryz.prog.underlying t = some (.array n e) ∧ Tryz.prog.underlying e = some (.int .u64) ∧ Tryz.prog.cellsOf e = 1 ∧ Tryz.prog.cellsOf t = n :=
   ⟨20, 187, 177, by kernel_rfl, by kernel_rfl, by kernel_rfl, by kernel_rfl, by kernel_rfl⟩
  exact Lib.tabIs_of_head glob_pow h1 h2 h3 h4 h5 h
 refine ⟨World.block_lt_of_cell? _ _ hm, ?_, hm, tab⟩
 unfold Lib.TabIs at tab
 simp only [World.var?, glob_pow, Option.bind_some] at tab
 by_cases hlt : 3 < W.heap.size
 ·exact hlt
 ·rw [Array.getElem?_eq_none (by omega)] at tab
  cases tab
theorem star_err : "*" ++ "errors.errorString" = "*errors.errorString" := by decide
theorem row_err (u : TypeId) (h : Tryz.prog.typeName? 3 u = some "*errors.errorString") : u = 209 :=
 typeName_ptr_named (nm := "errors.errorString") (by rw [star_err]; kernel_rfl) (by kernel_rfl) (by decide) u (by rw [star_err]; exact h)
theorem err_of {laid : List (String × DataW Unit)} {tx : List UInt8} {W : World} (hL : laidMetH Tryz.prog laid W) (hp : (laid.all fun x => x.2.handleName?.isNone) = true)
  (he : laid.filter (fun x => x.1 == "strconv.ErrRange") = [("strconv.ErrRange", .iface "*errors.errorString" (.ptr (.agg [.lit (.string tx)])))]) : ∃ te pe, W.cell? ⟨7, 0, none⟩ = some (.iface te pe) := by
 rw [Go.MakeChecks.laidMetH_plain _ _ _ hp] at hL
 have h := hL.filter (fun x => x.1 == "strconv.ErrRange")
 rw [he] at h
 have hg : Tryz.prog.globalNamed "strconv.ErrRange" = some 7 := by kernel_rfl
 obtain ⟨a, s, hv, _⟩ := laid_sentinel h hg (ti := 103) (by kernel_rfl) Tryz.underlying103 (tp := 209) (te := 211) (ts := 9)
  row_err Tryz.underlying209 Tryz.underlying211 rfl rfl Tryz.underlying9 (by kernel_rfl) (by kernel_rfl)
 exact ⟨_, _, by have := World.var?_cell hg hv 0; simpa using this⟩
theorem env_of {laid : List (String × DataW Unit)} {d : DataW Unit} {tx : List UInt8} {m : Int} {W : World} (hL : laidMetH Tryz.prog laid W) (hp : (laid.all fun x => x.2.handleName?.isNone) = true) (hf : laid.filter (fun x => x.1 == "internal/strconv.uint64pow10") = [("internal/strconv.uint64pow10", d)]) (hd : d = Lib.tabData .u64 Lib.pow10Tab)
  (he : laid.filter (fun x => x.1 == "strconv.ErrRange") = [("strconv.ErrRange", .iface "*errors.errorString" (.ptr (.agg [.lit (.string tx)])))])
  (hm : W.cell? ⟨0, 0, none⟩ = some (.int .i64 m)) : Env W.heap.size m W := by
 obtain ⟨te, pe, hc⟩ := err_of hL hp he
 exact ⟨glob_of hL hp hf hd hm, World.block_lt_of_cell? _ _ hc, te, pe, hc⟩
end Go.Proofs.YtjbpkpfmgbhlpaaGreatDoor.RowOpen
