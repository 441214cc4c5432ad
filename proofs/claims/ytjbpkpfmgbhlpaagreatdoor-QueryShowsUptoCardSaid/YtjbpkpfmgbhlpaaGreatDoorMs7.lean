/-
  The document's part: what stands behind a query in its brackets.
-/
import Derived.Test.YtjbpkpfmgbhlpaaGreatDoorMs6
import Derived.Deep.RegionHeld3
set_option maxRecDepth 100000
set_option maxHeartbeats 16000000
open Go.Lib (hid)
namespace Go.Proofs.YtjbpkpfmgbhlpaaGreatDoor.Code
open Go.ChangeShapes Go.WideShapes Go.ChangeAt Go.RowKit Val Elems
set_option linter.unusedVariables false
set_option linter.unusedSimpArgs false
def SaysT (fn : Nat) (sh : List UInt8) (t : Nod) : Prop := ∀ (S : Nat → Prop) (op tx : ByteArray) (X : Option Addr) (n m : Nat) (w : World), (∀ g, S g → g < w.heap.size) → RIn w S t (op, tx, X, n, m) →
  Calls Tryz.prog fn #[.agg #[.string op, .string tx, .slice X n m]] w fun e w' => e = .returned (.string ⟨sh.toArray⟩) ∧ Below w.heap.size w w'
def PartP (o : List UInt8) (t : Nod) (sh : List UInt8) (w : World) (e : Ending) (w' : World) : Prop := ∃ s : ByteArray, e = .returned (.tuple #[.string s, .bool (partQ o t sh).isSome]) ∧ (∀ b, partQ o t sh = some b → s.data.toList = b) ∧ Below w.heap.size w w'
theorem qpart_filter (t : Nod) (sh : List UInt8) (S : Nat → Prop) (op tx : ByteArray) (X : Option Addr) (n m : Nat) (w : World) (hS : ∀ g, S g → g < w.heap.size) (hn : RIn w S t (op, tx, X, n, m)) (hsay : SaysT 68 (showE t) t) :
  Calls Tryz.prog 37 #[.string ⟨#[102, 105, 108, 116, 101, 114]⟩, .agg #[.string op, .string tx, .slice X n m]] w (PartP sFilter t sh w) := by
 have HS := hid hS
 have HN := hid hn
 have HY := hid hsay
 have hp : partQ sFilter t sh = some (showE t) := by
  unfold partQ
  rw [if_pos rfl]
 have HP := hid hp
 obtain ⟨T, hT⟩ : ∃ T : ByteArray, ⟨(showE t).toArray⟩ = T := ⟨_, rfl⟩
 have HT := hid (show T.data.toList = showE t by rw [← hT])
 unfold SaysT at HY
 rw [hT] at HY
 obtain ⟨w0, hw0⟩ : ∃ w0, w.alloc (.cells #[.string op, .string tx, .slice X n m] 25) = w0 := ⟨_, rfl⟩
 have N0 := hid (show NBox w0 w.heap.size (.string op) (.string tx) (.slice X n m) by rw [← hw0]; exact NBox.fresh _ _ _ _ _)
 have B0 := hid (show Below w.heap.size w w0 by rw [← hw0]; exact below_alloc _ _)
 have I0 := hid (show RIn w0 S t (op, tx, X, n, m) by rw [← hw0]; exact hn.alloc hS _)
 have hz := B0.out.size
 obtain ⟨x0, x1, x2, xf⟩ := N0.out
 rw [← hw0] at x0 x1 x2
 have HW0 := hid hw0
 clear hS hn hsay hp hT hw0
 go_enter Tryz.func37, Tryz.ntmps37
 go_wp2_with fail
 rw [HW0.out]
 refine (HY.out S op tx X n m w0 (fun g hg => Nat.lt_of_lt_of_le (HS.out g hg) hz) I0.out).mono ?_
 rintro e w1 ⟨rfl, hb1⟩
 have B1 := hid (B0.out.trans (hb1.mono hz))
 clear hb1 x0 x1 x2 xf HW0
 go_wp2
 exact bodyPost_ret (v := .tuple #[.string T, .bool true]) (by simp [results, Tryz.results37, go_sem]) rfl
  ⟨T, by rw [HP.out]; rfl, fun b hb => (by rw [HP.out] at hb; cases hb; exact HT.out), B1.out⟩
theorem qpart_union (t : Nod) (sh : List UInt8) (S : Nat → Prop) (op tx : ByteArray) (X : Option Addr) (n m : Nat) (w : World) (hS : ∀ g, S g → g < w.heap.size) (hn : RIn w S t (op, tx, X, n, m)) (hsay : SaysT 17 (sh) t) :
  Calls Tryz.prog 37 #[.string ⟨#[117, 110, 105, 111, 110]⟩, .agg #[.string op, .string tx, .slice X n m]] w (PartP sUnion t sh w) := by
 have HS := hid hS
 have HN := hid hn
 have HY := hid hsay
 have hp : partQ sUnion t sh = some (sh) := by
  unfold partQ
  rw [if_neg (by decide), if_pos rfl]
 have HP := hid hp
 obtain ⟨T, hT⟩ : ∃ T : ByteArray, ⟨(sh).toArray⟩ = T := ⟨_, rfl⟩
 have HT := hid (show T.data.toList = sh by rw [← hT])
 unfold SaysT at HY
 rw [hT] at HY
 obtain ⟨w0, hw0⟩ : ∃ w0, w.alloc (.cells #[.string op, .string tx, .slice X n m] 25) = w0 := ⟨_, rfl⟩
 have N0 := hid (show NBox w0 w.heap.size (.string op) (.string tx) (.slice X n m) by rw [← hw0]; exact NBox.fresh _ _ _ _ _)
 have B0 := hid (show Below w.heap.size w w0 by rw [← hw0]; exact below_alloc _ _)
 have I0 := hid (show RIn w0 S t (op, tx, X, n, m) by rw [← hw0]; exact hn.alloc hS _)
 have hz := B0.out.size
 obtain ⟨x0, x1, x2, xf⟩ := N0.out
 rw [← hw0] at x0 x1 x2
 have HW0 := hid hw0
 clear hS hn hsay hp hT hw0
 go_enter Tryz.func37, Tryz.ntmps37
 go_wp2_with fail
 rw [HW0.out]
 refine (HY.out S op tx X n m w0 (fun g hg => Nat.lt_of_lt_of_le (HS.out g hg) hz) I0.out).mono ?_
 rintro e w1 ⟨rfl, hb1⟩
 have B1 := hid (B0.out.trans (hb1.mono hz))
 clear hb1 x0 x1 x2 xf HW0
 go_wp2
 exact bodyPost_ret (v := .tuple #[.string T, .bool true]) (by simp [results, Tryz.results37, go_sem]) rfl
  ⟨T, by rw [HP.out]; rfl, fun b hb => (by rw [HP.out] at hb; cases hb; exact HT.out), B1.out⟩
theorem get_zero {t : Nod} (h : 0 < t.ks.length) : nthN t.ks 0 = t.ks[0] := by
 unfold nthN
 rw [List.getD_eq_getElem?_getD, List.getElem?_eq_getElem h]
 rfl
theorem qpart_project_no (t : Nod) (sh : List UInt8) (S : Nat → Prop) (op tx : ByteArray) (X : Option Addr) (n m : Nat) (w : World) (hS : ∀ g, S g → g < w.heap.size) (hn : RIn w S t (op, tx, X, n, m)) (hi : isE t sItem 1 = false) :
  Calls Tryz.prog 37 #[.string ⟨#[112, 114, 111, 106, 101, 99, 116]⟩, .agg #[.string op, .string tx, .slice X n m]] w (PartP sProject t sh w) := by
 have hI := qis_any op tx X n m ⟨#[105, 116, 101, 109]⟩ 1
 obtain ⟨eo, et, en, hkl⟩ := hn.texts
 dsimp only at eo et en
 have hie : (op.data.toList == (⟨#[105, 116, 101, 109]⟩ : ByteArray).data.toList && n == 1) = isE t sItem 1 := by
  rw [eo, en]
  rfl
 rw [hie, hi] at hI
 have HI := hid hI
 have hp : partQ sProject t sh = none := by
  unfold partQ
  rw [if_neg (by decide), if_neg (by decide), if_pos rfl, if_neg (by rw [hi]; decide)]
 have HP := hid hp
 obtain ⟨w0, hw0⟩ : ∃ w0, w.alloc (.cells #[.string op, .string tx, .slice X n m] 25) = w0 := ⟨_, rfl⟩
 have N0 := hid (show NBox w0 w.heap.size (.string op) (.string tx) (.slice X n m) by rw [← hw0]; exact NBox.fresh _ _ _ _ _)
 have B0 := hid (show Below w.heap.size w w0 by rw [← hw0]; exact below_alloc _ _)
 have hz := B0.out.size
 obtain ⟨x0, x1, x2, xf⟩ := N0.out
 rw [← hw0] at x0 x1 x2
 have HW0 := hid hw0
 clear hS hn hi hI hie hp hw0 eo et en
 go_enter Tryz.func37, Tryz.ntmps37
 go_wp2_with fail
 rw [HW0.out]
 refine (HI.out w0).mono ?_
 rintro e w1 ⟨rfl, hb1⟩
 have B1 := hid (B0.out.trans (hb1.mono hz))
 clear hb1 x0 x1 x2 xf HW0
 go_wp2
 exact bodyPost_ret (v := .tuple #[.string ⟨#[]⟩, .bool false]) (by simp [results, Tryz.results37, go_sem]) rfl
  ⟨⟨#[]⟩, by rw [HP.out]; rfl, fun b hb => (by rw [HP.out] at hb; cases hb), B1.out⟩
theorem tot_tx (t : Nod) : t.tx.length ≤ t.tot ∧ t.op.length ≤ t.tot := by cases t; simp only [Nod.tot, Nod.tx, Nod.op]; omega
theorem tot_kid (t : Nod) (i : Nat) (h : i < t.ks.length) : t.ks[i].tot ≤ t.tot := by
 have := tot_mem (List.getElem_mem h)
 cases t
 simp only [Nod.tot, Nod.ks] at *
 omega
theorem RIn.first {w : World} {S : Nat → Prop} {t : Nod} {op tx : ByteArray} {X : Option Addr} {n m : Nat} (h : RIn w S t (op, tx, X, n, m)) (h1 : 0 < t.ks.length) :
  ∃ (ad : Addr) (op1 tx1 : ByteArray) (X1 : Option Addr) (n1 m1 : Nat), X = some ad ∧ S ad.block ∧ w.cell? ad = some (.string op1) ∧ w.cell? ⟨ad.block, ad.off + 1, none⟩ = some (.string tx1) ∧ w.cell? ⟨ad.block, ad.off + 2, none⟩ = some (.slice X1 n1 m1) ∧ RIn w S (nthN t.ks 0) (op1, tx1, X1, n1, m1) := by
 obtain ⟨ad, ⟨op1, tx1, X1, n1, m1⟩, e, hs, c0, c1, c2, hk⟩ := h.kid 0 h1
 dsimp only at e c0 c1 c2
 have e0 : ad.add (0 * 3) = ad := by simp [Addr.add]
 rw [e0] at c0 c1 c2
 rw [get_zero h1]
 exact ⟨ad, op1, tx1, X1, n1, m1, e, hs, c0, c1, c2, hk⟩
theorem qpart_project (t : Nod) (sh : List UInt8) (htot : t.tot ≤ 1000000) (hi : isE t sItem 1 = true) (hsay : RShows (nthN t.ks 0)) (hlen : (showE (nthN t.ks 0)).length ≤ 900000) (S : Nat → Prop) (op tx : ByteArray) (X : Option Addr) (n m : Nat) (w : World) (hS : ∀ g, S g → g < w.heap.size) (hn : RIn w S t (op, tx, X, n, m)) :
  Calls Tryz.prog 37 #[.string ⟨#[112, 114, 111, 106, 101, 99, 116]⟩, .agg #[.string op, .string tx, .slice X n m]] w (PartP sProject t sh w) := by
 have hI := qis_any op tx X n m ⟨#[105, 116, 101, 109]⟩ 1
 obtain ⟨eo, et, en, hkl⟩ := hn.texts
 dsimp only at eo et en
 have hie : (op.data.toList == (⟨#[105, 116, 101, 109]⟩ : ByteArray).data.toList && n == 1) = isE t sItem 1 := by
  rw [eo, en]
  rfl
 rw [hie, hi] at hI
 have HI := hid hI
 have hp : partQ sProject t sh = some (t.tx ++ [32, 61, 32] ++ showE (nthN t.ks 0)) := by
  unfold partQ
  rw [if_neg (by decide), if_neg (by decide), if_pos rfl, if_pos hi]
 have HP := hid hp
 have h1 : 0 < t.ks.length := by simp [isE] at hi; omega
 obtain ⟨ad, op1, tx1, X1, n1, m1, rfl, hSa, q0, q1, q2, hk⟩ := hn.first h1
 have had := hS _ hSa
 have hn1 : n = 1 := by simp [isE] at hi; omega
 subst hn1
 have htx : tx.data.toList = t.tx := by rw [et]
 have hts : tx.size = t.tx.length := by rw [et]; rfl
 have hb9 := (tot_tx t).1
 obtain ⟨K, hK⟩ : ∃ K, nthN t.ks 0 = K := ⟨_, rfl⟩
 rw [hK] at hk hsay hlen HP
 obtain ⟨T, hT⟩ : ∃ T : ByteArray, ⟨(showE K).toArray⟩ = T := ⟨_, rfl⟩
 have hTs : T.size ≤ 900000 := by rw [← hT]; exact hlen
 unfold RShows at hsay
 rw [hT] at hsay
 have HY := hid hsay
 have HS := hid hS
 have HK := hid hk
 have r1 : ∀ w, (Op.stringOp .add tx ⟨#[32, 61, 32]⟩).run Tryz.prog w = .ok (.string (tx ++ ⟨#[32, 61, 32]⟩)) w := fun w => run_string_add_sum w _ _ (by show tx.size + 3 ≤ _; omega)
 obtain ⟨s1, hs1⟩ : ∃ s : ByteArray, tx ++ ⟨#[32, 61, 32]⟩ = s := ⟨_, rfl⟩
 have z1s : s1.size = tx.size + 3 := by rw [← hs1, ByteArray.size_append]; rfl
 have r2 : ∀ w, (Op.stringOp .add s1 T).run Tryz.prog w = .ok (.string (s1 ++ T)) w := fun w => run_string_add_sum w _ _ (by omega)
 obtain ⟨s2, hs2⟩ : ∃ s : ByteArray, s1 ++ T = s := ⟨_, rfl⟩
 have HR := hid (show s2.data.toList = t.tx ++ [32, 61, 32] ++ showE K by rw [← hs2, ← hs1, ByteArray.data_append, ByteArray.data_append, Array.toList_append, Array.toList_append, htx, ← hT])
 rw [hs1] at r1
 rw [hs2] at r2
 have Q0 := hid q0
 have Q1 := hid q1
 have Q2 := hid q2
 obtain ⟨w0, hw0⟩ : ∃ w0, w.alloc (.cells #[.string op, .string tx, .slice (some ad) 1 m] 25) = w0 := ⟨_, rfl⟩
 have N0 := hid (show NBox w0 w.heap.size (.string op) (.string tx) (.slice (some ad) 1 m) by rw [← hw0]; exact NBox.fresh _ _ _ _ _)
 have B0 := hid (show Below w.heap.size w w0 by rw [← hw0]; exact below_alloc _ _)
 have hz0 : w.heap.size < w0.heap.size := by rw [← hw0]; simp
 have hz := B0.out.size
 obtain ⟨x0, x1, x2, xf⟩ := N0.out
 rw [← hw0] at x0 x1 x2
 have HW0 := hid hw0
 clear hS hn hi hI hie hp hw0 eo et en hkl htot hsay hlen h1 q0 q1 q2 hk htx hts hb9 hK hT hTs hs1 z1s hs2
 go_enter Tryz.func37, Tryz.ntmps37
 go_wp2_with fail
 rw [HW0.out]
 refine (HI.out w0).mono ?_
 rintro e w1 ⟨rfl, hb1⟩
 have B1 := hid (B0.out.trans (hb1.mono hz))
 have N1 := hid (N0.out.below hb1)
 have z1 : w.heap.size < w1.heap.size := by have := hb1.size; omega
 clear hb1 x0 x1 x2 xf HW0
 have FQ := hid (fun (w' : World) (hb : Below w1.heap.size w1 w') => (show w'.cell? ⟨w.heap.size, 1, none⟩ = some (.string tx) ∧ w'.cell? ⟨w.heap.size, 2, none⟩ = some (.slice (some ad) 1 m) ∧ w'.cell? ad = some (.string op1) ∧ w'.cell? ⟨ad.block, ad.off + 1, none⟩ = some (.string tx1) ∧ w'.cell? ⟨ad.block, ad.off + 2, none⟩ = some (.slice X1 n1 m1) from
  have hb0 : Below w.heap.size w w' := B1.out.trans (hb.mono (by omega))
  ⟨(N1.out.below hb).c1, (N1.out.below hb).c2, (hb0.cell had).trans Q0.out, (hb0.cell (p := ⟨ad.block, ad.off + 1, none⟩) had).trans Q1.out, (hb0.cell (p := ⟨ad.block, ad.off + 2, none⟩) had).trans Q2.out⟩))
 have HYY := hid (fun (w' : World) (hb : Below w1.heap.size w1 w') => have hb0 : Below w.heap.size w w' := B1.out.trans (hb.mono (by omega)); HY.out S op1 tx1 X1 n1 m1 w' (fun g hg => Nat.lt_of_lt_of_le (HS.out g hg) hb0.size) (HK.out.bel HS.out hb0))
 go_wp2_with fail
 go_region_held3 (fun w' => (w'.cell? ⟨w.heap.size, 1, none⟩ = some (.string tx) ∧ w'.cell? ⟨w.heap.size, 2, none⟩ = some (.slice (some ad) 1 m) ∧ w'.cell? ad = some (.string op1) ∧ w'.cell? ⟨ad.block, ad.off + 1, none⟩ = some (.string tx1) ∧ w'.cell? ⟨ad.block, ad.off + 2, none⟩ = some (.slice X1 n1 m1)) ∧ Below w1.heap.size w1 w')
  (first | assumption | (exact keepB hb5 (by assumption) (FQ.out _)) | (exact ⟨FQ.out _ (Below.refl _ _).drew, (Below.refl _ _).drew⟩))
  (first | (go_at_call 68; with_reducible refine (HYY.out _ ?cv).mono ?_; (case cv => exact (by assumption : _ ∧ Below w1.heap.size w1 _).2); rintro e w5 ⟨rfl, hb5⟩))
 have B5 := hid (B1.out.trans ((show Below w1.heap.size w1 w5 by rename_i hS; exact hS.2).mono (by omega)))
 go_wp2
 exact bodyPost_ret (v := .tuple #[.string s2, .bool true]) (by simp [results, Tryz.results37, go_sem]) rfl
  ⟨s2, by rw [HP.out]; rfl, fun b hb => (by rw [HP.out] at hb; cases hb; exact HR.out), B5.out⟩
theorem qpart_join_no (t : Nod) (sh : List UInt8) (htot : t.tot ≤ 1000000) (hi : isE t sOn 1 = false) (S : Nat → Prop) (op tx : ByteArray) (X : Option Addr) (n m : Nat) (w : World) (hS : ∀ g, S g → g < w.heap.size) (hn : RIn w S t (op, tx, X, n, m)) :
  Calls Tryz.prog 37 #[.string ⟨#[106, 111, 105, 110]⟩, .agg #[.string op, .string tx, .slice X n m]] w (PartP sJoin t sh w) := by
 have hI := qis_any op tx X n m ⟨#[111, 110]⟩ 1
 obtain ⟨eo, et, en, hkl⟩ := hn.texts
 dsimp only at eo et en
 have hie : (op.data.toList == (⟨#[111, 110]⟩ : ByteArray).data.toList && n == 1) = isE t sOn 1 := by
  rw [eo, en]
  rfl
 rw [hie, hi] at hI
 have HI := hid hI
 have hp : partQ sJoin t sh = none := by
  unfold partQ
  rw [if_neg (by decide), if_neg (by decide), if_neg (by decide), if_pos rfl, if_neg (by rw [hi]; simp)]
 have HP := hid hp
 obtain ⟨w0, hw0⟩ : ∃ w0, w.alloc (.cells #[.string op, .string tx, .slice X n m] 25) = w0 := ⟨_, rfl⟩
 have N0 := hid (show NBox w0 w.heap.size (.string op) (.string tx) (.slice X n m) by rw [← hw0]; exact NBox.fresh _ _ _ _ _)
 have B0 := hid (show Below w.heap.size w w0 by rw [← hw0]; exact below_alloc _ _)
 have hz0 : w.heap.size < w0.heap.size := by rw [← hw0]; simp
 have hz := B0.out.size
 obtain ⟨x0, x1, x2, xf⟩ := N0.out
 rw [← hw0] at x0 x1 x2
 have HW0 := hid hw0
 clear hS hn hi hI hie hp hw0 eo et en hkl htot
 go_enter Tryz.func37, Tryz.ntmps37
 go_wp2_with fail
 rw [HW0.out]
 refine (HI.out w0).mono ?_
 rintro e w1 ⟨rfl, hb1⟩
 have B1 := hid (B0.out.trans (hb1.mono hz))
 have N1 := hid (N0.out.below hb1)
 have z1 : w.heap.size < w1.heap.size := by have := hb1.size; omega
 clear hb1 x0 x1 x2 xf HW0
 go_wp2
 exact bodyPost_ret (v := .tuple #[.string ⟨#[]⟩, .bool false]) (by simp [results, Tryz.results37, go_sem]) rfl
  ⟨⟨#[]⟩, by rw [HP.out]; rfl, fun b hb => (by rw [HP.out] at hb; cases hb), B1.out⟩
theorem qpart_join_no2 (t : Nod) (sh : List UInt8) (htot : t.tot ≤ 1000000) (hi : isE t sOn 1 = true) (hj : isE (nthN t.ks 0) sCol 0 = false) (S : Nat → Prop) (op tx : ByteArray) (X : Option Addr) (n m : Nat) (w : World) (hS : ∀ g, S g → g < w.heap.size) (hn : RIn w S t (op, tx, X, n, m)) :
  Calls Tryz.prog 37 #[.string ⟨#[106, 111, 105, 110]⟩, .agg #[.string op, .string tx, .slice X n m]] w (PartP sJoin t sh w) := by
 have hI := qis_any op tx X n m ⟨#[111, 110]⟩ 1
 obtain ⟨eo, et, en, hkl⟩ := hn.texts
 dsimp only at eo et en
 have hie : (op.data.toList == (⟨#[111, 110]⟩ : ByteArray).data.toList && n == 1) = isE t sOn 1 := by
  rw [eo, en]
  rfl
 rw [hie, hi] at hI
 have HI := hid hI
 have hp : partQ sJoin t sh = none := by
  unfold partQ
  rw [if_neg (by decide), if_neg (by decide), if_neg (by decide), if_pos rfl, if_neg (by rw [hi, hj]; simp)]
 have HP := hid hp
 have h1 : 0 < t.ks.length := by simp [isE] at hi; omega
 obtain ⟨ad, op1, tx1, X1, n1, m1, rfl, hSa, q0, q1, q2, hk⟩ := hn.first h1
 have had := hS _ hSa
 have hn1 : n = 1 := by simp [isE] at hi; omega
 subst hn1
 have htx : tx.data.toList = t.tx := by rw [et]
 have hts : tx.size = t.tx.length := by rw [et]; rfl
 have hb9 := (tot_tx t).1
 obtain ⟨K, hK⟩ : ∃ K, nthN t.ks 0 = K := ⟨_, rfl⟩
 rw [hK] at hk hj
 try rw [hK] at HP
 have hI2 := qis_any op1 tx1 X1 n1 m1 ⟨#[99, 111, 108]⟩ 0
 obtain ⟨eo1, et1, en1, -⟩ := hk.texts
 dsimp only at eo1 et1 en1
 have hie2 : (op1.data.toList == (⟨#[99, 111, 108]⟩ : ByteArray).data.toList && n1 == 0) = isE K sCol 0 := by
  rw [eo1, en1]
  rfl
 rw [hie2, hj] at hI2
 have HI2 := hid hI2
 have Q0 := hid q0
 have Q1 := hid q1
 have Q2 := hid q2
 obtain ⟨w0, hw0⟩ : ∃ w0, w.alloc (.cells #[.string op, .string tx, .slice (some ad) 1 m] 25) = w0 := ⟨_, rfl⟩
 have N0 := hid (show NBox w0 w.heap.size (.string op) (.string tx) (.slice (some ad) 1 m) by rw [← hw0]; exact NBox.fresh _ _ _ _ _)
 have B0 := hid (show Below w.heap.size w w0 by rw [← hw0]; exact below_alloc _ _)
 have hz0 : w.heap.size < w0.heap.size := by rw [← hw0]; simp
 have hz := B0.out.size
 obtain ⟨x0, x1, x2, xf⟩ := N0.out
 rw [← hw0] at x0 x1 x2
 have HW0 := hid hw0
 clear hS hn hi hI hie hp hw0 eo et en hkl htot hj h1 q0 q1 q2 hk htx hts hb9 hK hI2 eo1 et1 en1 hie2
 go_enter Tryz.func37, Tryz.ntmps37
 go_wp2_with fail
 rw [HW0.out]
 refine (HI.out w0).mono ?_
 rintro e w1 ⟨rfl, hb1⟩
 have B1 := hid (B0.out.trans (hb1.mono hz))
 have N1 := hid (N0.out.below hb1)
 have z1 : w.heap.size < w1.heap.size := by have := hb1.size; omega
 clear hb1 x0 x1 x2 xf HW0
 obtain ⟨c0, c1, c2, cf⟩ := N1.out
 have q0 := (B1.out.cell had).trans Q0.out
 have q1 := (B1.out.cell (p := ⟨ad.block, ad.off + 1, none⟩) had).trans Q1.out
 have q2 := (B1.out.cell (p := ⟨ad.block, ad.off + 2, none⟩) had).trans Q2.out
 go_wp2_with fail
 refine (HI2.out w1).mono ?_
 rintro e w2 ⟨rfl, hb2⟩
 have B2 := hid (B1.out.trans (hb2.mono (by omega)))
 have N2 := hid (N1.out.below hb2)
 have z2 : w.heap.size < w2.heap.size := by have := hb2.size; omega
 clear hb2 c0 c1 c2 cf q0 q1 q2
 go_wp2
 exact bodyPost_ret (v := .tuple #[.string ⟨#[]⟩, .bool false]) (by simp [results, Tryz.results37, go_sem]) rfl
  ⟨⟨#[]⟩, by rw [HP.out]; rfl, fun b hb => (by rw [HP.out] at hb; cases hb), B2.out⟩
theorem qpart_join (t : Nod) (sh : List UInt8) (htot : t.tot ≤ 1000000) (hi : isE t sOn 1 = true) (hj : isE (nthN t.ks 0) sCol 0 = true) (S : Nat → Prop) (op tx : ByteArray) (X : Option Addr) (n m : Nat) (w : World) (hS : ∀ g, S g → g < w.heap.size) (hn : RIn w S t (op, tx, X, n, m)) :
  Calls Tryz.prog 37 #[.string ⟨#[106, 111, 105, 110]⟩, .agg #[.string op, .string tx, .slice X n m]] w (PartP sJoin t sh w) := by
 have hI := qis_any op tx X n m ⟨#[111, 110]⟩ 1
 obtain ⟨eo, et, en, hkl⟩ := hn.texts
 dsimp only at eo et en
 have hie : (op.data.toList == (⟨#[111, 110]⟩ : ByteArray).data.toList && n == 1) = isE t sOn 1 := by
  rw [eo, en]
  rfl
 rw [hie, hi] at hI
 have HI := hid hI
 have hp : partQ sJoin t sh = some (t.tx ++ [32, 61, 32] ++ (nthN t.ks 0).tx) := by
  unfold partQ
  rw [if_neg (by decide), if_neg (by decide), if_neg (by decide), if_pos rfl, if_pos (by rw [hi, hj]; rfl)]
 have HP := hid hp
 have hkt : (nthN t.ks 0).tot ≤ t.tot := by
  have h1 : 0 < t.ks.length := by simp [isE] at hi; omega
  rw [get_zero h1]
  exact tot_kid t 0 h1
 have h1 : 0 < t.ks.length := by simp [isE] at hi; omega
 obtain ⟨ad, op1, tx1, X1, n1, m1, rfl, hSa, q0, q1, q2, hk⟩ := hn.first h1
 have had := hS _ hSa
 have hn1 : n = 1 := by simp [isE] at hi; omega
 subst hn1
 have htx : tx.data.toList = t.tx := by rw [et]
 have hts : tx.size = t.tx.length := by rw [et]; rfl
 have hb9 := (tot_tx t).1
 obtain ⟨K, hK⟩ : ∃ K, nthN t.ks 0 = K := ⟨_, rfl⟩
 rw [hK] at hk hj
 try rw [hK] at HP
 have hI2 := qis_any op1 tx1 X1 n1 m1 ⟨#[99, 111, 108]⟩ 0
 obtain ⟨eo1, et1, en1, -⟩ := hk.texts
 dsimp only at eo1 et1 en1
 have hie2 : (op1.data.toList == (⟨#[99, 111, 108]⟩ : ByteArray).data.toList && n1 == 0) = isE K sCol 0 := by
  rw [eo1, en1]
  rfl
 rw [hie2, hj] at hI2
 have HI2 := hid hI2
 have Q0 := hid q0
 have Q1 := hid q1
 have Q2 := hid q2
 rw [hK] at hkt
 have hb8 := (tot_tx K).1
 have htx1 : tx1.data.toList = K.tx := by rw [et1]
 have hts1 : tx1.size = K.tx.length := by rw [et1]; rfl
 have r1 : ∀ w, (Op.stringOp .add tx ⟨#[32, 61, 32]⟩).run Tryz.prog w = .ok (.string (tx ++ ⟨#[32, 61, 32]⟩)) w := fun w => run_string_add_sum w _ _ (by show tx.size + 3 ≤ _; omega)
 obtain ⟨s1, hs1⟩ : ∃ s : ByteArray, tx ++ ⟨#[32, 61, 32]⟩ = s := ⟨_, rfl⟩
 have z1s : s1.size = tx.size + 3 := by rw [← hs1, ByteArray.size_append]; rfl
 have r2 : ∀ w, (Op.stringOp .add s1 tx1).run Tryz.prog w = .ok (.string (s1 ++ tx1)) w := fun w => run_string_add_sum w _ _ (by omega)
 obtain ⟨s2, hs2⟩ : ∃ s : ByteArray, s1 ++ tx1 = s := ⟨_, rfl⟩
 have HR := hid (show s2.data.toList = t.tx ++ [32, 61, 32] ++ K.tx by rw [← hs2, ← hs1, ByteArray.data_append, ByteArray.data_append, Array.toList_append, Array.toList_append, htx, htx1])
 rw [hs1] at r1
 rw [hs2] at r2
 obtain ⟨w0, hw0⟩ : ∃ w0, w.alloc (.cells #[.string op, .string tx, .slice (some ad) 1 m] 25) = w0 := ⟨_, rfl⟩
 have N0 := hid (show NBox w0 w.heap.size (.string op) (.string tx) (.slice (some ad) 1 m) by rw [← hw0]; exact NBox.fresh _ _ _ _ _)
 have B0 := hid (show Below w.heap.size w w0 by rw [← hw0]; exact below_alloc _ _)
 have hz0 : w.heap.size < w0.heap.size := by rw [← hw0]; simp
 have hz := B0.out.size
 obtain ⟨x0, x1, x2, xf⟩ := N0.out
 rw [← hw0] at x0 x1 x2
 have HW0 := hid hw0
 clear hS hn hi hI hie hp hw0 eo et en hkl htot hj h1 q0 q1 q2 hk htx hts hb9 hK hI2 eo1 et1 en1 hie2 hkt hb8 htx1 hts1 hs1 z1s hs2
 go_enter Tryz.func37, Tryz.ntmps37
 go_wp2_with fail
 rw [HW0.out]
 refine (HI.out w0).mono ?_
 rintro e w1 ⟨rfl, hb1⟩
 have B1 := hid (B0.out.trans (hb1.mono hz))
 have N1 := hid (N0.out.below hb1)
 have z1 : w.heap.size < w1.heap.size := by have := hb1.size; omega
 clear hb1 x0 x1 x2 xf HW0
 obtain ⟨c0, c1, c2, cf⟩ := N1.out
 have q0 := (B1.out.cell had).trans Q0.out
 have q1 := (B1.out.cell (p := ⟨ad.block, ad.off + 1, none⟩) had).trans Q1.out
 have q2 := (B1.out.cell (p := ⟨ad.block, ad.off + 2, none⟩) had).trans Q2.out
 go_wp2_with fail
 refine (HI2.out w1).mono ?_
 rintro e w2 ⟨rfl, hb2⟩
 have B2 := hid (B1.out.trans (hb2.mono (by omega)))
 have N2 := hid (N1.out.below hb2)
 have z2 : w.heap.size < w2.heap.size := by have := hb2.size; omega
 clear hb2 c0 c1 c2 cf q0 q1 q2
 have FQ := hid (fun (w' : World) (hb : Below w2.heap.size w2 w') => (show w'.cell? ⟨w.heap.size, 1, none⟩ = some (.string tx) ∧ w'.cell? ⟨w.heap.size, 2, none⟩ = some (.slice (some ad) 1 m) ∧ w'.cell? ⟨ad.block, ad.off + 1, none⟩ = some (.string tx1) from
  have hb0 : Below w.heap.size w w' := B2.out.trans (hb.mono (by omega))
  ⟨(N2.out.below hb).c1, (N2.out.below hb).c2, (hb0.cell (p := ⟨ad.block, ad.off + 1, none⟩) had).trans Q1.out⟩))
 go_wp2_with fail
 go_region_held3 (fun w' => (w'.cell? ⟨w.heap.size, 1, none⟩ = some (.string tx) ∧ w'.cell? ⟨w.heap.size, 2, none⟩ = some (.slice (some ad) 1 m) ∧ w'.cell? ⟨ad.block, ad.off + 1, none⟩ = some (.string tx1)) ∧ Below w2.heap.size w2 w')
  (first | assumption | (exact ⟨FQ.out _ (Below.refl _ _).drew, (Below.refl _ _).drew⟩))
  (fail)
 go_wp2
 exact bodyPost_ret (v := .tuple #[.string s2, .bool true]) (by simp [results, Tryz.results37, go_sem]) rfl
  ⟨s2, by rw [HP.out]; rfl, fun b hb => (by rw [HP.out] at hb; cases hb; exact HR.out), (hid B2.out.drew).out⟩
theorem qpart_group_no (t : Nod) (sh : List UInt8) (htot : t.tot ≤ 1000000) (hi : isE t sAgg 1 = false) (S : Nat → Prop) (op tx : ByteArray) (X : Option Addr) (n m : Nat) (w : World) (hS : ∀ g, S g → g < w.heap.size) (hn : RIn w S t (op, tx, X, n, m)) :
  Calls Tryz.prog 37 #[.string ⟨#[103, 114, 111, 117, 112]⟩, .agg #[.string op, .string tx, .slice X n m]] w (PartP sGroup t sh w) := by
 have hI := qis_any op tx X n m ⟨#[97, 103, 103]⟩ 1
 obtain ⟨eo, et, en, hkl⟩ := hn.texts
 dsimp only at eo et en
 have hie : (op.data.toList == (⟨#[97, 103, 103]⟩ : ByteArray).data.toList && n == 1) = isE t sAgg 1 := by
  rw [eo, en]
  rfl
 rw [hie, hi] at hI
 have HI := hid hI
 have hp : partQ sGroup t sh = none := by
  unfold partQ
  rw [if_neg (by decide), if_neg (by decide), if_neg (by decide), if_neg (by decide), if_pos rfl, if_neg (by rw [hi]; simp)]
 have HP := hid hp
 obtain ⟨w0, hw0⟩ : ∃ w0, w.alloc (.cells #[.string op, .string tx, .slice X n m] 25) = w0 := ⟨_, rfl⟩
 have N0 := hid (show NBox w0 w.heap.size (.string op) (.string tx) (.slice X n m) by rw [← hw0]; exact NBox.fresh _ _ _ _ _)
 have B0 := hid (show Below w.heap.size w w0 by rw [← hw0]; exact below_alloc _ _)
 have hz0 : w.heap.size < w0.heap.size := by rw [← hw0]; simp
 have hz := B0.out.size
 obtain ⟨x0, x1, x2, xf⟩ := N0.out
 rw [← hw0] at x0 x1 x2
 have HW0 := hid hw0
 clear hS hn hi hI hie hp hw0 eo et en hkl htot
 go_enter Tryz.func37, Tryz.ntmps37
 go_wp2_with fail
 rw [HW0.out]
 refine (HI.out w0).mono ?_
 rintro e w1 ⟨rfl, hb1⟩
 have B1 := hid (B0.out.trans (hb1.mono hz))
 have N1 := hid (N0.out.below hb1)
 have z1 : w.heap.size < w1.heap.size := by have := hb1.size; omega
 clear hb1 x0 x1 x2 xf HW0
 go_wp2
 exact bodyPost_ret (v := .tuple #[.string ⟨#[]⟩, .bool false]) (by simp [results, Tryz.results37, go_sem]) rfl
  ⟨⟨#[]⟩, by rw [HP.out]; rfl, fun b hb => (by rw [HP.out] at hb; cases hb), B1.out⟩
theorem qpart_group_no2 (t : Nod) (sh : List UInt8) (htot : t.tot ≤ 1000000) (hi : isE t sAgg 1 = true) (hj : (nthN t.ks 0).ks ≠ []) (S : Nat → Prop) (op tx : ByteArray) (X : Option Addr) (n m : Nat) (w : World) (hS : ∀ g, S g → g < w.heap.size) (hn : RIn w S t (op, tx, X, n, m)) :
  Calls Tryz.prog 37 #[.string ⟨#[103, 114, 111, 117, 112]⟩, .agg #[.string op, .string tx, .slice X n m]] w (PartP sGroup t sh w) := by
 have hI := qis_any op tx X n m ⟨#[97, 103, 103]⟩ 1
 obtain ⟨eo, et, en, hkl⟩ := hn.texts
 dsimp only at eo et en
 have hie : (op.data.toList == (⟨#[97, 103, 103]⟩ : ByteArray).data.toList && n == 1) = isE t sAgg 1 := by
  rw [eo, en]
  rfl
 rw [hie, hi] at hI
 have HI := hid hI
 have hj2 : ((nthN t.ks 0).ks.length == 0) = false := by simpa using hj
 have hp : partQ sGroup t sh = none := by
  unfold partQ
  rw [if_neg (by decide), if_neg (by decide), if_neg (by decide), if_neg (by decide), if_pos rfl, if_neg (by rw [hi, hj2]; simp)]
 have HP := hid hp
 have hj3 : 0 < (nthN t.ks 0).ks.length := List.length_pos_iff.2 hj
 have h1 : 0 < t.ks.length := by simp [isE] at hi; omega
 obtain ⟨ad, op1, tx1, X1, n1, m1, rfl, hSa, q0, q1, q2, hk⟩ := hn.first h1
 have had := hS _ hSa
 have hn1 : n = 1 := by simp [isE] at hi; omega
 subst hn1
 have htx : tx.data.toList = t.tx := by rw [et]
 have hts : tx.size = t.tx.length := by rw [et]; rfl
 have hb9 := (tot_tx t).1
 obtain ⟨K, hK⟩ : ∃ K, nthN t.ks 0 = K := ⟨_, rfl⟩
 rw [hK] at hk
 obtain ⟨eo1, et1, en1, -⟩ := hk.texts
 dsimp only at eo1 et1 en1
 have eo1' : op1.data.toList = K.op := by rw [eo1]
 have htx1 : tx1.data.toList = K.tx := by rw [et1]
 have Q0 := hid q0
 have Q1 := hid q1
 have Q2 := hid q2
 rw [hK, ← en1] at hj3
 have g1 : decide ((0 : Int) < (n1 : Int)) = true := by simp; omega
 obtain ⟨w0, hw0⟩ : ∃ w0, w.alloc (.cells #[.string op, .string tx, .slice (some ad) 1 m] 25) = w0 := ⟨_, rfl⟩
 have N0 := hid (show NBox w0 w.heap.size (.string op) (.string tx) (.slice (some ad) 1 m) by rw [← hw0]; exact NBox.fresh _ _ _ _ _)
 have B0 := hid (show Below w.heap.size w w0 by rw [← hw0]; exact below_alloc _ _)
 have hz0 : w.heap.size < w0.heap.size := by rw [← hw0]; simp
 have hz := B0.out.size
 obtain ⟨x0, x1, x2, xf⟩ := N0.out
 rw [← hw0] at x0 x1 x2
 have HW0 := hid hw0
 clear hS hn hi hI hie hp hw0 eo et en hkl htot h1 q0 q1 q2 hk htx hts hb9 hK eo1 et1 eo1' htx1 hj hj2 en1
 go_enter Tryz.func37, Tryz.ntmps37
 go_wp2_with fail
 rw [HW0.out]
 refine (HI.out w0).mono ?_
 rintro e w1 ⟨rfl, hb1⟩
 have B1 := hid (B0.out.trans (hb1.mono hz))
 have N1 := hid (N0.out.below hb1)
 have z1 : w.heap.size < w1.heap.size := by have := hb1.size; omega
 clear hb1 x0 x1 x2 xf HW0
 obtain ⟨c0, c1, c2, cf⟩ := N1.out
 have q0 := (B1.out.cell had).trans Q0.out
 have q1 := (B1.out.cell (p := ⟨ad.block, ad.off + 1, none⟩) had).trans Q1.out
 have q2 := (B1.out.cell (p := ⟨ad.block, ad.off + 2, none⟩) had).trans Q2.out
 go_wp2
 exact bodyPost_ret (v := .tuple #[.string ⟨#[]⟩, .bool false]) (by simp [results, Tryz.results37, go_sem]) rfl
  ⟨⟨#[]⟩, by rw [HP.out]; rfl, fun b hb => (by rw [HP.out] at hb; cases hb), B1.out⟩
theorem qpart_group_no3 (t : Nod) (sh : List UInt8) (htot : t.tot ≤ 1000000) (hi : isE t sAgg 1 = true) (hj : (nthN t.ks 0).ks = []) (hc : ((nthN t.ks 0).op == sSum || (nthN t.ks 0).op == sMin || (nthN t.ks 0).op == sMax || ((nthN t.ks 0).op == sCount && (nthN t.ks 0).tx == [])) = false) (S : Nat → Prop) (op tx : ByteArray) (X : Option Addr) (n m : Nat) (w : World) (hS : ∀ g, S g → g < w.heap.size) (hn : RIn w S t (op, tx, X, n, m)) :
  Calls Tryz.prog 37 #[.string ⟨#[103, 114, 111, 117, 112]⟩, .agg #[.string op, .string tx, .slice X n m]] w (PartP sGroup t sh w) := by
 have hI := qis_any op tx X n m ⟨#[97, 103, 103]⟩ 1
 obtain ⟨eo, et, en, hkl⟩ := hn.texts
 dsimp only at eo et en
 have hie : (op.data.toList == (⟨#[97, 103, 103]⟩ : ByteArray).data.toList && n == 1) = isE t sAgg 1 := by
  rw [eo, en]
  rfl
 rw [hie, hi] at hI
 have HI := hid hI
 have hj2 : ((nthN t.ks 0).ks.length == 0) = true := by rw [hj]; rfl
 have hp : partQ sGroup t sh = none := by
  unfold partQ
  rw [if_neg (by decide), if_neg (by decide), if_neg (by decide), if_neg (by decide), if_pos rfl, if_neg (by rw [hi, hj2, hc]; simp)]
 have HP := hid hp
 have h1 : 0 < t.ks.length := by simp [isE] at hi; omega
 obtain ⟨ad, op1, tx1, X1, n1, m1, rfl, hSa, q0, q1, q2, hk⟩ := hn.first h1
 have had := hS _ hSa
 have hn1 : n = 1 := by simp [isE] at hi; omega
 subst hn1
 have htx : tx.data.toList = t.tx := by rw [et]
 have hts : tx.size = t.tx.length := by rw [et]; rfl
 have hb9 := (tot_tx t).1
 obtain ⟨K, hK⟩ : ∃ K, nthN t.ks 0 = K := ⟨_, rfl⟩
 rw [hK] at hk
 obtain ⟨eo1, et1, en1, -⟩ := hk.texts
 dsimp only at eo1 et1 en1
 have eo1' : op1.data.toList = K.op := by rw [eo1]
 have htx1 : tx1.data.toList = K.tx := by rw [et1]
 have Q0 := hid q0
 have Q1 := hid q1
 have Q2 := hid q2
 rw [hK] at hc hj
 try rw [hK] at HP
 have hn0 : n1 = 0 := by rw [en1, hj]; rfl
 subst hn0
 have p1 : (op1.toList == [115, 117, 109]) = (K.op == sSum) := by rw [ByteArray.toList_eq, eo1']; rfl
 have p2 : (op1.toList == [109, 105, 110]) = (K.op == sMin) := by rw [ByteArray.toList_eq, eo1']; rfl
 have p3 : (op1.toList == [109, 97, 120]) = (K.op == sMax) := by rw [ByteArray.toList_eq, eo1']; rfl
 have p4 : (op1.toList == [99, 111, 117, 110, 116]) = (K.op == sCount) := by rw [ByteArray.toList_eq, eo1']; rfl
 have p5 : tx1.data.isEmpty = (K.tx == []) := by rw [← htx1]; cases h : tx1.data.isEmpty with | true => rw [Array.isEmpty_iff.1 h]; rfl | false => symm; simp; intro e; rw [e] at h; cases h
 have p6 : tx1.toList.isEmpty = (K.tx == []) := by rw [ByteArray.toList_eq, htx1]; cases K.tx <;> rfl
 obtain ⟨b1, hb1⟩ : ∃ b, (K.op == sSum) = b := ⟨_, rfl⟩
 obtain ⟨b2, hb2⟩ : ∃ b, (K.op == sMin) = b := ⟨_, rfl⟩
 obtain ⟨b3, hb3⟩ : ∃ b, (K.op == sMax) = b := ⟨_, rfl⟩
 obtain ⟨b4, hb4⟩ : ∃ b, (K.op == sCount) = b := ⟨_, rfl⟩
 obtain ⟨b5, hb5⟩ : ∃ b, (K.tx == []) = b := ⟨_, rfl⟩
 rw [hb1, hb2, hb3, hb4, hb5] at hc
 rw [hb1] at p1
 rw [hb2] at p2
 rw [hb3] at p3
 rw [hb4] at p4
 rw [hb5] at p5 p6
 obtain ⟨w0, hw0⟩ : ∃ w0, w.alloc (.cells #[.string op, .string tx, .slice (some ad) 1 m] 25) = w0 := ⟨_, rfl⟩
 have N0 := hid (show NBox w0 w.heap.size (.string op) (.string tx) (.slice (some ad) 1 m) by rw [← hw0]; exact NBox.fresh _ _ _ _ _)
 have B0 := hid (show Below w.heap.size w w0 by rw [← hw0]; exact below_alloc _ _)
 have hz0 : w.heap.size < w0.heap.size := by rw [← hw0]; simp
 have hz := B0.out.size
 obtain ⟨x0, x1, x2, xf⟩ := N0.out
 rw [← hw0] at x0 x1 x2
 have HW0 := hid hw0
 clear hS hn hi hI hie hp hw0 eo et en hkl htot h1 q0 q1 q2 hk htx hts hb9 hK eo1 et1 eo1' htx1 hj hj2 hb1 hb2 hb3 hb4 hb5 en1
 go_enter Tryz.func37, Tryz.ntmps37
 go_wp2_with fail
 rw [HW0.out]
 refine (HI.out w0).mono ?_
 rintro e w1 ⟨rfl, hb1⟩
 have B1 := hid (B0.out.trans (hb1.mono hz))
 have N1 := hid (N0.out.below hb1)
 have z1 : w.heap.size < w1.heap.size := by have := hb1.size; omega
 clear hb1 x0 x1 x2 xf HW0
 obtain ⟨c0, c1, c2, cf⟩ := N1.out
 have q0 := (B1.out.cell had).trans Q0.out
 have q1 := (B1.out.cell (p := ⟨ad.block, ad.off + 1, none⟩) had).trans Q1.out
 have q2 := (B1.out.cell (p := ⟨ad.block, ad.off + 2, none⟩) had).trans Q2.out
 have hcase : b1 = false ∧ b2 = false ∧ b3 = false ∧ (b4 = false ∨ (b4 = true ∧ b5 = false)) := by cases b1 <;> cases b2 <;> cases b3 <;> cases b4 <;> cases b5 <;> simp_all
 clear hc
 obtain ⟨rfl, rfl, rfl, hq⟩ := hcase
 rcases hq with rfl | ⟨rfl, rfl⟩
 all_goals
  go_wp2
  exact bodyPost_ret (v := .tuple #[.string ⟨#[]⟩, .bool false]) (by simp [results, Tryz.results37, go_sem]) rfl ⟨⟨#[]⟩, by rw [HP.out]; rfl, fun b hb => (by rw [HP.out] at hb; cases hb), B1.out.alloc (by omega) _⟩
theorem qpart_group (t : Nod) (sh : List UInt8) (htot : t.tot ≤ 1000000) (hi : isE t sAgg 1 = true) (hj : (nthN t.ks 0).ks = []) (hc : ((nthN t.ks 0).op == sSum || (nthN t.ks 0).op == sMin || (nthN t.ks 0).op == sMax || ((nthN t.ks 0).op == sCount && (nthN t.ks 0).tx == [])) = true) (S : Nat → Prop) (op tx : ByteArray) (X : Option Addr) (n m : Nat) (w : World) (hS : ∀ g, S g → g < w.heap.size) (hn : RIn w S t (op, tx, X, n, m)) :
  Calls Tryz.prog 37 #[.string ⟨#[103, 114, 111, 117, 112]⟩, .agg #[.string op, .string tx, .slice X n m]] w (PartP sGroup t sh w) := by
 have hI := qis_any op tx X n m ⟨#[97, 103, 103]⟩ 1
 obtain ⟨eo, et, en, hkl⟩ := hn.texts
 dsimp only at eo et en
 have hie : (op.data.toList == (⟨#[97, 103, 103]⟩ : ByteArray).data.toList && n == 1) = isE t sAgg 1 := by
  rw [eo, en]
  rfl
 rw [hie, hi] at hI
 have HI := hid hI
 have hj2 : ((nthN t.ks 0).ks.length == 0) = true := by rw [hj]; rfl
 have hp : partQ sGroup t sh = some (t.tx ++ [32, 61, 32] ++ (nthN t.ks 0).op ++ [40] ++ (nthN t.ks 0).tx ++ [41]) := by
  unfold partQ
  rw [if_neg (by decide), if_neg (by decide), if_neg (by decide), if_neg (by decide), if_pos rfl, if_pos (by rw [hi, hj2, hc]; rfl)]
 have HP := hid hp
 have hkt : (nthN t.ks 0).tot ≤ t.tot := by
  have h1 : 0 < t.ks.length := by simp [isE] at hi; omega
  rw [get_zero h1]
  exact tot_kid t 0 h1
 have h1 : 0 < t.ks.length := by simp [isE] at hi; omega
 obtain ⟨ad, op1, tx1, X1, n1, m1, rfl, hSa, q0, q1, q2, hk⟩ := hn.first h1
 have had := hS _ hSa
 have hn1 : n = 1 := by simp [isE] at hi; omega
 subst hn1
 have htx : tx.data.toList = t.tx := by rw [et]
 have hts : tx.size = t.tx.length := by rw [et]; rfl
 have hb9 := (tot_tx t).1
 obtain ⟨K, hK⟩ : ∃ K, nthN t.ks 0 = K := ⟨_, rfl⟩
 rw [hK] at hk
 obtain ⟨eo1, et1, en1, -⟩ := hk.texts
 dsimp only at eo1 et1 en1
 have eo1' : op1.data.toList = K.op := by rw [eo1]
 have htx1 : tx1.data.toList = K.tx := by rw [et1]
 have Q0 := hid q0
 have Q1 := hid q1
 have Q2 := hid q2
 rw [hK] at hc hj
 try rw [hK] at HP
 have hn0 : n1 = 0 := by rw [en1, hj]; rfl
 subst hn0
 have p1 : (op1.toList == [115, 117, 109]) = (K.op == sSum) := by rw [ByteArray.toList_eq, eo1']; rfl
 have p2 : (op1.toList == [109, 105, 110]) = (K.op == sMin) := by rw [ByteArray.toList_eq, eo1']; rfl
 have p3 : (op1.toList == [109, 97, 120]) = (K.op == sMax) := by rw [ByteArray.toList_eq, eo1']; rfl
 have p4 : (op1.toList == [99, 111, 117, 110, 116]) = (K.op == sCount) := by rw [ByteArray.toList_eq, eo1']; rfl
 have p5 : tx1.data.isEmpty = (K.tx == []) := by rw [← htx1]; cases h : tx1.data.isEmpty with | true => rw [Array.isEmpty_iff.1 h]; rfl | false => symm; simp; intro e; rw [e] at h; cases h
 have p6 : tx1.toList.isEmpty = (K.tx == []) := by rw [ByteArray.toList_eq, htx1]; cases K.tx <;> rfl
 obtain ⟨b1, hb1⟩ : ∃ b, (K.op == sSum) = b := ⟨_, rfl⟩
 obtain ⟨b2, hb2⟩ : ∃ b, (K.op == sMin) = b := ⟨_, rfl⟩
 obtain ⟨b3, hb3⟩ : ∃ b, (K.op == sMax) = b := ⟨_, rfl⟩
 obtain ⟨b4, hb4⟩ : ∃ b, (K.op == sCount) = b := ⟨_, rfl⟩
 obtain ⟨b5, hb5⟩ : ∃ b, (K.tx == []) = b := ⟨_, rfl⟩
 rw [hb1, hb2, hb3, hb4, hb5] at hc
 rw [hb1] at p1
 rw [hb2] at p2
 rw [hb3] at p3
 rw [hb4] at p4
 rw [hb5] at p5 p6
 rw [hK] at hkt
 have hb8 := tot_tx K
 have hos1 : op1.size = K.op.length := by rw [eo1]; rfl
 have hts1 : tx1.size = K.tx.length := by rw [et1]; rfl
 have zz : (⟨#[32, 61, 32]⟩ : ByteArray).size = 3 := rfl
 have zo : (⟨#[40]⟩ : ByteArray).size = 1 := rfl
 have zc : (⟨#[41]⟩ : ByteArray).size = 1 := rfl
 obtain ⟨s1, hs1⟩ : ∃ s : ByteArray, tx ++ ⟨#[32, 61, 32]⟩ = s := ⟨_, rfl⟩
 obtain ⟨s2, hs2⟩ : ∃ s : ByteArray, s1 ++ op1 = s := ⟨_, rfl⟩
 obtain ⟨s3, hs3⟩ : ∃ s : ByteArray, s2 ++ ⟨#[40]⟩ = s := ⟨_, rfl⟩
 obtain ⟨s4, hs4⟩ : ∃ s : ByteArray, s3 ++ tx1 = s := ⟨_, rfl⟩
 obtain ⟨s5, hs5⟩ : ∃ s : ByteArray, s4 ++ ⟨#[41]⟩ = s := ⟨_, rfl⟩
 have y1 : s1.size = tx.size + 3 := by rw [← hs1, ByteArray.size_append, zz]
 have y2 : s2.size = tx.size + 3 + op1.size := by rw [← hs2, ByteArray.size_append, y1]
 have y3 : s3.size = tx.size + 3 + op1.size + 1 := by rw [← hs3, ByteArray.size_append, y2, zo]
 have y4 : s4.size = tx.size + 3 + op1.size + 1 + tx1.size := by rw [← hs4, ByteArray.size_append, y3]
 have r1 : ∀ w, (Op.stringOp .add tx ⟨#[32, 61, 32]⟩).run Tryz.prog w = .ok (.string s1) w := fun w => by rw [← hs1]; exact run_string_add_sum w _ _ (by omega)
 have r2 : ∀ w, (Op.stringOp .add s1 op1).run Tryz.prog w = .ok (.string s2) w := fun w => by rw [← hs2]; exact run_string_add_sum w _ _ (by omega)
 have r3 : ∀ w, (Op.stringOp .add s2 ⟨#[40]⟩).run Tryz.prog w = .ok (.string s3) w := fun w => by rw [← hs3]; exact run_string_add_sum w _ _ (by omega)
 have r4 : ∀ w, (Op.stringOp .add s3 tx1).run Tryz.prog w = .ok (.string s4) w := fun w => by rw [← hs4]; exact run_string_add_sum w _ _ (by omega)
 have r5 : ∀ w, (Op.stringOp .add s4 ⟨#[41]⟩).run Tryz.prog w = .ok (.string s5) w := fun w => by rw [← hs5]; exact run_string_add_sum w _ _ (by omega)
 have HR := hid (show s5.data.toList = t.tx ++ [32, 61, 32] ++ K.op ++ [40] ++ K.tx ++ [41] by rw [← hs5, ← hs4, ← hs3, ← hs2, ← hs1]; simp only [ByteArray.data_append, Array.toList_append, htx, eo1', htx1])
 obtain ⟨w0, hw0⟩ : ∃ w0, w.alloc (.cells #[.string op, .string tx, .slice (some ad) 1 m] 25) = w0 := ⟨_, rfl⟩
 have N0 := hid (show NBox w0 w.heap.size (.string op) (.string tx) (.slice (some ad) 1 m) by rw [← hw0]; exact NBox.fresh _ _ _ _ _)
 have B0 := hid (show Below w.heap.size w w0 by rw [← hw0]; exact below_alloc _ _)
 have hz0 : w.heap.size < w0.heap.size := by rw [← hw0]; simp
 have hz := B0.out.size
 obtain ⟨x0, x1, x2, xf⟩ := N0.out
 rw [← hw0] at x0 x1 x2
 have HW0 := hid hw0
 clear hS hn hi hI hie hp hw0 eo et en hkl htot h1 q0 q1 q2 hk htx hts hb9 hK eo1 et1 eo1' htx1 hj hj2 hb1 hb2 hb3 hb4 hb5 en1 hkt hb8 hos1 hts1 zz zo zc hs1 hs2 hs3 hs4 hs5 y1 y2 y3 y4
 go_enter Tryz.func37, Tryz.ntmps37
 go_wp2_with fail
 rw [HW0.out]
 refine (HI.out w0).mono ?_
 rintro e w1 ⟨rfl, hb1⟩
 have B1 := hid (B0.out.trans (hb1.mono hz))
 have N1 := hid (N0.out.below hb1)
 have z1 : w.heap.size < w1.heap.size := by have := hb1.size; omega
 clear hb1 x0 x1 x2 xf HW0
 obtain ⟨c0, c1, c2, cf⟩ := N1.out
 have q0 := (B1.out.cell had).trans Q0.out
 have q1 := (B1.out.cell (p := ⟨ad.block, ad.off + 1, none⟩) had).trans Q1.out
 have q2 := (B1.out.cell (p := ⟨ad.block, ad.off + 2, none⟩) had).trans Q2.out
 have hcase : b1 = true ∨ (b1 = false ∧ b2 = true) ∨ (b1 = false ∧ b2 = false ∧ b3 = true) ∨ (b1 = false ∧ b2 = false ∧ b3 = false ∧ b4 = true ∧ b5 = true) := by cases b1 <;> cases b2 <;> cases b3 <;> cases b4 <;> cases b5 <;> simp_all
 clear hc
 have qn : ∀ o, (w1.alloc o).cell? ⟨w.heap.size, 0, none⟩ = some (.string op) := fun o => (N1.out.alloc o).c0
 have qt : ∀ o, (w1.alloc o).cell? ⟨w.heap.size, 1, none⟩ = some (.string tx) := fun o => (N1.out.alloc o).c1
 rcases hcase with rfl | ⟨rfl, rfl⟩ | ⟨rfl, rfl, rfl⟩ | ⟨rfl, rfl, rfl, rfl, rfl⟩
 all_goals
  go_wp2
  exact bodyPost_ret (v := .tuple #[.string s5, .bool true]) (by simp [results, Tryz.results37, go_sem]) rfl ⟨s5, by rw [HP.out]; rfl, fun b hb => (by rw [HP.out] at hb; cases hb; exact HR.out), B1.out.alloc (by omega) _⟩
theorem two_levels {op : List UInt8} {r : RuleR} (h : ruleE op = some r) (h2 : r.2.1.length = 2) : (r.1 = 3 ∧ r.2.1 = [4, 4]) ∨ (r.1 ≠ 3 ∧ 0 ≤ r.1 ∧ r.1 ≤ 5 ∧ r.2.1 = [r.1, r.1 + 1]) := by
 have hall : ∀ p ∈ tblE, p.2.2.1.length ≠ 2 ∨ (p.2.1 = 3 ∧ p.2.2.1 = [4, 4]) ∨ (p.2.1 ≠ 3 ∧ 0 ≤ p.2.1 ∧ p.2.1 ≤ 5 ∧ p.2.2.1 = [p.2.1, p.2.1 + 1]) := by decide
 exact (hall _ (look_mem h)).resolve_left (fun h => h h2)
theorem rshow_two (o : List UInt8) (v l0 l1 : Int) (hr : rE o [] 2 = some (v, [l0, l1], false)) (hx : o ∉ [sNot, sIsNull, sNeg, sText]) (x y : Nod) (hI : RShows x) (hJ : RShows y) (hl : (showE (.mk o [] [x, y])).length ≤ 900000) : RShows (.mk o [] [x, y]) := by
 obtain ⟨t, ht⟩ : ∃ t : Nod, .mk o [] [x, y] = t := ⟨_, rfl⟩
 have hlv : lvD t = v + 1 := by rw [← ht]; unfold lvD; rw [show rE (Nod.mk o [] [x, y]).op (Nod.mk o [] [x, y]).tx (Nod.mk o [] [x, y]).ks.length = some (v, [l0, l1], false) from hr]
 have hsh : showE t = kdE l0 (showE x, lvE x) ++ (32 :: (o ++ [32])) ++ kdE l1 (showE y, lvE y) := by
  rw [← ht, showE_good (r := (v, [l0, l1], false)) hr]
  rfl
 have h2 : t.ks.length = 2 := by rw [← ht]; rfl
 have hx0 : t.ks[0] = x := by subst ht; rfl
 have hx1 : t.ks[1] = y := by subst ht; rfl
 have hlev := two_levels (rE_some hr).1 rfl
 rw [ht] at hl ⊢
 intro S op tx X n m w hS hn
 obtain ⟨eo, et, en, hkl⟩ := hn.texts
 dsimp only at eo et en
 rw [hsh]
 rw [hsh] at hl
 simp only [List.length_append, List.length_cons, List.length_nil] at hl
 have hkx := kd_len l0 (showE x) (lvE x)
 have hky := kd_len l1 (showE y) (lvE y)
 have eo' : op.data.toList = o := by rw [eo, ← ht]; rfl
 have hos : op.size = o.length := by rw [← eo']; rfl
 obtain rfl : tx = ⟨#[]⟩ := by rw [et, ← ht]; rfl
 obtain rfl : n = 2 := by rw [en, ← ht]; rfl
 simp only [List.mem_cons, List.not_mem_nil, or_false, not_or] at hx
 obtain ⟨p1, p2, p3, p4⟩ := hx
 have x1 : (op.toList == [110, 111, 116]) = false := op_no (by rw [eo']; exact p1)
 have x2 : (op.toList == [105, 115, 32, 110, 117, 108, 108]) = false := op_no (by rw [eo']; exact p2)
 have x3 : (op.toList == [110, 101, 103]) = false := op_no (by rw [eo']; exact p3)
 have x4 : (op.toList == [116, 101, 120, 116]) = false := op_no (by rw [eo']; exact p4)
 obtain ⟨K, hK⟩ : ∃ K, v + 1 = K := ⟨_, rfl⟩
 rw [hK] at hlv
 have HLV := hid (fun (w' : World) (hb : Below w.heap.size w w') => (show Calls Tryz.prog 113 #[.agg #[.string op, .string ⟨#[]⟩, .slice X 2 m]] w' (fun e w'' => e = .returned (.int .i64 K) ∧ Below w'.heap.size w' w'') by
  have h := rlevel_any t S op ⟨#[]⟩ X 2 m w' (hn.bel hS hb)
  rw [hlv] at h
  exact h))
 obtain ⟨A, hA⟩ : ∃ A : ByteArray, A = ⟨(kdE l0 (showE x, lvE x)).toArray⟩ := ⟨_, rfl⟩
 obtain ⟨B, hB⟩ : ∃ B : ByteArray, B = ⟨(kdE l1 (showE y, lvE y)).toArray⟩ := ⟨_, rfl⟩
 have hAs : A.size = (kdE l0 (showE x, lvE x)).length := by rw [hA]; rfl
 have hBs : B.size = (kdE l1 (showE y, lvE y)).length := by rw [hB]; rfl
 have sz : (⟨#[32]⟩ : ByteArray).size = 1 := rfl
 obtain ⟨s1, hs1⟩ : ∃ s : ByteArray, A ++ ⟨#[32]⟩ = s := ⟨_, rfl⟩
 obtain ⟨s2, hs2⟩ : ∃ s : ByteArray, s1 ++ op = s := ⟨_, rfl⟩
 obtain ⟨s3, hs3⟩ : ∃ s : ByteArray, s2 ++ ⟨#[32]⟩ = s := ⟨_, rfl⟩
 obtain ⟨s4, hs4⟩ : ∃ s : ByteArray, s3 ++ B = s := ⟨_, rfl⟩
 have z1 : s1.size = A.size + 1 := by rw [← hs1, ByteArray.size_append, sz]
 have z2 : s2.size = A.size + 1 + op.size := by rw [← hs2, ByteArray.size_append, z1]
 have z3 : s3.size = A.size + 1 + op.size + 1 := by rw [← hs3, ByteArray.size_append, z2, sz]
 have r1 : ∀ w, (Op.stringOp .add A ⟨#[32]⟩).run Tryz.prog w = .ok (.string s1) w := fun w => by rw [← hs1]; exact run_string_add_sum w _ _ (by omega)
 have r2 : ∀ w, (Op.stringOp .add s1 op).run Tryz.prog w = .ok (.string s2) w := fun w => by rw [← hs2]; exact run_string_add_sum w _ _ (by omega)
 have r3 : ∀ w, (Op.stringOp .add s2 ⟨#[32]⟩).run Tryz.prog w = .ok (.string s3) w := fun w => by rw [← hs3]; exact run_string_add_sum w _ _ (by omega)
 have r4 : ∀ w, (Op.stringOp .add s3 B).run Tryz.prog w = .ok (.string s4) w := fun w => by rw [← hs4]; exact run_string_add_sum w _ _ (by omega)
 have hfin : (⟨(kdE l0 (showE x, lvE x) ++ (32 :: (o ++ [32])) ++ kdE l1 (showE y, lvE y)).toArray⟩ : ByteArray) = s4 := by
  rw [← Lib.mk_data s4, ← hs4, ← hs3, ← hs2, ← hs1, hA, hB, ← eo']
  simp [ByteArray.data_append]
 rw [hfin]
 have HAT := fun (i : Nat) (hi : i < t.ks.length) (ii ll al : Int) (hii : ii = (i : Int)) (h1 : 0 ≤ ll) (h8 : ll ≤ 8) (hal : al = ll - 1) (hIi : RShows t.ks[i]) (hlen : (showE t.ks[i]).length ≤ 900000) (Z : ByteArray) (hZ : Z = ⟨(kdE al (showE t.ks[i], lvE t.ks[i])).toArray⟩) (w' : World) (hb : Below w.heap.size w w') =>
  rat_of t i hi ii ll al hii h1 h8 hal hIi hlen Z hZ S op ⟨#[]⟩ X 2 m w' (fun g hg => Nat.lt_of_lt_of_le (hS g hg) hb.size) (hn.bel hS hb)
 rcases hlev with ⟨hv, hls⟩ | ⟨hv, h0, h5, hls⟩
 ·injection hls with e0 hls
  injection hls with e1 hls
  dsimp only at e0 e1 hv
  have HA0 := hid (fun w' hb => HAT 0 (by omega) 0 5 l0 rfl (by decide) (by decide) (by omega) (by rw [hx0]; exact hI) (by rw [hx0]; omega) A (by rw [hx0]; exact hA) w' hb)
  have HA1 := hid (fun w' hb => HAT 1 (by omega) 1 5 l1 rfl (by decide) (by decide) (by omega) (by rw [hx1]; exact hJ) (by rw [hx1]; omega) B (by rw [hx1]; exact hB) w' hb)
  obtain rfl : K = 4 := by omega
  clear hS hn eo et en hkl hlv hsh hI hJ hl hx0 hx1 hA hB hkx hky ht hr HAT eo' hos hAs hBs sz hs1 hs2 hs3 hs4 z1 z2 z3 hfin hK hls e0 e1 hv p1 p2 p3 p4 h2
  go_enter Tryz.func68, Tryz.ntmps68
  obtain ⟨w0, hw0⟩ : ∃ w0, w.alloc (.cells #[.string op, .string ⟨#[]⟩, .slice X 2 m] 25) = w0 := ⟨_, rfl⟩
  have B0 := hid (show Below w.heap.size w w0 by rw [← hw0]; exact below_alloc w _)
  have N0 := hid (show NBox w0 w.heap.size (.string op) (.string ⟨#[]⟩) (.slice X 2 m) by rw [← hw0]; exact NBox.fresh _ _ _ _ _)
  have HW0 := hid hw0
  have hz0 : w.heap.size < w0.heap.size := by rw [← hw0]; simp
  clear hw0
  obtain ⟨c0, c1, c2, cf⟩ := N0.out
  go_upto_region 1 with fail
  rw [HW0.out]
  go_wp2_with fail
  refine (HLV.out w0 B0.out).mono ?_
  rintro e w1 ⟨rfl, hb⟩
  have B1 := hid (B0.out.trans (hb.mono (by omega)))
  have N1 := hid (N0.out.below hb)
  have z1 : w.heap.size < w1.heap.size := by have := hb.size; omega
  clear hb c0 c1 c2 cf
  obtain ⟨c0, c1, c2, cf⟩ := N1.out
  have FQ := hid (fun (w' : World) (hb : Below w1.heap.size w1 w') => (show w'.cell? ⟨w.heap.size, 0, none⟩ = some (.string op) ∧ w'.cell? ⟨w.heap.size, 1, none⟩ = some (.string ⟨#[]⟩) ∧ w'.cell? ⟨w.heap.size, 2, none⟩ = some (.slice X 2 m) from ⟨(N1.out.below hb).c0, (N1.out.below hb).c1, (N1.out.below hb).c2⟩))
  have HA0 := hid (fun (w' : World) (hb : Below w1.heap.size w1 w') => HA0.out w' (B1.out.trans (hb.mono (by omega))))
  have HA1 := hid (fun (w' : World) (hb : Below w1.heap.size w1 w') => HA1.out w' (B1.out.trans (hb.mono (by omega))))
  go_wp2_with fail
  go_region_held3 (fun w' => (w'.cell? ⟨w.heap.size, 0, none⟩ = some (.string op) ∧ w'.cell? ⟨w.heap.size, 1, none⟩ = some (.string ⟨#[]⟩) ∧ w'.cell? ⟨w.heap.size, 2, none⟩ = some (.slice X 2 m)) ∧ Below w1.heap.size w1 w')
   (first | assumption | (exact keepB hb6 (by assumption) (FQ.out _)) | (exact keepB hb5 (by assumption) (FQ.out _)) | (exact ⟨FQ.out _ (Below.refl _ _).drew, (Below.refl _ _).drew⟩))
   (first | (go_at_call 114; with_reducible refine (HA0.out _ ?cv).mono ?_; (case cv => exact (by assumption : _ ∧ Below w1.heap.size w1 _).2); rintro e w5 ⟨rfl, hb5⟩) | (go_at_call 114; with_reducible refine (HA1.out _ ?cv).mono ?_; (case cv => exact (by assumption : _ ∧ Below w1.heap.size w1 _).2); rintro e w6 ⟨rfl, hb6⟩))
  have B6 := hid (B1.out.trans ((show Below w1.heap.size w1 w6 by rename_i hS; exact hS.2).mono (by omega)))
  go_wp2
  go_ret
  exact ⟨by simp, B6.out⟩
 ·injection hls with e0 hls
  injection hls with e1 hls
  dsimp only at e0 e1 hv h0 h5
  have HA0 := hid (fun w' hb => HAT 0 (by omega) 0 K l0 rfl (by omega) (by omega) (by omega) (by rw [hx0]; exact hI) (by rw [hx0]; omega) A (by rw [hx0]; exact hA) w' hb)
  have HA1 := hid (fun w' hb => HAT 1 (by omega) 1 (K + 1) l1 rfl (by omega) (by omega) (by omega) (by rw [hx1]; exact hJ) (by rw [hx1]; omega) B (by rw [hx1]; exact hB) w' hb)
  have k0 : (K == 0) = false := by simp; omega
  have k8 : (K == 8) = false := by simp; omega
  have k4 : (K == 4) = false := by simp; omega
  have k1 : IntKind.i64.wrap (K + 1) = K + 1 := by rw [IntKind.wrap_i64]; omega
  obtain ⟨K1, hK1⟩ : ∃ K1, K + 1 = K1 := ⟨_, rfl⟩
  rw [hK1] at HA1
  have k2 : IntKind.i64.wrap (K + 1) = K1 := by rw [k1, hK1]
  clear hS hn eo et en hkl hlv hsh hI hJ hl hx0 hx1 hA hB hkx hky ht hr HAT eo' hos hAs hBs sz hs1 hs2 hs3 hs4 z1 z2 z3 hfin hK hls e0 e1 hv p1 p2 p3 p4 h2 h0 h5 k1 hK1
  go_enter Tryz.func68, Tryz.ntmps68
  obtain ⟨w0, hw0⟩ : ∃ w0, w.alloc (.cells #[.string op, .string ⟨#[]⟩, .slice X 2 m] 25) = w0 := ⟨_, rfl⟩
  have B0 := hid (show Below w.heap.size w w0 by rw [← hw0]; exact below_alloc w _)
  have N0 := hid (show NBox w0 w.heap.size (.string op) (.string ⟨#[]⟩) (.slice X 2 m) by rw [← hw0]; exact NBox.fresh _ _ _ _ _)
  have HW0 := hid hw0
  have hz0 : w.heap.size < w0.heap.size := by rw [← hw0]; simp
  clear hw0
  obtain ⟨c0, c1, c2, cf⟩ := N0.out
  go_upto_region 1 with fail
  rw [HW0.out]
  go_wp2_with fail
  refine (HLV.out w0 B0.out).mono ?_
  rintro e w1 ⟨rfl, hb⟩
  have B1 := hid (B0.out.trans (hb.mono (by omega)))
  have N1 := hid (N0.out.below hb)
  have z1 : w.heap.size < w1.heap.size := by have := hb.size; omega
  clear hb c0 c1 c2 cf
  obtain ⟨c0, c1, c2, cf⟩ := N1.out
  have FQ := hid (fun (w' : World) (hb : Below w1.heap.size w1 w') => (show w'.cell? ⟨w.heap.size, 0, none⟩ = some (.string op) ∧ w'.cell? ⟨w.heap.size, 1, none⟩ = some (.string ⟨#[]⟩) ∧ w'.cell? ⟨w.heap.size, 2, none⟩ = some (.slice X 2 m) from ⟨(N1.out.below hb).c0, (N1.out.below hb).c1, (N1.out.below hb).c2⟩))
  have HA0 := hid (fun (w' : World) (hb : Below w1.heap.size w1 w') => HA0.out w' (B1.out.trans (hb.mono (by omega))))
  have HA1 := hid (fun (w' : World) (hb : Below w1.heap.size w1 w') => HA1.out w' (B1.out.trans (hb.mono (by omega))))
  go_wp2_with fail
  go_region_held3 (fun w' => (w'.cell? ⟨w.heap.size, 0, none⟩ = some (.string op) ∧ w'.cell? ⟨w.heap.size, 1, none⟩ = some (.string ⟨#[]⟩) ∧ w'.cell? ⟨w.heap.size, 2, none⟩ = some (.slice X 2 m)) ∧ Below w1.heap.size w1 w')
   (first | assumption | (exact keepB hb6 (by assumption) (FQ.out _)) | (exact keepB hb5 (by assumption) (FQ.out _)) | (exact ⟨FQ.out _ (Below.refl _ _).drew, (Below.refl _ _).drew⟩))
   (first | (go_at_call 114; with_reducible refine (HA0.out _ ?cv).mono ?_; (case cv => exact (by assumption : _ ∧ Below w1.heap.size w1 _).2); rintro e w5 ⟨rfl, hb5⟩) | (go_at_call 114; with_reducible refine (HA1.out _ ?cv).mono ?_; (case cv => exact (by assumption : _ ∧ Below w1.heap.size w1 _).2); rintro e w6 ⟨rfl, hb6⟩))
  have B6 := hid (B1.out.trans ((show Below w1.heap.size w1 w6 by rename_i hS; exact hS.2).mono (by omega)))
  go_wp2
  go_ret
  exact ⟨by simp, B6.out⟩
theorem rshow_all : ∀ (t : Nod), (showE t).length ≤ 900000 → RShows t
 | .mk op tx [], hl => by
  cases hr : rE op tx 0 with
  | none => exact rshow_bad _ hr
  | some r =>
   obtain ⟨h1, h2, h3⟩ := rE_some hr
   have hm := look_mem h1
   clear hr h1
   unfold tblE at hm
   simp only [List.mem_cons, Prod.mk.injEq, List.not_mem_nil, or_false] at hm
   rcases hm with ⟨rfl, rfl⟩ | ⟨rfl, rfl⟩ | ⟨rfl, rfl⟩ | ⟨rfl, rfl⟩ | ⟨rfl, rfl⟩ | ⟨rfl, rfl⟩ | ⟨rfl, rfl⟩ | ⟨rfl, rfl⟩ | ⟨rfl, rfl⟩ | ⟨rfl, rfl⟩ | ⟨rfl, rfl⟩ | ⟨rfl, rfl⟩ | ⟨rfl, rfl⟩ | ⟨rfl, rfl⟩ | ⟨rfl, rfl⟩ | ⟨rfl, rfl⟩ | ⟨rfl, rfl⟩ | ⟨rfl, rfl⟩ | ⟨rfl, rfl⟩ | ⟨rfl, rfl⟩
   all_goals first
    | (revert h2; simp; done)
    | exact rshow_num tx
    | exact rshow_text tx
    | exact rshow_col tx
    | (obtain rfl : tx = [] := h3.resolve_right (by simp); first | exact rshow_true | exact rshow_false | exact rshow_null)
 | .mk op tx [x], hl => by
  cases hr : rE op tx 1 with
  | none => exact rshow_bad _ hr
  | some r =>
   obtain ⟨h1, h2, h3⟩ := rE_some hr
   have hkid : ∀ al : Int, (kdE al (showE x, lvE x)).length ≤ 900000 → RShows x := fun al h => rshow_all x (Nat.le_trans (kd_len al _ _) h)
   have hm := look_mem h1
   have hsh := showE_good (ks := [x]) hr
   rw [hsh] at hl
   clear hr h1
   unfold tblE at hm
   simp only [List.mem_cons, Prod.mk.injEq, List.not_mem_nil, or_false] at hm
   rcases hm with ⟨rfl, rfl⟩ | ⟨rfl, rfl⟩ | ⟨rfl, rfl⟩ | ⟨rfl, rfl⟩ | ⟨rfl, rfl⟩ | ⟨rfl, rfl⟩ | ⟨rfl, rfl⟩ | ⟨rfl, rfl⟩ | ⟨rfl, rfl⟩ | ⟨rfl, rfl⟩ | ⟨rfl, rfl⟩ | ⟨rfl, rfl⟩ | ⟨rfl, rfl⟩ | ⟨rfl, rfl⟩ | ⟨rfl, rfl⟩ | ⟨rfl, rfl⟩ | ⟨rfl, rfl⟩ | ⟨rfl, rfl⟩ | ⟨rfl, rfl⟩ | ⟨rfl, rfl⟩
   all_goals first
    | (revert h2; simp; done)
    | obtain rfl : tx = [] := h3.resolve_right (by simp)
   ·have hl2 : ([110, 111, 116, 32] ++ kdE 2 (showE x, lvE x)).length ≤ 900000 := hl
    rw [List.length_append] at hl2
    exact rshow_not x (hkid 2 (by omega)) (by rw [hsh]; exact hl)
   ·have hl2 : (kdE 4 (showE x, lvE x) ++ [32, 105, 115, 32, 110, 117, 108, 108]).length ≤ 900000 := hl
    rw [List.length_append] at hl2
    exact rshow_isn x (hkid 4 (by omega)) (by rw [hsh]; exact hl)
   ·have hl2 : (45 :: kdE 7 (showE x, lvE x)).length ≤ 900000 := hl
    rw [List.length_cons] at hl2
    exact rshow_neg x (hkid 7 (by omega)) (by rw [hsh]; exact hl)
 | .mk op tx [x, y], hl => by
  cases hr : rE op tx 2 with
  | none => exact rshow_bad _ hr
  | some r =>
   obtain ⟨v, ls, tb⟩ := r
   obtain ⟨h1, h2, h3⟩ := rE_some hr
   have hm := look_mem h1
   have hsh := showE_good (ks := [x, y]) hr
   rw [hsh] at hl
   match ls, h2 with
   | [l0, l1], _ =>
    have hl2 : (kdE l0 (showE x, lvE x) ++ (32 :: (op ++ [32])) ++ kdE l1 (showE y, lvE y)).length ≤ 900000 := hl
    rw [List.length_append, List.length_append] at hl2
    have hx := rshow_all x (Nat.le_trans (kd_len l0 (showE x) (lvE x)) (by omega))
    have hy := rshow_all y (Nat.le_trans (kd_len l1 (showE y) (lvE y)) (by omega))
    have hall : ∀ p ∈ tblE, p.2.2.1.length ≠ 2 ∨ (p.2.2.2 = false ∧ p.1 ∉ [sNot, sIsNull, sNeg, sText]) := by decide
    obtain ⟨htb, hno⟩ := (hall _ hm).resolve_left (fun h => h rfl)
    dsimp only at htb hno
    subst htb
    obtain rfl : tx = [] := h3.resolve_right (by simp)
    exact rshow_two op v l0 l1 hr hno x y hx hy (by rw [hsh]; exact hl)
 | .mk op tx (x :: y :: z :: l), hl => by
  refine rshow_bad _ ?_
  cases hr : rE op tx (x :: y :: z :: l).length with
  | none => exact hr
  | some r =>
   obtain ⟨h1, h2, h3⟩ := rE_some hr
   have := (rule_few h1).1
   simp at h2
   omega
termination_by t => SizeOf.sizeOf t
end Go.Proofs.YtjbpkpfmgbhlpaaGreatDoor.Code
