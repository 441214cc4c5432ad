/-
  The document's Show of an expression's node, of any form.
-/
import Derived.Test.YtjbpkpfmgbhlpaaGreatDoorMs5
import Derived.Test.YtjbpkpfmgbhlpaaGreatDoorMs3
import Derived.Test.YtjbpkpfmgbhlpaaGreatDoorMs4
set_option maxRecDepth 100000
set_option maxHeartbeats 16000000
open Go.Lib (hid)
namespace Go.Proofs.YtjbpkpfmgbhlpaaGreatDoor.Code
open Go.ChangeShapes Go.WideShapes Go.ChangeAt Go.RowKit Val Elems
set_option linter.unusedVariables false
set_option linter.unusedSimpArgs false
theorem keepB {D D' : Prop} {W w1 w2 : World} (hb : Below w1.heap.size w1 w2) (h : D ∧ Below W.heap.size W w1) (f : Below W.heap.size W w2 → D') : D' ∧ Below W.heap.size W w2 := by
 have hB := h.2.trans (hb.mono h.2.size)
 exact ⟨f hB, hB⟩
theorem rat_of (t : Nod) (i : Nat) (hi : i < t.ks.length) (ii ll al : Int) (hii : ii = (i : Int)) (h1 : 0 ≤ ll) (h8 : ll ≤ 8) (hal : al = ll - 1) (hI : RShows t.ks[i]) (hlen : (showE t.ks[i]).length ≤ 900000) (A : ByteArray) (hA : A = ⟨(kdE al (showE t.ks[i], lvE t.ks[i])).toArray⟩) (S : Nat → Prop) (op tx : ByteArray) (X : Option Addr) (n m : Nat) (w : World) (hS : ∀ g, S g → g < w.heap.size) (hn : RIn w S t (op, tx, X, n, m)) :
  Calls Tryz.prog 114 #[.agg #[.string op, .string tx, .slice X n m], .int .i64 ii, .int .i64 ll] w fun e w' => e = .returned (.string A) ∧ Below w.heap.size w w' := by
 subst hii hal hA
 obtain ⟨least, rfl⟩ := Int.eq_ofNat_of_zero_le h1
 exact rat_any t i hi least (by omega) hI hlen S op tx X n m w hS hn
theorem kd_len (al : Int) (s : List UInt8) (l : Int) : s.length ≤ (kdE al (s, l)).length := by
 unfold kdE
 split
 ·exact Nat.le_refl _
 ·simp only [List.length_cons, List.length_append]
  omega
theorem rshow_bad (t : Nod) (hr : rE t.op t.tx t.ks.length = none) : RShows t := by
 intro S op tx X n m w hS hn
 obtain ⟨eo, et, en, hkl⟩ := hn.texts
 dsimp only at eo et en
 have hlv : lvD t = 0 := by unfold lvD; rw [hr]
 have hsh : showE t = [63] := by cases t; exact showE_bad hr
 rw [hsh]
 have HLV := hid (fun (w' : World) (hb : Below w.heap.size w w') => (show Calls Tryz.prog 113 #[.agg #[.string op, .string tx, .slice X n m]] w' (fun e w'' => e = .returned (.int .i64 0) ∧ Below w'.heap.size w' w'') by
  have h := rlevel_any t S op tx X n m w' (hn.bel hS hb)
  rw [hlv] at h
  exact h))
 clear hS hn eo et en hkl hlv hsh hr
 go_enter Tryz.func68, Tryz.ntmps68
 obtain ⟨w0, hw0⟩ : ∃ w0, w.alloc (.cells #[.string op, .string tx, .slice X n m] 25) = w0 := ⟨_, rfl⟩
 have B0 := hid (show Below w.heap.size w w0 by rw [← hw0]; exact below_alloc w _)
 have N0 := hid (show NBox w0 w.heap.size (.string op) (.string tx) (.slice X n m) by rw [← hw0]; exact NBox.fresh _ _ _ _ _)
 have HW0 := hid hw0
 have hz0 : w.heap.size < w0.heap.size := by rw [← hw0]; simp
 clear hw0
 obtain ⟨c0, c1, c2, cf⟩ := N0.out
 go_upto_region 1 with fail
 rw [HW0.out]
 go_wp2_with fail
 refine (HLV.out w0 B0.out).mono ?_
 rintro e w1 ⟨rfl, hb⟩
 have B1 := hid (B0.out.trans (hb.mono (by omega)))
 have N1 := hid (N0.out.below hb)
 have z1 : w.heap.size < w1.heap.size := by have := hb.size; omega
 clear hb c0 c1 c2 cf
 obtain ⟨c0, c1, c2, cf⟩ := N1.out
 go_wp2
 go_ret
 exact ⟨by simp, B1.out⟩
theorem rshow_not (x : Nod) (hI : RShows x) (hl : (showE (.mk sNot [] [x])).length ≤ 900000) : RShows (.mk sNot [] [x]) := by
 obtain ⟨t, ht⟩ : ∃ t : Nod, .mk sNot [] [x] = t := ⟨_, rfl⟩
 have hlv : lvD t = 3 := by rw [← ht]; rfl
 have hsh : showE t = [110, 111, 116, 32] ++ kdE 2 (showE x, lvE x) := by
  rw [← ht, showE_good (r := (2, [2], false)) (by rfl)]
  rfl
 have h0 : 0 < t.ks.length := by rw [← ht]; exact Nat.one_pos
 have hx : t.ks[0] = x := by subst ht; rfl
 rw [ht] at hl ⊢
 intro S op tx X n m w hS hn
 obtain ⟨eo, et, en, hkl⟩ := hn.texts
 dsimp only at eo et en
 rw [hsh]
 rw [hsh, List.length_append] at hl
 have hkl2 := kd_len 2 (showE x) (lvE x)
 obtain rfl : op = ⟨#[110, 111, 116]⟩ := by rw [eo, ← ht]; rfl
 obtain rfl : tx = ⟨#[]⟩ := by rw [et, ← ht]; rfl
 obtain rfl : n = 1 := by rw [en, ← ht]; rfl
 have HLV := hid (fun (w' : World) (hb : Below w.heap.size w w') => (show Calls Tryz.prog 113 #[.agg #[.string ⟨#[110, 111, 116]⟩, .string ⟨#[]⟩, .slice X 1 m]] w' (fun e w'' => e = .returned (.int .i64 3) ∧ Below w'.heap.size w' w'') by
  have h := rlevel_any t S ⟨#[110, 111, 116]⟩ ⟨#[]⟩ X 1 m w' (hn.bel hS hb)
  rw [hlv] at h
  exact h))
 obtain ⟨A, hA⟩ : ∃ A : ByteArray, A = ⟨(kdE 2 (showE x, lvE x)).toArray⟩ := ⟨_, rfl⟩
 have hAs : A.size ≤ 900000 := by rw [hA]; show (kdE 2 (showE x, lvE x)).length ≤ _; omega
 have HAT := hid (fun (w' : World) (hb : Below w.heap.size w w') => rat_of t 0 h0 0 3 2 rfl (by decide) (by decide) (by decide) (by rw [hx]; exact hI) (by rw [hx]; omega) A (by rw [hx]; exact hA) S ⟨#[110, 111, 116]⟩ ⟨#[]⟩ X 1 m w' (fun g hg => Nat.lt_of_lt_of_le (hS g hg) hb.size) (hn.bel hS hb))
 have hcat : ∀ w, (Op.stringOp .add ⟨#[110, 111, 116, 32]⟩ A).run Tryz.prog w = .ok (.string (⟨#[110, 111, 116, 32]⟩ ++ A)) w := fun w => run_string_add_sum w _ _ (by show 4 + A.size ≤ _; omega)
 obtain ⟨R, hR⟩ : ∃ R : ByteArray, (⟨#[110, 111, 116, 32]⟩ ++ A) = R := ⟨_, rfl⟩
 rw [hR] at hcat
 have HR := hid (show (⟨([110, 111, 116, 32] ++ kdE 2 (showE x, lvE x)).toArray⟩ : ByteArray) = R by
  rw [← hR, ← Lib.mk_data (⟨#[110, 111, 116, 32]⟩ ++ A), hA]
  simp [ByteArray.data_append])
 rw [HR.out]
 clear hS hn eo et en hkl hlv hsh hI hl hx h0 hA hR hkl2 ht
 go_enter Tryz.func68, Tryz.ntmps68
 obtain ⟨w0, hw0⟩ : ∃ w0, w.alloc (.cells #[.string ⟨#[110, 111, 116]⟩, .string ⟨#[]⟩, .slice X 1 m] 25) = w0 := ⟨_, rfl⟩
 have B0 := hid (show Below w.heap.size w w0 by rw [← hw0]; exact below_alloc w _)
 have N0 := hid (show NBox w0 w.heap.size (.string ⟨#[110, 111, 116]⟩) (.string ⟨#[]⟩) (.slice X 1 m) by rw [← hw0]; exact NBox.fresh _ _ _ _ _)
 have HW0 := hid hw0
 have hz0 : w.heap.size < w0.heap.size := by rw [← hw0]; simp
 clear hw0
 obtain ⟨c0, c1, c2, cf⟩ := N0.out
 go_upto_region 1 with fail
 rw [HW0.out]
 go_wp2_with fail
 refine (HLV.out w0 B0.out).mono ?_
 rintro e w1 ⟨rfl, hb⟩
 have B1 := hid (B0.out.trans (hb.mono (by omega)))
 have N1 := hid (N0.out.below hb)
 have z1 : w.heap.size < w1.heap.size := by have := hb.size; omega
 clear hb c0 c1 c2 cf
 obtain ⟨c0, c1, c2, cf⟩ := N1.out
 go_wp2_with fail
 refine (HAT.out w1 B1.out).mono ?_
 rintro e w2 ⟨rfl, hb⟩
 have B2 := hid (B1.out.trans (hb.mono (by omega)))
 clear hb c0 c1 c2 cf
 go_wp2
 go_ret
 exact ⟨by simp, B2.out⟩
theorem rshow_isn (x : Nod) (hI : RShows x) (hl : (showE (.mk sIsNull [] [x])).length ≤ 900000) : RShows (.mk sIsNull [] [x]) := by
 obtain ⟨t, ht⟩ : ∃ t : Nod, .mk sIsNull [] [x] = t := ⟨_, rfl⟩
 have hlv : lvD t = 4 := by rw [← ht]; rfl
 have hsh : showE t = kdE 4 (showE x, lvE x) ++ [32, 105, 115, 32, 110, 117, 108, 108] := by
  rw [← ht, showE_good (r := (3, [4], false)) (by rfl)]
  rfl
 have h0 : 0 < t.ks.length := by rw [← ht]; exact Nat.one_pos
 have hx : t.ks[0] = x := by subst ht; rfl
 rw [ht] at hl ⊢
 intro S op tx X n m w hS hn
 obtain ⟨eo, et, en, hkl⟩ := hn.texts
 dsimp only at eo et en
 rw [hsh]
 rw [hsh, List.length_append] at hl
 have hkl2 := kd_len 4 (showE x) (lvE x)
 obtain rfl : op = ⟨#[105, 115, 32, 110, 117, 108, 108]⟩ := by rw [eo, ← ht]; rfl
 obtain rfl : tx = ⟨#[]⟩ := by rw [et, ← ht]; rfl
 obtain rfl : n = 1 := by rw [en, ← ht]; rfl
 have HLV := hid (fun (w' : World) (hb : Below w.heap.size w w') => (show Calls Tryz.prog 113 #[.agg #[.string ⟨#[105, 115, 32, 110, 117, 108, 108]⟩, .string ⟨#[]⟩, .slice X 1 m]] w' (fun e w'' => e = .returned (.int .i64 4) ∧ Below w'.heap.size w' w'') by
  have h := rlevel_any t S ⟨#[105, 115, 32, 110, 117, 108, 108]⟩ ⟨#[]⟩ X 1 m w' (hn.bel hS hb)
  rw [hlv] at h
  exact h))
 obtain ⟨A, hA⟩ : ∃ A : ByteArray, A = ⟨(kdE 4 (showE x, lvE x)).toArray⟩ := ⟨_, rfl⟩
 have hAs : A.size ≤ 900000 := by rw [hA]; show (kdE 4 (showE x, lvE x)).length ≤ _; omega
 have HAT := hid (fun (w' : World) (hb : Below w.heap.size w w') => rat_of t 0 h0 0 5 4 rfl (by decide) (by decide) (by decide) (by rw [hx]; exact hI) (by rw [hx]; omega) A (by rw [hx]; exact hA) S ⟨#[105, 115, 32, 110, 117, 108, 108]⟩ ⟨#[]⟩ X 1 m w' (fun g hg => Nat.lt_of_lt_of_le (hS g hg) hb.size) (hn.bel hS hb))
 have hcat : ∀ w, (Op.stringOp .add A ⟨#[32, 105, 115, 32, 110, 117, 108, 108]⟩).run Tryz.prog w = .ok (.string (A ++ ⟨#[32, 105, 115, 32, 110, 117, 108, 108]⟩)) w := fun w => run_string_add_sum w _ _ (by show A.size + 8 ≤ _; omega)
 obtain ⟨R, hR⟩ : ∃ R : ByteArray, (A ++ ⟨#[32, 105, 115, 32, 110, 117, 108, 108]⟩) = R := ⟨_, rfl⟩
 rw [hR] at hcat
 have HR := hid (show (⟨(kdE 4 (showE x, lvE x) ++ [32, 105, 115, 32, 110, 117, 108, 108]).toArray⟩ : ByteArray) = R by
  rw [← hR, ← Lib.mk_data (A ++ ⟨#[32, 105, 115, 32, 110, 117, 108, 108]⟩), hA]
  simp [ByteArray.data_append])
 rw [HR.out]
 clear hS hn eo et en hkl hlv hsh hI hl hx h0 hA hR hkl2 ht
 go_enter Tryz.func68, Tryz.ntmps68
 obtain ⟨w0, hw0⟩ : ∃ w0, w.alloc (.cells #[.string ⟨#[105, 115, 32, 110, 117, 108, 108]⟩, .string ⟨#[]⟩, .slice X 1 m] 25) = w0 := ⟨_, rfl⟩
 have B0 := hid (show Below w.heap.size w w0 by rw [← hw0]; exact below_alloc w _)
 have N0 := hid (show NBox w0 w.heap.size (.string ⟨#[105, 115, 32, 110, 117, 108, 108]⟩) (.string ⟨#[]⟩) (.slice X 1 m) by rw [← hw0]; exact NBox.fresh _ _ _ _ _)
 have HW0 := hid hw0
 have hz0 : w.heap.size < w0.heap.size := by rw [← hw0]; simp
 clear hw0
 obtain ⟨c0, c1, c2, cf⟩ := N0.out
 go_upto_region 1 with fail
 rw [HW0.out]
 go_wp2_with fail
 refine (HLV.out w0 B0.out).mono ?_
 rintro e w1 ⟨rfl, hb⟩
 have B1 := hid (B0.out.trans (hb.mono (by omega)))
 have N1 := hid (N0.out.below hb)
 have z1 : w.heap.size < w1.heap.size := by have := hb.size; omega
 clear hb c0 c1 c2 cf
 obtain ⟨c0, c1, c2, cf⟩ := N1.out
 go_wp2_with fail
 refine (HAT.out w1 B1.out).mono ?_
 rintro e w2 ⟨rfl, hb⟩
 have B2 := hid (B1.out.trans (hb.mono (by omega)))
 clear hb c0 c1 c2 cf
 go_wp2
 go_ret
 exact ⟨by simp, B2.out⟩
theorem rshow_neg (x : Nod) (hI : RShows x) (hl : (showE (.mk sNeg [] [x])).length ≤ 900000) : RShows (.mk sNeg [] [x]) := by
 obtain ⟨t, ht⟩ : ∃ t : Nod, .mk sNeg [] [x] = t := ⟨_, rfl⟩
 have hlv : lvD t = 7 := by rw [← ht]; rfl
 have hsh : showE t = [45] ++ kdE 7 (showE x, lvE x) := by
  rw [← ht, showE_good (r := (6, [7], false)) (by rfl)]
  rfl
 have h0 : 0 < t.ks.length := by rw [← ht]; exact Nat.one_pos
 have hx : t.ks[0] = x := by subst ht; rfl
 rw [ht] at hl ⊢
 intro S op tx X n m w hS hn
 obtain ⟨eo, et, en, hkl⟩ := hn.texts
 dsimp only at eo et en
 rw [hsh]
 rw [hsh, List.length_append] at hl
 have hkl2 := kd_len 7 (showE x) (lvE x)
 obtain rfl : op = ⟨#[110, 101, 103]⟩ := by rw [eo, ← ht]; rfl
 obtain rfl : tx = ⟨#[]⟩ := by rw [et, ← ht]; rfl
 obtain rfl : n = 1 := by rw [en, ← ht]; rfl
 have HLV := hid (fun (w' : World) (hb : Below w.heap.size w w') => (show Calls Tryz.prog 113 #[.agg #[.string ⟨#[110, 101, 103]⟩, .string ⟨#[]⟩, .slice X 1 m]] w' (fun e w'' => e = .returned (.int .i64 7) ∧ Below w'.heap.size w' w'') by
  have h := rlevel_any t S ⟨#[110, 101, 103]⟩ ⟨#[]⟩ X 1 m w' (hn.bel hS hb)
  rw [hlv] at h
  exact h))
 obtain ⟨A, hA⟩ : ∃ A : ByteArray, A = ⟨(kdE 7 (showE x, lvE x)).toArray⟩ := ⟨_, rfl⟩
 have hAs : A.size ≤ 900000 := by rw [hA]; show (kdE 7 (showE x, lvE x)).length ≤ _; omega
 have HAT := hid (fun (w' : World) (hb : Below w.heap.size w w') => rat_of t 0 h0 0 8 7 rfl (by decide) (by decide) (by decide) (by rw [hx]; exact hI) (by rw [hx]; omega) A (by rw [hx]; exact hA) S ⟨#[110, 101, 103]⟩ ⟨#[]⟩ X 1 m w' (fun g hg => Nat.lt_of_lt_of_le (hS g hg) hb.size) (hn.bel hS hb))
 have hcat : ∀ w, (Op.stringOp .add ⟨#[45]⟩ A).run Tryz.prog w = .ok (.string (⟨#[45]⟩ ++ A)) w := fun w => run_string_add_sum w _ _ (by show 1 + A.size ≤ _; omega)
 obtain ⟨R, hR⟩ : ∃ R : ByteArray, (⟨#[45]⟩ ++ A) = R := ⟨_, rfl⟩
 rw [hR] at hcat
 have HR := hid (show (⟨([45] ++ kdE 7 (showE x, lvE x)).toArray⟩ : ByteArray) = R by
  rw [← hR, ← Lib.mk_data (⟨#[45]⟩ ++ A), hA]
  simp [ByteArray.data_append])
 rw [HR.out]
 clear hS hn eo et en hkl hlv hsh hI hl hx h0 hA hR hkl2 ht
 go_enter Tryz.func68, Tryz.ntmps68
 obtain ⟨w0, hw0⟩ : ∃ w0, w.alloc (.cells #[.string ⟨#[110, 101, 103]⟩, .string ⟨#[]⟩, .slice X 1 m] 25) = w0 := ⟨_, rfl⟩
 have B0 := hid (show Below w.heap.size w w0 by rw [← hw0]; exact below_alloc w _)
 have N0 := hid (show NBox w0 w.heap.size (.string ⟨#[110, 101, 103]⟩) (.string ⟨#[]⟩) (.slice X 1 m) by rw [← hw0]; exact NBox.fresh _ _ _ _ _)
 have HW0 := hid hw0
 have hz0 : w.heap.size < w0.heap.size := by rw [← hw0]; simp
 clear hw0
 obtain ⟨c0, c1, c2, cf⟩ := N0.out
 go_upto_region 1 with fail
 rw [HW0.out]
 go_wp2_with fail
 refine (HLV.out w0 B0.out).mono ?_
 rintro e w1 ⟨rfl, hb⟩
 have B1 := hid (B0.out.trans (hb.mono (by omega)))
 have N1 := hid (N0.out.below hb)
 have z1 : w.heap.size < w1.heap.size := by have := hb.size; omega
 clear hb c0 c1 c2 cf
 obtain ⟨c0, c1, c2, cf⟩ := N1.out
 go_wp2_with fail
 refine (HAT.out w1 B1.out).mono ?_
 rintro e w2 ⟨rfl, hb⟩
 have B2 := hid (B1.out.trans (hb.mono (by omega)))
 clear hb c0 c1 c2 cf
 go_wp2
 go_ret
 exact ⟨by simp, B2.out⟩
theorem rshow_text (x : List UInt8) : RShows (.mk sText x []) := by
 obtain ⟨t, ht⟩ : ∃ t : Nod, .mk sText x [] = t := ⟨_, rfl⟩
 have hr : rE sText x 0 = some (7, [], true) := by unfold rE; rw [show ruleE sText = some (7, [], true) by decide]; dsimp only; rw [if_pos ⟨rfl, .inr rfl⟩]
 have hlv : lvD t = 8 := by rw [← ht]; unfold lvD; rw [show rE (Nod.mk sText x []).op (Nod.mk sText x []).tx (Nod.mk sText x []).ks.length = some (7, [], true) from hr]; rfl
 have hsh : showE t = showL 4 0 ⟨x.toArray⟩ := by
  rw [← ht, showE_good (r := (7, [], true)) hr]
  rfl
 rw [ht]
 intro S op tx X n m w hS hn
 obtain ⟨eo, et, en, hkl⟩ := hn.texts
 dsimp only at eo et en
 rw [hsh]
 obtain rfl : op = ⟨#[116, 101, 120, 116]⟩ := by rw [eo, ← ht]; rfl
 have htx : tx = ⟨x.toArray⟩ := by rw [et, ← ht]; rfl
 obtain rfl : n = 0 := by rw [en, ← ht]; rfl
 rw [← htx]
 have HLV := hid (fun (w' : World) (hb : Below w.heap.size w w') => (show Calls Tryz.prog 113 #[.agg #[.string ⟨#[116, 101, 120, 116]⟩, .string tx, .slice X 0 m]] w' (fun e w'' => e = .returned (.int .i64 8) ∧ Below w'.heap.size w' w'') by
  have h := rlevel_any t S ⟨#[116, 101, 120, 116]⟩ tx X 0 m w' (hn.bel hS hb)
  rw [hlv] at h
  exact h))
 have HSH := hid (fun (w' : World) => rvshow_any 4 0 tx w' (by unfold fits; decide))
 clear hS hn eo et en hkl hlv hsh hr ht htx
 go_enter Tryz.func68, Tryz.ntmps68
 obtain ⟨w0, hw0⟩ : ∃ w0, w.alloc (.cells #[.string ⟨#[116, 101, 120, 116]⟩, .string tx, .slice X 0 m] 25) = w0 := ⟨_, rfl⟩
 have B0 := hid (show Below w.heap.size w w0 by rw [← hw0]; exact below_alloc w _)
 have N0 := hid (show NBox w0 w.heap.size (.string ⟨#[116, 101, 120, 116]⟩) (.string tx) (.slice X 0 m) by rw [← hw0]; exact NBox.fresh _ _ _ _ _)
 have HW0 := hid hw0
 have hz0 : w.heap.size < w0.heap.size := by rw [← hw0]; simp
 clear hw0
 obtain ⟨c0, c1, c2, cf⟩ := N0.out
 go_upto_region 1 with fail
 rw [HW0.out]
 go_wp2_with fail
 refine (HLV.out w0 B0.out).mono ?_
 rintro e w1 ⟨rfl, hb⟩
 have B1 := hid (B0.out.trans (hb.mono (by omega)))
 have N1 := hid (N0.out.below hb)
 have z1 : w.heap.size < w1.heap.size := by have := hb.size; omega
 clear hb c0 c1 c2 cf
 obtain ⟨c0, c1, c2, cf⟩ := N1.out
 go_wp2_with fail
 refine (HSH.out w1).mono ?_
 rintro e w2 ⟨rfl, hb⟩
 have B2 := hid (B1.out.trans (hb.mono (by omega)))
 clear hb c0 c1 c2 cf
 go_wp2
 go_ret
 exact ⟨by simp, B2.out⟩
theorem rshow_num (x : List UInt8) : RShows (.mk sNum x []) := by
 obtain ⟨t, ht⟩ : ∃ t : Nod, .mk sNum x [] = t := ⟨_, rfl⟩
 have hr : rE sNum x 0 = some (7, [], true) := by unfold rE; rw [show ruleE sNum = some (7, [], true) by decide]; dsimp only; rw [if_pos ⟨rfl, .inr rfl⟩]
 have hlv : lvD t = 8 := by rw [← ht]; unfold lvD; rw [show rE (Nod.mk sNum x []).op (Nod.mk sNum x []).tx (Nod.mk sNum x []).ks.length = some (7, [], true) from hr]; rfl
 have hsh : showE t = x := by
  rw [← ht, showE_good (r := (7, [], true)) hr]
  rfl
 rw [ht]
 intro S op tx X n m w hS hn
 obtain ⟨eo, et, en, hkl⟩ := hn.texts
 dsimp only at eo et en
 rw [hsh]
 obtain rfl : op = ⟨#[110, 117, 109]⟩ := by rw [eo, ← ht]; rfl
 have htx : tx = ⟨x.toArray⟩ := by rw [et, ← ht]; rfl
 obtain rfl : n = 0 := by rw [en, ← ht]; rfl
 rw [← htx]
 have HLV := hid (fun (w' : World) (hb : Below w.heap.size w w') => (show Calls Tryz.prog 113 #[.agg #[.string ⟨#[110, 117, 109]⟩, .string tx, .slice X 0 m]] w' (fun e w'' => e = .returned (.int .i64 8) ∧ Below w'.heap.size w' w'') by
  have h := rlevel_any t S ⟨#[110, 117, 109]⟩ tx X 0 m w' (hn.bel hS hb)
  rw [hlv] at h
  exact h))
 clear hS hn eo et en hkl hlv hsh hr ht htx
 by_cases hx : tx = ⟨#[]⟩
 ·subst hx
  go_enter Tryz.func68, Tryz.ntmps68
  obtain ⟨w0, hw0⟩ : ∃ w0, w.alloc (.cells #[.string ⟨#[110, 117, 109]⟩, .string ⟨#[]⟩, .slice X 0 m] 25) = w0 := ⟨_, rfl⟩
  have B0 := hid (show Below w.heap.size w w0 by rw [← hw0]; exact below_alloc w _)
  have N0 := hid (show NBox w0 w.heap.size (.string ⟨#[110, 117, 109]⟩) (.string ⟨#[]⟩) (.slice X 0 m) by rw [← hw0]; exact NBox.fresh _ _ _ _ _)
  have HW0 := hid hw0
  have hz0 : w.heap.size < w0.heap.size := by rw [← hw0]; simp
  clear hw0
  obtain ⟨c0, c1, c2, cf⟩ := N0.out
  go_upto_region 1 with fail
  rw [HW0.out]
  go_wp2_with fail
  refine (HLV.out w0 B0.out).mono ?_
  rintro e w1 ⟨rfl, hb⟩
  have B1 := hid (B0.out.trans (hb.mono (by omega)))
  have N1 := hid (N0.out.below hb)
  have z1 : w.heap.size < w1.heap.size := by have := hb.size; omega
  clear hb c0 c1 c2 cf
  obtain ⟨c0, c1, c2, cf⟩ := N1.out
  go_wp2
  go_ret
  exact ⟨by simp, B1.out⟩
 ·have x2 : ¬ tx.toList = [] := fun e => hx (by rw [ByteArray.toList_eq] at e; rw [← Lib.mk_data tx, e])
  have x1 : (tx.toList == []) = false := by simpa using x2
  have x3 : (tx.toList != []) = true := by simpa using x2
  clear hx x2
  go_enter Tryz.func68, Tryz.ntmps68
  obtain ⟨w0, hw0⟩ : ∃ w0, w.alloc (.cells #[.string ⟨#[110, 117, 109]⟩, .string tx, .slice X 0 m] 25) = w0 := ⟨_, rfl⟩
  have B0 := hid (show Below w.heap.size w w0 by rw [← hw0]; exact below_alloc w _)
  have N0 := hid (show NBox w0 w.heap.size (.string ⟨#[110, 117, 109]⟩) (.string tx) (.slice X 0 m) by rw [← hw0]; exact NBox.fresh _ _ _ _ _)
  have HW0 := hid hw0
  have hz0 : w.heap.size < w0.heap.size := by rw [← hw0]; simp
  clear hw0
  obtain ⟨c0, c1, c2, cf⟩ := N0.out
  go_upto_region 1 with fail
  rw [HW0.out]
  go_wp2_with fail
  refine (HLV.out w0 B0.out).mono ?_
  rintro e w1 ⟨rfl, hb⟩
  have B1 := hid (B0.out.trans (hb.mono (by omega)))
  have N1 := hid (N0.out.below hb)
  have z1 : w.heap.size < w1.heap.size := by have := hb.size; omega
  clear hb c0 c1 c2 cf
  obtain ⟨c0, c1, c2, cf⟩ := N1.out
  go_wp2
  go_ret
  exact ⟨by simp, B1.out⟩
theorem rshow_col (x : List UInt8) : RShows (.mk sCol x []) := by
 obtain ⟨t, ht⟩ : ∃ t : Nod, .mk sCol x [] = t := ⟨_, rfl⟩
 have hr : rE sCol x 0 = some (7, [], true) := by unfold rE; rw [show ruleE sCol = some (7, [], true) by decide]; dsimp only; rw [if_pos ⟨rfl, .inr rfl⟩]
 have hlv : lvD t = 8 := by rw [← ht]; unfold lvD; rw [show rE (Nod.mk sCol x []).op (Nod.mk sCol x []).tx (Nod.mk sCol x []).ks.length = some (7, [], true) from hr]; rfl
 have hsh : showE t = x := by
  rw [← ht, showE_good (r := (7, [], true)) hr]
  rfl
 rw [ht]
 intro S op tx X n m w hS hn
 obtain ⟨eo, et, en, hkl⟩ := hn.texts
 dsimp only at eo et en
 rw [hsh]
 obtain rfl : op = ⟨#[99, 111, 108]⟩ := by rw [eo, ← ht]; rfl
 have htx : tx = ⟨x.toArray⟩ := by rw [et, ← ht]; rfl
 obtain rfl : n = 0 := by rw [en, ← ht]; rfl
 rw [← htx]
 have HLV := hid (fun (w' : World) (hb : Below w.heap.size w w') => (show Calls Tryz.prog 113 #[.agg #[.string ⟨#[99, 111, 108]⟩, .string tx, .slice X 0 m]] w' (fun e w'' => e = .returned (.int .i64 8) ∧ Below w'.heap.size w' w'') by
  have h := rlevel_any t S ⟨#[99, 111, 108]⟩ tx X 0 m w' (hn.bel hS hb)
  rw [hlv] at h
  exact h))
 clear hS hn eo et en hkl hlv hsh hr ht htx
 by_cases hx : tx = ⟨#[]⟩
 ·subst hx
  go_enter Tryz.func68, Tryz.ntmps68
  obtain ⟨w0, hw0⟩ : ∃ w0, w.alloc (.cells #[.string ⟨#[99, 111, 108]⟩, .string ⟨#[]⟩, .slice X 0 m] 25) = w0 := ⟨_, rfl⟩
  have B0 := hid (show Below w.heap.size w w0 by rw [← hw0]; exact below_alloc w _)
  have N0 := hid (show NBox w0 w.heap.size (.string ⟨#[99, 111, 108]⟩) (.string ⟨#[]⟩) (.slice X 0 m) by rw [← hw0]; exact NBox.fresh _ _ _ _ _)
  have HW0 := hid hw0
  have hz0 : w.heap.size < w0.heap.size := by rw [← hw0]; simp
  clear hw0
  obtain ⟨c0, c1, c2, cf⟩ := N0.out
  go_upto_region 1 with fail
  rw [HW0.out]
  go_wp2_with fail
  refine (HLV.out w0 B0.out).mono ?_
  rintro e w1 ⟨rfl, hb⟩
  have B1 := hid (B0.out.trans (hb.mono (by omega)))
  have N1 := hid (N0.out.below hb)
  have z1 : w.heap.size < w1.heap.size := by have := hb.size; omega
  clear hb c0 c1 c2 cf
  obtain ⟨c0, c1, c2, cf⟩ := N1.out
  go_wp2
  go_ret
  exact ⟨by simp, B1.out⟩
 ·have x2 : ¬ tx.toList = [] := fun e => hx (by rw [ByteArray.toList_eq] at e; rw [← Lib.mk_data tx, e])
  have x1 : (tx.toList == []) = false := by simpa using x2
  have x3 : (tx.toList != []) = true := by simpa using x2
  clear hx x2
  go_enter Tryz.func68, Tryz.ntmps68
  obtain ⟨w0, hw0⟩ : ∃ w0, w.alloc (.cells #[.string ⟨#[99, 111, 108]⟩, .string tx, .slice X 0 m] 25) = w0 := ⟨_, rfl⟩
  have B0 := hid (show Below w.heap.size w w0 by rw [← hw0]; exact below_alloc w _)
  have N0 := hid (show NBox w0 w.heap.size (.string ⟨#[99, 111, 108]⟩) (.string tx) (.slice X 0 m) by rw [← hw0]; exact NBox.fresh _ _ _ _ _)
  have HW0 := hid hw0
  have hz0 : w.heap.size < w0.heap.size := by rw [← hw0]; simp
  clear hw0
  obtain ⟨c0, c1, c2, cf⟩ := N0.out
  go_upto_region 1 with fail
  rw [HW0.out]
  go_wp2_with fail
  refine (HLV.out w0 B0.out).mono ?_
  rintro e w1 ⟨rfl, hb⟩
  have B1 := hid (B0.out.trans (hb.mono (by omega)))
  have N1 := hid (N0.out.below hb)
  have z1 : w.heap.size < w1.heap.size := by have := hb.size; omega
  clear hb c0 c1 c2 cf
  obtain ⟨c0, c1, c2, cf⟩ := N1.out
  go_wp2
  go_ret
  exact ⟨by simp, B1.out⟩
theorem rshow_true : RShows (.mk sTrue [] []) := by
 obtain ⟨t, ht⟩ : ∃ t : Nod, .mk sTrue [] [] = t := ⟨_, rfl⟩
 have hlv : lvD t = 8 := by rw [← ht]; rfl
 have hsh : showE t = sTrue := by
  rw [← ht, showE_good (r := (7, [], false)) (by rfl)]
  rfl
 rw [ht]
 intro S op tx X n m w hS hn
 obtain ⟨eo, et, en, hkl⟩ := hn.texts
 dsimp only at eo et en
 rw [hsh]
 obtain rfl : op = ⟨#[116, 114, 117, 101]⟩ := by rw [eo, ← ht]; rfl
 obtain rfl : tx = ⟨#[]⟩ := by rw [et, ← ht]; rfl
 obtain rfl : n = 0 := by rw [en, ← ht]; rfl
 have HLV := hid (fun (w' : World) (hb : Below w.heap.size w w') => (show Calls Tryz.prog 113 #[.agg #[.string ⟨#[116, 114, 117, 101]⟩, .string ⟨#[]⟩, .slice X 0 m]] w' (fun e w'' => e = .returned (.int .i64 8) ∧ Below w'.heap.size w' w'') by
  have h := rlevel_any t S ⟨#[116, 114, 117, 101]⟩ ⟨#[]⟩ X 0 m w' (hn.bel hS hb)
  rw [hlv] at h
  exact h))
 clear hS hn eo et en hkl hlv hsh ht
 go_enter Tryz.func68, Tryz.ntmps68
 obtain ⟨w0, hw0⟩ : ∃ w0, w.alloc (.cells #[.string ⟨#[116, 114, 117, 101]⟩, .string ⟨#[]⟩, .slice X 0 m] 25) = w0 := ⟨_, rfl⟩
 have B0 := hid (show Below w.heap.size w w0 by rw [← hw0]; exact below_alloc w _)
 have N0 := hid (show NBox w0 w.heap.size (.string ⟨#[116, 114, 117, 101]⟩) (.string ⟨#[]⟩) (.slice X 0 m) by rw [← hw0]; exact NBox.fresh _ _ _ _ _)
 have HW0 := hid hw0
 have hz0 : w.heap.size < w0.heap.size := by rw [← hw0]; simp
 clear hw0
 obtain ⟨c0, c1, c2, cf⟩ := N0.out
 go_upto_region 1 with fail
 rw [HW0.out]
 go_wp2_with fail
 refine (HLV.out w0 B0.out).mono ?_
 rintro e w1 ⟨rfl, hb⟩
 have B1 := hid (B0.out.trans (hb.mono (by omega)))
 have N1 := hid (N0.out.below hb)
 have z1 : w.heap.size < w1.heap.size := by have := hb.size; omega
 clear hb c0 c1 c2 cf
 obtain ⟨c0, c1, c2, cf⟩ := N1.out
 go_wp2
 go_ret
 exact ⟨by rfl, B1.out⟩
theorem rshow_false : RShows (.mk sFalse [] []) := by
 obtain ⟨t, ht⟩ : ∃ t : Nod, .mk sFalse [] [] = t := ⟨_, rfl⟩
 have hlv : lvD t = 8 := by rw [← ht]; rfl
 have hsh : showE t = sFalse := by
  rw [← ht, showE_good (r := (7, [], false)) (by rfl)]
  rfl
 rw [ht]
 intro S op tx X n m w hS hn
 obtain ⟨eo, et, en, hkl⟩ := hn.texts
 dsimp only at eo et en
 rw [hsh]
 obtain rfl : op = ⟨#[102, 97, 108, 115, 101]⟩ := by rw [eo, ← ht]; rfl
 obtain rfl : tx = ⟨#[]⟩ := by rw [et, ← ht]; rfl
 obtain rfl : n = 0 := by rw [en, ← ht]; rfl
 have HLV := hid (fun (w' : World) (hb : Below w.heap.size w w') => (show Calls Tryz.prog 113 #[.agg #[.string ⟨#[102, 97, 108, 115, 101]⟩, .string ⟨#[]⟩, .slice X 0 m]] w' (fun e w'' => e = .returned (.int .i64 8) ∧ Below w'.heap.size w' w'') by
  have h := rlevel_any t S ⟨#[102, 97, 108, 115, 101]⟩ ⟨#[]⟩ X 0 m w' (hn.bel hS hb)
  rw [hlv] at h
  exact h))
 clear hS hn eo et en hkl hlv hsh ht
 go_enter Tryz.func68, Tryz.ntmps68
 obtain ⟨w0, hw0⟩ : ∃ w0, w.alloc (.cells #[.string ⟨#[102, 97, 108, 115, 101]⟩, .string ⟨#[]⟩, .slice X 0 m] 25) = w0 := ⟨_, rfl⟩
 have B0 := hid (show Below w.heap.size w w0 by rw [← hw0]; exact below_alloc w _)
 have N0 := hid (show NBox w0 w.heap.size (.string ⟨#[102, 97, 108, 115, 101]⟩) (.string ⟨#[]⟩) (.slice X 0 m) by rw [← hw0]; exact NBox.fresh _ _ _ _ _)
 have HW0 := hid hw0
 have hz0 : w.heap.size < w0.heap.size := by rw [← hw0]; simp
 clear hw0
 obtain ⟨c0, c1, c2, cf⟩ := N0.out
 go_upto_region 1 with fail
 rw [HW0.out]
 go_wp2_with fail
 refine (HLV.out w0 B0.out).mono ?_
 rintro e w1 ⟨rfl, hb⟩
 have B1 := hid (B0.out.trans (hb.mono (by omega)))
 have N1 := hid (N0.out.below hb)
 have z1 : w.heap.size < w1.heap.size := by have := hb.size; omega
 clear hb c0 c1 c2 cf
 obtain ⟨c0, c1, c2, cf⟩ := N1.out
 go_wp2
 go_ret
 exact ⟨by rfl, B1.out⟩
theorem rshow_null : RShows (.mk sNull [] []) := by
 obtain ⟨t, ht⟩ : ∃ t : Nod, .mk sNull [] [] = t := ⟨_, rfl⟩
 have hlv : lvD t = 8 := by rw [← ht]; rfl
 have hsh : showE t = sNull := by
  rw [← ht, showE_good (r := (7, [], false)) (by rfl)]
  rfl
 rw [ht]
 intro S op tx X n m w hS hn
 obtain ⟨eo, et, en, hkl⟩ := hn.texts
 dsimp only at eo et en
 rw [hsh]
 obtain rfl : op = ⟨#[110, 117, 108, 108]⟩ := by rw [eo, ← ht]; rfl
 obtain rfl : tx = ⟨#[]⟩ := by rw [et, ← ht]; rfl
 obtain rfl : n = 0 := by rw [en, ← ht]; rfl
 have HLV := hid (fun (w' : World) (hb : Below w.heap.size w w') => (show Calls Tryz.prog 113 #[.agg #[.string ⟨#[110, 117, 108, 108]⟩, .string ⟨#[]⟩, .slice X 0 m]] w' (fun e w'' => e = .returned (.int .i64 8) ∧ Below w'.heap.size w' w'') by
  have h := rlevel_any t S ⟨#[110, 117, 108, 108]⟩ ⟨#[]⟩ X 0 m w' (hn.bel hS hb)
  rw [hlv] at h
  exact h))
 clear hS hn eo et en hkl hlv hsh ht
 go_enter Tryz.func68, Tryz.ntmps68
 obtain ⟨w0, hw0⟩ : ∃ w0, w.alloc (.cells #[.string ⟨#[110, 117, 108, 108]⟩, .string ⟨#[]⟩, .slice X 0 m] 25) = w0 := ⟨_, rfl⟩
 have B0 := hid (show Below w.heap.size w w0 by rw [← hw0]; exact below_alloc w _)
 have N0 := hid (show NBox w0 w.heap.size (.string ⟨#[110, 117, 108, 108]⟩) (.string ⟨#[]⟩) (.slice X 0 m) by rw [← hw0]; exact NBox.fresh _ _ _ _ _)
 have HW0 := hid hw0
 have hz0 : w.heap.size < w0.heap.size := by rw [← hw0]; simp
 clear hw0
 obtain ⟨c0, c1, c2, cf⟩ := N0.out
 go_upto_region 1 with fail
 rw [HW0.out]
 go_wp2_with fail
 refine (HLV.out w0 B0.out).mono ?_
 rintro e w1 ⟨rfl, hb⟩
 have B1 := hid (B0.out.trans (hb.mono (by omega)))
 have N1 := hid (N0.out.below hb)
 have z1 : w.heap.size < w1.heap.size := by have := hb.size; omega
 clear hb c0 c1 c2 cf
 obtain ⟨c0, c1, c2, cf⟩ := N1.out
 go_wp2
 go_ret
 exact ⟨by rfl, B1.out⟩
end Go.Proofs.YtjbpkpfmgbhlpaaGreatDoor.Code
/-
  The walk of QueryShows, with Size, Show, Leaves and the live question by their contracts.
-/
namespace Go.Proofs.YtjbpkpfmgbhlpaaGreatDoor.queryShows
open Go.ChangeShapes Go.WideShapes Go.ChangeAt Go.RowKit Val Elems Go.Proofs.YtjbpkpfmgbhlpaaGreatDoor.Code
set_option linter.unusedVariables false
set_option linter.unusedSimpArgs false
mutual
theorem leaves_tot : ∀ t : Nod, (leavesQ t).length ≤ t.tot
 | .mk o x ks => by
  have := leavess_tot ks
  rw [leavesQ, tot_mk, List.length_append]
  split
  ·simp only [List.length_cons, List.length_nil]; omega
  ·simp only [List.length_nil]; omega
theorem leavess_tot : ∀ l : List Nod, (leavessQ l).length ≤ Nod.totL l
 | [] => by rw [leavessQ]; exact Nat.zero_le _
 | n :: l => by
  have h1 := leaves_tot n
  have h2 := leavess_tot l
  rw [leavessQ, Nod.totL, List.length_append]
  omega
end
theorem walk_of (t : Nod) (S : Nat → Prop) (op tx : ByteArray) (X : Option Addr) (n k : Nat) (w : World) (hS : ∀ g, S g → g < w.heap.size) (hn : RIn w S t (op, tx, X, n, k)) (htot : t.tot ≤ 1048576)
  (hA : ∀ w0, Below w.heap.size w w0 → w.heap.size ≤ w0.heap.size → Calls Tryz.prog 7 #[] w0 (fun e w' => e = .returned (.bool true) ∧ Below w0.heap.size w0 w'))
  (hP : t.tot ≤ 400 → ∀ w0, Below w.heap.size w w0 → Calls Tryz.prog 16 #[.agg #[.string op, .string tx, .slice X n k]] w0 (fun e w' => e = .returned (.string ⟨(showQ t).toArray⟩) ∧ Below w0.heap.size w0 w'))
  (hR : t.tot ≤ 400 → ∀ w0, Below w.heap.size w w0 → Calls Tryz.prog 17 #[.agg #[.string op, .string tx, .slice X n k]] w0 (fun e w' => e = .returned (.string ⟨(showQ t).toArray⟩) ∧ Below w0.heap.size w0 w'))
  (hL : t.tot ≤ 400 → ∀ w0, Below w.heap.size w w0 → Calls Tryz.prog 19 #[.agg #[.string op, .string tx, .slice X n k]] w0 (fun e w' => ∃ (A : Option Addr) (cap : Nat), e = .returned (.slice A (leavesQ t).length cap) ∧ At sc 1 w' w'.heap.size A (leavesQ t) ∧ Below w0.heap.size w0 w'))
  (hM : t.tot ≤ 400 → ∀ w0, Below w.heap.size w w0 → Calls Tryz.prog 20 #[.agg #[.string op, .string tx, .slice X n k]] w0 (fun e w' => ∃ (A : Option Addr) (cap : Nat), e = .returned (.slice A (leavesQ t).length cap) ∧ At sc 1 w' w'.heap.size A (leavesQ t) ∧ Below w0.heap.size w0 w')) :
  Calls Tryz.prog 5 #[.agg #[.string op, .string tx, .slice X n k]] w fun e w' => e = .returned (.bool true) ∧ Below w.heap.size w w' := by
 have hlt := leaves_tot t
 obtain ⟨T, hT⟩ : ∃ T : ByteArray, (⟨(showQ t).toArray⟩ : ByteArray) = T := ⟨_, rfl⟩
 obtain ⟨L, hLL⟩ : ∃ L, leavesQ t = L := ⟨_, rfl⟩
 rw [hT] at hP hR
 rw [hLL] at hL hM hlt
 obtain ⟨N, hN⟩ : ∃ N, L.length = N := ⟨_, rfl⟩
 have HST := hid (fun (w' : World) (A B : Option Addr) (ca cb : Nat) (h1 : At sc 1 w' w'.heap.size A L) (h2 : At sc 1 w' w'.heap.size B L) (h9 : N ≤ 1048576) => same_texts A B ca cb L w' h1 h2 (by omega))
 rw [hN] at hL hM hlt HST
 have HA := hid hA
 have HP := hid hP
 have HR := hid hR
 have HL := hid hL
 have HM := hid hM
 have HLT := hid hlt
 have HTOT := hid htot
 have HS := hid hS
 have HN := hid hn
 have HSZ := hid (fun (w' : World) (hb : Below w.heap.size w w') => size_any t.deep t (Nat.le_refl _) htot S op tx X n k w' (fun g hg => Nat.lt_of_lt_of_le (hS g hg) hb.size) (hn.bel hS hb))
 clear hA hP hR hL hM hlt htot hS hn hT hLL hN
 go_enter Tryz.func5, Tryz.ntmps5
 obtain ⟨w0, hw0⟩ : ∃ w0, w.alloc (.cells #[.string op, .string tx, .slice X n k] 25) = w0 := ⟨_, rfl⟩
 have B0 := hid (show Below w.heap.size w w0 by rw [← hw0]; exact below_alloc w _)
 have N0 := hid (show NBox w0 w.heap.size (.string op) (.string tx) (.slice X n k) by rw [← hw0]; exact NBox.fresh _ _ _ _ _)
 have HW0 := hid hw0
 have hz0 : w.heap.size < w0.heap.size := by rw [← hw0]; simp
 clear hw0
 obtain ⟨c0, c1, c2, cf⟩ := N0.out
 go_upto_region 1 with fail
 rw [HW0.out]
 go_wp2_with fail
 refine (HSZ.out w0 B0.out).mono ?_
 rintro e w1 ⟨K, rfl, hK, hK2, hb⟩
 have B1 := hid (B0.out.trans (hb.mono (by omega)))
 have N1 := hid (N0.out.below hb)
 have z1 : w.heap.size < w1.heap.size := by have := hb.size; omega
 have HK2 := hid hK2
 clear hb c0 c1 c2 cf hK hK2
 by_cases hbig : 400 < K
 ·have e1 : decide ((400 : Int) < (K : Int)) = true := by simp; omega
  go_wp2_with fail
  refine (HA.out _ B1.out (by omega)).mono ?_
  rintro e w2 ⟨rfl, hb2⟩
  have L2 := hid (bnext B1.out (by omega) hb2)
  clear hb2
  go_wp2
  go_ret
  exact ⟨rfl, L2.out⟩
 ·have e1 : decide ((400 : Int) < (K : Int)) = false := by simp; omega
  have h4 : t.tot ≤ 400 := by rw [← HK2.out (by omega)]; omega
  have hN9 : N ≤ 1048576 := by have := HLT.out; omega
  have QA := hid (fun (w' : World) (hb : Below w1.heap.size w1 w') => HA.out w' (B1.out.trans (hb.mono (by omega))) (by have := hb.size; omega))
  have QP := hid (fun (w' : World) (hb : Below w1.heap.size w1 w') => HP.out h4 w' (B1.out.trans (hb.mono (by omega))))
  have QR := hid (fun (w' : World) (hb : Below w1.heap.size w1 w') => HR.out h4 w' (B1.out.trans (hb.mono (by omega))))
  have QL := hid (fun (w' : World) (hb : Below w1.heap.size w1 w') => HL.out h4 w' (B1.out.trans (hb.mono (by omega))))
  have QM := hid (fun (w' : World) (hb : Below w1.heap.size w1 w') => HM.out h4 w' (B1.out.trans (hb.mono (by omega))))
  have FQ := hid (fun (w' : World) (hb : Below w1.heap.size w1 w') => (show w'.cell? ⟨w.heap.size, 0, none⟩ = some (.string op) ∧ w'.cell? ⟨w.heap.size, 1, none⟩ = some (.string tx) ∧ w'.cell? ⟨w.heap.size, 2, none⟩ = some (.slice X n k) from ⟨(N1.out.below hb).c0, (N1.out.below hb).c1, (N1.out.below hb).c2⟩))
  have HN9 := hid hN9
  clear hbig h4 hN9 HA HP HR HL HM HSZ
  go_wp2_with fail
  go_region_held3 (fun w' => (w'.cell? ⟨w.heap.size, 0, none⟩ = some (.string op) ∧ w'.cell? ⟨w.heap.size, 1, none⟩ = some (.string tx) ∧ w'.cell? ⟨w.heap.size, 2, none⟩ = some (.slice X n k)) ∧ Below w1.heap.size w1 w')
   (first | assumption | (exact keepB hb15 (by assumption) (FQ.out _)) | (exact keepB hb14 (by assumption) (FQ.out _)) | (exact keepB hb13 (by assumption) (FQ.out _)) | (exact keepB hb12 (by assumption) (FQ.out _)) | (exact keepB hb11 (by assumption) (FQ.out _)) | (exact keepB hb10 (by assumption) (FQ.out _)) | (exact ⟨FQ.out _ (Below.refl _ _).drew, (Below.refl _ _).drew⟩))
   (first | (go_at_call 7; with_reducible refine (QA.out _ ?cv).mono ?_; (case cv => exact (by assumption : _ ∧ Below w1.heap.size w1 _).2); rintro e w10 ⟨rfl, hb10⟩) | (go_at_call 16; with_reducible refine (QP.out _ ?cv).mono ?_; (case cv => exact (by assumption : _ ∧ Below w1.heap.size w1 _).2); rintro e w11 ⟨rfl, hb11⟩) | (go_at_call 17; with_reducible refine (QR.out _ ?cv).mono ?_; (case cv => exact (by assumption : _ ∧ Below w1.heap.size w1 _).2); rintro e w12 ⟨rfl, hb12⟩) | (go_at_call 19; with_reducible refine (QL.out _ ?cv).mono ?_; (case cv => exact (by assumption : _ ∧ Below w1.heap.size w1 _).2); rintro e w13 ⟨A3, cp3, rfl, hat3, hb13⟩) | (go_at_call 20; with_reducible refine (QM.out _ ?cv).mono ?_; (case cv => exact (by assumption : _ ∧ Below w1.heap.size w1 _).2); rintro e w14 ⟨A4, cp4, rfl, hat4, hb14⟩) | (go_at_call 18; with_reducible refine (HST.out _ _ _ _ _ ?ca ?cb HN9.out).mono ?_; (case ca => exact (hat3.below hb14).more hb14.size); (case cb => exact hat4); rintro e w15 ⟨rfl, hb15⟩))
  have B15 := hid (B1.out.trans ((show Below w1.heap.size w1 w15 by rename_i hS; exact hS.2).mono (by omega)))
  go_wp2
  go_ret
  exact ⟨by simp, B15.out⟩
end Go.Proofs.YtjbpkpfmgbhlpaaGreatDoor.queryShows
/-
  The document's is and enough.
-/
namespace Go.Proofs.YtjbpkpfmgbhlpaaGreatDoor.Code
open Go.ChangeShapes Go.WideShapes Go.ChangeAt Go.RowKit Val Elems
set_option linter.unusedVariables false
set_option linter.unusedSimpArgs false
theorem same_bytes (a b : ByteArray) : (a.data.toList == b.data.toList) = (a.toList == b.toList) := by rw [ByteArray.toList_eq, ByteArray.toList_eq]
theorem qis_any (op tx : ByteArray) (X : Option Addr) (n k : Nat) (o : ByteArray) (c : Nat) (w : World) :
  Calls Tryz.prog 34 #[.agg #[.string op, .string tx, .slice X n k], .string o, .int .i64 c] w fun e w' => e = .returned (.bool (op.data.toList == o.data.toList && n == c)) ∧ Below w.heap.size w w' := by
 rw [same_bytes]
 obtain ⟨p, hp⟩ : ∃ p, (op.toList == o.toList) = p := ⟨_, rfl⟩
 obtain ⟨q, hq⟩ : ∃ q, (n == c) = q := ⟨_, rfl⟩
 have hq2 : ((n : Int) == (c : Int)) = q := by
  rw [← hq, Bool.eq_iff_iff]
  simp
  omega
 rw [hp]
 cases p
 ·go_enter Tryz.func34, Tryz.ntmps34
  go_wp2
  go_ret
  exact ⟨rfl, (Below.refl _ _).alloc (Nat.le_refl _) _⟩
 ·rw [hq]
  go_enter Tryz.func34, Tryz.ntmps34
  go_wp2
  go_ret
  exact ⟨retB (by simp [*]), (Below.refl _ _).alloc (Nat.le_refl _) _⟩
def enE (op tx : List UInt8) (n : Nat) : Bool := tx == [] && (if op = sFilter then n == 2 else if op = sDistinct then n == 1 else if op = sProject ∨ op = sUnion then decide (2 ≤ n) else if op = sJoin ∨ op = sGroup then decide (3 ≤ n) else false)
theorem lit_ne {op : ByteArray} {s : List UInt8} (h : op.data.toList ≠ s) : (op.toList == s) = false := by
 rw [ByteArray.toList_eq]
 simpa using h
theorem qenough_any (op tx : ByteArray) (X : Option Addr) (n k : Nat) (w : World) :
  Calls Tryz.prog 35 #[.agg #[.string op, .string tx, .slice X n k]] w fun e w' => e = .returned (.bool (enE op.data.toList tx.data.toList n)) ∧ Below w.heap.size w w' := by
 have HB := hid (fun (o : Obj) => below_alloc w o)
 by_cases ht : tx.data.toList = []
 ·obtain rfl : tx = ⟨#[]⟩ := by rw [← Lib.mk_data tx, ht]
  have he : ∀ o : List UInt8, enE o (⟨#[]⟩ : ByteArray).data.toList n = (if o = sFilter then n == 2 else if o = sDistinct then n == 1 else if o = sProject ∨ o = sUnion then decide (2 ≤ n) else if o = sJoin ∨ o = sGroup then decide (3 ≤ n) else false) := fun o => rfl
  rw [he]
  clear ht he
  by_cases h0 : op.data.toList = sFilter
  ·obtain rfl : op = ⟨#[102, 105, 108, 116, 101, 114]⟩ := by rw [← Lib.mk_data op, h0]; rfl
   clear h0
   rw [show (if (⟨#[102, 105, 108, 116, 101, 114]⟩ : ByteArray).data.toList = sFilter then n == 2 else if (⟨#[102, 105, 108, 116, 101, 114]⟩ : ByteArray).data.toList = sDistinct then n == 1 else if (⟨#[102, 105, 108, 116, 101, 114]⟩ : ByteArray).data.toList = sProject ∨ (⟨#[102, 105, 108, 116, 101, 114]⟩ : ByteArray).data.toList = sUnion then decide (2 ≤ n) else if (⟨#[102, 105, 108, 116, 101, 114]⟩ : ByteArray).data.toList = sJoin ∨ (⟨#[102, 105, 108, 116, 101, 114]⟩ : ByteArray).data.toList = sGroup then decide (3 ≤ n) else false) = (n == 2) from rfl]
   obtain ⟨v, hv⟩ : ∃ v, (n == 2) = v := ⟨_, rfl⟩
   have hv2 : ((n : Int) == 2) = v := by
    rw [← hv, Bool.eq_iff_iff]
    simp <;> omega
   rw [hv]
   go_enter Tryz.func35, Tryz.ntmps35
   go_wp2
   go_ret
   exact ⟨retB (by simp [*]), HB.out _⟩
  by_cases h1 : op.data.toList = sDistinct
  ·obtain rfl : op = ⟨#[100, 105, 115, 116, 105, 110, 99, 116]⟩ := by rw [← Lib.mk_data op, h1]; rfl
   clear h1 h0
   rw [show (if (⟨#[100, 105, 115, 116, 105, 110, 99, 116]⟩ : ByteArray).data.toList = sFilter then n == 2 else if (⟨#[100, 105, 115, 116, 105, 110, 99, 116]⟩ : ByteArray).data.toList = sDistinct then n == 1 else if (⟨#[100, 105, 115, 116, 105, 110, 99, 116]⟩ : ByteArray).data.toList = sProject ∨ (⟨#[100, 105, 115, 116, 105, 110, 99, 116]⟩ : ByteArray).data.toList = sUnion then decide (2 ≤ n) else if (⟨#[100, 105, 115, 116, 105, 110, 99, 116]⟩ : ByteArray).data.toList = sJoin ∨ (⟨#[100, 105, 115, 116, 105, 110, 99, 116]⟩ : ByteArray).data.toList = sGroup then decide (3 ≤ n) else false) = (n == 1) from rfl]
   obtain ⟨v, hv⟩ : ∃ v, (n == 1) = v := ⟨_, rfl⟩
   have hv2 : ((n : Int) == 1) = v := by
    rw [← hv, Bool.eq_iff_iff]
    simp <;> omega
   rw [hv]
   go_enter Tryz.func35, Tryz.ntmps35
   go_wp2
   go_ret
   exact ⟨retB (by simp [*]), HB.out _⟩
  by_cases h2 : op.data.toList = sProject
  ·obtain rfl : op = ⟨#[112, 114, 111, 106, 101, 99, 116]⟩ := by rw [← Lib.mk_data op, h2]; rfl
   clear h2 h0 h1
   rw [show (if (⟨#[112, 114, 111, 106, 101, 99, 116]⟩ : ByteArray).data.toList = sFilter then n == 2 else if (⟨#[112, 114, 111, 106, 101, 99, 116]⟩ : ByteArray).data.toList = sDistinct then n == 1 else if (⟨#[112, 114, 111, 106, 101, 99, 116]⟩ : ByteArray).data.toList = sProject ∨ (⟨#[112, 114, 111, 106, 101, 99, 116]⟩ : ByteArray).data.toList = sUnion then decide (2 ≤ n) else if (⟨#[112, 114, 111, 106, 101, 99, 116]⟩ : ByteArray).data.toList = sJoin ∨ (⟨#[112, 114, 111, 106, 101, 99, 116]⟩ : ByteArray).data.toList = sGroup then decide (3 ≤ n) else false) = (decide (2 ≤ n)) from rfl]
   obtain ⟨v, hv⟩ : ∃ v, (decide (2 ≤ n)) = v := ⟨_, rfl⟩
   have hv2 : decide ((2 : Int) ≤ (n : Int)) = v := by
    rw [← hv, Bool.eq_iff_iff]
    simp <;> omega
   rw [hv]
   go_enter Tryz.func35, Tryz.ntmps35
   go_wp2
   go_ret
   exact ⟨retB (by simp [*]), HB.out _⟩
  by_cases h3 : op.data.toList = sUnion
  ·obtain rfl : op = ⟨#[117, 110, 105, 111, 110]⟩ := by rw [← Lib.mk_data op, h3]; rfl
   clear h3 h0 h1 h2
   rw [show (if (⟨#[117, 110, 105, 111, 110]⟩ : ByteArray).data.toList = sFilter then n == 2 else if (⟨#[117, 110, 105, 111, 110]⟩ : ByteArray).data.toList = sDistinct then n == 1 else if (⟨#[117, 110, 105, 111, 110]⟩ : ByteArray).data.toList = sProject ∨ (⟨#[117, 110, 105, 111, 110]⟩ : ByteArray).data.toList = sUnion then decide (2 ≤ n) else if (⟨#[117, 110, 105, 111, 110]⟩ : ByteArray).data.toList = sJoin ∨ (⟨#[117, 110, 105, 111, 110]⟩ : ByteArray).data.toList = sGroup then decide (3 ≤ n) else false) = (decide (2 ≤ n)) from rfl]
   obtain ⟨v, hv⟩ : ∃ v, (decide (2 ≤ n)) = v := ⟨_, rfl⟩
   have hv2 : decide ((2 : Int) ≤ (n : Int)) = v := by
    rw [← hv, Bool.eq_iff_iff]
    simp <;> omega
   rw [hv]
   go_enter Tryz.func35, Tryz.ntmps35
   go_wp2
   go_ret
   exact ⟨retB (by simp [*]), HB.out _⟩
  by_cases h4 : op.data.toList = sJoin
  ·obtain rfl : op = ⟨#[106, 111, 105, 110]⟩ := by rw [← Lib.mk_data op, h4]; rfl
   clear h4 h0 h1 h2 h3
   rw [show (if (⟨#[106, 111, 105, 110]⟩ : ByteArray).data.toList = sFilter then n == 2 else if (⟨#[106, 111, 105, 110]⟩ : ByteArray).data.toList = sDistinct then n == 1 else if (⟨#[106, 111, 105, 110]⟩ : ByteArray).data.toList = sProject ∨ (⟨#[106, 111, 105, 110]⟩ : ByteArray).data.toList = sUnion then decide (2 ≤ n) else if (⟨#[106, 111, 105, 110]⟩ : ByteArray).data.toList = sJoin ∨ (⟨#[106, 111, 105, 110]⟩ : ByteArray).data.toList = sGroup then decide (3 ≤ n) else false) = (decide (3 ≤ n)) from rfl]
   obtain ⟨v, hv⟩ : ∃ v, (decide (3 ≤ n)) = v := ⟨_, rfl⟩
   have hv2 : decide ((3 : Int) ≤ (n : Int)) = v := by
    rw [← hv, Bool.eq_iff_iff]
    simp <;> omega
   rw [hv]
   go_enter Tryz.func35, Tryz.ntmps35
   go_wp2
   go_ret
   exact ⟨retB (by simp [*]), HB.out _⟩
  by_cases h5 : op.data.toList = sGroup
  ·obtain rfl : op = ⟨#[103, 114, 111, 117, 112]⟩ := by rw [← Lib.mk_data op, h5]; rfl
   clear h5 h0 h1 h2 h3 h4
   rw [show (if (⟨#[103, 114, 111, 117, 112]⟩ : ByteArray).data.toList = sFilter then n == 2 else if (⟨#[103, 114, 111, 117, 112]⟩ : ByteArray).data.toList = sDistinct then n == 1 else if (⟨#[103, 114, 111, 117, 112]⟩ : ByteArray).data.toList = sProject ∨ (⟨#[103, 114, 111, 117, 112]⟩ : ByteArray).data.toList = sUnion then decide (2 ≤ n) else if (⟨#[103, 114, 111, 117, 112]⟩ : ByteArray).data.toList = sJoin ∨ (⟨#[103, 114, 111, 117, 112]⟩ : ByteArray).data.toList = sGroup then decide (3 ≤ n) else false) = (decide (3 ≤ n)) from rfl]
   obtain ⟨v, hv⟩ : ∃ v, (decide (3 ≤ n)) = v := ⟨_, rfl⟩
   have hv2 : decide ((3 : Int) ≤ (n : Int)) = v := by
    rw [← hv, Bool.eq_iff_iff]
    simp <;> omega
   rw [hv]
   go_enter Tryz.func35, Tryz.ntmps35
   go_wp2
   go_ret
   exact ⟨retB (by simp [*]), HB.out _⟩
  rw [if_neg h0, if_neg h1, if_neg (by simp [h2, h3]), if_neg (by simp [h4, h5])]
  have f0 : (op.toList == [102, 105, 108, 116, 101, 114]) = false := lit_ne h0
  have f1 : (op.toList == [100, 105, 115, 116, 105, 110, 99, 116]) = false := lit_ne h1
  have f2 : (op.toList == [112, 114, 111, 106, 101, 99, 116]) = false := lit_ne h2
  have f3 : (op.toList == [117, 110, 105, 111, 110]) = false := lit_ne h3
  have f4 : (op.toList == [106, 111, 105, 110]) = false := lit_ne h4
  have f5 : (op.toList == [103, 114, 111, 117, 112]) = false := lit_ne h5
  clear h0 h1 h2 h3 h4 h5
  go_enter Tryz.func35, Tryz.ntmps35
  go_wp2
  go_ret
  exact ⟨rfl, HB.out _⟩
 ·have he : enE op.data.toList tx.data.toList n = false := by
   unfold enE
   have : (tx.data.toList == []) = false := by simpa using ht
   rw [this]
   rfl
  rw [he]
  have f0 : (tx.toList == []) = false := lit_ne ht
  clear ht he
  go_enter Tryz.func35, Tryz.ntmps35
  go_wp2
  go_ret
  exact ⟨rfl, HB.out _⟩
theorem names_snoc (x : Nod) : ∀ l : List Nod, namesE (l ++ [x]) = match namesE l with | some s => if isE x sCol 0 = true then some (s ++ (32 :: x.tx)) else none | none => none
 | [] => by
  simp only [List.nil_append, namesE]
  split <;> simp
 | n :: l => by
  have ih := names_snoc x l
  simp only [List.cons_append, namesE]
  rw [ih]
  by_cases h1 : isE n sCol 0 = true
  ·rw [if_pos h1, if_pos h1]
   cases namesE l with
   | none => rfl
   | some s =>
    dsimp only
    by_cases h2 : isE x sCol 0 = true
    ·rw [if_pos h2, if_pos h2]
     simp
    ·rw [if_neg h2, if_neg h2]
  ·rw [if_neg h1, if_neg h1]
theorem names_mem : ∀ {l : List Nod} {s : List UInt8}, namesE l = some s → ∀ x ∈ l, isE x sCol 0 = true
 | [], _, _, x, hx => absurd hx (by simp)
 | n :: l, s, h, x, hx => by
  rw [namesE] at h
  by_cases h1 : isE n sCol 0 = true
  ·rw [if_pos h1] at h
   cases h2 : namesE l with
   | none => rw [h2] at h; cases h
   | some s' =>
    rcases List.mem_cons.1 hx with rfl | hx
    ·exact h1
    ·exact names_mem h2 x hx
  ·rw [if_neg h1] at h
   cases h
theorem names_len : ∀ {l : List Nod} {s : List UInt8}, namesE l = some s → s.length ≤ Nod.totL l
 | [], s, h => by cases h; exact Nat.zero_le _
 | n :: l, s, h => by
  rw [namesE] at h
  by_cases h1 : isE n sCol 0 = true
  ·rw [if_pos h1] at h
   cases h2 : namesE l with
   | none => rw [h2] at h; cases h
   | some s' =>
    rw [h2] at h
    cases h
    have := names_len h2
    cases n with
    | mk o t ks =>
     simp only [List.length_cons, List.length_append, Nod.totL, Nod.tot, Nod.tx]
     omega
  ·rw [if_neg h1] at h
   cases h
theorem totL_take (l : List Nod) (k : Nat) : Nod.totL (l.take k) ≤ Nod.totL l := by
 induction l generalizing k with
 | nil => simp [Nod.totL]
 | cons n l ih =>
  cases k with
  | zero => simp [Nod.totL]
  | succ k =>
   have := ih k
   simp only [List.take_succ_cons, Nod.totL]
   omega
def ByP (t : Nod) (w : World) (e : Ending) (w' : World) : Prop := ∃ s : ByteArray, e = .returned (.tuple #[.string s, .bool (byE t).isSome]) ∧ (∀ b, byE t = some b → s.data.toList = b) ∧ Below w.heap.size w w'
theorem qbyE_any (t : Nod) (ht : t.tot ≤ 1000000) (S : Nat → Prop) (op tx : ByteArray) (X : Option Addr) (n m : Nat) (w : World) (hS : ∀ g, S g → g < w.heap.size) (hn : RIn w S t (op, tx, X, n, m)) :
  Calls Tryz.prog 36 #[.agg #[.string op, .string tx, .slice X n m]] w (ByP t w) := by
 obtain ⟨eo, et, en, hkl⟩ := hn.texts
 dsimp only at eo et en
 subst en
 have HS := hid hS
 have HN := hid hn
 have htl : Nod.totL t.ks ≤ 1000000 ∧ t.tx.length ≤ 1000000 := by
  cases t with
  | mk o x ks => simp only [Nod.tot, Nod.tx, Nod.ks] at ht ⊢; omega
 have HTL := hid htl
 have hop : op.data.toList = t.op := by rw [eo]
 have htx : tx.data.toList = t.tx := by rw [et]
 have HOP := hid hop
 have HTX := hid htx
 clear hS hn eo et ht htl hop htx
 go_enter Tryz.func36, Tryz.ntmps36
 go_wp2
 go_loopw [4, 5] (fun v t' wr => ∃ (k : Nat) (V : ByteArray) (acc : List UInt8), k ≤ t.ks.length ∧ t' = .int .i64 k ∧ v = .string V ∧ Hid (V.data.toList = sBy ++ acc) ∧ Hid (namesE (t.ks.take k) = some acc) ∧ Below w.heap.size w wr ∧ NBox wr w.heap.size (.string op) (.string tx) (.slice X t.ks.length m)) (fun _ t' _ => t.ks.length - (intOf t').toNat)
 case atStart => exact ⟨0, ⟨#[98, 121]⟩, [], by omega, rfl, rfl, hid rfl, hid rfl, (Below.refl _ _).alloc (Nat.le_refl _) _, NBox.fresh _ _ _ _ _⟩
 case round =>
  obtain ⟨k, V, acc, hk, rfl, rfl, HV, HA, hb, hv⟩ := hrel
  have HB := hid hb
  have HNB := hid hv
  have hz := hb.size
  have hvl := hv.lt
  have HK := hid (HN.out.bel HS.out hb)
  obtain ⟨x0, x1, x2, xf⟩ := hv
  have hVs : V.size ≤ 1000002 := by
   have h1 := names_len HA.out
   have h2 := totL_take t.ks k
   have h3 := HTL.out.1
   have h4 : V.size = V.data.toList.length := (Array.length_toList).symm
   rw [h4, HV.out, List.length_append]
   have : sBy.length = 2 := rfl
   omega
  clear hb
  by_cases hlt : k < t.ks.length
  ·obtain ⟨ad, ⟨op', tx', X', n', m'⟩, eA, hS', q0, q1, q2, hk'⟩ := HK.out.kid k hlt
   dsimp only at eA q0 q1 q2
   subst eA
   obtain ⟨ko, kt, kn, -⟩ := hk'.texts
   dsimp only at ko kt kn
   have had := HS.out _ hS'
   have htk : tx'.size ≤ 1000000 := by
    have h1 := tot_mem (List.getElem_mem hlt)
    have h2 := HTL.out.1
    have h3 : tx'.size = t.ks[k].tx.length := by rw [kt]; simp [ByteArray.size]
    have h4 : t.ks[k].tx.length ≤ t.ks[k].tot := by
     cases t.ks[k] with
     | mk o x ks => simp only [Nod.tot, Nod.tx]; omega
    omega
   have hI := qis_any op' tx' X' n' m' ⟨#[99, 111, 108]⟩ 0
   have hie : (op'.data.toList == (⟨#[99, 111, 108]⟩ : ByteArray).data.toList && n' == 0) = isE t.ks[k] sCol 0 := by
    rw [ko, kn]
    rfl
   rw [hie] at hI
   obtain ⟨g, hg⟩ : ∃ g, isE t.ks[k] sCol 0 = g := ⟨_, rfl⟩
   rw [hg] at hI
   have HI := hid hI
   have hsn : namesE (t.ks.take (k + 1)) = if g = true then some (acc ++ (32 :: t.ks[k].tx)) else none := by
    rw [List.take_succ_eq_append_getElem hlt, names_snoc, HA.out, ← hg]
   have HSN := hid hsn
   have HG := hid hg
   have HKT := hid kt
   have za : (ad.add (k * 3)).block < w.heap.size := by rw [add_block]; exact had
   have HQ := hid (fun (w' : World) (hb : Below wr.heap.size wr w') => show w'.cell? ⟨(ad.add (k * 3)).block, (ad.add (k * 3)).off + 1, none⟩ = some (.string tx') from (hb.cell (p := ⟨(ad.add (k * 3)).block, (ad.add (k * 3)).off + 1, none⟩) (by show (ad.add (k * 3)).block < _; omega)).trans q1)
   clear hk' hI hie hg hsn ko kt kn
   cases g with
   | false =>
    have hbe : byE t = none := by
     unfold byE
     cases hh : namesE t.ks with
     | none => rfl
     | some s =>
      have := names_mem hh _ (List.getElem_mem hlt)
      rw [HG.out] at this
      cases this
    have HBE := hid hbe
    clear hbe
    go_wp2_with fail
    refine (HI.out _).mono ?_
    rintro e w1 ⟨rfl, hb1⟩
    have HB1 := hid (HB.out.trans (hb1.mono hz))
    clear hb1 q0 q1 q2 x0 x1 x2 xf
    go_wp2
    exact bodyPost_ret (v := .tuple #[.string ⟨#[]⟩, .bool false]) (by simp [results, Tryz.results36, go_sem]) rfl
     ⟨⟨#[]⟩, by rw [HBE.out]; rfl, fun b hb => (by rw [HBE.out] at hb; cases hb), HB1.out⟩
   | true =>
    go_wp2_with fail
    refine (HI.out _).mono ?_
    rintro e w1 ⟨rfl, hb1⟩
    have HB1 := hid (HB.out.trans (hb1.mono hz))
    have HV1 := hid (HNB.out.below hb1)
    have y1 := HQ.out _ hb1
    clear hb1 q0 q1 q2 x0 x1 x2 xf
    obtain ⟨x0, x1, x2, xf⟩ := HV1.out
    go_wp2
    go_roundw
    case rel =>
     exact ⟨k + 1, V ++ ⟨#[32]⟩ ++ tx', acc ++ (32 :: t.ks[k].tx), by omega, by go_num, rfl, hid (by
      rw [show (V ++ (⟨#[32]⟩ : ByteArray) ++ tx').data.toList = V.data.toList ++ [32] ++ tx'.data.toList by simp, HV.out, HKT.out]
      simp), hid (by rw [HSN.out]; rfl), HB1.out, HV1.out⟩
    case measure => simp [intOf]; omega
  ·obtain rfl : k = t.ks.length := by omega
   rw [List.take_length] at HA
   by_cases ho : op = ⟨#[98, 121]⟩
   ·subst ho
    have hto : t.op = sBy := by rw [← HOP.out]; rfl
    obtain ⟨p, hp⟩ : ∃ p, (tx.toList == []) = p := ⟨_, rfl⟩
    have hbe : byE t = if p = true then some (sBy ++ acc) else none := by
     unfold byE
     rw [HA.out, hto]
     have : (t.tx == []) = p := by rw [← hp, ← HTX.out, ByteArray.toList_eq]
     rw [this]
     simp
    have HBE := hid hbe
    clear hto hbe
    go_wp2
    go_quiet (fail)
    go_wp2
    exact bodyPost_ret (v := .tuple #[.string V, .bool p]) (by simp [results, Tryz.results36, go_sem, *]) rfl
     ⟨V, by rw [HBE.out]; cases p <;> rfl, fun b hb => (by
      rw [HBE.out] at hb
      cases p with
      | false => cases hb
      | true => cases hb; exact HV.out), HB.out.trans (drewN_below (Below.refl _ _) _)⟩
   ·have f1 : (op.toList == [98, 121]) = false := by
     have h := toList_ne ho
     rw [ByteArray.toList_eq ⟨#[98, 121]⟩] at h
     exact h
    have hbe : byE t = none := by
     unfold byE
     rw [HA.out]
     have : (t.op == sBy) = false := by
      rw [← HOP.out]
      rw [ByteArray.toList_eq] at f1
      exact f1
     rw [this]
     rfl
    have HBE := hid hbe
    clear hbe ho
    go_wp2
    refine wp_region_quiet_lit (by kernel_rfl) (by kernel_rfl) ?_
    repeat (with_reducible refine wpQuiet_step ?_; intro K hK; go_simp; with_reducible refine hK _ ?_; clear hK K)
    refine wpQuiet_nil ?_
    intro _ hw'
    obtain ⟨nq, hw''⟩ := hw'
    subst hw''
    go_wp2
    exact bodyPost_ret (v := .tuple #[.string V, .bool false]) (by simp [results, Tryz.results36, go_sem, *]) rfl
     ⟨V, by rw [HBE.out]; rfl, fun b hb => (by rw [HBE.out] at hb; cases hb), HB.out.trans (drewN_below (Below.refl _ _) _)⟩
end Go.Proofs.YtjbpkpfmgbhlpaaGreatDoor.Code
