/-
  The document's Show of queries, of any node.
-/
import Derived.Test.YtjbpkpfmgbhlpaaGreatDoorMs7
import Derived.Test.YtjbpkpfmgbhlpaaGreatDoorMs5
set_option maxRecDepth 100000
set_option maxHeartbeats 16000000
open Go.Lib (hid)
namespace Go.Proofs.YtjbpkpfmgbhlpaaGreatDoor.Code
open Go.ChangeShapes Go.WideShapes Go.ChangeAt Go.RowKit Val Elems
set_option linter.unusedVariables false
set_option linter.unusedSimpArgs false
theorem parts_at (o : List UInt8) (l : List Nod) (k : Nat) (hk : k < l.length) (r : List UInt8) (h : partsQ o (l.take k) (showsQ (l.take k)) = some r) : partsQ o (l.take (k + 1)) (showsQ (l.take (k + 1))) = match partQ o l[k] (showQ l[k]) with | some t => some (r ++ (44 :: 32 :: t)) | none => none := by
 have hs : ∀ (a : List Nod) (b : Nod), showsQ (a ++ [b]) = showsQ a ++ [showQ b] := by
  intro a b
  induction a with
  | nil => rw [List.nil_append, showsQ, showsQ]; rfl
  | cons x a ih => rw [List.cons_append, showsQ, showsQ, ih]; rfl
 rw [List.take_succ_eq_append_getElem hk, hs, parts_app _ _ _ _ _ (by rw [showsQ_length]), h]
 rfl
theorem parts_cut (o : List UInt8) (l : List Nod) (k : Nat) (h : partsQ o (l.take k) (showsQ (l.take k)) = none) : partsQ o l (showsQ l) = none := by
 have hs : ∀ (a b : List Nod), showsQ (a ++ b) = showsQ a ++ showsQ b := by
  intro a b
  induction a with
  | nil => rw [List.nil_append, showsQ]; rfl
  | cons x a ih => rw [List.cons_append, showsQ, showsQ, ih]; rfl
 have := parts_none o (l.take k) (l.drop k) (showsQ (l.take k)) (showsQ (l.drop k)) (by rw [showsQ_length]) h
 rw [List.take_append_drop, ← hs, List.take_append_drop] at this
 exact this
def QShows (t : Nod) : Prop := SaysT 17 (showQ t) t
theorem rpart_any (o : List UInt8) (ho : o = sFilter ∨ o = sUnion ∨ o = sProject ∨ o = sJoin ∨ o = sGroup) (t : Nod) (htot : t.tot ≤ 10000) (hq : QShows t) (S : Nat → Prop) (op op' tx : ByteArray) (hop : op.data.toList = o) (X : Option Addr) (n m : Nat) (w : World) (hS : ∀ g, S g → g < w.heap.size) (hn : RIn w S t (op', tx, X, n, m)) :
  Calls Tryz.prog 37 #[.string op, .agg #[.string op', .string tx, .slice X n m]] w (PartP o t (showQ t) w) := by
 have hE := showE_len t
 have hpos : 0 < t.ks.length → (showE (nthN t.ks 0)).length ≤ 900000 ∧ RShows (nthN t.ks 0) := fun h => by
  have h1 := showE_len (nthN t.ks 0)
  have h2 : (nthN t.ks 0).tot ≤ t.tot := by rw [get_zero h]; exact tot_kid t 0 h
  exact ⟨by omega, rshow_all _ (by omega)⟩
 rcases ho with rfl | rfl | rfl | rfl | rfl
 ·obtain rfl : op = ⟨#[102, 105, 108, 116, 101, 114]⟩ := by rw [← Lib.mk_data op, hop]; rfl
  exact qpart_filter t _ S op' tx X n m w hS hn (rshow_all t (by omega))
 ·obtain rfl : op = ⟨#[117, 110, 105, 111, 110]⟩ := by rw [← Lib.mk_data op, hop]; rfl
  exact qpart_union t _ S op' tx X n m w hS hn hq
 ·obtain rfl : op = ⟨#[112, 114, 111, 106, 101, 99, 116]⟩ := by rw [← Lib.mk_data op, hop]; rfl
  cases hi : isE t sItem 1 with
  | false => exact qpart_project_no t _ S op' tx X n m w hS hn hi
  | true =>
   have h1 : 0 < t.ks.length := by simp [isE] at hi; omega
   exact qpart_project t _ (by omega) hi (hpos h1).2 (hpos h1).1 S op' tx X n m w hS hn
 ·obtain rfl : op = ⟨#[106, 111, 105, 110]⟩ := by rw [← Lib.mk_data op, hop]; rfl
  cases hi : isE t sOn 1 with
  | false => exact qpart_join_no t _ (by omega) hi S op' tx X n m w hS hn
  | true =>
   cases hj : isE (nthN t.ks 0) sCol 0 with
   | false => exact qpart_join_no2 t _ (by omega) hi hj S op' tx X n m w hS hn
   | true => exact qpart_join t _ (by omega) hi hj S op' tx X n m w hS hn
 ·obtain rfl : op = ⟨#[103, 114, 111, 117, 112]⟩ := by rw [← Lib.mk_data op, hop]; rfl
  cases hi : isE t sAgg 1 with
  | false => exact qpart_group_no t _ (by omega) hi S op' tx X n m w hS hn
  | true =>
   by_cases hj : (nthN t.ks 0).ks = []
   ·obtain ⟨c, hc⟩ : ∃ c, ((nthN t.ks 0).op == sSum || (nthN t.ks 0).op == sMin || (nthN t.ks 0).op == sMax || ((nthN t.ks 0).op == sCount && (nthN t.ks 0).tx == [])) = c := ⟨_, rfl⟩
    cases c with
    | false => exact qpart_group_no3 t _ (by omega) hi hj hc S op' tx X n m w hS hn
    | true => exact qpart_group t _ (by omega) hi hj hc S op' tx X n m w hS hn
   ·exact qpart_group_no2 t _ (by omega) hi hj S op' tx X n m w hS hn
theorem qshow_from (t : Nod) (hf : isE t sFrom 0 = true) : QShows t := by
 intro S op tx X n m w hS hn
 obtain ⟨eo, et, en, hkl⟩ := hn.texts
 dsimp only at eo et en
 have eo' : op.data.toList = t.op := by rw [eo]
 have et' : tx.data.toList = t.tx := by rw [et]
 have HIS := hid (fun (w' : World) => (show Calls Tryz.prog 34 #[.agg #[.string op, .string tx, .slice X n m], .string ⟨#[102, 114, 111, 109]⟩, .int .i64 0] w' (fun e w'' => e = .returned (.bool (isE t sFrom 0)) ∧ Below w'.heap.size w' w'') by
  have h := qis_any op tx X n m ⟨#[102, 114, 111, 109]⟩ 0 w'
  rw [eo', en] at h
  rw [en]
  exact h))
 have HEN := hid (fun (w' : World) => (show Calls Tryz.prog 35 #[.agg #[.string op, .string tx, .slice X n m]] w' (fun e w'' => e = .returned (.bool (enoughE t)) ∧ Below w'.heap.size w' w'') by
  have h := qenough_any op tx X n m w'
  rw [eo', et', en] at h
  rw [en]
  exact h))
 have hsh : showQ t = t.tx := by cases t; rw [showQ, showQ1, if_pos hf]
 obtain ⟨R, hR⟩ : ∃ R : ByteArray, (⟨(showQ t).toArray⟩ : ByteArray) = R := ⟨_, rfl⟩
 obtain rfl : tx = R := by rw [← hR, hsh, ← et', Lib.mk_data]
 rw [hR]
 rw [hf] at HIS
 clear hS hn eo et en hkl eo' et' HEN hf hsh hR
 go_enter Tryz.func17, Tryz.ntmps17
 obtain ⟨w0, hw0⟩ : ∃ w0, w.alloc (.cells #[.string op, .string tx, .slice X n m] 25) = w0 := ⟨_, rfl⟩
 have B0 := hid (show Below w.heap.size w w0 by rw [← hw0]; exact below_alloc w _)
 have N0 := hid (show NBox w0 w.heap.size (.string op) (.string tx) (.slice X n m) by rw [← hw0]; exact NBox.fresh _ _ _ _ _)
 have HW0 := hid hw0
 have hz0 : w.heap.size < w0.heap.size := by rw [← hw0]; simp
 clear hw0
 obtain ⟨c0, c1, c2, cf⟩ := N0.out
 go_upto_region 1 with fail
 rw [HW0.out]
 go_wp2_with fail
 refine (HIS.out w0).mono ?_
 rintro e w1 ⟨rfl, hb⟩
 have B1 := hid (B0.out.trans (hb.mono (by omega)))
 have N1 := hid (N0.out.below hb)
 have z1 : w.heap.size < w1.heap.size := by have := hb.size; omega
 clear hb c0 c1 c2 cf
 obtain ⟨c0, c1, c2, cf⟩ := N1.out
 go_wp2
 go_ret
 exact ⟨by simp, B1.out⟩
theorem qshow_bad (t : Nod) (hf : isE t sFrom 0 = false) (he : enoughE t = false) : QShows t := by
 intro S op tx X n m w hS hn
 obtain ⟨eo, et, en, hkl⟩ := hn.texts
 dsimp only at eo et en
 have eo' : op.data.toList = t.op := by rw [eo]
 have et' : tx.data.toList = t.tx := by rw [et]
 have HIS := hid (fun (w' : World) => (show Calls Tryz.prog 34 #[.agg #[.string op, .string tx, .slice X n m], .string ⟨#[102, 114, 111, 109]⟩, .int .i64 0] w' (fun e w'' => e = .returned (.bool (isE t sFrom 0)) ∧ Below w'.heap.size w' w'') by
  have h := qis_any op tx X n m ⟨#[102, 114, 111, 109]⟩ 0 w'
  rw [eo', en] at h
  rw [en]
  exact h))
 have HEN := hid (fun (w' : World) => (show Calls Tryz.prog 35 #[.agg #[.string op, .string tx, .slice X n m]] w' (fun e w'' => e = .returned (.bool (enoughE t)) ∧ Below w'.heap.size w' w'') by
  have h := qenough_any op tx X n m w'
  rw [eo', et', en] at h
  rw [en]
  exact h))
 have hsh : showQ t = [63] := by cases t; rw [showQ, showQ1, if_neg (by rw [hf]; decide), if_pos he]
 rw [hsh]
 rw [hf] at HIS
 rw [he] at HEN
 clear hS hn eo et en hkl eo' et' hf he hsh
 go_enter Tryz.func17, Tryz.ntmps17
 obtain ⟨w0, hw0⟩ : ∃ w0, w.alloc (.cells #[.string op, .string tx, .slice X n m] 25) = w0 := ⟨_, rfl⟩
 have B0 := hid (show Below w.heap.size w w0 by rw [← hw0]; exact below_alloc w _)
 have N0 := hid (show NBox w0 w.heap.size (.string op) (.string tx) (.slice X n m) by rw [← hw0]; exact NBox.fresh _ _ _ _ _)
 have HW0 := hid hw0
 have hz0 : w.heap.size < w0.heap.size := by rw [← hw0]; simp
 clear hw0
 obtain ⟨c0, c1, c2, cf⟩ := N0.out
 go_upto_region 1 with fail
 rw [HW0.out]
 go_wp2_with fail
 refine (HIS.out w0).mono ?_
 rintro e w1 ⟨rfl, hb⟩
 have B1 := hid (B0.out.trans (hb.mono (by omega)))
 have N1 := hid (N0.out.below hb)
 have z1 : w.heap.size < w1.heap.size := by have := hb.size; omega
 clear hb c0 c1 c2 cf
 obtain ⟨c0, c1, c2, cf⟩ := N1.out
 go_wp2_with fail
 refine (HEN.out w1).mono ?_
 rintro e w2 ⟨rfl, hb⟩
 have B2 := hid (B1.out.trans (hb.mono (by omega)))
 have N2 := hid (N1.out.below hb)
 have z2 : w.heap.size < w2.heap.size := by have := hb.size; omega
 clear hb c0 c1 c2 cf
 obtain ⟨c0, c1, c2, cf⟩ := N2.out
 go_wp2
 go_ret
 exact ⟨by simp, B2.out⟩
theorem totL_le2 (l : List Nod) (k : Nat) : Nod.totL (l.take k) ≤ Nod.totL l := by
 induction l generalizing k with
 | nil => simp
 | cons a l ih =>
  cases k with
  | zero => exact Nat.zero_le _
  | succ k =>
   have := ih k
   rw [List.take_succ_cons, Nod.totL, Nod.totL]
   omega
theorem qshow_other (t : Nod) (htot : t.tot ≤ 10000) (hf : isE t sFrom 0 = false) (he : enoughE t = true) (hj : t.op ≠ sJoin) (hg : t.op ≠ sGroup) (ih : ∀ (i : Nat) (hi : i < t.ks.length), QShows t.ks[i]) : QShows t := by
 intro S op tx X n m w hS hn
 obtain ⟨eo, et, en, hkl⟩ := hn.texts
 dsimp only at eo et en
 have eo' : op.data.toList = t.op := by rw [eo]
 have et' : tx.data.toList = t.tx := by rw [et]
 have HIS := hid (fun (w' : World) => (show Calls Tryz.prog 34 #[.agg #[.string op, .string tx, .slice X n m], .string ⟨#[102, 114, 111, 109]⟩, .int .i64 0] w' (fun e w'' => e = .returned (.bool (isE t sFrom 0)) ∧ Below w'.heap.size w' w'') by
  have h := qis_any op tx X n m ⟨#[102, 114, 111, 109]⟩ 0 w'
  rw [eo', en] at h
  rw [en]
  exact h))
 have HEN := hid (fun (w' : World) => (show Calls Tryz.prog 35 #[.agg #[.string op, .string tx, .slice X n m]] w' (fun e w'' => e = .returned (.bool (enoughE t)) ∧ Below w'.heap.size w' w'') by
  have h := qenough_any op tx X n m w'
  rw [eo', et', en] at h
  rw [en]
  exact h))
 rw [hf] at HIS
 rw [he] at HEN
 have hpos := enough_pos he
 obtain ⟨ad, ⟨o1, o2, oX, on, om⟩, eA, hSa, q0, q1, q2, hk0⟩ := hn.kid 0 (by omega)
 dsimp only at eA q0 q1 q2
 subst eA
 have e0 : ad.add (0 * 3) = ad := by simp [Addr.add]
 rw [e0] at q0 q1 q2
 have had := hS _ hSa
 have ih0 := ih 0 (by omega)
 have hnt0 := nth_get t.ks 0 (by omega)
 have htk0 := tot_kid t 0 (by omega)
 obtain ⟨K0, hK0⟩ : ∃ K, t.ks[0]'(by omega) = K := ⟨_, rfl⟩
 rw [hK0] at hk0 ih0 hnt0 htk0
 have hsz := showQ_len t
 have htt := nod_parts t
 have hos : op.size = t.op.length := by rw [eo]; rfl
 obtain ⟨S0, hS0⟩ : ∃ s : ByteArray, (⟨(showQ K0).toArray⟩ : ByteArray) = s := ⟨_, rfl⟩
 have hS0d : S0.data.toList = showQ K0 := by rw [← hS0]
 have hS0z : S0.size ≤ 300000 := by
  have h1 := showQ_len K0
  rw [← hS0]
  show (showQ K0).length ≤ _
  omega
 have g1 : ∀ w, (Op.stringOp .add op ⟨#[40]⟩).run Tryz.prog w = .ok (.string (op ++ ⟨#[40]⟩)) w := fun w => run_string_add_sum w _ _ (by show op.size + 1 ≤ _; omega)
 obtain ⟨a1, ha1⟩ : ∃ s : ByteArray, op ++ ⟨#[40]⟩ = s := ⟨_, rfl⟩
 have ha1z : a1.size = op.size + 1 := by rw [← ha1, ByteArray.size_append]; rfl
 rw [ha1] at g1
 have g2 : ∀ w, (Op.stringOp .add a1 S0).run Tryz.prog w = .ok (.string (a1 ++ S0)) w := fun w => run_string_add_sum w _ _ (by omega)
 obtain ⟨a2, ha2⟩ : ∃ s : ByteArray, a1 ++ S0 = s := ⟨_, rfl⟩
 have ha2z : a2.size = op.size + 1 + S0.size := by rw [← ha2, ByteArray.size_append, ha1z]
 have ha2d : a2.data.toList = t.op ++ ([40] : List UInt8) ++ showQ K0 := by rw [← ha2, ← ha1]; simp only [ByteArray.data_append, Array.toList_append, eo', hS0d]
 rw [ha2] at g2
 have HSH := hid ih0
 unfold QShows SaysT at HSH
 have HS := hid hS
 have HN := hid hn
 have Q0 := hid q0
 have Q1 := hid q1
 have Q2 := hid q2
 have HK0 := hid hk0
 have hsh : showQ t = wholeQ t.op (t.op ++ ([40] : List UInt8) ++ showQ K0) (t.ks.drop 1) (showsQ (t.ks.drop 1)) := by
  have h9 := shows_zero t.ks (by omega)
  rw [hnt0] at h9
  rw [← h9, ← shows_drop]
  cases t with
  | mk o x ks =>
   rw [showQ]
   unfold showQ1
   rw [if_neg (by rw [hf]; decide), if_neg (by rw [he]; decide), if_neg hj, if_neg hg]
   rfl
 have hops : t.op = sFilter ∨ t.op = sUnion ∨ t.op = sProject ∨ t.op = sJoin ∨ t.op = sGroup ∨ t.ks.length = 1 := by
  have h := he
  unfold enoughE at h
  simp only [Bool.and_eq_true] at h
  have h := h.2
  by_cases a1 : t.op = sFilter
  ·exact .inl a1
  by_cases a2 : t.op = sDistinct
  ·rw [if_neg a1, if_pos a2] at h
   exact .inr (.inr (.inr (.inr (.inr (by simpa using h)))))
  by_cases a3 : t.op = sProject ∨ t.op = sUnion
  ·rcases a3 with a | a
   ·exact .inr (.inr (.inl a))
   ·exact .inr (.inl a)
  rw [if_neg a1, if_neg a2, if_neg a3, if_neg (fun h => h.elim hj hg)] at h
  cases h
 have HR := hid hsh
 obtain ⟨R, hR⟩ : ∃ R : ByteArray, (⟨(showQ t).toArray⟩ : ByteArray) = R := ⟨_, rfl⟩
 have HRR := hid (show ∀ s : ByteArray, s.data.toList = showQ t → s = R from fun s h => by rw [← Lib.mk_data s, h, hR])
 rw [hR]
 have HEN2 := hid en
 have HTOT := hid htot
 have HEO := hid eo'
 have h0n : 0 < n := by omega
 have HKL := hid hkl
 have f1 : (op.toList == [106, 111, 105, 110]) = false := lit_ne (by rw [eo']; exact hj)
 have f2 : (op.toList == [103, 114, 111, 117, 112]) = false := lit_ne (by rw [eo']; exact hg)
 obtain ⟨L, hL⟩ : ∃ L, t.ks.drop 1 = L := ⟨_, rfl⟩
 have HLL := hid (show L.length = n - 1 by rw [← hL, List.length_drop, en])
 have HLK := hid (show ∀ (k i : Nat) (hk : k < L.length) (hi : i < t.ks.length), i = 1 + k → L[k] = t.ks[i] from fun k i hk hi e => by subst hL e; rw [List.getElem_drop])
 have HLT := hid (show Nod.totL L ≤ t.tot by rw [← hL]; have := totL_drop t.ks 1; omega)
 have HSHQ := hid (fun (i : Nat) (hi : i < t.ks.length) => ih i hi)
 have HS00 := hid hS0
 rw [hL] at HR
 obtain ⟨PF, hPF⟩ : ∃ PF : List UInt8, (t.op ++ ([40] : List UInt8) ++ showQ K0 : List UInt8) = PF := ⟨_, rfl⟩
 rw [hPF] at HR ha2d
 have HPF := hid ha2d
 have HPZ := hid (show PF.length ≤ 400000 by rw [← ha2d]; show a2.size ≤ _; omega)
 by_cases hn1 : n = 1
 ·have hL0 : L = [] := List.eq_nil_of_length_eq_zero (by rw [HLL.out]; omega)
  have hfin : showQ t = PF ++ ([41] : List UInt8) := by rw [HR.out, hL0]; unfold wholeQ; rw [showsQ, partsQ]; simp; simp
  obtain ⟨u1, hu1⟩ : ∃ u : ByteArray, a2 ++ ⟨#[41]⟩ = u := ⟨_, rfl⟩
  have v1 : ∀ w, (Op.stringOp .add a2 ⟨#[41]⟩).run Tryz.prog w = .ok (.string u1) w := fun w => by rw [← hu1]; exact run_string_add_sum w _ _ (by show a2.size + 1 ≤ _; omega)
  have HU := hid (show u1 = R from HRR.out _ (by rw [← hu1, ByteArray.data_append, Array.toList_append, ha2d, hfin]))
  subst hn1
  clear hS hn eo et en hkl eo' et' hf he ih ih0 hnt0 htk0 hK0 hpos q0 q1 q2 hk0 e0 hsz htt hos hS0 hS0d hS0z ha1 ha1z ha2 ha2z ha2d hsh hR htot hL hj hg hops hPF hL0 hfin hu1
  go_enter Tryz.func17, Tryz.ntmps17
  obtain ⟨w0, hw0⟩ : ∃ w0, w.alloc (.cells #[.string op, .string tx, .slice (some ad) 1 m] 25) = w0 := ⟨_, rfl⟩
  have B0 := hid (show Below w.heap.size w w0 by rw [← hw0]; exact below_alloc w _)
  have N0 := hid (show NBox w0 w.heap.size (.string op) (.string tx) (.slice (some ad) 1 m) by rw [← hw0]; exact NBox.fresh _ _ _ _ _)
  have HW0 := hid hw0
  have hz0 : w.heap.size < w0.heap.size := by rw [← hw0]; simp
  clear hw0
  obtain ⟨c0, c1, c2, cf⟩ := N0.out
  go_upto_region 1 with fail
  rw [HW0.out]
  go_wp2_with fail
  refine (HIS.out w0).mono ?_
  rintro e w1 ⟨rfl, hb⟩
  have B1 := hid (B0.out.trans (hb.mono (by omega)))
  have N1 := hid (N0.out.below hb)
  have z1 : w.heap.size < w1.heap.size := by have := hb.size; omega
  clear hb c0 c1 c2 cf
  obtain ⟨c0, c1, c2, cf⟩ := N1.out
  go_wp2_with fail
  refine (HEN.out w1).mono ?_
  rintro e w2 ⟨rfl, hb⟩
  have B2 := hid (B1.out.trans (hb.mono (by omega)))
  have N2 := hid (N1.out.below hb)
  have z2 : w.heap.size < w2.heap.size := by have := hb.size; omega
  clear hb c0 c1 c2 cf
  obtain ⟨c0, c1, c2, cf⟩ := N2.out
  have HS0 := hid (fun (w' : World) (hb : Below w2.heap.size w2 w') => have hb0 : Below w.heap.size w w' := B2.out.trans (hb.mono (by omega)); (show Calls Tryz.prog 17 #[.agg #[.string o1, .string o2, .slice oX on om]] w' (fun e w'' => e = .returned (.string S0) ∧ Below w'.heap.size w' w'') by
   have h := HSH.out S o1 o2 oX on om w' (fun g hg => Nat.lt_of_lt_of_le (HS.out g hg) hb0.size) (HK0.out.bel HS.out hb0)
   rw [HS00.out] at h
   exact h))
  have FQ := hid (fun (w' : World) (hb : Below w2.heap.size w2 w') => have hb0 : Below w.heap.size w w' := B2.out.trans (hb.mono (by omega)); (show w'.cell? ⟨w.heap.size, 0, none⟩ = some (.string op) ∧ w'.cell? ⟨w.heap.size, 2, none⟩ = some (.slice (some ad) 1 m) ∧ w'.cell? ad = some (.string o1) ∧ w'.cell? ⟨ad.block, ad.off + 1, none⟩ = some (.string o2) ∧ w'.cell? ⟨ad.block, ad.off + 2, none⟩ = some (.slice oX on om) from
   ⟨(N2.out.below hb).c0, (N2.out.below hb).c2, (hb0.cell had).trans Q0.out, (hb0.cell (p := ⟨ad.block, ad.off + 1, none⟩) had).trans Q1.out, (hb0.cell (p := ⟨ad.block, ad.off + 2, none⟩) had).trans Q2.out⟩))
  clear c0 c1 c2 cf
  obtain ⟨c0, c1, c2, cf⟩ := N2.out
  go_wp2_with fail
  go_region_held3 (fun w' => (w'.cell? ⟨w.heap.size, 0, none⟩ = some (.string op) ∧ w'.cell? ⟨w.heap.size, 2, none⟩ = some (.slice (some ad) 1 m) ∧ w'.cell? ad = some (.string o1) ∧ w'.cell? ⟨ad.block, ad.off + 1, none⟩ = some (.string o2) ∧ w'.cell? ⟨ad.block, ad.off + 2, none⟩ = some (.slice oX on om)) ∧ Below w2.heap.size w2 w')
   (first | assumption | (exact keepB hb5 (by assumption) (FQ.out _)) | (exact ⟨FQ.out _ (Below.refl _ _).drew, (Below.refl _ _).drew⟩))
   (first | (go_at_call 17; with_reducible refine (HS0.out _ ?cv).mono ?_; (case cv => exact (by assumption : _ ∧ Below w2.heap.size w2 _).2); rintro e w5 ⟨rfl, hb5⟩))
  have G3 := hid (show Below w2.heap.size w2 w5 by rename_i hS; exact hS.2)
  have B3 := hid (B2.out.trans (G3.out.mono (by omega)))
  have N3 := hid (N2.out.below G3.out)
  have z3 : w.heap.size < w5.heap.size := by have := G3.out.size; omega
  clear hb5 c0 c1 c2 cf HS0 FQ
  obtain ⟨c0, c1, c2, cf⟩ := N3.out
  go_wp2_with fail
  go_loopw [4, 8] (fun sv v wr => v = .int .i64 1 ∧ sv = .string a2 ∧ Below w5.heap.size w5 wr) (fun _ _ _ => 0)
  case atStart => exact ⟨rfl, rfl, Below.refl _ _⟩
  case round =>
   obtain ⟨rfl, rfl, hb⟩ := hrel
   have HB := hid (B3.out.trans (hb.mono (by omega)))
   obtain ⟨d0, d1, d2, df⟩ := N3.out.below hb
   clear hb
   go_wp2
   go_ret
   exact ⟨by rw [← HU.out]; simp, HB.out⟩
 have HOPS := hid (show t.op = sFilter ∨ t.op = sUnion ∨ t.op = sProject ∨ t.op = sJoin ∨ t.op = sGroup by
  rcases hops with h | h | h | h | h | h
  ·exact .inl h
  ·exact .inr (.inl h)
  ·exact .inr (.inr (.inl h))
  ·exact .inr (.inr (.inr (.inl h)))
  ·exact .inr (.inr (.inr (.inr h)))
  ·exact absurd (en.trans h) hn1)
 clear hS hn eo et en hkl eo' et' hf he ih ih0 hnt0 htk0 hK0 hpos q0 q1 q2 hk0 e0 hsz htt hos hS0 hS0d hS0z ha1 ha1z ha2 ha2z ha2d hsh hR htot hL hj hg hops hPF hn1
 go_enter Tryz.func17, Tryz.ntmps17
 obtain ⟨w0, hw0⟩ : ∃ w0, w.alloc (.cells #[.string op, .string tx, .slice (some ad) n m] 25) = w0 := ⟨_, rfl⟩
 have B0 := hid (show Below w.heap.size w w0 by rw [← hw0]; exact below_alloc w _)
 have N0 := hid (show NBox w0 w.heap.size (.string op) (.string tx) (.slice (some ad) n m) by rw [← hw0]; exact NBox.fresh _ _ _ _ _)
 have HW0 := hid hw0
 have hz0 : w.heap.size < w0.heap.size := by rw [← hw0]; simp
 clear hw0
 obtain ⟨c0, c1, c2, cf⟩ := N0.out
 go_upto_region 1 with fail
 rw [HW0.out]
 go_wp2_with fail
 refine (HIS.out w0).mono ?_
 rintro e w1 ⟨rfl, hb⟩
 have B1 := hid (B0.out.trans (hb.mono (by omega)))
 have N1 := hid (N0.out.below hb)
 have z1 : w.heap.size < w1.heap.size := by have := hb.size; omega
 clear hb c0 c1 c2 cf
 obtain ⟨c0, c1, c2, cf⟩ := N1.out
 go_wp2_with fail
 refine (HEN.out w1).mono ?_
 rintro e w2 ⟨rfl, hb⟩
 have B2 := hid (B1.out.trans (hb.mono (by omega)))
 have N2 := hid (N1.out.below hb)
 have z2 : w.heap.size < w2.heap.size := by have := hb.size; omega
 clear hb c0 c1 c2 cf
 obtain ⟨c0, c1, c2, cf⟩ := N2.out
 have HS0 := hid (fun (w' : World) (hb : Below w2.heap.size w2 w') => have hb0 : Below w.heap.size w w' := B2.out.trans (hb.mono (by omega)); (show Calls Tryz.prog 17 #[.agg #[.string o1, .string o2, .slice oX on om]] w' (fun e w'' => e = .returned (.string S0) ∧ Below w'.heap.size w' w'') by
  have h := HSH.out S o1 o2 oX on om w' (fun g hg => Nat.lt_of_lt_of_le (HS.out g hg) hb0.size) (HK0.out.bel HS.out hb0)
  rw [HS00.out] at h
  exact h))
 have FQ := hid (fun (w' : World) (hb : Below w2.heap.size w2 w') => have hb0 : Below w.heap.size w w' := B2.out.trans (hb.mono (by omega)); (show w'.cell? ⟨w.heap.size, 0, none⟩ = some (.string op) ∧ w'.cell? ⟨w.heap.size, 2, none⟩ = some (.slice (some ad) n m) ∧ w'.cell? ad = some (.string o1) ∧ w'.cell? ⟨ad.block, ad.off + 1, none⟩ = some (.string o2) ∧ w'.cell? ⟨ad.block, ad.off + 2, none⟩ = some (.slice oX on om) from
  ⟨(N2.out.below hb).c0, (N2.out.below hb).c2, (hb0.cell had).trans Q0.out, (hb0.cell (p := ⟨ad.block, ad.off + 1, none⟩) had).trans Q1.out, (hb0.cell (p := ⟨ad.block, ad.off + 2, none⟩) had).trans Q2.out⟩))
 clear c0 c1 c2 cf
 obtain ⟨c0, c1, c2, cf⟩ := N2.out
 have e0n : (0 : Int) < (n : Int) := by omega
 go_wp2_with fail
 go_region_held3 (fun w' => (w'.cell? ⟨w.heap.size, 0, none⟩ = some (.string op) ∧ w'.cell? ⟨w.heap.size, 2, none⟩ = some (.slice (some ad) n m) ∧ w'.cell? ad = some (.string o1) ∧ w'.cell? ⟨ad.block, ad.off + 1, none⟩ = some (.string o2) ∧ w'.cell? ⟨ad.block, ad.off + 2, none⟩ = some (.slice oX on om)) ∧ Below w2.heap.size w2 w')
  (first | assumption | (exact keepB hb5 (by assumption) (FQ.out _)) | (exact ⟨FQ.out _ (Below.refl _ _).drew, (Below.refl _ _).drew⟩))
  (first | (go_at_call 17; with_reducible refine (HS0.out _ ?cv).mono ?_; (case cv => exact (by assumption : _ ∧ Below w2.heap.size w2 _).2); rintro e w5 ⟨rfl, hb5⟩))
 have G3 := hid (show Below w2.heap.size w2 w5 by rename_i hS; exact hS.2)
 have B3 := hid (B2.out.trans (G3.out.mono (by omega)))
 have N3 := hid (N2.out.below G3.out)
 have z3 : w.heap.size < w5.heap.size := by have := G3.out.size; omega
 clear hb5 c0 c1 c2 cf HS0 FQ
 obtain ⟨c0, c1, c2, cf⟩ := N3.out
 go_wp2_with fail
 go_loopw [4, 8] (fun sv v wr => ∃ (i k : Nat) (s' : ByteArray) (r : List UInt8), i = 1 + k ∧ i ≤ n ∧ v = .int .i64 (i : Int) ∧ sv = .string s' ∧ s'.data.toList = PF ++ r ∧ partsQ t.op (L.take k) (showsQ (L.take k)) = some r ∧ Below w5.heap.size w5 wr) (fun _ v _ => n - (intOf v).toNat)
 case atStart => exact ⟨1, 0, a2, [], by omega, by omega, by first | rfl | simp, rfl, by rw [HPF.out]; simp, by rw [List.take_zero, showsQ, partsQ]; simp, Below.refl _ _⟩
 case round =>
  obtain ⟨i, k, s', r, hik, hin, rfl, rfl, hsd, hpr, hb⟩ := hrel
  have HB := hid hb
  have HB0 := hid (B3.out.trans (hb.mono (by omega)))
  have N4 := hid (N3.out.below hb)
  have z4 : w.heap.size < wr.heap.size := by have := hb.size; omega
  have HSD := hid hsd
  have HPR := hid hpr
  have HIK := hid hik
  have hn9 : n ≤ 1000000000 := by have h1 := HKL.out; have h2 := HEN2.out; omega
  clear hb hsd hpr hik
  have hrz : r.length ≤ 300000 := by
   have h1 := parts_len HPR.out (fun n hn => showQ_len n)
   have h2 := totL_le2 L k
   have h3 := HLT.out
   have h4 := HTOT.out
   omega
  have hsz9 : s'.size ≤ 700000 := by
   have h1 : s'.size = PF.length + r.length := by rw [← List.length_append, ← HSD.out]; rfl
   have h2 := HPZ.out
   omega
  have R0 := N4.out
  obtain ⟨d0, d1, d2, df⟩ := R0
  by_cases hil : i < n
  ·have hiL : k < L.length := by have := HIK.out; rw [HLL.out]; omega
   have hit : i < t.ks.length := by have := HEN2.out; omega
   have hLk : L[k] = t.ks[i] := HLK.out k i hiL hit HIK.out
   obtain ⟨ad9, ⟨x1, x2, xX, xn, xm⟩, eA9, hSa9, y0, y1, y2, hk9⟩ := (HN.out.bel HS.out HB0.out).kid i hit
   dsimp only at eA9 y0 y1 y2
   obtain rfl : ad = ad9 := Option.some.inj eA9
   have hkb : (ad.add (i * 3)).block < wr.heap.size := by rw [add_block]; have := HB0.out.size; omega
   have HK9 := hid hk9
   have HT9 := hid (tot_kid t i hit)
   obtain ⟨K, hK⟩ : ∃ K, t.ks[i] = K := ⟨_, rfl⟩
   rw [hK] at hLk HK9 HT9
   have HIH := hid (show QShows K by rw [← hK]; exact HSHQ.out i hit)
   have HPA := hid (parts_at t.op L k hiL r HPR.out)
   rw [hLk] at HPA
   have HPT := hid (fun (w' : World) (hb : Below wr.heap.size wr w') => have hb0 : Below w.heap.size w w' := HB0.out.trans (hb.mono (by omega)); rpart_any t.op HOPS.out K (by have := HT9.out; have := HTOT.out; omega) HIH.out S op x1 x2 HEO.out xX xn xm w' (fun g hg => Nat.lt_of_lt_of_le (HS.out g hg) hb0.size) (HK9.out.bel (fun g hg => Nat.lt_of_lt_of_le (HS.out g hg) HB0.out.size) hb))
   have HPQ := hid (fun b (h : partQ t.op K (showQ K) = some b) => partQ_len h (showQ_len K))
   obtain ⟨pq, hpq⟩ : ∃ pq, partQ t.op K (showQ K) = pq := ⟨_, rfl⟩
   unfold PartP at HPT
   rw [hpq] at HPT HPA HPQ
   have Y0 := hid y0
   have Y1 := hid y1
   have Y2 := hid y2
   have FQ := hid (fun (w' : World) (hb : Below wr.heap.size wr w') => (show w'.cell? ⟨w.heap.size, 0, none⟩ = some (.string op) ∧ w'.cell? ⟨w.heap.size, 2, none⟩ = some (.slice (some ad) n m) ∧ w'.cell? (ad.add (i * 3)) = some (.string x1) ∧ w'.cell? ⟨(ad.add (i * 3)).block, (ad.add (i * 3)).off + 1, none⟩ = some (.string x2) ∧ w'.cell? ⟨(ad.add (i * 3)).block, (ad.add (i * 3)).off + 2, none⟩ = some (.slice xX xn xm) from
    ⟨(N4.out.below hb).c0, (N4.out.below hb).c2, (hb.cell hkb).trans Y0.out, (hb.cell (p := ⟨(ad.add (i * 3)).block, (ad.add (i * 3)).off + 1, none⟩) hkb).trans Y1.out, (hb.cell (p := ⟨(ad.add (i * 3)).block, (ad.add (i * 3)).off + 2, none⟩) hkb).trans Y2.out⟩))
   have ein : (i : Int) < (n : Int) := by omega
   clear hk9 hpq hK eA9 hLk
   go_wp2_with fail
   go_region_held3 (fun w' => (w'.cell? ⟨w.heap.size, 0, none⟩ = some (.string op) ∧ w'.cell? ⟨w.heap.size, 2, none⟩ = some (.slice (some ad) n m) ∧ w'.cell? (ad.add (i * 3)) = some (.string x1) ∧ w'.cell? ⟨(ad.add (i * 3)).block, (ad.add (i * 3)).off + 1, none⟩ = some (.string x2) ∧ w'.cell? ⟨(ad.add (i * 3)).block, (ad.add (i * 3)).off + 2, none⟩ = some (.slice xX xn xm)) ∧ Below wr.heap.size wr w')
    (first | assumption | (exact keepB hb9 (by assumption) (FQ.out _)) | (exact ⟨FQ.out _ (Below.refl _ _).drew, (Below.refl _ _).drew⟩))
    (first | (go_at_call 37; with_reducible refine (HPT.out _ ?cv).mono ?_; (case cv => exact (by assumption : _ ∧ Below wr.heap.size wr _).2); rintro e w9 ⟨sp, rfl, hsp, hb9⟩))
   have G9 := hid (show Below wr.heap.size wr w9 by rename_i hS; exact hS.2)
   have B9 := hid (HB0.out.trans (G9.out.mono (by omega)))
   have HSP := hid hsp
   clear hb9 hsp y0 y1 y2 d0 d1 d2 df
   cases pq with
   | none =>
    have hq : (⟨#[63]⟩ : ByteArray) = R := HRR.out _ (by
     rw [HR.out]
     unfold wholeQ
     rw [parts_cut t.op L (k + 1) HPA.out])
    have HQQ := hid hq
    clear hq
    go_wp2
    go_ret
    exact ⟨by rw [← HQQ.out]; simp, B9.out⟩
   | some b =>
    have hspd : sp.data.toList = b := HSP.out b rfl
    have hspz : sp.size ≤ 300000 := by
     have h1 : sp.size = b.length := by rw [← hspd]; rfl
     have h2 := HPQ.out b rfl
     have h3 := HT9.out
     have h4 := HTOT.out
     omega
    have sz : (⟨#[44, 32]⟩ : ByteArray).size = 2 := rfl
    obtain ⟨u1, hu1⟩ : ∃ u : ByteArray, s' ++ ⟨#[44, 32]⟩ = u := ⟨_, rfl⟩
    have hu1z : u1.size = s'.size + 2 := by rw [← hu1, ByteArray.size_append, sz]
    have v1 : ∀ w, (Op.stringOp .add s' ⟨#[44, 32]⟩).run Tryz.prog w = .ok (.string u1) w := fun w => by rw [← hu1]; exact run_string_add_sum w _ _ (by omega)
    obtain ⟨u2, hu2⟩ : ∃ u : ByteArray, u1 ++ sp = u := ⟨_, rfl⟩
    have v2 : ∀ w, (Op.stringOp .add u1 sp).run Tryz.prog w = .ok (.string u2) w := fun w => by rw [← hu2]; exact run_string_add_sum w _ _ (by omega)
    have HU := hid (show u2.data.toList = PF ++ (r ++ (44 :: 32 :: b)) by
     rw [← hu2, ← hu1, ByteArray.data_append, ByteArray.data_append, Array.toList_append, Array.toList_append, HSD.out, hspd]
     simp)
    clear hspd hspz sz hu1 hu1z hu2
    go_wp2
    go_roundw
    case rel => exact ⟨i + 1, k + 1, u2, r ++ (44 :: 32 :: b), by have := HIK.out; omega, by omega, by go_num, by first | rfl | simp, HU.out, HPA.out, HB.out.trans (G9.out.mono HB.out.size)⟩
    case measure => simp [intOf]; omega
  ·obtain rfl : i = n := by omega
   have hkL : L.take k = L := List.take_of_length_le (by have := HIK.out; rw [HLL.out]; omega)
   have hfin : showQ t = PF ++ r ++ ([41] : List UInt8) := by
    rw [HR.out]
    unfold wholeQ
    have h := HPR.out
    rw [hkL] at h
    rw [h]
   obtain ⟨u1, hu1⟩ : ∃ u : ByteArray, s' ++ ⟨#[41]⟩ = u := ⟨_, rfl⟩
   have v1 : ∀ w, (Op.stringOp .add s' ⟨#[41]⟩).run Tryz.prog w = .ok (.string u1) w := fun w => by rw [← hu1]; exact run_string_add_sum w _ _ (by show s'.size + 1 ≤ _; omega)
   have HU := hid (show u1 = R from HRR.out _ (by rw [← hu1, ByteArray.data_append, Array.toList_append, HSD.out, hfin]))
   clear hkL hfin hu1
   go_wp2
   go_ret
   exact ⟨by rw [← HU.out]; simp, HB0.out⟩
theorem qshow_join (t : Nod) (htot : t.tot ≤ 10000) (hf : isE t sFrom 0 = false) (he : enoughE t = true) (hj : t.op = sJoin) (ih : ∀ (i : Nat) (hi : i < t.ks.length), QShows t.ks[i]) : QShows t := by
 intro S op tx X n m w hS hn
 obtain ⟨eo, et, en, hkl⟩ := hn.texts
 dsimp only at eo et en
 have eo' : op.data.toList = t.op := by rw [eo]
 have et' : tx.data.toList = t.tx := by rw [et]
 have HIS := hid (fun (w' : World) => (show Calls Tryz.prog 34 #[.agg #[.string op, .string tx, .slice X n m], .string ⟨#[102, 114, 111, 109]⟩, .int .i64 0] w' (fun e w'' => e = .returned (.bool (isE t sFrom 0)) ∧ Below w'.heap.size w' w'') by
  have h := qis_any op tx X n m ⟨#[102, 114, 111, 109]⟩ 0 w'
  rw [eo', en] at h
  rw [en]
  exact h))
 have HEN := hid (fun (w' : World) => (show Calls Tryz.prog 35 #[.agg #[.string op, .string tx, .slice X n m]] w' (fun e w'' => e = .returned (.bool (enoughE t)) ∧ Below w'.heap.size w' w'') by
  have h := qenough_any op tx X n m w'
  rw [eo', et', en] at h
  rw [en]
  exact h))
 rw [hf] at HIS
 rw [he] at HEN
 have hpos := enough_pos he
 have h3 : 3 ≤ t.ks.length := hpos.2 (.inl hj)
 obtain ⟨ad, ⟨o1, o2, oX, on, om⟩, eA, hSa, q0, q1, q2, hk0⟩ := hn.kid 0 (by omega)
 dsimp only at eA q0 q1 q2
 subst eA
 have e0 : ad.add (0 * 3) = ad := by simp [Addr.add]
 rw [e0] at q0 q1 q2
 have had := hS _ hSa
 have ih0 := ih 0 (by omega)
 have hnt0 := nth_get t.ks 0 (by omega)
 have htk0 := tot_kid t 0 (by omega)
 obtain ⟨K0, hK0⟩ : ∃ K, t.ks[0]'(by omega) = K := ⟨_, rfl⟩
 rw [hK0] at hk0 ih0 hnt0 htk0
 obtain ⟨ad', ⟨r1, r2, rX, rn, rm⟩, eA', hSa', p0, p1, p2, hk1⟩ := hn.kid 1 (by omega)
 dsimp only at eA' p0 p1 p2
 obtain rfl : ad = ad' := Option.some.inj eA'
 have e3 : ad.add (1 * 3) = ⟨ad.block, ad.off + 3, none⟩ := by simp [Addr.add]
 rw [e3] at p0 p1 p2
 have ih1 := ih 1 (by omega)
 have hnt1 := nth_get t.ks 1 (by omega)
 have htk1 := tot_kid t 1 (by omega)
 obtain ⟨K1, hK1⟩ : ∃ K, t.ks[1]'(by omega) = K := ⟨_, rfl⟩
 rw [hK1] at hk1 ih1 hnt1 htk1
 have P0 := hid p0
 have P1 := hid p1
 have P2 := hid p2
 have HK1 := hid hk1
 have hsz := showQ_len t
 have htt := nod_parts t
 have hos : op.size = t.op.length := by rw [eo]; rfl
 obtain ⟨S0, hS0⟩ : ∃ s : ByteArray, (⟨(showQ K0).toArray⟩ : ByteArray) = s := ⟨_, rfl⟩
 have hS0d : S0.data.toList = showQ K0 := by rw [← hS0]
 have hS0z : S0.size ≤ 300000 := by
  have h1 := showQ_len K0
  rw [← hS0]
  show (showQ K0).length ≤ _
  omega
 have g1 : ∀ w, (Op.stringOp .add op ⟨#[40]⟩).run Tryz.prog w = .ok (.string (op ++ ⟨#[40]⟩)) w := fun w => run_string_add_sum w _ _ (by show op.size + 1 ≤ _; omega)
 obtain ⟨a1, ha1⟩ : ∃ s : ByteArray, op ++ ⟨#[40]⟩ = s := ⟨_, rfl⟩
 have ha1z : a1.size = op.size + 1 := by rw [← ha1, ByteArray.size_append]; rfl
 rw [ha1] at g1
 have g2 : ∀ w, (Op.stringOp .add a1 S0).run Tryz.prog w = .ok (.string (a1 ++ S0)) w := fun w => run_string_add_sum w _ _ (by omega)
 obtain ⟨a2, ha2⟩ : ∃ s : ByteArray, a1 ++ S0 = s := ⟨_, rfl⟩
 have ha2z : a2.size = op.size + 1 + S0.size := by rw [← ha2, ByteArray.size_append, ha1z]
 have ha2d : a2.data.toList = t.op ++ ([40] : List UInt8) ++ showQ K0 := by rw [← ha2, ← ha1]; simp only [ByteArray.data_append, Array.toList_append, eo', hS0d]
 rw [ha2] at g2
 have HSH := hid ih0
 unfold QShows SaysT at HSH
 have HS := hid hS
 have HN := hid hn
 have Q0 := hid q0
 have Q1 := hid q1
 have Q2 := hid q2
 have HK0 := hid hk0
 have hsh : showQ t = wholeQ t.op (t.op ++ ([40] : List UInt8) ++ showQ K0 ++ ([44, 32] : List UInt8) ++ showQ K1) (t.ks.drop 2) (showsQ (t.ks.drop 2)) := by
  have h9 := shows_zero t.ks (by omega)
  have h8 := shows_one t.ks (by omega)
  rw [hnt0] at h9
  rw [hnt1] at h8
  rw [← h9, ← h8, ← shows_drop]
  cases t with
  | mk o x ks =>
   rw [showQ]
   unfold showQ1
   rw [if_neg (by rw [hf]; decide), if_neg (by rw [he]; decide), if_pos hj]
   rfl
 obtain ⟨S1, hS1⟩ : ∃ s : ByteArray, (⟨(showQ K1).toArray⟩ : ByteArray) = s := ⟨_, rfl⟩
 have hS1d : S1.data.toList = showQ K1 := by rw [← hS1]
 have hS1z : S1.size ≤ 300000 := by
  have h1 := showQ_len K1
  rw [← hS1]
  show (showQ K1).length ≤ _
  omega
 have HSJ := hid ih1
 unfold QShows SaysT at HSJ
 rw [hS1] at HSJ
 have sz2 : (⟨#[44, 32]⟩ : ByteArray).size = 2 := rfl
 obtain ⟨b1, hb1⟩ : ∃ s : ByteArray, a2 ++ ⟨#[44, 32]⟩ = s := ⟨_, rfl⟩
 have hb1z : b1.size = op.size + 1 + S0.size + 2 := by rw [← hb1, ByteArray.size_append, ha2z, sz2]
 have g3 : ∀ w, (Op.stringOp .add a2 ⟨#[44, 32]⟩).run Tryz.prog w = .ok (.string b1) w := fun w => by rw [← hb1]; exact run_string_add_sum w _ _ (by omega)
 obtain ⟨b2, hb2⟩ : ∃ s : ByteArray, b1 ++ S1 = s := ⟨_, rfl⟩
 have g4 : ∀ w, (Op.stringOp .add b1 S1).run Tryz.prog w = .ok (.string b2) w := fun w => by rw [← hb2]; exact run_string_add_sum w _ _ (by omega)
 have hb2d : b2.data.toList = t.op ++ ([40] : List UInt8) ++ showQ K0 ++ ([44, 32] : List UInt8) ++ showQ K1 := by rw [← hb2, ← hb1]; simp only [ByteArray.data_append, Array.toList_append, ha2d, hS1d]
 have HR := hid hsh
 obtain ⟨R, hR⟩ : ∃ R : ByteArray, (⟨(showQ t).toArray⟩ : ByteArray) = R := ⟨_, rfl⟩
 have HRR := hid (show ∀ s : ByteArray, s.data.toList = showQ t → s = R from fun s h => by rw [← Lib.mk_data s, h, hR])
 rw [hR]
 have HEN2 := hid en
 have HN3 := hid h3
 have HTOT := hid htot
 have HEO := hid eo'
 have h0n : 0 < n := by omega
 have HKL := hid hkl
 have f1 : (op.toList == [106, 111, 105, 110]) = true := by rw [ByteArray.toList_eq, eo', hj]; rfl
 have f2 : (op.toList == [103, 114, 111, 117, 112]) = false := lit_ne (by rw [eo', hj]; decide)
 obtain ⟨L, hL⟩ : ∃ L, t.ks.drop 2 = L := ⟨_, rfl⟩
 have HLL := hid (show L.length = n - 2 by rw [← hL, List.length_drop, en])
 have HLK := hid (show ∀ (k i : Nat) (hk : k < L.length) (hi : i < t.ks.length), i = 2 + k → L[k] = t.ks[i] from fun k i hk hi e => by subst hL e; rw [List.getElem_drop])
 have HLT := hid (show Nod.totL L ≤ t.tot by rw [← hL]; have := totL_drop t.ks 2; omega)
 have HSHQ := hid (fun (i : Nat) (hi : i < t.ks.length) => ih i hi)
 have HS00 := hid hS0
 rw [hL] at HR
 obtain ⟨PF, hPF⟩ : ∃ PF : List UInt8, (t.op ++ ([40] : List UInt8) ++ showQ K0 ++ ([44, 32] : List UInt8) ++ showQ K1 : List UInt8) = PF := ⟨_, rfl⟩
 have hPZ : PF.length ≤ 700000 := by
  rw [← hPF, ← hb2d]
  have h1 : b2.size = op.size + 1 + S0.size + 2 + S1.size := by rw [← hb2, ByteArray.size_append, hb1z]
  show b2.size ≤ _
  omega
 have hPT : PF.length ≤ 400000 := by
  have h1 := showQ_len K0
  have h2 := showQ_len K1
  have h4 := totL_two t.ks (by omega)
  rw [hnt0, hnt1] at h4
  rw [← hPF]
  simp only [List.length_append, List.length_cons, List.length_nil]
  omega
 rw [hPF] at HR hb2d
 have HPF := hid hb2d
 have HPZ := hid (show PF.length ≤ 400000 from hPT)
 have HOPS := hid (show t.op = sFilter ∨ t.op = sUnion ∨ t.op = sProject ∨ t.op = sJoin ∨ t.op = sGroup from .inr (.inr (.inr (.inl hj))))
 clear hS hn eo et en hkl eo' et' hf he ih ih0 hnt0 htk0 hK0 hpos q0 q1 q2 hk0 e0 hsz htt hos hS0 hS0d hS0z ha1 ha1z ha2 ha2z ha2d hsh hR htot hL h3 ih1 hnt1 htk1 hK1 p0 p1 p2 e3 hk1 hPF hj hS1 hS1d hS1z sz2 hb1 hb1z hb2 hb2d hPZ hPT
 go_enter Tryz.func17, Tryz.ntmps17
 obtain ⟨w0, hw0⟩ : ∃ w0, w.alloc (.cells #[.string op, .string tx, .slice (some ad) n m] 25) = w0 := ⟨_, rfl⟩
 have B0 := hid (show Below w.heap.size w w0 by rw [← hw0]; exact below_alloc w _)
 have N0 := hid (show NBox w0 w.heap.size (.string op) (.string tx) (.slice (some ad) n m) by rw [← hw0]; exact NBox.fresh _ _ _ _ _)
 have HW0 := hid hw0
 have hz0 : w.heap.size < w0.heap.size := by rw [← hw0]; simp
 clear hw0
 obtain ⟨c0, c1, c2, cf⟩ := N0.out
 go_upto_region 1 with fail
 rw [HW0.out]
 go_wp2_with fail
 refine (HIS.out w0).mono ?_
 rintro e w1 ⟨rfl, hb⟩
 have B1 := hid (B0.out.trans (hb.mono (by omega)))
 have N1 := hid (N0.out.below hb)
 have z1 : w.heap.size < w1.heap.size := by have := hb.size; omega
 clear hb c0 c1 c2 cf
 obtain ⟨c0, c1, c2, cf⟩ := N1.out
 go_wp2_with fail
 refine (HEN.out w1).mono ?_
 rintro e w2 ⟨rfl, hb⟩
 have B2 := hid (B1.out.trans (hb.mono (by omega)))
 have N2 := hid (N1.out.below hb)
 have z2 : w.heap.size < w2.heap.size := by have := hb.size; omega
 clear hb c0 c1 c2 cf
 obtain ⟨c0, c1, c2, cf⟩ := N2.out
 have HS0 := hid (fun (w' : World) (hb : Below w2.heap.size w2 w') => have hb0 : Below w.heap.size w w' := B2.out.trans (hb.mono (by omega)); (show Calls Tryz.prog 17 #[.agg #[.string o1, .string o2, .slice oX on om]] w' (fun e w'' => e = .returned (.string S0) ∧ Below w'.heap.size w' w'') by
  have h := HSH.out S o1 o2 oX on om w' (fun g hg => Nat.lt_of_lt_of_le (HS.out g hg) hb0.size) (HK0.out.bel HS.out hb0)
  rw [HS00.out] at h
  exact h))
 have FQ := hid (fun (w' : World) (hb : Below w2.heap.size w2 w') => have hb0 : Below w.heap.size w w' := B2.out.trans (hb.mono (by omega)); (show w'.cell? ⟨w.heap.size, 0, none⟩ = some (.string op) ∧ w'.cell? ⟨w.heap.size, 2, none⟩ = some (.slice (some ad) n m) ∧ w'.cell? ad = some (.string o1) ∧ w'.cell? ⟨ad.block, ad.off + 1, none⟩ = some (.string o2) ∧ w'.cell? ⟨ad.block, ad.off + 2, none⟩ = some (.slice oX on om) from
  ⟨(N2.out.below hb).c0, (N2.out.below hb).c2, (hb0.cell had).trans Q0.out, (hb0.cell (p := ⟨ad.block, ad.off + 1, none⟩) had).trans Q1.out, (hb0.cell (p := ⟨ad.block, ad.off + 2, none⟩) had).trans Q2.out⟩))
 clear c0 c1 c2 cf
 obtain ⟨c0, c1, c2, cf⟩ := N2.out
 have e0n : (0 : Int) < (n : Int) := by omega
 go_wp2_with fail
 go_region_held3 (fun w' => (w'.cell? ⟨w.heap.size, 0, none⟩ = some (.string op) ∧ w'.cell? ⟨w.heap.size, 2, none⟩ = some (.slice (some ad) n m) ∧ w'.cell? ad = some (.string o1) ∧ w'.cell? ⟨ad.block, ad.off + 1, none⟩ = some (.string o2) ∧ w'.cell? ⟨ad.block, ad.off + 2, none⟩ = some (.slice oX on om)) ∧ Below w2.heap.size w2 w')
  (first | assumption | (exact keepB hb5 (by assumption) (FQ.out _)) | (exact ⟨FQ.out _ (Below.refl _ _).drew, (Below.refl _ _).drew⟩))
  (first | (go_at_call 17; with_reducible refine (HS0.out _ ?cv).mono ?_; (case cv => exact (by assumption : _ ∧ Below w2.heap.size w2 _).2); rintro e w5 ⟨rfl, hb5⟩))
 have G3 := hid (show Below w2.heap.size w2 w5 by rename_i hS; exact hS.2)
 have B3 := hid (B2.out.trans (G3.out.mono (by omega)))
 have N3 := hid (N2.out.below G3.out)
 have z3 : w.heap.size < w5.heap.size := by have := G3.out.size; omega
 clear hb5 c0 c1 c2 cf HS0 FQ
 obtain ⟨c0, c1, c2, cf⟩ := N3.out
 have hbb : ad.block < w5.heap.size := by omega
 have p0 := (B3.out.cell (p := ⟨ad.block, ad.off + 3, none⟩) had).trans P0.out
 have p1 := (B3.out.cell (p := ⟨ad.block, ad.off + 4, none⟩) had).trans P1.out
 have p2 := (B3.out.cell (p := ⟨ad.block, ad.off + 5, none⟩) had).trans P2.out
 have e1n : (1 : Int) < (n : Int) := by have := HEN2.out; have := HN3.out; omega
 go_wp2_with fail
 refine (HSJ.out S r1 r2 rX rn rm w5 (fun g hg => by have := HS.out g hg; omega) (HK1.out.bel HS.out B3.out)).mono ?_
 rintro e w6 ⟨rfl, hb⟩
 have B4 := hid (B3.out.trans (hb.mono (by omega)))
 have N4 := hid (N3.out.below hb)
 have z4 : w.heap.size < w6.heap.size := by have := hb.size; omega
 clear hb c0 c1 c2 cf p0 p1 p2
 obtain ⟨c0, c1, c2, cf⟩ := N4.out
 go_wp2_with fail
 go_loopw [4, 8] (fun sv v wr => ∃ (i k : Nat) (s' : ByteArray) (r : List UInt8), i = 2 + k ∧ i ≤ n ∧ v = .int .i64 (i : Int) ∧ sv = .string s' ∧ s'.data.toList = PF ++ r ∧ partsQ t.op (L.take k) (showsQ (L.take k)) = some r ∧ Below w6.heap.size w6 wr) (fun _ v _ => n - (intOf v).toNat)
 case atStart => exact ⟨2, 0, b2, [], by omega, by omega, by first | rfl | simp, rfl, by rw [HPF.out]; simp, by rw [List.take_zero, showsQ, partsQ]; simp, Below.refl _ _⟩
 case round =>
  obtain ⟨i, k, s', r, hik, hin, rfl, rfl, hsd, hpr, hb⟩ := hrel
  have HB := hid hb
  have HB0 := hid (B4.out.trans (hb.mono (by omega)))
  have N4 := hid (N4.out.below hb)
  have z4 : w.heap.size < wr.heap.size := by have := hb.size; omega
  have HSD := hid hsd
  have HPR := hid hpr
  have HIK := hid hik
  have hn9 : n ≤ 1000000000 := by have h1 := HKL.out; have h2 := HEN2.out; omega
  clear hb hsd hpr hik
  have hrz : r.length ≤ 300000 := by
   have h1 := parts_len HPR.out (fun n hn => showQ_len n)
   have h2 := totL_le2 L k
   have h3 := HLT.out
   have h4 := HTOT.out
   omega
  have hsz9 : s'.size ≤ 700000 := by
   have h1 : s'.size = PF.length + r.length := by rw [← List.length_append, ← HSD.out]; rfl
   have h2 := HPZ.out
   omega
  have R0 := N4.out
  obtain ⟨d0, d1, d2, df⟩ := R0
  by_cases hil : i < n
  ·have hiL : k < L.length := by have := HIK.out; rw [HLL.out]; omega
   have hit : i < t.ks.length := by have := HEN2.out; omega
   have hLk : L[k] = t.ks[i] := HLK.out k i hiL hit HIK.out
   obtain ⟨ad9, ⟨x1, x2, xX, xn, xm⟩, eA9, hSa9, y0, y1, y2, hk9⟩ := (HN.out.bel HS.out HB0.out).kid i hit
   dsimp only at eA9 y0 y1 y2
   obtain rfl : ad = ad9 := Option.some.inj eA9
   have hkb : (ad.add (i * 3)).block < wr.heap.size := by rw [add_block]; have := HB0.out.size; omega
   have HK9 := hid hk9
   have HT9 := hid (tot_kid t i hit)
   obtain ⟨K, hK⟩ : ∃ K, t.ks[i] = K := ⟨_, rfl⟩
   rw [hK] at hLk HK9 HT9
   have HIH := hid (show QShows K by rw [← hK]; exact HSHQ.out i hit)
   have HPA := hid (parts_at t.op L k hiL r HPR.out)
   rw [hLk] at HPA
   have HPT := hid (fun (w' : World) (hb : Below wr.heap.size wr w') => have hb0 : Below w.heap.size w w' := HB0.out.trans (hb.mono (by omega)); rpart_any t.op HOPS.out K (by have := HT9.out; have := HTOT.out; omega) HIH.out S op x1 x2 HEO.out xX xn xm w' (fun g hg => Nat.lt_of_lt_of_le (HS.out g hg) hb0.size) (HK9.out.bel (fun g hg => Nat.lt_of_lt_of_le (HS.out g hg) HB0.out.size) hb))
   have HPQ := hid (fun b (h : partQ t.op K (showQ K) = some b) => partQ_len h (showQ_len K))
   obtain ⟨pq, hpq⟩ : ∃ pq, partQ t.op K (showQ K) = pq := ⟨_, rfl⟩
   unfold PartP at HPT
   rw [hpq] at HPT HPA HPQ
   have Y0 := hid y0
   have Y1 := hid y1
   have Y2 := hid y2
   have FQ := hid (fun (w' : World) (hb : Below wr.heap.size wr w') => (show w'.cell? ⟨w.heap.size, 0, none⟩ = some (.string op) ∧ w'.cell? ⟨w.heap.size, 2, none⟩ = some (.slice (some ad) n m) ∧ w'.cell? (ad.add (i * 3)) = some (.string x1) ∧ w'.cell? ⟨(ad.add (i * 3)).block, (ad.add (i * 3)).off + 1, none⟩ = some (.string x2) ∧ w'.cell? ⟨(ad.add (i * 3)).block, (ad.add (i * 3)).off + 2, none⟩ = some (.slice xX xn xm) from
    ⟨(N4.out.below hb).c0, (N4.out.below hb).c2, (hb.cell hkb).trans Y0.out, (hb.cell (p := ⟨(ad.add (i * 3)).block, (ad.add (i * 3)).off + 1, none⟩) hkb).trans Y1.out, (hb.cell (p := ⟨(ad.add (i * 3)).block, (ad.add (i * 3)).off + 2, none⟩) hkb).trans Y2.out⟩))
   have ein : (i : Int) < (n : Int) := by omega
   clear hk9 hpq hK eA9 hLk
   go_wp2_with fail
   go_region_held3 (fun w' => (w'.cell? ⟨w.heap.size, 0, none⟩ = some (.string op) ∧ w'.cell? ⟨w.heap.size, 2, none⟩ = some (.slice (some ad) n m) ∧ w'.cell? (ad.add (i * 3)) = some (.string x1) ∧ w'.cell? ⟨(ad.add (i * 3)).block, (ad.add (i * 3)).off + 1, none⟩ = some (.string x2) ∧ w'.cell? ⟨(ad.add (i * 3)).block, (ad.add (i * 3)).off + 2, none⟩ = some (.slice xX xn xm)) ∧ Below wr.heap.size wr w')
    (first | assumption | (exact keepB hb9 (by assumption) (FQ.out _)) | (exact ⟨FQ.out _ (Below.refl _ _).drew, (Below.refl _ _).drew⟩))
    (first | (go_at_call 37; with_reducible refine (HPT.out _ ?cv).mono ?_; (case cv => exact (by assumption : _ ∧ Below wr.heap.size wr _).2); rintro e w9 ⟨sp, rfl, hsp, hb9⟩))
   have G9 := hid (show Below wr.heap.size wr w9 by rename_i hS; exact hS.2)
   have B9 := hid (HB0.out.trans (G9.out.mono (by omega)))
   have HSP := hid hsp
   clear hb9 hsp y0 y1 y2 d0 d1 d2 df
   cases pq with
   | none =>
    have hq : (⟨#[63]⟩ : ByteArray) = R := HRR.out _ (by
     rw [HR.out]
     unfold wholeQ
     rw [parts_cut t.op L (k + 1) HPA.out])
    have HQQ := hid hq
    clear hq
    go_wp2
    go_ret
    exact ⟨by rw [← HQQ.out]; simp, B9.out⟩
   | some b =>
    have hspd : sp.data.toList = b := HSP.out b rfl
    have hspz : sp.size ≤ 300000 := by
     have h1 : sp.size = b.length := by rw [← hspd]; rfl
     have h2 := HPQ.out b rfl
     have h3 := HT9.out
     have h4 := HTOT.out
     omega
    have sz : (⟨#[44, 32]⟩ : ByteArray).size = 2 := rfl
    obtain ⟨u1, hu1⟩ : ∃ u : ByteArray, s' ++ ⟨#[44, 32]⟩ = u := ⟨_, rfl⟩
    have hu1z : u1.size = s'.size + 2 := by rw [← hu1, ByteArray.size_append, sz]
    have v1 : ∀ w, (Op.stringOp .add s' ⟨#[44, 32]⟩).run Tryz.prog w = .ok (.string u1) w := fun w => by rw [← hu1]; exact run_string_add_sum w _ _ (by omega)
    obtain ⟨u2, hu2⟩ : ∃ u : ByteArray, u1 ++ sp = u := ⟨_, rfl⟩
    have v2 : ∀ w, (Op.stringOp .add u1 sp).run Tryz.prog w = .ok (.string u2) w := fun w => by rw [← hu2]; exact run_string_add_sum w _ _ (by omega)
    have HU := hid (show u2.data.toList = PF ++ (r ++ (44 :: 32 :: b)) by
     rw [← hu2, ← hu1, ByteArray.data_append, ByteArray.data_append, Array.toList_append, Array.toList_append, HSD.out, hspd]
     simp)
    clear hspd hspz sz hu1 hu1z hu2
    go_wp2
    go_roundw
    case rel => exact ⟨i + 1, k + 1, u2, r ++ (44 :: 32 :: b), by have := HIK.out; omega, by omega, by go_num, by first | rfl | simp, HU.out, HPA.out, HB.out.trans (G9.out.mono HB.out.size)⟩
    case measure => simp [intOf]; omega
  ·obtain rfl : i = n := by omega
   have hkL : L.take k = L := List.take_of_length_le (by have := HIK.out; rw [HLL.out]; omega)
   have hfin : showQ t = PF ++ r ++ ([41] : List UInt8) := by
    rw [HR.out]
    unfold wholeQ
    have h := HPR.out
    rw [hkL] at h
    rw [h]
   obtain ⟨u1, hu1⟩ : ∃ u : ByteArray, s' ++ ⟨#[41]⟩ = u := ⟨_, rfl⟩
   have v1 : ∀ w, (Op.stringOp .add s' ⟨#[41]⟩).run Tryz.prog w = .ok (.string u1) w := fun w => by rw [← hu1]; exact run_string_add_sum w _ _ (by show s'.size + 1 ≤ _; omega)
   have HU := hid (show u1 = R from HRR.out _ (by rw [← hu1, ByteArray.data_append, Array.toList_append, HSD.out, hfin]))
   clear hkL hfin hu1
   go_wp2
   go_ret
   exact ⟨by rw [← HU.out]; simp, HB0.out⟩
theorem qshow_group (t : Nod) (htot : t.tot ≤ 10000) (hf : isE t sFrom 0 = false) (he : enoughE t = true) (hg : t.op = sGroup) (ih : ∀ (i : Nat) (hi : i < t.ks.length), QShows t.ks[i]) : QShows t := by
 intro S op tx X n m w hS hn
 obtain ⟨eo, et, en, hkl⟩ := hn.texts
 dsimp only at eo et en
 have eo' : op.data.toList = t.op := by rw [eo]
 have et' : tx.data.toList = t.tx := by rw [et]
 have HIS := hid (fun (w' : World) => (show Calls Tryz.prog 34 #[.agg #[.string op, .string tx, .slice X n m], .string ⟨#[102, 114, 111, 109]⟩, .int .i64 0] w' (fun e w'' => e = .returned (.bool (isE t sFrom 0)) ∧ Below w'.heap.size w' w'') by
  have h := qis_any op tx X n m ⟨#[102, 114, 111, 109]⟩ 0 w'
  rw [eo', en] at h
  rw [en]
  exact h))
 have HEN := hid (fun (w' : World) => (show Calls Tryz.prog 35 #[.agg #[.string op, .string tx, .slice X n m]] w' (fun e w'' => e = .returned (.bool (enoughE t)) ∧ Below w'.heap.size w' w'') by
  have h := qenough_any op tx X n m w'
  rw [eo', et', en] at h
  rw [en]
  exact h))
 rw [hf] at HIS
 rw [he] at HEN
 have hpos := enough_pos he
 have h3 : 3 ≤ t.ks.length := hpos.2 (.inr hg)
 obtain ⟨ad, ⟨o1, o2, oX, on, om⟩, eA, hSa, q0, q1, q2, hk0⟩ := hn.kid 0 (by omega)
 dsimp only at eA q0 q1 q2
 subst eA
 have e0 : ad.add (0 * 3) = ad := by simp [Addr.add]
 rw [e0] at q0 q1 q2
 have had := hS _ hSa
 have ih0 := ih 0 (by omega)
 have hnt0 := nth_get t.ks 0 (by omega)
 have htk0 := tot_kid t 0 (by omega)
 obtain ⟨K0, hK0⟩ : ∃ K, t.ks[0]'(by omega) = K := ⟨_, rfl⟩
 rw [hK0] at hk0 ih0 hnt0 htk0
 obtain ⟨ad', ⟨r1, r2, rX, rn, rm⟩, eA', hSa', p0, p1, p2, hk1⟩ := hn.kid 1 (by omega)
 dsimp only at eA' p0 p1 p2
 obtain rfl : ad = ad' := Option.some.inj eA'
 have e3 : ad.add (1 * 3) = ⟨ad.block, ad.off + 3, none⟩ := by simp [Addr.add]
 rw [e3] at p0 p1 p2
 have ih1 := ih 1 (by omega)
 have hnt1 := nth_get t.ks 1 (by omega)
 have htk1 := tot_kid t 1 (by omega)
 obtain ⟨K1, hK1⟩ : ∃ K, t.ks[1]'(by omega) = K := ⟨_, rfl⟩
 rw [hK1] at hk1 ih1 hnt1 htk1
 have P0 := hid p0
 have P1 := hid p1
 have P2 := hid p2
 have HK1 := hid hk1
 have hsz := showQ_len t
 have htt := nod_parts t
 have hos : op.size = t.op.length := by rw [eo]; rfl
 obtain ⟨S0, hS0⟩ : ∃ s : ByteArray, (⟨(showQ K0).toArray⟩ : ByteArray) = s := ⟨_, rfl⟩
 have hS0d : S0.data.toList = showQ K0 := by rw [← hS0]
 have hS0z : S0.size ≤ 300000 := by
  have h1 := showQ_len K0
  rw [← hS0]
  show (showQ K0).length ≤ _
  omega
 have g1 : ∀ w, (Op.stringOp .add op ⟨#[40]⟩).run Tryz.prog w = .ok (.string (op ++ ⟨#[40]⟩)) w := fun w => run_string_add_sum w _ _ (by show op.size + 1 ≤ _; omega)
 obtain ⟨a1, ha1⟩ : ∃ s : ByteArray, op ++ ⟨#[40]⟩ = s := ⟨_, rfl⟩
 have ha1z : a1.size = op.size + 1 := by rw [← ha1, ByteArray.size_append]; rfl
 rw [ha1] at g1
 have g2 : ∀ w, (Op.stringOp .add a1 S0).run Tryz.prog w = .ok (.string (a1 ++ S0)) w := fun w => run_string_add_sum w _ _ (by omega)
 obtain ⟨a2, ha2⟩ : ∃ s : ByteArray, a1 ++ S0 = s := ⟨_, rfl⟩
 have ha2z : a2.size = op.size + 1 + S0.size := by rw [← ha2, ByteArray.size_append, ha1z]
 have ha2d : a2.data.toList = t.op ++ ([40] : List UInt8) ++ showQ K0 := by rw [← ha2, ← ha1]; simp only [ByteArray.data_append, Array.toList_append, eo', hS0d]
 rw [ha2] at g2
 have HSH := hid ih0
 unfold QShows SaysT at HSH
 have HS := hid hS
 have HN := hid hn
 have Q0 := hid q0
 have Q1 := hid q1
 have Q2 := hid q2
 have HK0 := hid hk0
 have hsh0 : showQ t = match byE K1 with | some b => wholeQ t.op (t.op ++ ([40] : List UInt8) ++ showQ K0 ++ (if 0 < K1.ks.length then [44, 32] ++ b else [])) (t.ks.drop 2) (showsQ (t.ks.drop 2)) | none => [63] := by
  have h9 := shows_zero t.ks (by omega)
  rw [hnt0] at h9
  rw [← h9, ← shows_drop, ← hnt1]
  cases t with
  | mk o x ks =>
   rw [showQ]
   unfold showQ1
   rw [if_neg (by rw [hf]; decide), if_neg (by rw [he]; decide), if_neg (by rw [hg]; decide), if_pos hg]
   rfl
 have hsh := hsh0
 have HBY := hid (fun (w' : World) (hb : Below w.heap.size w w') => (show Calls Tryz.prog 36 #[.agg #[.string r1, .string r2, .slice rX rn rm]] w' (ByP K1 w') from qbyE_any K1 (by omega) S r1 r2 rX rn rm w' (fun g hg => Nat.lt_of_lt_of_le (hS g hg) hb.size) (hk1.bel hS hb)))
 unfold ByP at HBY
 have hrn : rn = K1.ks.length := hk1.texts.2.2.1
 have HRN := hid hrn
 obtain ⟨bq, hbq⟩ : ∃ bq, byE K1 = bq := ⟨_, rfl⟩
 have HBL := hid (fun b (h : bq = some b) => (show b.length ≤ 2 + Nod.totL K1.ks from by_len (hbq.trans h)))
 have HK1T := hid (nod_parts K1)
 have HTK1 := hid htk1
 rw [hbq] at HBY hsh
 have HR := hid hsh
 obtain ⟨R, hR⟩ : ∃ R : ByteArray, (⟨(showQ t).toArray⟩ : ByteArray) = R := ⟨_, rfl⟩
 have HRR := hid (show ∀ s : ByteArray, s.data.toList = showQ t → s = R from fun s h => by rw [← Lib.mk_data s, h, hR])
 rw [hR]
 have HEN2 := hid en
 have HN3 := hid h3
 have HTOT := hid htot
 have HEO := hid eo'
 have h0n : 0 < n := by omega
 have HKL := hid hkl
 have f1 : (op.toList == [106, 111, 105, 110]) = false := lit_ne (by rw [eo', hg]; decide)
 have f2 : (op.toList == [103, 114, 111, 117, 112]) = true := by rw [ByteArray.toList_eq, eo', hg]; rfl
 obtain ⟨L, hL⟩ : ∃ L, t.ks.drop 2 = L := ⟨_, rfl⟩
 have HLL := hid (show L.length = n - 2 by rw [← hL, List.length_drop, en])
 have HLK := hid (show ∀ (k i : Nat) (hk : k < L.length) (hi : i < t.ks.length), i = 2 + k → L[k] = t.ks[i] from fun k i hk hi e => by subst hL e; rw [List.getElem_drop])
 have HLT := hid (show Nod.totL L ≤ t.tot by rw [← hL]; have := totL_drop t.ks 2; omega)
 have HSHQ := hid (fun (i : Nat) (hi : i < t.ks.length) => ih i hi)
 have HS00 := hid hS0
 rw [hL] at HR
 obtain ⟨PZ, hPF⟩ : ∃ PF : List UInt8, (t.op ++ ([40] : List UInt8) ++ showQ K0 : List UInt8) = PF := ⟨_, rfl⟩
 have hPT : PZ.length ≤ 310000 := by
  have h1 := showQ_len K0
  have h4 := totL_two t.ks (by omega)
  rw [hnt0, hnt1] at h4
  rw [← hPF]
  simp only [List.length_append, List.length_cons, List.length_nil]
  omega
 have HPT0 := hid hPT
 rw [hPF] at HR ha2d
 have HA2D := hid ha2d
 have HA2Z := hid (show a2.size ≤ 310000 by rw [show a2.size = a2.data.toList.length from rfl, ha2d]; exact hPT)
 have HOPS := hid (show t.op = sFilter ∨ t.op = sUnion ∨ t.op = sProject ∨ t.op = sJoin ∨ t.op = sGroup from .inr (.inr (.inr (.inr hg))))
 clear hS hn eo et en hkl eo' et' hf he ih ih0 hnt0 htk0 hK0 hpos q0 q1 q2 hk0 e0 hsz htt hos hS0 hS0d hS0z ha1 ha1z ha2 ha2z ha2d hsh hR htot hL h3 ih1 hnt1 htk1 hK1 p0 p1 p2 e3 hk1 hPF hg hsh0 hrn hbq hPT
 go_enter Tryz.func17, Tryz.ntmps17
 obtain ⟨w0, hw0⟩ : ∃ w0, w.alloc (.cells #[.string op, .string tx, .slice (some ad) n m] 25) = w0 := ⟨_, rfl⟩
 have B0 := hid (show Below w.heap.size w w0 by rw [← hw0]; exact below_alloc w _)
 have N0 := hid (show NBox w0 w.heap.size (.string op) (.string tx) (.slice (some ad) n m) by rw [← hw0]; exact NBox.fresh _ _ _ _ _)
 have HW0 := hid hw0
 have hz0 : w.heap.size < w0.heap.size := by rw [← hw0]; simp
 clear hw0
 obtain ⟨c0, c1, c2, cf⟩ := N0.out
 go_upto_region 1 with fail
 rw [HW0.out]
 go_wp2_with fail
 refine (HIS.out w0).mono ?_
 rintro e w1 ⟨rfl, hb⟩
 have B1 := hid (B0.out.trans (hb.mono (by omega)))
 have N1 := hid (N0.out.below hb)
 have z1 : w.heap.size < w1.heap.size := by have := hb.size; omega
 clear hb c0 c1 c2 cf
 obtain ⟨c0, c1, c2, cf⟩ := N1.out
 go_wp2_with fail
 refine (HEN.out w1).mono ?_
 rintro e w2 ⟨rfl, hb⟩
 have B2 := hid (B1.out.trans (hb.mono (by omega)))
 have N2 := hid (N1.out.below hb)
 have z2 : w.heap.size < w2.heap.size := by have := hb.size; omega
 clear hb c0 c1 c2 cf
 obtain ⟨c0, c1, c2, cf⟩ := N2.out
 have HS0 := hid (fun (w' : World) (hb : Below w2.heap.size w2 w') => have hb0 : Below w.heap.size w w' := B2.out.trans (hb.mono (by omega)); (show Calls Tryz.prog 17 #[.agg #[.string o1, .string o2, .slice oX on om]] w' (fun e w'' => e = .returned (.string S0) ∧ Below w'.heap.size w' w'') by
  have h := HSH.out S o1 o2 oX on om w' (fun g hg => Nat.lt_of_lt_of_le (HS.out g hg) hb0.size) (HK0.out.bel HS.out hb0)
  rw [HS00.out] at h
  exact h))
 have FQ := hid (fun (w' : World) (hb : Below w2.heap.size w2 w') => have hb0 : Below w.heap.size w w' := B2.out.trans (hb.mono (by omega)); (show w'.cell? ⟨w.heap.size, 0, none⟩ = some (.string op) ∧ w'.cell? ⟨w.heap.size, 2, none⟩ = some (.slice (some ad) n m) ∧ w'.cell? ad = some (.string o1) ∧ w'.cell? ⟨ad.block, ad.off + 1, none⟩ = some (.string o2) ∧ w'.cell? ⟨ad.block, ad.off + 2, none⟩ = some (.slice oX on om) from
  ⟨(N2.out.below hb).c0, (N2.out.below hb).c2, (hb0.cell had).trans Q0.out, (hb0.cell (p := ⟨ad.block, ad.off + 1, none⟩) had).trans Q1.out, (hb0.cell (p := ⟨ad.block, ad.off + 2, none⟩) had).trans Q2.out⟩))
 clear c0 c1 c2 cf
 obtain ⟨c0, c1, c2, cf⟩ := N2.out
 have e0n : (0 : Int) < (n : Int) := by omega
 go_wp2_with fail
 go_region_held3 (fun w' => (w'.cell? ⟨w.heap.size, 0, none⟩ = some (.string op) ∧ w'.cell? ⟨w.heap.size, 2, none⟩ = some (.slice (some ad) n m) ∧ w'.cell? ad = some (.string o1) ∧ w'.cell? ⟨ad.block, ad.off + 1, none⟩ = some (.string o2) ∧ w'.cell? ⟨ad.block, ad.off + 2, none⟩ = some (.slice oX on om)) ∧ Below w2.heap.size w2 w')
  (first | assumption | (exact keepB hb5 (by assumption) (FQ.out _)) | (exact ⟨FQ.out _ (Below.refl _ _).drew, (Below.refl _ _).drew⟩))
  (first | (go_at_call 17; with_reducible refine (HS0.out _ ?cv).mono ?_; (case cv => exact (by assumption : _ ∧ Below w2.heap.size w2 _).2); rintro e w5 ⟨rfl, hb5⟩))
 have G3 := hid (show Below w2.heap.size w2 w5 by rename_i hS; exact hS.2)
 have B3 := hid (B2.out.trans (G3.out.mono (by omega)))
 have N3 := hid (N2.out.below G3.out)
 have z3 : w.heap.size < w5.heap.size := by have := G3.out.size; omega
 clear hb5 c0 c1 c2 cf HS0 FQ
 obtain ⟨c0, c1, c2, cf⟩ := N3.out
 have hbb : ad.block < w5.heap.size := by omega
 have p0 := (B3.out.cell (p := ⟨ad.block, ad.off + 3, none⟩) had).trans P0.out
 have p1 := (B3.out.cell (p := ⟨ad.block, ad.off + 4, none⟩) had).trans P1.out
 have p2 := (B3.out.cell (p := ⟨ad.block, ad.off + 5, none⟩) had).trans P2.out
 have e1n : (1 : Int) < (n : Int) := by have := HEN2.out; have := HN3.out; omega
 go_wp2_with fail
 refine (HBY.out w5 B3.out).mono ?_
 rintro e w6 ⟨sb, rfl, hsb, hb⟩
 have B4 := hid (B3.out.trans (hb.mono (by omega)))
 have N4 := hid (N3.out.below hb)
 have z4 : w.heap.size < w6.heap.size := by have := hb.size; omega
 have HSB := hid hsb
 clear hb c0 c1 c2 cf p0 p1 p2 hsb
 obtain ⟨c0, c1, c2, cf⟩ := N4.out
 have p2 := (B4.out.cell (p := ⟨ad.block, ad.off + 5, none⟩) had).trans P2.out
 cases bq with
 | none =>
  have hq : (⟨#[63]⟩ : ByteArray) = R := HRR.out _ (by rw [HR.out])
  have HQQ := hid hq
  clear hq
  go_wp2
  go_ret
  exact ⟨by rw [← HQQ.out]; simp, B4.out⟩
 | some b =>
  have hsbd : sb.data.toList = b := HSB.out b rfl
  have hbl := HBL.out b rfl
  by_cases hr0 : 0 < rn
  ·have hr9 : 0 < K1.ks.length := by rw [← HRN.out]; exact hr0
   have hbz : b.length ≤ 20000 := by have h1 := HK1T.out; have h2 := HTK1.out; have h3 := HTOT.out; omega
   obtain ⟨PF, hPF⟩ : ∃ PF : List UInt8, (PZ ++ ([44, 32] ++ b) : List UInt8) = PF := ⟨_, rfl⟩
   have hshp : showQ t = wholeQ t.op PF L (showsQ L) := by
    have h := HR.out
    dsimp only at h
    rw [if_pos hr9, hPF] at h
    exact h
   have HR := hid hshp
   have sz2 : (⟨#[44, 32]⟩ : ByteArray).size = 2 := rfl
   have hsbz : sb.size = b.length := by rw [← hsbd]; rfl
   have ha9 := HA2Z.out
   obtain ⟨b1, hb1⟩ : ∃ s : ByteArray, a2 ++ ⟨#[44, 32]⟩ = s := ⟨_, rfl⟩
   have hb1z : b1.size = a2.size + 2 := by rw [← hb1, ByteArray.size_append, sz2]
   have g3 : ∀ w, (Op.stringOp .add a2 ⟨#[44, 32]⟩).run Tryz.prog w = .ok (.string b1) w := fun w => by rw [← hb1]; exact run_string_add_sum w _ _ (by omega)
   obtain ⟨b2, hb2⟩ : ∃ s : ByteArray, b1 ++ sb = s := ⟨_, rfl⟩
   have g4 : ∀ w, (Op.stringOp .add b1 sb).run Tryz.prog w = .ok (.string b2) w := fun w => by rw [← hb2]; exact run_string_add_sum w _ _ (by omega)
   have HPF := hid (show b2.data.toList = PF by rw [← hb2, ← hb1, ← hPF]; simp only [ByteArray.data_append, Array.toList_append, HA2D.out, hsbd, List.append_assoc])
   have HPZ := hid (show PF.length ≤ 400000 by
    have h1 := HPT0.out
    rw [← hPF]
    simp only [List.length_append, List.length_cons, List.length_nil]
    omega)
   have ern : decide ((0 : Int) < (rn : Int)) = true := by simp; omega
   clear hsbd hbl hr9 hPF hshp sz2 hsbz ha9 hb1 hb1z hb2 hbz
   go_wp2_with fail
   go_loopw [4, 8] (fun sv v wr => ∃ (i k : Nat) (s' : ByteArray) (r : List UInt8), i = 2 + k ∧ i ≤ n ∧ v = .int .i64 (i : Int) ∧ sv = .string s' ∧ s'.data.toList = PF ++ r ∧ partsQ t.op (L.take k) (showsQ (L.take k)) = some r ∧ Below w6.heap.size w6 wr) (fun _ v _ => n - (intOf v).toNat)
   case atStart => exact ⟨2, 0, b2, [], by omega, by omega, by first | rfl | simp, rfl, by rw [HPF.out]; simp, by rw [List.take_zero, showsQ, partsQ]; simp, Below.refl _ _⟩
   case round =>
    obtain ⟨i, k, s', r, hik, hin, rfl, rfl, hsd, hpr, hb⟩ := hrel
    have HB := hid hb
    have HB0 := hid (B4.out.trans (hb.mono (by omega)))
    have N4 := hid (N4.out.below hb)
    have z4 : w.heap.size < wr.heap.size := by have := hb.size; omega
    have HSD := hid hsd
    have HPR := hid hpr
    have HIK := hid hik
    have hn9 : n ≤ 1000000000 := by have h1 := HKL.out; have h2 := HEN2.out; omega
    clear hb hsd hpr hik
    have hrz : r.length ≤ 300000 := by
     have h1 := parts_len HPR.out (fun n hn => showQ_len n)
     have h2 := totL_le2 L k
     have h3 := HLT.out
     have h4 := HTOT.out
     omega
    have hsz9 : s'.size ≤ 700000 := by
     have h1 : s'.size = PF.length + r.length := by rw [← List.length_append, ← HSD.out]; rfl
     have h2 := HPZ.out
     omega
    have R0 := N4.out
    obtain ⟨d0, d1, d2, df⟩ := R0
    by_cases hil : i < n
    ·have hiL : k < L.length := by have := HIK.out; rw [HLL.out]; omega
     have hit : i < t.ks.length := by have := HEN2.out; omega
     have hLk : L[k] = t.ks[i] := HLK.out k i hiL hit HIK.out
     obtain ⟨ad9, ⟨x1, x2, xX, xn, xm⟩, eA9, hSa9, y0, y1, y2, hk9⟩ := (HN.out.bel HS.out HB0.out).kid i hit
     dsimp only at eA9 y0 y1 y2
     obtain rfl : ad = ad9 := Option.some.inj eA9
     have hkb : (ad.add (i * 3)).block < wr.heap.size := by rw [add_block]; have := HB0.out.size; omega
     have HK9 := hid hk9
     have HT9 := hid (tot_kid t i hit)
     obtain ⟨K, hK⟩ : ∃ K, t.ks[i] = K := ⟨_, rfl⟩
     rw [hK] at hLk HK9 HT9
     have HIH := hid (show QShows K by rw [← hK]; exact HSHQ.out i hit)
     have HPA := hid (parts_at t.op L k hiL r HPR.out)
     rw [hLk] at HPA
     have HPT := hid (fun (w' : World) (hb : Below wr.heap.size wr w') => have hb0 : Below w.heap.size w w' := HB0.out.trans (hb.mono (by omega)); rpart_any t.op HOPS.out K (by have := HT9.out; have := HTOT.out; omega) HIH.out S op x1 x2 HEO.out xX xn xm w' (fun g hg => Nat.lt_of_lt_of_le (HS.out g hg) hb0.size) (HK9.out.bel (fun g hg => Nat.lt_of_lt_of_le (HS.out g hg) HB0.out.size) hb))
     have HPQ := hid (fun b (h : partQ t.op K (showQ K) = some b) => partQ_len h (showQ_len K))
     obtain ⟨pq, hpq⟩ : ∃ pq, partQ t.op K (showQ K) = pq := ⟨_, rfl⟩
     unfold PartP at HPT
     rw [hpq] at HPT HPA HPQ
     have Y0 := hid y0
     have Y1 := hid y1
     have Y2 := hid y2
     have FQ := hid (fun (w' : World) (hb : Below wr.heap.size wr w') => (show w'.cell? ⟨w.heap.size, 0, none⟩ = some (.string op) ∧ w'.cell? ⟨w.heap.size, 2, none⟩ = some (.slice (some ad) n m) ∧ w'.cell? (ad.add (i * 3)) = some (.string x1) ∧ w'.cell? ⟨(ad.add (i * 3)).block, (ad.add (i * 3)).off + 1, none⟩ = some (.string x2) ∧ w'.cell? ⟨(ad.add (i * 3)).block, (ad.add (i * 3)).off + 2, none⟩ = some (.slice xX xn xm) from
      ⟨(N4.out.below hb).c0, (N4.out.below hb).c2, (hb.cell hkb).trans Y0.out, (hb.cell (p := ⟨(ad.add (i * 3)).block, (ad.add (i * 3)).off + 1, none⟩) hkb).trans Y1.out, (hb.cell (p := ⟨(ad.add (i * 3)).block, (ad.add (i * 3)).off + 2, none⟩) hkb).trans Y2.out⟩))
     have ein : (i : Int) < (n : Int) := by omega
     clear hk9 hpq hK eA9 hLk
     go_wp2_with fail
     go_region_held3 (fun w' => (w'.cell? ⟨w.heap.size, 0, none⟩ = some (.string op) ∧ w'.cell? ⟨w.heap.size, 2, none⟩ = some (.slice (some ad) n m) ∧ w'.cell? (ad.add (i * 3)) = some (.string x1) ∧ w'.cell? ⟨(ad.add (i * 3)).block, (ad.add (i * 3)).off + 1, none⟩ = some (.string x2) ∧ w'.cell? ⟨(ad.add (i * 3)).block, (ad.add (i * 3)).off + 2, none⟩ = some (.slice xX xn xm)) ∧ Below wr.heap.size wr w')
      (first | assumption | (exact keepB hb9 (by assumption) (FQ.out _)) | (exact ⟨FQ.out _ (Below.refl _ _).drew, (Below.refl _ _).drew⟩))
      (first | (go_at_call 37; with_reducible refine (HPT.out _ ?cv).mono ?_; (case cv => exact (by assumption : _ ∧ Below wr.heap.size wr _).2); rintro e w9 ⟨sp, rfl, hsp, hb9⟩))
     have G9 := hid (show Below wr.heap.size wr w9 by rename_i hS; exact hS.2)
     have B9 := hid (HB0.out.trans (G9.out.mono (by omega)))
     have HSP := hid hsp
     clear hb9 hsp y0 y1 y2 d0 d1 d2 df
     cases pq with
     | none =>
      have hq : (⟨#[63]⟩ : ByteArray) = R := HRR.out _ (by
       rw [HR.out]
       unfold wholeQ
       rw [parts_cut t.op L (k + 1) HPA.out])
      have HQQ := hid hq
      clear hq
      go_wp2
      go_ret
      exact ⟨by rw [← HQQ.out]; simp, B9.out⟩
     | some b =>
      have hspd : sp.data.toList = b := HSP.out b rfl
      have hspz : sp.size ≤ 300000 := by
       have h1 : sp.size = b.length := by rw [← hspd]; rfl
       have h2 := HPQ.out b rfl
       have h3 := HT9.out
       have h4 := HTOT.out
       omega
      have sz : (⟨#[44, 32]⟩ : ByteArray).size = 2 := rfl
      obtain ⟨u1, hu1⟩ : ∃ u : ByteArray, s' ++ ⟨#[44, 32]⟩ = u := ⟨_, rfl⟩
      have hu1z : u1.size = s'.size + 2 := by rw [← hu1, ByteArray.size_append, sz]
      have v1 : ∀ w, (Op.stringOp .add s' ⟨#[44, 32]⟩).run Tryz.prog w = .ok (.string u1) w := fun w => by rw [← hu1]; exact run_string_add_sum w _ _ (by omega)
      obtain ⟨u2, hu2⟩ : ∃ u : ByteArray, u1 ++ sp = u := ⟨_, rfl⟩
      have v2 : ∀ w, (Op.stringOp .add u1 sp).run Tryz.prog w = .ok (.string u2) w := fun w => by rw [← hu2]; exact run_string_add_sum w _ _ (by omega)
      have HU := hid (show u2.data.toList = PF ++ (r ++ (44 :: 32 :: b)) by
       rw [← hu2, ← hu1, ByteArray.data_append, ByteArray.data_append, Array.toList_append, Array.toList_append, HSD.out, hspd]
       simp)
      clear hspd hspz sz hu1 hu1z hu2
      go_wp2
      go_roundw
      case rel => exact ⟨i + 1, k + 1, u2, r ++ (44 :: 32 :: b), by have := HIK.out; omega, by omega, by go_num, by first | rfl | simp, HU.out, HPA.out, HB.out.trans (G9.out.mono HB.out.size)⟩
      case measure => simp [intOf]; omega
    ·obtain rfl : i = n := by omega
     have hkL : L.take k = L := List.take_of_length_le (by have := HIK.out; rw [HLL.out]; omega)
     have hfin : showQ t = PF ++ r ++ ([41] : List UInt8) := by
      rw [HR.out]
      unfold wholeQ
      have h := HPR.out
      rw [hkL] at h
      rw [h]
     obtain ⟨u1, hu1⟩ : ∃ u : ByteArray, s' ++ ⟨#[41]⟩ = u := ⟨_, rfl⟩
     have v1 : ∀ w, (Op.stringOp .add s' ⟨#[41]⟩).run Tryz.prog w = .ok (.string u1) w := fun w => by rw [← hu1]; exact run_string_add_sum w _ _ (by show s'.size + 1 ≤ _; omega)
     have HU := hid (show u1 = R from HRR.out _ (by rw [← hu1, ByteArray.data_append, Array.toList_append, HSD.out, hfin]))
     clear hkL hfin hu1
     go_wp2
     go_ret
     exact ⟨by rw [← HU.out]; simp, HB0.out⟩
  ·have hr9 : ¬ 0 < K1.ks.length := by rw [← HRN.out]; exact hr0
   obtain rfl : rn = 0 := by omega
   obtain ⟨PF, hPF⟩ : ∃ PF : List UInt8, PZ = PF := ⟨_, rfl⟩
   have hshp : showQ t = wholeQ t.op PF L (showsQ L) := by
    have h := HR.out
    dsimp only at h
    rw [if_neg hr9, List.append_nil, hPF] at h
    exact h
   have HR := hid hshp
   have HPF := hid (show a2.data.toList = PF by rw [HA2D.out, hPF])
   have HPZ := hid (show PF.length ≤ 400000 by
    have h1 := HPT0.out
    rw [← hPF]
    omega)
   clear hsbd hbl hr9 hPF hshp hr0
   go_wp2_with fail
   go_loopw [4, 8] (fun sv v wr => ∃ (i k : Nat) (s' : ByteArray) (r : List UInt8), i = 2 + k ∧ i ≤ n ∧ v = .int .i64 (i : Int) ∧ sv = .string s' ∧ s'.data.toList = PF ++ r ∧ partsQ t.op (L.take k) (showsQ (L.take k)) = some r ∧ Below w6.heap.size w6 wr) (fun _ v _ => n - (intOf v).toNat)
   case atStart => exact ⟨2, 0, a2, [], by omega, by omega, by first | rfl | simp, rfl, by rw [HPF.out]; simp, by rw [List.take_zero, showsQ, partsQ]; simp, Below.refl _ _⟩
   case round =>
    obtain ⟨i, k, s', r, hik, hin, rfl, rfl, hsd, hpr, hb⟩ := hrel
    have HB := hid hb
    have HB0 := hid (B4.out.trans (hb.mono (by omega)))
    have N4 := hid (N4.out.below hb)
    have z4 : w.heap.size < wr.heap.size := by have := hb.size; omega
    have HSD := hid hsd
    have HPR := hid hpr
    have HIK := hid hik
    have hn9 : n ≤ 1000000000 := by have h1 := HKL.out; have h2 := HEN2.out; omega
    clear hb hsd hpr hik
    have hrz : r.length ≤ 300000 := by
     have h1 := parts_len HPR.out (fun n hn => showQ_len n)
     have h2 := totL_le2 L k
     have h3 := HLT.out
     have h4 := HTOT.out
     omega
    have hsz9 : s'.size ≤ 700000 := by
     have h1 : s'.size = PF.length + r.length := by rw [← List.length_append, ← HSD.out]; rfl
     have h2 := HPZ.out
     omega
    have R0 := N4.out
    obtain ⟨d0, d1, d2, df⟩ := R0
    by_cases hil : i < n
    ·have hiL : k < L.length := by have := HIK.out; rw [HLL.out]; omega
     have hit : i < t.ks.length := by have := HEN2.out; omega
     have hLk : L[k] = t.ks[i] := HLK.out k i hiL hit HIK.out
     obtain ⟨ad9, ⟨x1, x2, xX, xn, xm⟩, eA9, hSa9, y0, y1, y2, hk9⟩ := (HN.out.bel HS.out HB0.out).kid i hit
     dsimp only at eA9 y0 y1 y2
     obtain rfl : ad = ad9 := Option.some.inj eA9
     have hkb : (ad.add (i * 3)).block < wr.heap.size := by rw [add_block]; have := HB0.out.size; omega
     have HK9 := hid hk9
     have HT9 := hid (tot_kid t i hit)
     obtain ⟨K, hK⟩ : ∃ K, t.ks[i] = K := ⟨_, rfl⟩
     rw [hK] at hLk HK9 HT9
     have HIH := hid (show QShows K by rw [← hK]; exact HSHQ.out i hit)
     have HPA := hid (parts_at t.op L k hiL r HPR.out)
     rw [hLk] at HPA
     have HPT := hid (fun (w' : World) (hb : Below wr.heap.size wr w') => have hb0 : Below w.heap.size w w' := HB0.out.trans (hb.mono (by omega)); rpart_any t.op HOPS.out K (by have := HT9.out; have := HTOT.out; omega) HIH.out S op x1 x2 HEO.out xX xn xm w' (fun g hg => Nat.lt_of_lt_of_le (HS.out g hg) hb0.size) (HK9.out.bel (fun g hg => Nat.lt_of_lt_of_le (HS.out g hg) HB0.out.size) hb))
     have HPQ := hid (fun b (h : partQ t.op K (showQ K) = some b) => partQ_len h (showQ_len K))
     obtain ⟨pq, hpq⟩ : ∃ pq, partQ t.op K (showQ K) = pq := ⟨_, rfl⟩
     unfold PartP at HPT
     rw [hpq] at HPT HPA HPQ
     have Y0 := hid y0
     have Y1 := hid y1
     have Y2 := hid y2
     have FQ := hid (fun (w' : World) (hb : Below wr.heap.size wr w') => (show w'.cell? ⟨w.heap.size, 0, none⟩ = some (.string op) ∧ w'.cell? ⟨w.heap.size, 2, none⟩ = some (.slice (some ad) n m) ∧ w'.cell? (ad.add (i * 3)) = some (.string x1) ∧ w'.cell? ⟨(ad.add (i * 3)).block, (ad.add (i * 3)).off + 1, none⟩ = some (.string x2) ∧ w'.cell? ⟨(ad.add (i * 3)).block, (ad.add (i * 3)).off + 2, none⟩ = some (.slice xX xn xm) from
      ⟨(N4.out.below hb).c0, (N4.out.below hb).c2, (hb.cell hkb).trans Y0.out, (hb.cell (p := ⟨(ad.add (i * 3)).block, (ad.add (i * 3)).off + 1, none⟩) hkb).trans Y1.out, (hb.cell (p := ⟨(ad.add (i * 3)).block, (ad.add (i * 3)).off + 2, none⟩) hkb).trans Y2.out⟩))
     have ein : (i : Int) < (n : Int) := by omega
     clear hk9 hpq hK eA9 hLk
     go_wp2_with fail
     go_region_held3 (fun w' => (w'.cell? ⟨w.heap.size, 0, none⟩ = some (.string op) ∧ w'.cell? ⟨w.heap.size, 2, none⟩ = some (.slice (some ad) n m) ∧ w'.cell? (ad.add (i * 3)) = some (.string x1) ∧ w'.cell? ⟨(ad.add (i * 3)).block, (ad.add (i * 3)).off + 1, none⟩ = some (.string x2) ∧ w'.cell? ⟨(ad.add (i * 3)).block, (ad.add (i * 3)).off + 2, none⟩ = some (.slice xX xn xm)) ∧ Below wr.heap.size wr w')
      (first | assumption | (exact keepB hb9 (by assumption) (FQ.out _)) | (exact ⟨FQ.out _ (Below.refl _ _).drew, (Below.refl _ _).drew⟩))
      (first | (go_at_call 37; with_reducible refine (HPT.out _ ?cv).mono ?_; (case cv => exact (by assumption : _ ∧ Below wr.heap.size wr _).2); rintro e w9 ⟨sp, rfl, hsp, hb9⟩))
     have G9 := hid (show Below wr.heap.size wr w9 by rename_i hS; exact hS.2)
     have B9 := hid (HB0.out.trans (G9.out.mono (by omega)))
     have HSP := hid hsp
     clear hb9 hsp y0 y1 y2 d0 d1 d2 df
     cases pq with
     | none =>
      have hq : (⟨#[63]⟩ : ByteArray) = R := HRR.out _ (by
       rw [HR.out]
       unfold wholeQ
       rw [parts_cut t.op L (k + 1) HPA.out])
      have HQQ := hid hq
      clear hq
      go_wp2
      go_ret
      exact ⟨by rw [← HQQ.out]; simp, B9.out⟩
     | some b =>
      have hspd : sp.data.toList = b := HSP.out b rfl
      have hspz : sp.size ≤ 300000 := by
       have h1 : sp.size = b.length := by rw [← hspd]; rfl
       have h2 := HPQ.out b rfl
       have h3 := HT9.out
       have h4 := HTOT.out
       omega
      have sz : (⟨#[44, 32]⟩ : ByteArray).size = 2 := rfl
      obtain ⟨u1, hu1⟩ : ∃ u : ByteArray, s' ++ ⟨#[44, 32]⟩ = u := ⟨_, rfl⟩
      have hu1z : u1.size = s'.size + 2 := by rw [← hu1, ByteArray.size_append, sz]
      have v1 : ∀ w, (Op.stringOp .add s' ⟨#[44, 32]⟩).run Tryz.prog w = .ok (.string u1) w := fun w => by rw [← hu1]; exact run_string_add_sum w _ _ (by omega)
      obtain ⟨u2, hu2⟩ : ∃ u : ByteArray, u1 ++ sp = u := ⟨_, rfl⟩
      have v2 : ∀ w, (Op.stringOp .add u1 sp).run Tryz.prog w = .ok (.string u2) w := fun w => by rw [← hu2]; exact run_string_add_sum w _ _ (by omega)
      have HU := hid (show u2.data.toList = PF ++ (r ++ (44 :: 32 :: b)) by
       rw [← hu2, ← hu1, ByteArray.data_append, ByteArray.data_append, Array.toList_append, Array.toList_append, HSD.out, hspd]
       simp)
      clear hspd hspz sz hu1 hu1z hu2
      go_wp2
      go_roundw
      case rel => exact ⟨i + 1, k + 1, u2, r ++ (44 :: 32 :: b), by have := HIK.out; omega, by omega, by go_num, by first | rfl | simp, HU.out, HPA.out, HB.out.trans (G9.out.mono HB.out.size)⟩
      case measure => simp [intOf]; omega
    ·obtain rfl : i = n := by omega
     have hkL : L.take k = L := List.take_of_length_le (by have := HIK.out; rw [HLL.out]; omega)
     have hfin : showQ t = PF ++ r ++ ([41] : List UInt8) := by
      rw [HR.out]
      unfold wholeQ
      have h := HPR.out
      rw [hkL] at h
      rw [h]
     obtain ⟨u1, hu1⟩ : ∃ u : ByteArray, s' ++ ⟨#[41]⟩ = u := ⟨_, rfl⟩
     have v1 : ∀ w, (Op.stringOp .add s' ⟨#[41]⟩).run Tryz.prog w = .ok (.string u1) w := fun w => by rw [← hu1]; exact run_string_add_sum w _ _ (by show s'.size + 1 ≤ _; omega)
     have HU := hid (show u1 = R from HRR.out _ (by rw [← hu1, ByteArray.data_append, Array.toList_append, HSD.out, hfin]))
     clear hkL hfin hu1
     go_wp2
     go_ret
     exact ⟨by rw [← HU.out]; simp, HB0.out⟩
theorem qshow_all : ∀ (d : Nat) (t : Nod), t.deep ≤ d → t.tot ≤ 10000 → QShows t
 | 0, t, h, _ => absurd h (by rw [deep_ks]; omega)
 | d + 1, t, h, htot => by
  have ih : ∀ (i : Nat) (hi : i < t.ks.length), QShows t.ks[i] := fun i hi => qshow_all d t.ks[i] (by have := deepL_mem (List.getElem_mem hi); rw [deep_ks] at h; omega) (by have := tot_kid t i hi; omega)
  cases hf : isE t sFrom 0 with
  | true => exact qshow_from t hf
  | false =>
   cases he : enoughE t with
   | false => exact qshow_bad t hf he
   | true =>
    by_cases hj : t.op = sJoin
    ·exact qshow_join t htot hf he hj ih
    by_cases hg : t.op = sGroup
    ·exact qshow_group t htot hf he hg ih
    exact qshow_other t htot hf he hj hg ih
end Go.Proofs.YtjbpkpfmgbhlpaaGreatDoor.Code
