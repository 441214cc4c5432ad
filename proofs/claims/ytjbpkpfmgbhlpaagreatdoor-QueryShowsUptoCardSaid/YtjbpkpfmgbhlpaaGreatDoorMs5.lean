/-
  How long the text of a query's node is at most; the parts in its brackets, one more. No program is named here.
-/
import Derived.Test.YtjbpkpfmgbhlpaaGreatDoorMs4
import Derived.Deep.DeepCutAuto
set_option maxRecDepth 100000
set_option maxHeartbeats 16000000
open Go.Lib (hid)
namespace Go.Proofs.YtjbpkpfmgbhlpaaGreatDoor.Code
open Val
set_option linter.unusedVariables false
theorem tot_pos (t : Nod) : 1 ≤ t.tot := by cases t; simp only [Nod.tot]; omega
theorem tot_mk (o x : List UInt8) (ks : List Nod) : (Nod.mk o x ks).tot = 1 + o.length + x.length + Nod.totL ks := by rw [Nod.tot]
theorem kdE_le (al : Int) (p : List UInt8 × Int) : (kdE al p).length ≤ p.1.length + 2 := by
 unfold kdE
 split
 ·omega
 ·simp only [List.length_cons, List.length_append, List.length_nil]; omega
theorem dbl_len : ∀ s : List UInt8, (dbl s).length ≤ 2 * s.length
 | [] => Nat.le_refl _
 | c :: s => by
  have := dbl_len s
  unfold dbl
  split
  ·simp only [List.length_cons]; omega
  ·simp only [List.length_cons]; omega
theorem show4_len (s : ByteArray) : (showL 4 0 s).length ≤ 2 * s.size + 2 := by
 have hd := dbl_len s.data.toList
 have e : s.data.toList.length = s.size := rfl
 cases h : rightB 4 0 s with
 | false => rw [show_wrong h]; simp only [List.length_cons, List.length_nil]; omega
 | true => rw [show_4 h]; simp only [List.length_cons, List.length_append, List.length_nil]; omega
theorem showE_len : ∀ t : Nod, (showE t).length ≤ 20 * t.tot
 | .mk o x [] => by
  rw [tot_mk, Nod.totL]
  cases hr : rE o x 0 with
  | none => rw [showE_bad hr]; simp only [List.length_cons, List.length_nil]; omega
  | some r =>
   rw [showE_good (ks := []) hr, showEs]
   show (if o = sText then showL 4 0 ⟨x.toArray⟩ else if o = sNum ∨ o = sCol then x else o).length ≤ _
   split
   ·have := show4_len ⟨x.toArray⟩
    have e : (⟨x.toArray⟩ : ByteArray).size = x.length := rfl
    omega
   split <;> omega
 | .mk o x [a] => by
  have h1 := showE_len a
  have hp := tot_pos a
  rw [tot_mk, Nod.totL, Nod.totL]
  cases hr : rE o x 1 with
  | none => rw [showE_bad hr]; simp only [List.length_cons, List.length_nil]; omega
  | some r =>
   rw [showE_good (ks := [a]) hr, showEs, showEs]
   have hk := kdE_le (r.2.1.getD 0 0) (showE a, lvE a)
   dsimp only at hk
   show (if o = sNeg then 45 :: kdE (r.2.1.getD 0 0) (showE a, lvE a) else if o = sNot then [110, 111, 116, 32] ++ kdE (r.2.1.getD 0 0) (showE a, lvE a) else kdE (r.2.1.getD 0 0) (showE a, lvE a) ++ [32, 105, 115, 32, 110, 117, 108, 108]).length ≤ _
   split
   ·simp only [List.length_cons]; omega
   split <;> (simp only [List.length_append, List.length_cons, List.length_nil]; omega)
 | .mk o x (a :: b :: l) => by
  have h1 := showE_len a
  have h2 := showE_len b
  have hp := tot_pos a
  rw [tot_mk, Nod.totL, Nod.totL]
  cases hr : rE o x (a :: b :: l).length with
  | none => rw [showE_bad hr]; simp only [List.length_cons, List.length_nil]; omega
  | some r =>
   rw [showE_good (ks := a :: b :: l) hr, showEs, showEs]
   have hk := kdE_le (r.2.1.getD 0 0) (showE a, lvE a)
   have hk2 := kdE_le (r.2.1.getD 1 0) (showE b, lvE b)
   dsimp only at hk hk2
   show (kdE (r.2.1.getD 0 0) (showE a, lvE a) ++ (32 :: (o ++ [32])) ++ kdE (r.2.1.getD 1 0) (showE b, lvE b)).length ≤ _
   simp only [List.length_append, List.length_cons, List.length_nil]
   omega
termination_by t => SizeOf.sizeOf t
theorem nth_tot (l : List Nod) : (nthN l 0).tot ≤ Nod.totL l + 1 := by
 cases l with
 | nil => exact Nat.le_refl _
 | cons a l => show a.tot ≤ a.tot + Nod.totL l + 1; omega
theorem nod_parts (n : Nod) : n.tot = 1 + n.op.length + n.tx.length + Nod.totL n.ks := by cases n; rfl
theorem partQ_len {o : List UInt8} {n : Nod} {sh s : List UInt8} (h : partQ o n sh = some s) (hs : sh.length + 5 ≤ 30 * n.tot) : s.length + 5 ≤ 30 * n.tot := by
 have h0 := nod_parts n
 have h1 := showE_len n
 have hz := nod_parts (nthN n.ks 0)
 have hk := nth_tot n.ks
 have h2 := showE_len (nthN n.ks 0)
 have hp : isE n sItem 1 = true ∨ isE n sOn 1 = true ∨ isE n sAgg 1 = true → (nthN n.ks 0).tot ≤ Nod.totL n.ks ∧ 2 ≤ n.op.length := by
  intro h
  have hl : n.ks.length = 1 ∧ 2 ≤ n.op.length := by
   rcases h with h | h | h <;> (simp only [isE, Bool.and_eq_true, beq_iff_eq] at h; exact ⟨h.2, by rw [h.1]; decide⟩)
  refine ⟨?_, hl.2⟩
  obtain ⟨l, hl9⟩ : ∃ l, n.ks = l := ⟨_, rfl⟩
  rw [hl9] at hl ⊢
  cases l with
  | nil => exact absurd hl.1 (by simp)
  | cons a l => show a.tot ≤ a.tot + Nod.totL l; omega
 unfold partQ at h
 split at h
 ·cases h; omega
 split at h
 ·cases h; exact hs
 split at h
 ·split at h
  ·rename_i hc
   have := hp (.inl hc)
   cases h
   simp only [List.length_append, List.length_cons, List.length_nil]
   omega
  ·cases h
 split at h
 ·split at h
  ·rename_i hc
   have := hp (.inr (.inl (Bool.and_eq_true _ _ ▸ hc).1))
   cases h
   simp only [List.length_append, List.length_cons, List.length_nil]
   omega
  ·cases h
 split at h
 ·split at h
  ·rename_i hc
   simp only [Bool.and_eq_true] at hc
   have := hp (.inr (.inr hc.1.1))
   cases h
   simp only [List.length_append, List.length_cons, List.length_nil]
   omega
  ·cases h
 ·cases h
theorem parts_len {o : List UInt8} : ∀ {l : List Nod} {r : List UInt8}, partsQ o l (showsQ l) = some r → (∀ n ∈ l, (showQ n).length + 5 ≤ 30 * n.tot) → r.length ≤ 30 * Nod.totL l
 | [], r, h, _ => by rw [showsQ, partsQ] at h; cases h; exact Nat.zero_le _; simp
 | n :: l, r, h, hn => by
  rw [showsQ, partsQ] at h
  cases hp : partQ o n (showQ n) with
  | none => rw [hp] at h; cases h
  | some t =>
   rw [hp] at h
   dsimp only at h
   cases hq : partsQ o l (showsQ l) with
   | none => rw [hq] at h; cases h
   | some r' =>
    rw [hq] at h
    cases h
    have h1 := partQ_len hp (hn n (List.mem_cons_self ..))
    have h2 := parts_len hq (fun x hx => hn x (List.mem_cons_of_mem _ hx))
    rw [Nod.totL]
    simp only [List.length_cons, List.length_append]
    omega
theorem names_le : ∀ {l : List Nod} {s : List UInt8}, namesE l = some s → s.length ≤ Nod.totL l
 | [], s, h => by cases h; exact Nat.zero_le _
 | n :: l, s, h => by
  rw [namesE] at h
  split at h
  ·split at h
   ·rename_i s' hs
    cases h
    have := names_le hs
    have h2 := nod_parts n
    rw [Nod.totL]
    simp only [List.length_cons, List.length_append]
    omega
   ·cases h
  ·cases h
theorem by_len {n : Nod} {b : List UInt8} (h : byE n = some b) : b.length ≤ 2 + Nod.totL n.ks := by
 unfold byE at h
 split at h
 ·rename_i s hs
  split at h
  ·cases h
   have := names_le hs
   simp only [List.length_append]
   have e : sBy.length = 2 := rfl
   omega
  ·cases h
 ·cases h
theorem shows_drop : ∀ (l : List Nod) (k : Nat), (showsQ l).drop k = showsQ (l.drop k)
 | l, 0 => rfl
 | [], k + 1 => by simp [showsQ]
 | n :: l, k + 1 => by rw [showsQ, List.drop_succ_cons, List.drop_succ_cons]; exact shows_drop l k
theorem totL_drop : ∀ (l : List Nod) (k : Nat), Nod.totL (l.drop k) ≤ Nod.totL l
 | l, 0 => Nat.le_refl _
 | [], k + 1 => by simp
 | n :: l, k + 1 => by
  have := totL_drop l k
  rw [List.drop_succ_cons, Nod.totL]
  omega
theorem whole_len {o s : List UInt8} {l : List Nod} (hn : ∀ n ∈ l, (showQ n).length + 5 ≤ 30 * n.tot) : (wholeQ o s l (showsQ l)).length ≤ s.length + 30 * Nod.totL l + 1 := by
 unfold wholeQ
 split
 ·rename_i r hr
  have := parts_len hr hn
  simp only [List.length_append, List.length_cons, List.length_nil]
  omega
 ·simp only [List.length_cons, List.length_nil]; omega
theorem parts_app (o : List UInt8) (n : Nod) (sh : List UInt8) : ∀ (l : List Nod) (ss : List (List UInt8)), l.length = ss.length → partsQ o (l ++ [n]) (ss ++ [sh]) = match partsQ o l ss with | some r => (match partQ o n sh with | some t => some (r ++ (44 :: 32 :: t)) | none => none) | none => none
 | [], [], _ => by
  show (match partQ o n sh with | some t => (match partsQ o [] [] with | some r => some (44 :: 32 :: (t ++ r)) | none => none) | none => none) = _
  rw [show partsQ o [] [] = some [] by rw [partsQ]; simp]
  cases partQ o n sh <;> simp
 | m :: l, s :: ss, h => by
  have ih := parts_app o n sh l ss (by simpa using h)
  rw [List.cons_append, List.cons_append, partsQ, partsQ, ih]
  cases partQ o m s with
  | none => rfl
  | some t =>
   dsimp only
   cases partsQ o l ss with
   | none => rfl
   | some r =>
    dsimp only
    cases partQ o n sh with
    | none => rfl
    | some t' => simp
 | [], _ :: _, h => absurd h (by simp)
 | _ :: _, [], h => absurd h (by simp)
theorem parts_none (o : List UInt8) : ∀ (l l' : List Nod) (ss ss' : List (List UInt8)), l.length = ss.length → partsQ o l ss = none → partsQ o (l ++ l') (ss ++ ss') = none
 | [], l', [], ss', _, h => by rw [partsQ] at h; cases h; simp
 | m :: l, l', s :: ss, ss', hl, h => by
  rw [List.cons_append, List.cons_append, partsQ]
  rw [partsQ] at h
  cases hp : partQ o m s with
  | none => rfl
  | some t =>
   rw [hp] at h
   dsimp only at h ⊢
   cases hq : partsQ o l ss with
   | none => rw [parts_none o l l' ss ss' (by simpa using hl) hq]
   | some r => rw [hq] at h; cases h
 | [], _, _ :: _, _, h, _ => absurd h (by simp)
 | _ :: _, _, [], _, h, _ => absurd h (by simp)
theorem shows_zero (l : List Nod) (h : 0 < l.length) : (showsQ l).getD 0 [] = showQ (nthN l 0) := by
 cases l with
 | nil => exact absurd h (by simp)
 | cons a l => rw [showsQ]; rfl
theorem shows_one (l : List Nod) (h : 1 < l.length) : (showsQ l).getD 1 [] = showQ (nthN l 1) := by
 match l, h with
 | a :: b :: l, _ => rw [showsQ, showsQ]; rfl
theorem enough_pos {n : Nod} (h : enoughE n = true) : 1 ≤ n.ks.length ∧ (n.op = sJoin ∨ n.op = sGroup → 3 ≤ n.ks.length) := by
 unfold enoughE at h
 simp only [Bool.and_eq_true] at h
 obtain ⟨_, h⟩ := h
 split at h
 ·rename_i e
  have := of_decide_eq_true h
  exact ⟨by simp at h; omega, fun hc => by rw [e] at hc; exact absurd hc (by decide)⟩
 split at h
 ·rename_i e
  exact ⟨by simp at h; omega, fun hc => by rw [e] at hc; exact absurd hc (by decide)⟩
 split at h
 ·rename_i e
  have := of_decide_eq_true h
  exact ⟨by omega, fun hc => by rcases e with e | e <;> (rw [e] at hc; exact absurd hc (by decide))⟩
 split at h
 ·have := of_decide_eq_true h
  exact ⟨by omega, fun _ => this⟩
 ·cases h
theorem nth_get (l : List Nod) (k : Nat) (h : k < l.length) : nthN l k = l[k] := by
 unfold nthN
 rw [List.getD_eq_getElem?_getD, List.getElem?_eq_getElem h]
 rfl
theorem totL_two (l : List Nod) (h : 2 ≤ l.length) : (nthN l 0).tot + (nthN l 1).tot + Nod.totL (l.drop 2) = Nod.totL l := by
 match l, h with
 | a :: b :: l, _ =>
  show a.tot + b.tot + Nod.totL l = a.tot + (b.tot + Nod.totL l)
  omega
theorem totL_one (l : List Nod) (h : 1 ≤ l.length) : (nthN l 0).tot + Nod.totL (l.drop 1) = Nod.totL l := by
 match l, h with
 | a :: l, _ => rfl
theorem showQ_len : ∀ t : Nod, (showQ t).length + 5 ≤ 30 * t.tot
 | .mk o x ks => by
  have ih : ∀ n ∈ ks, (showQ n).length + 5 ≤ 30 * n.tot := fun n hn => showQ_len n
  have hd : ∀ k, ∀ n ∈ ks.drop k, (showQ n).length + 5 ≤ 30 * n.tot := fun k n hn => ih n (List.mem_of_mem_drop hn)
  rw [showQ, tot_mk]
  unfold showQ1
  split
  ·show x.length + 5 ≤ _
   omega
  split
  ·simp only [List.length_cons, List.length_nil]; omega
  rename_i hen
  have hen2 : enoughE (.mk o x ks) = true := by simpa using hen
  have hp := enough_pos hen2
  have h0 : 0 < ks.length := hp.1
  have i0 := ih (nthN ks 0) (by rw [nth_get ks 0 h0]; exact List.getElem_mem h0)
  have s0 := shows_zero ks h0
  split
  ·rename_i hj
   have h3 : 3 ≤ ks.length := hp.2 (.inl hj)
   have i1 := ih (nthN ks 1) (by rw [nth_get ks 1 (by omega)]; exact List.getElem_mem (by omega))
   have s1 := shows_one ks (by omega)
   have ht := totL_two ks (by omega)
   have hw := whole_len (o := o) (s := o ++ [40] ++ (showsQ ks).getD 0 [] ++ [44, 32] ++ (showsQ ks).getD 1 []) (hd 2)
   rw [← shows_drop, s0, s1] at hw
   show (wholeQ o (o ++ [40] ++ (showsQ ks).getD 0 [] ++ [44, 32] ++ (showsQ ks).getD 1 []) (ks.drop 2) ((showsQ ks).drop 2)).length + 5 ≤ _
   rw [s0, s1]
   simp only [List.length_append, List.length_cons, List.length_nil] at hw
   omega
  split
  ·rename_i hj
   have h3 : 3 ≤ ks.length := hp.2 (.inr hj)
   have ht := totL_two ks (by omega)
   show (match byE (nthN ks 1) with | some b => wholeQ o (o ++ [40] ++ (showsQ ks).getD 0 [] ++ (if 0 < (nthN ks 1).ks.length then [44, 32] ++ b else [])) (ks.drop 2) ((showsQ ks).drop 2) | none => [63]).length + 5 ≤ _
   split
   ·rename_i b hb
    have hbl := by_len hb
    have hb2 := nod_parts (nthN ks 1)
    obtain ⟨q, hq⟩ : ∃ q, (if 0 < (nthN ks 1).ks.length then [44, 32] ++ b else []) = q := ⟨_, rfl⟩
    have hql : q.length ≤ b.length + 2 := by
     rw [← hq]
     split
     ·simp only [List.length_append, List.length_cons, List.length_nil]; omega
     ·simp
    have hw := whole_len (o := o) (s := o ++ [40] ++ (showsQ ks).getD 0 [] ++ q) (hd 2)
    rw [← shows_drop, s0] at hw
    rw [hq, s0]
    simp only [List.length_append, List.length_cons, List.length_nil] at hw
    omega
   ·simp only [List.length_cons, List.length_nil]; omega
  ·have ht := totL_one ks h0
   have hw := whole_len (o := o) (s := o ++ [40] ++ (showsQ ks).getD 0 []) (hd 1)
   rw [← shows_drop, s0] at hw
   show (wholeQ o (o ++ [40] ++ (showsQ ks).getD 0 []) (ks.drop 1) ((showsQ ks).drop 1)).length + 5 ≤ _
   rw [s0]
   simp only [List.length_append, List.length_cons, List.length_nil] at hw
   omega
termination_by t => SizeOf.sizeOf t
decreasing_by
 have := List.sizeOf_lt_of_mem hn
 simp only [Nod.mk.sizeOf_spec]
 omega
def lvD (t : Nod) : Int := match rE t.op t.tx t.ks.length with | some r => r.1 + 1 | none => 0
def lvL (op tx : List UInt8) (n : Nat) : Int :=
 if (n = 2 ∧ tx = []) ∧ op ∈ opsL 1 then 1
 else if (n = 2 ∧ tx = []) ∧ op ∈ opsL 2 then 2
 else if (n = 2 ∧ tx = []) ∧ op ∈ opsL 4 then 4
 else if (n = 2 ∧ tx = []) ∧ op ∈ opsL 5 then 5
 else if (n = 2 ∧ tx = []) ∧ op ∈ opsL 6 then 6
 else if op = sNot ∧ (n = 1 ∧ tx = []) then 3
 else if op = sIsNull ∧ (n = 1 ∧ tx = []) then 4
 else if op = sNeg ∧ (n = 1 ∧ tx = []) then 7
 else if n = 0 ∧ (op = sNum ∨ op = sText ∨ op = sCol ∨ (tx = [] ∧ (op = sTrue ∨ op = sFalse ∨ op = sNull))) then 8
 else 0
theorem lvD_is (t : Nod) : lvD t = lvL t.op t.tx t.ks.length := by
 unfold lvD lvL
 obtain ⟨o, ho⟩ : ∃ o, t.op = o := ⟨_, rfl⟩
 obtain ⟨x, hx⟩ : ∃ x, t.tx = x := ⟨_, rfl⟩
 obtain ⟨n, hn⟩ : ∃ n, t.ks.length = n := ⟨_, rfl⟩
 rw [ho, hx, hn]
 clear ho hx hn
 unfold rE
 cases hr : ruleE o with
 | some r =>
  have hm := look_mem hr
  clear hr
  unfold tblE at hm
  simp only [List.mem_cons, Prod.mk.injEq, List.not_mem_nil, or_false] at hm
  have hc : n = 0 ∨ n = 1 ∨ n = 2 ∨ (n ≠ 0 ∧ n ≠ 1 ∧ n ≠ 2) := by omega
  rcases hm with ⟨rfl, rfl⟩ | ⟨rfl, rfl⟩ | ⟨rfl, rfl⟩ | ⟨rfl, rfl⟩ | ⟨rfl, rfl⟩ | ⟨rfl, rfl⟩ | ⟨rfl, rfl⟩ | ⟨rfl, rfl⟩ | ⟨rfl, rfl⟩ | ⟨rfl, rfl⟩ | ⟨rfl, rfl⟩ | ⟨rfl, rfl⟩ | ⟨rfl, rfl⟩ | ⟨rfl, rfl⟩ | ⟨rfl, rfl⟩ | ⟨rfl, rfl⟩ | ⟨rfl, rfl⟩ | ⟨rfl, rfl⟩ | ⟨rfl, rfl⟩ | ⟨rfl, rfl⟩
  all_goals
   rcases hc with rfl | rfl | rfl | ⟨h0, h1, h2⟩
   ·by_cases hx : x = [] <;> simp [hx, sNot, sIsNull, sNeg, sOr, sAnd, sNum, sText, sCol, sTrue, sFalse, sNull]
   ·by_cases hx : x = [] <;> simp [hx, sNot, sIsNull, sNeg, sOr, sAnd, sNum, sText, sCol, sTrue, sFalse, sNull]
   ·by_cases hx : x = []
    ·subst hx; decide
    ·simp [hx]
   ·simp [h0, h1, h2]
 | none =>
  have hm := look_none hr
  clear hr
  unfold tblE at hm
  simp only [List.mem_cons, List.not_mem_nil, or_false, forall_eq_or_imp, forall_eq] at hm
  obtain ⟨m0, m1, m2, m3, m4, m5, m6, m7, m8, m9, m10, m11, m12, m13, m14, m15, m16, m17, m18, m19⟩ := hm
  simp only [m2, m9, m13, m14, m15, m16, m17, m18, m19, false_and, or_false, and_false, if_false]
  have a1 : o ∉ opsL 1 := by simp [opsL, m0]
  have a2 : o ∉ opsL 2 := by simp [opsL, m1]
  have a4 : o ∉ opsL 4 := by simp [opsL, m3, m4, m5, m6, m7, m8]
  have a5 : o ∉ opsL 5 := by simp [opsL, m10, m11]
  have a6 : o ∉ opsL 6 := by simp [opsL, m12]
  simp only [a1, a2, a4, a5, a6, and_false, if_false]
end Go.Proofs.YtjbpkpfmgbhlpaaGreatDoor.Code
/-
  Contract of the document's level, of any node.
-/
namespace Go.Proofs.YtjbpkpfmgbhlpaaGreatDoor.Code
open Go.ChangeShapes Go.WideShapes Go.ChangeAt Go.RowKit Val Elems
set_option linter.unusedVariables false
set_option linter.unusedSimpArgs false
theorem lv_two {op tx : List UInt8} {n k : Nat} (h : n = 2 ∧ tx = []) (h1 : 1 ≤ k) (h6 : k ≤ 6) (ho : op ∈ opsL k) : lvL op tx n = (k : Int) := by
 have hc : k = 1 ∨ k = 2 ∨ k = 3 ∨ k = 4 ∨ k = 5 ∨ k = 6 := by omega
 obtain ⟨rfl, rfl⟩ := h
 rcases hc with rfl | rfl | rfl | rfl | rfl | rfl
 all_goals
  simp [opsL] at ho
  try rcases ho with rfl | rfl | rfl | rfl | rfl | rfl
 all_goals (try rcases ho with rfl | rfl)
 all_goals first | decide | (subst ho; decide)
theorem op_no {op : ByteArray} {s : List UInt8} (h : op.data.toList ≠ s) : (op.toList == s) = false := by
 rw [ByteArray.toList_eq]
 simpa using h
theorem rlevel_any (t : Nod) (S : Nat → Prop) (op tx : ByteArray) (X : Option Addr) (n m : Nat) (w : World) (hn : RIn w S t (op, tx, X, n, m)) :
  Calls Tryz.prog 113 #[.agg #[.string op, .string tx, .slice X n m]] w fun e w' => e = .returned (.int .i64 (lvD t)) ∧ Below w.heap.size w w' := by
 obtain ⟨eo, et, en, hkl⟩ := hn.texts
 dsimp only at eo et en
 have eo' : op.data.toList = t.op := by rw [eo]
 have et' : tx.data.toList = t.tx := by rw [et]
 obtain ⟨V, hV⟩ : ∃ V, lvD t = V := ⟨_, rfl⟩
 rw [hV]
 rw [lvD_is, ← eo', ← et', ← en] at hV
 have HV := hid hV
 have HOPS := hid (fun (lv : Nat) (hl : lv ≤ 7) (w : World) => rops_any lv hl w)
 obtain ⟨tw, htw⟩ : ∃ tw : Bool, decide (n = 2 ∧ tx.data.toList = []) = tw := ⟨_, rfl⟩
 obtain ⟨on, hon⟩ : ∃ on : Bool, decide (n = 1 ∧ tx.data.toList = []) = on := ⟨_, rfl⟩
 obtain ⟨no, hno⟩ : ∃ no : Bool, decide (n = 0) = no := ⟨_, rfl⟩
 have HTW := hid htw
 have HON := hid hon
 have HNO := hid hno
 have htxe : tx.toList = tx.data.toList := ByteArray.toList_eq tx
 clear hn eo et en eo' et' hV htw hon hno
 go_enter Tryz.func113, Tryz.ntmps113
 obtain ⟨w0, hw0⟩ : ∃ w0, w.alloc (.cells #[.string op, .string tx, .slice X n m] 25) = w0 := ⟨_, rfl⟩
 have B0 := hid (show Below w.heap.size w w0 by rw [← hw0]; exact below_alloc w _)
 have N0 := hid (show NBox w0 w.heap.size (.string op) (.string tx) (.slice X n m) by rw [← hw0]; exact NBox.fresh _ _ _ _ _)
 have HW0 := hid hw0
 have hz0 : w.heap.size < w0.heap.size := by rw [← hw0]; simp
 clear hw0
 go_upto_region 1 with fail
 rw [HW0.out]
 go_cut [3] (fun s9 wx => s9 = .bool tw ∧ wx = w0)
 case first =>
  obtain ⟨c0, c1, c2, cf⟩ := N0.out
  by_cases h2 : n = 2
  ·subst h2
   by_cases hx : tx.data.toList = []
   ·have x1 : tx.data.isEmpty = true := by simpa [Array.isEmpty] using congrArg List.length hx
    have hr : tw = true := by rw [← HTW.out]; simp [hx]
    clear hx
    go_wp2_with fail
    go_meet
    exact ⟨by rw [hr], rfl⟩
   ·have x1 : tx.data.isEmpty = false := by
     cases e : tx.data.isEmpty with
     | false => rfl
     | true => exact absurd (by rw [Array.isEmpty_iff.1 e]) hx
    have hr : tw = false := by rw [← HTW.out]; simp [hx]
    clear hx
    go_wp2_with fail
    go_meet
    exact ⟨by rw [hr], rfl⟩
  ·have e1 : ((n : Int) == 2) = false := by simp; omega
   have e2 : decide (n = 2) = false := by simp; omega
   have hr : tw = false := by rw [← HTW.out]; simp [h2]
   clear h2
   go_wp2_with fail
   go_meet
   exact ⟨by rw [hr], rfl⟩
 obtain ⟨rfl, e9⟩ := hcut
 rw [e9]
 clear e9
 go_upto_region 2 with fail
 go_cut [4] (fun s9 wx => s9 = .bool on ∧ wx = w0)
 case first =>
  obtain ⟨c0, c1, c2, cf⟩ := N0.out
  by_cases h2 : n = 1
  ·subst h2
   by_cases hx : tx.data.toList = []
   ·have x1 : tx.data.isEmpty = true := by simpa [Array.isEmpty] using congrArg List.length hx
    have hr : on = true := by rw [← HON.out]; simp [hx]
    clear hx
    go_wp2_with fail
    go_meet
    exact ⟨by rw [hr], rfl⟩
   ·have x1 : tx.data.isEmpty = false := by
     cases e : tx.data.isEmpty with
     | false => rfl
     | true => exact absurd (by rw [Array.isEmpty_iff.1 e]) hx
    have hr : on = false := by rw [← HON.out]; simp [hx]
    clear hx
    go_wp2_with fail
    go_meet
    exact ⟨by rw [hr], rfl⟩
  ·have e1 : ((n : Int) == 1) = false := by simp; omega
   have e2 : decide (n = 1) = false := by simp; omega
   have hr : on = false := by rw [← HON.out]; simp [h2]
   clear h2
   go_wp2_with fail
   go_meet
   exact ⟨by rw [hr], rfl⟩
 obtain ⟨rfl, e9⟩ := hcut
 rw [e9]
 clear e9
 go_upto_region 3 with fail
 go_cut [5] (fun s9 wx => s9 = .bool no ∧ wx = w0)
 case first =>
  obtain ⟨c0, c1, c2, cf⟩ := N0.out
  by_cases h2 : n = 0
  ·subst h2
   have hr : no = true := by rw [← HNO.out]; rfl
   go_wp2_with fail
   go_meet
   exact ⟨by rw [hr], rfl⟩
  ·have e1 : ((n : Int) == 0) = false := by simp; omega
   have e2 : decide (n = 0) = false := by simp; omega
   have hr : no = false := by rw [← HNO.out]; simp [h2]
   clear h2
   go_wp2_with fail
   go_meet
   exact ⟨by rw [hr], rfl⟩
 obtain ⟨rfl, e9⟩ := hcut
 rw [e9]
 clear e9
 go_wp2_with fail
 go_loopw [6] (fun v wr => ∃ k : Nat, 1 ≤ k ∧ k ≤ 7 ∧ v = .int .i64 (k : Int) ∧ Below w0.heap.size w0 wr ∧ (∀ j, 1 ≤ j → j < k → tw = true → op.data.toList ∉ opsL j)) (fun v _ => 7 - (intOf v).toNat)
 case atStart => exact ⟨1, by omega, by omega, rfl, Below.refl _ _, fun j h1 h2 => by omega⟩
 case round =>
  obtain ⟨k, hk1, hk7, rfl, hb, hq⟩ := hrel
  have HB := hid hb
  have HQ := hid hq
  have N1 := hid (N0.out.below hb)
  have z1 := hb.size
  clear hb hq
  by_cases hk : k ≤ 6
  case pos =>
   go_wp2_with fail
   refine (HOPS.out k (by omega) wr).mono ?_
   rintro e w1 ⟨A, cap, rfl, hat, hnew, hb1⟩
   have HB1 := hid (HB.out.trans (hb1.mono z1))
   have N2 := hid (N1.out.below hb1)
   have AT := hid hat
   obtain ⟨L, hL⟩ : ∃ L, opsL k = L := ⟨_, rfl⟩
   rw [hL] at AT
   have HLK := hid hL
   obtain ⟨NL, hNL⟩ : ∃ NL, L.length = NL := ⟨_, rfl⟩
   have HNL := hid hNL
   have hlb : NL ≤ 10 := by
    rw [← hNL, ← hL]
    have hc : k = 1 ∨ k = 2 ∨ k = 3 ∨ k = 4 ∨ k = 5 ∨ k = 6 := by omega
    rcases hc with rfl | rfl | rfl | rfl | rfl | rfl <;> decide
   rw [hL, hNL]
   clear hat hnew hb1 hL hNL
   go_wp2_with fail
   go_loopw [8] (fun v wr2 => ∃ i : Nat, i ≤ NL ∧ v = .int .i64 (i : Int) ∧ Below w1.heap.size w1 wr2 ∧ (∀ (j : Nat) (hj : j < L.length), j < i → tw = true → L[j] ≠ op.data.toList)) (fun v _ => NL - (intOf v).toNat)
   case atStart => exact ⟨0, by omega, rfl, Below.refl _ _, fun j hj h => absurd h (Nat.not_lt_zero _)⟩
   case round =>
    obtain ⟨i, hi, rfl, hb2, hq2⟩ := hrel
    rename World => w2
    have HB2 := hid (HB1.out.trans (hb2.mono (by have := HB1.out.size; omega)))
    have HI2 := hid hb2
    have HQ2 := hid hq2
    have N3 := hid (N2.out.below hb2)
    have AT2 := hid (AT.out.below hb2)
    clear hb2 hq2
    by_cases hil : i < NL
    ·have hiL : i < L.length := by rw [HNL.out]; exact hil
     obtain ⟨ad, rfl, hab, c0⟩ := at_text AT2.out i hiL
     obtain ⟨n0, n1, n2, nf⟩ := N3.out
     have e1 : (i : Int) < (NL : Int) := by omega
     by_cases hs : L[i] = op.data.toList
     ·rw [hs, Lib.mk_data] at c0
      cases htwc : tw with
      | true =>
       have hV : V = (k : Int) := by
        rw [← HV.out]
        refine lv_two (of_decide_eq_true (by rw [HTW.out]; exact htwc)) hk1 hk ?_
        rw [HLK.out, ← hs]
        exact List.getElem_mem hiL
       subst htwc
       go_wp2
       go_quiet (fail)
       go_wp2
       go_ret
       exact ⟨by rw [hV]; simp, drewN_below (B0.out.trans (HB2.out.mono (by omega))) _⟩
      | false =>
       subst htwc
       go_wp2
       go_quiet (fail)
       go_wp2
       go_roundw
       case rel => exact ⟨i + 1, by omega, by go_num, drewN_below HI2.out _, fun j hj hji h => by cases h⟩
       case measure => simp [intOf]; omega
     ·obtain ⟨T, hT⟩ : ∃ T : ByteArray, ⟨L[i].toArray⟩ = T := ⟨_, rfl⟩
      rw [hT] at c0
      have x1 : (T.toList == op.toList) = false := by
       rw [ByteArray.toList_eq, ByteArray.toList_eq, ← hT]
       simpa using hs
      clear hT
      go_wp2
      refine wp_region_quiet_lit (by kernel_rfl) (by kernel_rfl) ?_
      repeat (with_reducible refine wpQuiet_step ?_; intro K hK; go_simp; with_reducible refine hK _ ?_; clear hK K)
      refine wpQuiet_nil ?_
      intro _ hw'
      obtain ⟨nq, hw''⟩ := hw'
      subst hw''
      go_wp2
      go_roundw
      case rel => exact ⟨i + 1, by omega, by go_num, drewN_below HI2.out _, fun j hj hji h => by
       by_cases hjk : j < i
       ·exact HQ2.out j hj hjk h
       ·obtain rfl : j = i := by omega
        exact hs⟩
      case measure => simp [intOf]; omega
    ·obtain rfl : i = NL := by omega
     go_wp2
     go_roundw
     case rel => exact ⟨k + 1, by omega, by omega, by go_num, HB2.out, fun j h1 h2 h3 => by
      by_cases hjk : j < k
      ·exact HQ.out j h1 hjk h3
      ·obtain rfl : j = k := by omega
       rw [HLK.out]
       intro hm
       obtain ⟨q, hql, hqe⟩ := List.getElem_of_mem hm
       exact HQ2.out q hql (by rw [← HNL.out]; exact hql) h3 hqe⟩
     case measure => simp [intOf]; omega
  case neg =>
   obtain rfl : k = 7 := by omega
   have hno2 : ∀ j, 1 ≤ j → j ≤ 6 → ¬ ((n = 2 ∧ tx.data.toList = []) ∧ op.data.toList ∈ opsL j) := fun j h1 h6 h => HQ.out j h1 (by omega) (by rw [← HTW.out]; exact decide_eq_true h.1) h.2
   have hv := HV.out
   unfold lvL at hv
   rw [if_neg (hno2 1 (by omega) (by omega)), if_neg (hno2 2 (by omega) (by omega)), if_neg (hno2 4 (by omega) (by omega)), if_neg (hno2 5 (by omega) (by omega)), if_neg (hno2 6 (by omega) (by omega))] at hv
   have HV2 := hid hv
   clear hno2 hv HV HQ HOPS
   obtain ⟨n0, n1, n2, nf⟩ := N1.out
   have hon : (n = 1 ∧ tx.data.toList = []) ↔ on = true := by rw [← HON.out]; simp
   have hno : n = 0 ↔ no = true := by rw [← HNO.out]; simp
   have HV3 := hid (show (if op.data.toList = sNot ∧ on = true then (3 : Int) else if op.data.toList = sIsNull ∧ on = true then 4 else if op.data.toList = sNeg ∧ on = true then 7 else if no = true ∧ (op.data.toList = sNum ∨ op.data.toList = sText ∨ op.data.toList = sCol ∨ (tx.data.toList = [] ∧ (op.data.toList = sTrue ∨ op.data.toList = sFalse ∨ op.data.toList = sNull))) then 8 else 0) = V by
    have h := HV2.out
    simp only [hon, hno] at h
    exact h)
   clear HV2 hon hno
   obtain ⟨xe, hxe⟩ : ∃ xe : Bool, tx.data.isEmpty = xe := ⟨_, rfl⟩
   have htn : tx.data.toList = [] ↔ xe = true := by
    rw [← hxe]
    constructor
    ·intro h; simpa [Array.isEmpty] using congrArg List.length h
    ·intro h; rw [Array.isEmpty_iff.1 h]
   have HTN := hid htn
   clear htn
   have HV4 := hid (show (if op.data.toList = sNot ∧ on = true then (3 : Int) else if op.data.toList = sIsNull ∧ on = true then 4 else if op.data.toList = sNeg ∧ on = true then 7 else if no = true ∧ (op.data.toList = sNum ∨ op.data.toList = sText ∨ op.data.toList = sCol ∨ (xe = true ∧ (op.data.toList = sTrue ∨ op.data.toList = sFalse ∨ op.data.toList = sNull))) then 8 else 0) = V by
    have h := HV3.out
    simp only [HTN.out] at h
    exact h)
   have BB := hid (B0.out.trans (HB.out.mono (by omega)))
   clear HV3 HTN HTW HON HNO
   have one : ∀ {s : List UInt8} (o : ByteArray), o.data.toList = s → op.data.toList = s → op = o := fun o h1 h2 => by rw [← Lib.mk_data op, ← Lib.mk_data o, h1, h2]
   by_cases p : op.data.toList = sNot
   case pos =>
    obtain rfl := one ⟨#[110, 111, 116]⟩ rfl p
    clear p one
    cases on <;> cases no <;> cases xe
    all_goals (go_wp2; go_ret; exact ⟨by rw [← HV4.out]; simp [sNot, sIsNull, sNeg, sNum, sText, sCol, sTrue, sFalse, sNull], BB.out⟩)
   have x_sNot : (op.toList == [110, 111, 116]) = false := op_no p
   have p_sNot := hid p
   clear p
   by_cases p : op.data.toList = sIsNull
   case pos =>
    obtain rfl := one ⟨#[105, 115, 32, 110, 117, 108, 108]⟩ rfl p
    clear p one
    cases on <;> cases no <;> cases xe
    all_goals (go_wp2; go_ret; exact ⟨by rw [← HV4.out]; simp [sNot, sIsNull, sNeg, sNum, sText, sCol, sTrue, sFalse, sNull], BB.out⟩)
   have x_sIsNull : (op.toList == [105, 115, 32, 110, 117, 108, 108]) = false := op_no p
   have p_sIsNull := hid p
   clear p
   by_cases p : op.data.toList = sNeg
   case pos =>
    obtain rfl := one ⟨#[110, 101, 103]⟩ rfl p
    clear p one
    cases on <;> cases no <;> cases xe
    all_goals (go_wp2; go_ret; exact ⟨by rw [← HV4.out]; simp [sNot, sIsNull, sNeg, sNum, sText, sCol, sTrue, sFalse, sNull], BB.out⟩)
   have x_sNeg : (op.toList == [110, 101, 103]) = false := op_no p
   have p_sNeg := hid p
   clear p
   by_cases p : op.data.toList = sNum
   case pos =>
    obtain rfl := one ⟨#[110, 117, 109]⟩ rfl p
    clear p one
    cases no
    all_goals (go_wp2; go_ret; exact ⟨by rw [← HV4.out]; simp [sNot, sIsNull, sNeg, sNum, sText, sCol, sTrue, sFalse, sNull], BB.out⟩)
   have x_sNum : (op.toList == [110, 117, 109]) = false := op_no p
   have p_sNum := hid p
   clear p
   by_cases p : op.data.toList = sText
   case pos =>
    obtain rfl := one ⟨#[116, 101, 120, 116]⟩ rfl p
    clear p one
    cases no
    all_goals (go_wp2; go_ret; exact ⟨by rw [← HV4.out]; simp [sNot, sIsNull, sNeg, sNum, sText, sCol, sTrue, sFalse, sNull], BB.out⟩)
   have x_sText : (op.toList == [116, 101, 120, 116]) = false := op_no p
   have p_sText := hid p
   clear p
   by_cases p : op.data.toList = sCol
   case pos =>
    obtain rfl := one ⟨#[99, 111, 108]⟩ rfl p
    clear p one
    cases no
    all_goals (go_wp2; go_ret; exact ⟨by rw [← HV4.out]; simp [sNot, sIsNull, sNeg, sNum, sText, sCol, sTrue, sFalse, sNull], BB.out⟩)
   have x_sCol : (op.toList == [99, 111, 108]) = false := op_no p
   have p_sCol := hid p
   clear p
   by_cases p : op.data.toList = sTrue
   case pos =>
    obtain rfl := one ⟨#[116, 114, 117, 101]⟩ rfl p
    clear p one
    cases no <;> cases xe
    all_goals (go_wp2; go_ret; exact ⟨by rw [← HV4.out]; simp [sNot, sIsNull, sNeg, sNum, sText, sCol, sTrue, sFalse, sNull], BB.out⟩)
   have x_sTrue : (op.toList == [116, 114, 117, 101]) = false := op_no p
   have p_sTrue := hid p
   clear p
   by_cases p : op.data.toList = sFalse
   case pos =>
    obtain rfl := one ⟨#[102, 97, 108, 115, 101]⟩ rfl p
    clear p one
    cases no <;> cases xe
    all_goals (go_wp2; go_ret; exact ⟨by rw [← HV4.out]; simp [sNot, sIsNull, sNeg, sNum, sText, sCol, sTrue, sFalse, sNull], BB.out⟩)
   have x_sFalse : (op.toList == [102, 97, 108, 115, 101]) = false := op_no p
   have p_sFalse := hid p
   clear p
   by_cases p : op.data.toList = sNull
   case pos =>
    obtain rfl := one ⟨#[110, 117, 108, 108]⟩ rfl p
    clear p one
    cases no <;> cases xe
    all_goals (go_wp2; go_ret; exact ⟨by rw [← HV4.out]; simp [sNot, sIsNull, sNeg, sNum, sText, sCol, sTrue, sFalse, sNull], BB.out⟩)
   have x_sNull : (op.toList == [110, 117, 108, 108]) = false := op_no p
   have p_sNull := hid p
   clear p
   clear one
   cases no <;> cases xe
   all_goals (go_wp2; go_ret; exact ⟨by rw [← HV4.out]; simp [p_sNot.out, p_sIsNull.out, p_sNeg.out, p_sNum.out, p_sText.out, p_sCol.out, p_sTrue.out, p_sFalse.out, p_sNull.out], BB.out⟩)
theorem rule_pos {op : List UInt8} {r : RuleR} (h : ruleE op = some r) : 0 ≤ r.1 := by
 have hall : ∀ p ∈ tblE, 0 ≤ p.2.1 := by decide
 exact hall _ (look_mem h)
theorem kd_is (k : Nod) (s : List UInt8) (least : Int) (h8 : least ≤ 8) : kdE (least - 1) (s, lvE k) = if 0 < lvD k ∧ lvD k < least then 40 :: (s ++ [41]) else s := by
 unfold kdE lvE lvD
 cases hr : rE k.op k.tx k.ks.length with
 | none =>
  dsimp only
  rw [if_pos (by omega), if_neg (by omega)]
 | some r =>
  have h0 := rule_pos (rE_some hr).1
  dsimp only
  by_cases hc : least - 1 ≤ r.1
  ·rw [if_pos hc, if_neg (by omega)]
  ·rw [if_neg hc, if_pos (by omega)]
def RShows (t : Nod) : Prop := ∀ (S : Nat → Prop) (op tx : ByteArray) (X : Option Addr) (n k : Nat) (w : World), (∀ g, S g → g < w.heap.size) → RIn w S t (op, tx, X, n, k) →
 Calls Tryz.prog 68 #[.agg #[.string op, .string tx, .slice X n k]] w fun e w' => e = .returned (.string ⟨(showE t).toArray⟩) ∧ Below w.heap.size w w'
theorem rat_any (t : Nod) (i : Nat) (hi : i < t.ks.length) (least : Nat) (hl8 : least ≤ 8) (hI : RShows t.ks[i]) (hlen : (showE t.ks[i]).length ≤ 900000) (S : Nat → Prop) (op tx : ByteArray) (X : Option Addr) (n m : Nat) (w : World) (hS : ∀ g, S g → g < w.heap.size) (hn : RIn w S t (op, tx, X, n, m)) :
  Calls Tryz.prog 114 #[.agg #[.string op, .string tx, .slice X n m], .int .i64 (i : Int), .int .i64 (least : Int)] w fun e w' => e = .returned (.string ⟨(kdE ((least : Int) - 1) (showE t.ks[i], lvE t.ks[i])).toArray⟩) ∧ Below w.heap.size w w' := by
 obtain ⟨-, -, en, hkl⟩ := hn.texts
 dsimp only at en
 subst en
 obtain ⟨ad, ⟨op', tx', X', n', m'⟩, eA, hS', q0, q1, q2, hk'⟩ := hn.kid i hi
 dsimp only at eA q0 q1 q2
 subst eA
 have had := hS _ hS'
 have hbk : (ad.add (i * 3)).block < w.heap.size := by rw [add_block]; exact had
 unfold RShows at hI
 obtain ⟨K, hK⟩ : ∃ K, t.ks[i] = K := ⟨_, rfl⟩
 rw [hK] at hI hlen hk' ⊢
 rw [kd_is _ _ _ (by omega)]
 obtain ⟨s, hs⟩ : ∃ s : ByteArray, ⟨(showE K).toArray⟩ = s := ⟨_, rfl⟩
 have hsz : s.size ≤ 900000 := by rw [← hs]; exact hlen
 have hsd : s.data.toList = showE K := by rw [← hs]
 obtain ⟨V, hV⟩ : ∃ V, lvD K = V := ⟨_, rfl⟩
 rw [hs] at hI
 obtain ⟨R, hR⟩ : ∃ R, (if 0 < V ∧ V < (least : Int) then 40 :: (showE K ++ [41]) else showE K) = R := ⟨_, rfl⟩
 have HR := hid hR
 have HI := hid hI
 have HLV := hid (fun S op tx X n m w hn => rlevel_any K S op tx X n m w hn)
 rw [hV] at HLV ⊢
 rw [hR]
 have HS := hid hS
 have HN := hid hk'
 have Q0 := hid q0
 have Q1 := hid q1
 have Q2 := hid q2
 have hb1 : ∀ w, (Op.stringOp .add ⟨#[40]⟩ s).run Tryz.prog w = .ok (.string (⟨#[40]⟩ ++ s)) w := fun w => run_string_add_sum w _ _ (by show 1 + s.size ≤ _; omega)
 obtain ⟨s1, hs1⟩ : ∃ s1 : ByteArray, ⟨#[40]⟩ ++ s = s1 := ⟨_, rfl⟩
 rw [hs1] at hb1
 have hz1 : s1.size = 1 + s.size := by rw [← hs1, ByteArray.size_append]; rfl
 have hb2 : ∀ w, (Op.stringOp .add s1 ⟨#[41]⟩).run Tryz.prog w = .ok (.string (s1 ++ ⟨#[41]⟩)) w := fun w => run_string_add_sum w _ _ (by show s1.size + 1 ≤ _; omega)
 obtain ⟨s2, hs2⟩ : ∃ s2 : ByteArray, s1 ++ ⟨#[41]⟩ = s2 := ⟨_, rfl⟩
 rw [hs2] at hb2
 have HS2 := hid (show s2 = ⟨(40 :: (showE K ++ [41])).toArray⟩ by
  rw [← Lib.mk_data s2, ← hs2, ← hs1, ← hsd]
  simp [ByteArray.data_append])
 have HSS := hid hs
 clear hI hS hn hk' q0 q1 q2 hK hs hsd hV hs1 hs2 hz1 hlen hsz hR
 go_enter Tryz.func114, Tryz.ntmps114
 obtain ⟨w0, hw0⟩ : ∃ w0, w.alloc (.cells #[.string op, .string tx, .slice (some ad) t.ks.length m] 25) = w0 := ⟨_, rfl⟩
 have B0 := hid (show Below w.heap.size w w0 by rw [← hw0]; exact below_alloc w _)
 have N0 := hid (show NBox w0 w.heap.size (.string op) (.string tx) (.slice (some ad) t.ks.length m) by rw [← hw0]; exact NBox.fresh _ _ _ _ _)
 have HW0 := hid hw0
 have hz0 : w.heap.size < w0.heap.size := by rw [← hw0]; simp
 clear hw0
 have q0 := (B0.out.cell hbk).trans Q0.out
 have q1 := (B0.out.cell (p := ⟨(ad.add (i * 3)).block, (ad.add (i * 3)).off + 1, none⟩) hbk).trans Q1.out
 have q2 := (B0.out.cell (p := ⟨(ad.add (i * 3)).block, (ad.add (i * 3)).off + 2, none⟩) hbk).trans Q2.out
 obtain ⟨c0, c1, c2, cf⟩ := N0.out
 have e1 : (i : Int) < (t.ks.length : Int) := by omega
 go_upto_region 1 with fail
 rw [HW0.out]
 go_wp2_with fail
 refine (HI.out S op' tx' X' n' m' w0 (fun g hg => by have := HS.out g hg; omega) (HN.out.bel HS.out B0.out)).mono ?_
 rintro e w1 ⟨rfl, hb⟩
 have B1 := hid (B0.out.trans (hb.mono (by omega)))
 have N1 := hid (N0.out.below hb)
 have z1 := hb.size
 clear hb q0 q1 q2 c0 c1 c2 cf
 have q0 := (B1.out.cell hbk).trans Q0.out
 have q1 := (B1.out.cell (p := ⟨(ad.add (i * 3)).block, (ad.add (i * 3)).off + 1, none⟩) hbk).trans Q1.out
 have q2 := (B1.out.cell (p := ⟨(ad.add (i * 3)).block, (ad.add (i * 3)).off + 2, none⟩) hbk).trans Q2.out
 obtain ⟨c0, c1, c2, cf⟩ := N1.out
 go_wp2_with fail
 refine (HLV.out S op' tx' X' n' m' w1 (HN.out.bel HS.out B1.out)).mono ?_
 rintro e w2 ⟨rfl, hb⟩
 have B2 := hid (B1.out.trans (hb.mono (by omega)))
 clear hb q0 q1 q2 c0 c1 c2 cf
 by_cases hp : 0 < V
 ·by_cases hq : V < (least : Int)
  ·have hr : (⟨R.toArray⟩ : ByteArray) = s2 := by rw [← HR.out, if_pos ⟨hp, hq⟩, HS2.out]
   have HRR := hid hr
   clear hr
   go_wp2
   go_ret
   exact ⟨by rw [HRR.out]; simp, B2.out⟩
  ·have hr : (⟨R.toArray⟩ : ByteArray) = s := by rw [← HR.out, if_neg (fun h => hq h.2), HSS.out]
   have HRR := hid hr
   clear hr
   go_wp2
   go_ret
   exact ⟨by rw [HRR.out]; simp, B2.out⟩
 ·have hr : (⟨R.toArray⟩ : ByteArray) = s := by rw [← HR.out, if_neg (fun h => hp h.1), HSS.out]
  have HRR := hid hr
  clear hr
  go_wp2
  go_ret
  exact ⟨by rw [HRR.out]; simp, B2.out⟩
end Go.Proofs.YtjbpkpfmgbhlpaaGreatDoor.Code
