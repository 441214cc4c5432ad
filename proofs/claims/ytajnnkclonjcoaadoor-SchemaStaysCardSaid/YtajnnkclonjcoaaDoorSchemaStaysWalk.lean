/-
  The walk of SchemaStays.
-/
import Derived.Test.YtajnnkclonjcoaaDoorM12
import Derived.Test.YtajnnkclonjcoaaDoorScStay
import Derived.Test.YtajnnkclonjcoaaDoorSeqReg
import Derived.Deep.DeepCutAuto
namespace Go.Proofs.YtajnnkclonjcoaaDoor.schemaStays
open Go.ChangeShapes Go.WideShapes Go.ChangeAt Go.RowKit Val Elems Go.Proofs.YtajnnkclonjcoaaDoor.Code
set_option linter.unusedVariables false
set_option linter.unusedSimpArgs false
theorem small_is {l : List W} (h : smallC l = true) : l.length ≤ 20 ∧ ∀ c ∈ l, c.2.1.length ≤ 100 := by
  unfold smallC at h
  rw [Bool.and_eq_true, List.all_eq_true] at h
  exact ⟨by simpa using h.1, fun c hc => by simpa using h.2 c hc⟩
theorem held9 {W w1 w2 : World} (h : Below W.heap.size W w1) (hb : Below w1.heap.size w1 w2) : Below W.heap.size W w2 := h.trans (hb.mono h.size)
theorem keepc {w w' : World} (h : Below w.heap.size w w') {p : Addr} {v : Option Value} (z : p.block < w.heap.size) (c : w.cell? p = v) : w'.cell? p = v := (h.cell z).trans c
theorem keepc1 {w w' : World} (h : Below w.heap.size w w') {p : Addr} {j : Nat} {v : Option Value} (z : p.block < w.heap.size) (c : w.cell? ⟨p.block, p.off + j, none⟩ = v) : w'.cell? ⟨p.block, p.off + j, none⟩ = v := (h.cell (p := ⟨p.block, p.off + j, none⟩) z).trans c
theorem add_no {l : List W} {c : W} {r : List W} {j : Int} (h : addC l c = (r, j)) (hj : j ≠ 0) : r = [] := by
  rw [addC_ref] at h
  split at h <;> cases h
  · exact absurd rfl hj
  · rfl
theorem drop_no {l : List W} {s : List UInt8} {r : List W} {j : Int} (h : dropC l s = (r, j)) (hj : j ≠ 0) : r = [] := by
  unfold dropC at h
  repeat' split at h
  all_goals (cases h; first | rfl | exact absurd rfl hj)
theorem rename_no {l : List W} {s t : List UInt8} {r : List W} {j : Int} (h : renameC l s t = (r, j)) (hj : j ≠ 0) : r = [] := by
  unfold renameC at h
  repeat' split at h
  all_goals (cases h; first | rfl | exact absurd rfl hj)
/-- where a column is added, no other change is done -/
theorem add_alone {l : List W} {n k t : Int} {s u : List UInt8} {r0 r1 r2 r3 : List W} {j1 j2 j3 : Int} (h0 : addC l (n, s, k) = (r0, 0)) (h1 : dropC l s = (r1, j1)) (h2 : renameC l s u = (r2, j2)) (h3 : widenC l s t = (r3, j3)) : (j1 == 0) = false ∧ (j2 == 0) = false ∧ (j3 == 0) = false := by
  have hn : findC l s = none := by
    cases hf : findC l s with
    | none => rfl
    | some q =>
      unfold addC at h0
      dsimp only at h0
      rw [hf] at h0
      split at h0
      · cases h0
      · rw [if_pos (show (some q).isSome = true from rfl)] at h0
        cases h0
  unfold dropC at h1
  unfold renameC at h2
  unfold widenC at h3
  rw [hn] at h1 h2 h3
  cases h1
  cases h2
  cases h3
  exact ⟨rfl, rfl, rfl⟩
theorem find_nil (s : List UInt8) : findZ [] s = -1 := rfl
theorem find_gone {l : List W} {s : List UInt8} (h : findC l s = none) : decide (0 ≤ findZ l s) = false := by
  rw [findZ_neg h]
  rfl
theorem find_there {l : List W} {s : List UInt8} (h : (findC l s).isSome = true) : decide (0 ≤ findZ l s) = true := by
  cases hf : findC l s with
  | none => rw [hf] at h; cases h
  | some q => rw [findZ_pos hf]; simp
set_option maxHeartbeats 32000000 in
set_option maxRecDepth 100000 in
theorem walk (A : Option Addr) (ca : Nat) (l : List W) (n : Int) (s : ByteArray) (k : Int) (ux : ByteArray) (m : Int) (w : World) (ha : At wc 3 w w.heap.size A l) (ya : ∀ x ∈ l, x.2.1.length ≤ 140737488355328) (za : l.length ≤ 4398046511104) (ua : l.length ≤ ca)
    (hn : (Lit.int .i64 n).wf = true) (hs : s.size ≤ maxLen) (hk : (Lit.int .i64 k).wf = true) (hux : ux.size ≤ maxLen) (hg : MGlob m w) :
    Calls Tryd.prog 5 #[.slice A l.length ca, .agg #[.int .i64 n, .string s, .int .i64 k], .string ux] w fun e w' => e = .returned (.bool true) ∧ Below w.heap.size w w' := by
  have HG := Lib.hid hg
  obtain ⟨w0, hw0⟩ : ∃ w0, w.alloc (.cells #[Value.int .i64 n, .string s, .int .i64 k] 41) = w0 := ⟨_, rfl⟩
  have hlt : w.heap.size < w0.heap.size := by rw [← hw0]; simp
  have L0 := Lib.hid (show Below w.heap.size w w0 by rw [← hw0]; exact below_alloc w _)
  have e0 : w0.cell? ⟨w.heap.size, 0, none⟩ = some (.int .i64 n) := by rw [← hw0]; simp
  have e1 : w0.cell? ⟨w.heap.size, 1, none⟩ = some (.string s) := by rw [← hw0]; simp
  have e2 : w0.cell? ⟨w.heap.size, 2, none⟩ = some (.int .i64 k) := by rw [← hw0]; simp
  have HE := Lib.hid (fun (w' : World) (h : Below w0.heap.size w0 w') => show w'.cell? ⟨w.heap.size, 0, none⟩ = some (.int .i64 n) ∧ w'.cell? ⟨w.heap.size, 1, none⟩ = some (.string s) ∧ w'.cell? ⟨w.heap.size, 2, none⟩ = some (.int .i64 k) from
    ⟨(h.cell (p := ⟨w.heap.size, 0, none⟩) hlt).trans e0, (h.cell (p := ⟨w.heap.size, 1, none⟩) hlt).trans e1, (h.cell (p := ⟨w.heap.size, 2, none⟩) hlt).trans e2⟩)
  have A0 := Lib.hid (show At wc 3 w0 w0.heap.size A l from (ha.below L0.out).more L0.out.size)
  have AA := Lib.hid (fun (w' : World) (h : Below w0.heap.size w0 w') => show At wc 3 w' w'.heap.size A l from (A0.out.below h).more h.size)
  have LL := Lib.hid (fun (w' : World) (h : Below w0.heap.size w0 w') => show Below w.heap.size w w' from L0.out.trans (h.mono L0.out.size))
  have GG := Lib.hid (fun (w' : World) (h : Below w0.heap.size w0 w') => show MGlob m w' from HG.out.next (LL.out w' h))
  have AL := Lib.hid (fun w' h => live12 m w' (GG.out w' h))
  have S1 := Lib.hid (small_any A ca l w0 A0.out (by unfold maxLen; omega))
  obtain ⟨p, hp⟩ : ∃ p, smallC l = p := ⟨_, rfl⟩
  rw [hp] at S1
  have HP := Lib.hid hp
  have hs63 : (s.size : Int) ≤ 9223372036854775807 := by unfold maxLen at hs; omega
  have ht63 : (ux.size : Int) ≤ 9223372036854775807 := by unfold maxLen at hux; omega
  have HW0 := Lib.hid hw0
  clear hg ha ya hp hs hux e0 e1 e2 hw0
  go_enter Tryd.func5, Tryd.ntmps5
  go_upto_region 1 with fail
  rw [HW0.out]
  go_wp2_with fail
  refine S1.out.mono ?_
  rintro e w1 ⟨rfl, b1⟩
  have D1 := Lib.hid b1
  clear b1 S1
  obtain ⟨e0, e1, e2⟩ := HE.out _ D1.out
  by_cases hbad : p = false ∨ ¬ s.size ≤ 100 ∨ ¬ ux.size ≤ 100
  · cases p
    · go_wp2_with fail
      refine (AL.out _ D1.out).mono ?_
      rintro e w3 ⟨rfl, b3⟩
      go_wp2
      go_ret
      exact ⟨rfl, LL.out _ (D1.out.trans (b3.mono D1.out.size))⟩
    · by_cases h1 : s.size ≤ 100
      · have h2 : ¬ ux.size ≤ 100 := by simpa [h1] using hbad
        clear hbad
        go_wp2_with fail
        refine (AL.out _ D1.out).mono ?_
        rintro e w3 ⟨rfl, b3⟩
        go_wp2
        go_ret
        exact ⟨rfl, LL.out _ (D1.out.trans (b3.mono D1.out.size))⟩
      · clear hbad
        go_wp2_with fail
        refine (AL.out _ D1.out).mono ?_
        rintro e w3 ⟨rfl, b3⟩
        go_wp2
        go_ret
        exact ⟨rfl, LL.out _ (D1.out.trans (b3.mono D1.out.size))⟩
  obtain ⟨rfl, hs, hux⟩ : p = true ∧ s.size ≤ 100 ∧ ux.size ≤ 100 := by
    refine ⟨?_, ?_, ?_⟩
    · cases p <;> simp_all
    · exact Decidable.byContradiction fun h => hbad (.inr (.inl h))
    · exact Decidable.byContradiction fun h => hbad (.inr (.inr h))
  obtain ⟨hl, hnl⟩ := small_is HP.out
  have HNL := Lib.hid hnl
  clear hbad HP hnl
  have RL := Lib.hid (fun w' h => sright_any A ca l m w' (AA.out w' h) (by omega) ua (fun c hc => by have := HNL.out c hc; omega) (GG.out w' h))
  obtain ⟨sc, hsc⟩ : ∃ b, schC l = b := ⟨_, rfl⟩
  rw [hsc] at RL
  have HSC := Lib.hid hsc
  clear hsc
  go_wp2_with fail
  refine (RL.out _ D1.out).mono ?_
  rintro e w2 ⟨rfl, b2⟩
  have D2 := Lib.hid (D1.out.trans (b2.mono D1.out.size))
  clear b2 RL e0 e1 e2 D1
  cases sc
  · go_wp2_with fail
    refine (AL.out _ D2.out).mono ?_
    rintro e w3 ⟨rfl, b3⟩
    go_wp2
    go_ret
    exact ⟨rfl, LL.out _ (D2.out.trans (b3.mono D2.out.size))⟩
  -- a copy of the columns
  obtain ⟨i0, hi0, hz0, hz1, hz2⟩ := info_parts info_col
  have AT := Lib.hid (AA.out _ D2.out)
  have z2 := D2.out.size
  go_wp2_with (at_builtin; refine wpList_append_at (k := 3) (c := wc) wc_length (by decide) wc_one rfl _ _ 22 rfl w2.heap.size 41 i0 _ 32 Tryd.underlying22 hi0 hz0 hz1 hz2 rfl (.slice (some ⟨w2.heap.size, 0, none⟩) 0 0) 0 [] rfl ?c0 (w2.heap.size + 1) A ca l rfl ?c2 ?c3 ?c4 ?c5 ?_)
  case c0 => exact ⟨rfl, .inr ⟨w2.heap.size, 0, #[], rfl, Nat.le_refl _, heap_alloc_new w2 _, Nat.le_refl _, Nat.zero_le _, rfl, rfl⟩⟩
  case c2 => exact (AT.out.below (below_alloc w2 _)).more (by omega)
  case c3 => unfold maxLen; omega
  case c4 => omega
  case c5 => simp
  intro v3 w3 hown3 hgrow3
  have D3 := Lib.hid (D2.out.trans (((below_alloc w2 (.cells #[] 41)).grown hgrow3 (by simp) (fun j hj => by cases hj; exact Nat.le_refl _)).mono z2))
  obtain ⟨X, cx, rfl, hx⟩ := own_at (l := l) wc_length (show w3.ownsRow w2.heap.size 41 3 v3 l.length (flatC wc l) by simpa using hown3)
  have X3 := Lib.hid hx
  have XX := Lib.hid (fun (w' : World) (h : Below w3.heap.size w3 w') => show At wc 3 w' w'.heap.size X l from (X3.out.below h).more h.size)
  have SX := Lib.hid (fun w' (h : Below w3.heap.size w3 w') (h0 : Below w0.heap.size w0 w') => rsame_cols X A cx ca l w' (XX.out w' h) (AA.out w' h0) (by omega))
  clear hown3 hgrow3 hx AT D2 hi0 hz0 hz1 hz2 i0 z2
  obtain ⟨e0, e1, e2⟩ := HE.out _ D3.out
  -- the four changes
  have P0 := Lib.hid (fun w' h => sadd_any A ca l n k s m w' (AA.out w' h) (by omega) (by omega) (GG.out w' h))
  obtain ⟨R0, hR0⟩ : ∃ R, addC l (n, s.data.toList, k) = R := ⟨_, rfl⟩
  rw [hR0] at P0
  obtain ⟨r0, j0⟩ := R0
  unfold SColsPost at P0
  dsimp only at P0
  have Q0 := Lib.hid hR0
  clear hR0
  have P1 := Lib.hid (fun w' h => sdrop_any A ca l s w' (AA.out w' h) (by omega) ua)
  obtain ⟨R1, hR1⟩ : ∃ R, dropC l s.data.toList = R := ⟨_, rfl⟩
  rw [hR1] at P1
  obtain ⟨r1, j1⟩ := R1
  unfold SColsPost at P1
  dsimp only at P1
  have Q1 := Lib.hid hR1
  clear hR1
  have P2 := Lib.hid (fun w' h => srename_any A ca l s ux m w' (AA.out w' h) (by omega) (by omega) (GG.out w' h))
  obtain ⟨R2, hR2⟩ : ∃ R, renameC l s.data.toList ux.data.toList = R := ⟨_, rfl⟩
  rw [hR2] at P2
  obtain ⟨r2, j2⟩ := R2
  unfold SColsPost at P2
  dsimp only at P2
  have Q2 := Lib.hid hR2
  clear hR2
  have P3 := Lib.hid (fun w' h => swiden_any A ca l s k w' (AA.out w' h) (by omega))
  obtain ⟨R3, hR3⟩ : ∃ R, widenC l s.data.toList k = R := ⟨_, rfl⟩
  rw [hR3] at P3
  obtain ⟨r3, j3⟩ := R3
  unfold SColsPost at P3
  dsimp only at P3
  have Q3 := Lib.hid hR3
  clear hR3
  go_wp2_with fail
  refine (P0.out _ D3.out).mono ?_
  rintro e w4 ⟨A1, c1, rfl, k1, h1, b4⟩
  have E4 := Lib.hid b4
  have D4 := Lib.hid (D3.out.trans (b4.mono D3.out.size))
  have V1 := Lib.hid h1
  clear b4 h1 P0 e0 e1 e2
  obtain ⟨e0, e1, e2⟩ := HE.out _ D4.out
  go_wp2_with fail
  refine (P1.out _ D4.out).mono ?_
  rintro e w5 ⟨A2, c2, rfl, k2, h2, b5⟩
  have E5 := Lib.hid (E4.out.trans (b5.mono E4.out.size))
  have D5 := Lib.hid (D4.out.trans (b5.mono D4.out.size))
  have V1b := Lib.hid ((V1.out.below b5).more b5.size)
  have V2 := Lib.hid h2
  clear b5 h2 P1 e0 e1 e2 V1 E4 D4
  obtain ⟨e0, e1, e2⟩ := HE.out _ D5.out
  go_wp2_with fail
  refine (P2.out _ D5.out).mono ?_
  rintro e w6 ⟨A3, c3, rfl, k3, h3, b6⟩
  have E6 := Lib.hid (E5.out.trans (b6.mono E5.out.size))
  have D6 := Lib.hid (D5.out.trans (b6.mono D5.out.size))
  have V1 := Lib.hid ((V1b.out.below b6).more b6.size)
  have V2b := Lib.hid ((V2.out.below b6).more b6.size)
  have V3 := Lib.hid h3
  clear b6 h3 P2 e0 e1 e2 V1b V2 E5 D5
  obtain ⟨e0, e1, e2⟩ := HE.out _ D6.out
  go_wp2_with fail
  refine (P3.out _ D6.out).mono ?_
  rintro e w7 ⟨A4, c4, rfl, k4, h4, b7⟩
  have E7 := Lib.hid (E6.out.trans (b7.mono E6.out.size))
  have D7 := Lib.hid (D6.out.trans (b7.mono D6.out.size))
  have V1c := Lib.hid ((V1.out.below b7).more b7.size)
  have V2c := Lib.hid ((V2b.out.below b7).more b7.size)
  have V3c := Lib.hid ((V3.out.below b7).more b7.size)
  have V4 := Lib.hid h4
  clear b7 h4 P3 e0 e1 e2 V1 V2b V3 E6 D6
  obtain ⟨W, hW⟩ : ∃ W, w7 = W := ⟨_, rfl⟩
  subst hW
  -- what the changes tell
  have SB := Lib.hid (fun (w' : World) (h : Below w7.heap.size w7 w') => show Below w0.heap.size w0 w' from D7.out.trans (h.mono D7.out.size))
  obtain ⟨b0, g0⟩ : ∃ b, (j0 == 0) = b := ⟨_, rfl⟩
  obtain ⟨b1, g1⟩ : ∃ b, (j1 == 0) = b := ⟨_, rfl⟩
  obtain ⟨b2, g2⟩ : ∃ b, (j2 == 0) = b := ⟨_, rfl⟩
  obtain ⟨b3, g3⟩ : ∃ b, (j3 == 0) = b := ⟨_, rfl⟩
  have T0 := Lib.hid (show b0 = true → schC r0 = true ∧ r0 = l ++ [(n, s.data.toList, k)] by
    intro h; rw [h] at g0; have hj : j0 = 0 := by simpa using g0
    have h9 := Q0.out; rw [hj] at h9; exact add_stays HSC.out h9)
  have T1 := Lib.hid (show b1 = true → schC r1 = true ∧ r1.length = l.length - 1 ∧ findC r1 s.data.toList = none by
    intro h; rw [h] at g1; have hj : j1 = 0 := by simpa using g1
    have h9 := Q1.out; rw [hj] at h9; exact drop_stays HSC.out h9)
  have T2 := Lib.hid (show b2 = true → schC r2 = true ∧ r2.length = l.length ∧ (∀ (i : Nat) (hi : i < l.length) (hi' : i < r2.length), r2[i].1 = l[i].1) ∧ findC r2 s.data.toList = none ∧ (findC r2 ux.data.toList).isSome = true by
    intro h; rw [h] at g2; have hj : j2 = 0 := by simpa using g2
    have h9 := Q2.out; rw [hj] at h9; exact rename_stays HSC.out h9)
  have T3 := Lib.hid (show b3 = true → schC r3 = true ∧ r3.length = l.length ∧ (∀ (i : Nat) (hi : i < l.length) (hi' : i < r3.length), r3[i].1 = l[i].1 ∧ r3[i].2.1 = l[i].2.1) by
    intro h; rw [h] at g3; have hj : j3 = 0 := by simpa using g3
    have h9 := Q3.out; rw [hj] at h9; exact widen_stays HSC.out h9)
  have T9 := Lib.hid (show b0 = true → b1 = false ∧ b2 = false ∧ b3 = false by
    intro h; rw [h] at g0; have hj : j0 = 0 := by simpa using g0
    have h9 := Q0.out; rw [hj] at h9
    have h8 := add_alone h9 Q1.out Q2.out Q3.out
    rw [g1, g2, g3] at h8; exact h8)
  have U1 := Lib.hid (show decide (0 ≤ findZ r1 s.data.toList) = false by
    cases hb : b1 with
    | true => exact find_gone (T1.out hb).2.2
    | false =>
      rw [drop_no Q1.out (by rw [hb] at g1; simpa using g1), find_nil]
      rfl)
  have U2 := Lib.hid (show decide (0 ≤ findZ r2 s.data.toList) = false by
    cases hb : b2 with
    | true => exact find_gone (T2.out hb).2.2.2.1
    | false =>
      rw [rename_no Q2.out (by rw [hb] at g2; simpa using g2), find_nil]
      rfl)
  have U3 := Lib.hid (show b2 = true → decide (0 ≤ findZ r2 ux.data.toList) = true from fun h => find_there (T2.out h).2.2.2.2)
  have B1 := Lib.hid (show r1.length ≤ 20 by
    cases hb : b1 with
    | true => have := (T1.out hb).2.1; omega
    | false => rw [drop_no Q1.out (by rw [hb] at g1; simpa using g1)]; simp)
  have B2 := Lib.hid (show r2.length ≤ 20 by
    cases hb : b2 with
    | true => have := (T2.out hb).2.1; omega
    | false => rw [rename_no Q2.out (by rw [hb] at g2; simpa using g2)]; simp)
  have SM := Lib.hid (show ∀ r : List W, schC r = true → ∀ c ∈ r, c.2.1.length ≤ 1000 by
    intro r hr c hc
    have h9 := ((sch_iff r).1 hr).1.1 c hc
    unfold colC at h9
    rw [Bool.and_eq_true] at h9
    have h8 : c.2.1.length ≤ 20 := Decidable.byContradiction fun h => by rw [name_short (by omega)] at h9; exact absurd h9.1 (by decide)
    omega)
  have SL := Lib.hid (show ∀ r : List W, schC r = true → r.length ≤ 4194304 by
    intro r hr
    have := ((sch_iff r).1 hr).2.2
    omega)
  have RA := Lib.hid (show b0 = true → ∀ w', Below w7.heap.size w7 w' → Calls Tryd.prog 10 #[.slice A1 r0.length c1] w' fun e w2 => e = .returned (.bool true) ∧ Below w'.heap.size w' w2 from fun hb w' h => by
    have h9 := (T0.out hb).1
    have := sright_any A1 c1 r0 m w' ((V1c.out.below h).more h.size) (SL.out _ h9) k1 (SM.out _ h9) (GG.out w' (SB.out w' h))
    rwa [h9] at this)
  have RB := Lib.hid (show b1 = true → ∀ w', Below w7.heap.size w7 w' → Calls Tryd.prog 10 #[.slice A2 r1.length c2] w' fun e w2 => e = .returned (.bool true) ∧ Below w'.heap.size w' w2 from fun hb w' h => by
    have h9 := (T1.out hb).1
    have := sright_any A2 c2 r1 m w' ((V2c.out.below h).more h.size) (SL.out _ h9) k2 (SM.out _ h9) (GG.out w' (SB.out w' h))
    rwa [h9] at this)
  have RC := Lib.hid (show b2 = true → ∀ w', Below w7.heap.size w7 w' → Calls Tryd.prog 10 #[.slice A3 r2.length c3] w' fun e w2 => e = .returned (.bool true) ∧ Below w'.heap.size w' w2 from fun hb w' h => by
    have h9 := (T2.out hb).1
    have := sright_any A3 c3 r2 m w' ((V3c.out.below h).more h.size) (SL.out _ h9) k3 (SM.out _ h9) (GG.out w' (SB.out w' h))
    rwa [h9] at this)
  have RD := Lib.hid (show b3 = true → ∀ w', Below w7.heap.size w7 w' → Calls Tryd.prog 10 #[.slice A4 r3.length c4] w' fun e w2 => e = .returned (.bool true) ∧ Below w'.heap.size w' w2 from fun hb w' h => by
    have h9 := (T3.out hb).1
    have := sright_any A4 c4 r3 m w' ((V4.out.below h).more h.size) (SL.out _ h9) k4 (SM.out _ h9) (GG.out w' (SB.out w' h))
    rwa [h9] at this)
  have N0 := Lib.hid (show b0 = true → r0.length = l.length + 1 from fun h => by rw [(T0.out h).2]; simp)
  have FA := Lib.hid (show b0 = true → ∃ ad, A1 = some ad ∧ ∀ w', Below w7.heap.size w7 w' → w'.cell? (ad.add (l.length * 3)) = some (.int .i64 n) ∧ w'.cell? ⟨(ad.add (l.length * 3)).block, (ad.add (l.length * 3)).off + 1, none⟩ = some (.string s) ∧ w'.cell? ⟨(ad.add (l.length * 3)).block, (ad.add (l.length * 3)).off + 2, none⟩ = some (.int .i64 k) from fun h => by
    have h8 := N0.out h
    obtain ⟨ad, rfl, hbl, q0, q1, q2⟩ := at_word V1c.out l.length (by omega)
    have h9 : r0[l.length]'(by omega) = (n, s.data.toList, k) := by simp [(T0.out h).2]
    rw [h9] at q0 q1 q2
    have hbl2 : (ad.add (l.length * 3)).block < w7.heap.size := by rw [add_block]; exact hbl
    exact ⟨ad, rfl, fun w' hb => ⟨(hb.cell hbl2).trans q0, (hb.cell (p := ⟨(ad.add (l.length * 3)).block, (ad.add (l.length * 3)).off + 1, none⟩) hbl2).trans (by rw [Lib.mk_data] at q1; exact q1), (hb.cell (p := ⟨(ad.add (l.length * 3)).block, (ad.add (l.length * 3)).off + 2, none⟩) hbl2).trans q2⟩⟩)
  obtain ⟨n0, hn0⟩ : ∃ x, r0.length = x := ⟨_, rfl⟩
  obtain ⟨n1, hn1⟩ : ∃ x, r1.length = x := ⟨_, rfl⟩
  obtain ⟨n2, hn2⟩ : ∃ x, r2.length = x := ⟨_, rfl⟩
  obtain ⟨n3, hn3⟩ : ∃ x, r3.length = x := ⟨_, rfl⟩
  obtain ⟨L, hL⟩ : ∃ x, l.length = x := ⟨_, rfl⟩
  have M0 := Lib.hid (show b0 = true → n0 = L + 1 from fun h => by rw [← hn0, ← hL]; exact N0.out h)
  have M1 := Lib.hid (show b1 = true → n1 = L - 1 ∧ 0 < L from fun h => by rw [← hn1, ← hL]; exact ⟨(T1.out h).2.1, ((sch_iff l).1 HSC.out).2.1⟩)
  have M2 := Lib.hid (show b2 = true → n2 = L from fun h => by rw [← hn2, ← hL]; exact (T2.out h).2.1)
  have M3 := Lib.hid (show b3 = true → n3 = L from fun h => by rw [← hn3, ← hL]; exact (T3.out h).2.1)
  rw [hn0] at RA
  rw [hn1] at RB
  rw [hn2] at RC
  rw [hn3] at RD
  rw [hL] at FA
  rw [hn0, hn1, hn2, hn3, hL]
  have hL20 : L ≤ 20 := by omega
  have HN0 := Lib.hid hn0
  have HN1 := Lib.hid hn1
  have HN2 := Lib.hid hn2
  have HN3 := Lib.hid hn3
  have HLL := Lib.hid hL
  clear hn0 hn1 hn2 hn3 hL hl N0
  have w1L : IntKind.i64.wrap ((L : Int) + 1) = (L : Int) + 1 := by rw [IntKind.wrap_i64]; omega
  go_upto_region 10 with fail
  go_cut [152] (fun s9 wx => s9 = .bool false ∧ Below w7.heap.size w7 wx)
  case first => as_aux_lemma =>
    have HC9 : (b0 = true ∧ b1 = false ∧ b2 = false ∧ b3 = false) ∨ b0 = false := by
      cases hb : b0 with
      | true => exact .inl ⟨rfl, T9.out hb⟩
      | false => exact .inr rfl
    have X0 := Lib.hid (show b0 = true → ((n0 : Int) != (L : Int) + 1) = false ∧ (L : Int) < (n0 : Int) from fun h => by have := M0.out h; constructor <;> (try simp) <;> omega)
    have X1 := Lib.hid (show b1 = true → IntKind.i64.wrap ((L : Int) - 1) = (L : Int) - 1 ∧ ((n1 : Int) != (L : Int) - 1) = false from fun h => by have := M1.out h; refine ⟨by rw [IntKind.wrap_i64]; omega, ?_⟩; simp; omega)
    have X2 := Lib.hid (show b2 = true → ((n2 : Int) != (L : Int)) = false from fun h => by have := M2.out h; simp; omega)
    have X3 := Lib.hid (show b3 = true → ((n3 : Int) != (L : Int)) = false from fun h => by have := M3.out h; simp; omega)
    clear T0 T1 T2 T3 T9 U1 U2 U3 B1 B2 SM SL M0 M1 M2 M3 HN0 HN1 HN2 HN3 HLL Q0 Q1 Q2 Q3 AL SX XX HSC HNL V1c V2c V3c V4 AA LL GG
    go_wp2_with fail
    refine seq_begin (fun w' => Below w7.heap.size w7 w') 73 (by kernel_rfl) (by kernel_rfl) (Below.drew (Below.refl _ _)) (fun HST hHeld => ?_)
    rcases HC9 with ⟨rfl, rfl, rfl, rfl⟩ | rfl
    · obtain ⟨ad, rfl, hFA⟩ := FA.out rfl
      clear FA
      have FA := Lib.hid hFA
      obtain ⟨y0, y1⟩ := X0.out rfl
      clear hFA
      clear X0 X1 X2 X3
      as_aux_lemma =>
        refine seq_take HST (v := ?_) 0 80 rfl ?_ ?_; rotate_left; (intro w hSw; go_simp; try with_reducible rfl); (try simp only [Act.put, List.setIfInBounds_toArray]); (try dsimp only [List.set_cons_zero, List.set_cons_succ])
        refine seq_take HST (v := ?_) 1 81 rfl ?_ ?_; rotate_left; (intro w hSw; go_simp; try with_reducible rfl); (try simp only [Act.put, List.setIfInBounds_toArray]); (try dsimp only [List.set_cons_zero, List.set_cons_succ])
        refine seq_take HST (v := ?_) 2 82 rfl ?_ ?_; rotate_left; (intro w hSw; go_simp; try with_reducible rfl); (try simp only [Act.put, List.setIfInBounds_toArray]); (try dsimp only [List.set_cons_zero, List.set_cons_succ])
        refine seq_take HST (v := ?_) 3 83 rfl ?_ ?_; rotate_left; (intro w hSw; go_simp; try with_reducible rfl); (try simp only [Act.put, List.setIfInBounds_toArray]); (try dsimp only [List.set_cons_zero, List.set_cons_succ])
        refine seq_call HST 4 84 rfl (by kernel_rfl) (fun K hK => ?_); go_simp; refine ((RA.out (by first | exact rfl | exact trivial)) _ (by assumption)).mono ?_; rintro e w9 ⟨rfl, hb9⟩; refine hK.out _ _ (held9 (by assumption) hb9) (fun hHeld9 => ?_); clear hK K hb9; (try simp only [Act.put, List.setIfInBounds_toArray]); (try dsimp only [List.set_cons_zero, List.set_cons_succ])
        refine seq_take HST (v := ?_) 5 85 rfl ?_ ?_; rotate_left; (intro w hSw; go_simp; try with_reducible rfl); (try simp only [Act.put, List.setIfInBounds_toArray]); (try dsimp only [List.set_cons_zero, List.set_cons_succ])
        refine seq_take HST (v := ?_) 6 86 rfl ?_ ?_; rotate_left; (intro w hSw; go_simp; try with_reducible rfl); (try simp only [Act.put, List.setIfInBounds_toArray]); (try dsimp only [List.set_cons_zero, List.set_cons_succ])
        refine seq_take HST (v := ?_) 7 87 rfl ?_ ?_; rotate_left; (intro w hSw; go_simp; try with_reducible rfl); (try simp only [Act.put, List.setIfInBounds_toArray]); (try dsimp only [List.set_cons_zero, List.set_cons_succ])
        refine seq_take HST (v := ?_) 8 88 rfl ?_ ?_; rotate_left; (intro w hSw; go_simp; try with_reducible rfl); (try simp only [Act.put, List.setIfInBounds_toArray]); (try dsimp only [List.set_cons_zero, List.set_cons_succ])
        refine seq_take HST (v := ?_) 9 89 rfl ?_ ?_; rotate_left; (intro w hSw; go_simp; try with_reducible rfl); (try simp only [Act.put, List.setIfInBounds_toArray]); (try dsimp only [List.set_cons_zero, List.set_cons_succ])
        refine seq_take HST (v := ?_) 10 90 rfl ?_ ?_; rotate_left; (intro w hSw; go_simp; try with_reducible rfl); (try simp only [Act.put, List.setIfInBounds_toArray]); (try dsimp only [List.set_cons_zero, List.set_cons_succ])
        refine seq_take HST (v := ?_) 11 91 rfl ?_ ?_; rotate_left; (intro w hSw; go_simp; try with_reducible rfl); (try simp only [Act.put, List.setIfInBounds_toArray]); (try dsimp only [List.set_cons_zero, List.set_cons_succ])
        refine seq_take HST (v := ?_) 12 92 rfl ?_ ?_; rotate_left; (intro w hSw; go_simp; try with_reducible rfl); (try simp only [Act.put, List.setIfInBounds_toArray]); (try dsimp only [List.set_cons_zero, List.set_cons_succ])
        refine seq_take HST (v := ?_) 13 93 rfl ?_ ?_; rotate_left; (intro w hSw; go_simp; try with_reducible rfl); (try simp only [Act.put, List.setIfInBounds_toArray]); (try dsimp only [List.set_cons_zero, List.set_cons_succ])
        refine seq_take HST (v := ?_) 14 94 rfl ?_ ?_; rotate_left; (intro w hSw; go_simp; try with_reducible rfl); (try simp only [Act.put, List.setIfInBounds_toArray]); (try dsimp only [List.set_cons_zero, List.set_cons_succ])
        refine seq_take HST (v := ?_) 15 95 rfl ?_ ?_; rotate_left; (intro w hSw; go_simp; try with_reducible rfl); (try simp only [Act.put, List.setIfInBounds_toArray]); (try dsimp only [List.set_cons_zero, List.set_cons_succ])
        refine seq_take HST (v := ?_) 16 96 rfl ?_ ?_; rotate_left; (intro w hSw; go_simp; try with_reducible rfl); (try simp only [Act.put, List.setIfInBounds_toArray]); (try dsimp only [List.set_cons_zero, List.set_cons_succ])
        refine seq_take HST (v := ?_) 17 97 rfl ?_ ?_; rotate_left; (intro w hSw; go_simp; try with_reducible rfl); (try simp only [Act.put, List.setIfInBounds_toArray]); (try dsimp only [List.set_cons_zero, List.set_cons_succ])
        refine seq_take HST (v := ?_) 18 98 rfl ?_ ?_; rotate_left; (intro w hSw; go_simp; try with_reducible rfl); (try simp only [Act.put, List.setIfInBounds_toArray]); (try dsimp only [List.set_cons_zero, List.set_cons_succ])
        refine seq_take HST (v := ?_) 19 99 rfl ?_ ?_; rotate_left; (intro w hSw; obtain ⟨f0, f1, f2⟩ := FA.out _ hSw; go_simp; try with_reducible rfl); (try simp only [Act.put, List.setIfInBounds_toArray]); (try dsimp only [List.set_cons_zero, List.set_cons_succ])
        refine seq_take HST (v := ?_) 20 100 rfl ?_ ?_; rotate_left; (intro w hSw; obtain ⟨f0, f1, f2⟩ := HE.out _ (SB.out _ hSw); go_simp; try with_reducible rfl); (try simp only [Act.put, List.setIfInBounds_toArray]); (try dsimp only [List.set_cons_zero, List.set_cons_succ])
        refine seq_take HST (v := ?_) 21 101 rfl ?_ ?_; rotate_left; (intro w hSw; go_simp; try with_reducible rfl); (try simp only [Act.put, List.setIfInBounds_toArray]); (try dsimp only [List.set_cons_zero, List.set_cons_succ])
        refine seq_take HST (v := ?_) 22 102 rfl ?_ ?_; rotate_left; (intro w hSw; go_simp; try with_reducible rfl); (try simp only [Act.put, List.setIfInBounds_toArray]); (try dsimp only [List.set_cons_zero, List.set_cons_succ])
        refine seq_take HST (v := ?_) 23 103 rfl ?_ ?_; rotate_left; (intro w hSw; go_simp; try with_reducible rfl); (try simp only [Act.put, List.setIfInBounds_toArray]); (try dsimp only [List.set_cons_zero, List.set_cons_succ])
        refine seq_take HST (v := ?_) 24 104 rfl ?_ ?_; rotate_left; (intro w hSw; go_simp; try with_reducible rfl); (try simp only [Act.put, List.setIfInBounds_toArray]); (try dsimp only [List.set_cons_zero, List.set_cons_succ])
        refine seq_take HST (v := ?_) 25 105 rfl ?_ ?_; rotate_left; (intro w hSw; go_simp; try with_reducible rfl); (try simp only [Act.put, List.setIfInBounds_toArray]); (try dsimp only [List.set_cons_zero, List.set_cons_succ])
        refine seq_take HST (v := ?_) 26 106 rfl ?_ ?_; rotate_left; (intro w hSw; go_simp; try with_reducible rfl); (try simp only [Act.put, List.setIfInBounds_toArray]); (try dsimp only [List.set_cons_zero, List.set_cons_succ])
        refine seq_take HST (v := ?_) 27 107 rfl ?_ ?_; rotate_left; (intro w hSw; go_simp; try with_reducible rfl); (try simp only [Act.put, List.setIfInBounds_toArray]); (try dsimp only [List.set_cons_zero, List.set_cons_succ])
        refine seq_skip HST 28 108 rfl ?_; (try simp only [Act.put, List.setIfInBounds_toArray]); (try dsimp only [List.set_cons_zero, List.set_cons_succ])
        refine seq_skip HST 29 109 rfl ?_; (try simp only [Act.put, List.setIfInBounds_toArray]); (try dsimp only [List.set_cons_zero, List.set_cons_succ])
        refine seq_skip HST 30 110 rfl ?_; (try simp only [Act.put, List.setIfInBounds_toArray]); (try dsimp only [List.set_cons_zero, List.set_cons_succ])
        refine seq_skip HST 31 111 rfl ?_; (try simp only [Act.put, List.setIfInBounds_toArray]); (try dsimp only [List.set_cons_zero, List.set_cons_succ])
        refine seq_skip HST 32 112 rfl ?_; (try simp only [Act.put, List.setIfInBounds_toArray]); (try dsimp only [List.set_cons_zero, List.set_cons_succ])
        refine seq_skip HST 33 113 rfl ?_; (try simp only [Act.put, List.setIfInBounds_toArray]); (try dsimp only [List.set_cons_zero, List.set_cons_succ])
        refine seq_skip HST 34 114 rfl ?_; (try simp only [Act.put, List.setIfInBounds_toArray]); (try dsimp only [List.set_cons_zero, List.set_cons_succ])
        refine seq_skip HST 35 115 rfl ?_; (try simp only [Act.put, List.setIfInBounds_toArray]); (try dsimp only [List.set_cons_zero, List.set_cons_succ])
        refine seq_skip HST 36 116 rfl ?_; (try simp only [Act.put, List.setIfInBounds_toArray]); (try dsimp only [List.set_cons_zero, List.set_cons_succ])
        refine seq_skip HST 37 117 rfl ?_; (try simp only [Act.put, List.setIfInBounds_toArray]); (try dsimp only [List.set_cons_zero, List.set_cons_succ])
        refine seq_skip HST 38 118 rfl ?_; (try simp only [Act.put, List.setIfInBounds_toArray]); (try dsimp only [List.set_cons_zero, List.set_cons_succ])
        refine seq_take HST (v := ?_) 39 119 rfl ?_ ?_; rotate_left; (intro w hSw; go_simp; try with_reducible rfl); (try simp only [Act.put, List.setIfInBounds_toArray]); (try dsimp only [List.set_cons_zero, List.set_cons_succ])
        refine seq_take HST (v := ?_) 40 120 rfl ?_ ?_; rotate_left; (intro w hSw; go_simp; try with_reducible rfl); (try simp only [Act.put, List.setIfInBounds_toArray]); (try dsimp only [List.set_cons_zero, List.set_cons_succ])
        refine seq_take HST (v := ?_) 41 121 rfl ?_ ?_; rotate_left; (intro w hSw; go_simp; try with_reducible rfl); (try simp only [Act.put, List.setIfInBounds_toArray]); (try dsimp only [List.set_cons_zero, List.set_cons_succ])
        refine seq_take HST (v := ?_) 42 122 rfl ?_ ?_; rotate_left; (intro w hSw; go_simp; try with_reducible rfl); (try simp only [Act.put, List.setIfInBounds_toArray]); (try dsimp only [List.set_cons_zero, List.set_cons_succ])
        refine seq_take HST (v := ?_) 43 123 rfl ?_ ?_; rotate_left; (intro w hSw; go_simp; try with_reducible rfl); (try simp only [Act.put, List.setIfInBounds_toArray]); (try dsimp only [List.set_cons_zero, List.set_cons_succ])
        refine seq_take HST (v := ?_) 44 124 rfl ?_ ?_; rotate_left; (intro w hSw; go_simp; try with_reducible rfl); (try simp only [Act.put, List.setIfInBounds_toArray]); (try dsimp only [List.set_cons_zero, List.set_cons_succ])
        refine seq_skip HST 45 125 rfl ?_; (try simp only [Act.put, List.setIfInBounds_toArray]); (try dsimp only [List.set_cons_zero, List.set_cons_succ])
        refine seq_skip HST 46 126 rfl ?_; (try simp only [Act.put, List.setIfInBounds_toArray]); (try dsimp only [List.set_cons_zero, List.set_cons_succ])
        refine seq_skip HST 47 127 rfl ?_; (try simp only [Act.put, List.setIfInBounds_toArray]); (try dsimp only [List.set_cons_zero, List.set_cons_succ])
        refine seq_skip HST 48 128 rfl ?_; (try simp only [Act.put, List.setIfInBounds_toArray]); (try dsimp only [List.set_cons_zero, List.set_cons_succ])
        refine seq_skip HST 49 129 rfl ?_; (try simp only [Act.put, List.setIfInBounds_toArray]); (try dsimp only [List.set_cons_zero, List.set_cons_succ])
        refine seq_skip HST 50 130 rfl ?_; (try simp only [Act.put, List.setIfInBounds_toArray]); (try dsimp only [List.set_cons_zero, List.set_cons_succ])
        refine seq_skip HST 51 131 rfl ?_; (try simp only [Act.put, List.setIfInBounds_toArray]); (try dsimp only [List.set_cons_zero, List.set_cons_succ])
        refine seq_skip HST 52 132 rfl ?_; (try simp only [Act.put, List.setIfInBounds_toArray]); (try dsimp only [List.set_cons_zero, List.set_cons_succ])
        refine seq_skip HST 53 133 rfl ?_; (try simp only [Act.put, List.setIfInBounds_toArray]); (try dsimp only [List.set_cons_zero, List.set_cons_succ])
        refine seq_skip HST 54 134 rfl ?_; (try simp only [Act.put, List.setIfInBounds_toArray]); (try dsimp only [List.set_cons_zero, List.set_cons_succ])
        refine seq_take HST (v := ?_) 55 135 rfl ?_ ?_; rotate_left; (intro w hSw; go_simp; try with_reducible rfl); (try simp only [Act.put, List.setIfInBounds_toArray]); (try dsimp only [List.set_cons_zero, List.set_cons_succ])
        refine seq_take HST (v := ?_) 56 136 rfl ?_ ?_; rotate_left; (intro w hSw; go_simp; try with_reducible rfl); (try simp only [Act.put, List.setIfInBounds_toArray]); (try dsimp only [List.set_cons_zero, List.set_cons_succ])
        refine seq_take HST (v := ?_) 57 137 rfl ?_ ?_; rotate_left; (intro w hSw; go_simp; try with_reducible rfl); (try simp only [Act.put, List.setIfInBounds_toArray]); (try dsimp only [List.set_cons_zero, List.set_cons_succ])
        refine seq_take HST (v := ?_) 58 138 rfl ?_ ?_; rotate_left; (intro w hSw; go_simp; try with_reducible rfl); (try simp only [Act.put, List.setIfInBounds_toArray]); (try dsimp only [List.set_cons_zero, List.set_cons_succ])
        refine seq_take HST (v := ?_) 59 139 rfl ?_ ?_; rotate_left; (intro w hSw; go_simp; try with_reducible rfl); (try simp only [Act.put, List.setIfInBounds_toArray]); (try dsimp only [List.set_cons_zero, List.set_cons_succ])
        refine seq_take HST (v := ?_) 60 140 rfl ?_ ?_; rotate_left; (intro w hSw; go_simp; try with_reducible rfl); (try simp only [Act.put, List.setIfInBounds_toArray]); (try dsimp only [List.set_cons_zero, List.set_cons_succ])
        refine seq_skip HST 61 141 rfl ?_; (try simp only [Act.put, List.setIfInBounds_toArray]); (try dsimp only [List.set_cons_zero, List.set_cons_succ])
        refine seq_skip HST 62 142 rfl ?_; (try simp only [Act.put, List.setIfInBounds_toArray]); (try dsimp only [List.set_cons_zero, List.set_cons_succ])
        refine seq_skip HST 63 143 rfl ?_; (try simp only [Act.put, List.setIfInBounds_toArray]); (try dsimp only [List.set_cons_zero, List.set_cons_succ])
        refine seq_skip HST 64 144 rfl ?_; (try simp only [Act.put, List.setIfInBounds_toArray]); (try dsimp only [List.set_cons_zero, List.set_cons_succ])
        refine seq_skip HST 65 145 rfl ?_; (try simp only [Act.put, List.setIfInBounds_toArray]); (try dsimp only [List.set_cons_zero, List.set_cons_succ])
        refine seq_skip HST 66 146 rfl ?_; (try simp only [Act.put, List.setIfInBounds_toArray]); (try dsimp only [List.set_cons_zero, List.set_cons_succ])
        refine seq_skip HST 67 147 rfl ?_; (try simp only [Act.put, List.setIfInBounds_toArray]); (try dsimp only [List.set_cons_zero, List.set_cons_succ])
        refine seq_skip HST 68 148 rfl ?_; (try simp only [Act.put, List.setIfInBounds_toArray]); (try dsimp only [List.set_cons_zero, List.set_cons_succ])
        refine seq_skip HST 69 149 rfl ?_; (try simp only [Act.put, List.setIfInBounds_toArray]); (try dsimp only [List.set_cons_zero, List.set_cons_succ])
        refine seq_skip HST 70 150 rfl ?_; (try simp only [Act.put, List.setIfInBounds_toArray]); (try dsimp only [List.set_cons_zero, List.set_cons_succ])
        refine seq_take HST (v := ?_) 71 151 rfl ?_ ?_; rotate_left; (intro w hSw; go_simp; try with_reducible rfl); (try simp only [Act.put, List.setIfInBounds_toArray]); (try dsimp only [List.set_cons_zero, List.set_cons_succ])
        refine seq_take HST (v := ?_) 72 152 rfl ?_ ?_; rotate_left; (intro w hSw; go_simp; try with_reducible rfl); (try simp only [Act.put, List.setIfInBounds_toArray]); (try dsimp only [List.set_cons_zero, List.set_cons_succ])
        refine seq_done (by kernel_rfl) ?_
        go_wp2_with fail
        go_meet
        exact ⟨by first | rfl | simp, by assumption⟩
    · cases b1
      · cases b2
        · cases b3
          · clear X0 X1 X2 X3
            as_aux_lemma =>
              refine seq_take HST (v := ?_) 0 80 rfl ?_ ?_; rotate_left; (intro w hSw; go_simp; try with_reducible rfl); (try simp only [Act.put, List.setIfInBounds_toArray]); (try dsimp only [List.set_cons_zero, List.set_cons_succ])
              refine seq_take HST (v := ?_) 1 81 rfl ?_ ?_; rotate_left; (intro w hSw; go_simp; try with_reducible rfl); (try simp only [Act.put, List.setIfInBounds_toArray]); (try dsimp only [List.set_cons_zero, List.set_cons_succ])
              refine seq_take HST (v := ?_) 2 82 rfl ?_ ?_; rotate_left; (intro w hSw; go_simp; try with_reducible rfl); (try simp only [Act.put, List.setIfInBounds_toArray]); (try dsimp only [List.set_cons_zero, List.set_cons_succ])
              refine seq_skip HST 3 83 rfl ?_; (try simp only [Act.put, List.setIfInBounds_toArray]); (try dsimp only [List.set_cons_zero, List.set_cons_succ])
              refine seq_skip HST 4 84 rfl ?_; (try simp only [Act.put, List.setIfInBounds_toArray]); (try dsimp only [List.set_cons_zero, List.set_cons_succ])
              refine seq_skip HST 5 85 rfl ?_; (try simp only [Act.put, List.setIfInBounds_toArray]); (try dsimp only [List.set_cons_zero, List.set_cons_succ])
              refine seq_skip HST 6 86 rfl ?_; (try simp only [Act.put, List.setIfInBounds_toArray]); (try dsimp only [List.set_cons_zero, List.set_cons_succ])
              refine seq_skip HST 7 87 rfl ?_; (try simp only [Act.put, List.setIfInBounds_toArray]); (try dsimp only [List.set_cons_zero, List.set_cons_succ])
              refine seq_skip HST 8 88 rfl ?_; (try simp only [Act.put, List.setIfInBounds_toArray]); (try dsimp only [List.set_cons_zero, List.set_cons_succ])
              refine seq_skip HST 9 89 rfl ?_; (try simp only [Act.put, List.setIfInBounds_toArray]); (try dsimp only [List.set_cons_zero, List.set_cons_succ])
              refine seq_skip HST 10 90 rfl ?_; (try simp only [Act.put, List.setIfInBounds_toArray]); (try dsimp only [List.set_cons_zero, List.set_cons_succ])
              refine seq_skip HST 11 91 rfl ?_; (try simp only [Act.put, List.setIfInBounds_toArray]); (try dsimp only [List.set_cons_zero, List.set_cons_succ])
              refine seq_skip HST 12 92 rfl ?_; (try simp only [Act.put, List.setIfInBounds_toArray]); (try dsimp only [List.set_cons_zero, List.set_cons_succ])
              refine seq_skip HST 13 93 rfl ?_; (try simp only [Act.put, List.setIfInBounds_toArray]); (try dsimp only [List.set_cons_zero, List.set_cons_succ])
              refine seq_skip HST 14 94 rfl ?_; (try simp only [Act.put, List.setIfInBounds_toArray]); (try dsimp only [List.set_cons_zero, List.set_cons_succ])
              refine seq_skip HST 15 95 rfl ?_; (try simp only [Act.put, List.setIfInBounds_toArray]); (try dsimp only [List.set_cons_zero, List.set_cons_succ])
              refine seq_skip HST 16 96 rfl ?_; (try simp only [Act.put, List.setIfInBounds_toArray]); (try dsimp only [List.set_cons_zero, List.set_cons_succ])
              refine seq_skip HST 17 97 rfl ?_; (try simp only [Act.put, List.setIfInBounds_toArray]); (try dsimp only [List.set_cons_zero, List.set_cons_succ])
              refine seq_skip HST 18 98 rfl ?_; (try simp only [Act.put, List.setIfInBounds_toArray]); (try dsimp only [List.set_cons_zero, List.set_cons_succ])
              refine seq_skip HST 19 99 rfl ?_; (try simp only [Act.put, List.setIfInBounds_toArray]); (try dsimp only [List.set_cons_zero, List.set_cons_succ])
              refine seq_skip HST 20 100 rfl ?_; (try simp only [Act.put, List.setIfInBounds_toArray]); (try dsimp only [List.set_cons_zero, List.set_cons_succ])
              refine seq_skip HST 21 101 rfl ?_; (try simp only [Act.put, List.setIfInBounds_toArray]); (try dsimp only [List.set_cons_zero, List.set_cons_succ])
              refine seq_skip HST 22 102 rfl ?_; (try simp only [Act.put, List.setIfInBounds_toArray]); (try dsimp only [List.set_cons_zero, List.set_cons_succ])
              refine seq_take HST (v := ?_) 23 103 rfl ?_ ?_; rotate_left; (intro w hSw; go_simp; try with_reducible rfl); (try simp only [Act.put, List.setIfInBounds_toArray]); (try dsimp only [List.set_cons_zero, List.set_cons_succ])
              refine seq_take HST (v := ?_) 24 104 rfl ?_ ?_; rotate_left; (intro w hSw; go_simp; try with_reducible rfl); (try simp only [Act.put, List.setIfInBounds_toArray]); (try dsimp only [List.set_cons_zero, List.set_cons_succ])
              refine seq_take HST (v := ?_) 25 105 rfl ?_ ?_; rotate_left; (intro w hSw; go_simp; try with_reducible rfl); (try simp only [Act.put, List.setIfInBounds_toArray]); (try dsimp only [List.set_cons_zero, List.set_cons_succ])
              refine seq_take HST (v := ?_) 26 106 rfl ?_ ?_; rotate_left; (intro w hSw; go_simp; try with_reducible rfl); (try simp only [Act.put, List.setIfInBounds_toArray]); (try dsimp only [List.set_cons_zero, List.set_cons_succ])
              refine seq_take HST (v := ?_) 27 107 rfl ?_ ?_; rotate_left; (intro w hSw; go_simp; try with_reducible rfl); (try simp only [Act.put, List.setIfInBounds_toArray]); (try dsimp only [List.set_cons_zero, List.set_cons_succ])
              refine seq_skip HST 28 108 rfl ?_; (try simp only [Act.put, List.setIfInBounds_toArray]); (try dsimp only [List.set_cons_zero, List.set_cons_succ])
              refine seq_skip HST 29 109 rfl ?_; (try simp only [Act.put, List.setIfInBounds_toArray]); (try dsimp only [List.set_cons_zero, List.set_cons_succ])
              refine seq_skip HST 30 110 rfl ?_; (try simp only [Act.put, List.setIfInBounds_toArray]); (try dsimp only [List.set_cons_zero, List.set_cons_succ])
              refine seq_skip HST 31 111 rfl ?_; (try simp only [Act.put, List.setIfInBounds_toArray]); (try dsimp only [List.set_cons_zero, List.set_cons_succ])
              refine seq_skip HST 32 112 rfl ?_; (try simp only [Act.put, List.setIfInBounds_toArray]); (try dsimp only [List.set_cons_zero, List.set_cons_succ])
              refine seq_skip HST 33 113 rfl ?_; (try simp only [Act.put, List.setIfInBounds_toArray]); (try dsimp only [List.set_cons_zero, List.set_cons_succ])
              refine seq_skip HST 34 114 rfl ?_; (try simp only [Act.put, List.setIfInBounds_toArray]); (try dsimp only [List.set_cons_zero, List.set_cons_succ])
              refine seq_skip HST 35 115 rfl ?_; (try simp only [Act.put, List.setIfInBounds_toArray]); (try dsimp only [List.set_cons_zero, List.set_cons_succ])
              refine seq_skip HST 36 116 rfl ?_; (try simp only [Act.put, List.setIfInBounds_toArray]); (try dsimp only [List.set_cons_zero, List.set_cons_succ])
              refine seq_skip HST 37 117 rfl ?_; (try simp only [Act.put, List.setIfInBounds_toArray]); (try dsimp only [List.set_cons_zero, List.set_cons_succ])
              refine seq_skip HST 38 118 rfl ?_; (try simp only [Act.put, List.setIfInBounds_toArray]); (try dsimp only [List.set_cons_zero, List.set_cons_succ])
              refine seq_take HST (v := ?_) 39 119 rfl ?_ ?_; rotate_left; (intro w hSw; go_simp; try with_reducible rfl); (try simp only [Act.put, List.setIfInBounds_toArray]); (try dsimp only [List.set_cons_zero, List.set_cons_succ])
              refine seq_take HST (v := ?_) 40 120 rfl ?_ ?_; rotate_left; (intro w hSw; go_simp; try with_reducible rfl); (try simp only [Act.put, List.setIfInBounds_toArray]); (try dsimp only [List.set_cons_zero, List.set_cons_succ])
              refine seq_take HST (v := ?_) 41 121 rfl ?_ ?_; rotate_left; (intro w hSw; go_simp; try with_reducible rfl); (try simp only [Act.put, List.setIfInBounds_toArray]); (try dsimp only [List.set_cons_zero, List.set_cons_succ])
              refine seq_take HST (v := ?_) 42 122 rfl ?_ ?_; rotate_left; (intro w hSw; go_simp; try with_reducible rfl); (try simp only [Act.put, List.setIfInBounds_toArray]); (try dsimp only [List.set_cons_zero, List.set_cons_succ])
              refine seq_take HST (v := ?_) 43 123 rfl ?_ ?_; rotate_left; (intro w hSw; go_simp; try with_reducible rfl); (try simp only [Act.put, List.setIfInBounds_toArray]); (try dsimp only [List.set_cons_zero, List.set_cons_succ])
              refine seq_take HST (v := ?_) 44 124 rfl ?_ ?_; rotate_left; (intro w hSw; go_simp; try with_reducible rfl); (try simp only [Act.put, List.setIfInBounds_toArray]); (try dsimp only [List.set_cons_zero, List.set_cons_succ])
              refine seq_skip HST 45 125 rfl ?_; (try simp only [Act.put, List.setIfInBounds_toArray]); (try dsimp only [List.set_cons_zero, List.set_cons_succ])
              refine seq_skip HST 46 126 rfl ?_; (try simp only [Act.put, List.setIfInBounds_toArray]); (try dsimp only [List.set_cons_zero, List.set_cons_succ])
              refine seq_skip HST 47 127 rfl ?_; (try simp only [Act.put, List.setIfInBounds_toArray]); (try dsimp only [List.set_cons_zero, List.set_cons_succ])
              refine seq_skip HST 48 128 rfl ?_; (try simp only [Act.put, List.setIfInBounds_toArray]); (try dsimp only [List.set_cons_zero, List.set_cons_succ])
              refine seq_skip HST 49 129 rfl ?_; (try simp only [Act.put, List.setIfInBounds_toArray]); (try dsimp only [List.set_cons_zero, List.set_cons_succ])
              refine seq_skip HST 50 130 rfl ?_; (try simp only [Act.put, List.setIfInBounds_toArray]); (try dsimp only [List.set_cons_zero, List.set_cons_succ])
              refine seq_skip HST 51 131 rfl ?_; (try simp only [Act.put, List.setIfInBounds_toArray]); (try dsimp only [List.set_cons_zero, List.set_cons_succ])
              refine seq_skip HST 52 132 rfl ?_; (try simp only [Act.put, List.setIfInBounds_toArray]); (try dsimp only [List.set_cons_zero, List.set_cons_succ])
              refine seq_skip HST 53 133 rfl ?_; (try simp only [Act.put, List.setIfInBounds_toArray]); (try dsimp only [List.set_cons_zero, List.set_cons_succ])
              refine seq_skip HST 54 134 rfl ?_; (try simp only [Act.put, List.setIfInBounds_toArray]); (try dsimp only [List.set_cons_zero, List.set_cons_succ])
              refine seq_take HST (v := ?_) 55 135 rfl ?_ ?_; rotate_left; (intro w hSw; go_simp; try with_reducible rfl); (try simp only [Act.put, List.setIfInBounds_toArray]); (try dsimp only [List.set_cons_zero, List.set_cons_succ])
              refine seq_take HST (v := ?_) 56 136 rfl ?_ ?_; rotate_left; (intro w hSw; go_simp; try with_reducible rfl); (try simp only [Act.put, List.setIfInBounds_toArray]); (try dsimp only [List.set_cons_zero, List.set_cons_succ])
              refine seq_take HST (v := ?_) 57 137 rfl ?_ ?_; rotate_left; (intro w hSw; go_simp; try with_reducible rfl); (try simp only [Act.put, List.setIfInBounds_toArray]); (try dsimp only [List.set_cons_zero, List.set_cons_succ])
              refine seq_take HST (v := ?_) 58 138 rfl ?_ ?_; rotate_left; (intro w hSw; go_simp; try with_reducible rfl); (try simp only [Act.put, List.setIfInBounds_toArray]); (try dsimp only [List.set_cons_zero, List.set_cons_succ])
              refine seq_take HST (v := ?_) 59 139 rfl ?_ ?_; rotate_left; (intro w hSw; go_simp; try with_reducible rfl); (try simp only [Act.put, List.setIfInBounds_toArray]); (try dsimp only [List.set_cons_zero, List.set_cons_succ])
              refine seq_take HST (v := ?_) 60 140 rfl ?_ ?_; rotate_left; (intro w hSw; go_simp; try with_reducible rfl); (try simp only [Act.put, List.setIfInBounds_toArray]); (try dsimp only [List.set_cons_zero, List.set_cons_succ])
              refine seq_skip HST 61 141 rfl ?_; (try simp only [Act.put, List.setIfInBounds_toArray]); (try dsimp only [List.set_cons_zero, List.set_cons_succ])
              refine seq_skip HST 62 142 rfl ?_; (try simp only [Act.put, List.setIfInBounds_toArray]); (try dsimp only [List.set_cons_zero, List.set_cons_succ])
              refine seq_skip HST 63 143 rfl ?_; (try simp only [Act.put, List.setIfInBounds_toArray]); (try dsimp only [List.set_cons_zero, List.set_cons_succ])
              refine seq_skip HST 64 144 rfl ?_; (try simp only [Act.put, List.setIfInBounds_toArray]); (try dsimp only [List.set_cons_zero, List.set_cons_succ])
              refine seq_skip HST 65 145 rfl ?_; (try simp only [Act.put, List.setIfInBounds_toArray]); (try dsimp only [List.set_cons_zero, List.set_cons_succ])
              refine seq_skip HST 66 146 rfl ?_; (try simp only [Act.put, List.setIfInBounds_toArray]); (try dsimp only [List.set_cons_zero, List.set_cons_succ])
              refine seq_skip HST 67 147 rfl ?_; (try simp only [Act.put, List.setIfInBounds_toArray]); (try dsimp only [List.set_cons_zero, List.set_cons_succ])
              refine seq_skip HST 68 148 rfl ?_; (try simp only [Act.put, List.setIfInBounds_toArray]); (try dsimp only [List.set_cons_zero, List.set_cons_succ])
              refine seq_skip HST 69 149 rfl ?_; (try simp only [Act.put, List.setIfInBounds_toArray]); (try dsimp only [List.set_cons_zero, List.set_cons_succ])
              refine seq_skip HST 70 150 rfl ?_; (try simp only [Act.put, List.setIfInBounds_toArray]); (try dsimp only [List.set_cons_zero, List.set_cons_succ])
              refine seq_take HST (v := ?_) 71 151 rfl ?_ ?_; rotate_left; (intro w hSw; go_simp; try with_reducible rfl); (try simp only [Act.put, List.setIfInBounds_toArray]); (try dsimp only [List.set_cons_zero, List.set_cons_succ])
              refine seq_take HST (v := ?_) 72 152 rfl ?_ ?_; rotate_left; (intro w hSw; go_simp; try with_reducible rfl); (try simp only [Act.put, List.setIfInBounds_toArray]); (try dsimp only [List.set_cons_zero, List.set_cons_succ])
              refine seq_done (by kernel_rfl) ?_
              go_wp2_with fail
              go_meet
              exact ⟨by first | rfl | simp, by assumption⟩
          · have y5 := X3.out rfl
            clear X0 X1 X2 X3
            as_aux_lemma =>
              refine seq_take HST (v := ?_) 0 80 rfl ?_ ?_; rotate_left; (intro w hSw; go_simp; try with_reducible rfl); (try simp only [Act.put, List.setIfInBounds_toArray]); (try dsimp only [List.set_cons_zero, List.set_cons_succ])
              refine seq_take HST (v := ?_) 1 81 rfl ?_ ?_; rotate_left; (intro w hSw; go_simp; try with_reducible rfl); (try simp only [Act.put, List.setIfInBounds_toArray]); (try dsimp only [List.set_cons_zero, List.set_cons_succ])
              refine seq_take HST (v := ?_) 2 82 rfl ?_ ?_; rotate_left; (intro w hSw; go_simp; try with_reducible rfl); (try simp only [Act.put, List.setIfInBounds_toArray]); (try dsimp only [List.set_cons_zero, List.set_cons_succ])
              refine seq_skip HST 3 83 rfl ?_; (try simp only [Act.put, List.setIfInBounds_toArray]); (try dsimp only [List.set_cons_zero, List.set_cons_succ])
              refine seq_skip HST 4 84 rfl ?_; (try simp only [Act.put, List.setIfInBounds_toArray]); (try dsimp only [List.set_cons_zero, List.set_cons_succ])
              refine seq_skip HST 5 85 rfl ?_; (try simp only [Act.put, List.setIfInBounds_toArray]); (try dsimp only [List.set_cons_zero, List.set_cons_succ])
              refine seq_skip HST 6 86 rfl ?_; (try simp only [Act.put, List.setIfInBounds_toArray]); (try dsimp only [List.set_cons_zero, List.set_cons_succ])
              refine seq_skip HST 7 87 rfl ?_; (try simp only [Act.put, List.setIfInBounds_toArray]); (try dsimp only [List.set_cons_zero, List.set_cons_succ])
              refine seq_skip HST 8 88 rfl ?_; (try simp only [Act.put, List.setIfInBounds_toArray]); (try dsimp only [List.set_cons_zero, List.set_cons_succ])
              refine seq_skip HST 9 89 rfl ?_; (try simp only [Act.put, List.setIfInBounds_toArray]); (try dsimp only [List.set_cons_zero, List.set_cons_succ])
              refine seq_skip HST 10 90 rfl ?_; (try simp only [Act.put, List.setIfInBounds_toArray]); (try dsimp only [List.set_cons_zero, List.set_cons_succ])
              refine seq_skip HST 11 91 rfl ?_; (try simp only [Act.put, List.setIfInBounds_toArray]); (try dsimp only [List.set_cons_zero, List.set_cons_succ])
              refine seq_skip HST 12 92 rfl ?_; (try simp only [Act.put, List.setIfInBounds_toArray]); (try dsimp only [List.set_cons_zero, List.set_cons_succ])
              refine seq_skip HST 13 93 rfl ?_; (try simp only [Act.put, List.setIfInBounds_toArray]); (try dsimp only [List.set_cons_zero, List.set_cons_succ])
              refine seq_skip HST 14 94 rfl ?_; (try simp only [Act.put, List.setIfInBounds_toArray]); (try dsimp only [List.set_cons_zero, List.set_cons_succ])
              refine seq_skip HST 15 95 rfl ?_; (try simp only [Act.put, List.setIfInBounds_toArray]); (try dsimp only [List.set_cons_zero, List.set_cons_succ])
              refine seq_skip HST 16 96 rfl ?_; (try simp only [Act.put, List.setIfInBounds_toArray]); (try dsimp only [List.set_cons_zero, List.set_cons_succ])
              refine seq_skip HST 17 97 rfl ?_; (try simp only [Act.put, List.setIfInBounds_toArray]); (try dsimp only [List.set_cons_zero, List.set_cons_succ])
              refine seq_skip HST 18 98 rfl ?_; (try simp only [Act.put, List.setIfInBounds_toArray]); (try dsimp only [List.set_cons_zero, List.set_cons_succ])
              refine seq_skip HST 19 99 rfl ?_; (try simp only [Act.put, List.setIfInBounds_toArray]); (try dsimp only [List.set_cons_zero, List.set_cons_succ])
              refine seq_skip HST 20 100 rfl ?_; (try simp only [Act.put, List.setIfInBounds_toArray]); (try dsimp only [List.set_cons_zero, List.set_cons_succ])
              refine seq_skip HST 21 101 rfl ?_; (try simp only [Act.put, List.setIfInBounds_toArray]); (try dsimp only [List.set_cons_zero, List.set_cons_succ])
              refine seq_skip HST 22 102 rfl ?_; (try simp only [Act.put, List.setIfInBounds_toArray]); (try dsimp only [List.set_cons_zero, List.set_cons_succ])
              refine seq_take HST (v := ?_) 23 103 rfl ?_ ?_; rotate_left; (intro w hSw; go_simp; try with_reducible rfl); (try simp only [Act.put, List.setIfInBounds_toArray]); (try dsimp only [List.set_cons_zero, List.set_cons_succ])
              refine seq_take HST (v := ?_) 24 104 rfl ?_ ?_; rotate_left; (intro w hSw; go_simp; try with_reducible rfl); (try simp only [Act.put, List.setIfInBounds_toArray]); (try dsimp only [List.set_cons_zero, List.set_cons_succ])
              refine seq_take HST (v := ?_) 25 105 rfl ?_ ?_; rotate_left; (intro w hSw; go_simp; try with_reducible rfl); (try simp only [Act.put, List.setIfInBounds_toArray]); (try dsimp only [List.set_cons_zero, List.set_cons_succ])
              refine seq_take HST (v := ?_) 26 106 rfl ?_ ?_; rotate_left; (intro w hSw; go_simp; try with_reducible rfl); (try simp only [Act.put, List.setIfInBounds_toArray]); (try dsimp only [List.set_cons_zero, List.set_cons_succ])
              refine seq_take HST (v := ?_) 27 107 rfl ?_ ?_; rotate_left; (intro w hSw; go_simp; try with_reducible rfl); (try simp only [Act.put, List.setIfInBounds_toArray]); (try dsimp only [List.set_cons_zero, List.set_cons_succ])
              refine seq_skip HST 28 108 rfl ?_; (try simp only [Act.put, List.setIfInBounds_toArray]); (try dsimp only [List.set_cons_zero, List.set_cons_succ])
              refine seq_skip HST 29 109 rfl ?_; (try simp only [Act.put, List.setIfInBounds_toArray]); (try dsimp only [List.set_cons_zero, List.set_cons_succ])
              refine seq_skip HST 30 110 rfl ?_; (try simp only [Act.put, List.setIfInBounds_toArray]); (try dsimp only [List.set_cons_zero, List.set_cons_succ])
              refine seq_skip HST 31 111 rfl ?_; (try simp only [Act.put, List.setIfInBounds_toArray]); (try dsimp only [List.set_cons_zero, List.set_cons_succ])
              refine seq_skip HST 32 112 rfl ?_; (try simp only [Act.put, List.setIfInBounds_toArray]); (try dsimp only [List.set_cons_zero, List.set_cons_succ])
              refine seq_skip HST 33 113 rfl ?_; (try simp only [Act.put, List.setIfInBounds_toArray]); (try dsimp only [List.set_cons_zero, List.set_cons_succ])
              refine seq_skip HST 34 114 rfl ?_; (try simp only [Act.put, List.setIfInBounds_toArray]); (try dsimp only [List.set_cons_zero, List.set_cons_succ])
              refine seq_skip HST 35 115 rfl ?_; (try simp only [Act.put, List.setIfInBounds_toArray]); (try dsimp only [List.set_cons_zero, List.set_cons_succ])
              refine seq_skip HST 36 116 rfl ?_; (try simp only [Act.put, List.setIfInBounds_toArray]); (try dsimp only [List.set_cons_zero, List.set_cons_succ])
              refine seq_skip HST 37 117 rfl ?_; (try simp only [Act.put, List.setIfInBounds_toArray]); (try dsimp only [List.set_cons_zero, List.set_cons_succ])
              refine seq_skip HST 38 118 rfl ?_; (try simp only [Act.put, List.setIfInBounds_toArray]); (try dsimp only [List.set_cons_zero, List.set_cons_succ])
              refine seq_take HST (v := ?_) 39 119 rfl ?_ ?_; rotate_left; (intro w hSw; go_simp; try with_reducible rfl); (try simp only [Act.put, List.setIfInBounds_toArray]); (try dsimp only [List.set_cons_zero, List.set_cons_succ])
              refine seq_take HST (v := ?_) 40 120 rfl ?_ ?_; rotate_left; (intro w hSw; go_simp; try with_reducible rfl); (try simp only [Act.put, List.setIfInBounds_toArray]); (try dsimp only [List.set_cons_zero, List.set_cons_succ])
              refine seq_take HST (v := ?_) 41 121 rfl ?_ ?_; rotate_left; (intro w hSw; go_simp; try with_reducible rfl); (try simp only [Act.put, List.setIfInBounds_toArray]); (try dsimp only [List.set_cons_zero, List.set_cons_succ])
              refine seq_take HST (v := ?_) 42 122 rfl ?_ ?_; rotate_left; (intro w hSw; go_simp; try with_reducible rfl); (try simp only [Act.put, List.setIfInBounds_toArray]); (try dsimp only [List.set_cons_zero, List.set_cons_succ])
              refine seq_take HST (v := ?_) 43 123 rfl ?_ ?_; rotate_left; (intro w hSw; go_simp; try with_reducible rfl); (try simp only [Act.put, List.setIfInBounds_toArray]); (try dsimp only [List.set_cons_zero, List.set_cons_succ])
              refine seq_take HST (v := ?_) 44 124 rfl ?_ ?_; rotate_left; (intro w hSw; go_simp; try with_reducible rfl); (try simp only [Act.put, List.setIfInBounds_toArray]); (try dsimp only [List.set_cons_zero, List.set_cons_succ])
              refine seq_skip HST 45 125 rfl ?_; (try simp only [Act.put, List.setIfInBounds_toArray]); (try dsimp only [List.set_cons_zero, List.set_cons_succ])
              refine seq_skip HST 46 126 rfl ?_; (try simp only [Act.put, List.setIfInBounds_toArray]); (try dsimp only [List.set_cons_zero, List.set_cons_succ])
              refine seq_skip HST 47 127 rfl ?_; (try simp only [Act.put, List.setIfInBounds_toArray]); (try dsimp only [List.set_cons_zero, List.set_cons_succ])
              refine seq_skip HST 48 128 rfl ?_; (try simp only [Act.put, List.setIfInBounds_toArray]); (try dsimp only [List.set_cons_zero, List.set_cons_succ])
              refine seq_skip HST 49 129 rfl ?_; (try simp only [Act.put, List.setIfInBounds_toArray]); (try dsimp only [List.set_cons_zero, List.set_cons_succ])
              refine seq_skip HST 50 130 rfl ?_; (try simp only [Act.put, List.setIfInBounds_toArray]); (try dsimp only [List.set_cons_zero, List.set_cons_succ])
              refine seq_skip HST 51 131 rfl ?_; (try simp only [Act.put, List.setIfInBounds_toArray]); (try dsimp only [List.set_cons_zero, List.set_cons_succ])
              refine seq_skip HST 52 132 rfl ?_; (try simp only [Act.put, List.setIfInBounds_toArray]); (try dsimp only [List.set_cons_zero, List.set_cons_succ])
              refine seq_skip HST 53 133 rfl ?_; (try simp only [Act.put, List.setIfInBounds_toArray]); (try dsimp only [List.set_cons_zero, List.set_cons_succ])
              refine seq_skip HST 54 134 rfl ?_; (try simp only [Act.put, List.setIfInBounds_toArray]); (try dsimp only [List.set_cons_zero, List.set_cons_succ])
              refine seq_take HST (v := ?_) 55 135 rfl ?_ ?_; rotate_left; (intro w hSw; go_simp; try with_reducible rfl); (try simp only [Act.put, List.setIfInBounds_toArray]); (try dsimp only [List.set_cons_zero, List.set_cons_succ])
              refine seq_take HST (v := ?_) 56 136 rfl ?_ ?_; rotate_left; (intro w hSw; go_simp; try with_reducible rfl); (try simp only [Act.put, List.setIfInBounds_toArray]); (try dsimp only [List.set_cons_zero, List.set_cons_succ])
              refine seq_take HST (v := ?_) 57 137 rfl ?_ ?_; rotate_left; (intro w hSw; go_simp; try with_reducible rfl); (try simp only [Act.put, List.setIfInBounds_toArray]); (try dsimp only [List.set_cons_zero, List.set_cons_succ])
              refine seq_take HST (v := ?_) 58 138 rfl ?_ ?_; rotate_left; (intro w hSw; go_simp; try with_reducible rfl); (try simp only [Act.put, List.setIfInBounds_toArray]); (try dsimp only [List.set_cons_zero, List.set_cons_succ])
              refine seq_take HST (v := ?_) 59 139 rfl ?_ ?_; rotate_left; (intro w hSw; go_simp; try with_reducible rfl); (try simp only [Act.put, List.setIfInBounds_toArray]); (try dsimp only [List.set_cons_zero, List.set_cons_succ])
              refine seq_take HST (v := ?_) 60 140 rfl ?_ ?_; rotate_left; (intro w hSw; go_simp; try with_reducible rfl); (try simp only [Act.put, List.setIfInBounds_toArray]); (try dsimp only [List.set_cons_zero, List.set_cons_succ])
              refine seq_take HST (v := ?_) 61 141 rfl ?_ ?_; rotate_left; (intro w hSw; go_simp; try with_reducible rfl); (try simp only [Act.put, List.setIfInBounds_toArray]); (try dsimp only [List.set_cons_zero, List.set_cons_succ])
              refine seq_call HST 62 142 rfl (by kernel_rfl) (fun K hK => ?_); go_simp; refine ((RD.out (by first | exact rfl | exact trivial)) _ (by assumption)).mono ?_; rintro e w9 ⟨rfl, hb9⟩; refine hK.out _ _ (held9 (by assumption) hb9) (fun hHeld9 => ?_); clear hK K hb9; (try simp only [Act.put, List.setIfInBounds_toArray]); (try dsimp only [List.set_cons_zero, List.set_cons_succ])
              refine seq_take HST (v := ?_) 63 143 rfl ?_ ?_; rotate_left; (intro w hSw; go_simp; try with_reducible rfl); (try simp only [Act.put, List.setIfInBounds_toArray]); (try dsimp only [List.set_cons_zero, List.set_cons_succ])
              refine seq_take HST (v := ?_) 64 144 rfl ?_ ?_; rotate_left; (intro w hSw; go_simp; try with_reducible rfl); (try simp only [Act.put, List.setIfInBounds_toArray]); (try dsimp only [List.set_cons_zero, List.set_cons_succ])
              refine seq_take HST (v := ?_) 65 145 rfl ?_ ?_; rotate_left; (intro w hSw; go_simp; try with_reducible rfl); (try simp only [Act.put, List.setIfInBounds_toArray]); (try dsimp only [List.set_cons_zero, List.set_cons_succ])
              refine seq_take HST (v := ?_) 66 146 rfl ?_ ?_; rotate_left; (intro w hSw; go_simp; try with_reducible rfl); (try simp only [Act.put, List.setIfInBounds_toArray]); (try dsimp only [List.set_cons_zero, List.set_cons_succ])
              refine seq_take HST (v := ?_) 67 147 rfl ?_ ?_; rotate_left; (intro w hSw; go_simp; try with_reducible rfl); (try simp only [Act.put, List.setIfInBounds_toArray]); (try dsimp only [List.set_cons_zero, List.set_cons_succ])
              refine seq_take HST (v := ?_) 68 148 rfl ?_ ?_; rotate_left; (intro w hSw; go_simp; try with_reducible rfl); (try simp only [Act.put, List.setIfInBounds_toArray]); (try dsimp only [List.set_cons_zero, List.set_cons_succ])
              refine seq_take HST (v := ?_) 69 149 rfl ?_ ?_; rotate_left; (intro w hSw; go_simp; try with_reducible rfl); (try simp only [Act.put, List.setIfInBounds_toArray]); (try dsimp only [List.set_cons_zero, List.set_cons_succ])
              refine seq_take HST (v := ?_) 70 150 rfl ?_ ?_; rotate_left; (intro w hSw; go_simp; try with_reducible rfl); (try simp only [Act.put, List.setIfInBounds_toArray]); (try dsimp only [List.set_cons_zero, List.set_cons_succ])
              refine seq_take HST (v := ?_) 71 151 rfl ?_ ?_; rotate_left; (intro w hSw; go_simp; try with_reducible rfl); (try simp only [Act.put, List.setIfInBounds_toArray]); (try dsimp only [List.set_cons_zero, List.set_cons_succ])
              refine seq_take HST (v := ?_) 72 152 rfl ?_ ?_; rotate_left; (intro w hSw; go_simp; try with_reducible rfl); (try simp only [Act.put, List.setIfInBounds_toArray]); (try dsimp only [List.set_cons_zero, List.set_cons_succ])
              refine seq_done (by kernel_rfl) ?_
              go_wp2_with fail
              go_meet
              exact ⟨by first | rfl | simp, by assumption⟩
        · cases b3
          · have y4 := X2.out rfl
            clear X0 X1 X2 X3
            as_aux_lemma =>
              refine seq_take HST (v := ?_) 0 80 rfl ?_ ?_; rotate_left; (intro w hSw; go_simp; try with_reducible rfl); (try simp only [Act.put, List.setIfInBounds_toArray]); (try dsimp only [List.set_cons_zero, List.set_cons_succ])
              refine seq_take HST (v := ?_) 1 81 rfl ?_ ?_; rotate_left; (intro w hSw; go_simp; try with_reducible rfl); (try simp only [Act.put, List.setIfInBounds_toArray]); (try dsimp only [List.set_cons_zero, List.set_cons_succ])
              refine seq_take HST (v := ?_) 2 82 rfl ?_ ?_; rotate_left; (intro w hSw; go_simp; try with_reducible rfl); (try simp only [Act.put, List.setIfInBounds_toArray]); (try dsimp only [List.set_cons_zero, List.set_cons_succ])
              refine seq_skip HST 3 83 rfl ?_; (try simp only [Act.put, List.setIfInBounds_toArray]); (try dsimp only [List.set_cons_zero, List.set_cons_succ])
              refine seq_skip HST 4 84 rfl ?_; (try simp only [Act.put, List.setIfInBounds_toArray]); (try dsimp only [List.set_cons_zero, List.set_cons_succ])
              refine seq_skip HST 5 85 rfl ?_; (try simp only [Act.put, List.setIfInBounds_toArray]); (try dsimp only [List.set_cons_zero, List.set_cons_succ])
              refine seq_skip HST 6 86 rfl ?_; (try simp only [Act.put, List.setIfInBounds_toArray]); (try dsimp only [List.set_cons_zero, List.set_cons_succ])
              refine seq_skip HST 7 87 rfl ?_; (try simp only [Act.put, List.setIfInBounds_toArray]); (try dsimp only [List.set_cons_zero, List.set_cons_succ])
              refine seq_skip HST 8 88 rfl ?_; (try simp only [Act.put, List.setIfInBounds_toArray]); (try dsimp only [List.set_cons_zero, List.set_cons_succ])
              refine seq_skip HST 9 89 rfl ?_; (try simp only [Act.put, List.setIfInBounds_toArray]); (try dsimp only [List.set_cons_zero, List.set_cons_succ])
              refine seq_skip HST 10 90 rfl ?_; (try simp only [Act.put, List.setIfInBounds_toArray]); (try dsimp only [List.set_cons_zero, List.set_cons_succ])
              refine seq_skip HST 11 91 rfl ?_; (try simp only [Act.put, List.setIfInBounds_toArray]); (try dsimp only [List.set_cons_zero, List.set_cons_succ])
              refine seq_skip HST 12 92 rfl ?_; (try simp only [Act.put, List.setIfInBounds_toArray]); (try dsimp only [List.set_cons_zero, List.set_cons_succ])
              refine seq_skip HST 13 93 rfl ?_; (try simp only [Act.put, List.setIfInBounds_toArray]); (try dsimp only [List.set_cons_zero, List.set_cons_succ])
              refine seq_skip HST 14 94 rfl ?_; (try simp only [Act.put, List.setIfInBounds_toArray]); (try dsimp only [List.set_cons_zero, List.set_cons_succ])
              refine seq_skip HST 15 95 rfl ?_; (try simp only [Act.put, List.setIfInBounds_toArray]); (try dsimp only [List.set_cons_zero, List.set_cons_succ])
              refine seq_skip HST 16 96 rfl ?_; (try simp only [Act.put, List.setIfInBounds_toArray]); (try dsimp only [List.set_cons_zero, List.set_cons_succ])
              refine seq_skip HST 17 97 rfl ?_; (try simp only [Act.put, List.setIfInBounds_toArray]); (try dsimp only [List.set_cons_zero, List.set_cons_succ])
              refine seq_skip HST 18 98 rfl ?_; (try simp only [Act.put, List.setIfInBounds_toArray]); (try dsimp only [List.set_cons_zero, List.set_cons_succ])
              refine seq_skip HST 19 99 rfl ?_; (try simp only [Act.put, List.setIfInBounds_toArray]); (try dsimp only [List.set_cons_zero, List.set_cons_succ])
              refine seq_skip HST 20 100 rfl ?_; (try simp only [Act.put, List.setIfInBounds_toArray]); (try dsimp only [List.set_cons_zero, List.set_cons_succ])
              refine seq_skip HST 21 101 rfl ?_; (try simp only [Act.put, List.setIfInBounds_toArray]); (try dsimp only [List.set_cons_zero, List.set_cons_succ])
              refine seq_skip HST 22 102 rfl ?_; (try simp only [Act.put, List.setIfInBounds_toArray]); (try dsimp only [List.set_cons_zero, List.set_cons_succ])
              refine seq_take HST (v := ?_) 23 103 rfl ?_ ?_; rotate_left; (intro w hSw; go_simp; try with_reducible rfl); (try simp only [Act.put, List.setIfInBounds_toArray]); (try dsimp only [List.set_cons_zero, List.set_cons_succ])
              refine seq_take HST (v := ?_) 24 104 rfl ?_ ?_; rotate_left; (intro w hSw; go_simp; try with_reducible rfl); (try simp only [Act.put, List.setIfInBounds_toArray]); (try dsimp only [List.set_cons_zero, List.set_cons_succ])
              refine seq_take HST (v := ?_) 25 105 rfl ?_ ?_; rotate_left; (intro w hSw; go_simp; try with_reducible rfl); (try simp only [Act.put, List.setIfInBounds_toArray]); (try dsimp only [List.set_cons_zero, List.set_cons_succ])
              refine seq_take HST (v := ?_) 26 106 rfl ?_ ?_; rotate_left; (intro w hSw; go_simp; try with_reducible rfl); (try simp only [Act.put, List.setIfInBounds_toArray]); (try dsimp only [List.set_cons_zero, List.set_cons_succ])
              refine seq_take HST (v := ?_) 27 107 rfl ?_ ?_; rotate_left; (intro w hSw; go_simp; try with_reducible rfl); (try simp only [Act.put, List.setIfInBounds_toArray]); (try dsimp only [List.set_cons_zero, List.set_cons_succ])
              refine seq_skip HST 28 108 rfl ?_; (try simp only [Act.put, List.setIfInBounds_toArray]); (try dsimp only [List.set_cons_zero, List.set_cons_succ])
              refine seq_skip HST 29 109 rfl ?_; (try simp only [Act.put, List.setIfInBounds_toArray]); (try dsimp only [List.set_cons_zero, List.set_cons_succ])
              refine seq_skip HST 30 110 rfl ?_; (try simp only [Act.put, List.setIfInBounds_toArray]); (try dsimp only [List.set_cons_zero, List.set_cons_succ])
              refine seq_skip HST 31 111 rfl ?_; (try simp only [Act.put, List.setIfInBounds_toArray]); (try dsimp only [List.set_cons_zero, List.set_cons_succ])
              refine seq_skip HST 32 112 rfl ?_; (try simp only [Act.put, List.setIfInBounds_toArray]); (try dsimp only [List.set_cons_zero, List.set_cons_succ])
              refine seq_skip HST 33 113 rfl ?_; (try simp only [Act.put, List.setIfInBounds_toArray]); (try dsimp only [List.set_cons_zero, List.set_cons_succ])
              refine seq_skip HST 34 114 rfl ?_; (try simp only [Act.put, List.setIfInBounds_toArray]); (try dsimp only [List.set_cons_zero, List.set_cons_succ])
              refine seq_skip HST 35 115 rfl ?_; (try simp only [Act.put, List.setIfInBounds_toArray]); (try dsimp only [List.set_cons_zero, List.set_cons_succ])
              refine seq_skip HST 36 116 rfl ?_; (try simp only [Act.put, List.setIfInBounds_toArray]); (try dsimp only [List.set_cons_zero, List.set_cons_succ])
              refine seq_skip HST 37 117 rfl ?_; (try simp only [Act.put, List.setIfInBounds_toArray]); (try dsimp only [List.set_cons_zero, List.set_cons_succ])
              refine seq_skip HST 38 118 rfl ?_; (try simp only [Act.put, List.setIfInBounds_toArray]); (try dsimp only [List.set_cons_zero, List.set_cons_succ])
              refine seq_take HST (v := ?_) 39 119 rfl ?_ ?_; rotate_left; (intro w hSw; go_simp; try with_reducible rfl); (try simp only [Act.put, List.setIfInBounds_toArray]); (try dsimp only [List.set_cons_zero, List.set_cons_succ])
              refine seq_take HST (v := ?_) 40 120 rfl ?_ ?_; rotate_left; (intro w hSw; go_simp; try with_reducible rfl); (try simp only [Act.put, List.setIfInBounds_toArray]); (try dsimp only [List.set_cons_zero, List.set_cons_succ])
              refine seq_take HST (v := ?_) 41 121 rfl ?_ ?_; rotate_left; (intro w hSw; go_simp; try with_reducible rfl); (try simp only [Act.put, List.setIfInBounds_toArray]); (try dsimp only [List.set_cons_zero, List.set_cons_succ])
              refine seq_take HST (v := ?_) 42 122 rfl ?_ ?_; rotate_left; (intro w hSw; go_simp; try with_reducible rfl); (try simp only [Act.put, List.setIfInBounds_toArray]); (try dsimp only [List.set_cons_zero, List.set_cons_succ])
              refine seq_take HST (v := ?_) 43 123 rfl ?_ ?_; rotate_left; (intro w hSw; go_simp; try with_reducible rfl); (try simp only [Act.put, List.setIfInBounds_toArray]); (try dsimp only [List.set_cons_zero, List.set_cons_succ])
              refine seq_take HST (v := ?_) 44 124 rfl ?_ ?_; rotate_left; (intro w hSw; go_simp; try with_reducible rfl); (try simp only [Act.put, List.setIfInBounds_toArray]); (try dsimp only [List.set_cons_zero, List.set_cons_succ])
              refine seq_take HST (v := ?_) 45 125 rfl ?_ ?_; rotate_left; (intro w hSw; go_simp; try with_reducible rfl); (try simp only [Act.put, List.setIfInBounds_toArray]); (try dsimp only [List.set_cons_zero, List.set_cons_succ])
              refine seq_call HST 46 126 rfl (by kernel_rfl) (fun K hK => ?_); go_simp; refine ((RC.out (by first | exact rfl | exact trivial)) _ (by assumption)).mono ?_; rintro e w9 ⟨rfl, hb9⟩; refine hK.out _ _ (held9 (by assumption) hb9) (fun hHeld9 => ?_); clear hK K hb9; (try simp only [Act.put, List.setIfInBounds_toArray]); (try dsimp only [List.set_cons_zero, List.set_cons_succ])
              refine seq_take HST (v := ?_) 47 127 rfl ?_ ?_; rotate_left; (intro w hSw; go_simp; try with_reducible rfl); (try simp only [Act.put, List.setIfInBounds_toArray]); (try dsimp only [List.set_cons_zero, List.set_cons_succ])
              refine seq_take HST (v := ?_) 48 128 rfl ?_ ?_; rotate_left; (intro w hSw; go_simp; try with_reducible rfl); (try simp only [Act.put, List.setIfInBounds_toArray]); (try dsimp only [List.set_cons_zero, List.set_cons_succ])
              refine seq_take HST (v := ?_) 49 129 rfl ?_ ?_; rotate_left; (intro w hSw; go_simp; try with_reducible rfl); (try simp only [Act.put, List.setIfInBounds_toArray]); (try dsimp only [List.set_cons_zero, List.set_cons_succ])
              refine seq_take HST (v := ?_) 50 130 rfl ?_ ?_; rotate_left; (intro w hSw; go_simp; try with_reducible rfl); (try simp only [Act.put, List.setIfInBounds_toArray]); (try dsimp only [List.set_cons_zero, List.set_cons_succ])
              refine seq_take HST (v := ?_) 51 131 rfl ?_ ?_; rotate_left; (intro w hSw; go_simp; try with_reducible rfl); (try simp only [Act.put, List.setIfInBounds_toArray]); (try dsimp only [List.set_cons_zero, List.set_cons_succ])
              refine seq_take HST (v := ?_) 52 132 rfl ?_ ?_; rotate_left; (intro w hSw; go_simp; try with_reducible rfl); (try simp only [Act.put, List.setIfInBounds_toArray]); (try dsimp only [List.set_cons_zero, List.set_cons_succ])
              refine seq_take HST (v := ?_) 53 133 rfl ?_ ?_; rotate_left; (intro w hSw; go_simp; try with_reducible rfl); (try simp only [Act.put, List.setIfInBounds_toArray]); (try dsimp only [List.set_cons_zero, List.set_cons_succ])
              refine seq_take HST (v := ?_) 54 134 rfl ?_ ?_; rotate_left; (intro w hSw; go_simp; try with_reducible rfl); (try simp only [Act.put, List.setIfInBounds_toArray]); (try dsimp only [List.set_cons_zero, List.set_cons_succ])
              refine seq_take HST (v := ?_) 55 135 rfl ?_ ?_; rotate_left; (intro w hSw; go_simp; try with_reducible rfl); (try simp only [Act.put, List.setIfInBounds_toArray]); (try dsimp only [List.set_cons_zero, List.set_cons_succ])
              refine seq_take HST (v := ?_) 56 136 rfl ?_ ?_; rotate_left; (intro w hSw; go_simp; try with_reducible rfl); (try simp only [Act.put, List.setIfInBounds_toArray]); (try dsimp only [List.set_cons_zero, List.set_cons_succ])
              refine seq_take HST (v := ?_) 57 137 rfl ?_ ?_; rotate_left; (intro w hSw; go_simp; try with_reducible rfl); (try simp only [Act.put, List.setIfInBounds_toArray]); (try dsimp only [List.set_cons_zero, List.set_cons_succ])
              refine seq_take HST (v := ?_) 58 138 rfl ?_ ?_; rotate_left; (intro w hSw; go_simp; try with_reducible rfl); (try simp only [Act.put, List.setIfInBounds_toArray]); (try dsimp only [List.set_cons_zero, List.set_cons_succ])
              refine seq_take HST (v := ?_) 59 139 rfl ?_ ?_; rotate_left; (intro w hSw; go_simp; try with_reducible rfl); (try simp only [Act.put, List.setIfInBounds_toArray]); (try dsimp only [List.set_cons_zero, List.set_cons_succ])
              refine seq_take HST (v := ?_) 60 140 rfl ?_ ?_; rotate_left; (intro w hSw; go_simp; try with_reducible rfl); (try simp only [Act.put, List.setIfInBounds_toArray]); (try dsimp only [List.set_cons_zero, List.set_cons_succ])
              refine seq_skip HST 61 141 rfl ?_; (try simp only [Act.put, List.setIfInBounds_toArray]); (try dsimp only [List.set_cons_zero, List.set_cons_succ])
              refine seq_skip HST 62 142 rfl ?_; (try simp only [Act.put, List.setIfInBounds_toArray]); (try dsimp only [List.set_cons_zero, List.set_cons_succ])
              refine seq_skip HST 63 143 rfl ?_; (try simp only [Act.put, List.setIfInBounds_toArray]); (try dsimp only [List.set_cons_zero, List.set_cons_succ])
              refine seq_skip HST 64 144 rfl ?_; (try simp only [Act.put, List.setIfInBounds_toArray]); (try dsimp only [List.set_cons_zero, List.set_cons_succ])
              refine seq_skip HST 65 145 rfl ?_; (try simp only [Act.put, List.setIfInBounds_toArray]); (try dsimp only [List.set_cons_zero, List.set_cons_succ])
              refine seq_skip HST 66 146 rfl ?_; (try simp only [Act.put, List.setIfInBounds_toArray]); (try dsimp only [List.set_cons_zero, List.set_cons_succ])
              refine seq_skip HST 67 147 rfl ?_; (try simp only [Act.put, List.setIfInBounds_toArray]); (try dsimp only [List.set_cons_zero, List.set_cons_succ])
              refine seq_skip HST 68 148 rfl ?_; (try simp only [Act.put, List.setIfInBounds_toArray]); (try dsimp only [List.set_cons_zero, List.set_cons_succ])
              refine seq_skip HST 69 149 rfl ?_; (try simp only [Act.put, List.setIfInBounds_toArray]); (try dsimp only [List.set_cons_zero, List.set_cons_succ])
              refine seq_skip HST 70 150 rfl ?_; (try simp only [Act.put, List.setIfInBounds_toArray]); (try dsimp only [List.set_cons_zero, List.set_cons_succ])
              refine seq_take HST (v := ?_) 71 151 rfl ?_ ?_; rotate_left; (intro w hSw; go_simp; try with_reducible rfl); (try simp only [Act.put, List.setIfInBounds_toArray]); (try dsimp only [List.set_cons_zero, List.set_cons_succ])
              refine seq_take HST (v := ?_) 72 152 rfl ?_ ?_; rotate_left; (intro w hSw; go_simp; try with_reducible rfl); (try simp only [Act.put, List.setIfInBounds_toArray]); (try dsimp only [List.set_cons_zero, List.set_cons_succ])
              refine seq_done (by kernel_rfl) ?_
              go_wp2_with fail
              go_meet
              exact ⟨by first | rfl | simp, by assumption⟩
          · have y4 := X2.out rfl
            have y5 := X3.out rfl
            clear X0 X1 X2 X3
            as_aux_lemma =>
              refine seq_take HST (v := ?_) 0 80 rfl ?_ ?_; rotate_left; (intro w hSw; go_simp; try with_reducible rfl); (try simp only [Act.put, List.setIfInBounds_toArray]); (try dsimp only [List.set_cons_zero, List.set_cons_succ])
              refine seq_take HST (v := ?_) 1 81 rfl ?_ ?_; rotate_left; (intro w hSw; go_simp; try with_reducible rfl); (try simp only [Act.put, List.setIfInBounds_toArray]); (try dsimp only [List.set_cons_zero, List.set_cons_succ])
              refine seq_take HST (v := ?_) 2 82 rfl ?_ ?_; rotate_left; (intro w hSw; go_simp; try with_reducible rfl); (try simp only [Act.put, List.setIfInBounds_toArray]); (try dsimp only [List.set_cons_zero, List.set_cons_succ])
              refine seq_skip HST 3 83 rfl ?_; (try simp only [Act.put, List.setIfInBounds_toArray]); (try dsimp only [List.set_cons_zero, List.set_cons_succ])
              refine seq_skip HST 4 84 rfl ?_; (try simp only [Act.put, List.setIfInBounds_toArray]); (try dsimp only [List.set_cons_zero, List.set_cons_succ])
              refine seq_skip HST 5 85 rfl ?_; (try simp only [Act.put, List.setIfInBounds_toArray]); (try dsimp only [List.set_cons_zero, List.set_cons_succ])
              refine seq_skip HST 6 86 rfl ?_; (try simp only [Act.put, List.setIfInBounds_toArray]); (try dsimp only [List.set_cons_zero, List.set_cons_succ])
              refine seq_skip HST 7 87 rfl ?_; (try simp only [Act.put, List.setIfInBounds_toArray]); (try dsimp only [List.set_cons_zero, List.set_cons_succ])
              refine seq_skip HST 8 88 rfl ?_; (try simp only [Act.put, List.setIfInBounds_toArray]); (try dsimp only [List.set_cons_zero, List.set_cons_succ])
              refine seq_skip HST 9 89 rfl ?_; (try simp only [Act.put, List.setIfInBounds_toArray]); (try dsimp only [List.set_cons_zero, List.set_cons_succ])
              refine seq_skip HST 10 90 rfl ?_; (try simp only [Act.put, List.setIfInBounds_toArray]); (try dsimp only [List.set_cons_zero, List.set_cons_succ])
              refine seq_skip HST 11 91 rfl ?_; (try simp only [Act.put, List.setIfInBounds_toArray]); (try dsimp only [List.set_cons_zero, List.set_cons_succ])
              refine seq_skip HST 12 92 rfl ?_; (try simp only [Act.put, List.setIfInBounds_toArray]); (try dsimp only [List.set_cons_zero, List.set_cons_succ])
              refine seq_skip HST 13 93 rfl ?_; (try simp only [Act.put, List.setIfInBounds_toArray]); (try dsimp only [List.set_cons_zero, List.set_cons_succ])
              refine seq_skip HST 14 94 rfl ?_; (try simp only [Act.put, List.setIfInBounds_toArray]); (try dsimp only [List.set_cons_zero, List.set_cons_succ])
              refine seq_skip HST 15 95 rfl ?_; (try simp only [Act.put, List.setIfInBounds_toArray]); (try dsimp only [List.set_cons_zero, List.set_cons_succ])
              refine seq_skip HST 16 96 rfl ?_; (try simp only [Act.put, List.setIfInBounds_toArray]); (try dsimp only [List.set_cons_zero, List.set_cons_succ])
              refine seq_skip HST 17 97 rfl ?_; (try simp only [Act.put, List.setIfInBounds_toArray]); (try dsimp only [List.set_cons_zero, List.set_cons_succ])
              refine seq_skip HST 18 98 rfl ?_; (try simp only [Act.put, List.setIfInBounds_toArray]); (try dsimp only [List.set_cons_zero, List.set_cons_succ])
              refine seq_skip HST 19 99 rfl ?_; (try simp only [Act.put, List.setIfInBounds_toArray]); (try dsimp only [List.set_cons_zero, List.set_cons_succ])
              refine seq_skip HST 20 100 rfl ?_; (try simp only [Act.put, List.setIfInBounds_toArray]); (try dsimp only [List.set_cons_zero, List.set_cons_succ])
              refine seq_skip HST 21 101 rfl ?_; (try simp only [Act.put, List.setIfInBounds_toArray]); (try dsimp only [List.set_cons_zero, List.set_cons_succ])
              refine seq_skip HST 22 102 rfl ?_; (try simp only [Act.put, List.setIfInBounds_toArray]); (try dsimp only [List.set_cons_zero, List.set_cons_succ])
              refine seq_take HST (v := ?_) 23 103 rfl ?_ ?_; rotate_left; (intro w hSw; go_simp; try with_reducible rfl); (try simp only [Act.put, List.setIfInBounds_toArray]); (try dsimp only [List.set_cons_zero, List.set_cons_succ])
              refine seq_take HST (v := ?_) 24 104 rfl ?_ ?_; rotate_left; (intro w hSw; go_simp; try with_reducible rfl); (try simp only [Act.put, List.setIfInBounds_toArray]); (try dsimp only [List.set_cons_zero, List.set_cons_succ])
              refine seq_take HST (v := ?_) 25 105 rfl ?_ ?_; rotate_left; (intro w hSw; go_simp; try with_reducible rfl); (try simp only [Act.put, List.setIfInBounds_toArray]); (try dsimp only [List.set_cons_zero, List.set_cons_succ])
              refine seq_take HST (v := ?_) 26 106 rfl ?_ ?_; rotate_left; (intro w hSw; go_simp; try with_reducible rfl); (try simp only [Act.put, List.setIfInBounds_toArray]); (try dsimp only [List.set_cons_zero, List.set_cons_succ])
              refine seq_take HST (v := ?_) 27 107 rfl ?_ ?_; rotate_left; (intro w hSw; go_simp; try with_reducible rfl); (try simp only [Act.put, List.setIfInBounds_toArray]); (try dsimp only [List.set_cons_zero, List.set_cons_succ])
              refine seq_skip HST 28 108 rfl ?_; (try simp only [Act.put, List.setIfInBounds_toArray]); (try dsimp only [List.set_cons_zero, List.set_cons_succ])
              refine seq_skip HST 29 109 rfl ?_; (try simp only [Act.put, List.setIfInBounds_toArray]); (try dsimp only [List.set_cons_zero, List.set_cons_succ])
              refine seq_skip HST 30 110 rfl ?_; (try simp only [Act.put, List.setIfInBounds_toArray]); (try dsimp only [List.set_cons_zero, List.set_cons_succ])
              refine seq_skip HST 31 111 rfl ?_; (try simp only [Act.put, List.setIfInBounds_toArray]); (try dsimp only [List.set_cons_zero, List.set_cons_succ])
              refine seq_skip HST 32 112 rfl ?_; (try simp only [Act.put, List.setIfInBounds_toArray]); (try dsimp only [List.set_cons_zero, List.set_cons_succ])
              refine seq_skip HST 33 113 rfl ?_; (try simp only [Act.put, List.setIfInBounds_toArray]); (try dsimp only [List.set_cons_zero, List.set_cons_succ])
              refine seq_skip HST 34 114 rfl ?_; (try simp only [Act.put, List.setIfInBounds_toArray]); (try dsimp only [List.set_cons_zero, List.set_cons_succ])
              refine seq_skip HST 35 115 rfl ?_; (try simp only [Act.put, List.setIfInBounds_toArray]); (try dsimp only [List.set_cons_zero, List.set_cons_succ])
              refine seq_skip HST 36 116 rfl ?_; (try simp only [Act.put, List.setIfInBounds_toArray]); (try dsimp only [List.set_cons_zero, List.set_cons_succ])
              refine seq_skip HST 37 117 rfl ?_; (try simp only [Act.put, List.setIfInBounds_toArray]); (try dsimp only [List.set_cons_zero, List.set_cons_succ])
              refine seq_skip HST 38 118 rfl ?_; (try simp only [Act.put, List.setIfInBounds_toArray]); (try dsimp only [List.set_cons_zero, List.set_cons_succ])
              refine seq_take HST (v := ?_) 39 119 rfl ?_ ?_; rotate_left; (intro w hSw; go_simp; try with_reducible rfl); (try simp only [Act.put, List.setIfInBounds_toArray]); (try dsimp only [List.set_cons_zero, List.set_cons_succ])
              refine seq_take HST (v := ?_) 40 120 rfl ?_ ?_; rotate_left; (intro w hSw; go_simp; try with_reducible rfl); (try simp only [Act.put, List.setIfInBounds_toArray]); (try dsimp only [List.set_cons_zero, List.set_cons_succ])
              refine seq_take HST (v := ?_) 41 121 rfl ?_ ?_; rotate_left; (intro w hSw; go_simp; try with_reducible rfl); (try simp only [Act.put, List.setIfInBounds_toArray]); (try dsimp only [List.set_cons_zero, List.set_cons_succ])
              refine seq_take HST (v := ?_) 42 122 rfl ?_ ?_; rotate_left; (intro w hSw; go_simp; try with_reducible rfl); (try simp only [Act.put, List.setIfInBounds_toArray]); (try dsimp only [List.set_cons_zero, List.set_cons_succ])
              refine seq_take HST (v := ?_) 43 123 rfl ?_ ?_; rotate_left; (intro w hSw; go_simp; try with_reducible rfl); (try simp only [Act.put, List.setIfInBounds_toArray]); (try dsimp only [List.set_cons_zero, List.set_cons_succ])
              refine seq_take HST (v := ?_) 44 124 rfl ?_ ?_; rotate_left; (intro w hSw; go_simp; try with_reducible rfl); (try simp only [Act.put, List.setIfInBounds_toArray]); (try dsimp only [List.set_cons_zero, List.set_cons_succ])
              refine seq_take HST (v := ?_) 45 125 rfl ?_ ?_; rotate_left; (intro w hSw; go_simp; try with_reducible rfl); (try simp only [Act.put, List.setIfInBounds_toArray]); (try dsimp only [List.set_cons_zero, List.set_cons_succ])
              refine seq_call HST 46 126 rfl (by kernel_rfl) (fun K hK => ?_); go_simp; refine ((RC.out (by first | exact rfl | exact trivial)) _ (by assumption)).mono ?_; rintro e w9 ⟨rfl, hb9⟩; refine hK.out _ _ (held9 (by assumption) hb9) (fun hHeld9 => ?_); clear hK K hb9; (try simp only [Act.put, List.setIfInBounds_toArray]); (try dsimp only [List.set_cons_zero, List.set_cons_succ])
              refine seq_take HST (v := ?_) 47 127 rfl ?_ ?_; rotate_left; (intro w hSw; go_simp; try with_reducible rfl); (try simp only [Act.put, List.setIfInBounds_toArray]); (try dsimp only [List.set_cons_zero, List.set_cons_succ])
              refine seq_take HST (v := ?_) 48 128 rfl ?_ ?_; rotate_left; (intro w hSw; go_simp; try with_reducible rfl); (try simp only [Act.put, List.setIfInBounds_toArray]); (try dsimp only [List.set_cons_zero, List.set_cons_succ])
              refine seq_take HST (v := ?_) 49 129 rfl ?_ ?_; rotate_left; (intro w hSw; go_simp; try with_reducible rfl); (try simp only [Act.put, List.setIfInBounds_toArray]); (try dsimp only [List.set_cons_zero, List.set_cons_succ])
              refine seq_take HST (v := ?_) 50 130 rfl ?_ ?_; rotate_left; (intro w hSw; go_simp; try with_reducible rfl); (try simp only [Act.put, List.setIfInBounds_toArray]); (try dsimp only [List.set_cons_zero, List.set_cons_succ])
              refine seq_take HST (v := ?_) 51 131 rfl ?_ ?_; rotate_left; (intro w hSw; go_simp; try with_reducible rfl); (try simp only [Act.put, List.setIfInBounds_toArray]); (try dsimp only [List.set_cons_zero, List.set_cons_succ])
              refine seq_take HST (v := ?_) 52 132 rfl ?_ ?_; rotate_left; (intro w hSw; go_simp; try with_reducible rfl); (try simp only [Act.put, List.setIfInBounds_toArray]); (try dsimp only [List.set_cons_zero, List.set_cons_succ])
              refine seq_take HST (v := ?_) 53 133 rfl ?_ ?_; rotate_left; (intro w hSw; go_simp; try with_reducible rfl); (try simp only [Act.put, List.setIfInBounds_toArray]); (try dsimp only [List.set_cons_zero, List.set_cons_succ])
              refine seq_take HST (v := ?_) 54 134 rfl ?_ ?_; rotate_left; (intro w hSw; go_simp; try with_reducible rfl); (try simp only [Act.put, List.setIfInBounds_toArray]); (try dsimp only [List.set_cons_zero, List.set_cons_succ])
              refine seq_take HST (v := ?_) 55 135 rfl ?_ ?_; rotate_left; (intro w hSw; go_simp; try with_reducible rfl); (try simp only [Act.put, List.setIfInBounds_toArray]); (try dsimp only [List.set_cons_zero, List.set_cons_succ])
              refine seq_take HST (v := ?_) 56 136 rfl ?_ ?_; rotate_left; (intro w hSw; go_simp; try with_reducible rfl); (try simp only [Act.put, List.setIfInBounds_toArray]); (try dsimp only [List.set_cons_zero, List.set_cons_succ])
              refine seq_take HST (v := ?_) 57 137 rfl ?_ ?_; rotate_left; (intro w hSw; go_simp; try with_reducible rfl); (try simp only [Act.put, List.setIfInBounds_toArray]); (try dsimp only [List.set_cons_zero, List.set_cons_succ])
              refine seq_take HST (v := ?_) 58 138 rfl ?_ ?_; rotate_left; (intro w hSw; go_simp; try with_reducible rfl); (try simp only [Act.put, List.setIfInBounds_toArray]); (try dsimp only [List.set_cons_zero, List.set_cons_succ])
              refine seq_take HST (v := ?_) 59 139 rfl ?_ ?_; rotate_left; (intro w hSw; go_simp; try with_reducible rfl); (try simp only [Act.put, List.setIfInBounds_toArray]); (try dsimp only [List.set_cons_zero, List.set_cons_succ])
              refine seq_take HST (v := ?_) 60 140 rfl ?_ ?_; rotate_left; (intro w hSw; go_simp; try with_reducible rfl); (try simp only [Act.put, List.setIfInBounds_toArray]); (try dsimp only [List.set_cons_zero, List.set_cons_succ])
              refine seq_take HST (v := ?_) 61 141 rfl ?_ ?_; rotate_left; (intro w hSw; go_simp; try with_reducible rfl); (try simp only [Act.put, List.setIfInBounds_toArray]); (try dsimp only [List.set_cons_zero, List.set_cons_succ])
              refine seq_call HST 62 142 rfl (by kernel_rfl) (fun K hK => ?_); go_simp; refine ((RD.out (by first | exact rfl | exact trivial)) _ (by assumption)).mono ?_; rintro e w9 ⟨rfl, hb9⟩; refine hK.out _ _ (held9 (by assumption) hb9) (fun hHeld9 => ?_); clear hK K hb9; (try simp only [Act.put, List.setIfInBounds_toArray]); (try dsimp only [List.set_cons_zero, List.set_cons_succ])
              refine seq_take HST (v := ?_) 63 143 rfl ?_ ?_; rotate_left; (intro w hSw; go_simp; try with_reducible rfl); (try simp only [Act.put, List.setIfInBounds_toArray]); (try dsimp only [List.set_cons_zero, List.set_cons_succ])
              refine seq_take HST (v := ?_) 64 144 rfl ?_ ?_; rotate_left; (intro w hSw; go_simp; try with_reducible rfl); (try simp only [Act.put, List.setIfInBounds_toArray]); (try dsimp only [List.set_cons_zero, List.set_cons_succ])
              refine seq_take HST (v := ?_) 65 145 rfl ?_ ?_; rotate_left; (intro w hSw; go_simp; try with_reducible rfl); (try simp only [Act.put, List.setIfInBounds_toArray]); (try dsimp only [List.set_cons_zero, List.set_cons_succ])
              refine seq_take HST (v := ?_) 66 146 rfl ?_ ?_; rotate_left; (intro w hSw; go_simp; try with_reducible rfl); (try simp only [Act.put, List.setIfInBounds_toArray]); (try dsimp only [List.set_cons_zero, List.set_cons_succ])
              refine seq_take HST (v := ?_) 67 147 rfl ?_ ?_; rotate_left; (intro w hSw; go_simp; try with_reducible rfl); (try simp only [Act.put, List.setIfInBounds_toArray]); (try dsimp only [List.set_cons_zero, List.set_cons_succ])
              refine seq_take HST (v := ?_) 68 148 rfl ?_ ?_; rotate_left; (intro w hSw; go_simp; try with_reducible rfl); (try simp only [Act.put, List.setIfInBounds_toArray]); (try dsimp only [List.set_cons_zero, List.set_cons_succ])
              refine seq_take HST (v := ?_) 69 149 rfl ?_ ?_; rotate_left; (intro w hSw; go_simp; try with_reducible rfl); (try simp only [Act.put, List.setIfInBounds_toArray]); (try dsimp only [List.set_cons_zero, List.set_cons_succ])
              refine seq_take HST (v := ?_) 70 150 rfl ?_ ?_; rotate_left; (intro w hSw; go_simp; try with_reducible rfl); (try simp only [Act.put, List.setIfInBounds_toArray]); (try dsimp only [List.set_cons_zero, List.set_cons_succ])
              refine seq_take HST (v := ?_) 71 151 rfl ?_ ?_; rotate_left; (intro w hSw; go_simp; try with_reducible rfl); (try simp only [Act.put, List.setIfInBounds_toArray]); (try dsimp only [List.set_cons_zero, List.set_cons_succ])
              refine seq_take HST (v := ?_) 72 152 rfl ?_ ?_; rotate_left; (intro w hSw; go_simp; try with_reducible rfl); (try simp only [Act.put, List.setIfInBounds_toArray]); (try dsimp only [List.set_cons_zero, List.set_cons_succ])
              refine seq_done (by kernel_rfl) ?_
              go_wp2_with fail
              go_meet
              exact ⟨by first | rfl | simp, by assumption⟩
      · cases b2
        · cases b3
          · obtain ⟨y2, y3⟩ := X1.out rfl
            clear X0 X1 X2 X3
            as_aux_lemma =>
              refine seq_take HST (v := ?_) 0 80 rfl ?_ ?_; rotate_left; (intro w hSw; go_simp; try with_reducible rfl); (try simp only [Act.put, List.setIfInBounds_toArray]); (try dsimp only [List.set_cons_zero, List.set_cons_succ])
              refine seq_take HST (v := ?_) 1 81 rfl ?_ ?_; rotate_left; (intro w hSw; go_simp; try with_reducible rfl); (try simp only [Act.put, List.setIfInBounds_toArray]); (try dsimp only [List.set_cons_zero, List.set_cons_succ])
              refine seq_take HST (v := ?_) 2 82 rfl ?_ ?_; rotate_left; (intro w hSw; go_simp; try with_reducible rfl); (try simp only [Act.put, List.setIfInBounds_toArray]); (try dsimp only [List.set_cons_zero, List.set_cons_succ])
              refine seq_skip HST 3 83 rfl ?_; (try simp only [Act.put, List.setIfInBounds_toArray]); (try dsimp only [List.set_cons_zero, List.set_cons_succ])
              refine seq_skip HST 4 84 rfl ?_; (try simp only [Act.put, List.setIfInBounds_toArray]); (try dsimp only [List.set_cons_zero, List.set_cons_succ])
              refine seq_skip HST 5 85 rfl ?_; (try simp only [Act.put, List.setIfInBounds_toArray]); (try dsimp only [List.set_cons_zero, List.set_cons_succ])
              refine seq_skip HST 6 86 rfl ?_; (try simp only [Act.put, List.setIfInBounds_toArray]); (try dsimp only [List.set_cons_zero, List.set_cons_succ])
              refine seq_skip HST 7 87 rfl ?_; (try simp only [Act.put, List.setIfInBounds_toArray]); (try dsimp only [List.set_cons_zero, List.set_cons_succ])
              refine seq_skip HST 8 88 rfl ?_; (try simp only [Act.put, List.setIfInBounds_toArray]); (try dsimp only [List.set_cons_zero, List.set_cons_succ])
              refine seq_skip HST 9 89 rfl ?_; (try simp only [Act.put, List.setIfInBounds_toArray]); (try dsimp only [List.set_cons_zero, List.set_cons_succ])
              refine seq_skip HST 10 90 rfl ?_; (try simp only [Act.put, List.setIfInBounds_toArray]); (try dsimp only [List.set_cons_zero, List.set_cons_succ])
              refine seq_skip HST 11 91 rfl ?_; (try simp only [Act.put, List.setIfInBounds_toArray]); (try dsimp only [List.set_cons_zero, List.set_cons_succ])
              refine seq_skip HST 12 92 rfl ?_; (try simp only [Act.put, List.setIfInBounds_toArray]); (try dsimp only [List.set_cons_zero, List.set_cons_succ])
              refine seq_skip HST 13 93 rfl ?_; (try simp only [Act.put, List.setIfInBounds_toArray]); (try dsimp only [List.set_cons_zero, List.set_cons_succ])
              refine seq_skip HST 14 94 rfl ?_; (try simp only [Act.put, List.setIfInBounds_toArray]); (try dsimp only [List.set_cons_zero, List.set_cons_succ])
              refine seq_skip HST 15 95 rfl ?_; (try simp only [Act.put, List.setIfInBounds_toArray]); (try dsimp only [List.set_cons_zero, List.set_cons_succ])
              refine seq_skip HST 16 96 rfl ?_; (try simp only [Act.put, List.setIfInBounds_toArray]); (try dsimp only [List.set_cons_zero, List.set_cons_succ])
              refine seq_skip HST 17 97 rfl ?_; (try simp only [Act.put, List.setIfInBounds_toArray]); (try dsimp only [List.set_cons_zero, List.set_cons_succ])
              refine seq_skip HST 18 98 rfl ?_; (try simp only [Act.put, List.setIfInBounds_toArray]); (try dsimp only [List.set_cons_zero, List.set_cons_succ])
              refine seq_skip HST 19 99 rfl ?_; (try simp only [Act.put, List.setIfInBounds_toArray]); (try dsimp only [List.set_cons_zero, List.set_cons_succ])
              refine seq_skip HST 20 100 rfl ?_; (try simp only [Act.put, List.setIfInBounds_toArray]); (try dsimp only [List.set_cons_zero, List.set_cons_succ])
              refine seq_skip HST 21 101 rfl ?_; (try simp only [Act.put, List.setIfInBounds_toArray]); (try dsimp only [List.set_cons_zero, List.set_cons_succ])
              refine seq_skip HST 22 102 rfl ?_; (try simp only [Act.put, List.setIfInBounds_toArray]); (try dsimp only [List.set_cons_zero, List.set_cons_succ])
              refine seq_take HST (v := ?_) 23 103 rfl ?_ ?_; rotate_left; (intro w hSw; go_simp; try with_reducible rfl); (try simp only [Act.put, List.setIfInBounds_toArray]); (try dsimp only [List.set_cons_zero, List.set_cons_succ])
              refine seq_take HST (v := ?_) 24 104 rfl ?_ ?_; rotate_left; (intro w hSw; go_simp; try with_reducible rfl); (try simp only [Act.put, List.setIfInBounds_toArray]); (try dsimp only [List.set_cons_zero, List.set_cons_succ])
              refine seq_take HST (v := ?_) 25 105 rfl ?_ ?_; rotate_left; (intro w hSw; go_simp; try with_reducible rfl); (try simp only [Act.put, List.setIfInBounds_toArray]); (try dsimp only [List.set_cons_zero, List.set_cons_succ])
              refine seq_take HST (v := ?_) 26 106 rfl ?_ ?_; rotate_left; (intro w hSw; go_simp; try with_reducible rfl); (try simp only [Act.put, List.setIfInBounds_toArray]); (try dsimp only [List.set_cons_zero, List.set_cons_succ])
              refine seq_take HST (v := ?_) 27 107 rfl ?_ ?_; rotate_left; (intro w hSw; go_simp; try with_reducible rfl); (try simp only [Act.put, List.setIfInBounds_toArray]); (try dsimp only [List.set_cons_zero, List.set_cons_succ])
              refine seq_take HST (v := ?_) 28 108 rfl ?_ ?_; rotate_left; (intro w hSw; go_simp; try with_reducible rfl); (try simp only [Act.put, List.setIfInBounds_toArray]); (try dsimp only [List.set_cons_zero, List.set_cons_succ])
              refine seq_call HST 29 109 rfl (by kernel_rfl) (fun K hK => ?_); go_simp; refine ((RB.out (by first | exact rfl | exact trivial)) _ (by assumption)).mono ?_; rintro e w9 ⟨rfl, hb9⟩; refine hK.out _ _ (held9 (by assumption) hb9) (fun hHeld9 => ?_); clear hK K hb9; (try simp only [Act.put, List.setIfInBounds_toArray]); (try dsimp only [List.set_cons_zero, List.set_cons_succ])
              refine seq_take HST (v := ?_) 30 110 rfl ?_ ?_; rotate_left; (intro w hSw; go_simp; try with_reducible rfl); (try simp only [Act.put, List.setIfInBounds_toArray]); (try dsimp only [List.set_cons_zero, List.set_cons_succ])
              refine seq_take HST (v := ?_) 31 111 rfl ?_ ?_; rotate_left; (intro w hSw; go_simp; try with_reducible rfl); (try simp only [Act.put, List.setIfInBounds_toArray]); (try dsimp only [List.set_cons_zero, List.set_cons_succ])
              refine seq_take HST (v := ?_) 32 112 rfl ?_ ?_; rotate_left; (intro w hSw; go_simp; try with_reducible rfl); (try simp only [Act.put, List.setIfInBounds_toArray]); (try dsimp only [List.set_cons_zero, List.set_cons_succ])
              refine seq_take HST (v := ?_) 33 113 rfl ?_ ?_; rotate_left; (intro w hSw; go_simp; try with_reducible rfl); (try simp only [Act.put, List.setIfInBounds_toArray]); (try dsimp only [List.set_cons_zero, List.set_cons_succ])
              refine seq_take HST (v := ?_) 34 114 rfl ?_ ?_; rotate_left; (intro w hSw; go_simp; try with_reducible rfl); (try simp only [Act.put, List.setIfInBounds_toArray]); (try dsimp only [List.set_cons_zero, List.set_cons_succ])
              refine seq_take HST (v := ?_) 35 115 rfl ?_ ?_; rotate_left; (intro w hSw; go_simp; try with_reducible rfl); (try simp only [Act.put, List.setIfInBounds_toArray]); (try dsimp only [List.set_cons_zero, List.set_cons_succ])
              refine seq_take HST (v := ?_) 36 116 rfl ?_ ?_; rotate_left; (intro w hSw; go_simp; try with_reducible rfl); (try simp only [Act.put, List.setIfInBounds_toArray]); (try dsimp only [List.set_cons_zero, List.set_cons_succ])
              refine seq_take HST (v := ?_) 37 117 rfl ?_ ?_; rotate_left; (intro w hSw; go_simp; try with_reducible rfl); (try simp only [Act.put, List.setIfInBounds_toArray]); (try dsimp only [List.set_cons_zero, List.set_cons_succ])
              refine seq_take HST (v := ?_) 38 118 rfl ?_ ?_; rotate_left; (intro w hSw; go_simp; try with_reducible rfl); (try simp only [Act.put, List.setIfInBounds_toArray]); (try dsimp only [List.set_cons_zero, List.set_cons_succ])
              refine seq_take HST (v := ?_) 39 119 rfl ?_ ?_; rotate_left; (intro w hSw; go_simp; try with_reducible rfl); (try simp only [Act.put, List.setIfInBounds_toArray]); (try dsimp only [List.set_cons_zero, List.set_cons_succ])
              refine seq_take HST (v := ?_) 40 120 rfl ?_ ?_; rotate_left; (intro w hSw; go_simp; try with_reducible rfl); (try simp only [Act.put, List.setIfInBounds_toArray]); (try dsimp only [List.set_cons_zero, List.set_cons_succ])
              refine seq_take HST (v := ?_) 41 121 rfl ?_ ?_; rotate_left; (intro w hSw; go_simp; try with_reducible rfl); (try simp only [Act.put, List.setIfInBounds_toArray]); (try dsimp only [List.set_cons_zero, List.set_cons_succ])
              refine seq_take HST (v := ?_) 42 122 rfl ?_ ?_; rotate_left; (intro w hSw; go_simp; try with_reducible rfl); (try simp only [Act.put, List.setIfInBounds_toArray]); (try dsimp only [List.set_cons_zero, List.set_cons_succ])
              refine seq_take HST (v := ?_) 43 123 rfl ?_ ?_; rotate_left; (intro w hSw; go_simp; try with_reducible rfl); (try simp only [Act.put, List.setIfInBounds_toArray]); (try dsimp only [List.set_cons_zero, List.set_cons_succ])
              refine seq_take HST (v := ?_) 44 124 rfl ?_ ?_; rotate_left; (intro w hSw; go_simp; try with_reducible rfl); (try simp only [Act.put, List.setIfInBounds_toArray]); (try dsimp only [List.set_cons_zero, List.set_cons_succ])
              refine seq_skip HST 45 125 rfl ?_; (try simp only [Act.put, List.setIfInBounds_toArray]); (try dsimp only [List.set_cons_zero, List.set_cons_succ])
              refine seq_skip HST 46 126 rfl ?_; (try simp only [Act.put, List.setIfInBounds_toArray]); (try dsimp only [List.set_cons_zero, List.set_cons_succ])
              refine seq_skip HST 47 127 rfl ?_; (try simp only [Act.put, List.setIfInBounds_toArray]); (try dsimp only [List.set_cons_zero, List.set_cons_succ])
              refine seq_skip HST 48 128 rfl ?_; (try simp only [Act.put, List.setIfInBounds_toArray]); (try dsimp only [List.set_cons_zero, List.set_cons_succ])
              refine seq_skip HST 49 129 rfl ?_; (try simp only [Act.put, List.setIfInBounds_toArray]); (try dsimp only [List.set_cons_zero, List.set_cons_succ])
              refine seq_skip HST 50 130 rfl ?_; (try simp only [Act.put, List.setIfInBounds_toArray]); (try dsimp only [List.set_cons_zero, List.set_cons_succ])
              refine seq_skip HST 51 131 rfl ?_; (try simp only [Act.put, List.setIfInBounds_toArray]); (try dsimp only [List.set_cons_zero, List.set_cons_succ])
              refine seq_skip HST 52 132 rfl ?_; (try simp only [Act.put, List.setIfInBounds_toArray]); (try dsimp only [List.set_cons_zero, List.set_cons_succ])
              refine seq_skip HST 53 133 rfl ?_; (try simp only [Act.put, List.setIfInBounds_toArray]); (try dsimp only [List.set_cons_zero, List.set_cons_succ])
              refine seq_skip HST 54 134 rfl ?_; (try simp only [Act.put, List.setIfInBounds_toArray]); (try dsimp only [List.set_cons_zero, List.set_cons_succ])
              refine seq_take HST (v := ?_) 55 135 rfl ?_ ?_; rotate_left; (intro w hSw; go_simp; try with_reducible rfl); (try simp only [Act.put, List.setIfInBounds_toArray]); (try dsimp only [List.set_cons_zero, List.set_cons_succ])
              refine seq_take HST (v := ?_) 56 136 rfl ?_ ?_; rotate_left; (intro w hSw; go_simp; try with_reducible rfl); (try simp only [Act.put, List.setIfInBounds_toArray]); (try dsimp only [List.set_cons_zero, List.set_cons_succ])
              refine seq_take HST (v := ?_) 57 137 rfl ?_ ?_; rotate_left; (intro w hSw; go_simp; try with_reducible rfl); (try simp only [Act.put, List.setIfInBounds_toArray]); (try dsimp only [List.set_cons_zero, List.set_cons_succ])
              refine seq_take HST (v := ?_) 58 138 rfl ?_ ?_; rotate_left; (intro w hSw; go_simp; try with_reducible rfl); (try simp only [Act.put, List.setIfInBounds_toArray]); (try dsimp only [List.set_cons_zero, List.set_cons_succ])
              refine seq_take HST (v := ?_) 59 139 rfl ?_ ?_; rotate_left; (intro w hSw; go_simp; try with_reducible rfl); (try simp only [Act.put, List.setIfInBounds_toArray]); (try dsimp only [List.set_cons_zero, List.set_cons_succ])
              refine seq_take HST (v := ?_) 60 140 rfl ?_ ?_; rotate_left; (intro w hSw; go_simp; try with_reducible rfl); (try simp only [Act.put, List.setIfInBounds_toArray]); (try dsimp only [List.set_cons_zero, List.set_cons_succ])
              refine seq_skip HST 61 141 rfl ?_; (try simp only [Act.put, List.setIfInBounds_toArray]); (try dsimp only [List.set_cons_zero, List.set_cons_succ])
              refine seq_skip HST 62 142 rfl ?_; (try simp only [Act.put, List.setIfInBounds_toArray]); (try dsimp only [List.set_cons_zero, List.set_cons_succ])
              refine seq_skip HST 63 143 rfl ?_; (try simp only [Act.put, List.setIfInBounds_toArray]); (try dsimp only [List.set_cons_zero, List.set_cons_succ])
              refine seq_skip HST 64 144 rfl ?_; (try simp only [Act.put, List.setIfInBounds_toArray]); (try dsimp only [List.set_cons_zero, List.set_cons_succ])
              refine seq_skip HST 65 145 rfl ?_; (try simp only [Act.put, List.setIfInBounds_toArray]); (try dsimp only [List.set_cons_zero, List.set_cons_succ])
              refine seq_skip HST 66 146 rfl ?_; (try simp only [Act.put, List.setIfInBounds_toArray]); (try dsimp only [List.set_cons_zero, List.set_cons_succ])
              refine seq_skip HST 67 147 rfl ?_; (try simp only [Act.put, List.setIfInBounds_toArray]); (try dsimp only [List.set_cons_zero, List.set_cons_succ])
              refine seq_skip HST 68 148 rfl ?_; (try simp only [Act.put, List.setIfInBounds_toArray]); (try dsimp only [List.set_cons_zero, List.set_cons_succ])
              refine seq_skip HST 69 149 rfl ?_; (try simp only [Act.put, List.setIfInBounds_toArray]); (try dsimp only [List.set_cons_zero, List.set_cons_succ])
              refine seq_skip HST 70 150 rfl ?_; (try simp only [Act.put, List.setIfInBounds_toArray]); (try dsimp only [List.set_cons_zero, List.set_cons_succ])
              refine seq_take HST (v := ?_) 71 151 rfl ?_ ?_; rotate_left; (intro w hSw; go_simp; try with_reducible rfl); (try simp only [Act.put, List.setIfInBounds_toArray]); (try dsimp only [List.set_cons_zero, List.set_cons_succ])
              refine seq_take HST (v := ?_) 72 152 rfl ?_ ?_; rotate_left; (intro w hSw; go_simp; try with_reducible rfl); (try simp only [Act.put, List.setIfInBounds_toArray]); (try dsimp only [List.set_cons_zero, List.set_cons_succ])
              refine seq_done (by kernel_rfl) ?_
              go_wp2_with fail
              go_meet
              exact ⟨by first | rfl | simp, by assumption⟩
          · obtain ⟨y2, y3⟩ := X1.out rfl
            have y5 := X3.out rfl
            clear X0 X1 X2 X3
            as_aux_lemma =>
              refine seq_take HST (v := ?_) 0 80 rfl ?_ ?_; rotate_left; (intro w hSw; go_simp; try with_reducible rfl); (try simp only [Act.put, List.setIfInBounds_toArray]); (try dsimp only [List.set_cons_zero, List.set_cons_succ])
              refine seq_take HST (v := ?_) 1 81 rfl ?_ ?_; rotate_left; (intro w hSw; go_simp; try with_reducible rfl); (try simp only [Act.put, List.setIfInBounds_toArray]); (try dsimp only [List.set_cons_zero, List.set_cons_succ])
              refine seq_take HST (v := ?_) 2 82 rfl ?_ ?_; rotate_left; (intro w hSw; go_simp; try with_reducible rfl); (try simp only [Act.put, List.setIfInBounds_toArray]); (try dsimp only [List.set_cons_zero, List.set_cons_succ])
              refine seq_skip HST 3 83 rfl ?_; (try simp only [Act.put, List.setIfInBounds_toArray]); (try dsimp only [List.set_cons_zero, List.set_cons_succ])
              refine seq_skip HST 4 84 rfl ?_; (try simp only [Act.put, List.setIfInBounds_toArray]); (try dsimp only [List.set_cons_zero, List.set_cons_succ])
              refine seq_skip HST 5 85 rfl ?_; (try simp only [Act.put, List.setIfInBounds_toArray]); (try dsimp only [List.set_cons_zero, List.set_cons_succ])
              refine seq_skip HST 6 86 rfl ?_; (try simp only [Act.put, List.setIfInBounds_toArray]); (try dsimp only [List.set_cons_zero, List.set_cons_succ])
              refine seq_skip HST 7 87 rfl ?_; (try simp only [Act.put, List.setIfInBounds_toArray]); (try dsimp only [List.set_cons_zero, List.set_cons_succ])
              refine seq_skip HST 8 88 rfl ?_; (try simp only [Act.put, List.setIfInBounds_toArray]); (try dsimp only [List.set_cons_zero, List.set_cons_succ])
              refine seq_skip HST 9 89 rfl ?_; (try simp only [Act.put, List.setIfInBounds_toArray]); (try dsimp only [List.set_cons_zero, List.set_cons_succ])
              refine seq_skip HST 10 90 rfl ?_; (try simp only [Act.put, List.setIfInBounds_toArray]); (try dsimp only [List.set_cons_zero, List.set_cons_succ])
              refine seq_skip HST 11 91 rfl ?_; (try simp only [Act.put, List.setIfInBounds_toArray]); (try dsimp only [List.set_cons_zero, List.set_cons_succ])
              refine seq_skip HST 12 92 rfl ?_; (try simp only [Act.put, List.setIfInBounds_toArray]); (try dsimp only [List.set_cons_zero, List.set_cons_succ])
              refine seq_skip HST 13 93 rfl ?_; (try simp only [Act.put, List.setIfInBounds_toArray]); (try dsimp only [List.set_cons_zero, List.set_cons_succ])
              refine seq_skip HST 14 94 rfl ?_; (try simp only [Act.put, List.setIfInBounds_toArray]); (try dsimp only [List.set_cons_zero, List.set_cons_succ])
              refine seq_skip HST 15 95 rfl ?_; (try simp only [Act.put, List.setIfInBounds_toArray]); (try dsimp only [List.set_cons_zero, List.set_cons_succ])
              refine seq_skip HST 16 96 rfl ?_; (try simp only [Act.put, List.setIfInBounds_toArray]); (try dsimp only [List.set_cons_zero, List.set_cons_succ])
              refine seq_skip HST 17 97 rfl ?_; (try simp only [Act.put, List.setIfInBounds_toArray]); (try dsimp only [List.set_cons_zero, List.set_cons_succ])
              refine seq_skip HST 18 98 rfl ?_; (try simp only [Act.put, List.setIfInBounds_toArray]); (try dsimp only [List.set_cons_zero, List.set_cons_succ])
              refine seq_skip HST 19 99 rfl ?_; (try simp only [Act.put, List.setIfInBounds_toArray]); (try dsimp only [List.set_cons_zero, List.set_cons_succ])
              refine seq_skip HST 20 100 rfl ?_; (try simp only [Act.put, List.setIfInBounds_toArray]); (try dsimp only [List.set_cons_zero, List.set_cons_succ])
              refine seq_skip HST 21 101 rfl ?_; (try simp only [Act.put, List.setIfInBounds_toArray]); (try dsimp only [List.set_cons_zero, List.set_cons_succ])
              refine seq_skip HST 22 102 rfl ?_; (try simp only [Act.put, List.setIfInBounds_toArray]); (try dsimp only [List.set_cons_zero, List.set_cons_succ])
              refine seq_take HST (v := ?_) 23 103 rfl ?_ ?_; rotate_left; (intro w hSw; go_simp; try with_reducible rfl); (try simp only [Act.put, List.setIfInBounds_toArray]); (try dsimp only [List.set_cons_zero, List.set_cons_succ])
              refine seq_take HST (v := ?_) 24 104 rfl ?_ ?_; rotate_left; (intro w hSw; go_simp; try with_reducible rfl); (try simp only [Act.put, List.setIfInBounds_toArray]); (try dsimp only [List.set_cons_zero, List.set_cons_succ])
              refine seq_take HST (v := ?_) 25 105 rfl ?_ ?_; rotate_left; (intro w hSw; go_simp; try with_reducible rfl); (try simp only [Act.put, List.setIfInBounds_toArray]); (try dsimp only [List.set_cons_zero, List.set_cons_succ])
              refine seq_take HST (v := ?_) 26 106 rfl ?_ ?_; rotate_left; (intro w hSw; go_simp; try with_reducible rfl); (try simp only [Act.put, List.setIfInBounds_toArray]); (try dsimp only [List.set_cons_zero, List.set_cons_succ])
              refine seq_take HST (v := ?_) 27 107 rfl ?_ ?_; rotate_left; (intro w hSw; go_simp; try with_reducible rfl); (try simp only [Act.put, List.setIfInBounds_toArray]); (try dsimp only [List.set_cons_zero, List.set_cons_succ])
              refine seq_take HST (v := ?_) 28 108 rfl ?_ ?_; rotate_left; (intro w hSw; go_simp; try with_reducible rfl); (try simp only [Act.put, List.setIfInBounds_toArray]); (try dsimp only [List.set_cons_zero, List.set_cons_succ])
              refine seq_call HST 29 109 rfl (by kernel_rfl) (fun K hK => ?_); go_simp; refine ((RB.out (by first | exact rfl | exact trivial)) _ (by assumption)).mono ?_; rintro e w9 ⟨rfl, hb9⟩; refine hK.out _ _ (held9 (by assumption) hb9) (fun hHeld9 => ?_); clear hK K hb9; (try simp only [Act.put, List.setIfInBounds_toArray]); (try dsimp only [List.set_cons_zero, List.set_cons_succ])
              refine seq_take HST (v := ?_) 30 110 rfl ?_ ?_; rotate_left; (intro w hSw; go_simp; try with_reducible rfl); (try simp only [Act.put, List.setIfInBounds_toArray]); (try dsimp only [List.set_cons_zero, List.set_cons_succ])
              refine seq_take HST (v := ?_) 31 111 rfl ?_ ?_; rotate_left; (intro w hSw; go_simp; try with_reducible rfl); (try simp only [Act.put, List.setIfInBounds_toArray]); (try dsimp only [List.set_cons_zero, List.set_cons_succ])
              refine seq_take HST (v := ?_) 32 112 rfl ?_ ?_; rotate_left; (intro w hSw; go_simp; try with_reducible rfl); (try simp only [Act.put, List.setIfInBounds_toArray]); (try dsimp only [List.set_cons_zero, List.set_cons_succ])
              refine seq_take HST (v := ?_) 33 113 rfl ?_ ?_; rotate_left; (intro w hSw; go_simp; try with_reducible rfl); (try simp only [Act.put, List.setIfInBounds_toArray]); (try dsimp only [List.set_cons_zero, List.set_cons_succ])
              refine seq_take HST (v := ?_) 34 114 rfl ?_ ?_; rotate_left; (intro w hSw; go_simp; try with_reducible rfl); (try simp only [Act.put, List.setIfInBounds_toArray]); (try dsimp only [List.set_cons_zero, List.set_cons_succ])
              refine seq_take HST (v := ?_) 35 115 rfl ?_ ?_; rotate_left; (intro w hSw; go_simp; try with_reducible rfl); (try simp only [Act.put, List.setIfInBounds_toArray]); (try dsimp only [List.set_cons_zero, List.set_cons_succ])
              refine seq_take HST (v := ?_) 36 116 rfl ?_ ?_; rotate_left; (intro w hSw; go_simp; try with_reducible rfl); (try simp only [Act.put, List.setIfInBounds_toArray]); (try dsimp only [List.set_cons_zero, List.set_cons_succ])
              refine seq_take HST (v := ?_) 37 117 rfl ?_ ?_; rotate_left; (intro w hSw; go_simp; try with_reducible rfl); (try simp only [Act.put, List.setIfInBounds_toArray]); (try dsimp only [List.set_cons_zero, List.set_cons_succ])
              refine seq_take HST (v := ?_) 38 118 rfl ?_ ?_; rotate_left; (intro w hSw; go_simp; try with_reducible rfl); (try simp only [Act.put, List.setIfInBounds_toArray]); (try dsimp only [List.set_cons_zero, List.set_cons_succ])
              refine seq_take HST (v := ?_) 39 119 rfl ?_ ?_; rotate_left; (intro w hSw; go_simp; try with_reducible rfl); (try simp only [Act.put, List.setIfInBounds_toArray]); (try dsimp only [List.set_cons_zero, List.set_cons_succ])
              refine seq_take HST (v := ?_) 40 120 rfl ?_ ?_; rotate_left; (intro w hSw; go_simp; try with_reducible rfl); (try simp only [Act.put, List.setIfInBounds_toArray]); (try dsimp only [List.set_cons_zero, List.set_cons_succ])
              refine seq_take HST (v := ?_) 41 121 rfl ?_ ?_; rotate_left; (intro w hSw; go_simp; try with_reducible rfl); (try simp only [Act.put, List.setIfInBounds_toArray]); (try dsimp only [List.set_cons_zero, List.set_cons_succ])
              refine seq_take HST (v := ?_) 42 122 rfl ?_ ?_; rotate_left; (intro w hSw; go_simp; try with_reducible rfl); (try simp only [Act.put, List.setIfInBounds_toArray]); (try dsimp only [List.set_cons_zero, List.set_cons_succ])
              refine seq_take HST (v := ?_) 43 123 rfl ?_ ?_; rotate_left; (intro w hSw; go_simp; try with_reducible rfl); (try simp only [Act.put, List.setIfInBounds_toArray]); (try dsimp only [List.set_cons_zero, List.set_cons_succ])
              refine seq_take HST (v := ?_) 44 124 rfl ?_ ?_; rotate_left; (intro w hSw; go_simp; try with_reducible rfl); (try simp only [Act.put, List.setIfInBounds_toArray]); (try dsimp only [List.set_cons_zero, List.set_cons_succ])
              refine seq_skip HST 45 125 rfl ?_; (try simp only [Act.put, List.setIfInBounds_toArray]); (try dsimp only [List.set_cons_zero, List.set_cons_succ])
              refine seq_skip HST 46 126 rfl ?_; (try simp only [Act.put, List.setIfInBounds_toArray]); (try dsimp only [List.set_cons_zero, List.set_cons_succ])
              refine seq_skip HST 47 127 rfl ?_; (try simp only [Act.put, List.setIfInBounds_toArray]); (try dsimp only [List.set_cons_zero, List.set_cons_succ])
              refine seq_skip HST 48 128 rfl ?_; (try simp only [Act.put, List.setIfInBounds_toArray]); (try dsimp only [List.set_cons_zero, List.set_cons_succ])
              refine seq_skip HST 49 129 rfl ?_; (try simp only [Act.put, List.setIfInBounds_toArray]); (try dsimp only [List.set_cons_zero, List.set_cons_succ])
              refine seq_skip HST 50 130 rfl ?_; (try simp only [Act.put, List.setIfInBounds_toArray]); (try dsimp only [List.set_cons_zero, List.set_cons_succ])
              refine seq_skip HST 51 131 rfl ?_; (try simp only [Act.put, List.setIfInBounds_toArray]); (try dsimp only [List.set_cons_zero, List.set_cons_succ])
              refine seq_skip HST 52 132 rfl ?_; (try simp only [Act.put, List.setIfInBounds_toArray]); (try dsimp only [List.set_cons_zero, List.set_cons_succ])
              refine seq_skip HST 53 133 rfl ?_; (try simp only [Act.put, List.setIfInBounds_toArray]); (try dsimp only [List.set_cons_zero, List.set_cons_succ])
              refine seq_skip HST 54 134 rfl ?_; (try simp only [Act.put, List.setIfInBounds_toArray]); (try dsimp only [List.set_cons_zero, List.set_cons_succ])
              refine seq_take HST (v := ?_) 55 135 rfl ?_ ?_; rotate_left; (intro w hSw; go_simp; try with_reducible rfl); (try simp only [Act.put, List.setIfInBounds_toArray]); (try dsimp only [List.set_cons_zero, List.set_cons_succ])
              refine seq_take HST (v := ?_) 56 136 rfl ?_ ?_; rotate_left; (intro w hSw; go_simp; try with_reducible rfl); (try simp only [Act.put, List.setIfInBounds_toArray]); (try dsimp only [List.set_cons_zero, List.set_cons_succ])
              refine seq_take HST (v := ?_) 57 137 rfl ?_ ?_; rotate_left; (intro w hSw; go_simp; try with_reducible rfl); (try simp only [Act.put, List.setIfInBounds_toArray]); (try dsimp only [List.set_cons_zero, List.set_cons_succ])
              refine seq_take HST (v := ?_) 58 138 rfl ?_ ?_; rotate_left; (intro w hSw; go_simp; try with_reducible rfl); (try simp only [Act.put, List.setIfInBounds_toArray]); (try dsimp only [List.set_cons_zero, List.set_cons_succ])
              refine seq_take HST (v := ?_) 59 139 rfl ?_ ?_; rotate_left; (intro w hSw; go_simp; try with_reducible rfl); (try simp only [Act.put, List.setIfInBounds_toArray]); (try dsimp only [List.set_cons_zero, List.set_cons_succ])
              refine seq_take HST (v := ?_) 60 140 rfl ?_ ?_; rotate_left; (intro w hSw; go_simp; try with_reducible rfl); (try simp only [Act.put, List.setIfInBounds_toArray]); (try dsimp only [List.set_cons_zero, List.set_cons_succ])
              refine seq_take HST (v := ?_) 61 141 rfl ?_ ?_; rotate_left; (intro w hSw; go_simp; try with_reducible rfl); (try simp only [Act.put, List.setIfInBounds_toArray]); (try dsimp only [List.set_cons_zero, List.set_cons_succ])
              refine seq_call HST 62 142 rfl (by kernel_rfl) (fun K hK => ?_); go_simp; refine ((RD.out (by first | exact rfl | exact trivial)) _ (by assumption)).mono ?_; rintro e w9 ⟨rfl, hb9⟩; refine hK.out _ _ (held9 (by assumption) hb9) (fun hHeld9 => ?_); clear hK K hb9; (try simp only [Act.put, List.setIfInBounds_toArray]); (try dsimp only [List.set_cons_zero, List.set_cons_succ])
              refine seq_take HST (v := ?_) 63 143 rfl ?_ ?_; rotate_left; (intro w hSw; go_simp; try with_reducible rfl); (try simp only [Act.put, List.setIfInBounds_toArray]); (try dsimp only [List.set_cons_zero, List.set_cons_succ])
              refine seq_take HST (v := ?_) 64 144 rfl ?_ ?_; rotate_left; (intro w hSw; go_simp; try with_reducible rfl); (try simp only [Act.put, List.setIfInBounds_toArray]); (try dsimp only [List.set_cons_zero, List.set_cons_succ])
              refine seq_take HST (v := ?_) 65 145 rfl ?_ ?_; rotate_left; (intro w hSw; go_simp; try with_reducible rfl); (try simp only [Act.put, List.setIfInBounds_toArray]); (try dsimp only [List.set_cons_zero, List.set_cons_succ])
              refine seq_take HST (v := ?_) 66 146 rfl ?_ ?_; rotate_left; (intro w hSw; go_simp; try with_reducible rfl); (try simp only [Act.put, List.setIfInBounds_toArray]); (try dsimp only [List.set_cons_zero, List.set_cons_succ])
              refine seq_take HST (v := ?_) 67 147 rfl ?_ ?_; rotate_left; (intro w hSw; go_simp; try with_reducible rfl); (try simp only [Act.put, List.setIfInBounds_toArray]); (try dsimp only [List.set_cons_zero, List.set_cons_succ])
              refine seq_take HST (v := ?_) 68 148 rfl ?_ ?_; rotate_left; (intro w hSw; go_simp; try with_reducible rfl); (try simp only [Act.put, List.setIfInBounds_toArray]); (try dsimp only [List.set_cons_zero, List.set_cons_succ])
              refine seq_take HST (v := ?_) 69 149 rfl ?_ ?_; rotate_left; (intro w hSw; go_simp; try with_reducible rfl); (try simp only [Act.put, List.setIfInBounds_toArray]); (try dsimp only [List.set_cons_zero, List.set_cons_succ])
              refine seq_take HST (v := ?_) 70 150 rfl ?_ ?_; rotate_left; (intro w hSw; go_simp; try with_reducible rfl); (try simp only [Act.put, List.setIfInBounds_toArray]); (try dsimp only [List.set_cons_zero, List.set_cons_succ])
              refine seq_take HST (v := ?_) 71 151 rfl ?_ ?_; rotate_left; (intro w hSw; go_simp; try with_reducible rfl); (try simp only [Act.put, List.setIfInBounds_toArray]); (try dsimp only [List.set_cons_zero, List.set_cons_succ])
              refine seq_take HST (v := ?_) 72 152 rfl ?_ ?_; rotate_left; (intro w hSw; go_simp; try with_reducible rfl); (try simp only [Act.put, List.setIfInBounds_toArray]); (try dsimp only [List.set_cons_zero, List.set_cons_succ])
              refine seq_done (by kernel_rfl) ?_
              go_wp2_with fail
              go_meet
              exact ⟨by first | rfl | simp, by assumption⟩
        · cases b3
          · obtain ⟨y2, y3⟩ := X1.out rfl
            have y4 := X2.out rfl
            clear X0 X1 X2 X3
            as_aux_lemma =>
              refine seq_take HST (v := ?_) 0 80 rfl ?_ ?_; rotate_left; (intro w hSw; go_simp; try with_reducible rfl); (try simp only [Act.put, List.setIfInBounds_toArray]); (try dsimp only [List.set_cons_zero, List.set_cons_succ])
              refine seq_take HST (v := ?_) 1 81 rfl ?_ ?_; rotate_left; (intro w hSw; go_simp; try with_reducible rfl); (try simp only [Act.put, List.setIfInBounds_toArray]); (try dsimp only [List.set_cons_zero, List.set_cons_succ])
              refine seq_take HST (v := ?_) 2 82 rfl ?_ ?_; rotate_left; (intro w hSw; go_simp; try with_reducible rfl); (try simp only [Act.put, List.setIfInBounds_toArray]); (try dsimp only [List.set_cons_zero, List.set_cons_succ])
              refine seq_skip HST 3 83 rfl ?_; (try simp only [Act.put, List.setIfInBounds_toArray]); (try dsimp only [List.set_cons_zero, List.set_cons_succ])
              refine seq_skip HST 4 84 rfl ?_; (try simp only [Act.put, List.setIfInBounds_toArray]); (try dsimp only [List.set_cons_zero, List.set_cons_succ])
              refine seq_skip HST 5 85 rfl ?_; (try simp only [Act.put, List.setIfInBounds_toArray]); (try dsimp only [List.set_cons_zero, List.set_cons_succ])
              refine seq_skip HST 6 86 rfl ?_; (try simp only [Act.put, List.setIfInBounds_toArray]); (try dsimp only [List.set_cons_zero, List.set_cons_succ])
              refine seq_skip HST 7 87 rfl ?_; (try simp only [Act.put, List.setIfInBounds_toArray]); (try dsimp only [List.set_cons_zero, List.set_cons_succ])
              refine seq_skip HST 8 88 rfl ?_; (try simp only [Act.put, List.setIfInBounds_toArray]); (try dsimp only [List.set_cons_zero, List.set_cons_succ])
              refine seq_skip HST 9 89 rfl ?_; (try simp only [Act.put, List.setIfInBounds_toArray]); (try dsimp only [List.set_cons_zero, List.set_cons_succ])
              refine seq_skip HST 10 90 rfl ?_; (try simp only [Act.put, List.setIfInBounds_toArray]); (try dsimp only [List.set_cons_zero, List.set_cons_succ])
              refine seq_skip HST 11 91 rfl ?_; (try simp only [Act.put, List.setIfInBounds_toArray]); (try dsimp only [List.set_cons_zero, List.set_cons_succ])
              refine seq_skip HST 12 92 rfl ?_; (try simp only [Act.put, List.setIfInBounds_toArray]); (try dsimp only [List.set_cons_zero, List.set_cons_succ])
              refine seq_skip HST 13 93 rfl ?_; (try simp only [Act.put, List.setIfInBounds_toArray]); (try dsimp only [List.set_cons_zero, List.set_cons_succ])
              refine seq_skip HST 14 94 rfl ?_; (try simp only [Act.put, List.setIfInBounds_toArray]); (try dsimp only [List.set_cons_zero, List.set_cons_succ])
              refine seq_skip HST 15 95 rfl ?_; (try simp only [Act.put, List.setIfInBounds_toArray]); (try dsimp only [List.set_cons_zero, List.set_cons_succ])
              refine seq_skip HST 16 96 rfl ?_; (try simp only [Act.put, List.setIfInBounds_toArray]); (try dsimp only [List.set_cons_zero, List.set_cons_succ])
              refine seq_skip HST 17 97 rfl ?_; (try simp only [Act.put, List.setIfInBounds_toArray]); (try dsimp only [List.set_cons_zero, List.set_cons_succ])
              refine seq_skip HST 18 98 rfl ?_; (try simp only [Act.put, List.setIfInBounds_toArray]); (try dsimp only [List.set_cons_zero, List.set_cons_succ])
              refine seq_skip HST 19 99 rfl ?_; (try simp only [Act.put, List.setIfInBounds_toArray]); (try dsimp only [List.set_cons_zero, List.set_cons_succ])
              refine seq_skip HST 20 100 rfl ?_; (try simp only [Act.put, List.setIfInBounds_toArray]); (try dsimp only [List.set_cons_zero, List.set_cons_succ])
              refine seq_skip HST 21 101 rfl ?_; (try simp only [Act.put, List.setIfInBounds_toArray]); (try dsimp only [List.set_cons_zero, List.set_cons_succ])
              refine seq_skip HST 22 102 rfl ?_; (try simp only [Act.put, List.setIfInBounds_toArray]); (try dsimp only [List.set_cons_zero, List.set_cons_succ])
              refine seq_take HST (v := ?_) 23 103 rfl ?_ ?_; rotate_left; (intro w hSw; go_simp; try with_reducible rfl); (try simp only [Act.put, List.setIfInBounds_toArray]); (try dsimp only [List.set_cons_zero, List.set_cons_succ])
              refine seq_take HST (v := ?_) 24 104 rfl ?_ ?_; rotate_left; (intro w hSw; go_simp; try with_reducible rfl); (try simp only [Act.put, List.setIfInBounds_toArray]); (try dsimp only [List.set_cons_zero, List.set_cons_succ])
              refine seq_take HST (v := ?_) 25 105 rfl ?_ ?_; rotate_left; (intro w hSw; go_simp; try with_reducible rfl); (try simp only [Act.put, List.setIfInBounds_toArray]); (try dsimp only [List.set_cons_zero, List.set_cons_succ])
              refine seq_take HST (v := ?_) 26 106 rfl ?_ ?_; rotate_left; (intro w hSw; go_simp; try with_reducible rfl); (try simp only [Act.put, List.setIfInBounds_toArray]); (try dsimp only [List.set_cons_zero, List.set_cons_succ])
              refine seq_take HST (v := ?_) 27 107 rfl ?_ ?_; rotate_left; (intro w hSw; go_simp; try with_reducible rfl); (try simp only [Act.put, List.setIfInBounds_toArray]); (try dsimp only [List.set_cons_zero, List.set_cons_succ])
              refine seq_take HST (v := ?_) 28 108 rfl ?_ ?_; rotate_left; (intro w hSw; go_simp; try with_reducible rfl); (try simp only [Act.put, List.setIfInBounds_toArray]); (try dsimp only [List.set_cons_zero, List.set_cons_succ])
              refine seq_call HST 29 109 rfl (by kernel_rfl) (fun K hK => ?_); go_simp; refine ((RB.out (by first | exact rfl | exact trivial)) _ (by assumption)).mono ?_; rintro e w9 ⟨rfl, hb9⟩; refine hK.out _ _ (held9 (by assumption) hb9) (fun hHeld9 => ?_); clear hK K hb9; (try simp only [Act.put, List.setIfInBounds_toArray]); (try dsimp only [List.set_cons_zero, List.set_cons_succ])
              refine seq_take HST (v := ?_) 30 110 rfl ?_ ?_; rotate_left; (intro w hSw; go_simp; try with_reducible rfl); (try simp only [Act.put, List.setIfInBounds_toArray]); (try dsimp only [List.set_cons_zero, List.set_cons_succ])
              refine seq_take HST (v := ?_) 31 111 rfl ?_ ?_; rotate_left; (intro w hSw; go_simp; try with_reducible rfl); (try simp only [Act.put, List.setIfInBounds_toArray]); (try dsimp only [List.set_cons_zero, List.set_cons_succ])
              refine seq_take HST (v := ?_) 32 112 rfl ?_ ?_; rotate_left; (intro w hSw; go_simp; try with_reducible rfl); (try simp only [Act.put, List.setIfInBounds_toArray]); (try dsimp only [List.set_cons_zero, List.set_cons_succ])
              refine seq_take HST (v := ?_) 33 113 rfl ?_ ?_; rotate_left; (intro w hSw; go_simp; try with_reducible rfl); (try simp only [Act.put, List.setIfInBounds_toArray]); (try dsimp only [List.set_cons_zero, List.set_cons_succ])
              refine seq_take HST (v := ?_) 34 114 rfl ?_ ?_; rotate_left; (intro w hSw; go_simp; try with_reducible rfl); (try simp only [Act.put, List.setIfInBounds_toArray]); (try dsimp only [List.set_cons_zero, List.set_cons_succ])
              refine seq_take HST (v := ?_) 35 115 rfl ?_ ?_; rotate_left; (intro w hSw; go_simp; try with_reducible rfl); (try simp only [Act.put, List.setIfInBounds_toArray]); (try dsimp only [List.set_cons_zero, List.set_cons_succ])
              refine seq_take HST (v := ?_) 36 116 rfl ?_ ?_; rotate_left; (intro w hSw; go_simp; try with_reducible rfl); (try simp only [Act.put, List.setIfInBounds_toArray]); (try dsimp only [List.set_cons_zero, List.set_cons_succ])
              refine seq_take HST (v := ?_) 37 117 rfl ?_ ?_; rotate_left; (intro w hSw; go_simp; try with_reducible rfl); (try simp only [Act.put, List.setIfInBounds_toArray]); (try dsimp only [List.set_cons_zero, List.set_cons_succ])
              refine seq_take HST (v := ?_) 38 118 rfl ?_ ?_; rotate_left; (intro w hSw; go_simp; try with_reducible rfl); (try simp only [Act.put, List.setIfInBounds_toArray]); (try dsimp only [List.set_cons_zero, List.set_cons_succ])
              refine seq_take HST (v := ?_) 39 119 rfl ?_ ?_; rotate_left; (intro w hSw; go_simp; try with_reducible rfl); (try simp only [Act.put, List.setIfInBounds_toArray]); (try dsimp only [List.set_cons_zero, List.set_cons_succ])
              refine seq_take HST (v := ?_) 40 120 rfl ?_ ?_; rotate_left; (intro w hSw; go_simp; try with_reducible rfl); (try simp only [Act.put, List.setIfInBounds_toArray]); (try dsimp only [List.set_cons_zero, List.set_cons_succ])
              refine seq_take HST (v := ?_) 41 121 rfl ?_ ?_; rotate_left; (intro w hSw; go_simp; try with_reducible rfl); (try simp only [Act.put, List.setIfInBounds_toArray]); (try dsimp only [List.set_cons_zero, List.set_cons_succ])
              refine seq_take HST (v := ?_) 42 122 rfl ?_ ?_; rotate_left; (intro w hSw; go_simp; try with_reducible rfl); (try simp only [Act.put, List.setIfInBounds_toArray]); (try dsimp only [List.set_cons_zero, List.set_cons_succ])
              refine seq_take HST (v := ?_) 43 123 rfl ?_ ?_; rotate_left; (intro w hSw; go_simp; try with_reducible rfl); (try simp only [Act.put, List.setIfInBounds_toArray]); (try dsimp only [List.set_cons_zero, List.set_cons_succ])
              refine seq_take HST (v := ?_) 44 124 rfl ?_ ?_; rotate_left; (intro w hSw; go_simp; try with_reducible rfl); (try simp only [Act.put, List.setIfInBounds_toArray]); (try dsimp only [List.set_cons_zero, List.set_cons_succ])
              refine seq_take HST (v := ?_) 45 125 rfl ?_ ?_; rotate_left; (intro w hSw; go_simp; try with_reducible rfl); (try simp only [Act.put, List.setIfInBounds_toArray]); (try dsimp only [List.set_cons_zero, List.set_cons_succ])
              refine seq_call HST 46 126 rfl (by kernel_rfl) (fun K hK => ?_); go_simp; refine ((RC.out (by first | exact rfl | exact trivial)) _ (by assumption)).mono ?_; rintro e w9 ⟨rfl, hb9⟩; refine hK.out _ _ (held9 (by assumption) hb9) (fun hHeld9 => ?_); clear hK K hb9; (try simp only [Act.put, List.setIfInBounds_toArray]); (try dsimp only [List.set_cons_zero, List.set_cons_succ])
              refine seq_take HST (v := ?_) 47 127 rfl ?_ ?_; rotate_left; (intro w hSw; go_simp; try with_reducible rfl); (try simp only [Act.put, List.setIfInBounds_toArray]); (try dsimp only [List.set_cons_zero, List.set_cons_succ])
              refine seq_take HST (v := ?_) 48 128 rfl ?_ ?_; rotate_left; (intro w hSw; go_simp; try with_reducible rfl); (try simp only [Act.put, List.setIfInBounds_toArray]); (try dsimp only [List.set_cons_zero, List.set_cons_succ])
              refine seq_take HST (v := ?_) 49 129 rfl ?_ ?_; rotate_left; (intro w hSw; go_simp; try with_reducible rfl); (try simp only [Act.put, List.setIfInBounds_toArray]); (try dsimp only [List.set_cons_zero, List.set_cons_succ])
              refine seq_take HST (v := ?_) 50 130 rfl ?_ ?_; rotate_left; (intro w hSw; go_simp; try with_reducible rfl); (try simp only [Act.put, List.setIfInBounds_toArray]); (try dsimp only [List.set_cons_zero, List.set_cons_succ])
              refine seq_take HST (v := ?_) 51 131 rfl ?_ ?_; rotate_left; (intro w hSw; go_simp; try with_reducible rfl); (try simp only [Act.put, List.setIfInBounds_toArray]); (try dsimp only [List.set_cons_zero, List.set_cons_succ])
              refine seq_take HST (v := ?_) 52 132 rfl ?_ ?_; rotate_left; (intro w hSw; go_simp; try with_reducible rfl); (try simp only [Act.put, List.setIfInBounds_toArray]); (try dsimp only [List.set_cons_zero, List.set_cons_succ])
              refine seq_take HST (v := ?_) 53 133 rfl ?_ ?_; rotate_left; (intro w hSw; go_simp; try with_reducible rfl); (try simp only [Act.put, List.setIfInBounds_toArray]); (try dsimp only [List.set_cons_zero, List.set_cons_succ])
              refine seq_take HST (v := ?_) 54 134 rfl ?_ ?_; rotate_left; (intro w hSw; go_simp; try with_reducible rfl); (try simp only [Act.put, List.setIfInBounds_toArray]); (try dsimp only [List.set_cons_zero, List.set_cons_succ])
              refine seq_take HST (v := ?_) 55 135 rfl ?_ ?_; rotate_left; (intro w hSw; go_simp; try with_reducible rfl); (try simp only [Act.put, List.setIfInBounds_toArray]); (try dsimp only [List.set_cons_zero, List.set_cons_succ])
              refine seq_take HST (v := ?_) 56 136 rfl ?_ ?_; rotate_left; (intro w hSw; go_simp; try with_reducible rfl); (try simp only [Act.put, List.setIfInBounds_toArray]); (try dsimp only [List.set_cons_zero, List.set_cons_succ])
              refine seq_take HST (v := ?_) 57 137 rfl ?_ ?_; rotate_left; (intro w hSw; go_simp; try with_reducible rfl); (try simp only [Act.put, List.setIfInBounds_toArray]); (try dsimp only [List.set_cons_zero, List.set_cons_succ])
              refine seq_take HST (v := ?_) 58 138 rfl ?_ ?_; rotate_left; (intro w hSw; go_simp; try with_reducible rfl); (try simp only [Act.put, List.setIfInBounds_toArray]); (try dsimp only [List.set_cons_zero, List.set_cons_succ])
              refine seq_take HST (v := ?_) 59 139 rfl ?_ ?_; rotate_left; (intro w hSw; go_simp; try with_reducible rfl); (try simp only [Act.put, List.setIfInBounds_toArray]); (try dsimp only [List.set_cons_zero, List.set_cons_succ])
              refine seq_take HST (v := ?_) 60 140 rfl ?_ ?_; rotate_left; (intro w hSw; go_simp; try with_reducible rfl); (try simp only [Act.put, List.setIfInBounds_toArray]); (try dsimp only [List.set_cons_zero, List.set_cons_succ])
              refine seq_skip HST 61 141 rfl ?_; (try simp only [Act.put, List.setIfInBounds_toArray]); (try dsimp only [List.set_cons_zero, List.set_cons_succ])
              refine seq_skip HST 62 142 rfl ?_; (try simp only [Act.put, List.setIfInBounds_toArray]); (try dsimp only [List.set_cons_zero, List.set_cons_succ])
              refine seq_skip HST 63 143 rfl ?_; (try simp only [Act.put, List.setIfInBounds_toArray]); (try dsimp only [List.set_cons_zero, List.set_cons_succ])
              refine seq_skip HST 64 144 rfl ?_; (try simp only [Act.put, List.setIfInBounds_toArray]); (try dsimp only [List.set_cons_zero, List.set_cons_succ])
              refine seq_skip HST 65 145 rfl ?_; (try simp only [Act.put, List.setIfInBounds_toArray]); (try dsimp only [List.set_cons_zero, List.set_cons_succ])
              refine seq_skip HST 66 146 rfl ?_; (try simp only [Act.put, List.setIfInBounds_toArray]); (try dsimp only [List.set_cons_zero, List.set_cons_succ])
              refine seq_skip HST 67 147 rfl ?_; (try simp only [Act.put, List.setIfInBounds_toArray]); (try dsimp only [List.set_cons_zero, List.set_cons_succ])
              refine seq_skip HST 68 148 rfl ?_; (try simp only [Act.put, List.setIfInBounds_toArray]); (try dsimp only [List.set_cons_zero, List.set_cons_succ])
              refine seq_skip HST 69 149 rfl ?_; (try simp only [Act.put, List.setIfInBounds_toArray]); (try dsimp only [List.set_cons_zero, List.set_cons_succ])
              refine seq_skip HST 70 150 rfl ?_; (try simp only [Act.put, List.setIfInBounds_toArray]); (try dsimp only [List.set_cons_zero, List.set_cons_succ])
              refine seq_take HST (v := ?_) 71 151 rfl ?_ ?_; rotate_left; (intro w hSw; go_simp; try with_reducible rfl); (try simp only [Act.put, List.setIfInBounds_toArray]); (try dsimp only [List.set_cons_zero, List.set_cons_succ])
              refine seq_take HST (v := ?_) 72 152 rfl ?_ ?_; rotate_left; (intro w hSw; go_simp; try with_reducible rfl); (try simp only [Act.put, List.setIfInBounds_toArray]); (try dsimp only [List.set_cons_zero, List.set_cons_succ])
              refine seq_done (by kernel_rfl) ?_
              go_wp2_with fail
              go_meet
              exact ⟨by first | rfl | simp, by assumption⟩
          · obtain ⟨y2, y3⟩ := X1.out rfl
            have y4 := X2.out rfl
            have y5 := X3.out rfl
            clear X0 X1 X2 X3
            as_aux_lemma =>
              refine seq_take HST (v := ?_) 0 80 rfl ?_ ?_; rotate_left; (intro w hSw; go_simp; try with_reducible rfl); (try simp only [Act.put, List.setIfInBounds_toArray]); (try dsimp only [List.set_cons_zero, List.set_cons_succ])
              refine seq_take HST (v := ?_) 1 81 rfl ?_ ?_; rotate_left; (intro w hSw; go_simp; try with_reducible rfl); (try simp only [Act.put, List.setIfInBounds_toArray]); (try dsimp only [List.set_cons_zero, List.set_cons_succ])
              refine seq_take HST (v := ?_) 2 82 rfl ?_ ?_; rotate_left; (intro w hSw; go_simp; try with_reducible rfl); (try simp only [Act.put, List.setIfInBounds_toArray]); (try dsimp only [List.set_cons_zero, List.set_cons_succ])
              refine seq_skip HST 3 83 rfl ?_; (try simp only [Act.put, List.setIfInBounds_toArray]); (try dsimp only [List.set_cons_zero, List.set_cons_succ])
              refine seq_skip HST 4 84 rfl ?_; (try simp only [Act.put, List.setIfInBounds_toArray]); (try dsimp only [List.set_cons_zero, List.set_cons_succ])
              refine seq_skip HST 5 85 rfl ?_; (try simp only [Act.put, List.setIfInBounds_toArray]); (try dsimp only [List.set_cons_zero, List.set_cons_succ])
              refine seq_skip HST 6 86 rfl ?_; (try simp only [Act.put, List.setIfInBounds_toArray]); (try dsimp only [List.set_cons_zero, List.set_cons_succ])
              refine seq_skip HST 7 87 rfl ?_; (try simp only [Act.put, List.setIfInBounds_toArray]); (try dsimp only [List.set_cons_zero, List.set_cons_succ])
              refine seq_skip HST 8 88 rfl ?_; (try simp only [Act.put, List.setIfInBounds_toArray]); (try dsimp only [List.set_cons_zero, List.set_cons_succ])
              refine seq_skip HST 9 89 rfl ?_; (try simp only [Act.put, List.setIfInBounds_toArray]); (try dsimp only [List.set_cons_zero, List.set_cons_succ])
              refine seq_skip HST 10 90 rfl ?_; (try simp only [Act.put, List.setIfInBounds_toArray]); (try dsimp only [List.set_cons_zero, List.set_cons_succ])
              refine seq_skip HST 11 91 rfl ?_; (try simp only [Act.put, List.setIfInBounds_toArray]); (try dsimp only [List.set_cons_zero, List.set_cons_succ])
              refine seq_skip HST 12 92 rfl ?_; (try simp only [Act.put, List.setIfInBounds_toArray]); (try dsimp only [List.set_cons_zero, List.set_cons_succ])
              refine seq_skip HST 13 93 rfl ?_; (try simp only [Act.put, List.setIfInBounds_toArray]); (try dsimp only [List.set_cons_zero, List.set_cons_succ])
              refine seq_skip HST 14 94 rfl ?_; (try simp only [Act.put, List.setIfInBounds_toArray]); (try dsimp only [List.set_cons_zero, List.set_cons_succ])
              refine seq_skip HST 15 95 rfl ?_; (try simp only [Act.put, List.setIfInBounds_toArray]); (try dsimp only [List.set_cons_zero, List.set_cons_succ])
              refine seq_skip HST 16 96 rfl ?_; (try simp only [Act.put, List.setIfInBounds_toArray]); (try dsimp only [List.set_cons_zero, List.set_cons_succ])
              refine seq_skip HST 17 97 rfl ?_; (try simp only [Act.put, List.setIfInBounds_toArray]); (try dsimp only [List.set_cons_zero, List.set_cons_succ])
              refine seq_skip HST 18 98 rfl ?_; (try simp only [Act.put, List.setIfInBounds_toArray]); (try dsimp only [List.set_cons_zero, List.set_cons_succ])
              refine seq_skip HST 19 99 rfl ?_; (try simp only [Act.put, List.setIfInBounds_toArray]); (try dsimp only [List.set_cons_zero, List.set_cons_succ])
              refine seq_skip HST 20 100 rfl ?_; (try simp only [Act.put, List.setIfInBounds_toArray]); (try dsimp only [List.set_cons_zero, List.set_cons_succ])
              refine seq_skip HST 21 101 rfl ?_; (try simp only [Act.put, List.setIfInBounds_toArray]); (try dsimp only [List.set_cons_zero, List.set_cons_succ])
              refine seq_skip HST 22 102 rfl ?_; (try simp only [Act.put, List.setIfInBounds_toArray]); (try dsimp only [List.set_cons_zero, List.set_cons_succ])
              refine seq_take HST (v := ?_) 23 103 rfl ?_ ?_; rotate_left; (intro w hSw; go_simp; try with_reducible rfl); (try simp only [Act.put, List.setIfInBounds_toArray]); (try dsimp only [List.set_cons_zero, List.set_cons_succ])
              refine seq_take HST (v := ?_) 24 104 rfl ?_ ?_; rotate_left; (intro w hSw; go_simp; try with_reducible rfl); (try simp only [Act.put, List.setIfInBounds_toArray]); (try dsimp only [List.set_cons_zero, List.set_cons_succ])
              refine seq_take HST (v := ?_) 25 105 rfl ?_ ?_; rotate_left; (intro w hSw; go_simp; try with_reducible rfl); (try simp only [Act.put, List.setIfInBounds_toArray]); (try dsimp only [List.set_cons_zero, List.set_cons_succ])
              refine seq_take HST (v := ?_) 26 106 rfl ?_ ?_; rotate_left; (intro w hSw; go_simp; try with_reducible rfl); (try simp only [Act.put, List.setIfInBounds_toArray]); (try dsimp only [List.set_cons_zero, List.set_cons_succ])
              refine seq_take HST (v := ?_) 27 107 rfl ?_ ?_; rotate_left; (intro w hSw; go_simp; try with_reducible rfl); (try simp only [Act.put, List.setIfInBounds_toArray]); (try dsimp only [List.set_cons_zero, List.set_cons_succ])
              refine seq_take HST (v := ?_) 28 108 rfl ?_ ?_; rotate_left; (intro w hSw; go_simp; try with_reducible rfl); (try simp only [Act.put, List.setIfInBounds_toArray]); (try dsimp only [List.set_cons_zero, List.set_cons_succ])
              refine seq_call HST 29 109 rfl (by kernel_rfl) (fun K hK => ?_); go_simp; refine ((RB.out (by first | exact rfl | exact trivial)) _ (by assumption)).mono ?_; rintro e w9 ⟨rfl, hb9⟩; refine hK.out _ _ (held9 (by assumption) hb9) (fun hHeld9 => ?_); clear hK K hb9; (try simp only [Act.put, List.setIfInBounds_toArray]); (try dsimp only [List.set_cons_zero, List.set_cons_succ])
              refine seq_take HST (v := ?_) 30 110 rfl ?_ ?_; rotate_left; (intro w hSw; go_simp; try with_reducible rfl); (try simp only [Act.put, List.setIfInBounds_toArray]); (try dsimp only [List.set_cons_zero, List.set_cons_succ])
              refine seq_take HST (v := ?_) 31 111 rfl ?_ ?_; rotate_left; (intro w hSw; go_simp; try with_reducible rfl); (try simp only [Act.put, List.setIfInBounds_toArray]); (try dsimp only [List.set_cons_zero, List.set_cons_succ])
              refine seq_take HST (v := ?_) 32 112 rfl ?_ ?_; rotate_left; (intro w hSw; go_simp; try with_reducible rfl); (try simp only [Act.put, List.setIfInBounds_toArray]); (try dsimp only [List.set_cons_zero, List.set_cons_succ])
              refine seq_take HST (v := ?_) 33 113 rfl ?_ ?_; rotate_left; (intro w hSw; go_simp; try with_reducible rfl); (try simp only [Act.put, List.setIfInBounds_toArray]); (try dsimp only [List.set_cons_zero, List.set_cons_succ])
              refine seq_take HST (v := ?_) 34 114 rfl ?_ ?_; rotate_left; (intro w hSw; go_simp; try with_reducible rfl); (try simp only [Act.put, List.setIfInBounds_toArray]); (try dsimp only [List.set_cons_zero, List.set_cons_succ])
              refine seq_take HST (v := ?_) 35 115 rfl ?_ ?_; rotate_left; (intro w hSw; go_simp; try with_reducible rfl); (try simp only [Act.put, List.setIfInBounds_toArray]); (try dsimp only [List.set_cons_zero, List.set_cons_succ])
              refine seq_take HST (v := ?_) 36 116 rfl ?_ ?_; rotate_left; (intro w hSw; go_simp; try with_reducible rfl); (try simp only [Act.put, List.setIfInBounds_toArray]); (try dsimp only [List.set_cons_zero, List.set_cons_succ])
              refine seq_take HST (v := ?_) 37 117 rfl ?_ ?_; rotate_left; (intro w hSw; go_simp; try with_reducible rfl); (try simp only [Act.put, List.setIfInBounds_toArray]); (try dsimp only [List.set_cons_zero, List.set_cons_succ])
              refine seq_take HST (v := ?_) 38 118 rfl ?_ ?_; rotate_left; (intro w hSw; go_simp; try with_reducible rfl); (try simp only [Act.put, List.setIfInBounds_toArray]); (try dsimp only [List.set_cons_zero, List.set_cons_succ])
              refine seq_take HST (v := ?_) 39 119 rfl ?_ ?_; rotate_left; (intro w hSw; go_simp; try with_reducible rfl); (try simp only [Act.put, List.setIfInBounds_toArray]); (try dsimp only [List.set_cons_zero, List.set_cons_succ])
              refine seq_take HST (v := ?_) 40 120 rfl ?_ ?_; rotate_left; (intro w hSw; go_simp; try with_reducible rfl); (try simp only [Act.put, List.setIfInBounds_toArray]); (try dsimp only [List.set_cons_zero, List.set_cons_succ])
              refine seq_take HST (v := ?_) 41 121 rfl ?_ ?_; rotate_left; (intro w hSw; go_simp; try with_reducible rfl); (try simp only [Act.put, List.setIfInBounds_toArray]); (try dsimp only [List.set_cons_zero, List.set_cons_succ])
              refine seq_take HST (v := ?_) 42 122 rfl ?_ ?_; rotate_left; (intro w hSw; go_simp; try with_reducible rfl); (try simp only [Act.put, List.setIfInBounds_toArray]); (try dsimp only [List.set_cons_zero, List.set_cons_succ])
              refine seq_take HST (v := ?_) 43 123 rfl ?_ ?_; rotate_left; (intro w hSw; go_simp; try with_reducible rfl); (try simp only [Act.put, List.setIfInBounds_toArray]); (try dsimp only [List.set_cons_zero, List.set_cons_succ])
              refine seq_take HST (v := ?_) 44 124 rfl ?_ ?_; rotate_left; (intro w hSw; go_simp; try with_reducible rfl); (try simp only [Act.put, List.setIfInBounds_toArray]); (try dsimp only [List.set_cons_zero, List.set_cons_succ])
              refine seq_take HST (v := ?_) 45 125 rfl ?_ ?_; rotate_left; (intro w hSw; go_simp; try with_reducible rfl); (try simp only [Act.put, List.setIfInBounds_toArray]); (try dsimp only [List.set_cons_zero, List.set_cons_succ])
              refine seq_call HST 46 126 rfl (by kernel_rfl) (fun K hK => ?_); go_simp; refine ((RC.out (by first | exact rfl | exact trivial)) _ (by assumption)).mono ?_; rintro e w9 ⟨rfl, hb9⟩; refine hK.out _ _ (held9 (by assumption) hb9) (fun hHeld9 => ?_); clear hK K hb9; (try simp only [Act.put, List.setIfInBounds_toArray]); (try dsimp only [List.set_cons_zero, List.set_cons_succ])
              refine seq_take HST (v := ?_) 47 127 rfl ?_ ?_; rotate_left; (intro w hSw; go_simp; try with_reducible rfl); (try simp only [Act.put, List.setIfInBounds_toArray]); (try dsimp only [List.set_cons_zero, List.set_cons_succ])
              refine seq_take HST (v := ?_) 48 128 rfl ?_ ?_; rotate_left; (intro w hSw; go_simp; try with_reducible rfl); (try simp only [Act.put, List.setIfInBounds_toArray]); (try dsimp only [List.set_cons_zero, List.set_cons_succ])
              refine seq_take HST (v := ?_) 49 129 rfl ?_ ?_; rotate_left; (intro w hSw; go_simp; try with_reducible rfl); (try simp only [Act.put, List.setIfInBounds_toArray]); (try dsimp only [List.set_cons_zero, List.set_cons_succ])
              refine seq_take HST (v := ?_) 50 130 rfl ?_ ?_; rotate_left; (intro w hSw; go_simp; try with_reducible rfl); (try simp only [Act.put, List.setIfInBounds_toArray]); (try dsimp only [List.set_cons_zero, List.set_cons_succ])
              refine seq_take HST (v := ?_) 51 131 rfl ?_ ?_; rotate_left; (intro w hSw; go_simp; try with_reducible rfl); (try simp only [Act.put, List.setIfInBounds_toArray]); (try dsimp only [List.set_cons_zero, List.set_cons_succ])
              refine seq_take HST (v := ?_) 52 132 rfl ?_ ?_; rotate_left; (intro w hSw; go_simp; try with_reducible rfl); (try simp only [Act.put, List.setIfInBounds_toArray]); (try dsimp only [List.set_cons_zero, List.set_cons_succ])
              refine seq_take HST (v := ?_) 53 133 rfl ?_ ?_; rotate_left; (intro w hSw; go_simp; try with_reducible rfl); (try simp only [Act.put, List.setIfInBounds_toArray]); (try dsimp only [List.set_cons_zero, List.set_cons_succ])
              refine seq_take HST (v := ?_) 54 134 rfl ?_ ?_; rotate_left; (intro w hSw; go_simp; try with_reducible rfl); (try simp only [Act.put, List.setIfInBounds_toArray]); (try dsimp only [List.set_cons_zero, List.set_cons_succ])
              refine seq_take HST (v := ?_) 55 135 rfl ?_ ?_; rotate_left; (intro w hSw; go_simp; try with_reducible rfl); (try simp only [Act.put, List.setIfInBounds_toArray]); (try dsimp only [List.set_cons_zero, List.set_cons_succ])
              refine seq_take HST (v := ?_) 56 136 rfl ?_ ?_; rotate_left; (intro w hSw; go_simp; try with_reducible rfl); (try simp only [Act.put, List.setIfInBounds_toArray]); (try dsimp only [List.set_cons_zero, List.set_cons_succ])
              refine seq_take HST (v := ?_) 57 137 rfl ?_ ?_; rotate_left; (intro w hSw; go_simp; try with_reducible rfl); (try simp only [Act.put, List.setIfInBounds_toArray]); (try dsimp only [List.set_cons_zero, List.set_cons_succ])
              refine seq_take HST (v := ?_) 58 138 rfl ?_ ?_; rotate_left; (intro w hSw; go_simp; try with_reducible rfl); (try simp only [Act.put, List.setIfInBounds_toArray]); (try dsimp only [List.set_cons_zero, List.set_cons_succ])
              refine seq_take HST (v := ?_) 59 139 rfl ?_ ?_; rotate_left; (intro w hSw; go_simp; try with_reducible rfl); (try simp only [Act.put, List.setIfInBounds_toArray]); (try dsimp only [List.set_cons_zero, List.set_cons_succ])
              refine seq_take HST (v := ?_) 60 140 rfl ?_ ?_; rotate_left; (intro w hSw; go_simp; try with_reducible rfl); (try simp only [Act.put, List.setIfInBounds_toArray]); (try dsimp only [List.set_cons_zero, List.set_cons_succ])
              refine seq_take HST (v := ?_) 61 141 rfl ?_ ?_; rotate_left; (intro w hSw; go_simp; try with_reducible rfl); (try simp only [Act.put, List.setIfInBounds_toArray]); (try dsimp only [List.set_cons_zero, List.set_cons_succ])
              refine seq_call HST 62 142 rfl (by kernel_rfl) (fun K hK => ?_); go_simp; refine ((RD.out (by first | exact rfl | exact trivial)) _ (by assumption)).mono ?_; rintro e w9 ⟨rfl, hb9⟩; refine hK.out _ _ (held9 (by assumption) hb9) (fun hHeld9 => ?_); clear hK K hb9; (try simp only [Act.put, List.setIfInBounds_toArray]); (try dsimp only [List.set_cons_zero, List.set_cons_succ])
              refine seq_take HST (v := ?_) 63 143 rfl ?_ ?_; rotate_left; (intro w hSw; go_simp; try with_reducible rfl); (try simp only [Act.put, List.setIfInBounds_toArray]); (try dsimp only [List.set_cons_zero, List.set_cons_succ])
              refine seq_take HST (v := ?_) 64 144 rfl ?_ ?_; rotate_left; (intro w hSw; go_simp; try with_reducible rfl); (try simp only [Act.put, List.setIfInBounds_toArray]); (try dsimp only [List.set_cons_zero, List.set_cons_succ])
              refine seq_take HST (v := ?_) 65 145 rfl ?_ ?_; rotate_left; (intro w hSw; go_simp; try with_reducible rfl); (try simp only [Act.put, List.setIfInBounds_toArray]); (try dsimp only [List.set_cons_zero, List.set_cons_succ])
              refine seq_take HST (v := ?_) 66 146 rfl ?_ ?_; rotate_left; (intro w hSw; go_simp; try with_reducible rfl); (try simp only [Act.put, List.setIfInBounds_toArray]); (try dsimp only [List.set_cons_zero, List.set_cons_succ])
              refine seq_take HST (v := ?_) 67 147 rfl ?_ ?_; rotate_left; (intro w hSw; go_simp; try with_reducible rfl); (try simp only [Act.put, List.setIfInBounds_toArray]); (try dsimp only [List.set_cons_zero, List.set_cons_succ])
              refine seq_take HST (v := ?_) 68 148 rfl ?_ ?_; rotate_left; (intro w hSw; go_simp; try with_reducible rfl); (try simp only [Act.put, List.setIfInBounds_toArray]); (try dsimp only [List.set_cons_zero, List.set_cons_succ])
              refine seq_take HST (v := ?_) 69 149 rfl ?_ ?_; rotate_left; (intro w hSw; go_simp; try with_reducible rfl); (try simp only [Act.put, List.setIfInBounds_toArray]); (try dsimp only [List.set_cons_zero, List.set_cons_succ])
              refine seq_take HST (v := ?_) 70 150 rfl ?_ ?_; rotate_left; (intro w hSw; go_simp; try with_reducible rfl); (try simp only [Act.put, List.setIfInBounds_toArray]); (try dsimp only [List.set_cons_zero, List.set_cons_succ])
              refine seq_take HST (v := ?_) 71 151 rfl ?_ ?_; rotate_left; (intro w hSw; go_simp; try with_reducible rfl); (try simp only [Act.put, List.setIfInBounds_toArray]); (try dsimp only [List.set_cons_zero, List.set_cons_succ])
              refine seq_take HST (v := ?_) 72 152 rfl ?_ ?_; rotate_left; (intro w hSw; go_simp; try with_reducible rfl); (try simp only [Act.put, List.setIfInBounds_toArray]); (try dsimp only [List.set_cons_zero, List.set_cons_succ])
              refine seq_done (by kernel_rfl) ?_
              go_wp2_with fail
              go_meet
              exact ⟨by first | rfl | simp, by assumption⟩
  case rest => as_aux_lemma =>
    obtain ⟨rfl, hcut⟩ := hcut
    have C8 := Lib.hid hcut
    have F1 := Lib.hid (fun w' (h : Below w7.heap.size w7 w') => sfind_any A2 c2 r1 s w' ((V2c.out.below h).more h.size) (by have := B1.out; omega))
    have F2 := Lib.hid (fun w' (h : Below w7.heap.size w7 w') => sfind_any A3 c3 r2 s w' ((V3c.out.below h).more h.size) (by have := B2.out; omega))
    have F3 := Lib.hid (fun w' (h : Below w7.heap.size w7 w') => sfind_any A3 c3 r2 ux w' ((V3c.out.below h).more h.size) (by have := B2.out; omega))
    unfold FindPost at F1 F2 F3
    rw [U1.out, HN1.out] at F1
    rw [U2.out, HN2.out] at F2
    rw [HN2.out] at F3
    obtain ⟨z1, hz1⟩ : ∃ z, max (findZ r1 s.data.toList) 0 = z := ⟨_, rfl⟩
    obtain ⟨z2, hz2⟩ : ∃ z, max (findZ r2 s.data.toList) 0 = z := ⟨_, rfl⟩
    obtain ⟨z3, hz3⟩ : ∃ z, max (findZ r2 ux.data.toList) 0 = z := ⟨_, rfl⟩
    obtain ⟨is, his⟩ : ∃ z, decide (0 ≤ findZ r2 ux.data.toList) = z := ⟨_, rfl⟩
    rw [hz1] at F1
    rw [hz2] at F2
    rw [hz3, his] at F3
    have HIS := Lib.hid (show b2 = true → is = true from fun h => by rw [← his]; exact U3.out h)
    have LI := Lib.hid (fun (w' : World) (h : Below w7.heap.size w7 w') (i : Nat) (hi : i < L) => at_word (AA.out w' (SB.out w' h)) i (by rw [HLL.out]; exact hi))
    have I0 := Lib.hid (fun (h0 : b0 = true) (w' : World) (h : Below w7.heap.size w7 w') (i : Nat) (hi : i < L) => show ∃ ad : Addr, A1 = some ad ∧ ad.block < w7.heap.size ∧ w'.cell? (ad.add (i * 3)) = some (.int .i64 (l[i]'(by rw [HLL.out]; exact hi)).1) ∧ w'.cell? ⟨(ad.add (i * 3)).block, (ad.add (i * 3)).off + 1, none⟩ = some (.string ⟨(l[i]'(by rw [HLL.out]; exact hi)).2.1.toArray⟩) ∧ w'.cell? ⟨(ad.add (i * 3)).block, (ad.add (i * 3)).off + 2, none⟩ = some (.int .i64 (l[i]'(by rw [HLL.out]; exact hi)).2.2) from by
      have h8 := M0.out h0
      have hi0 : i < r0.length := by rw [HN0.out]; omega
      obtain ⟨ad, q, qb, q0, q1, q2⟩ := at_word (V1c.out.below h) i hi0
      have h9 : r0[i] = l[i]'(by rw [HLL.out]; exact hi) := by
        have h7 := (T0.out h0).2
        subst h7
        exact List.getElem_append_left _
      rw [h9] at q0 q1 q2
      exact ⟨ad, q, qb, q0, q1, q2⟩)
    have I2 := Lib.hid (fun (h0 : b2 = true) (w' : World) (h : Below w7.heap.size w7 w') (i : Nat) (hi : i < L) => show ∃ ad : Addr, A3 = some ad ∧ ad.block < w7.heap.size ∧ w'.cell? (ad.add (i * 3)) = some (.int .i64 (l[i]'(by rw [HLL.out]; exact hi)).1) from by
      have h8 := M2.out h0
      have hi0 : i < r2.length := by rw [HN2.out]; omega
      obtain ⟨ad, q, qb, q0, q1, q2⟩ := at_word (V3c.out.below h) i hi0
      rw [(T2.out h0).2.2.1 i (by rw [HLL.out]; exact hi) hi0] at q0
      exact ⟨ad, q, qb, q0⟩)
    have I3 := Lib.hid (fun (h0 : b3 = true) (w' : World) (h : Below w7.heap.size w7 w') (i : Nat) (hi : i < L) => show ∃ ad : Addr, A4 = some ad ∧ ad.block < w7.heap.size ∧ w'.cell? (ad.add (i * 3)) = some (.int .i64 (l[i]'(by rw [HLL.out]; exact hi)).1) ∧ w'.cell? ⟨(ad.add (i * 3)).block, (ad.add (i * 3)).off + 1, none⟩ = some (.string ⟨(l[i]'(by rw [HLL.out]; exact hi)).2.1.toArray⟩) from by
      have h8 := M3.out h0
      have hi0 : i < r3.length := by rw [HN3.out]; omega
      obtain ⟨ad, q, qb, q0, q1, q2⟩ := at_word (V4.out.below h) i hi0
      have h9 := (T3.out h0).2.2 i (by rw [HLL.out]; exact hi) hi0
      rw [h9.1] at q0
      rw [h9.2] at q1
      exact ⟨ad, q, qb, q0, q1⟩)
    have Y0 := Lib.hid (show b0 = true → L < n0 from fun h => by have := M0.out h; omega)
    have Y2 := Lib.hid (show b2 = true → n2 = L from M2.out)
    have Y3 := Lib.hid (show b3 = true → n3 = L from M3.out)
    have HD9 := Lib.hid (show (b0 = true ∧ b2 = false ∧ b3 = false) ∨ b0 = false by
      cases hb : b0 with
      | true => exact .inl ⟨rfl, (T9.out hb).2⟩
      | false => exact .inr rfl)
    have AL2 := Lib.hid (fun w' h => AL.out w' (SB.out w' h))
    have SX2 := Lib.hid (fun w' (h : Below w7.heap.size w7 w') => SX.out w' (E7.out.trans (h.mono E7.out.size)) (SB.out w' h))
    rw [HLL.out] at SX2
    have LW := Lib.hid (fun w' (h : Below w7.heap.size w7 w') => LL.out w' (SB.out w' h))
    have HE7 := Lib.hid (fun w' (h : Below w7.heap.size w7 w') => HE.out w' (SB.out w' h))
    clear hz1 hz2 hz3 his hcut U1 U2 U3 T0 T1 T2 T3 T9 B1 B2 SM SL M0 M1 M2 M3 HN0 HN1 HN2 HN3 Q0 Q1 Q2 Q3 AL SX XX HSC HNL V1c V2c V3c V4 AA LL GG RA RB RC RD FA HE SB D7 E7 w1L
    go_wp2
    go_loopw [18] (fun t wr => ∃ i : Nat, i ≤ L ∧ t = .int .i64 i ∧ Below w7.heap.size w7 wr) (fun t _ => L - (intOf t).toNat)
    case atStart => exact ⟨0, by omega, rfl, C8.out⟩
    case round =>
      obtain ⟨i, hi, rfl, hbel⟩ := hrel
      have HL := Lib.hid hbel
      clear hbel
      by_cases hil : i < L
      · obtain ⟨al, rfl, ga, c0, c1, c2⟩ := LI.out wr HL.out i hil
        have J0 := Lib.hid (fun h => I0.out h wr HL.out i hil)
        have J2 := Lib.hid (fun h => I2.out h wr HL.out i hil)
        have J3 := Lib.hid (fun h => I3.out h wr HL.out i hil)
        obtain ⟨x, hx⟩ : ∃ x, l[i]'(by rw [HLL.out]; exact hil) = x := ⟨_, rfl⟩
        rw [hx] at c0 c1 c2 J0 J2 J3
        clear hx
        obtain ⟨x1, x2, x3⟩ := x
        dsimp only at c0 c1 c2 J0 J2 J3
        obtain ⟨T, hT⟩ : ∃ T : ByteArray, ⟨x2.toArray⟩ = T := ⟨_, rfl⟩
        rw [hT] at c1 J0 J3
        clear hT I0 I2 I3 LI F1 F2 F3 AL2 SX2 LW HE7
        have hi63 : (i : Int) < (L : Int) := by omega
        have z7 := HL.out.size
        have za : (al.add (i * 3)).block < wr.heap.size := by rw [add_block]; omega
        go_wp2_with fail
        refine seq_begin (fun w' => Below wr.heap.size wr w') 60 (by kernel_rfl) (by kernel_rfl) (Below.drew (Below.refl _ _)) (fun HST hHeld => ?_)
        rcases HD9.out with ⟨rfl, rfl, rfl⟩ | rfl
        · obtain ⟨ad, rfl, zd0, d0, d1, d2⟩ := J0.out rfl
          have zd : (ad.add (i * 3)).block < wr.heap.size := by rw [add_block]; omega
          have y0 : (i : Int) < (n0 : Int) := by have := Y0.out rfl; omega
          have FQ := Lib.hid (fun (w' : World) (h : Below wr.heap.size wr w') => And.intro (keepc h za c0) (And.intro (keepc1 h za c1) (And.intro (keepc1 h za c2) (And.intro (keepc h zd d0) (And.intro (keepc1 h zd d1) (keepc1 h zd d2))))))
          clear d0 d1 d2
          clear J0 J2 J3 Y0 Y2 Y3 c0 c1 c2
          as_aux_lemma =>
            refine seq_take HST (v := ?_) 0 159 rfl ?_ ?_; rotate_left; (intro w hSw; go_simp; try with_reducible rfl); (try simp only [Act.put, List.setIfInBounds_toArray]); (try dsimp only [List.set_cons_zero, List.set_cons_succ])
            refine seq_take HST (v := ?_) 1 160 rfl ?_ ?_; rotate_left; (intro w hSw; go_simp; try with_reducible rfl); (try simp only [Act.put, List.setIfInBounds_toArray]); (try dsimp only [List.set_cons_zero, List.set_cons_succ])
            refine seq_take HST (v := ?_) 2 161 rfl ?_ ?_; rotate_left; (intro w hSw; go_simp; try with_reducible rfl); (try simp only [Act.put, List.setIfInBounds_toArray]); (try dsimp only [List.set_cons_zero, List.set_cons_succ])
            refine seq_take HST (v := ?_) 3 162 rfl ?_ ?_; rotate_left; (intro w hSw; go_simp; try with_reducible rfl); (try simp only [Act.put, List.setIfInBounds_toArray]); (try dsimp only [List.set_cons_zero, List.set_cons_succ])
            refine seq_take HST (v := ?_) 4 163 rfl ?_ ?_; rotate_left; (intro w hSw; go_simp; try with_reducible rfl); (try simp only [Act.put, List.setIfInBounds_toArray]); (try dsimp only [List.set_cons_zero, List.set_cons_succ])
            refine seq_take HST (v := ?_) 5 164 rfl ?_ ?_; rotate_left; (intro w hSw; go_simp; try with_reducible rfl); (try simp only [Act.put, List.setIfInBounds_toArray]); (try dsimp only [List.set_cons_zero, List.set_cons_succ])
            refine seq_take HST (v := ?_) 6 165 rfl ?_ ?_; rotate_left; (intro w hSw; obtain ⟨f0, f1, f2, f3, f4, f5⟩ := FQ.out _ hSw; go_simp; try with_reducible rfl); (try simp only [Act.put, List.setIfInBounds_toArray]); (try dsimp only [List.set_cons_zero, List.set_cons_succ])
            refine seq_take HST (v := ?_) 7 166 rfl ?_ ?_; rotate_left; (intro w hSw; go_simp; try with_reducible rfl); (try simp only [Act.put, List.setIfInBounds_toArray]); (try dsimp only [List.set_cons_zero, List.set_cons_succ])
            refine seq_take HST (v := ?_) 8 167 rfl ?_ ?_; rotate_left; (intro w hSw; go_simp; try with_reducible rfl); (try simp only [Act.put, List.setIfInBounds_toArray]); (try dsimp only [List.set_cons_zero, List.set_cons_succ])
            refine seq_take HST (v := ?_) 9 168 rfl ?_ ?_; rotate_left; (intro w hSw; go_simp; try with_reducible rfl); (try simp only [Act.put, List.setIfInBounds_toArray]); (try dsimp only [List.set_cons_zero, List.set_cons_succ])
            refine seq_take HST (v := ?_) 10 169 rfl ?_ ?_; rotate_left; (intro w hSw; obtain ⟨f0, f1, f2, f3, f4, f5⟩ := FQ.out _ hSw; go_simp; try with_reducible rfl); (try simp only [Act.put, List.setIfInBounds_toArray]); (try dsimp only [List.set_cons_zero, List.set_cons_succ])
            refine seq_take HST (v := ?_) 11 170 rfl ?_ ?_; rotate_left; (intro w hSw; go_simp; try with_reducible rfl); (try simp only [Act.put, List.setIfInBounds_toArray]); (try dsimp only [List.set_cons_zero, List.set_cons_succ])
            refine seq_take HST (v := ?_) 12 171 rfl ?_ ?_; rotate_left; (intro w hSw; go_simp; try with_reducible rfl); (try simp only [Act.put, List.setIfInBounds_toArray]); (try dsimp only [List.set_cons_zero, List.set_cons_succ])
            refine seq_take HST (v := ?_) 13 172 rfl ?_ ?_; rotate_left; (intro w hSw; go_simp; try with_reducible rfl); (try simp only [Act.put, List.setIfInBounds_toArray]); (try dsimp only [List.set_cons_zero, List.set_cons_succ])
            refine seq_take HST (v := ?_) 14 173 rfl ?_ ?_; rotate_left; (intro w hSw; go_simp; try with_reducible rfl); (try simp only [Act.put, List.setIfInBounds_toArray]); (try dsimp only [List.set_cons_zero, List.set_cons_succ])
            refine seq_take HST (v := ?_) 15 174 rfl ?_ ?_; rotate_left; (intro w hSw; go_simp; try with_reducible rfl); (try simp only [Act.put, List.setIfInBounds_toArray]); (try dsimp only [List.set_cons_zero, List.set_cons_succ])
            refine seq_take HST (v := ?_) 16 175 rfl ?_ ?_; rotate_left; (intro w hSw; go_simp; try with_reducible rfl); (try simp only [Act.put, List.setIfInBounds_toArray]); (try dsimp only [List.set_cons_zero, List.set_cons_succ])
            refine seq_skip HST 17 176 rfl ?_; (try simp only [Act.put, List.setIfInBounds_toArray]); (try dsimp only [List.set_cons_zero, List.set_cons_succ])
            refine seq_skip HST 18 177 rfl ?_; (try simp only [Act.put, List.setIfInBounds_toArray]); (try dsimp only [List.set_cons_zero, List.set_cons_succ])
            refine seq_skip HST 19 178 rfl ?_; (try simp only [Act.put, List.setIfInBounds_toArray]); (try dsimp only [List.set_cons_zero, List.set_cons_succ])
            refine seq_skip HST 20 179 rfl ?_; (try simp only [Act.put, List.setIfInBounds_toArray]); (try dsimp only [List.set_cons_zero, List.set_cons_succ])
            refine seq_skip HST 21 180 rfl ?_; (try simp only [Act.put, List.setIfInBounds_toArray]); (try dsimp only [List.set_cons_zero, List.set_cons_succ])
            refine seq_skip HST 22 181 rfl ?_; (try simp only [Act.put, List.setIfInBounds_toArray]); (try dsimp only [List.set_cons_zero, List.set_cons_succ])
            refine seq_skip HST 23 182 rfl ?_; (try simp only [Act.put, List.setIfInBounds_toArray]); (try dsimp only [List.set_cons_zero, List.set_cons_succ])
            refine seq_skip HST 24 183 rfl ?_; (try simp only [Act.put, List.setIfInBounds_toArray]); (try dsimp only [List.set_cons_zero, List.set_cons_succ])
            refine seq_skip HST 25 184 rfl ?_; (try simp only [Act.put, List.setIfInBounds_toArray]); (try dsimp only [List.set_cons_zero, List.set_cons_succ])
            refine seq_skip HST 26 185 rfl ?_; (try simp only [Act.put, List.setIfInBounds_toArray]); (try dsimp only [List.set_cons_zero, List.set_cons_succ])
            refine seq_skip HST 27 186 rfl ?_; (try simp only [Act.put, List.setIfInBounds_toArray]); (try dsimp only [List.set_cons_zero, List.set_cons_succ])
            refine seq_take HST (v := ?_) 28 187 rfl ?_ ?_; rotate_left; (intro w hSw; go_simp; try with_reducible rfl); (try simp only [Act.put, List.setIfInBounds_toArray]); (try dsimp only [List.set_cons_zero, List.set_cons_succ])
            refine seq_take HST (v := ?_) 29 188 rfl ?_ ?_; rotate_left; (intro w hSw; go_simp; try with_reducible rfl); (try simp only [Act.put, List.setIfInBounds_toArray]); (try dsimp only [List.set_cons_zero, List.set_cons_succ])
            refine seq_take HST (v := ?_) 30 189 rfl ?_ ?_; rotate_left; (intro w hSw; go_simp; try with_reducible rfl); (try simp only [Act.put, List.setIfInBounds_toArray]); (try dsimp only [List.set_cons_zero, List.set_cons_succ])
            refine seq_take HST (v := ?_) 31 190 rfl ?_ ?_; rotate_left; (intro w hSw; go_simp; try with_reducible rfl); (try simp only [Act.put, List.setIfInBounds_toArray]); (try dsimp only [List.set_cons_zero, List.set_cons_succ])
            refine seq_take HST (v := ?_) 32 191 rfl ?_ ?_; rotate_left; (intro w hSw; go_simp; try with_reducible rfl); (try simp only [Act.put, List.setIfInBounds_toArray]); (try dsimp only [List.set_cons_zero, List.set_cons_succ])
            refine seq_take HST (v := ?_) 33 192 rfl ?_ ?_; rotate_left; (intro w hSw; go_simp; try with_reducible rfl); (try simp only [Act.put, List.setIfInBounds_toArray]); (try dsimp only [List.set_cons_zero, List.set_cons_succ])
            refine seq_skip HST 34 193 rfl ?_; (try simp only [Act.put, List.setIfInBounds_toArray]); (try dsimp only [List.set_cons_zero, List.set_cons_succ])
            refine seq_skip HST 35 194 rfl ?_; (try simp only [Act.put, List.setIfInBounds_toArray]); (try dsimp only [List.set_cons_zero, List.set_cons_succ])
            refine seq_skip HST 36 195 rfl ?_; (try simp only [Act.put, List.setIfInBounds_toArray]); (try dsimp only [List.set_cons_zero, List.set_cons_succ])
            refine seq_skip HST 37 196 rfl ?_; (try simp only [Act.put, List.setIfInBounds_toArray]); (try dsimp only [List.set_cons_zero, List.set_cons_succ])
            refine seq_skip HST 38 197 rfl ?_; (try simp only [Act.put, List.setIfInBounds_toArray]); (try dsimp only [List.set_cons_zero, List.set_cons_succ])
            refine seq_skip HST 39 198 rfl ?_; (try simp only [Act.put, List.setIfInBounds_toArray]); (try dsimp only [List.set_cons_zero, List.set_cons_succ])
            refine seq_skip HST 40 199 rfl ?_; (try simp only [Act.put, List.setIfInBounds_toArray]); (try dsimp only [List.set_cons_zero, List.set_cons_succ])
            refine seq_skip HST 41 200 rfl ?_; (try simp only [Act.put, List.setIfInBounds_toArray]); (try dsimp only [List.set_cons_zero, List.set_cons_succ])
            refine seq_skip HST 42 201 rfl ?_; (try simp only [Act.put, List.setIfInBounds_toArray]); (try dsimp only [List.set_cons_zero, List.set_cons_succ])
            refine seq_skip HST 43 202 rfl ?_; (try simp only [Act.put, List.setIfInBounds_toArray]); (try dsimp only [List.set_cons_zero, List.set_cons_succ])
            refine seq_skip HST 44 203 rfl ?_; (try simp only [Act.put, List.setIfInBounds_toArray]); (try dsimp only [List.set_cons_zero, List.set_cons_succ])
            refine seq_skip HST 45 204 rfl ?_; (try simp only [Act.put, List.setIfInBounds_toArray]); (try dsimp only [List.set_cons_zero, List.set_cons_succ])
            refine seq_skip HST 46 205 rfl ?_; (try simp only [Act.put, List.setIfInBounds_toArray]); (try dsimp only [List.set_cons_zero, List.set_cons_succ])
            refine seq_skip HST 47 206 rfl ?_; (try simp only [Act.put, List.setIfInBounds_toArray]); (try dsimp only [List.set_cons_zero, List.set_cons_succ])
            refine seq_skip HST 48 207 rfl ?_; (try simp only [Act.put, List.setIfInBounds_toArray]); (try dsimp only [List.set_cons_zero, List.set_cons_succ])
            refine seq_skip HST 49 208 rfl ?_; (try simp only [Act.put, List.setIfInBounds_toArray]); (try dsimp only [List.set_cons_zero, List.set_cons_succ])
            refine seq_skip HST 50 209 rfl ?_; (try simp only [Act.put, List.setIfInBounds_toArray]); (try dsimp only [List.set_cons_zero, List.set_cons_succ])
            refine seq_skip HST 51 210 rfl ?_; (try simp only [Act.put, List.setIfInBounds_toArray]); (try dsimp only [List.set_cons_zero, List.set_cons_succ])
            refine seq_skip HST 52 211 rfl ?_; (try simp only [Act.put, List.setIfInBounds_toArray]); (try dsimp only [List.set_cons_zero, List.set_cons_succ])
            refine seq_skip HST 53 212 rfl ?_; (try simp only [Act.put, List.setIfInBounds_toArray]); (try dsimp only [List.set_cons_zero, List.set_cons_succ])
            refine seq_skip HST 54 213 rfl ?_; (try simp only [Act.put, List.setIfInBounds_toArray]); (try dsimp only [List.set_cons_zero, List.set_cons_succ])
            refine seq_skip HST 55 214 rfl ?_; (try simp only [Act.put, List.setIfInBounds_toArray]); (try dsimp only [List.set_cons_zero, List.set_cons_succ])
            refine seq_skip HST 56 215 rfl ?_; (try simp only [Act.put, List.setIfInBounds_toArray]); (try dsimp only [List.set_cons_zero, List.set_cons_succ])
            refine seq_skip HST 57 216 rfl ?_; (try simp only [Act.put, List.setIfInBounds_toArray]); (try dsimp only [List.set_cons_zero, List.set_cons_succ])
            refine seq_take HST (v := ?_) 58 217 rfl ?_ ?_; rotate_left; (intro w hSw; go_simp; try with_reducible rfl); (try simp only [Act.put, List.setIfInBounds_toArray]); (try dsimp only [List.set_cons_zero, List.set_cons_succ])
            refine seq_take HST (v := ?_) 59 218 rfl ?_ ?_; rotate_left; (intro w hSw; go_simp; try with_reducible rfl); (try simp only [Act.put, List.setIfInBounds_toArray]); (try dsimp only [List.set_cons_zero, List.set_cons_succ])
            refine seq_done (by kernel_rfl) ?_
            have HLD := Lib.hid (HL.out.trans (hHeld.mono z7))
            clear hHeld
            go_wp2
            go_roundw
            case rel => exact ⟨i + 1, by omega, by go_num, HLD.out⟩
            case measure => simp [intOf]; omega
        · cases b2
          · cases b3
            · have FQ := Lib.hid (fun (w' : World) (h : Below wr.heap.size wr w') => And.intro (keepc h za c0) (And.intro (keepc1 h za c1) (And.intro (keepc1 h za c2) (And.intro (True.intro) (And.intro (True.intro) (True.intro))))))
              clear J0 J2 J3 Y0 Y2 Y3 c0 c1 c2
              as_aux_lemma =>
                refine seq_take HST (v := ?_) 0 159 rfl ?_ ?_; rotate_left; (intro w hSw; go_simp; try with_reducible rfl); (try simp only [Act.put, List.setIfInBounds_toArray]); (try dsimp only [List.set_cons_zero, List.set_cons_succ])
                refine seq_take HST (v := ?_) 1 160 rfl ?_ ?_; rotate_left; (intro w hSw; go_simp; try with_reducible rfl); (try simp only [Act.put, List.setIfInBounds_toArray]); (try dsimp only [List.set_cons_zero, List.set_cons_succ])
                refine seq_take HST (v := ?_) 2 161 rfl ?_ ?_; rotate_left; (intro w hSw; go_simp; try with_reducible rfl); (try simp only [Act.put, List.setIfInBounds_toArray]); (try dsimp only [List.set_cons_zero, List.set_cons_succ])
                refine seq_skip HST 3 162 rfl ?_; (try simp only [Act.put, List.setIfInBounds_toArray]); (try dsimp only [List.set_cons_zero, List.set_cons_succ])
                refine seq_skip HST 4 163 rfl ?_; (try simp only [Act.put, List.setIfInBounds_toArray]); (try dsimp only [List.set_cons_zero, List.set_cons_succ])
                refine seq_skip HST 5 164 rfl ?_; (try simp only [Act.put, List.setIfInBounds_toArray]); (try dsimp only [List.set_cons_zero, List.set_cons_succ])
                refine seq_skip HST 6 165 rfl ?_; (try simp only [Act.put, List.setIfInBounds_toArray]); (try dsimp only [List.set_cons_zero, List.set_cons_succ])
                refine seq_skip HST 7 166 rfl ?_; (try simp only [Act.put, List.setIfInBounds_toArray]); (try dsimp only [List.set_cons_zero, List.set_cons_succ])
                refine seq_skip HST 8 167 rfl ?_; (try simp only [Act.put, List.setIfInBounds_toArray]); (try dsimp only [List.set_cons_zero, List.set_cons_succ])
                refine seq_skip HST 9 168 rfl ?_; (try simp only [Act.put, List.setIfInBounds_toArray]); (try dsimp only [List.set_cons_zero, List.set_cons_succ])
                refine seq_skip HST 10 169 rfl ?_; (try simp only [Act.put, List.setIfInBounds_toArray]); (try dsimp only [List.set_cons_zero, List.set_cons_succ])
                refine seq_skip HST 11 170 rfl ?_; (try simp only [Act.put, List.setIfInBounds_toArray]); (try dsimp only [List.set_cons_zero, List.set_cons_succ])
                refine seq_take HST (v := ?_) 12 171 rfl ?_ ?_; rotate_left; (intro w hSw; go_simp; try with_reducible rfl); (try simp only [Act.put, List.setIfInBounds_toArray]); (try dsimp only [List.set_cons_zero, List.set_cons_succ])
                refine seq_take HST (v := ?_) 13 172 rfl ?_ ?_; rotate_left; (intro w hSw; go_simp; try with_reducible rfl); (try simp only [Act.put, List.setIfInBounds_toArray]); (try dsimp only [List.set_cons_zero, List.set_cons_succ])
                refine seq_take HST (v := ?_) 14 173 rfl ?_ ?_; rotate_left; (intro w hSw; go_simp; try with_reducible rfl); (try simp only [Act.put, List.setIfInBounds_toArray]); (try dsimp only [List.set_cons_zero, List.set_cons_succ])
                refine seq_take HST (v := ?_) 15 174 rfl ?_ ?_; rotate_left; (intro w hSw; go_simp; try with_reducible rfl); (try simp only [Act.put, List.setIfInBounds_toArray]); (try dsimp only [List.set_cons_zero, List.set_cons_succ])
                refine seq_take HST (v := ?_) 16 175 rfl ?_ ?_; rotate_left; (intro w hSw; go_simp; try with_reducible rfl); (try simp only [Act.put, List.setIfInBounds_toArray]); (try dsimp only [List.set_cons_zero, List.set_cons_succ])
                refine seq_skip HST 17 176 rfl ?_; (try simp only [Act.put, List.setIfInBounds_toArray]); (try dsimp only [List.set_cons_zero, List.set_cons_succ])
                refine seq_skip HST 18 177 rfl ?_; (try simp only [Act.put, List.setIfInBounds_toArray]); (try dsimp only [List.set_cons_zero, List.set_cons_succ])
                refine seq_skip HST 19 178 rfl ?_; (try simp only [Act.put, List.setIfInBounds_toArray]); (try dsimp only [List.set_cons_zero, List.set_cons_succ])
                refine seq_skip HST 20 179 rfl ?_; (try simp only [Act.put, List.setIfInBounds_toArray]); (try dsimp only [List.set_cons_zero, List.set_cons_succ])
                refine seq_skip HST 21 180 rfl ?_; (try simp only [Act.put, List.setIfInBounds_toArray]); (try dsimp only [List.set_cons_zero, List.set_cons_succ])
                refine seq_skip HST 22 181 rfl ?_; (try simp only [Act.put, List.setIfInBounds_toArray]); (try dsimp only [List.set_cons_zero, List.set_cons_succ])
                refine seq_skip HST 23 182 rfl ?_; (try simp only [Act.put, List.setIfInBounds_toArray]); (try dsimp only [List.set_cons_zero, List.set_cons_succ])
                refine seq_skip HST 24 183 rfl ?_; (try simp only [Act.put, List.setIfInBounds_toArray]); (try dsimp only [List.set_cons_zero, List.set_cons_succ])
                refine seq_skip HST 25 184 rfl ?_; (try simp only [Act.put, List.setIfInBounds_toArray]); (try dsimp only [List.set_cons_zero, List.set_cons_succ])
                refine seq_skip HST 26 185 rfl ?_; (try simp only [Act.put, List.setIfInBounds_toArray]); (try dsimp only [List.set_cons_zero, List.set_cons_succ])
                refine seq_skip HST 27 186 rfl ?_; (try simp only [Act.put, List.setIfInBounds_toArray]); (try dsimp only [List.set_cons_zero, List.set_cons_succ])
                refine seq_take HST (v := ?_) 28 187 rfl ?_ ?_; rotate_left; (intro w hSw; go_simp; try with_reducible rfl); (try simp only [Act.put, List.setIfInBounds_toArray]); (try dsimp only [List.set_cons_zero, List.set_cons_succ])
                refine seq_take HST (v := ?_) 29 188 rfl ?_ ?_; rotate_left; (intro w hSw; go_simp; try with_reducible rfl); (try simp only [Act.put, List.setIfInBounds_toArray]); (try dsimp only [List.set_cons_zero, List.set_cons_succ])
                refine seq_take HST (v := ?_) 30 189 rfl ?_ ?_; rotate_left; (intro w hSw; go_simp; try with_reducible rfl); (try simp only [Act.put, List.setIfInBounds_toArray]); (try dsimp only [List.set_cons_zero, List.set_cons_succ])
                refine seq_take HST (v := ?_) 31 190 rfl ?_ ?_; rotate_left; (intro w hSw; go_simp; try with_reducible rfl); (try simp only [Act.put, List.setIfInBounds_toArray]); (try dsimp only [List.set_cons_zero, List.set_cons_succ])
                refine seq_take HST (v := ?_) 32 191 rfl ?_ ?_; rotate_left; (intro w hSw; go_simp; try with_reducible rfl); (try simp only [Act.put, List.setIfInBounds_toArray]); (try dsimp only [List.set_cons_zero, List.set_cons_succ])
                refine seq_take HST (v := ?_) 33 192 rfl ?_ ?_; rotate_left; (intro w hSw; go_simp; try with_reducible rfl); (try simp only [Act.put, List.setIfInBounds_toArray]); (try dsimp only [List.set_cons_zero, List.set_cons_succ])
                refine seq_skip HST 34 193 rfl ?_; (try simp only [Act.put, List.setIfInBounds_toArray]); (try dsimp only [List.set_cons_zero, List.set_cons_succ])
                refine seq_skip HST 35 194 rfl ?_; (try simp only [Act.put, List.setIfInBounds_toArray]); (try dsimp only [List.set_cons_zero, List.set_cons_succ])
                refine seq_skip HST 36 195 rfl ?_; (try simp only [Act.put, List.setIfInBounds_toArray]); (try dsimp only [List.set_cons_zero, List.set_cons_succ])
                refine seq_skip HST 37 196 rfl ?_; (try simp only [Act.put, List.setIfInBounds_toArray]); (try dsimp only [List.set_cons_zero, List.set_cons_succ])
                refine seq_skip HST 38 197 rfl ?_; (try simp only [Act.put, List.setIfInBounds_toArray]); (try dsimp only [List.set_cons_zero, List.set_cons_succ])
                refine seq_skip HST 39 198 rfl ?_; (try simp only [Act.put, List.setIfInBounds_toArray]); (try dsimp only [List.set_cons_zero, List.set_cons_succ])
                refine seq_skip HST 40 199 rfl ?_; (try simp only [Act.put, List.setIfInBounds_toArray]); (try dsimp only [List.set_cons_zero, List.set_cons_succ])
                refine seq_skip HST 41 200 rfl ?_; (try simp only [Act.put, List.setIfInBounds_toArray]); (try dsimp only [List.set_cons_zero, List.set_cons_succ])
                refine seq_skip HST 42 201 rfl ?_; (try simp only [Act.put, List.setIfInBounds_toArray]); (try dsimp only [List.set_cons_zero, List.set_cons_succ])
                refine seq_skip HST 43 202 rfl ?_; (try simp only [Act.put, List.setIfInBounds_toArray]); (try dsimp only [List.set_cons_zero, List.set_cons_succ])
                refine seq_skip HST 44 203 rfl ?_; (try simp only [Act.put, List.setIfInBounds_toArray]); (try dsimp only [List.set_cons_zero, List.set_cons_succ])
                refine seq_skip HST 45 204 rfl ?_; (try simp only [Act.put, List.setIfInBounds_toArray]); (try dsimp only [List.set_cons_zero, List.set_cons_succ])
                refine seq_skip HST 46 205 rfl ?_; (try simp only [Act.put, List.setIfInBounds_toArray]); (try dsimp only [List.set_cons_zero, List.set_cons_succ])
                refine seq_skip HST 47 206 rfl ?_; (try simp only [Act.put, List.setIfInBounds_toArray]); (try dsimp only [List.set_cons_zero, List.set_cons_succ])
                refine seq_skip HST 48 207 rfl ?_; (try simp only [Act.put, List.setIfInBounds_toArray]); (try dsimp only [List.set_cons_zero, List.set_cons_succ])
                refine seq_skip HST 49 208 rfl ?_; (try simp only [Act.put, List.setIfInBounds_toArray]); (try dsimp only [List.set_cons_zero, List.set_cons_succ])
                refine seq_skip HST 50 209 rfl ?_; (try simp only [Act.put, List.setIfInBounds_toArray]); (try dsimp only [List.set_cons_zero, List.set_cons_succ])
                refine seq_skip HST 51 210 rfl ?_; (try simp only [Act.put, List.setIfInBounds_toArray]); (try dsimp only [List.set_cons_zero, List.set_cons_succ])
                refine seq_skip HST 52 211 rfl ?_; (try simp only [Act.put, List.setIfInBounds_toArray]); (try dsimp only [List.set_cons_zero, List.set_cons_succ])
                refine seq_skip HST 53 212 rfl ?_; (try simp only [Act.put, List.setIfInBounds_toArray]); (try dsimp only [List.set_cons_zero, List.set_cons_succ])
                refine seq_skip HST 54 213 rfl ?_; (try simp only [Act.put, List.setIfInBounds_toArray]); (try dsimp only [List.set_cons_zero, List.set_cons_succ])
                refine seq_skip HST 55 214 rfl ?_; (try simp only [Act.put, List.setIfInBounds_toArray]); (try dsimp only [List.set_cons_zero, List.set_cons_succ])
                refine seq_skip HST 56 215 rfl ?_; (try simp only [Act.put, List.setIfInBounds_toArray]); (try dsimp only [List.set_cons_zero, List.set_cons_succ])
                refine seq_skip HST 57 216 rfl ?_; (try simp only [Act.put, List.setIfInBounds_toArray]); (try dsimp only [List.set_cons_zero, List.set_cons_succ])
                refine seq_take HST (v := ?_) 58 217 rfl ?_ ?_; rotate_left; (intro w hSw; go_simp; try with_reducible rfl); (try simp only [Act.put, List.setIfInBounds_toArray]); (try dsimp only [List.set_cons_zero, List.set_cons_succ])
                refine seq_take HST (v := ?_) 59 218 rfl ?_ ?_; rotate_left; (intro w hSw; go_simp; try with_reducible rfl); (try simp only [Act.put, List.setIfInBounds_toArray]); (try dsimp only [List.set_cons_zero, List.set_cons_succ])
                refine seq_done (by kernel_rfl) ?_
                have HLD := Lib.hid (HL.out.trans (hHeld.mono z7))
                clear hHeld
                go_wp2
                go_roundw
                case rel => exact ⟨i + 1, by omega, by go_num, HLD.out⟩
                case measure => simp [intOf]; omega
            · obtain ⟨a4, rfl, z40, d4, d5⟩ := J3.out rfl
              have z4 : (a4.add (i * 3)).block < wr.heap.size := by rw [add_block]; omega
              have y3 : (i : Int) < (n3 : Int) := by have := Y3.out rfl; omega
              have FQ := Lib.hid (fun (w' : World) (h : Below wr.heap.size wr w') => And.intro (keepc h za c0) (And.intro (keepc1 h za c1) (And.intro (keepc1 h za c2) (And.intro (True.intro) (And.intro (keepc h z4 d4) (keepc1 h z4 d5))))))
              clear d4 d5
              clear J0 J2 J3 Y0 Y2 Y3 c0 c1 c2
              as_aux_lemma =>
                refine seq_take HST (v := ?_) 0 159 rfl ?_ ?_; rotate_left; (intro w hSw; go_simp; try with_reducible rfl); (try simp only [Act.put, List.setIfInBounds_toArray]); (try dsimp only [List.set_cons_zero, List.set_cons_succ])
                refine seq_take HST (v := ?_) 1 160 rfl ?_ ?_; rotate_left; (intro w hSw; go_simp; try with_reducible rfl); (try simp only [Act.put, List.setIfInBounds_toArray]); (try dsimp only [List.set_cons_zero, List.set_cons_succ])
                refine seq_take HST (v := ?_) 2 161 rfl ?_ ?_; rotate_left; (intro w hSw; go_simp; try with_reducible rfl); (try simp only [Act.put, List.setIfInBounds_toArray]); (try dsimp only [List.set_cons_zero, List.set_cons_succ])
                refine seq_skip HST 3 162 rfl ?_; (try simp only [Act.put, List.setIfInBounds_toArray]); (try dsimp only [List.set_cons_zero, List.set_cons_succ])
                refine seq_skip HST 4 163 rfl ?_; (try simp only [Act.put, List.setIfInBounds_toArray]); (try dsimp only [List.set_cons_zero, List.set_cons_succ])
                refine seq_skip HST 5 164 rfl ?_; (try simp only [Act.put, List.setIfInBounds_toArray]); (try dsimp only [List.set_cons_zero, List.set_cons_succ])
                refine seq_skip HST 6 165 rfl ?_; (try simp only [Act.put, List.setIfInBounds_toArray]); (try dsimp only [List.set_cons_zero, List.set_cons_succ])
                refine seq_skip HST 7 166 rfl ?_; (try simp only [Act.put, List.setIfInBounds_toArray]); (try dsimp only [List.set_cons_zero, List.set_cons_succ])
                refine seq_skip HST 8 167 rfl ?_; (try simp only [Act.put, List.setIfInBounds_toArray]); (try dsimp only [List.set_cons_zero, List.set_cons_succ])
                refine seq_skip HST 9 168 rfl ?_; (try simp only [Act.put, List.setIfInBounds_toArray]); (try dsimp only [List.set_cons_zero, List.set_cons_succ])
                refine seq_skip HST 10 169 rfl ?_; (try simp only [Act.put, List.setIfInBounds_toArray]); (try dsimp only [List.set_cons_zero, List.set_cons_succ])
                refine seq_skip HST 11 170 rfl ?_; (try simp only [Act.put, List.setIfInBounds_toArray]); (try dsimp only [List.set_cons_zero, List.set_cons_succ])
                refine seq_take HST (v := ?_) 12 171 rfl ?_ ?_; rotate_left; (intro w hSw; go_simp; try with_reducible rfl); (try simp only [Act.put, List.setIfInBounds_toArray]); (try dsimp only [List.set_cons_zero, List.set_cons_succ])
                refine seq_take HST (v := ?_) 13 172 rfl ?_ ?_; rotate_left; (intro w hSw; go_simp; try with_reducible rfl); (try simp only [Act.put, List.setIfInBounds_toArray]); (try dsimp only [List.set_cons_zero, List.set_cons_succ])
                refine seq_take HST (v := ?_) 14 173 rfl ?_ ?_; rotate_left; (intro w hSw; go_simp; try with_reducible rfl); (try simp only [Act.put, List.setIfInBounds_toArray]); (try dsimp only [List.set_cons_zero, List.set_cons_succ])
                refine seq_take HST (v := ?_) 15 174 rfl ?_ ?_; rotate_left; (intro w hSw; go_simp; try with_reducible rfl); (try simp only [Act.put, List.setIfInBounds_toArray]); (try dsimp only [List.set_cons_zero, List.set_cons_succ])
                refine seq_take HST (v := ?_) 16 175 rfl ?_ ?_; rotate_left; (intro w hSw; go_simp; try with_reducible rfl); (try simp only [Act.put, List.setIfInBounds_toArray]); (try dsimp only [List.set_cons_zero, List.set_cons_succ])
                refine seq_skip HST 17 176 rfl ?_; (try simp only [Act.put, List.setIfInBounds_toArray]); (try dsimp only [List.set_cons_zero, List.set_cons_succ])
                refine seq_skip HST 18 177 rfl ?_; (try simp only [Act.put, List.setIfInBounds_toArray]); (try dsimp only [List.set_cons_zero, List.set_cons_succ])
                refine seq_skip HST 19 178 rfl ?_; (try simp only [Act.put, List.setIfInBounds_toArray]); (try dsimp only [List.set_cons_zero, List.set_cons_succ])
                refine seq_skip HST 20 179 rfl ?_; (try simp only [Act.put, List.setIfInBounds_toArray]); (try dsimp only [List.set_cons_zero, List.set_cons_succ])
                refine seq_skip HST 21 180 rfl ?_; (try simp only [Act.put, List.setIfInBounds_toArray]); (try dsimp only [List.set_cons_zero, List.set_cons_succ])
                refine seq_skip HST 22 181 rfl ?_; (try simp only [Act.put, List.setIfInBounds_toArray]); (try dsimp only [List.set_cons_zero, List.set_cons_succ])
                refine seq_skip HST 23 182 rfl ?_; (try simp only [Act.put, List.setIfInBounds_toArray]); (try dsimp only [List.set_cons_zero, List.set_cons_succ])
                refine seq_skip HST 24 183 rfl ?_; (try simp only [Act.put, List.setIfInBounds_toArray]); (try dsimp only [List.set_cons_zero, List.set_cons_succ])
                refine seq_skip HST 25 184 rfl ?_; (try simp only [Act.put, List.setIfInBounds_toArray]); (try dsimp only [List.set_cons_zero, List.set_cons_succ])
                refine seq_skip HST 26 185 rfl ?_; (try simp only [Act.put, List.setIfInBounds_toArray]); (try dsimp only [List.set_cons_zero, List.set_cons_succ])
                refine seq_skip HST 27 186 rfl ?_; (try simp only [Act.put, List.setIfInBounds_toArray]); (try dsimp only [List.set_cons_zero, List.set_cons_succ])
                refine seq_take HST (v := ?_) 28 187 rfl ?_ ?_; rotate_left; (intro w hSw; go_simp; try with_reducible rfl); (try simp only [Act.put, List.setIfInBounds_toArray]); (try dsimp only [List.set_cons_zero, List.set_cons_succ])
                refine seq_take HST (v := ?_) 29 188 rfl ?_ ?_; rotate_left; (intro w hSw; go_simp; try with_reducible rfl); (try simp only [Act.put, List.setIfInBounds_toArray]); (try dsimp only [List.set_cons_zero, List.set_cons_succ])
                refine seq_take HST (v := ?_) 30 189 rfl ?_ ?_; rotate_left; (intro w hSw; go_simp; try with_reducible rfl); (try simp only [Act.put, List.setIfInBounds_toArray]); (try dsimp only [List.set_cons_zero, List.set_cons_succ])
                refine seq_take HST (v := ?_) 31 190 rfl ?_ ?_; rotate_left; (intro w hSw; go_simp; try with_reducible rfl); (try simp only [Act.put, List.setIfInBounds_toArray]); (try dsimp only [List.set_cons_zero, List.set_cons_succ])
                refine seq_take HST (v := ?_) 32 191 rfl ?_ ?_; rotate_left; (intro w hSw; go_simp; try with_reducible rfl); (try simp only [Act.put, List.setIfInBounds_toArray]); (try dsimp only [List.set_cons_zero, List.set_cons_succ])
                refine seq_take HST (v := ?_) 33 192 rfl ?_ ?_; rotate_left; (intro w hSw; go_simp; try with_reducible rfl); (try simp only [Act.put, List.setIfInBounds_toArray]); (try dsimp only [List.set_cons_zero, List.set_cons_succ])
                refine seq_take HST (v := ?_) 34 193 rfl ?_ ?_; rotate_left; (intro w hSw; go_simp; try with_reducible rfl); (try simp only [Act.put, List.setIfInBounds_toArray]); (try dsimp only [List.set_cons_zero, List.set_cons_succ])
                refine seq_take HST (v := ?_) 35 194 rfl ?_ ?_; rotate_left; (intro w hSw; go_simp; try with_reducible rfl); (try simp only [Act.put, List.setIfInBounds_toArray]); (try dsimp only [List.set_cons_zero, List.set_cons_succ])
                refine seq_take HST (v := ?_) 36 195 rfl ?_ ?_; rotate_left; (intro w hSw; go_simp; try with_reducible rfl); (try simp only [Act.put, List.setIfInBounds_toArray]); (try dsimp only [List.set_cons_zero, List.set_cons_succ])
                refine seq_take HST (v := ?_) 37 196 rfl ?_ ?_; rotate_left; (intro w hSw; go_simp; try with_reducible rfl); (try simp only [Act.put, List.setIfInBounds_toArray]); (try dsimp only [List.set_cons_zero, List.set_cons_succ])
                refine seq_take HST (v := ?_) 38 197 rfl ?_ ?_; rotate_left; (intro w hSw; obtain ⟨f0, f1, f2, f3, f4, f5⟩ := FQ.out _ hSw; go_simp; try with_reducible rfl); (try simp only [Act.put, List.setIfInBounds_toArray]); (try dsimp only [List.set_cons_zero, List.set_cons_succ])
                refine seq_take HST (v := ?_) 39 198 rfl ?_ ?_; rotate_left; (intro w hSw; go_simp; try with_reducible rfl); (try simp only [Act.put, List.setIfInBounds_toArray]); (try dsimp only [List.set_cons_zero, List.set_cons_succ])
                refine seq_take HST (v := ?_) 40 199 rfl ?_ ?_; rotate_left; (intro w hSw; go_simp; try with_reducible rfl); (try simp only [Act.put, List.setIfInBounds_toArray]); (try dsimp only [List.set_cons_zero, List.set_cons_succ])
                refine seq_take HST (v := ?_) 41 200 rfl ?_ ?_; rotate_left; (intro w hSw; go_simp; try with_reducible rfl); (try simp only [Act.put, List.setIfInBounds_toArray]); (try dsimp only [List.set_cons_zero, List.set_cons_succ])
                refine seq_take HST (v := ?_) 42 201 rfl ?_ ?_; rotate_left; (intro w hSw; go_simp; try with_reducible rfl); (try simp only [Act.put, List.setIfInBounds_toArray]); (try dsimp only [List.set_cons_zero, List.set_cons_succ])
                refine seq_take HST (v := ?_) 43 202 rfl ?_ ?_; rotate_left; (intro w hSw; obtain ⟨f0, f1, f2, f3, f4, f5⟩ := FQ.out _ hSw; go_simp; try with_reducible rfl); (try simp only [Act.put, List.setIfInBounds_toArray]); (try dsimp only [List.set_cons_zero, List.set_cons_succ])
                refine seq_take HST (v := ?_) 44 203 rfl ?_ ?_; rotate_left; (intro w hSw; go_simp; try with_reducible rfl); (try simp only [Act.put, List.setIfInBounds_toArray]); (try dsimp only [List.set_cons_zero, List.set_cons_succ])
                refine seq_take HST (v := ?_) 45 204 rfl ?_ ?_; rotate_left; (intro w hSw; go_simp; try with_reducible rfl); (try simp only [Act.put, List.setIfInBounds_toArray]); (try dsimp only [List.set_cons_zero, List.set_cons_succ])
                refine seq_take HST (v := ?_) 46 205 rfl ?_ ?_; rotate_left; (intro w hSw; go_simp; try with_reducible rfl); (try simp only [Act.put, List.setIfInBounds_toArray]); (try dsimp only [List.set_cons_zero, List.set_cons_succ])
                refine seq_take HST (v := ?_) 47 206 rfl ?_ ?_; rotate_left; (intro w hSw; go_simp; try with_reducible rfl); (try simp only [Act.put, List.setIfInBounds_toArray]); (try dsimp only [List.set_cons_zero, List.set_cons_succ])
                refine seq_take HST (v := ?_) 48 207 rfl ?_ ?_; rotate_left; (intro w hSw; go_simp; try with_reducible rfl); (try simp only [Act.put, List.setIfInBounds_toArray]); (try dsimp only [List.set_cons_zero, List.set_cons_succ])
                refine seq_take HST (v := ?_) 49 208 rfl ?_ ?_; rotate_left; (intro w hSw; go_simp; try with_reducible rfl); (try simp only [Act.put, List.setIfInBounds_toArray]); (try dsimp only [List.set_cons_zero, List.set_cons_succ])
                refine seq_take HST (v := ?_) 50 209 rfl ?_ ?_; rotate_left; (intro w hSw; obtain ⟨f0, f1, f2, f3, f4, f5⟩ := FQ.out _ hSw; go_simp; try with_reducible rfl); (try simp only [Act.put, List.setIfInBounds_toArray]); (try dsimp only [List.set_cons_zero, List.set_cons_succ])
                refine seq_take HST (v := ?_) 51 210 rfl ?_ ?_; rotate_left; (intro w hSw; go_simp; try with_reducible rfl); (try simp only [Act.put, List.setIfInBounds_toArray]); (try dsimp only [List.set_cons_zero, List.set_cons_succ])
                refine seq_take HST (v := ?_) 52 211 rfl ?_ ?_; rotate_left; (intro w hSw; go_simp; try with_reducible rfl); (try simp only [Act.put, List.setIfInBounds_toArray]); (try dsimp only [List.set_cons_zero, List.set_cons_succ])
                refine seq_take HST (v := ?_) 53 212 rfl ?_ ?_; rotate_left; (intro w hSw; go_simp; try with_reducible rfl); (try simp only [Act.put, List.setIfInBounds_toArray]); (try dsimp only [List.set_cons_zero, List.set_cons_succ])
                refine seq_take HST (v := ?_) 54 213 rfl ?_ ?_; rotate_left; (intro w hSw; go_simp; try with_reducible rfl); (try simp only [Act.put, List.setIfInBounds_toArray]); (try dsimp only [List.set_cons_zero, List.set_cons_succ])
                refine seq_take HST (v := ?_) 55 214 rfl ?_ ?_; rotate_left; (intro w hSw; obtain ⟨f0, f1, f2, f3, f4, f5⟩ := FQ.out _ hSw; go_simp; try with_reducible rfl); (try simp only [Act.put, List.setIfInBounds_toArray]); (try dsimp only [List.set_cons_zero, List.set_cons_succ])
                refine seq_take HST (v := ?_) 56 215 rfl ?_ ?_; rotate_left; (intro w hSw; go_simp; try with_reducible rfl); (try simp only [Act.put, List.setIfInBounds_toArray]); (try dsimp only [List.set_cons_zero, List.set_cons_succ])
                refine seq_take HST (v := ?_) 57 216 rfl ?_ ?_; rotate_left; (intro w hSw; go_simp; try with_reducible rfl); (try simp only [Act.put, List.setIfInBounds_toArray]); (try dsimp only [List.set_cons_zero, List.set_cons_succ])
                refine seq_take HST (v := ?_) 58 217 rfl ?_ ?_; rotate_left; (intro w hSw; go_simp; try with_reducible rfl); (try simp only [Act.put, List.setIfInBounds_toArray]); (try dsimp only [List.set_cons_zero, List.set_cons_succ])
                refine seq_take HST (v := ?_) 59 218 rfl ?_ ?_; rotate_left; (intro w hSw; go_simp; try with_reducible rfl); (try simp only [Act.put, List.setIfInBounds_toArray]); (try dsimp only [List.set_cons_zero, List.set_cons_succ])
                refine seq_done (by kernel_rfl) ?_
                have HLD := Lib.hid (HL.out.trans (hHeld.mono z7))
                clear hHeld
                go_wp2
                go_roundw
                case rel => exact ⟨i + 1, by omega, by go_num, HLD.out⟩
                case measure => simp [intOf]; omega
          · cases b3
            · obtain ⟨a3, rfl, z30, d0⟩ := J2.out rfl
              have z3 : (a3.add (i * 3)).block < wr.heap.size := by rw [add_block]; omega
              have y2 : (i : Int) < (n2 : Int) := by have := Y2.out rfl; omega
              have FQ := Lib.hid (fun (w' : World) (h : Below wr.heap.size wr w') => And.intro (keepc h za c0) (And.intro (keepc1 h za c1) (And.intro (keepc1 h za c2) (And.intro (keepc h z3 d0) (And.intro (True.intro) (True.intro))))))
              clear d0
              clear J0 J2 J3 Y0 Y2 Y3 c0 c1 c2
              as_aux_lemma =>
                refine seq_take HST (v := ?_) 0 159 rfl ?_ ?_; rotate_left; (intro w hSw; go_simp; try with_reducible rfl); (try simp only [Act.put, List.setIfInBounds_toArray]); (try dsimp only [List.set_cons_zero, List.set_cons_succ])
                refine seq_take HST (v := ?_) 1 160 rfl ?_ ?_; rotate_left; (intro w hSw; go_simp; try with_reducible rfl); (try simp only [Act.put, List.setIfInBounds_toArray]); (try dsimp only [List.set_cons_zero, List.set_cons_succ])
                refine seq_take HST (v := ?_) 2 161 rfl ?_ ?_; rotate_left; (intro w hSw; go_simp; try with_reducible rfl); (try simp only [Act.put, List.setIfInBounds_toArray]); (try dsimp only [List.set_cons_zero, List.set_cons_succ])
                refine seq_skip HST 3 162 rfl ?_; (try simp only [Act.put, List.setIfInBounds_toArray]); (try dsimp only [List.set_cons_zero, List.set_cons_succ])
                refine seq_skip HST 4 163 rfl ?_; (try simp only [Act.put, List.setIfInBounds_toArray]); (try dsimp only [List.set_cons_zero, List.set_cons_succ])
                refine seq_skip HST 5 164 rfl ?_; (try simp only [Act.put, List.setIfInBounds_toArray]); (try dsimp only [List.set_cons_zero, List.set_cons_succ])
                refine seq_skip HST 6 165 rfl ?_; (try simp only [Act.put, List.setIfInBounds_toArray]); (try dsimp only [List.set_cons_zero, List.set_cons_succ])
                refine seq_skip HST 7 166 rfl ?_; (try simp only [Act.put, List.setIfInBounds_toArray]); (try dsimp only [List.set_cons_zero, List.set_cons_succ])
                refine seq_skip HST 8 167 rfl ?_; (try simp only [Act.put, List.setIfInBounds_toArray]); (try dsimp only [List.set_cons_zero, List.set_cons_succ])
                refine seq_skip HST 9 168 rfl ?_; (try simp only [Act.put, List.setIfInBounds_toArray]); (try dsimp only [List.set_cons_zero, List.set_cons_succ])
                refine seq_skip HST 10 169 rfl ?_; (try simp only [Act.put, List.setIfInBounds_toArray]); (try dsimp only [List.set_cons_zero, List.set_cons_succ])
                refine seq_skip HST 11 170 rfl ?_; (try simp only [Act.put, List.setIfInBounds_toArray]); (try dsimp only [List.set_cons_zero, List.set_cons_succ])
                refine seq_take HST (v := ?_) 12 171 rfl ?_ ?_; rotate_left; (intro w hSw; go_simp; try with_reducible rfl); (try simp only [Act.put, List.setIfInBounds_toArray]); (try dsimp only [List.set_cons_zero, List.set_cons_succ])
                refine seq_take HST (v := ?_) 13 172 rfl ?_ ?_; rotate_left; (intro w hSw; go_simp; try with_reducible rfl); (try simp only [Act.put, List.setIfInBounds_toArray]); (try dsimp only [List.set_cons_zero, List.set_cons_succ])
                refine seq_take HST (v := ?_) 14 173 rfl ?_ ?_; rotate_left; (intro w hSw; go_simp; try with_reducible rfl); (try simp only [Act.put, List.setIfInBounds_toArray]); (try dsimp only [List.set_cons_zero, List.set_cons_succ])
                refine seq_take HST (v := ?_) 15 174 rfl ?_ ?_; rotate_left; (intro w hSw; go_simp; try with_reducible rfl); (try simp only [Act.put, List.setIfInBounds_toArray]); (try dsimp only [List.set_cons_zero, List.set_cons_succ])
                refine seq_take HST (v := ?_) 16 175 rfl ?_ ?_; rotate_left; (intro w hSw; go_simp; try with_reducible rfl); (try simp only [Act.put, List.setIfInBounds_toArray]); (try dsimp only [List.set_cons_zero, List.set_cons_succ])
                refine seq_take HST (v := ?_) 17 176 rfl ?_ ?_; rotate_left; (intro w hSw; go_simp; try with_reducible rfl); (try simp only [Act.put, List.setIfInBounds_toArray]); (try dsimp only [List.set_cons_zero, List.set_cons_succ])
                refine seq_take HST (v := ?_) 18 177 rfl ?_ ?_; rotate_left; (intro w hSw; go_simp; try with_reducible rfl); (try simp only [Act.put, List.setIfInBounds_toArray]); (try dsimp only [List.set_cons_zero, List.set_cons_succ])
                refine seq_take HST (v := ?_) 19 178 rfl ?_ ?_; rotate_left; (intro w hSw; go_simp; try with_reducible rfl); (try simp only [Act.put, List.setIfInBounds_toArray]); (try dsimp only [List.set_cons_zero, List.set_cons_succ])
                refine seq_take HST (v := ?_) 20 179 rfl ?_ ?_; rotate_left; (intro w hSw; go_simp; try with_reducible rfl); (try simp only [Act.put, List.setIfInBounds_toArray]); (try dsimp only [List.set_cons_zero, List.set_cons_succ])
                refine seq_take HST (v := ?_) 21 180 rfl ?_ ?_; rotate_left; (intro w hSw; obtain ⟨f0, f1, f2, f3, f4, f5⟩ := FQ.out _ hSw; go_simp; try with_reducible rfl); (try simp only [Act.put, List.setIfInBounds_toArray]); (try dsimp only [List.set_cons_zero, List.set_cons_succ])
                refine seq_take HST (v := ?_) 22 181 rfl ?_ ?_; rotate_left; (intro w hSw; go_simp; try with_reducible rfl); (try simp only [Act.put, List.setIfInBounds_toArray]); (try dsimp only [List.set_cons_zero, List.set_cons_succ])
                refine seq_take HST (v := ?_) 23 182 rfl ?_ ?_; rotate_left; (intro w hSw; go_simp; try with_reducible rfl); (try simp only [Act.put, List.setIfInBounds_toArray]); (try dsimp only [List.set_cons_zero, List.set_cons_succ])
                refine seq_take HST (v := ?_) 24 183 rfl ?_ ?_; rotate_left; (intro w hSw; go_simp; try with_reducible rfl); (try simp only [Act.put, List.setIfInBounds_toArray]); (try dsimp only [List.set_cons_zero, List.set_cons_succ])
                refine seq_take HST (v := ?_) 25 184 rfl ?_ ?_; rotate_left; (intro w hSw; go_simp; try with_reducible rfl); (try simp only [Act.put, List.setIfInBounds_toArray]); (try dsimp only [List.set_cons_zero, List.set_cons_succ])
                refine seq_take HST (v := ?_) 26 185 rfl ?_ ?_; rotate_left; (intro w hSw; obtain ⟨f0, f1, f2, f3, f4, f5⟩ := FQ.out _ hSw; go_simp; try with_reducible rfl); (try simp only [Act.put, List.setIfInBounds_toArray]); (try dsimp only [List.set_cons_zero, List.set_cons_succ])
                refine seq_take HST (v := ?_) 27 186 rfl ?_ ?_; rotate_left; (intro w hSw; go_simp; try with_reducible rfl); (try simp only [Act.put, List.setIfInBounds_toArray]); (try dsimp only [List.set_cons_zero, List.set_cons_succ])
                refine seq_take HST (v := ?_) 28 187 rfl ?_ ?_; rotate_left; (intro w hSw; go_simp; try with_reducible rfl); (try simp only [Act.put, List.setIfInBounds_toArray]); (try dsimp only [List.set_cons_zero, List.set_cons_succ])
                refine seq_take HST (v := ?_) 29 188 rfl ?_ ?_; rotate_left; (intro w hSw; go_simp; try with_reducible rfl); (try simp only [Act.put, List.setIfInBounds_toArray]); (try dsimp only [List.set_cons_zero, List.set_cons_succ])
                refine seq_take HST (v := ?_) 30 189 rfl ?_ ?_; rotate_left; (intro w hSw; go_simp; try with_reducible rfl); (try simp only [Act.put, List.setIfInBounds_toArray]); (try dsimp only [List.set_cons_zero, List.set_cons_succ])
                refine seq_take HST (v := ?_) 31 190 rfl ?_ ?_; rotate_left; (intro w hSw; go_simp; try with_reducible rfl); (try simp only [Act.put, List.setIfInBounds_toArray]); (try dsimp only [List.set_cons_zero, List.set_cons_succ])
                refine seq_take HST (v := ?_) 32 191 rfl ?_ ?_; rotate_left; (intro w hSw; go_simp; try with_reducible rfl); (try simp only [Act.put, List.setIfInBounds_toArray]); (try dsimp only [List.set_cons_zero, List.set_cons_succ])
                refine seq_take HST (v := ?_) 33 192 rfl ?_ ?_; rotate_left; (intro w hSw; go_simp; try with_reducible rfl); (try simp only [Act.put, List.setIfInBounds_toArray]); (try dsimp only [List.set_cons_zero, List.set_cons_succ])
                refine seq_skip HST 34 193 rfl ?_; (try simp only [Act.put, List.setIfInBounds_toArray]); (try dsimp only [List.set_cons_zero, List.set_cons_succ])
                refine seq_skip HST 35 194 rfl ?_; (try simp only [Act.put, List.setIfInBounds_toArray]); (try dsimp only [List.set_cons_zero, List.set_cons_succ])
                refine seq_skip HST 36 195 rfl ?_; (try simp only [Act.put, List.setIfInBounds_toArray]); (try dsimp only [List.set_cons_zero, List.set_cons_succ])
                refine seq_skip HST 37 196 rfl ?_; (try simp only [Act.put, List.setIfInBounds_toArray]); (try dsimp only [List.set_cons_zero, List.set_cons_succ])
                refine seq_skip HST 38 197 rfl ?_; (try simp only [Act.put, List.setIfInBounds_toArray]); (try dsimp only [List.set_cons_zero, List.set_cons_succ])
                refine seq_skip HST 39 198 rfl ?_; (try simp only [Act.put, List.setIfInBounds_toArray]); (try dsimp only [List.set_cons_zero, List.set_cons_succ])
                refine seq_skip HST 40 199 rfl ?_; (try simp only [Act.put, List.setIfInBounds_toArray]); (try dsimp only [List.set_cons_zero, List.set_cons_succ])
                refine seq_skip HST 41 200 rfl ?_; (try simp only [Act.put, List.setIfInBounds_toArray]); (try dsimp only [List.set_cons_zero, List.set_cons_succ])
                refine seq_skip HST 42 201 rfl ?_; (try simp only [Act.put, List.setIfInBounds_toArray]); (try dsimp only [List.set_cons_zero, List.set_cons_succ])
                refine seq_skip HST 43 202 rfl ?_; (try simp only [Act.put, List.setIfInBounds_toArray]); (try dsimp only [List.set_cons_zero, List.set_cons_succ])
                refine seq_skip HST 44 203 rfl ?_; (try simp only [Act.put, List.setIfInBounds_toArray]); (try dsimp only [List.set_cons_zero, List.set_cons_succ])
                refine seq_skip HST 45 204 rfl ?_; (try simp only [Act.put, List.setIfInBounds_toArray]); (try dsimp only [List.set_cons_zero, List.set_cons_succ])
                refine seq_skip HST 46 205 rfl ?_; (try simp only [Act.put, List.setIfInBounds_toArray]); (try dsimp only [List.set_cons_zero, List.set_cons_succ])
                refine seq_skip HST 47 206 rfl ?_; (try simp only [Act.put, List.setIfInBounds_toArray]); (try dsimp only [List.set_cons_zero, List.set_cons_succ])
                refine seq_skip HST 48 207 rfl ?_; (try simp only [Act.put, List.setIfInBounds_toArray]); (try dsimp only [List.set_cons_zero, List.set_cons_succ])
                refine seq_skip HST 49 208 rfl ?_; (try simp only [Act.put, List.setIfInBounds_toArray]); (try dsimp only [List.set_cons_zero, List.set_cons_succ])
                refine seq_skip HST 50 209 rfl ?_; (try simp only [Act.put, List.setIfInBounds_toArray]); (try dsimp only [List.set_cons_zero, List.set_cons_succ])
                refine seq_skip HST 51 210 rfl ?_; (try simp only [Act.put, List.setIfInBounds_toArray]); (try dsimp only [List.set_cons_zero, List.set_cons_succ])
                refine seq_skip HST 52 211 rfl ?_; (try simp only [Act.put, List.setIfInBounds_toArray]); (try dsimp only [List.set_cons_zero, List.set_cons_succ])
                refine seq_skip HST 53 212 rfl ?_; (try simp only [Act.put, List.setIfInBounds_toArray]); (try dsimp only [List.set_cons_zero, List.set_cons_succ])
                refine seq_skip HST 54 213 rfl ?_; (try simp only [Act.put, List.setIfInBounds_toArray]); (try dsimp only [List.set_cons_zero, List.set_cons_succ])
                refine seq_skip HST 55 214 rfl ?_; (try simp only [Act.put, List.setIfInBounds_toArray]); (try dsimp only [List.set_cons_zero, List.set_cons_succ])
                refine seq_skip HST 56 215 rfl ?_; (try simp only [Act.put, List.setIfInBounds_toArray]); (try dsimp only [List.set_cons_zero, List.set_cons_succ])
                refine seq_skip HST 57 216 rfl ?_; (try simp only [Act.put, List.setIfInBounds_toArray]); (try dsimp only [List.set_cons_zero, List.set_cons_succ])
                refine seq_take HST (v := ?_) 58 217 rfl ?_ ?_; rotate_left; (intro w hSw; go_simp; try with_reducible rfl); (try simp only [Act.put, List.setIfInBounds_toArray]); (try dsimp only [List.set_cons_zero, List.set_cons_succ])
                refine seq_take HST (v := ?_) 59 218 rfl ?_ ?_; rotate_left; (intro w hSw; go_simp; try with_reducible rfl); (try simp only [Act.put, List.setIfInBounds_toArray]); (try dsimp only [List.set_cons_zero, List.set_cons_succ])
                refine seq_done (by kernel_rfl) ?_
                have HLD := Lib.hid (HL.out.trans (hHeld.mono z7))
                clear hHeld
                go_wp2
                go_roundw
                case rel => exact ⟨i + 1, by omega, by go_num, HLD.out⟩
                case measure => simp [intOf]; omega
            · obtain ⟨a3, rfl, z30, d0⟩ := J2.out rfl
              have z3 : (a3.add (i * 3)).block < wr.heap.size := by rw [add_block]; omega
              have y2 : (i : Int) < (n2 : Int) := by have := Y2.out rfl; omega
              obtain ⟨a4, rfl, z40, d4, d5⟩ := J3.out rfl
              have z4 : (a4.add (i * 3)).block < wr.heap.size := by rw [add_block]; omega
              have y3 : (i : Int) < (n3 : Int) := by have := Y3.out rfl; omega
              have FQ := Lib.hid (fun (w' : World) (h : Below wr.heap.size wr w') => And.intro (keepc h za c0) (And.intro (keepc1 h za c1) (And.intro (keepc1 h za c2) (And.intro (keepc h z3 d0) (And.intro (keepc h z4 d4) (keepc1 h z4 d5))))))
              clear d0
              clear d4 d5
              clear J0 J2 J3 Y0 Y2 Y3 c0 c1 c2
              as_aux_lemma =>
                refine seq_take HST (v := ?_) 0 159 rfl ?_ ?_; rotate_left; (intro w hSw; go_simp; try with_reducible rfl); (try simp only [Act.put, List.setIfInBounds_toArray]); (try dsimp only [List.set_cons_zero, List.set_cons_succ])
                refine seq_take HST (v := ?_) 1 160 rfl ?_ ?_; rotate_left; (intro w hSw; go_simp; try with_reducible rfl); (try simp only [Act.put, List.setIfInBounds_toArray]); (try dsimp only [List.set_cons_zero, List.set_cons_succ])
                refine seq_take HST (v := ?_) 2 161 rfl ?_ ?_; rotate_left; (intro w hSw; go_simp; try with_reducible rfl); (try simp only [Act.put, List.setIfInBounds_toArray]); (try dsimp only [List.set_cons_zero, List.set_cons_succ])
                refine seq_skip HST 3 162 rfl ?_; (try simp only [Act.put, List.setIfInBounds_toArray]); (try dsimp only [List.set_cons_zero, List.set_cons_succ])
                refine seq_skip HST 4 163 rfl ?_; (try simp only [Act.put, List.setIfInBounds_toArray]); (try dsimp only [List.set_cons_zero, List.set_cons_succ])
                refine seq_skip HST 5 164 rfl ?_; (try simp only [Act.put, List.setIfInBounds_toArray]); (try dsimp only [List.set_cons_zero, List.set_cons_succ])
                refine seq_skip HST 6 165 rfl ?_; (try simp only [Act.put, List.setIfInBounds_toArray]); (try dsimp only [List.set_cons_zero, List.set_cons_succ])
                refine seq_skip HST 7 166 rfl ?_; (try simp only [Act.put, List.setIfInBounds_toArray]); (try dsimp only [List.set_cons_zero, List.set_cons_succ])
                refine seq_skip HST 8 167 rfl ?_; (try simp only [Act.put, List.setIfInBounds_toArray]); (try dsimp only [List.set_cons_zero, List.set_cons_succ])
                refine seq_skip HST 9 168 rfl ?_; (try simp only [Act.put, List.setIfInBounds_toArray]); (try dsimp only [List.set_cons_zero, List.set_cons_succ])
                refine seq_skip HST 10 169 rfl ?_; (try simp only [Act.put, List.setIfInBounds_toArray]); (try dsimp only [List.set_cons_zero, List.set_cons_succ])
                refine seq_skip HST 11 170 rfl ?_; (try simp only [Act.put, List.setIfInBounds_toArray]); (try dsimp only [List.set_cons_zero, List.set_cons_succ])
                refine seq_take HST (v := ?_) 12 171 rfl ?_ ?_; rotate_left; (intro w hSw; go_simp; try with_reducible rfl); (try simp only [Act.put, List.setIfInBounds_toArray]); (try dsimp only [List.set_cons_zero, List.set_cons_succ])
                refine seq_take HST (v := ?_) 13 172 rfl ?_ ?_; rotate_left; (intro w hSw; go_simp; try with_reducible rfl); (try simp only [Act.put, List.setIfInBounds_toArray]); (try dsimp only [List.set_cons_zero, List.set_cons_succ])
                refine seq_take HST (v := ?_) 14 173 rfl ?_ ?_; rotate_left; (intro w hSw; go_simp; try with_reducible rfl); (try simp only [Act.put, List.setIfInBounds_toArray]); (try dsimp only [List.set_cons_zero, List.set_cons_succ])
                refine seq_take HST (v := ?_) 15 174 rfl ?_ ?_; rotate_left; (intro w hSw; go_simp; try with_reducible rfl); (try simp only [Act.put, List.setIfInBounds_toArray]); (try dsimp only [List.set_cons_zero, List.set_cons_succ])
                refine seq_take HST (v := ?_) 16 175 rfl ?_ ?_; rotate_left; (intro w hSw; go_simp; try with_reducible rfl); (try simp only [Act.put, List.setIfInBounds_toArray]); (try dsimp only [List.set_cons_zero, List.set_cons_succ])
                refine seq_take HST (v := ?_) 17 176 rfl ?_ ?_; rotate_left; (intro w hSw; go_simp; try with_reducible rfl); (try simp only [Act.put, List.setIfInBounds_toArray]); (try dsimp only [List.set_cons_zero, List.set_cons_succ])
                refine seq_take HST (v := ?_) 18 177 rfl ?_ ?_; rotate_left; (intro w hSw; go_simp; try with_reducible rfl); (try simp only [Act.put, List.setIfInBounds_toArray]); (try dsimp only [List.set_cons_zero, List.set_cons_succ])
                refine seq_take HST (v := ?_) 19 178 rfl ?_ ?_; rotate_left; (intro w hSw; go_simp; try with_reducible rfl); (try simp only [Act.put, List.setIfInBounds_toArray]); (try dsimp only [List.set_cons_zero, List.set_cons_succ])
                refine seq_take HST (v := ?_) 20 179 rfl ?_ ?_; rotate_left; (intro w hSw; go_simp; try with_reducible rfl); (try simp only [Act.put, List.setIfInBounds_toArray]); (try dsimp only [List.set_cons_zero, List.set_cons_succ])
                refine seq_take HST (v := ?_) 21 180 rfl ?_ ?_; rotate_left; (intro w hSw; obtain ⟨f0, f1, f2, f3, f4, f5⟩ := FQ.out _ hSw; go_simp; try with_reducible rfl); (try simp only [Act.put, List.setIfInBounds_toArray]); (try dsimp only [List.set_cons_zero, List.set_cons_succ])
                refine seq_take HST (v := ?_) 22 181 rfl ?_ ?_; rotate_left; (intro w hSw; go_simp; try with_reducible rfl); (try simp only [Act.put, List.setIfInBounds_toArray]); (try dsimp only [List.set_cons_zero, List.set_cons_succ])
                refine seq_take HST (v := ?_) 23 182 rfl ?_ ?_; rotate_left; (intro w hSw; go_simp; try with_reducible rfl); (try simp only [Act.put, List.setIfInBounds_toArray]); (try dsimp only [List.set_cons_zero, List.set_cons_succ])
                refine seq_take HST (v := ?_) 24 183 rfl ?_ ?_; rotate_left; (intro w hSw; go_simp; try with_reducible rfl); (try simp only [Act.put, List.setIfInBounds_toArray]); (try dsimp only [List.set_cons_zero, List.set_cons_succ])
                refine seq_take HST (v := ?_) 25 184 rfl ?_ ?_; rotate_left; (intro w hSw; go_simp; try with_reducible rfl); (try simp only [Act.put, List.setIfInBounds_toArray]); (try dsimp only [List.set_cons_zero, List.set_cons_succ])
                refine seq_take HST (v := ?_) 26 185 rfl ?_ ?_; rotate_left; (intro w hSw; obtain ⟨f0, f1, f2, f3, f4, f5⟩ := FQ.out _ hSw; go_simp; try with_reducible rfl); (try simp only [Act.put, List.setIfInBounds_toArray]); (try dsimp only [List.set_cons_zero, List.set_cons_succ])
                refine seq_take HST (v := ?_) 27 186 rfl ?_ ?_; rotate_left; (intro w hSw; go_simp; try with_reducible rfl); (try simp only [Act.put, List.setIfInBounds_toArray]); (try dsimp only [List.set_cons_zero, List.set_cons_succ])
                refine seq_take HST (v := ?_) 28 187 rfl ?_ ?_; rotate_left; (intro w hSw; go_simp; try with_reducible rfl); (try simp only [Act.put, List.setIfInBounds_toArray]); (try dsimp only [List.set_cons_zero, List.set_cons_succ])
                refine seq_take HST (v := ?_) 29 188 rfl ?_ ?_; rotate_left; (intro w hSw; go_simp; try with_reducible rfl); (try simp only [Act.put, List.setIfInBounds_toArray]); (try dsimp only [List.set_cons_zero, List.set_cons_succ])
                refine seq_take HST (v := ?_) 30 189 rfl ?_ ?_; rotate_left; (intro w hSw; go_simp; try with_reducible rfl); (try simp only [Act.put, List.setIfInBounds_toArray]); (try dsimp only [List.set_cons_zero, List.set_cons_succ])
                refine seq_take HST (v := ?_) 31 190 rfl ?_ ?_; rotate_left; (intro w hSw; go_simp; try with_reducible rfl); (try simp only [Act.put, List.setIfInBounds_toArray]); (try dsimp only [List.set_cons_zero, List.set_cons_succ])
                refine seq_take HST (v := ?_) 32 191 rfl ?_ ?_; rotate_left; (intro w hSw; go_simp; try with_reducible rfl); (try simp only [Act.put, List.setIfInBounds_toArray]); (try dsimp only [List.set_cons_zero, List.set_cons_succ])
                refine seq_take HST (v := ?_) 33 192 rfl ?_ ?_; rotate_left; (intro w hSw; go_simp; try with_reducible rfl); (try simp only [Act.put, List.setIfInBounds_toArray]); (try dsimp only [List.set_cons_zero, List.set_cons_succ])
                refine seq_take HST (v := ?_) 34 193 rfl ?_ ?_; rotate_left; (intro w hSw; go_simp; try with_reducible rfl); (try simp only [Act.put, List.setIfInBounds_toArray]); (try dsimp only [List.set_cons_zero, List.set_cons_succ])
                refine seq_take HST (v := ?_) 35 194 rfl ?_ ?_; rotate_left; (intro w hSw; go_simp; try with_reducible rfl); (try simp only [Act.put, List.setIfInBounds_toArray]); (try dsimp only [List.set_cons_zero, List.set_cons_succ])
                refine seq_take HST (v := ?_) 36 195 rfl ?_ ?_; rotate_left; (intro w hSw; go_simp; try with_reducible rfl); (try simp only [Act.put, List.setIfInBounds_toArray]); (try dsimp only [List.set_cons_zero, List.set_cons_succ])
                refine seq_take HST (v := ?_) 37 196 rfl ?_ ?_; rotate_left; (intro w hSw; go_simp; try with_reducible rfl); (try simp only [Act.put, List.setIfInBounds_toArray]); (try dsimp only [List.set_cons_zero, List.set_cons_succ])
                refine seq_take HST (v := ?_) 38 197 rfl ?_ ?_; rotate_left; (intro w hSw; obtain ⟨f0, f1, f2, f3, f4, f5⟩ := FQ.out _ hSw; go_simp; try with_reducible rfl); (try simp only [Act.put, List.setIfInBounds_toArray]); (try dsimp only [List.set_cons_zero, List.set_cons_succ])
                refine seq_take HST (v := ?_) 39 198 rfl ?_ ?_; rotate_left; (intro w hSw; go_simp; try with_reducible rfl); (try simp only [Act.put, List.setIfInBounds_toArray]); (try dsimp only [List.set_cons_zero, List.set_cons_succ])
                refine seq_take HST (v := ?_) 40 199 rfl ?_ ?_; rotate_left; (intro w hSw; go_simp; try with_reducible rfl); (try simp only [Act.put, List.setIfInBounds_toArray]); (try dsimp only [List.set_cons_zero, List.set_cons_succ])
                refine seq_take HST (v := ?_) 41 200 rfl ?_ ?_; rotate_left; (intro w hSw; go_simp; try with_reducible rfl); (try simp only [Act.put, List.setIfInBounds_toArray]); (try dsimp only [List.set_cons_zero, List.set_cons_succ])
                refine seq_take HST (v := ?_) 42 201 rfl ?_ ?_; rotate_left; (intro w hSw; go_simp; try with_reducible rfl); (try simp only [Act.put, List.setIfInBounds_toArray]); (try dsimp only [List.set_cons_zero, List.set_cons_succ])
                refine seq_take HST (v := ?_) 43 202 rfl ?_ ?_; rotate_left; (intro w hSw; obtain ⟨f0, f1, f2, f3, f4, f5⟩ := FQ.out _ hSw; go_simp; try with_reducible rfl); (try simp only [Act.put, List.setIfInBounds_toArray]); (try dsimp only [List.set_cons_zero, List.set_cons_succ])
                refine seq_take HST (v := ?_) 44 203 rfl ?_ ?_; rotate_left; (intro w hSw; go_simp; try with_reducible rfl); (try simp only [Act.put, List.setIfInBounds_toArray]); (try dsimp only [List.set_cons_zero, List.set_cons_succ])
                refine seq_take HST (v := ?_) 45 204 rfl ?_ ?_; rotate_left; (intro w hSw; go_simp; try with_reducible rfl); (try simp only [Act.put, List.setIfInBounds_toArray]); (try dsimp only [List.set_cons_zero, List.set_cons_succ])
                refine seq_take HST (v := ?_) 46 205 rfl ?_ ?_; rotate_left; (intro w hSw; go_simp; try with_reducible rfl); (try simp only [Act.put, List.setIfInBounds_toArray]); (try dsimp only [List.set_cons_zero, List.set_cons_succ])
                refine seq_take HST (v := ?_) 47 206 rfl ?_ ?_; rotate_left; (intro w hSw; go_simp; try with_reducible rfl); (try simp only [Act.put, List.setIfInBounds_toArray]); (try dsimp only [List.set_cons_zero, List.set_cons_succ])
                refine seq_take HST (v := ?_) 48 207 rfl ?_ ?_; rotate_left; (intro w hSw; go_simp; try with_reducible rfl); (try simp only [Act.put, List.setIfInBounds_toArray]); (try dsimp only [List.set_cons_zero, List.set_cons_succ])
                refine seq_take HST (v := ?_) 49 208 rfl ?_ ?_; rotate_left; (intro w hSw; go_simp; try with_reducible rfl); (try simp only [Act.put, List.setIfInBounds_toArray]); (try dsimp only [List.set_cons_zero, List.set_cons_succ])
                refine seq_take HST (v := ?_) 50 209 rfl ?_ ?_; rotate_left; (intro w hSw; obtain ⟨f0, f1, f2, f3, f4, f5⟩ := FQ.out _ hSw; go_simp; try with_reducible rfl); (try simp only [Act.put, List.setIfInBounds_toArray]); (try dsimp only [List.set_cons_zero, List.set_cons_succ])
                refine seq_take HST (v := ?_) 51 210 rfl ?_ ?_; rotate_left; (intro w hSw; go_simp; try with_reducible rfl); (try simp only [Act.put, List.setIfInBounds_toArray]); (try dsimp only [List.set_cons_zero, List.set_cons_succ])
                refine seq_take HST (v := ?_) 52 211 rfl ?_ ?_; rotate_left; (intro w hSw; go_simp; try with_reducible rfl); (try simp only [Act.put, List.setIfInBounds_toArray]); (try dsimp only [List.set_cons_zero, List.set_cons_succ])
                refine seq_take HST (v := ?_) 53 212 rfl ?_ ?_; rotate_left; (intro w hSw; go_simp; try with_reducible rfl); (try simp only [Act.put, List.setIfInBounds_toArray]); (try dsimp only [List.set_cons_zero, List.set_cons_succ])
                refine seq_take HST (v := ?_) 54 213 rfl ?_ ?_; rotate_left; (intro w hSw; go_simp; try with_reducible rfl); (try simp only [Act.put, List.setIfInBounds_toArray]); (try dsimp only [List.set_cons_zero, List.set_cons_succ])
                refine seq_take HST (v := ?_) 55 214 rfl ?_ ?_; rotate_left; (intro w hSw; obtain ⟨f0, f1, f2, f3, f4, f5⟩ := FQ.out _ hSw; go_simp; try with_reducible rfl); (try simp only [Act.put, List.setIfInBounds_toArray]); (try dsimp only [List.set_cons_zero, List.set_cons_succ])
                refine seq_take HST (v := ?_) 56 215 rfl ?_ ?_; rotate_left; (intro w hSw; go_simp; try with_reducible rfl); (try simp only [Act.put, List.setIfInBounds_toArray]); (try dsimp only [List.set_cons_zero, List.set_cons_succ])
                refine seq_take HST (v := ?_) 57 216 rfl ?_ ?_; rotate_left; (intro w hSw; go_simp; try with_reducible rfl); (try simp only [Act.put, List.setIfInBounds_toArray]); (try dsimp only [List.set_cons_zero, List.set_cons_succ])
                refine seq_take HST (v := ?_) 58 217 rfl ?_ ?_; rotate_left; (intro w hSw; go_simp; try with_reducible rfl); (try simp only [Act.put, List.setIfInBounds_toArray]); (try dsimp only [List.set_cons_zero, List.set_cons_succ])
                refine seq_take HST (v := ?_) 59 218 rfl ?_ ?_; rotate_left; (intro w hSw; go_simp; try with_reducible rfl); (try simp only [Act.put, List.setIfInBounds_toArray]); (try dsimp only [List.set_cons_zero, List.set_cons_succ])
                refine seq_done (by kernel_rfl) ?_
                have HLD := Lib.hid (HL.out.trans (hHeld.mono z7))
                clear hHeld
                go_wp2
                go_roundw
                case rel => exact ⟨i + 1, by omega, by go_num, HLD.out⟩
                case measure => simp [intOf]; omega
      · obtain rfl : i = L := by omega
        clear I0 I2 I3 LI Y0 Y2 Y3
        obtain ⟨e0, e1, e2⟩ := HE7.out _ HL.out
        go_wp2_with fail
        refine (F1.out _ HL.out).mono ?_
        rintro e w10 ⟨rfl, b10⟩
        have C10 := Lib.hid (HL.out.trans (b10.mono HL.out.size))
        clear b10 F1 e0 e1 e2 HL
        obtain ⟨e0, e1, e2⟩ := HE7.out _ C10.out
        go_wp2_with fail
        refine (F2.out _ C10.out).mono ?_
        rintro e w11 ⟨rfl, b11⟩
        have C11 := Lib.hid (C10.out.trans (b11.mono C10.out.size))
        clear b11 F2 e0 e1 e2 C10
        go_wp2_with fail
        refine (F3.out _ C11.out).mono ?_
        rintro e w12 ⟨rfl, b12⟩
        have C12 := Lib.hid (C11.out.trans (b12.mono C11.out.size))
        clear b12 F3 C11
        go_wp2_with fail
        refine (AL2.out _ C12.out).mono ?_
        rintro e w13 ⟨rfl, b13⟩
        have C13 := Lib.hid (C12.out.trans (b13.mono C12.out.size))
        clear b13 AL2 C12
        go_wp2_with fail
        refine (SX2.out _ C13.out).mono ?_
        rintro e w14 ⟨rfl, b14⟩
        have C14 := Lib.hid (C13.out.trans (b14.mono C13.out.size))
        clear b14 SX2 C13
        have g2' : (j2 != 0) = !b2 := by rw [← g2]; rfl
        cases b2
        · go_wp2
          go_ret
          exact ⟨by simp, LW.out _ C14.out⟩
        · obtain rfl : is = true := HIS.out rfl
          go_wp2
          go_ret
          exact ⟨by simp, LW.out _ C14.out⟩
end Go.Proofs.YtajnnkclonjcoaaDoor.schemaStays
