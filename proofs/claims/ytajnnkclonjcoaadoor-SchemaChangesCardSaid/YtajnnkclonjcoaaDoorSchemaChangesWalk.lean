/-
  The walk of SchemaChanges.
-/
import Derived.Test.YtajnnkclonjcoaaDoorSchemaTellsWalk
namespace Go.Proofs.YtajnnkclonjcoaaDoor.schemaChanges
open Go.ChangeShapes Go.WideShapes Go.ChangeAt Go.RowKit Val Elems Go.Proofs.YtajnnkclonjcoaaDoor.Code
set_option linter.unusedVariables false
set_option linter.unusedSimpArgs false
theorem add_le (l : List W) (c : W) : (addC l c).1.length ≤ l.length + 1 := by
  unfold addC
  repeat' split
  all_goals simp
theorem drop_le (l : List W) (s : List UInt8) : (dropC l s).1.length ≤ l.length := by
  unfold dropC
  repeat' split
  all_goals first | exact Nat.zero_le _ | (rw [List.length_eraseIdx]; split <;> omega)
theorem rename_le (l : List W) (s t : List UInt8) : (renameC l s t).1.length ≤ l.length := by
  unfold renameC
  repeat' split
  all_goals first | exact Nat.zero_le _ | (rw [List.length_modify]; exact Nat.le_refl _)
theorem widen_le (l : List W) (s : List UInt8) (t : Int) : (widenC l s t).1.length ≤ l.length := by
  unfold widenC
  repeat' split
  all_goals first | exact Nat.zero_le _ | (rw [List.length_modify]; exact Nat.le_refl _)
set_option maxHeartbeats 8000000 in
set_option maxRecDepth 100000 in
theorem walk (A : Option Addr) (ca : Nat) (l : List W) (n : Int) (s : ByteArray) (k : Int) (ux : ByteArray) (m : Int) (w : World) (ha : At wc 3 w w.heap.size A l) (ya : ∀ x ∈ l, x.2.1.length ≤ 140737488355328) (za : l.length ≤ 4398046511104) (ua : l.length ≤ ca)
    (hn : (Lit.int .i64 n).wf = true) (hs : s.size ≤ maxLen) (hk : (Lit.int .i64 k).wf = true) (hto : ux.size ≤ maxLen) (hg : MGlob m w) :
    Calls Tryd.prog 4 #[.slice A l.length ca, .agg #[.int .i64 n, .string s, .int .i64 k], .string ux] w fun e w' => e = .returned (.bool true) ∧ Below w.heap.size w w' := by
  have HG := Lib.hid hg
  obtain ⟨o, hobj⟩ : ∃ o, Obj.cells #[Value.int .i64 n, .string s, .int .i64 k] 41 = o := ⟨_, rfl⟩
  obtain ⟨w0, hw0⟩ : ∃ w0, w.alloc o = w0 := ⟨_, rfl⟩
  have hlt : w.heap.size < w0.heap.size := by rw [← hw0]; simp
  have L0 := Lib.hid (show Below w.heap.size w w0 by rw [← hw0]; exact below_alloc w o)
  have e0 : w0.cell? ⟨w.heap.size, 0, none⟩ = some (.int .i64 n) := by rw [← hw0, ← hobj]; simp
  have e1 : w0.cell? ⟨w.heap.size, 1, none⟩ = some (.string s) := by rw [← hw0, ← hobj]; simp
  have e2 : w0.cell? ⟨w.heap.size, 2, none⟩ = some (.int .i64 k) := by rw [← hw0, ← hobj]; simp
  have HE := Lib.hid (fun (w' : World) (h : Below w0.heap.size w0 w') => show w'.cell? ⟨w.heap.size, 0, none⟩ = some (.int .i64 n) ∧ w'.cell? ⟨w.heap.size, 1, none⟩ = some (.string s) ∧ w'.cell? ⟨w.heap.size, 2, none⟩ = some (.int .i64 k) from
    ⟨(h.cell (p := ⟨w.heap.size, 0, none⟩) hlt).trans e0, (h.cell (p := ⟨w.heap.size, 1, none⟩) hlt).trans e1, (h.cell (p := ⟨w.heap.size, 2, none⟩) hlt).trans e2⟩)
  have A0 := Lib.hid (show At wc 3 w0 w0.heap.size A l from (ha.below L0.out).more L0.out.size)
  have AA := Lib.hid (fun (w' : World) (h : Below w0.heap.size w0 w') => show At wc 3 w' w'.heap.size A l from (A0.out.below h).more h.size)
  have LL := Lib.hid (fun (w' : World) (h : Below w0.heap.size w0 w') => show Below w.heap.size w w' from L0.out.trans (h.mono L0.out.size))
  have GG := Lib.hid (fun (w' : World) (h : Below w0.heap.size w0 w') => show MGlob m w' from HG.out.next (LL.out w' h))
  have AL := Lib.hid (fun w' h => live12 m w' (GG.out w' h))
  have S1 := Lib.hid (small_any A ca l w0 A0.out (by unfold maxLen; omega))
  obtain ⟨p, hp⟩ : ∃ p, smallC l = p := ⟨_, rfl⟩
  rw [hp] at S1
  have HP := Lib.hid hp
  have hs63 : (s.size : Int) ≤ 9223372036854775807 := by unfold maxLen at hs; omega
  have ht63 : (ux.size : Int) ≤ 9223372036854775807 := by unfold maxLen at hto; omega
  clear hg ha ya hp hs hto e0 e1 e2
  go_enter Tryd.func4, Tryd.ntmps4
  go_wp2_with fail
  refine S1.out.mono ?_
  rintro e w1 ⟨rfl, b1⟩
  have D1 := Lib.hid b1
  clear b1 S1
  obtain ⟨e0, e1, e2⟩ := HE.out _ D1.out
  by_cases hbad : p = false ∨ ¬ s.size ≤ 100 ∨ ¬ ux.size ≤ 100
  · cases p
    · go_wp2_with fail
      refine (AL.out _ D1.out).mono ?_
      rintro e w3 ⟨rfl, b3⟩
      go_wp2
      go_ret
      exact ⟨rfl, LL.out _ (D1.out.trans (b3.mono D1.out.size))⟩
    · by_cases h1 : s.size ≤ 100
      · have h2 : ¬ ux.size ≤ 100 := by simpa [h1] using hbad
        clear hbad
        go_wp2_with fail
        refine (AL.out _ D1.out).mono ?_
        rintro e w3 ⟨rfl, b3⟩
        go_wp2
        go_ret
        exact ⟨rfl, LL.out _ (D1.out.trans (b3.mono D1.out.size))⟩
      · clear hbad
        go_wp2_with fail
        refine (AL.out _ D1.out).mono ?_
        rintro e w3 ⟨rfl, b3⟩
        go_wp2
        go_ret
        exact ⟨rfl, LL.out _ (D1.out.trans (b3.mono D1.out.size))⟩
  obtain ⟨rfl, hs, hto⟩ : p = true ∧ s.size ≤ 100 ∧ ux.size ≤ 100 := by
    refine ⟨?_, ?_, ?_⟩
    · cases p <;> simp_all
    · exact Decidable.byContradiction fun h => hbad (.inr (.inl h))
    · exact Decidable.byContradiction fun h => hbad (.inr (.inr h))
  obtain ⟨hl, hnl⟩ := schemaTells.small_is HP.out
  clear hbad HP hnl e0 e2
  have P0 := Lib.hid (fun w' h => (sadd_any A ca l n k s m w' (AA.out w' h) (by omega) (by omega) (GG.out w' h)).mono fun _ _ h => h.cols)
  have Q0 := Lib.hid (fun w' h => radd_any A ca l n k s w' (AA.out w' h) (by omega) (by omega))
  have hle0 := add_le l (n, s.data.toList, k)
  obtain ⟨R0, hR0⟩ : ∃ R, addC l (n, s.data.toList, k) = R := ⟨_, rfl⟩
  rw [hR0] at P0 Q0 hle0
  unfold ColsPost at P0 Q0
  obtain ⟨r0, j0⟩ := R0
  have SS0 := Lib.hid (fun w' A' B' ca' cb' ha hb => rsame_cols A' B' ca' cb' r0 w' ha hb (by dsimp only at hle0; omega))
  clear hR0 hle0
  have P1 := Lib.hid (fun w' h => (sdrop_any A ca l s w' (AA.out w' h) (by omega) ua).mono fun _ _ h => h.cols)
  have Q1 := Lib.hid (fun w' h => rdrop_any A ca l s w' (AA.out w' h) (by omega))
  have hle1 := drop_le l s.data.toList
  obtain ⟨R1, hR1⟩ : ∃ R, dropC l s.data.toList = R := ⟨_, rfl⟩
  rw [hR1] at P1 Q1 hle1
  unfold ColsPost at P1 Q1
  obtain ⟨r1, j1⟩ := R1
  have SS1 := Lib.hid (fun w' A' B' ca' cb' ha hb => rsame_cols A' B' ca' cb' r1 w' ha hb (by dsimp only at hle1; omega))
  clear hR1 hle1
  have P2 := Lib.hid (fun w' h => (srename_any A ca l s ux m w' (AA.out w' h) (by omega) (by omega) (GG.out w' h)).mono fun _ _ h => h.cols)
  have Q2 := Lib.hid (fun w' h => rrename_any A ca l s ux w' (AA.out w' h) (by omega) (by omega))
  have hle2 := rename_le l s.data.toList ux.data.toList
  obtain ⟨R2, hR2⟩ : ∃ R, renameC l s.data.toList ux.data.toList = R := ⟨_, rfl⟩
  rw [hR2] at P2 Q2 hle2
  unfold ColsPost at P2 Q2
  obtain ⟨r2, j2⟩ := R2
  have SS2 := Lib.hid (fun w' A' B' ca' cb' ha hb => rsame_cols A' B' ca' cb' r2 w' ha hb (by dsimp only at hle2; omega))
  clear hR2 hle2
  have P3 := Lib.hid (fun w' h => (swiden_any A ca l s k w' (AA.out w' h) (by omega)).mono fun _ _ h => h.cols)
  have Q3 := Lib.hid (fun w' h => rwiden_any A ca l s k w' (AA.out w' h) (by omega))
  have hle3 := widen_le l s.data.toList k
  obtain ⟨R3, hR3⟩ : ∃ R, widenC l s.data.toList k = R := ⟨_, rfl⟩
  rw [hR3] at P3 Q3 hle3
  unfold ColsPost at P3 Q3
  obtain ⟨r3, j3⟩ := R3
  have SS3 := Lib.hid (fun w' A' B' ca' cb' ha hb => rsame_cols A' B' ca' cb' r3 w' ha hb (by dsimp only at hle3; omega))
  clear hR3 hle3
  clear A0 AA GG HG L0
  dsimp only at P0 Q0 P1 Q1 P2 Q2 P3 Q3
  obtain ⟨e0, e1, e2⟩ := HE.out _ D1.out
  go_wp2_with fail
  refine (P0.out _ D1.out).mono ?_
  rintro e w2 ⟨PA0, Pc0, rfl, v2, b2⟩
  have D2 := Lib.hid (D1.out.trans (b2.mono D1.out.size))
  have VP0_2 := Lib.hid v2
  clear b2 v2 P0 e0 e1 e2 D1
  obtain ⟨e0, e1, e2⟩ := HE.out _ D2.out
  go_wp2_with fail
  refine (Q0.out _ D2.out).mono ?_
  rintro e w3 ⟨QA0, Qc0, rfl, v3, b3⟩
  have D3 := Lib.hid (D2.out.trans (b3.mono D2.out.size))
  have VP0_3 := Lib.hid ((VP0_2.out.below b3).more b3.size)
  have VQ0_3 := Lib.hid v3
  clear b3 v3 Q0 e0 e1 e2 D2 VP0_2
  obtain ⟨e0, e1, e2⟩ := HE.out _ D3.out
  go_wp2_with fail
  refine (P1.out _ D3.out).mono ?_
  rintro e w4 ⟨PA1, Pc1, rfl, v4, b4⟩
  have D4 := Lib.hid (D3.out.trans (b4.mono D3.out.size))
  have VP0_4 := Lib.hid ((VP0_3.out.below b4).more b4.size)
  have VQ0_4 := Lib.hid ((VQ0_3.out.below b4).more b4.size)
  have VP1_4 := Lib.hid v4
  clear b4 v4 P1 e0 e1 e2 D3 VP0_3 VQ0_3
  obtain ⟨e0, e1, e2⟩ := HE.out _ D4.out
  go_wp2_with fail
  refine (Q1.out _ D4.out).mono ?_
  rintro e w5 ⟨QA1, Qc1, rfl, v5, b5⟩
  have D5 := Lib.hid (D4.out.trans (b5.mono D4.out.size))
  have VP0_5 := Lib.hid ((VP0_4.out.below b5).more b5.size)
  have VQ0_5 := Lib.hid ((VQ0_4.out.below b5).more b5.size)
  have VP1_5 := Lib.hid ((VP1_4.out.below b5).more b5.size)
  have VQ1_5 := Lib.hid v5
  clear b5 v5 Q1 e0 e1 e2 D4 VP0_4 VQ0_4 VP1_4
  obtain ⟨e0, e1, e2⟩ := HE.out _ D5.out
  go_wp2_with fail
  refine (P2.out _ D5.out).mono ?_
  rintro e w6 ⟨PA2, Pc2, rfl, v6, b6⟩
  have D6 := Lib.hid (D5.out.trans (b6.mono D5.out.size))
  have VP0_6 := Lib.hid ((VP0_5.out.below b6).more b6.size)
  have VQ0_6 := Lib.hid ((VQ0_5.out.below b6).more b6.size)
  have VP1_6 := Lib.hid ((VP1_5.out.below b6).more b6.size)
  have VQ1_6 := Lib.hid ((VQ1_5.out.below b6).more b6.size)
  have VP2_6 := Lib.hid v6
  clear b6 v6 P2 e0 e1 e2 D5 VP0_5 VQ0_5 VP1_5 VQ1_5
  obtain ⟨e0, e1, e2⟩ := HE.out _ D6.out
  go_wp2_with fail
  refine (Q2.out _ D6.out).mono ?_
  rintro e w7 ⟨QA2, Qc2, rfl, v7, b7⟩
  have D7 := Lib.hid (D6.out.trans (b7.mono D6.out.size))
  have VP0_7 := Lib.hid ((VP0_6.out.below b7).more b7.size)
  have VQ0_7 := Lib.hid ((VQ0_6.out.below b7).more b7.size)
  have VP1_7 := Lib.hid ((VP1_6.out.below b7).more b7.size)
  have VQ1_7 := Lib.hid ((VQ1_6.out.below b7).more b7.size)
  have VP2_7 := Lib.hid ((VP2_6.out.below b7).more b7.size)
  have VQ2_7 := Lib.hid v7
  clear b7 v7 Q2 e0 e1 e2 D6 VP0_6 VQ0_6 VP1_6 VQ1_6 VP2_6
  obtain ⟨e0, e1, e2⟩ := HE.out _ D7.out
  go_wp2_with fail
  refine (P3.out _ D7.out).mono ?_
  rintro e w8 ⟨PA3, Pc3, rfl, v8, b8⟩
  have D8 := Lib.hid (D7.out.trans (b8.mono D7.out.size))
  have VP0_8 := Lib.hid ((VP0_7.out.below b8).more b8.size)
  have VQ0_8 := Lib.hid ((VQ0_7.out.below b8).more b8.size)
  have VP1_8 := Lib.hid ((VP1_7.out.below b8).more b8.size)
  have VQ1_8 := Lib.hid ((VQ1_7.out.below b8).more b8.size)
  have VP2_8 := Lib.hid ((VP2_7.out.below b8).more b8.size)
  have VQ2_8 := Lib.hid ((VQ2_7.out.below b8).more b8.size)
  have VP3_8 := Lib.hid v8
  clear b8 v8 P3 e0 e1 e2 D7 VP0_7 VQ0_7 VP1_7 VQ1_7 VP2_7 VQ2_7
  obtain ⟨e0, e1, e2⟩ := HE.out _ D8.out
  go_wp2_with fail
  refine (Q3.out _ D8.out).mono ?_
  rintro e w9 ⟨QA3, Qc3, rfl, v9, b9⟩
  have D9 := Lib.hid (D8.out.trans (b9.mono D8.out.size))
  have VP0_9 := Lib.hid ((VP0_8.out.below b9).more b9.size)
  have VQ0_9 := Lib.hid ((VQ0_8.out.below b9).more b9.size)
  have VP1_9 := Lib.hid ((VP1_8.out.below b9).more b9.size)
  have VQ1_9 := Lib.hid ((VQ1_8.out.below b9).more b9.size)
  have VP2_9 := Lib.hid ((VP2_8.out.below b9).more b9.size)
  have VQ2_9 := Lib.hid ((VQ2_8.out.below b9).more b9.size)
  have VP3_9 := Lib.hid ((VP3_8.out.below b9).more b9.size)
  have VQ3_9 := Lib.hid v9
  clear b9 v9 Q3 e0 e1 e2 D8 VP0_8 VQ0_8 VP1_8 VQ1_8 VP2_8 VQ2_8 VP3_8
  go_wp2_with fail
  refine (AL.out _ D9.out).mono ?_
  rintro e w10 ⟨rfl, b10⟩
  have D10 := Lib.hid (D9.out.trans (b10.mono D9.out.size))
  have VP0_10 := Lib.hid ((VP0_9.out.below b10).more b10.size)
  have VQ0_10 := Lib.hid ((VQ0_9.out.below b10).more b10.size)
  have VP1_10 := Lib.hid ((VP1_9.out.below b10).more b10.size)
  have VQ1_10 := Lib.hid ((VQ1_9.out.below b10).more b10.size)
  have VP2_10 := Lib.hid ((VP2_9.out.below b10).more b10.size)
  have VQ2_10 := Lib.hid ((VQ2_9.out.below b10).more b10.size)
  have VP3_10 := Lib.hid ((VP3_9.out.below b10).more b10.size)
  have VQ3_10 := Lib.hid ((VQ3_9.out.below b10).more b10.size)
  clear b10 D9 VP0_9 VQ0_9 VP1_9 VQ1_9 VP2_9 VQ2_9 VP3_9 VQ3_9
  go_wp2_with fail
  refine (SS0.out _ _ _ _ _ VP0_10.out VQ0_10.out).mono ?_
  rintro e w11 ⟨rfl, b11⟩
  have D11 := Lib.hid (D10.out.trans (b11.mono D10.out.size))
  have VP0_11 := Lib.hid ((VP0_10.out.below b11).more b11.size)
  have VQ0_11 := Lib.hid ((VQ0_10.out.below b11).more b11.size)
  have VP1_11 := Lib.hid ((VP1_10.out.below b11).more b11.size)
  have VQ1_11 := Lib.hid ((VQ1_10.out.below b11).more b11.size)
  have VP2_11 := Lib.hid ((VP2_10.out.below b11).more b11.size)
  have VQ2_11 := Lib.hid ((VQ2_10.out.below b11).more b11.size)
  have VP3_11 := Lib.hid ((VP3_10.out.below b11).more b11.size)
  have VQ3_11 := Lib.hid ((VQ3_10.out.below b11).more b11.size)
  clear b11 D10 VP0_10 VQ0_10 VP1_10 VQ1_10 VP2_10 VQ2_10 VP3_10 VQ3_10
  go_wp2_with fail
  refine (SS1.out _ _ _ _ _ VP1_11.out VQ1_11.out).mono ?_
  rintro e w12 ⟨rfl, b12⟩
  have D12 := Lib.hid (D11.out.trans (b12.mono D11.out.size))
  have VP0_12 := Lib.hid ((VP0_11.out.below b12).more b12.size)
  have VQ0_12 := Lib.hid ((VQ0_11.out.below b12).more b12.size)
  have VP1_12 := Lib.hid ((VP1_11.out.below b12).more b12.size)
  have VQ1_12 := Lib.hid ((VQ1_11.out.below b12).more b12.size)
  have VP2_12 := Lib.hid ((VP2_11.out.below b12).more b12.size)
  have VQ2_12 := Lib.hid ((VQ2_11.out.below b12).more b12.size)
  have VP3_12 := Lib.hid ((VP3_11.out.below b12).more b12.size)
  have VQ3_12 := Lib.hid ((VQ3_11.out.below b12).more b12.size)
  clear b12 D11 VP0_11 VQ0_11 VP1_11 VQ1_11 VP2_11 VQ2_11 VP3_11 VQ3_11
  go_wp2_with fail
  refine (SS2.out _ _ _ _ _ VP2_12.out VQ2_12.out).mono ?_
  rintro e w13 ⟨rfl, b13⟩
  have D13 := Lib.hid (D12.out.trans (b13.mono D12.out.size))
  have VP0_13 := Lib.hid ((VP0_12.out.below b13).more b13.size)
  have VQ0_13 := Lib.hid ((VQ0_12.out.below b13).more b13.size)
  have VP1_13 := Lib.hid ((VP1_12.out.below b13).more b13.size)
  have VQ1_13 := Lib.hid ((VQ1_12.out.below b13).more b13.size)
  have VP2_13 := Lib.hid ((VP2_12.out.below b13).more b13.size)
  have VQ2_13 := Lib.hid ((VQ2_12.out.below b13).more b13.size)
  have VP3_13 := Lib.hid ((VP3_12.out.below b13).more b13.size)
  have VQ3_13 := Lib.hid ((VQ3_12.out.below b13).more b13.size)
  clear b13 D12 VP0_12 VQ0_12 VP1_12 VQ1_12 VP2_12 VQ2_12 VP3_12 VQ3_12
  go_wp2_with fail
  refine (SS3.out _ _ _ _ _ VP3_13.out VQ3_13.out).mono ?_
  rintro e w14 ⟨rfl, b14⟩
  have D14 := Lib.hid (D13.out.trans (b14.mono D13.out.size))
  have VP0_14 := Lib.hid ((VP0_13.out.below b14).more b14.size)
  have VQ0_14 := Lib.hid ((VQ0_13.out.below b14).more b14.size)
  have VP1_14 := Lib.hid ((VP1_13.out.below b14).more b14.size)
  have VQ1_14 := Lib.hid ((VQ1_13.out.below b14).more b14.size)
  have VP2_14 := Lib.hid ((VP2_13.out.below b14).more b14.size)
  have VQ2_14 := Lib.hid ((VQ2_13.out.below b14).more b14.size)
  have VP3_14 := Lib.hid ((VP3_13.out.below b14).more b14.size)
  have VQ3_14 := Lib.hid ((VQ3_13.out.below b14).more b14.size)
  clear b14 D13 VP0_13 VQ0_13 VP1_13 VQ1_13 VP2_13 VQ2_13 VP3_13 VQ3_13
  go_wp2
  go_ret
  exact ⟨by simp, LL.out _ D14.out⟩
end Go.Proofs.YtajnnkclonjcoaaDoor.schemaChanges
