/-
  The walk of SchemaTells.
-/
import Derived.Test.YtajnnkclonjcoaaDoorM12
namespace Go.Proofs.YtajnnkclonjcoaaDoor.schemaTells
open Go.ChangeShapes Go.WideShapes Go.ChangeAt Go.RowKit Val Elems Go.Proofs.YtajnnkclonjcoaaDoor.Code
set_option linter.unusedVariables false
set_option linter.unusedSimpArgs false
theorem small_is {l : List W} (h : smallC l = true) : l.length ≤ 20 ∧ ∀ c ∈ l, c.2.1.length ≤ 100 := by
  unfold smallC at h
  rw [Bool.and_eq_true, List.all_eq_true] at h
  exact ⟨by simpa using h.1, fun c hc => by simpa using h.2 c hc⟩
/-- where a name is, as it is told -/
theorem find_two (l : List W) (s : List UInt8) : ∃ (z : Int) (q : Int) (b : Bool), findZ l s = z ∧ max z 0 = q ∧ decide (0 ≤ z) = b ∧ ((¬ 0 ≤ z ∧ q = 0 ∧ b = false) ∨ (0 ≤ z ∧ q = z ∧ b = true)) := by
  cases h : findC l s with
  | none => exact ⟨-1, 0, false, findZ_neg h, rfl, rfl, .inl ⟨by decide, rfl, rfl⟩⟩
  | some k => exact ⟨k, k, true, findZ_pos h, by omega, by simp, .inr ⟨by omega, rfl, rfl⟩⟩
set_option maxHeartbeats 8000000 in
set_option maxRecDepth 100000 in
theorem walk (A : Option Addr) (ca : Nat) (l : List W) (B : Option Addr) (cb : Nat) (n : List W) (s : ByteArray) (m : Int) (w : World) (ha : At wc 3 w w.heap.size A l) (ya : ∀ x ∈ l, x.2.1.length ≤ 140737488355328) (za : l.length ≤ 4398046511104) (ua : l.length ≤ ca)
    (hb : At wc 3 w w.heap.size B n) (yb : ∀ x ∈ n, x.2.1.length ≤ 140737488355328) (zb : n.length ≤ 4398046511104) (ub : n.length ≤ cb) (hs : s.size ≤ maxLen) (hg : MGlob m w) :
    Calls Tryd.prog 3 #[.slice A l.length ca, .slice B n.length cb, .string s] w fun e w' => e = .returned (.bool true) ∧ Below w.heap.size w w' := by
  have HG := Lib.hid hg
  have HA := Lib.hid ha
  have HB := Lib.hid hb
  have S1 := Lib.hid (small_any A ca l w ha (by unfold maxLen; omega))
  have S2 := Lib.hid (fun w' h => small_any B cb n w' h (by unfold maxLen; omega))
  obtain ⟨p, hp⟩ : ∃ p, smallC l = p := ⟨_, rfl⟩
  obtain ⟨q, hq⟩ : ∃ q, smallC n = q := ⟨_, rfl⟩
  rw [hp] at S1
  rw [hq] at S2
  have HP := Lib.hid hp
  have HQ := Lib.hid hq
  have hs63 : (s.size : Int) ≤ 9223372036854775807 := by unfold maxLen at hs; omega
  clear hg ha hb ya yb hp hq hs
  go_enter Tryd.func3, Tryd.ntmps3
  go_wp2_with fail
  refine S1.out.mono ?_
  rintro e w1 ⟨rfl, b1⟩
  have L1 := Lib.hid b1
  have A1 := Lib.hid ((HA.out.below b1).more b1.size)
  have B1 := Lib.hid ((HB.out.below b1).more b1.size)
  clear b1 S1 HA HB
  go_wp2_with fail
  refine (S2.out _ B1.out).mono ?_
  rintro e w2 ⟨rfl, b2⟩
  have L2 := Lib.hid (L1.out.trans (b2.mono L1.out.size))
  have A2 := Lib.hid ((A1.out.below b2).more b2.size)
  have B2 := Lib.hid ((B1.out.below b2).more b2.size)
  clear b2 S2 A1 B1 L1
  have AL := Lib.hid (fun w' (h : Below w.heap.size w w') => live12 m w' (HG.out.next h))
  by_cases hbad : p = false ∨ q = false ∨ ¬ s.size ≤ 100
  · cases p
    · go_wp2_with fail
      refine (AL.out _ L2.out).mono ?_
      rintro e w3 ⟨rfl, b3⟩
      go_wp2
      go_ret
      exact ⟨rfl, L2.out.trans (b3.mono L2.out.size)⟩
    · cases q
      · go_wp2_with fail
        refine (AL.out _ L2.out).mono ?_
        rintro e w3 ⟨rfl, b3⟩
        go_wp2
        go_ret
        exact ⟨rfl, L2.out.trans (b3.mono L2.out.size)⟩
      · have h1 : ¬ s.size ≤ 100 := by simpa using hbad
        clear hbad
        go_wp2_with fail
        refine (AL.out _ L2.out).mono ?_
        rintro e w3 ⟨rfl, b3⟩
        go_wp2
        go_ret
        exact ⟨rfl, L2.out.trans (b3.mono L2.out.size)⟩
  obtain ⟨rfl, rfl, hs⟩ : p = true ∧ q = true ∧ s.size ≤ 100 := by
    refine ⟨?_, ?_, ?_⟩
    · cases p <;> simp_all
    · cases q <;> simp_all
    · exact Decidable.byContradiction fun h => hbad (.inr (.inr h))
  obtain ⟨hl, hnl⟩ := small_is HP.out
  obtain ⟨hn, hnn⟩ := small_is HQ.out
  have HN := Lib.hid hnl
  clear hbad HP HQ hnl hnn
  have L3 := Lib.hid (fun (w' : World) (h : Below w2.heap.size w2 w') => show Below w.heap.size w w' from L2.out.trans (h.mono L2.out.size))
  have A3 := Lib.hid (fun (w' : World) (h : Below w2.heap.size w2 w') => show At wc 3 w' w'.heap.size A l from (A2.out.below h).more h.size)
  have B3 := Lib.hid (fun (w' : World) (h : Below w2.heap.size w2 w') => show At wc 3 w' w'.heap.size B n from (B2.out.below h).more h.size)
  have G3 := Lib.hid (fun (w' : World) (h : Below w2.heap.size w2 w') => show MGlob m w' from HG.out.next (L3.out w' h))
  have F1 := Lib.hid (fun w' h => sfind_any A ca l s w' (A3.out w' h) (by omega))
  have F2 := Lib.hid (fun w' h => rfind_any A ca l s w' (A3.out w' h) (by omega))
  have R1 := Lib.hid (fun w' h => sright_any A ca l m w' (A3.out w' h) (by omega) ua (fun c hc => by have := HN.out c hc; omega) (G3.out w' h))
  have R2 := Lib.hid (fun w' h => rright12_any A ca l w' (A3.out w' h) (by omega) (fun c hc => by have := HN.out c hc; omega))
  have K1 := Lib.hid (fun w' h => skinds_any A ca l w' (A3.out w' h) (by omega))
  have K2 := Lib.hid (fun w' h => rkinds_any A ca l w' (A3.out w' h) (by omega))
  have T1 := Lib.hid (fun w' h => sshow_any A ca l w' (A3.out w' h) (fun c hc => by have := HN.out c hc; omega) (by omega))
  have T2 := Lib.hid (fun w' h => rshow12_any A ca l w' (A3.out w' h) (fun c hc => by have := HN.out c hc; omega) (by omega))
  have Q1 := Lib.hid (fun w' h => salike_any A B ca cb l n w' (A3.out w' h) (B3.out w' h) (by omega) (by omega))
  have Q2 := Lib.hid (fun w' h => ralike_any A B ca cb l n w' (A3.out w' h) (B3.out w' h) (by omega) (by omega))
  have N1 := Lib.hid (fun w' h => sname_any s m w' (by omega) (G3.out w' h))
  have N2 := Lib.hid (fun w' => rname_any s w' (by omega))
  obtain ⟨z, k, b, hz1, hz2, hz3, hz⟩ := find_two l s.data.toList
  obtain ⟨r, hr⟩ : ∃ r, schC l = r := ⟨_, rfl⟩
  obtain ⟨t, ht⟩ : ∃ t, (⟨(showC l).toArray⟩ : ByteArray) = t := ⟨_, rfl⟩
  obtain ⟨a, hal⟩ : ∃ a, alikeC l n = a := ⟨_, rfl⟩
  obtain ⟨o, ho⟩ : ∃ o, nameC s.data.toList = o := ⟨_, rfl⟩
  have hkl : (kindsC l).length = l.length := List.length_map ..
  have KS := Lib.hid (fun w' A' B' ca' cb' (ha : At kc 1 w' w'.heap.size A' (kindsC l)) hb => hkl ▸ kinds_same A' B' ca' cb' (kindsC l) w' ha hb (by omega))
  unfold FindPost at F1
  rw [hz1, hz2, hz3] at F1
  rw [hz1] at F2
  rw [hr] at R1 R2
  rw [ht] at T1 T2
  rw [hal] at Q1 Q2
  rw [ho] at N1 N2
  have AL2 := Lib.hid (fun w' h => AL.out w' (L3.out w' h))
  clear hz1 hz2 hz3 hr ht hal ho hkl AL L2 A2 B2 A3 B3 G3 HG
  go_wp2_with fail
  refine (F1.out _ (Below.refl _ _)).mono ?_
  rintro e w3 ⟨rfl, b3⟩
  have D3 := Lib.hid b3
  clear b3 F1
  go_wp2_with fail
  refine (F2.out _ D3.out).mono ?_
  rintro e w4 ⟨rfl, b4⟩
  have D4 := Lib.hid (D3.out.trans (b4.mono D3.out.size))
  clear b4 F2 D3
  go_wp2_with fail
  refine (AL2.out _ D4.out).mono ?_
  rintro e w5 ⟨rfl, b5⟩
  have D5 := Lib.hid (D4.out.trans (b5.mono D4.out.size))
  clear b5 AL2 D4
  go_wp2_with fail
  refine (R1.out _ D5.out).mono ?_
  rintro e w6 ⟨rfl, b6⟩
  have D6 := Lib.hid (D5.out.trans (b6.mono D5.out.size))
  clear b6 R1 D5
  go_wp2_with fail
  refine (R2.out _ D6.out).mono ?_
  rintro e w7 ⟨rfl, b7⟩
  have D7 := Lib.hid (D6.out.trans (b7.mono D6.out.size))
  clear b7 R2 D6
  go_wp2_with fail
  refine (K1.out _ D7.out).mono ?_
  rintro e w8 ⟨A8, c8, rfl, k8, b8⟩
  have D8 := Lib.hid (D7.out.trans (b8.mono D7.out.size))
  have V8 := Lib.hid k8
  clear b8 k8 K1 D7
  go_wp2_with fail
  refine (K2.out _ D8.out).mono ?_
  rintro e w9 ⟨A9, c9, rfl, k9, b9⟩
  have D9 := Lib.hid (D8.out.trans (b9.mono D8.out.size))
  have V9 := Lib.hid ((V8.out.below b9).more b9.size)
  have U9 := Lib.hid k9
  clear b9 k9 K2 D8 V8
  go_wp2_with fail
  refine (KS.out _ _ _ _ _ V9.out U9.out).mono ?_
  rintro e w10 ⟨rfl, b10⟩
  have D10 := Lib.hid (D9.out.trans (b10.mono D9.out.size))
  clear b10 KS V9 U9 D9
  go_wp2_with fail
  refine (T1.out _ D10.out).mono ?_
  rintro e w11 ⟨rfl, b11⟩
  have D11 := Lib.hid (D10.out.trans (b11.mono D10.out.size))
  clear b11 T1 D10
  go_wp2_with fail
  refine (T2.out _ D11.out).mono ?_
  rintro e w12 ⟨rfl, b12⟩
  have D12 := Lib.hid (D11.out.trans (b12.mono D11.out.size))
  clear b12 T2 D11
  go_wp2_with fail
  refine (Q1.out _ D12.out).mono ?_
  rintro e w13 ⟨rfl, b13⟩
  have D13 := Lib.hid (D12.out.trans (b13.mono D12.out.size))
  clear b13 Q1 D12
  go_wp2_with fail
  refine (Q2.out _ D13.out).mono ?_
  rintro e w14 ⟨rfl, b14⟩
  have D14 := Lib.hid (D13.out.trans (b14.mono D13.out.size))
  clear b14 Q2 D13
  rcases hz with ⟨hz0, rfl, rfl⟩ | ⟨hz0, rfl, rfl⟩
  · have e1 : max z 0 = 0 := by omega
    go_wp2_with fail
    refine (N1.out _ D14.out).mono ?_
    rintro e w15 ⟨rfl, b15⟩
    have D15 := Lib.hid (D14.out.trans (b15.mono D14.out.size))
    clear b15 N1 D14
    go_wp2_with fail
    refine (N2.out _).mono ?_
    rintro e w16 ⟨rfl, b16⟩
    have D16 := Lib.hid (D15.out.trans (b16.mono D15.out.size))
    go_wp2
    go_ret
    exact ⟨by simp; omega, L3.out _ D16.out⟩
  · have e1 : max k 0 = k := by omega
    go_wp2_with fail
    refine (N1.out _ D14.out).mono ?_
    rintro e w15 ⟨rfl, b15⟩
    have D15 := Lib.hid (D14.out.trans (b15.mono D14.out.size))
    clear b15 N1 D14
    go_wp2_with fail
    refine (N2.out _).mono ?_
    rintro e w16 ⟨rfl, b16⟩
    have D16 := Lib.hid (D15.out.trans (b16.mono D15.out.size))
    go_wp2
    go_ret
    exact ⟨by simp, L3.out _ D16.out⟩
end Go.Proofs.YtajnnkclonjcoaaDoor.schemaTells
