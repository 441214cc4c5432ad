/-
  The walk through ZsetTells.
-/
import Derived.Test.YtlejhimcaidbeaaZAliveIs
import Derived.Test.YtlejhimcaidbeaaZSame
import Derived.Test.YtlejhimcaidbeaaZGet
import Derived.Test.YtlejhimcaidbeaaItemsOpen
namespace Go.Proofs.Ytlejhimcaidbeaa.zsetTells
open Go.ChangeShapes Go.WideShapes Go.ChangeAt Go.RowKit Val Go.Proofs.Ytlejhimcaidbeaa.Code Go.Proofs.Ytlejhimcaidbeaa.Elems Go.Proofs.Ytlejhimcaidbeaa.ZP Go.Proofs.Ytlejhimcaidbeaa.Bits Go.Proofs.Ytlejhimcaidbeaa.Items Go.Proofs.Ytlejhimcaidbeaa.RowOpen
set_option linter.unusedVariables false
set_option maxRecDepth 100000

theorem fit_weight {L : List It} (hs : IsSet (pl L)) (hF : FitI L) (r : List (Int × Int × ByteArray)) : fitN (weightP (pl L) r) = weightP (pl L) r := by
  have h : fits (weightP (pl L) r) := by
    by_cases h0 : weightP (pl L) r = 0
    · rw [h0]; unfold fits; omega
    · obtain ⟨x, hx, rfl⟩ := weight_mem h0
      rw [mem_weight hs x hx]
      exact fits_of hF x hx
  unfold fits at h
  unfold fitN
  rw [if_pos h]
theorem ofE_cases (L : List It) : ofE L = 0 ∨ ofE L = 11 ∨ ofE L = 51 := by
  unfold ofE
  split
  · split <;> simp
  · simp
set_option maxHeartbeats 16000000 in
theorem walk (A : Option Addr) (ca : Nat) (a : List It) (B : Option Addr) (cb : Nat) (b : List It) (R : Option Addr) (cr : Nat) (r : List (Int × Int × ByteArray)) (w : World) (x0 : Items w w.heap.size A a ∧ FitI a ∧ LongI a ∧ a.length ≤ 4398046511104) (x1 : Items w w.heap.size B b ∧ FitI b ∧ LongI b ∧ b.length ≤ 4398046511104) (x2 : RowIn w R r) :
    Calls Try.prog 4 #[.slice A a.length ca, .slice B b.length cb, .slice R r.length cr] w fun e w' => e = .returned (.bool true) ∧ Below w.heap.size w w' := by
  obtain ⟨hA, fa, la, na⟩ := x0
  obtain ⟨hB, fb, lb, nb⟩ := x1
  have HX2 := Lib.hid x2
  have HA := Lib.hid hA
  have HB := Lib.hid hB
  have FA := Lib.hid fa
  have SA := Lib.hid (show ∀ x ∈ a, x.2.2.1.length ≤ 140737488355328 from fun x hx => by have := (la x hx).1; omega)
  have SB := Lib.hid (show ∀ x ∈ b, x.2.2.1.length ≤ 140737488355328 from fun x hx => by have := (lb x hx).1; omega)
  obtain ⟨p, hp⟩ : ∃ p, smallI a = p := ⟨_, rfl⟩
  obtain ⟨q, hq⟩ : ∃ q, smallI b = q := ⟨_, rfl⟩
  have c1 := smallI_any A ca a w hA la (by omega)
  have c2 := smallI_any B cb b w hB lb (by omega)
  rw [hp] at c1
  rw [hq] at c2
  have C1 := Lib.hid c1
  have C2 := Lib.hid c2
  have HP := Lib.hid (fun h : p = true => smallI_le (hp.trans h))
  have HQ := Lib.hid (fun h : q = true => smallI_le (hq.trans h))
  clear hA hB c1 c2 fa fb la lb hp hq x2
  go_enter Try.func4, Try.ntmps4
  go_wp2_with fail
  refine C1.out.mono ?_
  rintro e w' ⟨rfl, rfl⟩
  go_wp2_with fail
  refine C2.out.mono ?_
  rintro e w' ⟨rfl, rfl⟩
  clear C1 C2
  go_wp2_with fail
  obtain ⟨o, ho⟩ : ∃ o, smallB r = o := ⟨_, rfl⟩
  have c3 := small_any R cr r w HX2.out.1 HX2.out.2.2.1 (by have := HX2.out.2.2.2; omega)
  rw [ho] at c3
  have hrl := HX2.out.2.2.2
  refine c3.mono ?_
  clear c3 ho
  rintro e w' ⟨rfl, rfl⟩
  rcases Bool.eq_false_or_eq_true p with h1 | h1 <;> rcases Bool.eq_false_or_eq_true q with h2 | h2 <;> rcases Bool.eq_false_or_eq_true o with h3 | h3 <;> subst h1 h2 h3
  case inl.inl.inl =>
    have hla := HP.out rfl
    have hlb := HQ.out rfl
    have L0 := Lib.hid (Below.refl w.heap.size w)
    obtain ⟨z, hz⟩ : ∃ z, rightI a = z := ⟨_, rfl⟩
    obtain ⟨y, hy⟩ : ∃ y, decide (pl a = pl b) = y := ⟨_, rfl⟩
    obtain ⟨E, hE⟩ : ∃ E, ofE a = E := ⟨_, rfl⟩
    have hE3 := ofE_cases a
    rw [hE] at hE3
    obtain ⟨Y, hY⟩ : ∃ Y, ofL a = Y := ⟨_, rfl⟩
    have HLY := Lib.hid (show Y.length ≤ 30 by have := ofL_length a; rw [hY] at this; omega)
    have HFY := Lib.hid (show FitI Y from hY ▸ (fun x hx => ⟨ofL_rows (P := fun r => FitL r) (fun y hy => (FA.out y hy).1) x hx, ofL_weights a x hx⟩ : FitI (ofL a)))
    have HSY := Lib.hid (show ∀ x ∈ Y, x.2.2.1.length ≤ 140737488355328 from hY ▸ ofL_rows (P := fun r => r.length ≤ 140737488355328) SA.out)
    have HRY := Lib.hid (show rightI Y = true from hY ▸ ofL_right a)
    have c1 := fun w' (h : Items w' w'.heap.size A a) => zright_any A ca a w' h FA.out SA.out (by omega)
    have c2 := fun w' (h : Items w' w'.heap.size A a) => iright_any A ca a w' h SA.out (by omega)
    have c3 := fun w' (h : Items w' w'.heap.size A a) (g : Items w' w'.heap.size B b) => zsame_any A B ca cb a b w' h g (by omega) (by omega) SA.out SB.out
    have c4 := fun w' (h : Items w' w'.heap.size A a) (g : Items w' w'.heap.size B b) => isame_any A B ca cb a b w' h g (by omega) (by omega) SA.out SB.out
    have c5 := fun w' (h : Items w' w'.heap.size A a) => zsame_any A A ca ca a a w' h h (by omega) (by omega) SA.out SA.out
    have c6 := fun w' (h : Items w' w'.heap.size A a) => iof_any A ca a w' h FA.out (by omega) SA.out
    simp only [hz] at c1 c2
    simp only [hy] at c3 c4
    simp only [decide_true] at c5
    simp only [hY, hE] at c6
    have C1 := Lib.hid c1
    have C2 := Lib.hid c2
    have C3 := Lib.hid c3
    have C4 := Lib.hid c4
    have C5 := Lib.hid c5
    have C6 := Lib.hid c6
    clear c1 c2 c3 c4 c5 c6 hz hy hE hY
    have IA := fun (w' : World) (h : Below w.heap.size w w') => (HA.out.below h).more h.size
    have IB := fun (w' : World) (h : Below w.heap.size w w') => (HB.out.below h).more h.size
    have HIA := Lib.hid IA
    have HIB := Lib.hid IB
    clear IA IB
    go_wp2_with fail
    refine (C1.out w (HIA.out w L0.out)).mono ?_
    rintro e w1 ⟨rfl, hb⟩
    have L1 := Lib.hid (bnext L0.out L0.out.size hb)
    clear hb
    go_wp2_with fail
    refine (C2.out w1 (HIA.out w1 L1.out)).mono ?_
    rintro e w2 ⟨rfl, hb⟩
    have L2 := Lib.hid (bnext L1.out L1.out.size hb)
    clear hb
    go_wp2_with fail
    refine (C3.out w2 (HIA.out w2 L2.out) (HIB.out w2 L2.out)).mono ?_
    rintro e w3 ⟨rfl, hb⟩
    have L3 := Lib.hid (bnext L2.out L2.out.size hb)
    clear hb
    go_wp2_with fail
    refine (C4.out w3 (HIA.out w3 L3.out) (HIB.out w3 L3.out)).mono ?_
    rintro e w4 ⟨rfl, hb⟩
    have L4 := Lib.hid (bnext L3.out L3.out.size hb)
    clear hb
    go_wp2_with fail
    refine (C5.out w4 (HIA.out w4 L4.out)).mono ?_
    rintro e w5 ⟨rfl, hb⟩
    have L5 := Lib.hid (bnext L4.out L4.out.size hb)
    clear hb
    go_wp2_with fail
    refine (C6.out w5 (HIA.out w5 L5.out)).mono ?_
    rintro e w6 ⟨X, cx, rfl, hi6, hb⟩
    have L6 := Lib.hid (bnext L5.out L5.out.size hb)
    have I6 := Lib.hid hi6
    clear hb hi6 C1 C2 C3 C4 C5 C6
    rcases hE3 with rfl | rfl | rfl
    · have HSetY := Lib.hid (rightI_set HRY.out).2
      have HSR := Lib.hid (show ∀ x ∈ Y, x.2.2.1.length ≤ 1000000 from fun x hx => right_short ((rightI_set HRY.out).1 x hx))
      have HDL := Lib.hid (show (distI Y).length ≤ 30 by have := distI_le Y; have := HLY.out; omega)
      have HDS := Lib.hid (show ∀ x ∈ distI Y, x.2.2.1.length ≤ 140737488355328 from distI_rows (P := fun _ r => r.length ≤ 140737488355328) HSY.out)
      have hly := HLY.out
      obtain ⟨n, hn⟩ : ∃ n, fitN (totalP (pl Y)) = n := ⟨_, rfl⟩
      obtain ⟨f, hf⟩ : ∃ f, fitE (totalP (pl Y)) = f := ⟨_, rfl⟩
      obtain ⟨g, hg⟩ : ∃ g, weightP (pl Y) r = g := ⟨_, rfl⟩
      obtain ⟨d, hd⟩ : ∃ d, positiveI Y = d := ⟨_, rfl⟩
      have hrl2 : r.length ≤ 140737488355328 := by omega
      have c7 := fun w' (h : Items w' w'.heap.size X Y) => zTotal X cx Y w' h HFY.out (by omega)
      have c8 := fun w' (h : Items w' w'.heap.size X Y) => total_any X cx Y w' h HFY.out (by omega)
      have c9 := fun w' (h : Items w' w'.heap.size X Y) => zright_any X cx Y w' h HFY.out HSY.out (by omega)
      have c10 := fun w' (h : Items w' w'.heap.size X Y) (g : Vals w' w'.heap.size R r) => zget_any X R cx cr Y r w' h g HSetY.out HSY.out hrl2 (by omega)
      have c11 := fun w' (h : Items w' w'.heap.size X Y) (g : Vals w' w'.heap.size R r) => get_any X R cx cr Y r w' h HFY.out (by omega) HSY.out g hrl2
      have c12 := fun w' (h : Items w' w'.heap.size X Y) => zDistinct X cx Y w' h (by omega) HSR.out
      have c13 := fun w' (h : Items w' w'.heap.size X Y) => distinct_any X cx Y w' h (by omega)
      have c15 := fun w' (h : Items w' w'.heap.size X Y) => zpos_any X cx Y w' h (by omega)
      have c16 := fun w' (h : Items w' w'.heap.size X Y) => positive_any X cx Y w' h (by omega)
      simp only [hn, hf] at c7 c8
      simp only [HRY.out] at c9
      rw [fit_weight HSetY.out HFY.out] at c11
      simp only [hg] at c10 c11
      simp only [hd] at c15 c16
      have C7 := Lib.hid c7
      have C8 := Lib.hid c8
      have C9 := Lib.hid c9
      have C10 := Lib.hid c10
      have C11 := Lib.hid c11
      have C12 := Lib.hid c12
      have C13 := Lib.hid c13
      have C15 := Lib.hid c15
      have C16 := Lib.hid c16
      obtain ⟨D, hD⟩ : ∃ D, distI Y = D := ⟨_, rfl⟩
      rw [hD] at C12 C13 HDL HDS
      clear c7 c8 c9 c10 c11 c12 c13 c15 c16 hn hf hg hd hD
      have M6 := Lib.hid (Below.refl w6.heap.size w6)
      have HIX := Lib.hid (fun (w' : World) (h : Below w6.heap.size w6 w') => (I6.out.below h).more h.size)
      have HVR := Lib.hid (fun (w' : World) (h : Below w.heap.size w w') => (HX2.out.1.below h).more h.size)
      go_wp2_with fail
      refine (C7.out w6 (HIX.out w6 M6.out)).mono ?_
      rintro e w7 ⟨rfl, hb⟩
      have L7 := Lib.hid (bnext L6.out L6.out.size hb)
      have M7 := Lib.hid (bnext M6.out M6.out.size hb)
      clear hb
      go_wp2_with fail
      refine (C8.out w7 (HIX.out w7 M7.out)).mono ?_
      rintro e w8 ⟨rfl, hb⟩
      have L8 := Lib.hid (bnext L7.out L7.out.size hb)
      have M8 := Lib.hid (bnext M7.out M7.out.size hb)
      clear hb
      go_wp2_with fail
      refine (zAlive w8).mono ?_
      rintro e w9 ⟨rfl, hb⟩
      have L9 := Lib.hid (bnext L8.out L8.out.size hb)
      have M9 := Lib.hid (bnext M8.out M8.out.size hb)
      clear hb
      go_wp2_with fail
      refine (C9.out w9 (HIX.out w9 M9.out)).mono ?_
      rintro e w10 ⟨rfl, hb⟩
      have L10 := Lib.hid (bnext L9.out L9.out.size hb)
      have M10 := Lib.hid (bnext M9.out M9.out.size hb)
      clear hb
      go_wp2_with fail
      refine (C10.out w10 (HIX.out w10 M10.out) (HVR.out w10 L10.out)).mono ?_
      rintro e w11 ⟨rfl, hb⟩
      have L11 := Lib.hid (bnext L10.out L10.out.size hb)
      have M11 := Lib.hid (bnext M10.out M10.out.size hb)
      clear hb
      go_wp2_with fail
      refine (C11.out w11 (HIX.out w11 M11.out) (HVR.out w11 L11.out)).mono ?_
      rintro e w12 ⟨rfl, hb⟩
      have L12 := Lib.hid (bnext L11.out L11.out.size hb)
      have M12 := Lib.hid (bnext M11.out M11.out.size hb)
      clear hb
      go_wp2_with fail
      refine (C12.out w12 (HIX.out w12 M12.out)).mono ?_
      rintro e w13 ⟨Z, cz, N, rfl, hi, hpl, hb⟩
      have L13 := Lib.hid (bnext L12.out L12.out.size hb)
      have M13 := Lib.hid (bnext M12.out M12.out.size hb)
      have I13 := Lib.hid hi
      have HPL := Lib.hid hpl
      clear hb hi hpl
      go_wp2_with fail
      refine (C13.out w13 (HIX.out w13 M13.out)).mono ?_
      rintro e w14 ⟨V, cv, rfl, hi, hb⟩
      have L14 := Lib.hid (bnext L13.out L13.out.size hb)
      have M14 := Lib.hid (bnext M13.out M13.out.size hb)
      have I14 := Lib.hid hi
      have I13' := Lib.hid (I13.out.next hb)
      have C14 := Lib.hid (isame_true Z V cz cv N D w14 HPL.out I13'.out I14.out (by rw [pl_short HPL.out]; have := HDL.out; omega) (by have := HDL.out; omega) (pl_rows (P := fun r _ => r.length ≤ 140737488355328) HPL.out HDS.out) HDS.out)
      clear hb hi
      go_wp2_with fail
      refine (C14.out).mono ?_
      rintro e w15 ⟨rfl, hb⟩
      have L15 := Lib.hid (bnext L14.out L14.out.size hb)
      have M15 := Lib.hid (bnext M14.out M14.out.size hb)
      clear hb
      go_wp2_with fail
      refine (C15.out w15 (HIX.out w15 M15.out)).mono ?_
      rintro e w16 ⟨rfl, hb⟩
      have L16 := Lib.hid (bnext L15.out L15.out.size hb)
      have M16 := Lib.hid (bnext M15.out M15.out.size hb)
      clear hb
      go_wp2_with fail
      refine (C16.out w16 (HIX.out w16 M16.out)).mono ?_
      rintro e w17 ⟨rfl, rfl⟩
      clear C7 C8 C9 C10 C11 C12 C13 C14 C15 C16
      go_wp2
      go_ret
      exact ⟨rfl, L16.out⟩
    all_goals
      go_wp2_with fail
      refine (zAlive w6).mono ?_
      rintro e w7 ⟨rfl, hb⟩
      have L7 := Lib.hid (bnext L6.out L6.out.size hb)
      clear hb
      go_wp2
      go_ret
      exact ⟨rfl, L7.out⟩
  all_goals
    go_wp2_with fail
    refine (zAlive _).mono ?_
    rintro e w1 ⟨rfl, hb1⟩
    have L1 := Lib.hid hb1
    clear hb1
    go_wp2
    go_ret
    exact ⟨rfl, L1.out⟩
end Go.Proofs.Ytlejhimcaidbeaa.zsetTells
