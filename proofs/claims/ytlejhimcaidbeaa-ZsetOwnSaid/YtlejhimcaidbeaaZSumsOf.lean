/-
  The walk through ZsetSums, from the contracts of the program's functions, given here as premises of a lemma.
-/
import Derived.Test.YtlejhimcaidbeaaItemsAll
namespace Go.Proofs.Ytlejhimcaidbeaa.Items
open Go.ChangeShapes Go.WideShapes Go.ChangeAt Go.RowKit Val Go.Proofs.Ytlejhimcaidbeaa.Code Go.Proofs.Ytlejhimcaidbeaa.Elems Go.Proofs.Ytlejhimcaidbeaa.ZP Go.Proofs.Ytlejhimcaidbeaa.Bits
set_option linter.unusedVariables false

def ZOf : Prop := ∀ (A : Option Addr) (cap : Nat) (L : List It) (w : World), Items w w.heap.size A L → FitI L → (∀ x ∈ L, x.2.2.1.length ≤ 140737488355328) → L.length ≤ 1000 → Calls Try.prog 9 #[.slice A L.length cap] w (SetPost w (pl (ofL L)) (ofE L))
def ZAdd : Prop := ∀ (G : Option Addr) (cap : Nat) (LS : List (Option Addr × Nat × List It)) (w : World), SetsAt w w.heap.size G LS → FitI (catS LS) → (∀ x ∈ catS LS, x.2.2.1.length ≤ 140737488355328) → LS.length ≤ 1000 → (catS LS).length ≤ 1000 → Calls Try.prog 11 #[.slice G LS.length cap] w (SetPost w (pl (ofL (catS LS))) (ofE (catS LS)))
def ZNeg : Prop := ∀ (A : Option Addr) (cap : Nat) (L : List It) (w : World), Items w w.heap.size A L → FitI L → (∀ x ∈ L, x.2.2.1.length ≤ 140737488355328) → L.length ≤ 1000 → rightI L = true → Calls Try.prog 13 #[.slice A L.length cap] w (SetPost w (pl (negI L)) (negIE L))
def ZAlive : Prop := ∀ w : World, Calls Try.prog 8 #[] w fun e w' => e = .returned (.bool true) ∧ Below w.heap.size w w'
set_option maxHeartbeats 8000000 in
set_option maxRecDepth 100000 in
theorem walk_of (ZO : ZOf) (ZA : ZAdd) (ZN : ZNeg) (ZL : ZAlive) (A B : Option Addr) (ca cb : Nat) (a b : List It) (w : World) (hA : Items w w.heap.size A a) (hB : Items w w.heap.size B b) (fa : FitI a) (fb : FitI b) (la : LongI a) (lb : LongI b) (na : a.length ≤ 4398046511104) (nb : b.length ≤ 4398046511104) :
    Calls Try.prog 3 #[.slice A a.length ca, .slice B b.length cb] w fun e w' => e = .returned (.bool true) ∧ Below w.heap.size w w' := by
  have HA := Lib.hid hA
  have HB := Lib.hid hB
  obtain ⟨p, hp⟩ : ∃ p, smallI a = p := ⟨_, rfl⟩
  obtain ⟨q, hq⟩ : ∃ q, smallI b = q := ⟨_, rfl⟩
  have c1 := smallI_any A ca a w hA la (by omega)
  have c2 := smallI_any B cb b w hB lb (by omega)
  rw [hp] at c1
  rw [hq] at c2
  have C1 := Lib.hid c1
  have C2 := Lib.hid c2
  have HZL := Lib.hid ZL
  have HZO := Lib.hid ZO
  have HZA := Lib.hid ZA
  have HZN := Lib.hid ZN
  have sa : ∀ x ∈ a, x.2.2.1.length ≤ 140737488355328 := fun x hx => by have := (la x hx).1; omega
  have sb : ∀ x ∈ b, x.2.2.1.length ≤ 140737488355328 := fun x hx => by have := (lb x hx).1; omega
  have HP := Lib.hid (fun h : p = true => smallI_le (hp.trans h))
  have HQ := Lib.hid (fun h : q = true => smallI_le (hq.trans h))
  have SA := Lib.hid sa
  have SB := Lib.hid sb
  have FA := Lib.hid fa
  have FB := Lib.hid fb
  clear hA hB c1 c2 ZO ZA ZN ZL sa sb fa fb hp hq la lb
  go_enter Try.func3, Try.ntmps3
  go_wp2_with fail
  refine C1.out.mono ?_
  rintro e w' ⟨rfl, rfl⟩
  go_wp2_with fail
  refine C2.out.mono ?_
  rintro e w' ⟨rfl, rfl⟩
  clear C1 C2
  rcases Bool.eq_false_or_eq_true p with h1 | h1 <;> rcases Bool.eq_false_or_eq_true q with h2 | h2 <;> subst h1 h2
  case inl.inl =>
    have hla := HP.out rfl
    have hlb := HQ.out rfl
    have HLY := Lib.hid (ofL_length a)
    have HFY := Lib.hid (show FitI (ofL a) from fun x hx => ⟨ofL_rows (P := fun r => FitL r) (fun y hy => (FA.out y hy).1) x hx, ofL_weights a x hx⟩)
    have HSY := Lib.hid (ofL_rows (P := fun r => r.length ≤ 140737488355328) SA.out)
    have HRY := Lib.hid (ofL_right a)
    have HLZ := Lib.hid (ofL_length (a ++ b))
    have HSZ := Lib.hid (ofL_rows (L := a ++ b) (P := fun r => r.length ≤ 140737488355328) (fun x hx => by rcases List.mem_append.1 hx with h | h; exact SA.out x h; exact SB.out x h))
    have HFAB := Lib.hid (show FitI (a ++ b) from fun x hx => by rcases List.mem_append.1 hx with h | h; exact FA.out x h; exact FB.out x h)
    have HSAB := Lib.hid (show ∀ x ∈ a ++ b, x.2.2.1.length ≤ 140737488355328 from fun x hx => by rcases List.mem_append.1 hx with h | h; exact SA.out x h; exact SB.out x h)
    have HLAB := Lib.hid (show (a ++ b).length ≤ 1000 by rw [List.length_append]; omega)
    have c1 := HZO.out A ca a w HA.out FA.out SA.out (by omega)
    have c2 := fun w' (h : Items w' w'.heap.size A a) => iof_any A ca a w' h FA.out (by omega) SA.out
    have c3 := fun G cg w' h => HZA.out G cg [(A, ca, a), (B, cb, b)] w' h (by rw [catS_two]; exact HFAB.out) (by rw [catS_two]; exact HSAB.out) (by simp) (by rw [catS_two]; exact HLAB.out)
    have c4 := fun w' (h : Items w' w'.heap.size A a) (g : Items w' w'.heap.size B b) => iadd_any A B ca cb a b w' h g FA.out FB.out (by omega) SA.out SB.out
    rw [catS_two] at c3
    obtain ⟨Y, hY⟩ : ∃ Y, ofL a = Y := ⟨_, rfl⟩
    obtain ⟨E1, hE1⟩ : ∃ E, ofE a = E := ⟨_, rfl⟩
    obtain ⟨Z, hZ⟩ : ∃ Z, ofL (a ++ b) = Z := ⟨_, rfl⟩
    obtain ⟨E2, hE2⟩ : ∃ E, ofE (a ++ b) = E := ⟨_, rfl⟩
    rw [hY, hE1] at c1
    simp only [hY, hE1] at c2
    simp only [hZ, hE2] at c3 c4
    rw [hY] at HLY HFY HSY HRY
    rw [hZ] at HLZ HSZ
    have HLZ2 := Lib.hid (Nat.le_trans HLZ.out HLAB.out)
    have HLY2 := Lib.hid (Nat.le_trans HLY.out hla)
    have C1 := Lib.hid c1
    have C2 := Lib.hid c2
    have C3 := Lib.hid c3
    have C4 := Lib.hid c4
    clear hY hE1 hZ hE2 c1 c2 c3 c4 HLY HLZ HZO HZA HLAB HFAB HSAB
    go_wp2_with fail
    refine C1.out.mono ?_
    rintro e w1 ⟨X1, cx1, M1, rfl, hi1, hp1, hb1⟩
    have L1 := Lib.hid hb1
    have I1 := Lib.hid hi1
    have P1 := Lib.hid hp1
    have N1 := Lib.hid (pl_short hp1)
    have A1 := Lib.hid (HA.out.next hb1)
    have B1 := Lib.hid (HB.out.next hb1)
    clear hb1 hi1 hp1 C1 HA HB
    go_wp2_with fail
    refine (C2.out w1 A1.out).mono ?_
    rintro e w2 ⟨X2, cx2, rfl, hi2, hb2⟩
    have L2 := Lib.hid (bnext L1.out L1.out.size hb2)
    have I2 := Lib.hid hi2
    have I1' := Lib.hid (I1.out.next hb2)
    have A2 := Lib.hid (A1.out.next hb2)
    have B2 := Lib.hid (B1.out.next hb2)
    clear hb2 hi2 C2 A1 B1 I1 L1
    go_wp2_with fail
    have hbz := below_alloc w2 (.cells #[.slice A a.length ca, .slice B b.length cb] 25)
    have C3' := Lib.hid (C3.out _ 2 _ (setsAt_two w2 A B ca cb a b 25 A2.out B2.out))
    refine C3'.out.mono ?_
    rintro e w3 ⟨X3, cx3, M3, rfl, hi3, hp3, hb3⟩
    have hb23 := hbz.trans (hb3.mono hbz.size)
    have L3 := Lib.hid (bnext L2.out L2.out.size hb23)
    have I3 := Lib.hid hi3
    have P3 := Lib.hid hp3
    have N3 := Lib.hid (pl_short hp3)
    have I1 := Lib.hid (I1'.out.next hb23)
    have I2' := Lib.hid (I2.out.next hb23)
    have A3 := Lib.hid (A2.out.next hb23)
    have B3 := Lib.hid (B2.out.next hb23)
    clear hb3 hb23 hbz hi3 hp3 C3 C3' A2 B2 I2 I1' L2
    go_wp2_with fail
    refine (C4.out w3 A3.out B3.out).mono ?_
    rintro e w4 ⟨X4, cx4, rfl, hi4, hb4⟩
    have L4 := Lib.hid (bnext L3.out L3.out.size hb4)
    have I4 := Lib.hid hi4
    have I3' := Lib.hid (I3.out.next hb4)
    have I1' := Lib.hid (I1.out.next hb4)
    have I2 := Lib.hid (I2'.out.next hb4)
    clear hb4 hi4 C4 A3 B3 I3 I1 I2' L3
    have F1 := Lib.hid (show FitI M1 from pl_rows (P := fun r n => FitL r ∧ fits n) P1.out HFY.out)
    have S1 := Lib.hid (pl_rows (P := fun r _ => r.length ≤ 140737488355328) P1.out HSY.out)
    have c5 := HZN.out X1 cx1 M1 w4 I1'.out F1.out S1.out (by rw [N1.out]; have := HLY2.out; omega) (right_pl P1.out HRY.out)
    have c6 := fun w' (h : Items w' w'.heap.size X2 Y) => ineg_any X2 cx2 Y w' h HFY.out (by have := HLY2.out; omega)
    rw [(negI_pl P1.out).1, (negI_pl P1.out).2] at c5
    have HSN := Lib.hid (show ∀ x ∈ negI Y, x.2.2.1.length ≤ 140737488355328 by
      intro x hx
      unfold negI at hx
      split at hx
      · obtain ⟨y, hy, rfl⟩ := List.mem_map.1 hx
        exact HSY.out y hy
      · cases hx)
    have HLN := Lib.hid (show (negI Y).length ≤ 1000 by
      have := HLY2.out
      unfold negI
      split
      · rw [mapN_length]; omega
      · simp)
    obtain ⟨V, hV⟩ : ∃ V, negI Y = V := ⟨_, rfl⟩
    obtain ⟨E3, hE3⟩ : ∃ E, negIE Y = E := ⟨_, rfl⟩
    rw [hV, hE3] at c5
    simp only [hV, hE3] at c6
    rw [hV] at HSN HLN
    have C5 := Lib.hid c5
    have C6 := Lib.hid c6
    clear c5 c6 hV hE3 HZN HRY F1 HFY
    go_wp2_with fail
    refine C5.out.mono ?_
    rintro e w5 ⟨X5, cx5, M5, rfl, hi5, hp5, hb5⟩
    have L5 := Lib.hid (bnext L4.out L4.out.size hb5)
    have I5 := Lib.hid hi5
    have P5 := Lib.hid hp5
    have N5 := Lib.hid (pl_short hp5)
    have I1 := Lib.hid (I1'.out.next hb5)
    have I2' := Lib.hid (I2.out.next hb5)
    have I3 := Lib.hid (I3'.out.next hb5)
    have I4' := Lib.hid (I4.out.next hb5)
    clear hb5 hi5 hp5 C5 I1' I2 I3' I4 L4
    go_wp2_with fail
    refine (C6.out w5 I2'.out).mono ?_
    rintro e w6 ⟨X6, cx6, rfl, hi6, hb6⟩
    have L6 := Lib.hid (bnext L5.out L5.out.size hb6)
    have I6 := Lib.hid hi6
    have I1' := Lib.hid (I1.out.next hb6)
    have I2 := Lib.hid (I2'.out.next hb6)
    have I3' := Lib.hid (I3.out.next hb6)
    have I4 := Lib.hid (I4'.out.next hb6)
    have I5' := Lib.hid (I5.out.next hb6)
    clear hb6 hi6 C6 I1 I2' I3 I4' I5 L5
    go_wp2_with fail
    refine (HZL.out w6).mono ?_
    rintro e w7 ⟨rfl, hb7⟩
    have L7 := Lib.hid (bnext L6.out L6.out.size hb7)
    have I6' := Lib.hid (I6.out.next hb7)
    have I1 := Lib.hid (I1'.out.next hb7)
    have I2' := Lib.hid (I2.out.next hb7)
    have I3 := Lib.hid (I3'.out.next hb7)
    have I4' := Lib.hid (I4.out.next hb7)
    have I5 := Lib.hid (I5'.out.next hb7)
    clear hb7 HZL I6 I1' I2 I3' I4 I5' L6
    have S3 := Lib.hid (pl_rows (P := fun r _ => r.length ≤ 140737488355328) P3.out HSZ.out)
    have S5 := Lib.hid (pl_rows (P := fun r _ => r.length ≤ 140737488355328) P5.out HSN.out)
    have D1 := Lib.hid (isame_true X1 X2 cx1 cx2 M1 Y w7 P1.out I1.out I2'.out (by rw [N1.out]; have := HLY2.out; omega) (by have := HLY2.out; omega) S1.out HSY.out)
    have D2 := Lib.hid (fun w' h g => isame_true X3 X4 cx3 cx4 M3 Z w' P3.out h g (by rw [N3.out]; have := HLZ2.out; omega) (by have := HLZ2.out; omega) S3.out HSZ.out)
    have D3 := Lib.hid (fun w' h g => isame_true X5 X6 cx5 cx6 M5 V w' P5.out h g (by rw [N5.out]; have := HLN.out; omega) (by have := HLN.out; omega) S5.out HSN.out)
    go_wp2_with fail
    refine D1.out.mono ?_
    rintro e w8 ⟨rfl, hb8⟩
    have L8 := Lib.hid (bnext L7.out L7.out.size hb8)
    have I3' := Lib.hid (I3.out.next hb8)
    have I4 := Lib.hid (I4'.out.next hb8)
    have I5' := Lib.hid (I5.out.next hb8)
    have I6 := Lib.hid (I6'.out.next hb8)
    clear hb8 D1 I1 I2' I3 I4' I5 I6' L7
    go_wp2_with fail
    refine (D2.out w8 I3'.out I4.out).mono ?_
    rintro e w9 ⟨rfl, hb9⟩
    have L9 := Lib.hid (bnext L8.out L8.out.size hb9)
    have I5 := Lib.hid (I5'.out.next hb9)
    have I6' := Lib.hid (I6.out.next hb9)
    clear hb9 D2 I3' I4 I5' I6 L8
    go_wp2_with fail
    refine (D3.out w9 I5.out I6'.out).mono ?_
    rintro e w10 ⟨rfl, hb10⟩
    have L10 := Lib.hid (bnext L9.out L9.out.size hb10)
    clear hb10 D3 I5 I6' L9
    go_wp2
    go_ret
    exact ⟨rfl, L10.out⟩
  all_goals
    go_wp2_with fail
    refine (HZL.out _).mono ?_
    rintro e w1 ⟨rfl, hb1⟩
    have L1 := Lib.hid hb1
    clear hb1
    go_wp2
    go_ret
    exact ⟨rfl, L1.out⟩
end Go.Proofs.Ytlejhimcaidbeaa.Items
