/-
  The walk through ZsetGroup.
-/
import Derived.Test.YtlejhimcaidbeaaZAliveIs
import Derived.Test.YtlejhimcaidbeaaZSame
import Derived.Test.YtlejhimcaidbeaaZGet
import Derived.Test.YtlejhimcaidbeaaZGroupPure
namespace Go.Proofs.Ytlejhimcaidbeaa.zsetGroup
open Go.ChangeShapes Go.WideShapes Go.ChangeAt Go.RowKit Val Go.Proofs.Ytlejhimcaidbeaa.Code Go.Proofs.Ytlejhimcaidbeaa.Elems Go.Proofs.Ytlejhimcaidbeaa.ZP Go.Proofs.Ytlejhimcaidbeaa.Bits Go.Proofs.Ytlejhimcaidbeaa.Items
set_option linter.unusedVariables false
set_option maxRecDepth 100000

set_option maxHeartbeats 32000000 in
theorem walk (A : Option Addr) (ca : Nat) (a : List It) (B : Option Addr) (cb : Nat) (b : List It) (O : Option Addr) (co : Nat) (o : List It) (w : World) (x0 : Items w w.heap.size A a ∧ FitI a ∧ LongI a ∧ a.length ≤ 4398046511104) (x1 : Items w w.heap.size B b ∧ FitI b ∧ LongI b ∧ b.length ≤ 4398046511104) (x2 : Items w w.heap.size O o ∧ FitI o ∧ LongI o ∧ o.length ≤ 4398046511104) :
    Calls Try.prog 5 #[.slice A a.length ca, .slice B b.length cb, .slice O o.length co] w fun e w' => e = .returned (.bool true) ∧ Below w.heap.size w w' := by
  obtain ⟨hA, fa, la, na⟩ := x0
  obtain ⟨hB, fb, lb, nb⟩ := x1
  obtain ⟨hO, fo, lo, no⟩ := x2
  have HA := Lib.hid hA
  have FA := Lib.hid fa
  have SA := Lib.hid (show ∀ x ∈ a, x.2.2.1.length ≤ 140737488355328 from fun x hx => by have := (la x hx).1; omega)
  obtain ⟨pa, hpa⟩ : ∃ p, smallI a = p := ⟨_, rfl⟩
  have ca1 := smallI_any A ca a w hA la (by omega)
  rw [hpa] at ca1
  have CA := Lib.hid ca1
  have PA := Lib.hid (fun h : pa = true => smallI_le (hpa.trans h))
  have HB := Lib.hid hB
  have FB := Lib.hid fb
  have SB := Lib.hid (show ∀ x ∈ b, x.2.2.1.length ≤ 140737488355328 from fun x hx => by have := (lb x hx).1; omega)
  obtain ⟨pb, hpb⟩ : ∃ p, smallI b = p := ⟨_, rfl⟩
  have cb1 := smallI_any B cb b w hB lb (by omega)
  rw [hpb] at cb1
  have CB := Lib.hid cb1
  have PB := Lib.hid (fun h : pb = true => smallI_le (hpb.trans h))
  have HO := Lib.hid hO
  have FO := Lib.hid fo
  have SO := Lib.hid (show ∀ x ∈ o, x.2.2.1.length ≤ 140737488355328 from fun x hx => by have := (lo x hx).1; omega)
  obtain ⟨po, hpo⟩ : ∃ p, smallI o = p := ⟨_, rfl⟩
  have co1 := smallI_any O co o w hO lo (by omega)
  rw [hpo] at co1
  have CO := Lib.hid co1
  have PO := Lib.hid (fun h : po = true => smallI_le (hpo.trans h))
  clear hA hB hO ca1 cb1 co1 fa fb fo la lb lo hpa hpb hpo
  go_enter Try.func5, Try.ntmps5
  go_wp2_with fail
  refine CA.out.mono ?_
  rintro e w' ⟨rfl, rfl⟩
  go_wp2_with fail
  refine CB.out.mono ?_
  rintro e w' ⟨rfl, rfl⟩
  go_wp2_with fail
  refine CO.out.mono ?_
  rintro e w' ⟨rfl, rfl⟩
  clear CA CB CO
  rcases Bool.eq_false_or_eq_true pa with h1 | h1 <;> rcases Bool.eq_false_or_eq_true pb with h2 | h2 <;> rcases Bool.eq_false_or_eq_true po with h3 | h3 <;> subst h1 h2 h3
  case inl.inl.inl =>
    have hla := PA.out rfl
    have hlb := PB.out rfl
    have hlo := PO.out rfl
    clear PA PB PO na nb no
    go_wp2
    go_loop [10] (fun i => ∃ k : Nat, k ≤ a.length + b.length + o.length ∧ i = .int .i64 k ∧ Hid (Until k a) ∧ Hid (Until k b) ∧ Hid (Until k o)) (fun i => a.length + b.length + o.length - (intOf i).toNat)
    case atStart => exact ⟨0, by omega, rfl, Lib.hid (Until.zero a), Lib.hid (Until.zero b), Lib.hid (Until.zero o)⟩
    case round =>
      obtain ⟨k, hk, rfl, UA, UB, UO⟩ := hrel
      by_cases hlt : k < a.length + b.length + o.length
      · have hcap : a.length + b.length + o.length ≤ 90 := by omega
        rcases weight_case HA.out k with ga | ⟨da, na, rfl, ga, ka, qa | ⟨qa, qa2⟩ | ⟨qa, qa2, qa3⟩⟩
        · have NA := Lib.hid (UA.out.out ga)
          rcases weight_case HB.out k with gb | ⟨db, nb, rfl, gb, kb, qb | ⟨qb, qb2⟩ | ⟨qb, qb2, qb3⟩⟩
          · have NB := Lib.hid (UB.out.out gb)
            rcases weight_case HO.out k with go | ⟨dd, nn, rfl, go, ko, qo | ⟨qo, qo2⟩ | ⟨qo, qo2, qo3⟩⟩
            · have NO := Lib.hid (UO.out.out go)
              go_wp2
              go_round
              case rel => exact ⟨k + 1, by omega, by go_num, NA, NB, NO⟩
              case measure => simp [intOf]; omega
            · go_wp2_with fail
              refine (zAlive _).mono ?_
              rintro e w1 ⟨rfl, hb1⟩
              have L1 := Lib.hid hb1
              clear hb1
              go_wp2
              go_ret
              exact ⟨rfl, L1.out⟩
            · go_wp2_with fail
              refine (zAlive _).mono ?_
              rintro e w1 ⟨rfl, hb1⟩
              have L1 := Lib.hid hb1
              clear hb1
              go_wp2
              go_ret
              exact ⟨rfl, L1.out⟩
            · have NO := Lib.hid (UO.out.more qo3)
              clear qo3
              go_wp2
              go_round
              case rel => exact ⟨k + 1, by omega, by go_num, NA, NB, NO⟩
              case measure => simp [intOf]; omega
          · go_wp2_with fail
            refine (zAlive _).mono ?_
            rintro e w1 ⟨rfl, hb1⟩
            have L1 := Lib.hid hb1
            clear hb1
            go_wp2
            go_ret
            exact ⟨rfl, L1.out⟩
          · go_wp2_with fail
            refine (zAlive _).mono ?_
            rintro e w1 ⟨rfl, hb1⟩
            have L1 := Lib.hid hb1
            clear hb1
            go_wp2
            go_ret
            exact ⟨rfl, L1.out⟩
          · have NB := Lib.hid (UB.out.more qb3)
            clear qb3
            rcases weight_case HO.out k with go | ⟨dd, nn, rfl, go, ko, qo | ⟨qo, qo2⟩ | ⟨qo, qo2, qo3⟩⟩
            · have NO := Lib.hid (UO.out.out go)
              go_wp2
              go_round
              case rel => exact ⟨k + 1, by omega, by go_num, NA, NB, NO⟩
              case measure => simp [intOf]; omega
            · go_wp2_with fail
              refine (zAlive _).mono ?_
              rintro e w1 ⟨rfl, hb1⟩
              have L1 := Lib.hid hb1
              clear hb1
              go_wp2
              go_ret
              exact ⟨rfl, L1.out⟩
            · go_wp2_with fail
              refine (zAlive _).mono ?_
              rintro e w1 ⟨rfl, hb1⟩
              have L1 := Lib.hid hb1
              clear hb1
              go_wp2
              go_ret
              exact ⟨rfl, L1.out⟩
            · have NO := Lib.hid (UO.out.more qo3)
              clear qo3
              go_wp2
              go_round
              case rel => exact ⟨k + 1, by omega, by go_num, NA, NB, NO⟩
              case measure => simp [intOf]; omega
        · go_wp2_with fail
          refine (zAlive _).mono ?_
          rintro e w1 ⟨rfl, hb1⟩
          have L1 := Lib.hid hb1
          clear hb1
          go_wp2
          go_ret
          exact ⟨rfl, L1.out⟩
        · go_wp2_with fail
          refine (zAlive _).mono ?_
          rintro e w1 ⟨rfl, hb1⟩
          have L1 := Lib.hid hb1
          clear hb1
          go_wp2
          go_ret
          exact ⟨rfl, L1.out⟩
        · have NA := Lib.hid (UA.out.more qa3)
          clear qa3
          rcases weight_case HB.out k with gb | ⟨db, nb, rfl, gb, kb, qb | ⟨qb, qb2⟩ | ⟨qb, qb2, qb3⟩⟩
          · have NB := Lib.hid (UB.out.out gb)
            rcases weight_case HO.out k with go | ⟨dd, nn, rfl, go, ko, qo | ⟨qo, qo2⟩ | ⟨qo, qo2, qo3⟩⟩
            · have NO := Lib.hid (UO.out.out go)
              go_wp2
              go_round
              case rel => exact ⟨k + 1, by omega, by go_num, NA, NB, NO⟩
              case measure => simp [intOf]; omega
            · go_wp2_with fail
              refine (zAlive _).mono ?_
              rintro e w1 ⟨rfl, hb1⟩
              have L1 := Lib.hid hb1
              clear hb1
              go_wp2
              go_ret
              exact ⟨rfl, L1.out⟩
            · go_wp2_with fail
              refine (zAlive _).mono ?_
              rintro e w1 ⟨rfl, hb1⟩
              have L1 := Lib.hid hb1
              clear hb1
              go_wp2
              go_ret
              exact ⟨rfl, L1.out⟩
            · have NO := Lib.hid (UO.out.more qo3)
              clear qo3
              go_wp2
              go_round
              case rel => exact ⟨k + 1, by omega, by go_num, NA, NB, NO⟩
              case measure => simp [intOf]; omega
          · go_wp2_with fail
            refine (zAlive _).mono ?_
            rintro e w1 ⟨rfl, hb1⟩
            have L1 := Lib.hid hb1
            clear hb1
            go_wp2
            go_ret
            exact ⟨rfl, L1.out⟩
          · go_wp2_with fail
            refine (zAlive _).mono ?_
            rintro e w1 ⟨rfl, hb1⟩
            have L1 := Lib.hid hb1
            clear hb1
            go_wp2
            go_ret
            exact ⟨rfl, L1.out⟩
          · have NB := Lib.hid (UB.out.more qb3)
            clear qb3
            rcases weight_case HO.out k with go | ⟨dd, nn, rfl, go, ko, qo | ⟨qo, qo2⟩ | ⟨qo, qo2, qo3⟩⟩
            · have NO := Lib.hid (UO.out.out go)
              go_wp2
              go_round
              case rel => exact ⟨k + 1, by omega, by go_num, NA, NB, NO⟩
              case measure => simp [intOf]; omega
            · go_wp2_with fail
              refine (zAlive _).mono ?_
              rintro e w1 ⟨rfl, hb1⟩
              have L1 := Lib.hid hb1
              clear hb1
              go_wp2
              go_ret
              exact ⟨rfl, L1.out⟩
            · go_wp2_with fail
              refine (zAlive _).mono ?_
              rintro e w1 ⟨rfl, hb1⟩
              have L1 := Lib.hid hb1
              clear hb1
              go_wp2
              go_ret
              exact ⟨rfl, L1.out⟩
            · have NO := Lib.hid (UO.out.more qo3)
              clear qo3
              go_wp2
              go_round
              case rel => exact ⟨k + 1, by omega, by go_num, NA, NB, NO⟩
              case measure => simp [intOf]; omega
      · obtain rfl : k = a.length + b.length + o.length := by omega
        have WA := Lib.hid (UA.out.all (by omega))
        have WB := Lib.hid (UB.out.all (by omega))
        have WO := Lib.hid (UO.out.all (by omega))
        clear UA UB UO
        have hoa := of_small A ca a w 1099511627776 32985348833280 HA.out FA.out SA.out (by omega) WA.out (by omega) (by omega) (by omega)
        have hob := fun w' (h : Items w' w'.heap.size B b) => of_small B cb b w' 1099511627776 32985348833280 h FB.out SB.out (by omega) WB.out (by omega) (by omega) (by omega)
        have hoo := fun w' (h : Items w' w'.heap.size O o) => of_small O co o w' 1099511627776 32985348833280 h FO.out SO.out (by omega) WO.out (by omega) (by omega) (by omega)
        have OA := Lib.hid hoa
        have OB := Lib.hid hob
        have OO := Lib.hid hoo
        clear hoa hob hoo FA FB FO SA SB SO WA WB WO
        go_wp2_with fail
        refine OA.out.mono ?_
        rintro e w1 ⟨X1, c1, M1, E1, rfl, hi, hb, hE1⟩
        have L1 := Lib.hid hb
        have I1 := Lib.hid hi
        have hm1 := Lib.hid hE1
        clear hi hb OA
        have B1 := Lib.hid ((HB.out.below L1.out).more L1.out.size)
        have O1 := Lib.hid ((HO.out.below L1.out).more L1.out.size)
        go_wp2_with fail
        refine (OB.out w1 B1.out).mono ?_
        rintro e w2 ⟨X2, c2, M2, E2, rfl, hi, hb, hE2⟩
        have L2 := Lib.hid (bnext L1.out L1.out.size hb)
        have I2 := Lib.hid hi
        have J1 := Lib.hid (I1.out.next hb)
        have O2 := Lib.hid (O1.out.next hb)
        clear hi hb OB B1 O1 I1
        go_wp2_with fail
        refine (OO.out w2 O2.out).mono ?_
        rintro e w3 ⟨X3, c3, M3, E3, rfl, hi, hb, hE3⟩
        have L3 := Lib.hid (bnext L2.out L2.out.size hb)
        have I3 := Lib.hid hi
        have J2 := Lib.hid (I2.out.next hb)
        have I1 := Lib.hid (J1.out.next hb)
        clear hi hb OO O2 I2 J1 L1 L2 HA HB HO hm1
        have hE := Lib.hid (And.intro hE1 (And.intro hE2 hE3))
        have hc1 : E1 = 0 ∨ E1 = 11 ∨ E1 = 51 := hE1.imp And.left id
        have hc2 : E2 = 0 ∨ E2 = 11 ∨ E2 = 51 := hE2.imp And.left id
        have hc3 : E3 = 0 ∨ E3 = 11 ∨ E3 = 51 := hE3.imp And.left id
        clear hE1 hE2 hE3
        rcases hc1 with rfl | rfl | rfl
        · rcases hc2 with rfl | rfl | rfl
          · rcases hc3 with rfl | rfl | rfl
            · have S1 := Lib.hid (show SumIs M1 a 32985348833280 by rcases hE.out.1 with h | h | h <;> first | exact h.2 | cases h)
              have S2 := Lib.hid (show SumIs M2 b 32985348833280 by rcases hE.out.2.1 with h | h | h <;> first | exact h.2 | cases h)
              have S3 := Lib.hid (show SumIs M3 o 32985348833280 by rcases hE.out.2.2 with h | h | h <;> first | exact h.2 | cases h)
              clear hE
              have l1 : M1.length ≤ 30 := Nat.le_trans S1.out.len hla
              have l2 : M2.length ≤ 30 := Nat.le_trans S2.out.len hlb
              have l3 : M3.length ≤ 30 := Nat.le_trans S3.out.len hlo
              clear hla hlb hlo
              have c4 := Lib.hid (add_three X1 X2 X3 c1 c2 c3 M1 M2 M3 w3 32985348833280 2968681394995200 I1.out J2.out I3.out S1.out.fit S2.out.fit S3.out.fit S1.out.rows S2.out.rows S3.out.rows S1.out.small S2.out.small S3.out.small (by omega) (by omega) (by omega) (by omega))
              go_wp2_with fail
              refine c4.out.mono ?_
              rintro e w4 ⟨X4, c4', M4, rfl, hi, hs4, hb⟩
              have L4 := Lib.hid (bnext L3.out L3.out.size hb)
              have I4 := Lib.hid hi
              have S4 := Lib.hid hs4
              have l4 : M4.length ≤ 90 := by have := hs4.len; rw [List.length_append, List.length_append] at this; omega
              have J1 := Lib.hid (I1.out.next hb)
              have I2 := Lib.hid (J2.out.next hb)
              have J3 := Lib.hid (I3.out.next hb)
              clear hi hb hs4 c4 I1 J2 I3 L3
              have c5 := Lib.hid (add_two X3 X1 c3 c1 M3 M1 w4 32985348833280 1979120929996800 J3.out J1.out S3.out.fit S1.out.fit S3.out.rows S1.out.rows S3.out.small S1.out.small (by omega) (by omega) (by omega) (by omega))
              go_wp2_with fail
              refine c5.out.mono ?_
              rintro e w5 ⟨X5, c5', M5, rfl, hi, hs5, hb⟩
              have L5 := Lib.hid (bnext L4.out L4.out.size hb)
              have I5 := Lib.hid hi
              have S5 := Lib.hid hs5
              have l5 : M5.length ≤ 60 := by have := hs5.len; rw [List.length_append] at this; omega
              have I1 := Lib.hid (J1.out.next hb)
              have J2 := Lib.hid (I2.out.next hb)
              have I3 := Lib.hid (J3.out.next hb)
              have J4 := Lib.hid (I4.out.next hb)
              clear hi hb hs5 c5 J1 I2 J3 I4 L4
              have c6 := Lib.hid (add_two X2 X5 c2 c5' M2 M5 w5 1979120929996800 178120883699712000 J2.out I5.out S2.out.fit S5.out.fit S2.out.rows S5.out.rows (fun x hx => by have := S2.out.small x hx; omega) S5.out.small (by omega) (by omega) (by omega) (by omega))
              go_wp2_with fail
              refine c6.out.mono ?_
              rintro e w6 ⟨X6, c6', M6, rfl, hi, hs6, hb⟩
              have L6 := Lib.hid (bnext L5.out L5.out.size hb)
              have I6 := Lib.hid hi
              have S6 := Lib.hid hs6
              have l6 : M6.length ≤ 90 := by have := hs6.len; rw [List.length_append] at this; omega
              have J1 := Lib.hid (I1.out.next hb)
              have I2 := Lib.hid (J2.out.next hb)
              have J3 := Lib.hid (I3.out.next hb)
              have I4 := Lib.hid (J4.out.next hb)
              clear hi hb hs6 c6 I1 J2 I3 J4 L5 I5
              have c7 := Lib.hid (neg_small X1 c1 M1 a w6 32985348833280 J1.out S1.out (by omega) (by omega))
              go_wp2_with fail
              refine c7.out.mono ?_
              rintro e w7 ⟨X7, c7', M7, rfl, hi, hb, hs7⟩
              have L7 := Lib.hid (bnext L6.out L6.out.size hb)
              have I7 := Lib.hid hi
              have S7 := Lib.hid hs7
              have l7 : M7.length ≤ 30 := by have := hs7.2.2.2.2; omega
              have I1 := Lib.hid (J1.out.next hb)
              have J2 := Lib.hid (I2.out.next hb)
              have I3 := Lib.hid (J3.out.next hb)
              have J4 := Lib.hid (I4.out.next hb)
              have J6 := Lib.hid (I6.out.next hb)
              clear hi hb hs7 c7 J1 I2 J3 I4 I6 L6
              have c8 := Lib.hid (add_two X1 X7 c1 c7' M1 M7 w7 32985348833280 1979120929996800 I1.out I7.out S1.out.fit S7.out.2.2.2.1 S1.out.rows S7.out.2.2.1 S1.out.small S7.out.2.1 (by omega) (by omega) (by omega) (by omega))
              go_wp2_with fail
              refine c8.out.mono ?_
              rintro e w8 ⟨X8, c8', M8, rfl, hi, hs8, hb⟩
              have L8 := Lib.hid (bnext L7.out L7.out.size hb)
              have J1 := Lib.hid (I1.out.next hb)
              have I2 := Lib.hid (J2.out.next hb)
              have J3 := Lib.hid (I3.out.next hb)
              have I4 := Lib.hid (J4.out.next hb)
              have I6 := Lib.hid (J6.out.next hb)
              have Z8 := Lib.hid (show M8.length = 0 from set_empty hs8.set fun r => by rw [hs8.weight, pl_append, weightP_append, S7.out.1]; omega)
              clear hi hb hs8 c8 I1 J2 I3 J4 J6 L7 I7 S7
              have c9 := zright_any X4 c4' M4 w8 I4.out S4.out.fit S4.out.rows.short (by omega)
              rw [S4.out.right] at c9
              have C9 := Lib.hid c9
              clear c9
              go_wp2_with fail
              refine C9.out.mono ?_
              rintro e w9 ⟨rfl, hb⟩
              have L9 := Lib.hid (bnext L8.out L8.out.size hb)
              have J1' := Lib.hid (J1.out.next hb)
              have J2 := Lib.hid (I2.out.next hb)
              have I3 := Lib.hid (J3.out.next hb)
              have J4 := Lib.hid (I4.out.next hb)
              have J6 := Lib.hid (I6.out.next hb)
              clear hb C9 L8 J1 I2 J3 I4 I6
              have EQ := Lib.hid (show pl M4 = pl M6 from set_weights S4.out.set S6.out.set fun r => by rw [S4.out.weight, S6.out.weight, pl_append, pl_append, pl_append, weightP_append, weightP_append, weightP_append, S5.out.weight, pl_append, weightP_append]; omega)
              have WT := Lib.hid (show ∀ r, weightP (pl M4) r = weightP (pl M1) r + weightP (pl M2) r + weightP (pl M3) r from fun r => by rw [S4.out.weight, pl_append, pl_append, weightP_append, weightP_append]; omega)
              have G1 := Lib.hid (weight_small (K := 32985348833280) (by omega) · M1 S1.out.small)
              have G2 := Lib.hid (weight_small (K := 32985348833280) (by omega) · M2 S2.out.small)
              have G3 := Lib.hid (weight_small (K := 32985348833280) (by omega) · M3 S3.out.small)
              go_wp2
              go_loopw [27] (fun i wr => ∃ k : Nat, k ≤ M1.length ∧ i = .int .i64 k ∧ Hid (Below w9.heap.size w9 wr)) (fun i _ => M1.length - (intOf i).toNat)
              case atStart => exact ⟨0, by omega, rfl, Lib.hid (Below.refl _ _)⟩
              case round =>
                obtain ⟨k, hk, rfl, HL⟩ := hrel
                have hsz := HL.out.size
                by_cases hlt : k < M1.length
                · obtain ⟨ad, hA, ha, c0, c1', v0⟩ := J1'.out.at k hlt
                  subst hA
                  have hrt := right_short (S1.out.rows _ (List.getElem_mem hlt))
                  have hmw := mem_weight S1.out.set (pu M1[k]) (List.mem_map.2 ⟨_, List.getElem_mem hlt, rfl⟩)
                  obtain ⟨x, hx⟩ : ∃ x, M1[k] = x := ⟨_, rfl⟩
                  rw [hx] at c0 c1' v0 hrt hmw
                  clear hx
                  obtain ⟨x1, x2, x3, x4⟩ := x
                  simp only [pu] at c0 c1' v0 hrt hmw
                  have V0 := Lib.hid v0
                  have hwt := WT.out x3
                  have hg1 := G1.out x3
                  have hg2 := G2.out x3
                  have hg3 := G3.out x3
                  have g4 := fun w' (h : Below wr.heap.size wr w') => zget_any X4 x1 c4' x2 M4 x3 w' ((J4.out.below (bnext HL.out hsz h)).more (bnext HL.out hsz h).size) ((V0.out.below (bnext HL.out hsz h)).more (bnext HL.out hsz h).size) S4.out.set S4.out.rows.short (by omega) (by omega)
                  have g2 := fun w' (h : Below wr.heap.size wr w') => zget_any X2 x1 c2 x2 M2 x3 w' ((J2.out.below (bnext HL.out hsz h)).more (bnext HL.out hsz h).size) ((V0.out.below (bnext HL.out hsz h)).more (bnext HL.out hsz h).size) S2.out.set S2.out.rows.short (by omega) (by omega)
                  have g3 := fun w' (h : Below wr.heap.size wr w') => zget_any X3 x1 c3 x2 M3 x3 w' ((I3.out.below (bnext HL.out hsz h)).more (bnext HL.out hsz h).size) ((V0.out.below (bnext HL.out hsz h)).more (bnext HL.out hsz h).size) S3.out.set S3.out.rows.short (by omega) (by omega)
                  rw [hmw] at hwt hg1
                  obtain ⟨n4, h4⟩ : ∃ n, weightP (pl M4) x3 = n := ⟨_, rfl⟩
                  obtain ⟨n2, h2⟩ : ∃ n, weightP (pl M2) x3 = n := ⟨_, rfl⟩
                  obtain ⟨n3, h3⟩ : ∃ n, weightP (pl M3) x3 = n := ⟨_, rfl⟩
                  simp only [h4] at g4
                  simp only [h2] at g2
                  simp only [h3] at g3
                  rw [h4, h2, h3] at hwt
                  rw [h2] at hg2
                  rw [h3] at hg3
                  have hb1 : -32985348833280 * 30 ≤ x4 ∧ x4 ≤ 32985348833280 * 30 := by omega
                  have hb2 : -32985348833280 * 30 ≤ n2 ∧ n2 ≤ 32985348833280 * 30 := by omega
                  have hb3 : -32985348833280 * 30 ≤ n3 ∧ n3 ≤ 32985348833280 * 30 := by omega
                  have hs1 : IntKind.i64.wrap (x4 + n2) = x4 + n2 := by rw [IntKind.wrap_i64] <;> omega
                  have hs2 : IntKind.i64.wrap (x4 + n2 + n3) = n4 := by rw [hwt, IntKind.wrap_i64] <;> omega
                  obtain ⟨n5, h5⟩ : ∃ n, n = x4 + n2 := ⟨_, rfl⟩
                  have hq1 : IntKind.i64.wrap (x4 + n2) = n5 := by rw [h5]; exact hs1
                  have hq2 : IntKind.i64.wrap (n5 + n3) = n4 := by rw [h5]; exact hs2
                  clear hs1 hs2
                  have Q4 := Lib.hid g4
                  have Q2 := Lib.hid g2
                  have Q3 := Lib.hid g3
                  clear g4 g2 g3 h4 h2 h3 h5 hwt hmw hg1 hg2 hg3 hb1 hb2 hb3 v0
                  have z0 : (ad.add (k * 2)).block < w9.heap.size := by rw [add_block]; exact ha
                  have f0 := (HL.out.cell (p := ad.add (k * 2)) z0).trans c0
                  have f1 := (HL.out.cell (p := ⟨(ad.add (k * 2)).block, (ad.add (k * 2)).off + 1, none⟩) z0).trans c1'
                  have z1 : (ad.add (k * 2)).block < wr.heap.size := Nat.lt_of_lt_of_le z0 hsz
                  clear c0 c1' z0
                  obtain ⟨p, hp⟩ : ∃ p, ad.add (k * 2) = p := ⟨_, rfl⟩
                  go_wp2_with fail
                  rw [hp] at f0 f1 z1
                  go_region_held3 (fun w' => (w'.cell? p = some (.slice x1 x3.length x2) ∧ w'.cell? ⟨p.block, p.off + 1, none⟩ = some (.int .i64 x4)) ∧ Below wr.heap.size wr w')
                    (first | assumption | (refine keepP hb5 (by assumption) ?_; intro kk; exact ⟨(kk p z1).trans f0, (kk ⟨p.block, p.off + 1, none⟩ z1).trans f1⟩) | (exact ⟨⟨f0, f1⟩, Below.drew (Below.refl _ _)⟩))
                    (first | (go_at_call 22; first | (with_reducible refine (Q4.out _ ?cv).mono ?_; (case cv => exact (by assumption : _ ∧ Below wr.heap.size wr _).2); rintro e w5 ⟨rfl, hb5⟩) | (with_reducible refine (Q2.out _ ?cv).mono ?_; (case cv => exact (by assumption : _ ∧ Below wr.heap.size wr _).2); rintro e w5 ⟨rfl, hb5⟩) | (with_reducible refine (Q3.out _ ?cv).mono ?_; (case cv => exact (by assumption : _ ∧ Below wr.heap.size wr _).2); rintro e w5 ⟨rfl, hb5⟩)))
                  rename World => w10
                  have M10 := Lib.hid (show Below wr.heap.size wr w10 by rename_i hS; exact hS.2)
                  have L10 := Lib.hid (bnext HL.out hsz M10.out)
                  go_wp2
                  go_roundw
                  case rel => exact ⟨k + 1, by omega, by go_num, L10⟩
                  case measure => simp [intOf]; omega
                · obtain rfl : k = M1.length := by omega
                  have L10 := Lib.hid (bnext L9.out L9.out.size HL.out)
                  have c12 := fun w' (h : Below wr.heap.size wr w') => zsame_any X4 X6 c4' c6' M4 M6 w' ((J4.out.below (bnext HL.out hsz h)).more (bnext HL.out hsz h).size) ((J6.out.below (bnext HL.out hsz h)).more (bnext HL.out hsz h).size) (by omega) (by omega) S4.out.rows.short S6.out.rows.short
                  rw [decide_eq_true EQ.out] at c12
                  have C12 := Lib.hid c12
                  clear c12
                  go_wp2_with fail
                  refine (zAlive wr).mono ?_
                  rintro e w10 ⟨rfl, hb⟩
                  have L11 := Lib.hid (bnext L10.out L10.out.size hb)
                  have K10 := Lib.hid hb
                  clear hb
                  go_wp2_with fail
                  refine (C12.out w10 K10.out).mono ?_
                  rintro e w11 ⟨rfl, hb⟩
                  have L12 := Lib.hid (bnext L11.out L11.out.size hb)
                  clear hb C12
                  have hz8 := Z8.out
                  rw [hz8]
                  go_wp2
                  go_ret
                  exact ⟨rfl, L12.out⟩
            · go_wp2_with fail
              refine (zAlive _).mono ?_
              rintro e w4 ⟨rfl, hb⟩
              have L4 := Lib.hid (bnext L3.out L3.out.size hb)
              clear hb
              go_wp2
              go_ret
              exact ⟨rfl, L4.out⟩
            · go_wp2_with fail
              refine (zAlive _).mono ?_
              rintro e w4 ⟨rfl, hb⟩
              have L4 := Lib.hid (bnext L3.out L3.out.size hb)
              clear hb
              go_wp2
              go_ret
              exact ⟨rfl, L4.out⟩
          · go_wp2_with fail
            refine (zAlive _).mono ?_
            rintro e w4 ⟨rfl, hb⟩
            have L4 := Lib.hid (bnext L3.out L3.out.size hb)
            clear hb
            go_wp2
            go_ret
            exact ⟨rfl, L4.out⟩
          · go_wp2_with fail
            refine (zAlive _).mono ?_
            rintro e w4 ⟨rfl, hb⟩
            have L4 := Lib.hid (bnext L3.out L3.out.size hb)
            clear hb
            go_wp2
            go_ret
            exact ⟨rfl, L4.out⟩
        · go_wp2_with fail
          refine (zAlive _).mono ?_
          rintro e w4 ⟨rfl, hb⟩
          have L4 := Lib.hid (bnext L3.out L3.out.size hb)
          clear hb
          go_wp2
          go_ret
          exact ⟨rfl, L4.out⟩
        · go_wp2_with fail
          refine (zAlive _).mono ?_
          rintro e w4 ⟨rfl, hb⟩
          have L4 := Lib.hid (bnext L3.out L3.out.size hb)
          clear hb
          go_wp2
          go_ret
          exact ⟨rfl, L4.out⟩
  all_goals
    go_wp2_with fail
    refine (zAlive _).mono ?_
    rintro e w1 ⟨rfl, hb1⟩
    have L1 := Lib.hid hb1
    clear hb1
    go_wp2
    go_ret
    exact ⟨rfl, L1.out⟩
end Go.Proofs.Ytlejhimcaidbeaa.zsetGroup
