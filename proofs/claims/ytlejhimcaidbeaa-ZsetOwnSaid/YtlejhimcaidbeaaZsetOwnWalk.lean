/-
  The walk through ZsetOwn.
-/
import Derived.Test.YtlejhimcaidbeaaZOwnPure
import Derived.Test.YtlejhimcaidbeaaZGroupPure
namespace Go.Proofs.Ytlejhimcaidbeaa.zsetOwn
open Go.ChangeShapes Go.WideShapes Go.ChangeAt Go.RowKit Val Go.Proofs.Ytlejhimcaidbeaa.Code Go.Proofs.Ytlejhimcaidbeaa.Elems Go.Proofs.Ytlejhimcaidbeaa.ZP Go.Proofs.Ytlejhimcaidbeaa.Bits Go.Proofs.Ytlejhimcaidbeaa.Items
set_option linter.unusedVariables false
set_option maxRecDepth 100000

theorem ofE_cases (L : List It) : ofE L = 0 ∨ ofE L = 11 ∨ ofE L = 51 := by
  unfold ofE
  split
  · split <;> simp
  · simp
theorem neg_cases (L : List It) : negIE L = 0 ∨ (negIE L = 11 ∧ negI L = []) := by
  unfold negIE negI
  split <;> simp
theorem neg_short {L : List It} {K : Nat} (h : ∀ x ∈ L, x.2.2.1.length ≤ K) : ∀ x ∈ negI L, x.2.2.1.length ≤ K := by
  intro x hx
  unfold negI at hx
  split at hx
  · obtain ⟨y, hy, rfl⟩ := List.mem_map.1 hx
    exact h y hy
  · cases hx
theorem neg_le (L : List It) : (negI L).length ≤ L.length := by
  unfold negI
  split
  · rw [mapN_length]; omega
  · simp
set_option maxHeartbeats 32000000 in
theorem walk (A : Option Addr) (ca : Nat) (a : List It) (w : World) (x0 : Items w w.heap.size A a ∧ FitI a ∧ LongI a ∧ a.length ≤ 4398046511104) :
    Calls Try.prog 6 #[.slice A a.length ca] w fun e w' => e = .returned (.bool true) ∧ Below w.heap.size w w' := by
  obtain ⟨hA, fa, la, na⟩ := x0
  have HA := Lib.hid hA
  have FA := Lib.hid fa
  have LA := Lib.hid (show ∀ x ∈ a, x.2.2.1.length ≤ 4398046511104 from fun x hx => (la x hx).1)
  have SA := Lib.hid (show ∀ x ∈ a, x.2.2.1.length ≤ 140737488355328 from fun x hx => by have := (la x hx).1; omega)
  obtain ⟨p, hp⟩ : ∃ p, smallI a = p := ⟨_, rfl⟩
  have c1 := smallI_any A ca a w hA la (by omega)
  rw [hp] at c1
  have C1 := Lib.hid c1
  have PA := Lib.hid (fun h : p = true => smallI_le (hp.trans h))
  have c2 := zof_any A ca a w hA fa SA.out na
  obtain ⟨E, hE⟩ : ∃ E, ofE a = E := ⟨_, rfl⟩
  have hE3 := ofE_cases a
  rw [hE] at hE3 c2
  have HE := Lib.hid hE
  have C2 := Lib.hid c2
  clear hA fa la hp c1 c2 hE
  go_enter Try.func6, Try.ntmps6
  go_wp2_with fail
  refine C1.out.mono ?_
  rintro e w' ⟨rfl, rfl⟩
  go_wp2_with fail
  refine C2.out.mono ?_
  rintro e w1 ⟨X1, c1, M1, rfl, ha, hr, hq, hb⟩
  have L1 := Lib.hid hb
  have A1 := Lib.hid ha
  have R1 := Lib.hid hr
  have Q1 := Lib.hid hq
  clear ha hr hq hb C1 C2
  rcases Bool.eq_false_or_eq_true p with h1 | h1 <;> subst h1
  · rcases hE3 with rfl | rfl | rfl
    · have hla := PA.out rfl
      clear na PA
      have LM := Lib.hid (show M1.length ≤ 30 by have := ofL_length a; have := pl_short Q1.out; omega)
      have hrt := rightI_set (right_pl Q1.out (ofL_right a))
      have RW := Lib.hid (show RightW M1 from hrt.1)
      have RT := Lib.hid (right_pl Q1.out (ofL_right a))
      have FM := Lib.hid (show FitI M1 from pl_rows (P := fun r n => FitL r ∧ fits n) Q1.out (fun x hx => ⟨ofL_rows (P := fun r => FitL r) (fun y hy => (FA.out y hy).1) x hx, ofL_weights a x hx⟩))
      have SY := Lib.hid (ofL_rows (P := fun r => r.length ≤ 140737488355328) SA.out)
      have LY := Lib.hid (show (ofL a).length ≤ 30 by have := ofL_length a; omega)
      clear hrt
      have c3 := iof_any A ca a w1 ((HA.out.below L1.out).more L1.out.size) FA.out (by omega) SA.out
      rw [HE.out] at c3
      obtain ⟨Y, hY⟩ : ∃ Y, ofL a = Y := ⟨_, rfl⟩
      rw [hY] at c3 Q1 SY LY
      have C3 := Lib.hid c3
      clear c3 hY HE
      go_wp2_with fail
      refine C3.out.mono ?_
      rintro e w2 ⟨X2, c2, rfl, hi, hb⟩
      have L2 := Lib.hid (bnext L1.out L1.out.size hb)
      have I2 := Lib.hid hi
      have B12 := Lib.hid hb
      have A2 := Lib.hid ((A1.out.below hb).more hb.size)
      have R2 := Lib.hid (show OwnRows w2 w.heap.size M1 from R1.out.keep fun g D hg h => h.call hb)
      have hlm := LM.out
      clear hi hb C3 A1
      have C4 := Lib.hid (zdist_any X1 c1 M1 w2 ⟨A2.out, R2.out.vals⟩ (by omega) (fun x hx => right_short (RW.out x hx)))
      go_wp2_with fail
      refine C4.out.mono ?_
      rintro e w3 ⟨X3, c3, DD, rfl, ha, hr, hq, hb⟩
      have SD := Lib.hid (show ∀ x ∈ DD, x.2.2.1.length ≤ 1000000 from pl_rows (P := fun r _ => r.length ≤ 1000000) hq (distI_rows (P := fun _ r => r.length ≤ 1000000) (fun x hx => right_short (RW.out x hx))))
      have hdd : DD.length ≤ 30 := by have := pl_short hq; have := distI_le M1; omega
      have L3 := Lib.hid (bnext L2.out L2.out.size hb)
      have B23 := Lib.hid hb
      have A3 := Lib.hid ha
      have R3 := Lib.hid hr
      have X1A := Lib.hid ((A2.out.below hb).more hb.size)
      have X1R := Lib.hid (show OwnRows w3 w.heap.size M1 from R2.out.keep fun g D hg h => h.call hb)
      clear ha hr hb hq C4
      have C5 := Lib.hid (zneg_any X1 c1 M1 w3 ⟨X1A.out, X1R.out.vals⟩ FM.out RW.out.short (by omega) RT.out)
      have hng := neg_cases M1
      go_wp2_with fail
      refine C5.out.mono ?_
      rintro e w4 ⟨X4, c4, NN, rfl, ha, hr, hq, hb⟩
      have L4 := Lib.hid (bnext L3.out L3.out.size hb)
      have B34 := Lib.hid hb
      have A4 := Lib.hid ha
      have R4 := Lib.hid hr
      have D4 := Lib.hid (show At cellsI 2 w4 w4.heap.size X3 DD from (A3.out.below hb).more hb.size)
      have MD := Lib.hid (show Mine w4 w2.heap.size w3.heap.size DD from R3.out.mine.call hb)
      have SN := Lib.hid (show ∀ x ∈ NN, x.2.2.1.length ≤ 1000000 from pl_rows (P := fun r _ => r.length ≤ 1000000) hq (neg_short fun x hx => right_short (RW.out x hx)))
      have hnn : NN.length ≤ 30 := by have := pl_short hq; have := neg_le M1; omega
      obtain ⟨G, hG⟩ : ∃ G, negIE M1 = G := ⟨_, rfl⟩
      rw [hG] at hng ⊢
      have hnl : G = 0 ∨ (G = 11 ∧ NN.length = 0) := by
        rcases hng with h | ⟨h, h2⟩
        · exact .inl h
        · refine .inr ⟨h, ?_⟩
          rw [h2] at hq
          exact (pl_short hq).trans rfl
      have HNL := Lib.hid hnl
      clear ha hr hb hq C5 A3 R3 hng hnl hG
      go_wp2
      go_loopw [11] (fun i wr => ∃ k : Nat, k ≤ DD.length ∧ i = .int .i64 k ∧ Hid (Spoil w2.heap.size w3.heap.size w4 wr)) (fun i _ => DD.length - (intOf i).toNat)
      case atStart => exact ⟨0, by omega, rfl, Lib.hid (Spoil.refl _ _ _)⟩
      case round =>
        obtain ⟨k, hk, rfl, HL1⟩ := hrel
        by_cases hlt : k < DD.length
        · obtain ⟨ad, hA, ha, h0⟩ := D4.out k hlt
          subst hA
          have c0 := h0 0 _ rfl
          rw [Nat.add_zero] at c0
          obtain ⟨g, D0, e, hB, hC, hl, hb0⟩ := MD.out DD[k] (List.getElem_mem hlt)
          have hx3 := SD.out DD[k] (List.getElem_mem hlt)
          obtain ⟨x, hx⟩ : ∃ x, DD[k] = x := ⟨_, rfl⟩
          rw [hx] at c0 e hl hx3
          clear hx h0
          obtain ⟨x1, x2, x3, x4⟩ := x
          simp only at c0 e hl hx3
          subst e
          have B0 := Lib.hid hb0
          have C0 := Lib.hid (fun (w' : World) (h : Spoil w2.heap.size w3.heap.size w4 w') => (World.cell?_of_block (w := w4) (h.slice c0)).trans c0)
          clear c0 hb0
          go_wp2
          go_loopw [12] (fun i wv => ∃ j : Nat, j ≤ x3.length ∧ i = .int .i64 j ∧ Hid (Spoil w2.heap.size w3.heap.size w4 wv)) (fun i _ => x3.length - (intOf i).toNat)
          case atStart => exact ⟨0, by omega, rfl, HL1⟩
          case round =>
            obtain ⟨j, hj, rfl, HV⟩ := hrel
            have q0 := C0.out _ HV.out
            by_cases hjx : j < x3.length
            · obtain ⟨D', hl', hb'⟩ := HV.out.blk B0.out
              obtain ⟨b0, b1, b2⟩ := hb'.at j (by omega)
              have f0 := hb'.free (j * 3)
              have f1 := hb'.free (j * 3 + 1)
              have f2 := hb'.free (j * 3 + 2)
              have HB := Lib.hid hb'
              clear hb'
              go_wp2
              go_roundw
              case rel => exact ⟨j + 1, by omega, by go_num, Lib.hid (HV.out.store HB.out hB hC j (by omega) (4, 0, ⟨#[109, 105, 110, 101]⟩))⟩
              case measure => simp [intOf]; omega
            · obtain rfl : j = x3.length := by omega
              go_wp2
              go_roundw
              case rel => exact ⟨k + 1, by omega, by go_num, HV⟩
              case measure => simp [intOf]; omega
        · obtain rfl : k = DD.length := by omega
          rename World => w5
          have A5 := Lib.hid (HL1.out.at A4.out)
          have MN := Lib.hid (show Mine w5 w3.heap.size w4.heap.size NN from (R4.out.spoil HL1.out (Nat.le_refl _)).mine' HL1.out.size)
          have B45 := Lib.hid HL1.out.below
          clear HL1 A4 R4 D4 MD
          go_wp2
          go_loopw [13] (fun i wr => ∃ k : Nat, k ≤ NN.length ∧ i = .int .i64 k ∧ Hid (Spoil w3.heap.size w4.heap.size w5 wr)) (fun i _ => NN.length - (intOf i).toNat)
          case atStart => exact ⟨0, by omega, rfl, Lib.hid (Spoil.refl _ _ _)⟩
          case round =>
            obtain ⟨k, hk, rfl, HL2⟩ := hrel
            by_cases hlt : k < NN.length
            · obtain ⟨ad, hA, ha, h0⟩ := A5.out k hlt
              subst hA
              have c0 := h0 0 _ rfl
              rw [Nat.add_zero] at c0
              obtain ⟨g, D0, e, hB, hC, hl, hb0⟩ := MN.out NN[k] (List.getElem_mem hlt)
              have hx3 := SN.out NN[k] (List.getElem_mem hlt)
              obtain ⟨x, hx⟩ : ∃ x, NN[k] = x := ⟨_, rfl⟩
              rw [hx] at c0 e hl hx3
              clear hx h0
              obtain ⟨x1, x2, x3, x4⟩ := x
              simp only at c0 e hl hx3
              subst e
              have B0 := Lib.hid hb0
              have C0 := Lib.hid (fun (w' : World) (h : Spoil w3.heap.size w4.heap.size w5 w') => (World.cell?_of_block (w := w5) (h.slice c0)).trans c0)
              clear c0 hb0
              go_wp2
              go_loopw [14] (fun i wv => ∃ j : Nat, j ≤ x3.length ∧ i = .int .i64 j ∧ Hid (Spoil w3.heap.size w4.heap.size w5 wv)) (fun i _ => x3.length - (intOf i).toNat)
              case atStart => exact ⟨0, by omega, rfl, HL2⟩
              case round =>
                obtain ⟨j, hj, rfl, HV⟩ := hrel
                have q0 := C0.out _ HV.out
                by_cases hjx : j < x3.length
                · obtain ⟨D', hl', hb'⟩ := HV.out.blk B0.out
                  obtain ⟨b0, b1, b2⟩ := hb'.at j (by omega)
                  have f0 := hb'.free (j * 3)
                  have f1 := hb'.free (j * 3 + 1)
                  have f2 := hb'.free (j * 3 + 2)
                  have HB := Lib.hid hb'
                  clear hb'
                  go_wp2
                  go_roundw
                  case rel => exact ⟨j + 1, by omega, by go_num, Lib.hid (HV.out.store HB.out hB hC j (by omega) (4, 0, ⟨#[109, 105, 110, 101]⟩))⟩
                  case measure => simp [intOf]; omega
                · obtain rfl : j = x3.length := by omega
                  go_wp2
                  go_roundw
                  case rel => exact ⟨k + 1, by omega, by go_num, HV⟩
                  case measure => simp [intOf]; omega
            · obtain rfl : k = NN.length := by omega
              rename World => w6
              have K := Lib.hid (show Below w2.heap.size w2 w6 from ((B23.out.trans (B34.out.mono B23.out.size)).trans B45.out).trans (HL2.out.below.mono B23.out.size))
              have L6 := Lib.hid (bnext L2.out L2.out.size K.out)
              have T6 := Lib.hid (bnext B12.out B12.out.size K.out)
              have A6 := Lib.hid ((A2.out.below K.out).more K.out.size)
              have R6 := Lib.hid (show OwnRows w6 w.heap.size M1 from R2.out.keep fun g D hg h => h.keep (K.out.block g h.lt))
              have I6 := Lib.hid ((I2.out.below K.out).more K.out.size)
              have M11 := Lib.hid R1.out.mine
              clear HL2 A5 MN B45 A2 R2 I2 X1A X1R K B12 B23 B34 R1 L1 L2 L3 L4 SD SN
              have hly := LY.out
              obtain ⟨i0, hi0, hz0, hz1, hz2⟩ := info_parts info_item
              obtain ⟨j0, hj0, hy0, hy1, hy2⟩ := info_parts info_val
              obtain ⟨r0, hr0, hw0, hw1, hw2⟩ := info_parts info_row
              rcases HNL.out with rfl | ⟨rfl, hn0⟩
              case' inr => rw [hn0]
              all_goals
                clear HNL
                go_wp2_with fail
                refine (isame_true X1 X2 c1 c2 M1 Y w6 Q1.out ⟨A6.out, R6.out.vals⟩ I6.out (by omega) (by omega) RW.out.short SY.out).mono ?_
                rintro e w7 ⟨rfl, hb⟩
                have L7 := Lib.hid (bnext L6.out L6.out.size hb)
                have T7 := Lib.hid (bnext T6.out T6.out.size hb)
                have A7 := Lib.hid ((A6.out.below hb).more hb.size)
                have z7 := L7.out.size
                clear hb A6 R6 I6 L6 T6
                have HA7 := Lib.hid (((HA.out.below L7.out).more z7).below (below_alloc w7 (.cells #[] 48)))
                go_wp2_with (at_builtin; refine wpList_append_at cellsI_length (by decide) cellsI_one rfl _ _ 22 rfl w7.heap.size 48 i0 (.agg #[.slice none 0 0, .int .i64 0]) 32 Try.underlying22 hi0 hz0 hz1 hz2 rfl _ 0 _ rfl (Items.own_empty w7 (Nat.le_refl _)) w7.heap.size A ca a rfl HA7.out.1 ?c1 ?c2 ?c3 ?_)
                case c1 => unfold maxLen; omega
                case c2 => omega
                case c3 => first | omega | (simp; omega) | simp
                intro v8 w8 hown hgrow
                have N8 := Lib.hid (((Below.refl w7.heap.size w7).alloc (Nat.le_refl _) (.cells #[] 48)).grown hgrow (by simp) (fun g hg => by simp only [Value.ownBlock, Option.some.injEq] at hg; omega))
                have L8 := Lib.hid (bnext L7.out z7 N8.out)
                have T8 := Lib.hid (bnext T7.out T7.out.size N8.out)
                have A8 := Lib.hid ((A7.out.below N8.out).more N8.out.size)
                obtain ⟨X8, c8, rfl, hi8⟩ := own_items (show w8.ownsRow w7.heap.size 48 2 v8 a.length (flatC cellsI a) by simpa [flatC] using hown) (fun x hx => ((HA.out.2 x hx).below L8.out).more L8.out.size)
                have I8 := Lib.hid hi8
                have z8 := L8.out.size
                have y8 := T8.out.size
                clear hown hgrow hi8 N8 HA7 A7 L7 T7
                go_wp2
                go_loopw [16, 17] (fun v i wr => ∃ (k : Nat) (R : List (Option Addr × Nat × List (Int × Int × ByteArray))), k ≤ a.length ∧ i = .int .i64 k ∧ R.length = k ∧ Hid (Copies R (a.take k)) ∧ Hid (wr.ownsRow w8.heap.size 36 1 v R.length (flatC cellsR R)) ∧ Hid (Held wr w8.heap.size R) ∧ Hid (Below w8.heap.size w8 wr)) (fun _ i _ => a.length - (intOf i).toNat)
                case atStart => exact ⟨0, [], by omega, rfl, rfl, Lib.hid rfl, Lib.hid (World.ownsRow_nil _ _ _ _), Lib.hid (fun x hx => by cases hx), Lib.hid (Below.refl _ _)⟩
                case round =>
                  obtain ⟨k, R, hk, rfl, hRk, CP, OW, HD, HL⟩ := hrel
                  have hsz := HL.out.size
                  by_cases hlt : k < a.length
                  · obtain ⟨ad, hA, ha, c0, _, v0⟩ := I8.out.at k hlt
                    subst hA
                    have hll := LA.out _ (List.getElem_mem hlt)
                    have CS := Lib.hid (fun A c r (h : a[k].2.2.1 = r) => CP.out.snoc (A := A) (c := c) hlt h)
                    obtain ⟨x, hx⟩ : ∃ x, a[k] = x := ⟨_, rfl⟩
                    rw [hx] at c0 v0 hll CS
                    clear hx
                    obtain ⟨x1, x2, x3, x4⟩ := x
                    simp only at c0 v0 hll CS
                    have hp0 : (ad.add (k * 2)).block < w8.heap.size := by rw [add_block]; exact ha
                    have q0 := ((HL.out.alloc hsz (.cells #[] 52)).cell (p := ad.add (k * 2)) hp0).trans c0
                    have V3 := Lib.hid (((v0.below HL.out).more hsz).below (below_alloc wr (.cells #[] 52)))
                    clear c0 v0
                    go_wp2_with (at_builtin; refine wpList_append_vals rfl _ _ 36 rfl wr.heap.size 52 j0 (.agg #[.int .i64 0, .int .i64 0, .string ByteArray.empty]) 32 Try.underlying36 hj0 hy0 hy1 hy2 rfl _ _ _ rfl (Code.own_empty wr) wr.heap.size x1 x2 x3 rfl V3.out ?c3 ?c4 ?c5 ?_)
                    case c3 => unfold maxLen; omega
                    case c4 => omega
                    case c5 => simp
                    intro v9 w9 hown9 hgrow9
                    have N9 := Lib.hid ((below_alloc wr (.cells #[] 52)).grown hgrow9 (by simp) (fun g hg => ((Code.own_empty wr).lt g hg).1))
                    have ho9 : w9.ownsRow wr.heap.size 52 3 v9 x3.length (flat x3) := by simpa using hown9
                    obtain ⟨Z, cz, hv9, _⟩ := own_vals ho9
                    subst hv9
                    have Z9 := Lib.hid (own_less ho9 hsz)
                    have O9 := Lib.hid (own_to OW.out N9.out)
                    have H9 := Lib.hid (HD.out.to N9.out)
                    have L9 := Lib.hid (bnext HL.out hsz N9.out)
                    have z9 := L9.out.size
                    have CP2 := Lib.hid (CS.out Z cz x3 rfl)
                    clear hown9 hgrow9 ho9 V3 q0 OW HD HL CS CP N9
                    go_wp2_with (at_builtin; refine wpList_append_at (k := 1) (c := cellsR) cellsR_length (by decide) cellsR_one rfl _ _ 53 rfl w8.heap.size 36 r0 (.slice none 0 0) 24 Try.underlying53 hr0 hw0 hw1 hw2 rfl _ _ _ rfl (O9.out.alloc _) (w9.heap.size + 1) (some ⟨w9.heap.size, 0, none⟩) 1 [(Z, cz, x3)] rfl ?c2 ?c3 ?c4 ?c5 ?_)
                    case c2 =>
                      intro i hi
                      match i, hi with
                      | 0, _ => exact ⟨_, rfl, by simp, fun j u hu => World.news_of_block (heap_alloc_new w9 _) _ _ (by simpa [cellsR] using hu)⟩
                    case c3 => unfold maxLen; simp; omega
                    case c4 => simp; omega
                    case c5 => simp; omega
                    intro v10 w10 hown10 hgrow10
                    have hz9 := below_alloc w9 (.cells #[.slice Z x3.length cz] 36)
                    have ho9 := own_to O9.out hz9
                    have L10 := Lib.hid ((L9.out.alloc z9 (.cells #[.slice Z x3.length cz] 36)).grown hgrow10 (by simp; omega) (fun g hg => (ho9.lt g hg).1))
                    have H10 := Lib.hid (((H9.out.snoc (x := (Z, cz, x3)) Z9.out).to hz9).grown ho9 (by decide) hgrow10)
                    have O10 := Lib.hid (show w10.ownsRow w8.heap.size 36 1 v10 (R ++ [(Z, cz, x3)]).length (flatC cellsR (R ++ [(Z, cz, x3)])) by rw [flatC_snoc]; simpa [flatC, hRk] using hown10)
                    have HRk := Lib.hid (show (R ++ [(Z, cz, x3)]).length = k + 1 by simp [hRk])
                    clear hown10 hgrow10 hz9 ho9 O9 H9 L9 Z9
                    go_wp2
                    go_roundw
                    case rel => exact ⟨k + 1, R ++ [(Z, cz, x3)], by omega, by go_num, HRk.out, CP2, O10, H10, L10⟩
                    case measure => simp [intOf]; omega
                  · obtain rfl : k = a.length := by omega
                    rw [List.take_length] at CP
                    have HR := Lib.hid hRk
                    clear hRk
                    obtain ⟨XR, cR, rfl, _⟩ := own_at cellsR_length OW.out
                    rename World => w11
                    have T11 := Lib.hid (bnext T8.out y8 HL.out)
                    have L11 := Lib.hid (bnext L8.out z8 HL.out)
                    have A11 := Lib.hid ((A8.out.below HL.out).more hsz)
                    have MX := Lib.hid (M11.out.call T11.out)
                    have SX := Lib.hid (show ∀ x ∈ M1, x.2.2.1.length ≤ 1000000 from fun x hx => right_short (RW.out x hx))
                    clear HL A8 I8 T8 L8 T11 M11
                    go_wp2
                    go_loopw [19] (fun i wr => ∃ k : Nat, k ≤ M1.length ∧ i = .int .i64 k ∧ Hid (Spoil w.heap.size w1.heap.size w11 wr)) (fun i _ => M1.length - (intOf i).toNat)
                    case atStart => exact ⟨0, by omega, rfl, Lib.hid (Spoil.refl _ _ _)⟩
                    case round =>
                      obtain ⟨k, hk, rfl, HL3⟩ := hrel
                      by_cases hlt : k < M1.length
                      · obtain ⟨ad, hA, ha, h0⟩ := A11.out k hlt
                        subst hA
                        have c0 := h0 0 _ rfl
                        rw [Nat.add_zero] at c0
                        obtain ⟨g, D0, e, hB, hC, hl, hb0⟩ := MX.out M1[k] (List.getElem_mem hlt)
                        have hx3 := SX.out M1[k] (List.getElem_mem hlt)
                        obtain ⟨x, hx⟩ : ∃ x, M1[k] = x := ⟨_, rfl⟩
                        rw [hx] at c0 e hl hx3
                        clear hx h0
                        obtain ⟨x1, x2, x3, x4⟩ := x
                        simp only at c0 e hl hx3
                        subst e
                        have B0 := Lib.hid hb0
                        have C0 := Lib.hid (fun (w' : World) (h : Spoil w.heap.size w1.heap.size w11 w') => (World.cell?_of_block (w := w11) (h.slice c0)).trans c0)
                        clear c0 hb0
                        go_wp2
                        go_loopw [20] (fun i wv => ∃ j : Nat, j ≤ x3.length ∧ i = .int .i64 j ∧ Hid (Spoil w.heap.size w1.heap.size w11 wv)) (fun i _ => x3.length - (intOf i).toNat)
                        case atStart => exact ⟨0, by omega, rfl, HL3⟩
                        case round =>
                          obtain ⟨j, hj, rfl, HV⟩ := hrel
                          have q0 := C0.out _ HV.out
                          by_cases hjx : j < x3.length
                          · obtain ⟨D', hl', hb'⟩ := HV.out.blk B0.out
                            obtain ⟨b0, b1, b2⟩ := hb'.at j (by omega)
                            have f0 := hb'.free (j * 3)
                            have f1 := hb'.free (j * 3 + 1)
                            have f2 := hb'.free (j * 3 + 2)
                            have HB := Lib.hid hb'
                            clear hb'
                            go_wp2
                            go_roundw
                            case rel => exact ⟨j + 1, by omega, by go_num, Lib.hid (HV.out.store HB.out hB hC j (by omega) (4, 0, ⟨#[109, 105, 110, 101]⟩))⟩
                            case measure => simp [intOf]; omega
                          · obtain rfl : j = x3.length := by omega
                            go_wp2
                            go_roundw
                            case rel => exact ⟨k + 1, by omega, by go_num, HV⟩
                            case measure => simp [intOf]; omega
                      · obtain rfl : k = M1.length := by omega
                        rename World => w12
                        have O12 := Lib.hid (HL3.out.own OW.out y8)
                        have AR := Lib.hid (own_rows O12.out)
                        have H12 := Lib.hid (HL3.out.held HD.out y8)
                        have L12 := Lib.hid (L11.out.trans HL3.out.below)
                        clear HL3 OW HD L11 A11 MX SX O12
                        go_wp2
                        go_loopw [21] (fun i wr => ∃ k : Nat, k ≤ a.length ∧ i = .int .i64 k ∧ Hid (Below w12.heap.size w12 wr)) (fun i _ => a.length - (intOf i).toNat)
                        case atStart => exact ⟨0, by omega, rfl, Lib.hid (Below.refl _ _)⟩
                        case round =>
                          obtain ⟨k, hk, rfl, HL⟩ := hrel
                          have hsz := HL.out.size
                          by_cases hlt : k < a.length
                          · obtain ⟨ad, hA, ha, c0, _, v0⟩ := ((HA.out.below L12.out).more L12.out.size).at k hlt
                            have hkR : k < R.length := by have := HR.out; omega
                            obtain ⟨bd, hB, hb, h0⟩ := AR.out k hkR
                            subst hA hB
                            have d0 := h0 0 _ rfl
                            rw [Nat.mul_one, Nat.add_zero] at d0
                            have hv1 := own_row (H12.out R[k] (List.getElem_mem hkR))
                            have hcp := CP.out.at k hkR hlt
                            have hll := LA.out _ (List.getElem_mem hlt)
                            obtain ⟨x, hx⟩ : ∃ x, a[k] = x := ⟨_, rfl⟩
                            rw [hx] at c0 v0 hcp hll
                            obtain ⟨y, hy⟩ : ∃ y, R[k] = y := ⟨_, rfl⟩
                            rw [hy] at d0 hv1 hcp
                            clear hx hy h0
                            obtain ⟨x1, x2, x3, x4⟩ := x
                            obtain ⟨y1, y2, y3⟩ := y
                            simp only at c0 v0 hcp hll d0 hv1
                            subst hcp
                            have V0 := Lib.hid v0
                            have V1 := Lib.hid hv1
                            have hs := fun w' (h : Below wr.heap.size wr w') => rrowSame_any y1 x1 y2 x2 y3 y3 w' ((V1.out.below (bnext HL.out hsz h)).more (bnext HL.out hsz h).size) ((V0.out.below (bnext HL.out hsz h)).more (bnext HL.out hsz h).size) (by omega) (by omega)
                            simp only [decide_true] at hs
                            have HS := Lib.hid hs
                            have z0 : (ad.add (k * 2)).block < w12.heap.size := by rw [add_block]; exact ha
                            have z1 : (bd.add k).block < w12.heap.size := by rw [add_block]; exact hb
                            have f0 := (HL.out.cell (p := ad.add (k * 2)) z0).trans c0
                            have f1 := (HL.out.cell (p := bd.add k) z1).trans d0
                            have z2 : (ad.add (k * 2)).block < wr.heap.size := Nat.lt_of_lt_of_le z0 hsz
                            have z3 : (bd.add k).block < wr.heap.size := Nat.lt_of_lt_of_le z1 hsz
                            clear hs v0 hv1 c0 d0 z0 z1
                            obtain ⟨p, hp⟩ : ∃ p, ad.add (k * 2) = p := ⟨_, rfl⟩
                            obtain ⟨q, hq⟩ : ∃ q, bd.add k = q := ⟨_, rfl⟩
                            go_wp2_with fail
                            rw [hp] at f0 z2
                            rw [hq] at f1 z3
                            go_region_held3 (fun w' => (w'.cell? p = some (.slice x1 y3.length x2) ∧ w'.cell? q = some (.slice y1 y3.length y2)) ∧ Below wr.heap.size wr w')
                              (first | assumption | (refine keepP hb5 (by assumption) ?_; intro kk; exact ⟨(kk p z2).trans f0, (kk q z3).trans f1⟩) | (exact ⟨⟨f0, f1⟩, Below.drew (Below.refl _ _)⟩))
                              (first | (go_at_call 28; with_reducible refine (HS.out _ ?cv).mono ?_; (case cv => exact (by assumption : _ ∧ Below wr.heap.size wr _).2); rintro e w5 ⟨rfl, hb5⟩))
                            rename World => w13
                            have M13 := Lib.hid (show Below wr.heap.size wr w13 by rename_i hS; exact hS.2)
                            have L13 := Lib.hid (bnext HL.out hsz M13.out)
                            go_wp2
                            go_roundw
                            case rel => exact ⟨k + 1, by omega, by go_num, L13⟩
                            case measure => simp [intOf]; omega
                          · obtain rfl : k = a.length := by omega
                            have L13 := Lib.hid (bnext L12.out L12.out.size HL.out)
                            go_wp2_with fail
                            refine (zAlive wr).mono ?_
                            rintro e w14 ⟨rfl, hb⟩
                            have L14 := Lib.hid (bnext L13.out L13.out.size hb)
                            clear hb
                            go_wp2
                            go_ret
                            exact ⟨rfl, L14.out⟩
    · go_wp2_with fail
      refine (zAlive _).mono ?_
      rintro e w5 ⟨rfl, hb⟩
      have L5 := Lib.hid (bnext L1.out L1.out.size hb)
      clear hb
      go_wp2
      go_ret
      exact ⟨rfl, L5.out⟩
    · go_wp2_with fail
      refine (zAlive _).mono ?_
      rintro e w5 ⟨rfl, hb⟩
      have L5 := Lib.hid (bnext L1.out L1.out.size hb)
      clear hb
      go_wp2
      go_ret
      exact ⟨rfl, L5.out⟩
  · rcases hE3 with rfl | rfl | rfl
    · go_wp2_with fail
      refine (zAlive _).mono ?_
      rintro e w5 ⟨rfl, hb⟩
      have L5 := Lib.hid (bnext L1.out L1.out.size hb)
      clear hb
      go_wp2
      go_ret
      exact ⟨rfl, L5.out⟩
    · go_wp2_with fail
      refine (zAlive _).mono ?_
      rintro e w5 ⟨rfl, hb⟩
      have L5 := Lib.hid (bnext L1.out L1.out.size hb)
      clear hb
      go_wp2
      go_ret
      exact ⟨rfl, L5.out⟩
    · go_wp2_with fail
      refine (zAlive _).mono ?_
      rintro e w5 ⟨rfl, hb⟩
      have L5 := Lib.hid (bnext L1.out L1.out.size hb)
      clear hb
      go_wp2
      go_ret
      exact ⟨rfl, L5.out⟩
end Go.Proofs.Ytlejhimcaidbeaa.zsetOwn
