/-
  The walk of instarlaw07.IndexClone.
-/
import Derived.Test.YtjjikooabmddlaaGreatDoorM31
import Derived.Test.YtjjikooabmddlaaGreatDoorM32
import Derived.Test.YtjjikooabmddlaaGreatDoorM33
namespace Go.Proofs.YtjjikooabmddlaaGreatDoor.indexClone
open Go.ChangeShapes Go.WideShapes Go.ChangeAt Go.RowKit Val Go.Proofs.YtjjikooabmddlaaGreatDoor.Code Go.Proofs.YtjjikooabmddlaaGreatDoor.Elems Go.Proofs.YtjjikooabmddlaaGreatDoor.ZP Go.Proofs.YtjjikooabmddlaaGreatDoor.MapSl Go.Proofs.YtjjikooabmddlaaGreatDoor.Items
set_option linter.unusedVariables false
set_option maxRecDepth 100000
/-- a sum of small items, and what is known of it -/
theorem of_small {L s : List It} (hF : FitI L) (h : ofL L = s) (hs : smallI L = true) : FitI s ∧ s.length ≤ 30 ∧ ∀ y ∈ s, y.2.2.1.length ≤ 1000000 := by
  subst h
  refine ⟨fun y hy => ⟨ofL_rows (P := FitL) (fun z hz => (hF z hz).1) y hy, ofL_weights _ y hy⟩, Nat.le_trans (ofL_length _) (smallI_le hs), fun y hy => ?_⟩
  have := (rightI_set (ofL_right L)).1 y hy
  unfold rightR at this
  rw [Bool.and_eq_true, decide_eq_true_eq] at this
  have h2 : y.2.2.1.length ≤ 24 := this.1
  omega
theorem told_len {T : PL} {M : List It} (h : pl M = T) (hT : T.length ≤ 1000) : M.length ≤ 1000 := by rw [← pl_length M, h]; exact hT
theorem told_rows {l : List Int} {T : PL} {M : List It} (h : pl M = T) (hT : RowsOk l T) : ∀ x ∈ M, x.2.2.1.length ≤ 24 := fun x hx => by
  have := (hT (pu x) (by rw [← h]; exact List.mem_map.2 ⟨x, hx, rfl⟩)).1
  unfold rightR at this
  rw [Bool.and_eq_true, decide_eq_true_eq] at this
  exact this.1
set_option maxHeartbeats 8000000 in
theorem walk (A0 : Option Addr) (c0 : Nat) (l : List Int) (A1 : Option Addr) (c1 : Nat) (L1 : List It) (A2 : Option Addr) (c2 : Nat) (L2 : List It) (m : Int) (w : World)
    (x0 : Ints w w.heap.size A0 l ∧ l.length ≤ 17592186044416) (x1 : Items w w.heap.size A1 L1 ∧ FitI L1 ∧ LongI L1 ∧ L1.length ≤ 4398046510976) (x2 : Items w w.heap.size A2 L2 ∧ FitI L2 ∧ LongI L2 ∧ L2.length ≤ 4398046510976)
    (hm : w.cell? ⟨0, 0, none⟩ = some (.int .i64 m)) :
    Calls Tryz.prog 5 #[.slice A0 l.length c0, .slice A1 L1.length c1, .slice A2 L2.length c2] w fun e w' => e = .returned (.bool true) ∧ Below w.heap.size w w' := by
  obtain ⟨hi, hi2⟩ := x0
  obtain ⟨hI1, hF1, hL1, hn1⟩ := x1
  obtain ⟨hI2, hF2, hL2, hn2⟩ := x2
  have HI := Lib.hid hi
  have HI2 := Lib.hid hI2
  have HF1 := Lib.hid hF1
  have HF2 := Lib.hid hF2
  have HL2 := Lib.hid hL2
  have HM := Lib.hid hm
  have HS1 := Lib.hid (smallI_any A1 c1 L1 w hI1 hL1 (by omega))
  have HS2 := Lib.hid (smallI_any A2 c2 L2 w hI2 hL2 (by omega))
  have hof := iof_any A1 c1 L1 w hI1 hF1 hn1 (fun y hy => Nat.le_trans (hL1 y hy).1 (by omega))
  obtain ⟨b0, hb0⟩ : ∃ b, smallI L1 = b := ⟨_, rfl⟩
  obtain ⟨b1, hb1⟩ : ∃ b, smallI L2 = b := ⟨_, rfl⟩
  rw [hb0] at HS1
  rw [hb1] at HS2
  obtain ⟨s1, hs1⟩ : ∃ s, ofL L1 = s := ⟨_, rfl⟩
  obtain ⟨E1, hE1⟩ : ∃ E, ofE L1 = E := ⟨_, rfl⟩
  rw [hs1, hE1] at hof
  have HO1 := Lib.hid hof
  have HT1 := Lib.hid (fun h : b0 = true => of_small hF1 hs1 (hb0.trans h))
  clear hof hi hI1 hF1 hL1 hm hb0 hs1 hE1
  obtain ⟨n1, hnn1⟩ : ∃ n, s1.length = n := ⟨_, rfl⟩
  go_enter Tryz.func5, Tryz.ntmps5
  go_wp2_with fail
  refine HS1.out.mono ?_
  rintro e w1 ⟨rfl, rfl⟩
  clear HS1
  go_wp2_with fail
  refine HS2.out.mono ?_
  rintro e w1 ⟨rfl, rfl⟩
  clear HS2
  go_wp2_with fail
  refine HO1.out.mono ?_
  rintro e w1 ⟨B1, cb1, rfl, i1, lb1⟩
  rw [hnn1]
  have hof2 := iof_any A2 c2 L2 w1 (hI2.next lb1) hF2 hn2 (fun y hy => Nat.le_trans (hL2 y hy).1 (by omega))
  obtain ⟨s2, hs2⟩ : ∃ s, ofL L2 = s := ⟨_, rfl⟩
  obtain ⟨E2, hE2⟩ : ∃ E, ofE L2 = E := ⟨_, rfl⟩
  rw [hs2, hE2] at hof2
  have HO2 := Lib.hid hof2
  have HT2 := Lib.hid (fun h : b1 = true => of_small hF2 hs2 (hb1.trans h))
  have LB1 := Lib.hid lb1
  have I1 := Lib.hid i1
  clear hof2 hI2 hF2 hL2 hb1 hs2 hE2 lb1 i1 HO1
  obtain ⟨n2, hnn2⟩ : ∃ n, s2.length = n := ⟨_, rfl⟩
  go_wp2_with fail
  refine HO2.out.mono ?_
  rintro e w2 ⟨B2, cb2, rfl, i2, lb2⟩
  rw [hnn2]
  have LB2 := Lib.hid (bnext LB1.out LB1.out.size lb2)
  have I1' := Lib.hid (I1.out.next lb2)
  have I2 := Lib.hid i2
  have HNW := Lib.hid (new_any A0 c0 l w2 ((HI.out.below LB2.out).more LB2.out.size) hi2)
  clear lb2 i2 HO2 I1 LB1
  go_wp2_with fail
  refine HNW.out.mono ?_
  rintro e w3 ⟨p, C, cc, rfl, hp, hX, lb3⟩
  have LB3 := Lib.hid (bnext LB2.out LB2.out.size lb3)
  have J1 := Lib.hid (I1'.out.next lb3)
  have J2 := Lib.hid (I2.out.next lb3)
  have X3 := Lib.hid hX
  have HP := Lib.hid (Nat.le_trans LB2.out.size hp)
  have HM3 := Lib.hid ((LB3.out.cell (p := ⟨0, 0, none⟩) (World.block_lt_of_cell? _ _ HM.out)).trans HM.out)
  clear hX hp lb3 HNW I1' I2 LB2
  by_cases hgo : (b0 && b1 && (E1 == 0) && (E2 == 0)) = true ∧ l.length ≤ 12
  · obtain ⟨hbb, hl12⟩ := hgo
    simp only [Bool.and_eq_true, beq_iff_eq] at hbb
    obtain ⟨⟨⟨rfl, rfl⟩, rfl⟩, rfl⟩ := hbb
    have hd : decide (12 < l.length) = false := by simpa using hl12
    obtain ⟨fs1, ns1, rs1⟩ := HT1.out rfl
    obtain ⟨fs2, ns2, rs2⟩ := HT2.out rfl
    have hPut := xput_any p none C cc l (pl []) B1 cb1 s1 m w3 X3.out J1.out fs1 (by omega) (by simp [pl]) rs1 (by omega) HM3.out
    rw [hnn1] at hPut
    have HPut := Lib.hid hPut
    clear hPut
    go_wp2_with fail
    refine HPut.out.mono ?_
    rintro e w4 hP4
    obtain ⟨he4, mo4, x4, hc4, hd4⟩ := put_doc (S := []) X3.out hP4
    obtain ⟨E4, hE4⟩ : ∃ E, putE l [] s1 = E := ⟨_, rfl⟩
    obtain ⟨Sa, hSa⟩ : ∃ S, putS l [] s1 = S := ⟨_, rfl⟩
    have hna : Sa.length ≤ 30 := by
      have h1 := putS_len (l := l) (S := []) (s := s1)
      rw [hSa] at h1
      simp at h1
      omega
    rw [hE4] at he4
    rw [hSa] at x4
    subst he4
    have hbl4 : ∀ k, badOf p none k → w.heap.size ≤ k := fun k hk => by
      rcases hk with rfl | hk
      · exact HP.out
      · cases hk
    have LB4 := Lib.hid (LB3.out.trans (hc4.below LB3.out.size hbl4))
    have J2' := Lib.hid (items_but J2.out hc4 X3.out.plain)
    have X4 := Lib.hid x4
    have hmo4 : ∀ b, mo4 = some b → w.heap.size ≤ b := fun b e => by
      rcases hd4 with h | ⟨_, h⟩
      · rw [h] at e; cases e
      · exact Nat.le_trans LB3.out.size (h b e)
    have HMO4 := Lib.hid hmo4
    have HA5 := Lib.hid (all_any own_does p mo4 C cc l (pl Sa) w4 x4 (by omega) (by rw [pl_length]; omega))
    clear hP4 x4 hc4 hd4 hE4 hSa hbl4 hmo4 HPut J1 J2 X3 LB3
    go_wp2_with fail
    refine HA5.out.mono ?_
    rintro e w5 hT5
    obtain ⟨A5, c5, M5, rfl, i5, _, q5, lb5⟩ := hT5.items
    have LB5 := Lib.hid (bnext LB4.out LB4.out.size lb5)
    have X5 := Lib.hid (X4.out.below lb5)
    have J5 := Lib.hid (J2'.out.next lb5)
    have I5 := Lib.hid i5
    have Q5 := Lib.hid q5
    have hM5 := told_len q5 (by rw [pl_length]; omega)
    have hz5 : w4.heap.size ≤ w5.heap.size := lb5.size
    have HCl := Lib.hid (clone_any p mo4 C cc l (pl Sa) m w5 X5.out (by omega) (by rw [pl_length]; omega) ((LB5.out.cell (p := ⟨0, 0, none⟩) (World.block_lt_of_cell? _ _ HM.out)).trans HM.out))
    obtain ⟨n5, hn5⟩ : ∃ n, M5.length = n := ⟨_, rfl⟩
    rw [hn5] at hM5 ⊢
    have HN5 := Lib.hid hn5
    clear hT5 i5 q5 lb5 hn5 HA5 J2' LB4
    go_wp2_with fail
    refine HCl.out.mono ?_
    rintro e w6 ⟨q, moq, Cq, cq, rfl, hq, hmq, xq, lb6⟩
    have LB6 := Lib.hid (bnext LB5.out LB5.out.size lb6)
    have X6 := Lib.hid (X5.out.below lb6)
    have J6 := Lib.hid (J5.out.next lb6)
    have I6 := Lib.hid (I5.out.next lb6)
    have Y6 := Lib.hid xq
    have hPut7 := xput_any p mo4 C cc l (pl Sa) B2 cb2 s2 m w6 X6.out J6.out fs2 (by omega) (by rw [pl_length]; omega) rs2 (by omega) ((LB6.out.cell (p := ⟨0, 0, none⟩) (World.block_lt_of_cell? _ _ HM.out)).trans HM.out)
    rw [hnn2] at hPut7
    have HPut7 := Lib.hid hPut7
    have hyb : ¬ badOf p mo4 q := by
      rintro (h | h)
      · have := X5.out.lt; omega
      · have := X5.out.molt q h.symm; omega
    have hyb2 : ∀ b, moq = some b → ¬ badOf p mo4 b := by
      intro b e h
      have h1 := hmq b e
      rcases h with h | h
      · have := X5.out.lt; omega
      · have := X5.out.molt b h.symm; omega
    clear lb6 xq hPut7 HCl X5 J5 I5 LB5
    go_wp2_with fail
    refine HPut7.out.mono ?_
    rintro e w7 hP7
    obtain ⟨he7, mo7, x7, hc7, hd7⟩ := put_doc X6.out hP7
    obtain ⟨E7, hE7⟩ : ∃ E, putE l Sa s2 = E := ⟨_, rfl⟩
    rw [hE7] at he7
    subst he7
    have LB7 := Lib.hid (LB6.out.trans (hc7.below LB6.out.size fun k hk => by
      rcases hk with rfl | hk
      · exact HP.out
      · exact HMO4.out k hk.symm))
    have Y7 := Lib.hid (Y6.out.but hc7 X6.out.plain hyb hyb2)
    have I7 := Lib.hid (items_but I6.out hc7 X6.out.plain)
    have HA8 := Lib.hid (all_any own_does q moq Cq cq l (pl Sa) w7 Y7.out (by omega) (by rw [pl_length]; omega))
    clear hP7 x7 hc7 hd7 hE7 hyb hyb2 HPut7 X6 J6 I6 Y6 LB6
    go_wp2_with fail
    refine HA8.out.mono ?_
    rintro e w8 hT8
    obtain ⟨A8, c8, M8, rfl, i8, r8, q8, lb8⟩ := hT8.items
    have LB8 := Lib.hid (bnext LB7.out LB7.out.size lb8)
    have LB78 := Lib.hid lb8
    have HSame := isame_true A8 A5 c8 c5 M8 M5 w8 (q8.trans Q5.out.symm) i8 (I7.out.next lb8) (by have := told_len q8 (by rw [pl_length]; omega); omega) (by rw [HN5.out]; omega) (fun x hx => by have := told_rows q8 Y7.out.rows x hx; omega) (fun x hx => by have := told_rows Q5.out Y7.out.rows x hx; omega)
    rw [HN5.out] at HSame
    have HSM := Lib.hid HSame
    have D8 := Lib.hid i8.1
    have R8 := Lib.hid r8
    have SD := Lib.hid (fun x hx => Nat.le_trans (told_rows q8 Y7.out.rows x hx) (by omega : 24 ≤ 1000000))
    have hM8 := told_len q8 (by rw [pl_length]; omega)
    clear hT8 i8 r8 q8 lb8 HSame HA8
    go_wp2_with fail
    refine HSM.out.mono ?_
    rintro e w9 ⟨rfl, lb9⟩
    have LB9 := Lib.hid (bnext LB8.out LB8.out.size lb9)
    have LB79 := Lib.hid (bnext LB78.out LB78.out.size lb9)
    have D9 := Lib.hid (show At cellsI 2 w9 w9.heap.size A8 M8 from (D8.out.below lb9).more lb9.size)
    have MD := Lib.hid (show Mine w9 w7.heap.size w8.heap.size M8 from R8.out.mine.call lb9)
    clear lb9 HSM LB8 LB78 D8 R8
    go_wp2
    go_loopw [17] (fun i wr => ∃ k : Nat, k ≤ M8.length ∧ i = .int .i64 k ∧ Hid (Spoil w7.heap.size w8.heap.size w9 wr)) (fun i _ => M8.length - (intOf i).toNat)
    case atStart => exact ⟨0, by omega, rfl, Lib.hid (Spoil.refl _ _ _)⟩
    case round =>
      obtain ⟨k, hk, rfl, HLV⟩ := hrel
      by_cases hlt : k < M8.length
      · obtain ⟨ad, hA, ha, h0⟩ := D9.out k hlt
        subst hA
        have c0 := h0 0 _ rfl
        rw [Nat.add_zero] at c0
        obtain ⟨g, D0, e, hB, hC, hl, hb0⟩ := MD.out M8[k] (List.getElem_mem hlt)
        have hx3 := SD.out M8[k] (List.getElem_mem hlt)
        obtain ⟨x, hx⟩ : ∃ x, M8[k] = x := ⟨_, rfl⟩
        rw [hx] at c0 e hl hx3
        clear hx h0
        obtain ⟨x1, x2, x3, x4⟩ := x
        simp only at c0 e hl hx3
        subst e
        have B0 := Lib.hid hb0
        have C0 := Lib.hid (fun (w' : World) (h : Spoil w7.heap.size w8.heap.size w9 w') => (World.cell?_of_block (w := w9) (h.slice c0)).trans c0)
        clear c0 hb0
        go_wp2
        go_loopw [18] (fun i wv => ∃ j : Nat, j ≤ x3.length ∧ i = .int .i64 j ∧ Hid (Spoil w7.heap.size w8.heap.size w9 wv)) (fun i _ => x3.length - (intOf i).toNat)
        case atStart => exact ⟨0, by omega, rfl, HLV⟩
        case round =>
          obtain ⟨j, hj, rfl, HV⟩ := hrel
          have q0 := C0.out _ HV.out
          by_cases hjx : j < x3.length
          · obtain ⟨D', hl', hb'⟩ := HV.out.blk B0.out
            obtain ⟨d0, d1, d2⟩ := hb'.at j (by omega)
            have f0 := hb'.free (j * 3)
            have f1 := hb'.free (j * 3 + 1)
            have f2 := hb'.free (j * 3 + 2)
            have HB := Lib.hid hb'
            clear hb'
            go_wp2
            go_roundw
            case rel => exact ⟨j + 1, by omega, by go_num, Lib.hid (HV.out.store HB.out hB hC j (by omega) (4, 0, ⟨#[109, 105, 110, 101]⟩))⟩
            case measure => simp [intOf]; omega
          · obtain rfl : j = x3.length := by omega
            go_wp2
            go_roundw
            case rel => exact ⟨k + 1, by omega, by go_num, HV⟩
            case measure => simp [intOf]; omega
      · obtain rfl : k = M8.length := by omega
        rename World => w10
        have LS := Lib.hid HLV.out.below
        have LB10 := Lib.hid (LB9.out.trans (LS.out.mono LB7.out.size))
        have L710 := Lib.hid (LB79.out.trans LS.out)
        have Y10 := Lib.hid (Y7.out.below L710.out)
        have I10 := Lib.hid (I7.out.next L710.out)
        have HAL := Lib.hid (ialive_any m w10 ((LB10.out.cell (p := ⟨0, 0, none⟩) (World.block_lt_of_cell? _ _ HM.out)).trans HM.out))
        clear HLV LS L710 LB9 LB79 D9 MD SD Y7 I7 LB7
        go_wp2_with fail
        refine HAL.out.mono ?_
        rintro e w11 ⟨rfl, lb11⟩
        have LB11 := Lib.hid (bnext LB10.out LB10.out.size lb11)
        have Y11 := Lib.hid (Y10.out.below lb11)
        have I11 := Lib.hid (I10.out.next lb11)
        have HA12 := Lib.hid (all_any own_does q moq Cq cq l (pl Sa) w11 Y11.out (by omega) (by rw [pl_length]; omega))
        clear lb11 HAL Y10 I10 LB10
        go_wp2_with fail
        refine HA12.out.mono ?_
        rintro e w12 hT12
        obtain ⟨A12, c12, M12, rfl, i12, _, q12, lb12⟩ := hT12.items
        have LB12 := Lib.hid (bnext LB11.out LB11.out.size lb12)
        have HSame := isame_true A12 A5 c12 c5 M12 M5 w12 (q12.trans Q5.out.symm) i12 (I11.out.next lb12) (by have := told_len q12 (by rw [pl_length]; omega); omega) (by rw [HN5.out]; omega) (fun x hx => by have := told_rows q12 Y11.out.rows x hx; omega) (fun x hx => by have := told_rows Q5.out Y11.out.rows x hx; omega)
        rw [HN5.out] at HSame
        have HSM := Lib.hid HSame
        clear hT12 i12 q12 lb12 HSame HA12 Y11 I11 LB11
        go_wp2_with fail
        refine HSM.out.mono ?_
        rintro e w13 ⟨rfl, lb13⟩
        have LB13 := Lib.hid (bnext LB12.out LB12.out.size lb13)
        clear lb13 HSM LB12
        go_wp2_with fail
        refine (put_nil _ w13).mono ?_
        rintro e w14 ⟨rfl, rfl⟩
        go_wp2_with fail
        refine (all_nil w13).mono ?_
        rintro e w14 ⟨rfl, rfl⟩
        go_wp2_with fail
        refine (find_nil _ w13).mono ?_
        rintro e w14 ⟨rfl, rfl⟩
        go_wp2_with fail
        refine (keys_nil w13).mono ?_
        rintro e w14 ⟨rfl, rfl⟩
        go_wp2_with fail
        refine (clone_nil w13).mono ?_
        rintro e w14 ⟨rfl, rfl⟩
        go_wp2
        go_ret
        exact ⟨rfl, LB13.out⟩
  · have HAL := Lib.hid (ialive_any m w3 HM3.out)
    obtain ⟨d, hd⟩ : ∃ d, decide (12 < l.length) = d := ⟨_, rfl⟩
    have hd2 : decide ((12 : Int) < (l.length : Int)) = d := by rw [← hd]; exact decide_eq_decide.2 (by omega)
    have hd3 : decide ((l.length : Int) ≤ 12) = !d := by rw [← hd, ← decide_not]; exact decide_eq_decide.2 (by omega)
    obtain ⟨e1, he1⟩ : ∃ e, (E1 != 0) = e := ⟨_, rfl⟩
    obtain ⟨e2, he2⟩ : ∃ e, (E2 != 0) = e := ⟨_, rfl⟩
    have hor : (b0 && b1 && !e1 && !e2 && !d) = false := by
      rw [Bool.eq_false_iff]
      intro h
      simp only [Bool.and_eq_true, Bool.not_eq_true'] at h
      refine hgo ⟨?_, ?_⟩
      · have h1 := he1.trans h.1.1.2
        have h2 := he2.trans h.1.2
        simp only [bne_eq_false_iff_eq] at h1 h2
        simp [h.1.1.1, h1, h2]
      · have h2 := hd.trans h.2
        simpa using h2
    clear hgo
    cases b0 <;> cases b1 <;> cases d <;> cases e1 <;> cases e2 <;> first | (exact absurd hor (by decide)) | skip
    all_goals
      clear hor
      go_wp2_with fail
      refine HAL.out.mono ?_
      rintro e w4 ⟨rfl, hb4⟩
      have X := Lib.hid (bnext LB3.out LB3.out.size hb4)
      clear hb4 HAL
      go_wp2
      go_ret
      exact ⟨rfl, X.out⟩
end Go.Proofs.YtjjikooabmddlaaGreatDoor.indexClone
