/- The walk of CodeBack. -/
import Derived.Test.YtmaecoidoejipaaDoorCodeEncodesWalk
namespace Go.Proofs.YtmaecoidoejipaaDoor.codeBack
open Go.ChangeShapes Go.WideShapes Go.ChangeAt Go.RowKit Val Go.Proofs.YtmaecoidoejipaaDoor.Code codeEncodes
set_option linter.unusedVariables false

theorem encode_is (A : Option Addr) (cap : Nat) (l : List (Int × Int × ByteArray)) (T : ByteArray) (E : Int) (hT : encS l = T) (hE : encE l = E) (m : Int) (w : World) (hv : Vals w w.heap.size A l) (hf : FitL l) (hl : l.length ≤ 300000000000) (hm : w.cell? ⟨0, 0, none⟩ = some (.int .i64 m)) :
    Calls Tryd.prog 9 #[.slice A l.length cap] w fun e w' => e = .returned (.tuple #[.string T, .int .i64 E]) ∧ Below w.heap.size w w' := by
  have := encode_any A cap l m w hv hf hl hm
  rw [hT, hE] at this
  exact this
theorem decode_is (s : ByteArray) (l : List (Int × Int × ByteArray)) (h : decP s.data.toList = some l) (m : Int) (w : World) (hs : s.size ≤ 1000000) (hm : w.cell? ⟨0, 0, none⟩ = some (.int .i64 m)) :
    Calls Tryd.prog 12 #[.string s] w fun e w' => ∃ A cap, e = .returned (.tuple #[.slice A l.length cap, .int .i64 0]) ∧ Vals w' w'.heap.size A l ∧ Below w.heap.size w w' := by
  refine (decode_any s m w hs hm).mono ?_
  rintro e w' ⟨A, cap, he, hv, hb⟩
  have h1 : decL s.data.toList = l := by unfold decL; rw [h]; rfl
  have h2 : decE s.data.toList = 0 := if_neg (by rw [h]; simp)
  rw [h1, h2] at he
  rw [h1] at hv
  exact ⟨A, cap, he, hv, hb⟩
theorem decode_not (s : ByteArray) (h : decP s.data.toList = none) (m : Int) (w : World) (hs : s.size ≤ 1000000) (hm : w.cell? ⟨0, 0, none⟩ = some (.int .i64 m)) :
    Calls Tryd.prog 12 #[.string s] w fun e w' => ∃ A cap, e = .returned (.tuple #[.slice A 0 cap, .int .i64 41]) ∧ Below w.heap.size w w' := by
  refine (decode_any s m w hs hm).mono ?_
  rintro e w' ⟨A, cap, he, hv, hb⟩
  have h1 : decL s.data.toList = [] := by unfold decL; rw [h]; rfl
  have h2 : decE s.data.toList = 41 := if_pos h
  rw [h1, h2] at he
  exact ⟨A, cap, he, hb⟩
theorem same_is (A B : Option Addr) (ca cb : Nat) (a : List (Int × Int × ByteArray)) (w : World) (hA : Vals w w.heap.size A a) (hB : Vals w w.heap.size B a) (hl : a.length ≤ 140737488355328) :
    Calls Tryd.prog 13 #[.slice A a.length ca, .slice B a.length cb] w fun e w' => e = .returned (.bool true) ∧ Below w.heap.size w w' := by
  have := same_any A B ca cb a a w hA hB hl hl
  rw [decide_eq_true rfl] at this
  exact this
/-- the list's own question: is each right? -/
theorem len_enc : ∀ (l : List (Int × Int × ByteArray)), l.length ≤ (encL l).length
  | [] => Nat.zero_le _
  | v :: l => by
    have h1 := len_enc l
    have h2 : 1 ≤ (encV v).length := by simp [encV]
    show l.length + 1 ≤ (encV v ++ encL l).length
    rw [List.length_append]
    omega
theorem some_length {s : ByteArray} {l : List (Int × Int × ByteArray)} (h : decP s.data.toList = some l) : l.length ≤ s.size := by
  obtain ⟨h1, h2, _⟩ := enc_dec s.data.toList.length (Nat.le_refl _) h
  rw [size_list, ← h2]
  exact len_enc l
set_option maxHeartbeats 8000000 in
set_option maxRecDepth 100000 in
theorem walkRS (A : Option Addr) (cap : Nat) (l : List (Int × Int × ByteArray)) (s : ByteArray) (m : Int) (w : World) (hv : Vals w w.heap.size A l) (hf : FitL l) (hs : Short l) (h20 : l.length ≤ 20) (hb : fitsB l = true) (h6 : s.size ≤ 600) (hr : rightL l = true) (L : List (Int × Int × ByteArray)) (hd : decP s.data.toList = some L) (hm : w.cell? ⟨0, 0, none⟩ = some (.int .i64 m)) :
    Calls Tryd.prog 4 #[.slice A l.length cap, .string s] w fun e w' => e = .returned (.bool true) ∧ Below w.heap.size w w' := by
  have hlt : 0 < w.heap.size := World.block_lt_of_cell? _ _ hm
  have h600 : decide ((600 : Int) < (s.size : Int)) = false := by simp; omega
  have HT := Lib.hid (fits_is A cap l true hb w hv hs (by omega))
  have HF := Lib.hid hf
  have HV := Lib.hid hv
  have HM := Lib.hid hm
  have HR := Lib.hid hr
  have HX := Lib.hid (enc_yes hr)
  have HD := Lib.hid (show decP (⟨(encL l).toArray⟩ : ByteArray).data.toList = some l from dec_enc hr hf)
  have hsz : (⟨(encL l).toArray⟩ : ByteArray).size ≤ 1000000 := by have := encL_length hr; show (encL l).length ≤ _; omega
  obtain ⟨k1, k2, k3⟩ := enc_dec s.data.toList.length (Nat.le_refl _) hd
  have hL := some_length hd
  have HE2 := Lib.hid (show encS L = s by rw [(enc_yes k1).1, k2])
  have HE3 := Lib.hid (enc_yes k1).2
  have HF2 := Lib.hid k3
  have HDS := Lib.hid hd
  clear k1 k2 k3 hd
  clear hv hf hs hm hb hr
  go_enter Tryd.func4, Tryd.ntmps4
  go_wp2_with fail
  refine HT.out.mono ?_
  rintro e w' ⟨rfl, rfl⟩
  clear HT
  go_wp2
  go_loopw [6, 7] (fun b i wr => ∃ k : Nat, k ≤ l.length ∧ i = .int .i64 k ∧ b = .bool (rightL (l.take k)) ∧ Below w.heap.size w wr) (fun _ i _ => l.length - (intOf i).toNat)
  case atStart => exact ⟨0, by omega, rfl, rfl, Below.refl _ _⟩
  case round =>
    obtain ⟨k, hk, rfl, rfl, hbel⟩ := hrel
    have hz := hbel.size
    have HL := Lib.hid hbel
    have VA := Lib.hid (HV.out.below hbel)
    clear hbel
    by_cases hkl : k < l.length
    · obtain ⟨ad, hA, ha, c0, c1, c2⟩ := VA.out k hkl
      subst hA
      have HR2 := Lib.hid (rightL_snoc l k hkl)
      obtain ⟨bp, hbp⟩ : ∃ b, rightL (l.take k) = b := ⟨_, rfl⟩
      obtain ⟨bq, hbq⟩ : ∃ b, rightB l[k].1 l[k].2.1 l[k].2.2 = b := ⟨_, rfl⟩
      have HQ := Lib.hid (rright_is l[k].1 l[k].2.1 l[k].2.2 bq hbq)
      have HB := Lib.hid (show rightL (l.take (k + 1)) = (bp && bq) by rw [HR2.out, hbp]; exact congrArg (bp && ·) hbq)
      rw [hbp]
      clear hbp hbq
      cases bp
      all_goals
        go_wp2_with fail
        refine (HQ.out _).mono ?_
        rintro e w1 ⟨rfl, hb1⟩
        have L1 := Lib.hid (bnext HL.out hz hb1)
        clear hb1
        go_wp2
        go_roundw
        case rel => exact ⟨k + 1, by omega, by go_num, by rw [HB.out]; cases bq <;> rfl, L1.out⟩
        case measure => simp [intOf]; omega
    · obtain rfl : k = l.length := by omega
      rw [List.take_length, HR.out] at *
      go_wp2_with fail
      refine (encode_is A cap l _ _ HX.out.1 HX.out.2 m _ ((HV.out.below HL.out).more HL.out.size) HF.out (by omega) (by rw [HL.out.cell (p := ⟨0, 0, none⟩) hlt]; exact HM.out)).mono ?_
      rintro e w1 ⟨rfl, hb1⟩
      have L1 := Lib.hid (bnext HL.out hz hb1)
      clear hb1
      go_wp2_with fail
      refine (decode_is _ _ HD.out m _ hsz (by rw [L1.out.cell (p := ⟨0, 0, none⟩) hlt]; exact HM.out)).mono ?_
      rintro e w2 ⟨B, cb, rfl, hvb, hb2⟩
      have VB := Lib.hid hvb
      have L2 := Lib.hid (bnext L1.out L1.out.size hb2)
      have M2 := Lib.hid (show w2.cell? ⟨0, 0, none⟩ = some (.int .i64 m) by rw [L2.out.cell (p := ⟨0, 0, none⟩) hlt]; exact HM.out)
      clear hvb hb2
      go_wp2_with fail
      refine (same_is A B cap cb l _ ((HV.out.below L2.out).more L2.out.size) VB.out (by omega)).mono ?_
      rintro e w3 ⟨rfl, hb3⟩
      have L3 := Lib.hid (bnext L2.out L2.out.size hb3)
      clear hb3
      go_wp2_with fail
      refine (decode_is s L HDS.out m _ (by omega) (by rw [L3.out.cell (p := ⟨0, 0, none⟩) hlt]; exact HM.out)).mono ?_
      rintro e w4 ⟨D, cd, rfl, hvd, hb4⟩
      have VD := Lib.hid hvd
      have L4 := Lib.hid (bnext L3.out L3.out.size hb4)
      clear hvd hb4
      go_wp2_with fail
      refine (encode_is D cd L _ _ HE2.out HE3.out m _ VD.out HF2.out (by omega) (by rw [L4.out.cell (p := ⟨0, 0, none⟩) hlt]; exact HM.out)).mono ?_
      rintro e w5 ⟨rfl, hb5⟩
      have L5 := Lib.hid (bnext L4.out L4.out.size hb5)
      clear hb5
      go_wp2_with fail
      refine (alive_any m _ (by rw [L5.out.cell (p := ⟨0, 0, none⟩) hlt]; exact HM.out)).mono ?_
      rintro e w6 ⟨rfl, hb6⟩
      have L6 := Lib.hid (bnext L5.out L5.out.size hb6)
      clear hb6
      go_wp2
      go_ret
      exact ⟨by first | rfl | simp, L6.out⟩
set_option maxHeartbeats 8000000 in
set_option maxRecDepth 100000 in
theorem walkRN (A : Option Addr) (cap : Nat) (l : List (Int × Int × ByteArray)) (s : ByteArray) (m : Int) (w : World) (hv : Vals w w.heap.size A l) (hf : FitL l) (hs : Short l) (h20 : l.length ≤ 20) (hb : fitsB l = true) (h6 : s.size ≤ 600) (hr : rightL l = true) (hd : decP s.data.toList = none) (hm : w.cell? ⟨0, 0, none⟩ = some (.int .i64 m)) :
    Calls Tryd.prog 4 #[.slice A l.length cap, .string s] w fun e w' => e = .returned (.bool true) ∧ Below w.heap.size w w' := by
  have hlt : 0 < w.heap.size := World.block_lt_of_cell? _ _ hm
  have h600 : decide ((600 : Int) < (s.size : Int)) = false := by simp; omega
  have HT := Lib.hid (fits_is A cap l true hb w hv hs (by omega))
  have HF := Lib.hid hf
  have HV := Lib.hid hv
  have HM := Lib.hid hm
  have HR := Lib.hid hr
  have HX := Lib.hid (enc_yes hr)
  have HD := Lib.hid (show decP (⟨(encL l).toArray⟩ : ByteArray).data.toList = some l from dec_enc hr hf)
  have hsz : (⟨(encL l).toArray⟩ : ByteArray).size ≤ 1000000 := by have := encL_length hr; show (encL l).length ≤ _; omega
  have HDS := Lib.hid hd
  clear hd
  clear hv hf hs hm hb hr
  go_enter Tryd.func4, Tryd.ntmps4
  go_wp2_with fail
  refine HT.out.mono ?_
  rintro e w' ⟨rfl, rfl⟩
  clear HT
  go_wp2
  go_loopw [6, 7] (fun b i wr => ∃ k : Nat, k ≤ l.length ∧ i = .int .i64 k ∧ b = .bool (rightL (l.take k)) ∧ Below w.heap.size w wr) (fun _ i _ => l.length - (intOf i).toNat)
  case atStart => exact ⟨0, by omega, rfl, rfl, Below.refl _ _⟩
  case round =>
    obtain ⟨k, hk, rfl, rfl, hbel⟩ := hrel
    have hz := hbel.size
    have HL := Lib.hid hbel
    have VA := Lib.hid (HV.out.below hbel)
    clear hbel
    by_cases hkl : k < l.length
    · obtain ⟨ad, hA, ha, c0, c1, c2⟩ := VA.out k hkl
      subst hA
      have HR2 := Lib.hid (rightL_snoc l k hkl)
      obtain ⟨bp, hbp⟩ : ∃ b, rightL (l.take k) = b := ⟨_, rfl⟩
      obtain ⟨bq, hbq⟩ : ∃ b, rightB l[k].1 l[k].2.1 l[k].2.2 = b := ⟨_, rfl⟩
      have HQ := Lib.hid (rright_is l[k].1 l[k].2.1 l[k].2.2 bq hbq)
      have HB := Lib.hid (show rightL (l.take (k + 1)) = (bp && bq) by rw [HR2.out, hbp]; exact congrArg (bp && ·) hbq)
      rw [hbp]
      clear hbp hbq
      cases bp
      all_goals
        go_wp2_with fail
        refine (HQ.out _).mono ?_
        rintro e w1 ⟨rfl, hb1⟩
        have L1 := Lib.hid (bnext HL.out hz hb1)
        clear hb1
        go_wp2
        go_roundw
        case rel => exact ⟨k + 1, by omega, by go_num, by rw [HB.out]; cases bq <;> rfl, L1.out⟩
        case measure => simp [intOf]; omega
    · obtain rfl : k = l.length := by omega
      rw [List.take_length, HR.out] at *
      go_wp2_with fail
      refine (encode_is A cap l _ _ HX.out.1 HX.out.2 m _ ((HV.out.below HL.out).more HL.out.size) HF.out (by omega) (by rw [HL.out.cell (p := ⟨0, 0, none⟩) hlt]; exact HM.out)).mono ?_
      rintro e w1 ⟨rfl, hb1⟩
      have L1 := Lib.hid (bnext HL.out hz hb1)
      clear hb1
      go_wp2_with fail
      refine (decode_is _ _ HD.out m _ hsz (by rw [L1.out.cell (p := ⟨0, 0, none⟩) hlt]; exact HM.out)).mono ?_
      rintro e w2 ⟨B, cb, rfl, hvb, hb2⟩
      have VB := Lib.hid hvb
      have L2 := Lib.hid (bnext L1.out L1.out.size hb2)
      have M2 := Lib.hid (show w2.cell? ⟨0, 0, none⟩ = some (.int .i64 m) by rw [L2.out.cell (p := ⟨0, 0, none⟩) hlt]; exact HM.out)
      clear hvb hb2
      go_wp2_with fail
      refine (same_is A B cap cb l _ ((HV.out.below L2.out).more L2.out.size) VB.out (by omega)).mono ?_
      rintro e w3 ⟨rfl, hb3⟩
      have L3 := Lib.hid (bnext L2.out L2.out.size hb3)
      clear hb3
      go_wp2_with fail
      refine (decode_not s HDS.out m _ (by omega) (by rw [L3.out.cell (p := ⟨0, 0, none⟩) hlt]; exact HM.out)).mono ?_
      rintro e w4 ⟨D, cd, rfl, hb4⟩
      have L4 := Lib.hid (bnext L3.out L3.out.size hb4)
      clear hb4
      go_wp2_with fail
      refine (encode_is D cd [] _ _ rfl rfl m _ (fun i hi => absurd hi (Nat.not_lt_zero _)) (fun x hx => (by cases hx)) (by decide) (by rw [L4.out.cell (p := ⟨0, 0, none⟩) hlt]; exact HM.out)).mono ?_
      rintro e w5 ⟨rfl, hb5⟩
      have L5 := Lib.hid (bnext L4.out L4.out.size hb5)
      clear hb5
      go_wp2_with fail
      refine (alive_any m _ (by rw [L5.out.cell (p := ⟨0, 0, none⟩) hlt]; exact HM.out)).mono ?_
      rintro e w6 ⟨rfl, hb6⟩
      have L6 := Lib.hid (bnext L5.out L5.out.size hb6)
      clear hb6
      go_wp2
      go_ret
      exact ⟨by first | rfl | simp, L6.out⟩
set_option maxHeartbeats 8000000 in
set_option maxRecDepth 100000 in
theorem walkWS (A : Option Addr) (cap : Nat) (l : List (Int × Int × ByteArray)) (s : ByteArray) (m : Int) (w : World) (hv : Vals w w.heap.size A l) (hf : FitL l) (hs : Short l) (h20 : l.length ≤ 20) (hb : fitsB l = true) (h6 : s.size ≤ 600) (hr : rightL l = false) (L : List (Int × Int × ByteArray)) (hd : decP s.data.toList = some L) (hm : w.cell? ⟨0, 0, none⟩ = some (.int .i64 m)) :
    Calls Tryd.prog 4 #[.slice A l.length cap, .string s] w fun e w' => e = .returned (.bool true) ∧ Below w.heap.size w w' := by
  have hlt : 0 < w.heap.size := World.block_lt_of_cell? _ _ hm
  have h600 : decide ((600 : Int) < (s.size : Int)) = false := by simp; omega
  have HT := Lib.hid (fits_is A cap l true hb w hv hs (by omega))
  have HF := Lib.hid hf
  have HV := Lib.hid hv
  have HM := Lib.hid hm
  have HR := Lib.hid hr
  have HX := Lib.hid (enc_no hr)
  have HD := Lib.hid (show decP (⟨#[]⟩ : ByteArray).data.toList = some [] from decP_nil)
  obtain ⟨k1, k2, k3⟩ := enc_dec s.data.toList.length (Nat.le_refl _) hd
  have hL := some_length hd
  have HE2 := Lib.hid (show encS L = s by rw [(enc_yes k1).1, k2])
  have HE3 := Lib.hid (enc_yes k1).2
  have HF2 := Lib.hid k3
  have HDS := Lib.hid hd
  clear k1 k2 k3 hd
  clear hv hf hs hm hb hr
  go_enter Tryd.func4, Tryd.ntmps4
  go_wp2_with fail
  refine HT.out.mono ?_
  rintro e w' ⟨rfl, rfl⟩
  clear HT
  go_wp2
  go_loopw [6, 7] (fun b i wr => ∃ k : Nat, k ≤ l.length ∧ i = .int .i64 k ∧ b = .bool (rightL (l.take k)) ∧ Below w.heap.size w wr) (fun _ i _ => l.length - (intOf i).toNat)
  case atStart => exact ⟨0, by omega, rfl, rfl, Below.refl _ _⟩
  case round =>
    obtain ⟨k, hk, rfl, rfl, hbel⟩ := hrel
    have hz := hbel.size
    have HL := Lib.hid hbel
    have VA := Lib.hid (HV.out.below hbel)
    clear hbel
    by_cases hkl : k < l.length
    · obtain ⟨ad, hA, ha, c0, c1, c2⟩ := VA.out k hkl
      subst hA
      have HR2 := Lib.hid (rightL_snoc l k hkl)
      obtain ⟨bp, hbp⟩ : ∃ b, rightL (l.take k) = b := ⟨_, rfl⟩
      obtain ⟨bq, hbq⟩ : ∃ b, rightB l[k].1 l[k].2.1 l[k].2.2 = b := ⟨_, rfl⟩
      have HQ := Lib.hid (rright_is l[k].1 l[k].2.1 l[k].2.2 bq hbq)
      have HB := Lib.hid (show rightL (l.take (k + 1)) = (bp && bq) by rw [HR2.out, hbp]; exact congrArg (bp && ·) hbq)
      rw [hbp]
      clear hbp hbq
      cases bp
      all_goals
        go_wp2_with fail
        refine (HQ.out _).mono ?_
        rintro e w1 ⟨rfl, hb1⟩
        have L1 := Lib.hid (bnext HL.out hz hb1)
        clear hb1
        go_wp2
        go_roundw
        case rel => exact ⟨k + 1, by omega, by go_num, by rw [HB.out]; cases bq <;> rfl, L1.out⟩
        case measure => simp [intOf]; omega
    · obtain rfl : k = l.length := by omega
      rw [List.take_length, HR.out] at *
      go_wp2_with fail
      refine (encode_is A cap l _ _ HX.out.1 HX.out.2 m _ ((HV.out.below HL.out).more HL.out.size) HF.out (by omega) (by rw [HL.out.cell (p := ⟨0, 0, none⟩) hlt]; exact HM.out)).mono ?_
      rintro e w1 ⟨rfl, hb1⟩
      have L1 := Lib.hid (bnext HL.out hz hb1)
      clear hb1
      go_wp2_with fail
      refine (decode_is _ _ HD.out m _ (by decide) (by rw [L1.out.cell (p := ⟨0, 0, none⟩) hlt]; exact HM.out)).mono ?_
      rintro e w2 ⟨B, cb, rfl, hvb, hb2⟩
      have VB := Lib.hid hvb
      have L2 := Lib.hid (bnext L1.out L1.out.size hb2)
      have M2 := Lib.hid (show w2.cell? ⟨0, 0, none⟩ = some (.int .i64 m) by rw [L2.out.cell (p := ⟨0, 0, none⟩) hlt]; exact HM.out)
      clear hvb hb2
      have L3 := L2
      go_wp2_with fail
      refine (decode_is s L HDS.out m _ (by omega) (by rw [L3.out.cell (p := ⟨0, 0, none⟩) hlt]; exact HM.out)).mono ?_
      rintro e w4 ⟨D, cd, rfl, hvd, hb4⟩
      have VD := Lib.hid hvd
      have L4 := Lib.hid (bnext L3.out L3.out.size hb4)
      clear hvd hb4
      go_wp2_with fail
      refine (encode_is D cd L _ _ HE2.out HE3.out m _ VD.out HF2.out (by omega) (by rw [L4.out.cell (p := ⟨0, 0, none⟩) hlt]; exact HM.out)).mono ?_
      rintro e w5 ⟨rfl, hb5⟩
      have L5 := Lib.hid (bnext L4.out L4.out.size hb5)
      clear hb5
      go_wp2_with fail
      refine (alive_any m _ (by rw [L5.out.cell (p := ⟨0, 0, none⟩) hlt]; exact HM.out)).mono ?_
      rintro e w6 ⟨rfl, hb6⟩
      have L6 := Lib.hid (bnext L5.out L5.out.size hb6)
      clear hb6
      go_wp2
      go_ret
      exact ⟨by first | rfl | simp, L6.out⟩
set_option maxHeartbeats 8000000 in
set_option maxRecDepth 100000 in
theorem walkWN (A : Option Addr) (cap : Nat) (l : List (Int × Int × ByteArray)) (s : ByteArray) (m : Int) (w : World) (hv : Vals w w.heap.size A l) (hf : FitL l) (hs : Short l) (h20 : l.length ≤ 20) (hb : fitsB l = true) (h6 : s.size ≤ 600) (hr : rightL l = false) (hd : decP s.data.toList = none) (hm : w.cell? ⟨0, 0, none⟩ = some (.int .i64 m)) :
    Calls Tryd.prog 4 #[.slice A l.length cap, .string s] w fun e w' => e = .returned (.bool true) ∧ Below w.heap.size w w' := by
  have hlt : 0 < w.heap.size := World.block_lt_of_cell? _ _ hm
  have h600 : decide ((600 : Int) < (s.size : Int)) = false := by simp; omega
  have HT := Lib.hid (fits_is A cap l true hb w hv hs (by omega))
  have HF := Lib.hid hf
  have HV := Lib.hid hv
  have HM := Lib.hid hm
  have HR := Lib.hid hr
  have HX := Lib.hid (enc_no hr)
  have HD := Lib.hid (show decP (⟨#[]⟩ : ByteArray).data.toList = some [] from decP_nil)
  have HDS := Lib.hid hd
  clear hd
  clear hv hf hs hm hb hr
  go_enter Tryd.func4, Tryd.ntmps4
  go_wp2_with fail
  refine HT.out.mono ?_
  rintro e w' ⟨rfl, rfl⟩
  clear HT
  go_wp2
  go_loopw [6, 7] (fun b i wr => ∃ k : Nat, k ≤ l.length ∧ i = .int .i64 k ∧ b = .bool (rightL (l.take k)) ∧ Below w.heap.size w wr) (fun _ i _ => l.length - (intOf i).toNat)
  case atStart => exact ⟨0, by omega, rfl, rfl, Below.refl _ _⟩
  case round =>
    obtain ⟨k, hk, rfl, rfl, hbel⟩ := hrel
    have hz := hbel.size
    have HL := Lib.hid hbel
    have VA := Lib.hid (HV.out.below hbel)
    clear hbel
    by_cases hkl : k < l.length
    · obtain ⟨ad, hA, ha, c0, c1, c2⟩ := VA.out k hkl
      subst hA
      have HR2 := Lib.hid (rightL_snoc l k hkl)
      obtain ⟨bp, hbp⟩ : ∃ b, rightL (l.take k) = b := ⟨_, rfl⟩
      obtain ⟨bq, hbq⟩ : ∃ b, rightB l[k].1 l[k].2.1 l[k].2.2 = b := ⟨_, rfl⟩
      have HQ := Lib.hid (rright_is l[k].1 l[k].2.1 l[k].2.2 bq hbq)
      have HB := Lib.hid (show rightL (l.take (k + 1)) = (bp && bq) by rw [HR2.out, hbp]; exact congrArg (bp && ·) hbq)
      rw [hbp]
      clear hbp hbq
      cases bp
      all_goals
        go_wp2_with fail
        refine (HQ.out _).mono ?_
        rintro e w1 ⟨rfl, hb1⟩
        have L1 := Lib.hid (bnext HL.out hz hb1)
        clear hb1
        go_wp2
        go_roundw
        case rel => exact ⟨k + 1, by omega, by go_num, by rw [HB.out]; cases bq <;> rfl, L1.out⟩
        case measure => simp [intOf]; omega
    · obtain rfl : k = l.length := by omega
      rw [List.take_length, HR.out] at *
      go_wp2_with fail
      refine (encode_is A cap l _ _ HX.out.1 HX.out.2 m _ ((HV.out.below HL.out).more HL.out.size) HF.out (by omega) (by rw [HL.out.cell (p := ⟨0, 0, none⟩) hlt]; exact HM.out)).mono ?_
      rintro e w1 ⟨rfl, hb1⟩
      have L1 := Lib.hid (bnext HL.out hz hb1)
      clear hb1
      go_wp2_with fail
      refine (decode_is _ _ HD.out m _ (by decide) (by rw [L1.out.cell (p := ⟨0, 0, none⟩) hlt]; exact HM.out)).mono ?_
      rintro e w2 ⟨B, cb, rfl, hvb, hb2⟩
      have VB := Lib.hid hvb
      have L2 := Lib.hid (bnext L1.out L1.out.size hb2)
      have M2 := Lib.hid (show w2.cell? ⟨0, 0, none⟩ = some (.int .i64 m) by rw [L2.out.cell (p := ⟨0, 0, none⟩) hlt]; exact HM.out)
      clear hvb hb2
      have L3 := L2
      go_wp2_with fail
      refine (decode_not s HDS.out m _ (by omega) (by rw [L3.out.cell (p := ⟨0, 0, none⟩) hlt]; exact HM.out)).mono ?_
      rintro e w4 ⟨D, cd, rfl, hb4⟩
      have L4 := Lib.hid (bnext L3.out L3.out.size hb4)
      clear hb4
      go_wp2_with fail
      refine (encode_is D cd [] _ _ rfl rfl m _ (fun i hi => absurd hi (Nat.not_lt_zero _)) (fun x hx => (by cases hx)) (by decide) (by rw [L4.out.cell (p := ⟨0, 0, none⟩) hlt]; exact HM.out)).mono ?_
      rintro e w5 ⟨rfl, hb5⟩
      have L5 := Lib.hid (bnext L4.out L4.out.size hb5)
      clear hb5
      go_wp2_with fail
      refine (alive_any m _ (by rw [L5.out.cell (p := ⟨0, 0, none⟩) hlt]; exact HM.out)).mono ?_
      rintro e w6 ⟨rfl, hb6⟩
      have L6 := Lib.hid (bnext L5.out L5.out.size hb6)
      clear hb6
      go_wp2
      go_ret
      exact ⟨by first | rfl | simp, L6.out⟩
set_option maxHeartbeats 1000000 in
theorem walk (A : Option Addr) (cap : Nat) (l : List (Int × Int × ByteArray)) (s : ByteArray) (m : Int) (w : World) (hv : Vals w w.heap.size A l) (hf : FitL l) (hs : Short l) (hl : l.length ≤ 4398046511104) (_ : s.size ≤ maxLen) (hm : w.cell? ⟨0, 0, none⟩ = some (.int .i64 m)) :
    Calls Tryd.prog 4 #[.slice A l.length cap, .string s] w fun e w' => e = .returned (.bool true) ∧ Below w.heap.size w w' := by
  by_cases hb : fitsB l = true
  · have h20 : l.length ≤ 20 := by unfold fitsB at hb; simp at hb; exact hb.1
    by_cases h6 : s.size ≤ 600
    · cases hr : rightL l with
      | true =>
        cases hd : decP s.data.toList with
        | none => exact walkRN A cap l s m w hv hf hs h20 hb h6 hr hd hm
        | some L => exact walkRS A cap l s m w hv hf hs h20 hb h6 hr L hd hm
      | false =>
        cases hd : decP s.data.toList with
        | none => exact walkWN A cap l s m w hv hf hs h20 hb h6 hr hd hm
        | some L => exact walkWS A cap l s m w hv hf hs h20 hb h6 hr L hd hm
    · have h600 : decide ((600 : Int) < (s.size : Int)) = true := by simp; omega
      have HT := Lib.hid (fits_is A cap l true hb w hv hs (by omega))
      have HA := Lib.hid (alive_any m w hm)
      clear hv hf hs hm hb h6
      go_enter Tryd.func4, Tryd.ntmps4
      go_wp2_with fail
      refine HT.out.mono ?_
      rintro e w' ⟨rfl, rfl⟩
      go_wp2_with fail
      refine HA.out.mono ?_
      rintro e w1 ⟨rfl, hb1⟩
      have L1 := Lib.hid hb1
      clear hb1
      go_wp2
      go_ret
      exact ⟨rfl, L1.out⟩
  · have HT := Lib.hid (fits_is A cap l false (by simpa using hb) w hv hs (by omega))
    have HA := Lib.hid (alive_any m w hm)
    clear hv hf hs hm hb
    go_enter Tryd.func4, Tryd.ntmps4
    go_wp2_with fail
    refine HT.out.mono ?_
    rintro e w' ⟨rfl, rfl⟩
    go_wp2_with fail
    refine HA.out.mono ?_
    rintro e w1 ⟨rfl, hb1⟩
    have L1 := Lib.hid hb1
    clear hb1
    go_wp2
    go_ret
    exact ⟨rfl, L1.out⟩
end Go.Proofs.YtmaecoidoejipaaDoor.codeBack
