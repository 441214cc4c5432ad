/- PlanSchemasWalk -/
import Derived.Test.YthpmgnfmeldkjaaGreatDoorSm27
import Derived.Test.YthpmgnfmeldkjaaGreatDoorSm28
open Go.Lib (hid)
namespace Go.Proofs.YthpmgnfmeldkjaaGreatDoor.planSchemas
open Go.ChangeShapes Go.WideShapes Go.ChangeAt Go.RowKit Val Elems Go.Proofs.YthpmgnfmeldkjaaGreatDoor.Code
set_option linter.unusedVariables false
set_option linter.unusedSimpArgs false
theorem tabs_small {l : List Tab} (h : tabsOk l = true) : l.length ≤ 10 ∧ TabB l ∧ ∀ t ∈ l, t.2.length ≤ 20 ∧ (∀ c ∈ t.2, c.2.1.length ≤ 100) ∧ t.1.length ≤ 100 := by
 unfold tabsOk at h
 rw [Bool.and_eq_true, List.all_eq_true] at h
 have h1 : l.length ≤ 10 := of_decide_eq_true h.1
 have h2 : ∀ t ∈ l, t.2.length ≤ 20 ∧ (∀ c ∈ t.2, c.2.1.length ≤ 100) ∧ t.1.length ≤ 100 := fun t ht => by
  have h3 := h.2 t ht
  unfold tabOk smallC at h3
  rw [Bool.and_eq_true, Bool.and_eq_true, List.all_eq_true] at h3
  exact ⟨of_decide_eq_true h3.1.1, fun c hc => of_decide_eq_true (h3.1.2 c hc), of_decide_eq_true h3.2⟩
 exact ⟨h1, ⟨by omega, fun t ht => ⟨by have := (h2 t ht).1; omega, fun c hc => by have := (h2 t ht).2.1 c hc; omega⟩⟩, h2⟩
theorem any_take {l : List Tab} (s : List UInt8) (k : Nat) (h : k < l.length) : ((l.take (k + 1)).any fun t => t.1 == s) = (((l.take k).any fun t => t.1 == s) || (l[k].1 == s)) := by
 rw [List.take_succ_eq_append_getElem h, List.any_append]
 simp
set_option maxHeartbeats 16000000 in
set_option maxRecDepth 100000 in
theorem walk (t : Nod) (op tx : ByteArray) (X : Option Addr) (n k : Nat) (A : Option Addr) (cap : Nat) (l : List Tab) (m : Int) (w : World) (hn : RIn w (fun g => g < w.heap.size) t (op, tx, X, n, k)) (ht : t.tot ≤ 1048576)
  (hv : TabsAt w w.heap.size A l) (hl : l.length ≤ 1048576) (hc : ∀ x ∈ l, x.1.length ≤ 1048576 ∧ x.2.length ≤ 1048576 ∧ ∀ c ∈ x.2, c.2.1.length ≤ 1048576) (hg : Glob w.heap.size m w) :
  Calls Tryz.prog 4 #[.agg #[.string op, .string tx, .slice X n k], .slice A l.length cap] w fun e w' => e = .returned (.bool true) ∧ Below w.heap.size w w' := by
 have HAL := hid (fun (w' : World) (hb : Below w.heap.size w w') => live14_any m w' (hg.next hb))
 have HTL := hid (fun (w' : World) (hb : Below w.heap.size w w') => ltabs_any A cap l w' (hv.next hb) hl (fun x hx => (hc x hx).2.1))
 have HSZ := hid (fun (w' : World) (hb : Below w.heap.size w w') => size_any t.deep t (Nat.le_refl _) ht (fun g => g < w.heap.size) op tx X n k w' (fun g h => Nat.lt_of_lt_of_le h hb.size) (hn.bel (fun g h => h) hb))
 have HV := hid (fun (w' : World) (hb : Below w.heap.size w w') => hv.next hb)
 have HC := hid hc
 have HOF := hid (fun (h1 : TabB l) (h2 : t.tot ≤ 1000) (w' : World) (hb : Below w.heap.size w w') => pof_any l h1 t (fun g => g < w.heap.size) op tx X n k A cap m w' (fun g h => Nat.lt_of_lt_of_le h hb.size) (hn.bel (fun g h => h) hb) (hv.next hb) (hg.next hb).cell h2)
 obtain ⟨w0, hw0⟩ : ∃ w0, w.alloc (.cells #[.string op, .string tx, .slice X n k] 24) = w0 := ⟨_, rfl⟩
 have V0 := hid (show NBox w0 w.heap.size (.string op) (.string tx) (.slice X n k) by rw [← hw0]; exact NBox.fresh _ _ _ _ _)
 have B0 := hid (show Below w.heap.size w w0 by rw [← hw0]; exact below_alloc _ _)
 have HW0 := hid hw0
 clear hn ht hv hc hg hw0
 obtain ⟨b, hb⟩ : ∃ b, tabsOk l = b := ⟨_, rfl⟩
 rw [hb] at HTL
 have HB := hid hb
 clear hb
 go_enter Tryz.func4, Tryz.ntmps4
 go_upto_region 1 with fail
 rw [HW0.out]
 go_wp2_with fail
 refine (HTL.out w0 B0.out).mono ?_
 rintro e w1 ⟨rfl, hb1⟩
 have L1 := hid (B0.out.trans (hb1.mono B0.out.size))
 have V1 := hid (V0.out.below hb1)
 clear hb1 HTL HW0
 cases b
 case false =>
  go_wp2_with fail
  refine (HAL.out w1 L1.out).mono ?_
  rintro e w2 ⟨rfl, hb2⟩
  have L2 := hid (L1.out.trans (hb2.mono L1.out.size))
  clear hb2
  go_wp2
  go_ret
  exact ⟨rfl, L2.out⟩
 case true =>
 obtain ⟨x0, x1, x2, xf⟩ := V1.out
 go_wp2_with fail
 refine (HSZ.out w1 L1.out).mono ?_
 rintro e w2 ⟨K, rfl, hK1, hK2, hb2⟩
 have L2 := hid (L1.out.trans (hb2.mono L1.out.size))
 have V2 := hid (V1.out.below hb2)
 have HK2 := hid hK2
 clear hb2 hK1 hK2 HSZ x0 x1 x2 xf
 by_cases hK : 400 < K
 case pos =>
  have hKi : (400 : Int) < (K : Int) := by omega
  go_wp2_with fail
  refine (HAL.out w2 L2.out).mono ?_
  rintro e w3 ⟨rfl, hb3⟩
  have L3 := hid (L2.out.trans (hb3.mono L2.out.size))
  clear hb3
  go_wp2
  go_ret
  exact ⟨rfl, L3.out⟩
 have hKi : decide ((400 : Int) < (K : Int)) = false := decide_eq_false (by omega)
 have HTOT := hid (show t.tot ≤ 1000 by have := HK2.out (by omega); omega)
 obtain ⟨hl10, htb, hsm⟩ := tabs_small HB.out
 have HTB := hid htb
 have HSM := hid hsm
 have HHK := hid hK
 clear HK2 htb hsm HB HC
 go_wp2
 go_loopw [6] (fun t' wr => ∃ (i : Nat), i ≤ l.length ∧ t' = .int .i64 i ∧ (∀ j (hj : j < l.length), j < i → schC l[j].2 = true) ∧ Below w2.heap.size w2 wr) (fun t' _ => l.length - (intOf t').toNat)
 case atStart => exact ⟨0, by omega, rfl, fun j _ h => absurd h (by omega), Below.refl _ _⟩
 case round =>
  obtain ⟨i, hi, rfl, hyes, hbel⟩ := hrel
  have HY := hid hyes
  have LB := hid hbel
  have LW := hid (L2.out.trans (hbel.mono L2.out.size))
  have VR := hid (V2.out.below hbel)
  clear hbel hyes hKi hK
  by_cases hil : i < l.length
  ·obtain ⟨ad, ⟨s1, s2, s3⟩, rfl, ga, c0, c1, hs2, hs3, hs4⟩ := (HV.out wr LW.out) i hil
   dsimp only at c0 c1 hs2 hs3 hs4
   have hsl := HSM.out _ (List.getElem_mem hil)
   have HR := hid (rright12_any s1 s3 l[i].2 wr hs3 (by omega) (fun c hc => by have := hsl.2.1 c hc; omega))
   rw [← hs2] at HR
   obtain ⟨b, hb⟩ : ∃ b, schC l[i].2 = b := ⟨_, rfl⟩
   rw [hb] at HR
   have HB := hid hb
   clear c0 hs2 hs3 hs4 hsl hb
   go_wp2_with fail
   refine HR.out.mono ?_
   rintro e w3 ⟨rfl, hb3⟩
   have B3 := hid (LB.out.trans (hb3.mono LB.out.size))
   have L3 := hid (L2.out.trans (B3.out.mono L2.out.size))
   clear hb3 HR c1
   cases b
   case false =>
    go_wp2_with fail
    refine (HAL.out w3 L3.out).mono ?_
    rintro e w4 ⟨rfl, hb4⟩
    have L4 := hid (L3.out.trans (hb4.mono L3.out.size))
    clear hb4
    go_wp2
    go_ret
    exact ⟨rfl, L4.out⟩
   case true =>
    go_wp2
    go_roundw
    case rel => exact ⟨i + 1, by omega, by go_num, fun j hj h => if e : j = i then by subst e; exact HB.out else HY.out j hj (by omega), B3.out⟩
    case measure => simp [intOf]; omega
  ·obtain rfl : i = l.length := by omega
   have HSC := hid (show ∀ x ∈ l, schC x.2 = true from fun x hx => by obtain ⟨j, hj, rfl⟩ := List.getElem_of_mem hx; exact HY.out j hj hj)
   have HO := hid (HOF.out HTB.out HTOT.out wr LW.out)
   have HGD := hid (planP_good HSC.out t)
   have HFT := hid (fun h => plan_fit HTB.out t h HTOT.out)
   have HFR := hid (fun h => (planP_fin (tabs := l) (t := t) h).2.2)
   obtain ⟨R, hR⟩ : ∃ R, planP l t = R := ⟨_, rfl⟩
   rw [hR] at HO HGD HFT HFR
   obtain ⟨⟨rp, rf⟩, rc⟩ := R
   unfold OfPost plcs at HO
   dsimp only at HO HGD HFT HFR
   obtain ⟨x0, x1, x2, xf⟩ := VR.out
   clear hR HY HOF HSC hi
   go_wp2_with fail
   refine HO.out.mono ?_
   rintro e w4 ⟨x, rfl, hb4, hok, hbd⟩
   obtain ⟨w5, hw5⟩ : ∃ w5, w4.alloc (.cells (plcs x) 35) = w5 := ⟨_, rfl⟩
   have B5 := hid (show Below w4.heap.size w4 w5 by rw [← hw5]; exact below_alloc _ _)
   have P5 := hid (show PBox w5 w4.heap.size x by rw [← hw5]; exact PBox.fresh _ _ _)
   have L4 := hid (LW.out.trans (hb4.mono LW.out.size))
   have L5 := hid (L4.out.trans (B5.out.mono L4.out.size))
   have HOK := hid hok
   have HBD := hid hbd
   unfold plcs at hw5
   have HW5 := hid hw5
   clear hb4 hok hbd hw5 x0 x1 x2 xf HO
   go_upto_region 11 with fail
   rw [HW5.out]
   by_cases hrc : rc = 0
   case neg =>
    have f1 : (rc != 0) = true := by simpa using hrc
    obtain rfl := HBD.out hrc
    obtain ⟨p0, p1, p2, p3, p4, p5, p6, p7, pf⟩ := P5.out
    unfold zPV zSl at p0 p2
    dsimp only at p0 p2
    have P6 := hid (fun (w6 : World) (hb : Below w5.heap.size w5 w6) => P5.out.below hb)
    clear p1 p3 p4 p5 p6 p7 pf hrc p0 p2
    go_wp2_with fail
    refine (HAL.out w5 L5.out).mono ?_
    rintro e w6 ⟨rfl, hb6⟩
    have L6 := hid (L5.out.trans (hb6.mono L5.out.size))
    obtain ⟨p0, p1, p2, p3, p4, p5, p6, p7, pf⟩ := P6.out w6 hb6
    unfold zPV zSl at p0 p2
    dsimp only at p0 p2
    clear hb6 p1 p3 p4 p5 p6 p7 pf
    go_wp2
    go_ret
    exact ⟨rfl, L6.out⟩
   subst hrc
   have hgd := HGD.out (by first | exact rfl | exact trivial)
   have HPL := hid hgd.places
   have hft := HFT.out (by first | exact rfl | exact trivial)
   have HFI := hid hft
   have hfr := HFR.out (by first | exact rfl | exact trivial)
   have hpi := (HOK.out (by first | exact rfl | exact trivial)).bel (fun b h => h.2) B5.out
   have hz45 := B5.out.size
   have HPI := hid hpi
   have HTA := hid (ptabs_any rp _ x w5 (fun b h => Nat.lt_of_lt_of_le h.2 hz45) hpi hft hgd.some (by have := hgd.few; omega))
   have hln := tabs_le (namesP rp)
   have hls := tabs_some (L := namesP rp) hgd.some
   have hfw := hgd.few
   have HME := hid (fun s (h : s ∈ tabsL (namesP rp)) => hgd.names s (tabs_mem h))
   have HLE := hid (show ∀ (i : Nat) (h0 : i < (tabsL (namesP rp)).length) (h : i + 1 < (tabsL (namesP rp)).length), Op.bytesLess ((tabsL (namesP rp))[i]'h0) ((tabsL (namesP rp))[i + 1]'h) = true from fun i h0 h => tabs_less (namesP rp) i h)
   obtain ⟨L, hL⟩ : ∃ L, tabsL (namesP rp) = L := ⟨_, rfl⟩
   rw [hL] at HTA HME HLE hln hls
   have hL1 : 1 ≤ L.length := hls
   have hL4 : L.length ≤ 4 := by omega
   unfold plcs at HTA
   clear hgd hft hfr hpi hln hls hfw hL HGD HFT HFR HOK HBD
   obtain ⟨p0, p1, p2, p3, p4, p5, p6, p7, pf⟩ := P5.out
   go_wp2_with fail
   refine HTA.out.mono ?_
   rintro e w6 ⟨g, tc, rfl, hcl, hg6, hb6⟩
   have B6 := hid hb6
   have L6 := hid (L5.out.trans (hb6.mono L5.out.size))
   have HCL := hid (fun (w' : World) (hb : Below w6.heap.size w6 w') (i : Nat) (h : i < L.length) => (hb.cell (p := ⟨g, i, none⟩) hg6).trans (hcl i h))
   clear hcl hb6 hg6 p0 p1 p2 p3 p4 p5 p6 p7 pf HTA
   go_wp2
   go_loopw [11] (fun t' wr6 => ∃ (i : Nat), i ≤ L.length ∧ t' = .int .i64 i ∧ Below w6.heap.size w6 wr6) (fun t' _ => L.length - (intOf t').toNat)
   case atStart => exact ⟨0, by omega, rfl, Below.refl _ _⟩
   case round =>
    obtain ⟨i, hi, rfl, hb7⟩ := hrel
    rename World => wr6
    have B7 := hid hb7
    clear hb7
    by_cases hil : i < L.length
    ·obtain ⟨Y, hY⟩ : ∃ Y : ByteArray, ⟨L[i].toArray⟩ = Y := ⟨_, rfl⟩
     have hYl : Y.toList = L[i] := by rw [← hY, ByteArray.toList_eq]
     have HYL := hid hYl
     have HYC := hid hY
     clear hY hYl
     go_wp2
     go_loopw [12, 13] (fun v t' wr7 => ∃ (j : Nat), j ≤ l.length ∧ t' = .int .i64 j ∧ v = .bool ((l.take j).any fun t => t.1 == L[i]) ∧ Below w6.heap.size w6 wr7) (fun _ t' _ => l.length - (intOf t').toNat)
     case atStart => exact ⟨0, by omega, rfl, by rw [List.take_zero]; rfl, B7.out⟩
     case round =>
      obtain ⟨j, hj, rfl, rfl, hb8⟩ := hrel
      rename World => wr7
      have B8 := hid hb8
      have q1 := HCL.out wr7 hb8 i hil
      rw [HYC.out] at q1
      clear hb8
      by_cases hjl : j < l.length
      ·obtain ⟨ad, s, rfl, ga, c0, -, -, -, -⟩ := (HV.out wr7 (L6.out.trans (B8.out.mono L6.out.size))) j hjl
       have HAT := hid (any_take L[i] j hjl)
       obtain ⟨T, hT⟩ : ∃ T : ByteArray, ⟨l[j].1.toArray⟩ = T := ⟨_, rfl⟩
       have hTl : T.toList = l[j].1 := by rw [← hT, ByteArray.toList_eq]
       obtain ⟨c, hc⟩ : ∃ c, (l[j].1 == L[i]) = c := ⟨_, rfl⟩
       have e1 : (T.toList == Y.toList) = c := by rw [hTl, HYL.out, hc]
       rw [hT] at c0
       rw [hc] at HAT
       obtain ⟨bk, hbk⟩ : ∃ bk, ((l.take j).any fun t => t.1 == L[i]) = bk := ⟨_, rfl⟩
       rw [hbk] at HAT ⊢
       clear hT hTl hc hbk
       cases bk
       case false =>
        go_wp2
        go_quiet (fail)
        go_wp2
        go_roundw
        case rel => exact ⟨j + 1, by omega, by go_num, by rw [HAT.out, Bool.false_or], drewN_below B8.out _⟩
        case measure => simp [intOf]; omega
       case true =>
        clear e1 c0 q1
        go_wp2
        refine wp_region_quiet_lit (by kernel_rfl) (by kernel_rfl) ?_
        repeat (with_reducible refine wpQuiet_step ?_; intro K9 hK9; go_simp; with_reducible refine hK9 _ ?_; clear hK9 K9)
        refine wpQuiet_nil ?_
        intro _ hw9
        obtain ⟨nq, hw9'⟩ := hw9
        subst hw9'
        go_wp2
        go_roundw
        case rel => exact ⟨j + 1, by omega, by go_num, by rw [HAT.out, Bool.true_or], drewN_below B8.out _⟩
        case measure => simp [intOf]; omega
      ·obtain rfl : j = l.length := by omega
       have hall : ((l.take l.length).any fun t => t.1 == L[i]) = true := by
        rw [List.take_length]
        obtain ⟨u, hu, he⟩ := HME.out _ (List.getElem_mem hil)
        exact List.any_eq_true.2 ⟨u, hu, by rw [he]; exact beq_self_eq_true _⟩
       rw [hall]
       clear hall
       by_cases hi0 : i = 0
       ·subst hi0
        clear q1
        go_wp2
        refine wp_region_quiet_lit (by kernel_rfl) (by kernel_rfl) ?_
        repeat (with_reducible refine wpQuiet_step ?_; intro K9 hK9; go_simp; with_reducible refine hK9 _ ?_; clear hK9 K9)
        refine wpQuiet_nil ?_
        intro _ hw9
        obtain ⟨nq, hw9'⟩ := hw9
        subst hw9'
        go_wp2
        go_roundw
        case rel => exact ⟨0 + 1, by omega, by go_num, drewN_below B8.out _⟩
        case measure => simp [intOf]; omega
       ·obtain ⟨i1, rfl⟩ : ∃ i1, i = i1 + 1 := ⟨i - 1, by omega⟩
        have q0 := HCL.out wr7 B8.out i1 (by omega)
        obtain ⟨Z, hZ⟩ : ∃ Z : ByteArray, ⟨(L[i1]'(by omega)).toArray⟩ = Z := ⟨_, rfl⟩
        have hZl : Z.toList = L[i1]'(by omega) := by rw [← hZ, ByteArray.toList_eq]
        have r1 : Op.bytesLess Z.toList Y.toList = true := by rw [hZl, HYL.out]; exact HLE.out i1 _ hil
        rw [hZ] at q0
        clear hZ hZl hi0
        go_wp2
        go_quiet (fail)
        go_wp2
        go_roundw
        case rel => exact ⟨i1 + 1 + 1, by omega, by go_num, drewN_below B8.out _⟩
        case measure => simp [intOf]; omega
    ·obtain rfl : i = L.length := by omega
     have L7 := hid (L6.out.trans (B7.out.mono L6.out.size))
     have B57 := hid (B6.out.trans (B7.out.mono B6.out.size))
     have hzz5 := B57.out.size
     go_wp2_with fail
     refine (HAL.out wr6 L7.out).mono ?_
     rintro e w8 ⟨rfl, hb8⟩
     have L8 := hid (L7.out.trans (hb8.mono L7.out.size))
     have B58 := hid (B57.out.trans (hb8.mono hzz5))
     have P8 := hid (P5.out.below B58.out)
     have HPC := hid (places_any rp.deep rp (Nat.le_refl _) HFI.out HPL.out _ x w8 (fun b h => by have h2 := h.2; have h3 := B58.out.size; omega) (HPI.out.bel (fun b h => Nat.lt_of_lt_of_le h.2 hz45) B58.out))
     unfold plcs at HPC
     obtain ⟨p0, p1, p2, p3, p4, p5, p6, p7, pf⟩ := P8.out
     clear hb8
     go_wp2_with fail
     refine HPC.out.mono ?_
     rintro e w9 ⟨rfl, hb9⟩
     have L9 := hid (L8.out.trans (hb9.mono L8.out.size))
     have g1 : (1 : Int) ≤ (L.length : Int) := by omega
     have g4 : (L.length : Int) ≤ 4 := by omega
     clear hb9 p0 p1 p2 p3 p4 p5 p6 p7 pf HPC
     go_wp2
     go_ret
     exact ⟨rfl, L9.out⟩
end Go.Proofs.YthpmgnfmeldkjaaGreatDoor.planSchemas
