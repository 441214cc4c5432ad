/-
  The program's of, Value and Holds of any node, over columns, for a row.
-/
import Derived.Test.YtkibacolnagkcaaM30
import Derived.Test.YtkibacolnagkcaaM9
namespace Go.Proofs.Ytkibacolnagkcaa.Code
open Go.ChangeShapes Go.WideShapes Go.ChangeAt Go.RowKit Val Elems
set_option linter.unusedVariables false
set_option linter.unusedSimpArgs false
/-- a value of an expression with which nothing is wrong -/
def ofK (cols : List W) (row : List CV) (t : Nod) : CV × Int := if rowFits row (kindsC cols) = true then valE cols row t else (nulV, 51)
set_option maxHeartbeats 8000000 in
set_option maxRecDepth 100000 in
theorem of_any (A : Option Addr) (ca : Nat) (cols : List W) (hcl : cols.length ≤ 4194304) (B : Option Addr) (cb : Nat) (row : List CV) (hrl : row.length ≤ 140737488355328) (hfit : FitL row) (t : Nod) (hty : (typeE cols t).2 = 0) (S : Nat → Prop) (op tx : ByteArray) (X : Option Addr) (n k : Nat) (w : World) (hS : ∀ g, S g → g < w.heap.size) (hn : RIn w S t (op, tx, X, n, k)) (hv : At wc 3 w w.heap.size A cols) (hr : Vals w w.heap.size B row) :
    Calls Try.prog 20 #[.agg #[.string op, .string tx, .slice X n k], .slice A cols.length ca, .slice B row.length cb] w (SumPost w (ofK cols row t)) := by
  obtain ⟨w0, hw0⟩ : ∃ w0, (w.alloc (.cells #[.string op, .string tx, .slice X n k] 24)).alloc (.cells #[.int .i64 0, .int .i64 0, .string ⟨#[]⟩] 38) = w0 := ⟨_, rfl⟩
  have B0 := Lib.hid (show Below w.heap.size w w0 by rw [← hw0]; exact (below_alloc w _).alloc (by simp) _)
  have N0 := Lib.hid (show NBox w0 w.heap.size (.string op) (.string tx) (.slice X n k) by rw [← hw0]; exact ⟨by simp [go_sem], by simp [go_sem], by simp [go_sem], fun j => by simp [go_sem]⟩)
  have R0 := Lib.hid (show NBox w0 (w.heap.size + 1) (.int .i64 0) (.int .i64 0) (.string ⟨#[]⟩) by rw [← hw0]; exact ⟨by simp [go_sem], by simp [go_sem], by simp [go_sem], fun j => by simp [go_sem]⟩)
  have z0 : w.heap.size + 1 < w0.heap.size := R0.out.lt
  have HK := Lib.hid (skinds_any A ca cols w0 ((hv.below B0.out).more B0.out.size) hcl)
  have hkl : (kindsC cols).length = cols.length := List.length_map ..
  have HF := Lib.hid (fun (C : Option Addr) (cc : Nat) (w' : World) (hb : Below w.heap.size w w') (hi : Ints w' w'.heap.size C (kindsC cols)) => rowFits_any B C cb cc row (kindsC cols) w' ((hr.below hb).more hb.size) hi hfit hrl (by omega))
  rw [hkl] at HF
  have HVA := Lib.hid (fun (hf : rowFits row (kindsC cols) = true) (mb : Nat) (w' : World) (hb : Below w.heap.size w w') (hm : MapR w' mb 3 sumsF) => value_all A ca cols hcl B cb row hf hfit t.deep t (Nat.le_refl _) hty S op tx X n k mb w' (fun g h => Nat.lt_of_lt_of_le (hS g h) hb.size) (hn.bel hS hb) ((hv.below hb).more hb.size) ((hr.below hb).more hb.size) hm)
  have HO := Lib.hid (show ofK cols row t = if rowFits row (kindsC cols) = true then valE cols row t else (nulV, 51) from rfl)
  obtain ⟨KS, hKS⟩ : ∃ KS, kindsC cols = KS := ⟨_, rfl⟩
  rw [hKS] at HK HF HVA HO
  obtain ⟨f, hf⟩ : ∃ f, rowFits row KS = f := ⟨_, rfl⟩
  rw [hf] at HF HVA HO
  obtain ⟨V, hV⟩ : ∃ V, valE cols row t = V := ⟨_, rfl⟩
  rw [hV] at HVA HO
  obtain ⟨O, hO⟩ : ∃ O, ofK cols row t = O := ⟨_, rfl⟩
  rw [hO] at HO ⊢
  unfold SumPost at HVA
  have HW0 := Lib.hid hw0
  clear hw0 hn hS hv hr hfit hf hV hO hkl hKS hty
  go_enter Try.func20, Try.ntmps20
  go_upto_region 1 with fail
  rw [HW0.out]
  go_wp2_with fail
  refine HK.out.mono ?_
  rintro e w1 ⟨C, cc, rfl, hat, hb1⟩
  have HI := Lib.hid (at_ints hat)
  have B1 := Lib.hid (B0.out.trans (hb1.mono B0.out.size))
  have N1 := Lib.hid (N0.out.below hb1)
  have R1 := Lib.hid (R0.out.below hb1)
  clear hb1 hat
  go_wp2_with fail
  refine (HF.out C cc w1 B1.out HI.out).mono ?_
  rintro e w2 ⟨rfl, hb2⟩
  have B2 := Lib.hid (B1.out.trans (hb2.mono B1.out.size))
  have N2 := Lib.hid (N1.out.below hb2)
  have R2 := Lib.hid (R1.out.below hb2)
  have z2 : w.heap.size + 1 < w2.heap.size := R2.out.lt
  clear hb2
  cases f
  · have HOO := Lib.hid (show O = (nulV, 51) by rw [HO.out]; rfl)
    obtain ⟨r0, r1, r2, rf⟩ := R2.out
    clear HVA HO
    go_wp2
    have Y9 := R2.out.set (.int .i64 0) (.int .i64 0) (.string ⟨#[]⟩)
    exact bodyPost_ret (v := .tuple #[.agg #[.int .i64 0, .int .i64 0, .string ⟨#[]⟩], .int .i64 51]) (by simp [results, Try.results20, go_sem, Y9.c0, Y9.c1, Y9.c2]) rfl ⟨by rw [HOO.out]; rfl, set3_below B2.out (by omega) _ _ _⟩
  · have HOO := Lib.hid (show O = V by rw [HO.out]; rfl)
    have HV2 := Lib.hid (HVA.out rfl)
    obtain ⟨⟨vk, vn, vs⟩, ve⟩ := V
    dsimp only at HV2
    obtain ⟨x0, x1, x2, xf⟩ := N2.out
    have BD := Lib.hid (show Below w.heap.size w w2.drew from Below.drew B2.out)
    have zn : w.heap.size < w2.heap.size := by omega
    clear HVA HO
    go_wp2_with fail
    go_region_law (first
      | (go_simp; refine (csums_any _).mono ?_; rintro e w5 ⟨mb, rfl, hm5, hge, hb5⟩; have M5 := Lib.hid hm5; have L5 := Lib.hid (BD.out.trans (hb5.mono BD.out.size)); have N5 := Lib.hid ((N2.out.below (Below.drew (Below.refl _ _))).below hb5); have R5 := Lib.hid ((R2.out.below (Below.drew (Below.refl _ _))).below hb5); have y0 := N5.out.c0; have y1 := N5.out.c1; have y2 := N5.out.c2; clear hm5 hge hb5)
      | (go_simp; refine (HV2.out _ _ L5.out M5.out).mono ?_; rintro e w6 ⟨rfl, hb6⟩; have L6 := Lib.hid (L5.out.trans (hb6.mono L5.out.size)); have R6 := Lib.hid (R5.out.below hb6); have z6 := R6.out.lt; have r0 := R6.out.c0; have r1 := R6.out.c1; have r2 := R6.out.c2; have rf := R6.out.fr; clear hb6))
    all_goals
      go_wp2
      have Y9 := R6.out.set (.int .i64 vk) (.int .i64 vn) (.string vs)
      exact bodyPost_ret (v := .tuple #[.agg #[.int .i64 vk, .int .i64 vn, .string vs], .int .i64 ve]) (by simp [results, Try.results20, go_sem, Y9.c0, Y9.c1, Y9.c2]) rfl ⟨by rw [HOO.out], set3_below L6.out (by omega) _ _ _⟩
theorem truth_eq (v : CV) (b : Bool) (h : decide (v = truV true) = b) : (v.1 == 1 && (v.2.1 == 1 && v.2.2.toList == [])) = b := by
  rw [← h, ByteArray.toList_eq, Bool.eq_iff_iff]
  obtain ⟨k, n, ⟨⟨d⟩⟩⟩ := v
  simp [truV]
/-- what the program's Value answers -/
theorem cvalue_any (A : Option Addr) (ca : Nat) (cols : List W) (hcl : cols.length ≤ 4194304) (B : Option Addr) (cb : Nat) (row : List CV) (hrl : row.length ≤ 140737488355328) (hfit : FitL row) (t : Nod) (S : Nat → Prop) (op tx : ByteArray) (X : Option Addr) (n k : Nat) (w : World) (hS : ∀ g, S g → g < w.heap.size) (hn : RIn w S t (op, tx, X, n, k)) (hv : At wc 3 w w.heap.size A cols) (hr : Vals w w.heap.size B row) :
    Calls Try.prog 11 #[.agg #[.string op, .string tx, .slice X n k], .slice A cols.length ca, .slice B row.length cb] w (SumPost w (valueK cols row t)) := by
  obtain ⟨w0, hw0⟩ : ∃ w0, (w.alloc (.cells #[.string op, .string tx, .slice X n k] 24)).alloc (.cells #[.int .i64 0, .int .i64 0, .string ⟨#[]⟩] 38) = w0 := ⟨_, rfl⟩
  have B0 := Lib.hid (show Below w.heap.size w w0 by rw [← hw0]; exact (below_alloc w _).alloc (by simp) _)
  have N0 := Lib.hid (show NBox w0 w.heap.size (.string op) (.string tx) (.slice X n k) by rw [← hw0]; exact ⟨by simp [go_sem], by simp [go_sem], by simp [go_sem], fun j => by simp [go_sem]⟩)
  have R0 := Lib.hid (show NBox w0 (w.heap.size + 1) (.int .i64 0) (.int .i64 0) (.string ⟨#[]⟩) by rw [← hw0]; exact ⟨by simp [go_sem], by simp [go_sem], by simp [go_sem], fun j => by simp [go_sem]⟩)
  have z0 : w.heap.size + 1 < w0.heap.size := R0.out.lt
  have HT := Lib.hid (type_any A ca cols hcl t.deep t (Nat.le_refl _) S op tx X n k w0 (fun g h => Nat.lt_of_lt_of_le (hS g h) B0.out.size) (hn.bel hS B0.out) ((hv.below B0.out).more B0.out.size))
  have HOF := Lib.hid (fun (hty : (typeE cols t).2 = 0) (w' : World) (hb : Below w.heap.size w w') => of_any A ca cols hcl B cb row hrl hfit t hty S op tx X n k w' (fun g h => Nat.lt_of_lt_of_le (hS g h) hb.size) (hn.bel hS hb) ((hv.below hb).more hb.size) ((hr.below hb).more hb.size))
  have HO := Lib.hid (show valueK cols row t = if (typeE cols t).2 = 0 then ofK cols row t else (nulV, (typeE cols t).2) from rfl)
  unfold KindPost at HT
  unfold SumPost at HOF
  obtain ⟨T, hT⟩ : ∃ T, typeE cols t = T := ⟨_, rfl⟩
  rw [hT] at HT HOF HO
  obtain ⟨tk, te⟩ := T
  dsimp only at HT HOF HO
  obtain ⟨V, hV⟩ : ∃ V, ofK cols row t = V := ⟨_, rfl⟩
  rw [hV] at HOF HO
  obtain ⟨O, hO⟩ : ∃ O, valueK cols row t = O := ⟨_, rfl⟩
  rw [hO] at HO ⊢
  obtain ⟨⟨vk, vn, vs⟩, ve⟩ := V
  dsimp only at HOF
  have HW0 := Lib.hid hw0
  clear hw0 hn hS hv hr hfit hT hV hO
  go_enter Try.func11, Try.ntmps11
  go_upto_region 1 with fail
  rw [HW0.out]
  obtain ⟨x0, x1, x2, xf⟩ := N0.out
  go_wp2_with fail
  refine HT.out.mono ?_
  rintro e w1 ⟨rfl, hb1⟩
  have B1 := Lib.hid (B0.out.trans (hb1.mono B0.out.size))
  have N1 := Lib.hid (N0.out.below hb1)
  have R1 := Lib.hid (R0.out.below hb1)
  have z1 : w.heap.size + 1 < w1.heap.size := R1.out.lt
  clear hb1 x0 x1 x2 xf
  by_cases hte : te = 0
  · subst hte
    have HOO := Lib.hid (show O = ((vk, vn, vs), ve) by rw [HO.out]; rfl)
    have HO2 := Lib.hid (HOF.out rfl)
    obtain ⟨x0, x1, x2, xf⟩ := N1.out
    clear HOF HO
    go_wp2_with fail
    refine (HO2.out w1 B1.out).mono ?_
    rintro e w2 ⟨rfl, hb2⟩
    have B2 := Lib.hid (B1.out.trans (hb2.mono B1.out.size))
    have R2 := Lib.hid (R1.out.below hb2)
    have z2 : w.heap.size + 1 < w2.heap.size := R2.out.lt
    clear hb2 x0 x1 x2 xf
    obtain ⟨r0, r1, r2, rf⟩ := R2.out
    go_wp2
    have Y9 := R2.out.set (.int .i64 vk) (.int .i64 vn) (.string vs)
    exact bodyPost_ret (v := .tuple #[.agg #[.int .i64 vk, .int .i64 vn, .string vs], .int .i64 ve]) (by simp [results, Try.results11, go_sem, Y9.c0, Y9.c1, Y9.c2]) rfl ⟨by rw [HOO.out], set3_below B2.out (by omega) _ _ _⟩
  · have HOO := Lib.hid (show O = (nulV, te) by rw [HO.out, if_neg hte])
    have e1 : (te != 0) = true := by simpa using hte
    obtain ⟨r0, r1, r2, rf⟩ := R1.out
    clear hte HOF HO
    go_wp2
    have Y9 := R1.out.set (.int .i64 0) (.int .i64 0) (.string ⟨#[]⟩)
    exact bodyPost_ret (v := .tuple #[.agg #[.int .i64 0, .int .i64 0, .string ⟨#[]⟩], .int .i64 te]) (by simp [results, Try.results11, go_sem, Y9.c0, Y9.c1, Y9.c2]) rfl ⟨by rw [HOO.out]; rfl, set3_below B1.out (by omega) _ _ _⟩
end Go.Proofs.Ytkibacolnagkcaa.Code
/-
  The program's Holds of any node, over columns, for a row.
-/
namespace Go.Proofs.Ytkibacolnagkcaa.Code
open Go.ChangeShapes Go.WideShapes Go.ChangeAt Go.RowKit Val Elems
set_option linter.unusedVariables false
set_option linter.unusedSimpArgs false
theorem of_truth {cols : List W} {row : List CV} {t : Nod} (h : (typeE cols t).2 = 0) (hk : truK (typeE cols t).1 = true) : truth3 (ofK cols row t).1 := by
  unfold ofK
  split
  · rename_i hf
    rcases valE_good cols row hf t (typeE cols t).1 (by rw [← h]) with ⟨_, h2⟩ | ⟨_, h2⟩
    · rcases h2 with h2 | h2
      · exact .inl h2
      · have hc : (typeE cols t).1 = 1 := by
          rcases truK_cases hk with h3 | h3
          · rw [h3] at h2; exact absurd h2.2.1 (by decide)
          · exact h3
        exact truth_one (h2.1.trans hc) h2.2.2
    · exact .inl h2
  · exact .inl rfl
set_option maxHeartbeats 8000000 in
set_option maxRecDepth 100000 in
theorem cholds_any (A : Option Addr) (ca : Nat) (cols : List W) (hcl : cols.length ≤ 4194304) (B : Option Addr) (cb : Nat) (row : List CV) (hrl : row.length ≤ 140737488355328) (hfit : FitL row) (t : Nod) (S : Nat → Prop) (op tx : ByteArray) (X : Option Addr) (n k : Nat) (w : World) (hS : ∀ g, S g → g < w.heap.size) (hn : RIn w S t (op, tx, X, n, k)) (hv : At wc 3 w w.heap.size A cols) (hr : Vals w w.heap.size B row) :
    Calls Try.prog 12 #[.agg #[.string op, .string tx, .slice X n k], .slice A cols.length ca, .slice B row.length cb] w fun e w' => e = .returned (.tuple #[.bool (holdsK cols row t).1, .int .i64 (holdsK cols row t).2]) ∧ Below w.heap.size w w' := by
  obtain ⟨w0, hw0⟩ : ∃ w0, (w.alloc (.cells #[.string op, .string tx, .slice X n k] 24)) = w0 := ⟨_, rfl⟩
  have B0 := Lib.hid (show Below w.heap.size w w0 by rw [← hw0]; exact below_alloc w _)
  have N0 := Lib.hid (show NBox w0 w.heap.size (.string op) (.string tx) (.slice X n k) by rw [← hw0]; exact NBox.fresh _ _ _ _ _)
  have z0 : w.heap.size < w0.heap.size := N0.out.lt
  have HT := Lib.hid (type_any A ca cols hcl t.deep t (Nat.le_refl _) S op tx X n k w0 (fun g h => Nat.lt_of_lt_of_le (hS g h) B0.out.size) (hn.bel hS B0.out) ((hv.below B0.out).more B0.out.size))
  have HOF := Lib.hid (fun (hty : (typeE cols t).2 = 0) (w' : World) (hb : Below w.heap.size w w') => of_any A ca cols hcl B cb row hrl hfit t hty S op tx X n k w' (fun g h => Nat.lt_of_lt_of_le (hS g h) hb.size) (hn.bel hS hb) ((hv.below hb).more hb.size) ((hr.below hb).more hb.size))
  have HO := Lib.hid (show holdsK cols row t = if (typeE cols t).2 = 0 ∧ truK (typeE cols t).1 = false then (false, 131) else if (typeE cols t).2 = 0 then (decide ((ofK cols row t).1 = truV true), (ofK cols row t).2) else (false, (typeE cols t).2) by
    unfold holdsK
    split
    · rfl
    · unfold valueK
      split
      · rfl
      · rfl)
  have HTR := Lib.hid (fun (h : (typeE cols t).2 = 0) (hk : truK (typeE cols t).1 = true) => of_truth (row := row) h hk)
  have HIT := Lib.hid (fun w' => isTruth_any (typeE cols t).1 w')
  unfold KindPost at HT
  unfold SumPost at HOF
  obtain ⟨T, hT⟩ : ∃ T, typeE cols t = T := ⟨_, rfl⟩
  rw [hT] at HT HOF HO HTR HIT
  obtain ⟨tk, te⟩ := T
  dsimp only at HT HOF HO HTR HIT
  obtain ⟨V, hV⟩ : ∃ V, ofK cols row t = V := ⟨_, rfl⟩
  rw [hV] at HOF HO HTR
  obtain ⟨O, hO⟩ : ∃ O, holdsK cols row t = O := ⟨_, rfl⟩
  rw [hO] at HO ⊢
  obtain ⟨q, hq⟩ : ∃ q, truK tk = q := ⟨_, rfl⟩
  rw [hq] at HO HTR HIT
  obtain ⟨⟨vk, vn, vs⟩, ve⟩ := V
  dsimp only at HOF HO HTR
  have HTT := Lib.hid (fun w' => truth_any true w')
  rw [show (if (true : Bool) = true then (1 : Int) else 0) = 1 from rfl] at HTT
  have HW0 := Lib.hid hw0
  clear hw0 hn hS hv hr hfit hT hV hO hq
  have HFIN : ∀ (b : Bool) (e : Int) (w' : World), O = (b, e) → Below w.heap.size w w' → Ending.returned (.tuple #[.bool b, .int .i64 e]) = Ending.returned (.tuple #[.bool O.1, .int .i64 O.2]) ∧ Below w.heap.size w w' := fun b e w' h hb => ⟨by rw [h], hb⟩
  have HFI := Lib.hid HFIN
  clear HFIN
  go_enter Try.func12, Try.ntmps12
  go_upto_region 1 with fail
  rw [HW0.out]
  obtain ⟨x0, x1, x2, xf⟩ := N0.out
  go_wp2_with fail
  refine HT.out.mono ?_
  rintro e w1 ⟨rfl, hb1⟩
  have B1 := Lib.hid (B0.out.trans (hb1.mono B0.out.size))
  have N1 := Lib.hid (N0.out.below hb1)
  have z1 : w.heap.size < w1.heap.size := N1.out.lt
  clear hb1 x0 x1 x2 xf
  by_cases hte : te = 0
  · subst hte
    go_wp2_with fail
    refine (HIT.out w1).mono ?_
    rintro e w1' ⟨rfl, rfl⟩
    cases q
    · have HOO := Lib.hid (show O = (false, 131) by rw [HO.out]; simp)
      clear HOF HO HTR
      go_wp2
      go_ret2
      exact HFI.out _ _ _ HOO.out B1.out
    · have HOO := Lib.hid (show O = (decide ((vk, vn, vs) = truV true), ve) by rw [HO.out]; simp)
      have HTR2 := Lib.hid (HTR.out (by first | exact rfl | exact trivial) (by first | exact rfl | exact trivial))
      have HO2 := Lib.hid (HOF.out (by first | exact rfl | exact trivial))
      obtain ⟨x0, x1, x2, xf⟩ := N1.out
      clear HOF HO HTR
      go_wp2_with fail
      refine (HO2.out w1 B1.out).mono ?_
      rintro e w2 ⟨rfl, hb2⟩
      have B2 := Lib.hid (B1.out.trans (hb2.mono B1.out.size))
      obtain ⟨w3, hw3⟩ : ∃ w3, w2.alloc (.cells #[.int .i64 vk, .int .i64 vn, .string vs] 38) = w3 := ⟨_, rfl⟩
      have B3 := Lib.hid (show Below w.heap.size w w3 by rw [← hw3]; exact B2.out.alloc B2.out.size _)
      have V3 := Lib.hid (show NBox w3 w2.heap.size (.int .i64 vk) (.int .i64 vn) (.string vs) by rw [← hw3]; exact NBox.fresh _ _ _ _ _)
      have z3 : w2.heap.size < w3.heap.size := V3.out.lt
      have HW3 := Lib.hid hw3
      have BD := Lib.hid (show Below w.heap.size w w3.drew from Below.drew B3.out)
      clear hb2 x0 x1 x2 xf hw3
      go_upto_region 7 with fail
      rw [HW3.out]
      have HT3 := HTR2.out
      rcases HT3 with h3 | h3 | h3
      all_goals
        first | unfold nulV at h3 | unfold truV at h3
        simp only [Prod.mk.injEq, if_true, if_false, Bool.false_eq_true] at h3
        obtain ⟨rfl, rfl, rfl⟩ := h3
        first
          | have HOO2 := Lib.hid (show O = (true, ve) from HOO.out.trans (congrArg (fun b => (b, ve)) (by decide)))
          | have HOO2 := Lib.hid (show O = (false, ve) from HOO.out.trans (congrArg (fun b => (b, ve)) (by decide)))
        obtain ⟨y0, y1, y2, yf⟩ := V3.out
        clear HOO
        go_wp2_with fail
        go_region_law (go_simp; refine (HTT.out _).mono ?_; rintro e w6 ⟨rfl, hb6⟩; have L6 := Lib.hid (BD.out.trans (hb6.mono BD.out.size)); have V6 := Lib.hid ((V3.out.below (Below.drew (Below.refl _ _))).below hb6); have y6 := V6.out.c0; have y7 := V6.out.c1; have y8 := V6.out.c2; clear hb6)
        all_goals
          go_wp2
          go_ret2
          first
            | exact HFI.out _ _ _ HOO2.out L6.out
            | (simp; exact HFI.out _ _ _ HOO2.out L6.out)
  · have HOO := Lib.hid (show O = (false, te) by rw [HO.out, if_neg (fun h => hte h.1), if_neg hte])
    have e1 : (te != 0) = true := by simpa using hte
    clear hte HOF HO HTR
    go_wp2
    go_ret2
    exact HFI.out _ _ _ HOO.out B1.out
end Go.Proofs.Ytkibacolnagkcaa.Code
