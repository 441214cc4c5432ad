/-
  The program's small questions of values: a truth's value; is one null; is one there; which of truths decides.
-/
import Derived.Test.YtkibacolnagkcaaM19
import Derived.Deep.QuietTactic
import Derived.Maps.OwnOps
import Derived.Maps.OwnSet
import Derived.Test.YtkibacolnagkcaaChecked
import Derived.Test.YtkibacolnagkcaaM11
import Derived.WalkKit
import Derived.ProofKit
import Derived.Lib.Hide
namespace Go.Proofs.Ytkibacolnagkcaa.Code
open Go.ChangeShapes Go.WideShapes Go.ChangeAt Go.RowKit Val Elems
set_option linter.unusedVariables false
set_option linter.unusedSimpArgs false
def cv (v : CV) : Value := .agg #[.int .i64 v.1, .int .i64 v.2.1, .string v.2.2]
theorem isNull_any (k n : Int) (s : ByteArray) (w : World) : Calls Try.prog 57 #[.agg #[.int .i64 k, .int .i64 n, .string s]] w fun e w' => e = .returned (.bool (k == 0)) ∧ Below w.heap.size w w' := by
  obtain ⟨b, hb⟩ : ∃ b, (k == 0) = b := ⟨_, rfl⟩
  rw [hb]
  have B0 := Lib.hid (fun o => below_alloc w o)
  go_enter Try.func57, Try.ntmps57
  go_wp2
  go_ret
  exact ⟨by simp [hb], B0.out _⟩
theorem below_two (w : World) (o p : Obj) : Below w.heap.size w ((w.alloc o).alloc p) := (below_alloc w o).alloc (by simp) p
theorem truth_any (b : Bool) (w : World) : Calls Try.prog 22 #[.bool b] w fun e w' => e = .returned (.agg #[.int .i64 1, .int .i64 (if b = true then 1 else 0), .string ⟨#[]⟩]) ∧ Below w.heap.size w w' := by
  cases b
  · go_enter Try.func22, Try.ntmps22
    go_wp2
    exact bodyPost_ret (v := .agg #[.int .i64 1, .int .i64 0, .string ⟨#[]⟩]) (by simp [results, Try.results22, go_sem]) rfl ⟨rfl, below_two _ _ _⟩
  · go_enter Try.func22, Try.ntmps22
    go_wp2
    exact bodyPost_ret (v := .agg #[.int .i64 1, .int .i64 1, .string ⟨#[]⟩]) (by simp [results, Try.results22, go_sem]) rfl ⟨rfl, below_two _ _ _⟩
theorem vany_no {l : List CV} {p : CV → Bool} (h : ∀ j (hj : j < l.length), p l[j] = false) : l.any p = false := by
  rw [List.any_eq_false]
  intro x hx
  obtain ⟨j, hj, rfl⟩ := List.getElem_of_mem hx
  rw [h j hj]
  decide
theorem vany_yes {l : List CV} {p : CV → Bool} {i : Nat} (hi : i < l.length) (h : p l[i] = true) : l.any p = true := List.any_eq_true.2 ⟨_, List.getElem_mem hi, h⟩
set_option maxHeartbeats 4000000 in
set_option maxRecDepth 100000 in
theorem nindex_any (A : Option Addr) (cap : Nat) (l : List CV) (w : World) (hv : Vals w w.heap.size A l) (hl : l.length ≤ 2600000000000) :
    Calls Try.prog 81 #[.slice A l.length cap, .func (.func 57) #[] #[]] w fun e w' => ∃ z : Int, e = .returned (.int .i64 z) ∧ decide (0 ≤ z) = (l.any fun v => v.1 == 0) ∧ Below w.heap.size w w' := by
  have HV := Lib.hid hv
  clear hv
  go_enter Try.func81, Try.ntmps81
  go_wp2
  go_loopw [8] (fun t wr => ∃ i : Nat, i ≤ l.length ∧ t = .int .i64 i ∧ (∀ j (hj : j < l.length), j < i → (l[j].1 == 0) = false) ∧ Below w.heap.size w wr) (fun t _ => l.length - (intOf t).toNat)
  case atStart => exact ⟨0, by omega, rfl, fun j _ h => absurd h (by omega), Below.refl _ _⟩
  case round =>
    obtain ⟨i, hi, rfl, hno, hbel⟩ := hrel
    have HL := Lib.hid hbel
    have HNO := Lib.hid hno
    have VA := Lib.hid (HV.out.below hbel)
    clear hbel hno
    by_cases hil : i < l.length
    · obtain ⟨ad, rfl, ga, c0, c1, c2⟩ := VA.out i hil
      have HN2 := Lib.hid (fun (h : (l[i].1 == 0) = false) => show ∀ j (hj : j < l.length), j < i + 1 → (l[j].1 == 0) = false from fun j hj h2 => if e : j = i then by subst e; exact h else HNO.out j hj (by omega))
      have HY := Lib.hid (fun (h : (l[i].1 == 0) = true) => vany_yes (p := fun v => v.1 == 0) hil h)
      obtain ⟨x, hx⟩ : ∃ x, l[i] = x := ⟨_, rfl⟩
      rw [hx] at c0 c1 c2 HN2 HY
      obtain ⟨k, n, s⟩ := x
      dsimp only at c0 c1 c2 HN2 HY
      have HC := Lib.hid (isNull_any k n s wr)
      obtain ⟨b, hb⟩ : ∃ b, (k == 0) = b := ⟨_, rfl⟩
      rw [hb] at HC HY HN2
      clear hx hb
      go_wp2_with fail
      refine HC.out.mono ?_
      rintro e w1 ⟨rfl, hb1⟩
      have L1 := Lib.hid (HL.out.trans (hb1.mono HL.out.size))
      clear hb1 HC c0 c1 c2
      cases b
      · go_wp2
        go_roundw
        case rel => exact ⟨i + 1, by omega, by go_num, HN2.out (by first | exact rfl | exact trivial), L1.out⟩
        case measure => simp [intOf]; omega
      · have HI := Lib.hid (HY.out (by first | exact rfl | exact trivial))
        go_wp2
        go_ret
        exact ⟨_, rfl, by rw [HI.out]; simp, L1.out⟩
    · obtain rfl : i = l.length := by omega
      have HI := Lib.hid (vany_no (p := fun v => v.1 == 0) (fun j hj => HNO.out j hj hj))
      go_wp2
      go_ret
      exact ⟨_, rfl, by rw [HI.out]; rfl, HL.out⟩
set_option maxRecDepth 100000 in
theorem ncont_any (A : Option Addr) (cap : Nat) (l : List CV) (w : World) (hv : Vals w w.heap.size A l) (hl : l.length ≤ 2600000000000) :
    Calls Try.prog 59 #[.slice A l.length cap, .func (.func 57) #[] #[]] w fun e w' => e = .returned (.bool (l.any fun v => v.1 == 0)) ∧ Below w.heap.size w w' := by
  have HI := Lib.hid (nindex_any A cap l w hv hl)
  obtain ⟨b, hb⟩ : ∃ b, (l.any fun v => v.1 == 0) = b := ⟨_, rfl⟩
  rw [hb] at HI
  rw [hb]
  clear hv hb hl
  go_enter Try.func59, Try.ntmps59
  go_wp2_with fail
  refine HI.out.mono ?_
  rintro e w1 ⟨z, rfl, hz, hb1⟩
  have L1 := Lib.hid hb1
  clear hb1
  go_wp2
  go_ret
  exact ⟨rfl, L1.out⟩
set_option maxHeartbeats 4000000 in
set_option maxRecDepth 100000 in
theorem vindex_any (k0 n0 : Int) (s0 : ByteArray) (A : Option Addr) (cap : Nat) (l : List CV) (w : World) (hv : Vals w w.heap.size A l) (hl : l.length ≤ 2600000000000) :
    Calls Try.prog 91 #[.slice A l.length cap, .agg #[.int .i64 k0, .int .i64 n0, .string s0]] w fun e w' => ∃ z : Int, e = .returned (.int .i64 z) ∧ decide (0 ≤ z) = (l.any fun v => decide (v = (k0, n0, s0))) ∧ Below w.heap.size w w' := by
  obtain ⟨w0, hw0⟩ : ∃ w0, w.alloc (.cells #[.int .i64 k0, .int .i64 n0, .string s0] 38) = w0 := ⟨_, rfl⟩
  have B0 := Lib.hid (show Below w.heap.size w w0 by rw [← hw0]; exact below_alloc w _)
  have N0 := Lib.hid (show NBox w0 w.heap.size (.int .i64 k0) (.int .i64 n0) (.string s0) by rw [← hw0]; exact NBox.fresh _ _ _ _ _)
  have hz0 : w.heap.size < w0.heap.size := by rw [← hw0]; simp
  have HV := Lib.hid ((hv.below B0.out).more B0.out.size)
  have HW0 := Lib.hid hw0
  clear hv hw0
  go_enter Try.func91, Try.ntmps91
  go_upto_region 1 with fail
  rw [HW0.out]
  go_wp2
  go_loopw [8] (fun t wr => ∃ i : Nat, i ≤ l.length ∧ t = .int .i64 i ∧ (∀ j (hj : j < l.length), j < i → decide (l[j] = (k0, n0, s0)) = false) ∧ Below w0.heap.size w0 wr) (fun t _ => l.length - (intOf t).toNat)
  case atStart => exact ⟨0, by omega, rfl, fun j _ h => absurd h (by omega), Below.refl _ _⟩
  case round =>
    obtain ⟨i, hi, rfl, hno, hbel⟩ := hrel
    have HL := Lib.hid hbel
    have HNO := Lib.hid hno
    have VA := Lib.hid (HV.out.below hbel)
    obtain ⟨y0, y1, y2, yf⟩ := N0.out.below hbel
    have HB := Lib.hid (B0.out.trans (hbel.mono B0.out.size))
    clear hbel hno
    by_cases hil : i < l.length
    · obtain ⟨ad, rfl, ga, c0, c1, c2⟩ := VA.out i hil
      have HN2 := Lib.hid (fun (h : decide (l[i] = (k0, n0, s0)) = false) => show ∀ j (hj : j < l.length), j < i + 1 → decide (l[j] = (k0, n0, s0)) = false from fun j hj h2 => if e : j = i then by subst e; exact h else HNO.out j hj (by omega))
      have HY := Lib.hid (fun (h : decide (l[i] = (k0, n0, s0)) = true) => vany_yes (p := fun v => decide (v = (k0, n0, s0))) hil h)
      obtain ⟨x, hx⟩ : ∃ x, l[i] = x := ⟨_, rfl⟩
      rw [hx] at c0 c1 c2 HN2 HY
      have bi0 : (0 : Int) ≤ (i : Int) := by omega
      have bi1 : (i : Int) < (l.length : Int) := by omega
      clear hx
      obtain ⟨k, n, s⟩ := x
      dsimp only at c0 c1 c2
      by_cases hk : k0 = k
      · subst hk
        by_cases hn : n0 = n
        · subst hn
          by_cases hs : s0 = s
          · subst hs
            have HI := Lib.hid (HY.out (by simp))
            go_wp2
            go_quiet (fail)
            go_wp2
            go_ret
            exact ⟨_, rfl, by rw [HI.out]; simp, drewN_below HB.out _⟩
          · have f2 := toList_ne hs
            have HN3 := Lib.hid (HN2.out (by simp; exact fun h => hs h.symm))
            clear hs
            go_wp2
            go_quiet (fail)
            go_wp2
            go_roundw
            case rel => exact ⟨i + 1, by omega, by go_num, HN3.out, drewN_below HL.out _⟩
            case measure => simp [intOf]; omega
        · have f1 : (n0 == n) = false := by simpa using hn
          have HN3 := Lib.hid (HN2.out (by simp; exact fun h => absurd h.symm hn))
          clear hn
          go_wp2
          go_quiet (fail)
          go_wp2
          go_roundw
          case rel => exact ⟨i + 1, by omega, by go_num, HN3.out, drewN_below HL.out _⟩
          case measure => simp [intOf]; omega
      · have f0 : (k0 == k) = false := by simpa using hk
        have HN3 := Lib.hid (HN2.out (by simp; exact fun h => absurd h.symm hk))
        clear hk
        go_wp2
        go_quiet (fail)
        go_wp2
        go_roundw
        case rel => exact ⟨i + 1, by omega, by go_num, HN3.out, drewN_below HL.out _⟩
        case measure => simp [intOf]; omega
    · obtain rfl : i = l.length := by omega
      have HI := Lib.hid (vany_no (p := fun v => decide (v = (k0, n0, s0))) (fun j hj => HNO.out j hj hj))
      clear y0 y1 y2 yf
      go_wp2
      go_ret
      exact ⟨_, rfl, by rw [HI.out]; rfl, HB.out⟩
set_option maxRecDepth 100000 in
theorem vcont_any (k0 n0 : Int) (s0 : ByteArray) (A : Option Addr) (cap : Nat) (l : List CV) (w : World) (hv : Vals w w.heap.size A l) (hl : l.length ≤ 2600000000000) :
    Calls Try.prog 80 #[.slice A l.length cap, .agg #[.int .i64 k0, .int .i64 n0, .string s0]] w fun e w' => e = .returned (.bool (l.any fun v => decide (v = (k0, n0, s0)))) ∧ Below w.heap.size w w' := by
  obtain ⟨w0, hw0⟩ : ∃ w0, w.alloc (.cells #[.int .i64 k0, .int .i64 n0, .string s0] 38) = w0 := ⟨_, rfl⟩
  have B0 := Lib.hid (show Below w.heap.size w w0 by rw [← hw0]; exact below_alloc w _)
  obtain ⟨y0, y1, y2, yf⟩ := (show NBox w0 w.heap.size (.int .i64 k0) (.int .i64 n0) (.string s0) by rw [← hw0]; exact NBox.fresh _ _ _ _ _)
  have HI := Lib.hid (vindex_any k0 n0 s0 A cap l w0 ((hv.below B0.out).more B0.out.size) hl)
  obtain ⟨b, hb⟩ : ∃ b, (l.any fun v => decide (v = (k0, n0, s0))) = b := ⟨_, rfl⟩
  rw [hb] at HI
  rw [hb]
  have HW0 := Lib.hid hw0
  clear hv hb hl hw0
  go_enter Try.func80, Try.ntmps80
  go_upto_region 1 with fail
  rw [HW0.out]
  go_wp2_with fail
  refine HI.out.mono ?_
  rintro e w1 ⟨z, rfl, hz, hb1⟩
  have L1 := Lib.hid (B0.out.trans (hb1.mono B0.out.size))
  clear hb1 y0 y1 y2 yf
  go_wp2
  go_ret
  exact ⟨rfl, L1.out⟩
/-- the truth that decides, if one of them is; else null, if one is; else the other truth -/
def decV (d : Bool) (l : List CV) : CV := if (l.any fun v => decide (v = truV d)) = true then truV d else if (l.any fun v => v.1 == 0) = true then nulV else truV (!d)
set_option maxHeartbeats 4000000 in
set_option maxRecDepth 100000 in
theorem decided_any (d : Bool) (A : Option Addr) (cap : Nat) (l : List CV) (w : World) (hv : Vals w w.heap.size A l) (hl : l.length ≤ 2600000000000) :
    Calls Try.prog 58 #[.bool d, .slice A l.length cap] w fun e w' => e = .returned (.agg #[.int .i64 (decV d l).1, .int .i64 (decV d l).2.1, .string (decV d l).2.2]) ∧ Below w.heap.size w w' := by
  obtain ⟨w0, hw0⟩ : ∃ w0, w.alloc (.cells #[.int .i64 0, .int .i64 0, .string ⟨#[]⟩] 38) = w0 := ⟨_, rfl⟩
  have B0 := Lib.hid (show Below w.heap.size w w0 by rw [← hw0]; exact below_alloc w _)
  have N0 := Lib.hid (show NBox w0 w.heap.size (.int .i64 0) (.int .i64 0) (.string ⟨#[]⟩) by rw [← hw0]; exact NBox.fresh _ _ _ _ _)
  have HV := Lib.hid hv
  have HC := Lib.hid (fun (k n : Int) (s : ByteArray) (w' : World) (hb : Below w.heap.size w w') => vcont_any k n s A cap l w' ((hv.below hb).more hb.size) hl)
  have HN := Lib.hid (fun (w' : World) (hb : Below w.heap.size w w') => ncont_any A cap l w' ((hv.below hb).more hb.size) hl)
  have HT := Lib.hid (fun (b : Bool) (w' : World) => truth_any b w')
  have HE := Lib.hid (show decV d l = if (l.any fun v => decide (v = truV d)) = true then truV d else if (l.any fun v => v.1 == 0) = true then nulV else truV (!d) from rfl)
  obtain ⟨D, hD⟩ : ∃ D : Int, (if d = true then 1 else 0) = D := ⟨_, rfl⟩
  have HDT := Lib.hid (show truV d = (1, D, ⟨#[]⟩) by rw [← hD]; rfl)
  rw [HDT.out] at HE
  have HC2 := Lib.hid (fun (w' : World) (hb : Below w.heap.size w w') => HC.out 1 D ⟨#[]⟩ w' hb)
  obtain ⟨a, ha⟩ : ∃ a, (l.any fun v => decide (v = ((1 : Int), D, (⟨#[]⟩ : ByteArray)))) = a := ⟨_, rfl⟩
  obtain ⟨b, hb⟩ : ∃ b, (l.any fun v => v.1 == 0) = b := ⟨_, rfl⟩
  rw [ha] at HE HC2
  rw [hb] at HN HE
  rw [HE.out]
  have HTD := Lib.hid (fun (w' : World) => show Calls Try.prog 22 #[.bool d] w' (fun e w'' => e = .returned (.agg #[.int .i64 1, .int .i64 D, .string ⟨#[]⟩]) ∧ Below w'.heap.size w' w'') by rw [← hD]; exact HT.out d w')
  obtain ⟨D2, hD2⟩ : ∃ D2 : Int, (if (!d) = true then 1 else 0) = D2 := ⟨_, rfl⟩
  have HDN := Lib.hid (show truV (!d) = (1, D2, ⟨#[]⟩) by rw [← hD2]; rfl)
  have HTN := Lib.hid (fun (w' : World) => show Calls Try.prog 22 #[.bool !d] w' (fun e w'' => e = .returned (.agg #[.int .i64 1, .int .i64 D2, .string ⟨#[]⟩]) ∧ Below w'.heap.size w' w'') by rw [← hD2]; exact HT.out (!d) w')
  rw [HDN.out]
  have HW0 := Lib.hid hw0
  clear hv ha hb hl hw0 HC HT hD hD2 HE
  have PST := Lib.hid (fun (w' : World) (g : Nat) (h : NBox w' w.heap.size (.int .i64 0) (.int .i64 0) (.string ⟨#[]⟩)) (x y : Int) (hb : Below w.heap.size w w') => show Below w.heap.size w (W3 w' w.heap.size (.int .i64 x) (.int .i64 y) (.string ⟨#[]⟩)) from (((hb.setCell (p := ⟨w.heap.size, 0, none⟩) (Nat.le_refl _) _).setCell (p := ⟨w.heap.size, 1, none⟩) (Nat.le_refl _) _).setCell (p := ⟨w.heap.size, 2, none⟩) (Nat.le_refl _) _))
  go_enter Try.func58, Try.ntmps58
  go_upto_region 1 with fail
  rw [HW0.out]
  go_wp2_with fail
  refine (HTD.out w0).mono ?_
  rintro e w1 ⟨rfl, hb1⟩
  have L1 := Lib.hid (B0.out.trans (hb1.mono B0.out.size))
  have N1 := Lib.hid (N0.out.below hb1)
  clear hb1
  go_wp2_with fail
  refine (HC2.out w1 L1.out).mono ?_
  rintro e w2 ⟨rfl, hb1⟩
  have L2 := Lib.hid (L1.out.trans (hb1.mono L1.out.size))
  have N2 := Lib.hid (N1.out.below hb1)
  clear hb1
  cases a
  · go_wp2_with fail
    refine (HN.out w2 L2.out).mono ?_
    rintro e w3 ⟨rfl, hb1⟩
    have L3 := Lib.hid (L2.out.trans (hb1.mono L2.out.size))
    have N3 := Lib.hid (N2.out.below hb1)
    clear hb1
    cases b
    · go_wp2_with fail
      refine (HTN.out w3).mono ?_
      rintro e w4 ⟨rfl, hb1⟩
      have L4 := Lib.hid (L3.out.trans (hb1.mono L3.out.size))
      have N4 := Lib.hid (N3.out.below hb1)
      clear hb1
      obtain ⟨y0, y1, y2, yf⟩ := N4.out
      go_wp2
      have Y9 := N4.out.set (.int .i64 1) (.int .i64 D2) (.string ⟨#[]⟩)
      exact bodyPost_ret (v := .agg #[.int .i64 1, .int .i64 D2, .string ⟨#[]⟩]) (by simp [results, Try.results58, go_sem, Y9.c0, Y9.c1, Y9.c2]) rfl ⟨rfl, PST.out w4 0 N4.out 1 D2 L4.out⟩
    · obtain ⟨y0, y1, y2, yf⟩ := N3.out
      go_wp2
      have Y9 := N3.out.set (.int .i64 0) (.int .i64 0) (.string ⟨#[]⟩)
      exact bodyPost_ret (v := .agg #[.int .i64 0, .int .i64 0, .string ⟨#[]⟩]) (by simp [results, Try.results58, go_sem, Y9.c0, Y9.c1, Y9.c2]) rfl ⟨rfl, PST.out w3 0 N3.out 0 0 L3.out⟩
  · go_wp2_with fail
    refine (HTD.out w2).mono ?_
    rintro e w4 ⟨rfl, hb1⟩
    have L4 := Lib.hid (L2.out.trans (hb1.mono L2.out.size))
    have N4 := Lib.hid (N2.out.below hb1)
    clear hb1
    obtain ⟨y0, y1, y2, yf⟩ := N4.out
    go_wp2
    have Y9 := N4.out.set (.int .i64 1) (.int .i64 D) (.string ⟨#[]⟩)
    exact bodyPost_ret (v := .agg #[.int .i64 1, .int .i64 D, .string ⟨#[]⟩]) (by simp [results, Try.results58, go_sem, Y9.c0, Y9.c1, Y9.c2]) rfl ⟨rfl, PST.out w4 0 N4.out 1 D L4.out⟩
end Go.Proofs.Ytkibacolnagkcaa.Code
/-
  The program's map of sums: what it holds, an entry of a literal, a look-up; the map is made.
-/
namespace Go.Proofs.Ytkibacolnagkcaa.Code
open Go.ChangeShapes Go.WideShapes Go.ChangeAt Go.RowKit Val Elems Go.ChangeMaps Go.MapKept
open Go.WideElems (Fit rd rg pl rd_key rd_val rg_of)
open Go.Maps (Keyed)
set_option linter.unusedVariables false
set_option linter.unusedSimpArgs false
set_option maxRecDepth 100000
def hR (v : Value) : Option (DataW Value × List MemPlace) := some (.held v, [])
def mk (k : ByteArray) : Lit := .string k.data.toList
theorem mk_inj {a b : ByteArray} (h : mk a = mk b) : a = b := by
  unfold mk at h
  injection h with h
  rw [← Lib.mk_data a, h, Lib.mk_data]
theorem mk_law : Keyed Try.prog 9 := Maps.string_keyed Try.underlying9
theorem mk_is {k : ByteArray} (h : k.size ≤ maxLen) : keyOf Try.prog 9 (.string k) = some (mk k) := Go.WideMaps.keyOf_string_mk Try.underlying9 h
/-- what a map holds -/
def MSees (D : DataW Value) (f : ByteArray → Option Value) : Prop := ∀ k : ByteArray, k.size ≤ maxLen → Maps.has D (mk k) = (f k).isSome ∧ ∀ s, f k = some s → ∀ z, D.atKey (mk k) z = .held s
def MapR (w : World) (b n : Nat) (f : ByteArray → Option Value) : Prop := ∃ D, w.ownsMap Try.prog 9 hR b n D ∧ MSees D f
def mput (f : ByteArray → Option Value) (k : ByteArray) (s : Value) : ByteArray → Option Value := fun x => if x = k then some s else f x
theorem mput_same (f : ByteArray → Option Value) (k : ByteArray) (s : Value) : mput f k s k = some s := by simp [mput]
theorem mput_other (f : ByteArray → Option Value) {k x : ByteArray} (s : Value) (h : x ≠ k) : mput f k s x = f x := by simp [mput, h]
theorem MapR.lt {w : World} {b n : Nat} {f : ByteArray → Option Value} (h : MapR w b n f) : b < w.heap.size := by obtain ⟨D, h1, _⟩ := h; exact h1.lt
theorem MapR.heap {w w' : World} {b n : Nat} {f : ByteArray → Option Value} (h : MapR w b n f) (e : w'.heap[b]? = w.heap[b]?) : MapR w' b n f := by
  obtain ⟨D, ⟨es, clock, hb, r⟩, h2⟩ := h
  exact ⟨D, ⟨es, clock, e.trans hb, r⟩, h2⟩
theorem MapR.below {w w' : World} {b n : Nat} {f : ByteArray → Option Value} (h : MapR w b n f) (hb : Below w.heap.size w w') : MapR w' b n f := h.heap (hb.block _ h.lt)
theorem MapR.alloc {w : World} {b n : Nat} {f : ByteArray → Option Value} (h : MapR w b n f) (o : Obj) : MapR (w.alloc o) b n f := h.below (below_alloc w o)
theorem mapR_made (w : World) : MapR (w.alloc (.map #[] 0)) w.heap.size 0 fun _ => none :=
  ⟨_, World.ownsMap_made w Try.prog 9 hR, fun k _ => ⟨rfl, fun s h => by cases h⟩⟩
theorem msees_put {D : DataW Value} {f : ByteArray → Option Value} (hD : Maps.IsMap D) (h : MSees D f) (k : ByteArray) (s : Value) : MSees (D.put (mk k) (.held s)) (mput f k s) := by
  intro x hx
  by_cases e : x = k
  · subst e
    rw [mput_same]
    refine ⟨Maps.has_put_same hD (by simp [mk, WideAt.IsKeyLit]) _, fun s2 h2 z => ?_⟩
    cases h2
    exact Maps.atKey_put_same hD (by simp [mk, WideAt.IsKeyLit]) _ _
  · have hne : mk x ≠ mk k := fun h => e (mk_inj h)
    rw [mput_other f _ e, Maps.has_put_other hne]
    exact ⟨(h x hx).1, fun s2 h2 z => by rw [Maps.atKey_put_other hne]; exact (h x hx).2 s2 h2 z⟩
section
variable (w : World) {ops : Array Oper} {rest : List Oper} {o : Oper} {a : Act} {Q : Exit → Act → World → Prop}
/-- an entry of a literal -/
theorem wpList_inss (hg : o.guard = none) (m x v : Operand) (hop : o.op = Op.insert 76 m x v) (b n : Nat) (f : ByteArray → Option Value) (hm : a.eval m = .map (some b)) (h : MapR w b n f) (hn : n < maxLen) (k : ByteArray) (hx : a.eval x = .string k) (hk : k.size ≤ maxLen)
    (s : Value) (hv : a.eval v = s) (hK : ∀ w', MapR w' b (n + 1) (mput f k s) → w.grownBy w' (some b) → w'.heap.size = w.heap.size → wpList Try.prog ops Q rest (a.put o.dst undef) w') : wpList Try.prog ops Q (o :: rest) a w := by
  refine wpList_plain hg fun K' hK' => ?_
  obtain ⟨D, h1, h2⟩ := h
  obtain ⟨w', hrun, r1, r2⟩ := h1.store mk_law Try.underlying76 hn (mk_is hk) (show hR s = some (.held s, []) from rfl)
  have hsz : w'.heap.size = w.heap.size := by
    obtain ⟨es, clock, es', clock', hb, rfl⟩ := r2
    simp [setBlock]
  unfold Oper.wp
  simp [execOp, hop, hm, hx, hv, hrun, Result.andThen]
  exact hK' _ _ (hK w' ⟨_, r1, msees_put h1.isMap h2 k s⟩ r2.grown hsz)
end
/-- a look-up -/
theorem run_looks (w : World) (b n : Nat) (f : ByteArray → Option Value) (h : MapR w b n f) (k : ByteArray) (hk : k.size ≤ maxLen) (s : Value) (hs : f k = some s) : (Instr.lookup 76 (.map (some b)) (.string k) false).run Try.prog w = .ok s w := by
  have hz : (zeroValue 121).run Try.prog w = .ok .nilFunc w := rfl
  obtain ⟨D, ⟨es, clock, hb, F, hsz, rfl⟩, h2⟩ := h
  have h3 := h2 k hk
  rw [hs] at h3
  rcases Maps.fit_look false mk_law Try.underlying76 hz hb F (mk_is hk) with ⟨hrun, _, hat⟩ | ⟨e0, y, _, _, hrun, hRv, hat, _⟩
  · have hf := Maps.has_false_of_atKey hat
    rw [h3.1] at hf
    cases hf
  · have h4 := (h3.2 s rfl (.held undef)).symm.trans (hat _)
    unfold hR at hRv
    simp only [Option.some.injEq] at hRv
    subst hRv
    injection h4 with h4
    rw [hrun, h4]
    rfl
def sumsF : ByteArray → Option Value := mput (mput (mput (fun _ => none) ⟨#[43]⟩ (.func (.func 53) #[] #[])) ⟨#[45]⟩ (.func (.func 54) #[] #[])) ⟨#[42]⟩ (.func (.func 55) #[] #[])
set_option maxHeartbeats 8000000 in
theorem csums_any (w : World) : Calls Try.prog 37 #[] w fun e w' => ∃ mb, e = .returned (.map (some mb)) ∧ MapR w' mb 3 sumsF ∧ w.heap.size ≤ mb ∧ Below w.heap.size w w' := by
  have hmm := @run_makeMap Try.prog
  have M0 := Lib.hid (mapR_made w)
  have L0 := Lib.hid (below_alloc w (.map #[] 0))
  go_enter Try.func37, Try.ntmps37
  go_wp2_with (refine wpList_inss _ rfl _ _ _ rfl w.heap.size 0 _ rfl M0.out (by decide) ⟨#[43]⟩ rfl (by decide) _ rfl ?_)
  intro w1 m1 g1 s1
  have M1 := Lib.hid m1
  have L1 := Lib.hid (L0.out.grown g1 L0.out.size (fun k hk => by cases hk; exact Nat.le_refl _))
  clear m1 g1 s1
  go_wp2_with (refine wpList_inss _ rfl _ _ _ rfl w.heap.size 1 _ rfl M1.out (by decide) ⟨#[45]⟩ rfl (by decide) _ rfl ?_)
  intro w2 m2 g2 s2
  have M2 := Lib.hid m2
  have L2 := Lib.hid (L1.out.grown g2 L1.out.size (fun k hk => by cases hk; exact Nat.le_refl _))
  clear m2 g2 s2
  go_wp2_with (refine wpList_inss _ rfl _ _ _ rfl w.heap.size 2 _ rfl M2.out (by decide) ⟨#[42]⟩ rfl (by decide) _ rfl ?_)
  intro w3 m3 g3 s3
  have M3 := Lib.hid m3
  have L3 := Lib.hid (L2.out.grown g3 L2.out.size (fun k hk => by cases hk; exact Nat.le_refl _))
  clear m3 g3 s3
  go_wp2
  go_ret
  exact ⟨w.heap.size, rfl, M3.out, Nat.le_refl _, L3.out⟩
end Go.Proofs.Ytkibacolnagkcaa.Code
/-
  Contracts of package num and of the document's answer, for every argument: sums, products, narrowing, zigzags, flips. Each leaves the world as it was.
-/
namespace Go.Proofs.Ytkibacolnagkcaa.Num
open Go.ChangeShapes Go.WideShapes Go.ChangeAt Go.RowKit

set_option maxHeartbeats 400000 in
theorem add_any (a b : Int) (w : World) (ha : fits a) (hb : fits b) :
    Calls Try.prog 53 #[.int .i64 a, .int .i64 b] w fun e w' => e = .returned (.tuple #[.int .i64 (fitV (a + b)), .int .i64 (fitE (a + b))]) ∧ w = w' := by
  unfold fits at ha hb
  go_enter Try.func53, Try.ntmps53
  go_wp2
  all_goals go_ret2
  all_goals refine ⟨ret2 ?_ ?_, rfl⟩
  all_goals (try unfold wrap64 at *)
  all_goals (first | unfold fitV | unfold fitE)
  all_goals ((try simp at *) <;> omega)

set_option maxHeartbeats 400000 in
theorem sub_any (a b : Int) (w : World) (ha : fits a) (hb : fits b) :
    Calls Try.prog 54 #[.int .i64 a, .int .i64 b] w fun e w' => e = .returned (.tuple #[.int .i64 (fitV (a - b)), .int .i64 (fitE (a - b))]) ∧ w = w' := by
  unfold fits at ha hb
  go_enter Try.func54, Try.ntmps54
  go_wp2
  all_goals go_ret2
  all_goals refine ⟨ret2 ?_ ?_, rfl⟩
  all_goals (try unfold wrap64 at *)
  all_goals (first | unfold fitV | unfold fitE)
  all_goals ((try simp at *) <;> omega)

theorem neg_any (a : Int) (w : World) (ha : fits a) :
    Calls Try.prog 79 #[.int .i64 a] w fun e w' => e = .returned (.tuple #[.int .i64 (fitV (-a)), .int .i64 (fitE (-a))]) ∧ w = w' := by
  go_enter Try.func79, Try.ntmps79
  go_wp2_with (go_at_call 54; refine (sub_any _ _ _ (by unfold fits; omega) ha).mono ?_; rintro e w' ⟨rfl, rfl⟩)
  go_ret2
  exact ⟨rfl, rfl⟩

set_option maxHeartbeats 400000 in
theorem mul_any (a b : Int) (w : World) (ha : fits a) (hb : fits b) :
    Calls Try.prog 55 #[.int .i64 a, .int .i64 b] w fun e w' => e = .returned (.tuple #[.int .i64 (fitV (a * b)), .int .i64 (fitE (a * b))]) ∧ w = w' := by
  by_cases h0 : a = 0
  · subst h0
    go_enter Try.func55, Try.ntmps55
    go_wp2
    go_ret2
    exact ⟨ret2 (by simp [fitV]) (by simp [fitE]), rfl⟩
  by_cases h1 : a = -1
  · subst h1
    go_enter Try.func55, Try.ntmps55
    go_wp2_with (go_at_call 79; refine (neg_any _ _ hb).mono ?_; rintro e w' ⟨rfl, rfl⟩)
    go_ret2
    exact ⟨ret2 (by simp) (by simp), rfl⟩
  have ht := mul_test (b := b) ha h0 h1
  have g0 : (a == 0) = false := beq_eq_false_iff_ne.2 h0
  have g1 : (a == -1) = false := beq_eq_false_iff_ne.2 h1
  by_cases hf : fits (a * b)
  · have g2 : (wrap64 ((wrap64 (a * b)).tdiv a) != b) = false := by simp [ht.2 hf]
    have HF := Lib.hid hf
    clear ht hf h1
    go_enter Try.func55, Try.ntmps55
    go_wp2
    go_ret2
    exact ⟨ret2 (by rw [fitV_in HF.out, wrap_in HF.out]) (by rw [fitE_in HF.out]), rfl⟩
  · have g2 : (wrap64 ((wrap64 (a * b)).tdiv a) != b) = true := by simp; exact fun h => hf (ht.1 h)
    have HF := Lib.hid hf
    clear ht hf h1
    go_enter Try.func55, Try.ntmps55
    go_wp2
    go_ret2
    exact ⟨ret2 (by rw [fitV_out HF.out]) (by rw [fitE_out HF.out]), rfl⟩

theorem rmul_test {a b : Int} (ha : fits a) (hb : fits b) (h0 : a ≠ 0) (h1 : b ≠ 0) :
    ((a = -1 ∧ b = -9223372036854775808) ∨ (b = -1 ∧ a = -9223372036854775808) ∨ wrap64 ((wrap64 (a * b)).tdiv b) ≠ a) ↔ ¬ fits (a * b) := by
  by_cases g : b = -1
  · subst g
    by_cases k : a = -9223372036854775808
    · subst k
      have : ¬ fits (-9223372036854775808 * -1) := by unfold fits; omega
      exact ⟨fun _ => this, fun _ => .inr (.inl ⟨rfl, rfl⟩)⟩
    · have hf : fits (a * -1) := by unfold fits at *; omega
      rw [wrap_in hf, show (a * -1).tdiv (-1) = a from Int.mul_tdiv_cancel a (by omega), wrap_in ha]
      refine ⟨fun h => ?_, fun h => absurd hf h⟩
      rcases h with h | h | h
      · omega
      · exact absurd h.2 k
      · exact absurd rfl h
  · have ht := mul_test (b := a) hb h1 g
    rw [Int.mul_comm b a] at ht
    refine ⟨fun h => ?_, fun h => .inr (.inr fun k => h (ht.1 k))⟩
    rcases h with h | h | h
    · intro hf; rw [h.1, h.2] at hf; unfold fits at hf; omega
    · exact absurd h.1 g
    · exact fun k => h (ht.2 k)

theorem narrow_any (a : Int) (w : World) (ha : fits a) :
    Calls Try.prog 100 #[.int .i64 a] w fun e w' => e = .returned (.tuple #[.int .i32 (nrV a), .int .i64 (nrE a)]) ∧ w = w' := by
  unfold fits at ha
  go_enter Try.func100, Try.ntmps100
  go_wp2
  all_goals go_ret2
  all_goals refine ⟨ret2 ?_ ?_, rfl⟩
  all_goals (try unfold wrap64 at *)
  all_goals (try unfold wrap32 at *)
  all_goals (first | unfold nrV | unfold nrE)
  all_goals ((try simp at *) <;> omega)

end Go.Proofs.Ytkibacolnagkcaa.Num
