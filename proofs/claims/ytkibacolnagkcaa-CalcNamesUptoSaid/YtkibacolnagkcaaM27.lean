/-
  The program's value of a node, by its Op, over what its Kids come to (an error, literals, columns, is null, and, or, null).
-/
import Derived.Test.YtkibacolnagkcaaM26
import Derived.Test.YtkibacolnagkcaaM7
import Derived.Deep.RegionHeld3
namespace Go.Proofs.Ytkibacolnagkcaa.Code
open Go.ChangeShapes Go.WideShapes Go.ChangeAt Go.RowKit Val Elems
set_option linter.unusedVariables false
set_option linter.unusedSimpArgs false

set_option maxHeartbeats 8000000 in
set_option maxRecDepth 100000 in
theorem vstep_err (op tx : ByteArray) (X : Option Addr) (n k : Nat) (A : Option Addr) (na ca : Nat) (B : Option Addr) (nb cb mb : Nat) (L : List CV) (le : Int) (w : World) (hle : le ≠ 0)
    (hE : ∀ w', Below w.heap.size w w' → Calls Try.prog 56 #[.slice X n k, .func (.func 38) #[.agg #[.slice A na ca, .slice B nb cb, .map (some mb)]] #[]] w' (VsPost w' (L, le))) :
    Calls Try.prog 38 #[.agg #[.slice A na ca, .slice B nb cb, .map (some mb)], .agg #[.string op, .string tx, .slice X n k]] w (SumPost w (nulV, le)) := by
  obtain ⟨w0, hw0⟩ : ∃ w0, ((w.alloc (.cells #[.slice A na ca, .slice B nb cb, .map (some mb)] 79)).alloc (.cells #[.string op, .string tx, .slice X n k] 24)).alloc (.cells #[.int .i64 0, .int .i64 0, .string ⟨#[]⟩] 38) = w0 := ⟨_, rfl⟩
  have B0 := Lib.hid (show Below w.heap.size w w0 by rw [← hw0]; exact ((below_alloc w _).alloc (by simp) _).alloc (by simp; omega) _)
  have S0 := Lib.hid (show NBox w0 w.heap.size (.slice A na ca) (.slice B nb cb) (.map (some mb)) by rw [← hw0]; exact ⟨by simp [go_sem], by simp [go_sem], by simp [go_sem], fun j => by simp [go_sem]⟩)
  have N0 := Lib.hid (show NBox w0 (w.heap.size + 1) (.string op) (.string tx) (.slice X n k) by rw [← hw0]; exact ⟨by simp [go_sem], by simp [go_sem], by simp [go_sem], fun j => by simp [go_sem]⟩)
  have R0 := Lib.hid (show NBox w0 (w.heap.size + 1 + 1) (.int .i64 0) (.int .i64 0) (.string ⟨#[]⟩) by rw [← hw0]; exact ⟨by simp [go_sem], by simp [go_sem], by simp [go_sem], fun j => by simp [go_sem]⟩)
  have z0 : w.heap.size + 1 + 1 < w0.heap.size := R0.out.lt
  have HE0 := Lib.hid (hE w0 B0.out)
  unfold VsPost at HE0
  have HW0 := Lib.hid hw0
  clear hw0 hE
  have e1 : (le != 0) = true := by simpa using hle
  clear hle
  go_enter Try.func38, Try.ntmps38
  go_upto_region 1 with fail
  rw [HW0.out]
  obtain ⟨s0, s1, s2, sf⟩ := S0.out
  obtain ⟨x0, x1, x2, xf⟩ := N0.out
  go_wp2_with fail
  refine HE0.out.mono ?_
  rintro e w1 ⟨C, cc, rfl, hv1, hb1⟩
  have OV := Lib.hid hv1
  have B1 := Lib.hid (B0.out.trans (hb1.mono B0.out.size))
  have S1 := Lib.hid (S0.out.below hb1)
  have N1 := Lib.hid (N0.out.below hb1)
  have R1 := Lib.hid (R0.out.below hb1)
  have z1 : w.heap.size + 1 + 1 < w1.heap.size := R1.out.lt
  clear hb1 hv1 s0 s1 s2 sf x0 x1 x2 xf
  obtain ⟨x0, x1, x2, xf⟩ := N1.out
  obtain ⟨r0, r1, r2, rf⟩ := R1.out
  go_wp2
  have Y9 := R1.out.set (.int .i64 0) (.int .i64 0) (.string ⟨#[]⟩)
  exact bodyPost_ret (v := .tuple #[.agg #[.int .i64 0, .int .i64 0, .string ⟨#[]⟩], .int .i64 le]) (by simp [results, Try.results38, go_sem, Y9.c0, Y9.c1, Y9.c2]) rfl ⟨rfl, set3_below B1.out (by omega) _ _ _⟩
set_option maxHeartbeats 8000000 in
set_option maxRecDepth 100000 in
theorem vstep_lit (op tx : ByteArray) (X : Option Addr) (k : Nat) (A : Option Addr) (na ca : Nat) (B : Option Addr) (nb cb mb : Nat) (L : List CV) (w : World) (hop : op.data.toList ∈ lits)
    (hE : ∀ w', Below w.heap.size w w' → Calls Try.prog 56 #[.slice X 0 k, .func (.func 38) #[.agg #[.slice A na ca, .slice B nb cb, .map (some mb)]] #[]] w' (VsPost w' (L, 0))) :
    Calls Try.prog 38 #[.agg #[.slice A na ca, .slice B nb cb, .map (some mb)], .agg #[.string op, .string tx, .slice X 0 k]] w (SumPost w (litT op.data.toList tx.data.toList)) := by
  have HL := Lib.hid (fun w' => clit_any op tx hop X k w')
  unfold SumPost at HL
  obtain ⟨R, hR⟩ : ∃ R, litT op.data.toList tx.data.toList = R := ⟨_, rfl⟩
  rw [hR] at HL ⊢
  obtain ⟨⟨vk, vn, vs⟩, ve⟩ := R
  dsimp only at HL
  obtain ⟨w0, hw0⟩ : ∃ w0, ((w.alloc (.cells #[.slice A na ca, .slice B nb cb, .map (some mb)] 79)).alloc (.cells #[.string op, .string tx, .slice X 0 k] 24)).alloc (.cells #[.int .i64 0, .int .i64 0, .string ⟨#[]⟩] 38) = w0 := ⟨_, rfl⟩
  have B0 := Lib.hid (show Below w.heap.size w w0 by rw [← hw0]; exact ((below_alloc w _).alloc (by simp) _).alloc (by simp; omega) _)
  have S0 := Lib.hid (show NBox w0 w.heap.size (.slice A na ca) (.slice B nb cb) (.map (some mb)) by rw [← hw0]; exact ⟨by simp [go_sem], by simp [go_sem], by simp [go_sem], fun j => by simp [go_sem]⟩)
  have N0 := Lib.hid (show NBox w0 (w.heap.size + 1) (.string op) (.string tx) (.slice X 0 k) by rw [← hw0]; exact ⟨by simp [go_sem], by simp [go_sem], by simp [go_sem], fun j => by simp [go_sem]⟩)
  have R0 := Lib.hid (show NBox w0 (w.heap.size + 1 + 1) (.int .i64 0) (.int .i64 0) (.string ⟨#[]⟩) by rw [← hw0]; exact ⟨by simp [go_sem], by simp [go_sem], by simp [go_sem], fun j => by simp [go_sem]⟩)
  have z0 : w.heap.size + 1 + 1 < w0.heap.size := R0.out.lt
  have HE0 := Lib.hid (hE w0 B0.out)
  unfold VsPost at HE0
  have HW0 := Lib.hid hw0
  clear hw0 hE
  clear hR
  rcases lits_cases hop with rfl | rfl | rfl | rfl | rfl
  all_goals
    clear hop
    go_enter Try.func38, Try.ntmps38
    go_upto_region 1 with fail
    rw [HW0.out]
    obtain ⟨s0, s1, s2, sf⟩ := S0.out
    obtain ⟨x0, x1, x2, xf⟩ := N0.out
    go_wp2_with fail
    refine HE0.out.mono ?_
    rintro e w1 ⟨C, cc, rfl, hv1, hb1⟩
    have OV := Lib.hid hv1
    have B1 := Lib.hid (B0.out.trans (hb1.mono B0.out.size))
    have S1 := Lib.hid (S0.out.below hb1)
    have N1 := Lib.hid (N0.out.below hb1)
    have R1 := Lib.hid (R0.out.below hb1)
    have z1 : w.heap.size + 1 + 1 < w1.heap.size := R1.out.lt
    clear hb1 hv1 s0 s1 s2 sf x0 x1 x2 xf
    obtain ⟨x0, x1, x2, xf⟩ := N1.out
    go_wp2_with fail
    refine (HL.out w1).mono ?_
    rintro e w2 ⟨rfl, hb2⟩
    have B2 := Lib.hid (B1.out.trans (hb2.mono B1.out.size))
    have R2 := Lib.hid (R1.out.below hb2)
    have z2 := R2.out.lt
    clear hb2 x0 x1 x2 xf
    obtain ⟨r0, r1, r2, rf⟩ := R2.out
    go_wp2
    have Y9 := R2.out.set (.int .i64 vk) (.int .i64 vn) (.string vs)
    exact bodyPost_ret (v := .tuple #[.agg #[.int .i64 vk, .int .i64 vn, .string vs], .int .i64 ve]) (by simp [results, Try.results38, go_sem, Y9.c0, Y9.c1, Y9.c2]) rfl ⟨rfl, set3_below B2.out (by omega) _ _ _⟩
set_option maxHeartbeats 8000000 in
set_option maxRecDepth 100000 in
theorem vstep_col (tx : ByteArray) (X : Option Addr) (n k : Nat) (A : Option Addr) (ca : Nat) (B : Option Addr) (cb mb : Nat) (L : List CV) (w : World) (cols : List W) (row : List CV) (hv : At wc 3 w w.heap.size A cols) (hcl : cols.length ≤ 4194304) (hr : Vals w w.heap.size B row) (i : Nat) (hi : i < row.length) (hil : i ≤ 4194304) (hz : findZ cols tx.data.toList = (i : Int))
    (hE : ∀ w', Below w.heap.size w w' → Calls Try.prog 56 #[.slice X n k, .func (.func 38) #[.agg #[.slice A cols.length ca, .slice B row.length cb, .map (some mb)]] #[]] w' (VsPost w' (L, 0))) :
    Calls Try.prog 38 #[.agg #[.slice A cols.length ca, .slice B row.length cb, .map (some mb)], .agg #[.string ⟨#[99, 111, 108]⟩, .string tx, .slice X n k]] w (SumPost w (row[i], 0)) := by
  have HS := Lib.hid (fun (w' : World) (hb : Below w.heap.size w w') => sfind_any A ca cols tx w' ((hv.below hb).more hb.size) hcl)
  unfold FindPost at HS
  rw [hz, show max (i : Int) 0 = (i : Int) by omega, show decide (0 ≤ (i : Int)) = true by simp] at HS
  have HR := Lib.hid (fun (w' : World) (hb : Below w.heap.size w w') => (hr.below hb).more hb.size i hi)
  obtain ⟨x, hx⟩ : ∃ x, row[i] = x := ⟨_, rfl⟩
  simp only [hx] at HR ⊢
  obtain ⟨vk, vn, vs⟩ := x
  dsimp only at HR
  clear hz hv hr hx
  obtain ⟨w0, hw0⟩ : ∃ w0, ((w.alloc (.cells #[.slice A cols.length ca, .slice B row.length cb, .map (some mb)] 79)).alloc (.cells #[.string ⟨#[99, 111, 108]⟩, .string tx, .slice X n k] 24)).alloc (.cells #[.int .i64 0, .int .i64 0, .string ⟨#[]⟩] 38) = w0 := ⟨_, rfl⟩
  have B0 := Lib.hid (show Below w.heap.size w w0 by rw [← hw0]; exact ((below_alloc w _).alloc (by simp) _).alloc (by simp; omega) _)
  have S0 := Lib.hid (show NBox w0 w.heap.size (.slice A cols.length ca) (.slice B row.length cb) (.map (some mb)) by rw [← hw0]; exact ⟨by simp [go_sem], by simp [go_sem], by simp [go_sem], fun j => by simp [go_sem]⟩)
  have N0 := Lib.hid (show NBox w0 (w.heap.size + 1) (.string ⟨#[99, 111, 108]⟩) (.string tx) (.slice X n k) by rw [← hw0]; exact ⟨by simp [go_sem], by simp [go_sem], by simp [go_sem], fun j => by simp [go_sem]⟩)
  have R0 := Lib.hid (show NBox w0 (w.heap.size + 1 + 1) (.int .i64 0) (.int .i64 0) (.string ⟨#[]⟩) by rw [← hw0]; exact ⟨by simp [go_sem], by simp [go_sem], by simp [go_sem], fun j => by simp [go_sem]⟩)
  have z0 : w.heap.size + 1 + 1 < w0.heap.size := R0.out.lt
  have HE0 := Lib.hid (hE w0 B0.out)
  unfold VsPost at HE0
  have HW0 := Lib.hid hw0
  clear hw0 hE
  go_enter Try.func38, Try.ntmps38
  go_upto_region 1 with fail
  rw [HW0.out]
  obtain ⟨s0, s1, s2, sf⟩ := S0.out
  obtain ⟨x0, x1, x2, xf⟩ := N0.out
  go_wp2_with fail
  refine HE0.out.mono ?_
  rintro e w1 ⟨C, cc, rfl, hv1, hb1⟩
  have OV := Lib.hid hv1
  have B1 := Lib.hid (B0.out.trans (hb1.mono B0.out.size))
  have S1 := Lib.hid (S0.out.below hb1)
  have N1 := Lib.hid (N0.out.below hb1)
  have R1 := Lib.hid (R0.out.below hb1)
  have z1 : w.heap.size + 1 + 1 < w1.heap.size := R1.out.lt
  clear hb1 hv1 s0 s1 s2 sf x0 x1 x2 xf
  obtain ⟨x0, x1, x2, xf⟩ := N1.out
  obtain ⟨s0, s1, s2, sf⟩ := S1.out
  go_wp2_with fail
  refine (HS.out w1 B1.out).mono ?_
  rintro e w2 ⟨rfl, hb2⟩
  have B2 := Lib.hid (B1.out.trans (hb2.mono B1.out.size))
  have S2 := Lib.hid (S1.out.below hb2)
  have R2 := Lib.hid (R1.out.below hb2)
  have z2 := R2.out.lt
  clear hb2 x0 x1 x2 xf s0 s1 s2 sf
  obtain ⟨s0, s1, s2, sf⟩ := S2.out
  obtain ⟨r0, r1, r2, rf⟩ := R2.out
  obtain ⟨ad, rfl, had, c0, c1, c2⟩ := HR.out w2 B2.out
  have hsi : (i : Int) < (row.length : Int) := by omega
  go_wp2
  have Y9 := R2.out.set (.int .i64 vk) (.int .i64 vn) (.string vs)
  exact bodyPost_ret (v := .tuple #[.agg #[.int .i64 vk, .int .i64 vn, .string vs], .int .i64 0]) (by simp [results, Try.results38, go_sem, Y9.c0, Y9.c1, Y9.c2]) rfl ⟨rfl, set3_below B2.out (by omega) _ _ _⟩
set_option maxHeartbeats 8000000 in
set_option maxRecDepth 100000 in
theorem vstep_is (tx : ByteArray) (X : Option Addr) (n k : Nat) (A : Option Addr) (na ca : Nat) (B : Option Addr) (nb cb mb : Nat) (ak an : Int) (as' : ByteArray) (w : World)
    (hE : ∀ w', Below w.heap.size w w' → Calls Try.prog 56 #[.slice X n k, .func (.func 38) #[.agg #[.slice A na ca, .slice B nb cb, .map (some mb)]] #[]] w' (VsPost w' ([(ak, an, as')], 0))) :
    Calls Try.prog 38 #[.agg #[.slice A na ca, .slice B nb cb, .map (some mb)], .agg #[.string ⟨#[105, 115, 32, 110, 117, 108, 108]⟩, .string tx, .slice X n k]] w (SumPost w (truV (ak == 0), 0)) := by
  obtain ⟨b, hb⟩ : ∃ b, (ak == 0) = b := ⟨_, rfl⟩
  obtain ⟨D, hD⟩ : ∃ D : Int, (if b = true then 1 else 0) = D := ⟨_, rfl⟩
  have HT := Lib.hid (fun w' => truth_any b w')
  have HNU := Lib.hid (fun w' => isNull_any ak an as' w')
  have HDT := Lib.hid (show truV b = (1, D, ⟨#[]⟩) by rw [← hD]; rfl)
  rw [hb] at HNU ⊢
  rw [hD] at HT
  rw [HDT.out]
  clear hb hD
  obtain ⟨w0, hw0⟩ : ∃ w0, ((w.alloc (.cells #[.slice A na ca, .slice B nb cb, .map (some mb)] 79)).alloc (.cells #[.string ⟨#[105, 115, 32, 110, 117, 108, 108]⟩, .string tx, .slice X n k] 24)).alloc (.cells #[.int .i64 0, .int .i64 0, .string ⟨#[]⟩] 38) = w0 := ⟨_, rfl⟩
  have B0 := Lib.hid (show Below w.heap.size w w0 by rw [← hw0]; exact ((below_alloc w _).alloc (by simp) _).alloc (by simp; omega) _)
  have S0 := Lib.hid (show NBox w0 w.heap.size (.slice A na ca) (.slice B nb cb) (.map (some mb)) by rw [← hw0]; exact ⟨by simp [go_sem], by simp [go_sem], by simp [go_sem], fun j => by simp [go_sem]⟩)
  have N0 := Lib.hid (show NBox w0 (w.heap.size + 1) (.string ⟨#[105, 115, 32, 110, 117, 108, 108]⟩) (.string tx) (.slice X n k) by rw [← hw0]; exact ⟨by simp [go_sem], by simp [go_sem], by simp [go_sem], fun j => by simp [go_sem]⟩)
  have R0 := Lib.hid (show NBox w0 (w.heap.size + 1 + 1) (.int .i64 0) (.int .i64 0) (.string ⟨#[]⟩) by rw [← hw0]; exact ⟨by simp [go_sem], by simp [go_sem], by simp [go_sem], fun j => by simp [go_sem]⟩)
  have z0 : w.heap.size + 1 + 1 < w0.heap.size := R0.out.lt
  have HE0 := Lib.hid (hE w0 B0.out)
  unfold VsPost at HE0
  have HW0 := Lib.hid hw0
  clear hw0 hE
  go_enter Try.func38, Try.ntmps38
  go_upto_region 1 with fail
  rw [HW0.out]
  obtain ⟨s0, s1, s2, sf⟩ := S0.out
  obtain ⟨x0, x1, x2, xf⟩ := N0.out
  go_wp2_with fail
  refine HE0.out.mono ?_
  rintro e w1 ⟨C, cc, rfl, hv1, hb1⟩
  have OV := Lib.hid hv1
  have B1 := Lib.hid (B0.out.trans (hb1.mono B0.out.size))
  have S1 := Lib.hid (S0.out.below hb1)
  have N1 := Lib.hid (N0.out.below hb1)
  have R1 := Lib.hid (R0.out.below hb1)
  have z1 : w.heap.size + 1 + 1 < w1.heap.size := R1.out.lt
  clear hb1 hv1 s0 s1 s2 sf x0 x1 x2 xf
  obtain ⟨x0, x1, x2, xf⟩ := N1.out
  obtain ⟨g, hC, hg, hblk⟩ := OV.out (by simp)
  subst hC
  have hgz : g < w1.heap.size := hblk.lt
  obtain ⟨c0, c1, c2⟩ := hblk.at 0 (by simp)
  simp only [List.getElem_cons_zero, Nat.zero_mul, Nat.zero_add] at c0 c1 c2
  go_wp2_with fail
  refine (HNU.out w1).mono ?_
  rintro e w2 ⟨rfl, hb2⟩
  have B2 := Lib.hid (B1.out.trans (hb2.mono B1.out.size))
  have R2 := Lib.hid (R1.out.below hb2)
  clear hb2 x0 x1 x2 xf c0 c1 c2 hblk
  go_wp2_with fail
  refine (HT.out w2).mono ?_
  rintro e w3 ⟨rfl, hb2⟩
  have B3 := Lib.hid (B2.out.trans (hb2.mono B2.out.size))
  have R3 := Lib.hid (R2.out.below hb2)
  have z2 := R3.out.lt
  clear hb2
  obtain ⟨r0, r1, r2, rf⟩ := R3.out
  go_wp2
  have Y9 := R3.out.set (.int .i64 1) (.int .i64 D) (.string ⟨#[]⟩)
  exact bodyPost_ret (v := .tuple #[.agg #[.int .i64 1, .int .i64 D, .string ⟨#[]⟩], .int .i64 0]) (by simp [results, Try.results38, go_sem, Y9.c0, Y9.c1, Y9.c2]) rfl ⟨rfl, set3_below B3.out (by omega) _ _ _⟩
set_option maxHeartbeats 8000000 in
set_option maxRecDepth 100000 in
theorem vstep_log (op tx : ByteArray) (X : Option Addr) (n k : Nat) (A : Option Addr) (na ca : Nat) (B : Option Addr) (nb cb mb : Nat) (L : List CV) (w : World) (d : Bool) (hop : (op = ⟨#[97, 110, 100]⟩ ∧ d = false) ∨ (op = ⟨#[111, 114]⟩ ∧ d = true)) (hL : L.length ≤ 2600000000000)
    (hE : ∀ w', Below w.heap.size w w' → Calls Try.prog 56 #[.slice X n k, .func (.func 38) #[.agg #[.slice A na ca, .slice B nb cb, .map (some mb)]] #[]] w' (VsPost w' (L, 0))) :
    Calls Try.prog 38 #[.agg #[.slice A na ca, .slice B nb cb, .map (some mb)], .agg #[.string op, .string tx, .slice X n k]] w (SumPost w (decV d L, 0)) := by
  have HDE := Lib.hid (fun (C : Option Addr) (cc : Nat) (w' : World) (hv : Vals w' w'.heap.size C L) => decided_any d C cc L w' hv hL)
  obtain ⟨R, hR⟩ : ∃ R, decV d L = R := ⟨_, rfl⟩
  rw [hR] at HDE ⊢
  obtain ⟨vk, vn, vs⟩ := R
  dsimp only at HDE
  clear hR
  obtain ⟨w0, hw0⟩ : ∃ w0, ((w.alloc (.cells #[.slice A na ca, .slice B nb cb, .map (some mb)] 79)).alloc (.cells #[.string op, .string tx, .slice X n k] 24)).alloc (.cells #[.int .i64 0, .int .i64 0, .string ⟨#[]⟩] 38) = w0 := ⟨_, rfl⟩
  have B0 := Lib.hid (show Below w.heap.size w w0 by rw [← hw0]; exact ((below_alloc w _).alloc (by simp) _).alloc (by simp; omega) _)
  have S0 := Lib.hid (show NBox w0 w.heap.size (.slice A na ca) (.slice B nb cb) (.map (some mb)) by rw [← hw0]; exact ⟨by simp [go_sem], by simp [go_sem], by simp [go_sem], fun j => by simp [go_sem]⟩)
  have N0 := Lib.hid (show NBox w0 (w.heap.size + 1) (.string op) (.string tx) (.slice X n k) by rw [← hw0]; exact ⟨by simp [go_sem], by simp [go_sem], by simp [go_sem], fun j => by simp [go_sem]⟩)
  have R0 := Lib.hid (show NBox w0 (w.heap.size + 1 + 1) (.int .i64 0) (.int .i64 0) (.string ⟨#[]⟩) by rw [← hw0]; exact ⟨by simp [go_sem], by simp [go_sem], by simp [go_sem], fun j => by simp [go_sem]⟩)
  have z0 : w.heap.size + 1 + 1 < w0.heap.size := R0.out.lt
  have HE0 := Lib.hid (hE w0 B0.out)
  unfold VsPost at HE0
  have HW0 := Lib.hid hw0
  clear hw0 hE
  rcases hop with ⟨rfl, rfl⟩ | ⟨rfl, rfl⟩
  all_goals
    go_enter Try.func38, Try.ntmps38
    go_upto_region 1 with fail
    rw [HW0.out]
    obtain ⟨s0, s1, s2, sf⟩ := S0.out
    obtain ⟨x0, x1, x2, xf⟩ := N0.out
    go_wp2_with fail
    refine HE0.out.mono ?_
    rintro e w1 ⟨C, cc, rfl, hv1, hb1⟩
    have OV := Lib.hid hv1
    have B1 := Lib.hid (B0.out.trans (hb1.mono B0.out.size))
    have S1 := Lib.hid (S0.out.below hb1)
    have N1 := Lib.hid (N0.out.below hb1)
    have R1 := Lib.hid (R0.out.below hb1)
    have z1 : w.heap.size + 1 + 1 < w1.heap.size := R1.out.lt
    clear hb1 hv1 s0 s1 s2 sf x0 x1 x2 xf
    obtain ⟨x0, x1, x2, xf⟩ := N1.out
    have HDE2 := Lib.hid (HDE.out C cc w1 OV.out.vals)
    go_wp2_with fail
    refine HDE2.out.mono ?_
    rintro e w2 ⟨rfl, hb2⟩
    have B2 := Lib.hid (B1.out.trans (hb2.mono B1.out.size))
    have R2 := Lib.hid (R1.out.below hb2)
    have z2 := R2.out.lt
    clear hb2 x0 x1 x2 xf
    obtain ⟨r0, r1, r2, rf⟩ := R2.out
    go_wp2
    have Y9 := R2.out.set (.int .i64 vk) (.int .i64 vn) (.string vs)
    exact bodyPost_ret (v := .tuple #[.agg #[.int .i64 vk, .int .i64 vn, .string vs], .int .i64 0]) (by simp [results, Try.results38, go_sem, Y9.c0, Y9.c1, Y9.c2]) rfl ⟨rfl, set3_below B2.out (by omega) _ _ _⟩
def strictB (op : ByteArray) : Prop := op = ⟨#[110, 111, 116]⟩ ∨ op = ⟨#[110, 101, 103]⟩ ∨ op = ⟨#[61]⟩ ∨ op = ⟨#[60, 62]⟩ ∨ op = ⟨#[60]⟩ ∨ op = ⟨#[60, 61]⟩ ∨ op = ⟨#[62]⟩ ∨ op = ⟨#[62, 61]⟩ ∨ op = ⟨#[43]⟩ ∨ op = ⟨#[45]⟩ ∨ op = ⟨#[42]⟩
set_option maxHeartbeats 8000000 in
set_option maxRecDepth 100000 in
theorem vstep_null (op tx : ByteArray) (X : Option Addr) (n k : Nat) (A : Option Addr) (na ca : Nat) (B : Option Addr) (nb cb mb : Nat) (L : List CV) (w : World) (hop : strictB op) (hL : L.length ≤ 2600000000000) (hany : (L.any fun v => v.1 == 0) = true)
    (hE : ∀ w', Below w.heap.size w w' → Calls Try.prog 56 #[.slice X n k, .func (.func 38) #[.agg #[.slice A na ca, .slice B nb cb, .map (some mb)]] #[]] w' (VsPost w' (L, 0))) :
    Calls Try.prog 38 #[.agg #[.slice A na ca, .slice B nb cb, .map (some mb)], .agg #[.string op, .string tx, .slice X n k]] w (SumPost w (nulV, 0)) := by
  have HNC := Lib.hid (fun (C : Option Addr) (cc : Nat) (w' : World) (hv : Vals w' w'.heap.size C L) => ncont_any C cc L w' hv hL)
  rw [hany] at HNC
  unfold strictB at hop
  obtain ⟨w0, hw0⟩ : ∃ w0, ((w.alloc (.cells #[.slice A na ca, .slice B nb cb, .map (some mb)] 79)).alloc (.cells #[.string op, .string tx, .slice X n k] 24)).alloc (.cells #[.int .i64 0, .int .i64 0, .string ⟨#[]⟩] 38) = w0 := ⟨_, rfl⟩
  have B0 := Lib.hid (show Below w.heap.size w w0 by rw [← hw0]; exact ((below_alloc w _).alloc (by simp) _).alloc (by simp; omega) _)
  have S0 := Lib.hid (show NBox w0 w.heap.size (.slice A na ca) (.slice B nb cb) (.map (some mb)) by rw [← hw0]; exact ⟨by simp [go_sem], by simp [go_sem], by simp [go_sem], fun j => by simp [go_sem]⟩)
  have N0 := Lib.hid (show NBox w0 (w.heap.size + 1) (.string op) (.string tx) (.slice X n k) by rw [← hw0]; exact ⟨by simp [go_sem], by simp [go_sem], by simp [go_sem], fun j => by simp [go_sem]⟩)
  have R0 := Lib.hid (show NBox w0 (w.heap.size + 1 + 1) (.int .i64 0) (.int .i64 0) (.string ⟨#[]⟩) by rw [← hw0]; exact ⟨by simp [go_sem], by simp [go_sem], by simp [go_sem], fun j => by simp [go_sem]⟩)
  have z0 : w.heap.size + 1 + 1 < w0.heap.size := R0.out.lt
  have HE0 := Lib.hid (hE w0 B0.out)
  unfold VsPost at HE0
  have HW0 := Lib.hid hw0
  clear hw0 hE
  clear hany
  rcases hop with rfl | rfl | rfl | rfl | rfl | rfl | rfl | rfl | rfl | rfl | rfl
  all_goals
    go_enter Try.func38, Try.ntmps38
    go_upto_region 1 with fail
    rw [HW0.out]
    obtain ⟨s0, s1, s2, sf⟩ := S0.out
    obtain ⟨x0, x1, x2, xf⟩ := N0.out
    go_wp2_with fail
    refine HE0.out.mono ?_
    rintro e w1 ⟨C, cc, rfl, hv1, hb1⟩
    have OV := Lib.hid hv1
    have B1 := Lib.hid (B0.out.trans (hb1.mono B0.out.size))
    have S1 := Lib.hid (S0.out.below hb1)
    have N1 := Lib.hid (N0.out.below hb1)
    have R1 := Lib.hid (R0.out.below hb1)
    have z1 : w.heap.size + 1 + 1 < w1.heap.size := R1.out.lt
    clear hb1 hv1 s0 s1 s2 sf x0 x1 x2 xf
    obtain ⟨x0, x1, x2, xf⟩ := N1.out
    have HN2 := Lib.hid (HNC.out C cc w1 OV.out.vals)
    go_wp2_with fail
    refine HN2.out.mono ?_
    rintro e w2 ⟨rfl, hb2⟩
    have B2 := Lib.hid (B1.out.trans (hb2.mono B1.out.size))
    have R2 := Lib.hid (R1.out.below hb2)
    have z2 := R2.out.lt
    clear hb2 x0 x1 x2 xf
    obtain ⟨r0, r1, r2, rf⟩ := R2.out
    go_wp2
    have Y9 := R2.out.set (.int .i64 0) (.int .i64 0) (.string ⟨#[]⟩)
    exact bodyPost_ret (v := .tuple #[.agg #[.int .i64 0, .int .i64 0, .string ⟨#[]⟩], .int .i64 0]) (by simp [results, Try.results38, go_sem, Y9.c0, Y9.c1, Y9.c2]) rfl ⟨rfl, set3_below B2.out (by omega) _ _ _⟩
end Go.Proofs.Ytkibacolnagkcaa.Code
/-
  A region that draws its order, walked in the order in which it is written, with the operations' readiness reckoned once for the whole region. No function is named here.
-/
namespace Go.Proofs.Ytkibacolnagkcaa.Code
open Go.ChangeShapes Go.WideShapes Go.ChangeAt Go.RowKit
set_option linter.unusedVariables false
/-- the first ones have come up -/
def upTo (n : Nat) : Nat → Array Bool
  | 0 => Array.replicate n false
  | i + 1 => (upTo n i).setIfInBounds i true
/-- each operation may come up, and be taken first, when those written ahead of it have -/
def steps (ops : Array Oper) (n : Nat) : Bool := Region.noSelect ops && (ops.size == n && (List.range n).all fun i => Region.free .any ops (upTo n i) i && (Region.ready .any ops (upTo n i)).contains i)
theorem steps_at {ops : Array Oper} {n : Nat} (h : steps ops n = true) : Region.noSelect ops = true ∧ ops.size = n ∧ ∀ i, i < n → Region.free .any ops (upTo n i) i = true ∧ (Region.ready .any ops (upTo n i)).contains i = true := by
  unfold steps at h
  rw [Bool.and_eq_true, Bool.and_eq_true, List.all_eq_true, beq_iff_eq] at h
  refine ⟨h.1, h.2.1, fun i hi => ?_⟩
  have := h.2.2 i (List.mem_range.2 hi)
  rwa [Bool.and_eq_true] at this
/-- what is left from an operation on -/
def SeqH (P : Program) (ops : Array Oper) (Q : Exit → Act → World → Prop) (S : World → Prop) (n i : Nat) (a : Act) (w : World) : Prop := wpAnyH P .any ops Q S (n - i) (upTo n i) a w
theorem seq_begin {P : Program} {ops : Array Oper} {Q : Exit → Act → World → Prop} {id : Nat} {a : Act} {w : World} (S : World → Prop) (n : Nat) (hm : P.follows .mixedOrders = true) (hst : steps ops n = true) (hS : S w.drew)
    (h : Hid (steps ops n = true) → S w.drew → SeqH P ops Q S n 0 a w.drew) : (Code.region id ops true).wp P Q a w := by
  refine wp_region_held_drew hm hS fun hS2 => ?_
  have h2 := h (Lib.hid hst) hS2
  have h3 := (steps_at hst).2.1
  unfold SeqH at h2
  rw [Nat.sub_zero] at h2
  rw [h3]
  exact h2
theorem seq_take {P : Program} {ops : Array Oper} {Q : Exit → Act → World → Prop} {S : World → Prop} {n : Nat} (hst : Hid (steps ops n = true)) (i d : Nat) {v : Value} {a : Act} {w : World} {o : _} {t : _} {p : _} {f : _} {g : _}
    (hi : ops[i]? = some (⟨some d, o, t, p, f, g⟩ : Oper)) (hy : ∀ w, S w → (execOp a.eval ⟨some d, o, t, p, f, g⟩).run P w = .ok (.value v) w)
    (h : SeqH P ops Q S n (i + 1) (a.put (some d) v) w) (hw : Region.wanted (⟨some d, o, t, p, f, g⟩ : Oper) (yielded ops a.tmps) = true := by rfl) (hS : S w := by assumption) (hQ : ∀ c a w, Q (.panic c) (a.put (some d) v) w → Q (.panic c) a w := by exact fun _ _ _ h => h) : SeqH P ops Q S n i a w := by
  obtain ⟨h1, h2, h3⟩ := steps_at hst.out
  have hin : i < n := by
    rw [← h2]
    exact (Array.getElem?_eq_some_iff.1 hi).1
  obtain ⟨h4, h5⟩ := h3 i hin
  unfold SeqH at *
  rw [show n - i = (n - (i + 1)) + 1 by omega]
  exact wpAnyH_take hi h1 h4 h5 hQ (Or.inl ⟨hw, hy⟩) hS h
theorem seq_skip {P : Program} {ops : Array Oper} {Q : Exit → Act → World → Prop} {S : World → Prop} {n : Nat} (hst : Hid (steps ops n = true)) (i d : Nat) {a : Act} {w : World} {o : _} {t : _} {p : _} {f : _} {g : _}
    (hi : ops[i]? = some (⟨some d, o, t, p, f, g⟩ : Oper))
    (h : SeqH P ops Q S n (i + 1) (a.put (some d) undef) w) (hw : Region.wanted (⟨some d, o, t, p, f, g⟩ : Oper) (yielded ops a.tmps) = false := by rfl) (hS : S w := by assumption) (hQ : ∀ c a w, Q (.panic c) (a.put (some d) undef) w → Q (.panic c) a w := by exact fun _ _ _ h => h) : SeqH P ops Q S n i a w := by
  obtain ⟨h1, h2, h3⟩ := steps_at hst.out
  have hin : i < n := by
    rw [← h2]
    exact (Array.getElem?_eq_some_iff.1 hi).1
  obtain ⟨h4, h5⟩ := h3 i hin
  unfold SeqH at *
  rw [show n - i = (n - (i + 1)) + 1 by omega]
  exact wpAnyH_take hi h1 h4 h5 hQ (Or.inr ⟨hw, rfl⟩) hS h
/-- a call: nothing else may come up there -/
theorem seq_call {P : Program} {ops : Array Oper} {Q : Exit → Act → World → Prop} {S : World → Prop} {n : Nat} (hst : Hid (steps ops n = true)) (i d : Nat) {a : Act} {w : World} {o : _} {t : _} {p : _} {f : _} {g : _}
    (hi : ops[i]? = some (⟨some d, o, t, p, f, g⟩ : Oper)) (hone : Region.ready .any ops (upTo n i) = [i])
    (h : ∀ K' : Act → World → Prop, Go.Shut (∀ a w, S w → (S w → SeqH P ops Q S n (i + 1) a w) → K' a w) → if Region.wanted (⟨some d, o, t, p, f, g⟩ : Oper) (yielded ops a.tmps) = true then Oper.wp P ⟨some d, o, t, p, f, g⟩ a w K' Q else K' (a.put (some d) undef) w) : SeqH P ops Q S n i a w := by
  obtain ⟨h1, h2, h3⟩ := steps_at hst.out
  have hin : i < n := by
    rw [← h2]
    exact (Array.getElem?_eq_some_iff.1 hi).1
  unfold SeqH at *
  rw [show n - i = (n - (i + 1)) + 1 by omega]
  exact wpAnyH_ready (rs := [i]) hone (by simp) (AllReadyH.cons hi h AllReadyH.nil)
theorem seq_done {P : Program} {ops : Array Oper} {Q : Exit → Act → World → Prop} {S : World → Prop} {n : Nat} {a : Act} {w : World} (hone : Region.ready .any ops (upTo n n) = []) (h : Q .normal a w) : SeqH P ops Q S n n a w := by
  unfold SeqH
  exact wpAnyH_done hone h _
end Go.Proofs.Ytkibacolnagkcaa.Code
