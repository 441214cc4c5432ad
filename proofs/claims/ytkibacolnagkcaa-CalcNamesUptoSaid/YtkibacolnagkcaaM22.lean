/-
  The program's sum of two numbers, of the wider one's kind; and whether a test of two values holds.
-/
import Derived.Test.YtkibacolnagkcaaM20
import Derived.Test.YtkibacolnagkcaaM21
namespace Go.Proofs.Ytkibacolnagkcaa.Code
open Go.ChangeShapes Go.WideShapes Go.ChangeAt Go.RowKit Val Elems
set_option linter.unusedVariables false
set_option linter.unusedSimpArgs false
theorem ints_two {w : World} {g : Nat} {a b : Int} (h0 : w.cell? ⟨g, 0, none⟩ = some (.int .i64 a)) (h1 : w.cell? ⟨g, 1, none⟩ = some (.int .i64 b)) : Ints w w.heap.size (some ⟨g, 0, none⟩) [a, b] := by
  have hg := World.block_lt_of_cell? _ _ h0
  intro i hi
  have hc : i = 0 ∨ i = 1 := by simp at hi; omega
  rcases hc with rfl | rfl
  · exact ⟨_, rfl, hg, by simpa [Addr.add] using h0⟩
  · exact ⟨_, rfl, hg, by simpa [Addr.add] using h1⟩
/-- a number, cast to its kind -/
theorem sum_cast {K x : Int} (hK : K = 2 ∨ K = 3) (hx : Num.fitE x = 0) : (castE 3 (Num.fitV x) ⟨#[]⟩ K = 0 ∧ sumV K x = ((castK 3 (Num.fitV x) ⟨#[]⟩ K, castN 3 (Num.fitV x) ⟨#[]⟩ K, castS 3 (Num.fitV x) ⟨#[]⟩ K), 0)) ∨ (castE 3 (Num.fitV x) ⟨#[]⟩ K ≠ 0 ∧ sumV K x = (nulV, 11)) := by
  have hf : -9223372036854775808 ≤ x ∧ x ≤ 9223372036854775807 := by
    unfold Num.fitE at hx
    split at hx
    · assumption
    · exact absurd hx (by decide)
  have hv : Num.fitV x = x := by
    unfold Num.fitV
    first | rw [if_pos hf] | (split <;> first | rfl | (exfalso; omega))
  have hr : rightB 3 x ⟨#[]⟩ = true := rfl
  have hc : columnB K = true := by rcases hK with rfl | rfl <;> rfl
  have he : castE 3 x ⟨#[]⟩ K = if (3 : Int) = K then 0 else (if holdsB K x = true then 0 else 12) := by
    unfold castE
    rw [if_neg (by rw [hr, hc]; simp)]
    by_cases h3 : (3 : Int) = K
    · rw [if_pos (.inr h3), if_pos h3]
    · rw [if_neg (by rintro (h | h) <;> omega), if_neg h3, if_neg (by omega)]
  rw [hv]
  by_cases h0 : castE 3 x ⟨#[]⟩ K = 0
  · left
    have e1 : castK 3 x ⟨#[]⟩ K = K := by unfold castK; rw [if_pos h0, if_neg (by decide)]
    have e2 : castN 3 x ⟨#[]⟩ K = x := by unfold castN; rw [if_pos h0]
    have e3 : castS 3 x ⟨#[]⟩ K = ⟨#[]⟩ := by unfold castS; rw [if_pos h0]
    refine ⟨h0, ?_⟩
    rw [e1, e2, e3]
    unfold sumV
    rw [if_pos]
    refine ⟨hf, ?_⟩
    rw [he] at h0
    rcases hK with rfl | rfl
    · rw [if_neg (by decide)] at h0
      split at h0
      · rename_i h9
        unfold rightB
        rw [if_neg (by decide), if_neg (by decide), h9]
        rfl
      · exact absurd h0 (by decide)
    · exact hr
  · right
    refine ⟨h0, ?_⟩
    unfold sumV
    rw [if_neg]
    rintro ⟨_, h9⟩
    apply h0
    rw [he]
    split
    · rfl
    · rw [if_pos]
      rcases hK with rfl | rfl
      · unfold rightB at h9
        rw [if_neg (by decide), if_neg (by decide), Bool.and_eq_true] at h9
        exact h9.2
      · rfl
theorem sum_over {K x : Int} (hx : Num.fitE x ≠ 0) : sumV K x = (nulV, 11) ∧ Num.fitE x = 11 := by
  have hf : ¬ (-9223372036854775808 ≤ x ∧ x ≤ 9223372036854775807) := by
    intro h
    apply hx
    unfold Num.fitE
    rw [if_pos h]
  constructor
  · unfold sumV
    rw [if_neg (fun h => hf h.1)]
  · unfold Num.fitE
    rw [if_neg hf]
def SumPost (w : World) (r : CV × Int) (e : Ending) (w' : World) : Prop := e = .returned (.tuple #[.agg #[.int .i64 r.1.1, .int .i64 r.1.2.1, .string r.1.2.2], .int .i64 r.2]) ∧ Below w.heap.size w w'
set_option maxHeartbeats 8000000 in
set_option maxRecDepth 100000 in
theorem csum_of (fn : Nat) (en : ∀ args w, (callFunc fn args).run Try.prog w = .ok (.enter fn args) w) (T : ByteArray) (hT : T.size ≤ maxLen) (hs : sumsF T = some (.func (.func fn) #[] #[])) (c1 c2 : Value) (mb nb : Nat) (k1 n1 : Int) (s1 : ByteArray) (k2 n2 : Int) (s2 : ByteArray) (x K : Int) (w : World)
    (hm : MapR w mb nb sumsF) (hK : K = 2 ∨ K = 3) (hw : widestK [k1, k2] = K) (hc : ∀ w', Calls Try.prog fn #[.int .i64 n1, .int .i64 n2] w' fun e w'' => e = .returned (.tuple #[.int .i64 (Num.fitV x), .int .i64 (Num.fitE x)]) ∧ w' = w'') (ho1 : c1.oneCell' = true) (ho2 : c2.oneCell' = true) :
    Calls Try.prog 60 #[.agg #[c1, c2, .map (some mb)], .string T, .agg #[.int .i64 k1, .int .i64 n1, .string s1], .agg #[.int .i64 k2, .int .i64 n2, .string s2]] w (SumPost w (sumV K x)) := by
  have HM := Lib.hid (fun (w' : World) (hb : Below w.heap.size w w') => run_looks w' mb nb sumsF (hm.below hb) T hT _ hs)
  have HC := Lib.hid hc
  have HFF := Lib.hid (Num.fitV_fits x)
  have HCA := Lib.hid (fun (h : Num.fitE x = 0) => sum_cast (K := K) hK h)
  have HOV := Lib.hid (fun (h : Num.fitE x ≠ 0) => sum_over (K := K) h)
  obtain ⟨w0, hw0⟩ : ∃ w0, (((w.alloc (.cells #[c1, c2, .map (some mb)] 79)).alloc (.cells #[.int .i64 k1, .int .i64 n1, .string s1] 38)).alloc (.cells #[.int .i64 k2, .int .i64 n2, .string s2] 38)).alloc (.cells #[.int .i64 0, .int .i64 0, .string ⟨#[]⟩] 38) = w0 := ⟨_, rfl⟩
  have z0 : w.heap.size + 1 + 1 + 1 < w0.heap.size := by rw [← hw0]; simp
  have B0 := Lib.hid (show Below w.heap.size w w0 by rw [← hw0]; exact (((below_alloc _ _).alloc (by simp) _).alloc (by simp; omega) _).alloc (by simp; omega) _)
  have N0 := Lib.hid (show NBox w0 w.heap.size c1 c2 (.map (some mb)) by rw [← hw0]; exact ⟨by simp [go_sem], by simp [go_sem], by simp [go_sem], fun j => by simp [go_sem]⟩)
  have N1 := Lib.hid (show NBox w0 (w.heap.size + 1) (.int .i64 k1) (.int .i64 n1) (.string s1) by rw [← hw0]; exact ⟨by simp [go_sem], by simp [go_sem], by simp [go_sem], fun j => by simp [go_sem]⟩)
  have N2 := Lib.hid (show NBox w0 (w.heap.size + 1 + 1) (.int .i64 k2) (.int .i64 n2) (.string s2) by rw [← hw0]; exact ⟨by simp [go_sem], by simp [go_sem], by simp [go_sem], fun j => by simp [go_sem]⟩)
  have N3 := Lib.hid (show NBox w0 (w.heap.size + 1 + 1 + 1) (.int .i64 0) (.int .i64 0) (.string ⟨#[]⟩) by rw [← hw0]; exact ⟨by simp [go_sem], by simp [go_sem], by simp [go_sem], fun j => by simp [go_sem]⟩)
  obtain ⟨V, hV⟩ : ∃ V, Num.fitV x = V := ⟨_, rfl⟩
  obtain ⟨E, hE⟩ : ∃ E, Num.fitE x = E := ⟨_, rfl⟩
  obtain ⟨R, hR⟩ : ∃ R, sumV K x = R := ⟨_, rfl⟩
  rw [hV] at HC HFF HCA
  rw [hE] at HC HCA HOV
  rw [hR] at HCA HOV
  rw [hR]
  have HW0 := Lib.hid hw0
  have HWK := Lib.hid hw
  have PS := Lib.hid (fun (w' : World) (hb : Below w.heap.size w w') (x y z : Value) => show Below w.heap.size w (W3 w' (w.heap.size + 1 + 1 + 1) x y z) from ((hb.setCell (p := ⟨w.heap.size + 1 + 1 + 1, 0, none⟩) (by show w.heap.size ≤ w.heap.size + 1 + 1 + 1; omega) _).setCell (p := ⟨w.heap.size + 1 + 1 + 1, 1, none⟩) (by show w.heap.size ≤ w.heap.size + 1 + 1 + 1; omega) _).setCell (p := ⟨w.heap.size + 1 + 1 + 1, 2, none⟩) (by show w.heap.size ≤ w.heap.size + 1 + 1 + 1; omega) _)
  have hSP : ∀ (r : CV × Int) (w' : World) (k n e : Int) (s : ByteArray), r = ((k, n, s), e) → Below w.heap.size w w' → SumPost w r (.returned (.tuple #[.agg #[.int .i64 k, .int .i64 n, .string s], .int .i64 e])) w' := fun r w' k n e s h hb => by subst h; exact ⟨rfl, hb⟩
  have HSP := Lib.hid hSP
  clear hm hs hc hK hw hV hE hR hw0 hSP
  go_enter Try.func60, Try.ntmps60
  go_upto_region 1 with fail
  rw [HW0.out]
  have hlk := HM.out w0 B0.out
  obtain ⟨x0, x1, x2, xf⟩ := N0.out
  obtain ⟨y0, y1, y2, yf⟩ := N1.out
  obtain ⟨v0, v1, v2, vf⟩ := N2.out
  go_wp2_with fail
  refine (HC.out _).mono ?_
  rintro e w1 ⟨rfl, rfl⟩
  by_cases hE0 : E = 0
  case neg =>
    have e1 : (E != 0) = true := by simpa using hE0
    obtain ⟨h1, h2⟩ := HOV.out hE0
    subst h2
    have HR1 := Lib.hid h1
    obtain ⟨z0', z1', z2', zf'⟩ := N3.out
    clear hE0 h1 hlk
    go_wp2
    have Y9 := N3.out.set (.int .i64 0) (.int .i64 0) (.string ⟨#[]⟩)
    exact bodyPost_ret (v := .tuple #[.agg #[.int .i64 0, .int .i64 0, .string ⟨#[]⟩], .int .i64 11]) (by simp [results, Try.results60, go_sem, Y9.c0, Y9.c1, Y9.c2]) rfl (HSP.out _ _ _ _ _ _ HR1.out (PS.out _ B0.out _ _ _))
  subst hE0
  have HCB := Lib.hid (HCA.out rfl)
  clear hlk
  obtain ⟨w1, hw1⟩ : ∃ w1, w0.alloc (.cells #[.int .i64 k1, .int .i64 k2] 32) = w1 := ⟨_, rfl⟩
  have B1 := Lib.hid (show Below w.heap.size w w1 by rw [← hw1]; exact B0.out.trans ((below_alloc w0 _).mono B0.out.size))
  have M3 := Lib.hid (show NBox w1 (w.heap.size + 1 + 1 + 1) (.int .i64 0) (.int .i64 0) (.string ⟨#[]⟩) by rw [← hw1]; exact N3.out.below (below_alloc w0 _))
  have HI := Lib.hid (show Ints w1 w1.heap.size (some ⟨w0.heap.size, 0, none⟩) [k1, k2] by rw [← hw1]; exact ints_two (by simp) (by simp))
  have HWD := Lib.hid (cwider_any (some ⟨w0.heap.size, 0, none⟩) 2 [k1, k2] w1 HI.out (by simp))
  rw [HWK.out] at HWD
  have HW1 := Lib.hid hw1
  clear hw1
  go_wp2_with fail
  rw [HW1.out]
  refine HWD.out.mono ?_
  rintro e w2 ⟨rfl, rfl⟩
  have hcst := Val.cast_any 3 V ⟨#[]⟩ K w1 HFF.out
  unfold castP at hcst
  obtain ⟨ck, hck⟩ : ∃ c, castK 3 V ⟨#[]⟩ K = c := ⟨_, rfl⟩
  obtain ⟨cn, hcn⟩ : ∃ c, castN 3 V ⟨#[]⟩ K = c := ⟨_, rfl⟩
  obtain ⟨cs, hcs⟩ : ∃ c, castS 3 V ⟨#[]⟩ K = c := ⟨_, rfl⟩
  obtain ⟨ce, hce⟩ : ∃ c, castE 3 V ⟨#[]⟩ K = c := ⟨_, rfl⟩
  rw [hck, hcn, hcs, hce] at hcst HCB
  have HCST := Lib.hid hcst
  clear hcst hck hcn hcs hce
  go_wp2_with fail
  refine HCST.out.mono ?_
  rintro e w3 ⟨rfl, hb3⟩
  have B3 := Lib.hid (B1.out.trans (hb3.mono B1.out.size))
  have M4 := Lib.hid (M3.out.below hb3)
  have z3 := M4.out.lt
  clear hb3 x0 x1 x2 xf y0 y1 y2 yf v0 v1 v2 vf
  rcases HCB.out with ⟨rfl, hR1⟩ | ⟨hce, hR1⟩
  · have HR1 := Lib.hid hR1
    obtain ⟨z0', z1', z2', zf'⟩ := M4.out
    have M5 := Lib.hid (M4.out.alloc (.cells #[.int .i64 ck, .int .i64 cn, .string cs] 38))
    have B5 := Lib.hid (B3.out.alloc B3.out.size (.cells #[.int .i64 ck, .int .i64 cn, .string cs] 38))
    clear hR1
    go_wp2
    have Y9 := (M4.out.set (.int .i64 ck) (.int .i64 cn) (.string cs)).alloc (.cells #[.int .i64 ck, .int .i64 cn, .string cs] 38)
    have P9 := (PS.out _ B3.out (.int .i64 ck) (.int .i64 cn) (.string cs)).alloc (by rw [W3.size]; exact B3.out.size) (.cells #[.int .i64 ck, .int .i64 cn, .string cs] 38)
    unfold W3 at P9
    exact bodyPost_ret (v := .tuple #[.agg #[.int .i64 ck, .int .i64 cn, .string cs], .int .i64 0]) (by simp [results, Try.results60, go_sem, Y9.c0, Y9.c1, Y9.c2]) rfl (HSP.out _ _ _ _ _ _ HR1.out P9)
  · have e1 : (ce != 0) = true := by simpa using hce
    have HR1 := Lib.hid hR1
    obtain ⟨z0', z1', z2', zf'⟩ := M4.out
    clear hce hR1
    go_wp2
    have Y9 := (M4.out.set (.int .i64 0) (.int .i64 0) (.string ⟨#[]⟩)).alloc (.cells #[.int .i64 ck, .int .i64 cn, .string cs] 38)
    have P9 := (PS.out _ B3.out (.int .i64 0) (.int .i64 0) (.string ⟨#[]⟩)).alloc (by rw [W3.size]; exact B3.out.size) (.cells #[.int .i64 ck, .int .i64 cn, .string cs] 38)
    unfold W3 at P9
    exact bodyPost_ret (v := .tuple #[.agg #[.int .i64 0, .int .i64 0, .string ⟨#[]⟩], .int .i64 11]) (by simp [results, Try.results60, go_sem, Y9.c0, Y9.c1, Y9.c2]) rfl (HSP.out _ _ _ _ _ _ HR1.out P9)
theorem csum_any (T : ByteArray) (hop : T.data.toList ∈ sums) (c1 c2 : Value) (mb nb : Nat) (k1 n1 : Int) (s1 : ByteArray) (k2 n2 : Int) (s2 : ByteArray) (K : Int) (w : World)
    (hm : MapR w mb nb sumsF) (hK : K = 2 ∨ K = 3) (hw : widestK [k1, k2] = K) (h1 : Num.fits n1) (h2 : Num.fits n2) (ho1 : c1.oneCell' = true) (ho2 : c2.oneCell' = true) :
    Calls Try.prog 60 #[.agg #[c1, c2, .map (some mb)], .string T, .agg #[.int .i64 k1, .int .i64 n1, .string s1], .agg #[.int .i64 k2, .int .i64 n2, .string s2]] w (SumPost w (sumV K (sumN T.data.toList n1 n2))) := by
  have hc : T.data.toList = [43] ∨ T.data.toList = [45] ∨ T.data.toList = [42] := by simpa [sums] using hop
  rcases hc with h | h | h
  · obtain rfl : T = ⟨#[43]⟩ := by rw [← Lib.mk_data T, h]
    exact csum_of 53 (enters_of Try.func53 (by kernel_rfl) rfl) _ (by decide) rfl c1 c2 mb nb k1 n1 s1 k2 n2 s2 (n1 + n2) K w hm hK hw (fun w' => (Num.add_any n1 n2 w' h1 h2).mono fun e w'' h => ⟨h.1, h.2⟩) ho1 ho2
  · obtain rfl : T = ⟨#[45]⟩ := by rw [← Lib.mk_data T, h]
    exact csum_of 54 (enters_of Try.func54 (by kernel_rfl) rfl) _ (by decide) rfl c1 c2 mb nb k1 n1 s1 k2 n2 s2 (n1 - n2) K w hm hK hw (fun w' => (Num.sub_any n1 n2 w' h1 h2).mono fun e w'' h => ⟨h.1, h.2⟩) ho1 ho2
  · obtain rfl : T = ⟨#[42]⟩ := by rw [← Lib.mk_data T, h]
    exact csum_of 55 (enters_of Try.func55 (by kernel_rfl) rfl) _ (by decide) rfl c1 c2 mb nb k1 n1 s1 k2 n2 s2 (n1 * n2) K w hm hK hw (fun w' => (Num.mul_any n1 n2 w' h1 h2).mono fun e w'' h => ⟨h.1, h.2⟩) ho1 ho2
/-- does a test hold, by how two compare? -/
def testC (op : List UInt8) (c : Int) : Bool := if op = [61] then c == 0 else if op = [60, 62] then c != 0 else if op = [60] then decide (c < 0) else if op = [60, 61] then decide (c ≤ 0) else if op = [62] then decide (0 < c) else decide (0 ≤ c)
theorem testB_c (op : List UInt8) (a b : CV) : testB op a b = testC op (cmpT a b) := rfl
set_option maxHeartbeats 4000000 in
set_option maxRecDepth 100000 in
theorem so_any (T : ByteArray) (hop : T.data.toList ∈ tests) (k1 n1 : Int) (s1 : ByteArray) (k2 n2 : Int) (s2 : ByteArray) (w : World) :
    Calls Try.prog 61 #[.string T, .agg #[.int .i64 k1, .int .i64 n1, .string s1], .agg #[.int .i64 k2, .int .i64 n2, .string s2]] w fun e w' => e = .returned (.bool (testC T.data.toList (cmpV k1 n1 s1 k1 n2 s2))) ∧ Below w.heap.size w w' := by
  obtain ⟨w0, hw0⟩ : ∃ w0, ((w.alloc (.cells #[.int .i64 k1, .int .i64 n1, .string s1] 38)).alloc (.cells #[.int .i64 k2, .int .i64 n2, .string s2] 38)) = w0 := ⟨_, rfl⟩
  have z0 : w.heap.size + 1 < w0.heap.size := by rw [← hw0]; simp
  have B0 := Lib.hid (show Below w.heap.size w w0 by rw [← hw0]; exact ((below_alloc _ _).alloc (by simp) _))
  have N1 := Lib.hid (show NBox w0 w.heap.size (.int .i64 k1) (.int .i64 n1) (.string s1) by rw [← hw0]; exact ⟨by simp [go_sem], by simp [go_sem], by simp [go_sem], fun j => by simp [go_sem]⟩)
  have N2 := Lib.hid (show NBox w0 (w.heap.size + 1) (.int .i64 k2) (.int .i64 n2) (.string s2) by rw [← hw0]; exact ⟨by simp [go_sem], by simp [go_sem], by simp [go_sem], fun j => by simp [go_sem]⟩)
  have HC := Lib.hid (fun w' => compare_any k1 n1 s1 k1 n2 s2 w')
  obtain ⟨c, hc⟩ : ∃ c, cmpV k1 n1 s1 k1 n2 s2 = c := ⟨_, rfl⟩
  rw [hc] at HC ⊢
  have HW0 := Lib.hid hw0
  clear hc hw0
  have hcs : T.data.toList = [61] ∨ T.data.toList = [60, 62] ∨ T.data.toList = [60] ∨ T.data.toList = [60, 61] ∨ T.data.toList = [62] ∨ T.data.toList = [62, 61] := by simpa [tests] using hop
  clear hop
  rcases hcs with h | h | h | h | h | h
  · obtain rfl : T = ⟨#[61]⟩ := by rw [← Lib.mk_data T, h]
    obtain ⟨b, hb⟩ : ∃ b, (c == 0) = b := ⟨_, rfl⟩
    rw [show testC (ByteArray.data ⟨#[61]⟩).toList c = (c == 0) from rfl, hb]
    clear h
    go_enter Try.func61, Try.ntmps61
    go_upto_region 1 with fail
    rw [HW0.out]
    obtain ⟨x0, x1, x2, xf⟩ := N1.out
    obtain ⟨y0, y1, y2, yf⟩ := N2.out
    go_wp2_with fail
    refine (HC.out _).mono ?_
    rintro e w1 ⟨rfl, hb1⟩
    have L1 := Lib.hid (show Below w.heap.size w w1 from (B0.out.setCell (p := ⟨w.heap.size + 1, 0, none⟩) (by show w.heap.size ≤ w.heap.size + 1; omega) (.int .i64 k1)).trans (hb1.mono (by simp; omega)))
    clear hb1 x0 x1 x2 xf y0 y1 y2 yf
    go_wp2
    go_ret
    exact ⟨retB (by first | exact hb | (rw [← hb]) | (simp [hb])), L1.out⟩
  · obtain rfl : T = ⟨#[60, 62]⟩ := by rw [← Lib.mk_data T, h]
    obtain ⟨b, hb⟩ : ∃ b, (c != 0) = b := ⟨_, rfl⟩
    rw [show testC (ByteArray.data ⟨#[60, 62]⟩).toList c = (c != 0) from rfl, hb]
    clear h
    go_enter Try.func61, Try.ntmps61
    go_upto_region 1 with fail
    rw [HW0.out]
    obtain ⟨x0, x1, x2, xf⟩ := N1.out
    obtain ⟨y0, y1, y2, yf⟩ := N2.out
    go_wp2_with fail
    refine (HC.out _).mono ?_
    rintro e w1 ⟨rfl, hb1⟩
    have L1 := Lib.hid (show Below w.heap.size w w1 from (B0.out.setCell (p := ⟨w.heap.size + 1, 0, none⟩) (by show w.heap.size ≤ w.heap.size + 1; omega) (.int .i64 k1)).trans (hb1.mono (by simp; omega)))
    clear hb1 x0 x1 x2 xf y0 y1 y2 yf
    go_wp2
    go_ret
    exact ⟨retB (by first | exact hb | (rw [← hb]) | (simp [hb])), L1.out⟩
  · obtain rfl : T = ⟨#[60]⟩ := by rw [← Lib.mk_data T, h]
    obtain ⟨b, hb⟩ : ∃ b, (decide (c < 0)) = b := ⟨_, rfl⟩
    rw [show testC (ByteArray.data ⟨#[60]⟩).toList c = (decide (c < 0)) from rfl, hb]
    clear h
    go_enter Try.func61, Try.ntmps61
    go_upto_region 1 with fail
    rw [HW0.out]
    obtain ⟨x0, x1, x2, xf⟩ := N1.out
    obtain ⟨y0, y1, y2, yf⟩ := N2.out
    go_wp2_with fail
    refine (HC.out _).mono ?_
    rintro e w1 ⟨rfl, hb1⟩
    have L1 := Lib.hid (show Below w.heap.size w w1 from (B0.out.setCell (p := ⟨w.heap.size + 1, 0, none⟩) (by show w.heap.size ≤ w.heap.size + 1; omega) (.int .i64 k1)).trans (hb1.mono (by simp; omega)))
    clear hb1 x0 x1 x2 xf y0 y1 y2 yf
    go_wp2
    go_ret
    exact ⟨retB (by first | exact hb | (rw [← hb]) | (simp [hb])), L1.out⟩
  · obtain rfl : T = ⟨#[60, 61]⟩ := by rw [← Lib.mk_data T, h]
    obtain ⟨b, hb⟩ : ∃ b, (decide (c ≤ 0)) = b := ⟨_, rfl⟩
    rw [show testC (ByteArray.data ⟨#[60, 61]⟩).toList c = (decide (c ≤ 0)) from rfl, hb]
    clear h
    go_enter Try.func61, Try.ntmps61
    go_upto_region 1 with fail
    rw [HW0.out]
    obtain ⟨x0, x1, x2, xf⟩ := N1.out
    obtain ⟨y0, y1, y2, yf⟩ := N2.out
    go_wp2_with fail
    refine (HC.out _).mono ?_
    rintro e w1 ⟨rfl, hb1⟩
    have L1 := Lib.hid (show Below w.heap.size w w1 from (B0.out.setCell (p := ⟨w.heap.size + 1, 0, none⟩) (by show w.heap.size ≤ w.heap.size + 1; omega) (.int .i64 k1)).trans (hb1.mono (by simp; omega)))
    clear hb1 x0 x1 x2 xf y0 y1 y2 yf
    go_wp2
    go_ret
    exact ⟨retB (by first | exact hb | (rw [← hb]) | (simp [hb])), L1.out⟩
  · obtain rfl : T = ⟨#[62]⟩ := by rw [← Lib.mk_data T, h]
    obtain ⟨b, hb⟩ : ∃ b, (decide (0 < c)) = b := ⟨_, rfl⟩
    rw [show testC (ByteArray.data ⟨#[62]⟩).toList c = (decide (0 < c)) from rfl, hb]
    clear h
    go_enter Try.func61, Try.ntmps61
    go_upto_region 1 with fail
    rw [HW0.out]
    obtain ⟨x0, x1, x2, xf⟩ := N1.out
    obtain ⟨y0, y1, y2, yf⟩ := N2.out
    go_wp2_with fail
    refine (HC.out _).mono ?_
    rintro e w1 ⟨rfl, hb1⟩
    have L1 := Lib.hid (show Below w.heap.size w w1 from (B0.out.setCell (p := ⟨w.heap.size + 1, 0, none⟩) (by show w.heap.size ≤ w.heap.size + 1; omega) (.int .i64 k1)).trans (hb1.mono (by simp; omega)))
    clear hb1 x0 x1 x2 xf y0 y1 y2 yf
    go_wp2
    go_ret
    exact ⟨retB (by first | exact hb | (rw [← hb]) | (simp [hb])), L1.out⟩
  · obtain rfl : T = ⟨#[62, 61]⟩ := by rw [← Lib.mk_data T, h]
    obtain ⟨b, hb⟩ : ∃ b, (decide (0 ≤ c)) = b := ⟨_, rfl⟩
    rw [show testC (ByteArray.data ⟨#[62, 61]⟩).toList c = (decide (0 ≤ c)) from rfl, hb]
    clear h
    go_enter Try.func61, Try.ntmps61
    go_upto_region 1 with fail
    rw [HW0.out]
    obtain ⟨x0, x1, x2, xf⟩ := N1.out
    obtain ⟨y0, y1, y2, yf⟩ := N2.out
    go_wp2_with fail
    refine (HC.out _).mono ?_
    rintro e w1 ⟨rfl, hb1⟩
    have L1 := Lib.hid (show Below w.heap.size w w1 from (B0.out.setCell (p := ⟨w.heap.size + 1, 0, none⟩) (by show w.heap.size ≤ w.heap.size + 1; omega) (.int .i64 k1)).trans (hb1.mono (by simp; omega)))
    clear hb1 x0 x1 x2 xf y0 y1 y2 yf
    go_wp2
    go_ret
    exact ⟨retB (by first | exact hb | (rw [← hb]) | (simp [hb])), L1.out⟩
end Go.Proofs.Ytkibacolnagkcaa.Code
