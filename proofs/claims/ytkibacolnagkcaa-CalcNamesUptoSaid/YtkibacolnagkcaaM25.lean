/-
  A node's kind by its Kids' kinds, as the program tells it, in plain words.
-/
import Derived.Test.YtkibacolnagkcaaM24
import Derived.Test.YtkibacolnagkcaaM17
import Derived.Test.YtkibacolnagkcaaM16
namespace Go.Proofs.Ytkibacolnagkcaa.Code
open Val
set_option linter.unusedVariables false
theorem form_split {op tx : List UInt8} {n : Nat} (h : formB op tx n = true) : kidsN op = some n ∧ (tx = [] ∨ op ∈ [sNum, sText, sCol]) := by
  unfold formB at h
  rw [Bool.and_eq_true, Bool.or_eq_true, decide_eq_true_eq, decide_eq_true_eq, decide_eq_true_eq] at h
  exact h
theorem type_bad {cols : List W} {op tx : List UInt8} {l : List Int} (h : formB op tx l.length = false) : typeT cols op tx l = (0, 1) := by
  unfold typeT
  rw [if_pos]
  unfold formB at h
  rw [Bool.and_eq_false_iff, Bool.or_eq_false_iff, decide_eq_false_iff_not, decide_eq_false_iff_not, decide_eq_false_iff_not] at h
  exact h
theorem type_good {cols : List W} {op tx : List UInt8} {l : List Int} (h : formB op tx l.length = true) : ¬ (kidsN op ≠ some l.length ∨ (tx ≠ [] ∧ op ∉ [sNum, sText, sCol])) := by
  obtain ⟨h1, h2⟩ := form_split h
  rintro (h3 | ⟨h3, h4⟩)
  · exact h3 h1
  · rcases h2 with h2 | h2
    · exact h3 h2
    · exact h4 h2
theorem type_lit {cols : List W} {op tx : List UInt8} {l : List Int} (hop : op ∈ lits) (h : formB op tx l.length = true) : l = [] ∧ typeT cols op tx l = ((litT op tx).1.1, (litT op tx).2) := by
  have hk := (form_split h).1
  have h0 : kidsN op = some 0 ∧ op ≠ sCol := by
    simp only [lits, List.mem_cons, List.not_mem_nil, or_false] at hop
    rcases hop with rfl | rfl | rfl | rfl | rfl <;> decide
  rw [h0.1] at hk
  have hl : l = [] := List.eq_nil_of_length_eq_zero (Option.some.inj hk).symm
  subst hl
  refine ⟨rfl, ?_⟩
  unfold typeT
  rw [if_neg (type_good (cols := cols) (l := []) h)]
  dsimp only
  rw [if_neg h0.2]
  unfold litT
  cases litL op tx <;> rfl
theorem type_col {cols : List W} {tx : List UInt8} {l : List Int} (h : formB sCol tx l.length = true) : typeT cols sCol tx l = colK cols tx := by
  have hk := (form_split h).1
  rw [kidsN_col] at hk
  have hl : l = [] := List.eq_nil_of_length_eq_zero (Option.some.inj hk).symm
  subst hl
  unfold typeT
  rw [if_neg (type_good (cols := cols) (l := []) h)]
  dsimp only
  rw [if_pos rfl]
theorem kone_of {l : List Int} (h : l.length = 1) : ∃ a, l = [a] := by
  match l, h with
  | [a], _ => exact ⟨a, rfl⟩
theorem ktwo_of {l : List Int} (h : l.length = 2) : ∃ a b, l = [a, b] := by
  match l, h with
  | [a, b], _ => exact ⟨a, b, rfl⟩
theorem numK_cases {a : Int} (h : numK a = true) : a = 0 ∨ a = 2 ∨ a = 3 := by
  unfold numK at h
  simp at h
  omega
theorem widest_one {a : Int} (h : numK a = true) : widestK [a] = a := by rcases numK_cases h with rfl | rfl | rfl <;> decide
theorem widest_two {a b : Int} (h : numK a = true) (g : numK b = true) : widestK [a, b] = if a = 0 ∨ b = 3 then b else a := by
  rcases numK_cases h with rfl | rfl | rfl <;> rcases numK_cases g with rfl | rfl | rfl <;> decide
theorem type_num {cols : List W} {op tx : List UInt8} {l : List Int} (hop : op = sNeg ∨ op ∈ sums) (h : formB op tx l.length = true) : typeT cols op tx l = (if l.all numK = true then widestK l else 0, if l.all numK = true then 0 else 131) := by
  have hk := (form_split h).1
  have hg := type_good (cols := cols) h
  rcases hop with rfl | hop
  · obtain ⟨a, rfl⟩ := kone_of (Option.some.inj (hk.symm.trans (show kidsN sNeg = some 1 by decide)))
    unfold typeT
    rw [if_neg hg]
    dsimp only
    rw [if_neg (by decide)]
    have e : [a].all numK = numK a := by simp
    rw [e]
    cases ha : numK a
    · rw [if_neg (fun h => by simp at h), if_neg (fun h => absurd h.1 (by decide))]
      rfl
    · rw [if_pos ⟨rfl, rfl⟩, if_pos rfl, if_pos rfl, widest_one ha]
  · have h2 : kidsN op = some 2 := by
      simp only [sums, List.mem_cons, List.not_mem_nil, or_false] at hop
      rcases hop with rfl | rfl | rfl <;> decide
    obtain ⟨a, b, rfl⟩ := ktwo_of (Option.some.inj (hk.symm.trans h2))
    obtain ⟨d1, d2, -⟩ := sums_apart op hop
    unfold typeT
    rw [if_neg hg]
    dsimp only
    unfold twoT
    have e : [a, b].all numK = (numK a && numK b) := by simp
    rw [e]
    cases ha : numK a
    · rw [if_neg (fun h => by simp at h), if_neg (fun h => d1 h.1), if_neg (fun h => d2 h.1)]
      rfl
    · cases hb : numK b
      · rw [if_neg (fun h => by simp at h), if_neg (fun h => d1 h.1), if_neg (fun h => d2 h.1)]
        rfl
      · rw [if_pos ⟨hop, rfl, rfl⟩, Bool.and_self, if_pos rfl, if_pos rfl, widest_two ha hb]
        split <;> rfl
theorem truK_cases {a : Int} (h : truK a = true) : a = 0 ∨ a = 1 := by
  unfold truK at h
  simp at h
  omega
theorem type_log {cols : List W} {op tx : List UInt8} {l : List Int} (hop : op = sNot ∨ op ∈ [sAnd, sOr]) (h : formB op tx l.length = true) : typeT cols op tx l = (if l.all truK = true then (1, 0) else (0, 131)) ∧ (l.all truK = true → alikeK l = true) := by
  have hk := (form_split h).1
  have hg := type_good (cols := cols) h
  rcases hop with rfl | hop
  · obtain ⟨a, rfl⟩ := kone_of (Option.some.inj (hk.symm.trans (show kidsN sNot = some 1 by decide)))
    have e : [a].all truK = truK a := by simp
    rw [e]
    unfold typeT
    rw [if_neg hg]
    dsimp only
    rw [if_neg (by decide), if_neg (fun h => absurd h.1 (by decide))]
    constructor
    · cases ha : truK a
      · rw [if_neg (fun h => by simp at h), if_neg (by decide)]
      · rw [if_pos ⟨rfl, rfl⟩, if_pos rfl]
    · intro h
      rcases truK_cases h with rfl | rfl <;> decide
  · have h2 : kidsN op = some 2 := by
      simp only [List.mem_cons, List.not_mem_nil, or_false] at hop
      rcases hop with rfl | rfl <;> decide
    have d : op ∉ sums ∧ op ∉ tests := by
      simp only [List.mem_cons, List.not_mem_nil, or_false] at hop
      rcases hop with rfl | rfl <;> decide
    obtain ⟨a, b, rfl⟩ := ktwo_of (Option.some.inj (hk.symm.trans h2))
    have e : [a, b].all truK = (truK a && truK b) := by simp
    rw [e]
    unfold typeT
    rw [if_neg hg]
    dsimp only
    unfold twoT
    rw [if_neg (fun h => d.1 h.1), if_neg (fun h => d.2 h.1)]
    constructor
    · cases ha : truK a
      · rw [if_neg (fun h => by simp at h)]; rfl
      · cases hb : truK b
        · rw [if_neg (fun h => by simp at h)]; rfl
        · rw [if_pos ⟨hop, rfl, rfl⟩]; rfl
    · intro h
      rw [Bool.and_eq_true] at h
      rcases truK_cases h.1 with rfl | rfl <;> rcases truK_cases h.2 with rfl | rfl <;> decide
theorem type_test {cols : List W} {op tx : List UInt8} {l : List Int} (hop : op ∈ tests) (h : formB op tx l.length = true) : typeT cols op tx l = if alikeK l = true then (1, 0) else (0, 131) := by
  have hk := (form_split h).1
  have hg := type_good (cols := cols) h
  have h2 : kidsN op = some 2 := by
    simp only [tests, List.mem_cons, List.not_mem_nil, or_false] at hop
    rcases hop with rfl | rfl | rfl | rfl | rfl | rfl <;> decide
  obtain ⟨d1, d2, -⟩ := tests_apart op hop
  obtain ⟨a, b, rfl⟩ := ktwo_of (Option.some.inj (hk.symm.trans h2))
  unfold typeT
  rw [if_neg hg]
  dsimp only
  unfold twoT
  rw [if_neg (fun h => d1 h.1)]
  have e : alikeK [a, b] = true ↔ (a = b ∨ a = 0 ∨ b = 0 ∨ (numK a = true ∧ numK b = true)) := by
    unfold alikeK
    simp only [List.any_cons, List.any_nil, List.all_cons, List.all_nil, Bool.or_eq_true, Bool.and_eq_true, beq_iff_eq, List.getD_cons_zero, Bool.or_false, Bool.and_true]
    constructor
    · rintro ((h | h) | h)
      · rcases h with h | h
        · exact .inr (.inl h.symm)
        · exact .inr (.inr (.inl h.symm))
      · exact .inr (.inr (.inr h))
      · exact .inl h.2.symm
    · rintro (h | h | h | h)
      · exact .inr ⟨by first | exact rfl | exact trivial, h.symm⟩
      · exact .inl (.inl (.inl h.symm))
      · exact .inl (.inl (.inr h.symm))
      · exact .inl (.inr h)
  by_cases h9 : alikeK [a, b] = true
  · rw [if_pos ⟨hop, e.1 h9⟩, if_pos h9]
  · rw [if_neg (fun h => h9 (e.2 h.2)), if_neg h9, if_neg (fun h => d2 h.1)]
theorem type_is0 {cols : List W} {tx : List UInt8} {l : List Int} (h : formB sIsNull tx l.length = true) : typeT cols sIsNull tx l = (1, 0) := by
  have hk := (form_split h).1
  have hg := type_good (cols := cols) h
  obtain ⟨a, rfl⟩ := kone_of (Option.some.inj (hk.symm.trans (show kidsN sIsNull = some 1 by decide)))
  unfold typeT
  rw [if_neg hg]
  dsimp only
  rw [if_pos rfl]
end Go.Proofs.Ytkibacolnagkcaa.Code
/-
  The program's kind of a node whose Kids are of these kinds.
-/
namespace Go.Proofs.Ytkibacolnagkcaa.Code
open Go.ChangeShapes Go.WideShapes Go.ChangeAt Go.RowKit Val Elems
set_option linter.unusedVariables false
set_option linter.unusedSimpArgs false
def KindPost (w : World) (r : Int × Int) (e : Ending) (w' : World) : Prop := e = .returned (.tuple #[.int .i64 r.1, .int .i64 r.2]) ∧ Below w.heap.size w w'
theorem kind_as {w w' : World} {r : Int × Int} {a b : Int} (h : r = (a, b)) (hb : Below w.heap.size w w') : KindPost w r (.returned (.tuple #[.int .i64 a, .int .i64 b])) w' := by subst h; exact ⟨rfl, hb⟩
theorem colK_none {cols : List W} {tx : List UInt8} (h : findZ cols tx < 0) : colK cols tx = (0, 121) := by
  unfold findZ at h
  unfold colK
  cases hf : findC cols tx with
  | none => rfl
  | some i => rw [hf] at h; exact absurd h (by show ¬ ((i : Int) < 0); omega)
theorem colK_some {cols : List W} {tx : List UInt8} (h : ¬ findZ cols tx < 0) : ∃ (i : Nat) (hi : i < cols.length), findZ cols tx = (i : Int) ∧ findC cols tx = some i ∧ colK cols tx = (cols[i].2.2, 0) := by
  unfold findZ at h ⊢
  unfold colK
  cases hf : findC cols tx with
  | none => rw [hf] at h; exact absurd (show (-1 : Int) < 0 by decide) h
  | some i =>
    obtain ⟨hi, _⟩ := find_some hf
    refine ⟨i, hi, rfl, rfl, ?_⟩
    show ((cols.getD i (0, [], 0)).2.2, (0 : Int)) = _
    rw [List.getD_eq_getElem?_getD, List.getElem?_eq_getElem hi]
    rfl
set_option maxHeartbeats 8000000 in
set_option maxRecDepth 100000 in
theorem kind_any (op tx : ByteArray) (X : Option Addr) (n k : Nat) (A : Option Addr) (ca : Nat) (cols : List W) (B : Option Addr) (cb : Nat) (l : List Int) (w : World) (hv : At wc 3 w w.heap.size A cols) (hcl : cols.length ≤ 4194304) (hi : Ints w w.heap.size B l) (hl : l.length = n) (hn : n ≤ 2600000000000) :
    Calls Try.prog 19 #[.agg #[.string op, .string tx, .slice X n k], .slice A cols.length ca, .slice B n cb] w (KindPost w (typeT cols op.data.toList tx.data.toList l)) := by
  obtain ⟨w0, hw0⟩ : ∃ w0, w.alloc (.cells #[.string op, .string tx, .slice X n k] 24) = w0 := ⟨_, rfl⟩
  have B0 := Lib.hid (show Below w.heap.size w w0 by rw [← hw0]; exact below_alloc w _)
  have N0 := Lib.hid (show NBox w0 w.heap.size (.string op) (.string tx) (.slice X n k) by rw [← hw0]; exact NBox.fresh _ _ _ _ _)
  have HF := Lib.hid (formed_any op tx X n k w0 hn)
  have HV := Lib.hid (fun (w' : World) (hb : Below w.heap.size w w') => (hv.below hb).more hb.size)
  have HI := Lib.hid (fun (w' : World) (hb : Below w.heap.size w w') => (hi.below hb).more hb.size)
  obtain ⟨fb, hfb⟩ : ∃ fb, formB op.data.toList tx.data.toList n = fb := ⟨_, rfl⟩
  rw [hfb] at HF
  have HW0 := Lib.hid hw0
  have hz : w.heap.size < w0.heap.size := by rw [← hw0]; simp
  clear hw0 hv hi
  subst hl
  cases fb
  case false =>
    have HT := Lib.hid (type_bad (cols := cols) hfb)
    clear hfb
    go_enter Try.func19, Try.ntmps19
    go_upto_region 1 with fail
    rw [HW0.out]
    obtain ⟨x0, x1, x2, xf⟩ := N0.out
    go_wp2_with fail
    refine HF.out.mono ?_
    rintro e w1 ⟨rfl, hb1⟩
    have B1 := Lib.hid (B0.out.trans (hb1.mono B0.out.size))
    clear hb1
    go_wp2
    go_ret2
    exact kind_as HT.out B1.out
  have HFB := Lib.hid hfb
  by_cases hlit : op.data.toList ∈ lits
  · obtain ⟨hl0, ht⟩ := type_lit (cols := cols) hlit hfb
    have HT := Lib.hid ht
    have hl9 : l.length = 0 := by rw [hl0]; rfl
    rw [hl9] at HF HW0 N0 ⊢
    have HL := Lib.hid (fun w' => clit_any op tx hlit X k w')
    unfold SumPost at HL
    obtain ⟨R, hR⟩ : ∃ R, litT op.data.toList tx.data.toList = R := ⟨_, rfl⟩
    rw [hR] at HL HT
    obtain ⟨⟨vk, vn, vs⟩, ve⟩ := R
    dsimp only at HL HT
    rw [HT.out]
    clear hR ht hl0 hl9 hfb HFB HT
    rcases lits_cases hlit with rfl | rfl | rfl | rfl | rfl
    all_goals
      clear hlit
      go_enter Try.func19, Try.ntmps19
      go_upto_region 1 with fail
      rw [HW0.out]
      obtain ⟨x0, x1, x2, xf⟩ := N0.out
      go_wp2_with fail
      refine HF.out.mono ?_
      rintro e w1 ⟨rfl, hb1⟩
      have B1 := Lib.hid (B0.out.trans (hb1.mono B0.out.size))
      have N1 := Lib.hid (N0.out.below hb1)
      have z1 := N1.out.lt
      clear hb1 x0 x1 x2 xf
      obtain ⟨x0, x1, x2, xf⟩ := N1.out
      go_wp2_with fail
      refine (HL.out w1).mono ?_
      rintro e w2 ⟨rfl, hb2⟩
      have B2 := Lib.hid ((B1.out.trans (hb2.mono B1.out.size)).alloc (Nat.le_trans B1.out.size hb2.size) (.cells #[.int .i64 vk, .int .i64 vn, .string vs] 38))
      clear hb2 x0 x1 x2 xf
      go_wp2
      go_ret2
      exact kind_as rfl B2.out
  by_cases hcol : op.data.toList = [99, 111, 108]
  · obtain rfl : op = ⟨#[99, 111, 108]⟩ := by rw [← Lib.mk_data op, hcol]
    have HT := Lib.hid (show typeT cols (ByteArray.data ⟨#[99, 111, 108]⟩).toList tx.data.toList l = colK cols tx.data.toList from type_col (cols := cols) hfb)
    rw [HT.out]
    have HS := Lib.hid (fun (w' : World) (hb : Below w.heap.size w w') => sfind_any A ca cols tx w' (HV.out w' hb) hcl)
    unfold FindPost at HS
    have HCN := Lib.hid (fun h => colK_none (cols := cols) (tx := tx.data.toList) h)
    have HCS := Lib.hid (fun h => colK_some (cols := cols) (tx := tx.data.toList) h)
    obtain ⟨z, hz9⟩ : ∃ z, findZ cols tx.data.toList = z := ⟨_, rfl⟩
    rw [hz9] at HS HCN HCS
    clear hcol hlit HT hfb HFB hz9
    go_enter Try.func19, Try.ntmps19
    go_upto_region 1 with fail
    rw [HW0.out]
    obtain ⟨x0, x1, x2, xf⟩ := N0.out
    go_wp2_with fail
    refine HF.out.mono ?_
    rintro e w1 ⟨rfl, hb1⟩
    have B1 := Lib.hid (B0.out.trans (hb1.mono B0.out.size))
    have N1 := Lib.hid (N0.out.below hb1)
    have z1 := N1.out.lt
    clear hb1 x0 x1 x2 xf
    obtain ⟨x0, x1, x2, xf⟩ := N1.out
    go_wp2_with fail
    refine (HS.out w1 B1.out).mono ?_
    rintro e w2 ⟨rfl, hb2⟩
    have B2 := Lib.hid (B1.out.trans (hb2.mono B1.out.size))
    clear hb2 x0 x1 x2 xf
    by_cases hneg : z < 0
    · have e1 : decide (0 ≤ z) = false := by simp; omega
      have HX := Lib.hid (HCN.out hneg)
      obtain ⟨m, hm⟩ : ∃ m, max z 0 = m := ⟨_, rfl⟩
      simp only [hm, e1]
      clear hneg hm
      go_wp2
      go_ret2
      exact kind_as HX.out B2.out
    · have e1 : decide (0 ≤ z) = true := by simp; omega
      obtain ⟨i, hi9, hzi, -, hX⟩ := HCS.out (by first | exact hneg | omega)
      have HX := Lib.hid hX
      obtain ⟨ad, rfl, ga, c0, c1, c2⟩ := at_word (HV.out w2 B2.out) i hi9
      obtain ⟨x, hx⟩ : ∃ x, cols[i].2.2 = x := ⟨_, rfl⟩
      rw [hx] at c2 HX
      have hm : max z 0 = (i : Int) := by rw [hzi]; omega
      simp only [hm, e1]
      have hil : i < cols.length := hi9
      clear hneg hm hzi hX hx
      go_wp2
      go_ret2
      exact kind_as HX.out B2.out
  by_cases hnum : op.data.toList = sNeg ∨ op.data.toList ∈ sums
  · have HT := Lib.hid (type_num (cols := cols) hnum hfb)
    rw [HT.out]
    have HN := Lib.hid (fun (w' : World) (hb : Below w.heap.size w w') => cnumber_any B cb l w' (HI.out w' hb) hn)
    obtain ⟨a9, ha9⟩ : ∃ a9, (if l.all numK = true then widestK l else 0) = a9 := ⟨_, rfl⟩
    obtain ⟨b9, hb9⟩ : ∃ b9, (if l.all numK = true then (0 : Int) else 131) = b9 := ⟨_, rfl⟩
    rw [ha9, hb9] at HN ⊢
    have hcs : op = ⟨#[110, 101, 103]⟩ ∨ op = ⟨#[43]⟩ ∨ op = ⟨#[45]⟩ ∨ op = ⟨#[42]⟩ := by
      have h : op.data.toList = [110, 101, 103] ∨ op.data.toList = [43] ∨ op.data.toList = [45] ∨ op.data.toList = [42] := by simpa [sums, sNeg] using hnum
      rcases h with h | h | h | h <;> (rw [← Lib.mk_data op, h]; simp)
    clear hnum HT ha9 hb9 hfb HFB hlit hcol
    rcases hcs with rfl | rfl | rfl | rfl
    all_goals
      go_enter Try.func19, Try.ntmps19
      go_upto_region 1 with fail
      rw [HW0.out]
      obtain ⟨x0, x1, x2, xf⟩ := N0.out
      go_wp2_with fail
      refine HF.out.mono ?_
      rintro e w1 ⟨rfl, hb1⟩
      have B1 := Lib.hid (B0.out.trans (hb1.mono B0.out.size))
      have N1 := Lib.hid (N0.out.below hb1)
      have z1 := N1.out.lt
      clear hb1 x0 x1 x2 xf
      obtain ⟨x0, x1, x2, xf⟩ := N1.out
      go_wp2_with fail
      refine (HN.out w1 B1.out).mono ?_
      rintro e w2 ⟨rfl, hb2⟩
      have B2 := Lib.hid (B1.out.trans (hb2.mono B1.out.size))
      clear hb2 x0 x1 x2 xf
      go_wp2
      go_ret2
      exact kind_as rfl B2.out
  by_cases hlog : op.data.toList = sNot ∨ op.data.toList ∈ [sAnd, sOr]
  · have HT := Lib.hid (type_log (cols := cols) hlog hfb)
    rw [HT.out.1]
    have HA := Lib.hid (fun (w' : World) (hb : Below w.heap.size w w') => all_any 21 (enters_of Try.func21 (by kernel_rfl) rfl) #[] truK B cb l w' (HI.out w' hb) hn (truth_ask w'))
    have HK := Lib.hid (fun (w' : World) (hb : Below w.heap.size w w') => alike_any B cb l w' (HI.out w' hb) hn)
    have HTK := Lib.hid HT.out.2
    obtain ⟨a9, ha9⟩ : ∃ a9, l.all truK = a9 := ⟨_, rfl⟩
    rw [ha9] at HA HTK ⊢
    obtain ⟨R, hR⟩ : ∃ R : Int × Int, (if a9 = true then (1, 0) else (0, 131)) = R := ⟨_, rfl⟩
    have HR1 := Lib.hid (show a9 = true → R = (1, 0) from fun h => by rw [← hR, if_pos h])
    have HR0 := Lib.hid (show a9 = false → R = (0, 131) from fun h => by rw [← hR, if_neg (by rw [h]; decide)])
    rw [hR]
    clear hR
    have hcs : op = ⟨#[110, 111, 116]⟩ ∨ op = ⟨#[97, 110, 100]⟩ ∨ op = ⟨#[111, 114]⟩ := by
      have h : op.data.toList = [110, 111, 116] ∨ op.data.toList = [97, 110, 100] ∨ op.data.toList = [111, 114] := by simpa [sNot, sAnd, sOr] using hlog
      rcases h with h | h | h <;> (rw [← Lib.mk_data op, h]; simp)
    clear hlog HT ha9 hfb HFB hlit hcol hnum
    rcases hcs with rfl | rfl | rfl
    all_goals
      go_enter Try.func19, Try.ntmps19
      go_upto_region 1 with fail
      rw [HW0.out]
      obtain ⟨x0, x1, x2, xf⟩ := N0.out
      go_wp2_with fail
      refine HF.out.mono ?_
      rintro e w1 ⟨rfl, hb1⟩
      have B1 := Lib.hid (B0.out.trans (hb1.mono B0.out.size))
      have N1 := Lib.hid (N0.out.below hb1)
      have z1 := N1.out.lt
      clear hb1 x0 x1 x2 xf
      obtain ⟨x0, x1, x2, xf⟩ := N1.out
      go_wp2_with fail
      refine (HA.out w1 B1.out).mono ?_
      rintro e w2 ⟨rfl, hb2⟩
      have B2 := Lib.hid (B1.out.trans (hb2.mono B1.out.size))
      clear hb2 x0 x1 x2 xf
      cases a9
      · have E0 := Lib.hid (HR0.out (by first | exact rfl | exact trivial))
        go_wp2
        go_ret2
        exact kind_as E0.out B2.out
      · have E0 := Lib.hid (HR1.out (by first | exact rfl | exact trivial))
        have e5 := HTK.out (by first | exact rfl | exact trivial)
        have HK2 := HK.out w2 B2.out
        rw [e5] at HK2
        clear e5
        go_wp2_with fail
        refine HK2.mono ?_
        rintro e w3 ⟨rfl, hb3⟩
        have B3 := Lib.hid (B2.out.trans (hb3.mono B2.out.size))
        clear hb3
        go_wp2
        go_ret2
        exact kind_as E0.out B3.out
  by_cases htst : op.data.toList ∈ tests
  · have HT := Lib.hid (type_test (cols := cols) (tx := tx.data.toList) htst hfb)
    rw [HT.out]
    have HK := Lib.hid (fun (w' : World) (hb : Below w.heap.size w w') => alike_any B cb l w' (HI.out w' hb) hn)
    obtain ⟨a9, ha9⟩ : ∃ a9, alikeK l = a9 := ⟨_, rfl⟩
    rw [ha9] at HK ⊢
    obtain ⟨R, hR⟩ : ∃ R : Int × Int, (if a9 = true then (1, 0) else (0, 131)) = R := ⟨_, rfl⟩
    have HR1 := Lib.hid (show a9 = true → R = (1, 0) from fun h => by rw [← hR, if_pos h])
    have HR0 := Lib.hid (show a9 = false → R = (0, 131) from fun h => by rw [← hR, if_neg (by rw [h]; decide)])
    rw [hR]
    clear hR
    have hcs : op = ⟨#[61]⟩ ∨ op = ⟨#[60, 62]⟩ ∨ op = ⟨#[60]⟩ ∨ op = ⟨#[60, 61]⟩ ∨ op = ⟨#[62]⟩ ∨ op = ⟨#[62, 61]⟩ := by
      have h : op.data.toList = [61] ∨ op.data.toList = [60, 62] ∨ op.data.toList = [60] ∨ op.data.toList = [60, 61] ∨ op.data.toList = [62] ∨ op.data.toList = [62, 61] := by simpa [tests] using htst
      rcases h with h | h | h | h | h | h <;> (rw [← Lib.mk_data op, h]; simp)
    clear htst HT ha9 hfb HFB hlit hcol hnum hlog
    rcases hcs with rfl | rfl | rfl | rfl | rfl | rfl
    all_goals
      go_enter Try.func19, Try.ntmps19
      go_upto_region 1 with fail
      rw [HW0.out]
      obtain ⟨x0, x1, x2, xf⟩ := N0.out
      go_wp2_with fail
      refine HF.out.mono ?_
      rintro e w1 ⟨rfl, hb1⟩
      have B1 := Lib.hid (B0.out.trans (hb1.mono B0.out.size))
      have N1 := Lib.hid (N0.out.below hb1)
      have z1 := N1.out.lt
      clear hb1 x0 x1 x2 xf
      obtain ⟨x0, x1, x2, xf⟩ := N1.out
      go_wp2_with fail
      refine (HK.out w1 B1.out).mono ?_
      rintro e w2 ⟨rfl, hb2⟩
      have B2 := Lib.hid (B1.out.trans (hb2.mono B1.out.size))
      clear hb2 x0 x1 x2 xf
      cases a9
      · have E0 := Lib.hid (HR0.out (by first | exact rfl | exact trivial))
        go_wp2
        go_ret2
        exact kind_as E0.out B2.out
      · have E0 := Lib.hid (HR1.out (by first | exact rfl | exact trivial))
        go_wp2
        go_ret2
        exact kind_as E0.out B2.out
  have his : op.data.toList = sIsNull := by
    have hk := (form_split hfb).1
    by_cases h9 : op.data.toList = sIsNull
    · exact h9
    · exfalso
      rw [kidsN_no (op := op.data.toList) (fun h => hlog (.inr (by rw [h]; decide))) (fun h => hlog (.inr (by rw [h]; decide))) (fun h => htst (by rw [h]; decide)) (fun h => htst (by rw [h]; decide)) (fun h => htst (by rw [h]; decide)) (fun h => htst (by rw [h]; decide)) (fun h => htst (by rw [h]; decide)) (fun h => htst (by rw [h]; decide)) (fun h => hnum (.inr (by rw [h]; decide))) (fun h => hnum (.inr (by rw [h]; decide))) (fun h => hnum (.inr (by rw [h]; decide))) (fun h => hlog (.inl h)) (fun h => hnum (.inl h)) h9 (fun h => hlit (by rw [h]; decide)) (fun h => hlit (by rw [h]; decide)) (fun h => hlit (by rw [h]; decide)) (fun h => hlit (by rw [h]; decide)) (fun h => hlit (by rw [h]; decide)) hcol] at hk
      cases hk
  obtain rfl : op = ⟨#[105, 115, 32, 110, 117, 108, 108]⟩ := by rw [← Lib.mk_data op, his]; rfl
  have HT := Lib.hid (show typeT cols (ByteArray.data ⟨#[105, 115, 32, 110, 117, 108, 108]⟩).toList tx.data.toList l = (1, 0) from type_is0 (cols := cols) hfb)
  rw [HT.out]
  clear his HT hfb HFB hlit hcol hnum hlog htst
  go_enter Try.func19, Try.ntmps19
  go_upto_region 1 with fail
  rw [HW0.out]
  obtain ⟨x0, x1, x2, xf⟩ := N0.out
  go_wp2_with fail
  refine HF.out.mono ?_
  rintro e w1 ⟨rfl, hb1⟩
  have B1 := Lib.hid (B0.out.trans (hb1.mono B0.out.size))
  have N1 := Lib.hid (N0.out.below hb1)
  have z1 := N1.out.lt
  clear hb1 x0 x1 x2 xf
  obtain ⟨x0, x1, x2, xf⟩ := N1.out
  go_wp2
  go_ret2
  exact kind_as rfl B1.out
end Go.Proofs.Ytkibacolnagkcaa.Code
/-
  The program's Type of any node over columns.
-/
namespace Go.Proofs.Ytkibacolnagkcaa.Code
open Go.ChangeShapes Go.WideShapes Go.ChangeAt Go.RowKit Val Elems
set_option linter.unusedVariables false
set_option linter.unusedSimpArgs false
/-- what Type answers, of any node that is nested no more deeply -/
def TypeAt (d : Nat) (A : Option Addr) (ca : Nat) (cols : List W) : Prop :=
  ∀ (t : Nod), t.deep ≤ d → ∀ (S : Nat → Prop) (op tx : ByteArray) (X : Option Addr) (n k : Nat) (w : World), (∀ g, S g → g < w.heap.size) → RIn w S t (op, tx, X, n, k) → At wc 3 w w.heap.size A cols →
    Calls Try.prog 10 #[.agg #[.string op, .string tx, .slice X n k], .slice A cols.length ca] w (KindPost w (typeE cols t))
set_option maxHeartbeats 4000000 in
set_option maxRecDepth 100000 in
theorem type_tell {d : Nat} {A : Option Addr} {ca : Nat} {cols : List W} (ih : TypeAt d A ca cols) (ks : List Nod) (hd : ∀ (k : Nat) (hk : k < ks.length), ks[k].deep ≤ d) (S : Nat → Prop) (g : Nat) (w : World) (hS : ∀ g, S g → g < w.heap.size) (hv : At wc 3 w w.heap.size A cols) (hc : w.cell? ⟨g, 0, none⟩ = some (.slice A cols.length ca)) (hg : g < w.heap.size) :
    TellK 18 #[.pointer (some ⟨g, 0, none⟩)] (typeE cols) ks S w := by
  intro k hk op tx X n m w1 hb hn
  obtain ⟨w2, hw2⟩ : ∃ w2, w1.alloc (.cells #[.string op, .string tx, .slice X n m] 24) = w2 := ⟨_, rfl⟩
  have B2 := Lib.hid (show Below w1.heap.size w1 w2 by rw [← hw2]; exact below_alloc w1 _)
  have N2 := Lib.hid (show NBox w2 w1.heap.size (.string op) (.string tx) (.slice X n m) by rw [← hw2]; exact NBox.fresh _ _ _ _ _)
  have HS1 : ∀ g, S g → g < w1.heap.size := fun g h => Nat.lt_of_lt_of_le (hS g h) hb.size
  have HI := Lib.hid (ih ks[k] (hd k hk) S op tx X n m w2 (fun g h => Nat.lt_of_lt_of_le (HS1 g h) B2.out.size) (hn.bel HS1 B2.out) (((hv.below hb).more hb.size).below B2.out |>.more B2.out.size))
  unfold KindPost at HI
  have c0 := ((B2.out.cell (p := ⟨g, 0, none⟩) (Nat.lt_of_lt_of_le hg hb.size)).trans (hb.cell (p := ⟨g, 0, none⟩) hg)).trans hc
  have hg2 : g < w2.heap.size := Nat.lt_of_lt_of_le hg (Nat.le_trans hb.size B2.out.size)
  obtain ⟨R, hR⟩ : ∃ R, typeE cols ks[k] = R := ⟨_, rfl⟩
  rw [hR] at HI ⊢
  obtain ⟨rk, re⟩ := R
  dsimp only at HI ⊢
  have HW2 := Lib.hid hw2
  clear ih hd hS hv hc hb hn HS1 hw2 hR
  go_enter Try.func18, Try.ntmps18
  go_upto_region 1 with fail
  rw [HW2.out]
  obtain ⟨x0, x1, x2, xf⟩ := N2.out
  go_wp2_with fail
  refine HI.out.mono ?_
  rintro e w3 ⟨rfl, hb3⟩
  have B3 := Lib.hid (B2.out.trans (hb3.mono B2.out.size))
  clear hb3 x0 x1 x2 xf c0
  go_wp2
  go_ret2
  exact ⟨rfl, B3.out⟩
set_option maxHeartbeats 4000000 in
set_option maxRecDepth 100000 in
theorem type_any (A : Option Addr) (ca : Nat) (cols : List W) (hcl : cols.length ≤ 4194304) : ∀ d, TypeAt d A ca cols
  | 0, t, h, _, _, _, _, _, _, _, _, _, _ => absurd h (by rw [deep_ks]; omega)
  | d + 1, t, h, S, op, tx, X, n, k, w, hS, hn, hv => by
    have ih := type_any A ca cols hcl d
    obtain ⟨w0, hw0⟩ : ∃ w0, (w.alloc (.cells #[.string op, .string tx, .slice X n k] 24)).alloc (.cells #[.slice A cols.length ca] 36) = w0 := ⟨_, rfl⟩
    have B0 := Lib.hid (show Below w.heap.size w w0 by rw [← hw0]; exact (below_alloc w _).alloc (by simp) _)
    have N0 := Lib.hid (show NBox w0 w.heap.size (.string op) (.string tx) (.slice X n k) by rw [← hw0]; exact ⟨by simp [go_sem], by simp [go_sem], by simp [go_sem], fun j => by simp [go_sem]⟩)
    have c0 : w0.cell? ⟨w.heap.size + 1, 0, none⟩ = some (.slice A cols.length ca) := by rw [← hw0]; simp
    have z0 : w.heap.size + 1 < w0.heap.size := by rw [← hw0]; simp
    have HC := Lib.hid (fun (w' : World) (hb : Below w0.heap.size w0 w') => show w'.cell? ⟨w.heap.size + 1, 0, none⟩ = some (.slice A cols.length ca) from (hb.cell (p := ⟨w.heap.size + 1, 0, none⟩) z0).trans c0)
    have hS0 : ∀ g, S g → g < w0.heap.size := fun g h => Nat.lt_of_lt_of_le (hS g h) B0.out.size
    have hn0 := hn.bel hS B0.out
    have hv0 := (hv.below B0.out).more B0.out.size
    have HE := Lib.hid (eachK_any 18 (enters_of Try.func18 (by kernel_rfl) rfl) #[.pointer (some ⟨w.heap.size + 1, 0, none⟩)] (typeE cols) t S op tx X n k w0 hS0 hn0 (type_tell ih t.ks (fun j hj => by have := deepL_mem (List.getElem_mem hj); rw [deep_ks] at h; omega) S (w.heap.size + 1) w0 hS0 hv0 c0 z0))
    obtain ⟨eo, et, en, hkl⟩ := hn.texts
    dsimp only at eo et en
    have HK := Lib.hid (fun (B : Option Addr) (cb : Nat) (l : List Int) (w' : World) (hb : Below w0.heap.size w0 w') (hi : Ints w' w'.heap.size B l) (hl : l.length = n) => kind_any op tx X n k A ca cols B cb l w' ((hv0.below hb).more hb.size) hcl hi hl (by omega))
    have HL := Lib.hid (fun (h : (typeL cols t.ks).2 = 0) => show (typeL cols t.ks).1.length = n by rw [typeL_len cols t.ks h, en])
    have HT := Lib.hid (show typeE cols t = if (typeL cols t.ks).2 = 0 then typeT cols op.data.toList tx.data.toList (typeL cols t.ks).1 else (0, (typeL cols t.ks).2) by
      cases t with
      | mk o x ks =>
        rw [typeE_mk]
        have e1 : op.data.toList = o := by rw [eo]; rfl
        have e2 : tx.data.toList = x := by rw [et]; rfl
        rw [e1, e2]
        rfl)
    unfold KsPost at HE
    rw [← each_type] at HE
    obtain ⟨L, hL⟩ : ∃ L, typeL cols t.ks = L := ⟨_, rfl⟩
    rw [hL] at HE HL HT
    obtain ⟨l, le⟩ := L
    dsimp only at HE HL HT
    obtain ⟨R, hR⟩ : ∃ R, typeE cols t = R := ⟨_, rfl⟩
    rw [hR] at HT ⊢
    have HW0 := Lib.hid hw0
    clear ih hS hn hv hw0 hS0 hn0 hv0 eo et en hkl hL hR h c0
    go_enter Try.func10, Try.ntmps10
    go_upto_region 1 with fail
    rw [HW0.out]
    obtain ⟨x0, x1, x2, xf⟩ := N0.out
    go_wp2_with fail
    refine HE.out.mono ?_
    rintro e w1 ⟨B, cb, rfl, hi, hb1⟩
    have L1 := Lib.hid hb1
    have B1 := Lib.hid (B0.out.trans (hb1.mono B0.out.size))
    have N1 := Lib.hid (N0.out.below hb1)
    have z1 := N1.out.lt
    have HI := Lib.hid hi
    clear hb1 x0 x1 x2 xf hi
    by_cases hle : le = 0
    · subst hle
      have HN := Lib.hid (HL.out rfl)
      have HT2 := HT.out
      rw [if_pos rfl] at HT2
      have HK2 := Lib.hid (HK.out B cb l w1 L1.out HI.out HN.out)
      rw [← HT2] at HK2
      unfold KindPost at HK2
      have c1 := HC.out w1 L1.out
      have z2 : w.heap.size + 1 < w1.heap.size := Nat.lt_of_lt_of_le z0 L1.out.size
      obtain ⟨x0, x1, x2, xf⟩ := N1.out
      obtain ⟨M, hM⟩ : ∃ M, l.length = M := ⟨_, rfl⟩
      have hMn : M = n := hM.symm.trans HN.out
      rw [hM, hMn]
      clear HT2 HT HL hM hMn
      obtain ⟨rk, re⟩ := R
      dsimp only at HK2
      go_wp2_with fail
      refine HK2.out.mono ?_
      rintro e w2 ⟨rfl, hb2⟩
      have B2 := Lib.hid (B1.out.trans (hb2.mono B1.out.size))
      clear hb2 x0 x1 x2 xf c1
      go_wp2
      go_ret2
      exact kind_as rfl B2.out
    · have HT2 := Lib.hid (show R = (0, le) by rw [HT.out, if_neg hle])
      have e1 : (le != 0) = true := by simpa using hle
      clear hle HT HL HK
      go_wp2
      go_ret2
      exact kind_as HT2.out B1.out
end Go.Proofs.Ytkibacolnagkcaa.Code
