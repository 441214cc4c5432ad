/-
  Expressions' kinds and values in plain words. No program is named here.
-/
import Derived.Test.YtkibacolnagkcaaM7
import Derived.Test.YtkibacolnagkcaaM9
import Derived.Test.YtkibacolnagkcaaM8
import Derived.Test.YtkibacolnagkcaaM4
namespace Go.Proofs.Ytkibacolnagkcaa.Code
open Val
set_option linter.unusedVariables false
/-- a value: its kind, its number, its text -/
abbrev CV := Int × Int × ByteArray
def nulV : CV := (0, 0, ⟨#[]⟩)
def truV (b : Bool) : CV := (1, if b = true then 1 else 0, ⟨#[]⟩)
/-- the number that figures are -/
def amountL (tx : List UInt8) : Option Int :=
  if decide (1 ≤ tx.length ∧ tx.length ≤ 19) && tx.all figB then (if tx.foldl (fun (n : Int) c => n * 10 + (c.toNat - 48 : Nat)) 0 ≤ 9223372036854775807 then some (tx.foldl (fun (n : Int) c => n * 10 + (c.toNat - 48 : Nat)) 0) else none) else none
/-- a literal's value, of the kind that it has by itself -/
def litL (op tx : List UInt8) : Option CV :=
  if op = sNum then (amountL tx).map fun n => (if n ≤ 2147483647 then (2, n, ⟨#[]⟩) else (3, n, ⟨#[]⟩))
  else if op = sText then (if tx.length ≤ 200 then some (4, 0, ⟨tx.toArray⟩) else none)
  else if tx ≠ [] then none
  else if op = sTrue then some (truV true)
  else if op = sFalse then some (truV false)
  else if op = sNull then some nulV
  else none
def tests : List (List UInt8) := [[61], [60, 62], [60], [60, 61], [62], [62, 61]]
def sums : List (List UInt8) := [[43], [45], [42]]
/-- how many Kids an Op's node has -/
def kidsN (op : List UInt8) : Option Nat :=
  if op ∈ [sNum, sText, sTrue, sFalse, sNull, sCol] then some 0 else if op ∈ [sNeg, sNot, sIsNull] then some 1 else if op ∈ [sAnd, sOr] ∨ op ∈ tests ∨ op ∈ sums then some 2 else none
def numK (k : Int) : Bool := k == 2 || k == 3 || k == 0
def truK (k : Int) : Bool := k == 1 || k == 0
def twoT (op : List UInt8) (a b : Int) : Int × Int :=
  if op ∈ sums ∧ numK a = true ∧ numK b = true then (if a = 0 ∨ b = 3 then (b, 0) else (a, 0))
  else if op ∈ tests ∧ (a = b ∨ a = 0 ∨ b = 0 ∨ (numK a = true ∧ numK b = true)) then (1, 0)
  else if op ∈ [sAnd, sOr] ∧ truK a = true ∧ truK b = true then (1, 0)
  else (0, 131)
/-- a column's kind, by its name -/
def colK (cols : List W) (tx : List UInt8) : Int × Int := match findC cols tx with | some i => ((cols.getD i (0, [], 0)).2.2, 0) | none => (0, 121)
def colV (cols : List W) (row : List CV) (tx : List UInt8) : CV := match findC cols tx with | some i => row.getD i nulV | none => nulV
/-- a node's kind, by its Kids' kinds -/
def typeT (cols : List W) (op tx : List UInt8) (l : List Int) : Int × Int :=
  if kidsN op ≠ some l.length ∨ (tx ≠ [] ∧ op ∉ [sNum, sText, sCol]) then (0, 1)
  else match l with
  | [] => if op = sCol then colK cols tx else (match litL op tx with | some v => (v.1, 0) | none => (0, 1))
  | [a] => if op = sIsNull then (1, 0) else if op = sNeg ∧ numK a = true then (a, 0) else if op = sNot ∧ truK a = true then (1, 0) else (0, 131)
  | [a, b] => twoT op a b
  | _ => (0, 1)
mutual
def typeE (cols : List W) : Nod → Int × Int
  | .mk op tx ks => if (typeL cols ks).2 = 0 then typeT cols op tx (typeL cols ks).1 else (0, (typeL cols ks).2)
def typeL (cols : List W) : List Nod → List Int × Int
  | [] => ([], 0)
  | t :: l => if (typeE cols t).2 = 0 then (if (typeL cols l).2 = 0 then ((typeE cols t).1 :: (typeL cols l).1, 0) else ([], (typeL cols l).2)) else ([], (typeE cols t).2)
end
/-- a number of a kind -/
def sumV (k x : Int) : CV × Int := if (-9223372036854775808 ≤ x ∧ x ≤ 9223372036854775807) ∧ rightB k x ⟨#[]⟩ = true then ((k, x, ⟨#[]⟩), 0) else (nulV, 11)
def sumN (op : List UInt8) (a b : Int) : Int := if op = [42] then a * b else if op = [45] then a - b else a + b
def cmpT (a b : CV) : Int := if a.2.1 < b.2.1 ∨ Op.bytesLess a.2.2.data.toList b.2.2.data.toList = true then -1 else if b.2.1 < a.2.1 ∨ Op.bytesLess b.2.2.data.toList a.2.2.data.toList = true then 1 else 0
def testB (op : List UInt8) (a b : CV) : Bool := let c := cmpT a b
  if op = [61] then c == 0 else if op = [60, 62] then c != 0 else if op = [60] then decide (c < 0) else if op = [60, 61] then decide (c ≤ 0) else if op = [62] then decide (0 < c) else decide (0 ≤ c)
def logV (or : Bool) (a b : CV) : CV := if a = truV or ∨ b = truV or then truV or else if a.1 = 0 ∨ b.1 = 0 then nulV else truV (!or)
/-- a node's value, by its Kids' values -/
def valT (op : List UInt8) (k : Int) (l : List CV) : CV × Int :=
  if op = sIsNull then (truV ((l.getD 0 nulV).1 == 0), 0)
  else if op = sAnd then (logV false (l.getD 0 nulV) (l.getD 1 nulV), 0)
  else if op = sOr then (logV true (l.getD 0 nulV) (l.getD 1 nulV), 0)
  else if (l.any fun v => v.1 == 0) = true then (nulV, 0)
  else if op = sNot then (truV ((l.getD 0 nulV).2.1 == 0), 0)
  else if op = sNeg then sumV k (0 - (l.getD 0 nulV).2.1)
  else if op ∈ tests then (truV (testB op (l.getD 0 nulV) (l.getD 1 nulV)), 0)
  else sumV k (sumN op (l.getD 0 nulV).2.1 (l.getD 1 nulV).2.1)
mutual
def valE (cols : List W) (row : List CV) : Nod → CV × Int
  | .mk op tx ks => if op = sCol then (colV cols row tx, 0)
    else if ks.isEmpty = true then ((litL op tx).getD nulV, 0)
    else if (valL cols row ks).2 = 0 then valT op (typeE cols (.mk op tx ks)).1 (valL cols row ks).1 else (nulV, (valL cols row ks).2)
def valL (cols : List W) (row : List CV) : List Nod → List CV × Int
  | [] => ([], 0)
  | t :: l => if (valE cols row t).2 = 0 then (if (valL cols row l).2 = 0 then ((valE cols row t).1 :: (valL cols row l).1, 0) else ([], (valL cols row l).2)) else ([], (valE cols row t).2)
end
def valueK (cols : List W) (row : List CV) (e : Nod) : CV × Int :=
  if (typeE cols e).2 = 0 then (if rowFits row (kindsC cols) = true then valE cols row e else (nulV, 51)) else (nulV, (typeE cols e).2)
def holdsK (cols : List W) (row : List CV) (e : Nod) : Bool × Int :=
  if (typeE cols e).2 = 0 ∧ truK (typeE cols e).1 = false then (false, 131) else (decide ((valueK cols row e).1 = truV true), (valueK cols row e).2)
/-! ### of its kind -/
def goodV (k : Int) (v : CV) : Prop := v = nulV ∨ (v.1 = k ∧ 1 ≤ k ∧ rightB v.1 v.2.1 v.2.2 = true)
def goodR (k : Int) (r : CV × Int) : Prop := (r.2 = 0 ∧ goodV k r.1) ∨ (r.2 = 11 ∧ r.1 = nulV)
theorem tru_good (b : Bool) : goodV 1 (truV b) := .inr ⟨rfl, by decide, by cases b <;> decide +kernel⟩
theorem sum_good {k x : Int} (hk : numK k = true) (h0 : k ≠ 0) : goodR k (sumV k x) := by
  unfold sumV
  split
  · rename_i hr
    refine .inl ⟨rfl, .inr ⟨rfl, ?_, hr.2⟩⟩
    unfold numK at hk
    simp at hk
    omega
  · exact .inr ⟨rfl, rfl⟩
theorem log_good (or : Bool) (a b : CV) : goodV 1 (logV or a b) := by
  unfold logV
  split
  · exact tru_good _
  · split
    · exact .inl rfl
    · exact tru_good _
theorem fold_pos : ∀ (l : List UInt8) (n : Int), 0 ≤ n → 0 ≤ l.foldl (fun (n : Int) c => n * 10 + (c.toNat - 48 : Nat)) n
  | [], n, h => h
  | c :: l, n, h => fold_pos l (n * 10 + (c.toNat - 48 : Nat)) (by have : (0 : Int) ≤ ((c.toNat - 48 : Nat) : Int) := Int.natCast_nonneg _; omega)
theorem amount_pos {tx : List UInt8} {n : Int} (h : amountL tx = some n) : 0 ≤ n ∧ n ≤ 9223372036854775807 := by
  unfold amountL at h
  split at h
  · split at h
    · rename_i h2
      cases h
      exact ⟨fold_pos _ _ (Int.le_refl _), h2⟩
    · cases h
  · cases h
theorem lit_good {op tx : List UInt8} {v : CV} (h : litL op tx = some v) : goodV v.1 v := by
  unfold litL at h
  split at h
  · cases ha : amountL tx with
    | none => rw [ha] at h; cases h
    | some n =>
      rw [ha] at h
      simp only [Option.map_some, Option.some.injEq] at h
      split at h <;> subst h
      · have := amount_pos ha
        refine .inr ⟨rfl, by show (1 : Int) ≤ 2; decide, ?_⟩
        show rightB 2 n ⟨#[]⟩ = true
        unfold rightB holdsB
        rw [if_neg (by decide), if_neg (by decide), if_neg (by decide), if_pos rfl, Bool.and_eq_true, decide_eq_true_eq, decide_eq_true_eq]
        exact ⟨rfl, by omega⟩
      · refine .inr ⟨rfl, by show (1 : Int) ≤ 3; decide, ?_⟩
        show rightB 3 n ⟨#[]⟩ = true
        unfold rightB holdsB
        rw [if_neg (by decide), if_neg (by decide), if_neg (by decide), if_neg (by decide)]
        rfl
  · split at h
    · split at h
      · cases h
        exact .inr ⟨rfl, by show (1 : Int) ≤ 4; decide, by show rightB 4 0 ⟨tx.toArray⟩ = true; exact right_text (by assumption)⟩
      · cases h
    · split at h
      · cases h
      · repeat' split at h
        all_goals first | (cases h; exact .inl rfl) | (cases h; exact tru_good _) | cases h
theorem fit_good {v : CV} {c : Int} (h : fitV1 v.1 v.2.1 v.2.2 c = true) : goodV c v := by
  obtain ⟨k, n, s⟩ := v
  unfold fitV1 at h
  dsimp only at h
  rw [Bool.and_eq_true, Bool.and_eq_true, Bool.or_eq_true, beq_iff_eq, beq_iff_eq] at h
  obtain ⟨h1, h2, h3⟩ := h
  unfold columnB at h1
  rw [decide_eq_true_eq] at h1
  rcases h3 with rfl | rfl
  · left
    unfold rightB at h2
    rw [if_neg (by decide), if_pos rfl, decide_eq_true_eq] at h2
    obtain ⟨rfl, h4⟩ := h2
    have hs : s = ⟨#[]⟩ := by
      obtain ⟨d⟩ := s
      have : d.size = 0 := h4
      rw [Array.eq_empty_of_size_eq_zero this]
    subst hs
    rfl
  · exact .inr ⟨rfl, h1.1, h2⟩
theorem fits_at {row : List CV} {ks : List Int} (h : rowFits row ks = true) (i : Nat) (hi : i < row.length) (hk : i < ks.length) : fitV1 row[i].1 row[i].2.1 row[i].2.2 ks[i] = true := by
  unfold rowFits at h
  rw [Bool.and_eq_true, Bool.and_eq_true, List.all_eq_true] at h
  have hz : i < (fitZ row ks).length := by unfold fitZ; rw [List.length_zipWith]; omega
  have := h.2.2 _ (List.getElem_mem hz)
  simpa [fitZ] using this
theorem fits_len {row : List CV} {ks : List Int} (h : rowFits row ks = true) : row.length = ks.length := by
  unfold rowFits at h
  rw [Bool.and_eq_true, decide_eq_true_eq] at h
  exact h.1
/-- values, each null or of its kind -/
def goodsV : List Int → List CV → Prop
  | [], [] => True
  | k :: ks, v :: vs => goodV k v ∧ goodsV ks vs
  | _, _ => False
theorem kidsN_one {op : List UInt8} (h : kidsN op = some 1) : op = sNeg ∨ op = sNot ∨ op = sIsNull := by
  unfold kidsN at h
  split at h
  · cases h
  · split at h
    · rename_i h1
      simpa using h1
    · split at h <;> cases h
theorem kidsN_two {op : List UInt8} (h : kidsN op = some 2) : op = sAnd ∨ op = sOr ∨ op ∈ tests ∨ op ∈ sums := by
  unfold kidsN at h
  split at h
  · cases h
  · split at h
    · cases h
    · split at h
      · rename_i h1
        rcases h1 with h1 | h1 | h1
        · rcases List.mem_cons.1 h1 with rfl | h1
          · exact .inl rfl
          · exact .inr (.inl (by simpa using h1))
        · exact .inr (.inr (.inl h1))
        · exact .inr (.inr (.inr h1))
      · cases h
theorem tests_apart : ∀ op ∈ tests, op ∉ sums ∧ op ∉ [sAnd, sOr] ∧ op ≠ sIsNull ∧ op ≠ sAnd ∧ op ≠ sOr ∧ op ≠ sNot ∧ op ≠ sNeg ∧ op ≠ sCol := by decide
theorem sums_apart : ∀ op ∈ sums, op ∉ tests ∧ op ∉ [sAnd, sOr] ∧ op ≠ sIsNull ∧ op ≠ sAnd ∧ op ≠ sOr ∧ op ≠ sNot ∧ op ≠ sNeg ∧ op ≠ sCol := by decide
theorem valT_good (cols : List W) (op tx : List UInt8) (ks : List Int) (vs : List CV) (k : Int) (hn : ks ≠ []) (hc : op ≠ sCol) (ht : typeT cols op tx ks = (k, 0)) (hv : goodsV ks vs) : goodR k (valT op k vs) := by
  unfold typeT at ht
  split at ht
  · cases ht
  rename_i h1
  rw [not_or] at h1
  have hk : kidsN op = some ks.length := by simpa using h1.1
  match ks, vs, hv with
  | [a], [v], hv =>
    have hv : goodV a v := hv.1
    dsimp only at ht
    rcases kidsN_one hk with rfl | rfl | rfl
    · rw [if_neg (by decide)] at ht
      split at ht
      · rename_i h2
        cases ht
        unfold valT
        rw [if_neg (by decide), if_neg (by decide), if_neg (by decide)]
        split
        · exact .inl ⟨rfl, .inl rfl⟩
        · rename_i h3
          rw [if_neg (by decide), if_pos rfl]
          refine sum_good h2.2 ?_
          rintro rfl
          rcases hv with rfl | hv
          · exact h3 rfl
          · exact absurd hv.2.1 (by decide)
      · rw [if_neg (by rintro ⟨h, _⟩; exact absurd h (by decide))] at ht
        cases ht
    · rw [if_neg (by decide), if_neg (by rintro ⟨h, _⟩; exact absurd h (by decide))] at ht
      split at ht
      · cases ht
        unfold valT
        rw [if_neg (by decide), if_neg (by decide), if_neg (by decide)]
        split
        · exact .inl ⟨rfl, .inl rfl⟩
        · rw [if_pos rfl]
          exact .inl ⟨rfl, tru_good _⟩
      · cases ht
    · rw [if_pos rfl] at ht
      cases ht
      unfold valT
      rw [if_pos rfl]
      exact .inl ⟨rfl, tru_good _⟩
  | [a, b], [u, v], hv =>
    have hu : goodV a u := hv.1
    have hv : goodV b v := hv.2.1
    dsimp only at ht
    unfold twoT at ht
    rcases kidsN_two hk with rfl | rfl | hop | hop
    · rw [if_neg (by rintro ⟨h, _⟩; exact absurd h (by decide)), if_neg (by rintro ⟨h, _⟩; exact absurd h (by decide))] at ht
      split at ht <;> cases ht
      unfold valT
      rw [if_neg (by decide), if_pos rfl]
      exact .inl ⟨rfl, log_good _ _ _⟩
    · rw [if_neg (by rintro ⟨h, _⟩; exact absurd h (by decide)), if_neg (by rintro ⟨h, _⟩; exact absurd h (by decide))] at ht
      split at ht <;> cases ht
      unfold valT
      rw [if_neg (by decide), if_neg (by decide), if_pos rfl]
      exact .inl ⟨rfl, log_good _ _ _⟩
    · obtain ⟨d1, d2, d3, d4, d5, d6, d7, d8⟩ := tests_apart op hop
      rw [if_neg (fun h => d1 h.1)] at ht
      split at ht
      · cases ht
        unfold valT
        rw [if_neg d3, if_neg d4, if_neg d5]
        split
        · exact .inl ⟨rfl, .inl rfl⟩
        · (try rw [if_neg d6, if_neg d7, if_pos hop])
          exact .inl ⟨rfl, tru_good _⟩
      · rw [if_neg (fun h => d2 h.1)] at ht
        cases ht
    · obtain ⟨d1, d2, d3, d4, d5, d6, d7, d8⟩ := sums_apart op hop
      split at ht
      · rename_i h2
        unfold valT
        rw [if_neg d3, if_neg d4, if_neg d5]
        split
        · exact .inl ⟨rfl, .inl rfl⟩
        · rename_i h3
          (try rw [if_neg d6, if_neg d7, if_neg d1])
          simp only [List.any_cons, List.any_nil, Bool.or_false, Bool.or_eq_true, beq_iff_eq, not_or] at h3
          have ha : a ≠ 0 := by
            rintro rfl
            rcases hu with rfl | hu
            · exact h3.1 rfl
            · exact absurd hu.2.1 (by decide)
          have hb : b ≠ 0 := by
            rintro rfl
            rcases hv with rfl | hv
            · exact h3.2 rfl
            · exact absurd hv.2.1 (by decide)
          split at ht
          · cases ht
            exact sum_good h2.2.2 hb
          · cases ht
            exact sum_good h2.2.1 ha
      · rw [if_neg (fun h => d1 h.1), if_neg (fun h => d2 h.1)] at ht
        cases ht
theorem typeE_mk (cols : List W) (op tx : List UInt8) (ks : List Nod) : typeE cols (.mk op tx ks) = if (typeL cols ks).2 = 0 then typeT cols op tx (typeL cols ks).1 else (0, (typeL cols ks).2) := by rw [typeE]
theorem typeL_len (cols : List W) : ∀ l : List Nod, (typeL cols l).2 = 0 → (typeL cols l).1.length = l.length
  | [], _ => rfl
  | t :: l, h => by
    rw [typeL] at h ⊢
    split at h
    · rename_i h1
      rw [if_pos h1]
      split at h
      · rename_i h2
        rw [if_pos h2]
        simp [typeL_len cols l h2]
      · rename_i h2
        exact absurd h h2
    · rename_i h1
      exact absurd h h1
theorem leaf_kids {cols : List W} {op tx : List UInt8} {ks : List Int} {k : Int} (h : typeT cols op tx ks = (k, 0)) : kidsN op = some ks.length := by
  unfold typeT at h
  split at h
  · cases h
  · rename_i h1
    rw [not_or] at h1
    simpa using h1.1
theorem kidsN_col : kidsN sCol = some 0 := by decide
mutual
theorem valE_good (cols : List W) (row : List CV) (hf : rowFits row (kindsC cols) = true) : ∀ (e : Nod) (k : Int), typeE cols e = (k, 0) → goodR k (valE cols row e)
  | .mk op tx ks, k, ht => by
    have ht0 := ht
    rw [typeE] at ht
    split at ht
    case isFalse h => simp only [Prod.mk.injEq] at ht; exact absurd ht.2 h
    rename_i hl
    have hlen := typeL_len cols ks hl
    rw [valE]
    split
    · rename_i hop
      subst hop
      have h0 := leaf_kids ht
      rw [kidsN_col, hlen] at h0
      have hks : ks = [] := List.eq_nil_of_length_eq_zero (Option.some.inj h0).symm
      subst hks
      unfold typeT at ht
      rw [show (typeL cols []).1 = [] from rfl] at ht
      rw [if_neg (by rintro (h | h) <;> first | exact h (by rw [kidsN_col]; rfl) | exact h.2 (by decide))] at ht
      dsimp only at ht
      rw [if_pos rfl] at ht
      refine .inl ⟨rfl, ?_⟩
      unfold colK at ht
      unfold colV
      cases hfc : findC cols tx with
      | none => rw [hfc] at ht; cases ht
      | some i =>
        rw [hfc] at ht
        cases ht
        obtain ⟨hi, _, _⟩ := find_some hfc
        have hrl := fits_len hf
        have hkl : (kindsC cols).length = cols.length := List.length_map ..
        have h9 := fits_at hf i (by omega) (by omega)
        have := fit_good h9
        simp only [List.getD_eq_getElem?_getD, List.getElem?_eq_getElem hi, List.getElem?_eq_getElem (show i < row.length by omega), Option.getD_some]
        simpa [kindsC] using this
    · rename_i hop
      split
      · rename_i he
        have hks : ks = [] := by simpa using he
        subst hks
        unfold typeT at ht
        rw [show (typeL cols []).1 = [] from rfl] at ht
        split at ht
        · cases ht
        · dsimp only at ht
          (try rw [if_neg hop] at ht)
          cases hlit : litL op tx with
          | none => rw [hlit] at ht; cases ht
          | some v =>
            rw [hlit] at ht
            cases ht
            exact .inl ⟨rfl, lit_good hlit⟩
      · rename_i he
        have hne : ks ≠ [] := by simpa using he
        have hg := valL_good cols row hf ks hl
        have hk1 : (typeE cols (.mk op tx ks)).1 = k := by rw [ht0]
        rw [hk1]
        rcases hg with ⟨h1, h2⟩ | ⟨h1, h2⟩
        · rw [if_pos h1]
          exact valT_good cols op tx _ _ k (fun h => hne (List.eq_nil_of_length_eq_zero (by rw [← hlen, h]; rfl))) hop ht h2
        · rw [if_neg (by rw [h1]; decide), h1]
          exact .inr ⟨rfl, rfl⟩
theorem valL_good (cols : List W) (row : List CV) (hf : rowFits row (kindsC cols) = true) : ∀ (l : List Nod), (typeL cols l).2 = 0 → ((valL cols row l).2 = 0 ∧ goodsV (typeL cols l).1 (valL cols row l).1) ∨ ((valL cols row l).2 = 11 ∧ True)
  | [], _ => .inl ⟨rfl, trivial⟩
  | t :: l, h => by
    rw [typeL] at h ⊢
    split at h
    case isFalse h1 => exact absurd h h1
    rename_i h1
    rw [if_pos h1]
    split at h
    case isFalse h2 => exact absurd h h2
    rename_i h2
    rw [if_pos h2]
    have ht := valE_good cols row hf t (typeE cols t).1 (by rw [← h1])
    have hl := valL_good cols row hf l h2
    rw [valL]
    rcases ht with ⟨g1, g2⟩ | ⟨g1, g2⟩
    · rw [if_pos g1]
      rcases hl with ⟨g3, g4⟩ | ⟨g3, g4⟩
      · rw [if_pos g3]
        exact .inl ⟨rfl, g2, g4⟩
      · rw [if_neg (by rw [g3]; decide)]
        exact .inr ⟨g3, trivial⟩
    · rw [if_neg (by rw [g1]; decide)]
      exact .inr ⟨g1, trivial⟩
end
theorem twoT_none {op : List UInt8} {a b : Int} (h : (twoT op a b).2 ≠ 0) : (twoT op a b).1 = 0 := by
  unfold twoT at h ⊢
  split
  · rename_i h1
    rw [if_pos h1] at h
    split at h <;> exact absurd rfl h
  · rename_i h1
    rw [if_neg h1] at h
    split
    · rename_i h2
      rw [if_pos h2] at h
      exact absurd rfl h
    · rename_i h2
      rw [if_neg h2] at h
      split
      · rename_i h3
        rw [if_pos h3] at h
        exact absurd rfl h
      · rfl
theorem typeT_none {cols : List W} {op tx : List UInt8} {l : List Int} (h : (typeT cols op tx l).2 ≠ 0) : (typeT cols op tx l).1 = 0 := by
  unfold typeT at h ⊢
  split
  · rfl
  · rename_i h1
    rw [if_neg h1] at h
    match l with
    | [] =>
      dsimp only at h ⊢
      split
      · rename_i h2
        rw [if_pos h2] at h
        unfold colK at h ⊢
        cases hf : findC cols tx with
        | none => rfl
        | some i => rw [hf] at h; exact absurd rfl h
      · rename_i h2
        rw [if_neg h2] at h
        cases hf : litL op tx with
        | none => rfl
        | some v => rw [hf] at h; exact absurd rfl h
    | [a] =>
      dsimp only at h ⊢
      split
      · rename_i h2
        rw [if_pos h2] at h
        exact absurd rfl h
      · rename_i h2
        rw [if_neg h2] at h
        split
        · rename_i h3
          rw [if_pos h3] at h
          exact absurd rfl h
        · rename_i h3
          rw [if_neg h3] at h
          split
          · rename_i h4
            rw [if_pos h4] at h
            exact absurd rfl h
          · rfl
    | [a, b] => exact twoT_none h
    | _ :: _ :: _ :: _ => rfl
theorem typeE_none {cols : List W} : ∀ {e : Nod}, (typeE cols e).2 ≠ 0 → (typeE cols e).1 = 0
  | .mk op tx ks, h => by
    rw [typeE] at h ⊢
    split
    · rename_i h1
      rw [if_pos h1] at h
      exact typeT_none h
    · rfl
/-- OF ITS KIND, whole -/
theorem value_kinds (cols : List W) (row : List CV) (e : Nod) : ((typeE cols e).2 ≠ 0 → (valueK cols row e).2 = (typeE cols e).2 ∧ (valueK cols row e).1 = nulV) ∧
    ((typeE cols e).2 = 0 → ((valueK cols row e).1 = nulV ∨ (valueK cols row e).1.1 = (typeE cols e).1) ∧ ((valueK cols row e).2 = 0 ∨ (valueK cols row e).2 = 11 ∨ (valueK cols row e).2 = 51) ∧ ((valueK cols row e).2 = 0 ∨ (valueK cols row e).1 = nulV)) := by
  unfold valueK
  refine ⟨fun h => by rw [if_neg h]; exact ⟨rfl, rfl⟩, fun h => ?_⟩
  rw [if_pos h]
  split
  · rename_i hf
    rcases valE_good cols row hf e (typeE cols e).1 (by rw [← h]) with ⟨h1, h2⟩ | ⟨h1, h2⟩
    · refine ⟨?_, .inl h1, .inl h1⟩
      rcases h2 with h2 | h2
      · exact .inl h2
      · exact .inr h2.1
    · exact ⟨.inl h2, .inr (.inl h1), .inr h2⟩
  · exact ⟨.inl rfl, .inr (.inr rfl), .inr rfl⟩
end Go.Proofs.Ytkibacolnagkcaa.Code
/-
  Lists in memory whose elements have any number of cells: what lies where, what is appended. No type and no function of the program is named.
-/
namespace Go.Proofs.Ytkibacolnagkcaa.Elems
open Go.ChangeShapes Go.WideShapes Go.ChangeAt Go.RowKit Val Go.Proofs.Ytkibacolnagkcaa.Code
set_option linter.unusedVariables false
section
variable {α : Type} {c : α → List Value} {k : Nat}

/-- elements as the cells of a row -/
def flatC (c : α → List Value) (l : List α) : List Value := l.flatMap c
theorem flatC_length (hk : ∀ x, (c x).length = k) : ∀ l, (flatC c l).length = l.length * k
  | [] => by simp [flatC]
  | v :: l => by
    show (c v ++ flatC c l).length = _
    rw [List.length_append, flatC_length hk l, List.length_cons, hk, Nat.add_mul, Nat.one_mul, Nat.add_comm]
theorem flatC_at (hk : ∀ x, (c x).length = k) : ∀ (l : List α) (i : Nat) (h : i < l.length) (j : Nat), j < k → (flatC c l)[i * k + j]? = (c l[i])[j]?
  | v :: l, 0, _, j, hj => by
    show (c v ++ flatC c l)[0 * k + j]? = (c v)[j]?
    rw [Nat.zero_mul, Nat.zero_add, List.getElem?_append_left (by rw [hk]; exact hj)]
  | v :: l, i + 1, h, j, hj => by
    show (c v ++ flatC c l)[(i + 1) * k + j]? = _
    rw [List.getElem?_append_right (by rw [hk, Nat.add_mul, Nat.one_mul]; omega), hk, show (i + 1) * k + j - k = i * k + j by rw [Nat.add_mul, Nat.one_mul]; omega]
    exact flatC_at hk l i (by simpa using h) j hj
theorem flatC_snoc (l : List α) (v : α) : flatC c (l ++ [v]) = flatC c l ++ c v := by
  unfold flatC
  rw [List.flatMap_append]
  simp
theorem flatC_append (a b : List α) : flatC c (a ++ b) = flatC c a ++ flatC c b := List.flatMap_append
theorem flatC_one (h1 : ∀ x, ∀ u ∈ c x, u.oneCell' = true) (l : List α) : ∀ u ∈ flatC c l, u.oneCell' = true := by
  intro u hu
  obtain ⟨v, _, hv⟩ := List.mem_flatMap.1 hu
  exact h1 v u hv
/-- the slice at A holds these elements, and lies below B -/
def At (c : α → List Value) (k : Nat) (w : World) (B : Nat) (A : Option Addr) (l : List α) : Prop :=
  ∀ (i : Nat) (h : i < l.length), ∃ ad : Addr, A = some ad ∧ ad.block < B ∧ ∀ (j : Nat) (u : Value), (c l[i])[j]? = some u → w.cell? (ad.add (i * k + j)) = some u
theorem At.keep {w w' : World} {B : Nat} {A : Option Addr} {l : List α} (h : At c k w B A l) (hk : ∀ p : Addr, p.block < B → w'.cell? p = w.cell? p) : At c k w' B A l := by
  intro i hi
  obtain ⟨ad, e, hb, h0⟩ := h i hi
  exact ⟨ad, e, hb, fun j u hu => (hk _ (by rw [add_block]; exact hb)).trans (h0 j u hu)⟩
theorem At.below {w w' : World} {B : Nat} {A : Option Addr} {l : List α} (h : At c k w B A l) (hb : Below B w w') : At c k w' B A l := h.keep fun _ hp => hb.cell hp
theorem At.more {w : World} {B B' : Nat} {A : Option Addr} {l : List α} (h : At c k w B A l) (hB : B ≤ B') : At c k w B' A l := by
  intro i hi
  obtain ⟨ad, e, hb, h0⟩ := h i hi
  exact ⟨ad, e, by omega, h0⟩
theorem At.nil (w : World) (B : Nat) (A : Option Addr) : At c k w B A ([] : List α) := fun i hi => absurd hi (Nat.not_lt_zero _)
theorem At.take {w : World} {B : Nat} {A : Option Addr} {l : List α} (h : At c k w B A l) (n : Nat) : At c k w B A (l.take n) := by
  intro i hi
  rw [List.length_take] at hi
  obtain ⟨ad, e, hb, h0⟩ := h i (by omega)
  exact ⟨ad, e, hb, by rw [List.getElem_take]; exact h0⟩
/-- a row of the call's own is a list of elements -/
theorem own_at (hk : ∀ x, (c x).length = k) {w : World} {B : Nat} {e : TypeId} {v : Value} {l : List α} (h : w.ownsRow B e k v l.length (flatC c l)) : ∃ A cap, v = .slice A l.length cap ∧ At c k w w.heap.size A l := by
  rcases Nat.eq_zero_or_pos l.length with h0 | h0
  · have hn := List.eq_nil_of_length_eq_zero h0
    subst hn
    rcases h.2 with ⟨rfl, _⟩ | ⟨g, cap, cur, rfl, _⟩
    · exact ⟨none, 0, rfl, At.nil _ _ _⟩
    · exact ⟨some ⟨g, 0, none⟩, cap, rfl, At.nil _ _ _⟩
  · obtain ⟨g, cap, hv, hg, hlt⟩ := h.form h0
    have hc := h.cells (g := g) (by rw [hv]; rfl)
    refine ⟨some ⟨g, 0, none⟩, cap, hv, fun i hi => ⟨⟨g, 0, none⟩, rfl, hlt, fun j u hu => hc _ _ ?_⟩⟩
    have hj : j < k := by
      have := (List.getElem?_eq_some_iff.1 hu).1
      rwa [hk] at this
    rw [flatC_at hk l i hi j hj, hu]
theorem at_news (hk : ∀ x, (c x).length = k) (hk0 : 0 < k) {w : World} {B : Nat} {ad : Addr} {l : List α} (h : At c k w B (some ad) l) : ∀ (j : Nat) (u : Value), (flatC c l)[j]? = some u → w.cell? (ad.add j) = some u := by
  intro j u hu
  have hj : j < l.length * k := by
    have := (List.getElem?_eq_some_iff.1 hu).1
    rwa [flatC_length hk] at this
  have hi : j / k < l.length := Nat.div_lt_of_lt_mul (by rw [Nat.mul_comm]; exact hj)
  have hr : j % k < k := Nat.mod_lt _ hk0
  have e : j = j / k * k + j % k := by have := Nat.div_add_mod j k; rw [Nat.mul_comm] at this; exact this.symm
  obtain ⟨ad', e', _, h0⟩ := h (j / k) hi
  obtain rfl : ad = ad' := Option.some.inj e'
  rw [e]
  refine h0 _ _ ?_
  rw [← flatC_at hk l _ hi _ hr, ← e]
  exact hu
theorem run_append_nothingK {P : Program} (w : World) (base : Nat) (t ty e : TypeId) (i : TypeInfo) (size : Nat) (ht : P.underlying t = some (.slice e)) (hi : P.info? e = some i) (v : Value) (n : Nat) (xs : List Value) (hown : w.ownsRow base e size v n xs) (cp : Nat) :
    (Builtin.append_ #[t, t] ty #[v, .slice none 0 cp]).run P w = .ok v w := run_append_nothing w base t ty e i size ht hi v n xs hown cp
/-- a list appended to a row of the call's own, whether it is nil or not -/
theorem wpList_append_at (hk : ∀ x, (c x).length = k) (hk0 : 0 < k) (h1 : ∀ x, ∀ u ∈ c x, u.oneCell' = true) {P : Program} {w : World} {ops : Array Oper} {rest : List Oper} {o : Oper} {a : Act} {Q : Exit → Act → World → Prop} (hgd : o.guard = none) (s x : Operand) (t : TypeId)
    (ho : o.op = .call { callee := .builtin .append, args := #[s, x], argTypes := #[t, t] })
    (base : Nat) (e : TypeId) (i : TypeInfo) (z : Value) (bytes : Nat) (ht : P.underlying t = some (.slice e)) (hi : P.info? e = some i) (hz : i.zero = some z)
    (hsize : i.size = k) (hby : i.bytes = bytes) (hzs : z.cells.size = k) (v : Value) (n : Nat) (xs : List Value) (hs : a.eval s = v) (hown : w.ownsRow base e k v n xs)
    (B : Nat) (A : Option Addr) (cp : Nat) (l : List α) (hx : a.eval x = .slice A l.length cp) (hv : At c k w B A l)
    (h63 : n + l.length ≤ maxLen) (hbytes : (n + l.length) * bytes ≤ 140737488355328) (hbase : base ≤ w.heap.size)
    (h : ∀ v' w', w'.ownsRow base e k v' (n + l.length) (xs ++ flatC c l) → w.grownBy w' v.ownBlock → wpList P ops Q rest (a.put o.dst v') w') : wpList P ops Q (o :: rest) a w := by
  rcases A with _ | ad
  · have h0 : l = [] := by
      cases l with
      | nil => rfl
      | cons y l =>
        obtain ⟨ad, e, _⟩ := hv 0 (by simp)
        cases e
    subst h0
    refine wpList_plain hgd fun K hK => ?_
    have hrun := run_append_nothing (P := P) w base t o.type e i k ht hi v n xs hown cp
    unfold Oper.wp
    simp only [ho, execOp, resolve, invoke, builtin, Sem.run_bind, Sem.run_pure, Result.andThen_ok, List.map_toArray, List.map_cons, List.map_nil, hs, hx, List.length_nil, hrun]
    exact hK _ _ (h v w (by simpa [flatC] using hown) (World.grownBy.refl w _))
  · exact wpList_append_own w hgd s x t ho base e i z k bytes ht hi hz hsize hby hzs hk0 v n xs hs hown ad l.length cp (flatC c l) hx (flatC_length hk l) (at_news hk hk0 hv) (flatC_one h1 l) h63 hbytes hbase (fun v' w' h1 h2 _ => h v' w' h1 h2)
end
end Go.Proofs.Ytkibacolnagkcaa.Elems
/-
  Words of a text in memory; what a round of Words does. No function of the program is named here.
-/
namespace Go.Proofs.Ytkibacolnagkcaa.Code
open Go.ChangeShapes Go.WideShapes Go.ChangeAt Go.RowKit Val Elems
set_option linter.unusedVariables false
/-- a word's cells -/
def wc (w : W) : List Value := [.int .i64 w.1, .string ⟨w.2.1.toArray⟩, .int .i64 w.2.2]
theorem wc_length (w : W) : (wc w).length = 3 := rfl
theorem wc_one : ∀ w : W, ∀ u ∈ wc w, u.oneCell' = true := by
  intro w u hu
  simp [wc] at hu
  rcases hu with rfl | rfl | rfl <;> rfl
def wcons (a : List W) (r : Except Int (List W)) : Except Int (List W) := match r with | .error j => .error j | .ok m => .ok (a ++ m)
theorem wcons_nil (r : Except Int (List W)) : wcons [] r = r := by cases r <;> rfl
theorem wcons_wcons (a b : List W) (r : Except Int (List W)) : wcons a (wcons b r) = wcons (a ++ b) r := by
  cases r
  · rfl
  · simp [wcons]
/-- how far the words of a text are gone through -/
def WAt (s : List UInt8) (i : Nat) (a : List W) : Prop := wordsL s 0 = wcons a (wordsL (s.drop i) i)
theorem WAt.start (s : List UInt8) : WAt s 0 [] := by
  unfold WAt
  rw [wcons_nil]
  rfl
theorem WAt.blank {s : List UInt8} {i : Nat} {a : List W} (h : WAt s i a) (hi : i < s.length) (hb : blankB s[i] = true) : WAt s (i + 1) a := by
  unfold WAt at *
  rw [h, List.drop_eq_getElem_cons hi, wordsL_blank hb]
  rfl
theorem WAt.none {s : List UInt8} {i : Nat} {a : List W} (h : WAt s i a) (hi : i < s.length) (hb : blankB s[i] = false) (hf : firstL (s.drop i) = none) : wordsL s 0 = .error i := by
  unfold WAt at h
  rw [List.drop_eq_getElem_cons hi] at h hf
  rw [h, wordsL_none hb hf]
  rfl
theorem WAt.one {s : List UInt8} {i n : Nat} {a : List W} {k : Int} {t : List UInt8} (h : WAt s i a) (hi : i < s.length) (hf : firstL (s.drop i) = some (k, t, n)) : WAt s (i + n) (a ++ [(k, t, (i : Int))]) := by
  unfold WAt at *
  have e : wordsL (s.drop i) i = wcons [(k, t, (i : Int))] (wordsL (s.drop (i + n)) ((i + n : Nat) : Int)) := by
    have e2 : (s.drop i).drop n = s.drop (i + n) := List.drop_drop
    rw [← e2, List.drop_eq_getElem_cons hi] at *
    rw [wordsL_one hf, Int.natCast_add]
    rfl
  rw [h, e, wcons_wcons]
theorem WAt.done {s : List UInt8} {a : List W} {i : Nat} (h : WAt s i a) (hi : s.length ≤ i) : wordsL s 0 = .ok a := by
  unfold WAt at h
  rw [h, List.drop_eq_nil_of_le hi, wordsL_nil]
  simp [wcons]
def wL (s : List UInt8) : List W := match wordsL s 0 with | .ok l => l | .error _ => []
def wP (s : List UInt8) : Int := match wordsL s 0 with | .ok _ => 0 | .error j => j
def wE (s : List UInt8) : Int := match wordsL s 0 with | .ok _ => 0 | .error _ => 81
/-- what Words answers -/
def WordsPost (w : World) (s : List UInt8) (e : Ending) (w' : World) : Prop :=
  ∃ (A : Option Addr) (cap : Nat), e = .returned (.tuple #[.slice A (wL s).length cap, .int .i64 (wP s), .int .i64 (wE s)]) ∧ At wc 3 w' w'.heap.size A (wL s) ∧ Below w.heap.size w w'
theorem words_no {w w' : World} {s : List UInt8} {j : Int} (h : wordsL s 0 = .error j) (hb : Below w.heap.size w w') : WordsPost w s (.returned (.tuple #[.slice none 0 0, .int .i64 j, .int .i64 81])) w' := by
  have h1 : wL s = [] := by unfold wL; rw [h]
  have h2 : wP s = j := by unfold wP; rw [h]
  have h3 : wE s = 81 := by unfold wE; rw [h]
  exact ⟨none, 0, by rw [h1, h2, h3]; rfl, by rw [h1]; exact At.nil _ _ _, hb⟩
theorem words_yes {w w' : World} {s : List UInt8} {l : List W} {v : Value} {e : TypeId} (h : wordsL s 0 = .ok l) (ho : w'.ownsRow w.heap.size e 3 v l.length (flatC wc l)) (hb : Below w.heap.size w w') : WordsPost w s (.returned (.tuple #[v, .int .i64 0, .int .i64 0])) w' := by
  have h1 : wL s = l := by unfold wL; rw [h]
  have h2 : wP s = 0 := by unfold wP; rw [h]
  have h3 : wE s = 0 := by unfold wE; rw [h]
  obtain ⟨A, cap, rfl, hv⟩ := own_at wc_length ho
  exact ⟨A, cap, by rw [h1, h2, h3], by rw [h1]; exact hv, hb⟩
end Go.Proofs.Ytkibacolnagkcaa.Code
