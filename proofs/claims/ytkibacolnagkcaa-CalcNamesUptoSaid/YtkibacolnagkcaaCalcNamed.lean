/-
  Expressions by name: columns in another order, a column with another name: in plain words. No program is named here.
-/
import Derived.Test.YtkibacolnagkcaaM10
namespace Go.Proofs.Ytkibacolnagkcaa.Code
open Val
set_option linter.unusedVariables false
/-! ### another order -/
theorem find_reverse {cols : List W} (h : cols.Pairwise Two) (s : List UInt8) : findC cols.reverse s = (findC cols s).map fun i => cols.length - 1 - i := by
  cases hf : findC cols s with
  | none =>
    refine find_no fun c hc => ?_
    exact find_none hf c (List.mem_reverse.1 hc)
  | some i =>
    obtain ⟨hi, h1, h2⟩ := find_some hf
    show findC cols.reverse s = some (cols.length - 1 - i)
    refine find_at (by rw [List.length_reverse]; omega) ?_ fun j hj => ?_
    · rw [List.getElem_reverse]
      have : cols.length - 1 - (cols.length - 1 - i) = i := by omega
      simp only [this]
      exact h1
    · rw [List.getElem_reverse, ← h1]
      exact (names_apart h (by omega) hi (by omega)).2
theorem colK_reverse {cols : List W} (h : cols.Pairwise Two) (tx : List UInt8) : colK cols.reverse tx = colK cols tx := by
  unfold colK
  rw [find_reverse h]
  cases hf : findC cols tx with
  | none => rfl
  | some i =>
    obtain ⟨hi, _, _⟩ := find_some hf
    simp only [Option.map_some, List.getD_eq_getElem?_getD]
    rw [List.getElem?_reverse (by omega), show cols.length - 1 - (cols.length - 1 - i) = i by omega]
theorem colV_reverse {cols : List W} {row : List CV} (h : cols.Pairwise Two) (hl : row.length = cols.length) (tx : List UInt8) : colV cols.reverse row.reverse tx = colV cols row tx := by
  unfold colV
  rw [find_reverse h]
  cases hf : findC cols tx with
  | none => rfl
  | some i =>
    obtain ⟨hi, _, _⟩ := find_some hf
    simp only [Option.map_some, List.getD_eq_getElem?_getD]
    rw [List.getElem?_reverse (by omega), show row.length - 1 - (cols.length - 1 - i) = i by omega]
theorem typeT_reverse {cols : List W} (h : cols.Pairwise Two) (op tx : List UInt8) (l : List Int) : typeT cols.reverse op tx l = typeT cols op tx l := by
  unfold typeT
  rw [colK_reverse h]
mutual
theorem typeE_reverse {cols : List W} (h : cols.Pairwise Two) : ∀ e : Nod, typeE cols.reverse e = typeE cols e
  | .mk op tx ks => by rw [typeE, typeE, typeL_reverse h ks, typeT_reverse h]
theorem typeL_reverse {cols : List W} (h : cols.Pairwise Two) : ∀ l : List Nod, typeL cols.reverse l = typeL cols l
  | [] => rfl
  | t :: l => by rw [typeL, typeL, typeE_reverse h t, typeL_reverse h l]
end
mutual
theorem valE_reverse {cols : List W} {row : List CV} (h : cols.Pairwise Two) (hl : row.length = cols.length) : ∀ e : Nod, valE cols.reverse row.reverse e = valE cols row e
  | .mk op tx ks => by
    rw [valE, valE, valL_reverse h hl ks, typeE_reverse h, colV_reverse h hl]
theorem valL_reverse {cols : List W} {row : List CV} (h : cols.Pairwise Two) (hl : row.length = cols.length) : ∀ l : List Nod, valL cols.reverse row.reverse l = valL cols row l
  | [] => rfl
  | t :: l => by rw [valL, valL, valE_reverse h hl t, valL_reverse h hl l]
end
theorem fits_reverse (row : List CV) (ks : List Int) (hl : row.length = ks.length) : rowFits row.reverse ks.reverse = rowFits row ks := by
  unfold rowFits fitZ
  rw [List.length_reverse, List.length_reverse, ← List.reverse_zipWith hl, List.all_reverse]
/-- BY NAME, in another order -/
theorem value_reverse {cols : List W} {row : List CV} (h : schC cols = true) (hl : cols.length = row.length) (e : Nod) : valueK cols.reverse row.reverse e = valueK cols row e := by
  have hp := ((sch_iff cols).1 h).1.2
  unfold valueK
  have hk : kindsC cols.reverse = (kindsC cols).reverse := List.map_reverse.symm ▸ rfl
  rw [typeE_reverse hp, valE_reverse hp hl.symm, hk, fits_reverse _ _ (by unfold kindsC; rw [List.length_map]; exact hl.symm)]
/-! ### another name -/
mutual
def renE (a b : List UInt8) : Nod → Nod
  | .mk op tx ks => .mk op (if op = sCol ∧ tx = a then b else tx) (renL a b ks)
def renL (a b : List UInt8) : List Nod → List Nod
  | [] => []
  | t :: l => renE a b t :: renL a b l
end
mutual
def noCol (a : List UInt8) : Nod → Prop
  | .mk op tx ks => ¬ (op = sCol ∧ tx = a) ∧ noColL a ks
def noColL (a : List UInt8) : List Nod → Prop
  | [] => True
  | t :: l => noCol a t ∧ noColL a l
end
mutual
theorem ren_same {a b : List UInt8} (hab : b ≠ a) : ∀ e : Nod, renE a b e = e → noCol a e
  | .mk op tx ks, h => by
    rw [renE] at h
    injection h with _ h2 h3
    refine ⟨?_, ren_sameL hab ks h3⟩
    rintro ⟨h4, h5⟩
    rw [if_pos ⟨h4, h5⟩] at h2
    exact hab (h2.trans h5)
theorem ren_sameL {a b : List UInt8} (hab : b ≠ a) : ∀ l : List Nod, renL a b l = l → noColL a l
  | [], _ => trivial
  | t :: l, h => by
    rw [renL] at h
    injection h with h1 h2
    exact ⟨ren_same hab t h1, ren_sameL hab l h2⟩
end
theorem find_cons (c : W) (l : List W) (s : List UInt8) : findC (c :: l) s = if c.2.1 = s then some 0 else (findC l s).map (· + 1) := by
  unfold findC
  rw [List.findIdx?_cons]
  by_cases h : c.2.1 = s
  · simp [h]
  · simp [h]
/-- the place of a column that got another name -/
theorem find_named (c : W) (l : List W) (b tx : List UInt8) (hb : ∀ x ∈ l, x.2.1 ≠ b) (hn : tx ≠ b) : findC ((c.1, b, c.2.2) :: l) (if tx = c.2.1 then b else tx) = findC (c :: l) tx := by
  rw [find_cons, find_cons]
  by_cases h : tx = c.2.1
  · rw [if_pos h, if_pos rfl, if_pos h.symm]
  · rw [if_neg h, if_neg (fun e => hn e.symm), if_neg (fun e => h e.symm)]
theorem get_named (c : W) (l : List W) (b : List UInt8) (i : Nat) : ((((c.1, b, c.2.2) :: l : List W)).getD i (0, [], 0)).2.2 = ((c :: l).getD i (0, [], 0)).2.2 := by
  cases i <;> rfl
theorem colK_named (c : W) (l : List W) (b tx : List UInt8) (hb : ∀ x ∈ l, x.2.1 ≠ b) (hn : tx ≠ b) : colK ((c.1, b, c.2.2) :: l) (if tx = c.2.1 then b else tx) = colK (c :: l) tx := by
  unfold colK
  rw [find_named c l b tx hb hn]
  cases findC (c :: l) tx with
  | none => rfl
  | some i => dsimp only; rw [get_named]
theorem colV_named (c : W) (l : List W) (b tx : List UInt8) (row : List CV) (hb : ∀ x ∈ l, x.2.1 ≠ b) (hn : tx ≠ b) : colV ((c.1, b, c.2.2) :: l) row (if tx = c.2.1 then b else tx) = colV (c :: l) row tx := by
  unfold colV
  rw [find_named c l b tx hb hn]
theorem typeT_named (c : W) (l : List W) (b : List UInt8) (hb : ∀ x ∈ l, x.2.1 ≠ b) (op tx : List UInt8) (hn : ¬ (op = sCol ∧ tx = b)) (ks : List Int) :
    typeT ((c.1, b, c.2.2) :: l) op (if op = sCol ∧ tx = c.2.1 then b else tx) ks = typeT (c :: l) op tx ks := by
  by_cases hop : op = sCol
  · subst hop
    have h0 : ∀ t : List UInt8, ¬ (t ≠ [] ∧ sCol ∉ [sNum, sText, sCol]) := fun t h => h.2 (by decide)
    have h1 := colK_named c l b tx hb (fun e => hn ⟨rfl, e⟩)
    simp only [true_and]
    unfold typeT
    by_cases hk : kidsN sCol = some ks.length
    · have hN : ∀ t : List UInt8, ¬ (kidsN sCol ≠ some ks.length ∨ (t ≠ [] ∧ sCol ∉ [sNum, sText, sCol])) := fun t h => h.elim (fun h => h hk) (h0 t)
      rw [if_neg (hN _), if_neg (hN _)]
      match ks with
      | [] =>
        dsimp only
        rw [if_pos rfl, if_pos rfl, h1]
      | [_] => rfl
      | [_, _] => rfl
      | _ :: _ :: _ :: _ => rfl
    · rw [if_pos (.inl hk), if_pos (.inl hk)]
  · rw [if_neg (fun h => hop h.1)]
    unfold typeT
    split
    · rfl
    · match ks with
      | [] => simp only []
      | [_] => rfl
      | [_, _] => rfl
      | _ :: _ :: _ :: _ => rfl
mutual
theorem typeE_named (c : W) (l : List W) (b : List UInt8) (hb : ∀ x ∈ l, x.2.1 ≠ b) : ∀ e : Nod, noCol b e → typeE ((c.1, b, c.2.2) :: l) (renE c.2.1 b e) = typeE (c :: l) e
  | .mk op tx ks, h => by rw [renE, typeE, typeE, typeL_named c l b hb ks h.2, typeT_named c l b hb op tx h.1]
theorem typeL_named (c : W) (l : List W) (b : List UInt8) (hb : ∀ x ∈ l, x.2.1 ≠ b) : ∀ k : List Nod, noColL b k → typeL ((c.1, b, c.2.2) :: l) (renL c.2.1 b k) = typeL (c :: l) k
  | [], _ => rfl
  | t :: k, h => by rw [renL, typeL, typeL, typeE_named c l b hb t h.1, typeL_named c l b hb k h.2]
end
theorem renL_empty (a b : List UInt8) : ∀ l : List Nod, (renL a b l).isEmpty = l.isEmpty
  | [] => rfl
  | _ :: _ => rfl
mutual
theorem valE_named (c : W) (l : List W) (b : List UInt8) (row : List CV) (hb : ∀ x ∈ l, x.2.1 ≠ b) : ∀ e : Nod, noCol b e → valE ((c.1, b, c.2.2) :: l) row (renE c.2.1 b e) = valE (c :: l) row e
  | .mk op tx ks, h => by
    have ht := typeE_named c l b hb (.mk op tx ks) h
    rw [renE] at ht ⊢
    rw [valE, valE, ht, valL_named c l b row hb ks h.2, renL_empty]
    by_cases hop : op = sCol
    · rw [if_pos hop, if_pos hop]
      have := colV_named c l b tx row hb (fun e => h.1 ⟨hop, e⟩)
      simp only [hop, true_and]
      rw [this]
    · simp only [if_neg hop, if_neg (fun h : op = sCol ∧ tx = c.2.1 => hop h.1)]
theorem valL_named (c : W) (l : List W) (b : List UInt8) (row : List CV) (hb : ∀ x ∈ l, x.2.1 ≠ b) : ∀ k : List Nod, noColL b k → valL ((c.1, b, c.2.2) :: l) row (renL c.2.1 b k) = valL (c :: l) row k
  | [], _ => rfl
  | t :: k, h => by rw [renL, valL, valL, valE_named c l b row hb t h.1, valL_named c l b row hb k h.2]
end
/-- BY NAME, with another name -/
theorem value_named (c : W) (l : List W) (b d : List UInt8) (row : List CV) (hb : ∀ x ∈ l, x.2.1 ≠ b) (hd : d ≠ b) (e : Nod) (he : renE b d e = e) : valueK ((c.1, b, c.2.2) :: l) row (renE c.2.1 b e) = valueK (c :: l) row e := by
  have hn := ren_same hd e he
  unfold valueK
  rw [typeE_named c l b hb e hn, valE_named c l b row hb e hn]
  rfl
end Go.Proofs.Ytkibacolnagkcaa.Code

