/-
  Truths not of and is or of nots; expressions by name: in plain words. No program is named here.
-/
import Derived.Test.YtkibacolnagkcaaM10
import Derived.Test.YtkibacolnagkcaaM25
namespace Go.Proofs.Ytkibacolnagkcaa.Code
open Val
set_option linter.unusedVariables false
def notN (a : Nod) : Nod := .mk sNot [] [a]
def isN (a : Nod) : Nod := .mk sIsNull [] [a]
def andN (a b : Nod) : Nod := .mk sAnd [] [a, b]
def orN (a b : Nod) : Nod := .mk sOr [] [a, b]
/-- a truth, or null -/
def truth3 (v : CV) : Prop := v = nulV ∨ v = truV true ∨ v = truV false
theorem truth_one {v : CV} (h1 : v.1 = 1) (h2 : rightB v.1 v.2.1 v.2.2 = true) : truth3 v := by
  obtain ⟨k, n, s⟩ := v
  dsimp only at h1 h2
  subst h1
  unfold rightB holdsB at h2
  rw [if_neg (by decide), if_neg (by decide), if_pos rfl, Bool.and_eq_true, decide_eq_true_eq, decide_eq_true_eq] at h2
  have hs : s = ⟨#[]⟩ := by
    obtain ⟨d⟩ := s
    have : d.size = 0 := h2.1
    rw [Array.eq_empty_of_size_eq_zero this]
  subst hs
  rcases h2.2 with rfl | rfl
  · exact .inr (.inr rfl)
  · exact .inr (.inl rfl)
/-- what holds without an error is a truth: null, true or false -/
theorem holds_truth {cols : List W} {row : List CV} {e : Nod} (h : (holdsK cols row e).2 = 0) : (typeE cols e).2 = 0 ∧ truK (typeE cols e).1 = true ∧ rowFits row (kindsC cols) = true ∧ (valE cols row e).2 = 0 ∧ truth3 (valE cols row e).1 := by
  unfold holdsK at h
  split at h
  · exact absurd h (by decide)
  rename_i h1
  dsimp only at h
  have hk := value_kinds cols row e
  by_cases ht : (typeE cols e).2 = 0
  · have h2 : truK (typeE cols e).1 = true := by
      cases h3 : truK (typeE cols e).1
      · exact absurd ⟨ht, h3⟩ h1
      · rfl
    unfold valueK at h hk
    rw [if_pos ht] at h hk
    by_cases hf : rowFits row (kindsC cols) = true
    · rw [if_pos hf] at h hk
      refine ⟨ht, h2, hf, h, ?_⟩
      rcases valE_good cols row hf e (typeE cols e).1 (by rw [← ht]) with ⟨_, g⟩ | ⟨g, _⟩
      · rcases g with g | g
        · exact .inl g
        · unfold truK at h2
          simp only [Bool.or_eq_true, beq_iff_eq] at h2
          rcases h2 with h2 | h2 <;> rw [h2] at g
          · exact truth_one g.1 g.2.2
          · exact absurd g.2.1 (by decide)
      · rw [g] at h
        exact absurd h (by decide)
    · rw [if_neg hf] at h
      exact absurd h (by decide)
  · rw [(hk.1 ht).1] at h
    exact absurd h ht
theorem type_not {cols : List W} {a : Nod} (h : (typeE cols a).2 = 0) (hk : truK (typeE cols a).1 = true) : typeE cols (notN a) = (1, 0) := by
  unfold notN
  rw [typeE_mk]
  have hl : typeL cols [a] = ([(typeE cols a).1], 0) := by rw [typeL, if_pos h, typeL, if_pos rfl]
  rw [hl]
  dsimp only
  rw [if_pos rfl]
  unfold typeT
  rw [if_neg (by rintro (h | h); exact h (by rw [show kidsN sNot = some 1 by decide]; rfl); exact h.1 rfl)]
  dsimp only
  rw [if_neg (by decide), if_neg (by rintro ⟨h, _⟩; exact absurd h (by decide)), if_pos ⟨rfl, hk⟩]
theorem type_is {cols : List W} {a : Nod} (h : (typeE cols a).2 = 0) : typeE cols (isN a) = (1, 0) := by
  unfold isN
  rw [typeE_mk]
  have hl : typeL cols [a] = ([(typeE cols a).1], 0) := by rw [typeL, if_pos h, typeL, if_pos rfl]
  rw [hl]
  dsimp only
  rw [if_pos rfl]
  unfold typeT
  rw [if_neg (by rintro (h | h); exact h (by rw [show kidsN sIsNull = some 1 by decide]; rfl); exact h.1 rfl)]
  dsimp only
  rw [if_pos rfl]
theorem type_two {cols : List W} {op : List UInt8} {a b : Nod} (hop : op ∈ [sAnd, sOr]) (h : (typeE cols a).2 = 0) (hk : truK (typeE cols a).1 = true) (g : (typeE cols b).2 = 0) (gk : truK (typeE cols b).1 = true) : typeE cols (.mk op [] [a, b]) = (1, 0) := by
  rw [typeE_mk]
  have hl : typeL cols [a, b] = ([(typeE cols a).1, (typeE cols b).1], 0) := by rw [typeL, if_pos h, typeL, if_pos g, typeL, if_pos rfl, if_pos rfl]
  rw [hl]
  dsimp only
  rw [if_pos rfl]
  unfold typeT
  have h2 : kidsN op = some 2 ∧ op ∉ sums ∧ op ∉ tests := by
    simp only [List.mem_cons, List.not_mem_nil, or_false] at hop
    rcases hop with rfl | rfl <;> decide
  rw [if_neg (by rintro (h | h); exact h h2.1; exact h.1 rfl)]
  dsimp only
  unfold twoT
  rw [if_neg (fun h => h2.2.1 h.1), if_neg (fun h => h2.2.2 h.1), if_pos ⟨hop, hk, gk⟩]
theorem val_one {cols : List W} {row : List CV} {op : List UInt8} {a : Nod} (hc : op ≠ sCol) (h : (valE cols row a).2 = 0) : valE cols row (.mk op [] [a]) = valT op (typeE cols (.mk op [] [a])).1 [(valE cols row a).1] := by
  rw [valE, if_neg hc, if_neg (by simp)]
  have hl : valL cols row [a] = ([(valE cols row a).1], 0) := by rw [valL, if_pos h, valL, if_pos rfl]
  rw [hl]
  dsimp only
  rw [if_pos rfl]
theorem val_two {cols : List W} {row : List CV} {op : List UInt8} {a b : Nod} (hc : op ≠ sCol) (h : (valE cols row a).2 = 0) (g : (valE cols row b).2 = 0) : valE cols row (.mk op [] [a, b]) = valT op (typeE cols (.mk op [] [a, b])).1 [(valE cols row a).1, (valE cols row b).1] := by
  rw [valE, if_neg hc, if_neg (by simp)]
  have hl : valL cols row [a, b] = ([(valE cols row a).1, (valE cols row b).1], 0) := by rw [valL, if_pos h, valL, if_pos g, valL, if_pos rfl, if_pos rfl]
  rw [hl]
  dsimp only
  rw [if_pos rfl]
/-- LOGIC, whole -/
theorem logic (cols : List W) (row : List CV) (a b : Nod) (ha : (holdsK cols row a).2 = 0) (hb : (holdsK cols row b).2 = 0) :
    (valueK cols row (notN (andN a b))).1 = (valueK cols row (orN (notN a) (notN b))).1 ∧ (valueK cols row (notN (andN a b))).2 = 0 ∧ (valueK cols row (orN (notN a) (notN b))).2 = 0 ∧
    (valueK cols row (notN (notN a))).1 = (valueK cols row a).1 ∧ (valueK cols row (notN (notN a))).2 = 0 ∧ (valueK cols row a).2 = 0 ∧ holdsK cols row (isN (isN a)) = (false, 0) := by
  obtain ⟨a1, a2, hf, a3, a4⟩ := holds_truth ha
  obtain ⟨b1, b2, _, b3, b4⟩ := holds_truth hb
  have one : truK 1 = true := by decide
  have tna := type_not a1 a2
  have tnb := type_not b1 b2
  have tnna := type_not (cols := cols) (a := notN a) (by rw [tna]) (by rw [tna]; exact one)
  have tand := type_two (cols := cols) (op := sAnd) (a := a) (b := b) (by decide) a1 a2 b1 b2
  have tor := type_two (cols := cols) (op := sOr) (a := notN a) (b := notN b) (by decide) (by rw [tna]) (by rw [tna]; exact one) (by rw [tnb]) (by rw [tnb]; exact one)
  have tnand := type_not (cols := cols) (a := andN a b) (by unfold andN; rw [tand]) (by unfold andN; rw [tand]; exact one)
  have tis := type_is (cols := cols) (a := a) a1
  have tisis := type_is (cols := cols) (a := isN a) (by rw [tis])
  have vna : valE cols row (notN a) = valT sNot 1 [(valE cols row a).1] := by have := val_one (cols := cols) (row := row) (op := sNot) (a := a) (by decide) a3; unfold notN at tna ⊢; rw [this, tna]
  have vnb : valE cols row (notN b) = valT sNot 1 [(valE cols row b).1] := by have := val_one (cols := cols) (row := row) (op := sNot) (a := b) (by decide) b3; unfold notN at tnb ⊢; rw [this, tnb]
  have vand : valE cols row (andN a b) = valT sAnd 1 [(valE cols row a).1, (valE cols row b).1] := by have := val_two (cols := cols) (row := row) (op := sAnd) (a := a) (b := b) (by decide) a3 b3; unfold andN; rw [this, tand]
  have vis : valE cols row (isN a) = valT sIsNull 1 [(valE cols row a).1] := by have := val_one (cols := cols) (row := row) (op := sIsNull) (a := a) (by decide) a3; unfold isN at tis ⊢; rw [this, tis]
  have cases3 : ∀ v, truth3 v → (valT sNot 1 [v]).2 = 0 := by
    rintro v (rfl | rfl | rfl) <;> decide +kernel
  have na0 : (valE cols row (notN a)).2 = 0 := by rw [vna]; exact cases3 _ a4
  have nb0 : (valE cols row (notN b)).2 = 0 := by rw [vnb]; exact cases3 _ b4
  have and0 : (valE cols row (andN a b)).2 = 0 := by rw [vand]; unfold valT; rw [if_neg (by decide), if_pos rfl]
  have is0 : (valE cols row (isN a)).2 = 0 := by rw [vis]; unfold valT; rw [if_pos rfl]
  have vnna : valE cols row (notN (notN a)) = valT sNot 1 [(valE cols row (notN a)).1] := by have := val_one (cols := cols) (row := row) (op := sNot) (a := notN a) (by decide) na0; unfold notN at tnna this ⊢; rw [this, tnna]
  have vor : valE cols row (orN (notN a) (notN b)) = valT sOr 1 [(valE cols row (notN a)).1, (valE cols row (notN b)).1] := by have := val_two (cols := cols) (row := row) (op := sOr) (a := notN a) (b := notN b) (by decide) na0 nb0; unfold orN; rw [this, tor]
  have vnand : valE cols row (notN (andN a b)) = valT sNot 1 [(valE cols row (andN a b)).1] := by have := val_one (cols := cols) (row := row) (op := sNot) (a := andN a b) (by decide) and0; unfold notN at tnand this ⊢; rw [this, tnand]
  have visis : valE cols row (isN (isN a)) = valT sIsNull 1 [(valE cols row (isN a)).1] := by have := val_one (cols := cols) (row := row) (op := sIsNull) (a := isN a) (by decide) is0; unfold isN at tisis this ⊢; rw [this, tisis]
  have hV : ∀ e : Nod, (typeE cols e).2 = 0 → valueK cols row e = valE cols row e := fun e h => by unfold valueK; rw [if_pos h, if_pos hf]
  rw [hV _ (by rw [tnand]), hV (orN (notN a) (notN b)) (by unfold orN; rw [tor]), hV _ (by rw [tnna]), hV _ a1, vnand, vand, vor, vnna, vna, vnb]
  have hH : holdsK cols row (isN (isN a)) = (decide ((valE cols row (isN (isN a))).1 = truV true), (valE cols row (isN (isN a))).2) := by
    unfold holdsK
    rw [if_neg (by rw [tisis]; rintro ⟨_, h⟩; exact absurd h (by decide)), hV _ (by rw [tisis])]
  rw [hH, visis, vis]
  generalize (valE cols row a).1 = u at a4
  generalize (valE cols row b).1 = v at b4
  rw [show (valE cols row a).2 = 0 from a3]
  rcases a4 with rfl | rfl | rfl <;> rcases b4 with rfl | rfl | rfl <;> decide +kernel
end Go.Proofs.Ytkibacolnagkcaa.Code
/-
  A node's value by its Kids' values, as the program tells it, in plain words.
-/
namespace Go.Proofs.Ytkibacolnagkcaa.Code
open Val
set_option linter.unusedVariables false
set_option linter.unusedSimpArgs false
theorem valL_len (cols : List W) (row : List CV) : ∀ l : List Nod, (valL cols row l).2 = 0 → (valL cols row l).1.length = l.length
  | [], _ => rfl
  | t :: l, h => by
    rw [valL] at h ⊢
    split at h
    · rename_i h1
      rw [if_pos h1]
      split at h
      · rename_i h2
        rw [if_pos h2]
        simp [valL_len cols row l h2]
      · rename_i h2
        exact absurd h h2
    · rename_i h1
      exact absurd h h1
theorem valE_mk (cols : List W) (row : List CV) (op tx : List UInt8) (ks : List Nod) : valE cols row (.mk op tx ks) = if op = sCol then (colV cols row tx, 0) else if ks.isEmpty = true then ((litL op tx).getD nulV, 0) else if (valL cols row ks).2 = 0 then valT op (typeE cols (.mk op tx ks)).1 (valL cols row ks).1 else (nulV, (valL cols row ks).2) := by rw [valE]
/-- what is known of a node with which nothing is wrong -/
structure Fine (cols : List W) (row : List CV) (op tx : List UInt8) (ks : List Nod) (k : Int) : Prop where
  hf : rowFits row (kindsC cols) = true
  hl : (typeL cols ks).2 = 0
  ht : typeT cols op tx (typeL cols ks).1 = (k, 0)
  hlen : (typeL cols ks).1.length = ks.length
  hk : kidsN op = some ks.length
theorem fine_of {cols : List W} {row : List CV} {op tx : List UInt8} {ks : List Nod} (hf : rowFits row (kindsC cols) = true) (h : (typeE cols (.mk op tx ks)).2 = 0) : Fine cols row op tx ks (typeE cols (.mk op tx ks)).1 := by
  rw [typeE_mk] at h ⊢
  split at h
  · rename_i hl
    rw [if_pos hl]
    have ht : typeT cols op tx (typeL cols ks).1 = ((typeT cols op tx (typeL cols ks).1).1, 0) := by rw [← h]
    have hlen := typeL_len cols ks hl
    exact ⟨hf, hl, ht, hlen, by rw [← hlen]; exact leaf_kids ht⟩
  · rename_i hl
    exact absurd h hl
theorem type_each {cols : List W} : ∀ {l : List Nod}, (typeL cols l).2 = 0 → ∀ (j : Nat) (h : j < l.length), (typeE cols l[j]).2 = 0
  | t :: l, h, 0, _ => by
    rw [typeL] at h
    split at h
    · assumption
    · rename_i h1
      exact absurd h h1
  | t :: l, h, j + 1, hj => by
    rw [typeL] at h
    split at h
    · split at h
      · rename_i h2
        exact type_each h2 j (by simp at hj; omega)
      · rename_i h2
        exact absurd h h2
    · rename_i h1
      exact absurd h h1
namespace Fine
variable {cols : List W} {row : List CV} {op tx : List UInt8} {ks : List Nod} {k : Int}
theorem goods (h : Fine cols row op tx ks k) (h0 : (valL cols row ks).2 = 0) : goodsV (typeL cols ks).1 (valL cols row ks).1 := by
  rcases valL_good cols row h.hf ks h.hl with h1 | h1
  · exact h1.2
  · rw [h0] at h1; exact absurd h1.1 (by decide)
theorem vlen (h : Fine cols row op tx ks k) (h0 : (valL cols row ks).2 = 0) : (valL cols row ks).1.length = ks.length := valL_len cols row ks h0
theorem nokids {o : List UInt8} (h : Fine cols row o tx ks k) (ho : kidsN o = some 0) : ks = [] := List.eq_nil_of_length_eq_zero (Option.some.inj (h.hk.symm.trans ho))
/-- an error of a Kid -/
theorem bad (h : Fine cols row op tx ks k) (h0 : (valL cols row ks).2 ≠ 0) : valE cols row (.mk op tx ks) = (nulV, (valL cols row ks).2) := by
  have hne : ks ≠ [] := by rintro rfl; exact h0 rfl
  rw [valE_mk, if_neg, if_neg (by simpa using hne), if_neg h0]
  rintro rfl
  exact hne (h.nokids kidsN_col)
theorem form (h : Fine cols row op tx ks k) : formB op tx (typeL cols ks).1.length = true := by
  have h1 := h.ht
  cases hb : formB op tx (typeL cols ks).1.length with
  | true => rfl
  | false => rw [type_bad hb] at h1; exact absurd (congrArg Prod.snd h1) (by show ¬ ((1 : Int) = 0); decide)
theorem lit (h : Fine cols row op tx ks k) (hop : op ∈ lits) : ks = [] ∧ valE cols row (.mk op tx ks) = litT op tx := by
  obtain ⟨h1, h2⟩ := type_lit (cols := cols) hop h.form
  have hks : ks = [] := List.eq_nil_of_length_eq_zero (by rw [← h.hlen, h1]; rfl)
  have hc : op ≠ sCol := by rintro rfl; exact absurd hop (by decide)
  refine ⟨hks, ?_⟩
  rw [valE_mk, if_neg hc, hks, if_pos (show ([] : List Nod).isEmpty = true from rfl)]
  have h3 := h.ht
  rw [h2] at h3
  have h4 : (litT op tx).2 = 0 := congrArg Prod.snd h3
  rw [show litT op tx = ((litT op tx).1, (litT op tx).2) from rfl, h4]
  rfl
theorem col (h : Fine cols row sCol tx ks k) : ∃ (i : Nat) (hi : i < cols.length) (hr : i < row.length), findZ cols tx = (i : Int) ∧ valE cols row (.mk sCol tx ks) = (row[i], 0) := by
  have hks := h.nokids kidsN_col
  have h3 := h.ht
  have hfm := h.form
  subst hks
  rw [show (typeL cols []).1 = [] from rfl] at h3 hfm
  rw [type_col hfm] at h3
  by_cases hz : findZ cols tx < 0
  · rw [colK_none hz] at h3
    exact absurd (congrArg Prod.snd h3) (by show ¬ ((121 : Int) = 0); decide)
  · obtain ⟨i, hi, h4, h5, h6⟩ := colK_some hz
    have hrl := fits_len h.hf
    have hkl : (kindsC cols).length = cols.length := List.length_map ..
    refine ⟨i, hi, by omega, h4, ?_⟩
    rw [valE_mk, if_pos rfl]
    unfold colV
    rw [h5]
    dsimp only
    rw [List.getD_eq_getElem?_getD, List.getElem?_eq_getElem (show i < row.length by omega)]
    rfl
theorem inner {o : List UInt8} {m : Nat} (h : Fine cols row o tx ks k) (ho : kidsN o = some (m + 1)) (hc : o ≠ sCol) (h0 : (valL cols row ks).2 = 0) : valE cols row (.mk o tx ks) = valT o k (valL cols row ks).1 := by
  have hl : ks.length = m + 1 := Option.some.inj (h.hk.symm.trans ho)
  have hne : ks ≠ [] := by rintro rfl; cases hl
  rw [valE_mk, if_neg hc, if_neg (by simpa using hne), if_pos h0]
  have h1 : (typeE cols (.mk o tx ks)).1 = k := by rw [typeE_mk, if_pos h.hl, h.ht]
  rw [h1]
theorem oneK {o : List UInt8} (h : Fine cols row o tx ks k) (ho : kidsN o = some 1) (h0 : (valL cols row ks).2 = 0) : ∃ (c : Int) (a : CV), (typeL cols ks).1 = [c] ∧ (valL cols row ks).1 = [a] ∧ goodV c a := by
  have hl : ks.length = 1 := Option.some.inj (h.hk.symm.trans ho)
  have hg := h.goods h0
  have h1 := h.hlen
  have h2 := h.vlen h0
  obtain ⟨c, hc⟩ := kone_of (h1.trans hl)
  match hv : (valL cols row ks).1, h2.trans hl with
  | [a], _ =>
    rw [hc, hv] at hg
    exact ⟨c, a, hc, rfl, hg.1⟩
theorem twoK {o : List UInt8} (h : Fine cols row o tx ks k) (ho : kidsN o = some 2) (h0 : (valL cols row ks).2 = 0) : ∃ (c d : Int) (a b : CV), (typeL cols ks).1 = [c, d] ∧ (valL cols row ks).1 = [a, b] ∧ goodV c a ∧ goodV d b := by
  have hl : ks.length = 2 := Option.some.inj (h.hk.symm.trans ho)
  have hg := h.goods h0
  have h1 := h.hlen
  have h2 := h.vlen h0
  obtain ⟨c, d, hc⟩ := ktwo_of (h1.trans hl)
  match hv : (valL cols row ks).1, h2.trans hl with
  | [a, b], _ =>
    rw [hc, hv] at hg
    exact ⟨c, d, a, b, hc, rfl, hg.1, hg.2.1⟩
theorem isnull (h : Fine cols row sIsNull tx ks k) (h0 : (valL cols row ks).2 = 0) : ∃ a, (valL cols row ks).1 = [a] ∧ valE cols row (.mk sIsNull tx ks) = (truV (a.1 == 0), 0) := by
  obtain ⟨c, a, _, hv, _⟩ := h.oneK (by decide) h0
  refine ⟨a, hv, ?_⟩
  rw [h.inner (m := 0) (by decide) (by decide) h0, hv]
  unfold valT
  rw [if_pos rfl]
  rfl
theorem logic {o : List UInt8} {d : Bool} (h : Fine cols row o tx ks k) (ho : (o = sAnd ∧ d = false) ∨ (o = sOr ∧ d = true)) (h0 : (valL cols row ks).2 = 0) : valE cols row (.mk o tx ks) = (decV d (valL cols row ks).1, 0) := by
  have hop : kidsN o = some 2 ∧ o ≠ sCol := by rcases ho with ⟨rfl, -⟩ | ⟨rfl, -⟩ <;> decide
  obtain ⟨c1, d1, a, b, _, hv, _, _⟩ := h.twoK hop.1 h0
  rw [h.inner (m := 1) hop.1 hop.2 h0, hv]
  have e : valT o k [a, b] = (logV d a b, 0) := by
    rcases ho with ⟨rfl, rfl⟩ | ⟨rfl, rfl⟩
    · unfold valT; rw [if_neg (by decide), if_pos rfl]; rfl
    · unfold valT; rw [if_neg (by decide), if_neg (by decide), if_pos rfl]; rfl
  rw [e]
  unfold logV decV
  simp
/-- an Op that wants its Kids not to be null -/
def strict (o : List UInt8) : Prop := o ≠ sCol ∧ o ≠ sIsNull ∧ o ≠ sAnd ∧ o ≠ sOr ∧ (kidsN o = some 1 ∨ kidsN o = some 2)
theorem strict_inner {o : List UInt8} (h : Fine cols row o tx ks k) (ho : strict o) (h0 : (valL cols row ks).2 = 0) : valE cols row (.mk o tx ks) = valT o k (valL cols row ks).1 := by
  rcases ho.2.2.2.2 with h1 | h1
  · exact h.inner (m := 0) h1 ho.1 h0
  · exact h.inner (m := 1) h1 ho.1 h0
theorem null {o : List UInt8} (h : Fine cols row o tx ks k) (ho : strict o) (h0 : (valL cols row ks).2 = 0) (hn : ((valL cols row ks).1.any fun v => v.1 == 0) = true) : valE cols row (.mk o tx ks) = (nulV, 0) := by
  rw [h.strict_inner ho h0]
  unfold valT
  rw [if_neg ho.2.1, if_neg ho.2.2.1, if_neg ho.2.2.2.1, if_pos hn]
theorem good_some {c : Int} {a : CV} (h : goodV c a) (hn : (a.1 == 0) = false) : a.1 = c ∧ 1 ≤ c ∧ rightB a.1 a.2.1 a.2.2 = true := by
  rcases h with rfl | h
  · cases hn
  · exact h
theorem num_val {c : Int} {a : CV} (h : goodV c a) (hc : numK c = true) (hn : (a.1 == 0) = false) : a.1 = c ∧ (c = 2 ∨ c = 3) ∧ a.2.2 = ⟨#[]⟩ := by
  obtain ⟨h1, h2, h3⟩ := good_some h hn
  have hcs : c = 2 ∨ c = 3 := by rcases numK_cases hc with rfl | rfl | rfl <;> first | (exact .inl rfl) | (exact .inr rfl) | (exact absurd h2 (by decide))
  rw [h1] at h3
  obtain ⟨x, n, s⟩ := a
  dsimp only at h1 h3 ⊢
  unfold rightB at h3
  rw [if_neg (by omega), if_neg (by omega), Bool.and_eq_true, decide_eq_true_eq] at h3
  exact ⟨h1, hcs, size0 h3.1⟩
theorem not (h : Fine cols row sNot tx ks k) (h0 : (valL cols row ks).2 = 0) (hn : ((valL cols row ks).1.any fun v => v.1 == 0) = false) : ∃ b : Bool, (valL cols row ks).1 = [truV b] ∧ valE cols row (.mk sNot tx ks) = (truV (!b), 0) := by
  obtain ⟨c, a, hc, hv, hg⟩ := h.oneK (by decide) h0
  have ht := h.ht
  have hfm := h.form
  rw [hc] at ht hfm
  rw [(type_log (cols := cols) (.inl rfl) hfm).1] at ht
  have hct : truK c = true := by
    cases h9 : truK c with
    | true => rfl
    | false => rw [if_neg (by simp [h9])] at ht; exact absurd (congrArg Prod.snd ht) (by show ¬ ((131 : Int) = 0); decide)
  rw [hv] at hn
  obtain ⟨h1, h2, h3⟩ := good_some hg (by simpa using hn)
  have hc1 : c = 1 := by rcases truK_cases hct with rfl | rfl; exact absurd h2 (by decide); rfl
  rw [hc1] at h1
  have h4 := truth_one h1 h3
  have hnn : (a.1 == 0) = false := by rw [h1]; rfl
  rcases h4 with rfl | rfl | rfl
  · cases hnn
  · refine ⟨true, hv, ?_⟩
    rw [h.inner (m := 0) (by decide) (by decide) h0, hv]
    unfold valT
    rw [if_neg (by decide), if_neg (by decide), if_neg (by decide), if_neg (by decide), if_pos rfl]
    rfl
  · refine ⟨false, hv, ?_⟩
    rw [h.inner (m := 0) (by decide) (by decide) h0, hv]
    unfold valT
    rw [if_neg (by decide), if_neg (by decide), if_neg (by decide), if_neg (by decide), if_pos rfl]
    rfl
theorem neg (h : Fine cols row sNeg tx ks k) (h0 : (valL cols row ks).2 = 0) (hn : ((valL cols row ks).1.any fun v => v.1 == 0) = false) : ∃ a : CV, (valL cols row ks).1 = [a] ∧ (a.1 = 2 ∨ a.1 = 3) ∧ valE cols row (.mk sNeg tx ks) = sumV a.1 (0 - a.2.1) := by
  obtain ⟨c, a, hc, hv, hg⟩ := h.oneK (by decide) h0
  have ht := h.ht
  have hfm := h.form
  rw [hc] at ht hfm
  rw [type_num (cols := cols) (.inl rfl) hfm] at ht
  have hct : numK c = true := by
    cases h9 : numK c with
    | true => rfl
    | false => rw [if_neg (by simp [h9]), if_neg (by simp [h9])] at ht; exact absurd (congrArg Prod.snd ht) (by show ¬ ((131 : Int) = 0); decide)
  have hk1 : k = c := by
    rw [if_pos (by simp [hct]), widest_one hct] at ht
    exact (congrArg Prod.fst ht).symm
  have hn' := hn
  rw [hv] at hn
  obtain ⟨h1, h2, h3⟩ := num_val hg hct (by simpa using hn)
  refine ⟨a, hv, by rw [h1]; exact h2, ?_⟩
  rw [h.inner (m := 0) (by decide) (by decide) h0]
  unfold valT
  rw [hn', if_neg (by decide), if_neg (by decide), if_neg (by decide), if_neg (by decide), if_neg (by decide), if_pos rfl, hv, h1, hk1]
  rfl
theorem sum {o : List UInt8} (ho : o ∈ sums) (h : Fine cols row o tx ks k) (h0 : (valL cols row ks).2 = 0) (hn : ((valL cols row ks).1.any fun v => v.1 == 0) = false) : ∃ a b : CV, (valL cols row ks).1 = [a, b] ∧ (k = 2 ∨ k = 3) ∧ widestK [a.1, b.1] = k ∧ valE cols row (.mk o tx ks) = sumV k (sumN o a.2.1 b.2.1) := by
  have h2k : kidsN o = some 2 := by
    simp only [sums, List.mem_cons, List.not_mem_nil, or_false] at ho
    rcases ho with rfl | rfl | rfl <;> decide
  obtain ⟨d1, d2, d3, d4, d5, d6, d7, d8⟩ := sums_apart o ho
  obtain ⟨c, d, a, b, hc, hv, hga, hgb⟩ := h.twoK h2k h0
  have ht := h.ht
  have hfm := h.form
  rw [hc] at ht hfm
  rw [type_num (cols := cols) (.inr ho) hfm] at ht
  have hct : [c, d].all numK = true := by
    cases h9 : [c, d].all numK with
    | true => rfl
    | false => rw [if_neg (by rw [h9]; decide), if_neg (by rw [h9]; decide)] at ht; exact absurd (congrArg Prod.snd ht) (by show ¬ ((131 : Int) = 0); decide)
  rw [if_pos hct] at ht
  have hk1 : widestK [c, d] = k := congrArg Prod.fst ht
  simp only [List.all_cons, List.all_nil, Bool.and_true, Bool.and_eq_true] at hct
  have hn' := hn
  rw [hv] at hn
  simp only [List.any_cons, List.any_nil, Bool.or_false, Bool.or_eq_false_iff] at hn
  obtain ⟨a1, a2, a3⟩ := num_val hga hct.1 hn.1
  obtain ⟨b1, b2, b3⟩ := num_val hgb hct.2 hn.2
  refine ⟨a, b, hv, ?_, by rw [a1, b1]; exact hk1, ?_⟩
  · rw [← hk1, widest_two hct.1 hct.2]
    split <;> assumption
  · rw [h.inner (m := 1) h2k d8 h0]
    unfold valT
    rw [hn', if_neg d3, if_neg d4, if_neg d5, if_neg (by decide), if_neg d6, if_neg d7, if_neg d1, hv]
    rfl
theorem cmp_num {k n m : Int} : cmpV k n ⟨#[]⟩ k m ⟨#[]⟩ = cmpI n m := by
  unfold cmpV orI
  rw [show cmpI k k = 0 by unfold cmpI; rw [if_neg (by omega), if_neg (by omega)]]
  rw [if_neg (by decide)]
  split
  · rfl
  · rename_i h
    have : cmpI n m = 0 := by omega
    rw [this]
    decide
theorem cmp_is {c d : Int} {a b : CV} (hga : goodV c a) (hgb : goodV d b) (ha : (a.1 == 0) = false) (hb : (b.1 == 0) = false) (hcd : c = d ∨ (numK c = true ∧ numK d = true)) : cmpV a.1 a.2.1 a.2.2 a.1 b.2.1 b.2.2 = cmpT a b := by
  have hnum : ∀ (x y : CV), x.2.2 = ⟨#[]⟩ → y.2.2 = ⟨#[]⟩ → cmpV x.1 x.2.1 x.2.2 x.1 y.2.1 y.2.2 = cmpT x y := by
    intro x y hx hy
    rw [hx, hy, cmp_num]
    unfold cmpI cmpT
    rw [hx, hy]
    have hl : Op.bytesLess (ByteArray.data ⟨#[]⟩).toList (ByteArray.data ⟨#[]⟩).toList = false := rfl
    rw [hl]
    simp
  by_cases hnn : numK c = true ∧ numK d = true
  · exact hnum a b (num_val hga hnn.1 ha).2.2 (num_val hgb hnn.2 hb).2.2
  · have hcd2 : c = d := hcd.resolve_right hnn
    subst hcd2
    obtain ⟨a1, a2, a3⟩ := good_some hga ha
    obtain ⟨b1, b2, b3⟩ := good_some hgb hb
    rw [a1] at a3
    rw [b1] at b3
    by_cases h4 : c = 4
    · subst h4
      unfold rightB at a3 b3
      rw [if_pos rfl, decide_eq_true_eq] at a3 b3
      rw [a1, a3.1, b3.1]
      unfold cmpV orI cmpT
      rw [show cmpI (4 : Int) 4 = 0 by decide, show cmpI (0 : Int) 0 = 0 by decide, if_neg (by decide), if_neg (by decide), a3.1, b3.1, less_cmp, less_cmp]
      have hneg := cb_neg a.2.2.data.toList b.2.2.data.toList
      rw [hneg]
      rcases cb_range a.2.2.data.toList b.2.2.data.toList with h | h | h <;> rw [h] <;> decide
    · refine hnum a b ?_ ?_
      · unfold rightB at a3
        rw [if_neg h4, if_neg (by omega), Bool.and_eq_true, decide_eq_true_eq] at a3
        exact size0 a3.1
      · unfold rightB at b3
        rw [if_neg h4, if_neg (by omega), Bool.and_eq_true, decide_eq_true_eq] at b3
        exact size0 b3.1
theorem test {o : List UInt8} (ho : o ∈ tests) (h : Fine cols row o tx ks k) (h0 : (valL cols row ks).2 = 0) (hn : ((valL cols row ks).1.any fun v => v.1 == 0) = false) : ∃ a b : CV, (valL cols row ks).1 = [a, b] ∧ valE cols row (.mk o tx ks) = (truV (testC o (cmpV a.1 a.2.1 a.2.2 a.1 b.2.1 b.2.2)), 0) := by
  have h2k : kidsN o = some 2 := by
    simp only [tests, List.mem_cons, List.not_mem_nil, or_false] at ho
    rcases ho with rfl | rfl | rfl | rfl | rfl | rfl <;> decide
  obtain ⟨d1, d2, d3, d4, d5, d6, d7, d8⟩ := tests_apart o ho
  obtain ⟨c, d, a, b, hc, hv, hga, hgb⟩ := h.twoK h2k h0
  have ht := h.ht
  have hfm := h.form
  rw [hc] at ht hfm
  rw [type_test (cols := cols) ho hfm] at ht
  have hct : alikeK [c, d] = true := by
    cases h9 : alikeK [c, d] with
    | true => rfl
    | false => rw [if_neg (by rw [h9]; decide)] at ht; exact absurd (congrArg Prod.snd ht) (by show ¬ ((131 : Int) = 0); decide)
  have hn' := hn
  rw [hv] at hn
  simp only [List.any_cons, List.any_nil, Bool.or_false, Bool.or_eq_false_iff] at hn
  refine ⟨a, b, hv, ?_⟩
  rw [h.inner (m := 1) h2k d8 h0]
  unfold valT
  rw [hn', if_neg d3, if_neg d4, if_neg d5, if_neg (by decide), if_neg d6, if_neg d7, if_pos ho, hv]
  show (truV (testB o a b), (0 : Int)) = _
  rw [testB_c, cmp_is hga hgb hn.1 hn.2 ?_]
  obtain ⟨e1, e2, _⟩ := good_some hga hn.1
  obtain ⟨e3, e4, _⟩ := good_some hgb hn.2
  unfold alikeK at hct
  simp only [List.any_cons, List.any_nil, List.all_cons, List.all_nil, Bool.or_eq_true, Bool.and_eq_true, beq_iff_eq, List.getD_cons_zero, Bool.or_false, Bool.and_true] at hct
  rcases hct with (h9 | h9) | h9
  · rcases h9 with h9 | h9 <;> omega
  · exact .inr h9
  · exact .inl h9.2.symm
end Fine
theorem zero_fits : Val.fits (0 : Int) := ⟨by decide, by decide⟩
theorem sumV_fits (k x : Int) : Val.fits (sumV k x).1.2.1 := by
  unfold sumV
  split
  · rename_i h; exact h.1
  · exact ⟨by decide, by decide⟩
theorem truV_fits (b : Bool) : Val.fits (truV b).2.1 := by cases b <;> exact ⟨by decide, by decide⟩
theorem valT_fits (op : List UInt8) (k : Int) (l : List CV) : Val.fits (valT op k l).1.2.1 := by
  have hl : ∀ d a b, Val.fits (logV d a b).2.1 := by
    intro d a b
    unfold logV
    split
    · exact truV_fits _
    · split
      · exact ⟨by decide, by decide⟩
      · exact truV_fits _
  unfold valT
  repeat' split
  all_goals first | exact truV_fits _ | exact hl _ _ _ | exact sumV_fits _ _ | exact ⟨by decide, by decide⟩
theorem litL_fits {op tx : List UInt8} : Val.fits ((litL op tx).getD nulV).2.1 := by
  unfold litL
  split
  · cases ha : amountL tx with
    | none => exact ⟨by decide, by decide⟩
    | some n =>
      have := amount_pos ha
      show Val.fits (if n ≤ 2147483647 then ((2 : Int), n, (⟨#[]⟩ : ByteArray)) else (3, n, ⟨#[]⟩)).2.1
      unfold Val.fits
      split <;> (dsimp only; omega)
  · repeat' split
    all_goals first | exact truV_fits _ | exact ⟨by decide, by decide⟩ | (show Val.fits (0 : Int); exact ⟨by decide, by decide⟩)
theorem valE_fits (cols : List W) (row : List CV) (hr : FitL row) : ∀ e : Nod, Val.fits (valE cols row e).1.2.1
  | .mk op tx ks => by
    rw [valE_mk]
    split
    · show Val.fits (colV cols row tx).2.1
      unfold colV
      cases findC cols tx with
      | none => exact zero_fits
      | some i =>
        dsimp only
        by_cases hi : i < row.length
        · rw [List.getD_eq_getElem?_getD, List.getElem?_eq_getElem hi]
          exact (hr _ (List.getElem_mem hi))
        · rw [List.getD_eq_getElem?_getD, List.getElem?_eq_none (by omega)]
          exact zero_fits
    · split
      · exact litL_fits
      · split
        · exact valT_fits _ _ _
        · exact zero_fits
theorem valL_fits (cols : List W) (row : List CV) (hr : FitL row) : ∀ (l : List Nod), ∀ v ∈ (valL cols row l).1, Val.fits v.2.1
  | [], v, h => by cases h
  | t :: l, v, h => by
    rw [valL] at h
    split at h
    · split at h
      · rcases List.mem_cons.1 h with rfl | h
        · exact valE_fits cols row hr t
        · exact valL_fits cols row hr l v h
      · cases h
    · cases h
end Go.Proofs.Ytkibacolnagkcaa.Code
