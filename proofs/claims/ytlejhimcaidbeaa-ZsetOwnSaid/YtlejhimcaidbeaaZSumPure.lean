/-
  What the runs of sorted items say, in plain words: each row once, rising, with its weight; so the program's sum is the document's.
-/
import Derived.Test.YtlejhimcaidbeaaZSum
namespace Go.Proofs.Ytlejhimcaidbeaa.Items
open Go.ChangeShapes Go.WideShapes Go.ChangeAt Go.RowKit Val Go.Proofs.Ytlejhimcaidbeaa.Code Go.Proofs.Ytlejhimcaidbeaa.Elems Go.Proofs.Ytlejhimcaidbeaa.ZP Go.Proofs.Ytlejhimcaidbeaa.Bits Go.Proofs.Ytlejhimcaidbeaa.Range
set_option linter.unusedVariables false

theorem sameR_iff (r : List (Int × Int × ByteArray)) (y : It) : sameR r y = true ↔ y.2.2.1 = r := by
  unfold sameR
  rw [beq_iff_eq]
  exact ⟨fun h => cmpL_zero h, fun h => by rw [h, cmpL_self]⟩
theorem weight_perm {a b : List (List (Int × Int × ByteArray) × Int)} (h : a.Perm b) (r : List (Int × Int × ByteArray)) : weightP a r = weightP b r := by
  induction h with
  | nil => rfl
  | cons x _ ih => rw [weightP, weightP, ih]
  | swap x y l => simp only [weightP]; omega
  | trans _ _ h1 h2 => rw [h1, h2]
theorem weight_all {r : List (Int × Int × ByteArray)} : ∀ {l : List (List (Int × Int × ByteArray) × Int)}, (∀ x ∈ l, x.1 = r) → weightP l r = totalP l
  | [], _ => rfl
  | x :: l, h => by
    rw [weightP, totalP, if_pos (h x (by simp)), weight_all fun y hy => h y (by simp [hy])]
/-- rows do not fall -/
def Grows (M : List It) : Prop := M.Pairwise fun a b => cmpL b.2.2.1 a.2.2.1 ≠ -1
/-- behind a run every row is greater -/
theorem drop_greater {z : It} {l : List It} (h : Grows (z :: l)) : ∀ d ∈ List.dropWhile (sameR z.2.2.1) (z :: l), cmpL z.2.2.1 d.2.2.1 = -1 := by
  intro d hd
  have hsuf := List.dropWhile_suffix (sameR z.2.2.1) (l := z :: l)
  have hp := List.Pairwise.sublist hsuf.sublist h
  have hall : ∀ d ∈ z :: l, cmpL d.2.2.1 z.2.2.1 ≠ -1 := by
    intro d hd
    rcases List.mem_cons.1 hd with rfl | hd
    · rw [cmpL_self]; decide
    · exact (List.pairwise_cons.1 h).1 d hd
  cases hD : List.dropWhile (sameR z.2.2.1) (z :: l) with
  | nil => rw [hD] at hd; cases hd
  | cons e D =>
    have he : sameR z.2.2.1 e = false := by
      have := List.head_dropWhile_not (sameR z.2.2.1) (l := z :: l) (by rw [hD]; simp)
      simpa [hD] using this
    have hez : cmpL z.2.2.1 e.2.2.1 = -1 := by
      rcases lt_cases z.2.2.1 e.2.2.1 with g | g | g
      · exact g
      · rw [(sameR_iff _ _).2 g.symm] at he; cases he
      · exact absurd g (hall e (hsuf.subset (by rw [hD]; simp)))
    rw [hD] at hd hp
    rcases List.mem_cons.1 hd with rfl | hd
    · exact hez
    · have h1 := (List.pairwise_cons.1 hp).1 d hd
      rcases lt_cases e.2.2.1 d.2.2.1 with g | g | g
      · exact cmpL_lt_trans hez g
      · rw [← g]; exact hez
      · exact absurd g h1
theorem groups_facts : ∀ (n : Nat) (M : List It), M.length ≤ n → Grows M →
    (groupsI n M).Pairwise (fun a b => cmpL a.2.2.1 b.2.2.1 = -1) ∧ (∀ x ∈ groupsI n M, x.2.2.2 = weightP (pl M) x.2.2.1) ∧ (∀ y ∈ M, ∃ x ∈ groupsI n M, x.2.2.1 = y.2.2.1)
  | 0, M, h, _ => by
    have : M = [] := List.eq_nil_of_length_eq_zero (by omega)
    subst this
    exact ⟨List.Pairwise.nil, (fun x hx => by cases hx), (fun y hy => by cases hy)⟩
  | n + 1, [], _, _ => ⟨List.Pairwise.nil, (fun x hx => by cases hx), (fun y hy => by cases hy)⟩
  | n + 1, z :: l, h, hg => by
    have hsuf := List.dropWhile_suffix (sameR z.2.2.1) (l := z :: l)
    have hgt := drop_greater hg
    have hlen := drop_shorter z l
    obtain ⟨h1, h2, h3⟩ := groups_facts n (List.dropWhile (sameR z.2.2.1) (z :: l)) (by omega) (List.Pairwise.sublist hsuf.sublist hg)
    have hsplit : List.takeWhile (sameR z.2.2.1) (z :: l) ++ List.dropWhile (sameR z.2.2.1) (z :: l) = z :: l := List.takeWhile_append_dropWhile
    have hT : ∀ y ∈ List.takeWhile (sameR z.2.2.1) (z :: l), y.2.2.1 = z.2.2.1 := fun y hy => (sameR_iff _ _).1 (List.all_eq_true.1 (List.all_takeWhile (p := sameR z.2.2.1) (l := z :: l)) y hy)
    have hw : ∀ r, weightP (pl (z :: l)) r = weightP (pl (List.takeWhile (sameR z.2.2.1) (z :: l))) r + weightP (pl (List.dropWhile (sameR z.2.2.1) (z :: l))) r := by
      intro r
      conv => lhs; rw [← hsplit]
      rw [pl_append, weightP_append]
    have hrow : ∀ x ∈ groupsI n (List.dropWhile (sameR z.2.2.1) (z :: l)), cmpL z.2.2.1 x.2.2.1 = -1 := by
      intro x hx
      obtain ⟨y, hy, _, _, e⟩ := groups_mem _ _ x hx
      rw [← e]
      exact hgt y hy
    rw [groupsI]
    refine ⟨List.pairwise_cons.2 ⟨hrow, h1⟩, ?_, ?_⟩
    · intro x hx
      rcases List.mem_cons.1 hx with rfl | hx
      · show totalP _ = weightP (pl (z :: l)) z.2.2.1
        rw [hw, weight_all (fun y hy => by obtain ⟨u, hu, rfl⟩ := List.mem_map.1 hy; exact hT u hu), weightP_out (fun y hy e => by
          obtain ⟨u, hu, rfl⟩ := List.mem_map.1 hy
          have h5 := hgt u hu
          rw [show u.2.2.1 = z.2.2.1 from e] at h5
          exact lt_irrefl h5)]
        omega
      · rw [hw, h2 x hx, weightP_out (l := pl (List.takeWhile (sameR z.2.2.1) (z :: l))) (fun y hy e => by
          obtain ⟨u, hu, rfl⟩ := List.mem_map.1 hy
          have h5 := hrow x hx
          rw [← hT u hu, show u.2.2.1 = x.2.2.1 from e] at h5
          exact lt_irrefl h5)]
        omega
    · intro y hy
      rw [← hsplit] at hy
      rcases List.mem_append.1 hy with hy | hy
      · exact ⟨_, List.mem_cons_self .., (hT y hy).symm⟩
      · obtain ⟨x, hx, e⟩ := h3 y hy
        exact ⟨x, List.mem_cons_of_mem _ hx, e⟩
theorem rising_weight : ∀ {S : List (List (Int × Int × ByteArray) × Int)}, Rising S → ∀ x ∈ S, weightP S x.1 = x.2
  | y :: S, h, x, hx => by
    obtain ⟨h1, h2⟩ := List.pairwise_cons.1 h
    rcases List.mem_cons.1 hx with rfl | hx
    · rw [weightP, if_pos rfl, weightP_out (fun z hz e => by have := h1 z hz; rw [e] at this; exact lt_irrefl this)]
      omega
    · have := h1 x hx
      rw [weightP, if_neg (fun e => by rw [e] at this; exact lt_irrefl this), rising_weight h2 x hx]
      omega
theorem groups_rising {n : Nat} {M : List It} (hn : M.length ≤ n) (hg : Grows M) : Rising (pl (groupsI n M)) := by
  unfold Rising pl
  rw [List.pairwise_map]
  exact (groups_facts n M hn hg).1
theorem groups_weight {n : Nat} {M : List It} (hn : M.length ≤ n) (hg : Grows M) (r : List (Int × Int × ByteArray)) : weightP (pl (groupsI n M)) r = weightP (pl M) r := by
  obtain ⟨_, h2, h3⟩ := groups_facts n M hn hg
  by_cases h : ∃ x ∈ groupsI n M, x.2.2.1 = r
  · obtain ⟨x, hx, rfl⟩ := h
    have := rising_weight (groups_rising hn hg) (pu x) (List.mem_map.2 ⟨x, hx, rfl⟩)
    simp only [pu] at this
    rw [this, h2 x hx]
  · rw [weightP_out (fun y hy e => by obtain ⟨u, hu, rfl⟩ := List.mem_map.1 hy; exact h ⟨u, hu, e⟩), weightP_out (fun y hy e => by
      obtain ⟨u, hu, rfl⟩ := List.mem_map.1 hy
      obtain ⟨x, hx, e2⟩ := h3 u hu
      exact h ⟨x, hx, e2.trans e⟩)]
/-- what is kept, once each weight is in 64 bits -/
theorem keep_weight (tf : Int → Int) (r : List (Int × Int × ByteArray)) : ∀ gs : List It, (∀ x ∈ gs, Wide.intV (tf x.2.2.2) = tf x.2.2.2) → weightP (keepG tf gs) r = weightP (gs.map fun x => (x.2.2.1, tf x.2.2.2)) r
  | [], _ => rfl
  | x :: gs, h => by
    have ih := keep_weight tf r gs fun y hy => h y (by simp [hy])
    have hx := h x (by simp)
    rw [List.map_cons, weightP, ← ih, keepG, List.filterMap_cons, hx]
    by_cases h0 : tf x.2.2.2 = 0
    · rw [if_pos h0, h0]
      show weightP (keepG tf gs) r = _
      simp
    · rw [if_neg h0]
      show weightP ((x.2.2.1, tf x.2.2.2) :: keepG tf gs) r = _
      rw [weightP]
theorem keep_set (tf : Int → Int) {n : Nat} {M : List It} (hn : M.length ≤ n) (hg : Grows M) (h : ∀ x ∈ groupsI n M, Wide.intV (tf x.2.2.2) = tf x.2.2.2) : IsSet (keepG tf (groupsI n M)) := by
  refine ⟨?_, ?_⟩
  · unfold Rising keepG
    rw [List.pairwise_filterMap]
    refine (groups_facts n M hn hg).1.imp fun {a b} hab => ?_
    intro u hu v hv
    split at hu
    · cases hu
    · split at hv
      · cases hv
      · cases hu
        cases hv
        exact hab
  · intro u hu
    obtain ⟨x, hx, e⟩ := List.mem_filterMap.1 hu
    split at e
    · cases e
    · rename_i hne
      cases e
      exact hne
theorem int_in {n : Int} (h : -40564819207303340847894502572032 ≤ n ∧ n ≤ 40564819207303340847894502572032) : Wide.intE n = (if -9223372036854775808 ≤ n ∧ n ≤ 9223372036854775807 then 0 else 11) ∧ Wide.intV n = (if -9223372036854775808 ≤ n ∧ n ≤ 9223372036854775807 then n else 0) := by
  unfold Wide.intE Wide.intV
  rw [Wide.sn_in (by omega)]
  exact ⟨rfl, rfl⟩
theorem fits_of {L : List It} (h : FitI L) : ∀ x ∈ pl L, fits x.2 := by
  intro x hx
  obtain ⟨y, hy, rfl⟩ := List.mem_map.1 hx
  exact (h y hy).2
theorem weight_in {L : List It} (hF : FitI L) (hl : L.length ≤ 4398046511104) (r : List (Int × Int × ByteArray)) : -40564819207303340847894502572032 ≤ weightP (pl L) r ∧ weightP (pl L) r ≤ 40564819207303340847894502572032 := by
  have h := weight_bound r (pl L) (fits_of hF)
  rw [pl_length] at h
  omega
theorem okG_iff (tf : Int → Int) {n : Nat} {M : List It} (hn : M.length ≤ n) (hg : Grows M) (hF : FitI M) (hl : M.length ≤ 4398046511104) (ht : ∀ n, tf n = n ∨ tf n = -n) :
    okG tf (groupsI n M) = true ↔ ∀ y ∈ M, -9223372036854775808 ≤ tf (weightP (pl M) y.2.2.1) ∧ tf (weightP (pl M) y.2.2.1) ≤ 9223372036854775807 := by
  obtain ⟨_, h2, h3⟩ := groups_facts n M hn hg
  have hb : ∀ x ∈ groupsI n M, Wide.intE (tf x.2.2.2) = 0 ↔ -9223372036854775808 ≤ tf (weightP (pl M) x.2.2.1) ∧ tf (weightP (pl M) x.2.2.1) ≤ 9223372036854775807 := by
    intro x hx
    have h4 := weight_in hF hl x.2.2.1
    rw [h2 x hx, (int_in (n := tf (weightP (pl M) x.2.2.1)) (by rcases ht (weightP (pl M) x.2.2.1) with e | e <;> rw [e] <;> omega)).1]
    split <;> simp_all
  unfold okG
  rw [List.all_eq_true]
  constructor
  · intro h y hy
    obtain ⟨x, hx, e⟩ := h3 y hy
    rw [← e]
    exact (hb x hx).1 (by simpa using h x hx)
  · intro h x hx
    obtain ⟨y, hy, _, _, e⟩ := groups_mem n M x hx
    have := h y hy
    rw [e] at this
    simpa using (hb x hx).2 this
theorem keep_is (tf : Int → Int) {n : Nat} {M : List It} (hn : M.length ≤ n) (hg : Grows M) (hF : FitI M) (hl : M.length ≤ 4398046511104) (ht : ∀ n, tf n = n ∨ tf n = -n) (hok : okG tf (groupsI n M) = true) :
    ∀ x ∈ groupsI n M, Wide.intV (tf x.2.2.2) = tf x.2.2.2 := by
  intro x hx
  have h1 := (okG_iff tf hn hg hF hl ht).1 hok
  obtain ⟨y, hy, _, _, e⟩ := groups_mem n M x hx
  have h4 := h1 y hy
  rw [e, ← (groups_facts n M hn hg).2.1 x hx] at h4
  rw [(int_in (n := tf x.2.2.2) (by omega)).2, if_pos h4]
/-- THE PROGRAM's SUM IS THE DOCUMENT's -/
theorem sum_is {L M : List It} (hp : M.Perm L) (hg : Grows M) (hF : FitI L) (hl : L.length ≤ 4398046511104) : sumQ id L M = pl (ofL L) ∧ sumE id L M = ofE L := by
  have hFM : FitI M := fun x hx => hF x (hp.mem_iff.1 hx)
  have hlM : M.length ≤ 4398046511104 := by rw [hp.length_eq]; exact hl
  have hw : ∀ r, weightP (pl M) r = weightP (pl L) r := weight_perm (hp.map pu)
  have hok : okG id (groupsI M.length M) = okK L L.length := by
    rw [Bool.eq_iff_iff, okG_iff id (Nat.le_refl _) hg hFM hlM (fun n => .inl rfl)]
    constructor
    · intro h
      unfold okK
      rw [List.take_length, List.all_eq_true]
      intro y hy
      have := h y (hp.mem_iff.2 hy)
      rw [hw] at this
      exact decide_eq_true this
    · intro h y hy
      have := okK_all h y (by rw [List.take_length]; exact hp.mem_iff.1 hy)
      rw [hw]
      exact this
  refine ⟨?_, by rw [sumE, ofE, hok]⟩
  rw [sumQ, ofL, sumOk, hok]
  by_cases h : (okRows L && okK L L.length) = true
  · rw [if_pos h, if_pos h]
    rw [Bool.and_eq_true] at h
    have hk := keep_is id (Nat.le_refl _) hg hFM hlM (fun n => .inl rfl) (hok.trans h.2)
    refine set_weights (keep_set id (Nat.le_refl _) hg hk) (ofI_set L L.length (Nat.le_refl _)).1 fun r => ?_
    rw [keep_weight id r _ hk, ofI_weight, ← hw]
    exact groups_weight (Nat.le_refl _) hg r
  · rw [if_neg h, if_neg h]
    rfl
/-- .. and so is its negative, of a set -/
theorem sum_neg {L M : List It} (hp : M.Perm L) (hg : Grows M) (hF : FitI L) (hl : L.length ≤ 4398046511104) (hr : rightI L = true) : sumQ (fun n => -n) L M = pl (negI L) ∧ sumE (fun n => -n) L M = negIE L := by
  obtain ⟨hrr, hset⟩ := rightI_set hr
  have hFM : FitI M := fun x hx => hF x (hp.mem_iff.1 hx)
  have hlM : M.length ≤ 4398046511104 := by rw [hp.length_eq]; exact hl
  have hw : ∀ r, weightP (pl M) r = weightP (pl L) r := weight_perm (hp.map pu)
  have hrows : okRows L = true := by
    unfold okRows
    rw [List.all_eq_true]
    exact hrr
  have hown : ∀ y ∈ L, weightP (pl L) y.2.2.1 = y.2.2.2 := fun y hy => mem_weight hset (pu y) (List.mem_map.2 ⟨y, hy, rfl⟩)
  have hok : okG (fun n => -n) (groupsI M.length M) = okN L := by
    rw [Bool.eq_iff_iff, okG_iff (fun n => -n) (Nat.le_refl _) hg hFM hlM (fun n => .inr rfl)]
    unfold okN
    rw [List.all_eq_true]
    constructor
    · intro h y hy
      have h1 := h y (hp.mem_iff.2 hy)
      rw [hw, hown y hy] at h1
      exact decide_eq_true (by omega)
    · intro h y hy
      have hy' := hp.mem_iff.1 hy
      have h1 := of_decide_eq_true (h y hy')
      have h2 := (hF y hy').2
      unfold fits at h2
      rw [hw, hown y hy']
      omega
  refine ⟨?_, by rw [sumE, negIE, hok, hrows]; rfl⟩
  rw [sumQ, negI, sumOk, hok, hrows, Bool.true_and]
  by_cases h : okN L = true
  · rw [if_pos h, if_pos h, pl_neg]
    have hk := keep_is (fun n => -n) (Nat.le_refl _) hg hFM hlM (fun n => .inr rfl) (hok.trans h)
    refine set_weights (keep_set (fun n => -n) (Nat.le_refl _) hg hk) (neg_set hset) fun r => ?_
    rw [keep_weight (fun n => -n) r _ hk, neg_weight, ← hw, ← groups_weight (Nat.le_refl _) hg r, ← neg_weight]
    unfold negP pl
    rw [List.map_map]
    rfl
  · rw [if_neg h, if_neg h]
    rfl
end Go.Proofs.Ytlejhimcaidbeaa.Items
