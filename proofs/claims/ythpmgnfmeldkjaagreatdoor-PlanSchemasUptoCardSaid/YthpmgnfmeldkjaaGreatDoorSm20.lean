/-
  What a plan is that the program makes of a query, over schemas (PlanSchemas), in plain words. No program is named here.
-/
import Derived.Test.YthpmgnfmeldkjaaGreatDoorSm10
import Derived.Test.YthpmgnfmeldkjaaGreatDoorSm18
import Derived.Test.YthpmgnfmeldkjaaGreatDoorSm19
set_option maxRecDepth 100000
set_option maxHeartbeats 16000000
set_option linter.unusedVariables false
set_option linter.unusedSimpArgs false
open Go.Lib (hid)
namespace Go.Proofs.YthpmgnfmeldkjaaGreatDoor.Code
open Val
def numP : Pl → Pl
 | .mk o t e n b a c k => .mk o t e n b a (numberedP c) k
theorem numbered_len (l : List W) : (numberedP l).length = l.length := by unfold numberedP; simp
theorem plansP_inv (tabs : List Tab) : ∀ l : List Nod, (plansP tabs l).2 = 0 → ∀ t ∈ l, (planP tabs t).2 = 0
 | [], _, t, ht => by cases ht
 | u :: l, h, t, ht => by
  rw [plansP_cons] at h
  by_cases h1 : (planP tabs u).2 = 0
  ·rw [if_neg (by simpa using h1)] at h
   by_cases h2 : (plansP tabs l).2 = 0
   ·rcases List.mem_cons.1 ht with rfl | ht
    ·exact h1
    ·exact plansP_inv tabs l h2 t ht
   ·rw [if_pos h2] at h
    exact absurd h h2
  ·rw [if_pos h1] at h
   exact absurd h h1
def restN (op : List UInt8) (ks : List Nod) : Nat := (leavesQ (.mk op [] (ks.drop (queriesN op ks.length)))).length
def kidsP (tabs : List Tab) (op : List UInt8) (ks : List Nod) : List Pl := (ks.take (queriesN op ks.length)).map fun t => (planP tabs t).1.1
def kidsF (tabs : List Tab) (op : List UInt8) (ks : List Nod) : Nat := ((ks.take (queriesN op ks.length)).map fun t => (planP tabs t).1.2).sum
theorem planP_ok {tabs : List Tab} {op tx : List UInt8} {ks : List Nod} (h : (planP tabs (.mk op tx ks)).2 = 0) :
  (∀ t ∈ ks.take (queriesN op ks.length), (planP tabs t).2 = 0) ∧ formP op tx ks = true ∧ kidsF tabs op ks + restN op ks ≤ 4 ∧ (ownP tabs op tx ks (kidsP tabs op ks)).2 = 0 ∧ wrongC (ownP tabs op tx ks (kidsP tabs op ks)).1.cols = 0 ∧
   planP tabs (.mk op tx ks) = ((numP (ownP tabs op tx ks (kidsP tabs op ks)).1, kidsF tabs op ks + restN op ks), 0) := by
 rw [planP_mk] at h ⊢
 rw [planPL_take] at h ⊢
 by_cases h1 : (plansP tabs (ks.take (queriesN op ks.length))).2 = 0
 ·have hi := plansP_inv tabs _ h1
  have hk := plansP_ok tabs (ks.take (queriesN op ks.length)) (fun j hj => hi _ (List.getElem_mem hj))
  rw [hk] at h ⊢
  dsimp only at h ⊢
  rw [if_neg (by simp)] at h ⊢
  unfold nodeP at h ⊢
  dsimp only at h ⊢
  split at h
  ·cases h
  ·rename_i h2
   rw [if_neg h2]
   split at h
   ·cases h
   ·rename_i h3
    rw [if_neg h3]
    split at h
    ·exact absurd h (by assumption)
    ·rename_i h4
     rw [if_neg h4]
     refine ⟨hi, by simpa using h2, by unfold kidsF restN; omega, by simpa [kidsP] using h4, ?_⟩
     unfold kidsP kidsF restN
     obtain ⟨r, hr⟩ : ∃ r, (ownP tabs op tx ks ((ks.take (queriesN op ks.length)).map fun t => (planP tabs t).1.1)).1 = r := ⟨_, rfl⟩
     rw [hr] at h ⊢
     obtain ⟨o, t, e, n, b, a, c, k⟩ := r
     unfold sealP at h ⊢
     dsimp only at h ⊢
     by_cases h5 : wrongC c = 0
     ·rw [if_neg (by simpa using h5)]
      exact ⟨h5, rfl⟩
     ·rw [if_pos h5] at h
      exact absurd h h5
 ·rw [if_pos h1] at h
  exact absurd h h1
mutual
theorem planP_ind {tabs : List Tab} {Q : Nod → Pl → Nat → Prop}
  (step : ∀ op tx ks, formP op tx ks = true → (∀ t ∈ ks.take (queriesN op ks.length), (planP tabs t).2 = 0 ∧ Q t (planP tabs t).1.1 (planP tabs t).1.2) → kidsF tabs op ks + restN op ks ≤ 4 → (ownP tabs op tx ks (kidsP tabs op ks)).2 = 0 → wrongC (ownP tabs op tx ks (kidsP tabs op ks)).1.cols = 0 → Q (.mk op tx ks) (numP (ownP tabs op tx ks (kidsP tabs op ks)).1) (kidsF tabs op ks + restN op ks)) :
  ∀ t, (planP tabs t).2 = 0 → Q t (planP tabs t).1.1 (planP tabs t).1.2
 | .mk op tx ks => fun h => by
  obtain ⟨h1, h2, h3, h4, h5, h6⟩ := planP_ok h
  rw [h6]
  exact step op tx ks h2 (fun t ht => ⟨h1 t ht, planP_indL step ks t (List.mem_of_mem_take ht) (h1 t ht)⟩) h3 h4 h5
theorem planP_indL {tabs : List Tab} {Q : Nod → Pl → Nat → Prop}
  (step : ∀ op tx ks, formP op tx ks = true → (∀ t ∈ ks.take (queriesN op ks.length), (planP tabs t).2 = 0 ∧ Q t (planP tabs t).1.1 (planP tabs t).1.2) → kidsF tabs op ks + restN op ks ≤ 4 → (ownP tabs op tx ks (kidsP tabs op ks)).2 = 0 → wrongC (ownP tabs op tx ks (kidsP tabs op ks)).1.cols = 0 → Q (.mk op tx ks) (numP (ownP tabs op tx ks (kidsP tabs op ks)).1) (kidsF tabs op ks + restN op ks)) :
  ∀ l : List Nod, ∀ t ∈ l, (planP tabs t).2 = 0 → Q t (planP tabs t).1.1 (planP tabs t).1.2
 | [], t, ht => by cases ht
 | u :: l, t, ht => by
  rcases List.mem_cons.1 ht with h | h
  ·rw [h]; exact planP_ind step u
  ·exact planP_indL step l t h
end
theorem form_len {op tx : List UInt8} {ks : List Nod} (h : formP op tx ks = true) : (op = sFrom ∧ ks.length = 0) ∨ (op = sFilter ∧ ks.length = 2) ∨ (op = sProject ∧ 2 ≤ ks.length) ∨ (op = sJoin ∧ 3 ≤ ks.length) ∨ (op = sUnion ∧ 2 ≤ ks.length) ∨ (op = sDistinct ∧ ks.length = 1) ∨ (op = sGroup ∧ 3 ≤ ks.length) := by
 unfold formP at h
 split at h
 ·exact .inl ⟨by assumption, by simpa using h⟩
 ·split at h
  ·rw [Bool.and_eq_true] at h
   exact .inr (.inl ⟨by assumption, by simpa using h.2⟩)
  ·split at h
   ·rw [Bool.and_eq_true, Bool.and_eq_true] at h
    exact .inr (.inr (.inl ⟨by assumption, of_decide_eq_true h.1.2⟩))
   ·split at h
    ·rw [Bool.and_eq_true, Bool.and_eq_true] at h
     exact .inr (.inr (.inr (.inl ⟨by assumption, of_decide_eq_true h.1.2⟩)))
    ·split at h
     ·rw [Bool.and_eq_true] at h
      exact .inr (.inr (.inr (.inr (.inl ⟨by assumption, of_decide_eq_true h.2⟩))))
     ·split at h
      ·rw [Bool.and_eq_true] at h
       exact .inr (.inr (.inr (.inr (.inr (.inl ⟨by assumption, by simpa using h.2⟩)))))
      ·split at h
       ·rw [Bool.and_eq_true, Bool.and_eq_true, Bool.and_eq_true] at h
        exact .inr (.inr (.inr (.inr (.inr (.inr ⟨by assumption, of_decide_eq_true h.1.1.2⟩)))))
       ·cases h
theorem form_queries {op tx : List UInt8} {ks : List Nod} (h : formP op tx ks = true) : (op = sFrom ∧ queriesN op ks.length = 0) ∨ (op ≠ sFrom ∧ 1 ≤ queriesN op ks.length ∧ queriesN op ks.length ≤ ks.length ∧ (op = sJoin → 2 = queriesN op ks.length)) := by
 rcases form_len h with ⟨rfl, hl⟩ | ⟨rfl, hl⟩ | ⟨rfl, hl⟩ | ⟨rfl, hl⟩ | ⟨rfl, hl⟩ | ⟨rfl, hl⟩ | ⟨rfl, hl⟩
 ·exact .inl ⟨rfl, by unfold queriesN; rw [if_neg (by decide), if_neg (by decide), if_neg (by decide)]⟩
 ·have e : queriesN sFilter ks.length = 1 := by unfold queriesN; rw [if_neg (by decide), if_neg (by decide), if_pos (by decide)]
  exact .inr ⟨by decide, by omega, by omega, fun h => absurd h (by decide)⟩
 ·have e : queriesN sProject ks.length = 1 := by unfold queriesN; rw [if_neg (by decide), if_neg (by decide), if_pos (by decide)]
  exact .inr ⟨by decide, by omega, by omega, fun h => absurd h (by decide)⟩
 ·have e : queriesN sJoin ks.length = 2 := by unfold queriesN; rw [if_pos rfl]
  exact .inr ⟨by decide, by omega, by omega, fun h => e.symm⟩
 ·have e : queriesN sUnion ks.length = ks.length := by unfold queriesN; rw [if_neg (by decide), if_pos rfl]
  exact .inr ⟨by decide, by omega, by omega, fun h => absurd h (by decide)⟩
 ·have e : queriesN sDistinct ks.length = 1 := by unfold queriesN; rw [if_neg (by decide), if_neg (by decide), if_pos (by decide)]
  exact .inr ⟨by decide, by omega, by omega, fun h => absurd h (by decide)⟩
 ·have e : queriesN sGroup ks.length = 1 := by unfold queriesN; rw [if_neg (by decide), if_neg (by decide), if_pos (by decide)]
  exact .inr ⟨by decide, by omega, by omega, fun h => absurd h (by decide)⟩
theorem kidsP_len (tabs : List Tab) (op : List UInt8) (ks : List Nod) (h : queriesN op ks.length ≤ ks.length) : (kidsP tabs op ks).length = queriesN op ks.length := by
 unfold kidsP
 rw [List.length_map, List.length_take]
 omega
theorem sch_of {c : List W} (hk : colKs c) (hs : 1 ≤ c.length) (h2 : lastP c 0 = 0) : schC (numberedP c) = true := by
 unfold lastP at h2
 rw [if_neg (by omega)] at h2
 split at h2
 ·cases h2
 ·rename_i hn
  split at h2
  ·cases h2
  ·rename_i hw
   split at h2
   ·cases h2
   ·rename_i hl
    have hn : ∀ x ∈ c, nameC x.2.1 = true := by
     have : (c.all fun c => nameC c.2.1) = true := by simpa using hn
     exact fun x hx => List.all_eq_true.1 this x hx
    have hp := twice_pair c (by simpa using hw)
    have hg : ∀ i (hi : i < (numberedP c).length), (numberedP c)[i] = ((i : Int) + 1, (c[i]'(by rw [numbered_len] at hi; exact hi)).2.1, (c[i]'(by rw [numbered_len] at hi; exact hi)).2.2) := by
     intro i hi
     simp [numberedP]
    rw [sch_iff]
    refine ⟨⟨fun x hx => ?_, ?_⟩, by rw [numbered_len]; exact hs, by rw [numbered_len]; omega⟩
    ·obtain ⟨i, hi, rfl⟩ := List.getElem_of_mem hx
     have hi' : i < c.length := by rw [numbered_len] at hi; exact hi
     have hm := List.getElem_mem hi'
     rw [hg i hi]
     unfold colC
     rw [hn _ hm, Bool.true_and, Bool.and_eq_true]
     refine ⟨decide_eq_true (hk c[i] hm), decide_eq_true ?_⟩
     dsimp only
     omega
    ·rw [List.pairwise_iff_getElem] at hp ⊢
     intro i j hi hj hij
     rw [hg i hi, hg j hj]
     rw [numbered_len] at hi hj
     exact ⟨by dsimp only; omega, hp i j hi hj hij⟩
theorem joinP_range (a b : List W) : ∀ l : List Nod, ∀ x ∈ (joinP a b l).1, (0 ≤ x.1 ∧ x.1 < a.length) ∧ 0 ≤ x.2 ∧ x.2 < b.length
 | [], x, hx => by rw [joinP] at hx; cases hx
 | t :: l, x, hx => by
  rw [joinP] at hx
  cases h1 : findC a t.tx with
  | none => rw [h1] at hx; cases hx
  | some i =>
   cases h2 : findC b (nthN t.ks 0).tx with
   | none => rw [h1, h2] at hx; cases hx
   | some j =>
    rw [h1, h2] at hx
    dsimp only at hx
    obtain ⟨hi, -, -⟩ := find_some h1
    obtain ⟨hj, -, -⟩ := find_some h2
    split at hx
    ·cases hx
    ·split at hx
     ·cases hx
     ·rcases List.mem_cons.1 hx with rfl | h
      ·dsimp only
       omega
      ·exact joinP_range a b l x h
theorem byP_range (a : List W) : ∀ l : List Nod, ∀ x ∈ (byP a l).1, 0 ≤ x ∧ x < a.length
 | [], x, hx => by rw [byP] at hx; cases hx
 | t :: l, x, hx => by
  rw [byP] at hx
  cases h1 : findC a t.tx with
  | none => rw [h1] at hx; cases hx
  | some i =>
   rw [h1] at hx
   dsimp only at hx
   obtain ⟨hi, -, -⟩ := find_some h1
   split at hx
   ·cases hx
   ·rcases List.mem_cons.1 hx with rfl | h
    ·omega
    ·exact byP_range a l x h
theorem aggP_range (a : List W) (ha : 1 ≤ a.length) (fn : Nod) : 0 ≤ (aggP a fn).1 ∧ (aggP a fn).1 < a.length := by
 unfold aggP
 split
 ·dsimp only; omega
 ·cases h1 : findC a fn.tx with
  | none => dsimp only; omega
  | some i =>
   obtain ⟨hi, -, -⟩ := find_some h1
   dsimp only
   split
   ·split <;> (dsimp only; omega)
   ·dsimp only; omega
theorem aggsP_range (a : List W) (ha : 1 ≤ a.length) : ∀ l : List Nod, ∀ x ∈ (aggsP a l).1, 0 ≤ x.2 ∧ x.2 < a.length
 | [], x, hx => by rw [aggsP] at hx; cases hx
 | t :: l, x, hx => by
  rw [aggsP] at hx
  split at hx
  ·cases hx
  ·split at hx
   ·cases hx
   ·rcases List.mem_cons.1 hx with rfl | h
    ·exact aggP_range a ha _
    ·exact aggsP_range a ha l x h
mutual
def placesP : Pl → Prop
 | .mk _ _ _ on bk ag c ks => placesPL ks ∧ (∀ x ∈ on, (0 ≤ x.1 ∧ x.1 < (ks.getD 0 zeroP).cols.length) ∧ (0 ≤ x.2 ∧ x.2 < (ks.getD 1 zeroP).cols.length) ∧ 2 ≤ ks.length) ∧ (∀ x ∈ bk, 0 ≤ x ∧ x < (ks.getD 0 zeroP).cols.length ∧ 1 ≤ ks.length) ∧ (∀ x ∈ ag, 0 ≤ x.2 ∧ x.2 < (ks.getD 0 zeroP).cols.length ∧ 1 ≤ ks.length) ∧ schC c = true
def placesPL : List Pl → Prop
 | [] => True
 | p :: l => placesP p ∧ placesPL l
end
theorem placesPL_iff : ∀ l : List Pl, placesPL l ↔ ∀ p ∈ l, placesP p
 | [] => by rw [placesPL]; simp
 | p :: l => by rw [placesPL, placesPL_iff l]; simp
mutual
def namesP : Pl → List (List UInt8)
 | .mk o t _ _ _ _ _ ks => (if o = sFrom then [t] else []) ++ namesPL ks
def namesPL : List Pl → List (List UInt8)
 | [] => []
 | p :: l => namesP p ++ namesPL l
end
theorem namesPL_mem : ∀ (l : List Pl) (s : List UInt8), s ∈ namesPL l → ∃ p ∈ l, s ∈ namesP p
 | [], s, h => by rw [namesPL] at h; cases h
 | p :: l, s, h => by
  rw [namesPL, List.mem_append] at h
  rcases h with h | h
  ·exact ⟨p, by simp, h⟩
  ·obtain ⟨q, hq, hs⟩ := namesPL_mem l s h
   exact ⟨q, List.mem_cons_of_mem _ hq, hs⟩
theorem namesPL_len : ∀ l : List Pl, (namesPL l).length = (l.map fun p => (namesP p).length).sum
 | [] => by rw [namesPL]; rfl
 | p :: l => by rw [namesPL, List.length_append, namesPL_len l]; simp
structure GoodP (tabs : List Tab) (p : Pl) (fr : Nat) : Prop where
 places : placesP p
 names : ∀ s ∈ namesP p, ∃ t ∈ tabs, t.1 = s
 some : 1 ≤ (namesP p).length
 few : (namesP p).length ≤ fr
theorem GoodP.sch {tabs : List Tab} {p : Pl} {fr : Nat} (h : GoodP tabs p fr) : schC p.cols = true := by
 have h1 := h.places
 cases p
 rw [placesP] at h1
 exact h1.2.2.2.2
theorem sum_le_sum {α : Type} (f g : α → Nat) : ∀ l : List α, (∀ x ∈ l, f x ≤ g x) → (l.map f).sum ≤ (l.map g).sum
 | [], _ => by simp
 | x :: l, h => by
  have h1 := h x (by simp)
  have h2 := sum_le_sum f g l (fun y hy => h y (List.mem_cons_of_mem _ hy))
  simp only [List.map_cons, List.sum_cons]
  omega
theorem own_mk {tabs : List Tab} {op tx : List UInt8} {ks : List Nod} {ps : List Pl} (h : (ownP tabs op tx ks ps).2 = 0) : (ownP tabs op tx ks ps).1.op = op ∧ (ownP tabs op tx ks ps).1.ks = ps ∧ (op = sFrom → ∃ t ∈ tabs, t.1 = tx ∧ (ownP tabs op tx ks ps).1 = .mk op tx [] [] [] [] t.2 ps) := by
 unfold ownP at h ⊢
 dsimp only at h ⊢
 split at h
 ·rename_i h0
  rw [if_pos h0]
  cases hf : tabs.find? fun t => t.1 == tx with
  | none => rw [hf] at h; cases h
  | some t =>
   have := List.find?_some hf
   exact ⟨rfl, rfl, fun _ => ⟨t, List.mem_of_find?_eq_some hf, by simpa using this, rfl⟩⟩
 ·rename_i h0
  rw [if_neg h0]
  split
  ·exact ⟨rfl, rfl, fun e => absurd e h0⟩
  ·split
   ·exact ⟨rfl, rfl, fun e => absurd e h0⟩
   ·split
    ·exact ⟨rfl, rfl, fun e => absurd e h0⟩
    ·split
     ·exact ⟨rfl, rfl, fun e => absurd e h0⟩
     ·split
      ·exact ⟨rfl, rfl, fun e => absurd e h0⟩
      ·exact ⟨rfl, rfl, fun e => absurd e h0⟩
theorem own_some {tabs : List Tab} {op tx : List UInt8} {ks : List Nod} {ps : List Pl} (hf : formP op tx ks = true) (ht : ∀ t ∈ tabs, 1 ≤ t.2.length) (hp : op ≠ sFrom → 1 ≤ (ps.headD zeroP).cols.length) (hx : (ownP tabs op tx ks ps).2 = 0) : 1 ≤ (ownP tabs op tx ks ps).1.cols.length := by
 unfold ownP at hx ⊢
 dsimp only at hx ⊢
 rcases form_len hf with ⟨rfl, hk⟩ | ⟨rfl, hk⟩ | ⟨rfl, hk⟩ | ⟨rfl, hk⟩ | ⟨rfl, hk⟩ | ⟨rfl, hk⟩ | ⟨rfl, hk⟩
 ·rw [if_pos rfl] at hx ⊢
  cases hfi : tabs.find? fun t => t.1 == tx with
  | none => rw [hfi] at hx; cases hx
  | some t => exact ht t (List.mem_of_find?_eq_some hfi)
 ·rw [if_neg (by decide), if_pos rfl]
  exact hp (by decide)
 ·rw [if_neg (by decide), if_neg (by decide), if_pos rfl] at hx ⊢
  cases hd1 : ks.drop 1 with
  | nil => have := congrArg List.length hd1; simp at this; omega
  | cons u l =>
   rw [hd1] at hx
   show 1 ≤ (projectP _ (u :: l)).1.length
   rw [projectP] at hx ⊢
   split at hx
   ·exact absurd hx (by assumption)
   ·rename_i g1
    rw [if_neg g1]
    split at hx
    ·cases hx
    ·rename_i g2
     rw [if_neg g2]
     split at hx
     ·exact absurd hx (by assumption)
     ·rename_i g3
      rw [if_neg g3]
      simp
 ·rw [if_neg (by decide), if_neg (by decide), if_neg (by decide), if_pos rfl]
  show 1 ≤ (_ ++ _ : List W).length
  rw [List.length_append]
  have := hp (by decide)
  omega
 ·rw [if_neg (by decide), if_neg (by decide), if_neg (by decide), if_neg (by decide), if_pos rfl]
  exact hp (by decide)
 ·rw [if_neg (by decide), if_neg (by decide), if_neg (by decide), if_neg (by decide), if_neg (by decide), if_neg (by decide)]
  exact hp (by decide)
 ·rw [if_neg (by decide), if_neg (by decide), if_neg (by decide), if_neg (by decide), if_neg (by decide), if_pos rfl] at hx ⊢
  show 1 ≤ (_ ++ _ : List W).length
  rw [List.length_append]
  dsimp only at hx
  split at hx
  ·exact absurd hx (by assumption)
  ·cases hd2 : ks.drop 2 with
   | nil => have := congrArg List.length hd2; simp at this; omega
   | cons u l =>
    rw [hd2] at hx
    have : 1 ≤ (aggsP (ps.headD zeroP).cols (u :: l)).2.1.length := by
     rw [aggsP] at hx ⊢
     split at hx
     ·exact absurd hx (by assumption)
     ·rename_i g1
      rw [if_neg g1]
      split at hx
      ·exact absurd hx (by assumption)
      ·rename_i g2
       rw [if_neg g2]
       simp
    omega
theorem own_places {tabs : List Tab} {op tx : List UInt8} {ks : List Nod} {ps : List Pl} (hk : ∀ p ∈ ps, placesP p) (h2 : op = sJoin → 2 ≤ ps.length) (h1 : op ≠ sFrom → 1 ≤ ps.length ∧ 1 ≤ (ps.headD zeroP).cols.length) (hx : (ownP tabs op tx ks ps).2 = 0) (hs : schC (numberedP (ownP tabs op tx ks ps).1.cols) = true) : placesP (numP (ownP tabs op tx ks ps).1) := by
 obtain ⟨r, hr⟩ : ∃ r, ownP tabs op tx ks ps = r := ⟨_, rfl⟩
 have ho := own_mk hx
 rw [hr] at hx hs ho ⊢
 unfold ownP at hr
 dsimp only at hr
 have hpk := (placesPL_iff ps).2 hk
 split at hr
 ·rename_i h0
  obtain ⟨t, ht, -, he⟩ := ho.2.2 h0
  rw [he] at hs ⊢
  exact ⟨hpk, (by intro x h; cases h), (by intro x h; cases h), (by intro x h; cases h), hs⟩
 ·rename_i h0
  obtain ⟨hl, hc⟩ := h1 h0
  split at hr
  ·subst hr
   exact ⟨hpk, (by intro x h; cases h), (by intro x h; cases h), (by intro x h; cases h), hs⟩
  ·split at hr
   ·subst hr
    exact ⟨hpk, (by intro x h; cases h), (by intro x h; cases h), (by intro x h; cases h), hs⟩
   ·split at hr
    ·rename_i hj
     subst hr
     refine ⟨hpk, fun x h => ?_, (by intro x h; cases h), (by intro x h; cases h), hs⟩
     have := joinP_range _ _ _ x h
     rw [head_getD] at this
     exact ⟨this.1, this.2, h2 hj⟩
    ·split at hr
     ·subst hr
      exact ⟨hpk, (by intro x h; cases h), (by intro x h; cases h), (by intro x h; cases h), hs⟩
     ·split at hr
      ·subst hr
       refine ⟨hpk, (by intro x h; cases h), fun x h => ?_, fun x h => ?_, hs⟩
       ·have := byP_range _ _ x h
        rw [head_getD] at this
        exact ⟨this.1, this.2, hl⟩
       ·have := aggsP_range _ hc _ x h
        rw [head_getD] at this
        exact ⟨this.1, this.2, hl⟩
      ·subst hr
       exact ⟨hpk, (by intro x h; cases h), (by intro x h; cases h), (by intro x h; cases h), hs⟩
theorem planP_good {tabs : List Tab} (ht : ∀ t ∈ tabs, schC t.2 = true) : ∀ t, (planP tabs t).2 = 0 → GoodP tabs (planP tabs t).1.1 (planP tabs t).1.2 :=
 planP_ind (Q := fun _ p fr => GoodP tabs p fr) (by
  intro op tx ks hf hk h4 hx hw
  have hfq := form_queries hf
  have hkp : ∀ p ∈ kidsP tabs op ks, ∃ t ∈ ks.take (queriesN op ks.length), p = (planP tabs t).1.1 := fun p hp => by
   unfold kidsP at hp
   obtain ⟨t, ht, rfl⟩ := List.mem_map.1 hp
   exact ⟨t, ht, rfl⟩
  have hgood : ∀ p ∈ kidsP tabs op ks, ∃ fr, GoodP tabs p fr := fun p hp => by
   obtain ⟨t, ht, rfl⟩ := hkp p hp
   exact ⟨_, (hk t ht).2⟩
  have hlen : op ≠ sFrom → 1 ≤ (kidsP tabs op ks).length := fun h0 => by
   rcases hfq with ⟨h, -⟩ | ⟨-, h1, h2, -⟩
   ·exact absurd h h0
   ·rw [kidsP_len _ _ _ h2]; exact h1
  have hhd : op ≠ sFrom → 1 ≤ ((kidsP tabs op ks).headD zeroP).cols.length := fun h0 => by
   have h1 := hlen h0
   cases hp : kidsP tabs op ks with
   | nil => rw [hp] at h1; simp at h1
   | cons p l =>
    obtain ⟨fr, hg⟩ := hgood p (by rw [hp]; simp)
    exact ((sch_iff _).1 hg.sch).2.1
  have hkk : ∀ p ∈ kidsP tabs op ks, colKs p.cols := fun p hp => by
   obtain ⟨fr, hg⟩ := hgood p hp
   exact sch_kinds hg.sch
  have hc := own_kinds (tabs := tabs) (fun t h => sch_kinds (ht t h)) op tx ks hkk
  have hs := own_some hf (fun t h => ((sch_iff _).1 (ht t h)).2.1) hhd hx
  have hsch := sch_of hc hs hw
  have hj : op = sJoin → 2 ≤ (kidsP tabs op ks).length := fun e => by
   rcases hfq with ⟨h, -⟩ | ⟨-, h1, h2, h3⟩
   ·rw [h] at e; exact absurd e (by decide)
   ·rw [kidsP_len _ _ _ h2, ← h3 e]; exact Nat.le_refl _
  have hpl := own_places (fun p hp => by obtain ⟨fr, hg⟩ := hgood p hp; exact hg.places) hj (fun h0 => ⟨hlen h0, hhd h0⟩) hx hsch
  obtain ⟨ho, hks, hfr⟩ := own_mk hx
  have hnm : namesP (numP (ownP tabs op tx ks (kidsP tabs op ks)).1) = (if op = sFrom then [tx] else []) ++ namesPL (kidsP tabs op ks) := by
   by_cases h0 : op = sFrom
   ·obtain ⟨t, -, -, he⟩ := hfr h0
    rw [he, numP, namesP]
   ·obtain ⟨r, hr⟩ : ∃ r, (ownP tabs op tx ks (kidsP tabs op ks)).1 = r := ⟨_, rfl⟩
    rw [hr] at ho hks ⊢
    obtain ⟨o, t, e, n, b, a, c, k⟩ := r
    dsimp only [Pl.op, Pl.ks] at ho hks
    rw [numP, namesP, ho, hks, if_neg h0, if_neg h0]
  have hkl : (namesPL (kidsP tabs op ks)).length ≤ kidsF tabs op ks := by
   rw [namesPL_len]
   unfold kidsP kidsF
   rw [List.map_map]
   exact sum_le_sum _ _ _ (fun t ht => (hk t ht).2.few)
  refine ⟨hpl, fun s hs => ?_, ?_, ?_⟩
  ·rw [hnm, List.mem_append] at hs
   rcases hs with hs | hs
   ·split at hs
    ·rename_i h0
     obtain ⟨t, ht, e, -⟩ := hfr h0
     simp only [List.mem_singleton] at hs
     exact ⟨t, ht, e.trans hs.symm⟩
    ·cases hs
   ·obtain ⟨p, hp, hs⟩ := namesPL_mem _ _ hs
    obtain ⟨fr, hg⟩ := hgood p hp
    exact hg.names s hs
  ·rw [hnm, List.length_append]
   by_cases h0 : op = sFrom
   ·rw [if_pos h0]; simp
   ·have h1 := hlen h0
    cases hp : kidsP tabs op ks with
    | nil => rw [hp] at h1; simp at h1
    | cons p l =>
     obtain ⟨fr, hg⟩ := hgood p (by rw [hp]; simp)
     have := hg.some
     rw [namesPL, List.length_append]
     omega
  ·rw [hnm, List.length_append]
   by_cases h0 : op = sFrom
   ·rw [if_pos h0]
    have : 1 ≤ restN op ks := by unfold restN; rw [leavesQ, if_pos h0]; simp
    simp
    omega
   ·rw [if_neg h0]
    simp
    omega)
theorem num_cols (p : Pl) : (numP p).cols = numberedP p.cols := by cases p; rfl
theorem planP_fin {tabs : List Tab} {t : Nod} (h : (planP tabs t).2 = 0) : numberedP (planP tabs t).1.1.cols = (planP tabs t).1.1.cols ∧ wrongC (planP tabs t).1.1.cols = 0 ∧ (planP tabs t).1.2 ≤ 4 := by
 cases t with
 | mk op tx ks =>
  obtain ⟨h1, h2, h3, h4, h5, h6⟩ := planP_ok h
  rw [h6]
  dsimp only
  rw [num_cols]
  exact ⟨numbered_again _, by rw [wrong_numbered]; exact h5, h3⟩
theorem planP_zero {tabs : List Tab} {t : Nod} (h : (planP tabs t).2 ≠ 0) : (planP tabs t).1 = (zeroP, 0) := by
 cases t with
 | mk op tx ks =>
  rw [planP_mk] at h ⊢
  split at h
  ·rename_i h1; rw [if_pos h1]
  ·rename_i h1
   rw [if_neg h1]
   unfold nodeP at h ⊢
   dsimp only at h ⊢
   split at h
   ·rename_i h2; rw [if_pos h2]
   ·rename_i h2
    rw [if_neg h2]
    split at h
    ·rename_i h3; rw [if_pos h3]
    ·rename_i h3
     rw [if_neg h3]
     split at h
     ·rename_i h4; rw [if_pos h4]
     ·rename_i h4
      rw [if_neg h4]
      unfold sealP at h ⊢
      split
      rename_i heq
      rw [heq] at h
      dsimp only at h
      split at h
      ·rename_i h5; rw [if_pos h5]
      ·exact absurd rfl h
def NmB (l : List W) : Prop := ∀ c ∈ l, c.2.1.length ≤ 1000
def TabB (tabs : List Tab) : Prop := tabs.length ≤ 1000 ∧ ∀ t ∈ tabs, t.2.length ≤ 1000 ∧ NmB t.2
theorem NmB.nil : NmB [] := fun c h => by cases h
theorem NmB.app {a b : List W} (ha : NmB a) (hb : NmB b) : NmB (a ++ b) := fun c h => (List.mem_append.1 h).elim (ha c) (hb c)
theorem NmB.numbered {l : List W} (h : NmB l) : NmB (numberedP l) := by
 intro c hc
 have h1 : c.2 ∈ (numberedP l).map (fun c => c.2) := List.mem_map.2 ⟨c, hc, rfl⟩
 rw [numbered_tail] at h1
 obtain ⟨d, hd, he⟩ := List.mem_map.1 h1
 have := h d hd
 rw [he] at this
 exact this
theorem NmB.getD {l : List W} (h : NmB l) (k : Nat) : (l.getD k (0, [], 0)).2.1.length ≤ 1000 := by
 rw [List.getD_eq_getElem?_getD]
 cases hi : l[k]? with
 | none => simp
 | some p => exact h p (List.mem_of_getElem? hi)
theorem tot_tx (t : Nod) : t.tx.length ≤ t.tot := by cases t; simp only [Nod.tot, Nod.tx]; omega
theorem project_bound (cols : List W) : ∀ l : List Nod, (∀ t ∈ l, t.tx.length ≤ 1000) → (projectP cols l).1.length ≤ l.length ∧ NmB (projectP cols l).1
 | [], _ => by rw [projectP]; exact ⟨Nat.le_refl _, NmB.nil⟩
 | t :: l, h => by
  have ih := project_bound cols l (fun u hu => h u (List.mem_cons_of_mem _ hu))
  rw [projectP]
  split
  ·exact ⟨Nat.zero_le _, NmB.nil⟩
  ·split
   ·exact ⟨Nat.zero_le _, NmB.nil⟩
   ·split
    ·exact ⟨Nat.zero_le _, NmB.nil⟩
    ·refine ⟨by simp only [List.length_cons]; omega, fun c hc => ?_⟩
     rcases List.mem_cons.1 hc with rfl | hc
     ·exact h t (by simp)
     ·exact ih.2 c hc
theorem by_bound {cols : List W} (hc : NmB cols) : ∀ l : List Nod, (byP cols l).2.1.length ≤ l.length ∧ NmB (byP cols l).2.1
 | [] => by rw [byP]; exact ⟨Nat.le_refl _, NmB.nil⟩
 | t :: l => by
  have ih := by_bound hc l
  rw [byP]
  cases findC cols t.tx with
  | none => exact ⟨Nat.zero_le _, NmB.nil⟩
  | some k =>
   dsimp only
   split
   ·exact ⟨Nat.zero_le _, NmB.nil⟩
   ·refine ⟨by simp only [List.length_cons]; omega, fun c h => ?_⟩
    rcases List.mem_cons.1 h with rfl | h
    ·exact hc.getD k
    ·exact ih.2 c h
theorem aggs_bound (cols : List W) : ∀ l : List Nod, (∀ t ∈ l, t.tx.length ≤ 1000) → (aggsP cols l).2.1.length ≤ l.length ∧ NmB (aggsP cols l).2.1
 | [], _ => by rw [aggsP]; exact ⟨Nat.le_refl _, NmB.nil⟩
 | t :: l, h => by
  have ih := aggs_bound cols l (fun u hu => h u (List.mem_cons_of_mem _ hu))
  rw [aggsP]
  split
  ·exact ⟨Nat.zero_le _, NmB.nil⟩
  ·split
   ·exact ⟨Nat.zero_le _, NmB.nil⟩
   ·refine ⟨by simp only [List.length_cons]; omega, fun c hc => ?_⟩
    rcases List.mem_cons.1 hc with rfl | hc
    ·exact h t (by simp)
    ·exact ih.2 c hc
theorem own_bound {tabs : List Tab} {op tx : List UInt8} {ks : List Nod} {ps : List Pl} (ht : TabB tabs) (hk : ∀ p ∈ ps, p.cols.length ≤ 12 ∧ NmB p.cols) (htot : Nod.tot (.mk op tx ks) ≤ 1000) :
  (ownP tabs op tx ks ps).1.cols.length ≤ 5000 ∧ NmB (ownP tabs op tx ks ps).1.cols := by
 have hg : ∀ i, (ps.getD i zeroP).cols.length ≤ 12 ∧ NmB (ps.getD i zeroP).cols := fun i => by
  rw [List.getD_eq_getElem?_getD]
  cases hi : ps[i]? with
  | none => exact ⟨Nat.zero_le _, NmB.nil⟩
  | some p => exact hk p (List.mem_of_getElem? hi)
 have h0 := hg 0
 rw [← head_getD] at h0
 have hkt : ∀ t ∈ ks, t.tx.length ≤ 1000 ∧ t.ks.length ≤ 1000 := fun t h => by
  have h1 := tot_mem h
  have h2 := tot_tx t
  have h3 := nodtot_ks t
  rw [Nod.tot] at htot
  omega
 have hkl : ks.length ≤ 1000 := by
  have h1 := nodtot_len ks
  rw [Nod.tot] at htot
  omega
 unfold ownP
 dsimp only
 split
 ·cases hf : tabs.find? fun t => t.1 == tx with
  | none => exact ⟨Nat.zero_le _, NmB.nil⟩
  | some t =>
   have := ht.2 t (List.mem_of_find?_eq_some hf)
   exact ⟨by have := this.1; show t.2.length ≤ 5000; omega, this.2⟩
 ·split
  ·exact ⟨Nat.le_trans h0.1 (by omega), h0.2⟩
  ·split
   ·have := project_bound (ps.headD zeroP).cols (ks.drop 1) (fun t h => (hkt t (List.mem_of_mem_drop h)).1)
    have hl : (ks.drop 1).length ≤ ks.length := by rw [List.length_drop]; omega
    exact ⟨by show (projectP _ _).1.length ≤ _; omega, this.2⟩
   ·split
    ·refine ⟨?_, h0.2.app (hg 1).2⟩
     show (_ ++ _ : List W).length ≤ _
     rw [List.length_append]
     have := (hg 1).1
     omega
    ·split
     ·exact ⟨Nat.le_trans h0.1 (by omega), h0.2⟩
     ·split
      ·have h1 := by_bound h0.2 (nthN ks 1).ks
       have h2 := aggs_bound (ps.headD zeroP).cols (ks.drop 2) (fun t h => (hkt t (List.mem_of_mem_drop h)).1)
       have hl : (ks.drop 2).length ≤ ks.length := by rw [List.length_drop]; omega
       have hb : (nthN ks 1).ks.length ≤ 1000 := by
        unfold nthN
        rw [List.getD_eq_getElem?_getD]
        cases hi : ks[1]? with
        | none => simp [zeroN, Nod.ks]
        | some p => exact (hkt p (List.mem_of_getElem? hi)).2
       refine ⟨?_, h1.2.app h2.2⟩
       show (_ ++ _ : List W).length ≤ _
       rw [List.length_append]
       omega
      ·exact ⟨Nat.le_trans h0.1 (by omega), h0.2⟩
theorem wrong_len {c : List W} (h : wrongC c = 0) : c.length ≤ 12 := by
 unfold wrongC lastP at h
 rw [if_neg (by omega)] at h
 split at h
 ·cases h
 ·split at h
  ·cases h
  ·split at h
   ·cases h
   ·omega
theorem plan_names {tabs : List Tab} (ht : TabB tabs) : ∀ t, (planP tabs t).2 = 0 → t.tot ≤ 1000 → NmB (planP tabs t).1.1.cols :=
 planP_ind (Q := fun t p _ => t.tot ≤ 1000 → NmB p.cols) (by
  intro op tx ks hf hk h4 hx hw htot
  rw [num_cols]
  refine (own_bound ht (fun p hp => ?_) htot).2.numbered
  unfold kidsP at hp
  obtain ⟨t, ht, rfl⟩ := List.mem_map.1 hp
  have h1 := hk t ht
  refine ⟨wrong_len (planP_fin h1.1).2.1, h1.2 ?_⟩
  have h2 := tot_mem (List.mem_of_mem_take ht)
  rw [Nod.tot] at htot
  omega)
theorem plan_bound {tabs : List Tab} (ht : TabB tabs) (t : Nod) (htot : t.tot ≤ 1000) : (planP tabs t).1.1.cols.length ≤ 12 ∧ NmB (planP tabs t).1.1.cols := by
 by_cases h : (planP tabs t).2 = 0
 ·exact ⟨wrong_len (planP_fin h).2.1, plan_names ht t h htot⟩
 ·rw [planP_zero h]
  exact ⟨Nat.zero_le _, NmB.nil⟩
open Go.ChangeShapes Go.WideShapes Go.ChangeAt Go.RowKit Elems
theorem MBox.low {w w' : World} {g B : Nat} {x : PV} {f : Int} (h : MBox w g x f) (hb : Below B w w') (hg : g < B) : MBox w' g x f :=
 ⟨h.box.keep (hb.block g hg), (hb.cell (p := ⟨g, 8, none⟩) hg).trans h.c8⟩
theorem own_mk2 {tabs : List Tab} {op tx : List UInt8} {ks : List Nod} {ps : List Pl} {OP : Pl} (h : ownP tabs op tx ks ps = (OP, 0)) : OP.ks = ps := by
 have h1 := (own_mk (tabs := tabs) (op := op) (tx := tx) (ks := ks) (ps := ps) (by rw [h])).2.1
 rw [h] at h1
 exact h1
theorem plansP_fr (tabs : List Tab) : ∀ l : List Nod, (plansP tabs l).2 = 0 → (plansP tabs l).1.2 ≤ 4 * l.length
 | [], _ => by unfold plansP; rw [planPL_nil]; exact Nat.zero_le _
 | t :: l, h => by
  have hi := plansP_inv tabs _ h
  have h1 := plansP_ok tabs (t :: l) (fun j hj => hi _ (List.getElem_mem hj))
  have h2 := plansP_ok tabs l (fun j hj => hi _ (List.mem_cons_of_mem _ (List.getElem_mem hj)))
  have ih := plansP_fr tabs l (by rw [h2])
  have h3 := planP_fr tabs t (hi t (by simp))
  rw [h2] at ih
  rw [h1]
  dsimp only at ih
  simp only [List.map_cons, List.sum_cons, List.length_cons]
  omega
theorem ptot_tx (t : Nod) : t.tx.length ≤ t.tot ∧ t.op.length ≤ t.tot := by cases t; simp only [Nod.tot, Nod.tx, Nod.op]; omega
theorem query_of (vF vL : Value) (hst1 : ∀ (w' : World) (a : Addr), (store a vF).run Tryz.prog w' = stored Tryz.prog w' a vF .plain) (hst2 : ∀ (w' : World) (a : Addr), (store a vL).run Tryz.prog w' = stored Tryz.prog w' a vL .plain) (qn : Int) (q : Nat) (tabs : List Tab) (mb gt : Nat) (TA : Option Addr) (tcap : Nat) (m : Int)
  (t : Nod) (Sn : Nat → Prop) (op tx : ByteArray) (X : Option Addr) (n k : Nat) (w : World) (hS : ∀ b, Sn b → b < w.heap.size) (hn : RIn w Sn t (op, tx, X, n, k)) (he : PEnv w mb gt TA tcap tabs m) (htot : t.tot ≤ 1000)
  (hlook : ∀ w', Below w.heap.size w w' → op.size ≤ maxLen → (Instr.lookup 61 (.map (some mb)) (.string op) false).run Tryz.prog w' = .ok (.agg #[.int .i64 qn, vF, vL]) w') (hq : min qn (t.ks.length : Int) = (q : Int)) (hq0 : 0 ≤ qn) (hqk : q ≤ t.ks.length)
  (hQ : ∀ w', Below w.heap.size w w' → Calls Tryz.prog 59 #[.map (some mb), .slice X q k] w' (QsPost w' (plansP tabs (t.ks.take q))))
  (hv : (formP t.op t.tx t.ks = false ∧ vF = .nilFunc) ∨ ∃ (fF fL : Nat) (capsL : Array Value), vF = .func (.func fF) #[] #[] ∧ vL = .func (.func fL) #[] capsL ∧ (∀ args w, (callFunc fF args).run Tryz.prog w = .ok (.enter fF args) w) ∧ (∀ args w, (callFunc fL args).run Tryz.prog w = .ok (.enter fL args) w) ∧
   (∀ w', Below w.heap.size w w' → Calls Tryz.prog fF #[.agg #[.string op, .string tx, .slice X n k]] w' fun e w'' => e = .returned (.bool (formP t.op t.tx t.ks)) ∧ Below w'.heap.size w' w'') ∧
   (∀ (B : Nat) (S : Nat → Prop) (g : Nat) (co ki : Sl) (c0 : List W) (ps : List Pl) (w' : World), Below w.heap.size w w' → w.heap.size ≤ B → B ≤ w'.heap.size → (∀ j (hj : j < (t.ks.take q).length), (planP tabs (t.ks.take q)[j]).2 = 0) → ps = (t.ks.take q).map (fun x => (planP tabs x).1.1) → c0 = (ps.headD zeroP).cols → FPre B S w' g ⟨t.op.toArray⟩ co ki c0 → KIn w' S ki ps → formP t.op t.tx t.ks = true → Calls Tryz.prog fL (#[.pointer (some ⟨g, 0, none⟩), .agg #[.string op, .string tx, .slice X n k]] ++ capsL) w' (FPost B S g ki w' (ownP tabs t.op t.tx t.ks ps))) ∧
   (∀ ps, ps = (t.ks.take q).map (fun x => (planP tabs x).1.1) → (ownP tabs t.op t.tx t.ks ps).1.cols.length ≤ 5000 ∧ NmB (ownP tabs t.op t.tx t.ks ps).1.cols))
  (QQ : Ending → World → Prop) (hQQ : QPost w (if (plansP tabs (t.ks.take q)).2 ≠ 0 then ((zeroP, 0), (plansP tabs (t.ks.take q)).2) else nodeP tabs t.op t.tx t.ks (plansP tabs (t.ks.take q)).1.1 (plansP tabs (t.ks.take q)).1.2) = QQ)
  (hdr : t.ks.drop (queriesN t.op t.ks.length) = t.ks.drop q) :
  Calls Tryz.prog 25 #[.map (some mb), .agg #[.string op, .string tx, .slice X n k]] w QQ := by
 obtain ⟨eo, et, en, hkl⟩ := hn.texts
 dsimp only at eo et en
 have hcap := hn.cap
 dsimp only at hcap
 subst en
 obtain ⟨w1, hw1⟩ : ∃ w1, (w.alloc (.cells #[.string op, .string tx, .slice X t.ks.length k] 24)).alloc (.cells (mcs zPV 0) 58) = w1 := ⟨_, rfl⟩
 have B1 := hid (show Below w.heap.size w w1 by rw [← hw1]; exact (below_alloc w _).alloc (by simp) _)
 have N1 := hid (show NBox w1 w.heap.size (.string op) (.string tx) (.slice X t.ks.length k) by rw [← hw1]; exact (NBox.fresh _ _ _ _ _).alloc _)
 have M1 := hid (show MBox w1 (w.heap.size + 1) zPV 0 by
  rw [← hw1]
  have h := MBox.fresh (w.alloc (.cells #[.string op, .string tx, .slice X t.ks.length k] 24)) zPV 0 58
  rw [show (w.alloc (.cells #[.string op, .string tx, .slice X t.ks.length k] 24)).heap.size = w.heap.size + 1 by simp] at h
  exact h)
 have hz1 : w1.heap.size = w.heap.size + 2 := by rw [← hw1]; simp
 have hopl : op.size ≤ maxLen := by
  have h1 := (ptot_tx t).2
  have h2 : t.op.length = op.size := by rw [show t.op = op.data.toList by rw [eo]]; exact Array.length_toList
  unfold maxLen
  omega
 have HLK := hid (fun (w' : World) (hb : Below w.heap.size w w') => hlook w' hb hopl)
 have HTK := hid (fun (w' : World) => take_any X t.ks.length k q hqk hcap w')
 have HCT := hid (fun (w' : World) => cut_any X t.ks.length k q hqk w')
 have HQ := hid hQ
 have HV0 := hid hv
 have HQQ := hid hQQ
 have HE := hid he
 have HEO := hid eo
 have HW1 := hid hw1
 -- Leaves of what is no query
 have HVB := hid (show (leavesQ (.mk t.op [] (t.ks.drop q))).length ≤ 100000000 by
  have h1 := leaves_tot (.mk t.op [] (t.ks.drop q))
  have h2 := totL_drop t.ks q
  have h3 := totL_ks t
  have h4 := (ptot_tx t).2
  rw [Nod.tot] at h1
  simp at h1
  omega)
 have HLV := hid (fun (w' : World) (hb : Below w.heap.size w w') => pLeaves_any (.mk t.op [] (t.ks.drop q)) Sn op ⟨#[]⟩ (cutA X q k) (t.ks.length - q) (k - q) w' (fun b h => Nat.lt_of_lt_of_le (hS b h) hb.size) (by
  have h := rin_of (t := .mk t.op [] (t.ks.drop q)) (cap := k - q) ((hn.nls.bel hS hb).cut q k hcap) (by show (t.ks.drop q).length ≤ _; rw [List.length_drop]; have := nodtot_ks t; omega) (by show (t.ks.drop q).length ≤ _; rw [List.length_drop]; omega)
  rw [eo, ← List.length_drop]
  exact h) HVB.out)
 have HFB := hid (fun (h : (plansP tabs (t.ks.take q)).2 = 0) => show (plansP tabs (t.ks.take q)).1.2 ≤ 4000 by
  have h1 := plansP_fr tabs _ h
  have h2 := nodtot_ks t
  rw [List.length_take] at h1
  omega)
 clear hQ hv hQQ he hw1 hn hlook eo et hkl hopl
 obtain ⟨R, hR⟩ : ∃ R, plansP tabs (t.ks.take q) = R := ⟨_, rfl⟩
 rw [hR] at HQ HQQ HFB
 have HR := hid hR
 obtain ⟨⟨RP, RF⟩, RC⟩ := R
 dsimp only at HQQ
 have HZ1 := hid hz1
 have hz1a : w.heap.size + 1 < w1.heap.size := by omega
 have HDR := hid hdr
 clear hR hz1 hdr
 go_enter Tryz.func25, Tryz.ntmps25
 go_upto_region 1 with fail
 have HW2 := hid HW1.out
 unfold mcs zPV zSl at HW2
 dsimp only at HW2
 rw [HW2.out]
 clear HW1 HW2
 obtain ⟨x0, x1, x2, xf⟩ := N1.out
 have hlk := HLK.out w1 B1.out
 go_upto_region 2 with fail
 obtain ⟨w2, hw2⟩ : ∃ w2, w1.alloc (.cells #[.int .i64 qn, vF, vL] 92) = w2 := ⟨_, rfl⟩
 have B2 := hid (show Below w1.heap.size w1 w2 by rw [← hw2]; exact below_alloc w1 _)
 have F2 := hid (show NBox w2 w1.heap.size (.int .i64 qn) (vF) (vL) by rw [← hw2]; exact NBox.fresh _ _ _ _ _)
 rw [hw2]
 clear hw2 hlk x0 x1 x2 xf hst1 hst2
 have N2 := hid (N1.out.below B2.out)
 have M2 := hid (M1.out.below B2.out)
 have L2 := hid (B1.out.trans (B2.out.mono B1.out.size))
 obtain ⟨x0, x1, x2, xf⟩ := N2.out
 obtain ⟨y0, y1, y2, yf⟩ := F2.out
 have htk := HTK.out
 have HQ2 := hid (HQ.out w2 L2.out)
 unfold QsPost mcs at HQ2
 go_upto_region 3 with fail
 clear htk x0 x1 x2 xf y0 y1 y2 yf hq hq0
 clear hS hcap htot
 go_wp2_with fail
 refine HQ2.out.mono ?_
 rintro e w3 ⟨x, f, rfl, hb3, hok, hbd⟩
 have B3 := hid hb3
 have HOK := hid hok
 have L3 := hid (L2.out.trans (hb3.mono L2.out.size))
 clear hb3 hok hbd HQ2
 go_upto_region 4 with fail
 obtain ⟨w4, hw4⟩ : ∃ w4, w3.alloc (.cells (mcs x f) 58) = w4 := ⟨_, rfl⟩
 have B4 := hid (show Below w3.heap.size w3 w4 by rw [← hw4]; exact below_alloc w3 _)
 have G4 := hid (show MBox w4 w3.heap.size x f by rw [← hw4]; exact MBox.fresh w3 x f _)
 unfold mcs at hw4
 rw [hw4]
 clear hw4
 have L4 := hid (L3.out.trans (B4.out.mono L3.out.size))
 have B24 := hid (B3.out.trans (B4.out.mono B3.out.size))
 have N4 := hid (N2.out.below B24.out)
 have M4 := hid (M2.out.below B24.out)
 have F4 := hid (F2.out.below B24.out)
 by_cases hc : RC = 0
 case neg =>
  have HQQ := hid (show QPost w ((zeroP, 0), RC) = QQ by rw [← HQQ.out, if_pos hc])
  have f1 : (RC != 0) = true := by simpa using hc
  have HNE := hid hc
  have N0 := M4
  have HBL := L4
  clear hc
  have NE := hid (mset_ok N0.out zPV 0)
  have HE2 := hid (mset_below HBL.out (Nat.le_succ _) zPV 0)
  obtain ⟨⟨o0, o1, o2, o3, o4, o5, o6, o7, of⟩, o8⟩ := N0.out
  unfold zPV zSl at o0 o1 o2 o3 o4 o5 o6 o7
  dsimp only at o0 o1 o2 o3 o4 o5 o6 o7
  go_wp2
  clear o0 o1 o2 o3 o4 o5 o6 o7 of o8
  obtain ⟨⟨o0, o1, o2, o3, o4, o5, o6, o7, of⟩, o8⟩ := NE.out
  unfold mset at HE2 o0 o1 o2 o3 o4 o5 o6 o7 o8
  clear of
  unfold zPV zSl at o0 o1 o2 o3 o4 o5 o6 o7 o8 HE2
  dsimp only at o0 o1 o2 o3 o4 o5 o6 o7 o8 HE2
  exact bodyPost_ret (v := .tuple #[.agg (mcs zPV 0), .int .i64 RC]) (by simp [results, Tryz.results25, go_sem, o0, o1, o2, o3, o4, o5, o6, o7, o8, mcs, zPV, zSl]) rfl (by rw [← HQQ.out]; exact ⟨zPV, 0, rfl, HE2.out, fun h => absurd h HNE.out, fun _ => ⟨rfl, rfl⟩⟩)
 subst hc
 have HQN := hid (show QPost w (nodeP tabs t.op t.tx t.ks RP RF) = QQ by rw [← HQQ.out, if_neg (by simp)])
 clear HQQ
 obtain ⟨xo, xt, ⟨c1, c2, c3⟩, ⟨k1, k2, k3⟩, xe, xn, xb, xa⟩ := x
 obtain ⟨hf, hx, hcl, hown, S, hkin, hSS, hdis⟩ := HOK.out rfl
 subst hf
 dsimp only at hx hcl hown hkin hdis
 simp only [PV.mk.injEq, true_and, and_true] at hx
 obtain ⟨rfl, rfl, rfl, rfl, rfl, rfl⟩ := hx
 have HOWN := hid hown
 have HKIN := hid hkin
 have HSS := hid hSS
 have HDIS := hid hdis
 have HCL := hid hcl
 obtain ⟨V, hV⟩ : ∃ V, leavesQ (.mk t.op [] (t.ks.drop q)) = V := ⟨_, rfl⟩
 rw [hV] at HLV HVB
 have hwr : IntKind.i64.wrap ((RF : Int) + (V.length : Int)) = ((RF + V.length : Nat) : Int) := by
  have h1 := HVB.out
  have h2 := HFB.out rfl
  rw [IntKind.wrap_i64]
  omega
 have HV := hid hV
 clear hcl hown hkin hSS hdis hV HOK
 have HL4 := hid (HLV.out w4.drew (Below.drew L4.out))
 have hct := HCT.out
 obtain ⟨x0, x1, x2, xf⟩ := N4.out
 have g8 := G4.out.c8
 have gf := G4.out.box.fr
 have hg4 := G4.out.box.lt
 go_upto_region 6 with fail
 go_cut [47] (fun s9 wx => s9 = .int .i64 ((RF + V.length : Nat) : Int) ∧ But w4 wx w3.heap.size ∧ MBox wx w3.heap.size ⟨⟨#[]⟩, ⟨#[]⟩, (c1, c2, c3), (k1, k2, k3), zSl, zSl, zSl, zSl⟩ ((RF + V.length : Nat) : Int))
 case first =>
  go_region_law (first | (go_simp; refine HL4.out.mono ?_; rintro e w5 ⟨A5, cap5, rfl, hat5, hb5⟩; have L5 := hid (drew_below hb5); have y8 := (L5.out.cell (p := ⟨w3.heap.size, 8, none⟩) hg4).trans g8; have yf : ∀ j, w5.frozen? ⟨w3.heap.size, j, none⟩ = false := fun j => (L5.out.frozen (p := ⟨w3.heap.size, j, none⟩) hg4).trans (gf j); clear hat5 hb5))
  all_goals go_wp2_with fail
  all_goals go_meet
  all_goals (refine ⟨rfl, (But.of L5.out _).setCell 8 _, ⟨(G4.out.box.below L5.out).set8 _, World.cell?_setCell_same _ _ _ y8⟩⟩)
 case rest =>
  obtain ⟨rfl, hbt, hG6⟩ := hcut
  rename World => w6
  obtain ⟨Z, hZ⟩ : ∃ Z, RF + V.length = Z := ⟨_, rfl⟩
  rw [hZ] at hG6
  have HZ := hid hZ
  rw [hZ]
  clear hZ
  have HZ46 := hid hbt.size
  have G6 := hid hG6
  have B46 := hid hbt
  have hz36 : w3.heap.size ≤ w4.heap.size := B4.out.size
  have B36 := hid (B4.out.trans (hbt.below hz36 (Nat.le_refl _)))
  have hz2 := B2.out.size
  have hz3 := B3.out.size
  have B26 := hid (B3.out.trans (B36.out.mono hz3))
  have N6 := hid (N2.out.below B26.out)
  have M6 := hid (M2.out.below B26.out)
  have F6 := hid (F2.out.below B26.out)
  have L6 := hid (L3.out.trans (B36.out.mono L3.out.size))
  have KI6 := hid (HKIN.out.keep (fun p hp => B36.out.cell (HSS.out _ hp).2))
  have OW6 := hid (own_call HOWN.out B36.out)
  have OLT := hid HOWN.out.lt
  clear hwr hbt hG6 x0 x1 x2 xf g8 gf hg4 hct HL4 N4 M4 F4 G4 B24 B46 L4
  rcases HV0.out with ⟨hb1, rfl⟩ | ⟨fF, fL, capsL, rfl, rfl, enF, enL, hF, hL, hBd⟩
  ·obtain ⟨y0, y1, y2, yf⟩ := F6.out
   have HQQ := hid (show QPost w ((zeroP, 0), 1) = QQ by rw [← HQN.out]; unfold nodeP; dsimp only; rw [if_pos hb1])
   have N0 := M6
   have HBL := L6
   have hnil : ∀ w : World, (binOp .eql 64 .nilFunc .nilFunc).run Tryz.prog w = .ok (.bool true) w := fun w => rfl
   clear hb1 HQN HV0
   have NE := hid (mset_ok N0.out zPV 0)
   have HE2 := hid (mset_below HBL.out (Nat.le_succ _) zPV 0)
   obtain ⟨⟨o0, o1, o2, o3, o4, o5, o6, o7, of⟩, o8⟩ := N0.out
   unfold zPV zSl at o0 o1 o2 o3 o4 o5 o6 o7
   dsimp only at o0 o1 o2 o3 o4 o5 o6 o7
   go_wp2
   clear o0 o1 o2 o3 o4 o5 o6 o7 of o8
   obtain ⟨⟨o0, o1, o2, o3, o4, o5, o6, o7, of⟩, o8⟩ := NE.out
   unfold mset at HE2 o0 o1 o2 o3 o4 o5 o6 o7 o8
   clear of
   unfold zPV zSl at o0 o1 o2 o3 o4 o5 o6 o7 o8 HE2
   dsimp only at o0 o1 o2 o3 o4 o5 o6 o7 o8 HE2
   exact bodyPost_ret (v := .tuple #[.agg (mcs zPV 0), .int .i64 1]) (by simp [results, Tryz.results25, go_sem, o0, o1, o2, o3, o4, o5, o6, o7, o8, mcs, zPV, zSl]) rfl (by rw [← HQQ.out]; exact ⟨zPV, 0, rfl, HE2.out, fun h => absurd h (by decide), fun _ => ⟨rfl, rfl⟩⟩)
  have HL := hid hL
  have HBD := hid hBd
  have ENL := hid enL
  have HF6 := hid (hF w6 L6.out)
  obtain ⟨b1, hb1⟩ : ∃ b, formP t.op t.tx t.ks = b := ⟨_, rfl⟩
  rw [hb1] at HF6
  have HB1 := hid hb1
  clear HV0 hL hBd enL hF hb1
  obtain ⟨x0, x1, x2, xf⟩ := N6.out
  obtain ⟨y0, y1, y2, yf⟩ := F6.out
  have hnil : ∀ w : World, (binOp .eql 64 (.func (.func fF) #[] #[]) .nilFunc).run Tryz.prog w = .ok (.bool false) w := fun w => rfl
  go_wp2_with fail
  refine HF6.out.mono ?_
  rintro e w7 ⟨rfl, hb7⟩
  have B7 := hid hb7
  have L7 := hid (L6.out.trans (hb7.mono L6.out.size))
  have N7 := hid (N6.out.below hb7)
  have M7 := hid (M6.out.below hb7)
  have F7 := hid (F6.out.below hb7)
  have G7 := hid (G6.out.below hb7)
  have KI7 := hid (KI6.out.keep (fun p hp => hb7.cell (Nat.lt_of_lt_of_le (HSS.out _ hp).2 B36.out.size)))
  have OW7 := hid (own_call OW6.out hb7)
  clear hb7 x0 x1 x2 xf y0 y1 y2 yf enF HF6 hnil
  cases b1
  case false =>
   have HQQ := hid (show QPost w ((zeroP, 0), 1) = QQ by rw [← HQN.out]; unfold nodeP; dsimp only; rw [if_pos HB1.out])
   have N0 := M7
   have HBL := L7
   have NE := hid (mset_ok N0.out zPV 0)
   have HE2 := hid (mset_below HBL.out (Nat.le_succ _) zPV 0)
   obtain ⟨⟨o0, o1, o2, o3, o4, o5, o6, o7, of⟩, o8⟩ := N0.out
   unfold zPV zSl at o0 o1 o2 o3 o4 o5 o6 o7
   dsimp only at o0 o1 o2 o3 o4 o5 o6 o7
   go_wp2
   clear o0 o1 o2 o3 o4 o5 o6 o7 of o8
   obtain ⟨⟨o0, o1, o2, o3, o4, o5, o6, o7, of⟩, o8⟩ := NE.out
   unfold mset at HE2 o0 o1 o2 o3 o4 o5 o6 o7 o8
   clear of
   unfold zPV zSl at o0 o1 o2 o3 o4 o5 o6 o7 o8 HE2
   dsimp only at o0 o1 o2 o3 o4 o5 o6 o7 o8 HE2
   exact bodyPost_ret (v := .tuple #[.agg (mcs zPV 0), .int .i64 1]) (by simp [results, Tryz.results25, go_sem, o0, o1, o2, o3, o4, o5, o6, o7, o8, mcs, zPV, zSl]) rfl (by rw [← HQQ.out]; exact ⟨zPV, 0, rfl, HE2.out, fun h => absurd h (by decide), fun _ => ⟨rfl, rfl⟩⟩)
  have g8 := G7.out.c8
  obtain ⟨z0, z1, z2, z3, z4, z5, z6, z7, zf⟩ := G7.out.box
  unfold zSl at z4 z5 z6 z7
  dsimp only at z0 z1 z2 z3 z4 z5 z6 z7
  by_cases h4 : 4 < Z
  case pos =>
   have HQQ := hid (show QPost w ((zeroP, 0), 62) = QQ by rw [← HQN.out]; unfold nodeP; dsimp only; rw [if_neg (by rw [HB1.out]; decide), HDR.out, HV.out, HZ.out, if_pos h4])
   have f4 : decide ((4 : Int) < (Z : Int)) = true := by rw [decide_eq_true_iff]; omega
   have N0 := M7
   have HBL := L7
   clear z0 z1 z2 z3 z4 z5 z6 z7 zf
   have NE := hid (mset_ok N0.out zPV 0)
   have HE2 := hid (mset_below HBL.out (Nat.le_succ _) zPV 0)
   obtain ⟨⟨o0, o1, o2, o3, o4, o5, o6, o7, of⟩, o8⟩ := N0.out
   unfold zPV zSl at o0 o1 o2 o3 o4 o5 o6 o7
   dsimp only at o0 o1 o2 o3 o4 o5 o6 o7
   go_wp2
   clear o0 o1 o2 o3 o4 o5 o6 o7 of o8
   obtain ⟨⟨o0, o1, o2, o3, o4, o5, o6, o7, of⟩, o8⟩ := NE.out
   unfold mset at HE2 o0 o1 o2 o3 o4 o5 o6 o7 o8
   clear of
   unfold zPV zSl at o0 o1 o2 o3 o4 o5 o6 o7 o8 HE2
   dsimp only at o0 o1 o2 o3 o4 o5 o6 o7 o8 HE2
   exact bodyPost_ret (v := .tuple #[.agg (mcs zPV 0), .int .i64 62]) (by simp [results, Tryz.results25, go_sem, o0, o1, o2, o3, o4, o5, o6, o7, o8, mcs, zPV, zSl]) rfl (by rw [← HQQ.out]; exact ⟨zPV, 0, rfl, HE2.out, fun h => absurd h (by decide), fun _ => ⟨rfl, rfl⟩⟩)
  have f4 : decide ((4 : Int) < (Z : Int)) = false := by rw [decide_eq_false_iff_not]; omega
  have H4 := hid h4
  obtain ⟨x0, x1, x2, xf⟩ := N7.out
  obtain ⟨y0, y1, y2, yf⟩ := F7.out
  have z8 := g8
  go_upto_region 12 with fail
  obtain ⟨w8, hw8⟩ : ∃ w8, w7.setCell ⟨w3.heap.size, 0, none⟩ (.string op) = w8 := ⟨_, rfl⟩
  have BT8 := hid (show But w7 w8 w3.heap.size by rw [← hw8]; exact (But.refl _ _).setCell 0 _)
  have G8 := hid (show MBox w8 w3.heap.size ⟨op, ⟨#[]⟩, (c1, c2, c3), (k1, k2, k3), zSl, zSl, zSl, zSl⟩ (Z : Int) by
   rw [← hw8]
   exact ⟨G7.out.box.set0 op, (World.cell?_setCell_other _ _ _ _ (by simp)).trans g8⟩)
  have L8 := hid (show Below w.heap.size w w8 by rw [← hw8]; exact L7.out.setCell (p := ⟨w3.heap.size, 0, none⟩) L3.out.size _)
  rw [hw8]
  clear hw8 z0 z1 z2 z3 z4 z5 z6 z7 z8 g8 zf x0 x1 x2 xf y0 y1 y2 yf f4 h4
  have hz47 : w4.heap.size ≤ w7.heap.size := Nat.le_trans HZ46.out B7.out.size
  have hz34 := B4.out.size
  have z38 : w3.heap.size < w8.heap.size := G8.out.box.lt
  have hlt3 : w.heap.size + 1 < w3.heap.size := by omega
  have hlt1 : w1.heap.size < w3.heap.size := Nat.lt_of_lt_of_le F2.out.lt hz3
  have N8 := hid (N7.out.but (by omega) BT8.out)
  have M8 := hid (M7.out.but BT8.out (by omega))
  have F8 := hid (F7.out.but (by omega) BT8.out)
  have hz67 : w3.heap.size ≤ w7.heap.size := by omega
  have KI8 := hid (KI7.out.keep (fun p hp => BT8.out.cell (Nat.lt_of_lt_of_le (HSS.out _ hp).2 hz67) (by have := (HSS.out _ hp).2; omega)))
  have OW8 := hid (own_butR OW7.out BT8.out (fun e => by have := (OLT.out _ e).2; omega))
  have HPS := hid (show RP = (t.ks.take q).map (fun x => (planP tabs x).1.1) from by
   have h := plansP_ok tabs (t.ks.take q) (fun j hj => plansP_inv tabs _ (by rw [HR.out]) _ (List.getElem_mem hj))
   rw [HR.out] at h
   exact congrArg (fun r => r.1.1) h)
  have HPR := hid (show FPre (w.heap.size + 2) S w8 w3.heap.size ⟨t.op.toArray⟩ (c1, c2, c3) (k1, k2, k3) (RP.headD zeroP).cols from
   ⟨by rw [← HEO.out]; exact G8.out.box, by omega, HCL.out, own_le OW8.out (by rw [← HZ1.out]; exact hz2), fun k hk => ⟨HDIS.out k hk, by have := (OLT.out k hk).2; omega⟩, fun k hk => ⟨by have := (HSS.out k hk).2; omega, by have := (HSS.out k hk).2; omega⟩⟩)
  have HL8 := hid (HL.out (w.heap.size + 2) S w3.heap.size (c1, c2, c3) (k1, k2, k3) (RP.headD zeroP).cols RP w8 L8.out (by omega) (by omega) (fun j hj => plansP_inv tabs _ (by rw [HR.out]) _ (List.getElem_mem hj)) HPS.out rfl HPR.out KI8.out HB1.out)
  have HBO := hid (HBD.out RP HPS.out)
  unfold FPost at HL8
  obtain ⟨OW, hOW⟩ : ∃ OW, ownP tabs t.op t.tx t.ks RP = OW := ⟨_, rfl⟩
  rw [hOW] at HL8 HBO
  have HOW := hid hOW
  obtain ⟨OP, OC⟩ := OW
  dsimp only at HL8 HBO
  clear hOW
  obtain ⟨x0, x1, x2, xf⟩ := N8.out
  obtain ⟨y0, y1, y2, yf⟩ := F8.out
  have enL := ENL.out
  have hzg : w3.heap.size < w8.heap.size := z38
  go_wp2_with fail
  refine HL8.out.mono ?_
  rintro e w9 ⟨rfl, hb9, hk9, hok9⟩
  have B9 := hid hb9
  have K9 := hid hk9
  have OK9 := hid hok9
  have L9 := hid (L8.out.trans (hb9.mono (Nat.le_add_right _ 2)))
  have M9 := hid (show MBox w9 (w.heap.size + 1) zPV 0 from M8.out.low hb9 (by omega))
  clear hb9 hk9 hok9 x0 x1 x2 xf y0 y1 y2 yf enL HL8
  by_cases ho : OC = 0
  case neg =>
   have HQQ := hid (show QPost w ((zeroP, 0), OC) = QQ by rw [← HQN.out]; unfold nodeP; dsimp only; rw [if_neg (by rw [HB1.out]; decide), HDR.out, HV.out, HZ.out, if_neg H4.out, HOW.out, if_pos ho])
   have f1 : (OC != 0) = true := by simpa using ho
   have HNE := hid ho
   have N0 := M9
   have HBL := L9
   clear ho
   have NE := hid (mset_ok N0.out zPV 0)
   have HE2 := hid (mset_below HBL.out (Nat.le_succ _) zPV 0)
   obtain ⟨⟨o0, o1, o2, o3, o4, o5, o6, o7, of⟩, o8⟩ := N0.out
   unfold zPV zSl at o0 o1 o2 o3 o4 o5 o6 o7
   dsimp only at o0 o1 o2 o3 o4 o5 o6 o7
   go_wp2
   clear o0 o1 o2 o3 o4 o5 o6 o7 of o8
   obtain ⟨⟨o0, o1, o2, o3, o4, o5, o6, o7, of⟩, o8⟩ := NE.out
   unfold mset at HE2 o0 o1 o2 o3 o4 o5 o6 o7 o8
   clear of
   unfold zPV zSl at o0 o1 o2 o3 o4 o5 o6 o7 o8 HE2
   dsimp only at o0 o1 o2 o3 o4 o5 o6 o7 o8 HE2
   exact bodyPost_ret (v := .tuple #[.agg (mcs zPV 0), .int .i64 OC]) (by simp [results, Tryz.results25, go_sem, o0, o1, o2, o3, o4, o5, o6, o7, o8, mcs, zPV, zSl]) rfl (by rw [← HQQ.out]; exact ⟨zPV, 0, rfl, HE2.out, fun h => absurd h HNE.out, fun _ => ⟨rfl, rfl⟩⟩)
  subst ho
  obtain ⟨hfok, hc8⟩ := OK9.out (by first | exact rfl | exact trivial)
  have HFK := hid hfok
  have H8 := hid (hc8.trans G8.out.c8)
  obtain ⟨x', S', hbx, hki, hcol, hown, hob, hS', hr⟩ := hfok
  clear hc8 hki hS' hr OK9
  obtain ⟨yo, yt, ⟨d1, d2, d3⟩, yk, ye, yn, yb, ya⟩ := x'
  dsimp only at hcol hown hob
  have HBX := hid hbx
  obtain ⟨CL, hCL⟩ : ∃ CL, OP.cols = CL := ⟨_, rfl⟩
  rw [hCL] at hcol hown HBO
  have HCLS := hid hCL
  subst hcol
  have hcap9 : CL.length ≤ d3 := by
   obtain ⟨A9, cp9, e9, -, hl9⟩ := own_ats wc_length hown
   injection e9 with _ _ e9
   rw [e9]
   exact hl9
  have HG9 := hid (HE.out.below L9.out).glob
  have hmg : 0 < w.heap.size := World.block_lt_of_cell? _ _ HE.out.glob
  have hzz9 := L9.out.size
  have hg39 := hbx.lt
  have HNUM : Hid (∃ g0, w.heap.size + 2 ≤ g0 ∧ g0 ≠ w3.heap.size ∧ (0 < CL.length → (Value.slice d1 CL.length d3).ownBlock = some g0) ∧ (CL.length = 0 → g0 = w9.heap.size) ∧ Calls Tryz.prog 61 #[.slice d1 CL.length d3] w9 (NumPost w9 g0 CL)) := hid (by
   by_cases h0 : 0 < CL.length
   ·obtain ⟨g1, cap1, hv, hg1, hlt, hfr, hcells⟩ := own_cellsG hown h0
    injection hv with hv1 _ hv3
    subst hv1 hv3
    exact ⟨g1, hg1, (hob g1 rfl).2.2, fun _ => rfl, fun h => absurd h (by omega), number_any g1 d3 _ CL m w9 (fun _ => rfl) (fun _ => hcells) (fun _ => hfr) (fun _ => hlt) (by have := HBO.out.1; omega) hcap9 HBO.out.2 HG9.out (by omega)⟩
   ·exact ⟨w9.heap.size, by have := B9.out.size; omega, by omega, fun h => absurd h h0, fun _ => rfl, number_any w9.heap.size d3 d1 CL m w9 (fun h => absurd h h0) (fun h => absurd h h0) (fun h => absurd h h0) (fun h => absurd h h0) (by omega) hcap9 HBO.out.2 HG9.out (by omega)⟩)
  obtain ⟨g0, hg0, hg03, hgs, hgn, hnum⟩ := HNUM.out
  have HN9 := hid hnum
  have HGS := hid hgs
  have HGN := hid hgn
  have HOB := hid hob
  unfold NumPost at HN9
  obtain ⟨WC, hWC⟩ : ∃ WC, wrongC CL = WC := ⟨_, rfl⟩
  rw [hWC] at HN9
  have HWC := hid hWC
  clear hWC hnum hgs hgn hob hown hcap9 hCL hmg HNUM
  obtain ⟨z0, z1, z2, z3, z4, z5, z6, z7, zf⟩ := hbx
  dsimp only at z0 z1 z2 z3 z4 z5 z6 z7
  go_wp2_with fail
  refine HN9.out.mono ?_
  rintro e w10 ⟨rfl, hb10, hc10⟩
  have B10 := hid hb10
  have C10 := hid hc10
  have L10 := hid (L9.out.trans (hb10.below (Nat.le_trans (Nat.le_refl _) hzz9) (by omega)))
  have M10 := hid (M9.out.but hb10 (by omega))
  have X10 := hid (show MBox w10 w3.heap.size ⟨yo, yt, (d1, CL.length, d3), yk, ye, yn, yb, ya⟩ (Z : Int) from ⟨HBX.out.keep (hb10.block _ hg39 (Ne.symm hg03)), (hb10.cell (q := ⟨w3.heap.size, 8, none⟩) hg39 (Ne.symm hg03)).trans H8.out⟩)
  clear hb10 hc10 HN9 z0 z1 z2 z3 z4 z5 z6 z7 zf
  by_cases ho : WC = 0
  case neg =>
   have HQQ := hid (show QPost w ((zeroP, 0), WC) = QQ by
    rw [← HQN.out]
    unfold nodeP
    dsimp only
    rw [if_neg (by rw [HB1.out]; decide), HDR.out, HV.out, HZ.out, if_neg H4.out, HOW.out, if_neg (by simp)]
    have h1 := HCLS.out
    have h2 := HWC.out
    cases OP with
    | mk o1 o2 o3 o4 o5 o6 o7 o8 =>
     have h1 : o7 = CL := h1
     subst h1
     unfold sealP
     dsimp only
     rw [h2, if_pos ho])
   have f1 : (WC != 0) = true := by simpa using ho
   have HNE := hid ho
   have N0 := M10
   have HBL := L10
   clear ho
   have NE := hid (mset_ok N0.out zPV 0)
   have HE2 := hid (mset_below HBL.out (Nat.le_succ _) zPV 0)
   obtain ⟨⟨o0, o1, o2, o3, o4, o5, o6, o7, of⟩, o8⟩ := N0.out
   unfold zPV zSl at o0 o1 o2 o3 o4 o5 o6 o7
   dsimp only at o0 o1 o2 o3 o4 o5 o6 o7
   go_wp2
   clear o0 o1 o2 o3 o4 o5 o6 o7 of o8
   obtain ⟨⟨o0, o1, o2, o3, o4, o5, o6, o7, of⟩, o8⟩ := NE.out
   unfold mset at HE2 o0 o1 o2 o3 o4 o5 o6 o7 o8
   clear of
   unfold zPV zSl at o0 o1 o2 o3 o4 o5 o6 o7 o8 HE2
   dsimp only at o0 o1 o2 o3 o4 o5 o6 o7 o8 HE2
   exact bodyPost_ret (v := .tuple #[.agg (mcs zPV 0), .int .i64 WC]) (by simp [results, Tryz.results25, go_sem, o0, o1, o2, o3, o4, o5, o6, o7, o8, mcs, zPV, zSl]) rfl (by rw [← HQQ.out]; exact ⟨zPV, 0, rfl, HE2.out, fun h => absurd h HNE.out, fun _ => ⟨rfl, rfl⟩⟩)
  subst ho
  have HPI := hid (show PIn w10 (fun b => w.heap.size + 2 ≤ b ∧ b < w10.heap.size) (.mk OP.op OP.tab OP.ex OP.on OP.bk OP.ag (numberedP OP.cols) RP) ⟨yo, yt, (d1, CL.length, d3), yk, ye, yn, yb, ya⟩ from
   fin_pin (own_mk2 HOW.out) HFK.out (KI8.out.keep K9.out) (fun b hb => ⟨by have := (HSS.out b hb).1; rw [HZ1.out] at hz2; omega, by have := (HSS.out b hb).2; omega⟩) _ HBX.out g0 B10.out (by rw [HCLS.out]; exact HGS.out) (by rw [HCLS.out]; exact fun h b _ h2 => by rw [HGN.out h]; omega) (by rw [HCLS.out]; exact C10.out))
  have HQQ := hid (show QPost w ((.mk OP.op OP.tab OP.ex OP.on OP.bk OP.ag (numberedP OP.cols) RP, Z), 0) = QQ by
   rw [← HQN.out]
   unfold nodeP
   dsimp only
   rw [if_neg (by rw [HB1.out]; decide), HDR.out, HV.out, HZ.out, if_neg H4.out, HOW.out, if_neg (by simp)]
   have h1 := HCLS.out
   have h2 := HWC.out
   have h3 := own_mk2 HOW.out
   cases OP with
   | mk o1 o2 o3 o4 o5 o6 o7 o8 =>
    have h1 : o7 = CL := h1
    have h3 : o8 = RP := h3
    subst h1 h3
    unfold sealP
    dsimp only
    rw [h2, if_neg (by simp)]
    rfl)
  have HE9 := hid (show QPost w ((.mk OP.op OP.tab OP.ex OP.on OP.bk OP.ag (numberedP OP.cols) RP, Z), 0) (.returned (.tuple #[.agg (mcs ⟨yo, yt, (d1, CL.length, d3), yk, ye, yn, yb, ya⟩ (Z : Int)), .int .i64 0])) (mset w10 (w.heap.size + 1) ⟨yo, yt, (d1, CL.length, d3), yk, ye, yn, yb, ya⟩ (Z : Int)) from
   ⟨_, _, rfl, mset_below L10.out (Nat.le_succ _) _ _, fun _ => ⟨rfl, HPI.out.keep (fun b h => ⟨by omega, Nat.lt_of_lt_of_le h.2 (mset_but _ _ _ _).size⟩) (fun p hp => (mset_but _ _ _ _).cell (q := p) hp.2 (by have := hp.1; omega))⟩, fun h => absurd rfl h⟩)
  have NE := hid (mset_ok M10.out ⟨yo, yt, (d1, CL.length, d3), yk, ye, yn, yb, ya⟩ (Z : Int))
  obtain ⟨⟨o0, o1, o2, o3, o4, o5, o6, o7, of⟩, o8⟩ := M10.out
  unfold zPV zSl at o0 o1 o2 o3 o4 o5 o6 o7
  dsimp only at o0 o1 o2 o3 o4 o5 o6 o7
  obtain ⟨⟨p0, p1, p2, p3, p4, p5, p6, p7, pf⟩, p8⟩ := X10.out
  dsimp only at p0 p1 p2 p3 p4 p5 p6 p7
  go_wp2
  clear o0 o1 o2 o3 o4 o5 o6 o7 of o8 p0 p1 p2 p3 p4 p5 p6 p7 pf p8
  obtain ⟨⟨o0, o1, o2, o3, o4, o5, o6, o7, of⟩, o8⟩ := NE.out
  unfold mset at HE9 o0 o1 o2 o3 o4 o5 o6 o7 o8
  clear of
  dsimp only at o0 o1 o2 o3 o4 o5 o6 o7 o8 HE9
  exact bodyPost_ret (v := .tuple #[.agg (mcs ⟨yo, yt, (d1, CL.length, d3), yk, ye, yn, yb, ya⟩ (Z : Int)), .int .i64 0]) (by simp [results, Tryz.results25, go_sem, o0, o1, o2, o3, o4, o5, o6, o7, o8, mcs]) rfl (by rw [← HQQ.out]; exact HE9.out)
end Go.Proofs.YthpmgnfmeldkjaaGreatDoor.Code
