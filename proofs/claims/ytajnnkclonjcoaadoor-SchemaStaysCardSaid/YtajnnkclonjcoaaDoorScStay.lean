/-
  Of a schema another one comes, in plain words. No program is named here.
-/
import Derived.Test.YtajnnkclonjcoaaDoorM3
namespace Go.Proofs.YtajnnkclonjcoaaDoor.Code
open Val
set_option linter.unusedVariables false
def Two (x y : W) : Prop := x.1 ≠ y.1 ∧ x.2.1 ≠ y.2.1
theorem apart_iff (c : W) (l : List W) : apartC c l = true ↔ ∀ x ∈ l, Two x c := by
  unfold apartC Two
  rw [List.all_eq_true]
  simp
theorem schL_iff : ∀ (l a : List W), schL a l = true ↔ (∀ c ∈ l, colC c = true) ∧ (∀ x ∈ a, ∀ c ∈ l, Two x c) ∧ l.Pairwise Two
  | [], a => by simp [schL]
  | c :: l, a => by
    rw [schL, Bool.and_eq_true, Bool.and_eq_true, apart_iff, schL_iff l]
    constructor
    · rintro ⟨h1, h2, h3, h4, h5⟩
      refine ⟨fun d hd => ?_, fun x hx d hd => ?_, List.Pairwise.cons (fun d hd => h4 c (List.mem_append_right _ (List.mem_singleton.2 rfl)) d hd) h5⟩
      · rcases List.mem_cons.1 hd with rfl | hd
        · exact h1
        · exact h3 d hd
      · rcases List.mem_cons.1 hd with rfl | hd
        · exact h2 x hx
        · exact h4 x (List.mem_append_left _ hx) d hd
    · rintro ⟨h1, h2, h3⟩
      have h4 := List.pairwise_cons.1 h3
      refine ⟨h1 c (List.mem_cons_self ..), fun x hx => h2 x hx c (List.mem_cons_self ..), fun d hd => h1 d (List.mem_cons_of_mem _ hd), fun x hx d hd => ?_, h4.2⟩
      rcases List.mem_append.1 hx with hx | hx
      · exact h2 x hx d (List.mem_cons_of_mem _ hd)
      · obtain rfl := List.mem_singleton.1 hx
        exact h4.1 d hd
theorem sch_iff (l : List W) : schC l = true ↔ ((∀ c ∈ l, colC c = true) ∧ l.Pairwise Two) ∧ 1 ≤ l.length ∧ l.length ≤ 12 := by
  unfold schC
  rw [Bool.and_eq_true, schL_iff, Bool.and_eq_true]
  simp
theorem add_stays {l a : List W} {c : W} (h : schC l = true) (ha : addC l c = (a, 0)) : schC a = true ∧ a = l ++ [c] := by
  rw [sch_iff] at h
  unfold addC at ha
  split at ha
  · cases ha
  rename_i h1
  split at ha
  · cases ha
  rename_i h2
  split at ha
  · cases ha
  rename_i h3
  cases ha
  refine ⟨?_, rfl⟩
  simp only [Bool.not_eq_false, Bool.and_eq_true, List.all_eq_true] at h1
  have hn : findC l c.2.1 = none := by
    cases e : findC l c.2.1 with
    | none => rfl
    | some k => rw [e] at h2; exact absurd rfl h2
  rw [sch_iff]
  refine ⟨⟨fun d hd => ?_, List.pairwise_append.2 ⟨h.1.2, List.pairwise_singleton _ _, fun x hx d hd => ?_⟩⟩, by simp, by simp; omega⟩
  · rcases List.mem_append.1 hd with hd | hd
    · exact h.1.1 d hd
    · obtain rfl := List.mem_singleton.1 hd
      exact h1.1
  · obtain rfl := List.mem_singleton.1 hd
    exact ⟨by simpa using h1.2 x hx, find_none hn x hx⟩
theorem names_apart {l : List W} (h : l.Pairwise Two) {i j : Nat} (hi : i < l.length) (hj : j < l.length) (hne : i ≠ j) : l[i].1 ≠ l[j].1 ∧ l[i].2.1 ≠ l[j].2.1 := by
  have hp := List.pairwise_iff_getElem.1 h
  rcases Nat.lt_or_gt_of_ne hne with hlt | hlt
  · exact hp i j hi hj hlt
  · have := hp j i hj hi hlt
    exact ⟨fun e => this.1 e.symm, fun e => this.2 e.symm⟩
theorem drop_stays {l d : List W} {s : List UInt8} (h : schC l = true) (hd : dropC l s = (d, 0)) : schC d = true ∧ d.length = l.length - 1 ∧ findC d s = none := by
  rw [sch_iff] at h
  unfold dropC at hd
  split at hd
  · cases hd
  rename_i k hk
  split at hd
  · cases hd
  rename_i h1
  cases hd
  obtain ⟨hi, hs, _⟩ := find_some hk
  have hl : (l.eraseIdx k).length = l.length - 1 := List.length_eraseIdx_of_lt hi
  refine ⟨?_, hl, find_no fun c hc => ?_⟩
  · rw [sch_iff]
    exact ⟨⟨fun c hc => h.1.1 c (List.mem_of_mem_eraseIdx hc), h.1.2.sublist (List.eraseIdx_sublist ..)⟩, by omega, by omega⟩
  · obtain ⟨j, hj, hne, e⟩ := List.mem_eraseIdx_iff_getElem.1 hc
    rw [← e, ← hs]
    exact (names_apart h.1.2 hj hi hne).2
theorem modify_get {l : List W} {k : Nat} {f : W → W} {i : Nat} (hi : i < (l.modify k f).length) : (l.modify k f)[i] = if k = i then f (l[i]'(by simpa using hi)) else l[i]'(by simpa using hi) := List.getElem_modify ..
theorem rename_stays {l r : List W} {s to : List UInt8} (h : schC l = true) (hr : renameC l s to = (r, 0)) : schC r = true ∧ r.length = l.length ∧ (∀ (i : Nat) (hi : i < l.length) (hi' : i < r.length), r[i].1 = l[i].1) ∧ findC r s = none ∧ (findC r to).isSome = true := by
  rw [sch_iff] at h
  unfold renameC at hr
  split at hr
  · cases hr
  rename_i k hk
  split at hr
  · cases hr
  rename_i h1
  split at hr
  · cases hr
  rename_i h2
  cases hr
  obtain ⟨hi, hs, _⟩ := find_some hk
  have hn : findC l to = none := by
    cases e : findC l to with
    | none => rfl
    | some k => rw [e] at h2; exact absurd rfl h2
  have hl : (l.modify k fun c => (c.1, to, c.2.2)).length = l.length := by simp
  have hto : ∀ (i : Nat) (hi : i < l.length), l[i].2.1 ≠ to := fun i hi => find_none hn _ (List.getElem_mem hi)
  have hcol : ∀ c ∈ (l.modify k fun c => (c.1, to, c.2.2)), colC c = true := by
    intro c hc
    obtain ⟨j, hj, rfl⟩ := List.getElem_of_mem hc
    have hj' : j < l.length := by omega
    have h9 := h.1.1 l[j] (List.getElem_mem hj')
    rw [modify_get]
    split
    · unfold colC at h9 ⊢
      simp only [Bool.and_eq_true] at h9 ⊢
      exact ⟨by simpa using h1, h9.2⟩
    · exact h9
  refine ⟨?_, hl, ?_, ?_, ?_⟩
  · rw [sch_iff]
    refine ⟨⟨hcol, List.pairwise_iff_getElem.2 fun i j hi hj hij => ?_⟩, by omega, by omega⟩
    have hi' : i < l.length := by omega
    have hj' : j < l.length := by omega
    have h9 := names_apart h.1.2 hi' hj' (by omega)
    rw [modify_get, modify_get]
    by_cases e1 : k = i
    · rw [if_pos e1, if_neg (by omega)]
      exact ⟨h9.1, fun e => hto j hj' e.symm⟩
    · rw [if_neg e1]
      by_cases e2 : k = j
      · rw [if_pos e2]
        exact ⟨h9.1, fun e => hto i hi' e⟩
      · rw [if_neg e2]
        exact h9
  · intro i hi hi'
    rw [modify_get]
    split <;> rfl
  · refine find_no fun c hc => ?_
    obtain ⟨j, hj, rfl⟩ := List.getElem_of_mem hc
    have hj' : j < l.length := by omega
    rw [modify_get]
    by_cases e1 : k = j
    · rw [if_pos e1, ← hs]
      exact fun e => hto k hi e.symm
    · rw [if_neg e1, ← hs]
      exact (names_apart h.1.2 hj' hi (fun e => e1 e.symm)).2
  · cases e : findC (l.modify k fun c => (c.1, to, c.2.2)) to with
    | some q => rfl
    | none =>
      have := find_none e (l.modify k fun c => (c.1, to, c.2.2))[k] (List.getElem_mem (by omega))
      rw [modify_get, if_pos rfl] at this
      exact absurd rfl this
theorem widen_stays {l r : List W} {s : List UInt8} {k : Int} (h : schC l = true) (hr : widenC l s k = (r, 0)) : schC r = true ∧ r.length = l.length ∧ (∀ (i : Nat) (hi : i < l.length) (hi' : i < r.length), r[i].1 = l[i].1 ∧ r[i].2.1 = l[i].2.1) := by
  rw [sch_iff] at h
  unfold widenC at hr
  split at hr
  · cases hr
  rename_i q hq
  split at hr
  · cases hr
  rename_i h1
  split at hr
  · cases hr
  rename_i h2
  cases hr
  have hl : (l.modify q fun c => (c.1, c.2.1, k)).length = l.length := by simp
  refine ⟨?_, hl, ?_⟩
  · rw [sch_iff]
    refine ⟨⟨fun c hc => ?_, List.pairwise_iff_getElem.2 fun i j hi hj hij => ?_⟩, by omega, by omega⟩
    · obtain ⟨j, hj, rfl⟩ := List.getElem_of_mem hc
      have hj' : j < l.length := by omega
      have h9 := h.1.1 l[j] (List.getElem_mem hj')
      rw [modify_get]
      split
      · unfold colC at h9 ⊢
        simp only [Bool.and_eq_true] at h9 ⊢
        exact ⟨h9.1, by simpa using h1, h9.2.2⟩
      · exact h9
    · have hi' : i < l.length := by omega
      have hj' : j < l.length := by omega
      have h9 := names_apart h.1.2 hi' hj' (by omega)
      rw [modify_get, modify_get]
      split <;> split <;> exact h9
  · intro i hi hi'
    rw [modify_get]
    split <;> exact ⟨rfl, rfl⟩
end Go.Proofs.YtajnnkclonjcoaaDoor.Code
