/-
  Sets of rows with weights, in plain words: the order of rows is one; a row's weight in a list of items; a set is told by its weights alone; an item put into a set. No program is named here.
-/
import Derived.Test.YtlejhimcaidbeaaRowCmpPure
namespace Go.Proofs.Ytlejhimcaidbeaa.ZP
open Val Go.Proofs.Ytlejhimcaidbeaa.Code
set_option linter.unusedVariables false

theorem cmpV_lt_trans {a b c : Int × Int × ByteArray} (h : cmpV a.1 a.2.1 a.2.2 b.1 b.2.1 b.2.2 = -1) (g : cmpV b.1 b.2.1 b.2.2 c.1 c.2.1 c.2.2 = -1) : cmpV a.1 a.2.1 a.2.2 c.1 c.2.1 c.2.2 = -1 := by
  have h1 := cmpV_trans h (by rw [g]; decide)
  rcases cmpV_range a.1 a.2.1 a.2.2 c.1 c.2.1 c.2.2 with e | e | e
  · exact e
  · obtain ⟨e1, e2, e3⟩ := cmpV_zero e
    rw [← e1, ← e2, ← e3, cmpV_neg, h] at g
    exact absurd g (by decide)
  · omega
theorem cmpV_eq {a b : Int × Int × ByteArray} (h : cmpV a.1 a.2.1 a.2.2 b.1 b.2.1 b.2.2 = 0) : a = b := by
  obtain ⟨e1, e2, e3⟩ := cmpV_zero h
  obtain ⟨a1, a2, a3⟩ := a
  obtain ⟨b1, b2, b3⟩ := b
  simp only at e1 e2 e3
  rw [e1, e2, e3]
theorem cmpL_lt_trans : ∀ {a b c : List (Int × Int × ByteArray)}, cmpL a b = -1 → cmpL b c = -1 → cmpL a c = -1
  | [], [], _, h, _ => by rw [cmpL] at h; exact absurd h (by decide)
  | _ :: _, [], _, h, _ => by rw [cmpL] at h; exact absurd h (by decide)
  | _, _ :: _, [], _, g => by rw [cmpL] at g; exact absurd g (by decide)
  | [], _ :: _, _ :: _, _, _ => by rw [cmpL]
  | x :: l, y :: m, z :: n, h, g => by
    rw [cmpL] at h g ⊢
    by_cases h1 : cmpV x.1 x.2.1 x.2.2 y.1 y.2.1 y.2.2 = 0
    · rw [if_neg (by simpa using h1)] at h
      have e := cmpV_eq h1
      subst e
      by_cases h2 : cmpV x.1 x.2.1 x.2.2 z.1 z.2.1 z.2.2 = 0
      · rw [if_neg (by simpa using h2)] at g ⊢
        exact cmpL_lt_trans h g
      · rw [if_pos h2] at g ⊢
        exact g
    · rw [if_pos h1] at h
      by_cases h2 : cmpV y.1 y.2.1 y.2.2 z.1 z.2.1 z.2.2 = 0
      · have e := cmpV_eq h2
        subst e
        rw [if_pos h1]
        exact h
      · rw [if_pos h2] at g
        have := cmpV_lt_trans h g
        rw [if_pos (by rw [this]; decide)]
        exact this
theorem lt_irrefl {a : List (Int × Int × ByteArray)} (h : cmpL a a = -1) : False := by rw [cmpL_self] at h; exact absurd h (by decide)
theorem lt_asymm {a b : List (Int × Int × ByteArray)} (h : cmpL a b = -1) (g : cmpL b a = -1) : False := lt_irrefl (cmpL_lt_trans h g)
theorem lt_cases (a b : List (Int × Int × ByteArray)) : cmpL a b = -1 ∨ a = b ∨ cmpL b a = -1 := by
  rcases cmpL_range a b with h | h | h
  · exact .inl h
  · exact .inr (.inl (cmpL_zero h))
  · exact .inr (.inr (by rw [cmpL_neg, h]))

/-- a row's weight, of all items -/
def weightP : List (List (Int × Int × ByteArray) × Int) → List (Int × Int × ByteArray) → Int
  | [], _ => 0
  | x :: l, r => (if x.1 = r then x.2 else 0) + weightP l r
theorem weightP_append (r : List (Int × Int × ByteArray)) (b : List (List (Int × Int × ByteArray) × Int)) : ∀ a, weightP (a ++ b) r = weightP a r + weightP b r
  | [] => by simp [weightP]
  | x :: a => by
    show weightP (x :: (a ++ b)) r = _
    rw [weightP, weightP, weightP_append r b a]
    omega
theorem weightP_out {r : List (Int × Int × ByteArray)} : ∀ {l : List (List (Int × Int × ByteArray) × Int)}, (∀ x ∈ l, x.1 ≠ r) → weightP l r = 0
  | [], _ => rfl
  | x :: l, h => by
    rw [weightP, if_neg (h x (by simp)), weightP_out (fun y hy => h y (by simp [hy]))]
    rfl
/-- rows rise -/
def Rising (S : List (List (Int × Int × ByteArray) × Int)) : Prop := S.Pairwise fun a b => cmpL a.1 b.1 = -1
/-- a set of rows with weights -/
def IsSet (S : List (List (Int × Int × ByteArray) × Int)) : Prop := Rising S ∧ ∀ x ∈ S, x.2 ≠ 0
theorem IsSet.nil : IsSet [] := ⟨List.Pairwise.nil, fun x hx => by cases hx⟩
theorem IsSet.tail {x : List (Int × Int × ByteArray) × Int} {S : List (List (Int × Int × ByteArray) × Int)} (h : IsSet (x :: S)) : IsSet S := ⟨(List.pairwise_cons.1 h.1).2, fun y hy => h.2 y (by simp [hy])⟩
theorem IsSet.head {x : List (Int × Int × ByteArray) × Int} {S : List (List (Int × Int × ByteArray) × Int)} (h : IsSet (x :: S)) : ∀ y ∈ S, cmpL x.1 y.1 = -1 := (List.pairwise_cons.1 h.1).1
theorem head_weight {x : List (Int × Int × ByteArray) × Int} {S : List (List (Int × Int × ByteArray) × Int)} (h : IsSet (x :: S)) : weightP (x :: S) x.1 = x.2 := by
  rw [weightP, if_pos rfl, weightP_out (fun y hy e => by have := h.head y hy; rw [e] at this; exact lt_irrefl this)]
  omega
theorem mem_weight : ∀ {S : List (List (Int × Int × ByteArray) × Int)}, IsSet S → ∀ x ∈ S, weightP S x.1 = x.2
  | y :: S, h, x, hx => by
    rcases List.mem_cons.1 hx with rfl | hx
    · exact head_weight h
    · have hlt := h.head x hx
      rw [weightP, if_neg (fun e => by rw [e] at hlt; exact lt_irrefl hlt), mem_weight h.tail x hx]
      omega
theorem weight_mem : ∀ {S : List (List (Int × Int × ByteArray) × Int)} {r : List (Int × Int × ByteArray)}, weightP S r ≠ 0 → ∃ x ∈ S, x.1 = r
  | [], r, h => absurd rfl h
  | y :: S, r, h => by
    by_cases e : y.1 = r
    · exact ⟨y, by simp, e⟩
    · rw [weightP, if_neg e, Int.zero_add] at h
      obtain ⟨x, hx, hr⟩ := weight_mem h
      exact ⟨x, by simp [hx], hr⟩
theorem mem_iff {S : List (List (Int × Int × ByteArray) × Int)} (h : IsSet S) (x : List (Int × Int × ByteArray) × Int) : x ∈ S ↔ x.2 ≠ 0 ∧ weightP S x.1 = x.2 := by
  constructor
  · intro hx
    exact ⟨h.2 x hx, mem_weight h x hx⟩
  · rintro ⟨h0, h1⟩
    obtain ⟨y, hy, hr⟩ := weight_mem (by rw [h1]; exact h0)
    have := mem_weight h y hy
    rw [hr, h1] at this
    have e : x = y := Prod.ext hr.symm this
    rw [e]
    exact hy
/-- two sets of the same items are one -/
theorem set_ext : ∀ {S T : List (List (Int × Int × ByteArray) × Int)}, IsSet S → IsSet T → (∀ x, x ∈ S ↔ x ∈ T) → S = T
  | [], [], _, _, _ => rfl
  | [], y :: T, _, _, h => by have := (h y).2 (by simp); cases this
  | x :: S, [], _, _, h => by have := (h x).1 (by simp); cases this
  | x :: S, y :: T, hS, hT, h => by
    have e : x = y := by
      rcases List.mem_cons.1 ((h x).1 (by simp)) with e | hx
      · exact e
      · rcases List.mem_cons.1 ((h y).2 (by simp)) with e | hy
        · exact e.symm
        · exact (lt_asymm (hT.head x hx) (hS.head y hy)).elim
    subst e
    rw [set_ext hS.tail hT.tail fun z => ?_]
    constructor
    · intro hz
      rcases List.mem_cons.1 ((h z).1 (by simp [hz])) with e | hz2
      · exact (lt_irrefl (by have := hS.head z hz; rw [e] at this; exact this)).elim
      · exact hz2
    · intro hz
      rcases List.mem_cons.1 ((h z).2 (by simp [hz])) with e | hz2
      · exact (lt_irrefl (by have := hT.head z hz; rw [e] at this; exact this)).elim
      · exact hz2
/-- a set is told by its weights -/
theorem set_weights {S T : List (List (Int × Int × ByteArray) × Int)} (hS : IsSet S) (hT : IsSet T) (h : ∀ r, weightP S r = weightP T r) : S = T :=
  set_ext hS hT fun x => by rw [mem_iff hS, mem_iff hT, h]

/-- an item put into a set -/
def putP (x : List (Int × Int × ByteArray) × Int) : List (List (Int × Int × ByteArray) × Int) → List (List (Int × Int × ByteArray) × Int)
  | [] => [x]
  | y :: l => if cmpL x.1 y.1 = -1 then x :: y :: l else y :: putP x l
theorem put_mem {x z : List (Int × Int × ByteArray) × Int} : ∀ {l : List (List (Int × Int × ByteArray) × Int)}, z ∈ putP x l ↔ z = x ∨ z ∈ l
  | [] => by simp [putP]
  | y :: l => by
    rw [putP]
    split
    · simp
    · rw [List.mem_cons, put_mem, List.mem_cons]
      constructor
      · rintro (h | h | h)
        · exact .inr (.inl h)
        · exact .inl h
        · exact .inr (.inr h)
      · rintro (h | h | h)
        · exact .inr (.inl h)
        · exact .inl h
        · exact .inr (.inr h)
theorem put_weight (x : List (Int × Int × ByteArray) × Int) (r : List (Int × Int × ByteArray)) : ∀ l, weightP (putP x l) r = (if x.1 = r then x.2 else 0) + weightP l r
  | [] => by simp [putP, weightP]
  | y :: l => by
    rw [putP]
    split
    · rw [weightP]
    · rw [weightP, put_weight x r l, weightP]
      omega
theorem put_set (x : List (Int × Int × ByteArray) × Int) (hx : x.2 ≠ 0) : ∀ {l : List (List (Int × Int × ByteArray) × Int)}, IsSet l → (∀ y ∈ l, y.1 ≠ x.1) → IsSet (putP x l)
  | [], _, _ => ⟨List.pairwise_singleton _ _, fun y hy => by simp [putP] at hy; rw [hy]; exact hx⟩
  | y :: l, h, hn => by
    rw [putP]
    split
    · rename_i hlt
      refine ⟨List.pairwise_cons.2 ⟨fun z hz => ?_, h.1⟩, fun z hz => ?_⟩
      · rcases List.mem_cons.1 hz with rfl | hz
        · exact hlt
        · exact cmpL_lt_trans hlt (h.head z hz)
      · rcases List.mem_cons.1 hz with rfl | hz
        · exact hx
        · exact h.2 z hz
    · rename_i hlt
      have ih := put_set x hx h.tail (fun z hz => hn z (by simp [hz]))
      have hyx : cmpL y.1 x.1 = -1 := by
        rcases lt_cases x.1 y.1 with e | e | e
        · exact absurd e hlt
        · exact absurd e.symm (hn y (by simp))
        · exact e
      refine ⟨List.pairwise_cons.2 ⟨fun z hz => ?_, ih.1⟩, fun z hz => ?_⟩
      · rcases put_mem.1 hz with rfl | hz
        · exact hyx
        · exact h.head z hz
      · rcases List.mem_cons.1 hz with rfl | hz
        · exact h.2 z (by simp)
        · exact ih.2 z hz
/-- all weights together -/
def totalP : List (List (Int × Int × ByteArray) × Int) → Int
  | [] => 0
  | x :: l => x.2 + totalP l
/-- 0 less all weights -/
def negP (l : List (List (Int × Int × ByteArray) × Int)) : List (List (Int × Int × ByteArray) × Int) := l.map fun x => (x.1, -x.2)
theorem neg_weight (r : List (Int × Int × ByteArray)) : ∀ l, weightP (negP l) r = -weightP l r
  | [] => rfl
  | x :: l => by
    show weightP ((x.1, -x.2) :: negP l) r = _
    rw [weightP, weightP, neg_weight r l]
    by_cases e : x.1 = r
    · rw [if_pos e, if_pos e]; omega
    · rw [if_neg e, if_neg e]; omega
theorem neg_set {S : List (List (Int × Int × ByteArray) × Int)} (h : IsSet S) : IsSet (negP S) := by
  refine ⟨?_, fun x hx => ?_⟩
  · unfold Rising negP
    rw [List.pairwise_map]
    exact h.1
  · obtain ⟨y, hy, rfl⟩ := List.mem_map.1 hx
    have := h.2 y hy
    simp only
    omega
end Go.Proofs.Ytlejhimcaidbeaa.ZP
