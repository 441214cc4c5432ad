/-
  The items of all keys, each key's counted at its first row, are as many as there are items.
-/
import Derived.Test.YtjjikooabmddlaaGreatDoorM31
namespace Go.Proofs.YtjjikooabmddlaaGreatDoor.Items
open Go.ChangeShapes Go.WideShapes Go.ChangeAt Go.RowKit Val Go.Proofs.YtjjikooabmddlaaGreatDoor.Code Go.Proofs.YtjjikooabmddlaaGreatDoor.Elems Go.Proofs.YtjjikooabmddlaaGreatDoor.ZP Go.Proofs.YtjjikooabmddlaaGreatDoor.MapSl
set_option linter.unusedVariables false

section
variable {α : Type}
def sumN (f : α → Nat) : List α → Nat
  | [] => 0
  | x :: S => f x + sumN f S
theorem sumN_append (f : α → Nat) (b : List α) : ∀ a, sumN f (a ++ b) = sumN f a + sumN f b
  | [] => by simp [sumN]
  | x :: a => by
    show f x + sumN f (a ++ b) = f x + sumN f a + sumN f b
    rw [sumN_append f b a]
    omega
theorem sumN_split (f : α → Nat) (p : α → Bool) : ∀ S, sumN f S = sumN f (S.filter p) + sumN f (S.filter fun x => !p x)
  | [] => rfl
  | x :: S => by
    have ih := sumN_split f p S
    show f x + sumN f S = _
    rw [List.filter_cons, List.filter_cons]
    cases e : p x
    · rw [if_neg (by simp), if_pos (by simp)]
      show _ = _ + (f x + _)
      omega
    · rw [if_pos rfl, if_neg (by simp)]
      show _ = (f x + _) + _
      omega
theorem sumN_zero (f : α → Nat) : ∀ S : List α, (∀ x ∈ S, f x = 0) → sumN f S = 0
  | [], _ => rfl
  | x :: S, h => by
    show f x + sumN f S = 0
    rw [h x (by simp), sumN_zero f S fun y hy => h y (by simp [hy])]
theorem sumN_same (f g : α → Nat) : ∀ S : List α, (∀ x ∈ S, f x = g x) → sumN f S = sumN g S
  | [], _ => rfl
  | x :: S, h => by
    show f x + sumN f S = g x + sumN g S
    rw [h x (by simp), sumN_same f g S fun y hy => h y (by simp [hy])]
end
section
variable {α β : Type} [DecidableEq α] [DecidableEq β]
/-- what a row adds: its key's items, if it is the first of them -/
def firstN (κ : α → β) (S : List α) (x : α) : Nat := if (S.filter fun y => decide (κ y = κ x)).head? = some x then (S.filter fun y => decide (κ y = κ x)).length else 0
theorem count_all (κ : α → β) : ∀ (n : Nat) (S : List α), S.length ≤ n → S.Nodup → sumN (firstN κ S) S = S.length
  | 0, S, h, _ => by
    have : S = [] := List.eq_nil_of_length_eq_zero (by omega)
    subst this
    rfl
  | n + 1, [], _, _ => rfl
  | n + 1, x :: S', hn, hd => by
    have hx : x ∉ S' := (List.nodup_cons.1 hd).1
    have hd' : S'.Nodup := (List.nodup_cons.1 hd).2
    -- the group of x, and the rest
    have hG : ((x :: S').filter fun y => decide (κ y = κ x)) = x :: (S'.filter fun y => decide (κ y = κ x)) := by rw [List.filter_cons]; simp
    have hR : ((x :: S').filter fun y => !decide (κ y = κ x)) = S'.filter fun y => !decide (κ y = κ x) := by rw [List.filter_cons]; simp
    have hlen : (S'.filter fun y => decide (κ y = κ x)).length + (S'.filter fun y => !decide (κ y = κ x)).length = S'.length := by
      have : ∀ l : List α, (l.filter fun y => decide (κ y = κ x)).length + (l.filter fun y => !decide (κ y = κ x)).length = l.length := by
        intro l
        induction l with
        | nil => rfl
        | cons y l ih =>
          rw [List.filter_cons, List.filter_cons]
          by_cases e : κ y = κ x
          · rw [if_pos (by simp [e]), if_neg (by simp [e])]; simp; omega
          · rw [if_neg (by simp [e]), if_pos (by simp [e])]; simp; omega
      exact this S'
    rw [sumN_split (firstN κ (x :: S')) (fun y => decide (κ y = κ x)), hG, hR]
    have h1 : firstN κ (x :: S') x = (S'.filter fun y => decide (κ y = κ x)).length + 1 := by
      unfold firstN
      rw [hG]
      simp
    have h2 : sumN (firstN κ (x :: S')) (S'.filter fun y => decide (κ y = κ x)) = 0 := by
      refine sumN_zero _ _ fun y hy => ?_
      rw [List.mem_filter, decide_eq_true_eq] at hy
      unfold firstN
      rw [hy.2, hG]
      rw [if_neg]
      simp only [List.head?_cons, Option.some.injEq]
      rintro rfl
      exact hx hy.1
    have h3 : sumN (firstN κ (x :: S')) (S'.filter fun y => !decide (κ y = κ x)) = (S'.filter fun y => !decide (κ y = κ x)).length := by
      rw [← count_all κ n (S'.filter fun y => !decide (κ y = κ x)) (by have := List.length_filter_le (fun y => !decide (κ y = κ x)) S'; simp at hn; omega) (hd'.sublist List.filter_sublist)]
      refine sumN_same _ _ _ fun y hy => ?_
      rw [List.mem_filter] at hy
      have hne : κ y ≠ κ x := by simpa using hy.2
      have e : ((x :: S').filter fun z => decide (κ z = κ y)) = ((S'.filter fun z => !decide (κ z = κ x)).filter fun z => decide (κ z = κ y)) := by
        rw [List.filter_cons, if_neg (by simp; exact fun h => hne h.symm), List.filter_filter]
        refine List.filter_congr fun z hz => ?_
        by_cases e2 : κ z = κ y
        · simp [e2, hne]
        · simp [e2]
      unfold firstN
      rw [e]
    show firstN κ (x :: S') x + sumN _ _ + sumN _ _ = S'.length + 1
    rw [h1, h2, h3]
    omega
end
theorem set_nodup {S : PL} (h : IsSet S) : S.Nodup := by
  rw [List.nodup_iff_pairwise_ne]
  refine h.1.imp fun {a b} hab e => ?_
  rw [e, cmpL_self] at hab
  omega
end Go.Proofs.YtjjikooabmddlaaGreatDoor.Items
