/-
  Texts of values and of rows in plain words. No program is named here.
-/
import Derived.Test.YtkibacolnagkcaaM2
import Derived.Lib.ItoaNum
import Derived.Lib.ItoaLen
import Derived.Lib.Join
namespace Go.Proofs.Ytkibacolnagkcaa.Code
open Val
set_option linter.unusedVariables false

/-- a text's bytes, quotes twice -/
def dbl : List UInt8 → List UInt8
  | [] => []
  | b :: l => if b = 39 then 39 :: 39 :: dbl l else b :: dbl l
theorem rep_dbl : ∀ l : List UInt8, Lib.replaceAll l [39] [39, 39] = dbl l
  | [] => rep_nil _ _ (by simp)
  | b :: l => by
    rw [dbl]
    by_cases hb : b = 39
    · subst hb
      rw [rep_yes (by decide) (by decide) (by simp [List.isPrefixOf]), if_pos rfl]
      simp [rep_dbl l]
    · rw [rep_no (by decide) (by decide) (by simp [List.isPrefixOf]; exact fun e => hb e.symm), if_neg hb, rep_dbl l]
theorem dbl_length : ∀ l : List UInt8, (dbl l).length ≤ 2 * l.length
  | [] => by simp [dbl]
  | b :: l => by
    have := dbl_length l
    rw [dbl]
    split <;> simp <;> omega
theorem dbl_snoc (b : UInt8) : ∀ l : List UInt8, dbl (l ++ [b]) = dbl l ++ (if b = 39 then [39, 39] else [b])
  | [] => by simp [dbl]
  | c :: l => by
    show dbl (c :: (l ++ [b])) = _
    rw [dbl, dbl, dbl_snoc b l]
    split <;> simp
theorem dbl_take (s : ByteArray) (k : Nat) (h : k < s.size) : dbl (s.data.toList.take (k + 1)) = dbl (s.data.toList.take k) ++ (if s[k] = 39 then [39, 39] else [s[k]]) := by
  have hl : s.data.toList.length = s.size := rfl
  rw [List.take_succ_eq_append_getElem (by omega), dbl_snoc]
  rfl
/-- a value's text -/
def showL (k n : Int) (s : ByteArray) : List UInt8 :=
  if rightB k n s = false then [63] else if k = 0 then [110, 117, 108, 108] else if k = 1 then (if n = 0 then [102, 97, 108, 115, 101] else [116, 114, 117, 101]) else if k = 4 then 39 :: (dbl s.data.toList ++ [39]) else Lib.itoa n
theorem show_wrong {k n : Int} {s : ByteArray} (h : rightB k n s = false) : showL k n s = [63] := if_pos h
theorem show_0 {n : Int} {s : ByteArray} (h : rightB 0 n s = true) : showL 0 n s = [110, 117, 108, 108] := by unfold showL; rw [if_neg (by rw [h]; decide), if_pos rfl]
theorem show_1 {n : Int} {s : ByteArray} (h : rightB 1 n s = true) : showL 1 n s = if n = 0 then [102, 97, 108, 115, 101] else [116, 114, 117, 101] := by unfold showL; rw [if_neg (by rw [h]; decide), if_neg (by decide), if_pos rfl]
theorem show_4 {n : Int} {s : ByteArray} (h : rightB 4 n s = true) : showL 4 n s = 39 :: (dbl s.data.toList ++ [39]) := by unfold showL; rw [if_neg (by rw [h]; decide), if_neg (by decide), if_neg (by decide), if_pos rfl]
theorem show_n {k n : Int} {s : ByteArray} (h : rightB k n s = true) (h0 : k ≠ 0) (h1 : k ≠ 1) (h4 : k ≠ 4) : showL k n s = Lib.itoa n := by unfold showL; rw [if_neg (by rw [h]; decide), if_neg h0, if_neg h1, if_neg h4]
theorem show_length (k n : Int) (s : ByteArray) (hn : fits n) : (showL k n s).length ≤ 402 := by
  unfold fits at hn
  have hi := Lib.itoa_length_le n hn.1 hn.2
  unfold showL
  split
  · simp
  · rename_i hr
    split
    · simp
    · split
      · split <;> simp
      · split
        · rename_i h4
          subst h4
          have hd := dbl_length s.data.toList
          have hs : s.data.toList.length ≤ 200 := right_small (by simpa using hr)
          simp only [List.length_cons, List.length_append, List.length_nil]
          omega
        · omega
theorem right_kinds {k n : Int} {s : ByteArray} (h : rightB k n s = true) : k = 0 ∨ k = 1 ∨ k = 2 ∨ k = 3 ∨ k = 4 := by
  unfold rightB holdsB at h
  by_cases h4 : k = 4
  · omega
  by_cases h0 : k = 0
  · omega
  by_cases h1 : k = 1
  · omega
  by_cases h2 : k = 2
  · omega
  simp [h4, h0, h1, h2] at h
  omega
def showV (v : Int × Int × ByteArray) : List UInt8 := showL v.1 v.2.1 v.2.2
/-- rows' texts without the brackets -/
def joinR (l : List (Int × Int × ByteArray)) : List UInt8 := Lib.join (l.map showV) [44, 32]
/-- a row's text -/
def showR (l : List (Int × Int × ByteArray)) : List UInt8 := 40 :: (joinR l ++ [41])
theorem lens_le : ∀ (X : List (List UInt8)) (m : Nat), (∀ x ∈ X, x.length ≤ m) → Lib.lens X ≤ m * X.length
  | [], m, _ => by simp [Lib.lens]
  | x :: X, m, h => by
    have h1 := h x (by simp)
    have h2 := lens_le X m (fun y hy => h y (by simp [hy]))
    unfold Lib.lens at *
    rw [List.map_cons, List.sum_cons, List.length_cons, Nat.mul_add]
    omega
theorem joinR_length (l : List (Int × Int × ByteArray)) (h : ∀ v ∈ l, (showV v).length ≤ 402) : (joinR l).length ≤ 404 * l.length := by
  unfold joinR
  cases l with
  | nil => simp [Lib.join_nil]
  | cons v l =>
    rw [List.map_cons, Lib.join_length]
    have := lens_le ((v :: l).map showV) 402 (by intro x hx; obtain ⟨y, hy, rfl⟩ := List.mem_map.1 hx; exact h y hy)
    simp only [List.map_cons, List.length_cons, List.length_map, List.length_nil] at *
    omega
theorem joinR_first (l : List (Int × Int × ByteArray)) (h : 0 < l.length) : joinR (l.take 1) = joinR (l.take 0) ++ showV l[0] := by
  cases l with
  | nil => simp at h
  | cons v l => simp [joinR, Lib.join_one, Lib.join_nil]
theorem joinR_snoc (l : List (Int × Int × ByteArray)) (k : Nat) (hk : 0 < k) (h : k < l.length) : joinR (l.take (k + 1)) = (joinR (l.take k) ++ [44, 32]) ++ showV l[k] := by
  unfold joinR
  cases l with
  | nil => simp at h
  | cons v l =>
    obtain ⟨j, rfl⟩ : ∃ j, k = j + 1 := ⟨k - 1, by omega⟩
    have hj : j < l.length := by simpa using h
    rw [List.take_succ_cons, List.take_succ_cons, List.map_cons, List.map_cons, Lib.join_cons, Lib.join_cons, List.map_take, List.map_take]
    rw [Lib.joinTail_take_succ [44, 32] (l.map showV) j (showV l[j]) (by simp [hj])]
    simp
end Go.Proofs.Ytkibacolnagkcaa.Code
