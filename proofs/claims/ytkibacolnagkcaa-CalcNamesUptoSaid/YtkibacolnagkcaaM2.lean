/-
  Values' bytes in plain words: numbers as bytes, the highest first; a text's bytes with 0 taken; what bytes begin with a value; there and back; in order. No program is named here.
-/
import Derived.Test.YtkibacolnagkcaaM1
import Derived.Lib.CountLaws
import Derived.Lib.Replace
namespace Go.Proofs.Ytkibacolnagkcaa.Code
open Val
set_option linter.unusedVariables false

def byt (n : Int) : UInt8 := UInt8.ofNat n.toNat
/-- so many bytes of a number, the highest first -/
def be : Nat → Int → List UInt8
  | 0, _ => []
  | k + 1, n => byt (n / 256 ^ k) :: be k (n % 256 ^ k)
def unbe : List UInt8 → Int
  | [] => 0
  | b :: l => b.toNat * 256 ^ l.length + unbe l
theorem pow_pos (k : Nat) : (0 : Int) < 256 ^ k := Int.pow_pos (by decide)
theorem pow_up (k : Nat) : (256 : Int) ^ (k + 1) = 256 * 256 ^ k := by rw [Int.pow_succ]; omega
theorem byt_toNat {n : Int} (h : 0 ≤ n) (g : n < 256) : ((byt n).toNat : Int) = n := by
  unfold byt
  rw [UInt8.toNat_ofNat']
  omega
theorem byt_of (b : UInt8) : byt (b.toNat : Int) = b := by
  unfold byt
  rw [Int.toNat_natCast]
  exact UInt8.ofNat_toNat
theorem be_length : ∀ (k : Nat) (n : Int), (be k n).length = k
  | 0, _ => rfl
  | k + 1, n => by rw [be, List.length_cons, be_length k]
theorem unbe_lt : ∀ l : List UInt8, 0 ≤ unbe l ∧ unbe l < 256 ^ l.length
  | [] => by simp [unbe]
  | b :: l => by
    have h := unbe_lt l
    have hb := b.toNat_lt
    have hp := pow_pos l.length
    rw [List.length_cons, pow_up, unbe]
    have h1 : (b.toNat : Int) * 256 ^ l.length ≤ 255 * 256 ^ l.length := Int.mul_le_mul_of_nonneg_right (by omega) (by omega)
    have h2 : 0 ≤ (b.toNat : Int) * 256 ^ l.length := Int.mul_nonneg (by omega) (by omega)
    omega
theorem be_unbe : ∀ l : List UInt8, be l.length (unbe l) = l
  | [] => rfl
  | b :: l => by
    have h := unbe_lt l
    have hp := pow_pos l.length
    have h1 : unbe (b :: l) / 256 ^ l.length = b.toNat := by
      rw [unbe, Int.add_comm, Int.add_mul_ediv_right _ _ (by omega), Int.ediv_eq_zero_of_lt h.1 h.2, Int.zero_add]
    have h2 : unbe (b :: l) % 256 ^ l.length = unbe l := by
      rw [unbe, Int.add_comm, Int.add_mul_emod_self_right, Int.emod_eq_of_lt h.1 h.2]
    rw [List.length_cons, be, h1, h2, byt_of, be_unbe l]
theorem div_lt {n : Int} {k : Nat} (h : 0 ≤ n) (g : n < 256 ^ (k + 1)) : 0 ≤ n / 256 ^ k ∧ n / 256 ^ k < 256 ∧ 0 ≤ n % 256 ^ k ∧ n % 256 ^ k < 256 ^ k := by
  have hp := pow_pos k
  rw [pow_up] at g
  exact ⟨Int.ediv_nonneg h (by omega), Int.ediv_lt_of_lt_mul hp g, Int.emod_nonneg _ (by omega), Int.emod_lt_of_pos _ hp⟩
theorem unbe_be : ∀ (k : Nat) {n : Int}, 0 ≤ n → n < 256 ^ k → unbe (be k n) = n
  | 0, n, h, g => by
    rw [be, unbe]
    simp at g
    omega
  | k + 1, n, h, g => by
    obtain ⟨h1, h2, h3, h4⟩ := div_lt h g
    rw [be, unbe, be_length, unbe_be k h3 h4, byt_toNat h1 h2, Int.mul_comm]
    exact Int.mul_ediv_add_emod _ _
theorem byt_lt {a b : Int} (ha : 0 ≤ a ∧ a < 256) (hb : 0 ≤ b ∧ b < 256) : byt a < byt b ↔ a < b := by
  rw [u8_lt]
  have := byt_toNat ha.1 ha.2
  have := byt_toNat hb.1 hb.2
  omega
/-- numbers as bytes are in their order -/
theorem cmp_be : ∀ (k : Nat) {n m : Int} (r r' : List UInt8), 0 ≤ n → n < 256 ^ k → 0 ≤ m → m < 256 ^ k →
    Lib.compareBytes (be k n ++ r) (be k m ++ r') = if n < m then -1 else if m < n then 1 else Lib.compareBytes r r'
  | 0, n, m, r, r', h, g, h', g' => by
    simp at g g'
    rw [be, be, if_neg (by omega), if_neg (by omega)]
    rfl
  | k + 1, n, m, r, r', h, g, h', g' => by
    obtain ⟨h1, h2, h3, h4⟩ := div_lt h g
    obtain ⟨g1, g2, g3, g4⟩ := div_lt h' g'
    have hp := pow_pos k
    have en := Int.mul_ediv_add_emod n (256 ^ k)
    have em := Int.mul_ediv_add_emod m (256 ^ k)
    rw [be, be, List.cons_append, List.cons_append, Lib.compareBytes, cmp_be k r r' h3 h4 g3 g4]
    simp only [byt_lt ⟨h1, h2⟩ ⟨g1, g2⟩, byt_lt ⟨g1, g2⟩ ⟨h1, h2⟩]
    rcases Int.lt_trichotomy (n / 256 ^ k) (m / 256 ^ k) with e | e | e
    · have : 256 ^ k * (n / 256 ^ k + 1) ≤ 256 ^ k * (m / 256 ^ k) := Int.mul_le_mul_of_nonneg_left (by omega) (by omega)
      rw [Int.mul_add, Int.mul_one] at this
      rw [if_pos e, if_pos (by omega)]
    · rw [if_neg (show ¬ n / 256 ^ k < m / 256 ^ k by omega), if_neg (show ¬ m / 256 ^ k < n / 256 ^ k by omega)]
      rw [e] at en
      by_cases c1 : n % 256 ^ k < m % 256 ^ k
      · rw [if_pos c1, if_pos (show n < m by omega)]
      · rw [if_neg c1, if_neg (show ¬ n < m by omega)]
        by_cases c2 : m % 256 ^ k < n % 256 ^ k
        · rw [if_pos c2, if_pos (show m < n by omega)]
        · rw [if_neg c2, if_neg (show ¬ m < n by omega)]
    · have : 256 ^ k * (m / 256 ^ k + 1) ≤ 256 ^ k * (n / 256 ^ k) := Int.mul_le_mul_of_nonneg_left (by omega) (by omega)
      rw [Int.mul_add, Int.mul_one] at this
      rw [if_neg (by omega), if_pos e, if_neg (by omega), if_pos (by omega)]

/-- a text's bytes, 0 as 0 and 255 -/
def esc : List UInt8 → List UInt8
  | [] => []
  | b :: l => if b = 0 then 0 :: 255 :: esc l else b :: esc l
def unesc : List UInt8 → List UInt8
  | [] => []
  | [b] => [b]
  | b :: c :: l => if b = 0 ∧ c = 255 then 0 :: unesc l else b :: unesc (c :: l)
/-- how many bytes stand before the end of a text -/
def tlen : List UInt8 → Option Nat
  | [] => none
  | [_] => none
  | b :: c :: l => if b = 0 ∧ c = 0 then some 0 else if b = 0 ∧ c ≠ 255 then none else (tlen (c :: l)).map (· + 1)
theorem unesc_ne {b : UInt8} (h : b ≠ 0) : ∀ l, unesc (b :: l) = b :: unesc l
  | [] => by simp [unesc]
  | c :: l => by rw [unesc, if_neg (fun e => h e.1)]
theorem unesc_esc : ∀ l, unesc (esc l) = l
  | [] => rfl
  | b :: l => by
    rw [esc]
    split
    · rename_i h
      rw [unesc, if_pos ⟨rfl, rfl⟩, unesc_esc l, h]
    · rename_i h
      rw [unesc_ne h, unesc_esc l]
theorem tlen_ne {b : UInt8} (h : b ≠ 0) : ∀ l, tlen (b :: l) = (tlen l).map (· + 1)
  | [] => by simp [tlen]
  | c :: l => by rw [tlen, if_neg (fun e => h e.1), if_neg (fun e => h e.1)]
theorem tlen_esc (r : List UInt8) : ∀ l, tlen (esc l ++ 0 :: 0 :: r) = some (esc l).length
  | [] => by simp [esc, tlen]
  | b :: l => by
    rw [esc]
    split
    · rw [List.cons_append, List.cons_append, tlen, if_neg (by decide), if_neg (by decide), tlen_ne (by decide), tlen_esc r l]
      simp
    · rename_i h
      rw [List.cons_append, tlen_ne h, tlen_esc r l]
      simp
theorem tlen_back : ∀ (f : Nat) {t : List UInt8} {j : Nat}, t.length ≤ f → tlen t = some j → t = t.take j ++ 0 :: 0 :: t.drop (j + 2) ∧ esc (unesc (t.take j)) = t.take j
  | _, [], _, _, h => by simp [tlen] at h
  | _, [_], _, _, h => by simp [tlen] at h
  | 0, _ :: _ :: _, _, hf, _ => by simp at hf
  | f + 1, b :: c :: l, j, hf, h => by
    by_cases hb : b = 0
    · subst hb
      rw [tlen] at h
      by_cases hc : c = 0
      · subst hc
        simp at h
        subst h
        simp [unesc, esc]
      · rw [if_neg (fun e => hc e.2)] at h
        by_cases hc2 : c = 255
        · subst hc2
          rw [if_neg (by simp), tlen_ne (by decide), Option.map_map] at h
          cases ht : tlen l with
          | none => rw [ht] at h; simp at h
          | some j' =>
            rw [ht] at h
            simp at h
            subst h
            obtain ⟨h1, h2⟩ := tlen_back f (t := l) (j := j') (by simp at hf; omega) ht
            refine ⟨?_, ?_⟩
            · show 0 :: 255 :: l = 0 :: 255 :: (l.take j' ++ 0 :: 0 :: l.drop (j' + 2))
              rw [← h1]
            · show esc (unesc (0 :: 255 :: l.take j')) = 0 :: 255 :: l.take j'
              rw [unesc, if_pos ⟨rfl, rfl⟩, esc, if_pos rfl, h2]
        · rw [if_pos ⟨rfl, hc2⟩] at h
          cases h
    · rw [tlen_ne hb] at h
      cases ht : tlen (c :: l) with
      | none => rw [ht] at h; simp at h
      | some j' =>
        rw [ht] at h
        simp at h
        subst h
        obtain ⟨h1, h2⟩ := tlen_back f (t := c :: l) (j := j') (by simp at hf; simp; omega) ht
        refine ⟨?_, ?_⟩
        · show b :: c :: l = b :: ((c :: l).take j' ++ 0 :: 0 :: (c :: l).drop (j' + 2))
          rw [← h1]
        · show esc (unesc (b :: (c :: l).take j')) = b :: (c :: l).take j'
          rw [unesc_ne hb, esc, if_neg hb, h2]
theorem u8_pos {b : UInt8} (h : b ≠ 0) : 0 < b := by
  rw [u8_lt]
  have : b.toNat ≠ 0 := fun e => h (UInt8.toNat_inj.1 e)
  show 0 < b.toNat
  omega
/-- the bytes of texts are in their order -/
theorem cmp_esc (r r' : List UInt8) : ∀ a b : List UInt8, Lib.compareBytes (esc a ++ 0 :: 0 :: r) (esc b ++ 0 :: 0 :: r') = if Lib.compareBytes a b ≠ 0 then Lib.compareBytes a b else Lib.compareBytes r r'
  | [], [] => by simp [esc, Lib.compareBytes]
  | [], y :: b => by
    by_cases h : y = 0
    · subst h; simp [esc, Lib.compareBytes, show (0 : UInt8) < 255 by decide]
    · simp [esc, Lib.compareBytes, h, u8_pos h]
  | x :: a, [] => by
    by_cases h : x = 0
    · subst h; simp [esc, Lib.compareBytes, show (0 : UInt8) < 255 by decide, show ¬ (255 : UInt8) < 0 by decide]
    · have : ¬ x < 0 := by rw [u8_lt]; exact Nat.not_lt_zero _
      simp [esc, Lib.compareBytes, h, u8_pos h, this]
  | x :: a, y :: b => by
    have ih := cmp_esc r r' a b
    by_cases hx : x = 0
    · subst hx
      by_cases hy : y = 0
      · subst hy
        simp only [esc, if_true, List.cons_append, Lib.compareBytes]
        simpa using ih
      · simp [esc, Lib.compareBytes, hy, u8_pos hy]
    · by_cases hy : y = 0
      · subst hy
        have : ¬ x < 0 := by rw [u8_lt]; exact Nat.not_lt_zero _
        simp [esc, Lib.compareBytes, hx, u8_pos hx, this]
      · simp only [esc, if_neg hx, if_neg hy, List.cons_append, Lib.compareBytes, ih]
        by_cases c1 : x < y
        · simp [c1]
        · by_cases c2 : y < x
          · simp [c1, c2]
          · simp [c1, c2]

/-- a value's bytes behind that of its kind -/
def bodyP (v : Int × Int × ByteArray) : List UInt8 :=
  if v.1 = 1 then be 1 v.2.1 else if v.1 = 2 then be 4 (v.2.1 + 2147483648) else if v.1 = 3 then be 8 (v.2.1 + 9223372036854775808) else if v.1 = 4 then esc v.2.2.data.toList ++ [0, 0] else []
def encV (v : Int × Int × ByteArray) : List UInt8 := byt v.1 :: bodyP v
def encL (l : List (Int × Int × ByteArray)) : List UInt8 := l.flatMap encV
def rightV (v : Int × Int × ByteArray) : Bool := rightB v.1 v.2.1 v.2.2
def rightL (l : List (Int × Int × ByteArray)) : Bool := l.all rightV
/-- how many bytes a value has that begins so -/
def lenP : List UInt8 → Nat
  | [] => 0
  | b :: t => if b = 0 then 1 else if b = 1 then 2 else if b = 2 then 5 else if b = 3 then 9 else if b = 4 then (match tlen t with | some j => j + 3 | none => 0) else 0
def readP : List UInt8 → Int × Int × ByteArray
  | [] => (0, 0, ⟨#[]⟩)
  | b :: t => if b = 1 then (1, unbe t, ⟨#[]⟩) else if b = 2 then (2, unbe t - 2147483648, ⟨#[]⟩) else if b = 3 then (3, unbe t - 9223372036854775808, ⟨#[]⟩) else if b = 4 then (4, 0, ⟨(unesc (t.take (t.length - 2))).toArray⟩) else ((b.toNat : Int), 0, ⟨#[]⟩)
/-- the value that begins bytes, and how many it has -/
def firstP (s : List UInt8) : Option ((Int × Int × ByteArray) × Nat) :=
  if lenP s = 0 ∨ s.length < lenP s then none else if rightV (readP (s.take (lenP s))) = true then some (readP (s.take (lenP s)), lenP s) else none
theorem firstP_some {s : List UInt8} {v : Int × Int × ByteArray} {n : Nat} (h : firstP s = some (v, n)) : 0 < n ∧ n ≤ s.length ∧ n = lenP s ∧ v = readP (s.take n) ∧ rightV v = true := by
  unfold firstP at h
  split at h
  · cases h
  · split at h
    · rename_i h1 h2
      cases h
      exact ⟨by omega, by omega, rfl, rfl, h2⟩
    · cases h
def decP (s : List UInt8) : Option (List (Int × Int × ByteArray)) :=
  if hs : s = [] then some [] else match hf : firstP s with
    | none => none
    | some (v, n) => (decP (s.drop n)).map (v :: ·)
termination_by s.length
decreasing_by
  have h := firstP_some hf
  rw [List.length_drop]
  omega
theorem decP_nil : decP [] = some [] := by rw [decP]; rfl
theorem decP_none {s : List UInt8} (h : s ≠ []) (g : firstP s = none) : decP s = none := by
  rw [decP, dif_neg h]
  split
  · rfl
  · rename_i e; rw [g] at e; cases e
theorem decP_some {s : List UInt8} {v : Int × Int × ByteArray} {n : Nat} (h : s ≠ []) (g : firstP s = some (v, n)) : decP s = (decP (s.drop n)).map (v :: ·) := by
  rw [decP, dif_neg h]
  split
  · rename_i e; rw [g] at e; cases e
  · rename_i e
    rw [g] at e
    cases e
    rfl

theorem right_k {v : Int × Int × ByteArray} (h : rightV v = true) : v.1 = 0 ∨ v.1 = 1 ∨ v.1 = 2 ∨ v.1 = 3 ∨ v.1 = 4 := by
  unfold rightV rightB holdsB at h
  by_cases h4 : v.1 = 4
  · omega
  · rw [if_neg h4] at h
    by_cases h0 : v.1 = 0
    · omega
    · rw [if_neg h0] at h
      by_cases h1 : v.1 = 1
      · omega
      · by_cases h2 : v.1 = 2
        · omega
        · rw [if_neg h1, if_neg h2] at h
          simp at h
          omega
theorem byt_small : byt 0 = 0 ∧ byt 1 = 1 ∧ byt 2 = 2 ∧ byt 3 = 3 ∧ byt 4 = 4 := by decide
theorem right_0 {n : Int} {s : ByteArray} (h : rightV (0, n, s) = true) : n = 0 ∧ s = ⟨#[]⟩ := by
  simp [rightV, rightB] at h
  exact ⟨h.1, h.2⟩
theorem right_1 {n : Int} {s : ByteArray} (h : rightV (1, n, s) = true) : (n = 0 ∨ n = 1) ∧ s = ⟨#[]⟩ := by
  simp [rightV, rightB, holdsB] at h
  exact ⟨h.2, h.1⟩
theorem right_2 {n : Int} {s : ByteArray} (h : rightV (2, n, s) = true) : (-2147483648 ≤ n ∧ n ≤ 2147483647) ∧ s = ⟨#[]⟩ := by
  simp [rightV, rightB, holdsB] at h
  exact ⟨h.2, h.1⟩
theorem right_3 {n : Int} {s : ByteArray} (h : rightV (3, n, s) = true) : s = ⟨#[]⟩ := by
  simp [rightV, rightB, holdsB] at h
  exact h
theorem right_4 {n : Int} {s : ByteArray} (h : rightV (4, n, s) = true) : n = 0 ∧ s.size ≤ 200 := by
  simp [rightV, rightB] at h
  exact h
def fitV (v : Int × Int × ByteArray) : Prop := -9223372036854775808 ≤ v.2.1 ∧ v.2.1 ≤ 9223372036854775807

theorem first_of {v : Int × Int × ByteArray} {s : List UInt8} {n : Nat} (h0 : 0 < n) (h1 : n ≤ s.length) (h2 : lenP s = n) (h3 : readP (s.take n) = v) (h4 : rightV v = true) : firstP s = some (v, n) := by
  unfold firstP
  rw [h2, if_neg (by omega), h3, if_pos h4]
/-- the bytes of a right value begin with it, whatever stands behind them -/
theorem first_enc {v : Int × Int × ByteArray} (h : rightV v = true) (hf : fitV v) (r : List UInt8) : firstP (encV v ++ r) = some (v, (encV v).length) := by
  have hk := right_k h
  obtain ⟨k, n, s⟩ := v
  have e := byt_small
  refine first_of (by simp [encV]) (by simp) ?_ ((congrArg readP List.take_left).trans ?_) h
  all_goals
    rcases hk with hk | hk | hk | hk | hk
  all_goals
    simp only at hk
    subst hk
  · simp [encV, bodyP, lenP, e]
  · simp [encV, bodyP, lenP, e, be_length]
  · simp [encV, bodyP, lenP, e, be_length]
  · simp [encV, bodyP, lenP, e, be_length]
  · simp [encV, bodyP, lenP, e, tlen_esc]
  · obtain ⟨rfl, rfl⟩ := right_0 h
    simp [encV, bodyP, readP, e]
  · obtain ⟨h1, rfl⟩ := right_1 h
    simp [encV, bodyP, readP, e]
    exact unbe_be 1 (by omega) (by omega)
  · obtain ⟨h1, rfl⟩ := right_2 h
    simp [encV, bodyP, readP, e]
    rw [unbe_be 4 (by omega) (by omega)]
    omega
  · obtain rfl := right_3 h
    unfold fitV at hf
    simp only at hf
    simp [encV, bodyP, readP, e]
    rw [unbe_be 8 (by omega) (by omega)]
    omega
  · obtain ⟨rfl, _⟩ := right_4 h
    simp [encV, bodyP, readP, e, unesc_esc]

theorem take_split {α : Type} {l : List α} {n : Nat} (_ : n ≤ l.length) : l.take n ++ l.drop n = l := List.take_append_drop n l
/-- what begins bytes has these -/
theorem first_back {s : List UInt8} {v : Int × Int × ByteArray} {n : Nat} (h : firstP s = some (v, n)) : encV v = s.take n ∧ fitV v := by
  obtain ⟨h0, h1, h2, h3, h4⟩ := firstP_some h
  clear h
  cases s with
  | nil => simp [lenP] at h2; omega
  | cons b t =>
    have e := byt_small
    simp only [lenP] at h2
    by_cases b0 : b = 0
    · subst b0
      simp at h2
      subst h2 h3
      simp [readP, encV, bodyP, e, fitV]
    rw [if_neg b0] at h2
    by_cases b1 : b = 1
    · subst b1
      simp at h2
      subst h2
      have el : (t.take 1).length = 1 := by simp at h1 ⊢; omega
      have hu := unbe_lt (t.take 1)
      have hb := be_unbe (t.take 1)
      rw [el] at hu hb
      subst h3
      simp only [List.take_succ_cons, readP, if_true, encV, bodyP, fitV]
      refine ⟨by rw [hb, e.2.1], by omega, by omega⟩
    rw [if_neg b1] at h2
    by_cases b2 : b = 2
    · subst b2
      simp at h2
      subst h2
      have el : (t.take 4).length = 4 := by simp at h1 ⊢; omega
      have hu := unbe_lt (t.take 4)
      have hb := be_unbe (t.take 4)
      rw [el] at hu hb
      subst h3
      simp [readP, encV, bodyP, fitV, e]
      refine ⟨hb, by omega, by omega⟩
    rw [if_neg b2] at h2
    by_cases b3 : b = 3
    · subst b3
      simp at h2
      subst h2
      have el : (t.take 8).length = 8 := by simp at h1 ⊢; omega
      have hu := unbe_lt (t.take 8)
      have hb := be_unbe (t.take 8)
      rw [el] at hu hb
      subst h3
      simp [readP, encV, bodyP, fitV, e]
      refine ⟨hb, by omega, by omega⟩
    rw [if_neg b3] at h2
    by_cases b4 : b = 4
    · subst b4
      rw [if_pos rfl] at h2
      cases ht : tlen t with
      | none => rw [ht] at h2; simp at h2; omega
      | some j =>
        rw [ht] at h2
        simp at h2
        subst h2
        obtain ⟨g1, g2⟩ := tlen_back t.length (Nat.le_refl _) ht
        have el : j + 2 ≤ t.length := by simp at h1; omega
        have et : t.take (j + 2) = t.take j ++ [0, 0] := by
          have lj : (t.take j).length = j := by simp; omega
          conv => lhs; rw [g1]
          rw [List.take_append, lj, List.take_of_length_le (by omega)]
          simp
        subst h3
        simp only [List.take_succ_cons, readP]
        simp [encV, bodyP, fitV, e]
        rw [et]
        have lj : (t.take j).length = j := by simp; omega
        rw [show min (j + 2) t.length - 2 = j by omega, List.take_append, lj, List.take_of_length_le (by omega)]
        simp [g2]
    · rw [if_neg b4] at h2
      omega

theorem right_all {l : List (Int × Int × ByteArray)} {v : Int × Int × ByteArray} (h : rightL (v :: l) = true) : rightV v = true ∧ rightL l = true := by
  simpa [rightL] using h
theorem dec_enc : ∀ {l : List (Int × Int × ByteArray)}, rightL l = true → (∀ v ∈ l, fitV v) → decP (encL l) = some l
  | [], _, _ => decP_nil
  | v :: l, h, hf => by
    obtain ⟨h1, h2⟩ := right_all h
    show decP (encV v ++ encL l) = _
    rw [decP_some (by simp [encV]) (first_enc h1 (hf v (by simp)) _), List.drop_left, dec_enc h2 (fun x hx => hf x (by simp [hx]))]
    rfl
theorem enc_dec : ∀ (f : Nat) {s : List UInt8} {l : List (Int × Int × ByteArray)}, s.length ≤ f → decP s = some l → rightL l = true ∧ encL l = s ∧ ∀ v ∈ l, fitV v
  | f, s, l, hf, h => by
    by_cases hs : s = []
    · subst hs
      rw [decP_nil] at h
      cases h
      exact ⟨rfl, rfl, by simp⟩
    · cases hv : firstP s with
      | none => rw [decP_none hs hv] at h; cases h
      | some p =>
        obtain ⟨v, n⟩ := p
        rw [decP_some hs hv] at h
        obtain ⟨h0, h1, h2, h3, h4⟩ := firstP_some hv
        obtain ⟨g1, g2⟩ := first_back hv
        cases f with
        | zero => exact absurd (List.eq_nil_of_length_eq_zero (by omega)) hs
        | succ f =>
          cases hd : decP (s.drop n) with
          | none => rw [hd] at h; cases h
          | some m =>
            rw [hd] at h
            cases h
            obtain ⟨k1, k2, k3⟩ := enc_dec f (s := s.drop n) (l := m) (by rw [List.length_drop]; omega) hd
            refine ⟨by simpa [rightL, h4] using k1, ?_, ?_⟩
            · show encV v ++ encL m = s
              rw [k2, g1, List.take_append_drop]
            · intro x hx
              rcases List.mem_cons.1 hx with rfl | hx
              · exact g2
              · exact k3 x hx

/-- how lists compare, one by one, the shorter first -/
def cmpL : List (Int × Int × ByteArray) → List (Int × Int × ByteArray) → Int
  | [], [] => 0
  | [], _ :: _ => -1
  | _ :: _, [] => 1
  | a :: l, b :: m => if cmpV a.1 a.2.1 a.2.2 b.1 b.2.1 b.2.2 ≠ 0 then cmpV a.1 a.2.1 a.2.2 b.1 b.2.1 b.2.2 else cmpL l m
theorem cmp_ite (n m c : Int) : (if n < m then -1 else if m < n then 1 else c) = if cmpI n m ≠ 0 then cmpI n m else c := by
  unfold cmpI
  split
  · simp
  · split <;> simp
theorem cmp_step {v v' : Int × Int × ByteArray} (h : rightV v = true) (h' : rightV v' = true) (hf : fitV v) (hf' : fitV v') (r r' : List UInt8) :
    Lib.compareBytes (encV v ++ r) (encV v' ++ r') = if cmpV v.1 v.2.1 v.2.2 v'.1 v'.2.1 v'.2.2 ≠ 0 then cmpV v.1 v.2.1 v.2.2 v'.1 v'.2.1 v'.2.2 else Lib.compareBytes r r' := by
  have hk := right_k h
  have hk' := right_k h'
  obtain ⟨k, n, s⟩ := v
  obtain ⟨k', n', s'⟩ := v'
  simp only at hk hk'
  simp only [encV, List.cons_append, Lib.compareBytes]
  simp only [byt_lt (a := k) (b := k') (by omega) (by omega), byt_lt (a := k') (b := k) (by omega) (by omega)]
  rw [cmp_ite]
  by_cases e : cmpI k k' = 0
  · have ek : k = k' := by have := cmpI_range k k'; omega
    subst ek
    rw [if_neg (by simp [e])]
    unfold fitV at hf hf'
    simp only at hf hf'
    have hv : cmpV k n s k n' s' = if cmpI n n' ≠ 0 then cmpI n n' else Lib.compareBytes s.data.toList s'.data.toList := by
      unfold cmpV orI
      rw [e]
      simp
    rw [hv]
    rcases hk with hk | hk | hk | hk | hk
    all_goals subst hk
    · obtain ⟨rfl, rfl⟩ := right_0 h
      obtain ⟨rfl, rfl⟩ := right_0 h'
      simp [bodyP, cmpI, Lib.compareBytes]
    · obtain ⟨h1, rfl⟩ := right_1 h
      obtain ⟨h2, rfl⟩ := right_1 h'
      simp only [bodyP, if_true]
      rw [cmp_be 1 r r' (by omega) (by omega) (by omega) (by omega), cmp_ite]
      by_cases c : cmpI n n' = 0 <;> simp [Lib.compareBytes, c]
    · obtain ⟨h1, rfl⟩ := right_2 h
      obtain ⟨h2, rfl⟩ := right_2 h'
      simp only [bodyP, if_true, show ¬ (2 : Int) = 1 by decide, if_false]
      rw [cmp_be 4 r r' (by omega) (by omega) (by omega) (by omega), cmp_ite, show cmpI (n + 2147483648) (n' + 2147483648) = cmpI n n' by unfold cmpI; omega]
      by_cases c : cmpI n n' = 0 <;> simp [Lib.compareBytes, c]
    · obtain rfl := right_3 h
      obtain rfl := right_3 h'
      simp only [bodyP, if_true, show ¬ (3 : Int) = 1 by decide, show ¬ (3 : Int) = 2 by decide, if_false]
      rw [cmp_be 8 r r' (by omega) (by omega) (by omega) (by omega), cmp_ite, show cmpI (n + 9223372036854775808) (n' + 9223372036854775808) = cmpI n n' by unfold cmpI; omega]
      by_cases c : cmpI n n' = 0 <;> simp [Lib.compareBytes, c]
    · obtain ⟨rfl, _⟩ := right_4 h
      obtain ⟨rfl, _⟩ := right_4 h'
      simp only [bodyP, if_true, show ¬ (4 : Int) = 1 by decide, show ¬ (4 : Int) = 2 by decide, show ¬ (4 : Int) = 3 by decide, if_false, List.append_assoc, List.cons_append, List.nil_append]
      rw [cmp_esc]
      simp [cmpI]
  · have hv : cmpV k n s k' n' s' = cmpI k k' := by
      unfold cmpV orI
      rw [if_pos e]
    rw [hv]
    simp [e]
/-- the bytes of right values are in order as these are -/
theorem cmp_enc : ∀ (a b : List (Int × Int × ByteArray)), rightL a = true → rightL b = true → (∀ v ∈ a, fitV v) → (∀ v ∈ b, fitV v) → Lib.compareBytes (encL a) (encL b) = cmpL a b
  | [], [], _, _, _, _ => rfl
  | [], _ :: _, _, _, _, _ => rfl
  | _ :: _, [], _, _, _, _ => rfl
  | v :: a, v' :: b, h, h', hf, hf' => by
    obtain ⟨h1, h2⟩ := right_all h
    obtain ⟨g1, g2⟩ := right_all h'
    show Lib.compareBytes (encV v ++ encL a) (encV v' ++ encL b) = _
    rw [cmp_step h1 g1 (hf v (by simp)) (hf' v' (by simp)), cmp_enc a b h2 g2 (fun x hx => hf x (by simp [hx])) (fun x hx => hf' x (by simp [hx]))]
    rfl
theorem less_cmp : ∀ a b : List UInt8, Op.bytesLess a b = decide (Lib.compareBytes a b < 0)
  | [], [] => by simp [Op.bytesLess, Lib.compareBytes]
  | [], _ :: _ => by simp [Op.bytesLess, Lib.compareBytes]
  | _ :: _, [] => by simp [Op.bytesLess, Lib.compareBytes]
  | a :: x, b :: y => by
    rw [Op.bytesLess, Lib.compareBytes, less_cmp x y]
    by_cases h : a < b
    · simp [h]
    · by_cases g : b < a
      · have : ¬ a = b := fun e => by subst e; exact h g
        simp [h, g, this]
      · have := u8_eq h g
        subst this
        simp [h]
theorem same_cmp (a b : List UInt8) : (a == b) = decide (Lib.compareBytes a b = 0) := by
  by_cases h : a = b
  · subst h; simp [cb_self]
  · have : ¬ Lib.compareBytes a b = 0 := fun e => h (cb_zero e)
    simp [h, this]

/-- all instances of a text replaced, from the left -/
theorem rep_nil (old new : List UInt8) (h : old ≠ []) : Lib.replaceAll [] old new = [] := by
  unfold Lib.replaceAll Lib.replace
  split
  · rfl
  · have hi : Lib.index [] old = -1 := by cases old with | nil => exact absurd rfl h | cons => rfl
    rw [Lib.replaceNum, if_pos (Or.inl (by decide)), Lib.count_miss hi]
    rfl
theorem rep_hit {old new s : List UInt8} (hne : old ≠ new) (h : old ≠ []) {i : Nat} (hi : Lib.index s old = i) : Lib.replaceAll s old new = s.take i ++ new ++ Lib.replaceAll (s.drop (i + old.length)) old new := by
  have hb : ¬ (old == new) = true := by simpa using hne
  unfold Lib.replaceAll Lib.replace
  rw [if_neg hb, if_neg hb, Lib.replaceNum, if_pos (Or.inl (by decide)), Lib.replaceNum, if_pos (Or.inl (by decide)), Lib.count_hit h hi, Nat.add_comm, Lib.replaceK_hit _ _ _ _ i hi]
theorem rep_miss {old new s : List UInt8} (hi : Lib.index s old = -1) : Lib.replaceAll s old new = s := by
  unfold Lib.replaceAll Lib.replace
  split
  · rfl
  · rw [Lib.replaceNum, if_pos (Or.inl (by decide)), Lib.count_miss hi]
    rfl
theorem rep_yes {old new l : List UInt8} {b : UInt8} (hne : old ≠ new) (h : old ≠ []) (hp : old.isPrefixOf (b :: l) = true) : Lib.replaceAll (b :: l) old new = new ++ Lib.replaceAll ((b :: l).drop old.length) old new := by
  have hi : Lib.index (b :: l) old = (0 : Nat) := by rw [Lib.index, if_pos hp]; rfl
  rw [rep_hit hne h hi]
  simp
theorem rep_no {old new l : List UInt8} {b : UInt8} (hne : old ≠ new) (h : old ≠ []) (hp : old.isPrefixOf (b :: l) = false) : Lib.replaceAll (b :: l) old new = b :: Lib.replaceAll l old new := by
  have hi : Lib.index (b :: l) old = if Lib.index l old == -1 then -1 else Lib.index l old + 1 := by rw [Lib.index, if_neg (by simp [hp])]
  by_cases hm : Lib.index l old = -1
  · rw [hm] at hi
    rw [rep_miss hm, rep_miss (by simpa using hi)]
  · have hge := Lib.index_ge l old
    obtain ⟨i, hl⟩ : ∃ i : Nat, Lib.index l old = i := ⟨(Lib.index l old).toNat, by omega⟩
    rw [if_neg (by simpa using hm), hl] at hi
    rw [rep_hit hne h (i := i + 1) (by rw [hi]; omega), rep_hit hne h hl, show i + 1 + old.length = (i + old.length) + 1 by omega]
    simp
theorem rep_esc : ∀ l : List UInt8, Lib.replaceAll l [0] [0, 255] = esc l
  | [] => rep_nil _ _ (by simp)
  | b :: l => by
    rw [esc]
    by_cases hb : b = 0
    · subst hb
      rw [rep_yes (by decide) (by decide) (by simp [List.isPrefixOf]), if_pos rfl]
      simp [rep_esc l]
    · rw [rep_no (by decide) (by decide) (by simp [List.isPrefixOf]; exact fun e => hb e.symm), if_neg hb, rep_esc l]
theorem rep_unesc : ∀ l : List UInt8, Lib.replaceAll l [0, 255] [0] = unesc l
  | [] => rep_nil _ _ (by simp)
  | [b] => by
    rw [rep_no (by decide) (by decide) (by simp [List.isPrefixOf]), rep_nil _ _ (by decide), unesc]
  | b :: c :: l => by
    rw [unesc]
    by_cases hb : b = 0 ∧ c = 255
    · obtain ⟨rfl, rfl⟩ := hb
      rw [rep_yes (by decide) (by decide) (by simp [List.isPrefixOf]), if_pos ⟨rfl, rfl⟩]
      simp [rep_unesc l]
    · rw [rep_no (by decide) (by decide) (by simp [List.isPrefixOf]; intro e1 e2; exact hb ⟨e1.symm, e2.symm⟩), if_neg hb, rep_unesc (c :: l)]
theorem esc_length : ∀ l : List UInt8, (esc l).length ≤ 2 * l.length
  | [] => by simp [esc]
  | b :: l => by
    have := esc_length l
    rw [esc]
    split <;> simp <;> omega
theorem enc_length {v : Int × Int × ByteArray} (h : rightV v = true) : 1 ≤ (encV v).length ∧ (encV v).length ≤ 403 := by
  refine ⟨by simp [encV], ?_⟩
  have hk := right_k h
  obtain ⟨k, n, s⟩ := v
  simp only at hk
  rcases hk with hk | hk | hk | hk | hk
  all_goals subst hk
  · simp [encV, bodyP]
  · simp [encV, bodyP, be_length]
  · simp [encV, bodyP, be_length]
  · simp [encV, bodyP, be_length]
  · obtain ⟨_, h2⟩ := right_4 h
    have := esc_length s.data.toList
    have e : s.data.toList.length = s.size := rfl
    simp only [encV, bodyP]
    simp at this ⊢
    omega
theorem encL_length : ∀ {l : List (Int × Int × ByteArray)}, rightL l = true → (encL l).length ≤ 403 * l.length
  | [], _ => by simp [encL]
  | v :: l, h => by
    obtain ⟨h1, h2⟩ := right_all h
    have a := enc_length h1
    have b := encL_length h2
    show (encV v ++ encL l).length ≤ _
    rw [List.length_append, List.length_cons]
    omega
end Go.Proofs.Ytkibacolnagkcaa.Code
