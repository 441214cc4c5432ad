/-
  The plain mathematics of eight bytes: there and back, and in order.
-/
import Derived.Test.YtjdbmlcdheakhaaNumBytes
namespace Go.Proofs.Ytjdbmlcdheakhaa.Num
open Go.RowKit

theorem putS_size (a : Int) : (putS a).size = 8 := by unfold putS; rw [strOfNums_size]; rfl
theorem byteAt_nums (xs : List Int) (k : Nat) (h : k < xs.length) (hx : 0 ≤ xs[k] ∧ xs[k] ≤ 255) : byteAt (strOfNums xs) k = xs[k] := by
  have hk : k < (strOfNums xs).size := by rw [strOfNums_size]; exact h
  rw [← byteAt_in _ _ hk]
  have e : (strOfNums xs)[k] = UInt8.ofNat xs[k].toNat := by
    show (strOfNums xs).data[k] = _
    simp [strOfNums]
  rw [e, UInt8.toNat_ofNat']
  omega
theorem getN_putS (a : Int) (h : fitsU a) : getN (putS a) 8 = a := by
  have b : ∀ k (hk : k < (putL a).length), 0 ≤ (putL a)[k] ∧ (putL a)[k] ≤ 255 := by
    intro k hk
    rcases k with _ | _ | _ | _ | _ | _ | _ | _ | k
    all_goals first | (simp only [putL, List.getElem_cons_zero, List.getElem_cons_succ]; omega) | (simp [putL] at hk; omega)
  have e : ∀ k (hk : k < (putL a).length), byteAt (putS a) k = (putL a)[k] := fun k hk => byteAt_nums _ k hk (b k hk)
  unfold fitsU at h
  simp only [getN]
  rw [e 0 (by simp [putL]), e 1 (by simp [putL]), e 2 (by simp [putL]), e 3 (by simp [putL]), e 4 (by simp [putL]), e 5 (by simp [putL]), e 6 (by simp [putL]), e 7 (by simp [putL])]
  simp only [putL, List.getElem_cons_zero, List.getElem_cons_succ]
  omega
theorem getV_putS (a : Int) (h : fitsU a) : getV (putS a) = a := by unfold getV; rw [if_pos (putS_size a), getN_putS a h]
theorem getE_putS (a : Int) : getE (putS a) = 0 := by unfold getE; rw [if_pos (putS_size a)]
theorem putS_inj {a b : Int} (ha : fitsU a) (hb : fitsU b) : putS a = putS b ↔ a = b :=
  ⟨fun h => by rw [← getV_putS a ha, h, getV_putS b hb], fun h => by rw [h]⟩

/-- bytes as one number, the highest first -/
def numR : List Int → Int
  | [] => 0
  | x :: xs => x * 256 ^ xs.length + numR xs
def areBytes (l : List Int) : Prop := ∀ x ∈ l, 0 ≤ x ∧ x ≤ 255
theorem pow_pos256 (n : Nat) : (0 : Int) < 256 ^ n := Int.pow_pos (by decide)
theorem numR_lt : ∀ (l : List Int), areBytes l → 0 ≤ numR l ∧ numR l < 256 ^ l.length
  | [], _ => by simp [numR]
  | x :: xs, h => by
    have hx := h x (by simp)
    have ih := numR_lt xs (fun y hy => h y (by simp [hy]))
    have hp := pow_pos256 xs.length
    have e : (256 : Int) ^ (x :: xs).length = 256 * 256 ^ xs.length := by rw [List.length_cons, Int.pow_succ]; omega
    have h1 : 0 ≤ x * 256 ^ xs.length := Int.mul_nonneg hx.1 (by omega)
    have h2 : x * 256 ^ xs.length ≤ 255 * 256 ^ xs.length := Int.mul_le_mul_of_nonneg_right hx.2 (by omega)
    rw [e]
    simp only [numR]
    omega
theorem step_lt {x y p r s : Int} (h : x < y) (hr : r < p) (hs : 0 ≤ s) (hp : 0 < p) : x * p + r < y * p + s := by
  have : (x + 1) * p ≤ y * p := Int.mul_le_mul_of_nonneg_right (by omega) (by omega)
  rw [Int.add_mul] at this
  omega
theorem less_num : ∀ (l m : List Int), areBytes l → areBytes m → l.length = m.length →
    Op.bytesLess (l.map fun n => UInt8.ofNat n.toNat) (m.map fun n => UInt8.ofNat n.toNat) = decide (numR l < numR m)
  | [], [], _, _, _ => by simp [Op.bytesLess, numR]
  | [], _ :: _, _, _, h => by simp at h
  | _ :: _, [], _, _, h => by simp at h
  | x :: xs, y :: ys, hl, hm, h => by
    have hx := hl x (by simp)
    have hy := hm y (by simp)
    have hl' : areBytes xs := fun z hz => hl z (by simp [hz])
    have hm' : areBytes ys := fun z hz => hm z (by simp [hz])
    have hlen : xs.length = ys.length := by simpa using h
    have ih := less_num xs ys hl' hm' hlen
    have b1 := numR_lt xs hl'
    have b2 := numR_lt ys hm'
    have hp := pow_pos256 ys.length
    rw [hlen] at b1
    have e1 : (UInt8.ofNat x.toNat < UInt8.ofNat y.toNat) ↔ x < y := by
      rw [UInt8.lt_iff_toNat_lt, UInt8.toNat_ofNat', UInt8.toNat_ofNat']; omega
    have e2 : (UInt8.ofNat x.toNat = UInt8.ofNat y.toNat) ↔ x = y := by
      rw [← UInt8.toNat_inj, UInt8.toNat_ofNat', UInt8.toNat_ofNat']; omega
    rw [Bool.eq_iff_iff]
    simp only [List.map_cons, Op.bytesLess, ih, Bool.or_eq_true, Bool.and_eq_true, decide_eq_true_eq, beq_iff_eq, e1, e2]
    simp only [numR, hlen]
    rcases Int.lt_trichotomy x y with g | g | g
    · have := step_lt g b1.2 b2.1 hp
      simp [g, this]
    · subst g
      simp
    · have := step_lt g b2.2 b1.1 hp
      constructor
      · intro k; omega
      · intro k; omega
theorem putL_bytes (a : Int) : areBytes (putL a) := by
  intro x hx
  simp only [putL, List.mem_cons, List.not_mem_nil, or_false] at hx
  omega
theorem numR_putL (a : Int) (h : fitsU a) : numR (putL a) = a := by
  unfold fitsU at h
  simp only [putL, numR, List.length_cons, List.length_nil]
  omega
theorem putS_toList (a : Int) : (putS a).toList = (putL a).map fun n => UInt8.ofNat n.toNat := by simp [putS, strOfNums]
theorem putS_less {a b : Int} (ha : fitsU a) (hb : fitsU b) : Op.bytesLess (putS a).toList (putS b).toList = decide (a < b) := by
  have h := less_num (putL a) (putL b) (putL_bytes a) (putL_bytes b) rfl
  rw [numR_putL a ha, numR_putL b hb] at h
  rw [← h, putS_toList, putS_toList]
theorem putS_same {a b : Int} (ha : fitsU a) (hb : fitsU b) : ((putS a).toList == (putS b).toList) = (a == b) := by
  rw [Bool.eq_iff_iff, beq_iff_eq, beq_iff_eq, ← putS_inj ha hb, putS_toList, putS_toList]
  exact ⟨fun h => by unfold putS strOfNums; rw [h], fun h => by rw [← putS_toList, ← putS_toList, h]⟩
end Go.Proofs.Ytjdbmlcdheakhaa.Num
