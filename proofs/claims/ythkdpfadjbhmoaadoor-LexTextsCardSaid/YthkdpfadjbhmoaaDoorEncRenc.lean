/-
  Contracts of the document's One and Encode (cut out of CodeOne and CodeRenc).
-/
import Derived.Test.YthkdpfadjbhmoaaDoorEncEnc
namespace Go.Proofs.YthkdpfadjbhmoaaDoor.Code
open Go.ChangeShapes Go.WideShapes Go.ChangeAt Go.RowKit Val
set_option linter.unusedVariables false

theorem esc_snoc (b : UInt8) : ∀ l : List UInt8, esc (l ++ [b]) = esc l ++ (if b = 0 then [0, 255] else [b])
  | [] => by simp [esc]
  | c :: l => by
    show esc (c :: (l ++ [b])) = _
    rw [esc, esc, esc_snoc b l]
    split <;> simp
theorem esc_take (s : ByteArray) (k : Nat) (h : k < s.size) : esc (s.data.toList.take (k + 1)) = esc (s.data.toList.take k) ++ (if s[k] = 0 then [0, 255] else [s[k]]) := by
  have hl : s.data.toList.length = s.size := rfl
  rw [List.take_succ_eq_append_getElem (by omega), esc_snoc]
  rfl
theorem one_at (s : ByteArray) (k : Nat) (h : k < s.size) : s.extract k (k + 1) = ⟨#[s[k]]⟩ := by
  refine ba_of ?_
  have hl : s.data.toList.length = s.size := rfl
  rw [ByteArray.data_extract, Array.toList_extract, List.extract_eq_take_drop, List.drop_eq_getElem_cons (by omega), show k + 1 - k = 1 by omega]
  rfl
theorem putS_size (a : Int) : (Num.putS a).size = 8 := by
  unfold Num.putS
  rw [size_list, strOfNums_data]
  rfl
theorem put_low (u : Int) (h : 0 ≤ u ∧ u < 4294967296) : (Num.putS u).extract 4 (Num.putS u).size = ⟨(be 4 u).toArray⟩ := by
  refine ba_of ?_
  rw [from_list, putS_be u (by unfold Num.fitsU; omega)]
  exact be8_drop h
theorem strV {a b : ByteArray} (h : a = b) : Value.string a = Value.string b := by rw [h]
end Go.Proofs.YthkdpfadjbhmoaaDoor.Code

