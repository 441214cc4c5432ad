/-
  Contracts of code.read, code.first and code.Skip, for every argument.
-/
import Derived.Test.YtmaecoidoejipaaDoorCodeText
namespace Go.Proofs.YtmaecoidoejipaaDoor.Code
open Go.ChangeShapes Go.WideShapes Go.ChangeAt Go.RowKit Val
set_option linter.unusedVariables false
set_option linter.unusedSimpArgs false

def readAt (b : UInt8) (t : List UInt8) : Int × Int × ByteArray := if b = 1 then (1, unbe t, ⟨#[]⟩) else if b = 2 then (2, unbe t - 2147483648, ⟨#[]⟩) else if b = 3 then (3, unbe t - 9223372036854775808, ⟨#[]⟩) else if b = 4 then (4, 0, ⟨(unesc (t.take (t.length - 2))).toArray⟩) else ((b.toNat : Int), 0, ⟨#[]⟩)
theorem readP_at (s : ByteArray) (h : 1 ≤ s.size) : readP s.data.toList = readAt s[0] (s.data.toList.drop 1) := by
  obtain ⟨⟨l⟩⟩ := s
  cases l with
  | nil => exact absurd h (by decide)
  | cons b t => rfl
theorem unbe_snoc (b : UInt8) : ∀ l : List UInt8, unbe (l ++ [b]) = 256 * unbe l + b.toNat
  | [] => by simp [unbe]
  | a :: l => by
    have h := unbe_snoc b l
    show (a.toNat : Int) * 256 ^ (l ++ [b]).length + unbe (l ++ [b]) = 256 * ((a.toNat : Int) * 256 ^ l.length + unbe l) + b.toNat
    rw [h, List.length_append, List.length_singleton, pow_up, Int.mul_add, ← Int.mul_assoc, ← Int.mul_assoc, Int.mul_comm (a.toNat : Int) 256]
    omega
theorem getN_unbe (s : ByteArray) : ∀ k, k ≤ s.size → Num.getN s k = unbe (s.data.toList.take k)
  | 0, _ => rfl
  | k + 1, h => by
    have hl : s.data.toList.length = s.size := rfl
    rw [Num.getN, getN_unbe s k (by omega), List.take_succ_eq_append_getElem (by omega), unbe_snoc, ← Num.byteAt_in s k (by omega)]
    rfl
theorem getV_unbe (s : ByteArray) (h : s.size = 8) : Num.getV s = unbe s.data.toList := by
  have hl : s.data.toList.length = s.size := rfl
  unfold Num.getV
  rw [if_pos h, getN_unbe s 8 (by omega), List.take_of_length_le (by omega)]
theorem unbe1 (s : ByteArray) (h : s.size = 1) : unbe s.data.toList = (s[0].toNat : Int) := by
  obtain ⟨⟨l⟩⟩ := s
  have hl : l.length = 1 := h
  match l, hl with
  | [a], _ =>
    show unbe [a] = (a.toNat : Int)
    simp [unbe]
theorem cut_from (s : ByteArray) (i : Int) (a : Nat) (hi : i = a) (g : a ≤ s.size) (w : World) :
    (Instr.slice 9 (.string s) (some (.int .i64 i)) none none).run Tryd.prog w = .ok (.string (s.extract a s.size)) w := by
  rw [run_slice_string_from_if w 9 s .i64 i Tryd.underlying9, if_pos (by omega), show i.toNat = a by omega]
theorem cut_to (s : ByteArray) (i : Int) (a : Nat) (hi : i = a) (g : a ≤ s.size) (w : World) :
    (Instr.slice 9 (.string s) none (some (.int .i64 i)) none).run Tryd.prog w = .ok (.string (s.extract 0 a)) w := by
  rw [run_slice_string_to_if w 9 s .i64 i Tryd.underlying9, if_pos (by omega), show i.toNat = a by omega]
theorem from_list (s : ByteArray) (a : Nat) : (s.extract a s.size).data.toList = s.data.toList.drop a := by
  have hl : s.data.toList.length = s.size := rfl
  rw [ByteArray.data_extract, Array.toList_extract, List.extract_eq_take_drop]
  exact List.take_of_length_le (by rw [List.length_drop]; omega)
theorem to_list (s : ByteArray) (a : Nat) : (s.extract 0 a).data.toList = s.data.toList.take a := by
  rw [ByteArray.data_extract, Array.toList_extract, List.extract_eq_take_drop]
  simp
theorem size_list (s : ByteArray) : s.size = s.data.toList.length := rfl

theorem unesc_length : ∀ (l : List UInt8), (unesc l).length ≤ l.length
  | [] => by simp [unesc]
  | [b] => by simp [unesc]
  | b :: c :: l => by
    have h1 := unesc_length l
    have h2 := unesc_length (c :: l)
    rw [unesc]
    split
    · simp; omega
    · simp at h2 ⊢; omega
theorem retV {k n : Int} {s : ByteArray} {v : Int × Int × ByteArray} (h : v = (k, n, s)) : Ending.returned (.agg #[.int .i64 k, .int .i64 n, .string s]) = .returned (.agg #[.int .i64 v.1, .int .i64 v.2.1, .string v.2.2]) := by rw [h]
set_option maxHeartbeats 1600000 in
theorem read_any (s : ByteArray) (m : Int) (w : World) (hs : s.size ≤ 1000000) (h1 : 1 ≤ s.size) (hl : lenP s.data.toList = s.size) (hm : w.cell? ⟨0, 0, none⟩ = some (.int .i64 m)) :
    Calls Tryd.prog 33 #[.string s] w fun e w' => e = .returned (.agg #[.int .i64 (readP s.data.toList).1, .int .i64 (readP s.data.toList).2.1, .string (readP s.data.toList).2.2]) ∧ Below w.heap.size w w' := by
  have hlt : 0 < w.heap.size := World.block_lt_of_cell? _ _ hm
  have HM := Lib.hid hm
  clear hm
  have hp : 0 < s.size := by omega
  have HR := Lib.hid (readP_at s h1)
  rw [lenP_at s h1] at hl
  obtain ⟨B, hB⟩ : ∃ B, s.extract 1 s.size = B := ⟨_, rfl⟩
  have BL : B.data.toList = s.data.toList.drop 1 := by rw [← hB]; exact from_list s 1
  have BS : B.size = s.size - 1 := by rw [size_list, BL, List.length_drop]; rfl
  have hsl := cut_from s 1 1 rfl h1
  rw [hB] at hsl
  rw [← BL] at HR
  have HBL := Lib.hid BL
  clear hB BL
  by_cases a1 : s[0] = 1
  · rw [if_neg (by rw [a1]; decide), if_pos a1] at hl
    have HX := Lib.hid (HR.out.trans (if_pos a1))
    have hB1 : B.size = 1 := by omega
    have HU := Lib.hid (unbe1 B hB1)
    have hp2 : 0 < B.size := by omega
    have hw := wrap_u8 B[0]
    clear hl BS
    go_enter Tryd.func33, Tryd.ntmps33
    go_wp2
    exact bodyPost_ret (v := .agg #[.int .i64 1, .int .i64 (B[0].toNat : Int), .string ⟨#[]⟩]) (by simp [results, Tryd.results33, go_sem, World.cell?_setCell_other]) rfl ⟨retV (HX.out.trans (by rw [HU.out])), (((Below.refl _ _).alloc (Nat.le_refl _) _).alloc (by simp) _)⟩
  by_cases a2 : s[0] = 2
  · rw [if_neg (by rw [a2]; decide), if_neg a1, if_pos a2] at hl
    have HX := Lib.hid (HR.out.trans ((if_neg a1).trans (if_pos a2)))
    have hB1 : B.size = 4 := by omega
    have hu := unbe_lt B.data.toList
    have HT := Lib.hid (top_back (n := unbe B.data.toList) (by rw [← size_list, hB1] at hu; exact ⟨hu.1, by omega⟩))
    clear hl BS hu
    go_enter Tryd.func33, Tryd.ntmps33
    go_wp2_with fail
    refine (cget_any B _ hB1).mono ?_
    rintro e w1 ⟨rfl, hb⟩
    have X := ((Box.fresh w 0 0 ⟨#[]⟩ 32).alloc (.cells #[.int .i64 2, .int .i64 0, .string ⟨#[]⟩] 32)).call hb
    have Y0 := Box.fresh (w.alloc (.cells #[.int .i64 0, .int .i64 0, .string ⟨#[]⟩] 32)) 2 0 ⟨#[]⟩ 32
    have Y := Y0.call hb
    rw [show (w.alloc (.cells #[.int .i64 0, .int .i64 0, .string ⟨#[]⟩] 32)).heap.size = w.heap.size + 1 by simp] at Y
    have L := Lib.hid (bnext (((below_alloc w (.cells #[.int .i64 0, .int .i64 0, .string ⟨#[]⟩] 32))).alloc (by simp) _) (by simp; omega) hb)
    obtain ⟨x0, x1, x2, xz⟩ := X
    obtain ⟨hc, hf⟩ := bcell hb
    have hz := hb.size
    go_wp2
    exact bodyPost_ret (v := .agg #[.int .i64 2, .int .i64 (unbe B.data.toList - 2147483648), .string ⟨#[]⟩]) (by simp [results, Tryd.results33, go_sem, World.cell?_setCell_other, x0, x1, x2, HT.out]) rfl ⟨retV (HX.out.trans (by rfl)), (((L.out.setCell (by simp) _).setCell (by simp) _).setCell (by simp) _).setCell (by simp) _⟩
  by_cases a3 : s[0] = 3
  · rw [if_neg (by rw [a3]; decide), if_neg a1, if_neg a2, if_pos a3] at hl
    have HX := Lib.hid (HR.out.trans ((if_neg a1).trans ((if_neg a2).trans (if_pos a3))))
    have hB1 : B.size = 8 := by omega
    have HU := Lib.hid (getV_unbe B hB1)
    have hfu : Num.fitsU (Num.getV B) := by rw [show Num.getV B = Num.getN B 8 from if_pos hB1]; exact Num.getN_fits B
    clear hl BS
    go_enter Tryd.func33, Tryd.ntmps33
    go_wp2_with fail
    refine (Num.get_any B _).mono ?_
    rintro e w' ⟨rfl, rfl⟩
    go_wp2_with fail
    refine (Num.unflip_any _ _ hfu).mono ?_
    rintro e w' ⟨rfl, rfl⟩
    go_wp2
    exact bodyPost_ret (v := .agg #[.int .i64 3, .int .i64 (Num.unflip (Num.getV B)), .string ⟨#[]⟩]) (by simp [results, Tryd.results33, go_sem, World.cell?_setCell_other]) rfl ⟨retV (HX.out.trans (by rw [HU.out]; rfl)), (((Below.refl _ _).alloc (Nat.le_refl _) _).alloc (by simp) _)⟩
  by_cases a4 : s[0] = 4
  · rw [if_neg (by rw [a4]; decide), if_neg a1, if_neg a2, if_neg a3, if_pos a4] at hl
    have HX := Lib.hid (HR.out.trans ((if_neg a1).trans ((if_neg a2).trans ((if_neg a3).trans (if_pos a4)))))
    have hB1 : 2 ≤ B.size := by
      unfold lenT at hl
      split at hl <;> omega
    have hB2 : B.size ≤ 1000000 := by omega
    obtain ⟨C, hC⟩ : ∃ C, B.extract 0 (B.size - 2) = C := ⟨_, rfl⟩
    have CL : C.data.toList = B.data.toList.take (B.data.toList.length - 2) := by rw [← hC]; exact to_list B _
    have CS : C.size ≤ 1000000 := by rw [size_list, CL, List.length_take]; rw [← size_list]; omega
    have hsl2 := cut_to B ((B.size : Int) - 2) (B.size - 2) (by omega) (by omega)
    rw [hC] at hsl2
    have HC := Lib.hid CL
    have hU : (⟨(unesc C.data.toList).toArray⟩ : ByteArray).size ≤ 1000000 := by
      have := unesc_length C.data.toList
      show (unesc C.data.toList).length ≤ 1000000
      rw [size_list] at CS
      omega
    clear hl BS hC CL
    go_enter Tryd.func33, Tryd.ntmps33
    go_wp2_with fail
    refine (rep1 m C _ CS (by rw [((below_alloc w _).alloc (by simp) _).cell (p := ⟨0, 0, none⟩) hlt]; exact HM.out)).mono ?_
    rintro e w0 ⟨rfl, hb0⟩
    go_wp2_with fail
    refine (clone_any _ _ hU).mono ?_
    rintro e w1 ⟨rfl, hb1⟩
    have hb := bnext hb0 hb0.size hb1
    clear hb0 hb1
    have X := ((Box.fresh w 0 0 ⟨#[]⟩ 32).alloc (.cells #[.int .i64 4, .int .i64 0, .string ⟨#[]⟩] 32)).call hb
    have Y0 := Box.fresh (w.alloc (.cells #[.int .i64 0, .int .i64 0, .string ⟨#[]⟩] 32)) 4 0 ⟨#[]⟩ 32
    have Y := Y0.call hb
    rw [show (w.alloc (.cells #[.int .i64 0, .int .i64 0, .string ⟨#[]⟩] 32)).heap.size = w.heap.size + 1 by simp] at Y
    have L := Lib.hid (bnext (((below_alloc w (.cells #[.int .i64 0, .int .i64 0, .string ⟨#[]⟩] 32))).alloc (by simp) _) (by simp; omega) hb)
    obtain ⟨x0, x1, x2, xz⟩ := X
    obtain ⟨hc, hf⟩ := bcell hb
    have hz := hb.size
    go_wp2
    exact bodyPost_ret (v := .agg #[.int .i64 4, .int .i64 0, .string ⟨(unesc C.data.toList).toArray⟩]) (by simp [results, Tryd.results33, go_sem, World.cell?_setCell_other, x0, x1, x2]) rfl ⟨retV (HX.out.trans (by rw [HC.out])), (((L.out.setCell (by simp) _).setCell (by simp) _).setCell (by simp) _).setCell (by simp) _⟩
  have a0 : s[0] = 0 := by
    by_cases a0 : s[0] = 0
    · exact a0
    · rw [if_neg a0, if_neg a1, if_neg a2, if_neg a3, if_neg a4] at hl
      omega
  have HX := Lib.hid (HR.out.trans ((if_neg a1).trans ((if_neg a2).trans ((if_neg a3).trans (if_neg a4)))))
  clear hl BS
  go_enter Tryd.func33, Tryd.ntmps33
  go_wp2
  exact bodyPost_ret (v := .agg #[.int .i64 0, .int .i64 0, .string ⟨#[]⟩]) (by simp [results, Tryd.results33, go_sem, World.cell?_setCell_other]) rfl ⟨retV (HX.out.trans (by rw [a0]; rfl)), (((Below.refl _ _).alloc (Nat.le_refl _) _).alloc (by simp) _)⟩

/-- what first tells -/
def fstV (s : List UInt8) : Int × Int × ByteArray := match firstP s with | some (v, _) => v | none => (0, 0, ⟨#[]⟩)
def fstN (s : List UInt8) : Nat := match firstP s with | some (_, n) => n | none => 0
theorem fst_none {s : List UInt8} (h : firstP s = none) : fstV s = (0, 0, ⟨#[]⟩) ∧ fstN s = 0 := by unfold fstV fstN; rw [h]; exact ⟨rfl, rfl⟩
theorem fst_some {s : List UInt8} {v : Int × Int × ByteArray} {n : Nat} (h : firstP s = some (v, n)) : fstV s = v ∧ fstN s = n := by unfold fstV fstN; rw [h]; exact ⟨rfl, rfl⟩
theorem tlen_take {t : List UInt8} {j : Nat} (h : tlen t = some j) : tlen (t.take (j + 2)) = some j := by
  obtain ⟨g1, g2⟩ := tlen_back t.length (Nat.le_refl _) h
  have hl : j + 2 ≤ t.length := by
    have := congrArg List.length g1
    simp at this
    by_cases hj : j ≤ t.length
    · rw [Nat.min_eq_left hj] at this; omega
    · rw [Nat.min_eq_right (by omega)] at this; omega
  have lj : (t.take j).length = j := by simp; omega
  have et : t.take (j + 2) = t.take j ++ 0 :: 0 :: [] := by
    conv => lhs; rw [g1]
    rw [List.take_append, lj, List.take_of_length_le (by omega)]
    simp
  rw [et, ← g2, tlen_esc, g2, lj]
theorem lenP_take {s : List UInt8} (h : lenP s ≤ s.length) (h0 : lenP s ≠ 0) : lenP (s.take (lenP s)) = lenP s := by
  cases s with
  | nil => exact absurd rfl h0
  | cons b t =>
    simp only [lenP] at h h0 ⊢
    by_cases b0 : b = 0
    · simp [b0, lenP]
    by_cases b1 : b = 1
    · simp [b1, lenP]
    by_cases b2 : b = 2
    · simp [b2, lenP]
    by_cases b3 : b = 3
    · simp [b3, lenP]
    by_cases b4 : b = 4
    · cases ht : tlen t with
      | none => simp [b4, ht] at h0
      | some j => simp [b4, lenP, tlen_take ht]
    · simp [b0, b1, b2, b3, b4] at h0
theorem read_fits (s : List UInt8) (h : lenP s = s.length) : fits (readP s).2.1 := by
  unfold fits
  cases s with
  | nil => simp [readP]
  | cons b t =>
    have hu := unbe_lt t
    simp only [lenP, List.length_cons] at h
    simp only [readP]
    by_cases b0 : b = 0
    · simp [b0]
    by_cases b1 : b = 1
    · rw [if_neg b0, if_pos b1] at h
      rw [show t.length = 1 by omega] at hu
      simp [b1]
      omega
    by_cases b2 : b = 2
    · rw [if_neg b0, if_neg b1, if_pos b2] at h
      rw [show t.length = 4 by omega] at hu
      simp [b2]
      omega
    by_cases b3 : b = 3
    · rw [if_neg b0, if_neg b1, if_neg b2, if_pos b3] at h
      rw [show t.length = 8 by omega] at hu
      simp [b3]
      omega
    by_cases b4 : b = 4
    · simp [b4]
    · simp [b1, b2, b3, b4]
/-- a block that may be written -/
def Frz (W : World) (b : Nat) : Prop := (∀ j, W.frozen? ⟨b, j, none⟩ = false) ∧ b < W.heap.size
theorem Frz.call {W W' : World} {b : Nat} (h : Frz W b) (hb : Below W.heap.size W W') : Frz W' b :=
  ⟨fun j => by rw [hb.frozen (p := ⟨b, j, none⟩) h.2]; exact h.1 j, Nat.lt_of_lt_of_le h.2 hb.size⟩
theorem Frz.alloc {W : World} {b : Nat} (h : Frz W b) (o : Obj) : Frz (W.alloc o) b := h.call (below_alloc W o)
theorem Frz.fresh (W : World) (cs : Array Value) (t : TypeId) : Frz (W.alloc (.cells cs t)) W.heap.size := ⟨fun j => by simp [go_sem], by simp⟩
theorem retF {v x : Int × Int × ByteArray} {n : Nat} {i : Int} (h : v = x) (g : (n : Int) = i) : Ending.returned (.tuple #[.agg #[.int .i64 x.1, .int .i64 x.2.1, .string x.2.2], .int .i64 i]) = .returned (.tuple #[.agg #[.int .i64 v.1, .int .i64 v.2.1, .string v.2.2], .int .i64 (n : Int)]) := by rw [h, g]
set_option maxHeartbeats 1600000 in
theorem first_any (s : ByteArray) (m : Int) (w : World) (hs : s.size ≤ 1000000) (hm : w.cell? ⟨0, 0, none⟩ = some (.int .i64 m)) :
    Calls Tryd.prog 22 #[.string s] w fun e w' => e = .returned (.tuple #[.agg #[.int .i64 (fstV s.data.toList).1, .int .i64 (fstV s.data.toList).2.1, .string (fstV s.data.toList).2.2], .int .i64 (fstN s.data.toList : Nat)]) ∧ Below w.heap.size w w' := by
  have hlt : 0 < w.heap.size := World.block_lt_of_cell? _ _ hm
  have HM := Lib.hid hm
  clear hm
  obtain ⟨N, hN⟩ : ∃ N, lenP s.data.toList = N := ⟨_, rfl⟩
  have HL : Hid (∀ w, Calls Tryd.prog 32 #[.string s] w fun e w' => e = .returned (.int .i64 (N : Nat)) ∧ Below w.heap.size w w') := Lib.hid (fun w => by rw [← hN]; exact length_any s w hs)
  by_cases h0 : N = 0
  · have HX := Lib.hid (fst_none (s := s.data.toList) (by unfold firstP; rw [if_pos (Or.inl (hN.trans h0))]))
    subst h0
    go_enter Tryd.func22, Tryd.ntmps22
    go_wp2_with fail
    refine (HL.out _).mono ?_
    rintro e w1 ⟨rfl, hb⟩
    obtain ⟨x0, x1, x2, xz⟩ := (Box.fresh w 0 0 ⟨#[]⟩ 32).call hb
    have L := Lib.hid (bnext (below_alloc w _) (by simp) hb)
    obtain ⟨hc, hf⟩ := bcell hb
    go_wp2
    exact bodyPost_ret (v := .tuple #[.agg #[.int .i64 0, .int .i64 0, .string ⟨#[]⟩], .int .i64 0]) (by simp [results, Tryd.results22, go_sem, World.cell?_setCell_other, x0, x1, x2]) rfl ⟨retF (x := (0, 0, ⟨#[]⟩)) HX.out.1 (by rw [HX.out.2]; rfl), ((L.out.setCell (by simp) _).setCell (by simp) _).setCell (by simp) _⟩
  have h0' : ((N : Int) == 0) = false := by simp; omega
  by_cases h1 : s.size < N
  · have HX := Lib.hid (fst_none (s := s.data.toList) (by unfold firstP; rw [if_pos (Or.inr (by rw [hN]; exact h1))]))
    go_enter Tryd.func22, Tryd.ntmps22
    go_wp2_with fail
    refine (HL.out _).mono ?_
    rintro e w1 ⟨rfl, hb⟩
    obtain ⟨x0, x1, x2, xz⟩ := (Box.fresh w 0 0 ⟨#[]⟩ 32).call hb
    have L := Lib.hid (bnext (below_alloc w _) (by simp) hb)
    obtain ⟨hc, hf⟩ := bcell hb
    go_wp2
    exact bodyPost_ret (v := .tuple #[.agg #[.int .i64 0, .int .i64 0, .string ⟨#[]⟩], .int .i64 0]) (by simp [results, Tryd.results22, go_sem, World.cell?_setCell_other, x0, x1, x2]) rfl ⟨retF (x := (0, 0, ⟨#[]⟩)) HX.out.1 (by rw [HX.out.2]; rfl), ((L.out.setCell (by simp) _).setCell (by simp) _).setCell (by simp) _⟩
  obtain ⟨S, hS⟩ : ∃ S, s.extract 0 N = S := ⟨_, rfl⟩
  have SL : S.data.toList = s.data.toList.take (lenP s.data.toList) := by rw [← hS, hN]; exact to_list s N
  have SS : S.size = N := by rw [size_list, SL, List.length_take, hN, ← size_list]; omega
  have SP : lenP S.data.toList = S.size := by rw [SL, lenP_take (by rw [hN, ← size_list]; omega) (by omega), hN, SS]
  have hsl := cut_to s N N rfl (by omega)
  rw [hS] at hsl
  obtain ⟨v, hv⟩ : ∃ v, readP S.data.toList = v := ⟨_, rfl⟩
  obtain ⟨k, n, t⟩ := v
  have HR : Hid (∀ w, w.cell? ⟨0, 0, none⟩ = some (.int .i64 m) → Calls Tryd.prog 33 #[.string S] w fun e w' => e = .returned (.agg #[.int .i64 k, .int .i64 n, .string t]) ∧ Below w.heap.size w w') := Lib.hid (fun w hw => by
    have := read_any S m w (by omega) (by omega) SP hw
    rw [hv] at this
    exact this)
  have hn : fits n := by
    have := read_fits S.data.toList (by rw [SP, size_list])
    rw [hv] at this
    exact this
  have hF : firstP s.data.toList = if rightB k n t = true then some ((k, n, t), N) else none := by
    unfold firstP
    rw [if_neg (by rw [hN, ← size_list]; omega), ← SL, hv, hN]
    rfl
  have HRR : Hid (∀ w, Calls Tryd.prog 16 #[.agg #[.int .i64 k, .int .i64 n, .string t]] w fun e w' => e = .returned (.bool (rightB k n t)) ∧ Below w.heap.size w w') := Lib.hid (fun w => right_any k n t w hn)
  clear hN SL SS SP hS hv
  by_cases hr : rightB k n t = true
  · have HX := Lib.hid (fst_some (hF.trans (if_pos hr)))
    rw [hr] at HRR
    clear hF hr
    go_enter Tryd.func22, Tryd.ntmps22
    go_wp2_with fail
    refine (HL.out _).mono ?_
    rintro e w1 ⟨rfl, hb1⟩
    have X1 := Lib.hid ((Box.fresh w 0 0 ⟨#[]⟩ 32).call hb1)
    have F1 := Lib.hid ((Frz.fresh w #[.int .i64 0, .int .i64 0, .string ⟨#[]⟩] 32).call hb1)
    have L1 := Lib.hid (bnext (below_alloc w _) (by simp) hb1)
    clear hb1
    go_wp2_with fail
    refine (HR.out _ (by rw [L1.out.cell (p := ⟨0, 0, none⟩) hlt]; exact HM.out)).mono ?_
    rintro e w2 ⟨rfl, hb2⟩
    have X2 := Lib.hid (X1.out.call hb2)
    have F2 := Lib.hid (F1.out.call hb2)
    have L2 := Lib.hid (bnext L1.out L1.out.size hb2)
    clear hb2
    go_wp2_with fail
    refine (HRR.out _).mono ?_
    rintro e w3 ⟨rfl, hb3⟩
    have X3 := Lib.hid ((X2.out.alloc _).call hb3)
    obtain ⟨v0, v1, v2, vz⟩ := (Box.fresh w2 k n t 32).call hb3
    have L3 := Lib.hid (bnext (L2.out.alloc L2.out.size _) (by have := L2.out.size; simp; omega) hb3)
    obtain ⟨x0, x1, x2, xz⟩ := X3.out
    have xf := ((F2.out.alloc _).call hb3).1
    go_wp2
    exact bodyPost_ret (v := .tuple #[.agg #[.int .i64 k, .int .i64 n, .string t], .int .i64 (N : Int)]) (by simp [results, Tryd.results22, go_sem, World.cell?_setCell_other, x0, x1, x2]) rfl ⟨retF (x := (k, n, t)) HX.out.1 (by rw [HX.out.2]), ((L3.out.setCell (by simp) _).setCell (by simp) _).setCell (by simp) _⟩
  · have HX := Lib.hid (fst_none (hF.trans (if_neg hr)))
    have hr' : rightB k n t = false := by simpa using hr
    rw [hr'] at HRR
    clear hF hr hr'
    go_enter Tryd.func22, Tryd.ntmps22
    go_wp2_with fail
    refine (HL.out _).mono ?_
    rintro e w1 ⟨rfl, hb1⟩
    have X1 := Lib.hid ((Box.fresh w 0 0 ⟨#[]⟩ 32).call hb1)
    have F1 := Lib.hid ((Frz.fresh w #[.int .i64 0, .int .i64 0, .string ⟨#[]⟩] 32).call hb1)
    have L1 := Lib.hid (bnext (below_alloc w _) (by simp) hb1)
    clear hb1
    go_wp2_with fail
    refine (HR.out _ (by rw [L1.out.cell (p := ⟨0, 0, none⟩) hlt]; exact HM.out)).mono ?_
    rintro e w2 ⟨rfl, hb2⟩
    have X2 := Lib.hid (X1.out.call hb2)
    have F2 := Lib.hid (F1.out.call hb2)
    have L2 := Lib.hid (bnext L1.out L1.out.size hb2)
    clear hb2
    go_wp2_with fail
    refine (HRR.out _).mono ?_
    rintro e w3 ⟨rfl, hb3⟩
    have X3 := Lib.hid ((X2.out.alloc _).call hb3)
    obtain ⟨v0, v1, v2, vz⟩ := (Box.fresh w2 k n t 32).call hb3
    have L3 := Lib.hid (bnext (L2.out.alloc L2.out.size _) (by have := L2.out.size; simp; omega) hb3)
    obtain ⟨x0, x1, x2, xz⟩ := X3.out
    have xf := ((F2.out.alloc _).call hb3).1
    go_wp2
    exact bodyPost_ret (v := .tuple #[.agg #[.int .i64 0, .int .i64 0, .string ⟨#[]⟩], .int .i64 0]) (by simp [results, Tryd.results22, go_sem, World.cell?_setCell_other, x0, x1, x2]) rfl ⟨retF (x := (0, 0, ⟨#[]⟩)) HX.out.1 (by rw [HX.out.2]; rfl), ((L3.out.setCell (by simp) _).setCell (by simp) _).setCell (by simp) _⟩

def skipE (s : List UInt8) : Int := if fstN s = 0 then 41 else 0
set_option maxHeartbeats 800000 in
theorem skip_any (s : ByteArray) (m : Int) (w : World) (hs : s.size ≤ 1000000) (hm : w.cell? ⟨0, 0, none⟩ = some (.int .i64 m)) :
    Calls Tryd.prog 15 #[.string s] w fun e w' => e = .returned (.tuple #[.int .i64 (fstN s.data.toList : Nat), .int .i64 (skipE s.data.toList)]) ∧ Below w.heap.size w w' := by
  by_cases h : fstN s.data.toList = 0
  · have h' : ((fstN s.data.toList : Int) == 0) = true := by rw [h]; rfl
    have HE := Lib.hid (show skipE s.data.toList = 41 from if_pos h)
    go_enter Tryd.func15, Tryd.ntmps15
    go_wp2_with fail
    refine (first_any s m _ hs hm).mono ?_
    rintro e w1 ⟨rfl, hb⟩
    go_wp2
    go_ret2
    exact ⟨ret2 (by first | rfl | (rw [h]; rfl)) HE.out.symm, by first | exact hb | exact hb.alloc hb.size _⟩
  · have h' : ((fstN s.data.toList : Int) == 0) = false := by simp; omega
    have HE := Lib.hid (show skipE s.data.toList = 0 from if_neg h)
    go_enter Tryd.func15, Tryd.ntmps15
    go_wp2_with fail
    refine (first_any s m _ hs hm).mono ?_
    rintro e w1 ⟨rfl, hb⟩
    go_wp2
    go_ret2
    exact ⟨ret2 rfl HE.out.symm, by first | exact hb | exact hb.alloc hb.size _⟩
end Go.Proofs.YtmaecoidoejipaaDoor.Code
