/-
  Contracts of code.textLength, code.length and the document's One, for every argument.
-/
import Derived.Test.YtmaecoidoejipaaDoorCodeCalls
import Derived.Laws.Strings2
import Derived.Laws.Strings3
namespace Go.Proofs.YtmaecoidoejipaaDoor.Code
open Go.ChangeShapes Go.WideShapes Go.ChangeAt Go.RowKit Val
set_option linter.unusedVariables false

def lenT (t : List UInt8) : Nat := match tlen t with | some j => j + 3 | none => 0
/-- how many bytes a text has, as told from a place on -/
def atT (l : List UInt8) (k : Nat) : Nat := match tlen (l.drop k) with | some j => k + j + 2 | none => 0
theorem drop_two (s : ByteArray) (k : Nat) (h : k + 1 < s.size) : s.data.toList.drop k = s[k] :: s[k + 1] :: s.data.toList.drop (k + 2) := by
  have hl : s.data.toList.length = s.size := rfl
  rw [List.drop_eq_getElem_cons (by omega), List.drop_eq_getElem_cons (i := k + 1) (by omega)]
  rfl
theorem atT_end (s : ByteArray) (k : Nat) (h : k + 1 < s.size) (h0 : s[k] = 0) (h1 : s[k + 1] = 0) : atT s.data.toList k = k + 2 := by
  unfold atT
  rw [drop_two s k h, h0, h1, tlen, if_pos ⟨rfl, rfl⟩]
theorem atT_bad (s : ByteArray) (k : Nat) (h : k + 1 < s.size) (h0 : s[k] = 0) (h1 : s[k + 1] ≠ 0) (h2 : s[k + 1] ≠ 255) : atT s.data.toList k = 0 := by
  unfold atT
  rw [drop_two s k h, h0, tlen, if_neg (fun e => h1 e.2), if_pos ⟨rfl, h2⟩]
theorem atT_next (s : ByteArray) (k : Nat) (h : k + 1 < s.size) (h1 : s[k] ≠ 0 ∨ s[k + 1] = 255) : atT s.data.toList k = atT s.data.toList (k + 1) := by
  have hl : s.data.toList.length = s.size := rfl
  unfold atT
  have e : s.data.toList.drop (k + 1) = s[k + 1] :: s.data.toList.drop (k + 2) := by
    rw [List.drop_eq_getElem_cons (i := k + 1) (by omega)]
    rfl
  rw [drop_two s k h, tlen, if_neg, if_neg, e]
  · cases tlen (s[k + 1] :: s.data.toList.drop (k + 2)) with
    | none => rfl
    | some j => simp; omega
  · rintro ⟨a, b⟩
    rcases h1 with h1 | h1
    · exact h1 a
    · exact b h1
  · rintro ⟨a, b⟩
    rcases h1 with h1 | h1
    · exact h1 a
    · rw [h1] at b; revert b; decide
theorem atT_stop (s : ByteArray) (k : Nat) (h : s.size ≤ k + 1) : atT s.data.toList k = 0 := by
  have hl : s.data.toList.length = s.size := rfl
  unfold atT
  have : (s.data.toList.drop k).length ≤ 1 := by rw [List.length_drop]; omega
  cases hd : s.data.toList.drop k with
  | nil => rfl
  | cons a l =>
    rw [hd] at this
    cases l with
    | nil => rfl
    | cons b l => simp at this
theorem atT_1 (l : List UInt8) : lenT (l.drop 1) = atT l 1 := by
  unfold lenT atT
  cases tlen (l.drop 1) with
  | none => rfl
  | some j => simp; omega
/-- a piece of a text -/
theorem cut_at (s : ByteArray) (i j : Int) (a b : Nat) (hi : i = a) (hj : j = b) (h : a ≤ b) (g : b ≤ s.size) (w : World) :
    (Instr.slice 9 (.string s) (some (.int .i64 i)) (some (.int .i64 j)) none).run Tryd.prog w = .ok (.string (s.extract a b)) w := by
  rw [run_slice_string w 9 s .i64 .i64 i j Tryd.underlying9 (by omega) (by omega) (by omega), show i.toNat = a by omega, show j.toNat = b by omega]
theorem two_at (s : ByteArray) (k : Nat) (h : k + 1 < s.size) : (s.extract k (k + 2)).toList = [s[k], s[k + 1]] := by
  rw [ByteArray.toList_eq, ByteArray.data_extract, Array.toList_extract, List.extract_eq_take_drop]
  show List.take (k + 2 - k) (s.data.toList.drop k) = _
  rw [drop_two s k h, show k + 2 - k = 2 by omega]
  rfl
theorem tlength_any (s : ByteArray) (w : World) (hs : s.size ≤ 1000000) (h1 : 1 ≤ s.size) :
    Calls Tryd.prog 37 #[.string s] w fun e w' => e = .returned (.int .i64 (lenT (s.data.toList.drop 1) : Nat)) ∧ Below w.heap.size w w' := by
  rw [atT_1]
  go_enter Tryd.func37, Tryd.ntmps37
  go_wp2
  go_loop [3] (fun i => ∃ k : Nat, 1 ≤ k ∧ k ≤ s.size ∧ i = .int .i64 k ∧ Hid (atT s.data.toList 1 = atT s.data.toList k)) (fun i => s.size - (intOf i).toNat)
  case atStart => exact ⟨1, by omega, by omega, rfl, Lib.hid rfl⟩
  case round =>
    obtain ⟨k, hk1, hk, rfl, HK⟩ := hrel
    by_cases hlt : k + 1 < s.size
    · have hlt2 : k < s.size := by omega
      have hsl := cut_at s k (k + 2) k (k + 2) rfl (by omega) (by omega) (by omega)
      have e2 := two_at s k hlt
      by_cases a0 : s[k] = 0
      · rw [a0] at e2
        have i0 : (s[k].toNat : Int) = 0 := by rw [a0]; rfl
        by_cases a1 : s[k + 1] = 0
        · rw [a1] at e2
          have HE := Lib.hid (atT_end s k hlt a0 a1)
          clear a0 a1
          go_wp2
          go_ret
          exact ⟨ret1 (by rw [HK.out, HE.out]; omega), Below.refl _ _⟩
        · have g1 : (s[k + 1] == 0) = false := by simpa using a1
          by_cases a2 : s[k + 1] = 255
          · rw [a2] at e2
            have HE := Lib.hid (atT_next s k hlt (.inr a2))
            clear a0 a1 a2 g1
            go_wp2
            go_round
            case rel => exact ⟨k + 1, by omega, by omega, by go_num, Lib.hid (HK.out.trans HE.out)⟩
            case measure => simp [intOf]; omega
          · have g2 : (s[k + 1] == 255) = false := by simpa using a2
            have HE := Lib.hid (atT_bad s k hlt a0 a1 a2)
            clear a0 a1 a2
            go_wp2
            go_ret
            exact ⟨ret1 (by rw [HK.out, HE.out]; rfl), Below.refl _ _⟩
      · have g0 : (s[k] == 0) = false := by simpa using a0
        have i0 : ((s[k].toNat : Int) == 0) = false := by
          have : s[k].toNat ≠ 0 := fun e => a0 (UInt8.toNat_inj.1 e)
          simp
          exact this
        have HE := Lib.hid (atT_next s k hlt (.inl a0))
        clear a0
        go_wp2
        go_round
        case rel => exact ⟨k + 1, by omega, by omega, by go_num, Lib.hid (HK.out.trans HE.out)⟩
        case measure => simp [intOf]; omega
    · go_wp2
      go_ret
      exact ⟨ret1 (by rw [HK.out, atT_stop s k (by omega)]; rfl), Below.refl _ _⟩
theorem lenP_at (s : ByteArray) (h : 1 ≤ s.size) : lenP s.data.toList = (if s[0] = 0 then 1 else if s[0] = 1 then 2 else if s[0] = 2 then 5 else if s[0] = 3 then 9 else if s[0] = 4 then lenT (s.data.toList.drop 1) else 0) := by
  obtain ⟨⟨l⟩⟩ := s
  cases l with
  | nil => exact absurd h (by decide)
  | cons b t => rfl
theorem u8_ne {b : UInt8} {n : Nat} (h : b ≠ UInt8.ofNat n) (g : n < 256) : ((b.toNat : Int) == (n : Int)) = false := by
  have : b.toNat ≠ n := fun e => h (by rw [← e]; exact UInt8.ofNat_toNat.symm)
  simp
  omega
theorem wrap_u8 (b : UInt8) : wrap64 (b.toNat : Int) = b.toNat := by
  have := b.toNat_lt
  unfold wrap64
  omega
theorem length_any (s : ByteArray) (w : World) (hs : s.size ≤ 1000000) :
    Calls Tryd.prog 32 #[.string s] w fun e w' => e = .returned (.int .i64 (lenP s.data.toList : Nat)) ∧ Below w.heap.size w w' := by
  by_cases h0 : s.size = 0
  · obtain rfl := size0 h0
    go_enter Tryd.func32, Tryd.ntmps32
    go_wp2
    go_ret
    exact ⟨ret1 rfl, Below.refl _ _⟩
  · obtain ⟨_, e2, e3⟩ := size_pos h0
    have h1 : 1 ≤ s.size := by omega
    have hp : 0 < s.size := by omega
    have HL := Lib.hid (lenP_at s h1)
    by_cases a0 : s[0] = 0
    · have HX := Lib.hid (HL.out.trans (by rw [if_pos a0]))
      go_enter Tryd.func32, Tryd.ntmps32
      go_wp2
      go_ret
      exact ⟨ret1 (by rw [HX.out]; rfl), Below.refl _ _⟩
    by_cases a1 : s[0] = 1
    · have HX := Lib.hid (HL.out.trans (by rw [if_neg a0, if_pos a1]))
      go_enter Tryd.func32, Tryd.ntmps32
      go_wp2
      go_ret
      exact ⟨ret1 (by rw [HX.out]; rfl), Below.refl _ _⟩
    by_cases a2 : s[0] = 2
    · have HX := Lib.hid (HL.out.trans (by rw [if_neg a0, if_neg a1, if_pos a2]))
      go_enter Tryd.func32, Tryd.ntmps32
      go_wp2
      go_ret
      exact ⟨ret1 (by rw [HX.out]; rfl), Below.refl _ _⟩
    by_cases a3 : s[0] = 3
    · have HX := Lib.hid (HL.out.trans (by rw [if_neg a0, if_neg a1, if_neg a2, if_pos a3]))
      go_enter Tryd.func32, Tryd.ntmps32
      go_wp2
      go_ret
      exact ⟨ret1 (by rw [HX.out]; rfl), Below.refl _ _⟩
    by_cases a4 : s[0] = 4
    · have HX := Lib.hid (HL.out.trans (by rw [if_neg a0, if_neg a1, if_neg a2, if_neg a3, if_pos a4]))
      go_enter Tryd.func32, Tryd.ntmps32
      go_wp2_with fail
      refine (tlength_any s _ hs h1).mono ?_
      rintro e w1 ⟨rfl, hb⟩
      go_wp2
      go_ret
      exact ⟨ret1 (by rw [HX.out, List.drop_one]), hb⟩
    have HX := Lib.hid (HL.out.trans (by rw [if_neg a0, if_neg a1, if_neg a2, if_neg a3, if_neg a4]))
    have b0 : (wrap64 (s[0].toNat : Int) == 0) = false := by rw [wrap_u8]; exact u8_ne (n := 0) a0 (by decide)
    have b1 : (wrap64 (s[0].toNat : Int) == 1) = false := by rw [wrap_u8]; exact u8_ne (n := 1) a1 (by decide)
    have b2 : (wrap64 (s[0].toNat : Int) == 2) = false := by rw [wrap_u8]; exact u8_ne (n := 2) a2 (by decide)
    have b3 : (wrap64 (s[0].toNat : Int) == 3) = false := by rw [wrap_u8]; exact u8_ne (n := 3) a3 (by decide)
    have b4 : (wrap64 (s[0].toNat : Int) == 4) = false := by rw [wrap_u8]; exact u8_ne (n := 4) a4 (by decide)
    clear a0 a1 a2 a3 a4
    go_enter Tryd.func32, Tryd.ntmps32
    go_wp2
    go_ret
    exact ⟨ret1 (by rw [HX.out]; rfl), Below.refl _ _⟩
end Go.Proofs.YtmaecoidoejipaaDoor.Code
