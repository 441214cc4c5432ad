/-
  Contracts of lex's begins and first: what a text begins with, and the word that begins it.
-/
import Derived.Test.YtajnnkclonjcoaaDoorM5
import Derived.Lib.ReplaceLaws
import Derived.Test.YtajnnkclonjcoaaDoorM2
import Derived.Lib.AppendIntMem
import Derived.Lib.LaidTab
namespace Go.Proofs.YtajnnkclonjcoaaDoor.Code
open Go.ChangeShapes Go.WideShapes Go.ChangeAt Go.RowKit Val
set_option linter.unusedVariables false
theorem retKN {x : Int × Nat} {k i : Int} {n : Nat} (h : x = (k, n)) (g : i = n) : Ending.returned (.tuple #[.int .i64 k, .int .i64 i]) = .returned (.tuple #[.int .i64 x.1, .int .i64 (x.2 : Nat)]) := by rw [h, g]
theorem list_cons (s : ByteArray) (h : 0 < s.size) : s.data.toList = s[0] :: s.data.toList.drop 1 := by
  have := List.drop_eq_getElem_cons (l := s.data.toList) (i := 0) h
  rwa [List.drop_zero] at this
theorem u8_not {b : UInt8} (k : Nat) (c : UInt8) (hk : c.toNat = k) (h : ¬ b = c) : ((b.toNat : Int) == (k : Int)) = false := by
  have : b.toNat ≠ c.toNat := fun e => h (UInt8.toNat_inj.1 e)
  simp
  omega
theorem list_two (s : ByteArray) (h : 1 < s.size) : s.data.toList = s[0] :: s[1] :: s.data.toList.drop 2 := by
  rw [list_cons s (by omega), List.drop_eq_getElem_cons (l := s.data.toList) (i := 1) h]
  rfl
theorem list_short (s : ByteArray) (h : 0 < s.size) (g : ¬ 1 < s.size) : s.data.toList = [s[0]] := by
  rw [list_cons s h, List.drop_eq_nil_of_le (by rw [← size_list]; omega)]
set_option maxHeartbeats 4000000 in
theorem begins_any (s : ByteArray) (w : World) (hs : s.size ≤ 281474976710656) (h1 : 1 ≤ s.size) :
    Calls Tryd.prog 63 #[.string s] w fun e w' => e = .returned (.tuple #[.int .i64 (beginsL s.data.toList).1, .int .i64 ((beginsL s.data.toList).2 : Nat)]) ∧ w = w' := by
  obtain ⟨c, hc⟩ : ∃ c, s[0] = c := ⟨_, rfl⟩
  have hl := list_cons s h1
  rw [hc] at hl
  by_cases h60 : c = 60
  · subst h60
    by_cases hlt : 1 < s.size
    · obtain ⟨d, hd⟩ : ∃ d, s[1] = d := ⟨_, rfl⟩
      have hl2 := list_two s hlt
      rw [hc, hd] at hl2
      clear hl
      by_cases h62 : d = 62
      · subst h62
        have HX := Lib.hid (show beginsL s.data.toList = (3, 2) by rw [hl2]; rfl)
        have HP := Lib.hid (fun w => (Tryd.strings_HasPrefix s ⟨#[60, 62]⟩ w).mono (R' := fun e w' => e = .returned (.bool true) ∧ w' = w) (by rintro e w' ⟨h1, h2⟩; exact ⟨by rw [h1, hl2]; rfl, h2⟩))
        clear hl2
        go_enter Tryd.func63, Tryd.ntmps63
        go_wp2_with fail
        refine (HP.out _).mono ?_
        rintro e w1 ⟨rfl, rfl⟩
        go_wp2
        go_ret2
        exact ⟨retKN HX.out rfl, rfl⟩
      · have HP := Lib.hid (fun w => (Tryd.strings_HasPrefix s ⟨#[60, 62]⟩ w).mono (R' := fun e w' => e = .returned (.bool false) ∧ w' = w) (by rintro e w' ⟨h1, h2⟩; exact ⟨by rw [h1, hl2]; simp [Lib.hasPrefix, List.isPrefixOf]; exact fun e => h62 e.symm, h2⟩))
        by_cases h61 : d = 61
        · subst h61
          have HX := Lib.hid (show beginsL s.data.toList = (3, 2) by rw [hl2]; rfl)
          clear hl2
          go_enter Tryd.func63, Tryd.ntmps63
          go_wp2_with fail
          refine (HP.out _).mono ?_
          rintro e w1 ⟨rfl, rfl⟩
          go_wp2
          go_ret2
          exact ⟨retKN HX.out rfl, rfl⟩
        · have HX := Lib.hid (show beginsL s.data.toList = (3, 1) by
            rw [hl2, begins_cons, if_pos (.inl rfl), twoB_cons, twoB_two, show (d == 62) = false by simpa using h62, show (d == 61) = false by simpa using h61]
            rfl)
          have i0 := u8_not 61 61 rfl h61
          clear hl2 h61 h62
          go_enter Tryd.func63, Tryd.ntmps63
          go_wp2_with fail
          refine (HP.out _).mono ?_
          rintro e w1 ⟨rfl, rfl⟩
          go_wp2
          go_ret2
          exact ⟨retKN HX.out rfl, rfl⟩
    · have hl2 := list_short s h1 hlt
      rw [hc] at hl2
      have HX := Lib.hid (show beginsL s.data.toList = (3, 1) by rw [hl2]; rfl)
      have HP := Lib.hid (fun w => (Tryd.strings_HasPrefix s ⟨#[60, 62]⟩ w).mono (R' := fun e w' => e = .returned (.bool false) ∧ w' = w) (by rintro e w' ⟨h1, h2⟩; exact ⟨by rw [h1, hl2]; rfl, h2⟩))
      clear hl2 hl
      go_enter Tryd.func63, Tryd.ntmps63
      go_wp2_with fail
      refine (HP.out _).mono ?_
      rintro e w1 ⟨rfl, rfl⟩
      go_wp2
      go_ret2
      exact ⟨retKN HX.out rfl, rfl⟩
  by_cases h62 : c = 62
  · subst h62
    by_cases hlt : 1 < s.size
    · obtain ⟨d, hd⟩ : ∃ d, s[1] = d := ⟨_, rfl⟩
      have hl2 := list_two s hlt
      rw [hc, hd] at hl2
      clear hl
      by_cases h61 : d = 61
      · subst h61
        have HX := Lib.hid (show beginsL s.data.toList = (3, 2) by rw [hl2]; rfl)
        clear hl2
        go_enter Tryd.func63, Tryd.ntmps63
        go_wp2
        go_ret2
        exact ⟨retKN HX.out rfl, rfl⟩
      · have HX := Lib.hid (show beginsL s.data.toList = (3, 1) by
          rw [hl2, begins_cons, if_pos (.inr rfl), twoB_cons, twoB_two, show (d == 61) = false by simpa using h61]
          simp)
        have i0 := u8_not 61 61 rfl h61
        clear hl2 h61
        go_enter Tryd.func63, Tryd.ntmps63
        go_wp2
        go_ret2
        exact ⟨retKN HX.out rfl, rfl⟩
    · have hl2 := list_short s h1 hlt
      rw [hc] at hl2
      have HX := Lib.hid (show beginsL s.data.toList = (3, 1) by rw [hl2]; rfl)
      clear hl2 hl
      go_enter Tryd.func63, Tryd.ntmps63
      go_wp2
      go_ret2
      exact ⟨retKN HX.out rfl, rfl⟩
  have j60 := u8_not 60 60 rfl h60
  have j62 := u8_not 62 62 rfl h62
  obtain ⟨j, hj⟩ : ∃ j, Lib.indexByte [40, 41, 44, 61, 43, 45, 42] c = j := ⟨_, rfl⟩
  have hmk := mark_idx c
  rw [hj] at hmk
  have HI := Lib.hid (fun w => (Tryd.strings_IndexByte ⟨#[40, 41, 44, 61, 43, 45, 42]⟩ (c.toNat : Int) w).mono (R' := fun e w' => e = .returned (.int .i64 j) ∧ w' = w) (by
    rintro e w' ⟨h1, h2⟩
    refine ⟨?_, h2⟩
    rw [h1, Int.toNat_natCast, show c.toNat.toUInt8 = c from UInt8.ofNat_toNat]
    exact congrArg (fun x => Ending.returned (.int .i64 x)) hj))
  have hb0 := begins_cons c (s.data.toList.drop 1)
  rw [← hl, if_neg (by rintro (e | e); exact h60 e; exact h62 e)] at hb0
  have h60' := h60
  clear hj h60 h62 h60'
  by_cases hm : markB c = true
  · have HX := Lib.hid (hb0.trans (if_pos hm))
    rw [hm] at hmk
    clear hb0 hm hl
    go_enter Tryd.func63, Tryd.ntmps63
    go_wp2_with fail
    refine (HI.out _).mono ?_
    rintro e w1 ⟨rfl, rfl⟩
    go_wp2
    go_ret2
    exact ⟨retKN HX.out rfl, rfl⟩
  rw [if_neg hm] at hb0
  rw [show markB c = false by simpa using hm] at hmk
  clear hm
  by_cases h39 : c = 39
  · subst h39
    have HX := Lib.hid (hb0.trans (if_pos rfl))
    have HQ := Lib.hid (fun w => quoted_any s w hs h1)
    obtain ⟨N, hN⟩ : ∃ N, quoN s.data.toList = N := ⟨_, rfl⟩
    rw [hN] at HX HQ
    clear hb0 hl hN
    go_enter Tryd.func63, Tryd.ntmps63
    go_wp2_with fail
    refine (HI.out _).mono ?_
    rintro e w1 ⟨rfl, rfl⟩
    go_wp2_with fail
    refine (HQ.out _).mono ?_
    rintro e w1 ⟨rfl, rfl⟩
    go_wp2
    go_ret2
    exact ⟨retKN HX.out rfl, rfl⟩
  have j39 := u8_not 39 39 rfl h39
  rw [if_neg h39] at hb0
  clear h39
  obtain ⟨f, hf⟩ : ∃ f, figB c = f := ⟨_, rfl⟩
  have HF := Lib.hid (fun w => (figure_any c w).mono (R' := fun e w' => e = .returned (.bool f) ∧ w = w') (by rintro e w' ⟨h1, h2⟩; exact ⟨by rw [h1, hf], h2⟩))
  cases f
  · rw [if_neg (by rw [hf]; decide)] at hb0
    obtain ⟨a, ha⟩ : ∃ a, letB c = a := ⟨_, rfl⟩
    have HA := Lib.hid (fun w => (letter_any c w).mono (R' := fun e w' => e = .returned (.bool a) ∧ w = w') (by rintro e w' ⟨h1, h2⟩; exact ⟨by rw [h1, ha], h2⟩))
    cases a
    · rw [if_neg (by rw [ha]; decide)] at hb0
      have HX := Lib.hid hb0
      clear hb0 hl hf ha
      go_enter Tryd.func63, Tryd.ntmps63
      go_wp2_with fail
      refine (HI.out _).mono ?_
      rintro e w1 ⟨rfl, rfl⟩
      go_wp2_with fail
      refine (HF.out _).mono ?_
      rintro e w1 ⟨rfl, rfl⟩
      go_wp2_with fail
      refine (HA.out _).mono ?_
      rintro e w1 ⟨rfl, rfl⟩
      go_wp2
      go_ret2
      exact ⟨retKN HX.out rfl, rfl⟩
    · rw [if_pos ha] at hb0
      have HX := Lib.hid hb0
      have HR := Lib.hid (fun w => run_any nameB 81 (enters_of Tryd.func81 (by kernel_rfl) rfl) inName_any s w hs)
      obtain ⟨N, hN⟩ : ∃ N, runL nameB s.data.toList = N := ⟨_, rfl⟩
      rw [hN] at HX HR
      clear hb0 hl hf ha hN
      go_enter Tryd.func63, Tryd.ntmps63
      go_wp2_with fail
      refine (HI.out _).mono ?_
      rintro e w1 ⟨rfl, rfl⟩
      go_wp2_with fail
      refine (HF.out _).mono ?_
      rintro e w1 ⟨rfl, rfl⟩
      go_wp2_with fail
      refine (HA.out _).mono ?_
      rintro e w1 ⟨rfl, rfl⟩
      go_wp2_with fail
      refine (HR.out _).mono ?_
      rintro e w1 ⟨rfl, rfl⟩
      go_wp2
      go_ret2
      exact ⟨retKN HX.out rfl, rfl⟩
  · rw [if_pos hf] at hb0
    have HX := Lib.hid hb0
    have HR := Lib.hid (fun w => run_any figB 78 (enters_of Tryd.func78 (by kernel_rfl) rfl) figure_any s w hs)
    obtain ⟨N, hN⟩ : ∃ N, runL figB s.data.toList = N := ⟨_, rfl⟩
    rw [hN] at HX HR
    clear hb0 hl hf hN
    go_enter Tryd.func63, Tryd.ntmps63
    go_wp2_with fail
    refine (HI.out _).mono ?_
    rintro e w1 ⟨rfl, rfl⟩
    go_wp2_with fail
    refine (HF.out _).mono ?_
    rintro e w1 ⟨rfl, rfl⟩
    go_wp2_with fail
    refine (HR.out _).mono ?_
    rintro e w1 ⟨rfl, rfl⟩
    go_wp2
    go_ret2
    exact ⟨retKN HX.out rfl, rfl⟩
end Go.Proofs.YtajnnkclonjcoaaDoor.Code
/-
  Contracts of value.Show and of the document's Show of one value, for every value.
-/
namespace Go.Proofs.YtajnnkclonjcoaaDoor.Code
open Go.ChangeShapes Go.WideShapes Go.ChangeAt Go.RowKit Val
set_option linter.unusedVariables false

theorem rep39 (m : Int) (s : ByteArray) (w : World) (hs : s.size ≤ 200) (hm : w.cell? ⟨0, 0, none⟩ = some (.int .i64 m)) :
    Calls Tryd.prog 64 #[.string s, .string ⟨#[39]⟩, .string ⟨#[39, 39]⟩] w fun e w' => e = .returned (.string ⟨(dbl s.data.toList).toArray⟩) ∧ Below w.heap.size w w' := by
  have hc := Lib.countB_mul_le ⟨#[39]⟩ (by decide) s.size s (Nat.le_refl _)
  rw [show (⟨#[39]⟩ : ByteArray).size = 1 from rfl] at hc
  have h := Tryd.strings_ReplaceAll s ⟨#[39]⟩ ⟨#[39, 39]⟩ m w (by omega) hm (by decide) (by rw [show (⟨#[39, 39]⟩ : ByteArray).size = 2 from rfl]; omega)
  rw [show Lib.replaceAll s.data.toList (⟨#[39]⟩ : ByteArray).data.toList (⟨#[39, 39]⟩ : ByteArray).data.toList = dbl s.data.toList from rep_dbl _] at h
  exact h
theorem u8_ne39 {b : UInt8} (h : ¬ b = 39) : ((b.toNat : Int) == 39) = false := by
  have : b.toNat ≠ 39 := fun e => h (UInt8.toNat_inj.1 e)
  simp
  omega
theorem dig_at (r : Nat) (h : r < 10) : (⟨#[48, 49, 50, 51, 52, 53, 54, 55, 56, 57]⟩ : ByteArray).extract r (r + 1) = ⟨#[UInt8.ofNat (48 + r)]⟩ := by
  rcases (show r = 0 ∨ r = 1 ∨ r = 2 ∨ r = 3 ∨ r = 4 ∨ r = 5 ∨ r = 6 ∨ r = 7 ∨ r = 8 ∨ r = 9 by omega) with rfl | rfl | rfl | rfl | rfl | rfl | rfl | rfl | rfl | rfl <;> rfl
theorem dec_small (u : Nat) (h : u < 10) : Lib.decDigits u = [UInt8.ofNat (48 + u)] := Lib.decDigits_one h
theorem dec_big (u : Nat) (h : 10 ≤ u) : Lib.decDigits u = Lib.decDigits (u / 10) ++ [UInt8.ofNat (48 + u % 10)] := by rw [Lib.decDigits, dif_neg (by omega)]
theorem itoa_pos (u : Nat) : Lib.itoa (u : Int) = Lib.decDigits u := Lib.itoa_nonneg u
end Go.Proofs.YtajnnkclonjcoaaDoor.Code
/-
  Contract of lex's first: the word that begins a text.
-/
namespace Go.Proofs.YtajnnkclonjcoaaDoor.Code
open Go.ChangeShapes Go.WideShapes Go.ChangeAt Go.RowKit Val
set_option linter.unusedVariables false
set_option linter.unusedSimpArgs false
/-- a word's three cells at the beginning of a block -/
def WBox (W : World) (b : Nat) (k : Int) (s : ByteArray) (n : Int) : Prop := W.cell? ⟨b, 0, none⟩ = some (.int .i64 k) ∧ W.cell? ⟨b, 1, none⟩ = some (.string s) ∧ W.cell? ⟨b, 2, none⟩ = some (.int .i64 n) ∧ b < W.heap.size ∧ ∀ j, W.frozen? ⟨b, j, none⟩ = false
theorem WBox.call {W W' : World} {b : Nat} {k n : Int} {s : ByteArray} (h : WBox W b k s n) (hb : Below W.heap.size W W') : WBox W' b k s n := by
  obtain ⟨h0, h1, h2, h3, h4⟩ := h
  exact ⟨by rw [hb.cell (p := ⟨b, 0, none⟩) h3]; exact h0, by rw [hb.cell (p := ⟨b, 1, none⟩) h3]; exact h1, by rw [hb.cell (p := ⟨b, 2, none⟩) h3]; exact h2, Nat.lt_of_lt_of_le h3 hb.size, fun j => by rw [hb.frozen (p := ⟨b, j, none⟩) h3]; exact h4 j⟩
theorem WBox.alloc {W : World} {b : Nat} {k n : Int} {s : ByteArray} (h : WBox W b k s n) (o : Obj) : WBox (W.alloc o) b k s n := h.call (below_alloc W o)
theorem WBox.fresh (W : World) (k n : Int) (s : ByteArray) (t : TypeId) : WBox (W.alloc (.cells #[.int .i64 k, .string s, .int .i64 n] t)) W.heap.size k s n := ⟨by simp [go_sem], by simp [go_sem], by simp [go_sem], by simp, fun j => by simp [go_sem]⟩
theorem sclone_any (s : ByteArray) (w : World) (hs : s.size ≤ 281474976710656) :
    Calls Tryd.prog 66 #[.string s] w fun e w' => e = .returned (.string s) ∧ Below w.heap.size w w' := by
  have HC := Lib.hid (fun w => Tryd.stringslite_Clone s w hs)
  go_enter Tryd.func66, Tryd.ntmps66
  go_wp2_with fail
  refine (HC.out _).mono ?_
  rintro e w1 ⟨rfl, hb⟩
  have L := Lib.hid hb
  clear hb
  go_wp2
  go_ret
  exact ⟨rfl, L.out⟩
/-- two ' for one -/
theorem rep_quote (t : List UInt8) (m : Int) (s : ByteArray) (w : World) (h : s.data.toList = dbl t) (hs : s.size ≤ 4194304) (hm : w.cell? ⟨0, 0, none⟩ = some (.int .i64 m)) :
    Calls Tryd.prog 64 #[.string s, .string ⟨#[39, 39]⟩, .string ⟨#[39]⟩] w fun e w' => e = .returned (.string ⟨t.toArray⟩) ∧ Below w.heap.size w w' := by
  have hc := Lib.countB_mul_le ⟨#[39, 39]⟩ (by decide) s.size s (Nat.le_refl _)
  rw [show (⟨#[39, 39]⟩ : ByteArray).size = 2 from rfl] at hc
  have h := Tryd.strings_ReplaceAll s ⟨#[39, 39]⟩ ⟨#[39]⟩ m w (by omega) hm (by decide) (by rw [show (⟨#[39]⟩ : ByteArray).size = 1 from rfl]; omega)
  rw [show Lib.replaceAll s.data.toList (⟨#[39, 39]⟩ : ByteArray).data.toList (⟨#[39]⟩ : ByteArray).data.toList = t by rename_i h'; rw [h']; exact rep_dbl' _] at h
  exact h
theorem dbl_le : ∀ l : List UInt8, l.length ≤ (dbl l).length
  | [] => Nat.le_refl _
  | b :: l => by
    have := dbl_le l
    rw [dbl]
    split <;> simp <;> omega
/-- the word that comes, and how many bytes it has; 0: none does -/
def FirstIs (l : List UInt8) (e : Ending) : Prop := ∃ (k : Int) (t : ByteArray) (n : Nat), e = .returned (.tuple #[.agg #[.int .i64 k, .string t, .int .i64 0], .int .i64 n]) ∧ (firstL l = none ∧ n = 0 ∨ firstL l = some (k, t.data.toList, n))
set_option maxHeartbeats 4000000 in
theorem first_any (s : ByteArray) (m : Int) (w : World) (hs : s.size ≤ 4194304) (h1 : 1 ≤ s.size) (hm : w.cell? ⟨0, 0, none⟩ = some (.int .i64 m)) :
    Calls Tryd.prog 57 #[.string s] w fun e w' => FirstIs s.data.toList e ∧ Below w.heap.size w w' := by
  have hlt : 0 < w.heap.size := World.block_lt_of_cell? _ _ hm
  have HM := Lib.hid hm
  clear hm
  obtain ⟨K, N, hKN⟩ : ∃ K N, beginsL s.data.toList = (K, N) := ⟨_, _, rfl⟩
  have hN : N ≤ s.size := by
    have := begins_le s.data.toList
    rw [hKN] at this
    exact this
  have HB := Lib.hid (fun w => begins_any s w (by omega) h1)
  rw [hKN] at HB
  obtain ⟨L, hL⟩ : ∃ L, longK K = L := ⟨_, rfl⟩
  have HLo := Lib.hid (fun w => longest_any K w)
  rw [hL] at HLo
  have hF := firstL_is s.data.toList
  rw [hKN] at hF
  dsimp only at hF
  rw [hL] at hF
  obtain ⟨S, hS⟩ : ∃ S, s.extract 0 N = S := ⟨_, rfl⟩
  have hsl := cut_to s N N rfl hN
  rw [hS] at hsl
  have hSl : S.data.toList = s.data.toList.take N := by rw [← hS]; exact to_list s N
  have hSs : S.size = N := by rw [size_list, hSl, List.length_take, ← size_list]; omega
  have hL2 : 2 ≤ L := by rw [← hL]; unfold longK; repeat' split <;> omega
  by_cases hq : K = 2 ∧ 0 < N
  · obtain ⟨rfl, hN0⟩ := hq
    obtain rfl : L = 200 := hL.symm
    obtain ⟨T, hT⟩ : ∃ T, textOf s.data.toList = T := ⟨_, rfl⟩
    have hTq : quoT s.data.toList = T := by rw [← hT]; unfold textOf; rw [hKN, if_pos ⟨rfl, hN0⟩]
    have hQN : quoN s.data.toList = N := by
      have hl := list_cons s h1
      obtain ⟨c, hc⟩ : ∃ c, s[0] = c := ⟨_, rfl⟩
      rw [hc] at hl
      rw [hl, begins_cons] at hKN
      split at hKN
      · cases hKN
      split at hKN
      · cases hKN
      split at hKN
      · rw [← hl] at hKN
        injection hKN
      split at hKN
      · cases hKN
      split at hKN <;> cases hKN
    have hin := quote_inner s.data.toList (by rw [hQN]; exact hN0)
    rw [hQN, hTq] at hin
    obtain ⟨S1, hS1⟩ : ∃ S1, S.extract 1 (N - 1) = S1 := ⟨_, rfl⟩
    have hS1l : S1.data.toList = dbl T := by
      rw [← hS1, ByteArray.data_extract, Array.toList_extract, List.extract_eq_take_drop, hSl, show N - 1 - 1 = N - 2 by omega]
      exact hin.1
    have hS1s : S1.size ≤ 4194304 := by
      have := hin.1
      rw [size_list, hS1l, ← hin.1, List.length_take]
      omega
    have hsl2 := cut_at S 1 ((N : Int) - 1) 1 (N - 1) rfl (by omega) (by omega) (by omega)
    rw [hS1] at hsl2
    have hw := IntWalk.wrap64_in ((N : Int) - 1) ⟨by omega, by omega⟩
    have e0 : decide ((0 : Int) < (N : Int)) = true := by simp; omega
    have HR := Lib.hid (fun w => rep_quote T m S1 w hS1l hS1s)
    obtain ⟨T2, hT2⟩ : ∃ T2 : ByteArray, ⟨T.toArray⟩ = T2 := ⟨_, rfl⟩
    have hTT : T2.data.toList = T := by rw [← hT2]
    have hTs : (T.length : Int) = (T2.size : Int) := by rw [size_list, hTT]
    rw [hT2] at HR
    rw [hT, hTs] at hF
    have hTb : T2.size ≤ 4194304 := by
      have h1 := dbl_le T
      have h2 : (dbl T).length = S1.size := by rw [size_list, hS1l]
      omega
    by_cases hbig : (200 : Int) < (T2.size : Int)
    · have HX := Lib.hid (show firstL s.data.toList = none by rw [hF, if_pos (.inr hbig)])
      clear hF hKN hS hSl hT hTq hQN hin hS1 hS1l hT2 hTT hTs hL
      go_enter Tryd.func57, Tryd.ntmps57
      go_wp2_with fail
      refine (HB.out _).mono ?_
      rintro e w1 ⟨rfl, rfl⟩
      have X0 := Lib.hid (WBox.fresh w 0 0 ⟨#[]⟩ 67)
      have L0 := Lib.hid (below_alloc w (.cells #[.int .i64 0, .string ⟨#[]⟩, .int .i64 0] 67))
      go_wp2_with fail
      refine (HR.out _ (by rw [L0.out.cell (p := ⟨0, 0, none⟩) hlt]; exact HM.out)).mono ?_
      rintro e w2 ⟨rfl, hb2⟩
      have X2 := Lib.hid (X0.out.call hb2)
      have L2 := Lib.hid (bnext L0.out L0.out.size hb2)
      clear hb2
      go_wp2_with fail
      refine (HLo.out _).mono ?_
      rintro e w1 ⟨rfl, rfl⟩
      obtain ⟨x0, x1, x2, xz, xf⟩ := X2.out
      go_wp2
      exact bodyPost_ret (v := .tuple #[.agg #[.int .i64 0, .string ⟨#[]⟩, .int .i64 0], .int .i64 0]) (by simp [results, Tryd.results57, go_sem, World.cell?_setCell_other, x0, x1, x2]) rfl ⟨⟨0, ⟨#[]⟩, 0, rfl, .inl ⟨HX.out, rfl⟩⟩, ((L2.out.setCell (by simp) _).setCell (by simp) _).setCell (by simp) _⟩
    · have HX := Lib.hid (show firstL s.data.toList = some (2, T2.data.toList, N) by rw [hF, if_neg (by omega), hTT])
      have HC := Lib.hid (fun w => sclone_any T2 w (by omega))
      clear hF hKN hS hSl hT hTq hQN hin hS1 hS1l hT2 hTT hTs hL
      go_enter Tryd.func57, Tryd.ntmps57
      go_wp2_with fail
      refine (HB.out _).mono ?_
      rintro e w1 ⟨rfl, rfl⟩
      have X0 := Lib.hid (WBox.fresh w 0 0 ⟨#[]⟩ 67)
      have L0 := Lib.hid (below_alloc w (.cells #[.int .i64 0, .string ⟨#[]⟩, .int .i64 0] 67))
      go_wp2_with fail
      refine (HR.out _ (by rw [L0.out.cell (p := ⟨0, 0, none⟩) hlt]; exact HM.out)).mono ?_
      rintro e w2 ⟨rfl, hb2⟩
      have X2 := Lib.hid (X0.out.call hb2)
      have L2 := Lib.hid (bnext L0.out L0.out.size hb2)
      clear hb2
      go_wp2_with fail
      refine (HLo.out _).mono ?_
      rintro e w1 ⟨rfl, rfl⟩
      go_wp2_with fail
      refine (HC.out _).mono ?_
      rintro e w3 ⟨rfl, hb3⟩
      have X3 := Lib.hid (X2.out.call hb3)
      have L3 := Lib.hid (bnext L2.out L2.out.size hb3)
      clear hb3
      obtain ⟨x0, x1, x2, xz, xf⟩ := X3.out
      go_wp2
      exact bodyPost_ret (v := .tuple #[.agg #[.int .i64 2, .string T2, .int .i64 0], .int .i64 (N : Int)]) (by simp [results, Tryd.results57, go_sem, World.cell?_setCell_other, x0, x1, x2]) rfl ⟨⟨2, T2, N, rfl, .inr HX.out⟩, ((L3.out.setCell (by simp) _).setCell (by simp) _).setCell (by simp) _⟩
  · have ht : textOf s.data.toList = S.data.toList := by unfold textOf; rw [hKN, if_neg hq, hSl]
    rw [ht, ← size_list, hSs] at hF
    by_cases hbig : L < (N : Int)
    · have HX := Lib.hid (show firstL s.data.toList = none by rw [hF, if_pos (.inr hbig)])
      have hK2 : (K == 2) = false := by
        have : K ≠ 2 := fun e => hq ⟨e, by omega⟩
        simpa using this
      clear hF hKN hS hSl hq ht hL
      go_enter Tryd.func57, Tryd.ntmps57
      go_wp2_with fail
      refine (HB.out _).mono ?_
      rintro e w1 ⟨rfl, rfl⟩
      go_wp2_with fail
      refine (HLo.out _).mono ?_
      rintro e w1 ⟨rfl, rfl⟩
      go_wp2
      exact bodyPost_ret (v := .tuple #[.agg #[.int .i64 0, .string ⟨#[]⟩, .int .i64 0], .int .i64 0]) (by simp [results, Tryd.results57, go_sem, World.cell?_setCell_other]) rfl ⟨⟨0, ⟨#[]⟩, 0, rfl, .inl ⟨HX.out, rfl⟩⟩, below_alloc w _⟩
    · have HX := Lib.hid (show firstL s.data.toList = none ∧ N = 0 ∨ firstL s.data.toList = some (K, S.data.toList, N) by
        by_cases h0 : N = 0
        · exact .inl ⟨by rw [hF, if_pos (.inl h0)], h0⟩
        · exact .inr (by rw [hF, if_neg (by omega)]))
      have HC := Lib.hid (fun w => sclone_any S w (by omega))
      by_cases hK : K = 2
      · subst hK
        obtain rfl : N = 0 := by omega
        clear hS
        obtain rfl : S = ByteArray.empty := ByteArray.size_eq_zero_iff.1 hSs
        clear hF hKN hSl hq ht hL
        go_enter Tryd.func57, Tryd.ntmps57
        go_wp2_with fail
        refine (HB.out _).mono ?_
        rintro e w1 ⟨rfl, rfl⟩
        go_wp2_with fail
        refine (HLo.out _).mono ?_
        rintro e w1 ⟨rfl, rfl⟩
        have X0 := Lib.hid (WBox.fresh w 0 0 ⟨#[]⟩ 67)
        have L0 := Lib.hid (below_alloc w (.cells #[.int .i64 0, .string ⟨#[]⟩, .int .i64 0] 67))
        go_wp2_with fail
        refine (HC.out _).mono ?_
        rintro e w3 ⟨rfl, hb3⟩
        have X3 := Lib.hid (X0.out.call hb3)
        have L3 := Lib.hid (bnext L0.out L0.out.size hb3)
        clear hb3
        obtain ⟨x0, x1, x2, xz, xf⟩ := X3.out
        go_wp2
        exact bodyPost_ret (v := .tuple #[.agg #[.int .i64 2, .string ByteArray.empty, .int .i64 0], .int .i64 0]) (by simp [results, Tryd.results57, go_sem, World.cell?_setCell_other, x0, x1, x2]) rfl ⟨⟨2, ByteArray.empty, 0, rfl, HX.out.imp (fun h => ⟨h.1, rfl⟩) id⟩, ((L3.out.setCell (by simp) _).setCell (by simp) _).setCell (by simp) _⟩
      · have hK2 : (K == 2) = false := by simpa using hK
        clear hF hKN hS hSl hq ht hL hK
        go_enter Tryd.func57, Tryd.ntmps57
        go_wp2_with fail
        refine (HB.out _).mono ?_
        rintro e w1 ⟨rfl, rfl⟩
        go_wp2_with fail
        refine (HLo.out _).mono ?_
        rintro e w1 ⟨rfl, rfl⟩
        have X0 := Lib.hid (WBox.fresh w 0 0 ⟨#[]⟩ 67)
        have L0 := Lib.hid (below_alloc w (.cells #[.int .i64 0, .string ⟨#[]⟩, .int .i64 0] 67))
        go_wp2_with fail
        refine (HC.out _).mono ?_
        rintro e w3 ⟨rfl, hb3⟩
        have X3 := Lib.hid (X0.out.call hb3)
        have L3 := Lib.hid (bnext L0.out L0.out.size hb3)
        clear hb3
        obtain ⟨x0, x1, x2, xz, xf⟩ := X3.out
        go_wp2
        exact bodyPost_ret (v := .tuple #[.agg #[.int .i64 K, .string S, .int .i64 0], .int .i64 (N : Int)]) (by simp [results, Tryd.results57, go_sem, World.cell?_setCell_other, x0, x1, x2]) rfl ⟨⟨K, S, N, rfl, HX.out⟩, ((L3.out.setCell (by simp) _).setCell (by simp) _).setCell (by simp) _⟩
end Go.Proofs.YtajnnkclonjcoaaDoor.Code
/-
  Contracts of the document's run and quote: how many bytes come, and which text.
-/
namespace Go.Proofs.YtajnnkclonjcoaaDoor.Code
open Go.ChangeShapes Go.WideShapes Go.ChangeAt Go.RowKit Val
set_option linter.unusedVariables false
theorem u8_no95 {b : UInt8} (h : decide (b.toNat = 95) = false) : ((b.toNat : Int) != 95) = true := by
  have : ¬ b.toNat = 95 := by simpa using h
  simp
  omega
theorem u8_is95 {b : UInt8} (h : decide (b.toNat = 95) = true) : ((b.toNat : Int) != 95) = false := by
  have : b.toNat = 95 := by simpa using h
  rw [this]
  rfl
set_option maxHeartbeats 4000000 in
theorem rrun_any (name : Bool) (p : UInt8 → Bool) (hp : ∀ c, p c = (figB c || (name && (letB c || decide (c.toNat = 95))))) (s : ByteArray) (w : World) (hs : s.size ≤ 281474976710656) :
    Calls Tryd.prog 69 #[.string s, .bool name] w fun e w' => e = .returned (.int .i64 (runL p s.data.toList : Nat)) ∧ w = w' := by
  have HP := Lib.hid hp
  clear hp
  go_enter Tryd.func69, Tryd.ntmps69
  go_wp2
  go_loop [5] (fun t => ∃ n : Nat, n ≤ s.size ∧ t = .int .i64 n ∧ n ≤ runL p s.data.toList) (fun t => s.size - (intOf t).toNat)
  case atStart => exact ⟨0, by omega, rfl, by omega⟩
  case round =>
    obtain ⟨n, hn, rfl, hr⟩ := hrel
    have HR := Lib.hid hr
    clear hr
    by_cases hlt : n < s.size
    · obtain ⟨c, hc⟩ : ∃ c, s[n] = c := ⟨_, rfl⟩
      obtain ⟨a, ha⟩ : ∃ a, letB c = a := ⟨_, rfl⟩
      obtain ⟨b, hb⟩ : ∃ b, figB c = b := ⟨_, rfl⟩
      obtain ⟨u, hu⟩ : ∃ u, decide (c.toNat = 95) = u := ⟨_, rfl⟩
      have HA := Lib.hid (fun w => (rletter_any c w).mono (R' := fun e w' => e = .returned (.bool a) ∧ w = w') (by rintro e w' ⟨h1, h2⟩; exact ⟨by rw [h1, ha], h2⟩))
      have HB := Lib.hid (fun w => (rfigure_any c w).mono (R' := fun e w' => e = .returned (.bool b) ∧ w = w') (by rintro e w' ⟨h1, h2⟩; exact ⟨by rw [h1, hb], h2⟩))
      have HPC := Lib.hid (show p c = (b || (name && (a || u))) by rw [HP.out c, ha, hb, hu])
      clear ha hb
      cases u
      · have i0 := u8_no95 hu
        clear hu
        go_wp2_with fail
        refine (HA.out _).mono ?_
        rintro e w1 ⟨rfl, rfl⟩
        go_wp2_with fail
        refine (HB.out _).mono ?_
        rintro e w1 ⟨rfl, rfl⟩
        cases b <;> cases name <;> cases a
        all_goals go_wp2
        all_goals first
          | (have HE := Lib.hid (runL_stop p s.data.toList n hlt HR.out (by rw [list_get s n hlt, hc, HPC.out]; rfl))
             go_ret
             exact ⟨ret1 (by rw [HE.out]), rfl⟩)
          | (have HE := Lib.hid (runL_step p s.data.toList n hlt HR.out (by rw [list_get s n hlt, hc, HPC.out]; rfl))
             go_round
             (case rel => exact ⟨n + 1, by omega, by go_num, HE.out⟩)
             (case measure => (simp [intOf]; try omega)))
      · have i0 := u8_is95 hu
        clear hu
        go_wp2_with fail
        refine (HA.out _).mono ?_
        rintro e w1 ⟨rfl, rfl⟩
        go_wp2_with fail
        refine (HB.out _).mono ?_
        rintro e w1 ⟨rfl, rfl⟩
        cases b <;> cases name <;> cases a
        all_goals go_wp2
        all_goals first
          | (have HE := Lib.hid (runL_stop p s.data.toList n hlt HR.out (by rw [list_get s n hlt, hc, HPC.out]; rfl))
             go_ret
             exact ⟨ret1 (by rw [HE.out]), rfl⟩)
          | (have HE := Lib.hid (runL_step p s.data.toList n hlt HR.out (by rw [list_get s n hlt, hc, HPC.out]; rfl))
             go_round
             (case rel => exact ⟨n + 1, by omega, by go_num, HE.out⟩)
             (case measure => (simp [intOf]; try omega)))
    · have HE := Lib.hid (show runL p s.data.toList = n by have := runL_le p s.data.toList; have := HR.out; rw [← size_list] at *; omega)
      go_wp2
      go_ret
      exact ⟨ret1 (by rw [HE.out]), rfl⟩
theorem retSN {a c : ByteArray} {b d : Int} (h : a = c) (g : b = d) : Ending.returned (.tuple #[.string a, .int .i64 b]) = .returned (.tuple #[.string c, .int .i64 d]) := by rw [h, g]
set_option maxHeartbeats 4000000 in
theorem rquote_any (s : ByteArray) (w : World) (hs : s.size ≤ 140737488355328) (h1 : 1 ≤ s.size) :
    Calls Tryd.prog 70 #[.string s] w fun e w' => e = .returned (.tuple #[.string ⟨(quoT s.data.toList).toArray⟩, .int .i64 (quoN s.data.toList : Nat)]) ∧ w = w' := by
  go_enter Tryd.func70, Tryd.ntmps70
  go_wp2
  go_loop [4, 5] (fun v t => ∃ (n : Nat) (out : List UInt8), n ≤ s.size ∧ t = .int .i64 n ∧ v = .string ⟨out.toArray⟩ ∧ 1 ≤ n ∧ out.length ≤ n ∧ Hid (quoI s.data.toList n out)) (fun _ t => s.size - (intOf t).toNat)
  case atStart => exact ⟨1, [], by omega, rfl, rfl, by omega, by simp, Lib.hid (quoI_start _)⟩
  case round =>
    obtain ⟨n, out, hn, rfl, rfl, hn1, hlo, HO⟩ := hrel
    by_cases hlt : n < s.size
    · obtain ⟨c, hc⟩ : ∃ c, s[n] = c := ⟨_, rfl⟩
      by_cases hc39 : c = 39
      · subst hc39
        by_cases hlt2 : n + 1 < s.size
        · obtain ⟨d, hd⟩ : ∃ d, s[n + 1] = d := ⟨_, rfl⟩
          by_cases hd39 : d = 39
          · subst hd39
            have HE := Lib.hid (quoI_two HO.out (show n + 1 < s.data.toList.length from hlt2) ((list_get s n hlt hlt).trans hc) ((list_get s (n + 1) hlt2 hlt2).trans hd))
            go_wp2
            go_round
            case rel => exact ⟨n + 2, out ++ [39], by omega, by go_num, strV (strCat out [39]), by omega, by simp; omega, HE⟩
            case measure => (simp [intOf]; try omega)
          · have HE := Lib.hid (quoI_end HO.out (show n < s.data.toList.length from hlt) ((list_get s n hlt hlt).trans hc) (fun g e => hd39 (hd.symm.trans ((list_get s (n + 1) hlt2 g).symm.trans e))))
            have i0 := u8_nq39 hd39
            clear hd39
            go_wp2
            go_ret2
            exact ⟨retSN (by rw [HE.out.2]) (by rw [HE.out.1]; go_num), rfl⟩
        · have HE := Lib.hid (quoI_end HO.out (show n < s.data.toList.length from hlt) ((list_get s n hlt hlt).trans hc) (fun g => absurd g hlt2))
          go_wp2
          go_ret2
          exact ⟨retSN (by rw [HE.out.2]) (by rw [HE.out.1]; go_num), rfl⟩
      · have HE := Lib.hid (quoI_other HO.out (show n < s.data.toList.length from hlt) (by rw [list_get s n hlt, hc]; exact hc39))
        have hsl := cut_at s n (n + 1) n (n + 1) rfl (by omega) (by omega) (by omega)
        rw [one_at s n hlt, hc] at hsl
        have hg := list_get s n hlt hlt
        rw [hg, hc] at HE
        clear hg
        have i1 := u8_nq39 hc39
        clear hc39
        go_wp2
        go_round
        case rel => exact ⟨n + 1, out ++ [c], by omega, by go_num, strV (strCat out [c]), by omega, by simp; omega, HE⟩
        case measure => (simp [intOf]; try omega)
    · have HE := Lib.hid (quoI_none HO.out (by rw [← size_list]; omega))
      go_wp2
      go_ret2
      exact ⟨retSN (by rw [HE.out.2]) (by rw [HE.out.1]; rfl), rfl⟩
end Go.Proofs.YtajnnkclonjcoaaDoor.Code
