/-
  Contracts of lex's begins and first: what a text begins with, and the word that begins it.
-/
import Derived.Test.YthkdpfadjbhmoaaDoorLexBegin
import Derived.Lib.ReplaceLaws
namespace Go.Proofs.YthkdpfadjbhmoaaDoor.Code
open Go.ChangeShapes Go.WideShapes Go.ChangeAt Go.RowKit Val
set_option linter.unusedVariables false
theorem retKN {x : Int × Nat} {k i : Int} {n : Nat} (h : x = (k, n)) (g : i = n) : Ending.returned (.tuple #[.int .i64 k, .int .i64 i]) = .returned (.tuple #[.int .i64 x.1, .int .i64 (x.2 : Nat)]) := by rw [h, g]
theorem list_cons (s : ByteArray) (h : 0 < s.size) : s.data.toList = s[0] :: s.data.toList.drop 1 := by
  have := List.drop_eq_getElem_cons (l := s.data.toList) (i := 0) h
  rwa [List.drop_zero] at this
theorem u8_not {b : UInt8} (k : Nat) (c : UInt8) (hk : c.toNat = k) (h : ¬ b = c) : ((b.toNat : Int) == (k : Int)) = false := by
  have : b.toNat ≠ c.toNat := fun e => h (UInt8.toNat_inj.1 e)
  simp
  omega
theorem list_two (s : ByteArray) (h : 1 < s.size) : s.data.toList = s[0] :: s[1] :: s.data.toList.drop 2 := by
  rw [list_cons s (by omega), List.drop_eq_getElem_cons (l := s.data.toList) (i := 1) h]
  rfl
theorem list_short (s : ByteArray) (h : 0 < s.size) (g : ¬ 1 < s.size) : s.data.toList = [s[0]] := by
  rw [list_cons s h, List.drop_eq_nil_of_le (by rw [← size_list]; omega)]
set_option maxHeartbeats 4000000 in
theorem begins_any (s : ByteArray) (w : World) (hs : s.size ≤ 281474976710656) (h1 : 1 ≤ s.size) :
    Calls Tryd.prog 22 #[.string s] w fun e w' => e = .returned (.tuple #[.int .i64 (beginsL s.data.toList).1, .int .i64 ((beginsL s.data.toList).2 : Nat)]) ∧ w = w' := by
  obtain ⟨c, hc⟩ : ∃ c, s[0] = c := ⟨_, rfl⟩
  have hl := list_cons s h1
  rw [hc] at hl
  by_cases h60 : c = 60
  · subst h60
    by_cases hlt : 1 < s.size
    · obtain ⟨d, hd⟩ : ∃ d, s[1] = d := ⟨_, rfl⟩
      have hl2 := list_two s hlt
      rw [hc, hd] at hl2
      clear hl
      by_cases h62 : d = 62
      · subst h62
        have HX := Lib.hid (show beginsL s.data.toList = (3, 2) by rw [hl2]; rfl)
        have HP := Lib.hid (fun w => (Tryd.strings_HasPrefix s ⟨#[60, 62]⟩ w).mono (R' := fun e w' => e = .returned (.bool true) ∧ w' = w) (by rintro e w' ⟨h1, h2⟩; exact ⟨by rw [h1, hl2]; rfl, h2⟩))
        clear hl2
        go_enter Tryd.func22, Tryd.ntmps22
        go_wp2_with fail
        refine (HP.out _).mono ?_
        rintro e w1 ⟨rfl, rfl⟩
        go_wp2
        go_ret2
        exact ⟨retKN HX.out rfl, rfl⟩
      · have HP := Lib.hid (fun w => (Tryd.strings_HasPrefix s ⟨#[60, 62]⟩ w).mono (R' := fun e w' => e = .returned (.bool false) ∧ w' = w) (by rintro e w' ⟨h1, h2⟩; exact ⟨by rw [h1, hl2]; simp [Lib.hasPrefix, List.isPrefixOf]; exact fun e => h62 e.symm, h2⟩))
        by_cases h61 : d = 61
        · subst h61
          have HX := Lib.hid (show beginsL s.data.toList = (3, 2) by rw [hl2]; rfl)
          clear hl2
          go_enter Tryd.func22, Tryd.ntmps22
          go_wp2_with fail
          refine (HP.out _).mono ?_
          rintro e w1 ⟨rfl, rfl⟩
          go_wp2
          go_ret2
          exact ⟨retKN HX.out rfl, rfl⟩
        · have HX := Lib.hid (show beginsL s.data.toList = (3, 1) by
            rw [hl2, begins_cons, if_pos (.inl rfl), twoB_cons, twoB_two, show (d == 62) = false by simpa using h62, show (d == 61) = false by simpa using h61]
            rfl)
          have i0 := u8_not 61 61 rfl h61
          clear hl2 h61 h62
          go_enter Tryd.func22, Tryd.ntmps22
          go_wp2_with fail
          refine (HP.out _).mono ?_
          rintro e w1 ⟨rfl, rfl⟩
          go_wp2
          go_ret2
          exact ⟨retKN HX.out rfl, rfl⟩
    · have hl2 := list_short s h1 hlt
      rw [hc] at hl2
      have HX := Lib.hid (show beginsL s.data.toList = (3, 1) by rw [hl2]; rfl)
      have HP := Lib.hid (fun w => (Tryd.strings_HasPrefix s ⟨#[60, 62]⟩ w).mono (R' := fun e w' => e = .returned (.bool false) ∧ w' = w) (by rintro e w' ⟨h1, h2⟩; exact ⟨by rw [h1, hl2]; rfl, h2⟩))
      clear hl2 hl
      go_enter Tryd.func22, Tryd.ntmps22
      go_wp2_with fail
      refine (HP.out _).mono ?_
      rintro e w1 ⟨rfl, rfl⟩
      go_wp2
      go_ret2
      exact ⟨retKN HX.out rfl, rfl⟩
  by_cases h62 : c = 62
  · subst h62
    by_cases hlt : 1 < s.size
    · obtain ⟨d, hd⟩ : ∃ d, s[1] = d := ⟨_, rfl⟩
      have hl2 := list_two s hlt
      rw [hc, hd] at hl2
      clear hl
      by_cases h61 : d = 61
      · subst h61
        have HX := Lib.hid (show beginsL s.data.toList = (3, 2) by rw [hl2]; rfl)
        clear hl2
        go_enter Tryd.func22, Tryd.ntmps22
        go_wp2
        go_ret2
        exact ⟨retKN HX.out rfl, rfl⟩
      · have HX := Lib.hid (show beginsL s.data.toList = (3, 1) by
          rw [hl2, begins_cons, if_pos (.inr rfl), twoB_cons, twoB_two, show (d == 61) = false by simpa using h61]
          simp)
        have i0 := u8_not 61 61 rfl h61
        clear hl2 h61
        go_enter Tryd.func22, Tryd.ntmps22
        go_wp2
        go_ret2
        exact ⟨retKN HX.out rfl, rfl⟩
    · have hl2 := list_short s h1 hlt
      rw [hc] at hl2
      have HX := Lib.hid (show beginsL s.data.toList = (3, 1) by rw [hl2]; rfl)
      clear hl2 hl
      go_enter Tryd.func22, Tryd.ntmps22
      go_wp2
      go_ret2
      exact ⟨retKN HX.out rfl, rfl⟩
  have j60 := u8_not 60 60 rfl h60
  have j62 := u8_not 62 62 rfl h62
  obtain ⟨j, hj⟩ : ∃ j, Lib.indexByte [40, 41, 44, 61, 43, 45, 42] c = j := ⟨_, rfl⟩
  have hmk := mark_idx c
  rw [hj] at hmk
  have HI := Lib.hid (fun w => (Tryd.strings_IndexByte ⟨#[40, 41, 44, 61, 43, 45, 42]⟩ (c.toNat : Int) w).mono (R' := fun e w' => e = .returned (.int .i64 j) ∧ w' = w) (by
    rintro e w' ⟨h1, h2⟩
    refine ⟨?_, h2⟩
    rw [h1, Int.toNat_natCast, show c.toNat.toUInt8 = c from UInt8.ofNat_toNat]
    exact congrArg (fun x => Ending.returned (.int .i64 x)) hj))
  have hb0 := begins_cons c (s.data.toList.drop 1)
  rw [← hl, if_neg (by rintro (e | e); exact h60 e; exact h62 e)] at hb0
  have h60' := h60
  clear hj h60 h62 h60'
  by_cases hm : markB c = true
  · have HX := Lib.hid (hb0.trans (if_pos hm))
    rw [hm] at hmk
    clear hb0 hm hl
    go_enter Tryd.func22, Tryd.ntmps22
    go_wp2_with fail
    refine (HI.out _).mono ?_
    rintro e w1 ⟨rfl, rfl⟩
    go_wp2
    go_ret2
    exact ⟨retKN HX.out rfl, rfl⟩
  rw [if_neg hm] at hb0
  rw [show markB c = false by simpa using hm] at hmk
  clear hm
  by_cases h39 : c = 39
  · subst h39
    have HX := Lib.hid (hb0.trans (if_pos rfl))
    have HQ := Lib.hid (fun w => quoted_any s w hs h1)
    obtain ⟨N, hN⟩ : ∃ N, quoN s.data.toList = N := ⟨_, rfl⟩
    rw [hN] at HX HQ
    clear hb0 hl hN
    go_enter Tryd.func22, Tryd.ntmps22
    go_wp2_with fail
    refine (HI.out _).mono ?_
    rintro e w1 ⟨rfl, rfl⟩
    go_wp2_with fail
    refine (HQ.out _).mono ?_
    rintro e w1 ⟨rfl, rfl⟩
    go_wp2
    go_ret2
    exact ⟨retKN HX.out rfl, rfl⟩
  have j39 := u8_not 39 39 rfl h39
  rw [if_neg h39] at hb0
  clear h39
  obtain ⟨f, hf⟩ : ∃ f, figB c = f := ⟨_, rfl⟩
  have HF := Lib.hid (fun w => (figure_any c w).mono (R' := fun e w' => e = .returned (.bool f) ∧ w = w') (by rintro e w' ⟨h1, h2⟩; exact ⟨by rw [h1, hf], h2⟩))
  cases f
  · rw [if_neg (by rw [hf]; decide)] at hb0
    obtain ⟨a, ha⟩ : ∃ a, letB c = a := ⟨_, rfl⟩
    have HA := Lib.hid (fun w => (letter_any c w).mono (R' := fun e w' => e = .returned (.bool a) ∧ w = w') (by rintro e w' ⟨h1, h2⟩; exact ⟨by rw [h1, ha], h2⟩))
    cases a
    · rw [if_neg (by rw [ha]; decide)] at hb0
      have HX := Lib.hid hb0
      clear hb0 hl hf ha
      go_enter Tryd.func22, Tryd.ntmps22
      go_wp2_with fail
      refine (HI.out _).mono ?_
      rintro e w1 ⟨rfl, rfl⟩
      go_wp2_with fail
      refine (HF.out _).mono ?_
      rintro e w1 ⟨rfl, rfl⟩
      go_wp2_with fail
      refine (HA.out _).mono ?_
      rintro e w1 ⟨rfl, rfl⟩
      go_wp2
      go_ret2
      exact ⟨retKN HX.out rfl, rfl⟩
    · rw [if_pos ha] at hb0
      have HX := Lib.hid hb0
      have HR := Lib.hid (fun w => run_any nameB 44 (enters_of Tryd.func44 (by kernel_rfl) rfl) inName_any s w hs)
      obtain ⟨N, hN⟩ : ∃ N, runL nameB s.data.toList = N := ⟨_, rfl⟩
      rw [hN] at HX HR
      clear hb0 hl hf ha hN
      go_enter Tryd.func22, Tryd.ntmps22
      go_wp2_with fail
      refine (HI.out _).mono ?_
      rintro e w1 ⟨rfl, rfl⟩
      go_wp2_with fail
      refine (HF.out _).mono ?_
      rintro e w1 ⟨rfl, rfl⟩
      go_wp2_with fail
      refine (HA.out _).mono ?_
      rintro e w1 ⟨rfl, rfl⟩
      go_wp2_with fail
      refine (HR.out _).mono ?_
      rintro e w1 ⟨rfl, rfl⟩
      go_wp2
      go_ret2
      exact ⟨retKN HX.out rfl, rfl⟩
  · rw [if_pos hf] at hb0
    have HX := Lib.hid hb0
    have HR := Lib.hid (fun w => run_any figB 41 (enters_of Tryd.func41 (by kernel_rfl) rfl) figure_any s w hs)
    obtain ⟨N, hN⟩ : ∃ N, runL figB s.data.toList = N := ⟨_, rfl⟩
    rw [hN] at HX HR
    clear hb0 hl hf hN
    go_enter Tryd.func22, Tryd.ntmps22
    go_wp2_with fail
    refine (HI.out _).mono ?_
    rintro e w1 ⟨rfl, rfl⟩
    go_wp2_with fail
    refine (HF.out _).mono ?_
    rintro e w1 ⟨rfl, rfl⟩
    go_wp2_with fail
    refine (HR.out _).mono ?_
    rintro e w1 ⟨rfl, rfl⟩
    go_wp2
    go_ret2
    exact ⟨retKN HX.out rfl, rfl⟩
end Go.Proofs.YthkdpfadjbhmoaaDoor.Code
