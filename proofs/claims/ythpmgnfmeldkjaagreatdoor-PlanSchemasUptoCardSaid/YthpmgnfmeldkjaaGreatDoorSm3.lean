/-
  Contracts of lex's begins and first: what a text begins with, and the word that begins it.
-/
import Derived.Test.YthpmgnfmeldkjaaGreatDoorSm2
import Derived.Lib.ReplaceLaws
import Derived.Test.YthpmgnfmeldkjaaGreatDoorSm1
import Derived.Lib.AppendIntMem
import Derived.Lib.LaidTab
set_option maxRecDepth 100000
set_option maxHeartbeats 16000000
set_option linter.unusedVariables false
set_option linter.unusedSimpArgs false
open Go.Lib (hid)
namespace Go.Proofs.YthpmgnfmeldkjaaGreatDoor.Code
open Go.ChangeShapes Go.WideShapes Go.ChangeAt Go.RowKit Val
def markB (c : UInt8) : Bool := decide (c ∈ [40, 41, 44, 61, 43, 45, 42])
theorem idx_mem : ∀ (l : List UInt8) (c : UInt8), 0 ≤ Lib.indexByte l c ↔ c ∈ l
 | [], c => by simp [Lib.indexByte]
 | b :: l, c => by
  have ih := idx_mem l c
  have hg := Lib.indexByte_ge l c
  unfold Lib.indexByte
  by_cases hb : b = c
  ·subst hb
   simp
  ·have hb2 : ¬ c = b := fun e => hb e.symm
   simp only [beq_iff_eq, if_neg hb, List.mem_cons, hb2, false_or]
   rw [← ih]
   split <;> omega
theorem mark_idx (c : UInt8) : decide (0 ≤ Lib.indexByte [40, 41, 44, 61, 43, 45, 42] c) = markB c := decide_eq_decide.2 (idx_mem _ c)
def beginsL (s : List UInt8) : Int × Nat :=
 match s with
 | [] => (3, 0)
 | c :: r =>
  if c = 60 ∨ c = 62 then (3, if twoB (c :: r) = true then 2 else 1)
  else if markB c = true then (3, 1)
  else if c = 39 then (2, quoN (c :: r))
  else if figB c = true then (1, runL figB (c :: r))
  else if letB c = true then (0, runL nameB (c :: r))
  else (3, 0)
theorem begins_cons (c : UInt8) (r : List UInt8) : beginsL (c :: r) = if c = 60 ∨ c = 62 then (3, if twoB (c :: r) = true then 2 else 1) else if markB c = true then (3, 1) else if c = 39 then (2, quoN (c :: r)) else if figB c = true then (1, runL figB (c :: r)) else if letB c = true then (0, runL nameB (c :: r)) else (3, 0) := rfl
theorem twoB_two (c d : UInt8) : twoB [c, d] = (c == 60 && (d == 62 || d == 61) || c == 62 && d == 61) := rfl
def textOf (s : List UInt8) : List UInt8 := if (beginsL s).1 = 2 ∧ 0 < (beginsL s).2 then quoT s else s.take (beginsL s).2
theorem fig_let {c : UInt8} (h : figB c = true) : letB c = false := by
 unfold figB at h
 unfold letB
 simp at *
 omega
theorem mark_cases {c : UInt8} (h : markB c = true) : c = 40 ∨ c = 41 ∨ c = 44 ∨ c = 61 ∨ c = 43 ∨ c = 45 ∨ c = 42 := by
 unfold markB at h
 simpa using h
theorem firstL_is (s : List UInt8) : firstL s = if (beginsL s).2 = 0 ∨ longK (beginsL s).1 < (textOf s).length then none else some ((beginsL s).1, textOf s, (beginsL s).2) := by
 cases s with
 | nil => rfl
 | cons c r =>
  by_cases h60 : c = 60 ∨ c = 62
  ·have hb : beginsL (c :: r) = (3, if twoB (c :: r) = true then 2 else 1) := by rw [begins_cons, if_pos h60]
   have ht : textOf (c :: r) = (c :: r).take (if twoB (c :: r) = true then 2 else 1) := by unfold textOf; rw [hb, if_neg (by simp)]
   have hl : letB c = false := by rcases h60 with rfl | rfl <;> decide
   have hf : figB c = false := by rcases h60 with rfl | rfl <;> decide
   have h39 : c ≠ 39 := by rcases h60 with rfl | rfl <;> decide
   have h1 : oneB c = true := by rcases h60 with rfl | rfl <;> decide
   rw [firstL, if_neg (by rw [hl]; decide), if_neg (by rw [hf]; decide), if_neg h39, ht, hb]
   by_cases h2 : twoB (c :: r) = true
   ·rw [if_pos h2, if_pos h2, if_neg]
    show ¬ (2 = 0 ∨ longK 3 < (((c :: r).take 2).length : Int))
    have : ((c :: r).take 2).length ≤ 2 := by rw [List.length_take]; omega
    rw [show longK 3 = 2 from rfl]
    omega
   ·rw [if_neg h2, if_neg h2, if_pos h1, if_neg]
    ·rfl
    ·show ¬ (1 = 0 ∨ longK 3 < (((c :: r).take 1).length : Int))
     have : ((c :: r).take 1).length ≤ 1 := by rw [List.length_take]; omega
     rw [show longK 3 = 2 from rfl]
     omega
  by_cases hm : markB c = true
  ·have hb : beginsL (c :: r) = (3, 1) := by rw [begins_cons, if_neg h60, if_pos hm]
   have ht : textOf (c :: r) = [c] := by unfold textOf; rw [hb, if_neg (by simp)]; rfl
   have hc := mark_cases hm
   have hl : letB c = false := by rcases hc with rfl | rfl | rfl | rfl | rfl | rfl | rfl <;> decide
   have hf : figB c = false := by rcases hc with rfl | rfl | rfl | rfl | rfl | rfl | rfl <;> decide
   have h39 : c ≠ 39 := by rcases hc with rfl | rfl | rfl | rfl | rfl | rfl | rfl <;> decide
   have h1 : oneB c = true := by rcases hc with rfl | rfl | rfl | rfl | rfl | rfl | rfl <;> decide
   have h2 : twoB (c :: r) = false := by
    cases r with
    | nil => rfl
    | cons d r =>
     rw [twoB_cons, twoB_two, show (c == 60) = false by simpa using fun e => h60 (.inl e), show (c == 62) = false by simpa using fun e => h60 (.inr e)]
     rfl
   rw [firstL, if_neg (by rw [hl]; decide), if_neg (by rw [hf]; decide), if_neg h39, if_neg (by rw [h2]; decide), if_pos h1, ht, hb]
   rfl
  by_cases h39 : c = 39
  ·subst h39
   have hb : beginsL (39 :: r) = (2, quoN (39 :: r)) := by rw [begins_cons, if_neg h60, if_neg hm, if_pos rfl]
   rw [firstL, if_neg (by decide), if_neg (by decide), if_pos rfl]
   unfold textOf
   rw [hb]
   unfold quoN quoT
   rw [List.drop_one, List.tail_cons]
   cases quoL r with
   | none => rfl
   | some v =>
    obtain ⟨t, n⟩ := v
    dsimp only
    rw [if_pos (show (2 : Int) = 2 ∧ 0 < n + 1 from ⟨rfl, by omega⟩), show longK 2 = 200 from rfl]
    by_cases h200 : t.length ≤ 200
    ·rw [if_pos h200, if_neg (by omega)]
    ·rw [if_neg h200, if_pos (by omega)]
  by_cases hf : figB c = true
  ·have hb : beginsL (c :: r) = (1, runL figB (c :: r)) := by rw [begins_cons, if_neg h60, if_neg hm, if_neg h39, if_pos hf]
   have ht : textOf (c :: r) = (c :: r).take (runL figB (c :: r)) := by unfold textOf; rw [hb, if_neg (by simp)]
   have hp := runL_pos (s := r) hf
   have hle := runL_le figB (c :: r)
   rw [firstL, if_neg (by rw [fig_let hf]; decide), if_pos hf, ht, hb, show longK 1 = 19 from rfl, List.length_take]
   dsimp only
   by_cases h19 : runL figB (c :: r) ≤ 19
   ·rw [if_pos h19, if_neg (by omega)]
   ·rw [if_neg h19, if_pos (by omega)]
  by_cases hl : letB c = true
  ·have hb : beginsL (c :: r) = (0, runL nameB (c :: r)) := by rw [begins_cons, if_neg h60, if_neg hm, if_neg h39, if_neg hf, if_pos hl]
   have ht : textOf (c :: r) = (c :: r).take (runL nameB (c :: r)) := by unfold textOf; rw [hb, if_neg (by simp)]
   have hp : 1 ≤ runL nameB (c :: r) := runL_pos (by unfold nameB; rw [hl]; rfl)
   have hle := runL_le nameB (c :: r)
   rw [firstL, if_pos hl, ht, hb, show longK 0 = 20 from rfl, List.length_take]
   dsimp only
   by_cases h20 : runL nameB (c :: r) ≤ 20
   ·rw [if_pos h20, if_neg (by omega)]
   ·rw [if_neg h20, if_pos (by omega)]
  ·have hb : beginsL (c :: r) = (3, 0) := by rw [begins_cons, if_neg h60, if_neg hm, if_neg h39, if_neg hf, if_neg hl]
   have h2 : twoB (c :: r) = false := by
    cases r with
    | nil => rfl
    | cons d r =>
     rw [twoB_cons, twoB_two, show (c == 60) = false by simpa using fun e => h60 (.inl e), show (c == 62) = false by simpa using fun e => h60 (.inr e)]
     rfl
   have h1 : oneB c = false := by
    have hm' : ¬ c ∈ [40, 41, 44, 61, 43, 45, 42] := by unfold markB at hm; simpa using hm
    unfold oneB
    simp at hm' h60 ⊢
    simp [hm', h60]
   rw [firstL, if_neg hl, if_neg hf, if_neg h39, if_neg (by rw [h2]; decide), if_neg (by rw [h1]; decide), hb, if_pos (.inl rfl)]
theorem begins_le (s : List UInt8) : (beginsL s).2 ≤ s.length := by
 cases s with
 | nil => exact Nat.le_refl _
 | cons c r =>
  rw [begins_cons]
  split
  ·dsimp only
   split
   ·rename_i h
    cases r with
    | nil => cases h
    | cons d r => simp
   ·simp
  split
  ·simp
  split
  ·unfold quoN
   rw [List.drop_one, List.tail_cons]
   cases hq : quoL r with
   | none => exact Nat.zero_le _
   | some v =>
    obtain ⟨t, n⟩ := v
    obtain ⟨r', rfl, rfl, -⟩ := quoL_is r t n hq
    simp
  split
  ·exact runL_le _ _
  split
  ·exact runL_le _ _
  ·exact Nat.zero_le _
theorem quote_inner (s : List UInt8) (h : 0 < quoN s) : ((s.take (quoN s)).drop 1).take (quoN s - 2) = dbl (quoT s) ∧ 2 ≤ quoN s := by
 unfold quoN quoT at *
 cases hq : quoL (s.drop 1) with
 | none => rw [hq] at h; simp at h
 | some v =>
  obtain ⟨t, n⟩ := v
  obtain ⟨r', e1, rfl, -⟩ := quoL_is _ t n hq
  dsimp only
  refine ⟨?_, by omega⟩
  rw [List.drop_take, e1, show (dbl t).length + 1 + 1 - 1 = (dbl t).length + 1 by omega, List.take_take, show min ((dbl t).length + 1 + 1 - 2) ((dbl t).length + 1) = (dbl t).length by omega]
  simp
theorem retKN {x : Int × Nat} {k i : Int} {n : Nat} (h : x = (k, n)) (g : i = n) : Ending.returned (.tuple #[.int .i64 k, .int .i64 i]) = .returned (.tuple #[.int .i64 x.1, .int .i64 (x.2 : Nat)]) := by rw [h, g]
theorem list_cons (s : ByteArray) (h : 0 < s.size) : s.data.toList = s[0] :: s.data.toList.drop 1 := by
 have := List.drop_eq_getElem_cons (l := s.data.toList) (i := 0) h
 rwa [List.drop_zero] at this
theorem u8_not {b : UInt8} (k : Nat) (c : UInt8) (hk : c.toNat = k) (h : ¬ b = c) : ((b.toNat : Int) == (k : Int)) = false := by
 have : b.toNat ≠ c.toNat := fun e => h (UInt8.toNat_inj.1 e)
 simp
 omega
theorem list_two (s : ByteArray) (h : 1 < s.size) : s.data.toList = s[0] :: s[1] :: s.data.toList.drop 2 := by
 rw [list_cons s (by omega), List.drop_eq_getElem_cons (l := s.data.toList) (i := 1) h]
 rfl
theorem list_short (s : ByteArray) (h : 0 < s.size) (g : ¬ 1 < s.size) : s.data.toList = [s[0]] := by
 rw [list_cons s h, List.drop_eq_nil_of_le (by rw [← size_list]; omega)]
theorem begins_any (s : ByteArray) (w : World) (hs : s.size ≤ 281474976710656) (h1 : 1 ≤ s.size) :
  Calls Tryz.prog 212 #[.string s] w fun e w' => e = .returned (.tuple #[.int .i64 (beginsL s.data.toList).1, .int .i64 ((beginsL s.data.toList).2 : Nat)]) ∧ w = w' := by
 obtain ⟨c, hc⟩ : ∃ c, s[0] = c := ⟨_, rfl⟩
 have hl := list_cons s h1
 rw [hc] at hl
 by_cases h60 : c = 60
 ·subst h60
  by_cases hlt : 1 < s.size
  ·obtain ⟨d, hd⟩ : ∃ d, s[1] = d := ⟨_, rfl⟩
   have hl2 := list_two s hlt
   rw [hc, hd] at hl2
   clear hl
   by_cases h62 : d = 62
   ·subst h62
    have HX := hid (show beginsL s.data.toList = (3, 2) by rw [hl2]; rfl)
    have HP := hid (fun w => (Tryz.strings_HasPrefix s ⟨#[60, 62]⟩ w).mono (R' := fun e w' => e = .returned (.bool true) ∧ w' = w) (by rintro e w' ⟨h1, h2⟩; exact ⟨by rw [h1, hl2]; rfl, h2⟩))
    clear hl2
    go_enter Tryz.func212, Tryz.ntmps212
    go_wp2_with fail
    refine (HP.out _).mono ?_
    rintro e w1 ⟨rfl, rfl⟩
    go_wp2
    go_ret2
    exact ⟨retKN HX.out rfl, rfl⟩
   ·have HP := hid (fun w => (Tryz.strings_HasPrefix s ⟨#[60, 62]⟩ w).mono (R' := fun e w' => e = .returned (.bool false) ∧ w' = w) (by rintro e w' ⟨h1, h2⟩; exact ⟨by rw [h1, hl2]; simp [Lib.hasPrefix, List.isPrefixOf]; exact fun e => h62 e.symm, h2⟩))
    by_cases h61 : d = 61
    ·subst h61
     have HX := hid (show beginsL s.data.toList = (3, 2) by rw [hl2]; rfl)
     clear hl2
     go_enter Tryz.func212, Tryz.ntmps212
     go_wp2_with fail
     refine (HP.out _).mono ?_
     rintro e w1 ⟨rfl, rfl⟩
     go_wp2
     go_ret2
     exact ⟨retKN HX.out rfl, rfl⟩
    ·have HX := hid (show beginsL s.data.toList = (3, 1) by
      rw [hl2, begins_cons, if_pos (.inl rfl), twoB_cons, twoB_two, show (d == 62) = false by simpa using h62, show (d == 61) = false by simpa using h61]
      rfl)
     have i0 := u8_not 61 61 rfl h61
     clear hl2 h61 h62
     go_enter Tryz.func212, Tryz.ntmps212
     go_wp2_with fail
     refine (HP.out _).mono ?_
     rintro e w1 ⟨rfl, rfl⟩
     go_wp2
     go_ret2
     exact ⟨retKN HX.out rfl, rfl⟩
  ·have hl2 := list_short s h1 hlt
   rw [hc] at hl2
   have HX := hid (show beginsL s.data.toList = (3, 1) by rw [hl2]; rfl)
   have HP := hid (fun w => (Tryz.strings_HasPrefix s ⟨#[60, 62]⟩ w).mono (R' := fun e w' => e = .returned (.bool false) ∧ w' = w) (by rintro e w' ⟨h1, h2⟩; exact ⟨by rw [h1, hl2]; rfl, h2⟩))
   clear hl2 hl
   go_enter Tryz.func212, Tryz.ntmps212
   go_wp2_with fail
   refine (HP.out _).mono ?_
   rintro e w1 ⟨rfl, rfl⟩
   go_wp2
   go_ret2
   exact ⟨retKN HX.out rfl, rfl⟩
 by_cases h62 : c = 62
 ·subst h62
  by_cases hlt : 1 < s.size
  ·obtain ⟨d, hd⟩ : ∃ d, s[1] = d := ⟨_, rfl⟩
   have hl2 := list_two s hlt
   rw [hc, hd] at hl2
   clear hl
   by_cases h61 : d = 61
   ·subst h61
    have HX := hid (show beginsL s.data.toList = (3, 2) by rw [hl2]; rfl)
    clear hl2
    go_enter Tryz.func212, Tryz.ntmps212
    go_wp2
    go_ret2
    exact ⟨retKN HX.out rfl, rfl⟩
   ·have HX := hid (show beginsL s.data.toList = (3, 1) by
     rw [hl2, begins_cons, if_pos (.inr rfl), twoB_cons, twoB_two, show (d == 61) = false by simpa using h61]
     simp)
    have i0 := u8_not 61 61 rfl h61
    clear hl2 h61
    go_enter Tryz.func212, Tryz.ntmps212
    go_wp2
    go_ret2
    exact ⟨retKN HX.out rfl, rfl⟩
  ·have hl2 := list_short s h1 hlt
   rw [hc] at hl2
   have HX := hid (show beginsL s.data.toList = (3, 1) by rw [hl2]; rfl)
   clear hl2 hl
   go_enter Tryz.func212, Tryz.ntmps212
   go_wp2
   go_ret2
   exact ⟨retKN HX.out rfl, rfl⟩
 have j60 := u8_not 60 60 rfl h60
 have j62 := u8_not 62 62 rfl h62
 obtain ⟨j, hj⟩ : ∃ j, Lib.indexByte [40, 41, 44, 61, 43, 45, 42] c = j := ⟨_, rfl⟩
 have hmk := mark_idx c
 rw [hj] at hmk
 have HI := hid (fun w => (Tryz.strings_IndexByte ⟨#[40, 41, 44, 61, 43, 45, 42]⟩ (c.toNat : Int) w).mono (R' := fun e w' => e = .returned (.int .i64 j) ∧ w' = w) (by
  rintro e w' ⟨h1, h2⟩
  refine ⟨?_, h2⟩
  rw [h1, Int.toNat_natCast, show c.toNat.toUInt8 = c from UInt8.ofNat_toNat]
  exact congrArg (fun x => Ending.returned (.int .i64 x)) hj))
 have hb0 := begins_cons c (s.data.toList.drop 1)
 rw [← hl, if_neg (by rintro (e | e); exact h60 e; exact h62 e)] at hb0
 have h60' := h60
 clear hj h60 h62 h60'
 by_cases hm : markB c = true
 ·have HX := hid (hb0.trans (if_pos hm))
  rw [hm] at hmk
  clear hb0 hm hl
  go_enter Tryz.func212, Tryz.ntmps212
  go_wp2_with fail
  refine (HI.out _).mono ?_
  rintro e w1 ⟨rfl, rfl⟩
  go_wp2
  go_ret2
  exact ⟨retKN HX.out rfl, rfl⟩
 rw [if_neg hm] at hb0
 rw [show markB c = false by simpa using hm] at hmk
 clear hm
 by_cases h39 : c = 39
 ·subst h39
  have HX := hid (hb0.trans (if_pos rfl))
  have HQ := hid (fun w => quoted_any s w hs h1)
  obtain ⟨N, hN⟩ : ∃ N, quoN s.data.toList = N := ⟨_, rfl⟩
  rw [hN] at HX HQ
  clear hb0 hl hN
  go_enter Tryz.func212, Tryz.ntmps212
  go_wp2_with fail
  refine (HI.out _).mono ?_
  rintro e w1 ⟨rfl, rfl⟩
  go_wp2_with fail
  refine (HQ.out _).mono ?_
  rintro e w1 ⟨rfl, rfl⟩
  go_wp2
  go_ret2
  exact ⟨retKN HX.out rfl, rfl⟩
 have j39 := u8_not 39 39 rfl h39
 rw [if_neg h39] at hb0
 clear h39
 obtain ⟨f, hf⟩ : ∃ f, figB c = f := ⟨_, rfl⟩
 have HF := hid (fun w => (figure_any c w).mono (R' := fun e w' => e = .returned (.bool f) ∧ w = w') (by rintro e w' ⟨h1, h2⟩; exact ⟨by rw [h1, hf], h2⟩))
 cases f
 ·rw [if_neg (by rw [hf]; decide)] at hb0
  obtain ⟨a, ha⟩ : ∃ a, letB c = a := ⟨_, rfl⟩
  have HA := hid (fun w => (letter_any c w).mono (R' := fun e w' => e = .returned (.bool a) ∧ w = w') (by rintro e w' ⟨h1, h2⟩; exact ⟨by rw [h1, ha], h2⟩))
  cases a
  ·rw [if_neg (by rw [ha]; decide)] at hb0
   have HX := hid hb0
   clear hb0 hl hf ha
   go_enter Tryz.func212, Tryz.ntmps212
   go_wp2_with fail
   refine (HI.out _).mono ?_
   rintro e w1 ⟨rfl, rfl⟩
   go_wp2_with fail
   refine (HF.out _).mono ?_
   rintro e w1 ⟨rfl, rfl⟩
   go_wp2_with fail
   refine (HA.out _).mono ?_
   rintro e w1 ⟨rfl, rfl⟩
   go_wp2
   go_ret2
   exact ⟨retKN HX.out rfl, rfl⟩
  ·rw [if_pos ha] at hb0
   have HX := hid hb0
   have HR := hid (fun w => run_any nameB 238 (enters_of Tryz.func238 (by kernel_rfl) rfl) inName_any s w hs)
   obtain ⟨N, hN⟩ : ∃ N, runL nameB s.data.toList = N := ⟨_, rfl⟩
   rw [hN] at HX HR
   clear hb0 hl hf ha hN
   go_enter Tryz.func212, Tryz.ntmps212
   go_wp2_with fail
   refine (HI.out _).mono ?_
   rintro e w1 ⟨rfl, rfl⟩
   go_wp2_with fail
   refine (HF.out _).mono ?_
   rintro e w1 ⟨rfl, rfl⟩
   go_wp2_with fail
   refine (HA.out _).mono ?_
   rintro e w1 ⟨rfl, rfl⟩
   go_wp2_with fail
   refine (HR.out _).mono ?_
   rintro e w1 ⟨rfl, rfl⟩
   go_wp2
   go_ret2
   exact ⟨retKN HX.out rfl, rfl⟩
 ·rw [if_pos hf] at hb0
  have HX := hid hb0
  have HR := hid (fun w => run_any figB 235 (enters_of Tryz.func235 (by kernel_rfl) rfl) figure_any s w hs)
  obtain ⟨N, hN⟩ : ∃ N, runL figB s.data.toList = N := ⟨_, rfl⟩
  rw [hN] at HX HR
  clear hb0 hl hf hN
  go_enter Tryz.func212, Tryz.ntmps212
  go_wp2_with fail
  refine (HI.out _).mono ?_
  rintro e w1 ⟨rfl, rfl⟩
  go_wp2_with fail
  refine (HF.out _).mono ?_
  rintro e w1 ⟨rfl, rfl⟩
  go_wp2_with fail
  refine (HR.out _).mono ?_
  rintro e w1 ⟨rfl, rfl⟩
  go_wp2
  go_ret2
  exact ⟨retKN HX.out rfl, rfl⟩
structure Glob (B : Nat) (m : Int) (w : World) : Prop where
 hmax : 0 < B
 hpow : 1 < B
 cell : w.cell? ⟨0, 0, none⟩ = some (.int .i64 m)
 tab : Lib.TabIs Tryz.prog w "internal/strconv.uint64pow10" .u64 Lib.pow10Tab
theorem glob_pow : Tryz.prog.globalNamed "internal/strconv.uint64pow10" = some 1 := by kernel_rfl
theorem Glob.below {B : Nat} {m : Int} {w w' : World} (h : Glob B m w) (hb : Below B w w') : Glob B m w' := by
 refine ⟨h.hmax, h.hpow, by rw [hb.cell (p := ⟨0, 0, none⟩) h.hmax]; exact h.cell, ?_⟩
 have := h.tab
 unfold Lib.TabIs at *
 rw [← this]
 simp only [World.var?, glob_pow, Option.bind_some, hb.block _ h.hpow]
theorem Glob.more {B B' : Nat} {m : Int} {w : World} (h : Glob B m w) (hB : B ≤ B') : Glob B' m w := ⟨by have := h.hmax; omega, by have := h.hpow; omega, h.cell, h.tab⟩
theorem Glob.next {B : Nat} {m : Int} {w w' : World} (h : Glob B m w) (hb : Below B w w') : Glob w'.heap.size m w' := by
 have h1 := h.below hb
 refine ⟨World.block_lt_of_cell? _ _ h1.cell, ?_, h1.cell, h1.tab⟩
 have := h1.tab
 unfold Lib.TabIs at this
 simp only [World.var?, glob_pow, Option.bind_some] at this
 by_cases hlt : 1 < w'.heap.size
 ·exact hlt
 ·rw [Array.getElem?_eq_none (by omega)] at this
  cases this
theorem dig_at (r : Nat) (h : r < 10) : (⟨#[48, 49, 50, 51, 52, 53, 54, 55, 56, 57]⟩ : ByteArray).extract r (r + 1) = ⟨#[UInt8.ofNat (48 + r)]⟩ := by
 rcases (show r = 0 ∨ r = 1 ∨ r = 2 ∨ r = 3 ∨ r = 4 ∨ r = 5 ∨ r = 6 ∨ r = 7 ∨ r = 8 ∨ r = 9 by omega) with rfl | rfl | rfl | rfl | rfl | rfl | rfl | rfl | rfl | rfl <;> rfl
theorem dec_small (u : Nat) (h : u < 10) : Lib.decDigits u = [UInt8.ofNat (48 + u)] := Lib.decDigits_one h
theorem dec_big (u : Nat) (h : 10 ≤ u) : Lib.decDigits u = Lib.decDigits (u / 10) ++ [UInt8.ofNat (48 + u % 10)] := by rw [Lib.decDigits, dif_neg (by omega)]
theorem itoa_pos (u : Nat) : Lib.itoa (u : Int) = Lib.decDigits u := Lib.itoa_nonneg u
theorem figures_pos : ∀ (N u : Nat), u < N → u ≤ 9223372036854775807 → ∀ w : World,
  Calls Tryz.prog 127 #[.int .i64 (u : Int)] w fun e w' => e = .returned (.string ⟨(Lib.decDigits u).toArray⟩) ∧ Below w.heap.size w w'
 | 0, u, h, _, _ => absurd h (Nat.not_lt_zero u)
 | N + 1, u, h, hu, w => by
  have IH := hid (fun (h10 : 10 ≤ u) => figures_pos N (u / 10) (by omega) (by omega))
  have HS1 := hid (dec_small u)
  have HS2 := hid (dec_big u)
  have hL := Lib.itoa_length_le (u / 10 : Nat) (by omega) (by omega)
  rw [itoa_pos] at hL
  obtain ⟨q, hq⟩ : ∃ q, u / 10 = q := ⟨_, rfl⟩
  obtain ⟨r, hr⟩ : ∃ r, u % 10 = r := ⟨_, rfl⟩
  have hr10 : r < 10 := by omega
  have hq2 : q ≤ 922337203685477580 := by omega
  have hqr : u = 10 * q + r := by omega
  have eq1 : (u : Int).tdiv 10 = (q : Int) := by rw [Int.tdiv_eq_ediv_of_nonneg (by omega)]; omega
  have eq2 : (u : Int).tmod 10 = (r : Int) := by rw [Int.tmod_eq_emod_of_nonneg (by omega)]; omega
  have hsl := cut_at ⟨#[48, 49, 50, 51, 52, 53, 54, 55, 56, 57]⟩ r (r + 1) r (r + 1) rfl (by omega) (by omega) (by show r + 1 ≤ 10; omega)
  obtain ⟨d, hd⟩ : ∃ d, UInt8.ofNat (48 + r) = d := ⟨_, rfl⟩
  rw [dig_at r hr10, hd] at hsl
  have eq3 : (u : Int) / 10 = (q : Int) := by omega
  have eq4 : (u : Int) % 10 = (r : Int) := by omega
  have HQR := hid hqr
  clear hqr
  rw [hq] at IH HS2 hL
  rw [hr, hd] at HS2
  by_cases h10 : u < 10
  ·have HX := hid (show Lib.decDigits u = [d] by have := HQR.out; rw [HS1.out h10, show u = r by omega, hd])
   clear IH HS1 HS2 hq hr hd
   go_enter Tryz.func127, Tryz.ntmps127
   go_wp2
   go_ret
   exact ⟨retS (by rw [HX.out]), Below.refl _ _⟩
  ·have HX := hid (HS2.out (by omega))
   have IH2 := hid (IH.out (by omega))
   have e10 : decide ((10 : Int) ≤ (u : Int)) = true := by simp; omega
   clear IH HS1 HS2 hq hr hd
   go_enter Tryz.func127, Tryz.ntmps127
   go_wp2_with fail
   refine (IH2.out _).mono ?_
   rintro e w1 ⟨rfl, hb1⟩
   have L1 := hid hb1
   clear hb1
   go_wp2
   go_ret
   exact ⟨retS (by rw [HX.out]; exact strCat _ _), L1.out⟩
def WBox (W : World) (b : Nat) (k : Int) (s : ByteArray) (n : Int) : Prop := W.cell? ⟨b, 0, none⟩ = some (.int .i64 k) ∧ W.cell? ⟨b, 1, none⟩ = some (.string s) ∧ W.cell? ⟨b, 2, none⟩ = some (.int .i64 n) ∧ b < W.heap.size ∧ ∀ j, W.frozen? ⟨b, j, none⟩ = false
theorem WBox.call {W W' : World} {b : Nat} {k n : Int} {s : ByteArray} (h : WBox W b k s n) (hb : Below W.heap.size W W') : WBox W' b k s n := by
 obtain ⟨h0, h1, h2, h3, h4⟩ := h
 exact ⟨by rw [hb.cell (p := ⟨b, 0, none⟩) h3]; exact h0, by rw [hb.cell (p := ⟨b, 1, none⟩) h3]; exact h1, by rw [hb.cell (p := ⟨b, 2, none⟩) h3]; exact h2, Nat.lt_of_lt_of_le h3 hb.size, fun j => by rw [hb.frozen (p := ⟨b, j, none⟩) h3]; exact h4 j⟩
theorem WBox.fresh (W : World) (k n : Int) (s : ByteArray) (t : TypeId) : WBox (W.alloc (.cells #[.int .i64 k, .string s, .int .i64 n] t)) W.heap.size k s n := ⟨by simp [go_sem], by simp [go_sem], by simp [go_sem], by simp, fun j => by simp [go_sem]⟩
theorem sclone_any (s : ByteArray) (w : World) (hs : s.size ≤ 281474976710656) :
  Calls Tryz.prog 215 #[.string s] w fun e w' => e = .returned (.string s) ∧ Below w.heap.size w w' := by
 have HC := hid (fun w => Tryz.stringslite_Clone s w hs)
 go_enter Tryz.func215, Tryz.ntmps215
 go_wp2_with fail
 refine (HC.out _).mono ?_
 rintro e w1 ⟨rfl, hb⟩
 have L := hid hb
 clear hb
 go_wp2
 go_ret
 exact ⟨rfl, L.out⟩
theorem rep_quote (t : List UInt8) (m : Int) (s : ByteArray) (w : World) (h : s.data.toList = dbl t) (hs : s.size ≤ 4194304) (hm : w.cell? ⟨0, 0, none⟩ = some (.int .i64 m)) :
  Calls Tryz.prog 213 #[.string s, .string ⟨#[39, 39]⟩, .string ⟨#[39]⟩] w fun e w' => e = .returned (.string ⟨t.toArray⟩) ∧ Below w.heap.size w w' := by
 have hc := Lib.countB_mul_le ⟨#[39, 39]⟩ (by decide) s.size s (Nat.le_refl _)
 rw [show (⟨#[39, 39]⟩ : ByteArray).size = 2 from rfl] at hc
 have h := Tryz.strings_ReplaceAll s ⟨#[39, 39]⟩ ⟨#[39]⟩ m w (by omega) hm (by decide) (by rw [show (⟨#[39]⟩ : ByteArray).size = 1 from rfl]; omega)
 rw [show Lib.replaceAll s.data.toList (⟨#[39, 39]⟩ : ByteArray).data.toList (⟨#[39]⟩ : ByteArray).data.toList = t by rename_i h'; rw [h']; exact rep_dbl' _] at h
 exact h
theorem dbl_le : ∀ l : List UInt8, l.length ≤ (dbl l).length
 | [] => Nat.le_refl _
 | b :: l => by
  have := dbl_le l
  rw [dbl]
  split <;> simp <;> omega
def FirstIs (l : List UInt8) (e : Ending) : Prop := ∃ (k : Int) (t : ByteArray) (n : Nat), e = .returned (.tuple #[.agg #[.int .i64 k, .string t, .int .i64 0], .int .i64 n]) ∧ (firstL l = none ∧ n = 0 ∨ firstL l = some (k, t.data.toList, n))
theorem first_any (s : ByteArray) (m : Int) (w : World) (hs : s.size ≤ 4194304) (h1 : 1 ≤ s.size) (hm : w.cell? ⟨0, 0, none⟩ = some (.int .i64 m)) :
  Calls Tryz.prog 193 #[.string s] w fun e w' => FirstIs s.data.toList e ∧ Below w.heap.size w w' := by
 have hlt : 0 < w.heap.size := World.block_lt_of_cell? _ _ hm
 have HM := hid hm
 clear hm
 obtain ⟨K, N, hKN⟩ : ∃ K N, beginsL s.data.toList = (K, N) := ⟨_, _, rfl⟩
 have hN : N ≤ s.size := by
  have := begins_le s.data.toList
  rw [hKN] at this
  exact this
 have HB := hid (fun w => begins_any s w (by omega) h1)
 rw [hKN] at HB
 obtain ⟨L, hL⟩ : ∃ L, longK K = L := ⟨_, rfl⟩
 have HLo := hid (fun w => longest_any K w)
 rw [hL] at HLo
 have hF := firstL_is s.data.toList
 rw [hKN] at hF
 dsimp only at hF
 rw [hL] at hF
 obtain ⟨S, hS⟩ : ∃ S, s.extract 0 N = S := ⟨_, rfl⟩
 have hsl := cut_to s N N rfl hN
 rw [hS] at hsl
 have hSl : S.data.toList = s.data.toList.take N := by rw [← hS]; exact to_list s N
 have hSs : S.size = N := by rw [size_list, hSl, List.length_take, ← size_list]; omega
 have hL2 : 2 ≤ L := by rw [← hL]; unfold longK; repeat' split <;> omega
 by_cases hq : K = 2 ∧ 0 < N
 ·obtain ⟨rfl, hN0⟩ := hq
  obtain rfl : L = 200 := hL.symm
  obtain ⟨T, hT⟩ : ∃ T, textOf s.data.toList = T := ⟨_, rfl⟩
  have hTq : quoT s.data.toList = T := by rw [← hT]; unfold textOf; rw [hKN, if_pos ⟨rfl, hN0⟩]
  have hQN : quoN s.data.toList = N := by
   have hl := list_cons s h1
   obtain ⟨c, hc⟩ : ∃ c, s[0] = c := ⟨_, rfl⟩
   rw [hc] at hl
   rw [hl, begins_cons] at hKN
   split at hKN
   ·cases hKN
   split at hKN
   ·cases hKN
   split at hKN
   ·rw [← hl] at hKN
    injection hKN
   split at hKN
   ·cases hKN
   split at hKN <;> cases hKN
  have hin := quote_inner s.data.toList (by rw [hQN]; exact hN0)
  rw [hQN, hTq] at hin
  obtain ⟨S1, hS1⟩ : ∃ S1, S.extract 1 (N - 1) = S1 := ⟨_, rfl⟩
  have hS1l : S1.data.toList = dbl T := by
   rw [← hS1, ByteArray.data_extract, Array.toList_extract, List.extract_eq_take_drop, hSl, show N - 1 - 1 = N - 2 by omega]
   exact hin.1
  have hS1s : S1.size ≤ 4194304 := by
   have := hin.1
   rw [size_list, hS1l, ← hin.1, List.length_take]
   omega
  have hsl2 := cut_at S 1 ((N : Int) - 1) 1 (N - 1) rfl (by omega) (by omega) (by omega)
  rw [hS1] at hsl2
  have hw := IntWalk.wrap64_in ((N : Int) - 1) ⟨by omega, by omega⟩
  have e0 : decide ((0 : Int) < (N : Int)) = true := by simp; omega
  have HR := hid (fun w => rep_quote T m S1 w hS1l hS1s)
  obtain ⟨T2, hT2⟩ : ∃ T2 : ByteArray, ⟨T.toArray⟩ = T2 := ⟨_, rfl⟩
  have hTT : T2.data.toList = T := by rw [← hT2]
  have hTs : (T.length : Int) = (T2.size : Int) := by rw [size_list, hTT]
  rw [hT2] at HR
  rw [hT, hTs] at hF
  have hTb : T2.size ≤ 4194304 := by
   have h1 := dbl_le T
   have h2 : (dbl T).length = S1.size := by rw [size_list, hS1l]
   omega
  by_cases hbig : (200 : Int) < (T2.size : Int)
  ·have HX := hid (show firstL s.data.toList = none by rw [hF, if_pos (.inr hbig)])
   clear hF hKN hS hSl hT hTq hQN hin hS1 hS1l hT2 hTT hTs hL
   go_enter Tryz.func193, Tryz.ntmps193
   go_wp2_with fail
   refine (HB.out _).mono ?_
   rintro e w1 ⟨rfl, rfl⟩
   have X0 := hid (WBox.fresh w 0 0 ⟨#[]⟩ 190)
   have L0 := hid (below_alloc w (.cells #[.int .i64 0, .string ⟨#[]⟩, .int .i64 0] 190))
   go_wp2_with fail
   refine (HR.out _ (by rw [L0.out.cell (p := ⟨0, 0, none⟩) hlt]; exact HM.out)).mono ?_
   rintro e w2 ⟨rfl, hb2⟩
   have X2 := hid (X0.out.call hb2)
   have L2 := hid (bnext L0.out L0.out.size hb2)
   clear hb2
   go_wp2_with fail
   refine (HLo.out _).mono ?_
   rintro e w1 ⟨rfl, rfl⟩
   obtain ⟨x0, x1, x2, xz, xf⟩ := X2.out
   go_wp2
   exact bodyPost_ret (v := .tuple #[.agg #[.int .i64 0, .string ⟨#[]⟩, .int .i64 0], .int .i64 0]) (by simp [results, Tryz.results193, go_sem, World.cell?_setCell_other, x0, x1, x2]) rfl ⟨⟨0, ⟨#[]⟩, 0, rfl, .inl ⟨HX.out, rfl⟩⟩, ((L2.out.setCell (by simp) _).setCell (by simp) _).setCell (by simp) _⟩
  ·have HX := hid (show firstL s.data.toList = some (2, T2.data.toList, N) by rw [hF, if_neg (by omega), hTT])
   have HC := hid (fun w => sclone_any T2 w (by omega))
   clear hF hKN hS hSl hT hTq hQN hin hS1 hS1l hT2 hTT hTs hL
   go_enter Tryz.func193, Tryz.ntmps193
   go_wp2_with fail
   refine (HB.out _).mono ?_
   rintro e w1 ⟨rfl, rfl⟩
   have X0 := hid (WBox.fresh w 0 0 ⟨#[]⟩ 190)
   have L0 := hid (below_alloc w (.cells #[.int .i64 0, .string ⟨#[]⟩, .int .i64 0] 190))
   go_wp2_with fail
   refine (HR.out _ (by rw [L0.out.cell (p := ⟨0, 0, none⟩) hlt]; exact HM.out)).mono ?_
   rintro e w2 ⟨rfl, hb2⟩
   have X2 := hid (X0.out.call hb2)
   have L2 := hid (bnext L0.out L0.out.size hb2)
   clear hb2
   go_wp2_with fail
   refine (HLo.out _).mono ?_
   rintro e w1 ⟨rfl, rfl⟩
   go_wp2_with fail
   refine (HC.out _).mono ?_
   rintro e w3 ⟨rfl, hb3⟩
   have X3 := hid (X2.out.call hb3)
   have L3 := hid (bnext L2.out L2.out.size hb3)
   clear hb3
   obtain ⟨x0, x1, x2, xz, xf⟩ := X3.out
   go_wp2
   exact bodyPost_ret (v := .tuple #[.agg #[.int .i64 2, .string T2, .int .i64 0], .int .i64 (N : Int)]) (by simp [results, Tryz.results193, go_sem, World.cell?_setCell_other, x0, x1, x2]) rfl ⟨⟨2, T2, N, rfl, .inr HX.out⟩, ((L3.out.setCell (by simp) _).setCell (by simp) _).setCell (by simp) _⟩
 ·have ht : textOf s.data.toList = S.data.toList := by unfold textOf; rw [hKN, if_neg hq, hSl]
  rw [ht, ← size_list, hSs] at hF
  by_cases hbig : L < (N : Int)
  ·have HX := hid (show firstL s.data.toList = none by rw [hF, if_pos (.inr hbig)])
   have hK2 : (K == 2) = false := by
    have : K ≠ 2 := fun e => hq ⟨e, by omega⟩
    simpa using this
   clear hF hKN hS hSl hq ht hL
   go_enter Tryz.func193, Tryz.ntmps193
   go_wp2_with fail
   refine (HB.out _).mono ?_
   rintro e w1 ⟨rfl, rfl⟩
   go_wp2_with fail
   refine (HLo.out _).mono ?_
   rintro e w1 ⟨rfl, rfl⟩
   go_wp2
   exact bodyPost_ret (v := .tuple #[.agg #[.int .i64 0, .string ⟨#[]⟩, .int .i64 0], .int .i64 0]) (by simp [results, Tryz.results193, go_sem, World.cell?_setCell_other]) rfl ⟨⟨0, ⟨#[]⟩, 0, rfl, .inl ⟨HX.out, rfl⟩⟩, below_alloc w _⟩
  ·have HX := hid (show firstL s.data.toList = none ∧ N = 0 ∨ firstL s.data.toList = some (K, S.data.toList, N) by
    by_cases h0 : N = 0
    ·exact .inl ⟨by rw [hF, if_pos (.inl h0)], h0⟩
    ·exact .inr (by rw [hF, if_neg (by omega)]))
   have HC := hid (fun w => sclone_any S w (by omega))
   by_cases hK : K = 2
   ·subst hK
    obtain rfl : N = 0 := by omega
    clear hS
    obtain rfl : S = ByteArray.empty := ByteArray.size_eq_zero_iff.1 hSs
    clear hF hKN hSl hq ht hL
    go_enter Tryz.func193, Tryz.ntmps193
    go_wp2_with fail
    refine (HB.out _).mono ?_
    rintro e w1 ⟨rfl, rfl⟩
    go_wp2_with fail
    refine (HLo.out _).mono ?_
    rintro e w1 ⟨rfl, rfl⟩
    have X0 := hid (WBox.fresh w 0 0 ⟨#[]⟩ 190)
    have L0 := hid (below_alloc w (.cells #[.int .i64 0, .string ⟨#[]⟩, .int .i64 0] 190))
    go_wp2_with fail
    refine (HC.out _).mono ?_
    rintro e w3 ⟨rfl, hb3⟩
    have X3 := hid (X0.out.call hb3)
    have L3 := hid (bnext L0.out L0.out.size hb3)
    clear hb3
    obtain ⟨x0, x1, x2, xz, xf⟩ := X3.out
    go_wp2
    exact bodyPost_ret (v := .tuple #[.agg #[.int .i64 2, .string ByteArray.empty, .int .i64 0], .int .i64 0]) (by simp [results, Tryz.results193, go_sem, World.cell?_setCell_other, x0, x1, x2]) rfl ⟨⟨2, ByteArray.empty, 0, rfl, HX.out.imp (fun h => ⟨h.1, rfl⟩) id⟩, ((L3.out.setCell (by simp) _).setCell (by simp) _).setCell (by simp) _⟩
   ·have hK2 : (K == 2) = false := by simpa using hK
    clear hF hKN hS hSl hq ht hL hK
    go_enter Tryz.func193, Tryz.ntmps193
    go_wp2_with fail
    refine (HB.out _).mono ?_
    rintro e w1 ⟨rfl, rfl⟩
    go_wp2_with fail
    refine (HLo.out _).mono ?_
    rintro e w1 ⟨rfl, rfl⟩
    have X0 := hid (WBox.fresh w 0 0 ⟨#[]⟩ 190)
    have L0 := hid (below_alloc w (.cells #[.int .i64 0, .string ⟨#[]⟩, .int .i64 0] 190))
    go_wp2_with fail
    refine (HC.out _).mono ?_
    rintro e w3 ⟨rfl, hb3⟩
    have X3 := hid (X0.out.call hb3)
    have L3 := hid (bnext L0.out L0.out.size hb3)
    clear hb3
    obtain ⟨x0, x1, x2, xz, xf⟩ := X3.out
    go_wp2
    exact bodyPost_ret (v := .tuple #[.agg #[.int .i64 K, .string S, .int .i64 0], .int .i64 (N : Int)]) (by simp [results, Tryz.results193, go_sem, World.cell?_setCell_other, x0, x1, x2]) rfl ⟨⟨K, S, N, rfl, HX.out⟩, ((L3.out.setCell (by simp) _).setCell (by simp) _).setCell (by simp) _⟩
theorem u8_no95 {b : UInt8} (h : decide (b.toNat = 95) = false) : ((b.toNat : Int) != 95) = true := by
 have : ¬ b.toNat = 95 := by simpa using h
 simp
 omega
theorem u8_is95 {b : UInt8} (h : decide (b.toNat = 95) = true) : ((b.toNat : Int) != 95) = false := by
 have : b.toNat = 95 := by simpa using h
 rw [this]
 rfl
theorem rrun_any (name : Bool) (p : UInt8 → Bool) (hp : ∀ c, p c = (figB c || (name && (letB c || decide (c.toNat = 95))))) (s : ByteArray) (w : World) (hs : s.size ≤ 281474976710656) :
  Calls Tryz.prog 141 #[.string s, .bool name] w fun e w' => e = .returned (.int .i64 (runL p s.data.toList : Nat)) ∧ w = w' := by
 have HP := hid hp
 clear hp
 go_enter Tryz.func141, Tryz.ntmps141
 go_wp2
 go_loop [5] (fun t => ∃ n : Nat, n ≤ s.size ∧ t = .int .i64 n ∧ n ≤ runL p s.data.toList) (fun t => s.size - (intOf t).toNat)
 case atStart => exact ⟨0, by omega, rfl, by omega⟩
 case round =>
  obtain ⟨n, hn, rfl, hr⟩ := hrel
  have HR := hid hr
  clear hr
  by_cases hlt : n < s.size
  ·obtain ⟨c, hc⟩ : ∃ c, s[n] = c := ⟨_, rfl⟩
   obtain ⟨a, ha⟩ : ∃ a, letB c = a := ⟨_, rfl⟩
   obtain ⟨b, hb⟩ : ∃ b, figB c = b := ⟨_, rfl⟩
   obtain ⟨u, hu⟩ : ∃ u, decide (c.toNat = 95) = u := ⟨_, rfl⟩
   have HA := hid (fun w => (rletter_any c w).mono (R' := fun e w' => e = .returned (.bool a) ∧ w = w') (by rintro e w' ⟨h1, h2⟩; exact ⟨by rw [h1, ha], h2⟩))
   have HB := hid (fun w => (rfigure_any c w).mono (R' := fun e w' => e = .returned (.bool b) ∧ w = w') (by rintro e w' ⟨h1, h2⟩; exact ⟨by rw [h1, hb], h2⟩))
   have HPC := hid (show p c = (b || (name && (a || u))) by rw [HP.out c, ha, hb, hu])
   clear ha hb
   cases u
   ·have i0 := u8_no95 hu
    clear hu
    go_wp2_with fail
    refine (HA.out _).mono ?_
    rintro e w1 ⟨rfl, rfl⟩
    go_wp2_with fail
    refine (HB.out _).mono ?_
    rintro e w1 ⟨rfl, rfl⟩
    cases b <;> cases name <;> cases a
    all_goals go_wp2
    all_goals first
     | (have HE := hid (runL_stop p s.data.toList n hlt HR.out (by rw [list_get s n hlt, hc, HPC.out]; rfl))
        go_ret
        exact ⟨ret1 (by rw [HE.out]), rfl⟩)
     | (have HE := hid (runL_step p s.data.toList n hlt HR.out (by rw [list_get s n hlt, hc, HPC.out]; rfl))
        go_round
        (case rel => exact ⟨n + 1, by omega, by go_num, HE.out⟩)
        (case measure => (simp [intOf]; try omega)))
   ·have i0 := u8_is95 hu
    clear hu
    go_wp2_with fail
    refine (HA.out _).mono ?_
    rintro e w1 ⟨rfl, rfl⟩
    go_wp2_with fail
    refine (HB.out _).mono ?_
    rintro e w1 ⟨rfl, rfl⟩
    cases b <;> cases name <;> cases a
    all_goals go_wp2
    all_goals first
     | (have HE := hid (runL_stop p s.data.toList n hlt HR.out (by rw [list_get s n hlt, hc, HPC.out]; rfl))
        go_ret
        exact ⟨ret1 (by rw [HE.out]), rfl⟩)
     | (have HE := hid (runL_step p s.data.toList n hlt HR.out (by rw [list_get s n hlt, hc, HPC.out]; rfl))
        go_round
        (case rel => exact ⟨n + 1, by omega, by go_num, HE.out⟩)
        (case measure => (simp [intOf]; try omega)))
  ·have HE := hid (show runL p s.data.toList = n by have := runL_le p s.data.toList; have := HR.out; rw [← size_list] at *; omega)
   go_wp2
   go_ret
   exact ⟨ret1 (by rw [HE.out]), rfl⟩
theorem retSN {a c : ByteArray} {b d : Int} (h : a = c) (g : b = d) : Ending.returned (.tuple #[.string a, .int .i64 b]) = .returned (.tuple #[.string c, .int .i64 d]) := by rw [h, g]
theorem rquote_any (s : ByteArray) (w : World) (hs : s.size ≤ 140737488355328) (h1 : 1 ≤ s.size) :
  Calls Tryz.prog 142 #[.string s] w fun e w' => e = .returned (.tuple #[.string ⟨(quoT s.data.toList).toArray⟩, .int .i64 (quoN s.data.toList : Nat)]) ∧ w = w' := by
 go_enter Tryz.func142, Tryz.ntmps142
 go_wp2
 go_loop [4, 5] (fun v t => ∃ (n : Nat) (out : List UInt8), n ≤ s.size ∧ t = .int .i64 n ∧ v = .string ⟨out.toArray⟩ ∧ 1 ≤ n ∧ out.length ≤ n ∧ Hid (quoI s.data.toList n out)) (fun _ t => s.size - (intOf t).toNat)
 case atStart => exact ⟨1, [], by omega, rfl, rfl, by omega, by simp, hid (quoI_start _)⟩
 case round =>
  obtain ⟨n, out, hn, rfl, rfl, hn1, hlo, HO⟩ := hrel
  by_cases hlt : n < s.size
  ·obtain ⟨c, hc⟩ : ∃ c, s[n] = c := ⟨_, rfl⟩
   by_cases hc39 : c = 39
   ·subst hc39
    by_cases hlt2 : n + 1 < s.size
    ·obtain ⟨d, hd⟩ : ∃ d, s[n + 1] = d := ⟨_, rfl⟩
     by_cases hd39 : d = 39
     ·subst hd39
      have HE := hid (quoI_two HO.out (show n + 1 < s.data.toList.length from hlt2) ((list_get s n hlt hlt).trans hc) ((list_get s (n + 1) hlt2 hlt2).trans hd))
      go_wp2
      go_round
      case rel => exact ⟨n + 2, out ++ [39], by omega, by go_num, strV (strCat out [39]), by omega, by simp; omega, HE⟩
      case measure => (simp [intOf]; try omega)
     ·have HE := hid (quoI_end HO.out (show n < s.data.toList.length from hlt) ((list_get s n hlt hlt).trans hc) (fun g e => hd39 (hd.symm.trans ((list_get s (n + 1) hlt2 g).symm.trans e))))
      have i0 := u8_nq39 hd39
      clear hd39
      go_wp2
      go_ret2
      exact ⟨retSN (by rw [HE.out.2]) (by rw [HE.out.1]; go_num), rfl⟩
    ·have HE := hid (quoI_end HO.out (show n < s.data.toList.length from hlt) ((list_get s n hlt hlt).trans hc) (fun g => absurd g hlt2))
     go_wp2
     go_ret2
     exact ⟨retSN (by rw [HE.out.2]) (by rw [HE.out.1]; go_num), rfl⟩
   ·have HE := hid (quoI_other HO.out (show n < s.data.toList.length from hlt) (by rw [list_get s n hlt, hc]; exact hc39))
    have hsl := cut_at s n (n + 1) n (n + 1) rfl (by omega) (by omega) (by omega)
    rw [one_at s n hlt, hc] at hsl
    have hg := list_get s n hlt hlt
    rw [hg, hc] at HE
    clear hg
    have i1 := u8_nq39 hc39
    clear hc39
    go_wp2
    go_round
    case rel => exact ⟨n + 1, out ++ [c], by omega, by go_num, strV (strCat out [c]), by omega, by simp; omega, HE⟩
    case measure => (simp [intOf]; try omega)
  ·have HE := hid (quoI_none HO.out (by rw [← size_list]; omega))
   go_wp2
   go_ret2
   exact ⟨retSN (by rw [HE.out.2]) (by rw [HE.out.1]; rfl), rfl⟩
theorem quo_first {s : List UInt8} (r : List UInt8) (h : s = 39 :: r) : firstL s = if quoN s = 0 ∨ 200 < (quoT s).length then none else some (2, quoT s, quoN s) := by
 subst h
 rw [firstL, if_neg (by decide), if_neg (by decide), if_pos rfl]
 unfold quoN quoT
 rw [List.drop_one, List.tail_cons]
 cases quoL r with
 | none => rfl
 | some v =>
  obtain ⟨t, n⟩ := v
  dsimp only
  by_cases h200 : t.length ≤ 200
  ·rw [if_pos h200, if_neg (by omega)]
  ·rw [if_neg h200, if_pos (by omega)]
theorem quoT_le (s : List UInt8) : (quoT s).length ≤ s.length := by
 unfold quoT
 cases hq : quoL (s.drop 1) with
 | none => exact Nat.zero_le _
 | some v =>
  obtain ⟨t, n⟩ := v
  obtain ⟨r, e1, -⟩ := quoL_is _ t n hq
  have h1 := dbl_le t
  have h2 : (s.drop 1).length = (dbl t ++ 39 :: r).length := by rw [e1]
  simp at h2
  show t.length ≤ s.length
  omega
theorem two_of (s : ByteArray) (c d : UInt8) (h : 1 < s.size) (hc : s[0] = c) (hd : s[1] = d) : s.extract 0 2 = ⟨#[c, d]⟩ := by
 refine ba_of (l := [c, d]) ?_
 rw [to_list, list_two s h, hc, hd]
 rfl
theorem one_of (s : ByteArray) (c : UInt8) (h : 0 < s.size) (hc : s[0] = c) : s.extract 0 1 = ⟨#[c]⟩ := by
 refine ba_of (l := [c]) ?_
 rw [to_list, list_cons s h, hc]
 rfl
theorem pair_list (c d : UInt8) : (⟨#[c, d]⟩ : ByteArray).toList = [c, d] := by rw [ByteArray.toList_eq]
theorem oneB_cases {c : UInt8} (h : oneB c = true) : c = 40 ∨ c = 41 ∨ c = 44 ∨ c = 61 ∨ c = 60 ∨ c = 62 ∨ c = 43 ∨ c = 45 ∨ c = 42 := by
 unfold oneB at h
 simp at h
 rcases h with (((((((h | h) | h) | h) | h) | h) | h) | h) | h <;> simp [h]
theorem oneB_not {c : UInt8} (h : oneB c = false) : (c ≠ 40 ∧ c ≠ 41 ∧ c ≠ 44 ∧ c ≠ 61) ∧ (c ≠ 60 ∧ c ≠ 62 ∧ c ≠ 43 ∧ c ≠ 45 ∧ c ≠ 42) := by
 unfold oneB at h
 simp at h
 obtain ⟨⟨⟨⟨⟨⟨⟨⟨h1, h2⟩, h3⟩, h4⟩, h5⟩, h6⟩, h7⟩, h8⟩, h9⟩ := h
 exact ⟨⟨h1, h2, h3, h4⟩, h5, h6, h7, h8, h9⟩
theorem one8_mark (s : ByteArray) (w : World) (hs : s.size ≤ 140737488355328) (h1 : 1 ≤ s.size) (c : UInt8) (hc : s[0] = c) (hl : s.data.toList = c :: s.data.toList.drop 1) (N : Nat) (hNs : N ≤ s.size)
  (HA : Hid (∀ w, Calls Tryz.prog 139 #[.int .u8 c.toNat] w fun e w' => e = .returned (.bool false) ∧ w = w'))
  (HB : Hid (∀ w, Calls Tryz.prog 140 #[.int .u8 c.toNat] w fun e w' => e = .returned (.bool false) ∧ w = w'))
  (HR : Hid (∀ w, Calls Tryz.prog 141 #[.string s, .bool false] w fun e w' => e = .returned (.int .i64 (N : Int)) ∧ w = w'))
  (j39 : ((c.toNat : Int) == 39) = false)
  (hf : firstL s.data.toList = if twoB s.data.toList = true then some (3, s.data.toList.take 2, 2) else if oneB c = true then some (3, [c], 1) else none) :
  Calls Tryz.prog 80 #[.string s] w fun e w' => FirstIs s.data.toList e ∧ Below w.heap.size w w' := by
 have hsl1 := cut_to s 1 1 rfl (by omega)
 rw [one_of s c h1 hc] at hsl1
 by_cases h2 : twoB s.data.toList = true
 ·rw [if_pos h2] at hf
  have hlt : 1 < s.size := by
   by_cases g : 1 < s.size
   ·exact g
   ·rw [list_short s h1 g] at h2
    cases h2
  obtain ⟨d, hd⟩ : ∃ d, s[1] = d := ⟨_, rfl⟩
  have hl2 := list_two s hlt
  rw [hc, hd] at hl2
  have hsl := cut_to s 2 2 rfl (by omega)
  rw [two_of s c d hlt hc hd] at hsl
  have HX := hid (show firstL s.data.toList = some (3, (⟨#[c, d]⟩ : ByteArray).data.toList, 2) by rw [hf, hl2]; rfl)
  have hcd : c = 60 ∧ d = 62 ∨ c = 60 ∧ d = 61 ∨ c = 62 ∧ d = 61 := by
   rw [hl2, twoB_cons, twoB_two] at h2
   simp at h2
   rcases h2 with ⟨h, h' | h'⟩ | ⟨h, h'⟩
   ·exact .inl ⟨h, h'⟩
   ·exact .inr (.inl ⟨h, h'⟩)
   ·exact .inr (.inr ⟨h, h'⟩)
  clear hf h2 hl hl2 j39
  rcases hcd with ⟨rfl, rfl⟩ | ⟨rfl, rfl⟩ | ⟨rfl, rfl⟩
  ·go_enter Tryz.func80, Tryz.ntmps80
   go_wp2_with fail
   refine (HA.out _).mono ?_
   rintro e w1 ⟨rfl, rfl⟩
   go_wp2_with fail
   refine (HB.out _).mono ?_
   rintro e w1 ⟨rfl, rfl⟩
   go_wp2_with fail
   refine (HR.out _).mono ?_
   rintro e w1 ⟨rfl, rfl⟩
   go_wp2
   exact bodyPost_ret (v := .tuple #[.agg #[.int .i64 3, .string ⟨#[60, 62]⟩, .int .i64 0], .int .i64 2]) (by simp [results, Tryz.results80, go_sem, World.cell?_setCell_other]) rfl ⟨⟨3, _, 2, rfl, .inr HX.out⟩, below_alloc w _⟩
  ·go_enter Tryz.func80, Tryz.ntmps80
   go_wp2_with fail
   refine (HA.out _).mono ?_
   rintro e w1 ⟨rfl, rfl⟩
   go_wp2_with fail
   refine (HB.out _).mono ?_
   rintro e w1 ⟨rfl, rfl⟩
   go_wp2_with fail
   refine (HR.out _).mono ?_
   rintro e w1 ⟨rfl, rfl⟩
   go_wp2
   exact bodyPost_ret (v := .tuple #[.agg #[.int .i64 3, .string ⟨#[60, 61]⟩, .int .i64 0], .int .i64 2]) (by simp [results, Tryz.results80, go_sem, World.cell?_setCell_other]) rfl ⟨⟨3, _, 2, rfl, .inr HX.out⟩, below_alloc w _⟩
  ·go_enter Tryz.func80, Tryz.ntmps80
   go_wp2_with fail
   refine (HA.out _).mono ?_
   rintro e w1 ⟨rfl, rfl⟩
   go_wp2_with fail
   refine (HB.out _).mono ?_
   rintro e w1 ⟨rfl, rfl⟩
   go_wp2_with fail
   refine (HR.out _).mono ?_
   rintro e w1 ⟨rfl, rfl⟩
   go_wp2
   exact bodyPost_ret (v := .tuple #[.agg #[.int .i64 3, .string ⟨#[62, 61]⟩, .int .i64 0], .int .i64 2]) (by simp [results, Tryz.results80, go_sem, World.cell?_setCell_other]) rfl ⟨⟨3, _, 2, rfl, .inr HX.out⟩, below_alloc w _⟩
 ·rw [if_neg h2] at hf
  by_cases hlt : 1 < s.size
  ·obtain ⟨d, hd⟩ : ∃ d, s[1] = d := ⟨_, rfl⟩
   have hl2 := list_two s hlt
   rw [hc, hd] at hl2
   have hsl := cut_to s 2 2 rfl (by omega)
   rw [two_of s c d hlt hc hd] at hsl
   obtain ⟨S, hS⟩ : ∃ S : ByteArray, ⟨#[c, d]⟩ = S := ⟨_, rfl⟩
   rw [hS] at hsl
   have hcd : ¬ (c = 60 ∧ d = 62) ∧ ¬ (c = 60 ∧ d = 61) ∧ ¬ (c = 62 ∧ d = 61) := by
    rw [hl2, twoB_cons, twoB_two] at h2
    simp at h2
    exact ⟨fun e => (h2.1 e.1).1 e.2, fun e => (h2.1 e.1).2 e.2, fun e => h2.2 e.1 e.2⟩
   have k0 : (S.toList == [60, 61]) = false := by rw [← hS, pair_list]; simpa using fun e => fun e2 => hcd.2.1 ⟨e, e2⟩
   have k1 : (S.toList == [62, 61]) = false := by rw [← hS, pair_list]; simpa using fun e => fun e2 => hcd.2.2 ⟨e, e2⟩
   have k2 : (S.toList == [60, 62]) = false := by rw [← hS, pair_list]; simpa using fun e => fun e2 => hcd.1 ⟨e, e2⟩
   by_cases h1b : oneB c = true
   ·obtain ⟨T, hT⟩ : ∃ T : ByteArray, ⟨#[c]⟩ = T := ⟨_, rfl⟩
    have HX := hid (show firstL s.data.toList = some (3, T.data.toList, 1) by rw [hf, if_pos h1b, ← hT])
    have hcs := oneB_cases h1b
    rw [hT] at hsl1
    clear hl2 hS hcd hf h2 h1b hT hl
    rcases hcs with rfl | rfl | rfl | rfl | rfl | rfl | rfl | rfl | rfl
    all_goals
     go_enter Tryz.func80, Tryz.ntmps80
     go_wp2_with fail
     refine (HA.out _).mono ?_
     rintro e w1 ⟨rfl, rfl⟩
     go_wp2_with fail
     refine (HB.out _).mono ?_
     rintro e w1 ⟨rfl, rfl⟩
     go_wp2_with fail
     refine (HR.out _).mono ?_
     rintro e w1 ⟨rfl, rfl⟩
     go_wp2
     exact bodyPost_ret (v := .tuple #[.agg #[.int .i64 3, .string T, .int .i64 0], .int .i64 1]) (by simp [results, Tryz.results80, go_sem, World.cell?_setCell_other]) rfl ⟨⟨3, T, 1, rfl, .inr HX.out⟩, below_alloc w _⟩
   ·have HX := hid (hf.trans (if_neg h1b))
    obtain ⟨⟨n0, n1, n2, n3⟩, n4, n5, n6, n7, n8⟩ := oneB_not (c := c) (by simpa using h1b)
    have m0 := u8_not 40 40 rfl n0
    have m1 := u8_not 41 41 rfl n1
    have m2 := u8_not 44 44 rfl n2
    have m3 := u8_not 61 61 rfl n3
    have m4 := u8_not 60 60 rfl n4
    have m5 := u8_not 62 62 rfl n5
    have m6 := u8_not 43 43 rfl n6
    have m7 := u8_not 45 45 rfl n7
    have m8 := u8_not 42 42 rfl n8
    clear hf h2 hl hl2 hS hcd n0 n1 n2 n3 n4 n5 n6 n7 n8 h1b
    go_enter Tryz.func80, Tryz.ntmps80
    go_wp2_with fail
    refine (HA.out _).mono ?_
    rintro e w1 ⟨rfl, rfl⟩
    go_wp2_with fail
    refine (HB.out _).mono ?_
    rintro e w1 ⟨rfl, rfl⟩
    go_wp2_with fail
    refine (HR.out _).mono ?_
    rintro e w1 ⟨rfl, rfl⟩
    go_wp2
    exact bodyPost_ret (v := .tuple #[.agg #[.int .i64 0, .string ⟨#[]⟩, .int .i64 0], .int .i64 0]) (by simp [results, Tryz.results80, go_sem, World.cell?_setCell_other]) rfl ⟨⟨0, ⟨#[]⟩, 0, rfl, .inl ⟨HX.out, rfl⟩⟩, below_alloc w _⟩
  ·by_cases h1b : oneB c = true
   ·obtain ⟨T, hT⟩ : ∃ T : ByteArray, ⟨#[c]⟩ = T := ⟨_, rfl⟩
    have HX := hid (show firstL s.data.toList = some (3, T.data.toList, 1) by rw [hf, if_pos h1b, ← hT])
    have hcs := oneB_cases h1b
    rw [hT] at hsl1
    clear hf h2 h1b hT hl
    rcases hcs with rfl | rfl | rfl | rfl | rfl | rfl | rfl | rfl | rfl
    all_goals
     go_enter Tryz.func80, Tryz.ntmps80
     go_wp2_with fail
     refine (HA.out _).mono ?_
     rintro e w1 ⟨rfl, rfl⟩
     go_wp2_with fail
     refine (HB.out _).mono ?_
     rintro e w1 ⟨rfl, rfl⟩
     go_wp2_with fail
     refine (HR.out _).mono ?_
     rintro e w1 ⟨rfl, rfl⟩
     go_wp2
     exact bodyPost_ret (v := .tuple #[.agg #[.int .i64 3, .string T, .int .i64 0], .int .i64 1]) (by simp [results, Tryz.results80, go_sem, World.cell?_setCell_other]) rfl ⟨⟨3, T, 1, rfl, .inr HX.out⟩, below_alloc w _⟩
   ·have HX := hid (hf.trans (if_neg h1b))
    obtain ⟨⟨n0, n1, n2, n3⟩, n4, n5, n6, n7, n8⟩ := oneB_not (c := c) (by simpa using h1b)
    have m0 := u8_not 40 40 rfl n0
    have m1 := u8_not 41 41 rfl n1
    have m2 := u8_not 44 44 rfl n2
    have m3 := u8_not 61 61 rfl n3
    have m4 := u8_not 60 60 rfl n4
    have m5 := u8_not 62 62 rfl n5
    have m6 := u8_not 43 43 rfl n6
    have m7 := u8_not 45 45 rfl n7
    have m8 := u8_not 42 42 rfl n8
    clear hf h2 hl n0 n1 n2 n3 n4 n5 n6 n7 n8 h1b
    go_enter Tryz.func80, Tryz.ntmps80
    go_wp2_with fail
    refine (HA.out _).mono ?_
    rintro e w1 ⟨rfl, rfl⟩
    go_wp2_with fail
    refine (HB.out _).mono ?_
    rintro e w1 ⟨rfl, rfl⟩
    go_wp2_with fail
    refine (HR.out _).mono ?_
    rintro e w1 ⟨rfl, rfl⟩
    go_wp2
    exact bodyPost_ret (v := .tuple #[.agg #[.int .i64 0, .string ⟨#[]⟩, .int .i64 0], .int .i64 0]) (by simp [results, Tryz.results80, go_sem, World.cell?_setCell_other]) rfl ⟨⟨0, ⟨#[]⟩, 0, rfl, .inl ⟨HX.out, rfl⟩⟩, below_alloc w _⟩
theorem one8_any (s : ByteArray) (w : World) (hs : s.size ≤ 140737488355328) (h1 : 1 ≤ s.size) :
  Calls Tryz.prog 80 #[.string s] w fun e w' => FirstIs s.data.toList e ∧ Below w.heap.size w w' := by
 obtain ⟨c, hc⟩ : ∃ c, s[0] = c := ⟨_, rfl⟩
 have hl := list_cons s h1
 rw [hc] at hl
 obtain ⟨a, ha⟩ : ∃ a, letB c = a := ⟨_, rfl⟩
 obtain ⟨b, hb⟩ : ∃ b, figB c = b := ⟨_, rfl⟩
 have HA := hid (fun w => (rletter_any c w).mono (R' := fun e w' => e = .returned (.bool a) ∧ w = w') (by rintro e w' ⟨h1, h2⟩; exact ⟨by rw [h1, ha], h2⟩))
 have HB := hid (fun w => (rfigure_any c w).mono (R' := fun e w' => e = .returned (.bool b) ∧ w = w') (by rintro e w' ⟨h1, h2⟩; exact ⟨by rw [h1, hb], h2⟩))
 cases a
 ·obtain ⟨N, hN⟩ : ∃ N, runL figB s.data.toList = N := ⟨_, rfl⟩
  have HR := hid (fun w => rrun_any false figB (by intro c; simp) s w (by omega))
  rw [hN] at HR
  have hNs : N ≤ s.size := by rw [← hN]; exact runL_le _ _
  cases b
  ·by_cases h39 : c = 39
   ·subst h39
    have hq := quo_first _ hl
    have HQ := hid (fun w => rquote_any s w hs h1)
    obtain ⟨T, hT⟩ : ∃ T : ByteArray, ⟨(quoT s.data.toList).toArray⟩ = T := ⟨_, rfl⟩
    obtain ⟨K, hK⟩ : ∃ K, quoN s.data.toList = K := ⟨_, rfl⟩
    have hTT : quoT s.data.toList = T.data.toList := by rw [← hT]
    have hTb : T.size ≤ s.size := by rw [size_list, size_list, ← hTT]; exact quoT_le _
    rw [hT, hK] at HQ
    rw [hK, hTT, ← size_list] at hq
    clear hT hTT hK hN ha hb hl
    by_cases hbig : 200 < T.size
    ·have HX := hid (hq.trans (if_pos (.inr hbig)))
     clear hq
     go_enter Tryz.func80, Tryz.ntmps80
     go_wp2_with fail
     refine (HA.out _).mono ?_
     rintro e w1 ⟨rfl, rfl⟩
     go_wp2_with fail
     refine (HB.out _).mono ?_
     rintro e w1 ⟨rfl, rfl⟩
     go_wp2_with fail
     refine (HR.out _).mono ?_
     rintro e w1 ⟨rfl, rfl⟩
     go_wp2_with fail
     refine (HQ.out _).mono ?_
     rintro e w1 ⟨rfl, rfl⟩
     go_wp2
     exact bodyPost_ret (v := .tuple #[.agg #[.int .i64 0, .string ⟨#[]⟩, .int .i64 0], .int .i64 0]) (by simp [results, Tryz.results80, go_sem, World.cell?_setCell_other]) rfl ⟨⟨0, ⟨#[]⟩, 0, rfl, .inl ⟨HX.out, rfl⟩⟩, below_alloc w _⟩
    ·have HX := hid (show firstL s.data.toList = none ∧ K = 0 ∨ firstL s.data.toList = some (2, T.data.toList, K) by
      by_cases h0 : K = 0
      ·exact .inl ⟨by rw [hq, if_pos (.inl h0)], h0⟩
      ·exact .inr (by rw [hq, if_neg (by omega)]))
     clear hq
     go_enter Tryz.func80, Tryz.ntmps80
     go_wp2_with fail
     refine (HA.out _).mono ?_
     rintro e w1 ⟨rfl, rfl⟩
     go_wp2_with fail
     refine (HB.out _).mono ?_
     rintro e w1 ⟨rfl, rfl⟩
     go_wp2_with fail
     refine (HR.out _).mono ?_
     rintro e w1 ⟨rfl, rfl⟩
     go_wp2_with fail
     refine (HQ.out _).mono ?_
     rintro e w1 ⟨rfl, rfl⟩
     go_wp2
     exact bodyPost_ret (v := .tuple #[.agg #[.int .i64 2, .string T, .int .i64 0], .int .i64 (K : Int)]) (by simp [results, Tryz.results80, go_sem, World.cell?_setCell_other]) rfl ⟨⟨2, T, K, rfl, HX.out⟩, below_alloc w _⟩
   ·have j39 := u8_not 39 39 rfl h39
    have hf : firstL s.data.toList = if twoB s.data.toList = true then some (3, s.data.toList.take 2, 2) else if oneB c = true then some (3, [c], 1) else none := by
     rw [hl, firstL, if_neg (by rw [ha]; decide), if_neg (by rw [hb]; decide), if_neg h39]
    exact one8_mark s w hs h1 c hc hl N hNs HA HB HR j39 hf
  ·have hf : firstL s.data.toList = if N ≤ 19 then some (1, s.data.toList.take N, N) else none := by
    rw [← hN, hl, firstL, if_neg (by rw [ha]; decide), if_pos hb]
   obtain ⟨S, hS⟩ : ∃ S, s.extract 0 N = S := ⟨_, rfl⟩
   have hsl := cut_to s N N rfl hNs
   rw [hS] at hsl
   have hSl : S.data.toList = s.data.toList.take N := by rw [← hS]; exact to_list s N
   clear hl hN ha hb hS
   by_cases h19 : N ≤ 19
   ·have HX := hid (show firstL s.data.toList = some (1, S.data.toList, N) by rw [hf, if_pos h19, hSl])
    clear hf hSl
    go_enter Tryz.func80, Tryz.ntmps80
    go_wp2_with fail
    refine (HA.out _).mono ?_
    rintro e w1 ⟨rfl, rfl⟩
    go_wp2_with fail
    refine (HB.out _).mono ?_
    rintro e w1 ⟨rfl, rfl⟩
    go_wp2_with fail
    refine (HR.out _).mono ?_
    rintro e w1 ⟨rfl, rfl⟩
    go_wp2
    exact bodyPost_ret (v := .tuple #[.agg #[.int .i64 1, .string S, .int .i64 0], .int .i64 (N : Int)]) (by simp [results, Tryz.results80, go_sem, World.cell?_setCell_other]) rfl ⟨⟨1, S, N, rfl, .inr HX.out⟩, below_alloc w _⟩
   ·have HX := hid (hf.trans (if_neg h19))
    clear hf hSl
    go_enter Tryz.func80, Tryz.ntmps80
    go_wp2_with fail
    refine (HA.out _).mono ?_
    rintro e w1 ⟨rfl, rfl⟩
    go_wp2_with fail
    refine (HB.out _).mono ?_
    rintro e w1 ⟨rfl, rfl⟩
    go_wp2_with fail
    refine (HR.out _).mono ?_
    rintro e w1 ⟨rfl, rfl⟩
    go_wp2
    exact bodyPost_ret (v := .tuple #[.agg #[.int .i64 0, .string ⟨#[]⟩, .int .i64 0], .int .i64 0]) (by simp [results, Tryz.results80, go_sem, World.cell?_setCell_other]) rfl ⟨⟨0, ⟨#[]⟩, 0, rfl, .inl ⟨HX.out, rfl⟩⟩, below_alloc w _⟩
 ·obtain ⟨N, hN⟩ : ∃ N, runL nameB s.data.toList = N := ⟨_, rfl⟩
  have HR := hid (fun w => rrun_any true nameB (by intro c; unfold nameB; cases letB c <;> cases figB c <;> rfl) s w (by omega))
  rw [hN] at HR
  have hNs : N ≤ s.size := by rw [← hN]; exact runL_le _ _
  have hf : firstL s.data.toList = if N ≤ 20 then some (0, s.data.toList.take N, N) else none := by
   rw [← hN, hl, firstL, if_pos ha]
  obtain ⟨S, hS⟩ : ∃ S, s.extract 0 N = S := ⟨_, rfl⟩
  have hsl := cut_to s N N rfl hNs
  rw [hS] at hsl
  have hSl : S.data.toList = s.data.toList.take N := by rw [← hS]; exact to_list s N
  clear hl hN ha hb hS
  by_cases h20 : N ≤ 20
  ·have HX := hid (show firstL s.data.toList = some (0, S.data.toList, N) by rw [hf, if_pos h20, hSl])
   clear hf hSl
   go_enter Tryz.func80, Tryz.ntmps80
   go_wp2_with fail
   refine (HA.out _).mono ?_
   rintro e w1 ⟨rfl, rfl⟩
   go_wp2_with fail
   refine (HB.out _).mono ?_
   rintro e w1 ⟨rfl, rfl⟩
   go_wp2_with fail
   refine (HR.out _).mono ?_
   rintro e w1 ⟨rfl, rfl⟩
   go_wp2
   exact bodyPost_ret (v := .tuple #[.agg #[.int .i64 0, .string S, .int .i64 0], .int .i64 (N : Int)]) (by simp [results, Tryz.results80, go_sem, World.cell?_setCell_other]) rfl ⟨⟨0, S, N, rfl, .inr HX.out⟩, below_alloc w _⟩
  ·have HX := hid (hf.trans (if_neg h20))
   clear hf hSl
   cases b
   all_goals
    go_enter Tryz.func80, Tryz.ntmps80
    go_wp2_with fail
    refine (HA.out _).mono ?_
    rintro e w1 ⟨rfl, rfl⟩
    go_wp2_with fail
    refine (HB.out _).mono ?_
    rintro e w1 ⟨rfl, rfl⟩
    go_wp2_with fail
    refine (HR.out _).mono ?_
    rintro e w1 ⟨rfl, rfl⟩
    go_wp2
    exact bodyPost_ret (v := .tuple #[.agg #[.int .i64 0, .string ⟨#[]⟩, .int .i64 0], .int .i64 0]) (by simp [results, Tryz.results80, go_sem, World.cell?_setCell_other]) rfl ⟨⟨0, ⟨#[]⟩, 0, rfl, .inl ⟨HX.out, rfl⟩⟩, below_alloc w _⟩
end Go.Proofs.YthpmgnfmeldkjaaGreatDoor.Code
