/-
  Contracts of lex's begins and first: what a text begins with, and the word that begins it.
-/
import Derived.Test.YtpohpgahnompbaaGreatDoorM10
import Derived.Lib.ReplaceLaws
import Derived.Test.YtpohpgahnompbaaGreatDoorM3
import Derived.Lib.AppendIntMem
import Derived.Lib.LaidTab
namespace Go.Proofs.YtpohpgahnompbaaGreatDoor.Code
open Go.ChangeShapes Go.WideShapes Go.ChangeAt Go.RowKit Val
set_option linter.unusedVariables false
theorem retKN {x : Int × Nat} {k i : Int} {n : Nat} (h : x = (k, n)) (g : i = n) : Ending.returned (.tuple #[.int .i64 k, .int .i64 i]) = .returned (.tuple #[.int .i64 x.1, .int .i64 (x.2 : Nat)]) := by rw [h, g]
theorem list_cons (s : ByteArray) (h : 0 < s.size) : s.data.toList = s[0] :: s.data.toList.drop 1 := by
  have := List.drop_eq_getElem_cons (l := s.data.toList) (i := 0) h
  rwa [List.drop_zero] at this
theorem u8_not {b : UInt8} (k : Nat) (c : UInt8) (hk : c.toNat = k) (h : ¬ b = c) : ((b.toNat : Int) == (k : Int)) = false := by
  have : b.toNat ≠ c.toNat := fun e => h (UInt8.toNat_inj.1 e)
  simp
  omega
theorem list_two (s : ByteArray) (h : 1 < s.size) : s.data.toList = s[0] :: s[1] :: s.data.toList.drop 2 := by
  rw [list_cons s (by omega), List.drop_eq_getElem_cons (l := s.data.toList) (i := 1) h]
  rfl
theorem list_short (s : ByteArray) (h : 0 < s.size) (g : ¬ 1 < s.size) : s.data.toList = [s[0]] := by
  rw [list_cons s h, List.drop_eq_nil_of_le (by rw [← size_list]; omega)]
set_option maxHeartbeats 4000000 in
theorem begins_any (s : ByteArray) (w : World) (hs : s.size ≤ 281474976710656) (h1 : 1 ≤ s.size) :
    Calls Tryz.prog 31 #[.string s] w fun e w' => e = .returned (.tuple #[.int .i64 (beginsL s.data.toList).1, .int .i64 ((beginsL s.data.toList).2 : Nat)]) ∧ w = w' := by
  obtain ⟨c, hc⟩ : ∃ c, s[0] = c := ⟨_, rfl⟩
  have hl := list_cons s h1
  rw [hc] at hl
  by_cases h60 : c = 60
  · subst h60
    by_cases hlt : 1 < s.size
    · obtain ⟨d, hd⟩ : ∃ d, s[1] = d := ⟨_, rfl⟩
      have hl2 := list_two s hlt
      rw [hc, hd] at hl2
      clear hl
      by_cases h62 : d = 62
      · subst h62
        have HX := Lib.hid (show beginsL s.data.toList = (3, 2) by rw [hl2]; rfl)
        have HP := Lib.hid (fun w => (Tryz.strings_HasPrefix s ⟨#[60, 62]⟩ w).mono (R' := fun e w' => e = .returned (.bool true) ∧ w' = w) (by rintro e w' ⟨h1, h2⟩; exact ⟨by rw [h1, hl2]; rfl, h2⟩))
        clear hl2
        go_enter Tryz.func31, Tryz.ntmps31
        go_wp2_with fail
        refine (HP.out _).mono ?_
        rintro e w1 ⟨rfl, rfl⟩
        go_wp2
        go_ret2
        exact ⟨retKN HX.out rfl, rfl⟩
      · have HP := Lib.hid (fun w => (Tryz.strings_HasPrefix s ⟨#[60, 62]⟩ w).mono (R' := fun e w' => e = .returned (.bool false) ∧ w' = w) (by rintro e w' ⟨h1, h2⟩; exact ⟨by rw [h1, hl2]; simp [Lib.hasPrefix, List.isPrefixOf]; exact fun e => h62 e.symm, h2⟩))
        by_cases h61 : d = 61
        · subst h61
          have HX := Lib.hid (show beginsL s.data.toList = (3, 2) by rw [hl2]; rfl)
          clear hl2
          go_enter Tryz.func31, Tryz.ntmps31
          go_wp2_with fail
          refine (HP.out _).mono ?_
          rintro e w1 ⟨rfl, rfl⟩
          go_wp2
          go_ret2
          exact ⟨retKN HX.out rfl, rfl⟩
        · have HX := Lib.hid (show beginsL s.data.toList = (3, 1) by
            rw [hl2, begins_cons, if_pos (.inl rfl), twoB_cons, twoB_two, show (d == 62) = false by simpa using h62, show (d == 61) = false by simpa using h61]
            rfl)
          have i0 := u8_not 61 61 rfl h61
          clear hl2 h61 h62
          go_enter Tryz.func31, Tryz.ntmps31
          go_wp2_with fail
          refine (HP.out _).mono ?_
          rintro e w1 ⟨rfl, rfl⟩
          go_wp2
          go_ret2
          exact ⟨retKN HX.out rfl, rfl⟩
    · have hl2 := list_short s h1 hlt
      rw [hc] at hl2
      have HX := Lib.hid (show beginsL s.data.toList = (3, 1) by rw [hl2]; rfl)
      have HP := Lib.hid (fun w => (Tryz.strings_HasPrefix s ⟨#[60, 62]⟩ w).mono (R' := fun e w' => e = .returned (.bool false) ∧ w' = w) (by rintro e w' ⟨h1, h2⟩; exact ⟨by rw [h1, hl2]; rfl, h2⟩))
      clear hl2 hl
      go_enter Tryz.func31, Tryz.ntmps31
      go_wp2_with fail
      refine (HP.out _).mono ?_
      rintro e w1 ⟨rfl, rfl⟩
      go_wp2
      go_ret2
      exact ⟨retKN HX.out rfl, rfl⟩
  by_cases h62 : c = 62
  · subst h62
    by_cases hlt : 1 < s.size
    · obtain ⟨d, hd⟩ : ∃ d, s[1] = d := ⟨_, rfl⟩
      have hl2 := list_two s hlt
      rw [hc, hd] at hl2
      clear hl
      by_cases h61 : d = 61
      · subst h61
        have HX := Lib.hid (show beginsL s.data.toList = (3, 2) by rw [hl2]; rfl)
        clear hl2
        go_enter Tryz.func31, Tryz.ntmps31
        go_wp2
        go_ret2
        exact ⟨retKN HX.out rfl, rfl⟩
      · have HX := Lib.hid (show beginsL s.data.toList = (3, 1) by
          rw [hl2, begins_cons, if_pos (.inr rfl), twoB_cons, twoB_two, show (d == 61) = false by simpa using h61]
          simp)
        have i0 := u8_not 61 61 rfl h61
        clear hl2 h61
        go_enter Tryz.func31, Tryz.ntmps31
        go_wp2
        go_ret2
        exact ⟨retKN HX.out rfl, rfl⟩
    · have hl2 := list_short s h1 hlt
      rw [hc] at hl2
      have HX := Lib.hid (show beginsL s.data.toList = (3, 1) by rw [hl2]; rfl)
      clear hl2 hl
      go_enter Tryz.func31, Tryz.ntmps31
      go_wp2
      go_ret2
      exact ⟨retKN HX.out rfl, rfl⟩
  have j60 := u8_not 60 60 rfl h60
  have j62 := u8_not 62 62 rfl h62
  obtain ⟨j, hj⟩ : ∃ j, Lib.indexByte [40, 41, 44, 61, 43, 45, 42] c = j := ⟨_, rfl⟩
  have hmk := mark_idx c
  rw [hj] at hmk
  have HI := Lib.hid (fun w => (Tryz.strings_IndexByte ⟨#[40, 41, 44, 61, 43, 45, 42]⟩ (c.toNat : Int) w).mono (R' := fun e w' => e = .returned (.int .i64 j) ∧ w' = w) (by
    rintro e w' ⟨h1, h2⟩
    refine ⟨?_, h2⟩
    rw [h1, Int.toNat_natCast, show c.toNat.toUInt8 = c from UInt8.ofNat_toNat]
    exact congrArg (fun x => Ending.returned (.int .i64 x)) hj))
  have hb0 := begins_cons c (s.data.toList.drop 1)
  rw [← hl, if_neg (by rintro (e | e); exact h60 e; exact h62 e)] at hb0
  have h60' := h60
  clear hj h60 h62 h60'
  by_cases hm : markB c = true
  · have HX := Lib.hid (hb0.trans (if_pos hm))
    rw [hm] at hmk
    clear hb0 hm hl
    go_enter Tryz.func31, Tryz.ntmps31
    go_wp2_with fail
    refine (HI.out _).mono ?_
    rintro e w1 ⟨rfl, rfl⟩
    go_wp2
    go_ret2
    exact ⟨retKN HX.out rfl, rfl⟩
  rw [if_neg hm] at hb0
  rw [show markB c = false by simpa using hm] at hmk
  clear hm
  by_cases h39 : c = 39
  · subst h39
    have HX := Lib.hid (hb0.trans (if_pos rfl))
    have HQ := Lib.hid (fun w => quoted_any s w hs h1)
    obtain ⟨N, hN⟩ : ∃ N, quoN s.data.toList = N := ⟨_, rfl⟩
    rw [hN] at HX HQ
    clear hb0 hl hN
    go_enter Tryz.func31, Tryz.ntmps31
    go_wp2_with fail
    refine (HI.out _).mono ?_
    rintro e w1 ⟨rfl, rfl⟩
    go_wp2_with fail
    refine (HQ.out _).mono ?_
    rintro e w1 ⟨rfl, rfl⟩
    go_wp2
    go_ret2
    exact ⟨retKN HX.out rfl, rfl⟩
  have j39 := u8_not 39 39 rfl h39
  rw [if_neg h39] at hb0
  clear h39
  obtain ⟨f, hf⟩ : ∃ f, figB c = f := ⟨_, rfl⟩
  have HF := Lib.hid (fun w => (figure_any c w).mono (R' := fun e w' => e = .returned (.bool f) ∧ w = w') (by rintro e w' ⟨h1, h2⟩; exact ⟨by rw [h1, hf], h2⟩))
  cases f
  · rw [if_neg (by rw [hf]; decide)] at hb0
    obtain ⟨a, ha⟩ : ∃ a, letB c = a := ⟨_, rfl⟩
    have HA := Lib.hid (fun w => (letter_any c w).mono (R' := fun e w' => e = .returned (.bool a) ∧ w = w') (by rintro e w' ⟨h1, h2⟩; exact ⟨by rw [h1, ha], h2⟩))
    cases a
    · rw [if_neg (by rw [ha]; decide)] at hb0
      have HX := Lib.hid hb0
      clear hb0 hl hf ha
      go_enter Tryz.func31, Tryz.ntmps31
      go_wp2_with fail
      refine (HI.out _).mono ?_
      rintro e w1 ⟨rfl, rfl⟩
      go_wp2_with fail
      refine (HF.out _).mono ?_
      rintro e w1 ⟨rfl, rfl⟩
      go_wp2_with fail
      refine (HA.out _).mono ?_
      rintro e w1 ⟨rfl, rfl⟩
      go_wp2
      go_ret2
      exact ⟨retKN HX.out rfl, rfl⟩
    · rw [if_pos ha] at hb0
      have HX := Lib.hid hb0
      have HR := Lib.hid (fun w => run_any nameB 56 (enters_of Tryz.func56 (by kernel_rfl) rfl) inName_any s w hs)
      obtain ⟨N, hN⟩ : ∃ N, runL nameB s.data.toList = N := ⟨_, rfl⟩
      rw [hN] at HX HR
      clear hb0 hl hf ha hN
      go_enter Tryz.func31, Tryz.ntmps31
      go_wp2_with fail
      refine (HI.out _).mono ?_
      rintro e w1 ⟨rfl, rfl⟩
      go_wp2_with fail
      refine (HF.out _).mono ?_
      rintro e w1 ⟨rfl, rfl⟩
      go_wp2_with fail
      refine (HA.out _).mono ?_
      rintro e w1 ⟨rfl, rfl⟩
      go_wp2_with fail
      refine (HR.out _).mono ?_
      rintro e w1 ⟨rfl, rfl⟩
      go_wp2
      go_ret2
      exact ⟨retKN HX.out rfl, rfl⟩
  · rw [if_pos hf] at hb0
    have HX := Lib.hid hb0
    have HR := Lib.hid (fun w => run_any figB 53 (enters_of Tryz.func53 (by kernel_rfl) rfl) figure_any s w hs)
    obtain ⟨N, hN⟩ : ∃ N, runL figB s.data.toList = N := ⟨_, rfl⟩
    rw [hN] at HX HR
    clear hb0 hl hf hN
    go_enter Tryz.func31, Tryz.ntmps31
    go_wp2_with fail
    refine (HI.out _).mono ?_
    rintro e w1 ⟨rfl, rfl⟩
    go_wp2_with fail
    refine (HF.out _).mono ?_
    rintro e w1 ⟨rfl, rfl⟩
    go_wp2_with fail
    refine (HR.out _).mono ?_
    rintro e w1 ⟨rfl, rfl⟩
    go_wp2
    go_ret2
    exact ⟨retKN HX.out rfl, rfl⟩
end Go.Proofs.YtpohpgahnompbaaGreatDoor.Code

/-
  Contracts of value.Show and of the document's Show of one value, for every value.
-/
namespace Go.Proofs.YtpohpgahnompbaaGreatDoor.Code
open Go.ChangeShapes Go.WideShapes Go.ChangeAt Go.RowKit Val
set_option linter.unusedVariables false

/-- what the calls ask of the library's package variables: where they lie, what they hold -/
structure Glob (B : Nat) (m : Int) (w : World) : Prop where
  hmax : 1 < B
  hpow : 0 < B
  cell : w.cell? ⟨1, 0, none⟩ = some (.int .i64 m)
  tab : Lib.TabIs Tryz.prog w "internal/strconv.uint64pow10" .u64 Lib.pow10Tab
theorem glob_pow : Tryz.prog.globalNamed "internal/strconv.uint64pow10" = some 0 := by kernel_rfl
theorem Glob.below {B : Nat} {m : Int} {w w' : World} (h : Glob B m w) (hb : Below B w w') : Glob B m w' := by
  refine ⟨h.hmax, h.hpow, by rw [hb.cell (p := ⟨1, 0, none⟩) h.hmax]; exact h.cell, ?_⟩
  have := h.tab
  unfold Lib.TabIs at *
  rw [← this]
  simp only [World.var?, glob_pow, Option.bind_some, hb.block _ h.hpow]
theorem Glob.more {B B' : Nat} {m : Int} {w : World} (h : Glob B m w) (hB : B ≤ B') : Glob B' m w := ⟨by have := h.hmax; omega, by have := h.hpow; omega, h.cell, h.tab⟩
/-- .. behind what has been done since -/
theorem Glob.next {B : Nat} {m : Int} {w w' : World} (h : Glob B m w) (hb : Below B w w') : Glob w'.heap.size m w' := by
  have h1 := h.below hb
  refine ⟨World.block_lt_of_cell? _ _ h1.cell, ?_, h1.cell, h1.tab⟩
  have := h1.tab
  unfold Lib.TabIs at this
  simp only [World.var?, glob_pow, Option.bind_some] at this
  by_cases hlt : 0 < w'.heap.size
  · exact hlt
  · rw [Array.getElem?_eq_none (by omega)] at this
    cases this

theorem fbool_any (b : Bool) (w : World) :
    Calls Tryz.prog 48 #[.bool b] w fun e w' => e = .returned (.string (if b then ⟨#[116, 114, 117, 101]⟩ else ⟨#[102, 97, 108, 115, 101]⟩)) ∧ w = w' := by
  cases b
  all_goals
    go_enter Tryz.func48, Tryz.ntmps48
    go_wp2
    go_ret
    exact ⟨rfl, rfl⟩
theorem rep39 (m : Int) (s : ByteArray) (w : World) (hs : s.size ≤ 200) (hm : w.cell? ⟨1, 0, none⟩ = some (.int .i64 m)) :
    Calls Tryz.prog 32 #[.string s, .string ⟨#[39]⟩, .string ⟨#[39, 39]⟩] w fun e w' => e = .returned (.string ⟨(dbl s.data.toList).toArray⟩) ∧ Below w.heap.size w w' := by
  have hc := Lib.countB_mul_le ⟨#[39]⟩ (by decide) s.size s (Nat.le_refl _)
  rw [show (⟨#[39]⟩ : ByteArray).size = 1 from rfl] at hc
  have h := Tryz.strings_ReplaceAll s ⟨#[39]⟩ ⟨#[39, 39]⟩ m w (by omega) hm (by decide) (by rw [show (⟨#[39, 39]⟩ : ByteArray).size = 2 from rfl]; omega)
  rw [show Lib.replaceAll s.data.toList (⟨#[39]⟩ : ByteArray).data.toList (⟨#[39, 39]⟩ : ByteArray).data.toList = dbl s.data.toList from rep_dbl _] at h
  exact h
theorem fint_any (n : Int) (w : World) (hn : fits n) (htab : Lib.TabIs Tryz.prog w "internal/strconv.uint64pow10" .u64 Lib.pow10Tab) :
    Calls Tryz.prog 49 #[.int .i64 n, .int .i64 10] w fun e w' => e = .returned (.string ⟨(Lib.itoa n).toArray⟩) ∧ Below w.heap.size w w' := by
  unfold fits at hn
  refine (Tryz.strconv_FormatInt_10 n hn.1 hn.2 w htab).mono ?_
  rintro e w' ⟨he, k, os, rfl⟩
  exact ⟨he, Lib.below_grow _ w (Nat.le_refl _) k os⟩
set_option maxHeartbeats 2000000 in
theorem vshow_any (k n : Int) (s : ByteArray) (m : Int) (w : World) (hn : fits n) (hg : Glob w.heap.size m w) :
    Calls Tryz.prog 29 #[.agg #[.int .i64 k, .int .i64 n, .string s]] w fun e w' => e = .returned (.string ⟨(showL k n s).toArray⟩) ∧ Below w.heap.size w w' := by
  have HG := Lib.hid hg
  have HN := Lib.hid hn
  clear hg
  obtain ⟨b, hb⟩ : ∃ b, rightB k n s = b := ⟨_, rfl⟩
  have HR := Lib.hid (right_is k n s b hn hb)
  cases b
  · have HS := Lib.hid (show_wrong hb)
    clear hb hn
    go_enter Tryz.func29, Tryz.ntmps29
    go_wp2_with fail
    refine (HR.out _).mono ?_
    rintro e w1 ⟨rfl, hb1⟩
    have L1 := Lib.hid (bnext (below_alloc w _) (by simp) hb1)
    clear hb1
    go_wp2
    go_ret
    exact ⟨retS (by rw [HS.out]), L1.out⟩
  · rcases right_kinds hb with rfl | rfl | rfl | rfl | rfl
    · have HS := Lib.hid (show_0 hb)
      clear hb hn
      go_enter Tryz.func29, Tryz.ntmps29
      go_wp2_with fail
      refine (HR.out _).mono ?_
      rintro e w1 ⟨rfl, hb1⟩
      have L1 := Lib.hid (bnext (below_alloc w _) (by simp) hb1)
      obtain ⟨x0, x1, x2, xz⟩ := (Box.fresh w 0 n s 85).call hb1
      clear hb1
      go_wp2
      go_ret
      exact ⟨retS (by rw [HS.out]), L1.out⟩
    · have hs := show_1 hb
      clear hb hn
      by_cases h0 : n = 0
      · subst h0
        rw [if_pos rfl] at hs
        have HS := Lib.hid hs
        clear hs
        go_enter Tryz.func29, Tryz.ntmps29
        go_wp2_with fail
        refine (HR.out _).mono ?_
        rintro e w1 ⟨rfl, hb1⟩
        have L1 := Lib.hid (bnext (below_alloc w _) (by simp) hb1)
        obtain ⟨x0, x1, x2, xz⟩ := (Box.fresh w 1 0 s 85).call hb1
        clear hb1
        go_wp2_with fail
        refine (fbool_any _ _).mono ?_
        rintro e w2 ⟨rfl, rfl⟩
        go_wp2
        go_ret
        exact ⟨retS (by rw [HS.out]), L1.out⟩
      · rw [if_neg h0] at hs
        have HS := Lib.hid hs
        have e0 : (n == 0) = false := by simpa using h0
        have e0' : (n != 0) = true := by simpa using h0
        clear hs h0
        go_enter Tryz.func29, Tryz.ntmps29
        go_wp2_with fail
        refine (HR.out _).mono ?_
        rintro e w1 ⟨rfl, hb1⟩
        have L1 := Lib.hid (bnext (below_alloc w _) (by simp) hb1)
        obtain ⟨x0, x1, x2, xz⟩ := (Box.fresh w 1 n s 85).call hb1
        clear hb1
        go_wp2_with fail
        refine (fbool_any _ _).mono ?_
        rintro e w2 ⟨rfl, rfl⟩
        go_wp2
        go_ret
        exact ⟨retS (by rw [HS.out]), L1.out⟩
    · have HS := Lib.hid (show_n hb (by decide) (by decide) (by decide))
      clear hb hn
      go_enter Tryz.func29, Tryz.ntmps29
      go_wp2_with fail
      refine (HR.out _).mono ?_
      rintro e w1 ⟨rfl, hb1⟩
      have L1 := Lib.hid (bnext (below_alloc w _) (by simp) hb1)
      have z1 := L1.out.size
      obtain ⟨x0, x1, x2, xz⟩ := (Box.fresh w 2 n s 85).call hb1
      clear hb1
      go_wp2_with fail
      refine (fint_any _ _ HN.out (HG.out.below L1.out).tab).mono ?_
      rintro e w2 ⟨rfl, hb2⟩
      have L2 := Lib.hid (bnext L1.out z1 hb2)
      clear hb2
      go_wp2
      go_ret
      exact ⟨retS (by rw [HS.out]), L2.out⟩
    · have HS := Lib.hid (show_n hb (by decide) (by decide) (by decide))
      clear hb hn
      go_enter Tryz.func29, Tryz.ntmps29
      go_wp2_with fail
      refine (HR.out _).mono ?_
      rintro e w1 ⟨rfl, hb1⟩
      have L1 := Lib.hid (bnext (below_alloc w _) (by simp) hb1)
      have z1 := L1.out.size
      obtain ⟨x0, x1, x2, xz⟩ := (Box.fresh w 3 n s 85).call hb1
      clear hb1
      go_wp2_with fail
      refine (fint_any _ _ HN.out (HG.out.below L1.out).tab).mono ?_
      rintro e w2 ⟨rfl, hb2⟩
      have L2 := Lib.hid (bnext L1.out z1 hb2)
      clear hb2
      go_wp2
      go_ret
      exact ⟨retS (by rw [HS.out]), L2.out⟩
    · have HS := Lib.hid (show_4 hb)
      have h200 := right_small hb
      have hd := dbl_length s.data.toList
      rw [← size_list] at hd
      clear hb hn
      go_enter Tryz.func29, Tryz.ntmps29
      go_wp2_with fail
      refine (HR.out _).mono ?_
      rintro e w1 ⟨rfl, hb1⟩
      have L1 := Lib.hid (bnext (below_alloc w _) (by simp) hb1)
      have z1 := L1.out.size
      obtain ⟨x0, x1, x2, xz⟩ := (Box.fresh w 4 n s 85).call hb1
      clear hb1
      go_wp2_with fail
      refine (rep39 m s _ h200 (HG.out.below L1.out).cell).mono ?_
      rintro e w2 ⟨rfl, hb2⟩
      have L2 := Lib.hid (bnext L1.out z1 hb2)
      clear hb2
      go_wp2
      go_ret
      exact ⟨retS (ba_of (by rw [HS.out]; simp)), L2.out⟩

theorem u8_ne39 {b : UInt8} (h : ¬ b = 39) : ((b.toNat : Int) == 39) = false := by
  have : b.toNat ≠ 39 := fun e => h (UInt8.toNat_inj.1 e)
  simp
  omega
theorem dig_at (r : Nat) (h : r < 10) : (⟨#[48, 49, 50, 51, 52, 53, 54, 55, 56, 57]⟩ : ByteArray).extract r (r + 1) = ⟨#[UInt8.ofNat (48 + r)]⟩ := by
  rcases (show r = 0 ∨ r = 1 ∨ r = 2 ∨ r = 3 ∨ r = 4 ∨ r = 5 ∨ r = 6 ∨ r = 7 ∨ r = 8 ∨ r = 9 by omega) with rfl | rfl | rfl | rfl | rfl | rfl | rfl | rfl | rfl | rfl <;> rfl
theorem dec_small (u : Nat) (h : u < 10) : Lib.decDigits u = [UInt8.ofNat (48 + u)] := Lib.decDigits_one h
theorem dec_big (u : Nat) (h : 10 ≤ u) : Lib.decDigits u = Lib.decDigits (u / 10) ++ [UInt8.ofNat (48 + u % 10)] := by rw [Lib.decDigits, dif_neg (by omega)]
theorem itoa_pos (u : Nat) : Lib.itoa (u : Int) = Lib.decDigits u := Lib.itoa_nonneg u
set_option maxHeartbeats 2000000 in
set_option maxRecDepth 100000 in
/-- the document's figures of a number that is not below 0 -/
theorem figures_pos : ∀ (N u : Nat), u < N → u ≤ 9223372036854775807 → ∀ w : World,
    Calls Tryz.prog 81 #[.int .i64 (u : Int)] w fun e w' => e = .returned (.string ⟨(Lib.decDigits u).toArray⟩) ∧ Below w.heap.size w w'
  | 0, u, h, _, _ => absurd h (Nat.not_lt_zero u)
  | N + 1, u, h, hu, w => by
    have IH := Lib.hid (fun (h10 : 10 ≤ u) => figures_pos N (u / 10) (by omega) (by omega))
    have HS1 := Lib.hid (dec_small u)
    have HS2 := Lib.hid (dec_big u)
    have hL := Lib.itoa_length_le (u / 10 : Nat) (by omega) (by omega)
    rw [itoa_pos] at hL
    obtain ⟨q, hq⟩ : ∃ q, u / 10 = q := ⟨_, rfl⟩
    obtain ⟨r, hr⟩ : ∃ r, u % 10 = r := ⟨_, rfl⟩
    have hr10 : r < 10 := by omega
    have hq2 : q ≤ 922337203685477580 := by omega
    have hqr : u = 10 * q + r := by omega
    have eq1 : (u : Int).tdiv 10 = (q : Int) := by rw [Int.tdiv_eq_ediv_of_nonneg (by omega)]; omega
    have eq2 : (u : Int).tmod 10 = (r : Int) := by rw [Int.tmod_eq_emod_of_nonneg (by omega)]; omega
    have hsl := cut_at ⟨#[48, 49, 50, 51, 52, 53, 54, 55, 56, 57]⟩ r (r + 1) r (r + 1) rfl (by omega) (by omega) (by show r + 1 ≤ 10; omega)
    obtain ⟨d, hd⟩ : ∃ d, UInt8.ofNat (48 + r) = d := ⟨_, rfl⟩
    rw [dig_at r hr10, hd] at hsl
    have eq3 : (u : Int) / 10 = (q : Int) := by omega
    have eq4 : (u : Int) % 10 = (r : Int) := by omega
    have HQR := Lib.hid hqr
    clear hqr
    rw [hq] at IH HS2 hL
    rw [hr, hd] at HS2
    by_cases h10 : u < 10
    · have HX := Lib.hid (show Lib.decDigits u = [d] by have := HQR.out; rw [HS1.out h10, show u = r by omega, hd])
      clear IH HS1 HS2 hq hr hd
      go_enter Tryz.func81, Tryz.ntmps81
      go_wp2
      go_ret
      exact ⟨retS (by rw [HX.out]), Below.refl _ _⟩
    · have HX := Lib.hid (HS2.out (by omega))
      have IH2 := Lib.hid (IH.out (by omega))
      have e10 : decide ((10 : Int) ≤ (u : Int)) = true := by simp; omega
      clear IH HS1 HS2 hq hr hd
      go_enter Tryz.func81, Tryz.ntmps81
      go_wp2_with fail
      refine (IH2.out _).mono ?_
      rintro e w1 ⟨rfl, hb1⟩
      have L1 := Lib.hid hb1
      clear hb1
      go_wp2
      go_ret
      exact ⟨retS (by rw [HX.out]; exact strCat _ _), L1.out⟩
end Go.Proofs.YtpohpgahnompbaaGreatDoor.Code
