/-
  Contract of the document's one: the word that comes.
-/
import Derived.Test.YtjbpkpfmgbhlpaaGreatDoorMp3
import Derived.Test.YtjbpkpfmgbhlpaaGreatDoorMp2
import Derived.Deep.AppendLies
set_option maxRecDepth 100000
set_option maxHeartbeats 16000000
open Go.Lib (hid)
namespace Go.Proofs.YtjbpkpfmgbhlpaaGreatDoor.Code
open Go.ChangeShapes Go.WideShapes Go.ChangeAt Go.RowKit Val
set_option linter.unusedVariables false
set_option linter.unusedSimpArgs false
theorem quo_first {s : List UInt8} (r : List UInt8) (h : s = 39 :: r) : firstL s = if quoN s = 0 ∨ 200 < (quoT s).length then none else some (2, quoT s, quoN s) := by
 subst h
 rw [firstL, if_neg (by decide), if_neg (by decide), if_pos rfl]
 unfold quoN quoT
 rw [List.drop_one, List.tail_cons]
 cases quoL r with
 | none => rfl
 | some v =>
  obtain ⟨t, n⟩ := v
  dsimp only
  by_cases h200 : t.length ≤ 200
  ·rw [if_pos h200, if_neg (by omega)]
  ·rw [if_neg h200, if_pos (by omega)]
theorem quoT_le (s : List UInt8) : (quoT s).length ≤ s.length := by
 unfold quoT
 cases hq : quoL (s.drop 1) with
 | none => exact Nat.zero_le _
 | some v =>
  obtain ⟨t, n⟩ := v
  obtain ⟨r, e1, -⟩ := quoL_is _ t n hq
  have h1 := dbl_le t
  have h2 : (s.drop 1).length = (dbl t ++ 39 :: r).length := by rw [e1]
  simp at h2
  show t.length ≤ s.length
  omega
theorem two_of (s : ByteArray) (c d : UInt8) (h : 1 < s.size) (hc : s[0] = c) (hd : s[1] = d) : s.extract 0 2 = ⟨#[c, d]⟩ := by
 refine ba_of (l := [c, d]) ?_
 rw [to_list, list_two s h, hc, hd]
 rfl
theorem one_of (s : ByteArray) (c : UInt8) (h : 0 < s.size) (hc : s[0] = c) : s.extract 0 1 = ⟨#[c]⟩ := by
 refine ba_of (l := [c]) ?_
 rw [to_list, list_cons s h, hc]
 rfl
theorem pair_list (c d : UInt8) : (⟨#[c, d]⟩ : ByteArray).toList = [c, d] := by rw [ByteArray.toList_eq]
theorem oneB_cases {c : UInt8} (h : oneB c = true) : c = 40 ∨ c = 41 ∨ c = 44 ∨ c = 61 ∨ c = 60 ∨ c = 62 ∨ c = 43 ∨ c = 45 ∨ c = 42 := by
 unfold oneB at h
 simp at h
 rcases h with (((((((h | h) | h) | h) | h) | h) | h) | h) | h <;> simp [h]
theorem oneB_not {c : UInt8} (h : oneB c = false) : (c ≠ 40 ∧ c ≠ 41 ∧ c ≠ 44 ∧ c ≠ 61) ∧ (c ≠ 60 ∧ c ≠ 62 ∧ c ≠ 43 ∧ c ≠ 45 ∧ c ≠ 42) := by
 unfold oneB at h
 simp at h
 obtain ⟨⟨⟨⟨⟨⟨⟨⟨h1, h2⟩, h3⟩, h4⟩, h5⟩, h6⟩, h7⟩, h8⟩, h9⟩ := h
 exact ⟨⟨h1, h2, h3, h4⟩, h5, h6, h7, h8, h9⟩
theorem one8_mark (s : ByteArray) (w : World) (hs : s.size ≤ 140737488355328) (h1 : 1 ≤ s.size) (c : UInt8) (hc : s[0] = c) (hl : s.data.toList = c :: s.data.toList.drop 1) (N : Nat) (hNs : N ≤ s.size)
  (HA : Hid (∀ w, Calls Tryz.prog 69 #[.int .u8 c.toNat] w fun e w' => e = .returned (.bool false) ∧ w = w'))
  (HB : Hid (∀ w, Calls Tryz.prog 70 #[.int .u8 c.toNat] w fun e w' => e = .returned (.bool false) ∧ w = w'))
  (HR : Hid (∀ w, Calls Tryz.prog 71 #[.string s, .bool false] w fun e w' => e = .returned (.int .i64 (N : Int)) ∧ w = w'))
  (j39 : ((c.toNat : Int) == 39) = false)
  (hf : firstL s.data.toList = if twoB s.data.toList = true then some (3, s.data.toList.take 2, 2) else if oneB c = true then some (3, [c], 1) else none) :
  Calls Tryz.prog 40 #[.string s] w fun e w' => FirstIs s.data.toList e ∧ Below w.heap.size w w' := by
 have hsl1 := cut_to s 1 1 rfl (by omega)
 rw [one_of s c h1 hc] at hsl1
 by_cases h2 : twoB s.data.toList = true
 ·rw [if_pos h2] at hf
  have hlt : 1 < s.size := by
   by_cases g : 1 < s.size
   ·exact g
   ·rw [list_short s h1 g] at h2
    cases h2
  obtain ⟨d, hd⟩ : ∃ d, s[1] = d := ⟨_, rfl⟩
  have hl2 := list_two s hlt
  rw [hc, hd] at hl2
  have hsl := cut_to s 2 2 rfl (by omega)
  rw [two_of s c d hlt hc hd] at hsl
  have HX := hid (show firstL s.data.toList = some (3, (⟨#[c, d]⟩ : ByteArray).data.toList, 2) by rw [hf, hl2]; rfl)
  have hcd : c = 60 ∧ d = 62 ∨ c = 60 ∧ d = 61 ∨ c = 62 ∧ d = 61 := by
   rw [hl2, twoB_cons, twoB_two] at h2
   simp at h2
   rcases h2 with ⟨h, h' | h'⟩ | ⟨h, h'⟩
   ·exact .inl ⟨h, h'⟩
   ·exact .inr (.inl ⟨h, h'⟩)
   ·exact .inr (.inr ⟨h, h'⟩)
  clear hf h2 hl hl2 j39
  rcases hcd with ⟨rfl, rfl⟩ | ⟨rfl, rfl⟩ | ⟨rfl, rfl⟩
  ·go_enter Tryz.func40, Tryz.ntmps40
   go_wp2_with fail
   refine (HA.out _).mono ?_
   rintro e w1 ⟨rfl, rfl⟩
   go_wp2_with fail
   refine (HB.out _).mono ?_
   rintro e w1 ⟨rfl, rfl⟩
   go_wp2_with fail
   refine (HR.out _).mono ?_
   rintro e w1 ⟨rfl, rfl⟩
   go_wp2
   exact bodyPost_ret (v := .tuple #[.agg #[.int .i64 3, .string ⟨#[60, 62]⟩, .int .i64 0], .int .i64 2]) (by simp [results, Tryz.results40, go_sem, World.cell?_setCell_other]) rfl ⟨⟨3, _, 2, rfl, .inr HX.out⟩, below_alloc w _⟩
  ·go_enter Tryz.func40, Tryz.ntmps40
   go_wp2_with fail
   refine (HA.out _).mono ?_
   rintro e w1 ⟨rfl, rfl⟩
   go_wp2_with fail
   refine (HB.out _).mono ?_
   rintro e w1 ⟨rfl, rfl⟩
   go_wp2_with fail
   refine (HR.out _).mono ?_
   rintro e w1 ⟨rfl, rfl⟩
   go_wp2
   exact bodyPost_ret (v := .tuple #[.agg #[.int .i64 3, .string ⟨#[60, 61]⟩, .int .i64 0], .int .i64 2]) (by simp [results, Tryz.results40, go_sem, World.cell?_setCell_other]) rfl ⟨⟨3, _, 2, rfl, .inr HX.out⟩, below_alloc w _⟩
  ·go_enter Tryz.func40, Tryz.ntmps40
   go_wp2_with fail
   refine (HA.out _).mono ?_
   rintro e w1 ⟨rfl, rfl⟩
   go_wp2_with fail
   refine (HB.out _).mono ?_
   rintro e w1 ⟨rfl, rfl⟩
   go_wp2_with fail
   refine (HR.out _).mono ?_
   rintro e w1 ⟨rfl, rfl⟩
   go_wp2
   exact bodyPost_ret (v := .tuple #[.agg #[.int .i64 3, .string ⟨#[62, 61]⟩, .int .i64 0], .int .i64 2]) (by simp [results, Tryz.results40, go_sem, World.cell?_setCell_other]) rfl ⟨⟨3, _, 2, rfl, .inr HX.out⟩, below_alloc w _⟩
 ·rw [if_neg h2] at hf
  by_cases hlt : 1 < s.size
  ·obtain ⟨d, hd⟩ : ∃ d, s[1] = d := ⟨_, rfl⟩
   have hl2 := list_two s hlt
   rw [hc, hd] at hl2
   have hsl := cut_to s 2 2 rfl (by omega)
   rw [two_of s c d hlt hc hd] at hsl
   obtain ⟨S, hS⟩ : ∃ S : ByteArray, ⟨#[c, d]⟩ = S := ⟨_, rfl⟩
   rw [hS] at hsl
   have hcd : ¬ (c = 60 ∧ d = 62) ∧ ¬ (c = 60 ∧ d = 61) ∧ ¬ (c = 62 ∧ d = 61) := by
    rw [hl2, twoB_cons, twoB_two] at h2
    simp at h2
    exact ⟨fun e => (h2.1 e.1).1 e.2, fun e => (h2.1 e.1).2 e.2, fun e => h2.2 e.1 e.2⟩
   have k0 : (S.toList == [60, 61]) = false := by rw [← hS, pair_list]; simpa using fun e => fun e2 => hcd.2.1 ⟨e, e2⟩
   have k1 : (S.toList == [62, 61]) = false := by rw [← hS, pair_list]; simpa using fun e => fun e2 => hcd.2.2 ⟨e, e2⟩
   have k2 : (S.toList == [60, 62]) = false := by rw [← hS, pair_list]; simpa using fun e => fun e2 => hcd.1 ⟨e, e2⟩
   by_cases h1b : oneB c = true
   ·obtain ⟨T, hT⟩ : ∃ T : ByteArray, ⟨#[c]⟩ = T := ⟨_, rfl⟩
    have HX := hid (show firstL s.data.toList = some (3, T.data.toList, 1) by rw [hf, if_pos h1b, ← hT])
    have hcs := oneB_cases h1b
    rw [hT] at hsl1
    clear hl2 hS hcd hf h2 h1b hT hl
    rcases hcs with rfl | rfl | rfl | rfl | rfl | rfl | rfl | rfl | rfl
    all_goals
     go_enter Tryz.func40, Tryz.ntmps40
     go_wp2_with fail
     refine (HA.out _).mono ?_
     rintro e w1 ⟨rfl, rfl⟩
     go_wp2_with fail
     refine (HB.out _).mono ?_
     rintro e w1 ⟨rfl, rfl⟩
     go_wp2_with fail
     refine (HR.out _).mono ?_
     rintro e w1 ⟨rfl, rfl⟩
     go_wp2
     exact bodyPost_ret (v := .tuple #[.agg #[.int .i64 3, .string T, .int .i64 0], .int .i64 1]) (by simp [results, Tryz.results40, go_sem, World.cell?_setCell_other]) rfl ⟨⟨3, T, 1, rfl, .inr HX.out⟩, below_alloc w _⟩
   ·have HX := hid (hf.trans (if_neg h1b))
    obtain ⟨⟨n0, n1, n2, n3⟩, n4, n5, n6, n7, n8⟩ := oneB_not (c := c) (by simpa using h1b)
    have m0 := u8_not 40 40 rfl n0
    have m1 := u8_not 41 41 rfl n1
    have m2 := u8_not 44 44 rfl n2
    have m3 := u8_not 61 61 rfl n3
    have m4 := u8_not 60 60 rfl n4
    have m5 := u8_not 62 62 rfl n5
    have m6 := u8_not 43 43 rfl n6
    have m7 := u8_not 45 45 rfl n7
    have m8 := u8_not 42 42 rfl n8
    clear hf h2 hl hl2 hS hcd n0 n1 n2 n3 n4 n5 n6 n7 n8 h1b
    go_enter Tryz.func40, Tryz.ntmps40
    go_wp2_with fail
    refine (HA.out _).mono ?_
    rintro e w1 ⟨rfl, rfl⟩
    go_wp2_with fail
    refine (HB.out _).mono ?_
    rintro e w1 ⟨rfl, rfl⟩
    go_wp2_with fail
    refine (HR.out _).mono ?_
    rintro e w1 ⟨rfl, rfl⟩
    go_wp2
    exact bodyPost_ret (v := .tuple #[.agg #[.int .i64 0, .string ⟨#[]⟩, .int .i64 0], .int .i64 0]) (by simp [results, Tryz.results40, go_sem, World.cell?_setCell_other]) rfl ⟨⟨0, ⟨#[]⟩, 0, rfl, .inl ⟨HX.out, rfl⟩⟩, below_alloc w _⟩
  ·by_cases h1b : oneB c = true
   ·obtain ⟨T, hT⟩ : ∃ T : ByteArray, ⟨#[c]⟩ = T := ⟨_, rfl⟩
    have HX := hid (show firstL s.data.toList = some (3, T.data.toList, 1) by rw [hf, if_pos h1b, ← hT])
    have hcs := oneB_cases h1b
    rw [hT] at hsl1
    clear hf h2 h1b hT hl
    rcases hcs with rfl | rfl | rfl | rfl | rfl | rfl | rfl | rfl | rfl
    all_goals
     go_enter Tryz.func40, Tryz.ntmps40
     go_wp2_with fail
     refine (HA.out _).mono ?_
     rintro e w1 ⟨rfl, rfl⟩
     go_wp2_with fail
     refine (HB.out _).mono ?_
     rintro e w1 ⟨rfl, rfl⟩
     go_wp2_with fail
     refine (HR.out _).mono ?_
     rintro e w1 ⟨rfl, rfl⟩
     go_wp2
     exact bodyPost_ret (v := .tuple #[.agg #[.int .i64 3, .string T, .int .i64 0], .int .i64 1]) (by simp [results, Tryz.results40, go_sem, World.cell?_setCell_other]) rfl ⟨⟨3, T, 1, rfl, .inr HX.out⟩, below_alloc w _⟩
   ·have HX := hid (hf.trans (if_neg h1b))
    obtain ⟨⟨n0, n1, n2, n3⟩, n4, n5, n6, n7, n8⟩ := oneB_not (c := c) (by simpa using h1b)
    have m0 := u8_not 40 40 rfl n0
    have m1 := u8_not 41 41 rfl n1
    have m2 := u8_not 44 44 rfl n2
    have m3 := u8_not 61 61 rfl n3
    have m4 := u8_not 60 60 rfl n4
    have m5 := u8_not 62 62 rfl n5
    have m6 := u8_not 43 43 rfl n6
    have m7 := u8_not 45 45 rfl n7
    have m8 := u8_not 42 42 rfl n8
    clear hf h2 hl n0 n1 n2 n3 n4 n5 n6 n7 n8 h1b
    go_enter Tryz.func40, Tryz.ntmps40
    go_wp2_with fail
    refine (HA.out _).mono ?_
    rintro e w1 ⟨rfl, rfl⟩
    go_wp2_with fail
    refine (HB.out _).mono ?_
    rintro e w1 ⟨rfl, rfl⟩
    go_wp2_with fail
    refine (HR.out _).mono ?_
    rintro e w1 ⟨rfl, rfl⟩
    go_wp2
    exact bodyPost_ret (v := .tuple #[.agg #[.int .i64 0, .string ⟨#[]⟩, .int .i64 0], .int .i64 0]) (by simp [results, Tryz.results40, go_sem, World.cell?_setCell_other]) rfl ⟨⟨0, ⟨#[]⟩, 0, rfl, .inl ⟨HX.out, rfl⟩⟩, below_alloc w _⟩
theorem one8_any (s : ByteArray) (w : World) (hs : s.size ≤ 140737488355328) (h1 : 1 ≤ s.size) :
  Calls Tryz.prog 40 #[.string s] w fun e w' => FirstIs s.data.toList e ∧ Below w.heap.size w w' := by
 obtain ⟨c, hc⟩ : ∃ c, s[0] = c := ⟨_, rfl⟩
 have hl := list_cons s h1
 rw [hc] at hl
 obtain ⟨a, ha⟩ : ∃ a, letB c = a := ⟨_, rfl⟩
 obtain ⟨b, hb⟩ : ∃ b, figB c = b := ⟨_, rfl⟩
 have HA := hid (fun w => (rletter_any c w).mono (R' := fun e w' => e = .returned (.bool a) ∧ w = w') (by rintro e w' ⟨h1, h2⟩; exact ⟨by rw [h1, ha], h2⟩))
 have HB := hid (fun w => (rfigure_any c w).mono (R' := fun e w' => e = .returned (.bool b) ∧ w = w') (by rintro e w' ⟨h1, h2⟩; exact ⟨by rw [h1, hb], h2⟩))
 cases a
 ·obtain ⟨N, hN⟩ : ∃ N, runL figB s.data.toList = N := ⟨_, rfl⟩
  have HR := hid (fun w => rrun_any false figB (by intro c; simp) s w (by omega))
  rw [hN] at HR
  have hNs : N ≤ s.size := by rw [← hN]; exact runL_le _ _
  cases b
  ·by_cases h39 : c = 39
   ·subst h39
    have hq := quo_first _ hl
    have HQ := hid (fun w => rquote_any s w hs h1)
    obtain ⟨T, hT⟩ : ∃ T : ByteArray, ⟨(quoT s.data.toList).toArray⟩ = T := ⟨_, rfl⟩
    obtain ⟨K, hK⟩ : ∃ K, quoN s.data.toList = K := ⟨_, rfl⟩
    have hTT : quoT s.data.toList = T.data.toList := by rw [← hT]
    have hTb : T.size ≤ s.size := by rw [size_list, size_list, ← hTT]; exact quoT_le _
    rw [hT, hK] at HQ
    rw [hK, hTT, ← size_list] at hq
    clear hT hTT hK hN ha hb hl
    by_cases hbig : 200 < T.size
    ·have HX := hid (hq.trans (if_pos (.inr hbig)))
     clear hq
     go_enter Tryz.func40, Tryz.ntmps40
     go_wp2_with fail
     refine (HA.out _).mono ?_
     rintro e w1 ⟨rfl, rfl⟩
     go_wp2_with fail
     refine (HB.out _).mono ?_
     rintro e w1 ⟨rfl, rfl⟩
     go_wp2_with fail
     refine (HR.out _).mono ?_
     rintro e w1 ⟨rfl, rfl⟩
     go_wp2_with fail
     refine (HQ.out _).mono ?_
     rintro e w1 ⟨rfl, rfl⟩
     go_wp2
     exact bodyPost_ret (v := .tuple #[.agg #[.int .i64 0, .string ⟨#[]⟩, .int .i64 0], .int .i64 0]) (by simp [results, Tryz.results40, go_sem, World.cell?_setCell_other]) rfl ⟨⟨0, ⟨#[]⟩, 0, rfl, .inl ⟨HX.out, rfl⟩⟩, below_alloc w _⟩
    ·have HX := hid (show firstL s.data.toList = none ∧ K = 0 ∨ firstL s.data.toList = some (2, T.data.toList, K) by
      by_cases h0 : K = 0
      ·exact .inl ⟨by rw [hq, if_pos (.inl h0)], h0⟩
      ·exact .inr (by rw [hq, if_neg (by omega)]))
     clear hq
     go_enter Tryz.func40, Tryz.ntmps40
     go_wp2_with fail
     refine (HA.out _).mono ?_
     rintro e w1 ⟨rfl, rfl⟩
     go_wp2_with fail
     refine (HB.out _).mono ?_
     rintro e w1 ⟨rfl, rfl⟩
     go_wp2_with fail
     refine (HR.out _).mono ?_
     rintro e w1 ⟨rfl, rfl⟩
     go_wp2_with fail
     refine (HQ.out _).mono ?_
     rintro e w1 ⟨rfl, rfl⟩
     go_wp2
     exact bodyPost_ret (v := .tuple #[.agg #[.int .i64 2, .string T, .int .i64 0], .int .i64 (K : Int)]) (by simp [results, Tryz.results40, go_sem, World.cell?_setCell_other]) rfl ⟨⟨2, T, K, rfl, HX.out⟩, below_alloc w _⟩
   ·have j39 := u8_not 39 39 rfl h39
    have hf : firstL s.data.toList = if twoB s.data.toList = true then some (3, s.data.toList.take 2, 2) else if oneB c = true then some (3, [c], 1) else none := by
     rw [hl, firstL, if_neg (by rw [ha]; decide), if_neg (by rw [hb]; decide), if_neg h39]
    exact one8_mark s w hs h1 c hc hl N hNs HA HB HR j39 hf
  ·have hf : firstL s.data.toList = if N ≤ 19 then some (1, s.data.toList.take N, N) else none := by
    rw [← hN, hl, firstL, if_neg (by rw [ha]; decide), if_pos hb]
   obtain ⟨S, hS⟩ : ∃ S, s.extract 0 N = S := ⟨_, rfl⟩
   have hsl := cut_to s N N rfl hNs
   rw [hS] at hsl
   have hSl : S.data.toList = s.data.toList.take N := by rw [← hS]; exact to_list s N
   clear hl hN ha hb hS
   by_cases h19 : N ≤ 19
   ·have HX := hid (show firstL s.data.toList = some (1, S.data.toList, N) by rw [hf, if_pos h19, hSl])
    clear hf hSl
    go_enter Tryz.func40, Tryz.ntmps40
    go_wp2_with fail
    refine (HA.out _).mono ?_
    rintro e w1 ⟨rfl, rfl⟩
    go_wp2_with fail
    refine (HB.out _).mono ?_
    rintro e w1 ⟨rfl, rfl⟩
    go_wp2_with fail
    refine (HR.out _).mono ?_
    rintro e w1 ⟨rfl, rfl⟩
    go_wp2
    exact bodyPost_ret (v := .tuple #[.agg #[.int .i64 1, .string S, .int .i64 0], .int .i64 (N : Int)]) (by simp [results, Tryz.results40, go_sem, World.cell?_setCell_other]) rfl ⟨⟨1, S, N, rfl, .inr HX.out⟩, below_alloc w _⟩
   ·have HX := hid (hf.trans (if_neg h19))
    clear hf hSl
    go_enter Tryz.func40, Tryz.ntmps40
    go_wp2_with fail
    refine (HA.out _).mono ?_
    rintro e w1 ⟨rfl, rfl⟩
    go_wp2_with fail
    refine (HB.out _).mono ?_
    rintro e w1 ⟨rfl, rfl⟩
    go_wp2_with fail
    refine (HR.out _).mono ?_
    rintro e w1 ⟨rfl, rfl⟩
    go_wp2
    exact bodyPost_ret (v := .tuple #[.agg #[.int .i64 0, .string ⟨#[]⟩, .int .i64 0], .int .i64 0]) (by simp [results, Tryz.results40, go_sem, World.cell?_setCell_other]) rfl ⟨⟨0, ⟨#[]⟩, 0, rfl, .inl ⟨HX.out, rfl⟩⟩, below_alloc w _⟩
 ·obtain ⟨N, hN⟩ : ∃ N, runL nameB s.data.toList = N := ⟨_, rfl⟩
  have HR := hid (fun w => rrun_any true nameB (by intro c; unfold nameB; cases letB c <;> cases figB c <;> rfl) s w (by omega))
  rw [hN] at HR
  have hNs : N ≤ s.size := by rw [← hN]; exact runL_le _ _
  have hf : firstL s.data.toList = if N ≤ 20 then some (0, s.data.toList.take N, N) else none := by
   rw [← hN, hl, firstL, if_pos ha]
  obtain ⟨S, hS⟩ : ∃ S, s.extract 0 N = S := ⟨_, rfl⟩
  have hsl := cut_to s N N rfl hNs
  rw [hS] at hsl
  have hSl : S.data.toList = s.data.toList.take N := by rw [← hS]; exact to_list s N
  clear hl hN ha hb hS
  by_cases h20 : N ≤ 20
  ·have HX := hid (show firstL s.data.toList = some (0, S.data.toList, N) by rw [hf, if_pos h20, hSl])
   clear hf hSl
   go_enter Tryz.func40, Tryz.ntmps40
   go_wp2_with fail
   refine (HA.out _).mono ?_
   rintro e w1 ⟨rfl, rfl⟩
   go_wp2_with fail
   refine (HB.out _).mono ?_
   rintro e w1 ⟨rfl, rfl⟩
   go_wp2_with fail
   refine (HR.out _).mono ?_
   rintro e w1 ⟨rfl, rfl⟩
   go_wp2
   exact bodyPost_ret (v := .tuple #[.agg #[.int .i64 0, .string S, .int .i64 0], .int .i64 (N : Int)]) (by simp [results, Tryz.results40, go_sem, World.cell?_setCell_other]) rfl ⟨⟨0, S, N, rfl, .inr HX.out⟩, below_alloc w _⟩
  ·have HX := hid (hf.trans (if_neg h20))
   clear hf hSl
   cases b
   all_goals
    go_enter Tryz.func40, Tryz.ntmps40
    go_wp2_with fail
    refine (HA.out _).mono ?_
    rintro e w1 ⟨rfl, rfl⟩
    go_wp2_with fail
    refine (HB.out _).mono ?_
    rintro e w1 ⟨rfl, rfl⟩
    go_wp2_with fail
    refine (HR.out _).mono ?_
    rintro e w1 ⟨rfl, rfl⟩
    go_wp2
    exact bodyPost_ret (v := .tuple #[.agg #[.int .i64 0, .string ⟨#[]⟩, .int .i64 0], .int .i64 0]) (by simp [results, Tryz.results40, go_sem, World.cell?_setCell_other]) rfl ⟨⟨0, ⟨#[]⟩, 0, rfl, .inl ⟨HX.out, rfl⟩⟩, below_alloc w _⟩
end Go.Proofs.YtjbpkpfmgbhlpaaGreatDoor.Code
/-
  Contracts of lex's Words and of the document's.
-/
namespace Go.Proofs.YtjbpkpfmgbhlpaaGreatDoor.Code
open Go.ChangeShapes Go.WideShapes Go.ChangeAt Go.RowKit Val Elems
set_option linter.unusedVariables false
theorem info_word : (Tryz.prog.info? 48).map (fun i => (i.zero, i.size, i.bytes)) = some (some (.agg #[.int .i64 0, .string ByteArray.empty, .int .i64 0]), 3, 32) := by kernel_rfl
theorem roww_new (w : World) (o : Obj) (k n : Int) (t : ByteArray) (ty : TypeId) : ∀ (j : Nat) (u : Value), ([.int .i64 k, .string t, .int .i64 n] : List Value)[j]? = some u → ((w.alloc o).alloc (.cells #[.int .i64 k, .string t, .int .i64 n] ty)).cell? ((⟨w.heap.size + 1, 0, none⟩ : Addr).add j) = some u := by
 have h := heap_alloc_new (w.alloc o) (.cells #[.int .i64 k, .string t, .int .i64 n] ty)
 rw [show (w.alloc o).heap.size = w.heap.size + 1 by simp] at h
 exact World.news_of_block h
theorem words_any (s : ByteArray) (m : Int) (w : World) (hs : s.size ≤ 4194304) (hm : w.cell? ⟨0, 0, none⟩ = some (.int .i64 m)) :
  Calls Tryz.prog 11 #[.string s] w (WordsPost w s.data.toList) := by
 have hlt : 0 < w.heap.size := World.block_lt_of_cell? _ _ hm
 have HM := hid hm
 clear hm
 obtain ⟨i0, hi0, hz0, hz1, hz2⟩ := info_parts info_word
 go_enter Tryz.func11, Tryz.ntmps11
 go_wp2
 go_loopw [5, 6] (fun v t wr => ∃ (i : Nat) (a : List W), i ≤ s.size ∧ t = .int .i64 i ∧ Hid (WAt s.data.toList i a) ∧ a.length ≤ i ∧ wr.ownsRow w.heap.size 48 3 v a.length (flatC wc a) ∧ Below w.heap.size w wr) (fun _ t _ => s.size - (intOf t).toNat)
 case atStart => exact ⟨0, [], by omega, rfl, hid (WAt.start _), by simp, World.ownsRow_nil _ _ _ _, Below.refl _ _⟩
 case round =>
  obtain ⟨i, a, hi, rfl, HK, hai, hown, hbel⟩ := hrel
  have hsz := hbel.size
  have HO := hid hown
  have HL := hid hbel
  clear hown hbel
  by_cases hil : i < s.size
  ·obtain ⟨c, hc⟩ : ∃ c, s[i] = c := ⟨_, rfl⟩
   have hg := (list_get s i hil hil).trans hc
   obtain ⟨b, hb⟩ : ∃ b, blankB c = b := ⟨_, rfl⟩
   have HB := hid (fun w => (blank_any c w).mono (R' := fun e w' => e = .returned (.bool b) ∧ w = w') (by rintro e w' ⟨h1, h2⟩; exact ⟨by rw [h1, hb], h2⟩))
   cases b
   ·obtain ⟨S, hS⟩ : ∃ S, s.extract i s.size = S := ⟨_, rfl⟩
    have hsl := cut_from s i i rfl hi
    rw [hS] at hsl
    have hSl : S.data.toList = s.data.toList.drop i := by rw [← hS]; exact from_list s i
    have hSs : S.size = s.size - i := by rw [size_list, hSl, List.length_drop, ← size_list]
    have HSL := hid hSl
    have HG := hid hg
    clear hS hSl hg
    go_wp2_with fail
    refine (HB.out _).mono ?_
    rintro e w1 ⟨rfl, rfl⟩
    go_wp2_with fail
    refine (first_any S m _ (by omega) (by omega) (by rw [HL.out.cell (p := ⟨0, 0, none⟩) hlt]; exact HM.out)).mono ?_
    rintro e w1 ⟨⟨k, t, n, rfl, hcase⟩, hb1⟩
    rw [HSL.out] at hcase
    have L1 := hid (bnext HL.out hsz hb1)
    have O1 := hid (own_call HO.out hb1)
    have hzw := L1.out.size
    clear hb1
    rcases hcase with ⟨hno, rfl⟩ | hyes
    ·have HD := hid (HK.out.none hil (by rw [HG.out]; exact hb) hno)
     clear hno
     go_wp2
     go_ret3
     exact words_no HD.out (L1.out.alloc hzw _)
    ·have hn := first_n hyes
     have hcz : ((n : Int) == 0) = false := by simp; omega
     have hni : i + n ≤ s.size := by have := hn.2; rw [List.length_drop, ← size_list] at this; omega
     have HD := hid (HK.out.one hil hyes)
     have HW := hid (show wc (k, t.data.toList, (i : Int)) = [.int .i64 k, .string t, .int .i64 (i : Int)] by unfold wc; rw [Lib.mk_data])
     have hn1 := hn.1
     clear hyes hn
     go_wp2_with (at_builtin; refine wpList_append_own _ rfl _ _ 31 rfl w.heap.size 48 i0 (.agg #[.int .i64 0, .string ByteArray.empty, .int .i64 0]) 3 32 Tryz.underlying31 hi0 hz0 hz1 hz2 rfl (by decide) _ _ _ rfl ((O1.out.alloc _).alloc _) ⟨w1.heap.size + 1, 0, none⟩ 1 1 [.int .i64 k, .string t, .int .i64 (i : Int)] rfl rfl ?c1 ?c2 ?c3 ?c4 ?c5 ?_)
     case c1 => exact roww_new _ _ _ _ _ _
     case c2 => rw [← HW.out]; exact wc_one _
     case c3 => unfold maxLen; omega
     case c4 => omega
     case c5 => simp; omega
     intro v' w2 hown' hgrow _
     have O2 := hid (show w2.ownsRow w.heap.size 48 3 v' (a ++ [(k, t.data.toList, (i : Int))]).length (flatC wc (a ++ [(k, t.data.toList, (i : Int))])) by rw [flatC_snoc, List.length_append, HW.out]; exact hown')
     have L2 := hid (((L1.out.alloc hzw _).alloc (by simp; omega) _).grown hgrow (by simp; omega) (fun g hg => (O1.out.lt g hg).1))
     clear hown' hgrow
     go_wp2
     go_roundw
     case rel => exact ⟨i + n, a ++ [(k, t.data.toList, (i : Int))], by omega, by go_num, HD, by rw [List.length_append]; simp; omega, O2.out, L2.out⟩
     case measure => simp [intOf]; omega
   ·have HD := hid (HK.out.blank hil (by rw [hg]; exact hb))
    clear hg
    go_wp2_with fail
    refine (HB.out _).mono ?_
    rintro e w1 ⟨rfl, rfl⟩
    go_wp2
    go_roundw
    case rel => exact ⟨i + 1, a, by omega, by go_num, HD, by omega, HO.out, HL.out⟩
    case measure => simp [intOf]; omega
  ·have HD := hid (HK.out.done (by rw [← size_list]; omega))
   go_wp2
   go_ret3
   exact words_yes HD.out HO.out HL.out
theorem info_rword : (Tryz.prog.info? 69).map (fun i => (i.zero, i.size, i.bytes)) = some (some (.agg #[.int .i64 0, .string ByteArray.empty, .int .i64 0]), 3, 32) := by kernel_rfl
theorem blank_yes {c : UInt8} (h : blankB c = true) : c = 32 ∨ c = 9 ∨ c = 10 := by
 unfold blankB at h
 simp only [Bool.or_eq_true, decide_eq_true_eq] at h
 rcases h with (h | h) | h
 ·exact .inl (UInt8.toNat_inj.1 h)
 ·exact .inr (.inl (UInt8.toNat_inj.1 h))
 ·exact .inr (.inr (UInt8.toNat_inj.1 h))
theorem blank_no {c : UInt8} (h : blankB c = false) : ((c.toNat : Int) == 32) = false ∧ ((c.toNat : Int) == 9) = false ∧ ((c.toNat : Int) == 10) = false := by
 unfold blankB at h
 simp only [Bool.or_eq_false_iff, decide_eq_false_iff_not] at h
 obtain ⟨⟨h1, h2⟩, h3⟩ := h
 refine ⟨?_, ?_, ?_⟩ <;> (simp; omega)
theorem rwords_any (s : ByteArray) (w : World) (hs : s.size ≤ 4194304) :
  Calls Tryz.prog 23 #[.string s] w (WordsPost w s.data.toList) := by
 obtain ⟨i0, hi0, hz0, hz1, hz2⟩ := info_parts info_rword
 go_enter Tryz.func23, Tryz.ntmps23
 go_wp2
 go_loopw [5, 6] (fun v t wr => ∃ (i : Nat) (a : List W), i ≤ s.size ∧ t = .int .i64 i ∧ Hid (WAt s.data.toList i a) ∧ a.length ≤ i ∧ wr.ownsRow w.heap.size 69 3 v a.length (flatC wc a) ∧ Below w.heap.size w wr) (fun _ t _ => s.size - (intOf t).toNat)
 case atStart => exact ⟨0, [], by omega, rfl, hid (WAt.start _), by simp, World.ownsRow_nil _ _ _ _, Below.refl _ _⟩
 case round =>
  obtain ⟨i, a, hi, rfl, HK, hai, hown, hbel⟩ := hrel
  have hsz := hbel.size
  have HO := hid hown
  have HL := hid hbel
  clear hown hbel
  by_cases hil : i < s.size
  ·obtain ⟨c, hc⟩ : ∃ c, s[i] = c := ⟨_, rfl⟩
   have hg := (list_get s i hil hil).trans hc
   obtain ⟨b, hb⟩ : ∃ b, blankB c = b := ⟨_, rfl⟩
   cases b
   ·obtain ⟨S, hS⟩ : ∃ S, s.extract i s.size = S := ⟨_, rfl⟩
    have hsl := cut_from s i i rfl hi
    rw [hS] at hsl
    have hSl : S.data.toList = s.data.toList.drop i := by rw [← hS]; exact from_list s i
    have hSs : S.size = s.size - i := by rw [size_list, hSl, List.length_drop, ← size_list]
    have HSL := hid hSl
    have HG := hid hg
    clear hS hSl hg
    obtain ⟨j32, j9, j10⟩ := blank_no hb
    go_wp2_with fail
    refine (one8_any S _ (by omega) (by omega)).mono ?_
    rintro e w1 ⟨⟨k, t, n, rfl, hcase⟩, hb1⟩
    rw [HSL.out] at hcase
    have L1 := hid (bnext HL.out hsz hb1)
    have O1 := hid (own_call HO.out hb1)
    have hzw := L1.out.size
    clear hb1
    rcases hcase with ⟨hno, rfl⟩ | hyes
    ·have HD := hid (HK.out.none hil (by rw [HG.out]; exact hb) hno)
     clear hno
     go_wp2
     go_ret3
     exact words_no HD.out (L1.out.alloc hzw _)
    ·have hn := first_n hyes
     have hcz : ((n : Int) == 0) = false := by simp; omega
     have hni : i + n ≤ s.size := by have := hn.2; rw [List.length_drop, ← size_list] at this; omega
     have HD := hid (HK.out.one hil hyes)
     have HW := hid (show wc (k, t.data.toList, (i : Int)) = [.int .i64 k, .string t, .int .i64 (i : Int)] by unfold wc; rw [Lib.mk_data])
     have hn1 := hn.1
     clear hyes hn
     go_wp2_with (at_builtin; refine wpList_append_own _ rfl _ _ 36 rfl w.heap.size 69 i0 (.agg #[.int .i64 0, .string ByteArray.empty, .int .i64 0]) 3 32 Tryz.underlying36 hi0 hz0 hz1 hz2 rfl (by decide) _ _ _ rfl ((O1.out.alloc _).alloc _) ⟨w1.heap.size + 1, 0, none⟩ 1 1 [.int .i64 k, .string t, .int .i64 (i : Int)] rfl rfl ?c1 ?c2 ?c3 ?c4 ?c5 ?_)
     case c1 => exact roww_new _ _ _ _ _ _
     case c2 => rw [← HW.out]; exact wc_one _
     case c3 => unfold maxLen; omega
     case c4 => omega
     case c5 => simp; omega
     intro v' w2 hown' hgrow _
     have O2 := hid (show w2.ownsRow w.heap.size 69 3 v' (a ++ [(k, t.data.toList, (i : Int))]).length (flatC wc (a ++ [(k, t.data.toList, (i : Int))])) by rw [flatC_snoc, List.length_append, HW.out]; exact hown')
     have L2 := hid (((L1.out.alloc hzw _).alloc (by simp; omega) _).grown hgrow (by simp; omega) (fun g hg => (O1.out.lt g hg).1))
     clear hown' hgrow
     go_wp2
     go_roundw
     case rel => exact ⟨i + n, a ++ [(k, t.data.toList, (i : Int))], by omega, by go_num, HD, by rw [List.length_append]; simp; omega, O2.out, L2.out⟩
     case measure => simp [intOf]; omega
   ·have HD := hid (HK.out.blank hil (by rw [hg]; exact hb))
    clear hg
    rcases blank_yes hb with rfl | rfl | rfl
    ·go_wp2
     go_roundw
     case rel => exact ⟨i + 1, a, by omega, by go_num, HD, by omega, HO.out, HL.out⟩
     case measure => simp [intOf]; omega
    ·go_wp2
     go_roundw
     case rel => exact ⟨i + 1, a, by omega, by go_num, HD, by omega, HO.out, HL.out⟩
     case measure => simp [intOf]; omega
    ·go_wp2
     go_roundw
     case rel => exact ⟨i + 1, a, by omega, by go_num, HD, by omega, HO.out, HL.out⟩
     case measure => simp [intOf]; omega
  ·have HD := hid (HK.out.done (by rw [← size_list]; omega))
   go_wp2
   go_ret3
   exact words_yes HD.out HO.out HL.out
theorem at_word {w : World} {B : Nat} {A : Option Addr} {l : List W} (h : At wc 3 w B A l) (i : Nat) (hi : i < l.length) :
  ∃ ad : Addr, A = some ad ∧ ad.block < B ∧ w.cell? (ad.add (i * 3)) = some (.int .i64 l[i].1) ∧ w.cell? ⟨(ad.add (i * 3)).block, (ad.add (i * 3)).off + 1, none⟩ = some (.string ⟨l[i].2.1.toArray⟩) ∧ w.cell? ⟨(ad.add (i * 3)).block, (ad.add (i * 3)).off + 2, none⟩ = some (.int .i64 l[i].2.2) := by
 obtain ⟨ad, e, hb, h0⟩ := h i hi
 refine ⟨ad, e, hb, h0 0 _ rfl, ?_, ?_⟩
 ·rw [← add_next]; exact h0 1 _ rfl
 ·rw [← add_next]; exact h0 2 _ rfl
def ownB (s : List UInt8) : Bool := s == [116, 114, 117, 101] || (s == [102, 97, 108, 115, 101] || (s == [110, 117, 108, 108] || (s == [97, 110, 100] || (s == [111, 114] || (s == [110, 111, 116] || s == [105, 115])))))
theorem own_any (s : ByteArray) (w : World) :
  Calls Tryz.prog 125 #[.string s] w fun e w' => e = .returned (.bool (ownB s.toList)) ∧ w = w' := by
 obtain ⟨b1, h1⟩ : ∃ b, (s.toList == [116, 114, 117, 101]) = b := ⟨_, rfl⟩
 obtain ⟨b2, h2⟩ : ∃ b, (s.toList == [102, 97, 108, 115, 101]) = b := ⟨_, rfl⟩
 obtain ⟨b3, h3⟩ : ∃ b, (s.toList == [110, 117, 108, 108]) = b := ⟨_, rfl⟩
 obtain ⟨b4, h4⟩ : ∃ b, (s.toList == [97, 110, 100]) = b := ⟨_, rfl⟩
 obtain ⟨b5, h5⟩ : ∃ b, (s.toList == [111, 114]) = b := ⟨_, rfl⟩
 obtain ⟨b6, h6⟩ : ∃ b, (s.toList == [110, 111, 116]) = b := ⟨_, rfl⟩
 obtain ⟨b7, h7⟩ : ∃ b, (s.toList == [105, 115]) = b := ⟨_, rfl⟩
 have HX := hid (show ownB s.toList = (b1 || (b2 || (b3 || (b4 || (b5 || (b6 || b7)))))) by unfold ownB; rw [h1, h2, h3, h4, h5, h6, h7])
 rw [HX.out]
 clear HX
 cases b1
 ·cases b2
  ·cases b3
   ·cases b4
    ·cases b5
     ·cases b6
      ·cases b7
       all_goals (go_enter Tryz.func125, Tryz.ntmps125; go_wp2; go_ret; exact ⟨rfl, rfl⟩)
      ·(go_enter Tryz.func125, Tryz.ntmps125; go_wp2; go_ret; exact ⟨rfl, rfl⟩)
     ·(go_enter Tryz.func125, Tryz.ntmps125; go_wp2; go_ret; exact ⟨rfl, rfl⟩)
    ·(go_enter Tryz.func125, Tryz.ntmps125; go_wp2; go_ret; exact ⟨rfl, rfl⟩)
   ·(go_enter Tryz.func125, Tryz.ntmps125; go_wp2; go_ret; exact ⟨rfl, rfl⟩)
  ·(go_enter Tryz.func125, Tryz.ntmps125; go_wp2; go_ret; exact ⟨rfl, rfl⟩)
 ·(go_enter Tryz.func125, Tryz.ntmps125; go_wp2; go_ret; exact ⟨rfl, rfl⟩)
theorem rown_any (s : ByteArray) (w : World) :
  Calls Tryz.prog 98 #[.string s] w fun e w' => e = .returned (.bool (ownB s.toList)) ∧ w = w' := by
 obtain ⟨b1, h1⟩ : ∃ b, (s.toList == [116, 114, 117, 101]) = b := ⟨_, rfl⟩
 obtain ⟨b2, h2⟩ : ∃ b, (s.toList == [102, 97, 108, 115, 101]) = b := ⟨_, rfl⟩
 obtain ⟨b3, h3⟩ : ∃ b, (s.toList == [110, 117, 108, 108]) = b := ⟨_, rfl⟩
 obtain ⟨b4, h4⟩ : ∃ b, (s.toList == [97, 110, 100]) = b := ⟨_, rfl⟩
 obtain ⟨b5, h5⟩ : ∃ b, (s.toList == [111, 114]) = b := ⟨_, rfl⟩
 obtain ⟨b6, h6⟩ : ∃ b, (s.toList == [110, 111, 116]) = b := ⟨_, rfl⟩
 obtain ⟨b7, h7⟩ : ∃ b, (s.toList == [105, 115]) = b := ⟨_, rfl⟩
 have HX := hid (show ownB s.toList = (b1 || (b2 || (b3 || (b4 || (b5 || (b6 || b7)))))) by unfold ownB; rw [h1, h2, h3, h4, h5, h6, h7])
 rw [HX.out]
 clear HX
 cases b1
 ·cases b2
  ·cases b3
   ·cases b4
    ·cases b5
     ·cases b6
      ·cases b7
       all_goals (go_enter Tryz.func98, Tryz.ntmps98; go_wp2; go_ret; exact ⟨rfl, rfl⟩)
      ·(go_enter Tryz.func98, Tryz.ntmps98; go_wp2; go_ret; exact ⟨rfl, rfl⟩)
     ·(go_enter Tryz.func98, Tryz.ntmps98; go_wp2; go_ret; exact ⟨rfl, rfl⟩)
    ·(go_enter Tryz.func98, Tryz.ntmps98; go_wp2; go_ret; exact ⟨rfl, rfl⟩)
   ·(go_enter Tryz.func98, Tryz.ntmps98; go_wp2; go_ret; exact ⟨rfl, rfl⟩)
  ·(go_enter Tryz.func98, Tryz.ntmps98; go_wp2; go_ret; exact ⟨rfl, rfl⟩)
 ·(go_enter Tryz.func98, Tryz.ntmps98; go_wp2; go_ret; exact ⟨rfl, rfl⟩)
end Go.Proofs.YtjbpkpfmgbhlpaaGreatDoor.Code
/-
  Contracts of the document's reader of words: what comes, and what is taken.
-/
namespace Go.Proofs.YtjbpkpfmgbhlpaaGreatDoor.Code
open Go.ChangeShapes Go.WideShapes Go.ChangeAt Go.RowKit Val Elems
set_option linter.unusedVariables false
set_option linter.unusedSimpArgs false
theorem own_list (s : ByteArray) : ownB s.toList = ownL s.data.toList := by
 rw [ByteArray.toList_eq]
 rfl
theorem isW_at {l : List W} {i : Nat} (h : i < l.length) (b : Bool) (s : List UInt8) : isW (bare l) i b s = (!b && l[i].2.1 == s && (l[i].1 == 3 || ownL s && l[i].1 == 0)) := by
 unfold isW
 rw [bare_get h]
theorem isW_off {l : List W} {i : Nat} (h : ¬ i < l.length) (b : Bool) (s : List UInt8) : isW (bare l) i b s = false := by
 unfold isW
 rw [bare_none h]
theorem isK_at {l : List W} {i : Nat} (h : i < l.length) (b : Bool) (k : Int) : isK (bare l) i b k = (!b && l[i].1 == k) := by
 unfold isK
 rw [bare_get h]
theorem isK_off {l : List W} {i : Nat} (h : ¬ i < l.length) (b : Bool) (k : Int) : isK (bare l) i b k = false := by
 unfold isK
 rw [bare_none h]
theorem isW_bad {L : List V} {i : Nat} (s : List UInt8) : isW L i true s = false := by
 unfold isW
 split <;> rfl
theorem isK_bad {L : List V} {i : Nat} (k : Int) : isK L i true k = false := by
 unfold isK
 split <;> rfl
theorem ris_any (r : Nat) (A : Option Addr) (cap : Nat) (l : List W) (i : Nat) (b : Bool) (s : ByteArray) (w : World) (h : Rdr w r A cap l i b) (hi : i ≤ l.length) (hl : l.length ≤ 4194304) :
  Calls Tryz.prog 126 #[.pointer (some ⟨r, 0, none⟩), .string s] w fun e w' => e = .returned (.bool (isW (bare l) i b s.data.toList)) ∧ Below w.heap.size w w' := by
 have HW := hid h.ws
 obtain ⟨c0, c1, c2, -, -⟩ := h
 cases b
 ·by_cases hil : i < l.length
  ·have hx := isW_at hil false s.data.toList
   obtain ⟨ad, rfl, ha, d0, d1, d2⟩ := at_word HW.out i hil
   obtain ⟨x, hxx⟩ : ∃ x, l[i] = x := ⟨_, rfl⟩
   rw [hxx] at d0 d1 d2 hx
   obtain ⟨k, t, p⟩ := x
   dsimp only at d0 d1 d2 hx
   obtain ⟨T, hT⟩ : ∃ T : ByteArray, ⟨t.toArray⟩ = T := ⟨_, rfl⟩
   have hTt : t = T.data.toList := by rw [← hT]
   rw [hT] at d1
   clear hxx hT d2
   by_cases hts : T = s
   ·subst hts
    obtain ⟨ow, how⟩ : ∃ ow, ownL T.data.toList = ow := ⟨_, rfl⟩
    have HO := hid (fun w => rown_any T w)
    rw [own_list, how] at HO
    rw [hTt, how] at hx
    have hx2 : isW (bare l) i false T.data.toList = (k == 3 || ow && k == 0) := by rw [hx]; simp
    rw [hx2]
    clear hx hx2 hTt how
    cases hk3 : k == 3
    ·cases ow
     ·go_enter Tryz.func126, Tryz.ntmps126
      go_wp2
      go_quiet (fail)
      go_wp2_with fail
      refine (HO.out _).mono ?_
      rintro e w1 ⟨rfl, rfl⟩
      go_wp2
      go_quiet (fail)
      go_wp2
      go_ret
      exact ⟨rfl, drewN_below (drewN_below (Below.refl _ _) _) _⟩
     ·go_enter Tryz.func126, Tryz.ntmps126
      go_wp2
      go_quiet (fail)
      go_wp2_with fail
      refine (HO.out _).mono ?_
      rintro e w1 ⟨rfl, rfl⟩
      go_wp2
      go_quiet (fail)
      go_wp2
      go_ret
      exact ⟨retB (by simp), drewN_below (drewN_below (Below.refl _ _) _) _⟩
    ·go_enter Tryz.func126, Tryz.ntmps126
     go_wp2
     go_quiet (fail)
     go_wp2_with fail
     refine (HO.out _).mono ?_
     rintro e w1 ⟨rfl, rfl⟩
     go_wp2
     go_quiet (fail)
     go_wp2
     go_ret
     exact ⟨rfl, drewN_below (drewN_below (Below.refl _ _) _) _⟩
   ·have f2 := toList_ne hts
    have hne : ¬ t = s.data.toList := by
     intro e
     rw [hTt] at e
     exact hts (by rw [← Lib.mk_data T, e, Lib.mk_data])
    have hx2 : isW (bare l) i false s.data.toList = false := by rw [hx]; simp [hne]
    rw [hx2]
    clear hx hx2 hTt hts hne
    go_enter Tryz.func126, Tryz.ntmps126
    go_wp2
    go_quiet (fail)
    go_wp2
    go_ret
    exact ⟨rfl, drewN_below (Below.refl _ _) _⟩
  ·rw [isW_off hil]
   have e0 : decide ((l.length : Int) ≤ (i : Int)) = true := by simp; omega
   have e1 : decide (l.length ≤ i) = true := by simp; omega
   have e2 : decide ((i : Int) < 0) = false := by simp
   clear hil
   go_enter Tryz.func126, Tryz.ntmps126
   go_wp2
   refine wp_region_quiet_lit (by kernel_rfl) (by kernel_rfl) ?_
   repeat (with_reducible refine wpQuiet_step ?_; intro K hK; go_simp; with_reducible refine hK _ ?_; clear hK K)
   refine wpQuiet_nil ?_
   intro _ hw'
   obtain ⟨nq, hw''⟩ := hw'
   subst hw''
   go_wp2
   go_ret
   exact ⟨rfl, drewN_below (Below.refl _ _) _⟩
 ·rw [isW_bad]
  go_enter Tryz.func126, Tryz.ntmps126
  go_wp2
  refine wp_region_quiet_lit (by kernel_rfl) (by kernel_rfl) ?_
  repeat (with_reducible refine wpQuiet_step ?_; intro K hK; go_simp; with_reducible refine hK _ ?_; clear hK K)
  refine wpQuiet_nil ?_
  intro _ hw'
  obtain ⟨nq, hw''⟩ := hw'
  subst hw''
  go_wp2
  go_ret
  exact ⟨rfl, drewN_below (Below.refl _ _) _⟩
theorem isW_len {l : List W} {i : Nat} {b : Bool} {s : List UInt8} (h : isW (bare l) i b s = true) : i < l.length := by
 have := isW_lt h
 rwa [bare_length] at this
theorem rtake_any (r : Nat) (A : Option Addr) (cap : Nat) (l : List W) (i : Nat) (b : Bool) (s : ByteArray) (q : Bool) (hq : isW (bare l) i b s.data.toList = q) (w : World) (h : Rdr w r A cap l i b) (hi : i ≤ l.length) (hl : l.length ≤ 4194304) :
  Calls Tryz.prog 99 #[.pointer (some ⟨r, 0, none⟩), .string s] w fun e w' => e = .returned (.bool q) ∧ But w w' r ∧ Rdr w' r A cap l (if q = true then i + 1 else i) b := by
 have HI := hid (ris_any r A cap l i b s w h hi hl)
 rw [hq] at HI
 have HR := hid h
 clear h
 cases q
 ·go_enter Tryz.func99, Tryz.ntmps99
  go_wp2_with fail
  refine HI.out.mono ?_
  rintro e w1 ⟨rfl, hb1⟩
  have R1 := hid (HR.out.below hb1)
  have B1 := hid (But.of hb1 r)
  clear hb1
  go_wp2
  go_ret
  exact ⟨rfl, B1.out, R1.out⟩
 ·have hil := isW_len hq
  clear hq
  go_enter Tryz.func99, Tryz.ntmps99
  go_wp2_with fail
  refine HI.out.mono ?_
  rintro e w1 ⟨rfl, hb1⟩
  have R1 := hid (HR.out.below hb1)
  have B1 := hid (But.of hb1 r)
  have c1 := R1.out.c1
  have fr := R1.out.fr 1
  clear hb1
  go_wp2
  go_ret
  refine ⟨rfl, B1.out.setCell 1 _, ?_⟩
  have := R1.out.at (i + 1)
  rw [Int.natCast_add] at this
  exact this
theorem rmust_any (r : Nat) (A : Option Addr) (cap : Nat) (l : List W) (i : Nat) (b : Bool) (s : ByteArray) (q : Bool) (hq : isW (bare l) i b s.data.toList = q) (w : World) (h : Rdr w r A cap l i b) (hi : i ≤ l.length) (hl : l.length ≤ 4194304) :
  Calls Tryz.prog 59 #[.pointer (some ⟨r, 0, none⟩), .string s] w fun e w' => e = .returned (.tuple #[]) ∧ But w w' r ∧ Rdr w' r A cap l (if q = true then i + 1 else i) (if q = true then b else true) := by
 have HI := hid (rtake_any r A cap l i b s q hq w h hi hl)
 clear h
 cases q
 ·go_enter Tryz.func59, Tryz.ntmps59
  go_wp2_with fail
  refine HI.out.mono ?_
  rintro e w1 ⟨rfl, hb1, hr1⟩
  have R1 := hid hr1
  have B1 := hid hb1
  have c2 := R1.out.c2
  have fr := R1.out.fr 2
  clear hb1 hr1
  go_wp2
  go_end0
  exact ⟨rfl, B1.out.setCell 2 _, R1.out.wrong⟩
 ·go_enter Tryz.func59, Tryz.ntmps59
  go_wp2_with fail
  refine HI.out.mono ?_
  rintro e w1 ⟨rfl, hb1, hr1⟩
  have R1 := hid hr1
  have B1 := hid hb1
  clear hb1 hr1
  go_wp2
  go_end0
  exact ⟨rfl, B1.out, R1.out⟩
end Go.Proofs.YtjbpkpfmgbhlpaaGreatDoor.Code
/-
  Contracts of the document's Figures below 0, and of its Show of one value.
-/
namespace Go.Proofs.YtjbpkpfmgbhlpaaGreatDoor.Code
open Go.ChangeShapes Go.WideShapes Go.ChangeAt Go.RowKit Val
set_option linter.unusedVariables false
theorem figures_neg : ∀ (N u : Nat), u < N → 1 ≤ u → u ≤ 9223372036854775808 → ∀ w : World,
  Calls Tryz.prog 137 #[.int .i64 (-(u : Int))] w fun e w' => e = .returned (.string ⟨(45 :: Lib.decDigits u).toArray⟩) ∧ Below w.heap.size w w'
 | 0, u, h, _, _, _ => absurd h (Nat.not_lt_zero u)
 | N + 1, u, h, h1, hu, w => by
  by_cases h10 : u < 10
  ·have HP := hid (figures_pos (u + 1) u (by omega) (by omega))
   have hL : (Lib.decDigits u).length ≤ 21 := by have := Lib.itoa_length_le (u : Nat) (by omega) (by omega); rwa [itoa_pos] at this
   go_enter Tryz.func137, Tryz.ntmps137
   go_wp2_with fail
   refine (HP.out _).mono ?_
   rintro e w1 ⟨rfl, hb1⟩
   have L1 := hid hb1
   clear hb1
   go_wp2
   go_ret
   exact ⟨retS (strCat [45] _), L1.out⟩
  ·have IH := hid (figures_neg N (u / 10) (by omega) (by omega) (by omega))
   have HS2 := hid (dec_big u (by omega))
   have hL := Lib.itoa_length_le (u / 10 : Nat) (by omega) (by omega)
   rw [itoa_pos] at hL
   obtain ⟨q, hq⟩ : ∃ q, u / 10 = q := ⟨_, rfl⟩
   obtain ⟨r, hr⟩ : ∃ r, u % 10 = r := ⟨_, rfl⟩
   have hr10 : r < 10 := by omega
   have hq2 : q ≤ 922337203685477580 := by omega
   have eq1 : (-(u : Int)).tdiv 10 = -(q : Int) := by rw [Int.neg_tdiv, Int.tdiv_eq_ediv_of_nonneg (by omega)]; omega
   have eq2 : (-(u : Int)).tmod 10 = -(r : Int) := by rw [Int.neg_tmod, Int.tmod_eq_emod_of_nonneg (by omega)]; omega
   have eq3 : (u : Int).tdiv 10 = (q : Int) := by rw [Int.tdiv_eq_ediv_of_nonneg (by omega)]; omega
   have eq4 : (u : Int).tmod 10 = (r : Int) := by rw [Int.tmod_eq_emod_of_nonneg (by omega)]; omega
   have hsl := cut_at ⟨#[48, 49, 50, 51, 52, 53, 54, 55, 56, 57]⟩ r (r + 1) r (r + 1) rfl (by omega) (by omega) (by show r + 1 ≤ 10; omega)
   obtain ⟨d, hd⟩ : ∃ d, UInt8.ofNat (48 + r) = d := ⟨_, rfl⟩
   rw [dig_at r hr10, hd] at hsl
   rw [hq] at IH HS2 hL
   rw [hr, hd] at HS2
   obtain ⟨T, hT⟩ : ∃ T : ByteArray, T = ⟨(45 :: Lib.decDigits q).toArray⟩ := ⟨_, rfl⟩
   have hTs : T.size ≤ 22 := by rw [hT, size_list]; simp; omega
   have hadd := fun w => run_string_add_sum (P := Tryz.prog) w T ⟨#[d]⟩ (by show T.size + 1 ≤ _; omega)
   have hT3 : ¬ (9223372036854775807 ≤ T.size) := by omega
   rw [← hT] at IH
   have HT := hid hT
   clear hT hL
   have w0 : IntKind.i64.wrap (-(q : Int)) = -(q : Int) := by rw [IntKind.wrap_i64]; omega
   have w1 : IntKind.i64.wrap (-(r : Int)) = -(r : Int) := by rw [IntKind.wrap_i64]; omega
   have w2 : IntKind.i64.wrap (r : Int) = (r : Int) := by rw [IntKind.wrap_i64]; omega
   have w3 : IntKind.i64.wrap ((r : Int) + 1) = (r : Int) + 1 := by rw [IntKind.wrap_i64]; omega
   clear hq hr hd
   go_enter Tryz.func137, Tryz.ntmps137
   go_wp2_with fail
   go_region_held3 (fun w' => True ∧ Below w.heap.size w w')
    (first | assumption | (refine keepP hb5 (by assumption) ?_; intro kk; trivial) | (exact ⟨trivial, Below.drew (Below.refl _ _)⟩))
    (first | (go_at_call 137; refine (IH.out _).mono ?_; rintro e w5 ⟨rfl, hb5⟩))
   all_goals
    have M1 := hid (show Below w.heap.size w _ by rename_i hS; exact hS.2)
    go_wp2
    go_ret
    exact ⟨retS (by rw [HS2.out, HT.out]; exact strCat (45 :: Lib.decDigits q) [d]), M1.out⟩
theorem figures_any (n : Int) (hn : fits n) (w : World) :
  Calls Tryz.prog 137 #[.int .i64 n] w fun e w' => e = .returned (.string ⟨(Lib.itoa n).toArray⟩) ∧ Below w.heap.size w w' := by
 unfold fits at hn
 by_cases h : 0 ≤ n
 ·obtain ⟨u, rfl⟩ : ∃ u : Nat, n = u := ⟨n.toNat, by omega⟩
  rw [itoa_pos]
  exact figures_pos (u + 1) u (by omega) (by omega) w
 ·obtain ⟨u, rfl⟩ : ∃ u : Nat, n = -(u : Int) := ⟨n.natAbs, by omega⟩
  rw [Lib.itoa_neg u (by omega)]
  exact figures_neg (u + 1) u (by omega) (by omega) (by omega) w
end Go.Proofs.YtjbpkpfmgbhlpaaGreatDoor.Code
/-
  Contracts of the document's reader of words: which kind comes, a name, the marks of a level, that of some marks that comes, a number.
-/
namespace Go.Proofs.YtjbpkpfmgbhlpaaGreatDoor.Code
open Go.ChangeShapes Go.WideShapes Go.ChangeAt Go.RowKit Val Elems
set_option linter.unusedVariables false
set_option linter.unusedSimpArgs false
def sc (s : List UInt8) : List Value := [.string ⟨s.toArray⟩]
theorem sc_length (s : List UInt8) : (sc s).length = 1 := rfl
theorem at_but {α : Type} {c : α → List Value} {k : Nat} {w w' : World} {r B : Nat} {A : Option Addr} {l : List α} (h : At c k w B A l) (hb : But w w' r) (hB : B ≤ w.heap.size) (hne : ∀ ad, A = some ad → ad.block ≠ r) : At c k w' B A l := by
 intro i hi
 obtain ⟨ad, e, hlt, h0⟩ := h i hi
 exact ⟨ad, e, hlt, fun j u hu => (hb.cell (q := ad.add (i * k + j)) (by rw [add_block]; omega) (by rw [add_block]; exact hne ad e)).trans (h0 j u hu)⟩
theorem at_text {w : World} {B : Nat} {A : Option Addr} {l : List (List UInt8)} (h : At sc 1 w B A l) (i : Nat) (hi : i < l.length) : ∃ ad : Addr, A = some ad ∧ ad.block < B ∧ w.cell? (ad.add i) = some (.string ⟨l[i].toArray⟩) := by
 obtain ⟨ad, e, hb, h0⟩ := h i hi
 refine ⟨ad, e, hb, ?_⟩
 have := h0 0 _ rfl
 rwa [Nat.mul_one, Nat.add_zero] at this
theorem texts_new (w : World) (l : List (List UInt8)) (t : TypeId) (o : Obj) (ho : o = .cells (l.map fun s => Value.string ⟨s.toArray⟩).toArray t) : At sc 1 (w.alloc o) (w.heap.size + 1) (some ⟨w.heap.size, 0, none⟩) l := by
 intro i hi
 refine ⟨⟨w.heap.size, 0, none⟩, rfl, by simp, fun j u hu => ?_⟩
 have hj : j = 0 := by
  have := (List.getElem?_eq_some_iff.1 hu).1
  rw [sc_length] at this
  omega
 subst hj
 cases hu
 subst ho
 rw [Nat.mul_one, Nat.add_zero]
 exact World.news_of_block (heap_alloc_new w _) i _ (by simp [hi])
theorem isK_len {l : List W} {i : Nat} {b : Bool} {k : Int} (h : isK (bare l) i b k = true) : i < l.length := by
 have := (isK_lt h).1
 rwa [bare_length] at this
theorem rkind_any (r : Nat) (A : Option Addr) (cap : Nat) (l : List W) (i : Nat) (b : Bool) (k : Int) (w : World) (h : Rdr w r A cap l i b) (hi : i ≤ l.length) (hl : l.length ≤ 4194304) :
  Calls Tryz.prog 97 #[.pointer (some ⟨r, 0, none⟩), .int .i64 k] w fun e w' => e = .returned (.bool (isK (bare l) i b k)) ∧ Below w.heap.size w w' := by
 have HW := hid h.ws
 obtain ⟨c0, c1, c2, -, -⟩ := h
 cases b
 ·by_cases hil : i < l.length
  ·have hx := isK_at hil false k
   obtain ⟨ad, rfl, ha, d0, d1, d2⟩ := at_word HW.out i hil
   obtain ⟨x, hxx⟩ : ∃ x, l[i].1 = x := ⟨_, rfl⟩
   rw [hxx] at d0 hx
   have hx2 : isK (bare l) i false k = (x == k) := by rw [hx]; simp
   rw [hx2]
   have e0 : decide ((l.length : Int) ≤ (i : Int)) = false := by simp; omega
   have e1 : decide (i < l.length) = true := by simp; omega
   have e2 : decide ((i : Int) < 0) = false := by simp
   have e3 : decide ((0 : Int) ≤ (i : Int)) = true := by simp
   have e4 : decide ((i : Int) < (l.length : Int)) = true := by simp; omega
   clear hx hx2 hxx d1 d2
   go_enter Tryz.func97, Tryz.ntmps97
   go_wp2
   go_quiet (fail)
   go_wp2
   go_ret
   exact ⟨retB (by simp), drewN_below (Below.refl _ _) _⟩
  ·rw [isK_off hil]
   have e0 : decide ((i : Int) < (l.length : Int)) = false := by simp; omega
   have e1 : decide (i < l.length) = false := by simp; omega
   have e3 : decide ((0 : Int) ≤ (i : Int)) = true := by simp
   clear hil
   go_enter Tryz.func97, Tryz.ntmps97
   go_wp2
   refine wp_region_quiet_lit (by kernel_rfl) (by kernel_rfl) ?_
   repeat (with_reducible refine wpQuiet_step ?_; intro K hK; go_simp; with_reducible refine hK _ ?_; clear hK K)
   refine wpQuiet_nil ?_
   intro _ hw'
   obtain ⟨nq, hw''⟩ := hw'
   subst hw''
   go_wp2
   go_ret
   exact ⟨rfl, drewN_below (Below.refl _ _) _⟩
 ·rw [isK_bad]
  go_enter Tryz.func97, Tryz.ntmps97
  go_wp2
  refine wp_region_quiet_lit (by kernel_rfl) (by kernel_rfl) ?_
  repeat (with_reducible refine wpQuiet_step ?_; intro K hK; go_simp; with_reducible refine hK _ ?_; clear hK K)
  refine wpQuiet_nil ?_
  intro _ hw'
  obtain ⟨nq, hw''⟩ := hw'
  subst hw''
  go_wp2
  go_ret
  exact ⟨rfl, drewN_below (Below.refl _ _) _⟩
theorem txt_at {l : List W} {i : Nat} (h : i < l.length) : txt (bare l) i = l[i].2.1 := by
 unfold txt
 rw [bare_get h]
theorem rname_any (r : Nat) (A : Option Addr) (cap : Nat) (l : List W) (i : Nat) (b : Bool) (w : World) (h : Rdr w r A cap l i b) (hi : i ≤ l.length) (hl : l.length ≤ 4194304) (q : Bool) (hq : (isK (bare l) i b 0 && !ownL (txt (bare l) i)) = q) :
  Calls Tryz.prog 58 #[.pointer (some ⟨r, 0, none⟩)] w fun e w' => e = .returned (.string ⟨(if q = true then txt (bare l) i else []).toArray⟩) ∧ But w w' r ∧ Rdr w' r A cap l (if q = true then i + 1 else i) (if q = true then b else true) := by
 have HK := hid (rkind_any r A cap l i b 0 w h hi hl)
 have HR := hid h
 clear h
 obtain ⟨kk, hkk⟩ : ∃ kk, isK (bare l) i b 0 = kk := ⟨_, rfl⟩
 rw [hkk] at HK hq
 cases kk
 ·obtain rfl : q = false := by rw [← hq]; rfl
  clear hq hkk
  go_enter Tryz.func58, Tryz.ntmps58
  go_wp2_with fail
  refine HK.out.mono ?_
  rintro e w1 ⟨rfl, hb1⟩
  have R1 := hid (HR.out.below hb1)
  have B1 := hid (But.of hb1 r)
  have c2 := R1.out.c2
  have fr := R1.out.fr 2
  clear hb1
  go_wp2
  go_ret
  exact ⟨rfl, B1.out.setCell 2 _, R1.out.wrong⟩
 ·have hil := isK_len hkk
  obtain rfl : b = false := (isK_lt hkk).2
  rw [txt_at hil] at hq ⊢
  have HWS := hid HR.out.ws
  obtain ⟨ad, rfl, ha, d0, d1, d2⟩ := at_word HWS.out i hil
  obtain ⟨t, htt⟩ : ∃ t, l[i].2.1 = t := ⟨_, rfl⟩
  rw [htt] at d1 hq ⊢
  obtain ⟨T, hT⟩ : ∃ T : ByteArray, ⟨t.toArray⟩ = T := ⟨_, rfl⟩
  have hTt : t = T.data.toList := by rw [← hT]
  rw [hT] at d1
  rw [hTt] at hq
  have HO := hid (fun w => (rown_any T w).mono (R' := fun e w' => e = .returned (.bool (!q)) ∧ w' = w) (by
   rintro e w' ⟨h1, h2⟩
   refine ⟨?_, h2.symm⟩
   rw [h1, own_list, ← hq]
   simp))
  have hlr := HR.out.lt
  have HD := hid (fun (w' : World) (hb : Below w.heap.size w w') => show w'.cell? ⟨(ad.add (i * 3)).block, (ad.add (i * 3)).off + 1, none⟩ = some (.string T) from (hb.cell (p := ⟨(ad.add (i * 3)).block, (ad.add (i * 3)).off + 1, none⟩) (by show (ad.add (i * 3)).block < _; rw [add_block]; omega)).trans d1)
  clear hkk htt d0 d1 d2 hq
  go_enter Tryz.func58, Tryz.ntmps58
  go_wp2_with fail
  refine HK.out.mono ?_
  rintro e w1 ⟨rfl, hb1⟩
  have R1 := hid (HR.out.below hb1)
  have B1 := hid (But.of hb1 r)
  have c0 := R1.out.c0
  have c1 := R1.out.c1
  have c2 := R1.out.c2
  have f1 := R1.out.fr 1
  have f2 := R1.out.fr 2
  have d1 := HD.out _ hb1
  have e0 : decide ((i : Int) < (l.length : Int)) = true := by simp; omega
  clear hb1
  go_wp2
  go_quiet (refine Calls.quiet_of_same (HO.out _))
  have hb2 : Below w1.heap.size w1 (w1.drewN nq) := drewN_below (Below.refl _ _) nq
  have R2 := hid (R1.out.below hb2)
  have B2 := hid (B1.out.next hb2)
  clear hb2
  cases q
  ·go_wp2
   go_ret
   exact ⟨rfl, B2.out.setCell 2 _, R2.out.wrong⟩
  ·have R3 := hid (R2.out.at (i + 1))
   rw [Int.natCast_add] at R3
   have B3 := hid (B2.out.setCell 1 (.int .i64 ((i : Int) + ((1 : Nat) : Int))))
   have d3 : ((w1.drewN nq).setCell ⟨r, 1, none⟩ (.int .i64 ((i : Int) + ((1 : Nat) : Int)))).cell? ⟨(ad.add (i * 3)).block, (ad.add (i * 3)).off + 1, none⟩ = some (.string T) := by
    rw [World.cell?_setCell_other _ _ _ _ (by
     intro e
     have : r = (ad.add (i * 3)).block := congrArg Addr.block e
     rw [add_block] at this
     omega)]
    exact d1
   clear c0 c1 c2 f1 f2
   have c1 := R1.out.c1
   have f1 := R1.out.fr 1
   go_wp2
   generalize hw2 : (w1.drewN nq).setCell ⟨r, 1, none⟩ (.int .i64 ((i : Int) + ((1 : Nat) : Int))) = w2 at R3 B3 d3
   clear hw2 c1 f1 d1
   have c0 := R3.out.c0
   have c1 : w2.cell? ⟨r, 1, none⟩ = some (.int .i64 ((i : Int) + 1)) := R3.out.c1
   have f4 : IntKind.i64.wrap ((i : Int) + 1 - 1) = (i : Int) := by rw [IntKind.wrap_i64]; omega
   have f5 : (i : Int) + 1 - 1 = (i : Int) := by omega
   have e1 : (i : Int) < (l.length : Int) := by omega
   go_quiet (fail)
   go_wp2
   go_ret
   exact ⟨retS (by first | exact hT.symm | rfl), B3.out.next (drewN_below (Below.refl _ _) _), R3.out.below (drewN_below (Below.refl _ _) _)⟩
end Go.Proofs.YtjbpkpfmgbhlpaaGreatDoor.Code
