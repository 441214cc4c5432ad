/-
  Contract of the document's one: the word that comes.
-/
import Derived.Test.YtajnnkclonjcoaaDoorM6
import Derived.Test.YtajnnkclonjcoaaDoorM4
import Derived.Deep.AppendLies
import Derived.Test.YtajnnkclonjcoaaDoorM3
import Derived.Test.YtajnnkclonjcoaaDoorM5
namespace Go.Proofs.YtajnnkclonjcoaaDoor.Code
open Go.ChangeShapes Go.WideShapes Go.ChangeAt Go.RowKit Val
set_option linter.unusedVariables false
set_option linter.unusedSimpArgs false
theorem quo_first {s : List UInt8} (r : List UInt8) (h : s = 39 :: r) : firstL s = if quoN s = 0 ∨ 200 < (quoT s).length then none else some (2, quoT s, quoN s) := by
  subst h
  rw [firstL, if_neg (by decide), if_neg (by decide), if_pos rfl]
  unfold quoN quoT
  rw [List.drop_one, List.tail_cons]
  cases quoL r with
  | none => rfl
  | some v =>
    obtain ⟨t, n⟩ := v
    dsimp only
    by_cases h200 : t.length ≤ 200
    · rw [if_pos h200, if_neg (by omega)]
    · rw [if_neg h200, if_pos (by omega)]
theorem quoT_le (s : List UInt8) : (quoT s).length ≤ s.length := by
  unfold quoT
  cases hq : quoL (s.drop 1) with
  | none => exact Nat.zero_le _
  | some v =>
    obtain ⟨t, n⟩ := v
    obtain ⟨r, e1, -⟩ := quoL_is _ t n hq
    have h1 := dbl_le t
    have h2 : (s.drop 1).length = (dbl t ++ 39 :: r).length := by rw [e1]
    simp at h2
    show t.length ≤ s.length
    omega
theorem two_of (s : ByteArray) (c d : UInt8) (h : 1 < s.size) (hc : s[0] = c) (hd : s[1] = d) : s.extract 0 2 = ⟨#[c, d]⟩ := by
  refine ba_of (l := [c, d]) ?_
  rw [to_list, list_two s h, hc, hd]
  rfl
theorem one_of (s : ByteArray) (c : UInt8) (h : 0 < s.size) (hc : s[0] = c) : s.extract 0 1 = ⟨#[c]⟩ := by
  refine ba_of (l := [c]) ?_
  rw [to_list, list_cons s h, hc]
  rfl
theorem pair_list (c d : UInt8) : (⟨#[c, d]⟩ : ByteArray).toList = [c, d] := by rw [ByteArray.toList_eq]
theorem oneB_cases {c : UInt8} (h : oneB c = true) : c = 40 ∨ c = 41 ∨ c = 44 ∨ c = 61 ∨ c = 60 ∨ c = 62 ∨ c = 43 ∨ c = 45 ∨ c = 42 := by
  unfold oneB at h
  simp at h
  rcases h with (((((((h | h) | h) | h) | h) | h) | h) | h) | h <;> simp [h]
theorem oneB_not {c : UInt8} (h : oneB c = false) : (c ≠ 40 ∧ c ≠ 41 ∧ c ≠ 44 ∧ c ≠ 61) ∧ (c ≠ 60 ∧ c ≠ 62 ∧ c ≠ 43 ∧ c ≠ 45 ∧ c ≠ 42) := by
  unfold oneB at h
  simp at h
  obtain ⟨⟨⟨⟨⟨⟨⟨⟨h1, h2⟩, h3⟩, h4⟩, h5⟩, h6⟩, h7⟩, h8⟩, h9⟩ := h
  exact ⟨⟨h1, h2, h3, h4⟩, h5, h6, h7, h8, h9⟩
set_option maxHeartbeats 8000000 in
set_option maxRecDepth 100000 in
theorem one8_mark (s : ByteArray) (w : World) (hs : s.size ≤ 140737488355328) (h1 : 1 ≤ s.size) (c : UInt8) (hc : s[0] = c) (hl : s.data.toList = c :: s.data.toList.drop 1) (N : Nat) (hNs : N ≤ s.size)
    (HA : Hid (∀ w, Calls Tryd.prog 67 #[.int .u8 c.toNat] w fun e w' => e = .returned (.bool false) ∧ w = w'))
    (HB : Hid (∀ w, Calls Tryd.prog 68 #[.int .u8 c.toNat] w fun e w' => e = .returned (.bool false) ∧ w = w'))
    (HR : Hid (∀ w, Calls Tryd.prog 69 #[.string s, .bool false] w fun e w' => e = .returned (.int .i64 (N : Int)) ∧ w = w'))
    (j39 : ((c.toNat : Int) == 39) = false)
    (hf : firstL s.data.toList = if twoB s.data.toList = true then some (3, s.data.toList.take 2, 2) else if oneB c = true then some (3, [c], 1) else none) :
    Calls Tryd.prog 58 #[.string s] w fun e w' => FirstIs s.data.toList e ∧ Below w.heap.size w w' := by
  have hsl1 := cut_to s 1 1 rfl (by omega)
  rw [one_of s c h1 hc] at hsl1
  by_cases h2 : twoB s.data.toList = true
  · rw [if_pos h2] at hf
    have hlt : 1 < s.size := by
      by_cases g : 1 < s.size
      · exact g
      · rw [list_short s h1 g] at h2
        cases h2
    obtain ⟨d, hd⟩ : ∃ d, s[1] = d := ⟨_, rfl⟩
    have hl2 := list_two s hlt
    rw [hc, hd] at hl2
    have hsl := cut_to s 2 2 rfl (by omega)
    rw [two_of s c d hlt hc hd] at hsl
    have HX := Lib.hid (show firstL s.data.toList = some (3, (⟨#[c, d]⟩ : ByteArray).data.toList, 2) by rw [hf, hl2]; rfl)
    have hcd : c = 60 ∧ d = 62 ∨ c = 60 ∧ d = 61 ∨ c = 62 ∧ d = 61 := by
      rw [hl2, twoB_cons, twoB_two] at h2
      simp at h2
      rcases h2 with ⟨h, h' | h'⟩ | ⟨h, h'⟩
      · exact .inl ⟨h, h'⟩
      · exact .inr (.inl ⟨h, h'⟩)
      · exact .inr (.inr ⟨h, h'⟩)
    clear hf h2 hl hl2 j39
    rcases hcd with ⟨rfl, rfl⟩ | ⟨rfl, rfl⟩ | ⟨rfl, rfl⟩
    · go_enter Tryd.func58, Tryd.ntmps58
      go_wp2_with fail
      refine (HA.out _).mono ?_
      rintro e w1 ⟨rfl, rfl⟩
      go_wp2_with fail
      refine (HB.out _).mono ?_
      rintro e w1 ⟨rfl, rfl⟩
      go_wp2_with fail
      refine (HR.out _).mono ?_
      rintro e w1 ⟨rfl, rfl⟩
      go_wp2
      exact bodyPost_ret (v := .tuple #[.agg #[.int .i64 3, .string ⟨#[60, 62]⟩, .int .i64 0], .int .i64 2]) (by simp [results, Tryd.results58, go_sem, World.cell?_setCell_other]) rfl ⟨⟨3, _, 2, rfl, .inr HX.out⟩, below_alloc w _⟩
    · go_enter Tryd.func58, Tryd.ntmps58
      go_wp2_with fail
      refine (HA.out _).mono ?_
      rintro e w1 ⟨rfl, rfl⟩
      go_wp2_with fail
      refine (HB.out _).mono ?_
      rintro e w1 ⟨rfl, rfl⟩
      go_wp2_with fail
      refine (HR.out _).mono ?_
      rintro e w1 ⟨rfl, rfl⟩
      go_wp2
      exact bodyPost_ret (v := .tuple #[.agg #[.int .i64 3, .string ⟨#[60, 61]⟩, .int .i64 0], .int .i64 2]) (by simp [results, Tryd.results58, go_sem, World.cell?_setCell_other]) rfl ⟨⟨3, _, 2, rfl, .inr HX.out⟩, below_alloc w _⟩
    · go_enter Tryd.func58, Tryd.ntmps58
      go_wp2_with fail
      refine (HA.out _).mono ?_
      rintro e w1 ⟨rfl, rfl⟩
      go_wp2_with fail
      refine (HB.out _).mono ?_
      rintro e w1 ⟨rfl, rfl⟩
      go_wp2_with fail
      refine (HR.out _).mono ?_
      rintro e w1 ⟨rfl, rfl⟩
      go_wp2
      exact bodyPost_ret (v := .tuple #[.agg #[.int .i64 3, .string ⟨#[62, 61]⟩, .int .i64 0], .int .i64 2]) (by simp [results, Tryd.results58, go_sem, World.cell?_setCell_other]) rfl ⟨⟨3, _, 2, rfl, .inr HX.out⟩, below_alloc w _⟩
  · rw [if_neg h2] at hf
    by_cases hlt : 1 < s.size
    · obtain ⟨d, hd⟩ : ∃ d, s[1] = d := ⟨_, rfl⟩
      have hl2 := list_two s hlt
      rw [hc, hd] at hl2
      have hsl := cut_to s 2 2 rfl (by omega)
      rw [two_of s c d hlt hc hd] at hsl
      obtain ⟨S, hS⟩ : ∃ S : ByteArray, ⟨#[c, d]⟩ = S := ⟨_, rfl⟩
      rw [hS] at hsl
      have hcd : ¬ (c = 60 ∧ d = 62) ∧ ¬ (c = 60 ∧ d = 61) ∧ ¬ (c = 62 ∧ d = 61) := by
        rw [hl2, twoB_cons, twoB_two] at h2
        simp at h2
        exact ⟨fun e => (h2.1 e.1).1 e.2, fun e => (h2.1 e.1).2 e.2, fun e => h2.2 e.1 e.2⟩
      have k0 : (S.toList == [60, 61]) = false := by rw [← hS, pair_list]; simpa using fun e => fun e2 => hcd.2.1 ⟨e, e2⟩
      have k1 : (S.toList == [62, 61]) = false := by rw [← hS, pair_list]; simpa using fun e => fun e2 => hcd.2.2 ⟨e, e2⟩
      have k2 : (S.toList == [60, 62]) = false := by rw [← hS, pair_list]; simpa using fun e => fun e2 => hcd.1 ⟨e, e2⟩
      by_cases h1b : oneB c = true
      · obtain ⟨T, hT⟩ : ∃ T : ByteArray, ⟨#[c]⟩ = T := ⟨_, rfl⟩
        have HX := Lib.hid (show firstL s.data.toList = some (3, T.data.toList, 1) by rw [hf, if_pos h1b, ← hT])
        have hcs := oneB_cases h1b
        rw [hT] at hsl1
        clear hl2 hS hcd hf h2 h1b hT hl
        rcases hcs with rfl | rfl | rfl | rfl | rfl | rfl | rfl | rfl | rfl
        all_goals
          go_enter Tryd.func58, Tryd.ntmps58
          go_wp2_with fail
          refine (HA.out _).mono ?_
          rintro e w1 ⟨rfl, rfl⟩
          go_wp2_with fail
          refine (HB.out _).mono ?_
          rintro e w1 ⟨rfl, rfl⟩
          go_wp2_with fail
          refine (HR.out _).mono ?_
          rintro e w1 ⟨rfl, rfl⟩
          go_wp2
          exact bodyPost_ret (v := .tuple #[.agg #[.int .i64 3, .string T, .int .i64 0], .int .i64 1]) (by simp [results, Tryd.results58, go_sem, World.cell?_setCell_other]) rfl ⟨⟨3, T, 1, rfl, .inr HX.out⟩, below_alloc w _⟩
      · have HX := Lib.hid (hf.trans (if_neg h1b))
        obtain ⟨⟨n0, n1, n2, n3⟩, n4, n5, n6, n7, n8⟩ := oneB_not (c := c) (by simpa using h1b)
        have m0 := u8_not 40 40 rfl n0
        have m1 := u8_not 41 41 rfl n1
        have m2 := u8_not 44 44 rfl n2
        have m3 := u8_not 61 61 rfl n3
        have m4 := u8_not 60 60 rfl n4
        have m5 := u8_not 62 62 rfl n5
        have m6 := u8_not 43 43 rfl n6
        have m7 := u8_not 45 45 rfl n7
        have m8 := u8_not 42 42 rfl n8
        clear hf h2 hl hl2 hS hcd n0 n1 n2 n3 n4 n5 n6 n7 n8 h1b
        go_enter Tryd.func58, Tryd.ntmps58
        go_wp2_with fail
        refine (HA.out _).mono ?_
        rintro e w1 ⟨rfl, rfl⟩
        go_wp2_with fail
        refine (HB.out _).mono ?_
        rintro e w1 ⟨rfl, rfl⟩
        go_wp2_with fail
        refine (HR.out _).mono ?_
        rintro e w1 ⟨rfl, rfl⟩
        go_wp2
        exact bodyPost_ret (v := .tuple #[.agg #[.int .i64 0, .string ⟨#[]⟩, .int .i64 0], .int .i64 0]) (by simp [results, Tryd.results58, go_sem, World.cell?_setCell_other]) rfl ⟨⟨0, ⟨#[]⟩, 0, rfl, .inl ⟨HX.out, rfl⟩⟩, below_alloc w _⟩
    · by_cases h1b : oneB c = true
      · obtain ⟨T, hT⟩ : ∃ T : ByteArray, ⟨#[c]⟩ = T := ⟨_, rfl⟩
        have HX := Lib.hid (show firstL s.data.toList = some (3, T.data.toList, 1) by rw [hf, if_pos h1b, ← hT])
        have hcs := oneB_cases h1b
        rw [hT] at hsl1
        clear hf h2 h1b hT hl
        rcases hcs with rfl | rfl | rfl | rfl | rfl | rfl | rfl | rfl | rfl
        all_goals
          go_enter Tryd.func58, Tryd.ntmps58
          go_wp2_with fail
          refine (HA.out _).mono ?_
          rintro e w1 ⟨rfl, rfl⟩
          go_wp2_with fail
          refine (HB.out _).mono ?_
          rintro e w1 ⟨rfl, rfl⟩
          go_wp2_with fail
          refine (HR.out _).mono ?_
          rintro e w1 ⟨rfl, rfl⟩
          go_wp2
          exact bodyPost_ret (v := .tuple #[.agg #[.int .i64 3, .string T, .int .i64 0], .int .i64 1]) (by simp [results, Tryd.results58, go_sem, World.cell?_setCell_other]) rfl ⟨⟨3, T, 1, rfl, .inr HX.out⟩, below_alloc w _⟩
      · have HX := Lib.hid (hf.trans (if_neg h1b))
        obtain ⟨⟨n0, n1, n2, n3⟩, n4, n5, n6, n7, n8⟩ := oneB_not (c := c) (by simpa using h1b)
        have m0 := u8_not 40 40 rfl n0
        have m1 := u8_not 41 41 rfl n1
        have m2 := u8_not 44 44 rfl n2
        have m3 := u8_not 61 61 rfl n3
        have m4 := u8_not 60 60 rfl n4
        have m5 := u8_not 62 62 rfl n5
        have m6 := u8_not 43 43 rfl n6
        have m7 := u8_not 45 45 rfl n7
        have m8 := u8_not 42 42 rfl n8
        clear hf h2 hl n0 n1 n2 n3 n4 n5 n6 n7 n8 h1b
        go_enter Tryd.func58, Tryd.ntmps58
        go_wp2_with fail
        refine (HA.out _).mono ?_
        rintro e w1 ⟨rfl, rfl⟩
        go_wp2_with fail
        refine (HB.out _).mono ?_
        rintro e w1 ⟨rfl, rfl⟩
        go_wp2_with fail
        refine (HR.out _).mono ?_
        rintro e w1 ⟨rfl, rfl⟩
        go_wp2
        exact bodyPost_ret (v := .tuple #[.agg #[.int .i64 0, .string ⟨#[]⟩, .int .i64 0], .int .i64 0]) (by simp [results, Tryd.results58, go_sem, World.cell?_setCell_other]) rfl ⟨⟨0, ⟨#[]⟩, 0, rfl, .inl ⟨HX.out, rfl⟩⟩, below_alloc w _⟩
set_option maxHeartbeats 8000000 in
set_option maxRecDepth 100000 in
theorem one8_any (s : ByteArray) (w : World) (hs : s.size ≤ 140737488355328) (h1 : 1 ≤ s.size) :
    Calls Tryd.prog 58 #[.string s] w fun e w' => FirstIs s.data.toList e ∧ Below w.heap.size w w' := by
  obtain ⟨c, hc⟩ : ∃ c, s[0] = c := ⟨_, rfl⟩
  have hl := list_cons s h1
  rw [hc] at hl
  obtain ⟨a, ha⟩ : ∃ a, letB c = a := ⟨_, rfl⟩
  obtain ⟨b, hb⟩ : ∃ b, figB c = b := ⟨_, rfl⟩
  have HA := Lib.hid (fun w => (rletter_any c w).mono (R' := fun e w' => e = .returned (.bool a) ∧ w = w') (by rintro e w' ⟨h1, h2⟩; exact ⟨by rw [h1, ha], h2⟩))
  have HB := Lib.hid (fun w => (rfigure_any c w).mono (R' := fun e w' => e = .returned (.bool b) ∧ w = w') (by rintro e w' ⟨h1, h2⟩; exact ⟨by rw [h1, hb], h2⟩))
  cases a
  · obtain ⟨N, hN⟩ : ∃ N, runL figB s.data.toList = N := ⟨_, rfl⟩
    have HR := Lib.hid (fun w => rrun_any false figB (by intro c; simp) s w (by omega))
    rw [hN] at HR
    have hNs : N ≤ s.size := by rw [← hN]; exact runL_le _ _
    cases b
    · by_cases h39 : c = 39
      · subst h39
        have hq := quo_first _ hl
        have HQ := Lib.hid (fun w => rquote_any s w hs h1)
        obtain ⟨T, hT⟩ : ∃ T : ByteArray, ⟨(quoT s.data.toList).toArray⟩ = T := ⟨_, rfl⟩
        obtain ⟨K, hK⟩ : ∃ K, quoN s.data.toList = K := ⟨_, rfl⟩
        have hTT : quoT s.data.toList = T.data.toList := by rw [← hT]
        have hTb : T.size ≤ s.size := by rw [size_list, size_list, ← hTT]; exact quoT_le _
        rw [hT, hK] at HQ
        rw [hK, hTT, ← size_list] at hq
        clear hT hTT hK hN ha hb hl
        by_cases hbig : 200 < T.size
        · have HX := Lib.hid (hq.trans (if_pos (.inr hbig)))
          clear hq
          go_enter Tryd.func58, Tryd.ntmps58
          go_wp2_with fail
          refine (HA.out _).mono ?_
          rintro e w1 ⟨rfl, rfl⟩
          go_wp2_with fail
          refine (HB.out _).mono ?_
          rintro e w1 ⟨rfl, rfl⟩
          go_wp2_with fail
          refine (HR.out _).mono ?_
          rintro e w1 ⟨rfl, rfl⟩
          go_wp2_with fail
          refine (HQ.out _).mono ?_
          rintro e w1 ⟨rfl, rfl⟩
          go_wp2
          exact bodyPost_ret (v := .tuple #[.agg #[.int .i64 0, .string ⟨#[]⟩, .int .i64 0], .int .i64 0]) (by simp [results, Tryd.results58, go_sem, World.cell?_setCell_other]) rfl ⟨⟨0, ⟨#[]⟩, 0, rfl, .inl ⟨HX.out, rfl⟩⟩, below_alloc w _⟩
        · have HX := Lib.hid (show firstL s.data.toList = none ∧ K = 0 ∨ firstL s.data.toList = some (2, T.data.toList, K) by
            by_cases h0 : K = 0
            · exact .inl ⟨by rw [hq, if_pos (.inl h0)], h0⟩
            · exact .inr (by rw [hq, if_neg (by omega)]))
          clear hq
          go_enter Tryd.func58, Tryd.ntmps58
          go_wp2_with fail
          refine (HA.out _).mono ?_
          rintro e w1 ⟨rfl, rfl⟩
          go_wp2_with fail
          refine (HB.out _).mono ?_
          rintro e w1 ⟨rfl, rfl⟩
          go_wp2_with fail
          refine (HR.out _).mono ?_
          rintro e w1 ⟨rfl, rfl⟩
          go_wp2_with fail
          refine (HQ.out _).mono ?_
          rintro e w1 ⟨rfl, rfl⟩
          go_wp2
          exact bodyPost_ret (v := .tuple #[.agg #[.int .i64 2, .string T, .int .i64 0], .int .i64 (K : Int)]) (by simp [results, Tryd.results58, go_sem, World.cell?_setCell_other]) rfl ⟨⟨2, T, K, rfl, HX.out⟩, below_alloc w _⟩
      · have j39 := u8_not 39 39 rfl h39
        have hf : firstL s.data.toList = if twoB s.data.toList = true then some (3, s.data.toList.take 2, 2) else if oneB c = true then some (3, [c], 1) else none := by
          rw [hl, firstL, if_neg (by rw [ha]; decide), if_neg (by rw [hb]; decide), if_neg h39]
        exact one8_mark s w hs h1 c hc hl N hNs HA HB HR j39 hf
    · have hf : firstL s.data.toList = if N ≤ 19 then some (1, s.data.toList.take N, N) else none := by
        rw [← hN, hl, firstL, if_neg (by rw [ha]; decide), if_pos hb]
      obtain ⟨S, hS⟩ : ∃ S, s.extract 0 N = S := ⟨_, rfl⟩
      have hsl := cut_to s N N rfl hNs
      rw [hS] at hsl
      have hSl : S.data.toList = s.data.toList.take N := by rw [← hS]; exact to_list s N
      clear hl hN ha hb hS
      by_cases h19 : N ≤ 19
      · have HX := Lib.hid (show firstL s.data.toList = some (1, S.data.toList, N) by rw [hf, if_pos h19, hSl])
        clear hf hSl
        go_enter Tryd.func58, Tryd.ntmps58
        go_wp2_with fail
        refine (HA.out _).mono ?_
        rintro e w1 ⟨rfl, rfl⟩
        go_wp2_with fail
        refine (HB.out _).mono ?_
        rintro e w1 ⟨rfl, rfl⟩
        go_wp2_with fail
        refine (HR.out _).mono ?_
        rintro e w1 ⟨rfl, rfl⟩
        go_wp2
        exact bodyPost_ret (v := .tuple #[.agg #[.int .i64 1, .string S, .int .i64 0], .int .i64 (N : Int)]) (by simp [results, Tryd.results58, go_sem, World.cell?_setCell_other]) rfl ⟨⟨1, S, N, rfl, .inr HX.out⟩, below_alloc w _⟩
      · have HX := Lib.hid (hf.trans (if_neg h19))
        clear hf hSl
        go_enter Tryd.func58, Tryd.ntmps58
        go_wp2_with fail
        refine (HA.out _).mono ?_
        rintro e w1 ⟨rfl, rfl⟩
        go_wp2_with fail
        refine (HB.out _).mono ?_
        rintro e w1 ⟨rfl, rfl⟩
        go_wp2_with fail
        refine (HR.out _).mono ?_
        rintro e w1 ⟨rfl, rfl⟩
        go_wp2
        exact bodyPost_ret (v := .tuple #[.agg #[.int .i64 0, .string ⟨#[]⟩, .int .i64 0], .int .i64 0]) (by simp [results, Tryd.results58, go_sem, World.cell?_setCell_other]) rfl ⟨⟨0, ⟨#[]⟩, 0, rfl, .inl ⟨HX.out, rfl⟩⟩, below_alloc w _⟩
  · obtain ⟨N, hN⟩ : ∃ N, runL nameB s.data.toList = N := ⟨_, rfl⟩
    have HR := Lib.hid (fun w => rrun_any true nameB (by intro c; unfold nameB; cases letB c <;> cases figB c <;> rfl) s w (by omega))
    rw [hN] at HR
    have hNs : N ≤ s.size := by rw [← hN]; exact runL_le _ _
    have hf : firstL s.data.toList = if N ≤ 20 then some (0, s.data.toList.take N, N) else none := by
      rw [← hN, hl, firstL, if_pos ha]
    obtain ⟨S, hS⟩ : ∃ S, s.extract 0 N = S := ⟨_, rfl⟩
    have hsl := cut_to s N N rfl hNs
    rw [hS] at hsl
    have hSl : S.data.toList = s.data.toList.take N := by rw [← hS]; exact to_list s N
    clear hl hN ha hb hS
    by_cases h20 : N ≤ 20
    · have HX := Lib.hid (show firstL s.data.toList = some (0, S.data.toList, N) by rw [hf, if_pos h20, hSl])
      clear hf hSl
      go_enter Tryd.func58, Tryd.ntmps58
      go_wp2_with fail
      refine (HA.out _).mono ?_
      rintro e w1 ⟨rfl, rfl⟩
      go_wp2_with fail
      refine (HB.out _).mono ?_
      rintro e w1 ⟨rfl, rfl⟩
      go_wp2_with fail
      refine (HR.out _).mono ?_
      rintro e w1 ⟨rfl, rfl⟩
      go_wp2
      exact bodyPost_ret (v := .tuple #[.agg #[.int .i64 0, .string S, .int .i64 0], .int .i64 (N : Int)]) (by simp [results, Tryd.results58, go_sem, World.cell?_setCell_other]) rfl ⟨⟨0, S, N, rfl, .inr HX.out⟩, below_alloc w _⟩
    · have HX := Lib.hid (hf.trans (if_neg h20))
      clear hf hSl
      cases b
      all_goals
        go_enter Tryd.func58, Tryd.ntmps58
        go_wp2_with fail
        refine (HA.out _).mono ?_
        rintro e w1 ⟨rfl, rfl⟩
        go_wp2_with fail
        refine (HB.out _).mono ?_
        rintro e w1 ⟨rfl, rfl⟩
        go_wp2_with fail
        refine (HR.out _).mono ?_
        rintro e w1 ⟨rfl, rfl⟩
        go_wp2
        exact bodyPost_ret (v := .tuple #[.agg #[.int .i64 0, .string ⟨#[]⟩, .int .i64 0], .int .i64 0]) (by simp [results, Tryd.results58, go_sem, World.cell?_setCell_other]) rfl ⟨⟨0, ⟨#[]⟩, 0, rfl, .inl ⟨HX.out, rfl⟩⟩, below_alloc w _⟩
end Go.Proofs.YtajnnkclonjcoaaDoor.Code
/-
  Contracts of lex's Words and of the document's.
-/
namespace Go.Proofs.YtajnnkclonjcoaaDoor.Code
open Go.ChangeShapes Go.WideShapes Go.ChangeAt Go.RowKit Val Elems
set_option linter.unusedVariables false
theorem info_word : (Tryd.prog.info? 67).map (fun i => (i.zero, i.size, i.bytes)) = some (some (.agg #[.int .i64 0, .string ByteArray.empty, .int .i64 0]), 3, 32) := by kernel_rfl
theorem roww_new (w : World) (o : Obj) (k n : Int) (t : ByteArray) (ty : TypeId) : ∀ (j : Nat) (u : Value), ([.int .i64 k, .string t, .int .i64 n] : List Value)[j]? = some u → ((w.alloc o).alloc (.cells #[.int .i64 k, .string t, .int .i64 n] ty)).cell? ((⟨w.heap.size + 1, 0, none⟩ : Addr).add j) = some u := by
  have h := heap_alloc_new (w.alloc o) (.cells #[.int .i64 k, .string t, .int .i64 n] ty)
  rw [show (w.alloc o).heap.size = w.heap.size + 1 by simp] at h
  exact World.news_of_block h
set_option maxHeartbeats 4000000 in
set_option maxRecDepth 100000 in
theorem words_any (s : ByteArray) (m : Int) (w : World) (hs : s.size ≤ 4194304) (hm : w.cell? ⟨0, 0, none⟩ = some (.int .i64 m)) :
    Calls Tryd.prog 40 #[.string s] w (WordsPost w s.data.toList) := by
  have hlt : 0 < w.heap.size := World.block_lt_of_cell? _ _ hm
  have HM := Lib.hid hm
  clear hm
  obtain ⟨i0, hi0, hz0, hz1, hz2⟩ := info_parts info_word
  go_enter Tryd.func40, Tryd.ntmps40
  go_wp2
  go_loopw [5, 6] (fun v t wr => ∃ (i : Nat) (a : List W), i ≤ s.size ∧ t = .int .i64 i ∧ Hid (WAt s.data.toList i a) ∧ a.length ≤ i ∧ wr.ownsRow w.heap.size 67 3 v a.length (flatC wc a) ∧ Below w.heap.size w wr) (fun _ t _ => s.size - (intOf t).toNat)
  case atStart => exact ⟨0, [], by omega, rfl, Lib.hid (WAt.start _), by simp, World.ownsRow_nil _ _ _ _, Below.refl _ _⟩
  case round =>
    obtain ⟨i, a, hi, rfl, HK, hai, hown, hbel⟩ := hrel
    have hsz := hbel.size
    have HO := Lib.hid hown
    have HL := Lib.hid hbel
    clear hown hbel
    by_cases hil : i < s.size
    · obtain ⟨c, hc⟩ : ∃ c, s[i] = c := ⟨_, rfl⟩
      have hg := (list_get s i hil hil).trans hc
      obtain ⟨b, hb⟩ : ∃ b, blankB c = b := ⟨_, rfl⟩
      have HB := Lib.hid (fun w => (blank_any c w).mono (R' := fun e w' => e = .returned (.bool b) ∧ w = w') (by rintro e w' ⟨h1, h2⟩; exact ⟨by rw [h1, hb], h2⟩))
      cases b
      · obtain ⟨S, hS⟩ : ∃ S, s.extract i s.size = S := ⟨_, rfl⟩
        have hsl := cut_from s i i rfl hi
        rw [hS] at hsl
        have hSl : S.data.toList = s.data.toList.drop i := by rw [← hS]; exact from_list s i
        have hSs : S.size = s.size - i := by rw [size_list, hSl, List.length_drop, ← size_list]
        have HSL := Lib.hid hSl
        have HG := Lib.hid hg
        clear hS hSl hg
        go_wp2_with fail
        refine (HB.out _).mono ?_
        rintro e w1 ⟨rfl, rfl⟩
        go_wp2_with fail
        refine (first_any S m _ (by omega) (by omega) (by rw [HL.out.cell (p := ⟨0, 0, none⟩) hlt]; exact HM.out)).mono ?_
        rintro e w1 ⟨⟨k, t, n, rfl, hcase⟩, hb1⟩
        rw [HSL.out] at hcase
        have L1 := Lib.hid (bnext HL.out hsz hb1)
        have O1 := Lib.hid (own_call HO.out hb1)
        have hzw := L1.out.size
        clear hb1
        rcases hcase with ⟨hno, rfl⟩ | hyes
        · have HD := Lib.hid (HK.out.none hil (by rw [HG.out]; exact hb) hno)
          clear hno
          go_wp2
          go_ret3
          exact words_no HD.out (L1.out.alloc hzw _)
        · have hn := first_n hyes
          have hcz : ((n : Int) == 0) = false := by simp; omega
          have hni : i + n ≤ s.size := by have := hn.2; rw [List.length_drop, ← size_list] at this; omega
          have HD := Lib.hid (HK.out.one hil hyes)
          have HW := Lib.hid (show wc (k, t.data.toList, (i : Int)) = [.int .i64 k, .string t, .int .i64 (i : Int)] by unfold wc; rw [Lib.mk_data])
          have hn1 := hn.1
          clear hyes hn
          go_wp2_with (at_builtin; refine wpList_append_own _ rfl _ _ 62 rfl w.heap.size 67 i0 (.agg #[.int .i64 0, .string ByteArray.empty, .int .i64 0]) 3 32 Tryd.underlying62 hi0 hz0 hz1 hz2 rfl (by decide) _ _ _ rfl ((O1.out.alloc _).alloc _) ⟨w1.heap.size + 1, 0, none⟩ 1 1 [.int .i64 k, .string t, .int .i64 (i : Int)] rfl rfl ?c1 ?c2 ?c3 ?c4 ?c5 ?_)
          case c1 => exact roww_new _ _ _ _ _ _
          case c2 => rw [← HW.out]; exact wc_one _
          case c3 => unfold maxLen; omega
          case c4 => omega
          case c5 => simp; omega
          intro v' w2 hown' hgrow _
          have O2 := Lib.hid (show w2.ownsRow w.heap.size 67 3 v' (a ++ [(k, t.data.toList, (i : Int))]).length (flatC wc (a ++ [(k, t.data.toList, (i : Int))])) by rw [flatC_snoc, List.length_append, HW.out]; exact hown')
          have L2 := Lib.hid (((L1.out.alloc hzw _).alloc (by simp; omega) _).grown hgrow (by simp; omega) (fun g hg => (O1.out.lt g hg).1))
          clear hown' hgrow
          go_wp2
          go_roundw
          case rel => exact ⟨i + n, a ++ [(k, t.data.toList, (i : Int))], by omega, by go_num, HD, by rw [List.length_append]; simp; omega, O2.out, L2.out⟩
          case measure => simp [intOf]; omega
      · have HD := Lib.hid (HK.out.blank hil (by rw [hg]; exact hb))
        clear hg
        go_wp2_with fail
        refine (HB.out _).mono ?_
        rintro e w1 ⟨rfl, rfl⟩
        go_wp2
        go_roundw
        case rel => exact ⟨i + 1, a, by omega, by go_num, HD, by omega, HO.out, HL.out⟩
        case measure => simp [intOf]; omega
    · have HD := Lib.hid (HK.out.done (by rw [← size_list]; omega))
      go_wp2
      go_ret3
      exact words_yes HD.out HO.out HL.out
end Go.Proofs.YtajnnkclonjcoaaDoor.Code
/-
  Contract of the document's Words.
-/
namespace Go.Proofs.YtajnnkclonjcoaaDoor.Code
open Go.ChangeShapes Go.WideShapes Go.ChangeAt Go.RowKit Val Elems
set_option linter.unusedVariables false
theorem info_rword : (Tryd.prog.info? 72).map (fun i => (i.zero, i.size, i.bytes)) = some (some (.agg #[.int .i64 0, .string ByteArray.empty, .int .i64 0]), 3, 32) := by kernel_rfl
theorem blank_yes {c : UInt8} (h : blankB c = true) : c = 32 ∨ c = 9 ∨ c = 10 := by
  unfold blankB at h
  simp only [Bool.or_eq_true, decide_eq_true_eq] at h
  rcases h with (h | h) | h
  · exact .inl (UInt8.toNat_inj.1 h)
  · exact .inr (.inl (UInt8.toNat_inj.1 h))
  · exact .inr (.inr (UInt8.toNat_inj.1 h))
theorem blank_no {c : UInt8} (h : blankB c = false) : ((c.toNat : Int) == 32) = false ∧ ((c.toNat : Int) == 9) = false ∧ ((c.toNat : Int) == 10) = false := by
  unfold blankB at h
  simp only [Bool.or_eq_false_iff, decide_eq_false_iff_not] at h
  obtain ⟨⟨h1, h2⟩, h3⟩ := h
  refine ⟨?_, ?_, ?_⟩ <;> (simp; omega)
set_option maxHeartbeats 4000000 in
set_option maxRecDepth 100000 in
theorem rwords_any (s : ByteArray) (w : World) (hs : s.size ≤ 4194304) :
    Calls Tryd.prog 41 #[.string s] w (WordsPost w s.data.toList) := by
  obtain ⟨i0, hi0, hz0, hz1, hz2⟩ := info_parts info_rword
  go_enter Tryd.func41, Tryd.ntmps41
  go_wp2
  go_loopw [5, 6] (fun v t wr => ∃ (i : Nat) (a : List W), i ≤ s.size ∧ t = .int .i64 i ∧ Hid (WAt s.data.toList i a) ∧ a.length ≤ i ∧ wr.ownsRow w.heap.size 72 3 v a.length (flatC wc a) ∧ Below w.heap.size w wr) (fun _ t _ => s.size - (intOf t).toNat)
  case atStart => exact ⟨0, [], by omega, rfl, Lib.hid (WAt.start _), by simp, World.ownsRow_nil _ _ _ _, Below.refl _ _⟩
  case round =>
    obtain ⟨i, a, hi, rfl, HK, hai, hown, hbel⟩ := hrel
    have hsz := hbel.size
    have HO := Lib.hid hown
    have HL := Lib.hid hbel
    clear hown hbel
    by_cases hil : i < s.size
    · obtain ⟨c, hc⟩ : ∃ c, s[i] = c := ⟨_, rfl⟩
      have hg := (list_get s i hil hil).trans hc
      obtain ⟨b, hb⟩ : ∃ b, blankB c = b := ⟨_, rfl⟩
      cases b
      · obtain ⟨S, hS⟩ : ∃ S, s.extract i s.size = S := ⟨_, rfl⟩
        have hsl := cut_from s i i rfl hi
        rw [hS] at hsl
        have hSl : S.data.toList = s.data.toList.drop i := by rw [← hS]; exact from_list s i
        have hSs : S.size = s.size - i := by rw [size_list, hSl, List.length_drop, ← size_list]
        have HSL := Lib.hid hSl
        have HG := Lib.hid hg
        clear hS hSl hg
        obtain ⟨j32, j9, j10⟩ := blank_no hb
        go_wp2_with fail
        refine (one8_any S _ (by omega) (by omega)).mono ?_
        rintro e w1 ⟨⟨k, t, n, rfl, hcase⟩, hb1⟩
        rw [HSL.out] at hcase
        have L1 := Lib.hid (bnext HL.out hsz hb1)
        have O1 := Lib.hid (own_call HO.out hb1)
        have hzw := L1.out.size
        clear hb1
        rcases hcase with ⟨hno, rfl⟩ | hyes
        · have HD := Lib.hid (HK.out.none hil (by rw [HG.out]; exact hb) hno)
          clear hno
          go_wp2
          go_ret3
          exact words_no HD.out (L1.out.alloc hzw _)
        · have hn := first_n hyes
          have hcz : ((n : Int) == 0) = false := by simp; omega
          have hni : i + n ≤ s.size := by have := hn.2; rw [List.length_drop, ← size_list] at this; omega
          have HD := Lib.hid (HK.out.one hil hyes)
          have HW := Lib.hid (show wc (k, t.data.toList, (i : Int)) = [.int .i64 k, .string t, .int .i64 (i : Int)] by unfold wc; rw [Lib.mk_data])
          have hn1 := hn.1
          clear hyes hn
          go_wp2_with (at_builtin; refine wpList_append_own _ rfl _ _ 68 rfl w.heap.size 72 i0 (.agg #[.int .i64 0, .string ByteArray.empty, .int .i64 0]) 3 32 Tryd.underlying68 hi0 hz0 hz1 hz2 rfl (by decide) _ _ _ rfl ((O1.out.alloc _).alloc _) ⟨w1.heap.size + 1, 0, none⟩ 1 1 [.int .i64 k, .string t, .int .i64 (i : Int)] rfl rfl ?c1 ?c2 ?c3 ?c4 ?c5 ?_)
          case c1 => exact roww_new _ _ _ _ _ _
          case c2 => rw [← HW.out]; exact wc_one _
          case c3 => unfold maxLen; omega
          case c4 => omega
          case c5 => simp; omega
          intro v' w2 hown' hgrow _
          have O2 := Lib.hid (show w2.ownsRow w.heap.size 72 3 v' (a ++ [(k, t.data.toList, (i : Int))]).length (flatC wc (a ++ [(k, t.data.toList, (i : Int))])) by rw [flatC_snoc, List.length_append, HW.out]; exact hown')
          have L2 := Lib.hid (((L1.out.alloc hzw _).alloc (by simp; omega) _).grown hgrow (by simp; omega) (fun g hg => (O1.out.lt g hg).1))
          clear hown' hgrow
          go_wp2
          go_roundw
          case rel => exact ⟨i + n, a ++ [(k, t.data.toList, (i : Int))], by omega, by go_num, HD, by rw [List.length_append]; simp; omega, O2.out, L2.out⟩
          case measure => simp [intOf]; omega
      · have HD := Lib.hid (HK.out.blank hil (by rw [hg]; exact hb))
        clear hg
        rcases blank_yes hb with rfl | rfl | rfl
        · go_wp2
          go_roundw
          case rel => exact ⟨i + 1, a, by omega, by go_num, HD, by omega, HO.out, HL.out⟩
          case measure => simp [intOf]; omega
        · go_wp2
          go_roundw
          case rel => exact ⟨i + 1, a, by omega, by go_num, HD, by omega, HO.out, HL.out⟩
          case measure => simp [intOf]; omega
        · go_wp2
          go_roundw
          case rel => exact ⟨i + 1, a, by omega, by go_num, HD, by omega, HO.out, HL.out⟩
          case measure => simp [intOf]; omega
    · have HD := Lib.hid (HK.out.done (by rw [← size_list]; omega))
      go_wp2
      go_ret3
      exact words_yes HD.out HO.out HL.out
end Go.Proofs.YtajnnkclonjcoaaDoor.Code
/-
  Contracts of the law's To and Same, and of Own, the program's and the document's.
-/
namespace Go.Proofs.YtajnnkclonjcoaaDoor.Code
open Go.ChangeShapes Go.WideShapes Go.ChangeAt Go.RowKit Val Elems
set_option linter.unusedVariables false
theorem at_word {w : World} {B : Nat} {A : Option Addr} {l : List W} (h : At wc 3 w B A l) (i : Nat) (hi : i < l.length) :
    ∃ ad : Addr, A = some ad ∧ ad.block < B ∧ w.cell? (ad.add (i * 3)) = some (.int .i64 l[i].1) ∧ w.cell? ⟨(ad.add (i * 3)).block, (ad.add (i * 3)).off + 1, none⟩ = some (.string ⟨l[i].2.1.toArray⟩) ∧ w.cell? ⟨(ad.add (i * 3)).block, (ad.add (i * 3)).off + 2, none⟩ = some (.int .i64 l[i].2.2) := by
  obtain ⟨ad, e, hb, h0⟩ := h i hi
  refine ⟨ad, e, hb, h0 0 _ rfl, ?_, ?_⟩
  · rw [← add_next]; exact h0 1 _ rfl
  · rw [← add_next]; exact h0 2 _ rfl
/-- is it one of the language's own names? -/
def ownB (s : List UInt8) : Bool := s == [116, 114, 117, 101] || (s == [102, 97, 108, 115, 101] || (s == [110, 117, 108, 108] || (s == [97, 110, 100] || (s == [111, 114] || (s == [110, 111, 116] || s == [105, 115])))))
set_option maxHeartbeats 4000000 in
theorem own_any (s : ByteArray) (w : World) :
    Calls Tryd.prog 39 #[.string s] w fun e w' => e = .returned (.bool (ownB s.toList)) ∧ w = w' := by
  obtain ⟨b1, h1⟩ : ∃ b, (s.toList == [116, 114, 117, 101]) = b := ⟨_, rfl⟩
  obtain ⟨b2, h2⟩ : ∃ b, (s.toList == [102, 97, 108, 115, 101]) = b := ⟨_, rfl⟩
  obtain ⟨b3, h3⟩ : ∃ b, (s.toList == [110, 117, 108, 108]) = b := ⟨_, rfl⟩
  obtain ⟨b4, h4⟩ : ∃ b, (s.toList == [97, 110, 100]) = b := ⟨_, rfl⟩
  obtain ⟨b5, h5⟩ : ∃ b, (s.toList == [111, 114]) = b := ⟨_, rfl⟩
  obtain ⟨b6, h6⟩ : ∃ b, (s.toList == [110, 111, 116]) = b := ⟨_, rfl⟩
  obtain ⟨b7, h7⟩ : ∃ b, (s.toList == [105, 115]) = b := ⟨_, rfl⟩
  have HX := Lib.hid (show ownB s.toList = (b1 || (b2 || (b3 || (b4 || (b5 || (b6 || b7)))))) by unfold ownB; rw [h1, h2, h3, h4, h5, h6, h7])
  rw [HX.out]
  clear HX
  cases b1
  · cases b2
    · cases b3
      · cases b4
        · cases b5
          · cases b6
            · cases b7
              all_goals (go_enter Tryd.func39, Tryd.ntmps39; go_wp2; go_ret; exact ⟨rfl, rfl⟩)
            · (go_enter Tryd.func39, Tryd.ntmps39; go_wp2; go_ret; exact ⟨rfl, rfl⟩)
          · (go_enter Tryd.func39, Tryd.ntmps39; go_wp2; go_ret; exact ⟨rfl, rfl⟩)
        · (go_enter Tryd.func39, Tryd.ntmps39; go_wp2; go_ret; exact ⟨rfl, rfl⟩)
      · (go_enter Tryd.func39, Tryd.ntmps39; go_wp2; go_ret; exact ⟨rfl, rfl⟩)
    · (go_enter Tryd.func39, Tryd.ntmps39; go_wp2; go_ret; exact ⟨rfl, rfl⟩)
  · (go_enter Tryd.func39, Tryd.ntmps39; go_wp2; go_ret; exact ⟨rfl, rfl⟩)
set_option maxHeartbeats 4000000 in
theorem rown_any (s : ByteArray) (w : World) :
    Calls Tryd.prog 42 #[.string s] w fun e w' => e = .returned (.bool (ownB s.toList)) ∧ w = w' := by
  obtain ⟨b1, h1⟩ : ∃ b, (s.toList == [116, 114, 117, 101]) = b := ⟨_, rfl⟩
  obtain ⟨b2, h2⟩ : ∃ b, (s.toList == [102, 97, 108, 115, 101]) = b := ⟨_, rfl⟩
  obtain ⟨b3, h3⟩ : ∃ b, (s.toList == [110, 117, 108, 108]) = b := ⟨_, rfl⟩
  obtain ⟨b4, h4⟩ : ∃ b, (s.toList == [97, 110, 100]) = b := ⟨_, rfl⟩
  obtain ⟨b5, h5⟩ : ∃ b, (s.toList == [111, 114]) = b := ⟨_, rfl⟩
  obtain ⟨b6, h6⟩ : ∃ b, (s.toList == [110, 111, 116]) = b := ⟨_, rfl⟩
  obtain ⟨b7, h7⟩ : ∃ b, (s.toList == [105, 115]) = b := ⟨_, rfl⟩
  have HX := Lib.hid (show ownB s.toList = (b1 || (b2 || (b3 || (b4 || (b5 || (b6 || b7)))))) by unfold ownB; rw [h1, h2, h3, h4, h5, h6, h7])
  rw [HX.out]
  clear HX
  cases b1
  · cases b2
    · cases b3
      · cases b4
        · cases b5
          · cases b6
            · cases b7
              all_goals (go_enter Tryd.func42, Tryd.ntmps42; go_wp2; go_ret; exact ⟨rfl, rfl⟩)
            · (go_enter Tryd.func42, Tryd.ntmps42; go_wp2; go_ret; exact ⟨rfl, rfl⟩)
          · (go_enter Tryd.func42, Tryd.ntmps42; go_wp2; go_ret; exact ⟨rfl, rfl⟩)
        · (go_enter Tryd.func42, Tryd.ntmps42; go_wp2; go_ret; exact ⟨rfl, rfl⟩)
      · (go_enter Tryd.func42, Tryd.ntmps42; go_wp2; go_ret; exact ⟨rfl, rfl⟩)
    · (go_enter Tryd.func42, Tryd.ntmps42; go_wp2; go_ret; exact ⟨rfl, rfl⟩)
  · (go_enter Tryd.func42, Tryd.ntmps42; go_wp2; go_ret; exact ⟨rfl, rfl⟩)
end Go.Proofs.YtajnnkclonjcoaaDoor.Code
/-
  Contracts of value.Fits and of the document's Fits of one value.
-/
namespace Go.Proofs.YtajnnkclonjcoaaDoor.Val
open Go.ChangeShapes Go.WideShapes Go.ChangeAt Go.RowKit
set_option linter.unusedVariables false

theorem column_any (k : Int) (w : World) :
    Calls Tryd.prog 71 #[.int .i64 k] w fun e w' => e = .returned (.bool (columnB k)) ∧ w = w' := by
  by_cases h : 1 ≤ k
  all_goals
    go_enter Tryd.func71, Tryd.ntmps71
    go_wp2
    go_ret
    exact ⟨retB (by unfold columnB; simp; try omega), rfl⟩
theorem rcolumn_any (k : Int) (w : World) :
    Calls Tryd.prog 50 #[.int .i64 k] w fun e w' => e = .returned (.bool (columnB k)) ∧ w = w' := by
  by_cases h : 1 ≤ k
  all_goals
    go_enter Tryd.func50, Tryd.ntmps50
    go_wp2
    go_ret
    exact ⟨retB (by unfold columnB; simp; try omega), rfl⟩

/-- whether a value may be in a column of a kind -/
def fitV1 (k n : Int) (s : ByteArray) (c : Int) : Bool := columnB c && (rightB k n s && (k == 0 || k == c))
set_option maxHeartbeats 2000000 in
theorem vfits_any (k n : Int) (s : ByteArray) (c : Int) (hn : fits n) (w : World) :
    Calls Tryd.prog 60 #[.agg #[.int .i64 k, .int .i64 n, .string s], .int .i64 c] w fun e w' => e = .returned (.bool (fitV1 k n s c)) ∧ Below w.heap.size w w' := by
  have hc := fun w => column_any c w
  have hr := fun w => right_any k n s w hn
  have hx : fitV1 k n s c = (columnB c && (rightB k n s && (k == 0 || k == c))) := rfl
  generalize columnB c = p at hc hx
  generalize rightB k n s = q at hr hx
  have HC := Lib.hid hc
  have HR := Lib.hid hr
  have HX := Lib.hid hx
  clear hc hr hx
  rcases Bool.eq_false_or_eq_true (k == 0) with e0 | e0 <;> rcases Bool.eq_false_or_eq_true (k == c) with e1 | e1 <;> cases p <;> cases q
  all_goals
    rw [e0, e1] at HX
    go_enter Tryd.func60, Tryd.ntmps60
    go_wp2_with (first | (go_at_call 71; refine (HC.out _).mono ?_; rintro e w' ⟨rfl, rfl⟩) | (go_at_call 72; refine (HR.out _).mono ?_; rintro e w1 ⟨rfl, hb1⟩; obtain ⟨x0, x1, x2, xz⟩ := (Box.fresh w k n s 99).call hb1; have L1 := Lib.hid (bnext (below_alloc w _) (by simp) hb1); clear hb1))
    all_goals go_ret
    all_goals exact ⟨retB HX.out.symm, by first | exact L1.out | exact below_alloc w _⟩
end Go.Proofs.YtajnnkclonjcoaaDoor.Val
