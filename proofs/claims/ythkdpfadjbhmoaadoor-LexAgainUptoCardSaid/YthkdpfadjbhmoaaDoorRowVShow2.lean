/-
  Contracts of the document's Figures below 0, and of its Show of one value.
-/
import Derived.Test.YthkdpfadjbhmoaaDoorRowVShow
namespace Go.Proofs.YthkdpfadjbhmoaaDoor.Code
open Go.ChangeShapes Go.WideShapes Go.ChangeAt Go.RowKit Val
set_option linter.unusedVariables false

set_option maxHeartbeats 400000 in
set_option maxRecDepth 100000 in
/-- .. of one below 0 -/
theorem figures_neg : ∀ (N u : Nat), u < N → 1 ≤ u → u ≤ 9223372036854775808 → ∀ w : World,
    Calls Tryd.prog 37 #[.int .i64 (-(u : Int))] w fun e w' => e = .returned (.string ⟨(45 :: Lib.decDigits u).toArray⟩) ∧ Below w.heap.size w w'
  | 0, u, h, _, _, _ => absurd h (Nat.not_lt_zero u)
  | N + 1, u, h, h1, hu, w => by
    by_cases h10 : u < 10
    · have HP := Lib.hid (figures_pos (u + 1) u (by omega) (by omega))
      have hL : (Lib.decDigits u).length ≤ 21 := by have := Lib.itoa_length_le (u : Nat) (by omega) (by omega); rwa [itoa_pos] at this
      go_enter Tryd.func37, Tryd.ntmps37
      go_wp2_with fail
      refine (HP.out _).mono ?_
      rintro e w1 ⟨rfl, hb1⟩
      have L1 := Lib.hid hb1
      clear hb1
      go_wp2
      go_ret
      exact ⟨retS (strCat [45] _), L1.out⟩
    · have IH := Lib.hid (figures_neg N (u / 10) (by omega) (by omega) (by omega))
      have HS2 := Lib.hid (dec_big u (by omega))
      have hL := Lib.itoa_length_le (u / 10 : Nat) (by omega) (by omega)
      rw [itoa_pos] at hL
      obtain ⟨q, hq⟩ : ∃ q, u / 10 = q := ⟨_, rfl⟩
      obtain ⟨r, hr⟩ : ∃ r, u % 10 = r := ⟨_, rfl⟩
      have hr10 : r < 10 := by omega
      have hq2 : q ≤ 922337203685477580 := by omega
      have eq1 : (-(u : Int)).tdiv 10 = -(q : Int) := by rw [Int.neg_tdiv, Int.tdiv_eq_ediv_of_nonneg (by omega)]; omega
      have eq2 : (-(u : Int)).tmod 10 = -(r : Int) := by rw [Int.neg_tmod, Int.tmod_eq_emod_of_nonneg (by omega)]; omega
      have eq3 : (u : Int).tdiv 10 = (q : Int) := by rw [Int.tdiv_eq_ediv_of_nonneg (by omega)]; omega
      have eq4 : (u : Int).tmod 10 = (r : Int) := by rw [Int.tmod_eq_emod_of_nonneg (by omega)]; omega
      have hsl := cut_at ⟨#[48, 49, 50, 51, 52, 53, 54, 55, 56, 57]⟩ r (r + 1) r (r + 1) rfl (by omega) (by omega) (by show r + 1 ≤ 10; omega)
      obtain ⟨d, hd⟩ : ∃ d, UInt8.ofNat (48 + r) = d := ⟨_, rfl⟩
      rw [dig_at r hr10, hd] at hsl
      rw [hq] at IH HS2 hL
      rw [hr, hd] at HS2
      obtain ⟨T, hT⟩ : ∃ T : ByteArray, T = ⟨(45 :: Lib.decDigits q).toArray⟩ := ⟨_, rfl⟩
      have hTs : T.size ≤ 22 := by rw [hT, size_list]; simp; omega
      have hadd := fun w => run_string_add_sum (P := Tryd.prog) w T ⟨#[d]⟩ (by show T.size + 1 ≤ _; omega)
      have hT3 : ¬ (9223372036854775807 ≤ T.size) := by omega
      rw [← hT] at IH
      have HT := Lib.hid hT
      clear hT hL
      have w0 : IntKind.i64.wrap (-(q : Int)) = -(q : Int) := by rw [IntKind.wrap_i64]; omega
      have w1 : IntKind.i64.wrap (-(r : Int)) = -(r : Int) := by rw [IntKind.wrap_i64]; omega
      have w2 : IntKind.i64.wrap (r : Int) = (r : Int) := by rw [IntKind.wrap_i64]; omega
      have w3 : IntKind.i64.wrap ((r : Int) + 1) = (r : Int) + 1 := by rw [IntKind.wrap_i64]; omega
      clear hq hr hd
      go_enter Tryd.func37, Tryd.ntmps37
      go_wp2_with fail
      go_region_held3 (fun w' => True ∧ Below w.heap.size w w')
        (first | assumption | (refine keepP hb5 (by assumption) ?_; intro kk; trivial) | (exact ⟨trivial, Below.drew (Below.refl _ _)⟩))
        (first | (go_at_call 37; refine (IH.out _).mono ?_; rintro e w5 ⟨rfl, hb5⟩))
      all_goals
        have M1 := Lib.hid (show Below w.heap.size w _ by rename_i hS; exact hS.2)
        go_wp2
        go_ret
        exact ⟨retS (by rw [HS2.out, HT.out]; exact strCat (45 :: Lib.decDigits q) [d]), M1.out⟩
theorem figures_any (n : Int) (hn : fits n) (w : World) :
    Calls Tryd.prog 37 #[.int .i64 n] w fun e w' => e = .returned (.string ⟨(Lib.itoa n).toArray⟩) ∧ Below w.heap.size w w' := by
  unfold fits at hn
  by_cases h : 0 ≤ n
  · obtain ⟨u, rfl⟩ : ∃ u : Nat, n = u := ⟨n.toNat, by omega⟩
    rw [itoa_pos]
    exact figures_pos (u + 1) u (by omega) (by omega) w
  · obtain ⟨u, rfl⟩ : ∃ u : Nat, n = -(u : Int) := ⟨n.natAbs, by omega⟩
    rw [Lib.itoa_neg u (by omega)]
    exact figures_neg (u + 1) u (by omega) (by omega) (by omega) w
set_option maxHeartbeats 2000000 in
theorem rvshow_any (k n : Int) (s : ByteArray) (w : World) (hn : fits n) :
    Calls Tryd.prog 21 #[.agg #[.int .i64 k, .int .i64 n, .string s]] w fun e w' => e = .returned (.string ⟨(showL k n s).toArray⟩) ∧ Below w.heap.size w w' := by
  have HN := Lib.hid hn
  obtain ⟨b, hb⟩ : ∃ b, rightB k n s = b := ⟨_, rfl⟩
  have HR := Lib.hid (rright_is k n s b hb)
  cases b
  · have HS := Lib.hid (show_wrong hb)
    clear hb hn
    go_enter Tryd.func21, Tryd.ntmps21
    go_wp2_with fail
    refine (HR.out _).mono ?_
    rintro e w1 ⟨rfl, hb1⟩
    have L1 := Lib.hid (bnext (below_alloc w _) (by simp) hb1)
    clear hb1
    go_wp2
    go_ret
    exact ⟨retS (by rw [HS.out]), L1.out⟩
  · rcases right_kinds hb with rfl | rfl | rfl | rfl | rfl
    · have HS := Lib.hid (show_0 hb)
      clear hb hn
      go_enter Tryd.func21, Tryd.ntmps21
      go_wp2_with fail
      refine (HR.out _).mono ?_
      rintro e w1 ⟨rfl, hb1⟩
      have L1 := Lib.hid (bnext (below_alloc w _) (by simp) hb1)
      obtain ⟨x0, x1, x2, xz⟩ := (Box.fresh w 0 n s 51).call hb1
      clear hb1
      go_wp2
      go_ret
      exact ⟨retS (by rw [HS.out]), L1.out⟩
    · have hs := show_1 hb
      have h01 : n = 0 ∨ n = 1 := by unfold rightB holdsB at hb; simp at hb; exact hb.2
      clear hb hn
      rcases h01 with rfl | rfl
      · rw [if_pos rfl] at hs
        have HS := Lib.hid hs
        clear hs
        go_enter Tryd.func21, Tryd.ntmps21
        go_wp2_with fail
        refine (HR.out _).mono ?_
        rintro e w1 ⟨rfl, hb1⟩
        have L1 := Lib.hid (bnext (below_alloc w _) (by simp) hb1)
        obtain ⟨x0, x1, x2, xz⟩ := (Box.fresh w 1 0 s 51).call hb1
        clear hb1
        go_wp2
        go_ret
        exact ⟨retS (by rw [HS.out]), L1.out⟩
      · rw [if_neg (by decide)] at hs
        have HS := Lib.hid hs
        clear hs
        go_enter Tryd.func21, Tryd.ntmps21
        go_wp2_with fail
        refine (HR.out _).mono ?_
        rintro e w1 ⟨rfl, hb1⟩
        have L1 := Lib.hid (bnext (below_alloc w _) (by simp) hb1)
        obtain ⟨x0, x1, x2, xz⟩ := (Box.fresh w 1 1 s 51).call hb1
        clear hb1
        go_wp2
        go_ret
        exact ⟨retS (by rw [HS.out]), L1.out⟩
    · have HS := Lib.hid (show_n hb (by decide) (by decide) (by decide))
      clear hb hn
      go_enter Tryd.func21, Tryd.ntmps21
      go_wp2_with fail
      refine (HR.out _).mono ?_
      rintro e w1 ⟨rfl, hb1⟩
      have L1 := Lib.hid (bnext (below_alloc w _) (by simp) hb1)
      have z1 := L1.out.size
      obtain ⟨x0, x1, x2, xz⟩ := (Box.fresh w 2 n s 51).call hb1
      clear hb1
      go_wp2_with fail
      refine (figures_any n HN.out _).mono ?_
      rintro e w2 ⟨rfl, hb2⟩
      have L2 := Lib.hid (bnext L1.out z1 hb2)
      clear hb2
      go_wp2
      go_ret
      exact ⟨retS (by rw [HS.out]), L2.out⟩
    · have HS := Lib.hid (show_n hb (by decide) (by decide) (by decide))
      clear hb hn
      go_enter Tryd.func21, Tryd.ntmps21
      go_wp2_with fail
      refine (HR.out _).mono ?_
      rintro e w1 ⟨rfl, hb1⟩
      have L1 := Lib.hid (bnext (below_alloc w _) (by simp) hb1)
      have z1 := L1.out.size
      obtain ⟨x0, x1, x2, xz⟩ := (Box.fresh w 3 n s 51).call hb1
      clear hb1
      go_wp2_with fail
      refine (figures_any n HN.out _).mono ?_
      rintro e w2 ⟨rfl, hb2⟩
      have L2 := Lib.hid (bnext L1.out z1 hb2)
      clear hb2
      go_wp2
      go_ret
      exact ⟨retS (by rw [HS.out]), L2.out⟩
    · have HS := Lib.hid (show_4 hb)
      have h200 := right_small hb
      clear hb hn
      go_enter Tryd.func21, Tryd.ntmps21
      go_wp2_with fail
      refine (HR.out _).mono ?_
      rintro e w1 ⟨rfl, hb1⟩
      have L1 := Lib.hid (bnext (below_alloc w _) (by simp) hb1)
      have z1 := L1.out.size
      obtain ⟨x0, x1, x2, xz⟩ := (Box.fresh w 4 n s 51).call hb1
      clear hb1
      go_wp2
      go_loop [4, 5] (fun t i => ∃ j : Nat, j ≤ s.size ∧ i = .int .i64 j ∧ t = .string ⟨(39 :: dbl (s.data.toList.take j)).toArray⟩) (fun _ i => s.size - (intOf i).toNat)
      case atStart => exact ⟨0, by omega, rfl, rfl⟩
      case round =>
        obtain ⟨j, hj, rfl, rfl⟩ := hrel
        have hle := dbl_length (s.data.toList.take j)
        have hle2 : (s.data.toList.take j).length ≤ 200 := by rw [List.length_take]; omega
        by_cases hlt : j < s.size
        · have hsl := cut_at s j (j + 1) j (j + 1) rfl (by omega) (by omega) (by omega)
          rw [one_at s j hlt] at hsl
          have HE := Lib.hid (dbl_take s j hlt)
          by_cases a0 : s[j] = 39
          · have i0 : (s[j].toNat : Int) = 39 := by rw [a0]; rfl
            have HE2 := Lib.hid (HE.out.trans (by rw [if_pos a0]))
            rw [a0] at hsl
            clear a0 HE
            go_wp2
            go_round
            case rel => exact ⟨j + 1, by omega, by go_num, by rw [HE2.out]; exact strV (ba_of (by simp))⟩
            case measure => simp [intOf]; omega
          · have i0 : ((s[j].toNat : Int) == 39) = false := u8_ne39 a0
            have HE2 := Lib.hid (HE.out.trans (by rw [if_neg a0]))
            clear a0 HE
            go_wp2
            go_round
            case rel => exact ⟨j + 1, by omega, by go_num, by rw [HE2.out]; exact strV (ba_of (by simp))⟩
            case measure => simp [intOf]; omega
        · obtain rfl : j = s.size := by omega
          rw [List.take_of_length_le (by rw [size_list]; exact Nat.le_refl _)] at *
          go_wp2
          go_ret
          exact ⟨retS (ba_of (by rw [HS.out]; simp)), L1.out⟩
end Go.Proofs.YthkdpfadjbhmoaaDoor.Code

