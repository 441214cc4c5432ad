/-
  Contracts of value.Show and of the document's Show of one value, for every value.
-/
import Derived.Test.YtkibacolnagkcaaM11
import Derived.Test.YtkibacolnagkcaaM3
import Derived.Lib.AppendIntMem
import Derived.Lib.LaidTab
import Derived.Test.YtkibacolnagkcaaM10
namespace Go.Proofs.Ytkibacolnagkcaa.Code
open Go.ChangeShapes Go.WideShapes Go.ChangeAt Go.RowKit Val
set_option linter.unusedVariables false

theorem u8_ne39 {b : UInt8} (h : ¬ b = 39) : ((b.toNat : Int) == 39) = false := by
  have : b.toNat ≠ 39 := fun e => h (UInt8.toNat_inj.1 e)
  simp
  omega
theorem dig_at (r : Nat) (h : r < 10) : (⟨#[48, 49, 50, 51, 52, 53, 54, 55, 56, 57]⟩ : ByteArray).extract r (r + 1) = ⟨#[UInt8.ofNat (48 + r)]⟩ := by
  rcases (show r = 0 ∨ r = 1 ∨ r = 2 ∨ r = 3 ∨ r = 4 ∨ r = 5 ∨ r = 6 ∨ r = 7 ∨ r = 8 ∨ r = 9 by omega) with rfl | rfl | rfl | rfl | rfl | rfl | rfl | rfl | rfl | rfl <;> rfl
theorem dec_small (u : Nat) (h : u < 10) : Lib.decDigits u = [UInt8.ofNat (48 + u)] := Lib.decDigits_one h
theorem dec_big (u : Nat) (h : 10 ≤ u) : Lib.decDigits u = Lib.decDigits (u / 10) ++ [UInt8.ofNat (48 + u % 10)] := by rw [Lib.decDigits, dif_neg (by omega)]
theorem itoa_pos (u : Nat) : Lib.itoa (u : Int) = Lib.decDigits u := Lib.itoa_nonneg u
set_option maxHeartbeats 2000000 in
set_option maxRecDepth 100000 in
/-- the document's figures of a number that is not below 0 -/
theorem figures_pos : ∀ (N u : Nat), u < N → u ≤ 9223372036854775807 → ∀ w : World,
    Calls Try.prog 96 #[.int .i64 (u : Int)] w fun e w' => e = .returned (.string ⟨(Lib.decDigits u).toArray⟩) ∧ Below w.heap.size w w'
  | 0, u, h, _, _ => absurd h (Nat.not_lt_zero u)
  | N + 1, u, h, hu, w => by
    have IH := Lib.hid (fun (h10 : 10 ≤ u) => figures_pos N (u / 10) (by omega) (by omega))
    have HS1 := Lib.hid (dec_small u)
    have HS2 := Lib.hid (dec_big u)
    have hL := Lib.itoa_length_le (u / 10 : Nat) (by omega) (by omega)
    rw [itoa_pos] at hL
    obtain ⟨q, hq⟩ : ∃ q, u / 10 = q := ⟨_, rfl⟩
    obtain ⟨r, hr⟩ : ∃ r, u % 10 = r := ⟨_, rfl⟩
    have hr10 : r < 10 := by omega
    have hq2 : q ≤ 922337203685477580 := by omega
    have hqr : u = 10 * q + r := by omega
    have eq1 : (u : Int).tdiv 10 = (q : Int) := by rw [Int.tdiv_eq_ediv_of_nonneg (by omega)]; omega
    have eq2 : (u : Int).tmod 10 = (r : Int) := by rw [Int.tmod_eq_emod_of_nonneg (by omega)]; omega
    have hsl := cut_at ⟨#[48, 49, 50, 51, 52, 53, 54, 55, 56, 57]⟩ r (r + 1) r (r + 1) rfl (by omega) (by omega) (by show r + 1 ≤ 10; omega)
    obtain ⟨d, hd⟩ : ∃ d, UInt8.ofNat (48 + r) = d := ⟨_, rfl⟩
    rw [dig_at r hr10, hd] at hsl
    have eq3 : (u : Int) / 10 = (q : Int) := by omega
    have eq4 : (u : Int) % 10 = (r : Int) := by omega
    have HQR := Lib.hid hqr
    clear hqr
    rw [hq] at IH HS2 hL
    rw [hr, hd] at HS2
    by_cases h10 : u < 10
    · have HX := Lib.hid (show Lib.decDigits u = [d] by have := HQR.out; rw [HS1.out h10, show u = r by omega, hd])
      clear IH HS1 HS2 hq hr hd
      go_enter Try.func96, Try.ntmps96
      go_wp2
      go_ret
      exact ⟨retS (by rw [HX.out]), Below.refl _ _⟩
    · have HX := Lib.hid (HS2.out (by omega))
      have IH2 := Lib.hid (IH.out (by omega))
      have e10 : decide ((10 : Int) ≤ (u : Int)) = true := by simp; omega
      clear IH HS1 HS2 hq hr hd
      go_enter Try.func96, Try.ntmps96
      go_wp2_with fail
      refine (IH2.out _).mono ?_
      rintro e w1 ⟨rfl, hb1⟩
      have L1 := Lib.hid hb1
      clear hb1
      go_wp2
      go_ret
      exact ⟨retS (by rw [HX.out]; exact strCat _ _), L1.out⟩
end Go.Proofs.Ytkibacolnagkcaa.Code
/-
  Contract of lex's first: the word that begins a text.
-/
namespace Go.Proofs.Ytkibacolnagkcaa.Code
open Go.ChangeShapes Go.WideShapes Go.ChangeAt Go.RowKit Val
set_option linter.unusedVariables false
set_option linter.unusedSimpArgs false
/-- a word's three cells at the beginning of a block -/
def WBox (W : World) (b : Nat) (k : Int) (s : ByteArray) (n : Int) : Prop := W.cell? ⟨b, 0, none⟩ = some (.int .i64 k) ∧ W.cell? ⟨b, 1, none⟩ = some (.string s) ∧ W.cell? ⟨b, 2, none⟩ = some (.int .i64 n) ∧ b < W.heap.size ∧ ∀ j, W.frozen? ⟨b, j, none⟩ = false
theorem WBox.call {W W' : World} {b : Nat} {k n : Int} {s : ByteArray} (h : WBox W b k s n) (hb : Below W.heap.size W W') : WBox W' b k s n := by
  obtain ⟨h0, h1, h2, h3, h4⟩ := h
  exact ⟨by rw [hb.cell (p := ⟨b, 0, none⟩) h3]; exact h0, by rw [hb.cell (p := ⟨b, 1, none⟩) h3]; exact h1, by rw [hb.cell (p := ⟨b, 2, none⟩) h3]; exact h2, Nat.lt_of_lt_of_le h3 hb.size, fun j => by rw [hb.frozen (p := ⟨b, j, none⟩) h3]; exact h4 j⟩
theorem WBox.alloc {W : World} {b : Nat} {k n : Int} {s : ByteArray} (h : WBox W b k s n) (o : Obj) : WBox (W.alloc o) b k s n := h.call (below_alloc W o)
theorem WBox.fresh (W : World) (k n : Int) (s : ByteArray) (t : TypeId) : WBox (W.alloc (.cells #[.int .i64 k, .string s, .int .i64 n] t)) W.heap.size k s n := ⟨by simp [go_sem], by simp [go_sem], by simp [go_sem], by simp, fun j => by simp [go_sem]⟩
theorem dbl_le : ∀ l : List UInt8, l.length ≤ (dbl l).length
  | [] => Nat.le_refl _
  | b :: l => by
    have := dbl_le l
    rw [dbl]
    split <;> simp <;> omega
/-- the word that comes, and how many bytes it has; 0: none does -/
def FirstIs (l : List UInt8) (e : Ending) : Prop := ∃ (k : Int) (t : ByteArray) (n : Nat), e = .returned (.tuple #[.agg #[.int .i64 k, .string t, .int .i64 0], .int .i64 n]) ∧ (firstL l = none ∧ n = 0 ∨ firstL l = some (k, t.data.toList, n))
end Go.Proofs.Ytkibacolnagkcaa.Code
/-
  Contracts of the document's run and quote: how many bytes come, and which text.
-/
namespace Go.Proofs.Ytkibacolnagkcaa.Code
open Go.ChangeShapes Go.WideShapes Go.ChangeAt Go.RowKit Val
set_option linter.unusedVariables false
theorem u8_no95 {b : UInt8} (h : decide (b.toNat = 95) = false) : ((b.toNat : Int) != 95) = true := by
  have : ¬ b.toNat = 95 := by simpa using h
  simp
  omega
theorem u8_is95 {b : UInt8} (h : decide (b.toNat = 95) = true) : ((b.toNat : Int) != 95) = false := by
  have : b.toNat = 95 := by simpa using h
  rw [this]
  rfl
set_option maxHeartbeats 4000000 in
theorem rrun_any (name : Bool) (p : UInt8 → Bool) (hp : ∀ c, p c = (figB c || (name && (letB c || decide (c.toNat = 95))))) (s : ByteArray) (w : World) (hs : s.size ≤ 281474976710656) :
    Calls Try.prog 65 #[.string s, .bool name] w fun e w' => e = .returned (.int .i64 (runL p s.data.toList : Nat)) ∧ w = w' := by
  have HP := Lib.hid hp
  clear hp
  go_enter Try.func65, Try.ntmps65
  go_wp2
  go_loop [5] (fun t => ∃ n : Nat, n ≤ s.size ∧ t = .int .i64 n ∧ n ≤ runL p s.data.toList) (fun t => s.size - (intOf t).toNat)
  case atStart => exact ⟨0, by omega, rfl, by omega⟩
  case round =>
    obtain ⟨n, hn, rfl, hr⟩ := hrel
    have HR := Lib.hid hr
    clear hr
    by_cases hlt : n < s.size
    · obtain ⟨c, hc⟩ : ∃ c, s[n] = c := ⟨_, rfl⟩
      obtain ⟨a, ha⟩ : ∃ a, letB c = a := ⟨_, rfl⟩
      obtain ⟨b, hb⟩ : ∃ b, figB c = b := ⟨_, rfl⟩
      obtain ⟨u, hu⟩ : ∃ u, decide (c.toNat = 95) = u := ⟨_, rfl⟩
      have HA := Lib.hid (fun w => (rletter_any c w).mono (R' := fun e w' => e = .returned (.bool a) ∧ w = w') (by rintro e w' ⟨h1, h2⟩; exact ⟨by rw [h1, ha], h2⟩))
      have HB := Lib.hid (fun w => (rfigure_any c w).mono (R' := fun e w' => e = .returned (.bool b) ∧ w = w') (by rintro e w' ⟨h1, h2⟩; exact ⟨by rw [h1, hb], h2⟩))
      have HPC := Lib.hid (show p c = (b || (name && (a || u))) by rw [HP.out c, ha, hb, hu])
      clear ha hb
      cases u
      · have i0 := u8_no95 hu
        clear hu
        go_wp2_with fail
        refine (HA.out _).mono ?_
        rintro e w1 ⟨rfl, rfl⟩
        go_wp2_with fail
        refine (HB.out _).mono ?_
        rintro e w1 ⟨rfl, rfl⟩
        cases b <;> cases name <;> cases a
        all_goals go_wp2
        all_goals first
          | (have HE := Lib.hid (runL_stop p s.data.toList n hlt HR.out (by rw [list_get s n hlt, hc, HPC.out]; rfl))
             go_ret
             exact ⟨ret1 (by rw [HE.out]), rfl⟩)
          | (have HE := Lib.hid (runL_step p s.data.toList n hlt HR.out (by rw [list_get s n hlt, hc, HPC.out]; rfl))
             go_round
             (case rel => exact ⟨n + 1, by omega, by go_num, HE.out⟩)
             (case measure => (simp [intOf]; try omega)))
      · have i0 := u8_is95 hu
        clear hu
        go_wp2_with fail
        refine (HA.out _).mono ?_
        rintro e w1 ⟨rfl, rfl⟩
        go_wp2_with fail
        refine (HB.out _).mono ?_
        rintro e w1 ⟨rfl, rfl⟩
        cases b <;> cases name <;> cases a
        all_goals go_wp2
        all_goals first
          | (have HE := Lib.hid (runL_stop p s.data.toList n hlt HR.out (by rw [list_get s n hlt, hc, HPC.out]; rfl))
             go_ret
             exact ⟨ret1 (by rw [HE.out]), rfl⟩)
          | (have HE := Lib.hid (runL_step p s.data.toList n hlt HR.out (by rw [list_get s n hlt, hc, HPC.out]; rfl))
             go_round
             (case rel => exact ⟨n + 1, by omega, by go_num, HE.out⟩)
             (case measure => (simp [intOf]; try omega)))
    · have HE := Lib.hid (show runL p s.data.toList = n by have := runL_le p s.data.toList; have := HR.out; rw [← size_list] at *; omega)
      go_wp2
      go_ret
      exact ⟨ret1 (by rw [HE.out]), rfl⟩
theorem retSN {a c : ByteArray} {b d : Int} (h : a = c) (g : b = d) : Ending.returned (.tuple #[.string a, .int .i64 b]) = .returned (.tuple #[.string c, .int .i64 d]) := by rw [h, g]
set_option maxHeartbeats 4000000 in
theorem rquote_any (s : ByteArray) (w : World) (hs : s.size ≤ 140737488355328) (h1 : 1 ≤ s.size) :
    Calls Try.prog 66 #[.string s] w fun e w' => e = .returned (.tuple #[.string ⟨(quoT s.data.toList).toArray⟩, .int .i64 (quoN s.data.toList : Nat)]) ∧ w = w' := by
  go_enter Try.func66, Try.ntmps66
  go_wp2
  go_loop [4, 5] (fun v t => ∃ (n : Nat) (out : List UInt8), n ≤ s.size ∧ t = .int .i64 n ∧ v = .string ⟨out.toArray⟩ ∧ 1 ≤ n ∧ out.length ≤ n ∧ Hid (quoI s.data.toList n out)) (fun _ t => s.size - (intOf t).toNat)
  case atStart => exact ⟨1, [], by omega, rfl, rfl, by omega, by simp, Lib.hid (quoI_start _)⟩
  case round =>
    obtain ⟨n, out, hn, rfl, rfl, hn1, hlo, HO⟩ := hrel
    by_cases hlt : n < s.size
    · obtain ⟨c, hc⟩ : ∃ c, s[n] = c := ⟨_, rfl⟩
      by_cases hc39 : c = 39
      · subst hc39
        by_cases hlt2 : n + 1 < s.size
        · obtain ⟨d, hd⟩ : ∃ d, s[n + 1] = d := ⟨_, rfl⟩
          by_cases hd39 : d = 39
          · subst hd39
            have HE := Lib.hid (quoI_two HO.out (show n + 1 < s.data.toList.length from hlt2) ((list_get s n hlt hlt).trans hc) ((list_get s (n + 1) hlt2 hlt2).trans hd))
            go_wp2
            go_round
            case rel => exact ⟨n + 2, out ++ [39], by omega, by go_num, strV (strCat out [39]), by omega, by simp; omega, HE⟩
            case measure => (simp [intOf]; try omega)
          · have HE := Lib.hid (quoI_end HO.out (show n < s.data.toList.length from hlt) ((list_get s n hlt hlt).trans hc) (fun g e => hd39 (hd.symm.trans ((list_get s (n + 1) hlt2 g).symm.trans e))))
            have i0 := u8_nq39 hd39
            clear hd39
            go_wp2
            go_ret2
            exact ⟨retSN (by rw [HE.out.2]) (by rw [HE.out.1]; go_num), rfl⟩
        · have HE := Lib.hid (quoI_end HO.out (show n < s.data.toList.length from hlt) ((list_get s n hlt hlt).trans hc) (fun g => absurd g hlt2))
          go_wp2
          go_ret2
          exact ⟨retSN (by rw [HE.out.2]) (by rw [HE.out.1]; go_num), rfl⟩
      · have HE := Lib.hid (quoI_other HO.out (show n < s.data.toList.length from hlt) (by rw [list_get s n hlt, hc]; exact hc39))
        have hsl := cut_at s n (n + 1) n (n + 1) rfl (by omega) (by omega) (by omega)
        rw [one_at s n hlt, hc] at hsl
        have hg := list_get s n hlt hlt
        rw [hg, hc] at HE
        clear hg
        have i1 := u8_nq39 hc39
        clear hc39
        go_wp2
        go_round
        case rel => exact ⟨n + 1, out ++ [c], by omega, by go_num, strV (strCat out [c]), by omega, by simp; omega, HE⟩
        case measure => (simp [intOf]; try omega)
    · have HE := Lib.hid (quoI_none HO.out (by rw [← size_list]; omega))
      go_wp2
      go_ret2
      exact ⟨retSN (by rw [HE.out.2]) (by rw [HE.out.1]; rfl), rfl⟩
end Go.Proofs.Ytkibacolnagkcaa.Code
/-
  Contract of the document's one: the word that comes.
-/
namespace Go.Proofs.Ytkibacolnagkcaa.Code
open Go.ChangeShapes Go.WideShapes Go.ChangeAt Go.RowKit Val
set_option linter.unusedVariables false
set_option linter.unusedSimpArgs false
theorem quo_first {s : List UInt8} (r : List UInt8) (h : s = 39 :: r) : firstL s = if quoN s = 0 ∨ 200 < (quoT s).length then none else some (2, quoT s, quoN s) := by
  subst h
  rw [firstL, if_neg (by decide), if_neg (by decide), if_pos rfl]
  unfold quoN quoT
  rw [List.drop_one, List.tail_cons]
  cases quoL r with
  | none => rfl
  | some v =>
    obtain ⟨t, n⟩ := v
    dsimp only
    by_cases h200 : t.length ≤ 200
    · rw [if_pos h200, if_neg (by omega)]
    · rw [if_neg h200, if_pos (by omega)]
theorem quoT_le (s : List UInt8) : (quoT s).length ≤ s.length := by
  unfold quoT
  cases hq : quoL (s.drop 1) with
  | none => exact Nat.zero_le _
  | some v =>
    obtain ⟨t, n⟩ := v
    obtain ⟨r, e1, -⟩ := quoL_is _ t n hq
    have h1 := dbl_le t
    have h2 : (s.drop 1).length = (dbl t ++ 39 :: r).length := by rw [e1]
    simp at h2
    show t.length ≤ s.length
    omega
theorem two_of (s : ByteArray) (c d : UInt8) (h : 1 < s.size) (hc : s[0] = c) (hd : s[1] = d) : s.extract 0 2 = ⟨#[c, d]⟩ := by
  refine ba_of (l := [c, d]) ?_
  rw [to_list, list_two s h, hc, hd]
  rfl
theorem one_of (s : ByteArray) (c : UInt8) (h : 0 < s.size) (hc : s[0] = c) : s.extract 0 1 = ⟨#[c]⟩ := by
  refine ba_of (l := [c]) ?_
  rw [to_list, list_cons s h, hc]
  rfl
theorem pair_list (c d : UInt8) : (⟨#[c, d]⟩ : ByteArray).toList = [c, d] := by rw [ByteArray.toList_eq]
theorem oneB_cases {c : UInt8} (h : oneB c = true) : c = 40 ∨ c = 41 ∨ c = 44 ∨ c = 61 ∨ c = 60 ∨ c = 62 ∨ c = 43 ∨ c = 45 ∨ c = 42 := by
  unfold oneB at h
  simp at h
  rcases h with (((((((h | h) | h) | h) | h) | h) | h) | h) | h <;> simp [h]
theorem oneB_not {c : UInt8} (h : oneB c = false) : (c ≠ 40 ∧ c ≠ 41 ∧ c ≠ 44 ∧ c ≠ 61) ∧ (c ≠ 60 ∧ c ≠ 62 ∧ c ≠ 43 ∧ c ≠ 45 ∧ c ≠ 42) := by
  unfold oneB at h
  simp at h
  obtain ⟨⟨⟨⟨⟨⟨⟨⟨h1, h2⟩, h3⟩, h4⟩, h5⟩, h6⟩, h7⟩, h8⟩, h9⟩ := h
  exact ⟨⟨h1, h2, h3, h4⟩, h5, h6, h7, h8, h9⟩
set_option maxHeartbeats 8000000 in
set_option maxRecDepth 100000 in
theorem one8_mark (s : ByteArray) (w : World) (hs : s.size ≤ 140737488355328) (h1 : 1 ≤ s.size) (c : UInt8) (hc : s[0] = c) (hl : s.data.toList = c :: s.data.toList.drop 1) (N : Nat) (hNs : N ≤ s.size)
    (HA : Hid (∀ w, Calls Try.prog 63 #[.int .u8 c.toNat] w fun e w' => e = .returned (.bool false) ∧ w = w'))
    (HB : Hid (∀ w, Calls Try.prog 64 #[.int .u8 c.toNat] w fun e w' => e = .returned (.bool false) ∧ w = w'))
    (HR : Hid (∀ w, Calls Try.prog 65 #[.string s, .bool false] w fun e w' => e = .returned (.int .i64 (N : Int)) ∧ w = w'))
    (j39 : ((c.toNat : Int) == 39) = false)
    (hf : firstL s.data.toList = if twoB s.data.toList = true then some (3, s.data.toList.take 2, 2) else if oneB c = true then some (3, [c], 1) else none) :
    Calls Try.prog 41 #[.string s] w fun e w' => FirstIs s.data.toList e ∧ Below w.heap.size w w' := by
  have hsl1 := cut_to s 1 1 rfl (by omega)
  rw [one_of s c h1 hc] at hsl1
  by_cases h2 : twoB s.data.toList = true
  · rw [if_pos h2] at hf
    have hlt : 1 < s.size := by
      by_cases g : 1 < s.size
      · exact g
      · rw [list_short s h1 g] at h2
        cases h2
    obtain ⟨d, hd⟩ : ∃ d, s[1] = d := ⟨_, rfl⟩
    have hl2 := list_two s hlt
    rw [hc, hd] at hl2
    have hsl := cut_to s 2 2 rfl (by omega)
    rw [two_of s c d hlt hc hd] at hsl
    have HX := Lib.hid (show firstL s.data.toList = some (3, (⟨#[c, d]⟩ : ByteArray).data.toList, 2) by rw [hf, hl2]; rfl)
    have hcd : c = 60 ∧ d = 62 ∨ c = 60 ∧ d = 61 ∨ c = 62 ∧ d = 61 := by
      rw [hl2, twoB_cons, twoB_two] at h2
      simp at h2
      rcases h2 with ⟨h, h' | h'⟩ | ⟨h, h'⟩
      · exact .inl ⟨h, h'⟩
      · exact .inr (.inl ⟨h, h'⟩)
      · exact .inr (.inr ⟨h, h'⟩)
    clear hf h2 hl hl2 j39
    rcases hcd with ⟨rfl, rfl⟩ | ⟨rfl, rfl⟩ | ⟨rfl, rfl⟩
    · go_enter Try.func41, Try.ntmps41
      go_wp2_with fail
      refine (HA.out _).mono ?_
      rintro e w1 ⟨rfl, rfl⟩
      go_wp2_with fail
      refine (HB.out _).mono ?_
      rintro e w1 ⟨rfl, rfl⟩
      go_wp2_with fail
      refine (HR.out _).mono ?_
      rintro e w1 ⟨rfl, rfl⟩
      go_wp2
      exact bodyPost_ret (v := .tuple #[.agg #[.int .i64 3, .string ⟨#[60, 62]⟩, .int .i64 0], .int .i64 2]) (by simp [results, Try.results41, go_sem, World.cell?_setCell_other]) rfl ⟨⟨3, _, 2, rfl, .inr HX.out⟩, below_alloc w _⟩
    · go_enter Try.func41, Try.ntmps41
      go_wp2_with fail
      refine (HA.out _).mono ?_
      rintro e w1 ⟨rfl, rfl⟩
      go_wp2_with fail
      refine (HB.out _).mono ?_
      rintro e w1 ⟨rfl, rfl⟩
      go_wp2_with fail
      refine (HR.out _).mono ?_
      rintro e w1 ⟨rfl, rfl⟩
      go_wp2
      exact bodyPost_ret (v := .tuple #[.agg #[.int .i64 3, .string ⟨#[60, 61]⟩, .int .i64 0], .int .i64 2]) (by simp [results, Try.results41, go_sem, World.cell?_setCell_other]) rfl ⟨⟨3, _, 2, rfl, .inr HX.out⟩, below_alloc w _⟩
    · go_enter Try.func41, Try.ntmps41
      go_wp2_with fail
      refine (HA.out _).mono ?_
      rintro e w1 ⟨rfl, rfl⟩
      go_wp2_with fail
      refine (HB.out _).mono ?_
      rintro e w1 ⟨rfl, rfl⟩
      go_wp2_with fail
      refine (HR.out _).mono ?_
      rintro e w1 ⟨rfl, rfl⟩
      go_wp2
      exact bodyPost_ret (v := .tuple #[.agg #[.int .i64 3, .string ⟨#[62, 61]⟩, .int .i64 0], .int .i64 2]) (by simp [results, Try.results41, go_sem, World.cell?_setCell_other]) rfl ⟨⟨3, _, 2, rfl, .inr HX.out⟩, below_alloc w _⟩
  · rw [if_neg h2] at hf
    by_cases hlt : 1 < s.size
    · obtain ⟨d, hd⟩ : ∃ d, s[1] = d := ⟨_, rfl⟩
      have hl2 := list_two s hlt
      rw [hc, hd] at hl2
      have hsl := cut_to s 2 2 rfl (by omega)
      rw [two_of s c d hlt hc hd] at hsl
      obtain ⟨S, hS⟩ : ∃ S : ByteArray, ⟨#[c, d]⟩ = S := ⟨_, rfl⟩
      rw [hS] at hsl
      have hcd : ¬ (c = 60 ∧ d = 62) ∧ ¬ (c = 60 ∧ d = 61) ∧ ¬ (c = 62 ∧ d = 61) := by
        rw [hl2, twoB_cons, twoB_two] at h2
        simp at h2
        exact ⟨fun e => (h2.1 e.1).1 e.2, fun e => (h2.1 e.1).2 e.2, fun e => h2.2 e.1 e.2⟩
      have k0 : (S.toList == [60, 61]) = false := by rw [← hS, pair_list]; simpa using fun e => fun e2 => hcd.2.1 ⟨e, e2⟩
      have k1 : (S.toList == [62, 61]) = false := by rw [← hS, pair_list]; simpa using fun e => fun e2 => hcd.2.2 ⟨e, e2⟩
      have k2 : (S.toList == [60, 62]) = false := by rw [← hS, pair_list]; simpa using fun e => fun e2 => hcd.1 ⟨e, e2⟩
      by_cases h1b : oneB c = true
      · obtain ⟨T, hT⟩ : ∃ T : ByteArray, ⟨#[c]⟩ = T := ⟨_, rfl⟩
        have HX := Lib.hid (show firstL s.data.toList = some (3, T.data.toList, 1) by rw [hf, if_pos h1b, ← hT])
        have hcs := oneB_cases h1b
        rw [hT] at hsl1
        clear hl2 hS hcd hf h2 h1b hT hl
        rcases hcs with rfl | rfl | rfl | rfl | rfl | rfl | rfl | rfl | rfl
        all_goals
          go_enter Try.func41, Try.ntmps41
          go_wp2_with fail
          refine (HA.out _).mono ?_
          rintro e w1 ⟨rfl, rfl⟩
          go_wp2_with fail
          refine (HB.out _).mono ?_
          rintro e w1 ⟨rfl, rfl⟩
          go_wp2_with fail
          refine (HR.out _).mono ?_
          rintro e w1 ⟨rfl, rfl⟩
          go_wp2
          exact bodyPost_ret (v := .tuple #[.agg #[.int .i64 3, .string T, .int .i64 0], .int .i64 1]) (by simp [results, Try.results41, go_sem, World.cell?_setCell_other]) rfl ⟨⟨3, T, 1, rfl, .inr HX.out⟩, below_alloc w _⟩
      · have HX := Lib.hid (hf.trans (if_neg h1b))
        obtain ⟨⟨n0, n1, n2, n3⟩, n4, n5, n6, n7, n8⟩ := oneB_not (c := c) (by simpa using h1b)
        have m0 := u8_not 40 40 rfl n0
        have m1 := u8_not 41 41 rfl n1
        have m2 := u8_not 44 44 rfl n2
        have m3 := u8_not 61 61 rfl n3
        have m4 := u8_not 60 60 rfl n4
        have m5 := u8_not 62 62 rfl n5
        have m6 := u8_not 43 43 rfl n6
        have m7 := u8_not 45 45 rfl n7
        have m8 := u8_not 42 42 rfl n8
        clear hf h2 hl hl2 hS hcd n0 n1 n2 n3 n4 n5 n6 n7 n8 h1b
        go_enter Try.func41, Try.ntmps41
        go_wp2_with fail
        refine (HA.out _).mono ?_
        rintro e w1 ⟨rfl, rfl⟩
        go_wp2_with fail
        refine (HB.out _).mono ?_
        rintro e w1 ⟨rfl, rfl⟩
        go_wp2_with fail
        refine (HR.out _).mono ?_
        rintro e w1 ⟨rfl, rfl⟩
        go_wp2
        exact bodyPost_ret (v := .tuple #[.agg #[.int .i64 0, .string ⟨#[]⟩, .int .i64 0], .int .i64 0]) (by simp [results, Try.results41, go_sem, World.cell?_setCell_other]) rfl ⟨⟨0, ⟨#[]⟩, 0, rfl, .inl ⟨HX.out, rfl⟩⟩, below_alloc w _⟩
    · by_cases h1b : oneB c = true
      · obtain ⟨T, hT⟩ : ∃ T : ByteArray, ⟨#[c]⟩ = T := ⟨_, rfl⟩
        have HX := Lib.hid (show firstL s.data.toList = some (3, T.data.toList, 1) by rw [hf, if_pos h1b, ← hT])
        have hcs := oneB_cases h1b
        rw [hT] at hsl1
        clear hf h2 h1b hT hl
        rcases hcs with rfl | rfl | rfl | rfl | rfl | rfl | rfl | rfl | rfl
        all_goals
          go_enter Try.func41, Try.ntmps41
          go_wp2_with fail
          refine (HA.out _).mono ?_
          rintro e w1 ⟨rfl, rfl⟩
          go_wp2_with fail
          refine (HB.out _).mono ?_
          rintro e w1 ⟨rfl, rfl⟩
          go_wp2_with fail
          refine (HR.out _).mono ?_
          rintro e w1 ⟨rfl, rfl⟩
          go_wp2
          exact bodyPost_ret (v := .tuple #[.agg #[.int .i64 3, .string T, .int .i64 0], .int .i64 1]) (by simp [results, Try.results41, go_sem, World.cell?_setCell_other]) rfl ⟨⟨3, T, 1, rfl, .inr HX.out⟩, below_alloc w _⟩
      · have HX := Lib.hid (hf.trans (if_neg h1b))
        obtain ⟨⟨n0, n1, n2, n3⟩, n4, n5, n6, n7, n8⟩ := oneB_not (c := c) (by simpa using h1b)
        have m0 := u8_not 40 40 rfl n0
        have m1 := u8_not 41 41 rfl n1
        have m2 := u8_not 44 44 rfl n2
        have m3 := u8_not 61 61 rfl n3
        have m4 := u8_not 60 60 rfl n4
        have m5 := u8_not 62 62 rfl n5
        have m6 := u8_not 43 43 rfl n6
        have m7 := u8_not 45 45 rfl n7
        have m8 := u8_not 42 42 rfl n8
        clear hf h2 hl n0 n1 n2 n3 n4 n5 n6 n7 n8 h1b
        go_enter Try.func41, Try.ntmps41
        go_wp2_with fail
        refine (HA.out _).mono ?_
        rintro e w1 ⟨rfl, rfl⟩
        go_wp2_with fail
        refine (HB.out _).mono ?_
        rintro e w1 ⟨rfl, rfl⟩
        go_wp2_with fail
        refine (HR.out _).mono ?_
        rintro e w1 ⟨rfl, rfl⟩
        go_wp2
        exact bodyPost_ret (v := .tuple #[.agg #[.int .i64 0, .string ⟨#[]⟩, .int .i64 0], .int .i64 0]) (by simp [results, Try.results41, go_sem, World.cell?_setCell_other]) rfl ⟨⟨0, ⟨#[]⟩, 0, rfl, .inl ⟨HX.out, rfl⟩⟩, below_alloc w _⟩
set_option maxHeartbeats 8000000 in
set_option maxRecDepth 100000 in
theorem one8_any (s : ByteArray) (w : World) (hs : s.size ≤ 140737488355328) (h1 : 1 ≤ s.size) :
    Calls Try.prog 41 #[.string s] w fun e w' => FirstIs s.data.toList e ∧ Below w.heap.size w w' := by
  obtain ⟨c, hc⟩ : ∃ c, s[0] = c := ⟨_, rfl⟩
  have hl := list_cons s h1
  rw [hc] at hl
  obtain ⟨a, ha⟩ : ∃ a, letB c = a := ⟨_, rfl⟩
  obtain ⟨b, hb⟩ : ∃ b, figB c = b := ⟨_, rfl⟩
  have HA := Lib.hid (fun w => (rletter_any c w).mono (R' := fun e w' => e = .returned (.bool a) ∧ w = w') (by rintro e w' ⟨h1, h2⟩; exact ⟨by rw [h1, ha], h2⟩))
  have HB := Lib.hid (fun w => (rfigure_any c w).mono (R' := fun e w' => e = .returned (.bool b) ∧ w = w') (by rintro e w' ⟨h1, h2⟩; exact ⟨by rw [h1, hb], h2⟩))
  cases a
  · obtain ⟨N, hN⟩ : ∃ N, runL figB s.data.toList = N := ⟨_, rfl⟩
    have HR := Lib.hid (fun w => rrun_any false figB (by intro c; simp) s w (by omega))
    rw [hN] at HR
    have hNs : N ≤ s.size := by rw [← hN]; exact runL_le _ _
    cases b
    · by_cases h39 : c = 39
      · subst h39
        have hq := quo_first _ hl
        have HQ := Lib.hid (fun w => rquote_any s w hs h1)
        obtain ⟨T, hT⟩ : ∃ T : ByteArray, ⟨(quoT s.data.toList).toArray⟩ = T := ⟨_, rfl⟩
        obtain ⟨K, hK⟩ : ∃ K, quoN s.data.toList = K := ⟨_, rfl⟩
        have hTT : quoT s.data.toList = T.data.toList := by rw [← hT]
        have hTb : T.size ≤ s.size := by rw [size_list, size_list, ← hTT]; exact quoT_le _
        rw [hT, hK] at HQ
        rw [hK, hTT, ← size_list] at hq
        clear hT hTT hK hN ha hb hl
        by_cases hbig : 200 < T.size
        · have HX := Lib.hid (hq.trans (if_pos (.inr hbig)))
          clear hq
          go_enter Try.func41, Try.ntmps41
          go_wp2_with fail
          refine (HA.out _).mono ?_
          rintro e w1 ⟨rfl, rfl⟩
          go_wp2_with fail
          refine (HB.out _).mono ?_
          rintro e w1 ⟨rfl, rfl⟩
          go_wp2_with fail
          refine (HR.out _).mono ?_
          rintro e w1 ⟨rfl, rfl⟩
          go_wp2_with fail
          refine (HQ.out _).mono ?_
          rintro e w1 ⟨rfl, rfl⟩
          go_wp2
          exact bodyPost_ret (v := .tuple #[.agg #[.int .i64 0, .string ⟨#[]⟩, .int .i64 0], .int .i64 0]) (by simp [results, Try.results41, go_sem, World.cell?_setCell_other]) rfl ⟨⟨0, ⟨#[]⟩, 0, rfl, .inl ⟨HX.out, rfl⟩⟩, below_alloc w _⟩
        · have HX := Lib.hid (show firstL s.data.toList = none ∧ K = 0 ∨ firstL s.data.toList = some (2, T.data.toList, K) by
            by_cases h0 : K = 0
            · exact .inl ⟨by rw [hq, if_pos (.inl h0)], h0⟩
            · exact .inr (by rw [hq, if_neg (by omega)]))
          clear hq
          go_enter Try.func41, Try.ntmps41
          go_wp2_with fail
          refine (HA.out _).mono ?_
          rintro e w1 ⟨rfl, rfl⟩
          go_wp2_with fail
          refine (HB.out _).mono ?_
          rintro e w1 ⟨rfl, rfl⟩
          go_wp2_with fail
          refine (HR.out _).mono ?_
          rintro e w1 ⟨rfl, rfl⟩
          go_wp2_with fail
          refine (HQ.out _).mono ?_
          rintro e w1 ⟨rfl, rfl⟩
          go_wp2
          exact bodyPost_ret (v := .tuple #[.agg #[.int .i64 2, .string T, .int .i64 0], .int .i64 (K : Int)]) (by simp [results, Try.results41, go_sem, World.cell?_setCell_other]) rfl ⟨⟨2, T, K, rfl, HX.out⟩, below_alloc w _⟩
      · have j39 := u8_not 39 39 rfl h39
        have hf : firstL s.data.toList = if twoB s.data.toList = true then some (3, s.data.toList.take 2, 2) else if oneB c = true then some (3, [c], 1) else none := by
          rw [hl, firstL, if_neg (by rw [ha]; decide), if_neg (by rw [hb]; decide), if_neg h39]
        exact one8_mark s w hs h1 c hc hl N hNs HA HB HR j39 hf
    · have hf : firstL s.data.toList = if N ≤ 19 then some (1, s.data.toList.take N, N) else none := by
        rw [← hN, hl, firstL, if_neg (by rw [ha]; decide), if_pos hb]
      obtain ⟨S, hS⟩ : ∃ S, s.extract 0 N = S := ⟨_, rfl⟩
      have hsl := cut_to s N N rfl hNs
      rw [hS] at hsl
      have hSl : S.data.toList = s.data.toList.take N := by rw [← hS]; exact to_list s N
      clear hl hN ha hb hS
      by_cases h19 : N ≤ 19
      · have HX := Lib.hid (show firstL s.data.toList = some (1, S.data.toList, N) by rw [hf, if_pos h19, hSl])
        clear hf hSl
        go_enter Try.func41, Try.ntmps41
        go_wp2_with fail
        refine (HA.out _).mono ?_
        rintro e w1 ⟨rfl, rfl⟩
        go_wp2_with fail
        refine (HB.out _).mono ?_
        rintro e w1 ⟨rfl, rfl⟩
        go_wp2_with fail
        refine (HR.out _).mono ?_
        rintro e w1 ⟨rfl, rfl⟩
        go_wp2
        exact bodyPost_ret (v := .tuple #[.agg #[.int .i64 1, .string S, .int .i64 0], .int .i64 (N : Int)]) (by simp [results, Try.results41, go_sem, World.cell?_setCell_other]) rfl ⟨⟨1, S, N, rfl, .inr HX.out⟩, below_alloc w _⟩
      · have HX := Lib.hid (hf.trans (if_neg h19))
        clear hf hSl
        go_enter Try.func41, Try.ntmps41
        go_wp2_with fail
        refine (HA.out _).mono ?_
        rintro e w1 ⟨rfl, rfl⟩
        go_wp2_with fail
        refine (HB.out _).mono ?_
        rintro e w1 ⟨rfl, rfl⟩
        go_wp2_with fail
        refine (HR.out _).mono ?_
        rintro e w1 ⟨rfl, rfl⟩
        go_wp2
        exact bodyPost_ret (v := .tuple #[.agg #[.int .i64 0, .string ⟨#[]⟩, .int .i64 0], .int .i64 0]) (by simp [results, Try.results41, go_sem, World.cell?_setCell_other]) rfl ⟨⟨0, ⟨#[]⟩, 0, rfl, .inl ⟨HX.out, rfl⟩⟩, below_alloc w _⟩
  · obtain ⟨N, hN⟩ : ∃ N, runL nameB s.data.toList = N := ⟨_, rfl⟩
    have HR := Lib.hid (fun w => rrun_any true nameB (by intro c; unfold nameB; cases letB c <;> cases figB c <;> rfl) s w (by omega))
    rw [hN] at HR
    have hNs : N ≤ s.size := by rw [← hN]; exact runL_le _ _
    have hf : firstL s.data.toList = if N ≤ 20 then some (0, s.data.toList.take N, N) else none := by
      rw [← hN, hl, firstL, if_pos ha]
    obtain ⟨S, hS⟩ : ∃ S, s.extract 0 N = S := ⟨_, rfl⟩
    have hsl := cut_to s N N rfl hNs
    rw [hS] at hsl
    have hSl : S.data.toList = s.data.toList.take N := by rw [← hS]; exact to_list s N
    clear hl hN ha hb hS
    by_cases h20 : N ≤ 20
    · have HX := Lib.hid (show firstL s.data.toList = some (0, S.data.toList, N) by rw [hf, if_pos h20, hSl])
      clear hf hSl
      go_enter Try.func41, Try.ntmps41
      go_wp2_with fail
      refine (HA.out _).mono ?_
      rintro e w1 ⟨rfl, rfl⟩
      go_wp2_with fail
      refine (HB.out _).mono ?_
      rintro e w1 ⟨rfl, rfl⟩
      go_wp2_with fail
      refine (HR.out _).mono ?_
      rintro e w1 ⟨rfl, rfl⟩
      go_wp2
      exact bodyPost_ret (v := .tuple #[.agg #[.int .i64 0, .string S, .int .i64 0], .int .i64 (N : Int)]) (by simp [results, Try.results41, go_sem, World.cell?_setCell_other]) rfl ⟨⟨0, S, N, rfl, .inr HX.out⟩, below_alloc w _⟩
    · have HX := Lib.hid (hf.trans (if_neg h20))
      clear hf hSl
      cases b
      all_goals
        go_enter Try.func41, Try.ntmps41
        go_wp2_with fail
        refine (HA.out _).mono ?_
        rintro e w1 ⟨rfl, rfl⟩
        go_wp2_with fail
        refine (HB.out _).mono ?_
        rintro e w1 ⟨rfl, rfl⟩
        go_wp2_with fail
        refine (HR.out _).mono ?_
        rintro e w1 ⟨rfl, rfl⟩
        go_wp2
        exact bodyPost_ret (v := .tuple #[.agg #[.int .i64 0, .string ⟨#[]⟩, .int .i64 0], .int .i64 0]) (by simp [results, Try.results41, go_sem, World.cell?_setCell_other]) rfl ⟨⟨0, ⟨#[]⟩, 0, rfl, .inl ⟨HX.out, rfl⟩⟩, below_alloc w _⟩
end Go.Proofs.Ytkibacolnagkcaa.Code
/-
  Contracts of lex's Words and of the document's.
-/
namespace Go.Proofs.Ytkibacolnagkcaa.Code
open Go.ChangeShapes Go.WideShapes Go.ChangeAt Go.RowKit Val Elems
set_option linter.unusedVariables false
theorem roww_new (w : World) (o : Obj) (k n : Int) (t : ByteArray) (ty : TypeId) : ∀ (j : Nat) (u : Value), ([.int .i64 k, .string t, .int .i64 n] : List Value)[j]? = some u → ((w.alloc o).alloc (.cells #[.int .i64 k, .string t, .int .i64 n] ty)).cell? ((⟨w.heap.size + 1, 0, none⟩ : Addr).add j) = some u := by
  have h := heap_alloc_new (w.alloc o) (.cells #[.int .i64 k, .string t, .int .i64 n] ty)
  rw [show (w.alloc o).heap.size = w.heap.size + 1 by simp] at h
  exact World.news_of_block h
end Go.Proofs.Ytkibacolnagkcaa.Code
