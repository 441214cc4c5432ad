/-
  Contracts of the document's run and quote: how many bytes come, and which text.
-/
import Derived.Test.YthkdpfadjbhmoaaDoorLexRun
namespace Go.Proofs.YthkdpfadjbhmoaaDoor.Code
open Go.ChangeShapes Go.WideShapes Go.ChangeAt Go.RowKit Val
set_option linter.unusedVariables false
theorem u8_no95 {b : UInt8} (h : decide (b.toNat = 95) = false) : ((b.toNat : Int) != 95) = true := by
  have : ¬ b.toNat = 95 := by simpa using h
  simp
  omega
theorem u8_is95 {b : UInt8} (h : decide (b.toNat = 95) = true) : ((b.toNat : Int) != 95) = false := by
  have : b.toNat = 95 := by simpa using h
  rw [this]
  rfl
set_option maxHeartbeats 4000000 in
theorem rrun_any (name : Bool) (p : UInt8 → Bool) (hp : ∀ c, p c = (figB c || (name && (letB c || decide (c.toNat = 95))))) (s : ByteArray) (w : World) (hs : s.size ≤ 281474976710656) :
    Calls Tryd.prog 28 #[.string s, .bool name] w fun e w' => e = .returned (.int .i64 (runL p s.data.toList : Nat)) ∧ w = w' := by
  have HP := Lib.hid hp
  clear hp
  go_enter Tryd.func28, Tryd.ntmps28
  go_wp2
  go_loop [5] (fun t => ∃ n : Nat, n ≤ s.size ∧ t = .int .i64 n ∧ n ≤ runL p s.data.toList) (fun t => s.size - (intOf t).toNat)
  case atStart => exact ⟨0, by omega, rfl, by omega⟩
  case round =>
    obtain ⟨n, hn, rfl, hr⟩ := hrel
    have HR := Lib.hid hr
    clear hr
    by_cases hlt : n < s.size
    · obtain ⟨c, hc⟩ : ∃ c, s[n] = c := ⟨_, rfl⟩
      obtain ⟨a, ha⟩ : ∃ a, letB c = a := ⟨_, rfl⟩
      obtain ⟨b, hb⟩ : ∃ b, figB c = b := ⟨_, rfl⟩
      obtain ⟨u, hu⟩ : ∃ u, decide (c.toNat = 95) = u := ⟨_, rfl⟩
      have HA := Lib.hid (fun w => (rletter_any c w).mono (R' := fun e w' => e = .returned (.bool a) ∧ w = w') (by rintro e w' ⟨h1, h2⟩; exact ⟨by rw [h1, ha], h2⟩))
      have HB := Lib.hid (fun w => (rfigure_any c w).mono (R' := fun e w' => e = .returned (.bool b) ∧ w = w') (by rintro e w' ⟨h1, h2⟩; exact ⟨by rw [h1, hb], h2⟩))
      have HPC := Lib.hid (show p c = (b || (name && (a || u))) by rw [HP.out c, ha, hb, hu])
      clear ha hb
      cases u
      · have i0 := u8_no95 hu
        clear hu
        go_wp2_with fail
        refine (HA.out _).mono ?_
        rintro e w1 ⟨rfl, rfl⟩
        go_wp2_with fail
        refine (HB.out _).mono ?_
        rintro e w1 ⟨rfl, rfl⟩
        cases b <;> cases name <;> cases a
        all_goals go_wp2
        all_goals first
          | (have HE := Lib.hid (runL_stop p s.data.toList n hlt HR.out (by rw [list_get s n hlt, hc, HPC.out]; rfl))
             go_ret
             exact ⟨ret1 (by rw [HE.out]), rfl⟩)
          | (have HE := Lib.hid (runL_step p s.data.toList n hlt HR.out (by rw [list_get s n hlt, hc, HPC.out]; rfl))
             go_round
             (case rel => exact ⟨n + 1, by omega, by go_num, HE.out⟩)
             (case measure => (simp [intOf]; try omega)))
      · have i0 := u8_is95 hu
        clear hu
        go_wp2_with fail
        refine (HA.out _).mono ?_
        rintro e w1 ⟨rfl, rfl⟩
        go_wp2_with fail
        refine (HB.out _).mono ?_
        rintro e w1 ⟨rfl, rfl⟩
        cases b <;> cases name <;> cases a
        all_goals go_wp2
        all_goals first
          | (have HE := Lib.hid (runL_stop p s.data.toList n hlt HR.out (by rw [list_get s n hlt, hc, HPC.out]; rfl))
             go_ret
             exact ⟨ret1 (by rw [HE.out]), rfl⟩)
          | (have HE := Lib.hid (runL_step p s.data.toList n hlt HR.out (by rw [list_get s n hlt, hc, HPC.out]; rfl))
             go_round
             (case rel => exact ⟨n + 1, by omega, by go_num, HE.out⟩)
             (case measure => (simp [intOf]; try omega)))
    · have HE := Lib.hid (show runL p s.data.toList = n by have := runL_le p s.data.toList; have := HR.out; rw [← size_list] at *; omega)
      go_wp2
      go_ret
      exact ⟨ret1 (by rw [HE.out]), rfl⟩
theorem retSN {a c : ByteArray} {b d : Int} (h : a = c) (g : b = d) : Ending.returned (.tuple #[.string a, .int .i64 b]) = .returned (.tuple #[.string c, .int .i64 d]) := by rw [h, g]
set_option maxHeartbeats 4000000 in
theorem rquote_any (s : ByteArray) (w : World) (hs : s.size ≤ 140737488355328) (h1 : 1 ≤ s.size) :
    Calls Tryd.prog 29 #[.string s] w fun e w' => e = .returned (.tuple #[.string ⟨(quoT s.data.toList).toArray⟩, .int .i64 (quoN s.data.toList : Nat)]) ∧ w = w' := by
  go_enter Tryd.func29, Tryd.ntmps29
  go_wp2
  go_loop [4, 5] (fun v t => ∃ (n : Nat) (out : List UInt8), n ≤ s.size ∧ t = .int .i64 n ∧ v = .string ⟨out.toArray⟩ ∧ 1 ≤ n ∧ out.length ≤ n ∧ Hid (quoI s.data.toList n out)) (fun _ t => s.size - (intOf t).toNat)
  case atStart => exact ⟨1, [], by omega, rfl, rfl, by omega, by simp, Lib.hid (quoI_start _)⟩
  case round =>
    obtain ⟨n, out, hn, rfl, rfl, hn1, hlo, HO⟩ := hrel
    by_cases hlt : n < s.size
    · obtain ⟨c, hc⟩ : ∃ c, s[n] = c := ⟨_, rfl⟩
      by_cases hc39 : c = 39
      · subst hc39
        by_cases hlt2 : n + 1 < s.size
        · obtain ⟨d, hd⟩ : ∃ d, s[n + 1] = d := ⟨_, rfl⟩
          by_cases hd39 : d = 39
          · subst hd39
            have HE := Lib.hid (quoI_two HO.out (show n + 1 < s.data.toList.length from hlt2) ((list_get s n hlt hlt).trans hc) ((list_get s (n + 1) hlt2 hlt2).trans hd))
            go_wp2
            go_round
            case rel => exact ⟨n + 2, out ++ [39], by omega, by go_num, strV (strCat out [39]), by omega, by simp; omega, HE⟩
            case measure => (simp [intOf]; try omega)
          · have HE := Lib.hid (quoI_end HO.out (show n < s.data.toList.length from hlt) ((list_get s n hlt hlt).trans hc) (fun g e => hd39 (hd.symm.trans ((list_get s (n + 1) hlt2 g).symm.trans e))))
            have i0 := u8_nq39 hd39
            clear hd39
            go_wp2
            go_ret2
            exact ⟨retSN (by rw [HE.out.2]) (by rw [HE.out.1]; go_num), rfl⟩
        · have HE := Lib.hid (quoI_end HO.out (show n < s.data.toList.length from hlt) ((list_get s n hlt hlt).trans hc) (fun g => absurd g hlt2))
          go_wp2
          go_ret2
          exact ⟨retSN (by rw [HE.out.2]) (by rw [HE.out.1]; go_num), rfl⟩
      · have HE := Lib.hid (quoI_other HO.out (show n < s.data.toList.length from hlt) (by rw [list_get s n hlt, hc]; exact hc39))
        have hsl := cut_at s n (n + 1) n (n + 1) rfl (by omega) (by omega) (by omega)
        rw [one_at s n hlt, hc] at hsl
        have hg := list_get s n hlt hlt
        rw [hg, hc] at HE
        clear hg
        have i1 := u8_nq39 hc39
        clear hc39
        go_wp2
        go_round
        case rel => exact ⟨n + 1, out ++ [c], by omega, by go_num, strV (strCat out [c]), by omega, by simp; omega, HE⟩
        case measure => (simp [intOf]; try omega)
    · have HE := Lib.hid (quoI_none HO.out (by rw [← size_list]; omega))
      go_wp2
      go_ret2
      exact ⟨retSN (by rw [HE.out.2]) (by rw [HE.out.1]; rfl), rfl⟩
end Go.Proofs.YthkdpfadjbhmoaaDoor.Code
