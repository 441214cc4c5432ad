/-
  Contracts of lex's run and quoted, and of the document's run and quote: how many bytes come, and which text.
-/
import Derived.Test.YthkdpfadjbhmoaaDoorLexByte
import Derived.Test.YthkdpfadjbhmoaaDoorEncRenc
namespace Go.Proofs.YthkdpfadjbhmoaaDoor.Code
open Go.ChangeShapes Go.WideShapes Go.ChangeAt Go.RowKit Val
set_option linter.unusedVariables false
theorem list_get (s : ByteArray) (j : Nat) (h : j < s.size) (h' : j < s.data.toList.length) : s.data.toList[j] = s[j] := rfl
set_option maxHeartbeats 2000000 in
theorem run_any (p : UInt8 → Bool) (fn : Nat) (en : ∀ args w, (callFunc fn args).run Tryd.prog w = .ok (.enter fn args) w)
    (hp : ∀ (c : UInt8) (w : World), Calls Tryd.prog fn #[.int .u8 c.toNat] w fun e w' => e = .returned (.bool (p c)) ∧ w = w') (s : ByteArray) (w : World) (hs : s.size ≤ 281474976710656) :
    Calls Tryd.prog 42 #[.string s, .func (.func fn) #[] #[]] w fun e w' => e = .returned (.int .i64 (runL p s.data.toList : Nat)) ∧ w = w' := by
  have HP := Lib.hid hp
  clear hp
  go_enter Tryd.func42, Tryd.ntmps42
  go_wp2
  go_loop [5] (fun t => ∃ n : Nat, n ≤ s.size ∧ t = .int .i64 n ∧ n ≤ runL p s.data.toList) (fun t => s.size - (intOf t).toNat)
  case atStart => exact ⟨0, by omega, rfl, by omega⟩
  case round =>
    obtain ⟨n, hn, rfl, hr⟩ := hrel
    have HR := Lib.hid hr
    clear hr
    by_cases hlt : n < s.size
    · obtain ⟨c, hc⟩ : ∃ c, s[n] = c := ⟨_, rfl⟩
      cases hpc : p c
      · have HE := Lib.hid (runL_stop p s.data.toList n hlt HR.out (by rw [list_get s n hlt, hc, hpc]))
        have HP2 := Lib.hid (fun w => (HP.out c w).mono (R' := fun e w' => e = .returned (.bool false) ∧ w = w') (by rintro e w' ⟨h1, h2⟩; exact ⟨by rw [h1, hpc], h2⟩))
        clear hpc
        go_wp2_with fail
        refine (HP2.out _).mono ?_
        rintro e w1 ⟨rfl, rfl⟩
        go_wp2
        go_ret
        exact ⟨ret1 (by rw [HE.out]), rfl⟩
      · have HE := Lib.hid (runL_step p s.data.toList n hlt HR.out (by rw [list_get s n hlt, hc, hpc]))
        have HP2 := Lib.hid (fun w => (HP.out c w).mono (R' := fun e w' => e = .returned (.bool true) ∧ w = w') (by rintro e w' ⟨h1, h2⟩; exact ⟨by rw [h1, hpc], h2⟩))
        clear hpc
        go_wp2_with fail
        refine (HP2.out _).mono ?_
        rintro e w1 ⟨rfl, rfl⟩
        go_wp2
        go_round
        case rel => exact ⟨n + 1, by omega, by go_num, HE.out⟩
        case measure => simp [intOf]; omega
    · have HE := Lib.hid (show runL p s.data.toList = n by have := runL_le p s.data.toList; have := HR.out; rw [← size_list] at *; omega)
      go_wp2
      go_ret
      exact ⟨ret1 (by rw [HE.out]), rfl⟩
theorem u8_is39 {b : UInt8} (h : b = 39) : ((b.toNat : Int) == 39) = true := by subst h; rfl
theorem u8_no39 {b : UInt8} (h : ¬ b = 39) : ((b.toNat : Int) == 39) = false := by
  have : b.toNat ≠ 39 := fun e => h (UInt8.toNat_inj.1 e)
  simp
  omega
theorem u8_nq39 {b : UInt8} (h : ¬ b = 39) : ((b.toNat : Int) != 39) = true := by
  have : b.toNat ≠ 39 := fun e => h (UInt8.toNat_inj.1 e)
  simp
  omega
set_option maxHeartbeats 2000000 in
theorem quoted_any (s : ByteArray) (w : World) (hs : s.size ≤ 281474976710656) (h1 : 1 ≤ s.size) :
    Calls Tryd.prog 40 #[.string s] w fun e w' => e = .returned (.int .i64 (quoN s.data.toList : Nat)) ∧ w = w' := by
  go_enter Tryd.func40, Tryd.ntmps40
  go_wp2
  go_loop [3] (fun t => ∃ n : Nat, n ≤ s.size ∧ t = .int .i64 n ∧ 1 ≤ n ∧ Hid (∃ out, quoI s.data.toList n out)) (fun t => s.size - (intOf t).toNat)
  case atStart => exact ⟨1, by omega, rfl, by omega, Lib.hid ⟨[], quoI_start _⟩⟩
  case round =>
    obtain ⟨n, hn, rfl, hn1, HO⟩ := hrel
    by_cases hlt : n < s.size
    · obtain ⟨c, hc⟩ : ∃ c, s[n] = c := ⟨_, rfl⟩
      by_cases hc39 : c = 39
      · subst hc39
        by_cases hlt2 : n + 1 < s.size
        · obtain ⟨d, hd⟩ : ∃ d, s[n + 1] = d := ⟨_, rfl⟩
          by_cases hd39 : d = 39
          · subst hd39
            have HE := Lib.hid (show ∃ out, quoI s.data.toList (n + 2) out by
              obtain ⟨out, h⟩ := HO.out
              exact ⟨_, quoI_two h (show n + 1 < s.data.toList.length from hlt2) ((list_get s n hlt hlt).trans hc) ((list_get s (n + 1) hlt2 hlt2).trans hd)⟩)
            go_wp2
            go_round
            case rel => exact ⟨n + 2, by omega, by go_num, by omega, HE⟩
            case measure => simp [intOf]; omega
          · have HE := Lib.hid (show quoN s.data.toList = n + 1 by
              obtain ⟨out, h⟩ := HO.out
              exact (quoI_end h (show n < s.data.toList.length from hlt) ((list_get s n hlt hlt).trans hc) (fun g e => hd39 (hd.symm.trans ((list_get s (n + 1) hlt2 g).symm.trans e)))).1)
            have i0 := u8_no39 hd39
            clear hd39
            go_wp2
            go_ret
            exact ⟨ret1 (by rw [HE.out]; go_num), rfl⟩
        · have HE := Lib.hid (show quoN s.data.toList = n + 1 by
            obtain ⟨out, h⟩ := HO.out
            exact (quoI_end h (show n < s.data.toList.length from hlt) ((list_get s n hlt hlt).trans hc) (fun g => absurd g hlt2)).1)
          go_wp2
          go_ret
          exact ⟨ret1 (by rw [HE.out]; go_num), rfl⟩
      · have HE := Lib.hid (show ∃ out, quoI s.data.toList (n + 1) out by
          obtain ⟨out, h⟩ := HO.out
          exact ⟨_, quoI_other h (show n < s.data.toList.length from hlt) (by rw [list_get s n hlt, hc]; exact hc39)⟩)
        have i0 := u8_no39 hc39
        have i1 := u8_nq39 hc39
        clear hc39
        go_wp2
        go_round
        case rel => exact ⟨n + 1, by omega, by go_num, by omega, HE⟩
        case measure => simp [intOf]; omega
    · have HE := Lib.hid (show quoN s.data.toList = 0 by
        obtain ⟨out, h⟩ := HO.out
        exact (quoI_none h (by rw [← size_list]; omega)).1)
      go_wp2
      go_ret
      exact ⟨ret1 (by rw [HE.out]; rfl), rfl⟩
end Go.Proofs.YthkdpfadjbhmoaaDoor.Code
