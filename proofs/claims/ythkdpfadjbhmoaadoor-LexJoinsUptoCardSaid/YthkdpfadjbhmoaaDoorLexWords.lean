/-
  Contracts of lex's Words and of the document's.
-/
import Derived.Test.YthkdpfadjbhmoaaDoorLexWds
import Derived.Test.YthkdpfadjbhmoaaDoorLexOne
namespace Go.Proofs.YthkdpfadjbhmoaaDoor.Code
open Go.ChangeShapes Go.WideShapes Go.ChangeAt Go.RowKit Val Elems
set_option linter.unusedVariables false
theorem info_word : (Tryd.prog.info? 35).map (fun i => (i.zero, i.size, i.bytes)) = some (some (.agg #[.int .i64 0, .string ByteArray.empty, .int .i64 0]), 3, 32) := by kernel_rfl
theorem roww_new (w : World) (o : Obj) (k n : Int) (t : ByteArray) (ty : TypeId) : ∀ (j : Nat) (u : Value), ([.int .i64 k, .string t, .int .i64 n] : List Value)[j]? = some u → ((w.alloc o).alloc (.cells #[.int .i64 k, .string t, .int .i64 n] ty)).cell? ((⟨w.heap.size + 1, 0, none⟩ : Addr).add j) = some u := by
  have h := heap_alloc_new (w.alloc o) (.cells #[.int .i64 k, .string t, .int .i64 n] ty)
  rw [show (w.alloc o).heap.size = w.heap.size + 1 by simp] at h
  exact World.news_of_block h
set_option maxHeartbeats 4000000 in
set_option maxRecDepth 100000 in
theorem words_any (s : ByteArray) (m : Int) (w : World) (hs : s.size ≤ 4194304) (hm : w.cell? ⟨1, 0, none⟩ = some (.int .i64 m)) :
    Calls Tryd.prog 8 #[.string s] w (WordsPost w s.data.toList) := by
  have hlt : 1 < w.heap.size := World.block_lt_of_cell? _ _ hm
  have HM := Lib.hid hm
  clear hm
  obtain ⟨i0, hi0, hz0, hz1, hz2⟩ := info_parts info_word
  go_enter Tryd.func8, Tryd.ntmps8
  go_wp2
  go_loopw [5, 6] (fun v t wr => ∃ (i : Nat) (a : List W), i ≤ s.size ∧ t = .int .i64 i ∧ Hid (WAt s.data.toList i a) ∧ a.length ≤ i ∧ wr.ownsRow w.heap.size 35 3 v a.length (flatC wc a) ∧ Below w.heap.size w wr) (fun _ t _ => s.size - (intOf t).toNat)
  case atStart => exact ⟨0, [], by omega, rfl, Lib.hid (WAt.start _), by simp, World.ownsRow_nil _ _ _ _, Below.refl _ _⟩
  case round =>
    obtain ⟨i, a, hi, rfl, HK, hai, hown, hbel⟩ := hrel
    have hsz := hbel.size
    have HO := Lib.hid hown
    have HL := Lib.hid hbel
    clear hown hbel
    by_cases hil : i < s.size
    · obtain ⟨c, hc⟩ : ∃ c, s[i] = c := ⟨_, rfl⟩
      have hg := (list_get s i hil hil).trans hc
      obtain ⟨b, hb⟩ : ∃ b, blankB c = b := ⟨_, rfl⟩
      have HB := Lib.hid (fun w => (blank_any c w).mono (R' := fun e w' => e = .returned (.bool b) ∧ w = w') (by rintro e w' ⟨h1, h2⟩; exact ⟨by rw [h1, hb], h2⟩))
      cases b
      · obtain ⟨S, hS⟩ : ∃ S, s.extract i s.size = S := ⟨_, rfl⟩
        have hsl := cut_from s i i rfl hi
        rw [hS] at hsl
        have hSl : S.data.toList = s.data.toList.drop i := by rw [← hS]; exact from_list s i
        have hSs : S.size = s.size - i := by rw [size_list, hSl, List.length_drop, ← size_list]
        have HSL := Lib.hid hSl
        have HG := Lib.hid hg
        clear hS hSl hg
        go_wp2_with fail
        refine (HB.out _).mono ?_
        rintro e w1 ⟨rfl, rfl⟩
        go_wp2_with fail
        refine (first_any S m _ (by omega) (by omega) (by rw [HL.out.cell (p := ⟨1, 0, none⟩) hlt]; exact HM.out)).mono ?_
        rintro e w1 ⟨⟨k, t, n, rfl, hcase⟩, hb1⟩
        rw [HSL.out] at hcase
        have L1 := Lib.hid (bnext HL.out hsz hb1)
        have O1 := Lib.hid (own_call HO.out hb1)
        have hzw := L1.out.size
        clear hb1
        rcases hcase with ⟨hno, rfl⟩ | hyes
        · have HD := Lib.hid (HK.out.none hil (by rw [HG.out]; exact hb) hno)
          clear hno
          go_wp2
          go_ret3
          exact words_no HD.out (L1.out.alloc hzw _)
        · have hn := first_n hyes
          have hcz : ((n : Int) == 0) = false := by simp; omega
          have hni : i + n ≤ s.size := by have := hn.2; rw [List.length_drop, ← size_list] at this; omega
          have HD := Lib.hid (HK.out.one hil hyes)
          have HW := Lib.hid (show wc (k, t.data.toList, (i : Int)) = [.int .i64 k, .string t, .int .i64 (i : Int)] by unfold wc; rw [Lib.mk_data])
          have hn1 := hn.1
          clear hyes hn
          go_wp2_with (at_builtin; refine wpList_append_own _ rfl _ _ 23 rfl w.heap.size 35 i0 (.agg #[.int .i64 0, .string ByteArray.empty, .int .i64 0]) 3 32 Tryd.underlying23 hi0 hz0 hz1 hz2 rfl (by decide) _ _ _ rfl ((O1.out.alloc _).alloc _) ⟨w1.heap.size + 1, 0, none⟩ 1 1 [.int .i64 k, .string t, .int .i64 (i : Int)] rfl rfl ?c1 ?c2 ?c3 ?c4 ?c5 ?_)
          case c1 => exact roww_new _ _ _ _ _ _
          case c2 => rw [← HW.out]; exact wc_one _
          case c3 => unfold maxLen; omega
          case c4 => omega
          case c5 => simp; omega
          intro v' w2 hown' hgrow _
          have O2 := Lib.hid (show w2.ownsRow w.heap.size 35 3 v' (a ++ [(k, t.data.toList, (i : Int))]).length (flatC wc (a ++ [(k, t.data.toList, (i : Int))])) by rw [flatC_snoc, List.length_append, HW.out]; exact hown')
          have L2 := Lib.hid (((L1.out.alloc hzw _).alloc (by simp; omega) _).grown hgrow (by simp; omega) (fun g hg => (O1.out.lt g hg).1))
          clear hown' hgrow
          go_wp2
          go_roundw
          case rel => exact ⟨i + n, a ++ [(k, t.data.toList, (i : Int))], by omega, by go_num, HD, by rw [List.length_append]; simp; omega, O2.out, L2.out⟩
          case measure => simp [intOf]; omega
      · have HD := Lib.hid (HK.out.blank hil (by rw [hg]; exact hb))
        clear hg
        go_wp2_with fail
        refine (HB.out _).mono ?_
        rintro e w1 ⟨rfl, rfl⟩
        go_wp2
        go_roundw
        case rel => exact ⟨i + 1, a, by omega, by go_num, HD, by omega, HO.out, HL.out⟩
        case measure => simp [intOf]; omega
    · have HD := Lib.hid (HK.out.done (by rw [← size_list]; omega))
      go_wp2
      go_ret3
      exact words_yes HD.out HO.out HL.out
end Go.Proofs.YthkdpfadjbhmoaaDoor.Code
