/-
  Contract of lex's first: the word that begins a text.
-/
import Derived.Test.YthkdpfadjbhmoaaDoorLexFirst
import Derived.Test.YthkdpfadjbhmoaaDoorRowVShow
namespace Go.Proofs.YthkdpfadjbhmoaaDoor.Code
open Go.ChangeShapes Go.WideShapes Go.ChangeAt Go.RowKit Val
set_option linter.unusedVariables false
set_option linter.unusedSimpArgs false
/-- a word's three cells at the beginning of a block -/
def WBox (W : World) (b : Nat) (k : Int) (s : ByteArray) (n : Int) : Prop := W.cell? ⟨b, 0, none⟩ = some (.int .i64 k) ∧ W.cell? ⟨b, 1, none⟩ = some (.string s) ∧ W.cell? ⟨b, 2, none⟩ = some (.int .i64 n) ∧ b < W.heap.size ∧ ∀ j, W.frozen? ⟨b, j, none⟩ = false
theorem WBox.call {W W' : World} {b : Nat} {k n : Int} {s : ByteArray} (h : WBox W b k s n) (hb : Below W.heap.size W W') : WBox W' b k s n := by
  obtain ⟨h0, h1, h2, h3, h4⟩ := h
  exact ⟨by rw [hb.cell (p := ⟨b, 0, none⟩) h3]; exact h0, by rw [hb.cell (p := ⟨b, 1, none⟩) h3]; exact h1, by rw [hb.cell (p := ⟨b, 2, none⟩) h3]; exact h2, Nat.lt_of_lt_of_le h3 hb.size, fun j => by rw [hb.frozen (p := ⟨b, j, none⟩) h3]; exact h4 j⟩
theorem WBox.alloc {W : World} {b : Nat} {k n : Int} {s : ByteArray} (h : WBox W b k s n) (o : Obj) : WBox (W.alloc o) b k s n := h.call (below_alloc W o)
theorem WBox.fresh (W : World) (k n : Int) (s : ByteArray) (t : TypeId) : WBox (W.alloc (.cells #[.int .i64 k, .string s, .int .i64 n] t)) W.heap.size k s n := ⟨by simp [go_sem], by simp [go_sem], by simp [go_sem], by simp, fun j => by simp [go_sem]⟩
theorem sclone_any (s : ByteArray) (w : World) (hs : s.size ≤ 281474976710656) :
    Calls Tryd.prog 25 #[.string s] w fun e w' => e = .returned (.string s) ∧ Below w.heap.size w w' := by
  have HC := Lib.hid (fun w => Tryd.stringslite_Clone s w hs)
  go_enter Tryd.func25, Tryd.ntmps25
  go_wp2_with fail
  refine (HC.out _).mono ?_
  rintro e w1 ⟨rfl, hb⟩
  have L := Lib.hid hb
  clear hb
  go_wp2
  go_ret
  exact ⟨rfl, L.out⟩
/-- two ' for one -/
theorem rep_quote (t : List UInt8) (m : Int) (s : ByteArray) (w : World) (h : s.data.toList = dbl t) (hs : s.size ≤ 4194304) (hm : w.cell? ⟨1, 0, none⟩ = some (.int .i64 m)) :
    Calls Tryd.prog 23 #[.string s, .string ⟨#[39, 39]⟩, .string ⟨#[39]⟩] w fun e w' => e = .returned (.string ⟨t.toArray⟩) ∧ Below w.heap.size w w' := by
  have hc := Lib.countB_mul_le ⟨#[39, 39]⟩ (by decide) s.size s (Nat.le_refl _)
  rw [show (⟨#[39, 39]⟩ : ByteArray).size = 2 from rfl] at hc
  have h := Tryd.strings_ReplaceAll s ⟨#[39, 39]⟩ ⟨#[39]⟩ m w (by omega) hm (by decide) (by rw [show (⟨#[39]⟩ : ByteArray).size = 1 from rfl]; omega)
  rw [show Lib.replaceAll s.data.toList (⟨#[39, 39]⟩ : ByteArray).data.toList (⟨#[39]⟩ : ByteArray).data.toList = t by rename_i h'; rw [h']; exact rep_dbl' _] at h
  exact h
theorem dbl_le : ∀ l : List UInt8, l.length ≤ (dbl l).length
  | [] => Nat.le_refl _
  | b :: l => by
    have := dbl_le l
    rw [dbl]
    split <;> simp <;> omega
/-- the word that comes, and how many bytes it has; 0: none does -/
def FirstIs (l : List UInt8) (e : Ending) : Prop := ∃ (k : Int) (t : ByteArray) (n : Nat), e = .returned (.tuple #[.agg #[.int .i64 k, .string t, .int .i64 0], .int .i64 n]) ∧ (firstL l = none ∧ n = 0 ∨ firstL l = some (k, t.data.toList, n))
set_option maxHeartbeats 4000000 in
theorem first_any (s : ByteArray) (m : Int) (w : World) (hs : s.size ≤ 4194304) (h1 : 1 ≤ s.size) (hm : w.cell? ⟨1, 0, none⟩ = some (.int .i64 m)) :
    Calls Tryd.prog 17 #[.string s] w fun e w' => FirstIs s.data.toList e ∧ Below w.heap.size w w' := by
  have hlt : 1 < w.heap.size := World.block_lt_of_cell? _ _ hm
  have HM := Lib.hid hm
  clear hm
  obtain ⟨K, N, hKN⟩ : ∃ K N, beginsL s.data.toList = (K, N) := ⟨_, _, rfl⟩
  have hN : N ≤ s.size := by
    have := begins_le s.data.toList
    rw [hKN] at this
    exact this
  have HB := Lib.hid (fun w => begins_any s w (by omega) h1)
  rw [hKN] at HB
  obtain ⟨L, hL⟩ : ∃ L, longK K = L := ⟨_, rfl⟩
  have HLo := Lib.hid (fun w => longest_any K w)
  rw [hL] at HLo
  have hF := firstL_is s.data.toList
  rw [hKN] at hF
  dsimp only at hF
  rw [hL] at hF
  obtain ⟨S, hS⟩ : ∃ S, s.extract 0 N = S := ⟨_, rfl⟩
  have hsl := cut_to s N N rfl hN
  rw [hS] at hsl
  have hSl : S.data.toList = s.data.toList.take N := by rw [← hS]; exact to_list s N
  have hSs : S.size = N := by rw [size_list, hSl, List.length_take, ← size_list]; omega
  have hL2 : 2 ≤ L := by rw [← hL]; unfold longK; repeat' split <;> omega
  by_cases hq : K = 2 ∧ 0 < N
  · obtain ⟨rfl, hN0⟩ := hq
    obtain rfl : L = 200 := hL.symm
    obtain ⟨T, hT⟩ : ∃ T, textOf s.data.toList = T := ⟨_, rfl⟩
    have hTq : quoT s.data.toList = T := by rw [← hT]; unfold textOf; rw [hKN, if_pos ⟨rfl, hN0⟩]
    have hQN : quoN s.data.toList = N := by
      have hl := list_cons s h1
      obtain ⟨c, hc⟩ : ∃ c, s[0] = c := ⟨_, rfl⟩
      rw [hc] at hl
      rw [hl, begins_cons] at hKN
      split at hKN
      · cases hKN
      split at hKN
      · cases hKN
      split at hKN
      · rw [← hl] at hKN
        injection hKN
      split at hKN
      · cases hKN
      split at hKN <;> cases hKN
    have hin := quote_inner s.data.toList (by rw [hQN]; exact hN0)
    rw [hQN, hTq] at hin
    obtain ⟨S1, hS1⟩ : ∃ S1, S.extract 1 (N - 1) = S1 := ⟨_, rfl⟩
    have hS1l : S1.data.toList = dbl T := by
      rw [← hS1, ByteArray.data_extract, Array.toList_extract, List.extract_eq_take_drop, hSl, show N - 1 - 1 = N - 2 by omega]
      exact hin.1
    have hS1s : S1.size ≤ 4194304 := by
      have := hin.1
      rw [size_list, hS1l, ← hin.1, List.length_take]
      omega
    have hsl2 := cut_at S 1 ((N : Int) - 1) 1 (N - 1) rfl (by omega) (by omega) (by omega)
    rw [hS1] at hsl2
    have hw := IntWalk.wrap64_in ((N : Int) - 1) ⟨by omega, by omega⟩
    have e0 : decide ((0 : Int) < (N : Int)) = true := by simp; omega
    have HR := Lib.hid (fun w => rep_quote T m S1 w hS1l hS1s)
    obtain ⟨T2, hT2⟩ : ∃ T2 : ByteArray, ⟨T.toArray⟩ = T2 := ⟨_, rfl⟩
    have hTT : T2.data.toList = T := by rw [← hT2]
    have hTs : (T.length : Int) = (T2.size : Int) := by rw [size_list, hTT]
    rw [hT2] at HR
    rw [hT, hTs] at hF
    have hTb : T2.size ≤ 4194304 := by
      have h1 := dbl_le T
      have h2 : (dbl T).length = S1.size := by rw [size_list, hS1l]
      omega
    by_cases hbig : (200 : Int) < (T2.size : Int)
    · have HX := Lib.hid (show firstL s.data.toList = none by rw [hF, if_pos (.inr hbig)])
      clear hF hKN hS hSl hT hTq hQN hin hS1 hS1l hT2 hTT hTs hL
      go_enter Tryd.func17, Tryd.ntmps17
      go_wp2_with fail
      refine (HB.out _).mono ?_
      rintro e w1 ⟨rfl, rfl⟩
      have X0 := Lib.hid (WBox.fresh w 0 0 ⟨#[]⟩ 35)
      have L0 := Lib.hid (below_alloc w (.cells #[.int .i64 0, .string ⟨#[]⟩, .int .i64 0] 35))
      go_wp2_with fail
      refine (HR.out _ (by rw [L0.out.cell (p := ⟨1, 0, none⟩) hlt]; exact HM.out)).mono ?_
      rintro e w2 ⟨rfl, hb2⟩
      have X2 := Lib.hid (X0.out.call hb2)
      have L2 := Lib.hid (bnext L0.out L0.out.size hb2)
      clear hb2
      go_wp2_with fail
      refine (HLo.out _).mono ?_
      rintro e w1 ⟨rfl, rfl⟩
      obtain ⟨x0, x1, x2, xz, xf⟩ := X2.out
      go_wp2
      exact bodyPost_ret (v := .tuple #[.agg #[.int .i64 0, .string ⟨#[]⟩, .int .i64 0], .int .i64 0]) (by simp [results, Tryd.results17, go_sem, World.cell?_setCell_other, x0, x1, x2]) rfl ⟨⟨0, ⟨#[]⟩, 0, rfl, .inl ⟨HX.out, rfl⟩⟩, ((L2.out.setCell (by simp) _).setCell (by simp) _).setCell (by simp) _⟩
    · have HX := Lib.hid (show firstL s.data.toList = some (2, T2.data.toList, N) by rw [hF, if_neg (by omega), hTT])
      have HC := Lib.hid (fun w => sclone_any T2 w (by omega))
      clear hF hKN hS hSl hT hTq hQN hin hS1 hS1l hT2 hTT hTs hL
      go_enter Tryd.func17, Tryd.ntmps17
      go_wp2_with fail
      refine (HB.out _).mono ?_
      rintro e w1 ⟨rfl, rfl⟩
      have X0 := Lib.hid (WBox.fresh w 0 0 ⟨#[]⟩ 35)
      have L0 := Lib.hid (below_alloc w (.cells #[.int .i64 0, .string ⟨#[]⟩, .int .i64 0] 35))
      go_wp2_with fail
      refine (HR.out _ (by rw [L0.out.cell (p := ⟨1, 0, none⟩) hlt]; exact HM.out)).mono ?_
      rintro e w2 ⟨rfl, hb2⟩
      have X2 := Lib.hid (X0.out.call hb2)
      have L2 := Lib.hid (bnext L0.out L0.out.size hb2)
      clear hb2
      go_wp2_with fail
      refine (HLo.out _).mono ?_
      rintro e w1 ⟨rfl, rfl⟩
      go_wp2_with fail
      refine (HC.out _).mono ?_
      rintro e w3 ⟨rfl, hb3⟩
      have X3 := Lib.hid (X2.out.call hb3)
      have L3 := Lib.hid (bnext L2.out L2.out.size hb3)
      clear hb3
      obtain ⟨x0, x1, x2, xz, xf⟩ := X3.out
      go_wp2
      exact bodyPost_ret (v := .tuple #[.agg #[.int .i64 2, .string T2, .int .i64 0], .int .i64 (N : Int)]) (by simp [results, Tryd.results17, go_sem, World.cell?_setCell_other, x0, x1, x2]) rfl ⟨⟨2, T2, N, rfl, .inr HX.out⟩, ((L3.out.setCell (by simp) _).setCell (by simp) _).setCell (by simp) _⟩
  · have ht : textOf s.data.toList = S.data.toList := by unfold textOf; rw [hKN, if_neg hq, hSl]
    rw [ht, ← size_list, hSs] at hF
    by_cases hbig : L < (N : Int)
    · have HX := Lib.hid (show firstL s.data.toList = none by rw [hF, if_pos (.inr hbig)])
      have hK2 : (K == 2) = false := by
        have : K ≠ 2 := fun e => hq ⟨e, by omega⟩
        simpa using this
      clear hF hKN hS hSl hq ht hL
      go_enter Tryd.func17, Tryd.ntmps17
      go_wp2_with fail
      refine (HB.out _).mono ?_
      rintro e w1 ⟨rfl, rfl⟩
      go_wp2_with fail
      refine (HLo.out _).mono ?_
      rintro e w1 ⟨rfl, rfl⟩
      go_wp2
      exact bodyPost_ret (v := .tuple #[.agg #[.int .i64 0, .string ⟨#[]⟩, .int .i64 0], .int .i64 0]) (by simp [results, Tryd.results17, go_sem, World.cell?_setCell_other]) rfl ⟨⟨0, ⟨#[]⟩, 0, rfl, .inl ⟨HX.out, rfl⟩⟩, below_alloc w _⟩
    · have HX := Lib.hid (show firstL s.data.toList = none ∧ N = 0 ∨ firstL s.data.toList = some (K, S.data.toList, N) by
        by_cases h0 : N = 0
        · exact .inl ⟨by rw [hF, if_pos (.inl h0)], h0⟩
        · exact .inr (by rw [hF, if_neg (by omega)]))
      have HC := Lib.hid (fun w => sclone_any S w (by omega))
      by_cases hK : K = 2
      · subst hK
        obtain rfl : N = 0 := by omega
        clear hS
        obtain rfl : S = ByteArray.empty := ByteArray.size_eq_zero_iff.1 hSs
        clear hF hKN hSl hq ht hL
        go_enter Tryd.func17, Tryd.ntmps17
        go_wp2_with fail
        refine (HB.out _).mono ?_
        rintro e w1 ⟨rfl, rfl⟩
        go_wp2_with fail
        refine (HLo.out _).mono ?_
        rintro e w1 ⟨rfl, rfl⟩
        have X0 := Lib.hid (WBox.fresh w 0 0 ⟨#[]⟩ 35)
        have L0 := Lib.hid (below_alloc w (.cells #[.int .i64 0, .string ⟨#[]⟩, .int .i64 0] 35))
        go_wp2_with fail
        refine (HC.out _).mono ?_
        rintro e w3 ⟨rfl, hb3⟩
        have X3 := Lib.hid (X0.out.call hb3)
        have L3 := Lib.hid (bnext L0.out L0.out.size hb3)
        clear hb3
        obtain ⟨x0, x1, x2, xz, xf⟩ := X3.out
        go_wp2
        exact bodyPost_ret (v := .tuple #[.agg #[.int .i64 2, .string ByteArray.empty, .int .i64 0], .int .i64 0]) (by simp [results, Tryd.results17, go_sem, World.cell?_setCell_other, x0, x1, x2]) rfl ⟨⟨2, ByteArray.empty, 0, rfl, HX.out.imp (fun h => ⟨h.1, rfl⟩) id⟩, ((L3.out.setCell (by simp) _).setCell (by simp) _).setCell (by simp) _⟩
      · have hK2 : (K == 2) = false := by simpa using hK
        clear hF hKN hS hSl hq ht hL hK
        go_enter Tryd.func17, Tryd.ntmps17
        go_wp2_with fail
        refine (HB.out _).mono ?_
        rintro e w1 ⟨rfl, rfl⟩
        go_wp2_with fail
        refine (HLo.out _).mono ?_
        rintro e w1 ⟨rfl, rfl⟩
        have X0 := Lib.hid (WBox.fresh w 0 0 ⟨#[]⟩ 35)
        have L0 := Lib.hid (below_alloc w (.cells #[.int .i64 0, .string ⟨#[]⟩, .int .i64 0] 35))
        go_wp2_with fail
        refine (HC.out _).mono ?_
        rintro e w3 ⟨rfl, hb3⟩
        have X3 := Lib.hid (X0.out.call hb3)
        have L3 := Lib.hid (bnext L0.out L0.out.size hb3)
        clear hb3
        obtain ⟨x0, x1, x2, xz, xf⟩ := X3.out
        go_wp2
        exact bodyPost_ret (v := .tuple #[.agg #[.int .i64 K, .string S, .int .i64 0], .int .i64 (N : Int)]) (by simp [results, Tryd.results17, go_sem, World.cell?_setCell_other, x0, x1, x2]) rfl ⟨⟨K, S, N, rfl, HX.out⟩, ((L3.out.setCell (by simp) _).setCell (by simp) _).setCell (by simp) _⟩
end Go.Proofs.YthkdpfadjbhmoaaDoor.Code
