/-
  Contracts of value.Show and of the document's Show of one value, for every value.
-/
import Derived.Test.YtjbpkpfmgbhlpaaGreatDoorMw2
import Derived.Test.YtjbpkpfmgbhlpaaGreatDoorMw1
import Derived.Lib.AppendIntMem
import Derived.Lib.LaidTab
import Derived.Deep.AppendLies
import Derived.Deep.QuietTactic
namespace Go.Proofs.YtjbpkpfmgbhlpaaGreatDoor.Code
open Go.ChangeShapes Go.WideShapes Go.ChangeAt Go.RowKit Val
set_option linter.unusedVariables false
structure Glob (B : Nat) (m : Int) (w : World) : Prop where
 hmax : 0 < B
 hpow : 3 < B
 cell : w.cell? ⟨0, 0, none⟩ = some (.int .i64 m)
 tab : Lib.TabIs Tryz.prog w "internal/strconv.uint64pow10" .u64 Lib.pow10Tab
theorem glob_pow : Tryz.prog.globalNamed "internal/strconv.uint64pow10" = some 3 := by kernel_rfl
theorem Glob.below {B : Nat} {m : Int} {w w' : World} (h : Glob B m w) (hb : Below B w w') : Glob B m w' := by
 refine ⟨h.hmax, h.hpow, by rw [hb.cell (p := ⟨0, 0, none⟩) h.hmax]; exact h.cell, ?_⟩
 have := h.tab
 unfold Lib.TabIs at *
 rw [← this]
 simp only [World.var?, glob_pow, Option.bind_some, hb.block _ h.hpow]
theorem Glob.more {B B' : Nat} {m : Int} {w : World} (h : Glob B m w) (hB : B ≤ B') : Glob B' m w := ⟨by have := h.hmax; omega, by have := h.hpow; omega, h.cell, h.tab⟩
theorem Glob.next {B : Nat} {m : Int} {w w' : World} (h : Glob B m w) (hb : Below B w w') : Glob w'.heap.size m w' := by
 have h1 := h.below hb
 refine ⟨World.block_lt_of_cell? _ _ h1.cell, ?_, h1.cell, h1.tab⟩
 have := h1.tab
 unfold Lib.TabIs at this
 simp only [World.var?, glob_pow, Option.bind_some] at this
 by_cases hlt : 3 < w'.heap.size
 ·exact hlt
 ·rw [Array.getElem?_eq_none (by omega)] at this
  cases this
theorem fbool_any (b : Bool) (w : World) :
  Calls Tryz.prog 158 #[.bool b] w fun e w' => e = .returned (.string (if b then ⟨#[116, 114, 117, 101]⟩ else ⟨#[102, 97, 108, 115, 101]⟩)) ∧ w = w' := by
 cases b
 all_goals
  go_enter Tryz.func158, Tryz.ntmps158
  go_wp2
  go_ret
  exact ⟨rfl, rfl⟩
theorem rep39 (m : Int) (s : ByteArray) (w : World) (hs : s.size ≤ 200) (hm : w.cell? ⟨0, 0, none⟩ = some (.int .i64 m)) :
  Calls Tryz.prog 42 #[.string s, .string ⟨#[39]⟩, .string ⟨#[39, 39]⟩] w fun e w' => e = .returned (.string ⟨(dbl s.data.toList).toArray⟩) ∧ Below w.heap.size w w' := by
 have hc := Lib.countB_mul_le ⟨#[39]⟩ (by decide) s.size s (Nat.le_refl _)
 rw [show (⟨#[39]⟩ : ByteArray).size = 1 from rfl] at hc
 have h := Tryz.strings_ReplaceAll s ⟨#[39]⟩ ⟨#[39, 39]⟩ m w (by omega) hm (by decide) (by rw [show (⟨#[39, 39]⟩ : ByteArray).size = 2 from rfl]; omega)
 rw [show Lib.replaceAll s.data.toList (⟨#[39]⟩ : ByteArray).data.toList (⟨#[39, 39]⟩ : ByteArray).data.toList = dbl s.data.toList from rep_dbl _] at h
 exact h
theorem fint_any (n : Int) (w : World) (hn : fits n) (htab : Lib.TabIs Tryz.prog w "internal/strconv.uint64pow10" .u64 Lib.pow10Tab) :
  Calls Tryz.prog 159 #[.int .i64 n, .int .i64 10] w fun e w' => e = .returned (.string ⟨(Lib.itoa n).toArray⟩) ∧ Below w.heap.size w w' := by
 unfold fits at hn
 refine (Tryz.strconv_FormatInt_10 n hn.1 hn.2 w htab).mono ?_
 rintro e w' ⟨he, k, os, rfl⟩
 exact ⟨he, Lib.below_grow _ w (Nat.le_refl _) k os⟩
set_option maxHeartbeats 2000000 in
theorem vshow_any (k n : Int) (s : ByteArray) (m : Int) (w : World) (hn : fits n) (hg : Glob w.heap.size m w) :
  Calls Tryz.prog 148 #[.agg #[.int .i64 k, .int .i64 n, .string s]] w fun e w' => e = .returned (.string ⟨(showL k n s).toArray⟩) ∧ Below w.heap.size w w' := by
 have HG := Lib.hid hg
 have HN := Lib.hid hn
 clear hg
 obtain ⟨b, hb⟩ : ∃ b, rightB k n s = b := ⟨_, rfl⟩
 have HR := Lib.hid (right_is k n s b hn hb)
 cases b
 ·have HS := Lib.hid (show_wrong hb)
  clear hb hn
  go_enter Tryz.func148, Tryz.ntmps148
  go_wp2_with fail
  refine (HR.out _).mono ?_
  rintro e w1 ⟨rfl, hb1⟩
  have L1 := Lib.hid (bnext (below_alloc w _) (by simp) hb1)
  clear hb1
  go_wp2
  go_ret
  exact ⟨retS (by rw [HS.out]), L1.out⟩
 ·rcases right_kinds hb with rfl | rfl | rfl | rfl | rfl
  ·have HS := Lib.hid (show_0 hb)
   clear hb hn
   go_enter Tryz.func148, Tryz.ntmps148
   go_wp2_with fail
   refine (HR.out _).mono ?_
   rintro e w1 ⟨rfl, hb1⟩
   have L1 := Lib.hid (bnext (below_alloc w _) (by simp) hb1)
   obtain ⟨x0, x1, x2, xz⟩ := (Box.fresh w 0 n s 127).call hb1
   clear hb1
   go_wp2
   go_ret
   exact ⟨retS (by rw [HS.out]), L1.out⟩
  ·have hs := show_1 hb
   clear hb hn
   by_cases h0 : n = 0
   ·subst h0
    rw [if_pos rfl] at hs
    have HS := Lib.hid hs
    clear hs
    go_enter Tryz.func148, Tryz.ntmps148
    go_wp2_with fail
    refine (HR.out _).mono ?_
    rintro e w1 ⟨rfl, hb1⟩
    have L1 := Lib.hid (bnext (below_alloc w _) (by simp) hb1)
    obtain ⟨x0, x1, x2, xz⟩ := (Box.fresh w 1 0 s 127).call hb1
    clear hb1
    go_wp2_with fail
    refine (fbool_any _ _).mono ?_
    rintro e w2 ⟨rfl, rfl⟩
    go_wp2
    go_ret
    exact ⟨retS (by rw [HS.out]), L1.out⟩
   ·rw [if_neg h0] at hs
    have HS := Lib.hid hs
    have e0 : (n == 0) = false := by simpa using h0
    have e0' : (n != 0) = true := by simpa using h0
    clear hs h0
    go_enter Tryz.func148, Tryz.ntmps148
    go_wp2_with fail
    refine (HR.out _).mono ?_
    rintro e w1 ⟨rfl, hb1⟩
    have L1 := Lib.hid (bnext (below_alloc w _) (by simp) hb1)
    obtain ⟨x0, x1, x2, xz⟩ := (Box.fresh w 1 n s 127).call hb1
    clear hb1
    go_wp2_with fail
    refine (fbool_any _ _).mono ?_
    rintro e w2 ⟨rfl, rfl⟩
    go_wp2
    go_ret
    exact ⟨retS (by rw [HS.out]), L1.out⟩
  ·have HS := Lib.hid (show_n hb (by decide) (by decide) (by decide))
   clear hb hn
   go_enter Tryz.func148, Tryz.ntmps148
   go_wp2_with fail
   refine (HR.out _).mono ?_
   rintro e w1 ⟨rfl, hb1⟩
   have L1 := Lib.hid (bnext (below_alloc w _) (by simp) hb1)
   have z1 := L1.out.size
   obtain ⟨x0, x1, x2, xz⟩ := (Box.fresh w 2 n s 127).call hb1
   clear hb1
   go_wp2_with fail
   refine (fint_any _ _ HN.out (HG.out.below L1.out).tab).mono ?_
   rintro e w2 ⟨rfl, hb2⟩
   have L2 := Lib.hid (bnext L1.out z1 hb2)
   clear hb2
   go_wp2
   go_ret
   exact ⟨retS (by rw [HS.out]), L2.out⟩
  ·have HS := Lib.hid (show_n hb (by decide) (by decide) (by decide))
   clear hb hn
   go_enter Tryz.func148, Tryz.ntmps148
   go_wp2_with fail
   refine (HR.out _).mono ?_
   rintro e w1 ⟨rfl, hb1⟩
   have L1 := Lib.hid (bnext (below_alloc w _) (by simp) hb1)
   have z1 := L1.out.size
   obtain ⟨x0, x1, x2, xz⟩ := (Box.fresh w 3 n s 127).call hb1
   clear hb1
   go_wp2_with fail
   refine (fint_any _ _ HN.out (HG.out.below L1.out).tab).mono ?_
   rintro e w2 ⟨rfl, hb2⟩
   have L2 := Lib.hid (bnext L1.out z1 hb2)
   clear hb2
   go_wp2
   go_ret
   exact ⟨retS (by rw [HS.out]), L2.out⟩
  ·have HS := Lib.hid (show_4 hb)
   have h200 := right_small hb
   have hd := dbl_length s.data.toList
   rw [← size_list] at hd
   clear hb hn
   go_enter Tryz.func148, Tryz.ntmps148
   go_wp2_with fail
   refine (HR.out _).mono ?_
   rintro e w1 ⟨rfl, hb1⟩
   have L1 := Lib.hid (bnext (below_alloc w _) (by simp) hb1)
   have z1 := L1.out.size
   obtain ⟨x0, x1, x2, xz⟩ := (Box.fresh w 4 n s 127).call hb1
   clear hb1
   go_wp2_with fail
   refine (rep39 m s _ h200 (HG.out.below L1.out).cell).mono ?_
   rintro e w2 ⟨rfl, hb2⟩
   have L2 := Lib.hid (bnext L1.out z1 hb2)
   clear hb2
   go_wp2
   go_ret
   exact ⟨retS (ba_of (by rw [HS.out]; simp)), L2.out⟩
end Go.Proofs.YtjbpkpfmgbhlpaaGreatDoor.Code
/-
  Contract of lex's first: the word that begins a text.
-/
namespace Go.Proofs.YtjbpkpfmgbhlpaaGreatDoor.Code
open Go.ChangeShapes Go.WideShapes Go.ChangeAt Go.RowKit Val
set_option linter.unusedVariables false
set_option linter.unusedSimpArgs false
def WBox (W : World) (b : Nat) (k : Int) (s : ByteArray) (n : Int) : Prop := W.cell? ⟨b, 0, none⟩ = some (.int .i64 k) ∧ W.cell? ⟨b, 1, none⟩ = some (.string s) ∧ W.cell? ⟨b, 2, none⟩ = some (.int .i64 n) ∧ b < W.heap.size ∧ ∀ j, W.frozen? ⟨b, j, none⟩ = false
theorem WBox.call {W W' : World} {b : Nat} {k n : Int} {s : ByteArray} (h : WBox W b k s n) (hb : Below W.heap.size W W') : WBox W' b k s n := by
 obtain ⟨h0, h1, h2, h3, h4⟩ := h
 exact ⟨by rw [hb.cell (p := ⟨b, 0, none⟩) h3]; exact h0, by rw [hb.cell (p := ⟨b, 1, none⟩) h3]; exact h1, by rw [hb.cell (p := ⟨b, 2, none⟩) h3]; exact h2, Nat.lt_of_lt_of_le h3 hb.size, fun j => by rw [hb.frozen (p := ⟨b, j, none⟩) h3]; exact h4 j⟩
theorem WBox.fresh (W : World) (k n : Int) (s : ByteArray) (t : TypeId) : WBox (W.alloc (.cells #[.int .i64 k, .string s, .int .i64 n] t)) W.heap.size k s n := ⟨by simp [go_sem], by simp [go_sem], by simp [go_sem], by simp, fun j => by simp [go_sem]⟩
theorem sclone_any (s : ByteArray) (w : World) (hs : s.size ≤ 281474976710656) :
  Calls Tryz.prog 44 #[.string s] w fun e w' => e = .returned (.string s) ∧ Below w.heap.size w w' := by
 have HC := Lib.hid (fun w => Tryz.stringslite_Clone s w hs)
 go_enter Tryz.func44, Tryz.ntmps44
 go_wp2_with fail
 refine (HC.out _).mono ?_
 rintro e w1 ⟨rfl, hb⟩
 have L := Lib.hid hb
 clear hb
 go_wp2
 go_ret
 exact ⟨rfl, L.out⟩
theorem rep_quote (t : List UInt8) (m : Int) (s : ByteArray) (w : World) (h : s.data.toList = dbl t) (hs : s.size ≤ 4194304) (hm : w.cell? ⟨0, 0, none⟩ = some (.int .i64 m)) :
  Calls Tryz.prog 42 #[.string s, .string ⟨#[39, 39]⟩, .string ⟨#[39]⟩] w fun e w' => e = .returned (.string ⟨t.toArray⟩) ∧ Below w.heap.size w w' := by
 have hc := Lib.countB_mul_le ⟨#[39, 39]⟩ (by decide) s.size s (Nat.le_refl _)
 rw [show (⟨#[39, 39]⟩ : ByteArray).size = 2 from rfl] at hc
 have h := Tryz.strings_ReplaceAll s ⟨#[39, 39]⟩ ⟨#[39]⟩ m w (by omega) hm (by decide) (by rw [show (⟨#[39]⟩ : ByteArray).size = 1 from rfl]; omega)
 rw [show Lib.replaceAll s.data.toList (⟨#[39, 39]⟩ : ByteArray).data.toList (⟨#[39]⟩ : ByteArray).data.toList = t by rename_i h'; rw [h']; exact rep_dbl' _] at h
 exact h
theorem dbl_le : ∀ l : List UInt8, l.length ≤ (dbl l).length
 | [] => Nat.le_refl _
 | b :: l => by
  have := dbl_le l
  rw [dbl]
  split <;> simp <;> omega
def FirstIs (l : List UInt8) (e : Ending) : Prop := ∃ (k : Int) (t : ByteArray) (n : Nat), e = .returned (.tuple #[.agg #[.int .i64 k, .string t, .int .i64 0], .int .i64 n]) ∧ (firstL l = none ∧ n = 0 ∨ firstL l = some (k, t.data.toList, n))
set_option maxHeartbeats 4000000 in
theorem first_any (s : ByteArray) (m : Int) (w : World) (hs : s.size ≤ 4194304) (h1 : 1 ≤ s.size) (hm : w.cell? ⟨0, 0, none⟩ = some (.int .i64 m)) :
  Calls Tryz.prog 27 #[.string s] w fun e w' => FirstIs s.data.toList e ∧ Below w.heap.size w w' := by
 have hlt : 0 < w.heap.size := World.block_lt_of_cell? _ _ hm
 have HM := Lib.hid hm
 clear hm
 obtain ⟨K, N, hKN⟩ : ∃ K N, beginsL s.data.toList = (K, N) := ⟨_, _, rfl⟩
 have hN : N ≤ s.size := by
  have := begins_le s.data.toList
  rw [hKN] at this
  exact this
 have HB := Lib.hid (fun w => begins_any s w (by omega) h1)
 rw [hKN] at HB
 obtain ⟨L, hL⟩ : ∃ L, longK K = L := ⟨_, rfl⟩
 have HLo := Lib.hid (fun w => longest_any K w)
 rw [hL] at HLo
 have hF := firstL_is s.data.toList
 rw [hKN] at hF
 dsimp only at hF
 rw [hL] at hF
 obtain ⟨S, hS⟩ : ∃ S, s.extract 0 N = S := ⟨_, rfl⟩
 have hsl := cut_to s N N rfl hN
 rw [hS] at hsl
 have hSl : S.data.toList = s.data.toList.take N := by rw [← hS]; exact to_list s N
 have hSs : S.size = N := by rw [size_list, hSl, List.length_take, ← size_list]; omega
 have hL2 : 2 ≤ L := by rw [← hL]; unfold longK; repeat' split <;> omega
 by_cases hq : K = 2 ∧ 0 < N
 ·obtain ⟨rfl, hN0⟩ := hq
  obtain rfl : L = 200 := hL.symm
  obtain ⟨T, hT⟩ : ∃ T, textOf s.data.toList = T := ⟨_, rfl⟩
  have hTq : quoT s.data.toList = T := by rw [← hT]; unfold textOf; rw [hKN, if_pos ⟨rfl, hN0⟩]
  have hQN : quoN s.data.toList = N := by
   have hl := list_cons s h1
   obtain ⟨c, hc⟩ : ∃ c, s[0] = c := ⟨_, rfl⟩
   rw [hc] at hl
   rw [hl, begins_cons] at hKN
   split at hKN
   ·cases hKN
   split at hKN
   ·cases hKN
   split at hKN
   ·rw [← hl] at hKN
    injection hKN
   split at hKN
   ·cases hKN
   split at hKN <;> cases hKN
  have hin := quote_inner s.data.toList (by rw [hQN]; exact hN0)
  rw [hQN, hTq] at hin
  obtain ⟨S1, hS1⟩ : ∃ S1, S.extract 1 (N - 1) = S1 := ⟨_, rfl⟩
  have hS1l : S1.data.toList = dbl T := by
   rw [← hS1, ByteArray.data_extract, Array.toList_extract, List.extract_eq_take_drop, hSl, show N - 1 - 1 = N - 2 by omega]
   exact hin.1
  have hS1s : S1.size ≤ 4194304 := by
   have := hin.1
   rw [size_list, hS1l, ← hin.1, List.length_take]
   omega
  have hsl2 := cut_at S 1 ((N : Int) - 1) 1 (N - 1) rfl (by omega) (by omega) (by omega)
  rw [hS1] at hsl2
  have hw := IntWalk.wrap64_in ((N : Int) - 1) ⟨by omega, by omega⟩
  have e0 : decide ((0 : Int) < (N : Int)) = true := by simp; omega
  have HR := Lib.hid (fun w => rep_quote T m S1 w hS1l hS1s)
  obtain ⟨T2, hT2⟩ : ∃ T2 : ByteArray, ⟨T.toArray⟩ = T2 := ⟨_, rfl⟩
  have hTT : T2.data.toList = T := by rw [← hT2]
  have hTs : (T.length : Int) = (T2.size : Int) := by rw [size_list, hTT]
  rw [hT2] at HR
  rw [hT, hTs] at hF
  have hTb : T2.size ≤ 4194304 := by
   have h1 := dbl_le T
   have h2 : (dbl T).length = S1.size := by rw [size_list, hS1l]
   omega
  by_cases hbig : (200 : Int) < (T2.size : Int)
  ·have HX := Lib.hid (show firstL s.data.toList = none by rw [hF, if_pos (.inr hbig)])
   clear hF hKN hS hSl hT hTq hQN hin hS1 hS1l hT2 hTT hTs hL
   go_enter Tryz.func27, Tryz.ntmps27
   go_wp2_with fail
   refine (HB.out _).mono ?_
   rintro e w1 ⟨rfl, rfl⟩
   have X0 := Lib.hid (WBox.fresh w 0 0 ⟨#[]⟩ 48)
   have L0 := Lib.hid (below_alloc w (.cells #[.int .i64 0, .string ⟨#[]⟩, .int .i64 0] 48))
   go_wp2_with fail
   refine (HR.out _ (by rw [L0.out.cell (p := ⟨0, 0, none⟩) hlt]; exact HM.out)).mono ?_
   rintro e w2 ⟨rfl, hb2⟩
   have X2 := Lib.hid (X0.out.call hb2)
   have L2 := Lib.hid (bnext L0.out L0.out.size hb2)
   clear hb2
   go_wp2_with fail
   refine (HLo.out _).mono ?_
   rintro e w1 ⟨rfl, rfl⟩
   obtain ⟨x0, x1, x2, xz, xf⟩ := X2.out
   go_wp2
   exact bodyPost_ret (v := .tuple #[.agg #[.int .i64 0, .string ⟨#[]⟩, .int .i64 0], .int .i64 0]) (by simp [results, Tryz.results27, go_sem, World.cell?_setCell_other, x0, x1, x2]) rfl ⟨⟨0, ⟨#[]⟩, 0, rfl, .inl ⟨HX.out, rfl⟩⟩, ((L2.out.setCell (by simp) _).setCell (by simp) _).setCell (by simp) _⟩
  ·have HX := Lib.hid (show firstL s.data.toList = some (2, T2.data.toList, N) by rw [hF, if_neg (by omega), hTT])
   have HC := Lib.hid (fun w => sclone_any T2 w (by omega))
   clear hF hKN hS hSl hT hTq hQN hin hS1 hS1l hT2 hTT hTs hL
   go_enter Tryz.func27, Tryz.ntmps27
   go_wp2_with fail
   refine (HB.out _).mono ?_
   rintro e w1 ⟨rfl, rfl⟩
   have X0 := Lib.hid (WBox.fresh w 0 0 ⟨#[]⟩ 48)
   have L0 := Lib.hid (below_alloc w (.cells #[.int .i64 0, .string ⟨#[]⟩, .int .i64 0] 48))
   go_wp2_with fail
   refine (HR.out _ (by rw [L0.out.cell (p := ⟨0, 0, none⟩) hlt]; exact HM.out)).mono ?_
   rintro e w2 ⟨rfl, hb2⟩
   have X2 := Lib.hid (X0.out.call hb2)
   have L2 := Lib.hid (bnext L0.out L0.out.size hb2)
   clear hb2
   go_wp2_with fail
   refine (HLo.out _).mono ?_
   rintro e w1 ⟨rfl, rfl⟩
   go_wp2_with fail
   refine (HC.out _).mono ?_
   rintro e w3 ⟨rfl, hb3⟩
   have X3 := Lib.hid (X2.out.call hb3)
   have L3 := Lib.hid (bnext L2.out L2.out.size hb3)
   clear hb3
   obtain ⟨x0, x1, x2, xz, xf⟩ := X3.out
   go_wp2
   exact bodyPost_ret (v := .tuple #[.agg #[.int .i64 2, .string T2, .int .i64 0], .int .i64 (N : Int)]) (by simp [results, Tryz.results27, go_sem, World.cell?_setCell_other, x0, x1, x2]) rfl ⟨⟨2, T2, N, rfl, .inr HX.out⟩, ((L3.out.setCell (by simp) _).setCell (by simp) _).setCell (by simp) _⟩
 ·have ht : textOf s.data.toList = S.data.toList := by unfold textOf; rw [hKN, if_neg hq, hSl]
  rw [ht, ← size_list, hSs] at hF
  by_cases hbig : L < (N : Int)
  ·have HX := Lib.hid (show firstL s.data.toList = none by rw [hF, if_pos (.inr hbig)])
   have hK2 : (K == 2) = false := by
    have : K ≠ 2 := fun e => hq ⟨e, by omega⟩
    simpa using this
   clear hF hKN hS hSl hq ht hL
   go_enter Tryz.func27, Tryz.ntmps27
   go_wp2_with fail
   refine (HB.out _).mono ?_
   rintro e w1 ⟨rfl, rfl⟩
   go_wp2_with fail
   refine (HLo.out _).mono ?_
   rintro e w1 ⟨rfl, rfl⟩
   go_wp2
   exact bodyPost_ret (v := .tuple #[.agg #[.int .i64 0, .string ⟨#[]⟩, .int .i64 0], .int .i64 0]) (by simp [results, Tryz.results27, go_sem, World.cell?_setCell_other]) rfl ⟨⟨0, ⟨#[]⟩, 0, rfl, .inl ⟨HX.out, rfl⟩⟩, below_alloc w _⟩
  ·have HX := Lib.hid (show firstL s.data.toList = none ∧ N = 0 ∨ firstL s.data.toList = some (K, S.data.toList, N) by
    by_cases h0 : N = 0
    ·exact .inl ⟨by rw [hF, if_pos (.inl h0)], h0⟩
    ·exact .inr (by rw [hF, if_neg (by omega)]))
   have HC := Lib.hid (fun w => sclone_any S w (by omega))
   by_cases hK : K = 2
   ·subst hK
    obtain rfl : N = 0 := by omega
    clear hS
    obtain rfl : S = ByteArray.empty := ByteArray.size_eq_zero_iff.1 hSs
    clear hF hKN hSl hq ht hL
    go_enter Tryz.func27, Tryz.ntmps27
    go_wp2_with fail
    refine (HB.out _).mono ?_
    rintro e w1 ⟨rfl, rfl⟩
    go_wp2_with fail
    refine (HLo.out _).mono ?_
    rintro e w1 ⟨rfl, rfl⟩
    have X0 := Lib.hid (WBox.fresh w 0 0 ⟨#[]⟩ 48)
    have L0 := Lib.hid (below_alloc w (.cells #[.int .i64 0, .string ⟨#[]⟩, .int .i64 0] 48))
    go_wp2_with fail
    refine (HC.out _).mono ?_
    rintro e w3 ⟨rfl, hb3⟩
    have X3 := Lib.hid (X0.out.call hb3)
    have L3 := Lib.hid (bnext L0.out L0.out.size hb3)
    clear hb3
    obtain ⟨x0, x1, x2, xz, xf⟩ := X3.out
    go_wp2
    exact bodyPost_ret (v := .tuple #[.agg #[.int .i64 2, .string ByteArray.empty, .int .i64 0], .int .i64 0]) (by simp [results, Tryz.results27, go_sem, World.cell?_setCell_other, x0, x1, x2]) rfl ⟨⟨2, ByteArray.empty, 0, rfl, HX.out.imp (fun h => ⟨h.1, rfl⟩) id⟩, ((L3.out.setCell (by simp) _).setCell (by simp) _).setCell (by simp) _⟩
   ·have hK2 : (K == 2) = false := by simpa using hK
    clear hF hKN hS hSl hq ht hL hK
    go_enter Tryz.func27, Tryz.ntmps27
    go_wp2_with fail
    refine (HB.out _).mono ?_
    rintro e w1 ⟨rfl, rfl⟩
    go_wp2_with fail
    refine (HLo.out _).mono ?_
    rintro e w1 ⟨rfl, rfl⟩
    have X0 := Lib.hid (WBox.fresh w 0 0 ⟨#[]⟩ 48)
    have L0 := Lib.hid (below_alloc w (.cells #[.int .i64 0, .string ⟨#[]⟩, .int .i64 0] 48))
    go_wp2_with fail
    refine (HC.out _).mono ?_
    rintro e w3 ⟨rfl, hb3⟩
    have X3 := Lib.hid (X0.out.call hb3)
    have L3 := Lib.hid (bnext L0.out L0.out.size hb3)
    clear hb3
    obtain ⟨x0, x1, x2, xz, xf⟩ := X3.out
    go_wp2
    exact bodyPost_ret (v := .tuple #[.agg #[.int .i64 K, .string S, .int .i64 0], .int .i64 (N : Int)]) (by simp [results, Tryz.results27, go_sem, World.cell?_setCell_other, x0, x1, x2]) rfl ⟨⟨K, S, N, rfl, HX.out⟩, ((L3.out.setCell (by simp) _).setCell (by simp) _).setCell (by simp) _⟩
end Go.Proofs.YtjbpkpfmgbhlpaaGreatDoor.Code
/-
  Contracts of the document's run and quote: how many bytes come, and which text.
-/
namespace Go.Proofs.YtjbpkpfmgbhlpaaGreatDoor.Code
open Go.ChangeShapes Go.WideShapes Go.ChangeAt Go.RowKit Val
set_option linter.unusedVariables false
end Go.Proofs.YtjbpkpfmgbhlpaaGreatDoor.Code
/-
  Contract of the document's one: the word that comes.
-/
namespace Go.Proofs.YtjbpkpfmgbhlpaaGreatDoor.Code
open Go.ChangeShapes Go.WideShapes Go.ChangeAt Go.RowKit Val
set_option linter.unusedVariables false
set_option linter.unusedSimpArgs false
end Go.Proofs.YtjbpkpfmgbhlpaaGreatDoor.Code
/-
  Contracts of lex's Words and of the document's.
-/
namespace Go.Proofs.YtjbpkpfmgbhlpaaGreatDoor.Code
open Go.ChangeShapes Go.WideShapes Go.ChangeAt Go.RowKit Val Elems
set_option linter.unusedVariables false
theorem info_word : (Tryz.prog.info? 48).map (fun i => (i.zero, i.size, i.bytes)) = some (some (.agg #[.int .i64 0, .string ByteArray.empty, .int .i64 0]), 3, 32) := by kernel_rfl
theorem roww_new (w : World) (o : Obj) (k n : Int) (t : ByteArray) (ty : TypeId) : ∀ (j : Nat) (u : Value), ([.int .i64 k, .string t, .int .i64 n] : List Value)[j]? = some u → ((w.alloc o).alloc (.cells #[.int .i64 k, .string t, .int .i64 n] ty)).cell? ((⟨w.heap.size + 1, 0, none⟩ : Addr).add j) = some u := by
 have h := heap_alloc_new (w.alloc o) (.cells #[.int .i64 k, .string t, .int .i64 n] ty)
 rw [show (w.alloc o).heap.size = w.heap.size + 1 by simp] at h
 exact World.news_of_block h
set_option maxHeartbeats 4000000 in
set_option maxRecDepth 100000 in
theorem words_any (s : ByteArray) (m : Int) (w : World) (hs : s.size ≤ 4194304) (hm : w.cell? ⟨0, 0, none⟩ = some (.int .i64 m)) :
  Calls Tryz.prog 11 #[.string s] w (WordsPost w s.data.toList) := by
 have hlt : 0 < w.heap.size := World.block_lt_of_cell? _ _ hm
 have HM := Lib.hid hm
 clear hm
 obtain ⟨i0, hi0, hz0, hz1, hz2⟩ := info_parts info_word
 go_enter Tryz.func11, Tryz.ntmps11
 go_wp2
 go_loopw [5, 6] (fun v t wr => ∃ (i : Nat) (a : List W), i ≤ s.size ∧ t = .int .i64 i ∧ Hid (WAt s.data.toList i a) ∧ a.length ≤ i ∧ wr.ownsRow w.heap.size 48 3 v a.length (flatC wc a) ∧ Below w.heap.size w wr) (fun _ t _ => s.size - (intOf t).toNat)
 case atStart => exact ⟨0, [], by omega, rfl, Lib.hid (WAt.start _), by simp, World.ownsRow_nil _ _ _ _, Below.refl _ _⟩
 case round =>
  obtain ⟨i, a, hi, rfl, HK, hai, hown, hbel⟩ := hrel
  have hsz := hbel.size
  have HO := Lib.hid hown
  have HL := Lib.hid hbel
  clear hown hbel
  by_cases hil : i < s.size
  ·obtain ⟨c, hc⟩ : ∃ c, s[i] = c := ⟨_, rfl⟩
   have hg := (list_get s i hil hil).trans hc
   obtain ⟨b, hb⟩ : ∃ b, blankB c = b := ⟨_, rfl⟩
   have HB := Lib.hid (fun w => (blank_any c w).mono (R' := fun e w' => e = .returned (.bool b) ∧ w = w') (by rintro e w' ⟨h1, h2⟩; exact ⟨by rw [h1, hb], h2⟩))
   cases b
   ·obtain ⟨S, hS⟩ : ∃ S, s.extract i s.size = S := ⟨_, rfl⟩
    have hsl := cut_from s i i rfl hi
    rw [hS] at hsl
    have hSl : S.data.toList = s.data.toList.drop i := by rw [← hS]; exact from_list s i
    have hSs : S.size = s.size - i := by rw [size_list, hSl, List.length_drop, ← size_list]
    have HSL := Lib.hid hSl
    have HG := Lib.hid hg
    clear hS hSl hg
    go_wp2_with fail
    refine (HB.out _).mono ?_
    rintro e w1 ⟨rfl, rfl⟩
    go_wp2_with fail
    refine (first_any S m _ (by omega) (by omega) (by rw [HL.out.cell (p := ⟨0, 0, none⟩) hlt]; exact HM.out)).mono ?_
    rintro e w1 ⟨⟨k, t, n, rfl, hcase⟩, hb1⟩
    rw [HSL.out] at hcase
    have L1 := Lib.hid (bnext HL.out hsz hb1)
    have O1 := Lib.hid (own_call HO.out hb1)
    have hzw := L1.out.size
    clear hb1
    rcases hcase with ⟨hno, rfl⟩ | hyes
    ·have HD := Lib.hid (HK.out.none hil (by rw [HG.out]; exact hb) hno)
     clear hno
     go_wp2
     go_ret3
     exact words_no HD.out (L1.out.alloc hzw _)
    ·have hn := first_n hyes
     have hcz : ((n : Int) == 0) = false := by simp; omega
     have hni : i + n ≤ s.size := by have := hn.2; rw [List.length_drop, ← size_list] at this; omega
     have HD := Lib.hid (HK.out.one hil hyes)
     have HW := Lib.hid (show wc (k, t.data.toList, (i : Int)) = [.int .i64 k, .string t, .int .i64 (i : Int)] by unfold wc; rw [Lib.mk_data])
     have hn1 := hn.1
     clear hyes hn
     go_wp2_with (at_builtin; refine wpList_append_own _ rfl _ _ 31 rfl w.heap.size 48 i0 (.agg #[.int .i64 0, .string ByteArray.empty, .int .i64 0]) 3 32 Tryz.underlying31 hi0 hz0 hz1 hz2 rfl (by decide) _ _ _ rfl ((O1.out.alloc _).alloc _) ⟨w1.heap.size + 1, 0, none⟩ 1 1 [.int .i64 k, .string t, .int .i64 (i : Int)] rfl rfl ?c1 ?c2 ?c3 ?c4 ?c5 ?_)
     case c1 => exact roww_new _ _ _ _ _ _
     case c2 => rw [← HW.out]; exact wc_one _
     case c3 => unfold maxLen; omega
     case c4 => omega
     case c5 => simp; omega
     intro v' w2 hown' hgrow _
     have O2 := Lib.hid (show w2.ownsRow w.heap.size 48 3 v' (a ++ [(k, t.data.toList, (i : Int))]).length (flatC wc (a ++ [(k, t.data.toList, (i : Int))])) by rw [flatC_snoc, List.length_append, HW.out]; exact hown')
     have L2 := Lib.hid (((L1.out.alloc hzw _).alloc (by simp; omega) _).grown hgrow (by simp; omega) (fun g hg => (O1.out.lt g hg).1))
     clear hown' hgrow
     go_wp2
     go_roundw
     case rel => exact ⟨i + n, a ++ [(k, t.data.toList, (i : Int))], by omega, by go_num, HD, by rw [List.length_append]; simp; omega, O2.out, L2.out⟩
     case measure => simp [intOf]; omega
   ·have HD := Lib.hid (HK.out.blank hil (by rw [hg]; exact hb))
    clear hg
    go_wp2_with fail
    refine (HB.out _).mono ?_
    rintro e w1 ⟨rfl, rfl⟩
    go_wp2
    go_roundw
    case rel => exact ⟨i + 1, a, by omega, by go_num, HD, by omega, HO.out, HL.out⟩
    case measure => simp [intOf]; omega
  ·have HD := Lib.hid (HK.out.done (by rw [← size_list]; omega))
   go_wp2
   go_ret3
   exact words_yes HD.out HO.out HL.out
theorem at_word {w : World} {B : Nat} {A : Option Addr} {l : List W} (h : At wc 3 w B A l) (i : Nat) (hi : i < l.length) :
  ∃ ad : Addr, A = some ad ∧ ad.block < B ∧ w.cell? (ad.add (i * 3)) = some (.int .i64 l[i].1) ∧ w.cell? ⟨(ad.add (i * 3)).block, (ad.add (i * 3)).off + 1, none⟩ = some (.string ⟨l[i].2.1.toArray⟩) ∧ w.cell? ⟨(ad.add (i * 3)).block, (ad.add (i * 3)).off + 2, none⟩ = some (.int .i64 l[i].2.2) := by
 obtain ⟨ad, e, hb, h0⟩ := h i hi
 refine ⟨ad, e, hb, h0 0 _ rfl, ?_, ?_⟩
 ·rw [← add_next]; exact h0 1 _ rfl
 ·rw [← add_next]; exact h0 2 _ rfl
def ownB (s : List UInt8) : Bool := s == [116, 114, 117, 101] || (s == [102, 97, 108, 115, 101] || (s == [110, 117, 108, 108] || (s == [97, 110, 100] || (s == [111, 114] || (s == [110, 111, 116] || s == [105, 115])))))
set_option maxHeartbeats 4000000 in
theorem own_any (s : ByteArray) (w : World) :
  Calls Tryz.prog 125 #[.string s] w fun e w' => e = .returned (.bool (ownB s.toList)) ∧ w = w' := by
 obtain ⟨b1, h1⟩ : ∃ b, (s.toList == [116, 114, 117, 101]) = b := ⟨_, rfl⟩
 obtain ⟨b2, h2⟩ : ∃ b, (s.toList == [102, 97, 108, 115, 101]) = b := ⟨_, rfl⟩
 obtain ⟨b3, h3⟩ : ∃ b, (s.toList == [110, 117, 108, 108]) = b := ⟨_, rfl⟩
 obtain ⟨b4, h4⟩ : ∃ b, (s.toList == [97, 110, 100]) = b := ⟨_, rfl⟩
 obtain ⟨b5, h5⟩ : ∃ b, (s.toList == [111, 114]) = b := ⟨_, rfl⟩
 obtain ⟨b6, h6⟩ : ∃ b, (s.toList == [110, 111, 116]) = b := ⟨_, rfl⟩
 obtain ⟨b7, h7⟩ : ∃ b, (s.toList == [105, 115]) = b := ⟨_, rfl⟩
 have HX := Lib.hid (show ownB s.toList = (b1 || (b2 || (b3 || (b4 || (b5 || (b6 || b7)))))) by unfold ownB; rw [h1, h2, h3, h4, h5, h6, h7])
 rw [HX.out]
 clear HX
 cases b1
 ·cases b2
  ·cases b3
   ·cases b4
    ·cases b5
     ·cases b6
      ·cases b7
       all_goals (go_enter Tryz.func125, Tryz.ntmps125; go_wp2; go_ret; exact ⟨rfl, rfl⟩)
      ·(go_enter Tryz.func125, Tryz.ntmps125; go_wp2; go_ret; exact ⟨rfl, rfl⟩)
     ·(go_enter Tryz.func125, Tryz.ntmps125; go_wp2; go_ret; exact ⟨rfl, rfl⟩)
    ·(go_enter Tryz.func125, Tryz.ntmps125; go_wp2; go_ret; exact ⟨rfl, rfl⟩)
   ·(go_enter Tryz.func125, Tryz.ntmps125; go_wp2; go_ret; exact ⟨rfl, rfl⟩)
  ·(go_enter Tryz.func125, Tryz.ntmps125; go_wp2; go_ret; exact ⟨rfl, rfl⟩)
 ·(go_enter Tryz.func125, Tryz.ntmps125; go_wp2; go_ret; exact ⟨rfl, rfl⟩)
end Go.Proofs.YtjbpkpfmgbhlpaaGreatDoor.Code
/-
  Contracts of the document's reader of words: what comes, and what is taken.
-/
namespace Go.Proofs.YtjbpkpfmgbhlpaaGreatDoor.Code
open Go.ChangeShapes Go.WideShapes Go.ChangeAt Go.RowKit Val Elems
set_option linter.unusedVariables false
set_option linter.unusedSimpArgs false
theorem isW_bad {L : List V} {i : Nat} (s : List UInt8) : isW L i true s = false := by
 unfold isW
 split <;> rfl
end Go.Proofs.YtjbpkpfmgbhlpaaGreatDoor.Code
/-
  Contracts of the document's Figures below 0, and of its Show of one value.
-/
namespace Go.Proofs.YtjbpkpfmgbhlpaaGreatDoor.Code
open Go.ChangeShapes Go.WideShapes Go.ChangeAt Go.RowKit Val
set_option linter.unusedVariables false
end Go.Proofs.YtjbpkpfmgbhlpaaGreatDoor.Code
/-
  Contracts of the document's reader of words: which kind comes, a name, the marks of a level, that of some marks that comes, a number.
-/
namespace Go.Proofs.YtjbpkpfmgbhlpaaGreatDoor.Code
open Go.ChangeShapes Go.WideShapes Go.ChangeAt Go.RowKit Val Elems
set_option linter.unusedVariables false
set_option linter.unusedSimpArgs false
def sc (s : List UInt8) : List Value := [.string ⟨s.toArray⟩]
theorem sc_length (s : List UInt8) : (sc s).length = 1 := rfl
theorem at_but {α : Type} {c : α → List Value} {k : Nat} {w w' : World} {r B : Nat} {A : Option Addr} {l : List α} (h : At c k w B A l) (hb : But w w' r) (hB : B ≤ w.heap.size) (hne : ∀ ad, A = some ad → ad.block ≠ r) : At c k w' B A l := by
 intro i hi
 obtain ⟨ad, e, hlt, h0⟩ := h i hi
 exact ⟨ad, e, hlt, fun j u hu => (hb.cell (q := ad.add (i * k + j)) (by rw [add_block]; omega) (by rw [add_block]; exact hne ad e)).trans (h0 j u hu)⟩
theorem at_text {w : World} {B : Nat} {A : Option Addr} {l : List (List UInt8)} (h : At sc 1 w B A l) (i : Nat) (hi : i < l.length) : ∃ ad : Addr, A = some ad ∧ ad.block < B ∧ w.cell? (ad.add i) = some (.string ⟨l[i].toArray⟩) := by
 obtain ⟨ad, e, hb, h0⟩ := h i hi
 refine ⟨ad, e, hb, ?_⟩
 have := h0 0 _ rfl
 rwa [Nat.mul_one, Nat.add_zero] at this
theorem texts_new (w : World) (l : List (List UInt8)) (t : TypeId) (o : Obj) (ho : o = .cells (l.map fun s => Value.string ⟨s.toArray⟩).toArray t) : At sc 1 (w.alloc o) (w.heap.size + 1) (some ⟨w.heap.size, 0, none⟩) l := by
 intro i hi
 refine ⟨⟨w.heap.size, 0, none⟩, rfl, by simp, fun j u hu => ?_⟩
 have hj : j = 0 := by
  have := (List.getElem?_eq_some_iff.1 hu).1
  rw [sc_length] at this
  omega
 subst hj
 cases hu
 subst ho
 rw [Nat.mul_one, Nat.add_zero]
 exact World.news_of_block (heap_alloc_new w _) i _ (by simp [hi])
theorem at_str {w : World} {B : Nat} {A : Option Addr} {l : List (List UInt8)} (h : At sc 1 w B A l) (i : Nat) (hi : i < l.length) :
  ∃ ad : Addr, A = some ad ∧ ad.block < B ∧ w.cell? (ad.add i) = some (.string ⟨l[i].toArray⟩) := by
 obtain ⟨ad, e, hb, hc⟩ := h i hi
 have := hc 0 _ rfl
 exact ⟨ad, e, hb, by simpa using this⟩
set_option maxHeartbeats 4000000 in
set_option maxRecDepth 100000 in
theorem same_texts (A B : Option Addr) (ca cb : Nat) (l : List (List UInt8)) (w : World) (ha : At sc 1 w w.heap.size A l) (hb : At sc 1 w w.heap.size B l) (hl : l.length ≤ 100000000) :
  Calls Tryz.prog 18 #[.slice A l.length ca, .slice B l.length cb] w fun e w' => e = .returned (.bool true) ∧ Below w.heap.size w w' := by
 have HA := Lib.hid ha
 have HB := Lib.hid hb
 clear ha hb
 go_enter Tryz.func18, Tryz.ntmps18
 go_wp2
 go_loopw [5] (fun t wr => ∃ i : Nat, i ≤ l.length ∧ t = .int .i64 i ∧ Below w.heap.size w wr) (fun t _ => l.length - (intOf t).toNat)
 case atStart => exact ⟨0, by omega, rfl, Below.refl _ _⟩
 case round =>
  obtain ⟨i, hi, rfl, hbel⟩ := hrel
  have HL := Lib.hid hbel
  have VA := Lib.hid (HA.out.below hbel)
  have VB := Lib.hid (HB.out.below hbel)
  clear hbel
  by_cases hil : i < l.length
  ·obtain ⟨ad, rfl, ga, c0⟩ := at_str VA.out i hil
   obtain ⟨bd, rfl, gb, d0⟩ := at_str VB.out i hil
   obtain ⟨T, hT⟩ : ∃ T : ByteArray, ⟨l[i].toArray⟩ = T := ⟨_, rfl⟩
   rw [hT] at c0 d0
   clear hT
   go_wp2
   go_quiet (fail)
   go_wp2
   go_roundw
   case rel => exact ⟨i + 1, by omega, by go_num, drewN_below HL.out _⟩
   case measure => simp [intOf]; omega
  ·obtain rfl : i = l.length := by omega
   go_wp2
   go_ret
   exact ⟨rfl, HL.out⟩
end Go.Proofs.YtjbpkpfmgbhlpaaGreatDoor.Code
/-
  Queries of words in plain words: nodes with any Kids, what is read at a place, how many steps are enough. No program is named here.
-/
namespace Go.Proofs.YtjbpkpfmgbhlpaaGreatDoor.Code
open Val
set_option linter.unusedVariables false
inductive Nod where
 | mk (op tx : List UInt8) (ks : List Nod)
def Nod.op : Nod → List UInt8
 | .mk o _ _ => o
def Nod.tx : Nod → List UInt8
 | .mk _ t _ => t
def Nod.ks : Nod → List Nod
 | .mk _ _ k => k
mutual
def Nod.deep : Nod → Nat
 | .mk _ _ ks => Nod.deepL ks + 1
def Nod.deepL : List Nod → Nat
 | [] => 0
 | t :: l => max t.deep (Nod.deepL l)
end
def Tr.n : Tr → Nod
 | .leaf o t => .mk o t []
 | .one o a => .mk o [] [a.n]
 | .two o a b => .mk o [] [a.n, b.n]
theorem Tr.n_deep : ∀ t : Tr, t.n.deep = t.deep
 | .leaf o t => by simp [Tr.n, Nod.deep, Nod.deepL, Tr.deep]
 | .one o a => by simp [Tr.n, Nod.deep, Nod.deepL, Tr.deep, Tr.n_deep a]
 | .two o a b => by simp [Tr.n, Nod.deep, Nod.deepL, Tr.deep, Tr.n_deep a, Tr.n_deep b]
def zeroN : Nod := .mk [] [] []
def sFilter : List UInt8 := [102, 105, 108, 116, 101, 114]
def sProject : List UInt8 := [112, 114, 111, 106, 101, 99, 116]
def sJoin : List UInt8 := [106, 111, 105, 110]
def sUnion : List UInt8 := [117, 110, 105, 111, 110]
def sDistinct : List UInt8 := [100, 105, 115, 116, 105, 110, 99, 116]
def sGroup : List UInt8 := [103, 114, 111, 117, 112]
def sBy : List UInt8 := [98, 121]
def sCount : List UInt8 := [99, 111, 117, 110, 116]
def sSum : List UInt8 := [115, 117, 109]
def sMin : List UInt8 := [109, 105, 110]
def sMax : List UInt8 := [109, 97, 120]
def sFrom : List UInt8 := [102, 114, 111, 109]
def sItem : List UInt8 := [105, 116, 101, 109]
def sOn : List UInt8 := [111, 110]
def sAgg : List UInt8 := [97, 103, 103]
abbrev Res := Nod × Nat × Bool
abbrev Ress := List Nod × Nat × Bool
def nmQ (L : List V) (i : Nat) (b : Bool) : List UInt8 × Nat × Bool := if (isK L i b 0 && !ownL (txt L i)) = true then (txt L i, i + 1, b) else ([], i, true)
def mustQ (L : List V) (i : Nat) (b : Bool) (s : List UInt8) : Nat × Bool := if isW L i b s = true then (i + 1, b) else (i, true)
def wordQ (L : List V) (i : Nat) (b : Bool) (s m : List UInt8) : Bool := isK L i b 0 && (txt L i == s && L[i + 1]? == some (3, m))
def opsQ : List (List UInt8) := [sFilter, sProject, sJoin, sUnion, sDistinct, sGroup]
def opQ (L : List V) (i : Nat) (b : Bool) : List (List UInt8) → List UInt8
 | [] => []
 | s :: l => if wordQ L i b s [40] = true then s else opQ L i b l
def moreQ (L : List V) (i : Nat) (b first : Bool) : Bool × Nat × Bool :=
 if first = true then (!(mustQ L i b [44]).2, mustQ L i b [44])
 else if isW L i b [41] = true then (false, i + 1, b)
 else if b = true then (false, i, true)
 else (!(mustQ L i b [44]).2, mustQ L i b [44])
def exprQ (L : List V) (i : Nat) (b : Bool) : Tr × Nat × Bool := P L (stepsN L) (.expr 1) i b
def itemQ (L : List V) (i : Nat) (b : Bool) : Res :=
 (.mk sItem (nmQ L i b).1 [(exprQ L (mustQ L (nmQ L i b).2.1 (nmQ L i b).2.2 [61]).1 (mustQ L (nmQ L i b).2.1 (nmQ L i b).2.2 [61]).2).1.n],
  (exprQ L (mustQ L (nmQ L i b).2.1 (nmQ L i b).2.2 [61]).1 (mustQ L (nmQ L i b).2.1 (nmQ L i b).2.2 [61]).2).2)
def pairQ (L : List V) (i : Nat) (b : Bool) : Res :=
 (.mk sOn (nmQ L i b).1 [.mk sCol (nmQ L (mustQ L (nmQ L i b).2.1 (nmQ L i b).2.2 [61]).1 (mustQ L (nmQ L i b).2.1 (nmQ L i b).2.2 [61]).2).1 []],
  (nmQ L (mustQ L (nmQ L i b).2.1 (nmQ L i b).2.2 [61]).1 (mustQ L (nmQ L i b).2.1 (nmQ L i b).2.2 [61]).2).2)
def aggOps : List (List UInt8) := [sCount, sSum, sMin, sMax]
def kindQ (L : List V) (i : Nat) (b : Bool) : List (List UInt8) → List UInt8
 | [] => []
 | s :: l => if (isK L i b 0 && txt L i == s) = true then s else kindQ L i b l
def argQ (L : List V) (o : List UInt8) (i : Nat) (b : Bool) : List UInt8 × Nat × Bool := if o = sCount then ([], i, b) else nmQ L i b
def callQ (L : List V) (o : List UInt8) (i : Nat) (b : Bool) : List UInt8 × Nat × Bool :=
 ((argQ L o (mustQ L i b [40]).1 (mustQ L i b [40]).2).1, mustQ L (argQ L o (mustQ L i b [40]).1 (mustQ L i b [40]).2).2.1 (argQ L o (mustQ L i b [40]).1 (mustQ L i b [40]).2).2.2 [41])
def agg2Q (L : List V) (s : List UInt8) (i : Nat) (b : Bool) : Res :=
 if kindQ L i b aggOps = [] then (zeroN, i, true)
 else (.mk sAgg s [.mk (kindQ L i b aggOps) (callQ L (kindQ L i b aggOps) (i + 1) b).1 []], (callQ L (kindQ L i b aggOps) (i + 1) b).2)
def aggQ (L : List V) (i : Nat) (b : Bool) : Res := agg2Q L (nmQ L i b).1 (mustQ L (nmQ L i b).2.1 (nmQ L i b).2.2 [61]).1 (mustQ L (nmQ L i b).2.1 (nmQ L i b).2.2 [61]).2
def loopQ (L : List V) (el : Nat → Bool → Res) : Nat → Bool → Nat → Bool → Ress
 | 0, _, i, b => ([], i, b)
 | f + 1, first, i, b =>
  if (moreQ L i b first).1 = false then ([], (moreQ L i b first).2)
  else ((el (moreQ L i b first).2.1 (moreQ L i b first).2.2).1 :: (loopQ L el f false (el (moreQ L i b first).2.1 (moreQ L i b first).2.2).2.1 (el (moreQ L i b first).2.1 (moreQ L i b first).2.2).2.2).1,
   (loopQ L el f false (el (moreQ L i b first).2.1 (moreQ L i b first).2.2).2.1 (el (moreQ L i b first).2.1 (moreQ L i b first).2.2).2.2).2)
def namesQ (L : List V) : Nat → Nat → Bool → Ress
 | 0, i, b => ([], i, b)
 | f + 1, i, b =>
  if isK L (nmQ L i b).2.1 (nmQ L i b).2.2 0 = true then (.mk sCol (nmQ L i b).1 [] :: (namesQ L f (nmQ L i b).2.1 (nmQ L i b).2.2).1, (namesQ L f (nmQ L i b).2.1 (nmQ L i b).2.2).2)
  else ([.mk sCol (nmQ L i b).1 []], (nmQ L i b).2)
def hasQ (L : List V) (i : Nat) (b : Bool) : Bool := isK L i b 0 && (txt L i == sBy && !wordQ L i b sBy [61])
def byQ (L : List V) (i : Nat) (b : Bool) : Res :=
 if hasQ L i b = true then (.mk sBy [] (namesQ L (L.length + 1) (i + 1) b).1, mustQ L (namesQ L (L.length + 1) (i + 1) b).2.1 (namesQ L (L.length + 1) (i + 1) b).2.2 [44])
 else (.mk sBy [] [], i, b)
def groupQ (L : List V) (i : Nat) (b : Bool) : Ress :=
 ((byQ L i b).1 :: (aggQ L (byQ L i b).2.1 (byQ L i b).2.2).1 :: (loopQ L (aggQ L) (L.length + 1) false (aggQ L (byQ L i b).2.1 (byQ L i b).2.2).2.1 (aggQ L (byQ L i b).2.1 (byQ L i b).2.2).2.2).1,
  (loopQ L (aggQ L) (L.length + 1) false (aggQ L (byQ L i b).2.1 (byQ L i b).2.2).2.1 (aggQ L (byQ L i b).2.1 (byQ L i b).2.2).2.2).2)
def tailQ (L : List V) (q : Nat → Bool → Res) (o : List UInt8) (i : Nat) (b : Bool) : Ress :=
 if o = sFilter then ([(exprQ L (mustQ L i b [44]).1 (mustQ L i b [44]).2).1.n], mustQ L (exprQ L (mustQ L i b [44]).1 (mustQ L i b [44]).2).2.1 (exprQ L (mustQ L i b [44]).1 (mustQ L i b [44]).2).2.2 [41])
 else if o = sDistinct then ([], mustQ L i b [41])
 else if o = sProject then loopQ L (itemQ L) (L.length + 1) true i b
 else if o = sUnion then loopQ L q (L.length + 1) true i b
 else if o = sJoin then
  ((q (mustQ L i b [44]).1 (mustQ L i b [44]).2).1 :: (loopQ L (pairQ L) (L.length + 1) true (q (mustQ L i b [44]).1 (mustQ L i b [44]).2).2.1 (q (mustQ L i b [44]).1 (mustQ L i b [44]).2).2.2).1,
   (loopQ L (pairQ L) (L.length + 1) true (q (mustQ L i b [44]).1 (mustQ L i b [44]).2).2.1 (q (mustQ L i b [44]).1 (mustQ L i b [44]).2).2.2).2)
 else groupQ L (mustQ L i b [44]).1 (mustQ L i b [44]).2
def qq (L : List V) : Nat → Nat → Bool → Res
 | 0, i, b => (zeroN, i, b)
 | f + 1, i, b =>
  if opQ L i b opsQ = [] then (.mk sFrom (nmQ L i b).1 [], (nmQ L i b).2)
  else (.mk (opQ L i b opsQ) [] ((qq L f (i + 2) b).1 :: (tailQ L (qq L f) (opQ L i b opsQ) (qq L f (i + 2) b).2.1 (qq L f (i + 2) b).2.2).1),
   (tailQ L (qq L f) (opQ L i b opsQ) (qq L f (i + 2) b).2.1 (qq L f (i + 2) b).2.2).2)
def Ends (n i : Nat) (b : Bool) (r : Nat × Bool) : Prop := i ≤ r.1 ∧ r.1 ≤ n ∧ (b = true → r = (i, true))
theorem Ends.then {n i : Nat} {b : Bool} {r r' : Nat × Bool} (h : Ends n i b r) (h' : Ends n r.1 r.2 r') : Ends n i b r' :=
 ⟨Nat.le_trans h.1 h'.1, h'.2.1, fun hb => by
  have e := h.2.2 hb
  have e' := h'.2.2 (by rw [e])
  rw [e', e]⟩
theorem Ends.good {n i : Nat} {b : Bool} {r : Nat × Bool} (h : Ends n i b r) (hr : r.2 = false) : b = false := by
 cases b with
 | false => rfl
 | true => rw [h.2.2 rfl] at hr; cases hr
theorem Ends.refl {n i : Nat} {b : Bool} (h : i ≤ n) : Ends n i b (i, b) := ⟨Nat.le_refl _, h, fun hb => by rw [hb]⟩
theorem Ends.bad {n i : Nat} {b : Bool} (h : i ≤ n) : Ends n i b (i, true) := ⟨Nat.le_refl _, h, fun hb => rfl⟩
theorem Ends.step {n i k : Nat} {b : Bool} (h : i + k ≤ n) (hb : b = false) : Ends n i b (i + k, b) := ⟨Nat.le_add_right _ _, h, fun h => by rw [hb] at h; cases h⟩
section
variable {L : List V} {i : Nat} {b : Bool}
theorem nm_ends (h : i ≤ L.length) : Ends L.length i b (nmQ L i b).2 := by
 unfold nmQ
 split
 ·rename_i hs
  have hs := (Bool.and_eq_true _ _ ▸ hs).1
  have := isK_lt hs
  exact Ends.step (by omega) this.2
 ·exact Ends.bad h
theorem must_ends {s : List UInt8} (h : i ≤ L.length) : Ends L.length i b (mustQ L i b s) := by
 unfold mustQ
 split
 ·rename_i hs
  have := isW_lt hs
  exact Ends.step (by omega) (isW_good hs)
 ·exact Ends.bad h
theorem more_ends {first : Bool} (h : i ≤ L.length) : Ends L.length i b (moreQ L i b first).2 := by
 unfold moreQ
 split
 ·exact must_ends h
 split
 ·rename_i hs
  have := isW_lt hs
  exact Ends.step (by omega) (isW_good hs)
 split
 ·exact Ends.bad h
 ·exact must_ends h
theorem expr_ends (h : i ≤ L.length) : Ends L.length i b (exprQ L i b).2 := P_ends L (stepsN L) (.expr 1) i b h
theorem item_ends (h : i ≤ L.length) : Ends L.length i b (itemQ L i b).2 := by
 have h1 := nm_ends (b := b) h
 have h2 := must_ends (b := (nmQ L i b).2.2) (s := [61]) h1.2.1
 exact (h1.then h2).then (expr_ends h2.2.1)
theorem pair_ends (h : i ≤ L.length) : Ends L.length i b (pairQ L i b).2 := by
 have h1 := nm_ends (b := b) h
 have h2 := must_ends (b := (nmQ L i b).2.2) (s := [61]) h1.2.1
 exact (h1.then h2).then (nm_ends h2.2.1)
theorem arg_ends {o : List UInt8} (h : i ≤ L.length) : Ends L.length i b (argQ L o i b).2 := by
 unfold argQ
 split
 ·exact Ends.refl h
 ·exact nm_ends h
theorem call_ends {o : List UInt8} (h : i ≤ L.length) : Ends L.length i b (callQ L o i b).2 := by
 have h1 := must_ends (b := b) (s := [40]) h
 have h2 := arg_ends (b := (mustQ L i b [40]).2) (o := o) h1.2.1
 exact (h1.then h2).then (must_ends h2.2.1)
theorem kind_some : ∀ {l : List (List UInt8)}, kindQ L i b l ≠ [] → isK L i b 0 = true ∧ txt L i = kindQ L i b l ∧ kindQ L i b l ∈ l
 | [], h => absurd rfl h
 | s :: l, h => by
  rw [kindQ] at h ⊢
  split
  ·rename_i hs
   simp only [Bool.and_eq_true, beq_iff_eq] at hs
   exact ⟨hs.1, hs.2, List.mem_cons_self ..⟩
  ·rename_i hs
   rw [if_neg hs] at h
   have ih := kind_some (l := l) h
   exact ⟨ih.1, ih.2.1, List.mem_cons_of_mem _ ih.2.2⟩
theorem agg2_ends {s : List UInt8} (h : i ≤ L.length) : Ends L.length i b (agg2Q L s i b).2 := by
 unfold agg2Q
 split
 ·exact Ends.bad h
 ·rename_i hk
  have hs := isK_lt (kind_some hk).1
  exact (Ends.step (k := 1) (by omega) hs.2).then (call_ends (by omega))
theorem agg_ends (h : i ≤ L.length) : Ends L.length i b (aggQ L i b).2 := by
 have h1 := nm_ends (b := b) h
 have h2 := must_ends (b := (nmQ L i b).2.2) (s := [61]) h1.2.1
 exact (h1.then h2).then (agg2_ends h2.2.1)
theorem loop_ends {el : Nat → Bool → Res} (he : ∀ j c, j ≤ L.length → Ends L.length j c (el j c).2) : ∀ (f : Nat) (first : Bool) (i : Nat) (b : Bool), i ≤ L.length → Ends L.length i b (loopQ L el f first i b).2
 | 0, _, i, b, h => Ends.refl h
 | f + 1, first, i, b, h => by
  have h1 := more_ends (b := b) (first := first) h
  rw [loopQ]
  split
  ·exact h1
  ·have h2 := he _ (moreQ L i b first).2.2 h1.2.1
   exact (h1.then h2).then (loop_ends he f false _ _ h2.2.1)
theorem names_ends : ∀ (f i : Nat) (b : Bool), i ≤ L.length → Ends L.length i b (namesQ L f i b).2
 | 0, i, b, h => Ends.refl h
 | f + 1, i, b, h => by
  have h1 := nm_ends (b := b) h
  rw [namesQ]
  split
  ·exact h1.then (names_ends f _ _ h1.2.1)
  ·exact h1
theorem by_ends (h : i ≤ L.length) : Ends L.length i b (byQ L i b).2 := by
 unfold byQ
 split
 ·rename_i hs
  unfold hasQ at hs
  have hs := isK_lt (Bool.and_eq_true _ _ ▸ hs).1
  have h1 : Ends L.length i b (i + 1, b) := Ends.step (by omega) hs.2
  have h2 := names_ends (L := L) (L.length + 1) (i + 1) b (by omega)
  exact (h1.then h2).then (must_ends h2.2.1)
 ·exact Ends.refl h
theorem group_ends (h : i ≤ L.length) : Ends L.length i b (groupQ L i b).2 := by
 have h1 := by_ends (b := b) h
 have h2 := agg_ends (b := (byQ L i b).2.2) h1.2.1
 exact (h1.then h2).then (loop_ends (fun j c hj => agg_ends hj) _ _ _ _ h2.2.1)
theorem tail_ends {q : Nat → Bool → Res} (hq : ∀ j c, j ≤ L.length → Ends L.length j c (q j c).2) {o : List UInt8} (h : i ≤ L.length) : Ends L.length i b (tailQ L q o i b).2 := by
 have h1 := must_ends (b := b) (s := [44]) h
 unfold tailQ
 split
 ·have h2 := expr_ends (b := (mustQ L i b [44]).2) h1.2.1
  exact (h1.then h2).then (must_ends h2.2.1)
 split
 ·exact must_ends h
 split
 ·exact loop_ends (fun j c hj => item_ends hj) _ _ _ _ h
 split
 ·exact loop_ends hq _ _ _ _ h
 split
 ·have h2 := hq _ (mustQ L i b [44]).2 h1.2.1
  exact (h1.then h2).then (loop_ends (fun j c hj => pair_ends hj) _ _ _ _ h2.2.1)
 ·exact h1.then (group_ends h1.2.1)
theorem word_lt {s m : List UInt8} (h : wordQ L i b s m = true) : i + 2 ≤ L.length ∧ b = false := by
 unfold wordQ at h
 simp only [Bool.and_eq_true, beq_iff_eq] at h
 obtain ⟨h1, h2, h3⟩ := h
 have := (List.getElem?_eq_some_iff.1 h3).1
 exact ⟨this, (isK_lt h1).2⟩
theorem op_some : ∀ {l : List (List UInt8)}, opQ L i b l ≠ [] → wordQ L i b (opQ L i b l) [40] = true ∧ opQ L i b l ∈ l
 | [], h => absurd rfl h
 | s :: l, h => by
  rw [opQ] at h ⊢
  split
  ·rename_i hs
   exact ⟨hs, List.mem_cons_self ..⟩
  ·rename_i hs
   rw [if_neg hs] at h
   have ih := op_some (l := l) h
   exact ⟨ih.1, List.mem_cons_of_mem _ ih.2⟩
theorem op_lt {l : List (List UInt8)} (h : opQ L i b l ≠ []) : i + 2 ≤ L.length ∧ b = false := word_lt (op_some h).1
end
theorem qq_ends (L : List V) : ∀ (f i : Nat) (b : Bool), i ≤ L.length → Ends L.length i b (qq L f i b).2
 | 0, i, b, h => Ends.refl h
 | f + 1, i, b, h => by
  rw [qq]
  split
  ·exact nm_ends h
  ·rename_i ho
   have hs := op_lt ho
   have h1 := qq_ends L f (i + 2) b hs.1
   exact ((Ends.step (k := 2) hs.1 hs.2).then h1).then (tail_ends (fun j c hj => qq_ends L f j c hj) h1.2.1)
theorem more_lt {L : List V} {i : Nat} {b first : Bool} (h : (moreQ L i b first).1 = true) : i < L.length ∧ b = false ∧ (moreQ L i b first).2 = (i + 1, false) := by
 have hm : ∀ c : Bool, (!(mustQ L i c [44]).2) = true → i < L.length ∧ c = false ∧ mustQ L i c [44] = (i + 1, false) := by
  intro c hc
  unfold mustQ at hc ⊢
  split at hc
  ·rename_i hs
   have h1 := isW_good hs
   rw [if_pos hs]
   exact ⟨isW_lt hs, h1, by rw [h1]⟩
  ·cases hc
 unfold moreQ at h ⊢
 by_cases c1 : first = true
 ·rw [if_pos c1] at h ⊢
  exact hm b h
 rw [if_neg c1] at h ⊢
 by_cases c2 : isW L i b [41] = true
 ·rw [if_pos c2] at h
  cases h
 rw [if_neg c2] at h ⊢
 by_cases c3 : b = true
 ·rw [if_pos c3] at h
  cases h
 rw [if_neg c3] at h ⊢
 exact hm b h
theorem loop_steps {L : List V} {el el' : Nat → Bool → Res} (he : ∀ j c, j ≤ L.length → Ends L.length j c (el j c).2) (i0 : Nat) (hel : ∀ j c, i0 ≤ j → j ≤ L.length → el j c = el' j c) : ∀ (f g : Nat) (first : Bool) (i : Nat) (b : Bool), i0 ≤ i → i ≤ L.length → L.length - i < f → L.length - i < g → loopQ L el f first i b = loopQ L el' g first i b
 | 0, _, _, _, _, _, _, h, _ => absurd h (Nat.not_lt_zero _)
 | _, 0, _, _, _, _, _, _, h => absurd h (Nat.not_lt_zero _)
 | f + 1, g + 1, first, i, b, h0, h, hf, hg => by
  rw [loopQ, loopQ]
  cases hm : (moreQ L i b first).1 with
  | false => simp
  | true =>
   have h1 := more_lt hm
   rw [h1.2.2]
   have hE := he (i + 1) false (by omega)
   rw [← hel (i + 1) false (by omega) (by omega)]
   have hi1 := hE.1
   dsimp only at hi1 ⊢
   rw [loop_steps he i0 hel f g false _ _ (by omega) hE.2.1 (by omega) (by omega)]
theorem names_steps {L : List V} : ∀ (f g i : Nat) (b : Bool), i ≤ L.length → L.length - i < f → L.length - i < g → namesQ L f i b = namesQ L g i b
 | 0, _, _, _, _, h, _ => absurd h (Nat.not_lt_zero _)
 | _, 0, _, _, _, _, h => absurd h (Nat.not_lt_zero _)
 | f + 1, g + 1, i, b, h, hf, hg => by
  rw [namesQ, namesQ]
  split
  ·rename_i hk
   have h1 := (isK_lt hk).2
   have h2 : i < (nmQ L i b).2.1 := by
    unfold nmQ at h1 ⊢
    split at h1
    ·rename_i hs
     rw [if_pos hs]
     exact Nat.lt_succ_self _
    ·cases h1
   have hE := nm_ends (b := b) h
   have h3 := hE.2.1
   rw [names_steps f g _ _ hE.2.1 (by omega) (by omega)]
  ·rfl
theorem tail_steps {L : List V} {q q' : Nat → Bool → Res} (hq : ∀ j c, j ≤ L.length → Ends L.length j c (q j c).2) {o : List UInt8} {i : Nat} {b : Bool} (h : i ≤ L.length) (hqq : ∀ j c, i ≤ j → j ≤ L.length → q j c = q' j c) : tailQ L q o i b = tailQ L q' o i b := by
 have h1 := must_ends (b := b) (s := [44]) h
 unfold tailQ
 split
 ·rfl
 split
 ·rfl
 split
 ·rfl
 split
 ·exact loop_steps hq i hqq _ _ _ _ _ (Nat.le_refl _) h (by omega) (by omega)
 split
 ·rw [hqq _ _ h1.1 h1.2.1]
 ·rfl
theorem qq_steps (L : List V) : ∀ (f g i : Nat) (b : Bool), i ≤ L.length → L.length - i < f → L.length - i < g → qq L f i b = qq L g i b
 | 0, _, _, _, _, h, _ => absurd h (Nat.not_lt_zero _)
 | _, 0, _, _, _, _, h => absurd h (Nat.not_lt_zero _)
 | f + 1, g + 1, i, b, h, hf, hg => by
  rw [qq, qq]
  split
  ·rfl
  ·rename_i ho
   have hs := op_lt ho
   have h1 := qq_ends L f (i + 2) b hs.1
   have hi1 := h1.1
   rw [← qq_steps L f g (i + 2) b hs.1 (by omega) (by omega)]
   rw [tail_steps (q := qq L f) (q' := qq L g) (fun j c hj => qq_ends L f j c hj) h1.2.1 (fun j c hij hj => qq_steps L f g j c hj (by omega) (by omega))]
end Go.Proofs.YtjbpkpfmgbhlpaaGreatDoor.Code
