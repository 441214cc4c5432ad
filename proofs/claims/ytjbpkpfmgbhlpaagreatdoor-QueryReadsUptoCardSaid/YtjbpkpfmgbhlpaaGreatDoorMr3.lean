/-
  Contracts of value.Show and of the document's Show of one value, for every value.
-/
import Derived.Test.YtjbpkpfmgbhlpaaGreatDoorMr2
import Derived.Test.YtjbpkpfmgbhlpaaGreatDoorMr1
import Derived.Lib.AppendIntMem
import Derived.Lib.LaidTab
import Derived.Deep.AppendLies
set_option maxRecDepth 100000
set_option maxHeartbeats 16000000
open Go.Lib (hid)
namespace Go.Proofs.YtjbpkpfmgbhlpaaGreatDoor.Code
open Go.ChangeShapes Go.WideShapes Go.ChangeAt Go.RowKit Val
set_option linter.unusedVariables false
structure Glob (B : Nat) (m : Int) (w : World) : Prop where
 hmax : 0 < B
 hpow : 3 < B
 cell : w.cell? ⟨0, 0, none⟩ = some (.int .i64 m)
 tab : Lib.TabIs Tryz.prog w "internal/strconv.uint64pow10" .u64 Lib.pow10Tab
theorem glob_pow : Tryz.prog.globalNamed "internal/strconv.uint64pow10" = some 3 := by kernel_rfl
theorem Glob.below {B : Nat} {m : Int} {w w' : World} (h : Glob B m w) (hb : Below B w w') : Glob B m w' := by
 refine ⟨h.hmax, h.hpow, by rw [hb.cell (p := ⟨0, 0, none⟩) h.hmax]; exact h.cell, ?_⟩
 have := h.tab
 unfold Lib.TabIs at *
 rw [← this]
 simp only [World.var?, glob_pow, Option.bind_some, hb.block _ h.hpow]
theorem Glob.more {B B' : Nat} {m : Int} {w : World} (h : Glob B m w) (hB : B ≤ B') : Glob B' m w := ⟨by have := h.hmax; omega, by have := h.hpow; omega, h.cell, h.tab⟩
theorem Glob.next {B : Nat} {m : Int} {w w' : World} (h : Glob B m w) (hb : Below B w w') : Glob w'.heap.size m w' := by
 have h1 := h.below hb
 refine ⟨World.block_lt_of_cell? _ _ h1.cell, ?_, h1.cell, h1.tab⟩
 have := h1.tab
 unfold Lib.TabIs at this
 simp only [World.var?, glob_pow, Option.bind_some] at this
 by_cases hlt : 3 < w'.heap.size
 ·exact hlt
 ·rw [Array.getElem?_eq_none (by omega)] at this
  cases this
theorem fbool_any (b : Bool) (w : World) :
  Calls Tryz.prog 158 #[.bool b] w fun e w' => e = .returned (.string (if b then ⟨#[116, 114, 117, 101]⟩ else ⟨#[102, 97, 108, 115, 101]⟩)) ∧ w = w' := by
 cases b
 all_goals
  go_enter Tryz.func158, Tryz.ntmps158
  go_wp2
  go_ret
  exact ⟨rfl, rfl⟩
theorem rep39 (m : Int) (s : ByteArray) (w : World) (hs : s.size ≤ 200) (hm : w.cell? ⟨0, 0, none⟩ = some (.int .i64 m)) :
  Calls Tryz.prog 42 #[.string s, .string ⟨#[39]⟩, .string ⟨#[39, 39]⟩] w fun e w' => e = .returned (.string ⟨(dbl s.data.toList).toArray⟩) ∧ Below w.heap.size w w' := by
 have hc := Lib.countB_mul_le ⟨#[39]⟩ (by decide) s.size s (Nat.le_refl _)
 rw [show (⟨#[39]⟩ : ByteArray).size = 1 from rfl] at hc
 have h := Tryz.strings_ReplaceAll s ⟨#[39]⟩ ⟨#[39, 39]⟩ m w (by omega) hm (by decide) (by rw [show (⟨#[39, 39]⟩ : ByteArray).size = 2 from rfl]; omega)
 rw [show Lib.replaceAll s.data.toList (⟨#[39]⟩ : ByteArray).data.toList (⟨#[39, 39]⟩ : ByteArray).data.toList = dbl s.data.toList from rep_dbl _] at h
 exact h
theorem fint_any (n : Int) (w : World) (hn : fits n) (htab : Lib.TabIs Tryz.prog w "internal/strconv.uint64pow10" .u64 Lib.pow10Tab) :
  Calls Tryz.prog 159 #[.int .i64 n, .int .i64 10] w fun e w' => e = .returned (.string ⟨(Lib.itoa n).toArray⟩) ∧ Below w.heap.size w w' := by
 unfold fits at hn
 refine (Tryz.strconv_FormatInt_10 n hn.1 hn.2 w htab).mono ?_
 rintro e w' ⟨he, k, os, rfl⟩
 exact ⟨he, Lib.below_grow _ w (Nat.le_refl _) k os⟩
theorem vshow_any (k n : Int) (s : ByteArray) (m : Int) (w : World) (hn : fits n) (hg : Glob w.heap.size m w) :
  Calls Tryz.prog 148 #[.agg #[.int .i64 k, .int .i64 n, .string s]] w fun e w' => e = .returned (.string ⟨(showL k n s).toArray⟩) ∧ Below w.heap.size w w' := by
 have HG := hid hg
 have HN := hid hn
 clear hg
 obtain ⟨b, hb⟩ : ∃ b, rightB k n s = b := ⟨_, rfl⟩
 have HR := hid (right_is k n s b hn hb)
 cases b
 ·have HS := hid (show_wrong hb)
  clear hb hn
  go_enter Tryz.func148, Tryz.ntmps148
  go_wp2_with fail
  refine (HR.out _).mono ?_
  rintro e w1 ⟨rfl, hb1⟩
  have L1 := hid (bnext (below_alloc w _) (by simp) hb1)
  clear hb1
  go_wp2
  go_ret
  exact ⟨retS (by rw [HS.out]), L1.out⟩
 ·rcases right_kinds hb with rfl | rfl | rfl | rfl | rfl
  ·have HS := hid (show_0 hb)
   clear hb hn
   go_enter Tryz.func148, Tryz.ntmps148
   go_wp2_with fail
   refine (HR.out _).mono ?_
   rintro e w1 ⟨rfl, hb1⟩
   have L1 := hid (bnext (below_alloc w _) (by simp) hb1)
   obtain ⟨x0, x1, x2, xz⟩ := (Box.fresh w 0 n s 127).call hb1
   clear hb1
   go_wp2
   go_ret
   exact ⟨retS (by rw [HS.out]), L1.out⟩
  ·have hs := show_1 hb
   clear hb hn
   by_cases h0 : n = 0
   ·subst h0
    rw [if_pos rfl] at hs
    have HS := hid hs
    clear hs
    go_enter Tryz.func148, Tryz.ntmps148
    go_wp2_with fail
    refine (HR.out _).mono ?_
    rintro e w1 ⟨rfl, hb1⟩
    have L1 := hid (bnext (below_alloc w _) (by simp) hb1)
    obtain ⟨x0, x1, x2, xz⟩ := (Box.fresh w 1 0 s 127).call hb1
    clear hb1
    go_wp2_with fail
    refine (fbool_any _ _).mono ?_
    rintro e w2 ⟨rfl, rfl⟩
    go_wp2
    go_ret
    exact ⟨retS (by rw [HS.out]), L1.out⟩
   ·rw [if_neg h0] at hs
    have HS := hid hs
    have e0 : (n == 0) = false := by simpa using h0
    have e0' : (n != 0) = true := by simpa using h0
    clear hs h0
    go_enter Tryz.func148, Tryz.ntmps148
    go_wp2_with fail
    refine (HR.out _).mono ?_
    rintro e w1 ⟨rfl, hb1⟩
    have L1 := hid (bnext (below_alloc w _) (by simp) hb1)
    obtain ⟨x0, x1, x2, xz⟩ := (Box.fresh w 1 n s 127).call hb1
    clear hb1
    go_wp2_with fail
    refine (fbool_any _ _).mono ?_
    rintro e w2 ⟨rfl, rfl⟩
    go_wp2
    go_ret
    exact ⟨retS (by rw [HS.out]), L1.out⟩
  ·have HS := hid (show_n hb (by decide) (by decide) (by decide))
   clear hb hn
   go_enter Tryz.func148, Tryz.ntmps148
   go_wp2_with fail
   refine (HR.out _).mono ?_
   rintro e w1 ⟨rfl, hb1⟩
   have L1 := hid (bnext (below_alloc w _) (by simp) hb1)
   have z1 := L1.out.size
   obtain ⟨x0, x1, x2, xz⟩ := (Box.fresh w 2 n s 127).call hb1
   clear hb1
   go_wp2_with fail
   refine (fint_any _ _ HN.out (HG.out.below L1.out).tab).mono ?_
   rintro e w2 ⟨rfl, hb2⟩
   have L2 := hid (bnext L1.out z1 hb2)
   clear hb2
   go_wp2
   go_ret
   exact ⟨retS (by rw [HS.out]), L2.out⟩
  ·have HS := hid (show_n hb (by decide) (by decide) (by decide))
   clear hb hn
   go_enter Tryz.func148, Tryz.ntmps148
   go_wp2_with fail
   refine (HR.out _).mono ?_
   rintro e w1 ⟨rfl, hb1⟩
   have L1 := hid (bnext (below_alloc w _) (by simp) hb1)
   have z1 := L1.out.size
   obtain ⟨x0, x1, x2, xz⟩ := (Box.fresh w 3 n s 127).call hb1
   clear hb1
   go_wp2_with fail
   refine (fint_any _ _ HN.out (HG.out.below L1.out).tab).mono ?_
   rintro e w2 ⟨rfl, hb2⟩
   have L2 := hid (bnext L1.out z1 hb2)
   clear hb2
   go_wp2
   go_ret
   exact ⟨retS (by rw [HS.out]), L2.out⟩
  ·have HS := hid (show_4 hb)
   have h200 := right_small hb
   have hd := dbl_length s.data.toList
   rw [← size_list] at hd
   clear hb hn
   go_enter Tryz.func148, Tryz.ntmps148
   go_wp2_with fail
   refine (HR.out _).mono ?_
   rintro e w1 ⟨rfl, hb1⟩
   have L1 := hid (bnext (below_alloc w _) (by simp) hb1)
   have z1 := L1.out.size
   obtain ⟨x0, x1, x2, xz⟩ := (Box.fresh w 4 n s 127).call hb1
   clear hb1
   go_wp2_with fail
   refine (rep39 m s _ h200 (HG.out.below L1.out).cell).mono ?_
   rintro e w2 ⟨rfl, hb2⟩
   have L2 := hid (bnext L1.out z1 hb2)
   clear hb2
   go_wp2
   go_ret
   exact ⟨retS (ba_of (by rw [HS.out]; simp)), L2.out⟩
theorem dig_at (r : Nat) (h : r < 10) : (⟨#[48, 49, 50, 51, 52, 53, 54, 55, 56, 57]⟩ : ByteArray).extract r (r + 1) = ⟨#[UInt8.ofNat (48 + r)]⟩ := by
 rcases (show r = 0 ∨ r = 1 ∨ r = 2 ∨ r = 3 ∨ r = 4 ∨ r = 5 ∨ r = 6 ∨ r = 7 ∨ r = 8 ∨ r = 9 by omega) with rfl | rfl | rfl | rfl | rfl | rfl | rfl | rfl | rfl | rfl <;> rfl
theorem dec_small (u : Nat) (h : u < 10) : Lib.decDigits u = [UInt8.ofNat (48 + u)] := Lib.decDigits_one h
theorem dec_big (u : Nat) (h : 10 ≤ u) : Lib.decDigits u = Lib.decDigits (u / 10) ++ [UInt8.ofNat (48 + u % 10)] := by rw [Lib.decDigits, dif_neg (by omega)]
theorem itoa_pos (u : Nat) : Lib.itoa (u : Int) = Lib.decDigits u := Lib.itoa_nonneg u
theorem figures_pos : ∀ (N u : Nat), u < N → u ≤ 9223372036854775807 → ∀ w : World,
  Calls Tryz.prog 137 #[.int .i64 (u : Int)] w fun e w' => e = .returned (.string ⟨(Lib.decDigits u).toArray⟩) ∧ Below w.heap.size w w'
 | 0, u, h, _, _ => absurd h (Nat.not_lt_zero u)
 | N + 1, u, h, hu, w => by
  have IH := hid (fun (h10 : 10 ≤ u) => figures_pos N (u / 10) (by omega) (by omega))
  have HS1 := hid (dec_small u)
  have HS2 := hid (dec_big u)
  have hL := Lib.itoa_length_le (u / 10 : Nat) (by omega) (by omega)
  rw [itoa_pos] at hL
  obtain ⟨q, hq⟩ : ∃ q, u / 10 = q := ⟨_, rfl⟩
  obtain ⟨r, hr⟩ : ∃ r, u % 10 = r := ⟨_, rfl⟩
  have hr10 : r < 10 := by omega
  have hq2 : q ≤ 922337203685477580 := by omega
  have hqr : u = 10 * q + r := by omega
  have eq1 : (u : Int).tdiv 10 = (q : Int) := by rw [Int.tdiv_eq_ediv_of_nonneg (by omega)]; omega
  have eq2 : (u : Int).tmod 10 = (r : Int) := by rw [Int.tmod_eq_emod_of_nonneg (by omega)]; omega
  have hsl := cut_at ⟨#[48, 49, 50, 51, 52, 53, 54, 55, 56, 57]⟩ r (r + 1) r (r + 1) rfl (by omega) (by omega) (by show r + 1 ≤ 10; omega)
  obtain ⟨d, hd⟩ : ∃ d, UInt8.ofNat (48 + r) = d := ⟨_, rfl⟩
  rw [dig_at r hr10, hd] at hsl
  have eq3 : (u : Int) / 10 = (q : Int) := by omega
  have eq4 : (u : Int) % 10 = (r : Int) := by omega
  have HQR := hid hqr
  clear hqr
  rw [hq] at IH HS2 hL
  rw [hr, hd] at HS2
  by_cases h10 : u < 10
  ·have HX := hid (show Lib.decDigits u = [d] by have := HQR.out; rw [HS1.out h10, show u = r by omega, hd])
   clear IH HS1 HS2 hq hr hd
   go_enter Tryz.func137, Tryz.ntmps137
   go_wp2
   go_ret
   exact ⟨retS (by rw [HX.out]), Below.refl _ _⟩
  ·have HX := hid (HS2.out (by omega))
   have IH2 := hid (IH.out (by omega))
   have e10 : decide ((10 : Int) ≤ (u : Int)) = true := by simp; omega
   clear IH HS1 HS2 hq hr hd
   go_enter Tryz.func137, Tryz.ntmps137
   go_wp2_with fail
   refine (IH2.out _).mono ?_
   rintro e w1 ⟨rfl, hb1⟩
   have L1 := hid hb1
   clear hb1
   go_wp2
   go_ret
   exact ⟨retS (by rw [HX.out]; exact strCat _ _), L1.out⟩
end Go.Proofs.YtjbpkpfmgbhlpaaGreatDoor.Code
/-
  Contract of lex's first: the word that begins a text.
-/
namespace Go.Proofs.YtjbpkpfmgbhlpaaGreatDoor.Code
open Go.ChangeShapes Go.WideShapes Go.ChangeAt Go.RowKit Val
set_option linter.unusedVariables false
set_option linter.unusedSimpArgs false
def WBox (W : World) (b : Nat) (k : Int) (s : ByteArray) (n : Int) : Prop := W.cell? ⟨b, 0, none⟩ = some (.int .i64 k) ∧ W.cell? ⟨b, 1, none⟩ = some (.string s) ∧ W.cell? ⟨b, 2, none⟩ = some (.int .i64 n) ∧ b < W.heap.size ∧ ∀ j, W.frozen? ⟨b, j, none⟩ = false
theorem WBox.call {W W' : World} {b : Nat} {k n : Int} {s : ByteArray} (h : WBox W b k s n) (hb : Below W.heap.size W W') : WBox W' b k s n := by
 obtain ⟨h0, h1, h2, h3, h4⟩ := h
 exact ⟨by rw [hb.cell (p := ⟨b, 0, none⟩) h3]; exact h0, by rw [hb.cell (p := ⟨b, 1, none⟩) h3]; exact h1, by rw [hb.cell (p := ⟨b, 2, none⟩) h3]; exact h2, Nat.lt_of_lt_of_le h3 hb.size, fun j => by rw [hb.frozen (p := ⟨b, j, none⟩) h3]; exact h4 j⟩
theorem WBox.fresh (W : World) (k n : Int) (s : ByteArray) (t : TypeId) : WBox (W.alloc (.cells #[.int .i64 k, .string s, .int .i64 n] t)) W.heap.size k s n := ⟨by simp [go_sem], by simp [go_sem], by simp [go_sem], by simp, fun j => by simp [go_sem]⟩
theorem sclone_any (s : ByteArray) (w : World) (hs : s.size ≤ 281474976710656) :
  Calls Tryz.prog 44 #[.string s] w fun e w' => e = .returned (.string s) ∧ Below w.heap.size w w' := by
 have HC := hid (fun w => Tryz.stringslite_Clone s w hs)
 go_enter Tryz.func44, Tryz.ntmps44
 go_wp2_with fail
 refine (HC.out _).mono ?_
 rintro e w1 ⟨rfl, hb⟩
 have L := hid hb
 clear hb
 go_wp2
 go_ret
 exact ⟨rfl, L.out⟩
theorem rep_quote (t : List UInt8) (m : Int) (s : ByteArray) (w : World) (h : s.data.toList = dbl t) (hs : s.size ≤ 4194304) (hm : w.cell? ⟨0, 0, none⟩ = some (.int .i64 m)) :
  Calls Tryz.prog 42 #[.string s, .string ⟨#[39, 39]⟩, .string ⟨#[39]⟩] w fun e w' => e = .returned (.string ⟨t.toArray⟩) ∧ Below w.heap.size w w' := by
 have hc := Lib.countB_mul_le ⟨#[39, 39]⟩ (by decide) s.size s (Nat.le_refl _)
 rw [show (⟨#[39, 39]⟩ : ByteArray).size = 2 from rfl] at hc
 have h := Tryz.strings_ReplaceAll s ⟨#[39, 39]⟩ ⟨#[39]⟩ m w (by omega) hm (by decide) (by rw [show (⟨#[39]⟩ : ByteArray).size = 1 from rfl]; omega)
 rw [show Lib.replaceAll s.data.toList (⟨#[39, 39]⟩ : ByteArray).data.toList (⟨#[39]⟩ : ByteArray).data.toList = t by rename_i h'; rw [h']; exact rep_dbl' _] at h
 exact h
theorem dbl_le : ∀ l : List UInt8, l.length ≤ (dbl l).length
 | [] => Nat.le_refl _
 | b :: l => by
  have := dbl_le l
  rw [dbl]
  split <;> simp <;> omega
def FirstIs (l : List UInt8) (e : Ending) : Prop := ∃ (k : Int) (t : ByteArray) (n : Nat), e = .returned (.tuple #[.agg #[.int .i64 k, .string t, .int .i64 0], .int .i64 n]) ∧ (firstL l = none ∧ n = 0 ∨ firstL l = some (k, t.data.toList, n))
theorem first_any (s : ByteArray) (m : Int) (w : World) (hs : s.size ≤ 4194304) (h1 : 1 ≤ s.size) (hm : w.cell? ⟨0, 0, none⟩ = some (.int .i64 m)) :
  Calls Tryz.prog 27 #[.string s] w fun e w' => FirstIs s.data.toList e ∧ Below w.heap.size w w' := by
 have hlt : 0 < w.heap.size := World.block_lt_of_cell? _ _ hm
 have HM := hid hm
 clear hm
 obtain ⟨K, N, hKN⟩ : ∃ K N, beginsL s.data.toList = (K, N) := ⟨_, _, rfl⟩
 have hN : N ≤ s.size := by
  have := begins_le s.data.toList
  rw [hKN] at this
  exact this
 have HB := hid (fun w => begins_any s w (by omega) h1)
 rw [hKN] at HB
 obtain ⟨L, hL⟩ : ∃ L, longK K = L := ⟨_, rfl⟩
 have HLo := hid (fun w => longest_any K w)
 rw [hL] at HLo
 have hF := firstL_is s.data.toList
 rw [hKN] at hF
 dsimp only at hF
 rw [hL] at hF
 obtain ⟨S, hS⟩ : ∃ S, s.extract 0 N = S := ⟨_, rfl⟩
 have hsl := cut_to s N N rfl hN
 rw [hS] at hsl
 have hSl : S.data.toList = s.data.toList.take N := by rw [← hS]; exact to_list s N
 have hSs : S.size = N := by rw [size_list, hSl, List.length_take, ← size_list]; omega
 have hL2 : 2 ≤ L := by rw [← hL]; unfold longK; repeat' split <;> omega
 by_cases hq : K = 2 ∧ 0 < N
 ·obtain ⟨rfl, hN0⟩ := hq
  obtain rfl : L = 200 := hL.symm
  obtain ⟨T, hT⟩ : ∃ T, textOf s.data.toList = T := ⟨_, rfl⟩
  have hTq : quoT s.data.toList = T := by rw [← hT]; unfold textOf; rw [hKN, if_pos ⟨rfl, hN0⟩]
  have hQN : quoN s.data.toList = N := by
   have hl := list_cons s h1
   obtain ⟨c, hc⟩ : ∃ c, s[0] = c := ⟨_, rfl⟩
   rw [hc] at hl
   rw [hl, begins_cons] at hKN
   split at hKN
   ·cases hKN
   split at hKN
   ·cases hKN
   split at hKN
   ·rw [← hl] at hKN
    injection hKN
   split at hKN
   ·cases hKN
   split at hKN <;> cases hKN
  have hin := quote_inner s.data.toList (by rw [hQN]; exact hN0)
  rw [hQN, hTq] at hin
  obtain ⟨S1, hS1⟩ : ∃ S1, S.extract 1 (N - 1) = S1 := ⟨_, rfl⟩
  have hS1l : S1.data.toList = dbl T := by
   rw [← hS1, ByteArray.data_extract, Array.toList_extract, List.extract_eq_take_drop, hSl, show N - 1 - 1 = N - 2 by omega]
   exact hin.1
  have hS1s : S1.size ≤ 4194304 := by
   have := hin.1
   rw [size_list, hS1l, ← hin.1, List.length_take]
   omega
  have hsl2 := cut_at S 1 ((N : Int) - 1) 1 (N - 1) rfl (by omega) (by omega) (by omega)
  rw [hS1] at hsl2
  have hw := IntWalk.wrap64_in ((N : Int) - 1) ⟨by omega, by omega⟩
  have e0 : decide ((0 : Int) < (N : Int)) = true := by simp; omega
  have HR := hid (fun w => rep_quote T m S1 w hS1l hS1s)
  obtain ⟨T2, hT2⟩ : ∃ T2 : ByteArray, ⟨T.toArray⟩ = T2 := ⟨_, rfl⟩
  have hTT : T2.data.toList = T := by rw [← hT2]
  have hTs : (T.length : Int) = (T2.size : Int) := by rw [size_list, hTT]
  rw [hT2] at HR
  rw [hT, hTs] at hF
  have hTb : T2.size ≤ 4194304 := by
   have h1 := dbl_le T
   have h2 : (dbl T).length = S1.size := by rw [size_list, hS1l]
   omega
  by_cases hbig : (200 : Int) < (T2.size : Int)
  ·have HX := hid (show firstL s.data.toList = none by rw [hF, if_pos (.inr hbig)])
   clear hF hKN hS hSl hT hTq hQN hin hS1 hS1l hT2 hTT hTs hL
   go_enter Tryz.func27, Tryz.ntmps27
   go_wp2_with fail
   refine (HB.out _).mono ?_
   rintro e w1 ⟨rfl, rfl⟩
   have X0 := hid (WBox.fresh w 0 0 ⟨#[]⟩ 48)
   have L0 := hid (below_alloc w (.cells #[.int .i64 0, .string ⟨#[]⟩, .int .i64 0] 48))
   go_wp2_with fail
   refine (HR.out _ (by rw [L0.out.cell (p := ⟨0, 0, none⟩) hlt]; exact HM.out)).mono ?_
   rintro e w2 ⟨rfl, hb2⟩
   have X2 := hid (X0.out.call hb2)
   have L2 := hid (bnext L0.out L0.out.size hb2)
   clear hb2
   go_wp2_with fail
   refine (HLo.out _).mono ?_
   rintro e w1 ⟨rfl, rfl⟩
   obtain ⟨x0, x1, x2, xz, xf⟩ := X2.out
   go_wp2
   exact bodyPost_ret (v := .tuple #[.agg #[.int .i64 0, .string ⟨#[]⟩, .int .i64 0], .int .i64 0]) (by simp [results, Tryz.results27, go_sem, World.cell?_setCell_other, x0, x1, x2]) rfl ⟨⟨0, ⟨#[]⟩, 0, rfl, .inl ⟨HX.out, rfl⟩⟩, ((L2.out.setCell (by simp) _).setCell (by simp) _).setCell (by simp) _⟩
  ·have HX := hid (show firstL s.data.toList = some (2, T2.data.toList, N) by rw [hF, if_neg (by omega), hTT])
   have HC := hid (fun w => sclone_any T2 w (by omega))
   clear hF hKN hS hSl hT hTq hQN hin hS1 hS1l hT2 hTT hTs hL
   go_enter Tryz.func27, Tryz.ntmps27
   go_wp2_with fail
   refine (HB.out _).mono ?_
   rintro e w1 ⟨rfl, rfl⟩
   have X0 := hid (WBox.fresh w 0 0 ⟨#[]⟩ 48)
   have L0 := hid (below_alloc w (.cells #[.int .i64 0, .string ⟨#[]⟩, .int .i64 0] 48))
   go_wp2_with fail
   refine (HR.out _ (by rw [L0.out.cell (p := ⟨0, 0, none⟩) hlt]; exact HM.out)).mono ?_
   rintro e w2 ⟨rfl, hb2⟩
   have X2 := hid (X0.out.call hb2)
   have L2 := hid (bnext L0.out L0.out.size hb2)
   clear hb2
   go_wp2_with fail
   refine (HLo.out _).mono ?_
   rintro e w1 ⟨rfl, rfl⟩
   go_wp2_with fail
   refine (HC.out _).mono ?_
   rintro e w3 ⟨rfl, hb3⟩
   have X3 := hid (X2.out.call hb3)
   have L3 := hid (bnext L2.out L2.out.size hb3)
   clear hb3
   obtain ⟨x0, x1, x2, xz, xf⟩ := X3.out
   go_wp2
   exact bodyPost_ret (v := .tuple #[.agg #[.int .i64 2, .string T2, .int .i64 0], .int .i64 (N : Int)]) (by simp [results, Tryz.results27, go_sem, World.cell?_setCell_other, x0, x1, x2]) rfl ⟨⟨2, T2, N, rfl, .inr HX.out⟩, ((L3.out.setCell (by simp) _).setCell (by simp) _).setCell (by simp) _⟩
 ·have ht : textOf s.data.toList = S.data.toList := by unfold textOf; rw [hKN, if_neg hq, hSl]
  rw [ht, ← size_list, hSs] at hF
  by_cases hbig : L < (N : Int)
  ·have HX := hid (show firstL s.data.toList = none by rw [hF, if_pos (.inr hbig)])
   have hK2 : (K == 2) = false := by
    have : K ≠ 2 := fun e => hq ⟨e, by omega⟩
    simpa using this
   clear hF hKN hS hSl hq ht hL
   go_enter Tryz.func27, Tryz.ntmps27
   go_wp2_with fail
   refine (HB.out _).mono ?_
   rintro e w1 ⟨rfl, rfl⟩
   go_wp2_with fail
   refine (HLo.out _).mono ?_
   rintro e w1 ⟨rfl, rfl⟩
   go_wp2
   exact bodyPost_ret (v := .tuple #[.agg #[.int .i64 0, .string ⟨#[]⟩, .int .i64 0], .int .i64 0]) (by simp [results, Tryz.results27, go_sem, World.cell?_setCell_other]) rfl ⟨⟨0, ⟨#[]⟩, 0, rfl, .inl ⟨HX.out, rfl⟩⟩, below_alloc w _⟩
  ·have HX := hid (show firstL s.data.toList = none ∧ N = 0 ∨ firstL s.data.toList = some (K, S.data.toList, N) by
    by_cases h0 : N = 0
    ·exact .inl ⟨by rw [hF, if_pos (.inl h0)], h0⟩
    ·exact .inr (by rw [hF, if_neg (by omega)]))
   have HC := hid (fun w => sclone_any S w (by omega))
   by_cases hK : K = 2
   ·subst hK
    obtain rfl : N = 0 := by omega
    clear hS
    obtain rfl : S = ByteArray.empty := ByteArray.size_eq_zero_iff.1 hSs
    clear hF hKN hSl hq ht hL
    go_enter Tryz.func27, Tryz.ntmps27
    go_wp2_with fail
    refine (HB.out _).mono ?_
    rintro e w1 ⟨rfl, rfl⟩
    go_wp2_with fail
    refine (HLo.out _).mono ?_
    rintro e w1 ⟨rfl, rfl⟩
    have X0 := hid (WBox.fresh w 0 0 ⟨#[]⟩ 48)
    have L0 := hid (below_alloc w (.cells #[.int .i64 0, .string ⟨#[]⟩, .int .i64 0] 48))
    go_wp2_with fail
    refine (HC.out _).mono ?_
    rintro e w3 ⟨rfl, hb3⟩
    have X3 := hid (X0.out.call hb3)
    have L3 := hid (bnext L0.out L0.out.size hb3)
    clear hb3
    obtain ⟨x0, x1, x2, xz, xf⟩ := X3.out
    go_wp2
    exact bodyPost_ret (v := .tuple #[.agg #[.int .i64 2, .string ByteArray.empty, .int .i64 0], .int .i64 0]) (by simp [results, Tryz.results27, go_sem, World.cell?_setCell_other, x0, x1, x2]) rfl ⟨⟨2, ByteArray.empty, 0, rfl, HX.out.imp (fun h => ⟨h.1, rfl⟩) id⟩, ((L3.out.setCell (by simp) _).setCell (by simp) _).setCell (by simp) _⟩
   ·have hK2 : (K == 2) = false := by simpa using hK
    clear hF hKN hS hSl hq ht hL hK
    go_enter Tryz.func27, Tryz.ntmps27
    go_wp2_with fail
    refine (HB.out _).mono ?_
    rintro e w1 ⟨rfl, rfl⟩
    go_wp2_with fail
    refine (HLo.out _).mono ?_
    rintro e w1 ⟨rfl, rfl⟩
    have X0 := hid (WBox.fresh w 0 0 ⟨#[]⟩ 48)
    have L0 := hid (below_alloc w (.cells #[.int .i64 0, .string ⟨#[]⟩, .int .i64 0] 48))
    go_wp2_with fail
    refine (HC.out _).mono ?_
    rintro e w3 ⟨rfl, hb3⟩
    have X3 := hid (X0.out.call hb3)
    have L3 := hid (bnext L0.out L0.out.size hb3)
    clear hb3
    obtain ⟨x0, x1, x2, xz, xf⟩ := X3.out
    go_wp2
    exact bodyPost_ret (v := .tuple #[.agg #[.int .i64 K, .string S, .int .i64 0], .int .i64 (N : Int)]) (by simp [results, Tryz.results27, go_sem, World.cell?_setCell_other, x0, x1, x2]) rfl ⟨⟨K, S, N, rfl, HX.out⟩, ((L3.out.setCell (by simp) _).setCell (by simp) _).setCell (by simp) _⟩
end Go.Proofs.YtjbpkpfmgbhlpaaGreatDoor.Code
/-
  Contracts of the document's run and quote: how many bytes come, and which text.
-/
namespace Go.Proofs.YtjbpkpfmgbhlpaaGreatDoor.Code
open Go.ChangeShapes Go.WideShapes Go.ChangeAt Go.RowKit Val
set_option linter.unusedVariables false
end Go.Proofs.YtjbpkpfmgbhlpaaGreatDoor.Code
/-
  Contract of the document's one: the word that comes.
-/
namespace Go.Proofs.YtjbpkpfmgbhlpaaGreatDoor.Code
open Go.ChangeShapes Go.WideShapes Go.ChangeAt Go.RowKit Val
set_option linter.unusedVariables false
set_option linter.unusedSimpArgs false
end Go.Proofs.YtjbpkpfmgbhlpaaGreatDoor.Code
/-
  Contracts of lex's Words and of the document's.
-/
namespace Go.Proofs.YtjbpkpfmgbhlpaaGreatDoor.Code
open Go.ChangeShapes Go.WideShapes Go.ChangeAt Go.RowKit Val Elems
set_option linter.unusedVariables false
theorem info_word : (Tryz.prog.info? 48).map (fun i => (i.zero, i.size, i.bytes)) = some (some (.agg #[.int .i64 0, .string ByteArray.empty, .int .i64 0]), 3, 32) := by kernel_rfl
theorem roww_new (w : World) (o : Obj) (k n : Int) (t : ByteArray) (ty : TypeId) : ∀ (j : Nat) (u : Value), ([.int .i64 k, .string t, .int .i64 n] : List Value)[j]? = some u → ((w.alloc o).alloc (.cells #[.int .i64 k, .string t, .int .i64 n] ty)).cell? ((⟨w.heap.size + 1, 0, none⟩ : Addr).add j) = some u := by
 have h := heap_alloc_new (w.alloc o) (.cells #[.int .i64 k, .string t, .int .i64 n] ty)
 rw [show (w.alloc o).heap.size = w.heap.size + 1 by simp] at h
 exact World.news_of_block h
theorem words_any (s : ByteArray) (m : Int) (w : World) (hs : s.size ≤ 4194304) (hm : w.cell? ⟨0, 0, none⟩ = some (.int .i64 m)) :
  Calls Tryz.prog 11 #[.string s] w (WordsPost w s.data.toList) := by
 have hlt : 0 < w.heap.size := World.block_lt_of_cell? _ _ hm
 have HM := hid hm
 clear hm
 obtain ⟨i0, hi0, hz0, hz1, hz2⟩ := info_parts info_word
 go_enter Tryz.func11, Tryz.ntmps11
 go_wp2
 go_loopw [5, 6] (fun v t wr => ∃ (i : Nat) (a : List W), i ≤ s.size ∧ t = .int .i64 i ∧ Hid (WAt s.data.toList i a) ∧ a.length ≤ i ∧ wr.ownsRow w.heap.size 48 3 v a.length (flatC wc a) ∧ Below w.heap.size w wr) (fun _ t _ => s.size - (intOf t).toNat)
 case atStart => exact ⟨0, [], by omega, rfl, hid (WAt.start _), by simp, World.ownsRow_nil _ _ _ _, Below.refl _ _⟩
 case round =>
  obtain ⟨i, a, hi, rfl, HK, hai, hown, hbel⟩ := hrel
  have hsz := hbel.size
  have HO := hid hown
  have HL := hid hbel
  clear hown hbel
  by_cases hil : i < s.size
  ·obtain ⟨c, hc⟩ : ∃ c, s[i] = c := ⟨_, rfl⟩
   have hg := (list_get s i hil hil).trans hc
   obtain ⟨b, hb⟩ : ∃ b, blankB c = b := ⟨_, rfl⟩
   have HB := hid (fun w => (blank_any c w).mono (R' := fun e w' => e = .returned (.bool b) ∧ w = w') (by rintro e w' ⟨h1, h2⟩; exact ⟨by rw [h1, hb], h2⟩))
   cases b
   ·obtain ⟨S, hS⟩ : ∃ S, s.extract i s.size = S := ⟨_, rfl⟩
    have hsl := cut_from s i i rfl hi
    rw [hS] at hsl
    have hSl : S.data.toList = s.data.toList.drop i := by rw [← hS]; exact from_list s i
    have hSs : S.size = s.size - i := by rw [size_list, hSl, List.length_drop, ← size_list]
    have HSL := hid hSl
    have HG := hid hg
    clear hS hSl hg
    go_wp2_with fail
    refine (HB.out _).mono ?_
    rintro e w1 ⟨rfl, rfl⟩
    go_wp2_with fail
    refine (first_any S m _ (by omega) (by omega) (by rw [HL.out.cell (p := ⟨0, 0, none⟩) hlt]; exact HM.out)).mono ?_
    rintro e w1 ⟨⟨k, t, n, rfl, hcase⟩, hb1⟩
    rw [HSL.out] at hcase
    have L1 := hid (bnext HL.out hsz hb1)
    have O1 := hid (own_call HO.out hb1)
    have hzw := L1.out.size
    clear hb1
    rcases hcase with ⟨hno, rfl⟩ | hyes
    ·have HD := hid (HK.out.none hil (by rw [HG.out]; exact hb) hno)
     clear hno
     go_wp2
     go_ret3
     exact words_no HD.out (L1.out.alloc hzw _)
    ·have hn := first_n hyes
     have hcz : ((n : Int) == 0) = false := by simp; omega
     have hni : i + n ≤ s.size := by have := hn.2; rw [List.length_drop, ← size_list] at this; omega
     have HD := hid (HK.out.one hil hyes)
     have HW := hid (show wc (k, t.data.toList, (i : Int)) = [.int .i64 k, .string t, .int .i64 (i : Int)] by unfold wc; rw [Lib.mk_data])
     have hn1 := hn.1
     clear hyes hn
     go_wp2_with (at_builtin; refine wpList_append_own _ rfl _ _ 31 rfl w.heap.size 48 i0 (.agg #[.int .i64 0, .string ByteArray.empty, .int .i64 0]) 3 32 Tryz.underlying31 hi0 hz0 hz1 hz2 rfl (by decide) _ _ _ rfl ((O1.out.alloc _).alloc _) ⟨w1.heap.size + 1, 0, none⟩ 1 1 [.int .i64 k, .string t, .int .i64 (i : Int)] rfl rfl ?c1 ?c2 ?c3 ?c4 ?c5 ?_)
     case c1 => exact roww_new _ _ _ _ _ _
     case c2 => rw [← HW.out]; exact wc_one _
     case c3 => unfold maxLen; omega
     case c4 => omega
     case c5 => simp; omega
     intro v' w2 hown' hgrow _
     have O2 := hid (show w2.ownsRow w.heap.size 48 3 v' (a ++ [(k, t.data.toList, (i : Int))]).length (flatC wc (a ++ [(k, t.data.toList, (i : Int))])) by rw [flatC_snoc, List.length_append, HW.out]; exact hown')
     have L2 := hid (((L1.out.alloc hzw _).alloc (by simp; omega) _).grown hgrow (by simp; omega) (fun g hg => (O1.out.lt g hg).1))
     clear hown' hgrow
     go_wp2
     go_roundw
     case rel => exact ⟨i + n, a ++ [(k, t.data.toList, (i : Int))], by omega, by go_num, HD, by rw [List.length_append]; simp; omega, O2.out, L2.out⟩
     case measure => simp [intOf]; omega
   ·have HD := hid (HK.out.blank hil (by rw [hg]; exact hb))
    clear hg
    go_wp2_with fail
    refine (HB.out _).mono ?_
    rintro e w1 ⟨rfl, rfl⟩
    go_wp2
    go_roundw
    case rel => exact ⟨i + 1, a, by omega, by go_num, HD, by omega, HO.out, HL.out⟩
    case measure => simp [intOf]; omega
  ·have HD := hid (HK.out.done (by rw [← size_list]; omega))
   go_wp2
   go_ret3
   exact words_yes HD.out HO.out HL.out
theorem info_rword : (Tryz.prog.info? 69).map (fun i => (i.zero, i.size, i.bytes)) = some (some (.agg #[.int .i64 0, .string ByteArray.empty, .int .i64 0]), 3, 32) := by kernel_rfl
theorem at_word {w : World} {B : Nat} {A : Option Addr} {l : List W} (h : At wc 3 w B A l) (i : Nat) (hi : i < l.length) :
  ∃ ad : Addr, A = some ad ∧ ad.block < B ∧ w.cell? (ad.add (i * 3)) = some (.int .i64 l[i].1) ∧ w.cell? ⟨(ad.add (i * 3)).block, (ad.add (i * 3)).off + 1, none⟩ = some (.string ⟨l[i].2.1.toArray⟩) ∧ w.cell? ⟨(ad.add (i * 3)).block, (ad.add (i * 3)).off + 2, none⟩ = some (.int .i64 l[i].2.2) := by
 obtain ⟨ad, e, hb, h0⟩ := h i hi
 refine ⟨ad, e, hb, h0 0 _ rfl, ?_, ?_⟩
 ·rw [← add_next]; exact h0 1 _ rfl
 ·rw [← add_next]; exact h0 2 _ rfl
theorem to_any (A : Option Addr) (cap : Nat) (l : List W) (w : World) (hv : At wc 3 w w.heap.size A l) (hl : l.length ≤ 4194304) :
  Calls Tryz.prog 14 #[.slice A l.length cap] w fun e w' => ∃ (A' : Option Addr) (cap' : Nat), e = .returned (.slice A' l.length cap') ∧ At wc 3 w' w'.heap.size A' l ∧ Below w.heap.size w w' := by
 have HV := hid hv
 clear hv
 obtain ⟨i0, hi0, hz0, hz1, hz2⟩ := info_parts info_rword
 go_enter Tryz.func14, Tryz.ntmps14
 go_wp2
 go_loopw [3, 4] (fun v t wr => ∃ i : Nat, i ≤ l.length ∧ t = .int .i64 i ∧ wr.ownsRow w.heap.size 69 3 v (l.take i).length (flatC wc (l.take i)) ∧ Below w.heap.size w wr) (fun _ t _ => l.length - (intOf t).toNat)
 case atStart => exact ⟨0, by omega, rfl, World.ownsRow_nil _ _ _ _, Below.refl _ _⟩
 case round =>
  obtain ⟨i, hi, rfl, hown, hbel⟩ := hrel
  have hsz := hbel.size
  have HO := hid hown
  have HL := hid hbel
  have VA := hid (HV.out.below hbel)
  have hX : (l.take i).length = i := List.length_take_of_le hi
  clear hown hbel
  by_cases hil : i < l.length
  ·obtain ⟨ad, rfl, ha, c0, c1, c2⟩ := at_word HV.out i hil
   have HS := hid (List.take_succ_eq_append_getElem hil)
   obtain ⟨x, hx⟩ : ∃ x, l[i] = x := ⟨_, rfl⟩
   rw [hx] at c0 c1 c2 HS
   clear hx
   obtain ⟨k, t, p⟩ := x
   obtain ⟨T, hT⟩ : ∃ T : ByteArray, ⟨t.toArray⟩ = T := ⟨_, rfl⟩
   have HW := hid (show wc (k, t, p) = [.int .i64 k, .string T, .int .i64 p] by unfold wc; rw [← hT])
   dsimp only at c0 c1 c2
   rw [hT] at c1
   clear hT
   obtain ⟨N, hN⟩ : ∃ N, l.take i = N := ⟨_, rfl⟩
   rw [hX, hN] at HO
   rw [hN] at HS hX
   have HX := hid hX
   clear hN hX
   obtain ⟨q, hq⟩ : ∃ q, ad.add (i * 3) = q := ⟨_, rfl⟩
   have hbq : q.block < w.heap.size := by rw [← hq, add_block]; exact ha
   rw [hq] at c0 c1 c2
   have FQ := hid (fun (w' : World) (h : Below w.heap.size w w') => show w'.cell? q = some (.int .i64 k) ∧ w'.cell? ⟨q.block, q.off + 1, none⟩ = some (.string T) ∧ w'.cell? ⟨q.block, q.off + 2, none⟩ = some (.int .i64 p) from
    ⟨(h.cell (p := q) hbq).trans c0, (h.cell (p := ⟨q.block, q.off + 1, none⟩) hbq).trans c1, (h.cell (p := ⟨q.block, q.off + 2, none⟩) hbq).trans c2⟩)
   obtain ⟨k0, k1, k2⟩ := FQ.out _ HL.out
   have bi0 : (0 : Int) ≤ (i : Int) := by omega
   have bi1 : (i : Int) < (l.length : Int) := by omega
   clear c0 c1 c2
   go_wp2_with fail
   go_region_held3 (fun w' => (w'.cell? q = some (.int .i64 k) ∧ w'.cell? ⟨q.block, q.off + 1, none⟩ = some (.string T) ∧ w'.cell? ⟨q.block, q.off + 2, none⟩ = some (.int .i64 p)) ∧ Below w.heap.size w w')
    (first | assumption | (exact ⟨FQ.out _ HL.out.drew, HL.out.drew⟩) | (exact ⟨FQ.out _ (HL.out.alloc hsz _).drew, (HL.out.alloc hsz _).drew⟩) | (have hB := ((HL.out.alloc hsz _).drew).grown hgrow (by simp; omega) (fun j hj => (HO.out.lt j hj).1); exact ⟨FQ.out _ hB, hB⟩))
    ((refine step_append_lies _ (by rfl) _ _ _ (by rfl) w.heap.size 69 i0 _ 3 32 Tryz.underlying36 hi0 hz0 hz1 hz2 rfl (by omega) u3 i (flatC wc N) (by rfl) ((HO.out.alloc _).drew) ⟨wr.heap.size, 0, none⟩ 1 1 [.int .i64 k, .string T, .int .i64 p] (by rfl) (by rfl) (World.news_of_block (cs := #[.int .i64 k, .string T, .int .i64 p]) (t := 69) (fr := (0, 0)) (heap_alloc_new wr _)) (by rw [← HW.out]; exact wc_one _) (by omega) (by unfold maxLen; omega) (by omega) (by simp; omega) (wr.heap.size + 1) (by simp) ?_; intro gg cap9 w9 hown9 hgrow hat hlt9))
   have B9 := hid (show Below w.heap.size w w9 by rename_i hS; exact hS.2)
   have O9 := hid (show w9.ownsRow w.heap.size 69 3 (.slice (some ⟨gg, 0, none⟩) (i + 1) cap9) (l.take (i + 1)).length (flatC wc (l.take (i + 1))) by rw [HS.out, flatC_snoc, List.length_append, HX.out, HW.out]; exact hown9)
   clear hown9 hgrow hat hlt9 k0 k1 k2 FQ
   go_wp2
   go_roundw
   case rel => exact ⟨i + 1, by omega, by go_num, O9.out, B9.out⟩
   case measure => simp [intOf]; omega
  ·obtain rfl : i = l.length := by omega
   rw [List.take_length] at HO
   obtain ⟨A', cap', rfl, hv'⟩ := own_at wc_length HO.out
   have HV' := hid hv'
   clear hv'
   go_wp2
   go_ret
   exact ⟨A', cap', rfl, HV'.out, HL.out⟩
def ownB (s : List UInt8) : Bool := s == [116, 114, 117, 101] || (s == [102, 97, 108, 115, 101] || (s == [110, 117, 108, 108] || (s == [97, 110, 100] || (s == [111, 114] || (s == [110, 111, 116] || s == [105, 115])))))
theorem own_any (s : ByteArray) (w : World) :
  Calls Tryz.prog 125 #[.string s] w fun e w' => e = .returned (.bool (ownB s.toList)) ∧ w = w' := by
 obtain ⟨b1, h1⟩ : ∃ b, (s.toList == [116, 114, 117, 101]) = b := ⟨_, rfl⟩
 obtain ⟨b2, h2⟩ : ∃ b, (s.toList == [102, 97, 108, 115, 101]) = b := ⟨_, rfl⟩
 obtain ⟨b3, h3⟩ : ∃ b, (s.toList == [110, 117, 108, 108]) = b := ⟨_, rfl⟩
 obtain ⟨b4, h4⟩ : ∃ b, (s.toList == [97, 110, 100]) = b := ⟨_, rfl⟩
 obtain ⟨b5, h5⟩ : ∃ b, (s.toList == [111, 114]) = b := ⟨_, rfl⟩
 obtain ⟨b6, h6⟩ : ∃ b, (s.toList == [110, 111, 116]) = b := ⟨_, rfl⟩
 obtain ⟨b7, h7⟩ : ∃ b, (s.toList == [105, 115]) = b := ⟨_, rfl⟩
 have HX := hid (show ownB s.toList = (b1 || (b2 || (b3 || (b4 || (b5 || (b6 || b7)))))) by unfold ownB; rw [h1, h2, h3, h4, h5, h6, h7])
 rw [HX.out]
 clear HX
 cases b1
 ·cases b2
  ·cases b3
   ·cases b4
    ·cases b5
     ·cases b6
      ·cases b7
       all_goals (go_enter Tryz.func125, Tryz.ntmps125; go_wp2; go_ret; exact ⟨rfl, rfl⟩)
      ·(go_enter Tryz.func125, Tryz.ntmps125; go_wp2; go_ret; exact ⟨rfl, rfl⟩)
     ·(go_enter Tryz.func125, Tryz.ntmps125; go_wp2; go_ret; exact ⟨rfl, rfl⟩)
    ·(go_enter Tryz.func125, Tryz.ntmps125; go_wp2; go_ret; exact ⟨rfl, rfl⟩)
   ·(go_enter Tryz.func125, Tryz.ntmps125; go_wp2; go_ret; exact ⟨rfl, rfl⟩)
  ·(go_enter Tryz.func125, Tryz.ntmps125; go_wp2; go_ret; exact ⟨rfl, rfl⟩)
 ·(go_enter Tryz.func125, Tryz.ntmps125; go_wp2; go_ret; exact ⟨rfl, rfl⟩)
theorem rown_any (s : ByteArray) (w : World) :
  Calls Tryz.prog 98 #[.string s] w fun e w' => e = .returned (.bool (ownB s.toList)) ∧ w = w' := by
 obtain ⟨b1, h1⟩ : ∃ b, (s.toList == [116, 114, 117, 101]) = b := ⟨_, rfl⟩
 obtain ⟨b2, h2⟩ : ∃ b, (s.toList == [102, 97, 108, 115, 101]) = b := ⟨_, rfl⟩
 obtain ⟨b3, h3⟩ : ∃ b, (s.toList == [110, 117, 108, 108]) = b := ⟨_, rfl⟩
 obtain ⟨b4, h4⟩ : ∃ b, (s.toList == [97, 110, 100]) = b := ⟨_, rfl⟩
 obtain ⟨b5, h5⟩ : ∃ b, (s.toList == [111, 114]) = b := ⟨_, rfl⟩
 obtain ⟨b6, h6⟩ : ∃ b, (s.toList == [110, 111, 116]) = b := ⟨_, rfl⟩
 obtain ⟨b7, h7⟩ : ∃ b, (s.toList == [105, 115]) = b := ⟨_, rfl⟩
 have HX := hid (show ownB s.toList = (b1 || (b2 || (b3 || (b4 || (b5 || (b6 || b7)))))) by unfold ownB; rw [h1, h2, h3, h4, h5, h6, h7])
 rw [HX.out]
 clear HX
 cases b1
 ·cases b2
  ·cases b3
   ·cases b4
    ·cases b5
     ·cases b6
      ·cases b7
       all_goals (go_enter Tryz.func98, Tryz.ntmps98; go_wp2; go_ret; exact ⟨rfl, rfl⟩)
      ·(go_enter Tryz.func98, Tryz.ntmps98; go_wp2; go_ret; exact ⟨rfl, rfl⟩)
     ·(go_enter Tryz.func98, Tryz.ntmps98; go_wp2; go_ret; exact ⟨rfl, rfl⟩)
    ·(go_enter Tryz.func98, Tryz.ntmps98; go_wp2; go_ret; exact ⟨rfl, rfl⟩)
   ·(go_enter Tryz.func98, Tryz.ntmps98; go_wp2; go_ret; exact ⟨rfl, rfl⟩)
  ·(go_enter Tryz.func98, Tryz.ntmps98; go_wp2; go_ret; exact ⟨rfl, rfl⟩)
 ·(go_enter Tryz.func98, Tryz.ntmps98; go_wp2; go_ret; exact ⟨rfl, rfl⟩)
end Go.Proofs.YtjbpkpfmgbhlpaaGreatDoor.Code
/-
  Contracts of the document's Figures below 0, and of its Show of one value.
-/
namespace Go.Proofs.YtjbpkpfmgbhlpaaGreatDoor.Code
open Go.ChangeShapes Go.WideShapes Go.ChangeAt Go.RowKit Val
set_option linter.unusedVariables false
theorem figures_neg : ∀ (N u : Nat), u < N → 1 ≤ u → u ≤ 9223372036854775808 → ∀ w : World,
  Calls Tryz.prog 137 #[.int .i64 (-(u : Int))] w fun e w' => e = .returned (.string ⟨(45 :: Lib.decDigits u).toArray⟩) ∧ Below w.heap.size w w'
 | 0, u, h, _, _, _ => absurd h (Nat.not_lt_zero u)
 | N + 1, u, h, h1, hu, w => by
  by_cases h10 : u < 10
  ·have HP := hid (figures_pos (u + 1) u (by omega) (by omega))
   have hL : (Lib.decDigits u).length ≤ 21 := by have := Lib.itoa_length_le (u : Nat) (by omega) (by omega); rwa [itoa_pos] at this
   go_enter Tryz.func137, Tryz.ntmps137
   go_wp2_with fail
   refine (HP.out _).mono ?_
   rintro e w1 ⟨rfl, hb1⟩
   have L1 := hid hb1
   clear hb1
   go_wp2
   go_ret
   exact ⟨retS (strCat [45] _), L1.out⟩
  ·have IH := hid (figures_neg N (u / 10) (by omega) (by omega) (by omega))
   have HS2 := hid (dec_big u (by omega))
   have hL := Lib.itoa_length_le (u / 10 : Nat) (by omega) (by omega)
   rw [itoa_pos] at hL
   obtain ⟨q, hq⟩ : ∃ q, u / 10 = q := ⟨_, rfl⟩
   obtain ⟨r, hr⟩ : ∃ r, u % 10 = r := ⟨_, rfl⟩
   have hr10 : r < 10 := by omega
   have hq2 : q ≤ 922337203685477580 := by omega
   have eq1 : (-(u : Int)).tdiv 10 = -(q : Int) := by rw [Int.neg_tdiv, Int.tdiv_eq_ediv_of_nonneg (by omega)]; omega
   have eq2 : (-(u : Int)).tmod 10 = -(r : Int) := by rw [Int.neg_tmod, Int.tmod_eq_emod_of_nonneg (by omega)]; omega
   have eq3 : (u : Int).tdiv 10 = (q : Int) := by rw [Int.tdiv_eq_ediv_of_nonneg (by omega)]; omega
   have eq4 : (u : Int).tmod 10 = (r : Int) := by rw [Int.tmod_eq_emod_of_nonneg (by omega)]; omega
   have hsl := cut_at ⟨#[48, 49, 50, 51, 52, 53, 54, 55, 56, 57]⟩ r (r + 1) r (r + 1) rfl (by omega) (by omega) (by show r + 1 ≤ 10; omega)
   obtain ⟨d, hd⟩ : ∃ d, UInt8.ofNat (48 + r) = d := ⟨_, rfl⟩
   rw [dig_at r hr10, hd] at hsl
   rw [hq] at IH HS2 hL
   rw [hr, hd] at HS2
   obtain ⟨T, hT⟩ : ∃ T : ByteArray, T = ⟨(45 :: Lib.decDigits q).toArray⟩ := ⟨_, rfl⟩
   have hTs : T.size ≤ 22 := by rw [hT, size_list]; simp; omega
   have hadd := fun w => run_string_add_sum (P := Tryz.prog) w T ⟨#[d]⟩ (by show T.size + 1 ≤ _; omega)
   have hT3 : ¬ (9223372036854775807 ≤ T.size) := by omega
   rw [← hT] at IH
   have HT := hid hT
   clear hT hL
   have w0 : IntKind.i64.wrap (-(q : Int)) = -(q : Int) := by rw [IntKind.wrap_i64]; omega
   have w1 : IntKind.i64.wrap (-(r : Int)) = -(r : Int) := by rw [IntKind.wrap_i64]; omega
   have w2 : IntKind.i64.wrap (r : Int) = (r : Int) := by rw [IntKind.wrap_i64]; omega
   have w3 : IntKind.i64.wrap ((r : Int) + 1) = (r : Int) + 1 := by rw [IntKind.wrap_i64]; omega
   clear hq hr hd
   go_enter Tryz.func137, Tryz.ntmps137
   go_wp2_with fail
   go_region_held3 (fun w' => True ∧ Below w.heap.size w w')
    (first | assumption | (refine keepP hb5 (by assumption) ?_; intro kk; trivial) | (exact ⟨trivial, Below.drew (Below.refl _ _)⟩))
    (first | (go_at_call 137; refine (IH.out _).mono ?_; rintro e w5 ⟨rfl, hb5⟩))
   all_goals
    have M1 := hid (show Below w.heap.size w _ by rename_i hS; exact hS.2)
    go_wp2
    go_ret
    exact ⟨retS (by rw [HS2.out, HT.out]; exact strCat (45 :: Lib.decDigits q) [d]), M1.out⟩
theorem figures_any (n : Int) (hn : fits n) (w : World) :
  Calls Tryz.prog 137 #[.int .i64 n] w fun e w' => e = .returned (.string ⟨(Lib.itoa n).toArray⟩) ∧ Below w.heap.size w w' := by
 unfold fits at hn
 by_cases h : 0 ≤ n
 ·obtain ⟨u, rfl⟩ : ∃ u : Nat, n = u := ⟨n.toNat, by omega⟩
  rw [itoa_pos]
  exact figures_pos (u + 1) u (by omega) (by omega) w
 ·obtain ⟨u, rfl⟩ : ∃ u : Nat, n = -(u : Int) := ⟨n.natAbs, by omega⟩
  rw [Lib.itoa_neg u (by omega)]
  exact figures_neg (u + 1) u (by omega) (by omega) (by omega) w
def SBlk (w : World) (g : Nat) (D : List ByteArray) : Prop := w.heap[g]? = some (.cells (D.map Value.string).toArray 9 (0, 0))
theorem SBlk.lt {w : World} {g : Nat} {D : List ByteArray} (h : SBlk w g D) : g < w.heap.size := (Array.getElem?_eq_some_iff.1 h).1
theorem SBlk.call {w w' : World} {g : Nat} {D : List ByteArray} (h : SBlk w g D) (hb : Below w.heap.size w w') : SBlk w' g D := (hb.block g h.lt).trans h
theorem SBlk.cell {w : World} {g : Nat} {D : List ByteArray} (h : SBlk w g D) (j : Nat) (x : ByteArray) (hx : D[j]? = some x) : w.cell? ⟨g, j, none⟩ = some (.string x) := by
 unfold SBlk at h
 simp [World.cell?, h, hx]
theorem SBlk.free {w : World} {g : Nat} {D : List ByteArray} (h : SBlk w g D) (j : Nat) : w.frozen? ⟨g, j, none⟩ = false := by
 unfold SBlk at h
 simp [World.frozen?, h]
theorem SBlk.set {w : World} {g : Nat} {D : List ByteArray} (h : SBlk w g D) (k : Nat) (x : ByteArray) : SBlk (w.setCell ⟨g, k, none⟩ (.string x)) g (D.set k x) := by
 unfold SBlk at *
 rw [setCell_eq_setRow w g _ _ _ _ _ h, setRow_heap w g _ _ _ _ h, List.map_set]
 simp
theorem info_str : (Tryz.prog.info? 9).map (fun i => (i.zero, i.size, i.bytes)) = some (some (.string ByteArray.empty), 1, 16) := by kernel_rfl
theorem made_strs (n : Nat) : madeCells #[Value.string ByteArray.empty] (n * 1) = Array.replicate n (Value.string ByteArray.empty) := by
 apply Array.toList_inj.1
 rw [toList_madeCells_one, Nat.mul_one]
 simp
theorem SBlk.fresh (w : World) (n : Nat) : SBlk (w.alloc (.cells (Array.replicate n (Value.string ByteArray.empty)) 9)) w.heap.size (List.replicate n ByteArray.empty) := by
 unfold SBlk
 rw [heap_alloc_new]
 simp
theorem wpList_make_strs {P : Program} (w : World) {ops : Array Oper} {rest : List Oper} {o : Oper} {a : Act} {Q : Exit → Act → World → Prop}
  (hg : o.guard = none) (l c : Operand) (t : TypeId) (hop : o.op = Op.makeSlice t l c) (e : TypeId) (i : TypeInfo) (h1 : P.underlying t = some (.slice e)) (h2 : P.info? e = some i)
  (h3 : i.zero = some (.string ByteArray.empty)) (h4 : i.size = 1) (h5 : i.bytes = 16)
  (kl kc : IntKind) (L C : Int) (n : Nat) (hl : a.eval l = .int kl L) (hc : a.eval c = .int kc C) (hL : L = (n : Int)) (hC : C = (n : Int)) (b : n ≤ 8796093022208)
  (hK : wpList P ops Q rest (a.put o.dst (.slice (some ⟨w.heap.size, 0, none⟩) n n)) (w.alloc (.cells (Array.replicate n (Value.string ByteArray.empty)) e))) :
  wpList P ops Q (o :: rest) a w := by
 refine wpList_plain hg fun K hK' => ?_
 have hr := run_make (P := P) w t e i _ h1 h2 h3 kl kc n n (by omega) (Int.le_refl _) (by rw [h5]; omega) (by omega)
 rw [Int.toNat_natCast, h4, show (Value.string ByteArray.empty).cells = #[Value.string ByteArray.empty] by rfl, made_strs] at hr
 subst hL
 subst hC
 unfold Oper.wp
 simp [execOp, hop, hl, hc, hr, Result.andThen]
 exact hK' _ _ hK
theorem sfill_set (X : List ByteArray) (n : Nat) (hn : 0 < n) (v : ByteArray) : (X ++ List.replicate n ByteArray.empty).set X.length v = (X ++ [v]) ++ List.replicate (n - 1) ByteArray.empty := by
 obtain ⟨m, rfl⟩ : ∃ m, n = m + 1 := ⟨n - 1, by omega⟩
 rw [List.set_append_right _ _ (Nat.le_refl _), Nat.sub_self, List.replicate_succ, List.set_cons_zero, Nat.add_sub_cancel, List.append_assoc]
 rfl
end Go.Proofs.YtjbpkpfmgbhlpaaGreatDoor.Code
/-
  Contracts of lex's Text and of the document's.
-/
namespace Go.Proofs.YtjbpkpfmgbhlpaaGreatDoor.Code
open Go.ChangeShapes Go.WideShapes Go.ChangeAt Go.RowKit Val Elems
set_option linter.unusedVariables false
def FitW (l : List W) : Prop := ∀ w ∈ l, w.2.1.length ≤ 4194304
theorem fits0 : fits 0 := by unfold fits; omega
theorem showW_le {k : Int} {t : List UInt8} (h : t.length ≤ 4194304) : (showW k t).length ≤ 4194304 := by
 unfold showW
 split
 ·have := show_length 4 0 ⟨t.toArray⟩ fits0
  omega
 ·exact h
def stexts (l : List W) : List ByteArray := l.map fun w => ⟨(showW w.1 w.2.1).toArray⟩
theorem stexts_length (l : List W) : (stexts l).length = l.length := by simp [stexts]
theorem stexts_snoc (l : List W) (k : Nat) (h : k < l.length) : stexts (l.take (k + 1)) = stexts (l.take k) ++ [⟨(showW l[k].1 l[k].2.1).toArray⟩] := by
 unfold stexts
 rw [List.take_succ_eq_append_getElem h, List.map_append]
 rfl
theorem stexts_data (l : List W) : (stexts l).map (·.data.toList) = l.map fun w => showW w.1 w.2.1 := by
 unfold stexts
 rw [List.map_map]
 congr 1
theorem textL_length (l : List W) (h : FitW l) : (textL l).length ≤ 4194305 * l.length := by
 unfold textL
 cases l with
 | nil => simp [Lib.join_nil]
 | cons v l =>
  rw [List.map_cons, Lib.join_length]
  have := lens_le ((v :: l).map fun w => showW w.1 w.2.1) 4194304 (by intro x hx; obtain ⟨y, hy, rfl⟩ := List.mem_map.1 hx; exact showW_le (h y hy))
  simp only [List.map_cons, List.length_cons, List.length_map, List.length_nil] at *
  omega
theorem text_any (A : Option Addr) (cap : Nat) (l : List W) (m : Int) (w : World) (hv : At wc 3 w w.heap.size A l) (hf : FitW l) (hl : l.length ≤ 10000) (hg : Glob w.heap.size m w) :
  Calls Tryz.prog 189 #[.slice A l.length cap] w fun e w' => e = .returned (.string ⟨(textL l).toArray⟩) ∧ Below w.heap.size w w' := by
 have HV := hid hv
 have HF := hid hf
 have HG := hid hg
 have hjl := textL_length l hf
 clear hv hf hg
 obtain ⟨i0, hi0, hz0, hz1, hz2⟩ := info_parts info_str
 go_enter Tryz.func189, Tryz.ntmps189
 go_wp2_with (at_make; refine wpList_make_strs _ rfl _ _ 42 rfl 9 i0 Tryz.underlying42 hi0 hz0 hz1 hz2 _ _ _ _ l.length rfl rfl rfl rfl (by omega) ?_)
 have HB0 := hid (SBlk.fresh w l.length)
 have HL0 := hid (below_alloc w (.cells (Array.replicate l.length (Value.string ByteArray.empty)) 9))
 go_wp2
 go_loopw [11] (fun i wr => ∃ k : Nat, k ≤ l.length ∧ i = .int .i64 k ∧ SBlk wr w.heap.size (stexts (l.take k) ++ List.replicate (l.length - k) ByteArray.empty) ∧ Below w.heap.size w wr) (fun i _ => l.length - (intOf i).toNat)
 case atStart => exact ⟨0, by omega, rfl, by simpa [stexts] using HB0.out, HL0.out⟩
 case round =>
  obtain ⟨k, hk, rfl, hblk, hbel⟩ := hrel
  have hsz := hbel.size
  have hlt := hblk.lt
  have HL := hid hbel
  have HB := hid hblk
  have VA := hid (HV.out.below hbel)
  clear hbel hblk
  have HX := hid (show (stexts (l.take k)).length = k by rw [stexts_length, List.length_take_of_le hk])
  by_cases hkl : k < l.length
  ·obtain ⟨ad, rfl, ha, c0, c1, c2⟩ := at_word VA.out k hkl
   have HS := hid (stexts_snoc l k hkl)
   have HE := hid (show (stexts (l.take k) ++ List.replicate (l.length - k) ByteArray.empty).set k ⟨(showW l[k].1 l[k].2.1).toArray⟩ = stexts (l.take (k + 1)) ++ List.replicate (l.length - (k + 1)) ByteArray.empty by
    have e := sfill_set (stexts (l.take k)) (l.length - k) (by omega) ⟨(showW l[k].1 l[k].2.1).toArray⟩
    rw [HX.out, Nat.sub_sub] at e
    rw [e, HS.out])
   have HY := hid (show ∀ T : ByteArray, ((stexts (l.take k) ++ List.replicate (l.length - k) ByteArray.empty).set k T).length = l.length by intro T; rw [List.length_set, List.length_append, HX.out]; simp; omega)
   have b0 : ∃ y, wr.cell? ⟨w.heap.size, k, none⟩ = some (.string y) := by
    have hlen : k < (stexts (l.take k) ++ List.replicate (l.length - k) ByteArray.empty).length := by rw [List.length_append, HX.out]; simp; omega
    exact ⟨_, HB.out.cell k _ (List.getElem?_eq_getElem hlen)⟩
   obtain ⟨y, b0⟩ := b0
   have f0 := HB.out.free k
   obtain ⟨x, hx⟩ : ∃ x, l[k] = x := ⟨_, rfl⟩
   rw [hx] at c0 c1 c2 HS HE
   clear hx
   obtain ⟨kk, t, p⟩ := x
   dsimp only at c0 c1 c2
   obtain ⟨T, hT⟩ : ∃ T : ByteArray, ⟨t.toArray⟩ = T := ⟨_, rfl⟩
   rw [hT] at c1
   have hlt2 : w.heap.size < wr.heap.size := hlt
   by_cases hk2 : kk = 2
   ·subst hk2
    have hsh := fun w' hg => vshow_any 4 0 T m w' fits0 hg
    obtain ⟨S, hS⟩ : ∃ S : ByteArray, ⟨(showL 4 0 T).toArray⟩ = S := ⟨_, rfl⟩
    have hSW : (⟨(showW 2 t).toArray⟩ : ByteArray) = S := by unfold showW; rw [if_pos rfl, hT, hS]
    rw [hS] at hsh
    have HSH := hid hsh
    dsimp only at HE
    rw [hSW] at HE
    clear hsh hS hSW hT HS
    have L1 := hid ((HL.out.setCell (p := ⟨w.heap.size, k, none⟩) (Nat.le_refl _) (Value.string T)).alloc (by simpa using hsz) (.cells #[.int .i64 2, .string T, .int .i64 p] 48))
    have B1 := hid ((HB.out.set k T).call (below_alloc (wr.setCell ⟨w.heap.size, k, none⟩ (.string T)) (.cells #[.int .i64 2, .string T, .int .i64 p] 48)))
    go_wp2_with fail
    refine (HSH.out _ (HG.out.next L1.out)).mono ?_
    rintro e w1 ⟨rfl, hb1⟩
    have L2 := hid (bnext L1.out L1.out.size hb1)
    have B2 := hid (B1.out.call hb1)
    have z2 := B2.out.lt
    have b1 : ∃ y, w1.cell? ⟨w.heap.size, k, none⟩ = some (.string y) := by
     have hlen : k < ((stexts (l.take k) ++ List.replicate (l.length - k) ByteArray.empty).set k T).length := by rw [HY.out]; exact hkl
     exact ⟨_, B2.out.cell k _ (List.getElem?_eq_getElem hlen)⟩
    obtain ⟨y1, b1⟩ := b1
    have f1 := B2.out.free k
    clear hb1 c0 c1 c2 b0 f0 HSH
    go_wp2
    go_roundw
    case rel => exact ⟨k + 1, by omega, by go_num, by have h := B2.out.set k S; rw [List.set_set, HE.out] at h; exact h, L2.out.setCell (Nat.le_refl _) _⟩
    case measure => simp [intOf]; omega
   ·have hSW : (⟨(showW kk t).toArray⟩ : ByteArray) = T := by unfold showW; rw [if_neg hk2, hT]
    have e2 : (kk == 2) = false := by simpa using hk2
    dsimp only at HE
    rw [hSW] at HE
    clear hSW hT HS hk2
    go_wp2
    go_roundw
    case rel => exact ⟨k + 1, by omega, by go_num, by have h := (HB.out.set k T).call (below_alloc (wr.setCell ⟨w.heap.size, k, none⟩ (.string T)) (.cells #[.int .i64 kk, .string T, .int .i64 p] 48)); rw [HE.out] at h; exact h, (HL.out.setCell (Nat.le_refl _) _).alloc (by simpa using hsz) _⟩
    case measure => simp [intOf]; omega
  ·obtain rfl : k = l.length := by omega
   rw [List.take_length] at HB
   have HB2 := hid (show SBlk wr w.heap.size (stexts l) by simpa using HB.out)
   have hj := Tryz.strings_Join w.heap.size 0 l.length (stexts l) ⟨#[32]⟩ wr (fun j x hx => by rw [Nat.zero_add]; exact HB2.out.cell j x hx) hlt (by rw [stexts_length]; omega) (by rw [stexts_length]; exact Nat.le_refl _) (by rw [stexts_data]; show (textL l).length ≤ _; omega)
   rw [stexts_data, stexts_length] at hj
   obtain ⟨T, hT⟩ : ∃ T : ByteArray, T = ⟨(textL l).toArray⟩ := ⟨_, rfl⟩
   rw [show (⟨(Lib.join (l.map fun w => showW w.1 w.2.1) (⟨#[32]⟩ : ByteArray).data.toList).toArray⟩ : ByteArray) = T from hT.symm] at hj
   have HJ := hid hj
   have HT := hid hT
   clear hj hT
   go_wp2_with fail
   refine HJ.out.mono ?_
   rintro e w1 ⟨rfl, hb1⟩
   have L1 := hid (bnext HL.out hsz hb1)
   clear hb1
   go_wp2
   go_ret
   exact ⟨retS HT.out, L1.out⟩
end Go.Proofs.YtjbpkpfmgbhlpaaGreatDoor.Code
/-
  How deep what is read is nested; the numbers among a text's words; how many words a text has. No program is named here.
-/
namespace Go.Proofs.YtjbpkpfmgbhlpaaGreatDoor.Code
open Val
set_option linter.unusedVariables false
def m0 : Mode → Nat
 | .loop _ a => a.deep
 | .test a => a.deep
 | _ => 1
theorem deep_pos (t : Tr) : 1 ≤ t.deep := by cases t <;> simp [Tr.deep]
theorem m0_pos (m : Mode) : 1 ≤ m0 m := by cases m <;> first | exact Nat.le_refl _ | exact deep_pos _
theorem deep_one (o : List UInt8) (a : Tr) : (Tr.one o a).deep = a.deep + 1 := rfl
theorem deep_two (o : List UInt8) (a b : Tr) : (Tr.two o a b).deep = max a.deep b.deep + 1 := rfl
theorem deep_leaf (o x : List UInt8) : (Tr.leaf o x).deep = 1 := rfl
theorem P_deep (L : List V) : ∀ (f : Nat) (m : Mode) (i : Nat) (b : Bool), i ≤ L.length → (P L f m i b).1.deep + i ≤ m0 m + (P L f m i b).2.1
 | 0, m, i, b, _ => by
  have := m0_pos m
  show 1 + i ≤ m0 m + i
  omega
 | f + 1, .expr l, i, b, h => by
  rw [P]
  split
  ·exact P_deep L f .sign i b h
  split
  ·split
   ·rename_i hs
    have h1 := isW_lt hs
    have ih := P_deep L f (.expr 3) (i + 1) b (by omega)
    simp only [m0, deep_one] at ih ⊢
    omega
   ·exact P_deep L f (.expr 4) i b h
  split
  ·have ih := P_deep L f (.expr 5) i b h
   have he := P_ends L f (.expr 5) i b h
   have ih2 := P_deep L f (.test (P L f (.expr 5) i b).1) (P L f (.expr 5) i b).2.1 (P L f (.expr 5) i b).2.2 he.2.1
   simp only [m0] at ih ih2 ⊢
   omega
  ·have ih := P_deep L f (.expr (l + 1)) i b h
   have he := P_ends L f (.expr (l + 1)) i b h
   have ih2 := P_deep L f (.loop l (P L f (.expr (l + 1)) i b).1) (P L f (.expr (l + 1)) i b).2.1 (P L f (.expr (l + 1)) i b).2.2 he.2.1
   simp only [m0] at ih ih2 ⊢
   omega
 | f + 1, .loop l a, i, b, h => by
  rw [P]
  split
  ·simp only [m0]; omega
  ·rename_i ho
   obtain ⟨h1, h2⟩ := oneL_lt ho
   have ih := P_deep L f (.expr (l + 1)) (i + 1) b (by omega)
   have he := P_ends L f (.expr (l + 1)) (i + 1) b (by omega)
   have ih2 := P_deep L f (.loop l (.two (oneL L i b (opsL l)) a (P L f (.expr (l + 1)) (i + 1) b).1)) (P L f (.expr (l + 1)) (i + 1) b).2.1 (P L f (.expr (l + 1)) (i + 1) b).2.2 he.2.1
   have hp := deep_pos a
   simp only [m0, deep_two] at ih ih2 ⊢
   omega
 | f + 1, .test a, i, b, h => by
  have hp := deep_pos a
  rw [P]
  split
  ·split
   ·rename_i hs
    have h1 := isW_lt hs
    split
    ·simp only [m0, deep_one]; omega
    ·simp only [m0, deep_one]; omega
   ·simp only [m0]; omega
  ·rename_i ho
   obtain ⟨h1, h2⟩ := oneL_lt ho
   have ih := P_deep L f (.expr 5) (i + 1) b (by omega)
   have he := P_ends L f (.expr 5) (i + 1) b (by omega)
   simp only [m0, deep_two] at ih ⊢
   omega
 | f + 1, .sign, i, b, h => by
  rw [P]
  split
  ·rename_i hs
   have h1 := isW_lt hs
   have ih := P_deep L f .sign (i + 1) b (by omega)
   simp only [m0, deep_one] at ih ⊢
   omega
  split
  ·rename_i hs
   have h1 := isW_lt hs
   have ih := P_deep L f (.expr 1) (i + 1) b (by omega)
   split
   ·simp only [m0] at ih ⊢; omega
   ·simp only [m0] at ih ⊢; omega
  split
  ·split
   ·split
    ·simp only [m0, deep_leaf]; omega
    ·show 1 + i ≤ 1 + i; omega
   split
   ·simp only [m0, deep_leaf]; omega
   split
   ·simp only [m0, deep_leaf]; omega
   ·simp only [m0, deep_leaf]; omega
  ·simp only [m0, deep_leaf]; omega
theorem run_fig {p : UInt8 → Bool} : ∀ (s : List UInt8), ∀ c ∈ s.take (runL p s), p c = true
 | [], c, h => by simp at h
 | d :: s, c, h => by
  by_cases hd : p d = true
  ·rw [runL, if_pos hd, List.take_succ_cons] at h
   rcases List.mem_cons.1 h with rfl | h
   ·exact hd
   ·exact run_fig s c h
  ·rw [runL, if_neg hd] at h
   simp at h
theorem came_fig {l : List W} (h : CameB l) : ∀ w ∈ l, w.1 = 1 → (∀ c ∈ w.2.1, figB c = true) ∧ w.2.1.length ≤ 19 := by
 intro w hw hk
 have hf := h w hw
 rw [hk, show showW 1 w.2.1 = w.2.1 from rfl] at hf
 rcases first_cases hf with ⟨c, r, _, _, e, _⟩ | ⟨c, r, e1, e2, e3, _, ht, hn, hn2⟩ | ⟨r, _, e, _⟩ | ⟨c, d, r, _, _, _, _, _, e, _⟩ | ⟨c, r, _, _, _, _, _, _, e, _⟩
 ·exact absurd e (by decide)
 ·refine ⟨fun c hc => ?_, hn2⟩
  rw [ht] at hc
  exact run_fig _ c hc
 ·exact absurd e (by decide)
 ·exact absurd e (by decide)
 ·exact absurd e (by decide)
theorem words_len (s : List UInt8) : ∀ (i : Int) (l : List W), wordsL s i = .ok l → l.length ≤ s.length := by
 refine words_way (Q := fun s => ∀ (i : Int) (l : List W), wordsL s i = .ok l → l.length ≤ s.length) ?_ ?_ ?_ ?_ s
 ·intro i l h; cases h; exact Nat.le_refl _
 ·intro c s hb ih i l h
  rw [wordsL_blank hb] at h
  have := ih _ l h
  simp only [List.length_cons]
  omega
 ·intro c s hb hf i l h
  rw [wordsL_none hb hf] at h
  cases h
 ·intro c s k t n hf ih i l h
  have hn := first_n hf
  rw [wordsL_one hf] at h
  cases hw : wordsL ((c :: s).drop n) (i + n) with
  | error j' => rw [hw] at h; cases h
  | ok l' =>
   rw [hw] at h
   cases h
   have := ih _ l' hw
   rw [List.length_drop] at this
   simp only [List.length_cons] at this hn ⊢
   omega
end Go.Proofs.YtjbpkpfmgbhlpaaGreatDoor.Code
