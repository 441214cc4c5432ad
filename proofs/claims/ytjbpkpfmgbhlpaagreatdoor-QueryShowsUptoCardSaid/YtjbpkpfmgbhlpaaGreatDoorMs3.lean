/-
  Contracts of value.Show and of the document's Show of one value, for every value.
-/
import Derived.Test.YtjbpkpfmgbhlpaaGreatDoorMs2
import Derived.Test.YtjbpkpfmgbhlpaaGreatDoorMs1
import Derived.Lib.AppendIntMem
import Derived.Lib.LaidTab
import Derived.Deep.AppendLies
import Derived.Deep.QuietTactic
set_option maxRecDepth 100000
set_option maxHeartbeats 16000000
open Go.Lib (hid)
namespace Go.Proofs.YtjbpkpfmgbhlpaaGreatDoor.Code
open Go.ChangeShapes Go.WideShapes Go.ChangeAt Go.RowKit Val
set_option linter.unusedVariables false
structure Glob (B : Nat) (m : Int) (w : World) : Prop where
 hmax : 0 < B
 hpow : 3 < B
 cell : w.cell? ⟨0, 0, none⟩ = some (.int .i64 m)
 tab : Lib.TabIs Tryz.prog w "internal/strconv.uint64pow10" .u64 Lib.pow10Tab
theorem glob_pow : Tryz.prog.globalNamed "internal/strconv.uint64pow10" = some 3 := by kernel_rfl
theorem Glob.below {B : Nat} {m : Int} {w w' : World} (h : Glob B m w) (hb : Below B w w') : Glob B m w' := by
 refine ⟨h.hmax, h.hpow, by rw [hb.cell (p := ⟨0, 0, none⟩) h.hmax]; exact h.cell, ?_⟩
 have := h.tab
 unfold Lib.TabIs at *
 rw [← this]
 simp only [World.var?, glob_pow, Option.bind_some, hb.block _ h.hpow]
theorem Glob.more {B B' : Nat} {m : Int} {w : World} (h : Glob B m w) (hB : B ≤ B') : Glob B' m w := ⟨by have := h.hmax; omega, by have := h.hpow; omega, h.cell, h.tab⟩
theorem Glob.next {B : Nat} {m : Int} {w w' : World} (h : Glob B m w) (hb : Below B w w') : Glob w'.heap.size m w' := by
 have h1 := h.below hb
 refine ⟨World.block_lt_of_cell? _ _ h1.cell, ?_, h1.cell, h1.tab⟩
 have := h1.tab
 unfold Lib.TabIs at this
 simp only [World.var?, glob_pow, Option.bind_some] at this
 by_cases hlt : 3 < w'.heap.size
 ·exact hlt
 ·rw [Array.getElem?_eq_none (by omega)] at this
  cases this
theorem fbool_any (b : Bool) (w : World) :
  Calls Tryz.prog 158 #[.bool b] w fun e w' => e = .returned (.string (if b then ⟨#[116, 114, 117, 101]⟩ else ⟨#[102, 97, 108, 115, 101]⟩)) ∧ w = w' := by
 cases b
 all_goals
  go_enter Tryz.func158, Tryz.ntmps158
  go_wp2
  go_ret
  exact ⟨rfl, rfl⟩
theorem rep39 (m : Int) (s : ByteArray) (w : World) (hs : s.size ≤ 200) (hm : w.cell? ⟨0, 0, none⟩ = some (.int .i64 m)) :
  Calls Tryz.prog 42 #[.string s, .string ⟨#[39]⟩, .string ⟨#[39, 39]⟩] w fun e w' => e = .returned (.string ⟨(dbl s.data.toList).toArray⟩) ∧ Below w.heap.size w w' := by
 have hc := Lib.countB_mul_le ⟨#[39]⟩ (by decide) s.size s (Nat.le_refl _)
 rw [show (⟨#[39]⟩ : ByteArray).size = 1 from rfl] at hc
 have h := Tryz.strings_ReplaceAll s ⟨#[39]⟩ ⟨#[39, 39]⟩ m w (by omega) hm (by decide) (by rw [show (⟨#[39, 39]⟩ : ByteArray).size = 2 from rfl]; omega)
 rw [show Lib.replaceAll s.data.toList (⟨#[39]⟩ : ByteArray).data.toList (⟨#[39, 39]⟩ : ByteArray).data.toList = dbl s.data.toList from rep_dbl _] at h
 exact h
theorem fint_any (n : Int) (w : World) (hn : fits n) (htab : Lib.TabIs Tryz.prog w "internal/strconv.uint64pow10" .u64 Lib.pow10Tab) :
  Calls Tryz.prog 159 #[.int .i64 n, .int .i64 10] w fun e w' => e = .returned (.string ⟨(Lib.itoa n).toArray⟩) ∧ Below w.heap.size w w' := by
 unfold fits at hn
 refine (Tryz.strconv_FormatInt_10 n hn.1 hn.2 w htab).mono ?_
 rintro e w' ⟨he, k, os, rfl⟩
 exact ⟨he, Lib.below_grow _ w (Nat.le_refl _) k os⟩
theorem vshow_any (k n : Int) (s : ByteArray) (m : Int) (w : World) (hn : fits n) (hg : Glob w.heap.size m w) :
  Calls Tryz.prog 148 #[.agg #[.int .i64 k, .int .i64 n, .string s]] w fun e w' => e = .returned (.string ⟨(showL k n s).toArray⟩) ∧ Below w.heap.size w w' := by
 have HG := hid hg
 have HN := hid hn
 clear hg
 obtain ⟨b, hb⟩ : ∃ b, rightB k n s = b := ⟨_, rfl⟩
 have HR := hid (right_is k n s b hn hb)
 cases b
 ·have HS := hid (show_wrong hb)
  clear hb hn
  go_enter Tryz.func148, Tryz.ntmps148
  go_wp2_with fail
  refine (HR.out _).mono ?_
  rintro e w1 ⟨rfl, hb1⟩
  have L1 := hid (bnext (below_alloc w _) (by simp) hb1)
  clear hb1
  go_wp2
  go_ret
  exact ⟨retS (by rw [HS.out]), L1.out⟩
 ·rcases right_kinds hb with rfl | rfl | rfl | rfl | rfl
  ·have HS := hid (show_0 hb)
   clear hb hn
   go_enter Tryz.func148, Tryz.ntmps148
   go_wp2_with fail
   refine (HR.out _).mono ?_
   rintro e w1 ⟨rfl, hb1⟩
   have L1 := hid (bnext (below_alloc w _) (by simp) hb1)
   obtain ⟨x0, x1, x2, xz⟩ := (Box.fresh w 0 n s 127).call hb1
   clear hb1
   go_wp2
   go_ret
   exact ⟨retS (by rw [HS.out]), L1.out⟩
  ·have hs := show_1 hb
   clear hb hn
   by_cases h0 : n = 0
   ·subst h0
    rw [if_pos rfl] at hs
    have HS := hid hs
    clear hs
    go_enter Tryz.func148, Tryz.ntmps148
    go_wp2_with fail
    refine (HR.out _).mono ?_
    rintro e w1 ⟨rfl, hb1⟩
    have L1 := hid (bnext (below_alloc w _) (by simp) hb1)
    obtain ⟨x0, x1, x2, xz⟩ := (Box.fresh w 1 0 s 127).call hb1
    clear hb1
    go_wp2_with fail
    refine (fbool_any _ _).mono ?_
    rintro e w2 ⟨rfl, rfl⟩
    go_wp2
    go_ret
    exact ⟨retS (by rw [HS.out]), L1.out⟩
   ·rw [if_neg h0] at hs
    have HS := hid hs
    have e0 : (n == 0) = false := by simpa using h0
    have e0' : (n != 0) = true := by simpa using h0
    clear hs h0
    go_enter Tryz.func148, Tryz.ntmps148
    go_wp2_with fail
    refine (HR.out _).mono ?_
    rintro e w1 ⟨rfl, hb1⟩
    have L1 := hid (bnext (below_alloc w _) (by simp) hb1)
    obtain ⟨x0, x1, x2, xz⟩ := (Box.fresh w 1 n s 127).call hb1
    clear hb1
    go_wp2_with fail
    refine (fbool_any _ _).mono ?_
    rintro e w2 ⟨rfl, rfl⟩
    go_wp2
    go_ret
    exact ⟨retS (by rw [HS.out]), L1.out⟩
  ·have HS := hid (show_n hb (by decide) (by decide) (by decide))
   clear hb hn
   go_enter Tryz.func148, Tryz.ntmps148
   go_wp2_with fail
   refine (HR.out _).mono ?_
   rintro e w1 ⟨rfl, hb1⟩
   have L1 := hid (bnext (below_alloc w _) (by simp) hb1)
   have z1 := L1.out.size
   obtain ⟨x0, x1, x2, xz⟩ := (Box.fresh w 2 n s 127).call hb1
   clear hb1
   go_wp2_with fail
   refine (fint_any _ _ HN.out (HG.out.below L1.out).tab).mono ?_
   rintro e w2 ⟨rfl, hb2⟩
   have L2 := hid (bnext L1.out z1 hb2)
   clear hb2
   go_wp2
   go_ret
   exact ⟨retS (by rw [HS.out]), L2.out⟩
  ·have HS := hid (show_n hb (by decide) (by decide) (by decide))
   clear hb hn
   go_enter Tryz.func148, Tryz.ntmps148
   go_wp2_with fail
   refine (HR.out _).mono ?_
   rintro e w1 ⟨rfl, hb1⟩
   have L1 := hid (bnext (below_alloc w _) (by simp) hb1)
   have z1 := L1.out.size
   obtain ⟨x0, x1, x2, xz⟩ := (Box.fresh w 3 n s 127).call hb1
   clear hb1
   go_wp2_with fail
   refine (fint_any _ _ HN.out (HG.out.below L1.out).tab).mono ?_
   rintro e w2 ⟨rfl, hb2⟩
   have L2 := hid (bnext L1.out z1 hb2)
   clear hb2
   go_wp2
   go_ret
   exact ⟨retS (by rw [HS.out]), L2.out⟩
  ·have HS := hid (show_4 hb)
   have h200 := right_small hb
   have hd := dbl_length s.data.toList
   rw [← size_list] at hd
   clear hb hn
   go_enter Tryz.func148, Tryz.ntmps148
   go_wp2_with fail
   refine (HR.out _).mono ?_
   rintro e w1 ⟨rfl, hb1⟩
   have L1 := hid (bnext (below_alloc w _) (by simp) hb1)
   have z1 := L1.out.size
   obtain ⟨x0, x1, x2, xz⟩ := (Box.fresh w 4 n s 127).call hb1
   clear hb1
   go_wp2_with fail
   refine (rep39 m s _ h200 (HG.out.below L1.out).cell).mono ?_
   rintro e w2 ⟨rfl, hb2⟩
   have L2 := hid (bnext L1.out z1 hb2)
   clear hb2
   go_wp2
   go_ret
   exact ⟨retS (ba_of (by rw [HS.out]; simp)), L2.out⟩
theorem u8_ne39 {b : UInt8} (h : ¬ b = 39) : ((b.toNat : Int) == 39) = false := by
 have : b.toNat ≠ 39 := fun e => h (UInt8.toNat_inj.1 e)
 simp
 omega
theorem dig_at (r : Nat) (h : r < 10) : (⟨#[48, 49, 50, 51, 52, 53, 54, 55, 56, 57]⟩ : ByteArray).extract r (r + 1) = ⟨#[UInt8.ofNat (48 + r)]⟩ := by
 rcases (show r = 0 ∨ r = 1 ∨ r = 2 ∨ r = 3 ∨ r = 4 ∨ r = 5 ∨ r = 6 ∨ r = 7 ∨ r = 8 ∨ r = 9 by omega) with rfl | rfl | rfl | rfl | rfl | rfl | rfl | rfl | rfl | rfl <;> rfl
theorem dec_small (u : Nat) (h : u < 10) : Lib.decDigits u = [UInt8.ofNat (48 + u)] := Lib.decDigits_one h
theorem dec_big (u : Nat) (h : 10 ≤ u) : Lib.decDigits u = Lib.decDigits (u / 10) ++ [UInt8.ofNat (48 + u % 10)] := by rw [Lib.decDigits, dif_neg (by omega)]
theorem itoa_pos (u : Nat) : Lib.itoa (u : Int) = Lib.decDigits u := Lib.itoa_nonneg u
theorem figures_pos : ∀ (N u : Nat), u < N → u ≤ 9223372036854775807 → ∀ w : World,
  Calls Tryz.prog 137 #[.int .i64 (u : Int)] w fun e w' => e = .returned (.string ⟨(Lib.decDigits u).toArray⟩) ∧ Below w.heap.size w w'
 | 0, u, h, _, _ => absurd h (Nat.not_lt_zero u)
 | N + 1, u, h, hu, w => by
  have IH := hid (fun (h10 : 10 ≤ u) => figures_pos N (u / 10) (by omega) (by omega))
  have HS1 := hid (dec_small u)
  have HS2 := hid (dec_big u)
  have hL := Lib.itoa_length_le (u / 10 : Nat) (by omega) (by omega)
  rw [itoa_pos] at hL
  obtain ⟨q, hq⟩ : ∃ q, u / 10 = q := ⟨_, rfl⟩
  obtain ⟨r, hr⟩ : ∃ r, u % 10 = r := ⟨_, rfl⟩
  have hr10 : r < 10 := by omega
  have hq2 : q ≤ 922337203685477580 := by omega
  have hqr : u = 10 * q + r := by omega
  have eq1 : (u : Int).tdiv 10 = (q : Int) := by rw [Int.tdiv_eq_ediv_of_nonneg (by omega)]; omega
  have eq2 : (u : Int).tmod 10 = (r : Int) := by rw [Int.tmod_eq_emod_of_nonneg (by omega)]; omega
  have hsl := cut_at ⟨#[48, 49, 50, 51, 52, 53, 54, 55, 56, 57]⟩ r (r + 1) r (r + 1) rfl (by omega) (by omega) (by show r + 1 ≤ 10; omega)
  obtain ⟨d, hd⟩ : ∃ d, UInt8.ofNat (48 + r) = d := ⟨_, rfl⟩
  rw [dig_at r hr10, hd] at hsl
  have eq3 : (u : Int) / 10 = (q : Int) := by omega
  have eq4 : (u : Int) % 10 = (r : Int) := by omega
  have HQR := hid hqr
  clear hqr
  rw [hq] at IH HS2 hL
  rw [hr, hd] at HS2
  by_cases h10 : u < 10
  ·have HX := hid (show Lib.decDigits u = [d] by have := HQR.out; rw [HS1.out h10, show u = r by omega, hd])
   clear IH HS1 HS2 hq hr hd
   go_enter Tryz.func137, Tryz.ntmps137
   go_wp2
   go_ret
   exact ⟨retS (by rw [HX.out]), Below.refl _ _⟩
  ·have HX := hid (HS2.out (by omega))
   have IH2 := hid (IH.out (by omega))
   have e10 : decide ((10 : Int) ≤ (u : Int)) = true := by simp; omega
   clear IH HS1 HS2 hq hr hd
   go_enter Tryz.func137, Tryz.ntmps137
   go_wp2_with fail
   refine (IH2.out _).mono ?_
   rintro e w1 ⟨rfl, hb1⟩
   have L1 := hid hb1
   clear hb1
   go_wp2
   go_ret
   exact ⟨retS (by rw [HX.out]; exact strCat _ _), L1.out⟩
end Go.Proofs.YtjbpkpfmgbhlpaaGreatDoor.Code
/-
  Contract of lex's first: the word that begins a text.
-/
namespace Go.Proofs.YtjbpkpfmgbhlpaaGreatDoor.Code
open Go.ChangeShapes Go.WideShapes Go.ChangeAt Go.RowKit Val
set_option linter.unusedVariables false
set_option linter.unusedSimpArgs false
def WBox (W : World) (b : Nat) (k : Int) (s : ByteArray) (n : Int) : Prop := W.cell? ⟨b, 0, none⟩ = some (.int .i64 k) ∧ W.cell? ⟨b, 1, none⟩ = some (.string s) ∧ W.cell? ⟨b, 2, none⟩ = some (.int .i64 n) ∧ b < W.heap.size ∧ ∀ j, W.frozen? ⟨b, j, none⟩ = false
theorem WBox.call {W W' : World} {b : Nat} {k n : Int} {s : ByteArray} (h : WBox W b k s n) (hb : Below W.heap.size W W') : WBox W' b k s n := by
 obtain ⟨h0, h1, h2, h3, h4⟩ := h
 exact ⟨by rw [hb.cell (p := ⟨b, 0, none⟩) h3]; exact h0, by rw [hb.cell (p := ⟨b, 1, none⟩) h3]; exact h1, by rw [hb.cell (p := ⟨b, 2, none⟩) h3]; exact h2, Nat.lt_of_lt_of_le h3 hb.size, fun j => by rw [hb.frozen (p := ⟨b, j, none⟩) h3]; exact h4 j⟩
theorem WBox.fresh (W : World) (k n : Int) (s : ByteArray) (t : TypeId) : WBox (W.alloc (.cells #[.int .i64 k, .string s, .int .i64 n] t)) W.heap.size k s n := ⟨by simp [go_sem], by simp [go_sem], by simp [go_sem], by simp, fun j => by simp [go_sem]⟩
theorem sclone_any (s : ByteArray) (w : World) (hs : s.size ≤ 281474976710656) :
  Calls Tryz.prog 44 #[.string s] w fun e w' => e = .returned (.string s) ∧ Below w.heap.size w w' := by
 have HC := hid (fun w => Tryz.stringslite_Clone s w hs)
 go_enter Tryz.func44, Tryz.ntmps44
 go_wp2_with fail
 refine (HC.out _).mono ?_
 rintro e w1 ⟨rfl, hb⟩
 have L := hid hb
 clear hb
 go_wp2
 go_ret
 exact ⟨rfl, L.out⟩
theorem rep_quote (t : List UInt8) (m : Int) (s : ByteArray) (w : World) (h : s.data.toList = dbl t) (hs : s.size ≤ 4194304) (hm : w.cell? ⟨0, 0, none⟩ = some (.int .i64 m)) :
  Calls Tryz.prog 42 #[.string s, .string ⟨#[39, 39]⟩, .string ⟨#[39]⟩] w fun e w' => e = .returned (.string ⟨t.toArray⟩) ∧ Below w.heap.size w w' := by
 have hc := Lib.countB_mul_le ⟨#[39, 39]⟩ (by decide) s.size s (Nat.le_refl _)
 rw [show (⟨#[39, 39]⟩ : ByteArray).size = 2 from rfl] at hc
 have h := Tryz.strings_ReplaceAll s ⟨#[39, 39]⟩ ⟨#[39]⟩ m w (by omega) hm (by decide) (by rw [show (⟨#[39]⟩ : ByteArray).size = 1 from rfl]; omega)
 rw [show Lib.replaceAll s.data.toList (⟨#[39, 39]⟩ : ByteArray).data.toList (⟨#[39]⟩ : ByteArray).data.toList = t by rename_i h'; rw [h']; exact rep_dbl' _] at h
 exact h
theorem dbl_le : ∀ l : List UInt8, l.length ≤ (dbl l).length
 | [] => Nat.le_refl _
 | b :: l => by
  have := dbl_le l
  rw [dbl]
  split <;> simp <;> omega
def FirstIs (l : List UInt8) (e : Ending) : Prop := ∃ (k : Int) (t : ByteArray) (n : Nat), e = .returned (.tuple #[.agg #[.int .i64 k, .string t, .int .i64 0], .int .i64 n]) ∧ (firstL l = none ∧ n = 0 ∨ firstL l = some (k, t.data.toList, n))
theorem first_any (s : ByteArray) (m : Int) (w : World) (hs : s.size ≤ 4194304) (h1 : 1 ≤ s.size) (hm : w.cell? ⟨0, 0, none⟩ = some (.int .i64 m)) :
  Calls Tryz.prog 27 #[.string s] w fun e w' => FirstIs s.data.toList e ∧ Below w.heap.size w w' := by
 have hlt : 0 < w.heap.size := World.block_lt_of_cell? _ _ hm
 have HM := hid hm
 clear hm
 obtain ⟨K, N, hKN⟩ : ∃ K N, beginsL s.data.toList = (K, N) := ⟨_, _, rfl⟩
 have hN : N ≤ s.size := by
  have := begins_le s.data.toList
  rw [hKN] at this
  exact this
 have HB := hid (fun w => begins_any s w (by omega) h1)
 rw [hKN] at HB
 obtain ⟨L, hL⟩ : ∃ L, longK K = L := ⟨_, rfl⟩
 have HLo := hid (fun w => longest_any K w)
 rw [hL] at HLo
 have hF := firstL_is s.data.toList
 rw [hKN] at hF
 dsimp only at hF
 rw [hL] at hF
 obtain ⟨S, hS⟩ : ∃ S, s.extract 0 N = S := ⟨_, rfl⟩
 have hsl := cut_to s N N rfl hN
 rw [hS] at hsl
 have hSl : S.data.toList = s.data.toList.take N := by rw [← hS]; exact to_list s N
 have hSs : S.size = N := by rw [size_list, hSl, List.length_take, ← size_list]; omega
 have hL2 : 2 ≤ L := by rw [← hL]; unfold longK; repeat' split <;> omega
 by_cases hq : K = 2 ∧ 0 < N
 ·obtain ⟨rfl, hN0⟩ := hq
  obtain rfl : L = 200 := hL.symm
  obtain ⟨T, hT⟩ : ∃ T, textOf s.data.toList = T := ⟨_, rfl⟩
  have hTq : quoT s.data.toList = T := by rw [← hT]; unfold textOf; rw [hKN, if_pos ⟨rfl, hN0⟩]
  have hQN : quoN s.data.toList = N := by
   have hl := list_cons s h1
   obtain ⟨c, hc⟩ : ∃ c, s[0] = c := ⟨_, rfl⟩
   rw [hc] at hl
   rw [hl, begins_cons] at hKN
   split at hKN
   ·cases hKN
   split at hKN
   ·cases hKN
   split at hKN
   ·rw [← hl] at hKN
    injection hKN
   split at hKN
   ·cases hKN
   split at hKN <;> cases hKN
  have hin := quote_inner s.data.toList (by rw [hQN]; exact hN0)
  rw [hQN, hTq] at hin
  obtain ⟨S1, hS1⟩ : ∃ S1, S.extract 1 (N - 1) = S1 := ⟨_, rfl⟩
  have hS1l : S1.data.toList = dbl T := by
   rw [← hS1, ByteArray.data_extract, Array.toList_extract, List.extract_eq_take_drop, hSl, show N - 1 - 1 = N - 2 by omega]
   exact hin.1
  have hS1s : S1.size ≤ 4194304 := by
   have := hin.1
   rw [size_list, hS1l, ← hin.1, List.length_take]
   omega
  have hsl2 := cut_at S 1 ((N : Int) - 1) 1 (N - 1) rfl (by omega) (by omega) (by omega)
  rw [hS1] at hsl2
  have hw := IntWalk.wrap64_in ((N : Int) - 1) ⟨by omega, by omega⟩
  have e0 : decide ((0 : Int) < (N : Int)) = true := by simp; omega
  have HR := hid (fun w => rep_quote T m S1 w hS1l hS1s)
  obtain ⟨T2, hT2⟩ : ∃ T2 : ByteArray, ⟨T.toArray⟩ = T2 := ⟨_, rfl⟩
  have hTT : T2.data.toList = T := by rw [← hT2]
  have hTs : (T.length : Int) = (T2.size : Int) := by rw [size_list, hTT]
  rw [hT2] at HR
  rw [hT, hTs] at hF
  have hTb : T2.size ≤ 4194304 := by
   have h1 := dbl_le T
   have h2 : (dbl T).length = S1.size := by rw [size_list, hS1l]
   omega
  by_cases hbig : (200 : Int) < (T2.size : Int)
  ·have HX := hid (show firstL s.data.toList = none by rw [hF, if_pos (.inr hbig)])
   clear hF hKN hS hSl hT hTq hQN hin hS1 hS1l hT2 hTT hTs hL
   go_enter Tryz.func27, Tryz.ntmps27
   go_wp2_with fail
   refine (HB.out _).mono ?_
   rintro e w1 ⟨rfl, rfl⟩
   have X0 := hid (WBox.fresh w 0 0 ⟨#[]⟩ 48)
   have L0 := hid (below_alloc w (.cells #[.int .i64 0, .string ⟨#[]⟩, .int .i64 0] 48))
   go_wp2_with fail
   refine (HR.out _ (by rw [L0.out.cell (p := ⟨0, 0, none⟩) hlt]; exact HM.out)).mono ?_
   rintro e w2 ⟨rfl, hb2⟩
   have X2 := hid (X0.out.call hb2)
   have L2 := hid (bnext L0.out L0.out.size hb2)
   clear hb2
   go_wp2_with fail
   refine (HLo.out _).mono ?_
   rintro e w1 ⟨rfl, rfl⟩
   obtain ⟨x0, x1, x2, xz, xf⟩ := X2.out
   go_wp2
   exact bodyPost_ret (v := .tuple #[.agg #[.int .i64 0, .string ⟨#[]⟩, .int .i64 0], .int .i64 0]) (by simp [results, Tryz.results27, go_sem, World.cell?_setCell_other, x0, x1, x2]) rfl ⟨⟨0, ⟨#[]⟩, 0, rfl, .inl ⟨HX.out, rfl⟩⟩, ((L2.out.setCell (by simp) _).setCell (by simp) _).setCell (by simp) _⟩
  ·have HX := hid (show firstL s.data.toList = some (2, T2.data.toList, N) by rw [hF, if_neg (by omega), hTT])
   have HC := hid (fun w => sclone_any T2 w (by omega))
   clear hF hKN hS hSl hT hTq hQN hin hS1 hS1l hT2 hTT hTs hL
   go_enter Tryz.func27, Tryz.ntmps27
   go_wp2_with fail
   refine (HB.out _).mono ?_
   rintro e w1 ⟨rfl, rfl⟩
   have X0 := hid (WBox.fresh w 0 0 ⟨#[]⟩ 48)
   have L0 := hid (below_alloc w (.cells #[.int .i64 0, .string ⟨#[]⟩, .int .i64 0] 48))
   go_wp2_with fail
   refine (HR.out _ (by rw [L0.out.cell (p := ⟨0, 0, none⟩) hlt]; exact HM.out)).mono ?_
   rintro e w2 ⟨rfl, hb2⟩
   have X2 := hid (X0.out.call hb2)
   have L2 := hid (bnext L0.out L0.out.size hb2)
   clear hb2
   go_wp2_with fail
   refine (HLo.out _).mono ?_
   rintro e w1 ⟨rfl, rfl⟩
   go_wp2_with fail
   refine (HC.out _).mono ?_
   rintro e w3 ⟨rfl, hb3⟩
   have X3 := hid (X2.out.call hb3)
   have L3 := hid (bnext L2.out L2.out.size hb3)
   clear hb3
   obtain ⟨x0, x1, x2, xz, xf⟩ := X3.out
   go_wp2
   exact bodyPost_ret (v := .tuple #[.agg #[.int .i64 2, .string T2, .int .i64 0], .int .i64 (N : Int)]) (by simp [results, Tryz.results27, go_sem, World.cell?_setCell_other, x0, x1, x2]) rfl ⟨⟨2, T2, N, rfl, .inr HX.out⟩, ((L3.out.setCell (by simp) _).setCell (by simp) _).setCell (by simp) _⟩
 ·have ht : textOf s.data.toList = S.data.toList := by unfold textOf; rw [hKN, if_neg hq, hSl]
  rw [ht, ← size_list, hSs] at hF
  by_cases hbig : L < (N : Int)
  ·have HX := hid (show firstL s.data.toList = none by rw [hF, if_pos (.inr hbig)])
   have hK2 : (K == 2) = false := by
    have : K ≠ 2 := fun e => hq ⟨e, by omega⟩
    simpa using this
   clear hF hKN hS hSl hq ht hL
   go_enter Tryz.func27, Tryz.ntmps27
   go_wp2_with fail
   refine (HB.out _).mono ?_
   rintro e w1 ⟨rfl, rfl⟩
   go_wp2_with fail
   refine (HLo.out _).mono ?_
   rintro e w1 ⟨rfl, rfl⟩
   go_wp2
   exact bodyPost_ret (v := .tuple #[.agg #[.int .i64 0, .string ⟨#[]⟩, .int .i64 0], .int .i64 0]) (by simp [results, Tryz.results27, go_sem, World.cell?_setCell_other]) rfl ⟨⟨0, ⟨#[]⟩, 0, rfl, .inl ⟨HX.out, rfl⟩⟩, below_alloc w _⟩
  ·have HX := hid (show firstL s.data.toList = none ∧ N = 0 ∨ firstL s.data.toList = some (K, S.data.toList, N) by
    by_cases h0 : N = 0
    ·exact .inl ⟨by rw [hF, if_pos (.inl h0)], h0⟩
    ·exact .inr (by rw [hF, if_neg (by omega)]))
   have HC := hid (fun w => sclone_any S w (by omega))
   by_cases hK : K = 2
   ·subst hK
    obtain rfl : N = 0 := by omega
    clear hS
    obtain rfl : S = ByteArray.empty := ByteArray.size_eq_zero_iff.1 hSs
    clear hF hKN hSl hq ht hL
    go_enter Tryz.func27, Tryz.ntmps27
    go_wp2_with fail
    refine (HB.out _).mono ?_
    rintro e w1 ⟨rfl, rfl⟩
    go_wp2_with fail
    refine (HLo.out _).mono ?_
    rintro e w1 ⟨rfl, rfl⟩
    have X0 := hid (WBox.fresh w 0 0 ⟨#[]⟩ 48)
    have L0 := hid (below_alloc w (.cells #[.int .i64 0, .string ⟨#[]⟩, .int .i64 0] 48))
    go_wp2_with fail
    refine (HC.out _).mono ?_
    rintro e w3 ⟨rfl, hb3⟩
    have X3 := hid (X0.out.call hb3)
    have L3 := hid (bnext L0.out L0.out.size hb3)
    clear hb3
    obtain ⟨x0, x1, x2, xz, xf⟩ := X3.out
    go_wp2
    exact bodyPost_ret (v := .tuple #[.agg #[.int .i64 2, .string ByteArray.empty, .int .i64 0], .int .i64 0]) (by simp [results, Tryz.results27, go_sem, World.cell?_setCell_other, x0, x1, x2]) rfl ⟨⟨2, ByteArray.empty, 0, rfl, HX.out.imp (fun h => ⟨h.1, rfl⟩) id⟩, ((L3.out.setCell (by simp) _).setCell (by simp) _).setCell (by simp) _⟩
   ·have hK2 : (K == 2) = false := by simpa using hK
    clear hF hKN hS hSl hq ht hL hK
    go_enter Tryz.func27, Tryz.ntmps27
    go_wp2_with fail
    refine (HB.out _).mono ?_
    rintro e w1 ⟨rfl, rfl⟩
    go_wp2_with fail
    refine (HLo.out _).mono ?_
    rintro e w1 ⟨rfl, rfl⟩
    have X0 := hid (WBox.fresh w 0 0 ⟨#[]⟩ 48)
    have L0 := hid (below_alloc w (.cells #[.int .i64 0, .string ⟨#[]⟩, .int .i64 0] 48))
    go_wp2_with fail
    refine (HC.out _).mono ?_
    rintro e w3 ⟨rfl, hb3⟩
    have X3 := hid (X0.out.call hb3)
    have L3 := hid (bnext L0.out L0.out.size hb3)
    clear hb3
    obtain ⟨x0, x1, x2, xz, xf⟩ := X3.out
    go_wp2
    exact bodyPost_ret (v := .tuple #[.agg #[.int .i64 K, .string S, .int .i64 0], .int .i64 (N : Int)]) (by simp [results, Tryz.results27, go_sem, World.cell?_setCell_other, x0, x1, x2]) rfl ⟨⟨K, S, N, rfl, HX.out⟩, ((L3.out.setCell (by simp) _).setCell (by simp) _).setCell (by simp) _⟩
end Go.Proofs.YtjbpkpfmgbhlpaaGreatDoor.Code
/-
  Contracts of the document's run and quote: how many bytes come, and which text.
-/
namespace Go.Proofs.YtjbpkpfmgbhlpaaGreatDoor.Code
open Go.ChangeShapes Go.WideShapes Go.ChangeAt Go.RowKit Val
set_option linter.unusedVariables false
end Go.Proofs.YtjbpkpfmgbhlpaaGreatDoor.Code
/-
  Contract of the document's one: the word that comes.
-/
namespace Go.Proofs.YtjbpkpfmgbhlpaaGreatDoor.Code
open Go.ChangeShapes Go.WideShapes Go.ChangeAt Go.RowKit Val
set_option linter.unusedVariables false
set_option linter.unusedSimpArgs false
end Go.Proofs.YtjbpkpfmgbhlpaaGreatDoor.Code
/-
  Contracts of lex's Words and of the document's.
-/
namespace Go.Proofs.YtjbpkpfmgbhlpaaGreatDoor.Code
open Go.ChangeShapes Go.WideShapes Go.ChangeAt Go.RowKit Val Elems
set_option linter.unusedVariables false
theorem info_word : (Tryz.prog.info? 48).map (fun i => (i.zero, i.size, i.bytes)) = some (some (.agg #[.int .i64 0, .string ByteArray.empty, .int .i64 0]), 3, 32) := by kernel_rfl
theorem roww_new (w : World) (o : Obj) (k n : Int) (t : ByteArray) (ty : TypeId) : ∀ (j : Nat) (u : Value), ([.int .i64 k, .string t, .int .i64 n] : List Value)[j]? = some u → ((w.alloc o).alloc (.cells #[.int .i64 k, .string t, .int .i64 n] ty)).cell? ((⟨w.heap.size + 1, 0, none⟩ : Addr).add j) = some u := by
 have h := heap_alloc_new (w.alloc o) (.cells #[.int .i64 k, .string t, .int .i64 n] ty)
 rw [show (w.alloc o).heap.size = w.heap.size + 1 by simp] at h
 exact World.news_of_block h
theorem words_any (s : ByteArray) (m : Int) (w : World) (hs : s.size ≤ 4194304) (hm : w.cell? ⟨0, 0, none⟩ = some (.int .i64 m)) :
  Calls Tryz.prog 11 #[.string s] w (WordsPost w s.data.toList) := by
 have hlt : 0 < w.heap.size := World.block_lt_of_cell? _ _ hm
 have HM := hid hm
 clear hm
 obtain ⟨i0, hi0, hz0, hz1, hz2⟩ := info_parts info_word
 go_enter Tryz.func11, Tryz.ntmps11
 go_wp2
 go_loopw [5, 6] (fun v t wr => ∃ (i : Nat) (a : List W), i ≤ s.size ∧ t = .int .i64 i ∧ Hid (WAt s.data.toList i a) ∧ a.length ≤ i ∧ wr.ownsRow w.heap.size 48 3 v a.length (flatC wc a) ∧ Below w.heap.size w wr) (fun _ t _ => s.size - (intOf t).toNat)
 case atStart => exact ⟨0, [], by omega, rfl, hid (WAt.start _), by simp, World.ownsRow_nil _ _ _ _, Below.refl _ _⟩
 case round =>
  obtain ⟨i, a, hi, rfl, HK, hai, hown, hbel⟩ := hrel
  have hsz := hbel.size
  have HO := hid hown
  have HL := hid hbel
  clear hown hbel
  by_cases hil : i < s.size
  ·obtain ⟨c, hc⟩ : ∃ c, s[i] = c := ⟨_, rfl⟩
   have hg := (list_get s i hil hil).trans hc
   obtain ⟨b, hb⟩ : ∃ b, blankB c = b := ⟨_, rfl⟩
   have HB := hid (fun w => (blank_any c w).mono (R' := fun e w' => e = .returned (.bool b) ∧ w = w') (by rintro e w' ⟨h1, h2⟩; exact ⟨by rw [h1, hb], h2⟩))
   cases b
   ·obtain ⟨S, hS⟩ : ∃ S, s.extract i s.size = S := ⟨_, rfl⟩
    have hsl := cut_from s i i rfl hi
    rw [hS] at hsl
    have hSl : S.data.toList = s.data.toList.drop i := by rw [← hS]; exact from_list s i
    have hSs : S.size = s.size - i := by rw [size_list, hSl, List.length_drop, ← size_list]
    have HSL := hid hSl
    have HG := hid hg
    clear hS hSl hg
    go_wp2_with fail
    refine (HB.out _).mono ?_
    rintro e w1 ⟨rfl, rfl⟩
    go_wp2_with fail
    refine (first_any S m _ (by omega) (by omega) (by rw [HL.out.cell (p := ⟨0, 0, none⟩) hlt]; exact HM.out)).mono ?_
    rintro e w1 ⟨⟨k, t, n, rfl, hcase⟩, hb1⟩
    rw [HSL.out] at hcase
    have L1 := hid (bnext HL.out hsz hb1)
    have O1 := hid (own_call HO.out hb1)
    have hzw := L1.out.size
    clear hb1
    rcases hcase with ⟨hno, rfl⟩ | hyes
    ·have HD := hid (HK.out.none hil (by rw [HG.out]; exact hb) hno)
     clear hno
     go_wp2
     go_ret3
     exact words_no HD.out (L1.out.alloc hzw _)
    ·have hn := first_n hyes
     have hcz : ((n : Int) == 0) = false := by simp; omega
     have hni : i + n ≤ s.size := by have := hn.2; rw [List.length_drop, ← size_list] at this; omega
     have HD := hid (HK.out.one hil hyes)
     have HW := hid (show wc (k, t.data.toList, (i : Int)) = [.int .i64 k, .string t, .int .i64 (i : Int)] by unfold wc; rw [Lib.mk_data])
     have hn1 := hn.1
     clear hyes hn
     go_wp2_with (at_builtin; refine wpList_append_own _ rfl _ _ 31 rfl w.heap.size 48 i0 (.agg #[.int .i64 0, .string ByteArray.empty, .int .i64 0]) 3 32 Tryz.underlying31 hi0 hz0 hz1 hz2 rfl (by decide) _ _ _ rfl ((O1.out.alloc _).alloc _) ⟨w1.heap.size + 1, 0, none⟩ 1 1 [.int .i64 k, .string t, .int .i64 (i : Int)] rfl rfl ?c1 ?c2 ?c3 ?c4 ?c5 ?_)
     case c1 => exact roww_new _ _ _ _ _ _
     case c2 => rw [← HW.out]; exact wc_one _
     case c3 => unfold maxLen; omega
     case c4 => omega
     case c5 => simp; omega
     intro v' w2 hown' hgrow _
     have O2 := hid (show w2.ownsRow w.heap.size 48 3 v' (a ++ [(k, t.data.toList, (i : Int))]).length (flatC wc (a ++ [(k, t.data.toList, (i : Int))])) by rw [flatC_snoc, List.length_append, HW.out]; exact hown')
     have L2 := hid (((L1.out.alloc hzw _).alloc (by simp; omega) _).grown hgrow (by simp; omega) (fun g hg => (O1.out.lt g hg).1))
     clear hown' hgrow
     go_wp2
     go_roundw
     case rel => exact ⟨i + n, a ++ [(k, t.data.toList, (i : Int))], by omega, by go_num, HD, by rw [List.length_append]; simp; omega, O2.out, L2.out⟩
     case measure => simp [intOf]; omega
   ·have HD := hid (HK.out.blank hil (by rw [hg]; exact hb))
    clear hg
    go_wp2_with fail
    refine (HB.out _).mono ?_
    rintro e w1 ⟨rfl, rfl⟩
    go_wp2
    go_roundw
    case rel => exact ⟨i + 1, a, by omega, by go_num, HD, by omega, HO.out, HL.out⟩
    case measure => simp [intOf]; omega
  ·have HD := hid (HK.out.done (by rw [← size_list]; omega))
   go_wp2
   go_ret3
   exact words_yes HD.out HO.out HL.out
theorem at_word {w : World} {B : Nat} {A : Option Addr} {l : List W} (h : At wc 3 w B A l) (i : Nat) (hi : i < l.length) :
  ∃ ad : Addr, A = some ad ∧ ad.block < B ∧ w.cell? (ad.add (i * 3)) = some (.int .i64 l[i].1) ∧ w.cell? ⟨(ad.add (i * 3)).block, (ad.add (i * 3)).off + 1, none⟩ = some (.string ⟨l[i].2.1.toArray⟩) ∧ w.cell? ⟨(ad.add (i * 3)).block, (ad.add (i * 3)).off + 2, none⟩ = some (.int .i64 l[i].2.2) := by
 obtain ⟨ad, e, hb, h0⟩ := h i hi
 refine ⟨ad, e, hb, h0 0 _ rfl, ?_, ?_⟩
 ·rw [← add_next]; exact h0 1 _ rfl
 ·rw [← add_next]; exact h0 2 _ rfl
def ownB (s : List UInt8) : Bool := s == [116, 114, 117, 101] || (s == [102, 97, 108, 115, 101] || (s == [110, 117, 108, 108] || (s == [97, 110, 100] || (s == [111, 114] || (s == [110, 111, 116] || s == [105, 115])))))
theorem own_any (s : ByteArray) (w : World) :
  Calls Tryz.prog 125 #[.string s] w fun e w' => e = .returned (.bool (ownB s.toList)) ∧ w = w' := by
 obtain ⟨b1, h1⟩ : ∃ b, (s.toList == [116, 114, 117, 101]) = b := ⟨_, rfl⟩
 obtain ⟨b2, h2⟩ : ∃ b, (s.toList == [102, 97, 108, 115, 101]) = b := ⟨_, rfl⟩
 obtain ⟨b3, h3⟩ : ∃ b, (s.toList == [110, 117, 108, 108]) = b := ⟨_, rfl⟩
 obtain ⟨b4, h4⟩ : ∃ b, (s.toList == [97, 110, 100]) = b := ⟨_, rfl⟩
 obtain ⟨b5, h5⟩ : ∃ b, (s.toList == [111, 114]) = b := ⟨_, rfl⟩
 obtain ⟨b6, h6⟩ : ∃ b, (s.toList == [110, 111, 116]) = b := ⟨_, rfl⟩
 obtain ⟨b7, h7⟩ : ∃ b, (s.toList == [105, 115]) = b := ⟨_, rfl⟩
 have HX := hid (show ownB s.toList = (b1 || (b2 || (b3 || (b4 || (b5 || (b6 || b7)))))) by unfold ownB; rw [h1, h2, h3, h4, h5, h6, h7])
 rw [HX.out]
 clear HX
 cases b1
 ·cases b2
  ·cases b3
   ·cases b4
    ·cases b5
     ·cases b6
      ·cases b7
       all_goals (go_enter Tryz.func125, Tryz.ntmps125; go_wp2; go_ret; exact ⟨rfl, rfl⟩)
      ·(go_enter Tryz.func125, Tryz.ntmps125; go_wp2; go_ret; exact ⟨rfl, rfl⟩)
     ·(go_enter Tryz.func125, Tryz.ntmps125; go_wp2; go_ret; exact ⟨rfl, rfl⟩)
    ·(go_enter Tryz.func125, Tryz.ntmps125; go_wp2; go_ret; exact ⟨rfl, rfl⟩)
   ·(go_enter Tryz.func125, Tryz.ntmps125; go_wp2; go_ret; exact ⟨rfl, rfl⟩)
  ·(go_enter Tryz.func125, Tryz.ntmps125; go_wp2; go_ret; exact ⟨rfl, rfl⟩)
 ·(go_enter Tryz.func125, Tryz.ntmps125; go_wp2; go_ret; exact ⟨rfl, rfl⟩)
end Go.Proofs.YtjbpkpfmgbhlpaaGreatDoor.Code
/-
  Contracts of the document's reader of words: what comes, and what is taken.
-/
namespace Go.Proofs.YtjbpkpfmgbhlpaaGreatDoor.Code
open Go.ChangeShapes Go.WideShapes Go.ChangeAt Go.RowKit Val Elems
set_option linter.unusedVariables false
set_option linter.unusedSimpArgs false
theorem isW_bad {L : List V} {i : Nat} (s : List UInt8) : isW L i true s = false := by
 unfold isW
 split <;> rfl
end Go.Proofs.YtjbpkpfmgbhlpaaGreatDoor.Code
/-
  Contracts of the document's Figures below 0, and of its Show of one value.
-/
namespace Go.Proofs.YtjbpkpfmgbhlpaaGreatDoor.Code
open Go.ChangeShapes Go.WideShapes Go.ChangeAt Go.RowKit Val
set_option linter.unusedVariables false
theorem figures_neg : ∀ (N u : Nat), u < N → 1 ≤ u → u ≤ 9223372036854775808 → ∀ w : World,
  Calls Tryz.prog 137 #[.int .i64 (-(u : Int))] w fun e w' => e = .returned (.string ⟨(45 :: Lib.decDigits u).toArray⟩) ∧ Below w.heap.size w w'
 | 0, u, h, _, _, _ => absurd h (Nat.not_lt_zero u)
 | N + 1, u, h, h1, hu, w => by
  by_cases h10 : u < 10
  ·have HP := hid (figures_pos (u + 1) u (by omega) (by omega))
   have hL : (Lib.decDigits u).length ≤ 21 := by have := Lib.itoa_length_le (u : Nat) (by omega) (by omega); rwa [itoa_pos] at this
   go_enter Tryz.func137, Tryz.ntmps137
   go_wp2_with fail
   refine (HP.out _).mono ?_
   rintro e w1 ⟨rfl, hb1⟩
   have L1 := hid hb1
   clear hb1
   go_wp2
   go_ret
   exact ⟨retS (strCat [45] _), L1.out⟩
  ·have IH := hid (figures_neg N (u / 10) (by omega) (by omega) (by omega))
   have HS2 := hid (dec_big u (by omega))
   have hL := Lib.itoa_length_le (u / 10 : Nat) (by omega) (by omega)
   rw [itoa_pos] at hL
   obtain ⟨q, hq⟩ : ∃ q, u / 10 = q := ⟨_, rfl⟩
   obtain ⟨r, hr⟩ : ∃ r, u % 10 = r := ⟨_, rfl⟩
   have hr10 : r < 10 := by omega
   have hq2 : q ≤ 922337203685477580 := by omega
   have eq1 : (-(u : Int)).tdiv 10 = -(q : Int) := by rw [Int.neg_tdiv, Int.tdiv_eq_ediv_of_nonneg (by omega)]; omega
   have eq2 : (-(u : Int)).tmod 10 = -(r : Int) := by rw [Int.neg_tmod, Int.tmod_eq_emod_of_nonneg (by omega)]; omega
   have eq3 : (u : Int).tdiv 10 = (q : Int) := by rw [Int.tdiv_eq_ediv_of_nonneg (by omega)]; omega
   have eq4 : (u : Int).tmod 10 = (r : Int) := by rw [Int.tmod_eq_emod_of_nonneg (by omega)]; omega
   have hsl := cut_at ⟨#[48, 49, 50, 51, 52, 53, 54, 55, 56, 57]⟩ r (r + 1) r (r + 1) rfl (by omega) (by omega) (by show r + 1 ≤ 10; omega)
   obtain ⟨d, hd⟩ : ∃ d, UInt8.ofNat (48 + r) = d := ⟨_, rfl⟩
   rw [dig_at r hr10, hd] at hsl
   rw [hq] at IH HS2 hL
   rw [hr, hd] at HS2
   obtain ⟨T, hT⟩ : ∃ T : ByteArray, T = ⟨(45 :: Lib.decDigits q).toArray⟩ := ⟨_, rfl⟩
   have hTs : T.size ≤ 22 := by rw [hT, size_list]; simp; omega
   have hadd := fun w => run_string_add_sum (P := Tryz.prog) w T ⟨#[d]⟩ (by show T.size + 1 ≤ _; omega)
   have hT3 : ¬ (9223372036854775807 ≤ T.size) := by omega
   rw [← hT] at IH
   have HT := hid hT
   clear hT hL
   have w0 : IntKind.i64.wrap (-(q : Int)) = -(q : Int) := by rw [IntKind.wrap_i64]; omega
   have w1 : IntKind.i64.wrap (-(r : Int)) = -(r : Int) := by rw [IntKind.wrap_i64]; omega
   have w2 : IntKind.i64.wrap (r : Int) = (r : Int) := by rw [IntKind.wrap_i64]; omega
   have w3 : IntKind.i64.wrap ((r : Int) + 1) = (r : Int) + 1 := by rw [IntKind.wrap_i64]; omega
   clear hq hr hd
   go_enter Tryz.func137, Tryz.ntmps137
   go_wp2_with fail
   go_region_held3 (fun w' => True ∧ Below w.heap.size w w')
    (first | assumption | (refine keepP hb5 (by assumption) ?_; intro kk; trivial) | (exact ⟨trivial, Below.drew (Below.refl _ _)⟩))
    (first | (go_at_call 137; refine (IH.out _).mono ?_; rintro e w5 ⟨rfl, hb5⟩))
   all_goals
    have M1 := hid (show Below w.heap.size w _ by rename_i hS; exact hS.2)
    go_wp2
    go_ret
    exact ⟨retS (by rw [HS2.out, HT.out]; exact strCat (45 :: Lib.decDigits q) [d]), M1.out⟩
theorem figures_any (n : Int) (hn : fits n) (w : World) :
  Calls Tryz.prog 137 #[.int .i64 n] w fun e w' => e = .returned (.string ⟨(Lib.itoa n).toArray⟩) ∧ Below w.heap.size w w' := by
 unfold fits at hn
 by_cases h : 0 ≤ n
 ·obtain ⟨u, rfl⟩ : ∃ u : Nat, n = u := ⟨n.toNat, by omega⟩
  rw [itoa_pos]
  exact figures_pos (u + 1) u (by omega) (by omega) w
 ·obtain ⟨u, rfl⟩ : ∃ u : Nat, n = -(u : Int) := ⟨n.natAbs, by omega⟩
  rw [Lib.itoa_neg u (by omega)]
  exact figures_neg (u + 1) u (by omega) (by omega) (by omega) w
theorem rvshow_any (k n : Int) (s : ByteArray) (w : World) (hn : fits n) :
  Calls Tryz.prog 115 #[.agg #[.int .i64 k, .int .i64 n, .string s]] w fun e w' => e = .returned (.string ⟨(showL k n s).toArray⟩) ∧ Below w.heap.size w w' := by
 have HN := hid hn
 obtain ⟨b, hb⟩ : ∃ b, rightB k n s = b := ⟨_, rfl⟩
 have HR := hid (rright_is k n s b hb)
 cases b
 ·have HS := hid (show_wrong hb)
  clear hb hn
  go_enter Tryz.func115, Tryz.ntmps115
  go_wp2_with fail
  refine (HR.out _).mono ?_
  rintro e w1 ⟨rfl, hb1⟩
  have L1 := hid (bnext (below_alloc w _) (by simp) hb1)
  clear hb1
  go_wp2
  go_ret
  exact ⟨retS (by rw [HS.out]), L1.out⟩
 ·rcases right_kinds hb with rfl | rfl | rfl | rfl | rfl
  ·have HS := hid (show_0 hb)
   clear hb hn
   go_enter Tryz.func115, Tryz.ntmps115
   go_wp2_with fail
   refine (HR.out _).mono ?_
   rintro e w1 ⟨rfl, hb1⟩
   have L1 := hid (bnext (below_alloc w _) (by simp) hb1)
   obtain ⟨x0, x1, x2, xz⟩ := (Box.fresh w 0 n s 127).call hb1
   clear hb1
   go_wp2
   go_ret
   exact ⟨retS (by rw [HS.out]), L1.out⟩
  ·have hs := show_1 hb
   have h01 : n = 0 ∨ n = 1 := by unfold rightB holdsB at hb; simp at hb; exact hb.2
   clear hb hn
   rcases h01 with rfl | rfl
   ·rw [if_pos rfl] at hs
    have HS := hid hs
    clear hs
    go_enter Tryz.func115, Tryz.ntmps115
    go_wp2_with fail
    refine (HR.out _).mono ?_
    rintro e w1 ⟨rfl, hb1⟩
    have L1 := hid (bnext (below_alloc w _) (by simp) hb1)
    obtain ⟨x0, x1, x2, xz⟩ := (Box.fresh w 1 0 s 127).call hb1
    clear hb1
    go_wp2
    go_ret
    exact ⟨retS (by rw [HS.out]), L1.out⟩
   ·rw [if_neg (by decide)] at hs
    have HS := hid hs
    clear hs
    go_enter Tryz.func115, Tryz.ntmps115
    go_wp2_with fail
    refine (HR.out _).mono ?_
    rintro e w1 ⟨rfl, hb1⟩
    have L1 := hid (bnext (below_alloc w _) (by simp) hb1)
    obtain ⟨x0, x1, x2, xz⟩ := (Box.fresh w 1 1 s 127).call hb1
    clear hb1
    go_wp2
    go_ret
    exact ⟨retS (by rw [HS.out]), L1.out⟩
  ·have HS := hid (show_n hb (by decide) (by decide) (by decide))
   clear hb hn
   go_enter Tryz.func115, Tryz.ntmps115
   go_wp2_with fail
   refine (HR.out _).mono ?_
   rintro e w1 ⟨rfl, hb1⟩
   have L1 := hid (bnext (below_alloc w _) (by simp) hb1)
   have z1 := L1.out.size
   obtain ⟨x0, x1, x2, xz⟩ := (Box.fresh w 2 n s 127).call hb1
   clear hb1
   go_wp2_with fail
   refine (figures_any n HN.out _).mono ?_
   rintro e w2 ⟨rfl, hb2⟩
   have L2 := hid (bnext L1.out z1 hb2)
   clear hb2
   go_wp2
   go_ret
   exact ⟨retS (by rw [HS.out]), L2.out⟩
  ·have HS := hid (show_n hb (by decide) (by decide) (by decide))
   clear hb hn
   go_enter Tryz.func115, Tryz.ntmps115
   go_wp2_with fail
   refine (HR.out _).mono ?_
   rintro e w1 ⟨rfl, hb1⟩
   have L1 := hid (bnext (below_alloc w _) (by simp) hb1)
   have z1 := L1.out.size
   obtain ⟨x0, x1, x2, xz⟩ := (Box.fresh w 3 n s 127).call hb1
   clear hb1
   go_wp2_with fail
   refine (figures_any n HN.out _).mono ?_
   rintro e w2 ⟨rfl, hb2⟩
   have L2 := hid (bnext L1.out z1 hb2)
   clear hb2
   go_wp2
   go_ret
   exact ⟨retS (by rw [HS.out]), L2.out⟩
  ·have HS := hid (show_4 hb)
   have h200 := right_small hb
   clear hb hn
   go_enter Tryz.func115, Tryz.ntmps115
   go_wp2_with fail
   refine (HR.out _).mono ?_
   rintro e w1 ⟨rfl, hb1⟩
   have L1 := hid (bnext (below_alloc w _) (by simp) hb1)
   have z1 := L1.out.size
   obtain ⟨x0, x1, x2, xz⟩ := (Box.fresh w 4 n s 127).call hb1
   clear hb1
   go_wp2
   go_loop [4, 5] (fun t i => ∃ j : Nat, j ≤ s.size ∧ i = .int .i64 j ∧ t = .string ⟨(39 :: dbl (s.data.toList.take j)).toArray⟩) (fun _ i => s.size - (intOf i).toNat)
   case atStart => exact ⟨0, by omega, rfl, rfl⟩
   case round =>
    obtain ⟨j, hj, rfl, rfl⟩ := hrel
    have hle := dbl_length (s.data.toList.take j)
    have hle2 : (s.data.toList.take j).length ≤ 200 := by rw [List.length_take]; omega
    by_cases hlt : j < s.size
    ·have hsl := cut_at s j (j + 1) j (j + 1) rfl (by omega) (by omega) (by omega)
     rw [one_at s j hlt] at hsl
     have HE := hid (dbl_take s j hlt)
     by_cases a0 : s[j] = 39
     ·have i0 : (s[j].toNat : Int) = 39 := by rw [a0]; rfl
      have HE2 := hid (HE.out.trans (by rw [if_pos a0]))
      rw [a0] at hsl
      clear a0 HE
      go_wp2
      go_round
      case rel => exact ⟨j + 1, by omega, by go_num, by rw [HE2.out]; exact strV (ba_of (by simp))⟩
      case measure => simp [intOf]; omega
     ·have i0 : ((s[j].toNat : Int) == 39) = false := u8_ne39 a0
      have HE2 := hid (HE.out.trans (by rw [if_neg a0]))
      clear a0 HE
      go_wp2
      go_round
      case rel => exact ⟨j + 1, by omega, by go_num, by rw [HE2.out]; exact strV (ba_of (by simp))⟩
      case measure => simp [intOf]; omega
    ·obtain rfl : j = s.size := by omega
     rw [List.take_of_length_le (by rw [size_list]; exact Nat.le_refl _)] at *
     go_wp2
     go_ret
     exact ⟨retS (ba_of (by rw [HS.out]; simp)), L1.out⟩
end Go.Proofs.YtjbpkpfmgbhlpaaGreatDoor.Code
/-
  Contracts of the document's reader of words: which kind comes, a name, the marks of a level, that of some marks that comes, a number.
-/
namespace Go.Proofs.YtjbpkpfmgbhlpaaGreatDoor.Code
open Go.ChangeShapes Go.WideShapes Go.ChangeAt Go.RowKit Val Elems
set_option linter.unusedVariables false
set_option linter.unusedSimpArgs false
def sc (s : List UInt8) : List Value := [.string ⟨s.toArray⟩]
theorem sc_length (s : List UInt8) : (sc s).length = 1 := rfl
theorem at_but {α : Type} {c : α → List Value} {k : Nat} {w w' : World} {r B : Nat} {A : Option Addr} {l : List α} (h : At c k w B A l) (hb : But w w' r) (hB : B ≤ w.heap.size) (hne : ∀ ad, A = some ad → ad.block ≠ r) : At c k w' B A l := by
 intro i hi
 obtain ⟨ad, e, hlt, h0⟩ := h i hi
 exact ⟨ad, e, hlt, fun j u hu => (hb.cell (q := ad.add (i * k + j)) (by rw [add_block]; omega) (by rw [add_block]; exact hne ad e)).trans (h0 j u hu)⟩
theorem at_text {w : World} {B : Nat} {A : Option Addr} {l : List (List UInt8)} (h : At sc 1 w B A l) (i : Nat) (hi : i < l.length) : ∃ ad : Addr, A = some ad ∧ ad.block < B ∧ w.cell? (ad.add i) = some (.string ⟨l[i].toArray⟩) := by
 obtain ⟨ad, e, hb, h0⟩ := h i hi
 refine ⟨ad, e, hb, ?_⟩
 have := h0 0 _ rfl
 rwa [Nat.mul_one, Nat.add_zero] at this
theorem texts_new (w : World) (l : List (List UInt8)) (t : TypeId) (o : Obj) (ho : o = .cells (l.map fun s => Value.string ⟨s.toArray⟩).toArray t) : At sc 1 (w.alloc o) (w.heap.size + 1) (some ⟨w.heap.size, 0, none⟩) l := by
 intro i hi
 refine ⟨⟨w.heap.size, 0, none⟩, rfl, by simp, fun j u hu => ?_⟩
 have hj : j = 0 := by
  have := (List.getElem?_eq_some_iff.1 hu).1
  rw [sc_length] at this
  omega
 subst hj
 cases hu
 subst ho
 rw [Nat.mul_one, Nat.add_zero]
 exact World.news_of_block (heap_alloc_new w _) i _ (by simp [hi])
theorem at_str {w : World} {B : Nat} {A : Option Addr} {l : List (List UInt8)} (h : At sc 1 w B A l) (i : Nat) (hi : i < l.length) :
  ∃ ad : Addr, A = some ad ∧ ad.block < B ∧ w.cell? (ad.add i) = some (.string ⟨l[i].toArray⟩) := by
 obtain ⟨ad, e, hb, hc⟩ := h i hi
 have := hc 0 _ rfl
 exact ⟨ad, e, hb, by simpa using this⟩
theorem same_texts (A B : Option Addr) (ca cb : Nat) (l : List (List UInt8)) (w : World) (ha : At sc 1 w w.heap.size A l) (hb : At sc 1 w w.heap.size B l) (hl : l.length ≤ 100000000) :
  Calls Tryz.prog 18 #[.slice A l.length ca, .slice B l.length cb] w fun e w' => e = .returned (.bool true) ∧ Below w.heap.size w w' := by
 have HA := hid ha
 have HB := hid hb
 clear ha hb
 go_enter Tryz.func18, Tryz.ntmps18
 go_wp2
 go_loopw [5] (fun t wr => ∃ i : Nat, i ≤ l.length ∧ t = .int .i64 i ∧ Below w.heap.size w wr) (fun t _ => l.length - (intOf t).toNat)
 case atStart => exact ⟨0, by omega, rfl, Below.refl _ _⟩
 case round =>
  obtain ⟨i, hi, rfl, hbel⟩ := hrel
  have HL := hid hbel
  have VA := hid (HA.out.below hbel)
  have VB := hid (HB.out.below hbel)
  clear hbel
  by_cases hil : i < l.length
  ·obtain ⟨ad, rfl, ga, c0⟩ := at_str VA.out i hil
   obtain ⟨bd, rfl, gb, d0⟩ := at_str VB.out i hil
   obtain ⟨T, hT⟩ : ∃ T : ByteArray, ⟨l[i].toArray⟩ = T := ⟨_, rfl⟩
   rw [hT] at c0 d0
   clear hT
   go_wp2
   go_quiet (fail)
   go_wp2
   go_roundw
   case rel => exact ⟨i + 1, by omega, by go_num, drewN_below HL.out _⟩
   case measure => simp [intOf]; omega
  ·obtain rfl : i = l.length := by omega
   go_wp2
   go_ret
   exact ⟨rfl, HL.out⟩
end Go.Proofs.YtjbpkpfmgbhlpaaGreatDoor.Code
