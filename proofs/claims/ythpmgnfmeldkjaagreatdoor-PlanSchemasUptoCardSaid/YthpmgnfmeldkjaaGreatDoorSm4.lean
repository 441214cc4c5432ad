/-
  Contracts of lex's Words and of the document's.
-/
import Derived.Test.YthpmgnfmeldkjaaGreatDoorSm2
import Derived.Test.YthpmgnfmeldkjaaGreatDoorSm3
import Derived.Deep.AppendLies
set_option maxRecDepth 100000
set_option maxHeartbeats 16000000
set_option linter.unusedVariables false
set_option linter.unusedSimpArgs false
open Go.Lib (hid)
namespace Go.Proofs.YthpmgnfmeldkjaaGreatDoor.Code
open Go.ChangeShapes Go.WideShapes Go.ChangeAt Go.RowKit Val Elems
theorem info_word : (Tryz.prog.info? 190).map (fun i => (i.zero, i.size, i.bytes)) = some (some (.agg #[.int .i64 0, .string ByteArray.empty, .int .i64 0]), 3, 32) := by kernel_rfl
theorem roww_new (w : World) (o : Obj) (k n : Int) (t : ByteArray) (ty : TypeId) : ∀ (j : Nat) (u : Value), ([.int .i64 k, .string t, .int .i64 n] : List Value)[j]? = some u → ((w.alloc o).alloc (.cells #[.int .i64 k, .string t, .int .i64 n] ty)).cell? ((⟨w.heap.size + 1, 0, none⟩ : Addr).add j) = some u := by
 have h := heap_alloc_new (w.alloc o) (.cells #[.int .i64 k, .string t, .int .i64 n] ty)
 rw [show (w.alloc o).heap.size = w.heap.size + 1 by simp] at h
 exact World.news_of_block h
theorem words_any (s : ByteArray) (m : Int) (w : World) (hs : s.size ≤ 4194304) (hm : w.cell? ⟨0, 0, none⟩ = some (.int .i64 m)) :
  Calls Tryz.prog 161 #[.string s] w (WordsPost w s.data.toList) := by
 have hlt : 0 < w.heap.size := World.block_lt_of_cell? _ _ hm
 have HM := hid hm
 clear hm
 obtain ⟨i0, hi0, hz0, hz1, hz2⟩ := info_parts info_word
 go_enter Tryz.func161, Tryz.ntmps161
 go_wp2
 go_loopw [5, 6] (fun v t wr => ∃ (i : Nat) (a : List W), i ≤ s.size ∧ t = .int .i64 i ∧ Hid (WAt s.data.toList i a) ∧ a.length ≤ i ∧ wr.ownsRow w.heap.size 190 3 v a.length (flatC wc a) ∧ Below w.heap.size w wr) (fun _ t _ => s.size - (intOf t).toNat)
 case atStart => exact ⟨0, [], by omega, rfl, hid (WAt.start _), by simp, World.ownsRow_nil _ _ _ _, Below.refl _ _⟩
 case round =>
  obtain ⟨i, a, hi, rfl, HK, hai, hown, hbel⟩ := hrel
  have hsz := hbel.size
  have HO := hid hown
  have HL := hid hbel
  clear hown hbel
  by_cases hil : i < s.size
  ·obtain ⟨c, hc⟩ : ∃ c, s[i] = c := ⟨_, rfl⟩
   have hg := (list_get s i hil hil).trans hc
   obtain ⟨b, hb⟩ : ∃ b, blankB c = b := ⟨_, rfl⟩
   have HB := hid (fun w => (blank_any c w).mono (R' := fun e w' => e = .returned (.bool b) ∧ w = w') (by rintro e w' ⟨h1, h2⟩; exact ⟨by rw [h1, hb], h2⟩))
   cases b
   ·obtain ⟨S, hS⟩ : ∃ S, s.extract i s.size = S := ⟨_, rfl⟩
    have hsl := cut_from s i i rfl hi
    rw [hS] at hsl
    have hSl : S.data.toList = s.data.toList.drop i := by rw [← hS]; exact from_list s i
    have hSs : S.size = s.size - i := by rw [size_list, hSl, List.length_drop, ← size_list]
    have HSL := hid hSl
    have HG := hid hg
    clear hS hSl hg
    go_wp2_with fail
    refine (HB.out _).mono ?_
    rintro e w1 ⟨rfl, rfl⟩
    go_wp2_with fail
    refine (first_any S m _ (by omega) (by omega) (by rw [HL.out.cell (p := ⟨0, 0, none⟩) hlt]; exact HM.out)).mono ?_
    rintro e w1 ⟨⟨k, t, n, rfl, hcase⟩, hb1⟩
    rw [HSL.out] at hcase
    have L1 := hid (bnext HL.out hsz hb1)
    have O1 := hid (own_call HO.out hb1)
    have hzw := L1.out.size
    clear hb1
    rcases hcase with ⟨hno, rfl⟩ | hyes
    ·have HD := hid (HK.out.none hil (by rw [HG.out]; exact hb) hno)
     clear hno
     go_wp2
     go_ret3
     exact words_no HD.out (L1.out.alloc hzw _)
    ·have hn := first_n hyes
     have hcz : ((n : Int) == 0) = false := by simp; omega
     have hni : i + n ≤ s.size := by have := hn.2; rw [List.length_drop, ← size_list] at this; omega
     have HD := hid (HK.out.one hil hyes)
     have HW := hid (show wc (k, t.data.toList, (i : Int)) = [.int .i64 k, .string t, .int .i64 (i : Int)] by unfold wc; rw [Lib.mk_data])
     have hn1 := hn.1
     clear hyes hn
     go_wp2_with (at_builtin; refine wpList_append_own _ rfl _ _ 185 rfl w.heap.size 190 i0 (.agg #[.int .i64 0, .string ByteArray.empty, .int .i64 0]) 3 32 Tryz.underlying185 hi0 hz0 hz1 hz2 rfl (by decide) _ _ _ rfl ((O1.out.alloc _).alloc _) ⟨w1.heap.size + 1, 0, none⟩ 1 1 [.int .i64 k, .string t, .int .i64 (i : Int)] rfl rfl ?c1 ?c2 ?c3 ?c4 ?c5 ?_)
     case c1 => exact roww_new _ _ _ _ _ _
     case c2 => rw [← HW.out]; exact wc_one _
     case c3 => unfold maxLen; omega
     case c4 => omega
     case c5 => simp; omega
     intro v' w2 hown' hgrow _
     have O2 := hid (show w2.ownsRow w.heap.size 190 3 v' (a ++ [(k, t.data.toList, (i : Int))]).length (flatC wc (a ++ [(k, t.data.toList, (i : Int))])) by rw [flatC_snoc, List.length_append, HW.out]; exact hown')
     have L2 := hid (((L1.out.alloc hzw _).alloc (by simp; omega) _).grown hgrow (by simp; omega) (fun g hg => (O1.out.lt g hg).1))
     clear hown' hgrow
     go_wp2
     go_roundw
     case rel => exact ⟨i + n, a ++ [(k, t.data.toList, (i : Int))], by omega, by go_num, HD, by rw [List.length_append]; simp; omega, O2.out, L2.out⟩
     case measure => simp [intOf]; omega
   ·have HD := hid (HK.out.blank hil (by rw [hg]; exact hb))
    clear hg
    go_wp2_with fail
    refine (HB.out _).mono ?_
    rintro e w1 ⟨rfl, rfl⟩
    go_wp2
    go_roundw
    case rel => exact ⟨i + 1, a, by omega, by go_num, HD, by omega, HO.out, HL.out⟩
    case measure => simp [intOf]; omega
  ·have HD := hid (HK.out.done (by rw [← size_list]; omega))
   go_wp2
   go_ret3
   exact words_yes HD.out HO.out HL.out
theorem info_rword : (Tryz.prog.info? 116).map (fun i => (i.zero, i.size, i.bytes)) = some (some (.agg #[.int .i64 0, .string ByteArray.empty, .int .i64 0]), 3, 32) := by kernel_rfl
theorem blank_yes {c : UInt8} (h : blankB c = true) : c = 32 ∨ c = 9 ∨ c = 10 := by
 unfold blankB at h
 simp only [Bool.or_eq_true, decide_eq_true_eq] at h
 rcases h with (h | h) | h
 ·exact .inl (UInt8.toNat_inj.1 h)
 ·exact .inr (.inl (UInt8.toNat_inj.1 h))
 ·exact .inr (.inr (UInt8.toNat_inj.1 h))
theorem blank_no {c : UInt8} (h : blankB c = false) : ((c.toNat : Int) == 32) = false ∧ ((c.toNat : Int) == 9) = false ∧ ((c.toNat : Int) == 10) = false := by
 unfold blankB at h
 simp only [Bool.or_eq_false_iff, decide_eq_false_iff_not] at h
 obtain ⟨⟨h1, h2⟩, h3⟩ := h
 refine ⟨?_, ?_, ?_⟩ <;> (simp; omega)
theorem rwords_any (s : ByteArray) (w : World) (hs : s.size ≤ 4194304) :
  Calls Tryz.prog 40 #[.string s] w (WordsPost w s.data.toList) := by
 obtain ⟨i0, hi0, hz0, hz1, hz2⟩ := info_parts info_rword
 go_enter Tryz.func40, Tryz.ntmps40
 go_wp2
 go_loopw [5, 6] (fun v t wr => ∃ (i : Nat) (a : List W), i ≤ s.size ∧ t = .int .i64 i ∧ Hid (WAt s.data.toList i a) ∧ a.length ≤ i ∧ wr.ownsRow w.heap.size 116 3 v a.length (flatC wc a) ∧ Below w.heap.size w wr) (fun _ t _ => s.size - (intOf t).toNat)
 case atStart => exact ⟨0, [], by omega, rfl, hid (WAt.start _), by simp, World.ownsRow_nil _ _ _ _, Below.refl _ _⟩
 case round =>
  obtain ⟨i, a, hi, rfl, HK, hai, hown, hbel⟩ := hrel
  have hsz := hbel.size
  have HO := hid hown
  have HL := hid hbel
  clear hown hbel
  by_cases hil : i < s.size
  ·obtain ⟨c, hc⟩ : ∃ c, s[i] = c := ⟨_, rfl⟩
   have hg := (list_get s i hil hil).trans hc
   obtain ⟨b, hb⟩ : ∃ b, blankB c = b := ⟨_, rfl⟩
   cases b
   ·obtain ⟨S, hS⟩ : ∃ S, s.extract i s.size = S := ⟨_, rfl⟩
    have hsl := cut_from s i i rfl hi
    rw [hS] at hsl
    have hSl : S.data.toList = s.data.toList.drop i := by rw [← hS]; exact from_list s i
    have hSs : S.size = s.size - i := by rw [size_list, hSl, List.length_drop, ← size_list]
    have HSL := hid hSl
    have HG := hid hg
    clear hS hSl hg
    obtain ⟨j32, j9, j10⟩ := blank_no hb
    go_wp2_with fail
    refine (one8_any S _ (by omega) (by omega)).mono ?_
    rintro e w1 ⟨⟨k, t, n, rfl, hcase⟩, hb1⟩
    rw [HSL.out] at hcase
    have L1 := hid (bnext HL.out hsz hb1)
    have O1 := hid (own_call HO.out hb1)
    have hzw := L1.out.size
    clear hb1
    rcases hcase with ⟨hno, rfl⟩ | hyes
    ·have HD := hid (HK.out.none hil (by rw [HG.out]; exact hb) hno)
     clear hno
     go_wp2
     go_ret3
     exact words_no HD.out (L1.out.alloc hzw _)
    ·have hn := first_n hyes
     have hcz : ((n : Int) == 0) = false := by simp; omega
     have hni : i + n ≤ s.size := by have := hn.2; rw [List.length_drop, ← size_list] at this; omega
     have HD := hid (HK.out.one hil hyes)
     have HW := hid (show wc (k, t.data.toList, (i : Int)) = [.int .i64 k, .string t, .int .i64 (i : Int)] by unfold wc; rw [Lib.mk_data])
     have hn1 := hn.1
     clear hyes hn
     go_wp2_with (at_builtin; refine wpList_append_own _ rfl _ _ 83 rfl w.heap.size 116 i0 (.agg #[.int .i64 0, .string ByteArray.empty, .int .i64 0]) 3 32 Tryz.underlying83 hi0 hz0 hz1 hz2 rfl (by decide) _ _ _ rfl ((O1.out.alloc _).alloc _) ⟨w1.heap.size + 1, 0, none⟩ 1 1 [.int .i64 k, .string t, .int .i64 (i : Int)] rfl rfl ?c1 ?c2 ?c3 ?c4 ?c5 ?_)
     case c1 => exact roww_new _ _ _ _ _ _
     case c2 => rw [← HW.out]; exact wc_one _
     case c3 => unfold maxLen; omega
     case c4 => omega
     case c5 => simp; omega
     intro v' w2 hown' hgrow _
     have O2 := hid (show w2.ownsRow w.heap.size 116 3 v' (a ++ [(k, t.data.toList, (i : Int))]).length (flatC wc (a ++ [(k, t.data.toList, (i : Int))])) by rw [flatC_snoc, List.length_append, HW.out]; exact hown')
     have L2 := hid (((L1.out.alloc hzw _).alloc (by simp; omega) _).grown hgrow (by simp; omega) (fun g hg => (O1.out.lt g hg).1))
     clear hown' hgrow
     go_wp2
     go_roundw
     case rel => exact ⟨i + n, a ++ [(k, t.data.toList, (i : Int))], by omega, by go_num, HD, by rw [List.length_append]; simp; omega, O2.out, L2.out⟩
     case measure => simp [intOf]; omega
   ·have HD := hid (HK.out.blank hil (by rw [hg]; exact hb))
    clear hg
    rcases blank_yes hb with rfl | rfl | rfl
    ·go_wp2
     go_roundw
     case rel => exact ⟨i + 1, a, by omega, by go_num, HD, by omega, HO.out, HL.out⟩
     case measure => simp [intOf]; omega
    ·go_wp2
     go_roundw
     case rel => exact ⟨i + 1, a, by omega, by go_num, HD, by omega, HO.out, HL.out⟩
     case measure => simp [intOf]; omega
    ·go_wp2
     go_roundw
     case rel => exact ⟨i + 1, a, by omega, by go_num, HD, by omega, HO.out, HL.out⟩
     case measure => simp [intOf]; omega
  ·have HD := hid (HK.out.done (by rw [← size_list]; omega))
   go_wp2
   go_ret3
   exact words_yes HD.out HO.out HL.out
theorem at_word {w : World} {B : Nat} {A : Option Addr} {l : List W} (h : At wc 3 w B A l) (i : Nat) (hi : i < l.length) :
  ∃ ad : Addr, A = some ad ∧ ad.block < B ∧ w.cell? (ad.add (i * 3)) = some (.int .i64 l[i].1) ∧ w.cell? ⟨(ad.add (i * 3)).block, (ad.add (i * 3)).off + 1, none⟩ = some (.string ⟨l[i].2.1.toArray⟩) ∧ w.cell? ⟨(ad.add (i * 3)).block, (ad.add (i * 3)).off + 2, none⟩ = some (.int .i64 l[i].2.2) := by
 obtain ⟨ad, e, hb, h0⟩ := h i hi
 refine ⟨ad, e, hb, h0 0 _ rfl, ?_, ?_⟩
 ·rw [← add_next]; exact h0 1 _ rfl
 ·rw [← add_next]; exact h0 2 _ rfl
def ownB (s : List UInt8) : Bool := s == [116, 114, 117, 101] || (s == [102, 97, 108, 115, 101] || (s == [110, 117, 108, 108] || (s == [97, 110, 100] || (s == [111, 114] || (s == [110, 111, 116] || s == [105, 115])))))
theorem own_any (s : ByteArray) (w : World) :
  Calls Tryz.prog 160 #[.string s] w fun e w' => e = .returned (.bool (ownB s.toList)) ∧ w = w' := by
 obtain ⟨b1, h1⟩ : ∃ b, (s.toList == [116, 114, 117, 101]) = b := ⟨_, rfl⟩
 obtain ⟨b2, h2⟩ : ∃ b, (s.toList == [102, 97, 108, 115, 101]) = b := ⟨_, rfl⟩
 obtain ⟨b3, h3⟩ : ∃ b, (s.toList == [110, 117, 108, 108]) = b := ⟨_, rfl⟩
 obtain ⟨b4, h4⟩ : ∃ b, (s.toList == [97, 110, 100]) = b := ⟨_, rfl⟩
 obtain ⟨b5, h5⟩ : ∃ b, (s.toList == [111, 114]) = b := ⟨_, rfl⟩
 obtain ⟨b6, h6⟩ : ∃ b, (s.toList == [110, 111, 116]) = b := ⟨_, rfl⟩
 obtain ⟨b7, h7⟩ : ∃ b, (s.toList == [105, 115]) = b := ⟨_, rfl⟩
 have HX := hid (show ownB s.toList = (b1 || (b2 || (b3 || (b4 || (b5 || (b6 || b7)))))) by unfold ownB; rw [h1, h2, h3, h4, h5, h6, h7])
 rw [HX.out]
 clear HX
 cases b1
 ·cases b2
  ·cases b3
   ·cases b4
    ·cases b5
     ·cases b6
      ·cases b7
       all_goals (go_enter Tryz.func160, Tryz.ntmps160; go_wp2; go_ret; exact ⟨rfl, rfl⟩)
      ·(go_enter Tryz.func160, Tryz.ntmps160; go_wp2; go_ret; exact ⟨rfl, rfl⟩)
     ·(go_enter Tryz.func160, Tryz.ntmps160; go_wp2; go_ret; exact ⟨rfl, rfl⟩)
    ·(go_enter Tryz.func160, Tryz.ntmps160; go_wp2; go_ret; exact ⟨rfl, rfl⟩)
   ·(go_enter Tryz.func160, Tryz.ntmps160; go_wp2; go_ret; exact ⟨rfl, rfl⟩)
  ·(go_enter Tryz.func160, Tryz.ntmps160; go_wp2; go_ret; exact ⟨rfl, rfl⟩)
 ·(go_enter Tryz.func160, Tryz.ntmps160; go_wp2; go_ret; exact ⟨rfl, rfl⟩)
theorem rown_any (s : ByteArray) (w : World) :
  Calls Tryz.prog 113 #[.string s] w fun e w' => e = .returned (.bool (ownB s.toList)) ∧ w = w' := by
 obtain ⟨b1, h1⟩ : ∃ b, (s.toList == [116, 114, 117, 101]) = b := ⟨_, rfl⟩
 obtain ⟨b2, h2⟩ : ∃ b, (s.toList == [102, 97, 108, 115, 101]) = b := ⟨_, rfl⟩
 obtain ⟨b3, h3⟩ : ∃ b, (s.toList == [110, 117, 108, 108]) = b := ⟨_, rfl⟩
 obtain ⟨b4, h4⟩ : ∃ b, (s.toList == [97, 110, 100]) = b := ⟨_, rfl⟩
 obtain ⟨b5, h5⟩ : ∃ b, (s.toList == [111, 114]) = b := ⟨_, rfl⟩
 obtain ⟨b6, h6⟩ : ∃ b, (s.toList == [110, 111, 116]) = b := ⟨_, rfl⟩
 obtain ⟨b7, h7⟩ : ∃ b, (s.toList == [105, 115]) = b := ⟨_, rfl⟩
 have HX := hid (show ownB s.toList = (b1 || (b2 || (b3 || (b4 || (b5 || (b6 || b7)))))) by unfold ownB; rw [h1, h2, h3, h4, h5, h6, h7])
 rw [HX.out]
 clear HX
 cases b1
 ·cases b2
  ·cases b3
   ·cases b4
    ·cases b5
     ·cases b6
      ·cases b7
       all_goals (go_enter Tryz.func113, Tryz.ntmps113; go_wp2; go_ret; exact ⟨rfl, rfl⟩)
      ·(go_enter Tryz.func113, Tryz.ntmps113; go_wp2; go_ret; exact ⟨rfl, rfl⟩)
     ·(go_enter Tryz.func113, Tryz.ntmps113; go_wp2; go_ret; exact ⟨rfl, rfl⟩)
    ·(go_enter Tryz.func113, Tryz.ntmps113; go_wp2; go_ret; exact ⟨rfl, rfl⟩)
   ·(go_enter Tryz.func113, Tryz.ntmps113; go_wp2; go_ret; exact ⟨rfl, rfl⟩)
  ·(go_enter Tryz.func113, Tryz.ntmps113; go_wp2; go_ret; exact ⟨rfl, rfl⟩)
 ·(go_enter Tryz.func113, Tryz.ntmps113; go_wp2; go_ret; exact ⟨rfl, rfl⟩)
theorem own_list (s : ByteArray) : ownB s.toList = ownL s.data.toList := by
 rw [ByteArray.toList_eq]
 rfl
theorem isW_at {l : List W} {i : Nat} (h : i < l.length) (b : Bool) (s : List UInt8) : isW (bare l) i b s = (!b && l[i].2.1 == s && (l[i].1 == 3 || ownL s && l[i].1 == 0)) := by
 unfold isW
 rw [bare_get h]
theorem isW_off {l : List W} {i : Nat} (h : ¬ i < l.length) (b : Bool) (s : List UInt8) : isW (bare l) i b s = false := by
 unfold isW
 rw [bare_none h]
theorem isK_at {l : List W} {i : Nat} (h : i < l.length) (b : Bool) (k : Int) : isK (bare l) i b k = (!b && l[i].1 == k) := by
 unfold isK
 rw [bare_get h]
theorem isK_off {l : List W} {i : Nat} (h : ¬ i < l.length) (b : Bool) (k : Int) : isK (bare l) i b k = false := by
 unfold isK
 rw [bare_none h]
theorem isW_bad {L : List V} {i : Nat} (s : List UInt8) : isW L i true s = false := by
 unfold isW
 split <;> rfl
theorem isK_bad {L : List V} {i : Nat} (k : Int) : isK L i true k = false := by
 unfold isK
 split <;> rfl
theorem ris_any (r : Nat) (A : Option Addr) (cap : Nat) (l : List W) (i : Nat) (b : Bool) (s : ByteArray) (w : World) (h : Rdr w r A cap l i b) (hi : i ≤ l.length) (hl : l.length ≤ 4194304) :
  Calls Tryz.prog 201 #[.pointer (some ⟨r, 0, none⟩), .string s] w fun e w' => e = .returned (.bool (isW (bare l) i b s.data.toList)) ∧ Below w.heap.size w w' := by
 have HW := hid h.ws
 obtain ⟨c0, c1, c2, -, -⟩ := h
 cases b
 ·by_cases hil : i < l.length
  ·have hx := isW_at hil false s.data.toList
   obtain ⟨ad, rfl, ha, d0, d1, d2⟩ := at_word HW.out i hil
   obtain ⟨x, hxx⟩ : ∃ x, l[i] = x := ⟨_, rfl⟩
   rw [hxx] at d0 d1 d2 hx
   obtain ⟨k, t, p⟩ := x
   dsimp only at d0 d1 d2 hx
   obtain ⟨T, hT⟩ : ∃ T : ByteArray, ⟨t.toArray⟩ = T := ⟨_, rfl⟩
   have hTt : t = T.data.toList := by rw [← hT]
   rw [hT] at d1
   clear hxx hT d2
   by_cases hts : T = s
   ·subst hts
    obtain ⟨ow, how⟩ : ∃ ow, ownL T.data.toList = ow := ⟨_, rfl⟩
    have HO := hid (fun w => rown_any T w)
    rw [own_list, how] at HO
    rw [hTt, how] at hx
    have hx2 : isW (bare l) i false T.data.toList = (k == 3 || ow && k == 0) := by rw [hx]; simp
    rw [hx2]
    clear hx hx2 hTt how
    cases hk3 : k == 3
    ·cases ow
     ·go_enter Tryz.func201, Tryz.ntmps201
      go_wp2
      go_quiet (fail)
      go_wp2_with fail
      refine (HO.out _).mono ?_
      rintro e w1 ⟨rfl, rfl⟩
      go_wp2
      go_quiet (fail)
      go_wp2
      go_ret
      exact ⟨rfl, drewN_below (drewN_below (Below.refl _ _) _) _⟩
     ·go_enter Tryz.func201, Tryz.ntmps201
      go_wp2
      go_quiet (fail)
      go_wp2_with fail
      refine (HO.out _).mono ?_
      rintro e w1 ⟨rfl, rfl⟩
      go_wp2
      go_quiet (fail)
      go_wp2
      go_ret
      exact ⟨retB (by simp), drewN_below (drewN_below (Below.refl _ _) _) _⟩
    ·go_enter Tryz.func201, Tryz.ntmps201
     go_wp2
     go_quiet (fail)
     go_wp2_with fail
     refine (HO.out _).mono ?_
     rintro e w1 ⟨rfl, rfl⟩
     go_wp2
     go_quiet (fail)
     go_wp2
     go_ret
     exact ⟨rfl, drewN_below (drewN_below (Below.refl _ _) _) _⟩
   ·have f2 := toList_ne hts
    have hne : ¬ t = s.data.toList := by
     intro e
     rw [hTt] at e
     exact hts (by rw [← Lib.mk_data T, e, Lib.mk_data])
    have hx2 : isW (bare l) i false s.data.toList = false := by rw [hx]; simp [hne]
    rw [hx2]
    clear hx hx2 hTt hts hne
    go_enter Tryz.func201, Tryz.ntmps201
    go_wp2
    go_quiet (fail)
    go_wp2
    go_ret
    exact ⟨rfl, drewN_below (Below.refl _ _) _⟩
  ·rw [isW_off hil]
   have e0 : decide ((l.length : Int) ≤ (i : Int)) = true := by simp; omega
   have e1 : decide (l.length ≤ i) = true := by simp; omega
   have e2 : decide ((i : Int) < 0) = false := by simp
   clear hil
   go_enter Tryz.func201, Tryz.ntmps201
   go_wp2
   refine wp_region_quiet_lit (by kernel_rfl) (by kernel_rfl) ?_
   repeat (with_reducible refine wpQuiet_step ?_; intro K hK; go_simp; with_reducible refine hK _ ?_; clear hK K)
   refine wpQuiet_nil ?_
   intro _ hw'
   obtain ⟨nq, hw''⟩ := hw'
   subst hw''
   go_wp2
   go_ret
   exact ⟨rfl, drewN_below (Below.refl _ _) _⟩
 ·rw [isW_bad]
  go_enter Tryz.func201, Tryz.ntmps201
  go_wp2
  refine wp_region_quiet_lit (by kernel_rfl) (by kernel_rfl) ?_
  repeat (with_reducible refine wpQuiet_step ?_; intro K hK; go_simp; with_reducible refine hK _ ?_; clear hK K)
  refine wpQuiet_nil ?_
  intro _ hw'
  obtain ⟨nq, hw''⟩ := hw'
  subst hw''
  go_wp2
  go_ret
  exact ⟨rfl, drewN_below (Below.refl _ _) _⟩
theorem isW_len {l : List W} {i : Nat} {b : Bool} {s : List UInt8} (h : isW (bare l) i b s = true) : i < l.length := by
 have := isW_lt h
 rwa [bare_length] at this
theorem rtake_any (r : Nat) (A : Option Addr) (cap : Nat) (l : List W) (i : Nat) (b : Bool) (s : ByteArray) (q : Bool) (hq : isW (bare l) i b s.data.toList = q) (w : World) (h : Rdr w r A cap l i b) (hi : i ≤ l.length) (hl : l.length ≤ 4194304) :
  Calls Tryz.prog 180 #[.pointer (some ⟨r, 0, none⟩), .string s] w fun e w' => e = .returned (.bool q) ∧ But w w' r ∧ Rdr w' r A cap l (if q = true then i + 1 else i) b := by
 have HI := hid (ris_any r A cap l i b s w h hi hl)
 rw [hq] at HI
 have HR := hid h
 clear h
 cases q
 ·go_enter Tryz.func180, Tryz.ntmps180
  go_wp2_with fail
  refine HI.out.mono ?_
  rintro e w1 ⟨rfl, hb1⟩
  have R1 := hid (HR.out.below hb1)
  have B1 := hid (But.of hb1 r)
  clear hb1
  go_wp2
  go_ret
  exact ⟨rfl, B1.out, R1.out⟩
 ·have hil := isW_len hq
  clear hq
  go_enter Tryz.func180, Tryz.ntmps180
  go_wp2_with fail
  refine HI.out.mono ?_
  rintro e w1 ⟨rfl, hb1⟩
  have R1 := hid (HR.out.below hb1)
  have B1 := hid (But.of hb1 r)
  have c1 := R1.out.c1
  have fr := R1.out.fr 1
  clear hb1
  go_wp2
  go_ret
  refine ⟨rfl, B1.out.setCell 1 _, ?_⟩
  have := R1.out.at (i + 1)
  rw [Int.natCast_add] at this
  exact this
theorem rmust_any (r : Nat) (A : Option Addr) (cap : Nat) (l : List W) (i : Nat) (b : Bool) (s : ByteArray) (q : Bool) (hq : isW (bare l) i b s.data.toList = q) (w : World) (h : Rdr w r A cap l i b) (hi : i ≤ l.length) (hl : l.length ≤ 4194304) :
  Calls Tryz.prog 145 #[.pointer (some ⟨r, 0, none⟩), .string s] w fun e w' => e = .returned (.tuple #[]) ∧ But w w' r ∧ Rdr w' r A cap l (if q = true then i + 1 else i) (if q = true then b else true) := by
 have HI := hid (rtake_any r A cap l i b s q hq w h hi hl)
 clear h
 cases q
 ·go_enter Tryz.func145, Tryz.ntmps145
  go_wp2_with fail
  refine HI.out.mono ?_
  rintro e w1 ⟨rfl, hb1, hr1⟩
  have R1 := hid hr1
  have B1 := hid hb1
  have c2 := R1.out.c2
  have fr := R1.out.fr 2
  clear hb1 hr1
  go_wp2
  go_end0
  exact ⟨rfl, B1.out.setCell 2 _, R1.out.wrong⟩
 ·go_enter Tryz.func145, Tryz.ntmps145
  go_wp2_with fail
  refine HI.out.mono ?_
  rintro e w1 ⟨rfl, hb1, hr1⟩
  have R1 := hid hr1
  have B1 := hid hb1
  clear hb1 hr1
  go_wp2
  go_end0
  exact ⟨rfl, B1.out, R1.out⟩
end Go.Proofs.YthpmgnfmeldkjaaGreatDoor.Code
/-
  Contracts of the document's Figures below 0, and of its Show of one value.
-/
namespace Go.Proofs.YthpmgnfmeldkjaaGreatDoor.Code
open Go.ChangeShapes Go.WideShapes Go.ChangeAt Go.RowKit Val
theorem figures_neg : ∀ (N u : Nat), u < N → 1 ≤ u → u ≤ 9223372036854775808 → ∀ w : World,
  Calls Tryz.prog 127 #[.int .i64 (-(u : Int))] w fun e w' => e = .returned (.string ⟨(45 :: Lib.decDigits u).toArray⟩) ∧ Below w.heap.size w w'
 | 0, u, h, _, _, _ => absurd h (Nat.not_lt_zero u)
 | N + 1, u, h, h1, hu, w => by
  by_cases h10 : u < 10
  ·have HP := hid (figures_pos (u + 1) u (by omega) (by omega))
   have hL : (Lib.decDigits u).length ≤ 21 := by have := Lib.itoa_length_le (u : Nat) (by omega) (by omega); rwa [itoa_pos] at this
   go_enter Tryz.func127, Tryz.ntmps127
   go_wp2_with fail
   refine (HP.out _).mono ?_
   rintro e w1 ⟨rfl, hb1⟩
   have L1 := hid hb1
   clear hb1
   go_wp2
   go_ret
   exact ⟨retS (strCat [45] _), L1.out⟩
  ·have IH := hid (figures_neg N (u / 10) (by omega) (by omega) (by omega))
   have HS2 := hid (dec_big u (by omega))
   have hL := Lib.itoa_length_le (u / 10 : Nat) (by omega) (by omega)
   rw [itoa_pos] at hL
   obtain ⟨q, hq⟩ : ∃ q, u / 10 = q := ⟨_, rfl⟩
   obtain ⟨r, hr⟩ : ∃ r, u % 10 = r := ⟨_, rfl⟩
   have hr10 : r < 10 := by omega
   have hq2 : q ≤ 922337203685477580 := by omega
   have eq1 : (-(u : Int)).tdiv 10 = -(q : Int) := by rw [Int.neg_tdiv, Int.tdiv_eq_ediv_of_nonneg (by omega)]; omega
   have eq2 : (-(u : Int)).tmod 10 = -(r : Int) := by rw [Int.neg_tmod, Int.tmod_eq_emod_of_nonneg (by omega)]; omega
   have eq3 : (u : Int).tdiv 10 = (q : Int) := by rw [Int.tdiv_eq_ediv_of_nonneg (by omega)]; omega
   have eq4 : (u : Int).tmod 10 = (r : Int) := by rw [Int.tmod_eq_emod_of_nonneg (by omega)]; omega
   have hsl := cut_at ⟨#[48, 49, 50, 51, 52, 53, 54, 55, 56, 57]⟩ r (r + 1) r (r + 1) rfl (by omega) (by omega) (by show r + 1 ≤ 10; omega)
   obtain ⟨d, hd⟩ : ∃ d, UInt8.ofNat (48 + r) = d := ⟨_, rfl⟩
   rw [dig_at r hr10, hd] at hsl
   rw [hq] at IH HS2 hL
   rw [hr, hd] at HS2
   obtain ⟨T, hT⟩ : ∃ T : ByteArray, T = ⟨(45 :: Lib.decDigits q).toArray⟩ := ⟨_, rfl⟩
   have hTs : T.size ≤ 22 := by rw [hT, size_list]; simp; omega
   have hadd := fun w => run_string_add_sum (P := Tryz.prog) w T ⟨#[d]⟩ (by show T.size + 1 ≤ _; omega)
   have hT3 : ¬ (9223372036854775807 ≤ T.size) := by omega
   rw [← hT] at IH
   have HT := hid hT
   clear hT hL
   have w0 : IntKind.i64.wrap (-(q : Int)) = -(q : Int) := by rw [IntKind.wrap_i64]; omega
   have w1 : IntKind.i64.wrap (-(r : Int)) = -(r : Int) := by rw [IntKind.wrap_i64]; omega
   have w2 : IntKind.i64.wrap (r : Int) = (r : Int) := by rw [IntKind.wrap_i64]; omega
   have w3 : IntKind.i64.wrap ((r : Int) + 1) = (r : Int) + 1 := by rw [IntKind.wrap_i64]; omega
   clear hq hr hd
   go_enter Tryz.func127, Tryz.ntmps127
   go_wp2_with fail
   go_region_held3 (fun w' => True ∧ Below w.heap.size w w')
    (first | assumption | (refine keepP hb5 (by assumption) ?_; intro kk; trivial) | (exact ⟨trivial, Below.drew (Below.refl _ _)⟩))
    (first | (go_at_call 127; refine (IH.out _).mono ?_; rintro e w5 ⟨rfl, hb5⟩))
   all_goals
    have M1 := hid (show Below w.heap.size w _ by rename_i hS; exact hS.2)
    go_wp2
    go_ret
    exact ⟨retS (by rw [HS2.out, HT.out]; exact strCat (45 :: Lib.decDigits q) [d]), M1.out⟩
theorem figures_any (n : Int) (hn : fits n) (w : World) :
  Calls Tryz.prog 127 #[.int .i64 n] w fun e w' => e = .returned (.string ⟨(Lib.itoa n).toArray⟩) ∧ Below w.heap.size w w' := by
 unfold fits at hn
 by_cases h : 0 ≤ n
 ·obtain ⟨u, rfl⟩ : ∃ u : Nat, n = u := ⟨n.toNat, by omega⟩
  rw [itoa_pos]
  exact figures_pos (u + 1) u (by omega) (by omega) w
 ·obtain ⟨u, rfl⟩ : ∃ u : Nat, n = -(u : Int) := ⟨n.natAbs, by omega⟩
  rw [Lib.itoa_neg u (by omega)]
  exact figures_neg (u + 1) u (by omega) (by omega) (by omega) w
open Elems
def sc (s : List UInt8) : List Value := [.string ⟨s.toArray⟩]
theorem sc_length (s : List UInt8) : (sc s).length = 1 := rfl
theorem at_but {α : Type} {c : α → List Value} {k : Nat} {w w' : World} {r B : Nat} {A : Option Addr} {l : List α} (h : At c k w B A l) (hb : But w w' r) (hB : B ≤ w.heap.size) (hne : ∀ ad, A = some ad → ad.block ≠ r) : At c k w' B A l := by
 intro i hi
 obtain ⟨ad, e, hlt, h0⟩ := h i hi
 exact ⟨ad, e, hlt, fun j u hu => (hb.cell (q := ad.add (i * k + j)) (by rw [add_block]; omega) (by rw [add_block]; exact hne ad e)).trans (h0 j u hu)⟩
theorem at_text {w : World} {B : Nat} {A : Option Addr} {l : List (List UInt8)} (h : At sc 1 w B A l) (i : Nat) (hi : i < l.length) : ∃ ad : Addr, A = some ad ∧ ad.block < B ∧ w.cell? (ad.add i) = some (.string ⟨l[i].toArray⟩) := by
 obtain ⟨ad, e, hb, h0⟩ := h i hi
 refine ⟨ad, e, hb, ?_⟩
 have := h0 0 _ rfl
 rwa [Nat.mul_one, Nat.add_zero] at this
theorem texts_new (w : World) (l : List (List UInt8)) (t : TypeId) (o : Obj) (ho : o = .cells (l.map fun s => Value.string ⟨s.toArray⟩).toArray t) : At sc 1 (w.alloc o) (w.heap.size + 1) (some ⟨w.heap.size, 0, none⟩) l := by
 intro i hi
 refine ⟨⟨w.heap.size, 0, none⟩, rfl, by simp, fun j u hu => ?_⟩
 have hj : j = 0 := by
  have := (List.getElem?_eq_some_iff.1 hu).1
  rw [sc_length] at this
  omega
 subst hj
 cases hu
 subst ho
 rw [Nat.mul_one, Nat.add_zero]
 exact World.news_of_block (heap_alloc_new w _) i _ (by simp [hi])
theorem isK_len {l : List W} {i : Nat} {b : Bool} {k : Int} (h : isK (bare l) i b k = true) : i < l.length := by
 have := (isK_lt h).1
 rwa [bare_length] at this
theorem rkind_any (r : Nat) (A : Option Addr) (cap : Nat) (l : List W) (i : Nat) (b : Bool) (k : Int) (w : World) (h : Rdr w r A cap l i b) (hi : i ≤ l.length) (hl : l.length ≤ 4194304) :
  Calls Tryz.prog 179 #[.pointer (some ⟨r, 0, none⟩), .int .i64 k] w fun e w' => e = .returned (.bool (isK (bare l) i b k)) ∧ Below w.heap.size w w' := by
 have HW := hid h.ws
 obtain ⟨c0, c1, c2, -, -⟩ := h
 cases b
 ·by_cases hil : i < l.length
  ·have hx := isK_at hil false k
   obtain ⟨ad, rfl, ha, d0, d1, d2⟩ := at_word HW.out i hil
   obtain ⟨x, hxx⟩ : ∃ x, l[i].1 = x := ⟨_, rfl⟩
   rw [hxx] at d0 hx
   have hx2 : isK (bare l) i false k = (x == k) := by rw [hx]; simp
   rw [hx2]
   have e0 : decide ((l.length : Int) ≤ (i : Int)) = false := by simp; omega
   have e1 : decide (i < l.length) = true := by simp; omega
   have e2 : decide ((i : Int) < 0) = false := by simp
   have e3 : decide ((0 : Int) ≤ (i : Int)) = true := by simp
   have e4 : decide ((i : Int) < (l.length : Int)) = true := by simp; omega
   clear hx hx2 hxx d1 d2
   go_enter Tryz.func179, Tryz.ntmps179
   go_wp2
   go_quiet (fail)
   go_wp2
   go_ret
   exact ⟨retB (by simp), drewN_below (Below.refl _ _) _⟩
  ·rw [isK_off hil]
   have e0 : decide ((i : Int) < (l.length : Int)) = false := by simp; omega
   have e1 : decide (i < l.length) = false := by simp; omega
   have e3 : decide ((0 : Int) ≤ (i : Int)) = true := by simp
   clear hil
   go_enter Tryz.func179, Tryz.ntmps179
   go_wp2
   refine wp_region_quiet_lit (by kernel_rfl) (by kernel_rfl) ?_
   repeat (with_reducible refine wpQuiet_step ?_; intro K hK; go_simp; with_reducible refine hK _ ?_; clear hK K)
   refine wpQuiet_nil ?_
   intro _ hw'
   obtain ⟨nq, hw''⟩ := hw'
   subst hw''
   go_wp2
   go_ret
   exact ⟨rfl, drewN_below (Below.refl _ _) _⟩
 ·rw [isK_bad]
  go_enter Tryz.func179, Tryz.ntmps179
  go_wp2
  refine wp_region_quiet_lit (by kernel_rfl) (by kernel_rfl) ?_
  repeat (with_reducible refine wpQuiet_step ?_; intro K hK; go_simp; with_reducible refine hK _ ?_; clear hK K)
  refine wpQuiet_nil ?_
  intro _ hw'
  obtain ⟨nq, hw''⟩ := hw'
  subst hw''
  go_wp2
  go_ret
  exact ⟨rfl, drewN_below (Below.refl _ _) _⟩
theorem txt_at {l : List W} {i : Nat} (h : i < l.length) : txt (bare l) i = l[i].2.1 := by
 unfold txt
 rw [bare_get h]
theorem rname_any (r : Nat) (A : Option Addr) (cap : Nat) (l : List W) (i : Nat) (b : Bool) (w : World) (h : Rdr w r A cap l i b) (hi : i ≤ l.length) (hl : l.length ≤ 4194304) (q : Bool) (hq : (isK (bare l) i b 0 && !ownL (txt (bare l) i)) = q) :
  Calls Tryz.prog 144 #[.pointer (some ⟨r, 0, none⟩)] w fun e w' => e = .returned (.string ⟨(if q = true then txt (bare l) i else []).toArray⟩) ∧ But w w' r ∧ Rdr w' r A cap l (if q = true then i + 1 else i) (if q = true then b else true) := by
 have HK := hid (rkind_any r A cap l i b 0 w h hi hl)
 have HR := hid h
 clear h
 obtain ⟨kk, hkk⟩ : ∃ kk, isK (bare l) i b 0 = kk := ⟨_, rfl⟩
 rw [hkk] at HK hq
 cases kk
 ·obtain rfl : q = false := by rw [← hq]; rfl
  clear hq hkk
  go_enter Tryz.func144, Tryz.ntmps144
  go_wp2_with fail
  refine HK.out.mono ?_
  rintro e w1 ⟨rfl, hb1⟩
  have R1 := hid (HR.out.below hb1)
  have B1 := hid (But.of hb1 r)
  have c2 := R1.out.c2
  have fr := R1.out.fr 2
  clear hb1
  go_wp2
  go_ret
  exact ⟨rfl, B1.out.setCell 2 _, R1.out.wrong⟩
 ·have hil := isK_len hkk
  obtain rfl : b = false := (isK_lt hkk).2
  rw [txt_at hil] at hq ⊢
  have HWS := hid HR.out.ws
  obtain ⟨ad, rfl, ha, d0, d1, d2⟩ := at_word HWS.out i hil
  obtain ⟨t, htt⟩ : ∃ t, l[i].2.1 = t := ⟨_, rfl⟩
  rw [htt] at d1 hq ⊢
  obtain ⟨T, hT⟩ : ∃ T : ByteArray, ⟨t.toArray⟩ = T := ⟨_, rfl⟩
  have hTt : t = T.data.toList := by rw [← hT]
  rw [hT] at d1
  rw [hTt] at hq
  have HO := hid (fun w => (rown_any T w).mono (R' := fun e w' => e = .returned (.bool (!q)) ∧ w' = w) (by
   rintro e w' ⟨h1, h2⟩
   refine ⟨?_, h2.symm⟩
   rw [h1, own_list, ← hq]
   simp))
  have hlr := HR.out.lt
  have HD := hid (fun (w' : World) (hb : Below w.heap.size w w') => show w'.cell? ⟨(ad.add (i * 3)).block, (ad.add (i * 3)).off + 1, none⟩ = some (.string T) from (hb.cell (p := ⟨(ad.add (i * 3)).block, (ad.add (i * 3)).off + 1, none⟩) (by show (ad.add (i * 3)).block < _; rw [add_block]; omega)).trans d1)
  clear hkk htt d0 d1 d2 hq
  go_enter Tryz.func144, Tryz.ntmps144
  go_wp2_with fail
  refine HK.out.mono ?_
  rintro e w1 ⟨rfl, hb1⟩
  have R1 := hid (HR.out.below hb1)
  have B1 := hid (But.of hb1 r)
  have c0 := R1.out.c0
  have c1 := R1.out.c1
  have c2 := R1.out.c2
  have f1 := R1.out.fr 1
  have f2 := R1.out.fr 2
  have d1 := HD.out _ hb1
  have e0 : decide ((i : Int) < (l.length : Int)) = true := by simp; omega
  clear hb1
  go_wp2
  go_quiet (refine Calls.quiet_of_same (HO.out _))
  have hb2 : Below w1.heap.size w1 (w1.drewN nq) := drewN_below (Below.refl _ _) nq
  have R2 := hid (R1.out.below hb2)
  have B2 := hid (B1.out.next hb2)
  clear hb2
  cases q
  ·go_wp2
   go_ret
   exact ⟨rfl, B2.out.setCell 2 _, R2.out.wrong⟩
  ·have R3 := hid (R2.out.at (i + 1))
   rw [Int.natCast_add] at R3
   have B3 := hid (B2.out.setCell 1 (.int .i64 ((i : Int) + ((1 : Nat) : Int))))
   have d3 : ((w1.drewN nq).setCell ⟨r, 1, none⟩ (.int .i64 ((i : Int) + ((1 : Nat) : Int)))).cell? ⟨(ad.add (i * 3)).block, (ad.add (i * 3)).off + 1, none⟩ = some (.string T) := by
    rw [World.cell?_setCell_other _ _ _ _ (by
     intro e
     have : r = (ad.add (i * 3)).block := congrArg Addr.block e
     rw [add_block] at this
     omega)]
    exact d1
   clear c0 c1 c2 f1 f2
   have c1 := R1.out.c1
   have f1 := R1.out.fr 1
   go_wp2
   generalize hw2 : (w1.drewN nq).setCell ⟨r, 1, none⟩ (.int .i64 ((i : Int) + ((1 : Nat) : Int))) = w2 at R3 B3 d3
   clear hw2 c1 f1 d1
   have c0 := R3.out.c0
   have c1 : w2.cell? ⟨r, 1, none⟩ = some (.int .i64 ((i : Int) + 1)) := R3.out.c1
   have f4 : IntKind.i64.wrap ((i : Int) + 1 - 1) = (i : Int) := by rw [IntKind.wrap_i64]; omega
   have f5 : (i : Int) + 1 - 1 = (i : Int) := by omega
   have e1 : (i : Int) < (l.length : Int) := by omega
   go_quiet (fail)
   go_wp2
   go_ret
   exact ⟨retS (by first | exact hT.symm | rfl), B3.out.next (drewN_below (Below.refl _ _) _), R3.out.below (drewN_below (Below.refl _ _) _)⟩
def Strs (w w' : World) (e : Ending) (l : List (List UInt8)) : Prop := ∃ (A : Option Addr) (cap : Nat), e = .returned (.slice A l.length cap) ∧ At sc 1 w' w'.heap.size A l ∧ (∀ ad, A = some ad → w.heap.size ≤ ad.block) ∧ Below w.heap.size w w'
theorem strs_new (w : World) (l : List (List UInt8)) (t : TypeId) (cs : Array Value) (hc : cs = (l.map fun s => Value.string ⟨s.toArray⟩).toArray) : Strs w (w.alloc (.cells cs t)) (.returned (.slice (some ⟨w.heap.size, 0, none⟩) l.length l.length)) l := by
 refine ⟨_, _, rfl, ?_, ?_, (Below.refl _ _).alloc (Nat.le_refl _) _⟩
 ·subst hc
  have := texts_new w l t _ rfl
  rw [show ∀ o, (w.alloc o).heap.size = w.heap.size + 1 from fun o => by simp]
  exact this
 ·intro ad e
  cases e
  exact Nat.le_refl _
theorem strs_nil (w : World) : Strs w w (.returned (.slice none 0 0)) [] := ⟨none, 0, rfl, At.nil _ _ _, fun ad e => (by cases e), Below.refl _ _⟩
theorem rops_any (lv : Nat) (hl : lv ≤ 7) (w : World) :
  Calls Tryz.prog 170 #[.int .i64 lv] w fun e w' => Strs w w' e (opsL lv) := by
 have hc : lv = 0 ∨ lv = 1 ∨ lv = 2 ∨ lv = 3 ∨ lv = 4 ∨ lv = 5 ∨ lv = 6 ∨ lv = 7 := by omega
 rcases hc with rfl | rfl | rfl | rfl | rfl | rfl | rfl | rfl
 all_goals
  go_enter Tryz.func170, Tryz.ntmps170
  go_wp2
  go_ret
  first | exact strs_nil w | exact strs_new w (opsL 1) _ _ rfl | exact strs_new w (opsL 2) _ _ rfl | exact strs_new w (opsL 4) _ _ rfl | exact strs_new w (opsL 5) _ _ rfl | exact strs_new w (opsL 6) _ _ rfl
theorem oneL_step {L : List V} {i : Nat} {b : Bool} : ∀ (ls : List (List UInt8)) (k : Nat) (h : k < ls.length), (∀ j (hj : j < ls.length), j < k → isW L i b ls[j] = false) → isW L i b ls[k] = true → oneL L i b ls = ls[k]
 | [], k, h, _, _ => absurd h (Nat.not_lt_zero _)
 | s :: ls, 0, h, _, hw => by
  rw [oneL, if_pos (show isW L i b s = true from hw)]
  rfl
 | s :: ls, k + 1, h, hb, hw => by
  have h0 := hb 0 (by simp) (by omega)
  rw [oneL, if_neg (by rw [show isW L i b s = false from h0]; decide)]
  exact oneL_step ls k (by simpa using h) (fun j hj hjk => hb (j + 1) (by simpa using hj) (by omega)) hw
theorem rone_any (r : Nat) (A : Option Addr) (cap : Nat) (l : List W) (i : Nat) (b : Bool) (S : Option Addr) (sc' : Nat) (ls : List (List UInt8)) (w : World) (h : Rdr w r A cap l i b) (hi : i ≤ l.length) (hl : l.length ≤ 4194304)
  (hs : At sc 1 w w.heap.size S ls) (hne : ∀ ad, S = some ad → ad.block ≠ r) (hls : ls.length ≤ 100) (hn0 : [] ∉ ls) (q : List UInt8) (hq : oneL (bare l) i b ls = q) :
  Calls Tryz.prog 204 #[.pointer (some ⟨r, 0, none⟩), .slice S ls.length sc'] w fun e w' => e = .returned (.string ⟨q.toArray⟩) ∧ But w w' r ∧ Rdr w' r A cap l (if q = [] then i else i + 1) b := by
 have HR := hid h
 have HS := hid hs
 have HNE := hid hne
 have HN0 := hid hn0
 have HQ := hid hq
 clear h hs hne hn0 hq
 go_enter Tryz.func204, Tryz.ntmps204
 go_wp2
 go_loopw [5] (fun t wr => ∃ k : Nat, k ≤ ls.length ∧ t = .int .i64 k ∧ Hid (∀ j (hj : j < ls.length), j < k → isW (bare l) i b ls[j] = false) ∧ But w wr r ∧ Rdr wr r A cap l i b) (fun t _ => ls.length - (intOf t).toNat)
 case atStart => exact ⟨0, by omega, rfl, hid (fun j hj h => absurd h (Nat.not_lt_zero _)), But.refl _ _, HR.out⟩
 case round =>
  obtain ⟨k, hk, rfl, HB, hbut, hrd⟩ := hrel
  have HBU := hid hbut
  have HRD := hid hrd
  have VS := hid (at_but HS.out hbut (Nat.le_refl _) HNE.out)
  clear hbut hrd
  by_cases hkl : k < ls.length
  ·obtain ⟨ad, rfl, ha, c0⟩ := at_text VS.out k hkl
   obtain ⟨s, hsx⟩ : ∃ s, ls[k] = s := ⟨_, rfl⟩
   obtain ⟨T, hT⟩ : ∃ T : ByteArray, ⟨s.toArray⟩ = T := ⟨_, rfl⟩
   have hTs : T.data.toList = s := by rw [← hT]
   rw [hsx, hT] at c0
   obtain ⟨g, hg⟩ : ∃ g, isW (bare l) i b s = g := ⟨_, rfl⟩
   have HTK := hid (rtake_any r A cap l i b T g (by rw [hTs]; exact hg) wr HRD.out hi hl)
   have HNB := hid (HNE.out ad rfl)
   cases g
   ·have HB2 := hid (show ∀ j (hj : j < ls.length), j < k + 1 → isW (bare l) i b ls[j] = false by
     intro j hj hjk
     by_cases e : j = k
     ·subst e; rw [hsx]; exact hg
     ·exact HB.out j hj (by omega))
    clear hg hsx hT hTs
    go_wp2_with fail
    refine HTK.out.mono ?_
    rintro e w1 ⟨rfl, hb1, hr1⟩
    have B1 := hid (HBU.out.trans hb1)
    have R1 := hid hr1
    clear hb1 hr1 c0 HTK
    go_wp2
    go_roundw
    case rel => exact ⟨k + 1, by omega, by go_num, HB2, B1.out, R1.out⟩
    case measure => simp [intOf]; omega
   ·have hx := oneL_step ls k hkl HB.out (by rw [hsx]; exact hg)
    rw [HQ.out, hsx] at hx
    subst hx
    have hq0 : q ≠ [] := by
     intro e
     subst e
     exact HN0.out (hsx ▸ List.getElem_mem hkl)
    have HC := hid (fun (w' : World) (hb : But wr w' r) => show w'.cell? (ad.add k) = some (.string T) from (hb.cell (q := ad.add k) (by rw [add_block]; exact Nat.lt_of_lt_of_le ha HBU.out.size) (by rw [add_block]; exact HNB.out)).trans c0)
    have HT := hid hT
    clear hg hsx hT hTs
    go_wp2_with fail
    refine HTK.out.mono ?_
    rintro e w1 ⟨rfl, hb1, hr1⟩
    have B1 := hid (HBU.out.trans hb1)
    have R1 := hid hr1
    have c1 := HC.out _ hb1
    clear hb1 hr1 c0 HTK
    go_wp2
    go_ret
    refine ⟨retS HT.out.symm, B1.out, ?_⟩
    first | exact R1.out | (rw [if_neg hq0]; exact R1.out)
  ·have hx : oneL (bare l) i b ls = [] := oneL_none fun s hs => by
    obtain ⟨j, hj, rfl⟩ := List.mem_iff_getElem.1 hs
    exact HB.out j hj (by omega)
   rw [HQ.out] at hx
   subst hx
   go_wp2
   go_ret
   exact ⟨rfl, HBU.out, HRD.out⟩
def FigS (s : List UInt8) : Prop := ∀ c ∈ s, figB c = true
def numI (s : List UInt8) (i : Nat) (n : Int) : Prop := numF s 0 = numF (s.drop i) n
theorem numI_start (s : List UInt8) : numI s 0 0 := rfl
theorem numI_big {s : List UInt8} {i : Nat} {n : Int} (h : numI s i n) (hi : i < s.length) (hb : (9223372036854775807 - ((s[i].toNat : Int) - 48)) / 10 < n) : numF s 0 = none := by
 unfold numI at h
 rw [h, List.drop_eq_getElem_cons hi, numF, if_pos hb]
theorem numI_step {s : List UInt8} {i : Nat} {n : Int} (h : numI s i n) (hi : i < s.length) (hb : ¬ (9223372036854775807 - ((s[i].toNat : Int) - 48)) / 10 < n) : numI s (i + 1) (10 * n + ((s[i].toNat : Int) - 48)) := by
 unfold numI at *
 rw [h, List.drop_eq_getElem_cons hi, numF, if_neg hb]
theorem numI_end {s : List UInt8} {i : Nat} {n : Int} (h : numI s i n) (hi : s.length ≤ i) : numF s 0 = some n := by
 unfold numI at h
 rw [h, List.drop_eq_nil_of_le hi, numF]
def numOk (s : List UInt8) : Bool := (numL s).isSome
def numTx (s : List UInt8) : List UInt8 := (numL s).getD []
def numOp (s : List UInt8) : List UInt8 := if (numL s).isSome = true then sNum else []
theorem num_no {s : List UInt8} (h : numF s 0 = none) : numOk s = false ∧ numTx s = [] ∧ numOp s = [] := by
 unfold numOk numTx numOp numL
 rw [h]
 exact ⟨rfl, rfl, rfl⟩
theorem num_yes {s : List UInt8} {n : Int} (h : numF s 0 = some n) : numOk s = true ∧ numTx s = Lib.itoa n ∧ numOp s = sNum := by
 unfold numOk numTx numOp numL
 rw [h]
 exact ⟨rfl, rfl, rfl⟩
theorem rnumber_any (s : ByteArray) (hf : FigS s.data.toList) (hs : s.size ≤ 4194304) (w : World) :
  Calls Tryz.prog 226 #[.string s] w fun e w' => e = .returned (.tuple #[.agg #[.string ⟨(numOp s.data.toList).toArray⟩, .string ⟨(numTx s.data.toList).toArray⟩, .slice none 0 0], .bool (numOk s.data.toList)]) ∧ Below w.heap.size w w' := by
 have HF := hid hf
 clear hf
 go_enter Tryz.func226, Tryz.ntmps226
 go_wp2
 go_loop [4, 5] (fun v t => ∃ (i : Nat) (n : Int), i ≤ s.size ∧ t = .int .i64 i ∧ v = .int .i64 n ∧ 0 ≤ n ∧ n ≤ 9223372036854775807 ∧ Hid (numI s.data.toList i n)) (fun _ t => s.size - (intOf t).toNat)
 case atStart => exact ⟨0, 0, by omega, rfl, rfl, by omega, by omega, hid (numI_start _)⟩
 case round =>
  obtain ⟨i, n, hi, rfl, rfl, hn0, hn1, HI⟩ := hrel
  by_cases hil : i < s.size
  ·obtain ⟨c, hc⟩ : ∃ c, s[i] = c := ⟨_, rfl⟩
   have hg := (list_get s i hil hil).trans hc
   have hfig := HF.out s.data.toList[i] (List.getElem_mem hil)
   rw [hg] at hfig
   have hc48 : 48 ≤ c.toNat ∧ c.toNat ≤ 57 := by
    unfold figB at hfig
    simpa using hfig
   obtain ⟨d, hd⟩ : ∃ d : Int, (c.toNat : Int) - 48 = d := ⟨_, rfl⟩
   have hd0 : 0 ≤ d ∧ d ≤ 9 := by omega
   obtain ⟨Q, hQ⟩ : ∃ Q : Int, (9223372036854775807 - d) / 10 = Q := ⟨_, rfl⟩
   have hQ2 : (9223372036854775807 - d).tdiv 10 = Q := by rw [Int.tdiv_eq_ediv_of_nonneg (by omega)]; exact hQ
   have hw : IntKind.u8.wrap ((c.toNat : Int) - 48) = d := by
    rw [hd]
    show d % 256 = d
    omega
   by_cases hbig : Q < n
   ·have HD := hid (num_no (numI_big HI.out hil (by rw [hg, hd, hQ]; exact hbig)))
    clear hg hfig hd
    go_wp2
    exact bodyPost_ret (v := .tuple #[.agg #[.string ⟨#[]⟩, .string ⟨#[]⟩, .slice none 0 0], .bool false]) (by simp [results, Tryz.results226, go_sem, World.cell?_setCell_other]) rfl ⟨by rw [HD.out.1, HD.out.2.1, HD.out.2.2], below_alloc w _⟩
   ·have HD := hid (numI_step HI.out hil (by rw [hg, hd, hQ]; exact hbig))
    rw [hg, hd] at HD
    clear hg hfig hd
    go_wp2
    go_round
    case rel => exact ⟨i + 1, 10 * n + d, by omega, by go_num, rfl, by omega, by omega, HD⟩
    case measure => simp [intOf]; omega
  ·have hx := numI_end HI.out (by rw [← size_list]; omega)
   have HD := hid (num_yes hx)
   have HFG := hid (figures_any n (by unfold fits; omega))
   go_wp2_with fail
   refine (HFG.out _).mono ?_
   rintro e w1 ⟨rfl, hb1⟩
   have L1 := hid (bnext (below_alloc w (.cells #[.string ⟨#[]⟩, .string ⟨#[]⟩, .slice none 0 0] 24)) (by simp) hb1)
   have hz := hb1.size
   have x0 := (bcell hb1).1 w.heap.size 0 (by simp)
   have x1 := (bcell hb1).1 w.heap.size 1 (by simp)
   have x2 := (bcell hb1).1 w.heap.size 2 (by simp)
   have xf := (bcell hb1).2
   have xz : w.heap.size < w1.heap.size := by simp at hz; omega
   have y0 : w1.cell? ⟨w.heap.size, 0, none⟩ = some (.string ⟨#[]⟩) := by rw [x0]; simp [go_sem]
   have y1 : w1.cell? ⟨w.heap.size, 1, none⟩ = some (.string ⟨#[]⟩) := by rw [x1]; simp [go_sem]
   have y2 : w1.cell? ⟨w.heap.size, 2, none⟩ = some (.slice none 0 0) := by rw [x2]; simp [go_sem]
   have yf : ∀ j, w1.frozen? ⟨w.heap.size, j, none⟩ = false := fun j => by rw [xf _ _ (by simp)]; simp [go_sem]
   clear hb1 x0 x1 x2 xf hz hx
   go_wp2
   exact bodyPost_ret (v := .tuple #[.agg #[.string ⟨sNum.toArray⟩, .string ⟨(Lib.itoa n).toArray⟩, .slice none 0 0], .bool true]) (by simp [results, Tryz.results226, go_sem, World.cell?_setCell_other, y0, y1, y2, sNum]) rfl ⟨by rw [HD.out.1, HD.out.2.1, HD.out.2.2], ((L1.out.setCell (by simp) _).setCell (by simp) _).setCell (by simp) _⟩
theorem NIn.form {w : World} {S : Nat → Prop} {t : Tr} {a b c : Value} (h : NIn w S t a b c) : ∃ (X : Option Addr) (n m : Nat), c = .slice X n m := by
 cases t with
 | leaf op tx => exact ⟨_, _, _, h.2.2⟩
 | one op x => obtain ⟨_, _, g, cap, x0, x1, x2, h3, _⟩ := h; exact ⟨_, _, _, h3⟩
 | two op x y => obtain ⟨_, _, g, cap, x0, x1, x2, y0, y1, y2, h3, _⟩ := h; exact ⟨_, _, _, h3⟩
def New (w w' : World) (g : Nat) : Prop := w.heap.size ≤ g ∧ g < w'.heap.size
def Reads (r : Nat) (A : Option Addr) (cap : Nat) (l : List W) (w : World) (S : Nat → Prop) (res : Tr × Nat × Bool) (e : Ending) (w' : World) : Prop :=
 ∃ (op tx : ByteArray) (X : Option Addr) (n m : Nat), e = .returned (.agg #[.string op, .string tx, .slice X n m]) ∧ NIn w' (fun g => S g ∨ New w w' g) res.1 (.string op) (.string tx) (.slice X n m) ∧ But w w' r ∧ Rdr w' r A cap l res.2.1 res.2.2
def NoB (g : Nat) : Prop := False
structure Does (r : Nat) (A : Option Addr) (cap : Nat) (l : List W) (f : Nat) : Prop where
 expr : ∀ (lv i : Nat) (b : Bool) (w : World), 1 ≤ lv → lv ≤ 7 → i ≤ l.length → mu (bare l) (.expr lv) i < f → Rdr w r A cap l i b →
  Calls Tryz.prog 181 #[.pointer (some ⟨r, 0, none⟩), .int .i64 lv] w (Reads r A cap l w NoB (P (bare l) f (.expr lv) i b))
 sign : ∀ (i : Nat) (b : Bool) (w : World), i ≤ l.length → mu (bare l) .sign i < f → Rdr w r A cap l i b →
  Calls Tryz.prog 202 #[.pointer (some ⟨r, 0, none⟩)] w (Reads r A cap l w NoB (P (bare l) f .sign i b))
 test : ∀ (S : Nat → Prop) (t : Tr) (op tx : ByteArray) (X : Option Addr) (n m : Nat) (i : Nat) (b : Bool) (w : World), (∀ g, S g → g < w.heap.size ∧ g ≠ r) → NIn w S t (.string op) (.string tx) (.slice X n m) → i ≤ l.length → mu (bare l) (.test t) i < f → Rdr w r A cap l i b →
  Calls Tryz.prog 203 #[.pointer (some ⟨r, 0, none⟩), .agg #[.string op, .string tx, .slice X n m]] w (Reads r A cap l w S (P (bare l) f (.test t) i b))
def W3 (w : World) (g : Nat) (a b c : Value) : World := ((w.setCell ⟨g, 0, none⟩ a).setCell ⟨g, 1, none⟩ b).setCell ⟨g, 2, none⟩ c
theorem W3.size (w : World) (g : Nat) (a b c : Value) : (W3 w g a b c).heap.size = w.heap.size := by simp [W3]
theorem W3.but {w w1 : World} {r g : Nat} (h : But w w1 r) (hg : w.heap.size ≤ g) (a b c : Value) : But w (W3 w1 g a b c) r := ((h.new _ hg _).new _ hg _).new _ hg _
theorem W3.rdr {w : World} {r : Nat} {A : Option Addr} {cap : Nat} {l : List W} {i : Nat} {b : Bool} (h : Rdr w r A cap l i b) {g : Nat} (hg : r < g) (x y z : Value) : Rdr (W3 w g x y z) r A cap l i b := ((h.new _ hg _).new _ hg _).new _ hg _
theorem W3.nin {w : World} {S : Nat → Prop} {t : Tr} {a b c : Value} (h : NIn w S t a b c) {g : Nat} (hg : ¬ S g) (x y z : Value) : NIn (W3 w g x y z) S t a b c := ((h.setCell _ hg _).setCell _ hg _).setCell _ hg _
theorem W3.box {w : World} {g : Nat} {a b c : Value} (h : NBox w g a b c) (x y z : Value) : NBox (W3 w g x y z) g x y z := h.set x y z
section
variable {r : Nat} {A : Option Addr} {cap : Nat} {l : List W} {w w2 : World} {S S2 : Nat → Prop} {x y : Tr} {j : Nat} {b : Bool} {op tx op2 tx2 : ByteArray} {X X2 : Option Addr} {n m n2 m2 : Nat}
theorem ret_one (o : ByteArray) (hn : NIn w2 S2 x (.string op) (.string tx) (.slice X n m)) (hS : ∀ g, S2 g → g < w2.heap.size ∧ g ≠ w.heap.size ∧ (S g ∨ w.heap.size ≤ g)) (hb : But w w2 r) (hr : Rdr w2 r A cap l j b) (hrl : r < w.heap.size) (o1 : Obj) (t : TypeId) :
  Reads r A cap l w S (.one o.data.toList x, j, b) (.returned (.agg #[.string o, .string ⟨#[]⟩, .slice (some ⟨w2.heap.size + 1, 0, none⟩) 1 1])) (((W3 w2 w.heap.size (.string o) (.string ⟨#[]⟩) (.slice (some ⟨w2.heap.size + 1, 0, none⟩) 1 1)).alloc o1).alloc (.cells #[.string op, .string tx, .slice X n m] t)) := by
 have hz := hb.size
 obtain ⟨W, hW⟩ : ∃ W, W3 w2 w.heap.size (.string o) (.string ⟨#[]⟩) (.slice (some ⟨w2.heap.size + 1, 0, none⟩) 1 1) = W := ⟨_, rfl⟩
 have hs : W.heap.size = w2.heap.size := by rw [← hW, W3.size]
 have h1 : NIn W S2 x (.string op) (.string tx) (.slice X n m) := by rw [← hW]; exact W3.nin hn (fun h => (hS _ h).2.1 rfl) _ _ _
 have hB : But w W r := by rw [← hW]; exact W3.but hb (Nat.le_refl _) _ _ _
 have hR : Rdr W r A cap l j b := by rw [← hW]; exact W3.rdr hr hrl _ _ _
 rw [hW]
 have hs1 : (W.alloc o1).heap.size = w2.heap.size + 1 := by simp [hs]
 have h2 := NIn.one o (h1.alloc (fun g hg => by have := (hS g hg).1; omega) o1) (fun g hg => by have := (hS g hg).1; omega) (S' := fun g => S g ∨ New w ((W.alloc o1).alloc (.cells #[.string op, .string tx, .slice X n m] t)) g) (fun g hg => by
  obtain ⟨a1, a2, a3⟩ := hS g hg
  rcases a3 with a3 | a3
  ·exact .inl a3
  ·exact .inr ⟨a3, by simp [hs]; omega⟩) (.inr ⟨by rw [hs1]; omega, by simp⟩) t
 rw [hs1] at h2
 exact ⟨o, ⟨#[]⟩, _, 1, 1, rfl, h2, (hB.alloc _).alloc _, (hR.alloc _).alloc _⟩
theorem ret_two (o : ByteArray) (hn : NIn w2 S2 x (.string op) (.string tx) (.slice X n m)) (hn2 : NIn w2 S2 y (.string op2) (.string tx2) (.slice X2 n2 m2)) (hS : ∀ g, S2 g → g < w2.heap.size ∧ g ≠ w.heap.size ∧ (S g ∨ w.heap.size ≤ g)) (hb : But w w2 r) (hr : Rdr w2 r A cap l j b) (hrl : r < w.heap.size) (o1 : Obj) (t : TypeId) (g2 : Nat) (hg2 : w.heap.size ≤ g2) (hg3 : ¬ S2 g2) :
  Reads r A cap l w S (.two o.data.toList x y, j, b) (.returned (.agg #[.string o, .string ⟨#[]⟩, .slice (some ⟨w2.heap.size + 1, 0, none⟩) 2 2])) (((W3 w2 g2 (.string o) (.string ⟨#[]⟩) (.slice (some ⟨w2.heap.size + 1, 0, none⟩) 2 2)).alloc o1).alloc (.cells #[.string op, .string tx, .slice X n m, .string op2, .string tx2, .slice X2 n2 m2] t)) := by
 have hz := hb.size
 obtain ⟨W, hW⟩ : ∃ W, W3 w2 g2 (.string o) (.string ⟨#[]⟩) (.slice (some ⟨w2.heap.size + 1, 0, none⟩) 2 2) = W := ⟨_, rfl⟩
 have hs : W.heap.size = w2.heap.size := by rw [← hW, W3.size]
 have h1 : NIn W S2 x (.string op) (.string tx) (.slice X n m) := by rw [← hW]; exact W3.nin hn hg3 _ _ _
 have h1b : NIn W S2 y (.string op2) (.string tx2) (.slice X2 n2 m2) := by rw [← hW]; exact W3.nin hn2 hg3 _ _ _
 have hB : But w W r := by rw [← hW]; exact W3.but hb hg2 _ _ _
 have hR : Rdr W r A cap l j b := by rw [← hW]; exact W3.rdr hr (by omega) _ _ _
 rw [hW]
 have hs1 : (W.alloc o1).heap.size = w2.heap.size + 1 := by simp [hs]
 have h2 := NIn.two o (h1.alloc (fun g hg => by have := (hS g hg).1; omega) o1) (h1b.alloc (fun g hg => by have := (hS g hg).1; omega) o1) (fun g hg => by have := (hS g hg).1; omega) (S' := fun g => S g ∨ New w ((W.alloc o1).alloc (.cells #[.string op, .string tx, .slice X n m, .string op2, .string tx2, .slice X2 n2 m2] t)) g) (fun g hg => by
  obtain ⟨a1, a2, a3⟩ := hS g hg
  rcases a3 with a3 | a3
  ·exact .inl a3
  ·exact .inr ⟨a3, by simp [hs]; omega⟩) (.inr ⟨by rw [hs1]; omega, by simp⟩) t
 rw [hs1] at h2
 exact ⟨o, ⟨#[]⟩, _, 2, 2, rfl, h2, (hB.alloc _).alloc _, (hR.alloc _).alloc _⟩
theorem ret_same (hn : NIn w2 S2 x (.string op) (.string tx) (.slice X n m)) (hS : ∀ g, S2 g → g < w2.heap.size ∧ g ≠ w.heap.size ∧ (S g ∨ w.heap.size ≤ g)) (hb : But w w2 r) (hr : Rdr w2 r A cap l j b) (hrl : r < w.heap.size) :
  Reads r A cap l w S (x, j, b) (.returned (.agg #[.string op, .string tx, .slice X n m])) (W3 w2 w.heap.size (.string op) (.string tx) (.slice X n m)) := by
 have hz := hb.size
 refine ⟨op, tx, X, n, m, rfl, ?_, W3.but hb (Nat.le_refl _) _ _ _, W3.rdr hr hrl _ _ _⟩
 refine (W3.nin hn (fun h => (hS _ h).2.1 rfl) _ _ _).imp fun g hg => ?_
 obtain ⟨a1, a2, a3⟩ := hS g hg
 rcases a3 with a3 | a3
 ·exact .inl a3
 ·exact .inr ⟨a3, by rw [W3.size]; exact a1⟩
end
theorem sign_neg {r : Nat} {A : Option Addr} {cap : Nat} {l : List W} {f : Nat} (D : Does r A cap l f) (i : Nat) (b : Bool) (w : World) (hi : i ≤ l.length) (hl : l.length ≤ 4194304) (hm : mu (bare l) .sign i < f + 1) (h : Rdr w r A cap l i b) (hq : isW (bare l) i b [45] = true) :
  Calls Tryz.prog 202 #[.pointer (some ⟨r, 0, none⟩)] w (Reads r A cap l w NoB (P (bare l) (f + 1) .sign i b)) := by
 have hil := isW_len hq
 obtain ⟨x, j, b', hx⟩ : ∃ x j b', P (bare l) f .sign (i + 1) b = (x, j, b') := ⟨_, _, _, rfl⟩
 have hP : P (bare l) (f + 1) .sign i b = (.one sNeg x, j, b') := by rw [P, if_pos hq, hx]
 have hmu := mu_next (L := bare l) (by rw [bare_length]; exact hil) .sign .sign trivial (Nat.le_refl 1)
 rw [hP]
 have HI := hid (fun w1 hr => D.sign (i + 1) b w1 (by omega) (by omega) hr)
 rw [hx] at HI
 have HR := hid h
 have hrl := h.lt
 have HT := hid (fun w1 hr => rtake_any r A cap l i b ⟨#[45]⟩ true hq w1 hr hi hl)
 clear h hP hmu hx hq hm D
 go_enter Tryz.func202, Tryz.ntmps202
 go_wp2_with fail
 refine (HT.out _ (HR.out.alloc _)).mono ?_
 rintro e w1 ⟨rfl, hb1, hr1⟩
 have N1 := hid ((NBox.fresh w (.string ⟨#[]⟩) (.string ⟨#[]⟩) (.slice none 0 0) 24).but (by omega) hb1)
 have B1 := hid (((But.refl w r).alloc _).trans hb1)
 have R1 := hid hr1
 have hlt1 : w.heap.size < w1.heap.size := N1.out.lt
 clear hb1 hr1
 go_wp2_with fail
 refine (HI.out _ R1.out).mono ?_
 rintro e w2 ⟨op, tx, X, n, m, rfl, hn2, hb2, hr2⟩
 have N2 := hid (N1.out.but (by omega) hb2)
 have B2 := hid (B1.out.trans hb2)
 have R2 := hid hr2
 have I2 := hid hn2
 have z2 := N2.out.lt
 obtain ⟨x0, x1, x2, xf⟩ := N2.out
 clear hb2 hr2 hn2
 go_wp2
 have Y := ((N2.out.set (.string ⟨#[110, 101, 103]⟩) (.string ⟨#[]⟩) (.slice (some ⟨w2.heap.size + 1, 0, none⟩) 1 1)).alloc (.cells #[.string op, .string tx, .slice X n m] 24)).alloc (.cells #[.string op, .string tx, .slice X n m] 24)
 exact bodyPost_ret (v := .agg #[.string ⟨#[110, 101, 103]⟩, .string ⟨#[]⟩, .slice (some ⟨w2.heap.size + 1, 0, none⟩) 1 1]) (by simp [results, Tryz.results202, go_sem, Y.c0, Y.c1, Y.c2]) rfl
  (ret_one ⟨#[110, 101, 103]⟩ I2.out (fun g hg => by rcases hg with hg | hg; exact hg.elim; exact ⟨hg.2, by have := hg.1; omega, .inr (by have := hg.1; omega)⟩) B2.out R2.out hrl _ _)
end Go.Proofs.YthpmgnfmeldkjaaGreatDoor.Code
