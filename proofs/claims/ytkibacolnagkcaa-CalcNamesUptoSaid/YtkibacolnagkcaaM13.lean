/-
  Contract of the document's Words.
-/
import Derived.Test.YtkibacolnagkcaaM12
import Derived.Deep.AppendLies
import Derived.Test.YtkibacolnagkcaaM9
import Derived.Test.YtkibacolnagkcaaM1
import Derived.Deep.QuietTactic
import Derived.Test.YtkibacolnagkcaaM8
namespace Go.Proofs.Ytkibacolnagkcaa.Code
open Go.ChangeShapes Go.WideShapes Go.ChangeAt Go.RowKit Val Elems
set_option linter.unusedVariables false
theorem info_rword : (Try.prog.info? 82).map (fun i => (i.zero, i.size, i.bytes)) = some (some (.agg #[.int .i64 0, .string ByteArray.empty, .int .i64 0]), 3, 32) := by kernel_rfl
theorem blank_yes {c : UInt8} (h : blankB c = true) : c = 32 ∨ c = 9 ∨ c = 10 := by
  unfold blankB at h
  simp only [Bool.or_eq_true, decide_eq_true_eq] at h
  rcases h with (h | h) | h
  · exact .inl (UInt8.toNat_inj.1 h)
  · exact .inr (.inl (UInt8.toNat_inj.1 h))
  · exact .inr (.inr (UInt8.toNat_inj.1 h))
theorem blank_no {c : UInt8} (h : blankB c = false) : ((c.toNat : Int) == 32) = false ∧ ((c.toNat : Int) == 9) = false ∧ ((c.toNat : Int) == 10) = false := by
  unfold blankB at h
  simp only [Bool.or_eq_false_iff, decide_eq_false_iff_not] at h
  obtain ⟨⟨h1, h2⟩, h3⟩ := h
  refine ⟨?_, ?_, ?_⟩ <;> (simp; omega)
set_option maxHeartbeats 4000000 in
set_option maxRecDepth 100000 in
theorem rwords_any (s : ByteArray) (w : World) (hs : s.size ≤ 4194304) :
    Calls Try.prog 25 #[.string s] w (WordsPost w s.data.toList) := by
  obtain ⟨i0, hi0, hz0, hz1, hz2⟩ := info_parts info_rword
  go_enter Try.func25, Try.ntmps25
  go_wp2
  go_loopw [5, 6] (fun v t wr => ∃ (i : Nat) (a : List W), i ≤ s.size ∧ t = .int .i64 i ∧ Hid (WAt s.data.toList i a) ∧ a.length ≤ i ∧ wr.ownsRow w.heap.size 82 3 v a.length (flatC wc a) ∧ Below w.heap.size w wr) (fun _ t _ => s.size - (intOf t).toNat)
  case atStart => exact ⟨0, [], by omega, rfl, Lib.hid (WAt.start _), by simp, World.ownsRow_nil _ _ _ _, Below.refl _ _⟩
  case round =>
    obtain ⟨i, a, hi, rfl, HK, hai, hown, hbel⟩ := hrel
    have hsz := hbel.size
    have HO := Lib.hid hown
    have HL := Lib.hid hbel
    clear hown hbel
    by_cases hil : i < s.size
    · obtain ⟨c, hc⟩ : ∃ c, s[i] = c := ⟨_, rfl⟩
      have hg := (list_get s i hil hil).trans hc
      obtain ⟨b, hb⟩ : ∃ b, blankB c = b := ⟨_, rfl⟩
      cases b
      · obtain ⟨S, hS⟩ : ∃ S, s.extract i s.size = S := ⟨_, rfl⟩
        have hsl := cut_from s i i rfl hi
        rw [hS] at hsl
        have hSl : S.data.toList = s.data.toList.drop i := by rw [← hS]; exact from_list s i
        have hSs : S.size = s.size - i := by rw [size_list, hSl, List.length_drop, ← size_list]
        have HSL := Lib.hid hSl
        have HG := Lib.hid hg
        clear hS hSl hg
        obtain ⟨j32, j9, j10⟩ := blank_no hb
        go_wp2_with fail
        refine (one8_any S _ (by omega) (by omega)).mono ?_
        rintro e w1 ⟨⟨k, t, n, rfl, hcase⟩, hb1⟩
        rw [HSL.out] at hcase
        have L1 := Lib.hid (bnext HL.out hsz hb1)
        have O1 := Lib.hid (own_call HO.out hb1)
        have hzw := L1.out.size
        clear hb1
        rcases hcase with ⟨hno, rfl⟩ | hyes
        · have HD := Lib.hid (HK.out.none hil (by rw [HG.out]; exact hb) hno)
          clear hno
          go_wp2
          go_ret3
          exact words_no HD.out (L1.out.alloc hzw _)
        · have hn := first_n hyes
          have hcz : ((n : Int) == 0) = false := by simp; omega
          have hni : i + n ≤ s.size := by have := hn.2; rw [List.length_drop, ← size_list] at this; omega
          have HD := Lib.hid (HK.out.one hil hyes)
          have HW := Lib.hid (show wc (k, t.data.toList, (i : Int)) = [.int .i64 k, .string t, .int .i64 (i : Int)] by unfold wc; rw [Lib.mk_data])
          have hn1 := hn.1
          clear hyes hn
          go_wp2_with (at_builtin; refine wpList_append_own _ rfl _ _ 62 rfl w.heap.size 82 i0 (.agg #[.int .i64 0, .string ByteArray.empty, .int .i64 0]) 3 32 Try.underlying62 hi0 hz0 hz1 hz2 rfl (by decide) _ _ _ rfl ((O1.out.alloc _).alloc _) ⟨w1.heap.size + 1, 0, none⟩ 1 1 [.int .i64 k, .string t, .int .i64 (i : Int)] rfl rfl ?c1 ?c2 ?c3 ?c4 ?c5 ?_)
          case c1 => exact roww_new _ _ _ _ _ _
          case c2 => rw [← HW.out]; exact wc_one _
          case c3 => unfold maxLen; omega
          case c4 => omega
          case c5 => simp; omega
          intro v' w2 hown' hgrow _
          have O2 := Lib.hid (show w2.ownsRow w.heap.size 82 3 v' (a ++ [(k, t.data.toList, (i : Int))]).length (flatC wc (a ++ [(k, t.data.toList, (i : Int))])) by rw [flatC_snoc, List.length_append, HW.out]; exact hown')
          have L2 := Lib.hid (((L1.out.alloc hzw _).alloc (by simp; omega) _).grown hgrow (by simp; omega) (fun g hg => (O1.out.lt g hg).1))
          clear hown' hgrow
          go_wp2
          go_roundw
          case rel => exact ⟨i + n, a ++ [(k, t.data.toList, (i : Int))], by omega, by go_num, HD, by rw [List.length_append]; simp; omega, O2.out, L2.out⟩
          case measure => simp [intOf]; omega
      · have HD := Lib.hid (HK.out.blank hil (by rw [hg]; exact hb))
        clear hg
        rcases blank_yes hb with rfl | rfl | rfl
        · go_wp2
          go_roundw
          case rel => exact ⟨i + 1, a, by omega, by go_num, HD, by omega, HO.out, HL.out⟩
          case measure => simp [intOf]; omega
        · go_wp2
          go_roundw
          case rel => exact ⟨i + 1, a, by omega, by go_num, HD, by omega, HO.out, HL.out⟩
          case measure => simp [intOf]; omega
        · go_wp2
          go_roundw
          case rel => exact ⟨i + 1, a, by omega, by go_num, HD, by omega, HO.out, HL.out⟩
          case measure => simp [intOf]; omega
    · have HD := Lib.hid (HK.out.done (by rw [← size_list]; omega))
      go_wp2
      go_ret3
      exact words_yes HD.out HO.out HL.out
end Go.Proofs.Ytkibacolnagkcaa.Code
/-
  Contracts of the law's To and Same, and of Own, the program's and the document's.
-/
namespace Go.Proofs.Ytkibacolnagkcaa.Code
open Go.ChangeShapes Go.WideShapes Go.ChangeAt Go.RowKit Val Elems
set_option linter.unusedVariables false
theorem at_word {w : World} {B : Nat} {A : Option Addr} {l : List W} (h : At wc 3 w B A l) (i : Nat) (hi : i < l.length) :
    ∃ ad : Addr, A = some ad ∧ ad.block < B ∧ w.cell? (ad.add (i * 3)) = some (.int .i64 l[i].1) ∧ w.cell? ⟨(ad.add (i * 3)).block, (ad.add (i * 3)).off + 1, none⟩ = some (.string ⟨l[i].2.1.toArray⟩) ∧ w.cell? ⟨(ad.add (i * 3)).block, (ad.add (i * 3)).off + 2, none⟩ = some (.int .i64 l[i].2.2) := by
  obtain ⟨ad, e, hb, h0⟩ := h i hi
  refine ⟨ad, e, hb, h0 0 _ rfl, ?_, ?_⟩
  · rw [← add_next]; exact h0 1 _ rfl
  · rw [← add_next]; exact h0 2 _ rfl
/-- is it one of the language's own names? -/
def ownB (s : List UInt8) : Bool := s == [116, 114, 117, 101] || (s == [102, 97, 108, 115, 101] || (s == [110, 117, 108, 108] || (s == [97, 110, 100] || (s == [111, 114] || (s == [110, 111, 116] || s == [105, 115])))))
set_option maxHeartbeats 4000000 in
theorem rown_any (s : ByteArray) (w : World) :
    Calls Try.prog 62 #[.string s] w fun e w' => e = .returned (.bool (ownB s.toList)) ∧ w = w' := by
  obtain ⟨b1, h1⟩ : ∃ b, (s.toList == [116, 114, 117, 101]) = b := ⟨_, rfl⟩
  obtain ⟨b2, h2⟩ : ∃ b, (s.toList == [102, 97, 108, 115, 101]) = b := ⟨_, rfl⟩
  obtain ⟨b3, h3⟩ : ∃ b, (s.toList == [110, 117, 108, 108]) = b := ⟨_, rfl⟩
  obtain ⟨b4, h4⟩ : ∃ b, (s.toList == [97, 110, 100]) = b := ⟨_, rfl⟩
  obtain ⟨b5, h5⟩ : ∃ b, (s.toList == [111, 114]) = b := ⟨_, rfl⟩
  obtain ⟨b6, h6⟩ : ∃ b, (s.toList == [110, 111, 116]) = b := ⟨_, rfl⟩
  obtain ⟨b7, h7⟩ : ∃ b, (s.toList == [105, 115]) = b := ⟨_, rfl⟩
  have HX := Lib.hid (show ownB s.toList = (b1 || (b2 || (b3 || (b4 || (b5 || (b6 || b7)))))) by unfold ownB; rw [h1, h2, h3, h4, h5, h6, h7])
  rw [HX.out]
  clear HX
  cases b1
  · cases b2
    · cases b3
      · cases b4
        · cases b5
          · cases b6
            · cases b7
              all_goals (go_enter Try.func62, Try.ntmps62; go_wp2; go_ret; exact ⟨rfl, rfl⟩)
            · (go_enter Try.func62, Try.ntmps62; go_wp2; go_ret; exact ⟨rfl, rfl⟩)
          · (go_enter Try.func62, Try.ntmps62; go_wp2; go_ret; exact ⟨rfl, rfl⟩)
        · (go_enter Try.func62, Try.ntmps62; go_wp2; go_ret; exact ⟨rfl, rfl⟩)
      · (go_enter Try.func62, Try.ntmps62; go_wp2; go_ret; exact ⟨rfl, rfl⟩)
    · (go_enter Try.func62, Try.ntmps62; go_wp2; go_ret; exact ⟨rfl, rfl⟩)
  · (go_enter Try.func62, Try.ntmps62; go_wp2; go_ret; exact ⟨rfl, rfl⟩)
end Go.Proofs.Ytkibacolnagkcaa.Code
/-
  Contracts of the document's Wider and Name of kinds, over the texts of rows.
-/
namespace Go.Proofs.Ytkibacolnagkcaa.Val
open Go.ChangeShapes Go.WideShapes Go.ChangeAt Go.RowKit
set_option linter.unusedVariables false
theorem kinds (k : Int) : k = 0 ∨ k = 1 ∨ k = 2 ∨ k = 3 ∨ k = 4 ∨ ((k == 0) = false ∧ (k == 1) = false ∧ (k == 2) = false ∧ (k == 3) = false ∧ (k == 4) = false) := by
  by_cases h0 : k = 0; · exact Or.inl h0
  by_cases h1 : k = 1; · exact Or.inr (Or.inl h1)
  by_cases h2 : k = 2; · exact Or.inr (Or.inr (Or.inl h2))
  by_cases h3 : k = 3; · exact Or.inr (Or.inr (Or.inr (Or.inl h3)))
  by_cases h4 : k = 4; · exact Or.inr (Or.inr (Or.inr (Or.inr (Or.inl h4))))
  exact Or.inr (Or.inr (Or.inr (Or.inr (Or.inr ⟨by simpa using h0, by simpa using h1, by simpa using h2, by simpa using h3, by simpa using h4⟩))))
end Go.Proofs.Ytkibacolnagkcaa.Val
/-
  The document's Name, column, Find, Kinds, Alike, Same of columns, and the law's Small and kinds.
-/
namespace Go.Proofs.Ytkibacolnagkcaa.Code
open Go.ChangeShapes Go.WideShapes Go.ChangeAt Go.RowKit Val Elems
set_option linter.unusedVariables false
set_option linter.unusedSimpArgs false
theorem own_n (s : ByteArray) : ownB s.toList = ownN s.data.toList := by rw [ByteArray.toList_eq]; rfl
theorem list_one {α : Type} (l : List α) : l = [] ∨ (∃ a, l = [a]) ∨ 2 ≤ l.length := by
  match l with
  | [] => exact .inl rfl
  | [a] => exact .inr (.inl ⟨a, rfl⟩)
  | a :: b :: l => exact .inr (.inr (by simp))
/-- may a text be a name, by its words -/
theorem name_is (s : List UInt8) : nameC s = (wE s == 0 && (decide ((wL s).length = 1) && ((wL s).all fun w => w.1 == 0 && (w.2.1 == s && !ownN s)))) := by
  unfold nameC wE wL
  cases h : wordsL s 0 with
  | error j => rfl
  | ok l =>
    rcases list_one l with rfl | ⟨a, rfl⟩ | h2
    · rfl
    · simp
    · match l, h2 with
      | a :: b :: l, _ => simp
set_option maxHeartbeats 4000000 in
set_option maxRecDepth 100000 in
theorem rcname_any (s : ByteArray) (w : World) (hs : s.size ≤ 4194304) :
    Calls Try.prog 39 #[.string s] w fun e w' => e = .returned (.bool (nameC s.data.toList)) ∧ Below w.heap.size w w' := by
  have HW := Lib.hid (rwords_any s w hs)
  have HO := Lib.hid (fun w' => rown_any s w')
  rw [name_is]
  unfold WordsPost at HW
  obtain ⟨l, hl⟩ : ∃ l, wL s.data.toList = l := ⟨_, rfl⟩
  obtain ⟨q, hq⟩ : ∃ q, wE s.data.toList = q := ⟨_, rfl⟩
  obtain ⟨p, hp⟩ : ∃ p, wP s.data.toList = p := ⟨_, rfl⟩
  rw [own_n] at HO
  obtain ⟨o, ho⟩ : ∃ o, ownN s.data.toList = o := ⟨_, rfl⟩
  rw [hl, hq, hp] at HW
  rw [hl, hq, ho]
  rw [ho] at HO
  obtain ⟨R, hR⟩ : ∃ R : Bool, (q == 0 && (decide (l.length = 1) && (l.all fun w => w.1 == 0 && (w.2.1 == s.data.toList && !o)))) = R := ⟨_, rfl⟩
  rw [hR]
  have HR := Lib.hid hR
  clear hl hq hp ho hR
  go_enter Try.func39, Try.ntmps39
  go_wp2_with fail
  refine HW.out.mono ?_
  rintro e w1 ⟨A, cap, rfl, hat, hb⟩
  have B1 := Lib.hid hb
  have AT := Lib.hid hat
  clear hb hat
  go_wp2_with fail
  refine (HO.out _).mono ?_
  rintro e w1' ⟨rfl, rfl⟩
  by_cases hq0 : q = 0
  case neg =>
    have e1 : (q == 0) = false := by simpa using hq0
    have hr : R = false := by rw [← HR.out, e1]; rfl
    subst hr
    clear hq0
    go_wp2
    go_ret
    exact ⟨by simp, B1.out⟩
  subst hq0
  rcases list_one l with rfl | ⟨a, rfl⟩ | h2
  · have hr : R = false := by rw [← HR.out]; rfl
    subst hr
    go_wp2
    go_ret
    exact ⟨by simp, B1.out⟩
  · obtain ⟨k, t, pos⟩ := a
    obtain ⟨ad, rfl, hab, c0, c1, c2⟩ := at_word AT.out 0 (by simp)
    have ea : ad.add (0 * 3) = ad := by simp [Addr.add]
    rw [ea] at c0 c1 c2
    simp only [List.getElem_cons_zero] at c0 c1 c2
    have hr : R = (k == 0 && (t == s.data.toList && !o)) := by rw [← HR.out]; simp
    by_cases hk : k = 0
    case neg =>
      have e2 : (k == 0) = false := by simpa using hk
      have hr2 : R = false := by rw [hr, e2]; rfl
      subst hr2
      clear hk hr
      go_wp2
      go_ret
      exact ⟨by simp, B1.out⟩
    subst hk
    by_cases ht : t = s.data.toList
    case neg =>
      obtain ⟨T, hT⟩ : ∃ T : ByteArray, ⟨t.toArray⟩ = T := ⟨_, rfl⟩
      have e3 : (T.toList == s.toList) = false := by rw [ByteArray.toList_eq, ByteArray.toList_eq, ← hT]; simpa using ht
      have hr2 : R = false := by rw [hr]; simp [ht]
      rw [hT] at c1
      subst hr2
      clear ht hr hT
      go_wp2
      go_ret
      exact ⟨by simp, B1.out⟩
    subst ht
    rw [Lib.mk_data] at c1
    have hr2 : R = !o := by rw [hr]; simp
    subst hr2
    clear hr
    go_wp2
    go_ret
    exact ⟨by simp, B1.out⟩
  · have hr : R = false := by
      rw [← HR.out]
      have : decide (l.length = 1) = false := by simp; omega
      rw [this]
      rfl
    obtain ⟨N, hN⟩ : ∃ N, l.length = N := ⟨_, rfl⟩
    rw [hN] at h2
    have e4 : ((N : Int) == 1) = false := by simp; omega
    subst hr
    rw [hN]
    clear hN
    go_wp2
    go_ret
    exact ⟨by simp, B1.out⟩
end Go.Proofs.Ytkibacolnagkcaa.Code
/-
  The document's column, Find, Alike, Same of columns.
-/
namespace Go.Proofs.Ytkibacolnagkcaa.Code
open Go.ChangeShapes Go.WideShapes Go.ChangeAt Go.RowKit Val Elems
set_option linter.unusedVariables false
set_option linter.unusedSimpArgs false
set_option maxHeartbeats 4000000 in
set_option maxRecDepth 100000 in
theorem rcol_any (i k : Int) (s : ByteArray) (w : World) (hs : s.size ≤ 4194304) :
    Calls Try.prog 23 #[.agg #[.int .i64 i, .string s, .int .i64 k]] w fun e w' => e = .returned (.bool (colC (i, s.data.toList, k))) ∧ Below w.heap.size w w' := by
  have HN := Lib.hid (fun w' => rcname_any s w' hs)
  obtain ⟨n, hn⟩ : ∃ n, nameC s.data.toList = n := ⟨_, rfl⟩
  have HC := Lib.hid (show colC (i, s.data.toList, k) = (n && (columnB k && decide (1 ≤ i))) by unfold colC; rw [← hn])
  rw [HC.out]
  rw [hn] at HN
  obtain ⟨c, hc⟩ : ∃ c, columnB k = c := ⟨_, rfl⟩
  have HK := Lib.hid (fun w' => hc ▸ Val.rcolumn_any k w')
  rw [hc]
  clear HC hn hc
  go_enter Try.func23, Try.ntmps23
  go_wp2_with fail
  refine (HN.out _).mono ?_
  rintro e w1 ⟨rfl, hb⟩
  have c0 : w1.cell? ⟨w.heap.size, 0, none⟩ = some (.int .i64 i) := (hb.cell (p := ⟨w.heap.size, 0, none⟩) (by simp)).trans (by simp)
  have c2 : w1.cell? ⟨w.heap.size, 2, none⟩ = some (.int .i64 k) := (hb.cell (p := ⟨w.heap.size, 2, none⟩) (by simp)).trans (by simp)
  have B1 := Lib.hid (((Below.refl _ _).alloc (Nat.le_refl _) _).trans (hb.mono (by simp)))
  clear hb
  go_wp2_with fail
  refine (HK.out _).mono ?_
  rintro e w2 ⟨rfl, rfl⟩
  by_cases h1 : 1 ≤ i
  all_goals
    cases n
    all_goals
      cases c
      all_goals
        go_wp2
        go_ret
        exact ⟨by simp [h1], B1.out⟩
end Go.Proofs.Ytkibacolnagkcaa.Code
/-
  The document's Kinds and Alike of columns, and the law's Small and kinds.
-/
namespace Go.Proofs.Ytkibacolnagkcaa.Code
open Go.ChangeShapes Go.WideShapes Go.ChangeAt Go.RowKit Val Elems
set_option linter.unusedVariables false
set_option linter.unusedSimpArgs false
/-- a kind in one cell -/
def kc (k : Int) : List Value := [.int .i64 k]
theorem kc_length (n : Int) : (kc n).length = 1 := rfl
theorem kc_one (n : Int) : ∀ u ∈ kc n, u.oneCell' = true := by
  intro u hu
  simp [kc] at hu
  subst hu
  rfl
theorem at_kind {w : World} {B : Nat} {A : Option Addr} {l : List Int} (h : At kc 1 w B A l) (i : Nat) (hi : i < l.length) : ∃ ad : Addr, A = some ad ∧ ad.block < B ∧ w.cell? (ad.add (i * 1)) = some (.int .i64 l[i]) := by
  obtain ⟨ad, e, hb, h0⟩ := h i hi
  exact ⟨ad, e, hb, h0 0 _ rfl⟩
theorem kinds_take (l : List W) (i : Nat) (hi : i < l.length) : kindsC (l.take (i + 1)) = kindsC (l.take i) ++ [l[i].2.2] := by
  unfold kindsC
  rw [List.take_succ_eq_append_getElem hi, List.map_append]
  rfl
theorem info_kind : (Try.prog.info? 32).map (fun i => (i.zero, i.size, i.bytes)) = some (some (.int .i64 0), 1, 8) := by kernel_rfl
end Go.Proofs.Ytkibacolnagkcaa.Code
/-
  The document's Alike and Same of columns, and the law's Small and kinds.
-/
namespace Go.Proofs.Ytkibacolnagkcaa.Code
open Go.ChangeShapes Go.WideShapes Go.ChangeAt Go.RowKit Val Elems
set_option linter.unusedVariables false
set_option linter.unusedSimpArgs false
theorem alike_iff : ∀ (l m : List W), alikeC l m = true ↔ l.length = m.length ∧ ∀ (i : Nat) (h : i < l.length) (h' : i < m.length), l[i].2.1 = m[i].2.1 ∧ l[i].2.2 = m[i].2.2
  | [], [] => by simp [alikeC]
  | [], b :: m => by simp [alikeC]
  | a :: l, [] => by simp [alikeC]
  | a :: l, b :: m => by
    rw [alikeC, Bool.and_eq_true, Bool.and_eq_true, beq_iff_eq, beq_iff_eq, alike_iff l m]
    constructor
    · rintro ⟨h1, h2, h3⟩
      refine ⟨by simp [h2], fun i h h' => ?_⟩
      cases i with
      | zero => exact h1
      | succ i => exact h3 i (by simpa using h) (by simpa using h')
    · rintro ⟨h1, h2⟩
      refine ⟨h2 0 (by simp) (by simp), by simpa using h1, fun i h h' => ?_⟩
      exact h2 (i + 1) (by simp; omega) (by simp; omega)
theorem alike_no {l m : List W} (h : ¬ (l.length = m.length ∧ ∀ (i : Nat) (h : i < l.length) (h' : i < m.length), l[i].2.1 = m[i].2.1 ∧ l[i].2.2 = m[i].2.2)) : alikeC l m = false := by
  cases e : alikeC l m
  · rfl
  · exact absurd ((alike_iff l m).1 e) h
end Go.Proofs.Ytkibacolnagkcaa.Code
/-
  The law's Small and kinds, and the document's Same of columns.
-/
namespace Go.Proofs.Ytkibacolnagkcaa.Code
open Go.ChangeShapes Go.WideShapes Go.ChangeAt Go.RowKit Val Elems
set_option linter.unusedVariables false
set_option linter.unusedSimpArgs false
def smallC (l : List W) : Bool := decide (l.length ≤ 20) && l.all fun c => decide (c.2.1.length ≤ 100)
theorem small_no {l : List W} {i : Nat} (hi : i < l.length) (h : ¬ l[i].2.1.length ≤ 100) : smallC l = false := by
  cases e : smallC l
  · rfl
  · unfold smallC at e
    rw [Bool.and_eq_true, List.all_eq_true] at e
    have := e.2 l[i] (List.getElem_mem hi)
    simp at this
    omega
theorem small_yes {l : List W} (hl : l.length ≤ 20) (h : ∀ j (hj : j < l.length), l[j].2.1.length ≤ 100) : smallC l = true := by
  unfold smallC
  rw [Bool.and_eq_true, List.all_eq_true]
  refine ⟨by simpa using hl, fun c hc => ?_⟩
  obtain ⟨j, hj, rfl⟩ := List.getElem_of_mem hc
  simpa using h j hj
theorem small_long {l : List W} (hl : 20 < l.length) : smallC l = false := by
  unfold smallC
  have : decide (l.length ≤ 20) = false := by simp; omega
  rw [this, Bool.false_and]
set_option maxHeartbeats 4000000 in
set_option maxRecDepth 100000 in
theorem smallc_any (A : Option Addr) (cap : Nat) (l : List W) (w : World) (hv : At wc 3 w w.heap.size A l) (hl : l.length ≤ maxLen) :
    Calls Try.prog 6 #[.slice A l.length cap] w fun e w' => e = .returned (.bool (smallC l)) ∧ Below w.heap.size w w' := by
  have HV := Lib.hid hv
  have hm : (l.length : Int) ≤ 9223372036854775807 := by unfold maxLen at hl; omega
  clear hv hl
  go_enter Try.func6, Try.ntmps6
  go_wp2
  go_loopw [3] (fun t wr => ∃ i : Nat, i ≤ l.length ∧ i ≤ 21 ∧ t = .int .i64 i ∧ (∀ j (hj : j < l.length), j < i → l[j].2.1.length ≤ 100) ∧ Below w.heap.size w wr) (fun t _ => 21 - (intOf t).toNat)
  case atStart => exact ⟨0, by omega, by omega, rfl, fun j _ h => absurd h (by omega), Below.refl _ _⟩
  case round =>
    obtain ⟨i, hi, hi2, rfl, hyes, hbel⟩ := hrel
    have HL := Lib.hid hbel
    have HY := Lib.hid hyes
    have VA := Lib.hid (HV.out.below hbel)
    clear hbel hyes
    by_cases hil : i < l.length
    · by_cases h20 : i ≤ 20
      · obtain ⟨ad, rfl, ga, c0, c1, c2⟩ := at_word VA.out i hil
        obtain ⟨T, hT⟩ : ∃ T : ByteArray, ⟨l[i].2.1.toArray⟩ = T := ⟨_, rfl⟩
        have hsz : T.size = l[i].2.1.length := by rw [← hT]; simp [ByteArray.size]
        rw [hT] at c1
        clear hT
        by_cases h1 : T.size ≤ 100
        · have HH := Lib.hid h1
          have HS := Lib.hid hsz
          clear hsz
          go_wp2
          go_roundw
          case rel => exact ⟨i + 1, by omega, by omega, by go_num, fun j hj h => if e : j = i then by subst e; have := HS.out; have := HH.out; omega else HY.out j hj (by omega), HL.out⟩
          case measure => simp [intOf]; omega
        · have HN := Lib.hid (show smallC l = false from small_no hil (by omega))
          clear hsz
          go_wp2
          go_ret
          exact ⟨by rw [HN.out]; rfl, HL.out⟩
      · have HN := Lib.hid (show smallC l = false from small_long (by omega))
        go_wp2
        go_ret
        refine ⟨?_, HL.out⟩
        rw [HN.out]
        show Ending.returned (.bool (decide ((l.length : Int) ≤ 20))) = _
        rw [decide_eq_false (by omega)]
    · obtain rfl : i = l.length := by omega
      by_cases h20 : l.length ≤ 20
      · have HN := Lib.hid (show smallC l = true from small_yes h20 fun j h => HY.out j h h)
        go_wp2
        go_ret
        refine ⟨?_, HL.out⟩
        rw [HN.out]
        show Ending.returned (.bool (decide ((l.length : Int) ≤ 20))) = _
        rw [decide_eq_true (by omega)]
      · have HN := Lib.hid (show smallC l = false from small_long (by omega))
        go_wp2
        go_ret
        refine ⟨?_, HL.out⟩
        rw [HN.out]
        show Ending.returned (.bool (decide ((l.length : Int) ≤ 20))) = _
        rw [decide_eq_false (by omega)]
end Go.Proofs.Ytkibacolnagkcaa.Code
/-
  The contract of the law's Small.
-/
namespace Go.Proofs.Ytkibacolnagkcaa.Code
open Go.ChangeShapes Go.WideShapes Go.ChangeAt Go.RowKit Val
set_option linter.unusedVariables false

def smallB (l : List (Int × Int × ByteArray)) : Bool := decide (l.length ≤ 30) && decide (sizes l ≤ 600)
set_option maxHeartbeats 1000000 in
theorem small_any (A : Option Addr) (cap : Nat) (l : List (Int × Int × ByteArray)) (w : World) (hv : Vals w w.heap.size A l) (hs : Short l) (hl : l.length ≤ 140737488355328) :
    Calls Try.prog 7 #[.slice A l.length cap] w fun e w' => e = .returned (.bool (smallB l)) ∧ w = w' := by
  have HV := Lib.hid hv
  have HS := Lib.hid hs
  clear hv hs
  go_enter Try.func7, Try.ntmps7
  go_wp2
  go_loop [3, 4] (fun n i => ∃ k : Nat, k ≤ l.length ∧ k ≤ 31 ∧ i = .int .i64 k ∧ n = .int .i64 (sizes (l.take k) : Nat)) (fun _ i => 32 - (intOf i).toNat)
  case atStart => exact ⟨0, by omega, by omega, rfl, rfl⟩
  case round =>
    obtain ⟨k, hk, hk2, rfl, rfl⟩ := hrel
    have hz := sizes_le HS.out k
    by_cases hlt : k < l.length
    · by_cases h20 : k ≤ 30
      · obtain ⟨ad, rfl, hb, c0, c1, c2⟩ := HV.out k hlt
        have hz1 := HS.out l[k] (List.getElem_mem hlt)
        have HZ := Lib.hid (sizes_snoc l k hlt)
        go_wp2
        go_round
        case rel => exact ⟨k + 1, by omega, by omega, by go_num, by rw [HZ.out]; go_num⟩
        case measure => simp [intOf]; omega
      · have h20' : decide ((k : Int) ≤ 30) = false := by simp; omega
        have hb20 : decide ((l.length : Int) ≤ 30) = false := by simp; omega
        have HF := Lib.hid (show smallB l = false by unfold smallB; rw [decide_eq_false (by omega)]; rfl)
        go_wp2
        go_ret
        exact ⟨retB HF.out.symm, rfl⟩
    · obtain rfl : k = l.length := by omega
      rw [List.take_length] at *
      by_cases h20 : l.length ≤ 30
      · have h20' : decide ((l.length : Int) ≤ 30) = true := by simp; omega
        have HF := Lib.hid (show smallB l = decide (sizes l ≤ 600) by unfold smallB; rw [decide_eq_true h20]; rfl)
        go_wp2
        go_ret
        exact ⟨retB (by rw [HF.out]; exact decide_eq_decide.2 (by omega)), rfl⟩
      · have hb20 : decide ((l.length : Int) ≤ 30) = false := by simp; omega
        have HF := Lib.hid (show smallB l = false by unfold smallB; rw [decide_eq_false (by omega)]; rfl)
        go_wp2
        go_ret
        exact ⟨retB HF.out.symm, rfl⟩

end Go.Proofs.Ytkibacolnagkcaa.Code
