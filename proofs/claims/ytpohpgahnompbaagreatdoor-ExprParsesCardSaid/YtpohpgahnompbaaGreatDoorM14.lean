/-
  Contract of the document's Words.
-/
import Derived.Test.YtpohpgahnompbaaGreatDoorM13
import Derived.Deep.AppendLies
import Derived.Test.YtpohpgahnompbaaGreatDoorM8
import Derived.Test.YtpohpgahnompbaaGreatDoorM11
namespace Go.Proofs.YtpohpgahnompbaaGreatDoor.Code
open Go.ChangeShapes Go.WideShapes Go.ChangeAt Go.RowKit Val Elems
set_option linter.unusedVariables false
theorem info_rword : (Tryz.prog.info? 64).map (fun i => (i.zero, i.size, i.bytes)) = some (some (.agg #[.int .i64 0, .string ByteArray.empty, .int .i64 0]), 3, 32) := by kernel_rfl
theorem blank_yes {c : UInt8} (h : blankB c = true) : c = 32 ∨ c = 9 ∨ c = 10 := by
  unfold blankB at h
  simp only [Bool.or_eq_true, decide_eq_true_eq] at h
  rcases h with (h | h) | h
  · exact .inl (UInt8.toNat_inj.1 h)
  · exact .inr (.inl (UInt8.toNat_inj.1 h))
  · exact .inr (.inr (UInt8.toNat_inj.1 h))
theorem blank_no {c : UInt8} (h : blankB c = false) : ((c.toNat : Int) == 32) = false ∧ ((c.toNat : Int) == 9) = false ∧ ((c.toNat : Int) == 10) = false := by
  unfold blankB at h
  simp only [Bool.or_eq_false_iff, decide_eq_false_iff_not] at h
  obtain ⟨⟨h1, h2⟩, h3⟩ := h
  refine ⟨?_, ?_, ?_⟩ <;> (simp; omega)
set_option maxHeartbeats 4000000 in
set_option maxRecDepth 100000 in
theorem rwords_any (s : ByteArray) (w : World) (hs : s.size ≤ 4194304) :
    Calls Tryz.prog 14 #[.string s] w (WordsPost w s.data.toList) := by
  obtain ⟨i0, hi0, hz0, hz1, hz2⟩ := info_parts info_rword
  go_enter Tryz.func14, Tryz.ntmps14
  go_wp2
  go_loopw [5, 6] (fun v t wr => ∃ (i : Nat) (a : List W), i ≤ s.size ∧ t = .int .i64 i ∧ Hid (WAt s.data.toList i a) ∧ a.length ≤ i ∧ wr.ownsRow w.heap.size 64 3 v a.length (flatC wc a) ∧ Below w.heap.size w wr) (fun _ t _ => s.size - (intOf t).toNat)
  case atStart => exact ⟨0, [], by omega, rfl, Lib.hid (WAt.start _), by simp, World.ownsRow_nil _ _ _ _, Below.refl _ _⟩
  case round =>
    obtain ⟨i, a, hi, rfl, HK, hai, hown, hbel⟩ := hrel
    have hsz := hbel.size
    have HO := Lib.hid hown
    have HL := Lib.hid hbel
    clear hown hbel
    by_cases hil : i < s.size
    · obtain ⟨c, hc⟩ : ∃ c, s[i] = c := ⟨_, rfl⟩
      have hg := (list_get s i hil hil).trans hc
      obtain ⟨b, hb⟩ : ∃ b, blankB c = b := ⟨_, rfl⟩
      cases b
      · obtain ⟨S, hS⟩ : ∃ S, s.extract i s.size = S := ⟨_, rfl⟩
        have hsl := cut_from s i i rfl hi
        rw [hS] at hsl
        have hSl : S.data.toList = s.data.toList.drop i := by rw [← hS]; exact from_list s i
        have hSs : S.size = s.size - i := by rw [size_list, hSl, List.length_drop, ← size_list]
        have HSL := Lib.hid hSl
        have HG := Lib.hid hg
        clear hS hSl hg
        obtain ⟨j32, j9, j10⟩ := blank_no hb
        go_wp2_with fail
        refine (one8_any S _ (by omega) (by omega)).mono ?_
        rintro e w1 ⟨⟨k, t, n, rfl, hcase⟩, hb1⟩
        rw [HSL.out] at hcase
        have L1 := Lib.hid (bnext HL.out hsz hb1)
        have O1 := Lib.hid (own_call HO.out hb1)
        have hzw := L1.out.size
        clear hb1
        rcases hcase with ⟨hno, rfl⟩ | hyes
        · have HD := Lib.hid (HK.out.none hil (by rw [HG.out]; exact hb) hno)
          clear hno
          go_wp2
          go_ret3
          exact words_no HD.out (L1.out.alloc hzw _)
        · have hn := first_n hyes
          have hcz : ((n : Int) == 0) = false := by simp; omega
          have hni : i + n ≤ s.size := by have := hn.2; rw [List.length_drop, ← size_list] at this; omega
          have HD := Lib.hid (HK.out.one hil hyes)
          have HW := Lib.hid (show wc (k, t.data.toList, (i : Int)) = [.int .i64 k, .string t, .int .i64 (i : Int)] by unfold wc; rw [Lib.mk_data])
          have hn1 := hn.1
          clear hyes hn
          go_wp2_with (at_builtin; refine wpList_append_own _ rfl _ _ 40 rfl w.heap.size 64 i0 (.agg #[.int .i64 0, .string ByteArray.empty, .int .i64 0]) 3 32 Tryz.underlying40 hi0 hz0 hz1 hz2 rfl (by decide) _ _ _ rfl ((O1.out.alloc _).alloc _) ⟨w1.heap.size + 1, 0, none⟩ 1 1 [.int .i64 k, .string t, .int .i64 (i : Int)] rfl rfl ?c1 ?c2 ?c3 ?c4 ?c5 ?_)
          case c1 => exact roww_new _ _ _ _ _ _
          case c2 => rw [← HW.out]; exact wc_one _
          case c3 => unfold maxLen; omega
          case c4 => omega
          case c5 => simp; omega
          intro v' w2 hown' hgrow _
          have O2 := Lib.hid (show w2.ownsRow w.heap.size 64 3 v' (a ++ [(k, t.data.toList, (i : Int))]).length (flatC wc (a ++ [(k, t.data.toList, (i : Int))])) by rw [flatC_snoc, List.length_append, HW.out]; exact hown')
          have L2 := Lib.hid (((L1.out.alloc hzw _).alloc (by simp; omega) _).grown hgrow (by simp; omega) (fun g hg => (O1.out.lt g hg).1))
          clear hown' hgrow
          go_wp2
          go_roundw
          case rel => exact ⟨i + n, a ++ [(k, t.data.toList, (i : Int))], by omega, by go_num, HD, by rw [List.length_append]; simp; omega, O2.out, L2.out⟩
          case measure => simp [intOf]; omega
      · have HD := Lib.hid (HK.out.blank hil (by rw [hg]; exact hb))
        clear hg
        rcases blank_yes hb with rfl | rfl | rfl
        · go_wp2
          go_roundw
          case rel => exact ⟨i + 1, a, by omega, by go_num, HD, by omega, HO.out, HL.out⟩
          case measure => simp [intOf]; omega
        · go_wp2
          go_roundw
          case rel => exact ⟨i + 1, a, by omega, by go_num, HD, by omega, HO.out, HL.out⟩
          case measure => simp [intOf]; omega
        · go_wp2
          go_roundw
          case rel => exact ⟨i + 1, a, by omega, by go_num, HD, by omega, HO.out, HL.out⟩
          case measure => simp [intOf]; omega
    · have HD := Lib.hid (HK.out.done (by rw [← size_list]; omega))
      go_wp2
      go_ret3
      exact words_yes HD.out HO.out HL.out
end Go.Proofs.YtpohpgahnompbaaGreatDoor.Code

/-
  Contracts of the law's To and Same, and of Own, the program's and the document's.
-/
namespace Go.Proofs.YtpohpgahnompbaaGreatDoor.Code
open Go.ChangeShapes Go.WideShapes Go.ChangeAt Go.RowKit Val Elems
set_option linter.unusedVariables false
theorem at_word {w : World} {B : Nat} {A : Option Addr} {l : List W} (h : At wc 3 w B A l) (i : Nat) (hi : i < l.length) :
    ∃ ad : Addr, A = some ad ∧ ad.block < B ∧ w.cell? (ad.add (i * 3)) = some (.int .i64 l[i].1) ∧ w.cell? ⟨(ad.add (i * 3)).block, (ad.add (i * 3)).off + 1, none⟩ = some (.string ⟨l[i].2.1.toArray⟩) ∧ w.cell? ⟨(ad.add (i * 3)).block, (ad.add (i * 3)).off + 2, none⟩ = some (.int .i64 l[i].2.2) := by
  obtain ⟨ad, e, hb, h0⟩ := h i hi
  refine ⟨ad, e, hb, h0 0 _ rfl, ?_, ?_⟩
  · rw [← add_next]; exact h0 1 _ rfl
  · rw [← add_next]; exact h0 2 _ rfl
/-- is it one of the language's own names? -/
def ownB (s : List UInt8) : Bool := s == [116, 114, 117, 101] || (s == [102, 97, 108, 115, 101] || (s == [110, 117, 108, 108] || (s == [97, 110, 100] || (s == [111, 114] || (s == [110, 111, 116] || s == [105, 115])))))
set_option maxHeartbeats 4000000 in
theorem own_any (s : ByteArray) (w : World) :
    Calls Tryz.prog 94 #[.string s] w fun e w' => e = .returned (.bool (ownB s.toList)) ∧ w = w' := by
  obtain ⟨b1, h1⟩ : ∃ b, (s.toList == [116, 114, 117, 101]) = b := ⟨_, rfl⟩
  obtain ⟨b2, h2⟩ : ∃ b, (s.toList == [102, 97, 108, 115, 101]) = b := ⟨_, rfl⟩
  obtain ⟨b3, h3⟩ : ∃ b, (s.toList == [110, 117, 108, 108]) = b := ⟨_, rfl⟩
  obtain ⟨b4, h4⟩ : ∃ b, (s.toList == [97, 110, 100]) = b := ⟨_, rfl⟩
  obtain ⟨b5, h5⟩ : ∃ b, (s.toList == [111, 114]) = b := ⟨_, rfl⟩
  obtain ⟨b6, h6⟩ : ∃ b, (s.toList == [110, 111, 116]) = b := ⟨_, rfl⟩
  obtain ⟨b7, h7⟩ : ∃ b, (s.toList == [105, 115]) = b := ⟨_, rfl⟩
  have HX := Lib.hid (show ownB s.toList = (b1 || (b2 || (b3 || (b4 || (b5 || (b6 || b7)))))) by unfold ownB; rw [h1, h2, h3, h4, h5, h6, h7])
  rw [HX.out]
  clear HX
  cases b1
  · cases b2
    · cases b3
      · cases b4
        · cases b5
          · cases b6
            · cases b7
              all_goals (go_enter Tryz.func94, Tryz.ntmps94; go_wp2; go_ret; exact ⟨rfl, rfl⟩)
            · (go_enter Tryz.func94, Tryz.ntmps94; go_wp2; go_ret; exact ⟨rfl, rfl⟩)
          · (go_enter Tryz.func94, Tryz.ntmps94; go_wp2; go_ret; exact ⟨rfl, rfl⟩)
        · (go_enter Tryz.func94, Tryz.ntmps94; go_wp2; go_ret; exact ⟨rfl, rfl⟩)
      · (go_enter Tryz.func94, Tryz.ntmps94; go_wp2; go_ret; exact ⟨rfl, rfl⟩)
    · (go_enter Tryz.func94, Tryz.ntmps94; go_wp2; go_ret; exact ⟨rfl, rfl⟩)
  · (go_enter Tryz.func94, Tryz.ntmps94; go_wp2; go_ret; exact ⟨rfl, rfl⟩)
set_option maxHeartbeats 4000000 in
theorem rown_any (s : ByteArray) (w : World) :
    Calls Tryz.prog 82 #[.string s] w fun e w' => e = .returned (.bool (ownB s.toList)) ∧ w = w' := by
  obtain ⟨b1, h1⟩ : ∃ b, (s.toList == [116, 114, 117, 101]) = b := ⟨_, rfl⟩
  obtain ⟨b2, h2⟩ : ∃ b, (s.toList == [102, 97, 108, 115, 101]) = b := ⟨_, rfl⟩
  obtain ⟨b3, h3⟩ : ∃ b, (s.toList == [110, 117, 108, 108]) = b := ⟨_, rfl⟩
  obtain ⟨b4, h4⟩ : ∃ b, (s.toList == [97, 110, 100]) = b := ⟨_, rfl⟩
  obtain ⟨b5, h5⟩ : ∃ b, (s.toList == [111, 114]) = b := ⟨_, rfl⟩
  obtain ⟨b6, h6⟩ : ∃ b, (s.toList == [110, 111, 116]) = b := ⟨_, rfl⟩
  obtain ⟨b7, h7⟩ : ∃ b, (s.toList == [105, 115]) = b := ⟨_, rfl⟩
  have HX := Lib.hid (show ownB s.toList = (b1 || (b2 || (b3 || (b4 || (b5 || (b6 || b7)))))) by unfold ownB; rw [h1, h2, h3, h4, h5, h6, h7])
  rw [HX.out]
  clear HX
  cases b1
  · cases b2
    · cases b3
      · cases b4
        · cases b5
          · cases b6
            · cases b7
              all_goals (go_enter Tryz.func82, Tryz.ntmps82; go_wp2; go_ret; exact ⟨rfl, rfl⟩)
            · (go_enter Tryz.func82, Tryz.ntmps82; go_wp2; go_ret; exact ⟨rfl, rfl⟩)
          · (go_enter Tryz.func82, Tryz.ntmps82; go_wp2; go_ret; exact ⟨rfl, rfl⟩)
        · (go_enter Tryz.func82, Tryz.ntmps82; go_wp2; go_ret; exact ⟨rfl, rfl⟩)
      · (go_enter Tryz.func82, Tryz.ntmps82; go_wp2; go_ret; exact ⟨rfl, rfl⟩)
    · (go_enter Tryz.func82, Tryz.ntmps82; go_wp2; go_ret; exact ⟨rfl, rfl⟩)
  · (go_enter Tryz.func82, Tryz.ntmps82; go_wp2; go_ret; exact ⟨rfl, rfl⟩)
end Go.Proofs.YtpohpgahnompbaaGreatDoor.Code

/-
  Contracts of the document's reader of words: what comes, and what is taken.
-/
namespace Go.Proofs.YtpohpgahnompbaaGreatDoor.Code
open Go.ChangeShapes Go.WideShapes Go.ChangeAt Go.RowKit Val Elems
set_option linter.unusedVariables false
set_option linter.unusedSimpArgs false
theorem own_list (s : ByteArray) : ownB s.toList = ownL s.data.toList := by
  rw [ByteArray.toList_eq]
  rfl
theorem isW_at {l : List W} {i : Nat} (h : i < l.length) (b : Bool) (s : List UInt8) : isW (bare l) i b s = (!b && l[i].2.1 == s && (l[i].1 == 3 || ownL s && l[i].1 == 0)) := by
  unfold isW
  rw [bare_get h]
theorem isW_off {l : List W} {i : Nat} (h : ¬ i < l.length) (b : Bool) (s : List UInt8) : isW (bare l) i b s = false := by
  unfold isW
  rw [bare_none h]
theorem isK_at {l : List W} {i : Nat} (h : i < l.length) (b : Bool) (k : Int) : isK (bare l) i b k = (!b && l[i].1 == k) := by
  unfold isK
  rw [bare_get h]
theorem isK_off {l : List W} {i : Nat} (h : ¬ i < l.length) (b : Bool) (k : Int) : isK (bare l) i b k = false := by
  unfold isK
  rw [bare_none h]
theorem isW_bad {L : List V} {i : Nat} (s : List UInt8) : isW L i true s = false := by
  unfold isW
  split <;> rfl
theorem isK_bad {L : List V} {i : Nat} (k : Int) : isK L i true k = false := by
  unfold isK
  split <;> rfl
set_option maxHeartbeats 4000000 in
set_option maxRecDepth 100000 in
theorem ris_any (r : Nat) (A : Option Addr) (cap : Nat) (l : List W) (i : Nat) (b : Bool) (s : ByteArray) (w : World) (h : Rdr w r A cap l i b) (hi : i ≤ l.length) (hl : l.length ≤ 4194304) :
    Calls Tryz.prog 66 #[.pointer (some ⟨r, 0, none⟩), .string s] w fun e w' => e = .returned (.bool (isW (bare l) i b s.data.toList)) ∧ Below w.heap.size w w' := by
  have HW := Lib.hid h.ws
  obtain ⟨c0, c1, c2, -, -⟩ := h
  cases b
  · by_cases hil : i < l.length
    · have hx := isW_at hil false s.data.toList
      obtain ⟨ad, rfl, ha, d0, d1, d2⟩ := at_word HW.out i hil
      obtain ⟨x, hxx⟩ : ∃ x, l[i] = x := ⟨_, rfl⟩
      rw [hxx] at d0 d1 d2 hx
      obtain ⟨k, t, p⟩ := x
      dsimp only at d0 d1 d2 hx
      obtain ⟨T, hT⟩ : ∃ T : ByteArray, ⟨t.toArray⟩ = T := ⟨_, rfl⟩
      have hTt : t = T.data.toList := by rw [← hT]
      rw [hT] at d1
      clear hxx hT d2
      by_cases hts : T = s
      · subst hts
        obtain ⟨ow, how⟩ : ∃ ow, ownL T.data.toList = ow := ⟨_, rfl⟩
        have HO := Lib.hid (fun w => rown_any T w)
        rw [own_list, how] at HO
        rw [hTt, how] at hx
        have hx2 : isW (bare l) i false T.data.toList = (k == 3 || ow && k == 0) := by rw [hx]; simp
        rw [hx2]
        clear hx hx2 hTt how
        cases hk3 : k == 3
        · cases ow
          · go_enter Tryz.func66, Tryz.ntmps66
            go_wp2
            go_quiet (fail)
            go_wp2_with fail
            refine (HO.out _).mono ?_
            rintro e w1 ⟨rfl, rfl⟩
            go_wp2
            go_quiet (fail)
            go_wp2
            go_ret
            exact ⟨rfl, drewN_below (drewN_below (Below.refl _ _) _) _⟩
          · go_enter Tryz.func66, Tryz.ntmps66
            go_wp2
            go_quiet (fail)
            go_wp2_with fail
            refine (HO.out _).mono ?_
            rintro e w1 ⟨rfl, rfl⟩
            go_wp2
            go_quiet (fail)
            go_wp2
            go_ret
            exact ⟨retB (by simp), drewN_below (drewN_below (Below.refl _ _) _) _⟩
        · go_enter Tryz.func66, Tryz.ntmps66
          go_wp2
          go_quiet (fail)
          go_wp2_with fail
          refine (HO.out _).mono ?_
          rintro e w1 ⟨rfl, rfl⟩
          go_wp2
          go_quiet (fail)
          go_wp2
          go_ret
          exact ⟨rfl, drewN_below (drewN_below (Below.refl _ _) _) _⟩
      · have f2 := toList_ne hts
        have hne : ¬ t = s.data.toList := by
          intro e
          rw [hTt] at e
          exact hts (by rw [← Lib.mk_data T, e, Lib.mk_data])
        have hx2 : isW (bare l) i false s.data.toList = false := by rw [hx]; simp [hne]
        rw [hx2]
        clear hx hx2 hTt hts hne
        go_enter Tryz.func66, Tryz.ntmps66
        go_wp2
        go_quiet (fail)
        go_wp2
        go_ret
        exact ⟨rfl, drewN_below (Below.refl _ _) _⟩
    · rw [isW_off hil]
      have e0 : decide ((l.length : Int) ≤ (i : Int)) = true := by simp; omega
      have e1 : decide (l.length ≤ i) = true := by simp; omega
      have e2 : decide ((i : Int) < 0) = false := by simp
      clear hil
      go_enter Tryz.func66, Tryz.ntmps66
      go_wp2
      refine wp_region_quiet_lit (by kernel_rfl) (by kernel_rfl) ?_
      repeat (with_reducible refine wpQuiet_step ?_; intro K hK; go_simp; with_reducible refine hK _ ?_; clear hK K)
      refine wpQuiet_nil ?_
      intro _ hw'
      obtain ⟨nq, hw''⟩ := hw'
      subst hw''
      go_wp2
      go_ret
      exact ⟨rfl, drewN_below (Below.refl _ _) _⟩
  · rw [isW_bad]
    go_enter Tryz.func66, Tryz.ntmps66
    go_wp2
    refine wp_region_quiet_lit (by kernel_rfl) (by kernel_rfl) ?_
    repeat (with_reducible refine wpQuiet_step ?_; intro K hK; go_simp; with_reducible refine hK _ ?_; clear hK K)
    refine wpQuiet_nil ?_
    intro _ hw'
    obtain ⟨nq, hw''⟩ := hw'
    subst hw''
    go_wp2
    go_ret
    exact ⟨rfl, drewN_below (Below.refl _ _) _⟩
end Go.Proofs.YtpohpgahnompbaaGreatDoor.Code

/-
  Contracts of the document's reader of words: what is taken, what must come.
-/
namespace Go.Proofs.YtpohpgahnompbaaGreatDoor.Code
open Go.ChangeShapes Go.WideShapes Go.ChangeAt Go.RowKit Val Elems
set_option linter.unusedVariables false
set_option linter.unusedSimpArgs false
theorem isW_len {l : List W} {i : Nat} {b : Bool} {s : List UInt8} (h : isW (bare l) i b s = true) : i < l.length := by
  have := isW_lt h
  rwa [bare_length] at this
set_option maxHeartbeats 4000000 in
set_option maxRecDepth 100000 in
theorem rtake_any (r : Nat) (A : Option Addr) (cap : Nat) (l : List W) (i : Nat) (b : Bool) (s : ByteArray) (q : Bool) (hq : isW (bare l) i b s.data.toList = q) (w : World) (h : Rdr w r A cap l i b) (hi : i ≤ l.length) (hl : l.length ≤ 4194304) :
    Calls Tryz.prog 42 #[.pointer (some ⟨r, 0, none⟩), .string s] w fun e w' => e = .returned (.bool q) ∧ But w w' r ∧ Rdr w' r A cap l (if q = true then i + 1 else i) b := by
  have HI := Lib.hid (ris_any r A cap l i b s w h hi hl)
  rw [hq] at HI
  have HR := Lib.hid h
  clear h
  cases q
  · go_enter Tryz.func42, Tryz.ntmps42
    go_wp2_with fail
    refine HI.out.mono ?_
    rintro e w1 ⟨rfl, hb1⟩
    have R1 := Lib.hid (HR.out.below hb1)
    have B1 := Lib.hid (But.of hb1 r)
    clear hb1
    go_wp2
    go_ret
    exact ⟨rfl, B1.out, R1.out⟩
  · have hil := isW_len hq
    clear hq
    go_enter Tryz.func42, Tryz.ntmps42
    go_wp2_with fail
    refine HI.out.mono ?_
    rintro e w1 ⟨rfl, hb1⟩
    have R1 := Lib.hid (HR.out.below hb1)
    have B1 := Lib.hid (But.of hb1 r)
    have c1 := R1.out.c1
    have fr := R1.out.fr 1
    clear hb1
    go_wp2
    go_ret
    refine ⟨rfl, B1.out.setCell 1 _, ?_⟩
    have := R1.out.at (i + 1)
    rw [Int.natCast_add] at this
    exact this
set_option maxHeartbeats 4000000 in
set_option maxRecDepth 100000 in
theorem rmust_any (r : Nat) (A : Option Addr) (cap : Nat) (l : List W) (i : Nat) (b : Bool) (s : ByteArray) (q : Bool) (hq : isW (bare l) i b s.data.toList = q) (w : World) (h : Rdr w r A cap l i b) (hi : i ≤ l.length) (hl : l.length ≤ 4194304) :
    Calls Tryz.prog 62 #[.pointer (some ⟨r, 0, none⟩), .string s] w fun e w' => e = .returned (.tuple #[]) ∧ But w w' r ∧ Rdr w' r A cap l (if q = true then i + 1 else i) (if q = true then b else true) := by
  have HI := Lib.hid (rtake_any r A cap l i b s q hq w h hi hl)
  clear h
  cases q
  · go_enter Tryz.func62, Tryz.ntmps62
    go_wp2_with fail
    refine HI.out.mono ?_
    rintro e w1 ⟨rfl, hb1, hr1⟩
    have R1 := Lib.hid hr1
    have B1 := Lib.hid hb1
    have c2 := R1.out.c2
    have fr := R1.out.fr 2
    clear hb1 hr1
    go_wp2
    go_end0
    exact ⟨rfl, B1.out.setCell 2 _, R1.out.wrong⟩
  · go_enter Tryz.func62, Tryz.ntmps62
    go_wp2_with fail
    refine HI.out.mono ?_
    rintro e w1 ⟨rfl, hb1, hr1⟩
    have R1 := Lib.hid hr1
    have B1 := Lib.hid hb1
    clear hb1 hr1
    go_wp2
    go_end0
    exact ⟨rfl, B1.out, R1.out⟩
end Go.Proofs.YtpohpgahnompbaaGreatDoor.Code

/-
  Contracts of the document's Figures below 0, and of its Show of one value.
-/
namespace Go.Proofs.YtpohpgahnompbaaGreatDoor.Code
open Go.ChangeShapes Go.WideShapes Go.ChangeAt Go.RowKit Val
set_option linter.unusedVariables false

set_option maxHeartbeats 400000 in
set_option maxRecDepth 100000 in
/-- .. of one below 0 -/
theorem figures_neg : ∀ (N u : Nat), u < N → 1 ≤ u → u ≤ 9223372036854775808 → ∀ w : World,
    Calls Tryz.prog 81 #[.int .i64 (-(u : Int))] w fun e w' => e = .returned (.string ⟨(45 :: Lib.decDigits u).toArray⟩) ∧ Below w.heap.size w w'
  | 0, u, h, _, _, _ => absurd h (Nat.not_lt_zero u)
  | N + 1, u, h, h1, hu, w => by
    by_cases h10 : u < 10
    · have HP := Lib.hid (figures_pos (u + 1) u (by omega) (by omega))
      have hL : (Lib.decDigits u).length ≤ 21 := by have := Lib.itoa_length_le (u : Nat) (by omega) (by omega); rwa [itoa_pos] at this
      go_enter Tryz.func81, Tryz.ntmps81
      go_wp2_with fail
      refine (HP.out _).mono ?_
      rintro e w1 ⟨rfl, hb1⟩
      have L1 := Lib.hid hb1
      clear hb1
      go_wp2
      go_ret
      exact ⟨retS (strCat [45] _), L1.out⟩
    · have IH := Lib.hid (figures_neg N (u / 10) (by omega) (by omega) (by omega))
      have HS2 := Lib.hid (dec_big u (by omega))
      have hL := Lib.itoa_length_le (u / 10 : Nat) (by omega) (by omega)
      rw [itoa_pos] at hL
      obtain ⟨q, hq⟩ : ∃ q, u / 10 = q := ⟨_, rfl⟩
      obtain ⟨r, hr⟩ : ∃ r, u % 10 = r := ⟨_, rfl⟩
      have hr10 : r < 10 := by omega
      have hq2 : q ≤ 922337203685477580 := by omega
      have eq1 : (-(u : Int)).tdiv 10 = -(q : Int) := by rw [Int.neg_tdiv, Int.tdiv_eq_ediv_of_nonneg (by omega)]; omega
      have eq2 : (-(u : Int)).tmod 10 = -(r : Int) := by rw [Int.neg_tmod, Int.tmod_eq_emod_of_nonneg (by omega)]; omega
      have eq3 : (u : Int).tdiv 10 = (q : Int) := by rw [Int.tdiv_eq_ediv_of_nonneg (by omega)]; omega
      have eq4 : (u : Int).tmod 10 = (r : Int) := by rw [Int.tmod_eq_emod_of_nonneg (by omega)]; omega
      have hsl := cut_at ⟨#[48, 49, 50, 51, 52, 53, 54, 55, 56, 57]⟩ r (r + 1) r (r + 1) rfl (by omega) (by omega) (by show r + 1 ≤ 10; omega)
      obtain ⟨d, hd⟩ : ∃ d, UInt8.ofNat (48 + r) = d := ⟨_, rfl⟩
      rw [dig_at r hr10, hd] at hsl
      rw [hq] at IH HS2 hL
      rw [hr, hd] at HS2
      obtain ⟨T, hT⟩ : ∃ T : ByteArray, T = ⟨(45 :: Lib.decDigits q).toArray⟩ := ⟨_, rfl⟩
      have hTs : T.size ≤ 22 := by rw [hT, size_list]; simp; omega
      have hadd := fun w => run_string_add_sum (P := Tryz.prog) w T ⟨#[d]⟩ (by show T.size + 1 ≤ _; omega)
      have hT3 : ¬ (9223372036854775807 ≤ T.size) := by omega
      rw [← hT] at IH
      have HT := Lib.hid hT
      clear hT hL
      have w0 : IntKind.i64.wrap (-(q : Int)) = -(q : Int) := by rw [IntKind.wrap_i64]; omega
      have w1 : IntKind.i64.wrap (-(r : Int)) = -(r : Int) := by rw [IntKind.wrap_i64]; omega
      have w2 : IntKind.i64.wrap (r : Int) = (r : Int) := by rw [IntKind.wrap_i64]; omega
      have w3 : IntKind.i64.wrap ((r : Int) + 1) = (r : Int) + 1 := by rw [IntKind.wrap_i64]; omega
      clear hq hr hd
      go_enter Tryz.func81, Tryz.ntmps81
      go_wp2_with fail
      go_region_held3 (fun w' => True ∧ Below w.heap.size w w')
        (first | assumption | (refine keepP hb5 (by assumption) ?_; intro kk; trivial) | (exact ⟨trivial, Below.drew (Below.refl _ _)⟩))
        (first | (go_at_call 81; refine (IH.out _).mono ?_; rintro e w5 ⟨rfl, hb5⟩))
      all_goals
        have M1 := Lib.hid (show Below w.heap.size w _ by rename_i hS; exact hS.2)
        go_wp2
        go_ret
        exact ⟨retS (by rw [HS2.out, HT.out]; exact strCat (45 :: Lib.decDigits q) [d]), M1.out⟩
theorem figures_any (n : Int) (hn : fits n) (w : World) :
    Calls Tryz.prog 81 #[.int .i64 n] w fun e w' => e = .returned (.string ⟨(Lib.itoa n).toArray⟩) ∧ Below w.heap.size w w' := by
  unfold fits at hn
  by_cases h : 0 ≤ n
  · obtain ⟨u, rfl⟩ : ∃ u : Nat, n = u := ⟨n.toNat, by omega⟩
    rw [itoa_pos]
    exact figures_pos (u + 1) u (by omega) (by omega) w
  · obtain ⟨u, rfl⟩ : ∃ u : Nat, n = -(u : Int) := ⟨n.natAbs, by omega⟩
    rw [Lib.itoa_neg u (by omega)]
    exact figures_neg (u + 1) u (by omega) (by omega) (by omega) w
end Go.Proofs.YtpohpgahnompbaaGreatDoor.Code
