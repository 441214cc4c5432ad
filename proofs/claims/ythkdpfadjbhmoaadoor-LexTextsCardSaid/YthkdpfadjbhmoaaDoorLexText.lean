/-
  Contracts of lex's Text and of the document's.
-/
import Derived.Test.YthkdpfadjbhmoaaDoorLexSame
import Derived.Test.YthkdpfadjbhmoaaDoorSBlk
namespace Go.Proofs.YthkdpfadjbhmoaaDoor.Code
open Go.ChangeShapes Go.WideShapes Go.ChangeAt Go.RowKit Val Elems
set_option linter.unusedVariables false
/-- words whose texts are not too long to be shown -/
def FitW (l : List W) : Prop := ∀ w ∈ l, w.2.1.length ≤ 4194304
theorem fits0 : fits 0 := by unfold fits; omega
theorem showW_le {k : Int} {t : List UInt8} (h : t.length ≤ 4194304) : (showW k t).length ≤ 4194304 := by
  unfold showW
  split
  · have := show_length 4 0 ⟨t.toArray⟩ fits0
    omega
  · exact h
def stexts (l : List W) : List ByteArray := l.map fun w => ⟨(showW w.1 w.2.1).toArray⟩
theorem stexts_length (l : List W) : (stexts l).length = l.length := by simp [stexts]
theorem stexts_snoc (l : List W) (k : Nat) (h : k < l.length) : stexts (l.take (k + 1)) = stexts (l.take k) ++ [⟨(showW l[k].1 l[k].2.1).toArray⟩] := by
  unfold stexts
  rw [List.take_succ_eq_append_getElem h, List.map_append]
  rfl
theorem stexts_data (l : List W) : (stexts l).map (·.data.toList) = l.map fun w => showW w.1 w.2.1 := by
  unfold stexts
  rw [List.map_map]
  congr 1
theorem textL_length (l : List W) (h : FitW l) : (textL l).length ≤ 4194305 * l.length := by
  unfold textL
  cases l with
  | nil => simp [Lib.join_nil]
  | cons v l =>
    rw [List.map_cons, Lib.join_length]
    have := lens_le ((v :: l).map fun w => showW w.1 w.2.1) 4194304 (by intro x hx; obtain ⟨y, hy, rfl⟩ := List.mem_map.1 hx; exact showW_le (h y hy))
    simp only [List.map_cons, List.length_cons, List.length_map, List.length_nil] at *
    omega
/-- one word more, shown -/
theorem textL_step (l : List W) (k : Nat) (h : k < l.length) : (k = 0 → textL (l.take (k + 1)) = textL (l.take k) ++ showW l[k].1 l[k].2.1) ∧ (0 < k → textL (l.take (k + 1)) = textL (l.take k) ++ [32] ++ showW l[k].1 l[k].2.1) := by
  rw [List.take_succ_eq_append_getElem h]
  refine ⟨fun h0 => ?_, fun h0 => ?_⟩
  · subst h0
    rw [List.take_zero, List.nil_append, textL_one]
    rfl
  · rw [textL_snoc _ _ (by rw [List.length_take]; omega), List.append_assoc]
    rfl
set_option maxHeartbeats 4000000 in
set_option maxRecDepth 100000 in
theorem text_any (A : Option Addr) (cap : Nat) (l : List W) (m : Int) (w : World) (hv : At wc 3 w w.heap.size A l) (hf : FitW l) (hl : l.length ≤ 10000) (hg : Glob w.heap.size m w) :
    Calls Tryd.prog 14 #[.slice A l.length cap] w fun e w' => e = .returned (.string ⟨(textL l).toArray⟩) ∧ Below w.heap.size w w' := by
  have HV := Lib.hid hv
  have HF := Lib.hid hf
  have HG := Lib.hid hg
  have hjl := textL_length l hf
  clear hv hf hg
  obtain ⟨i0, hi0, hz0, hz1, hz2⟩ := info_parts info_str
  go_enter Tryd.func14, Tryd.ntmps14
  go_wp2_with (at_make; refine wpList_make_strs _ rfl _ _ 47 rfl 9 i0 Tryd.underlying47 hi0 hz0 hz1 hz2 _ _ _ _ l.length rfl rfl rfl rfl (by omega) ?_)
  have HB0 := Lib.hid (SBlk.fresh w l.length)
  have HL0 := Lib.hid (below_alloc w (.cells (Array.replicate l.length (Value.string ByteArray.empty)) 9))
  go_wp2
  go_loopw [11] (fun i wr => ∃ k : Nat, k ≤ l.length ∧ i = .int .i64 k ∧ SBlk wr w.heap.size (stexts (l.take k) ++ List.replicate (l.length - k) ByteArray.empty) ∧ Below w.heap.size w wr) (fun i _ => l.length - (intOf i).toNat)
  case atStart => exact ⟨0, by omega, rfl, by simpa [stexts] using HB0.out, HL0.out⟩
  case round =>
    obtain ⟨k, hk, rfl, hblk, hbel⟩ := hrel
    have hsz := hbel.size
    have hlt := hblk.lt
    have HL := Lib.hid hbel
    have HB := Lib.hid hblk
    have VA := Lib.hid (HV.out.below hbel)
    clear hbel hblk
    have HX := Lib.hid (show (stexts (l.take k)).length = k by rw [stexts_length, List.length_take_of_le hk])
    by_cases hkl : k < l.length
    · obtain ⟨ad, rfl, ha, c0, c1, c2⟩ := at_word VA.out k hkl
      have HS := Lib.hid (stexts_snoc l k hkl)
      have HE := Lib.hid (show (stexts (l.take k) ++ List.replicate (l.length - k) ByteArray.empty).set k ⟨(showW l[k].1 l[k].2.1).toArray⟩ = stexts (l.take (k + 1)) ++ List.replicate (l.length - (k + 1)) ByteArray.empty by
        have e := sfill_set (stexts (l.take k)) (l.length - k) (by omega) ⟨(showW l[k].1 l[k].2.1).toArray⟩
        rw [HX.out, Nat.sub_sub] at e
        rw [e, HS.out])
      have HY := Lib.hid (show ∀ T : ByteArray, ((stexts (l.take k) ++ List.replicate (l.length - k) ByteArray.empty).set k T).length = l.length by intro T; rw [List.length_set, List.length_append, HX.out]; simp; omega)
      have b0 : ∃ y, wr.cell? ⟨w.heap.size, k, none⟩ = some (.string y) := by
        have hlen : k < (stexts (l.take k) ++ List.replicate (l.length - k) ByteArray.empty).length := by rw [List.length_append, HX.out]; simp; omega
        exact ⟨_, HB.out.cell k _ (List.getElem?_eq_getElem hlen)⟩
      obtain ⟨y, b0⟩ := b0
      have f0 := HB.out.free k
      obtain ⟨x, hx⟩ : ∃ x, l[k] = x := ⟨_, rfl⟩
      rw [hx] at c0 c1 c2 HS HE
      clear hx
      obtain ⟨kk, t, p⟩ := x
      dsimp only at c0 c1 c2
      obtain ⟨T, hT⟩ : ∃ T : ByteArray, ⟨t.toArray⟩ = T := ⟨_, rfl⟩
      rw [hT] at c1
      have hlt2 : w.heap.size < wr.heap.size := hlt
      by_cases hk2 : kk = 2
      · subst hk2
        have hsh := fun w' hg => vshow_any 4 0 T m w' fits0 hg
        obtain ⟨S, hS⟩ : ∃ S : ByteArray, ⟨(showL 4 0 T).toArray⟩ = S := ⟨_, rfl⟩
        have hSW : (⟨(showW 2 t).toArray⟩ : ByteArray) = S := by unfold showW; rw [if_pos rfl, hT, hS]
        rw [hS] at hsh
        have HSH := Lib.hid hsh
        dsimp only at HE
        rw [hSW] at HE
        clear hsh hS hSW hT HS
        have L1 := Lib.hid ((HL.out.setCell (p := ⟨w.heap.size, k, none⟩) (Nat.le_refl _) (Value.string T)).alloc (by simpa using hsz) (.cells #[.int .i64 2, .string T, .int .i64 p] 35))
        have B1 := Lib.hid ((HB.out.set k T).call (below_alloc (wr.setCell ⟨w.heap.size, k, none⟩ (.string T)) (.cells #[.int .i64 2, .string T, .int .i64 p] 35)))
        go_wp2_with fail
        refine (HSH.out _ (HG.out.next L1.out)).mono ?_
        rintro e w1 ⟨rfl, hb1⟩
        have L2 := Lib.hid (bnext L1.out L1.out.size hb1)
        have B2 := Lib.hid (B1.out.call hb1)
        have z2 := B2.out.lt
        have b1 : ∃ y, w1.cell? ⟨w.heap.size, k, none⟩ = some (.string y) := by
          have hlen : k < ((stexts (l.take k) ++ List.replicate (l.length - k) ByteArray.empty).set k T).length := by rw [HY.out]; exact hkl
          exact ⟨_, B2.out.cell k _ (List.getElem?_eq_getElem hlen)⟩
        obtain ⟨y1, b1⟩ := b1
        have f1 := B2.out.free k
        clear hb1 c0 c1 c2 b0 f0 HSH
        go_wp2
        go_roundw
        case rel => exact ⟨k + 1, by omega, by go_num, by have h := B2.out.set k S; rw [List.set_set, HE.out] at h; exact h, L2.out.setCell (Nat.le_refl _) _⟩
        case measure => simp [intOf]; omega
      · have hSW : (⟨(showW kk t).toArray⟩ : ByteArray) = T := by unfold showW; rw [if_neg hk2, hT]
        have e2 : (kk == 2) = false := by simpa using hk2
        dsimp only at HE
        rw [hSW] at HE
        clear hSW hT HS hk2
        go_wp2
        go_roundw
        case rel => exact ⟨k + 1, by omega, by go_num, by have h := (HB.out.set k T).call (below_alloc (wr.setCell ⟨w.heap.size, k, none⟩ (.string T)) (.cells #[.int .i64 kk, .string T, .int .i64 p] 35)); rw [HE.out] at h; exact h, (HL.out.setCell (Nat.le_refl _) _).alloc (by simpa using hsz) _⟩
        case measure => simp [intOf]; omega
    · obtain rfl : k = l.length := by omega
      rw [List.take_length] at HB
      have HB2 := Lib.hid (show SBlk wr w.heap.size (stexts l) by simpa using HB.out)
      have hj := Tryd.strings_Join w.heap.size 0 l.length (stexts l) ⟨#[32]⟩ wr (fun j x hx => by rw [Nat.zero_add]; exact HB2.out.cell j x hx) hlt (by rw [stexts_length]; omega) (by rw [stexts_length]; exact Nat.le_refl _) (by rw [stexts_data]; show (textL l).length ≤ _; omega)
      rw [stexts_data, stexts_length] at hj
      obtain ⟨T, hT⟩ : ∃ T : ByteArray, T = ⟨(textL l).toArray⟩ := ⟨_, rfl⟩
      rw [show (⟨(Lib.join (l.map fun w => showW w.1 w.2.1) (⟨#[32]⟩ : ByteArray).data.toList).toArray⟩ : ByteArray) = T from hT.symm] at hj
      have HJ := Lib.hid hj
      have HT := Lib.hid hT
      clear hj hT
      go_wp2_with fail
      refine HJ.out.mono ?_
      rintro e w1 ⟨rfl, hb1⟩
      have L1 := Lib.hid (bnext HL.out hsz hb1)
      clear hb1
      go_wp2
      go_ret
      exact ⟨retS HT.out, L1.out⟩
set_option maxHeartbeats 4000000 in
set_option maxRecDepth 100000 in
theorem rtext_any (A : Option Addr) (cap : Nat) (l : List W) (w : World) (hv : At wc 3 w w.heap.size A l) (hf : FitW l) (hl : l.length ≤ 10000) :
    Calls Tryd.prog 15 #[.slice A l.length cap] w fun e w' => e = .returned (.string ⟨(textL l).toArray⟩) ∧ Below w.heap.size w w' := by
  have HV := Lib.hid hv
  have HF := Lib.hid hf
  clear hv hf
  go_enter Tryd.func15, Tryd.ntmps15
  go_wp2
  go_loopw [3, 4] (fun t i wr => ∃ (k : Nat) (T : ByteArray), k ≤ l.length ∧ i = .int .i64 k ∧ t = .string T ∧ T.size ≤ 4194305 * k ∧ Hid (T = ⟨(textL (l.take k)).toArray⟩) ∧ Below w.heap.size w wr) (fun _ i _ => l.length - (intOf i).toNat)
  case atStart => exact ⟨0, ⟨#[]⟩, by omega, rfl, rfl, by decide, Lib.hid rfl, Below.refl _ _⟩
  case round =>
    obtain ⟨k, T, hk, rfl, rfl, hTs, HT, hbel⟩ := hrel
    have hsz := hbel.size
    have HL := Lib.hid hbel
    have VA := Lib.hid (HV.out.below hbel)
    clear hbel
    by_cases hkl : k < l.length
    · obtain ⟨ad, rfl, ha, c0, c1, c2⟩ := at_word VA.out k hkl
      have HN := Lib.hid (HF.out l[k] (List.getElem_mem hkl))
      have HS0 := Lib.hid (textL_step l k hkl)
      obtain ⟨x, hx⟩ : ∃ x, l[k] = x := ⟨_, rfl⟩
      rw [hx] at c0 c1 c2 HN HS0
      clear hx
      obtain ⟨kk, t, p⟩ := x
      have hlS := showW_le (k := kk) HN.out
      dsimp only at c0 c1 c2 HN HS0 hlS
      obtain ⟨U, hU⟩ : ∃ U : ByteArray, ⟨t.toArray⟩ = U := ⟨_, rfl⟩
      rw [hU] at c1
      obtain ⟨S, hS⟩ : ∃ S : ByteArray, ⟨(showW kk t).toArray⟩ = S := ⟨_, rfl⟩
      have hSs : S.size ≤ 4194304 := by rw [← hS, size_list]; exact hlS
      have hSl : S.data.toList = showW kk t := by rw [← hS]
      rw [← hSl] at HS0
      clear hlS hSl
      by_cases hk2 : kk = 2
      · subst hk2
        have hSW : (⟨(showL 4 0 U).toArray⟩ : ByteArray) = S := by rw [← hS]; unfold showW; rw [if_pos rfl, hU]
        have hsh := fun w' => rvshow_any 4 0 U w' fits0
        rw [hSW] at hsh
        have HSH := Lib.hid hsh
        clear hsh hSW hS hU
        by_cases h0 : k = 0
        · subst h0
          rw [show ad.add (0 * 3) = ad by unfold Addr.add; rw [if_pos (by omega)]] at c0 c1 c2
          have HR := Lib.hid (show T ++ S = ⟨(textL (l.take 1)).toArray⟩ by rw [HT.out]; refine ba_of ?_; rw [Go.Joins.data_append]; exact (HS0.out.1 rfl).symm)
          go_wp2_with fail
          refine (HSH.out _).mono ?_
          rintro e w1 ⟨rfl, hb1⟩
          have L1 := Lib.hid (bnext HL.out hsz hb1)
          clear hb1 c0 c1 c2
          go_wp2
          go_roundw
          case rel => exact ⟨1, T ++ S, by omega, by go_num, rfl, by rw [ByteArray.size_append]; omega, HR, L1.out⟩
          case measure => simp [intOf]; omega
        · have e0 : decide (0 < (k : Int)) = true := by simp; omega
          have HR := Lib.hid (show T ++ ⟨#[32]⟩ ++ S = ⟨(textL (l.take (k + 1))).toArray⟩ by rw [HT.out]; refine ba_of ?_; rw [Go.Joins.data_append, Go.Joins.data_append]; exact (HS0.out.2 (by omega)).symm)
          have hk0 : 0 < k := by omega
          go_wp2_with fail
          refine (HSH.out _).mono ?_
          rintro e w1 ⟨rfl, hb1⟩
          have L1 := Lib.hid (bnext HL.out hsz hb1)
          clear hb1 c0 c1 c2
          go_wp2
          go_roundw
          case rel => exact ⟨k + 1, T ++ ⟨#[32]⟩ ++ S, by omega, by go_num, rfl, by rw [ByteArray.size_append, ByteArray.size_append]; show T.size + 1 + S.size ≤ _; omega, HR, L1.out⟩
          case measure => simp [intOf]; omega
      · have hSW : U = S := by rw [← hS, ← hU]; unfold showW; rw [if_neg hk2]
        subst hSW
        have e2 : (kk == 2) = false := by simpa using hk2
        clear hS hU hk2
        by_cases h0 : k = 0
        · subst h0
          rw [show ad.add (0 * 3) = ad by unfold Addr.add; rw [if_pos (by omega)]] at c0 c1 c2
          have HR := Lib.hid (show T ++ U = ⟨(textL (l.take 1)).toArray⟩ by rw [HT.out]; refine ba_of ?_; rw [Go.Joins.data_append]; exact (HS0.out.1 rfl).symm)
          go_wp2
          go_roundw
          case rel => exact ⟨1, T ++ U, by omega, by go_num, rfl, by rw [ByteArray.size_append]; omega, HR, HL.out⟩
          case measure => simp [intOf]; omega
        · have e0 : decide (0 < (k : Int)) = true := by simp; omega
          have HR := Lib.hid (show T ++ ⟨#[32]⟩ ++ U = ⟨(textL (l.take (k + 1))).toArray⟩ by rw [HT.out]; refine ba_of ?_; rw [Go.Joins.data_append, Go.Joins.data_append]; exact (HS0.out.2 (by omega)).symm)
          have hk0 : 0 < k := by omega
          go_wp2
          go_roundw
          case rel => exact ⟨k + 1, T ++ ⟨#[32]⟩ ++ U, by omega, by go_num, rfl, by rw [ByteArray.size_append, ByteArray.size_append]; show T.size + 1 + U.size ≤ _; omega, HR, HL.out⟩
          case measure => simp [intOf]; omega
    · obtain rfl : k = l.length := by omega
      rw [List.take_length] at HT
      go_wp2
      go_ret
      exact ⟨retS HT.out, HL.out⟩
end Go.Proofs.YthkdpfadjbhmoaaDoor.Code
