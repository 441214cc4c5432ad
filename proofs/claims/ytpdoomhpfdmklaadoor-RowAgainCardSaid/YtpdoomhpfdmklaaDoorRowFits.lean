/-
  Contracts of row.Fits and of the document's Fits of rows.
-/
import Derived.Test.YtpdoomhpfdmklaaDoorRowVFits
import Derived.Test.YtpdoomhpfdmklaaDoorRowSmall
namespace Go.Proofs.YtpdoomhpfdmklaaDoor.Code
open Go.ChangeShapes Go.WideShapes Go.ChangeAt Go.RowKit Val
set_option linter.unusedVariables false

def fitZ (l : List (Int × Int × ByteArray)) (ks : List Int) : List Bool := List.zipWith (fun v c => fitV1 v.1 v.2.1 v.2.2 c) l ks
/-- whether a row may be in a table of kinds -/
def rowFits (l : List (Int × Int × ByteArray)) (ks : List Int) : Bool := decide (l.length = ks.length) && (decide (l.length ≤ 24) && (fitZ l ks).all id)
theorem fitZ_snoc (l : List (Int × Int × ByteArray)) (ks : List Int) (k : Nat) (h : k < l.length) (g : k < ks.length) :
    ((fitZ l ks).take (k + 1)).all id = (((fitZ l ks).take k).all id && fitV1 l[k].1 l[k].2.1 l[k].2.2 ks[k]) := by
  have hz : k < (fitZ l ks).length := by unfold fitZ; rw [List.length_zipWith]; omega
  rw [List.take_succ_eq_append_getElem hz, List.all_append]
  simp [fitZ]
theorem fitZ_no {l : List (Int × Int × ByteArray)} {ks : List Int} {k : Nat} (h : k < l.length) (g : k < ks.length) (hf : fitV1 l[k].1 l[k].2.1 l[k].2.2 ks[k] = false) : rowFits l ks = false := by
  have : (fitZ l ks).all id = false := by
    have hz : k < (fitZ l ks).length := by unfold fitZ; rw [List.length_zipWith]; omega
    rw [List.all_eq_false]
    exact ⟨(fitZ l ks)[k], List.getElem_mem hz, by simp [fitZ, hf]⟩
  unfold rowFits
  rw [this]
  simp
theorem fitV1_right {k n : Int} {s : ByteArray} {c : Int} (h : fitV1 k n s c = true) : rightB k n s = true := by
  unfold fitV1 at h
  simp only [Bool.and_eq_true] at h
  exact h.2.1
theorem fits_right {l : List (Int × Int × ByteArray)} {ks : List Int} (h : rowFits l ks = true) : rightR l = true := by
  unfold rowFits at h
  simp only [Bool.and_eq_true, decide_eq_true_eq, List.all_eq_true] at h
  obtain ⟨h1, h2, h3⟩ := h
  unfold rightR rightL
  rw [Bool.and_eq_true, decide_eq_true_eq, List.all_eq_true]
  refine ⟨h2, fun v hv => ?_⟩
  obtain ⟨i, hi, rfl⟩ := List.getElem_of_mem hv
  have hz : i < (fitZ l ks).length := by unfold fitZ; rw [List.length_zipWith]; omega
  have := h3 _ (List.getElem_mem hz)
  simp only [fitZ, List.getElem_zipWith, id] at this
  exact fitV1_right this
theorem vfits_is (k n : Int) (s : ByteArray) (c : Int) (b : Bool) (h : fitV1 k n s c = b) (hn : fits n) (w : World) :
    Calls Tryd.prog 32 #[.agg #[.int .i64 k, .int .i64 n, .string s], .int .i64 c] w fun e w' => e = .returned (.bool b) ∧ Below w.heap.size w w' := by
  have := vfits_any k n s c hn w
  rw [h] at this
  exact this
theorem rvfits_is (k n : Int) (s : ByteArray) (c : Int) (b : Bool) (h : fitV1 k n s c = b) (w : World) :
    Calls Tryd.prog 33 #[.agg #[.int .i64 k, .int .i64 n, .string s], .int .i64 c] w fun e w' => e = .returned (.bool b) ∧ Below w.heap.size w w' := by
  have := rvfits_any k n s c w
  rw [h] at this
  exact this
set_option maxHeartbeats 4000000 in
theorem rowFits_any (A C : Option Addr) (ca cc : Nat) (l : List (Int × Int × ByteArray)) (ks : List Int) (w : World) (hv : Vals w w.heap.size A l) (hi : Ints w w.heap.size C ks) (hf : FitL l) (hl : l.length ≤ 140737488355328) (hk : ks.length ≤ 140737488355328) :
    Calls Tryd.prog 15 #[.slice A l.length ca, .slice C ks.length cc] w fun e w' => e = .returned (.bool (rowFits l ks)) ∧ Below w.heap.size w w' := by
  have HV := Lib.hid hv
  have HI := Lib.hid hi
  have HF := Lib.hid hf
  clear hv hi hf
  by_cases h1 : l.length = ks.length
  · have e1 : ((l.length : Int) != (ks.length : Int)) = false := by simp; omega
    by_cases h2 : l.length ≤ 24
    · have e2 : decide ((24 : Int) < (l.length : Int)) = false := by simp; omega
      have HD := Lib.hid (show rowFits l ks = (fitZ l ks).all id by unfold rowFits; rw [decide_eq_true h1, decide_eq_true h2]; rfl)
      have H1 := Lib.hid h1
      clear h1
      have hle : l.length ≤ ks.length := by have := H1.out; omega
      go_enter Tryd.func15, Tryd.ntmps15
      go_wp2
      go_loopw [18] (fun i wr => ∃ k : Nat, k ≤ l.length ∧ i = .int .i64 k ∧ Hid (((fitZ l ks).take k).all id = true) ∧ Below w.heap.size w wr) (fun i _ => l.length - (intOf i).toNat)
      case atStart => exact ⟨0, by omega, rfl, Lib.hid rfl, Below.refl _ _⟩
      case round =>
        obtain ⟨k, hk2, rfl, HK, hbel⟩ := hrel
        have hsz := hbel.size
        have HL := Lib.hid hbel
        have VA := Lib.hid (HV.out.below hbel)
        have VI := Lib.hid (HI.out.below hbel)
        clear hbel
        by_cases hkl : k < l.length
        · have hkl2 : k < ks.length := by omega
          obtain ⟨ad, rfl, ha, c0, c1, c2⟩ := VA.out k hkl
          obtain ⟨cd, rfl, hc, d0⟩ := VI.out k hkl2
          have HN := Lib.hid (HF.out l[k] (List.getElem_mem hkl))
          have HZ := Lib.hid (fitZ_snoc l ks k hkl hkl2)
          have za : (ad.add (k * 3)).block < wr.heap.size := by rw [add_block]; omega
          have zc : (cd.add k).block < wr.heap.size := by rw [add_block]; omega
          obtain ⟨p, hp⟩ : ∃ p, ad.add (k * 3) = p := ⟨_, rfl⟩
          obtain ⟨q, hq⟩ : ∃ q, cd.add k = q := ⟨_, rfl⟩
          obtain ⟨b, hb⟩ : ∃ b, fitV1 l[k].1 l[k].2.1 l[k].2.2 ks[k] = b := ⟨_, rfl⟩
          have HC := Lib.hid (vfits_is l[k].1 l[k].2.1 l[k].2.2 ks[k] b hb HN.out)
          have HB := Lib.hid hb
          clear hb
          cases b
          all_goals
            go_wp2_with fail
            rw [hp] at c0 c1 c2 za
            rw [hq] at d0 zc
            go_region_held3 (fun w' => (w'.cell? p = some (.int .i64 l[k].1) ∧ w'.cell? ⟨p.block, p.off + 1, none⟩ = some (.int .i64 l[k].2.1) ∧ w'.cell? ⟨p.block, p.off + 2, none⟩ = some (.string l[k].2.2) ∧ w'.cell? q = some (.int .i64 ks[k])) ∧ Below wr.heap.size wr w')
              (first | assumption | (refine keepP hb5 (by assumption) ?_; intro kk; exact ⟨(kk p za).trans c0, (kk ⟨p.block, p.off + 1, none⟩ za).trans c1, (kk ⟨p.block, p.off + 2, none⟩ za).trans c2, (kk q zc).trans d0⟩) | (exact ⟨⟨c0, c1, c2, d0⟩, Below.drew (Below.refl _ _)⟩))
              (first | (go_at_call 32; refine (HC.out _).mono ?_; rintro e w5 ⟨rfl, hb5⟩))
            all_goals
              have M1 := Lib.hid (show Below wr.heap.size wr _ by rename_i hS; exact hS.2)
              go_wp2
              first
                | (go_ret
                   exact ⟨retB (fitZ_no hkl hkl2 HB.out).symm, bnext HL.out hsz M1.out⟩)
                | (go_roundw
                   case rel => exact ⟨k + 1, by omega, by go_num, Lib.hid (by rw [HZ.out, HK.out, HB.out]; rfl), bnext HL.out hsz M1.out⟩
                   case measure => simp [intOf]; omega)
        · have HX := Lib.hid (show (fitZ l ks).all id = true by have := HK.out; rwa [List.take_of_length_le (by unfold fitZ; rw [List.length_zipWith]; omega)] at this)
          go_wp2
          go_ret
          exact ⟨retB (by rw [HD.out, HX.out]), HL.out⟩
    · have e2 : decide ((24 : Int) < (l.length : Int)) = true := by simp; omega
      have HD := Lib.hid (show rowFits l ks = false by unfold rowFits; rw [decide_eq_false h2]; simp)
      clear h1
      go_enter Tryd.func15, Tryd.ntmps15
      go_wp2
      go_ret
      exact ⟨retB HD.out.symm, Below.refl _ _⟩
  · have e1 : ((l.length : Int) != (ks.length : Int)) = true := by simp; omega
    have HD := Lib.hid (show rowFits l ks = false by unfold rowFits; rw [decide_eq_false h1]; rfl)
    clear h1
    go_enter Tryd.func15, Tryd.ntmps15
    go_wp2
    go_ret
    exact ⟨retB HD.out.symm, Below.refl _ _⟩
set_option maxHeartbeats 4000000 in
theorem rrowFits_any (A C : Option Addr) (ca cc : Nat) (l : List (Int × Int × ByteArray)) (ks : List Int) (w : World) (hv : Vals w w.heap.size A l) (hi : Ints w w.heap.size C ks) (hl : l.length ≤ 140737488355328) (hk : ks.length ≤ 140737488355328) :
    Calls Tryd.prog 16 #[.slice A l.length ca, .slice C ks.length cc] w fun e w' => e = .returned (.bool (rowFits l ks)) ∧ Below w.heap.size w w' := by
  have HV := Lib.hid hv
  have HI := Lib.hid hi
  have hr := rrowRight_any A ca l w hv (by omega)
  clear hv hi
  obtain ⟨b, hb⟩ : ∃ b, rightR l = b := ⟨_, rfl⟩
  rw [hb] at hr
  have HR := Lib.hid hr
  clear hr
  cases b
  · have HD := Lib.hid (show rowFits l ks = false by
      cases hx : rowFits l ks with
      | false => rfl
      | true => rw [fits_right hx] at hb; cases hb)
    clear hb
    go_enter Tryd.func16, Tryd.ntmps16
    go_wp2_with fail
    refine HR.out.mono ?_
    rintro e w1 ⟨rfl, hb1⟩
    have L1 := Lib.hid hb1
    clear hb1 HR
    go_wp2
    go_ret
    exact ⟨retB HD.out.symm, L1.out⟩
  by_cases h1 : l.length = ks.length
  · have e1 : ((l.length : Int) != (ks.length : Int)) = false := by simp; omega
    have h2 : l.length ≤ 24 := by unfold rightR at hb; simp at hb; exact hb.1
    have HD := Lib.hid (show rowFits l ks = (fitZ l ks).all id by unfold rowFits; rw [decide_eq_true h1, decide_eq_true h2]; rfl)
    have H1 := Lib.hid h1
    clear h1 hb
    have hle : l.length ≤ ks.length := by have := H1.out; omega
    go_enter Tryd.func16, Tryd.ntmps16
    go_wp2_with fail
    refine HR.out.mono ?_
    rintro e w1 ⟨rfl, hb1⟩
    have L1 := Lib.hid hb1
    clear hb1 HR
    go_wp2
    go_loopw [6] (fun i wr => ∃ k : Nat, k ≤ l.length ∧ i = .int .i64 k ∧ Hid (((fitZ l ks).take k).all id = true) ∧ Below w.heap.size w wr) (fun i _ => l.length - (intOf i).toNat)
    case atStart => exact ⟨0, by omega, rfl, Lib.hid rfl, L1.out⟩
    case round =>
      obtain ⟨k, hk2, rfl, HK, hbel⟩ := hrel
      have hsz := hbel.size
      have HL := Lib.hid hbel
      have VA := Lib.hid (HV.out.below hbel)
      have VI := Lib.hid (HI.out.below hbel)
      clear hbel
      by_cases hkl : k < l.length
      · have hkl2 : k < ks.length := by omega
        obtain ⟨ad, rfl, ha, c0, c1, c2⟩ := VA.out k hkl
        obtain ⟨cd, rfl, hc, d0⟩ := VI.out k hkl2
        have HZ := Lib.hid (fitZ_snoc l ks k hkl hkl2)
        have za : (ad.add (k * 3)).block < wr.heap.size := by rw [add_block]; omega
        have zc : (cd.add k).block < wr.heap.size := by rw [add_block]; omega
        obtain ⟨p, hp⟩ : ∃ p, ad.add (k * 3) = p := ⟨_, rfl⟩
        obtain ⟨q, hq⟩ : ∃ q, cd.add k = q := ⟨_, rfl⟩
        obtain ⟨b, hb⟩ : ∃ b, fitV1 l[k].1 l[k].2.1 l[k].2.2 ks[k] = b := ⟨_, rfl⟩
        have HC := Lib.hid (rvfits_is l[k].1 l[k].2.1 l[k].2.2 ks[k] b hb)
        have HB := Lib.hid hb
        clear hb
        cases b
        all_goals
          go_wp2_with fail
          rw [hp] at c0 c1 c2 za
          rw [hq] at d0 zc
          go_region_held3 (fun w' => (w'.cell? p = some (.int .i64 l[k].1) ∧ w'.cell? ⟨p.block, p.off + 1, none⟩ = some (.int .i64 l[k].2.1) ∧ w'.cell? ⟨p.block, p.off + 2, none⟩ = some (.string l[k].2.2) ∧ w'.cell? q = some (.int .i64 ks[k])) ∧ Below wr.heap.size wr w')
            (first | assumption | (refine keepP hb5 (by assumption) ?_; intro kk; exact ⟨(kk p za).trans c0, (kk ⟨p.block, p.off + 1, none⟩ za).trans c1, (kk ⟨p.block, p.off + 2, none⟩ za).trans c2, (kk q zc).trans d0⟩) | (exact ⟨⟨c0, c1, c2, d0⟩, Below.drew (Below.refl _ _)⟩))
            (first | (go_at_call 33; refine (HC.out _).mono ?_; rintro e w5 ⟨rfl, hb5⟩))
          all_goals
            have M1 := Lib.hid (show Below wr.heap.size wr _ by rename_i hS; exact hS.2)
            go_wp2
            first
              | (go_ret
                 exact ⟨retB (fitZ_no hkl hkl2 HB.out).symm, bnext HL.out hsz M1.out⟩)
              | (go_roundw
                 case rel => exact ⟨k + 1, by omega, by go_num, Lib.hid (by rw [HZ.out, HK.out, HB.out]; rfl), bnext HL.out hsz M1.out⟩
                 case measure => simp [intOf]; omega)
      · have HX := Lib.hid (show (fitZ l ks).all id = true by have := HK.out; rwa [List.take_of_length_le (by unfold fitZ; rw [List.length_zipWith]; omega)] at this)
        go_wp2
        go_ret
        exact ⟨retB (by rw [HD.out, HX.out]), HL.out⟩
  · have e1 : ((l.length : Int) != (ks.length : Int)) = true := by simp; omega
    have HD := Lib.hid (show rowFits l ks = false by unfold rowFits; rw [decide_eq_false h1]; rfl)
    clear h1 hb
    go_enter Tryd.func16, Tryd.ntmps16
    go_wp2_with fail
    refine HR.out.mono ?_
    rintro e w1 ⟨rfl, hb1⟩
    have L1 := Lib.hid hb1
    clear hb1 HR
    go_wp2
    go_ret
    exact ⟨retB HD.out.symm, L1.out⟩
end Go.Proofs.YtpdoomhpfdmklaaDoor.Code
