/-
  The contract of the law's Small.
-/
import Derived.Test.YtjjikooabmddlaaGreatDoorM4
import Derived.Test.YtjjikooabmddlaaGreatDoorM6
import Derived.Test.YtjjikooabmddlaaGreatDoorM7
namespace Go.Proofs.YtjjikooabmddlaaGreatDoor.Code
open Go.ChangeShapes Go.WideShapes Go.ChangeAt Go.RowKit Val
set_option linter.unusedVariables false

def smallB (l : List (Int × Int × ByteArray)) : Bool := decide (l.length ≤ 30) && decide (sizes l ≤ 600)
set_option maxHeartbeats 1000000 in
theorem small_any (A : Option Addr) (cap : Nat) (l : List (Int × Int × ByteArray)) (w : World) (hv : Vals w w.heap.size A l) (hs : Short l) (hl : l.length ≤ 140737488355328) :
    Calls Tryz.prog 7 #[.slice A l.length cap] w fun e w' => e = .returned (.bool (smallB l)) ∧ w = w' := by
  have HV := Lib.hid hv
  have HS := Lib.hid hs
  clear hv hs
  go_enter Tryz.func7, Tryz.ntmps7
  go_wp2
  go_loop [3, 4] (fun n i => ∃ k : Nat, k ≤ l.length ∧ k ≤ 31 ∧ i = .int .i64 k ∧ n = .int .i64 (sizes (l.take k) : Nat)) (fun _ i => 32 - (intOf i).toNat)
  case atStart => exact ⟨0, by omega, by omega, rfl, rfl⟩
  case round =>
    obtain ⟨k, hk, hk2, rfl, rfl⟩ := hrel
    have hz := sizes_le HS.out k
    by_cases hlt : k < l.length
    · by_cases h20 : k ≤ 30
      · obtain ⟨ad, rfl, hb, c0, c1, c2⟩ := HV.out k hlt
        have hz1 := HS.out l[k] (List.getElem_mem hlt)
        have HZ := Lib.hid (sizes_snoc l k hlt)
        go_wp2
        go_round
        case rel => exact ⟨k + 1, by omega, by omega, by go_num, by rw [HZ.out]; go_num⟩
        case measure => simp [intOf]; omega
      · have h20' : decide ((k : Int) ≤ 30) = false := by simp; omega
        have hb20 : decide ((l.length : Int) ≤ 30) = false := by simp; omega
        have HF := Lib.hid (show smallB l = false by unfold smallB; rw [decide_eq_false (by omega)]; rfl)
        go_wp2
        go_ret
        exact ⟨retB HF.out.symm, rfl⟩
    · obtain rfl : k = l.length := by omega
      rw [List.take_length] at *
      by_cases h20 : l.length ≤ 30
      · have h20' : decide ((l.length : Int) ≤ 30) = true := by simp; omega
        have HF := Lib.hid (show smallB l = decide (sizes l ≤ 600) by unfold smallB; rw [decide_eq_true h20]; rfl)
        go_wp2
        go_ret
        exact ⟨retB (by rw [HF.out]; exact decide_eq_decide.2 (by omega)), rfl⟩
      · have hb20 : decide ((l.length : Int) ≤ 30) = false := by simp; omega
        have HF := Lib.hid (show smallB l = false by unfold smallB; rw [decide_eq_false (by omega)]; rfl)
        go_wp2
        go_ret
        exact ⟨retB HF.out.symm, rfl⟩

end Go.Proofs.YtjjikooabmddlaaGreatDoor.Code

/-
  Contracts of the law's Small of items, of the document's Positive and Same of items.
-/
namespace Go.Proofs.YtjjikooabmddlaaGreatDoor.Items
open Go.ChangeShapes Go.WideShapes Go.ChangeAt Go.RowKit Val Go.Proofs.YtjjikooabmddlaaGreatDoor.Code Go.Proofs.YtjjikooabmddlaaGreatDoor.Elems Go.Proofs.YtjjikooabmddlaaGreatDoor.ZP
set_option linter.unusedVariables false

/-- what is known of items that came in: rows no longer than any machine bears -/
def LongI (L : List It) : Prop := ∀ x ∈ L, x.2.2.1.length ≤ 4398046511104 ∧ Short x.2.2.1
def smallI (L : List It) : Bool := (L.take 31).all (fun x => smallB x.2.2.1) && decide (L.length ≤ 30)
theorem smallI_le {L : List It} (h : smallI L = true) : L.length ≤ 30 := by
  unfold smallI at h
  simp only [Bool.and_eq_true, decide_eq_true_eq] at h
  exact h.2
theorem smallI_all {L : List It} (h : smallI L = true) : ∀ x ∈ L, smallB x.2.2.1 = true := by
  have hl := smallI_le h
  unfold smallI at h
  rw [List.take_of_length_le (by omega), Bool.and_eq_true, List.all_eq_true] at h
  exact h.1
set_option maxHeartbeats 2000000 in
theorem smallI_any (A : Option Addr) (cap : Nat) (L : List It) (w : World) (hI : Items w w.heap.size A L) (hL : LongI L) (hl : L.length ≤ 140737488355328) :
    Calls Tryz.prog 14 #[.slice A L.length cap] w fun e w' => e = .returned (.bool (smallI L)) ∧ w = w' := by
  have HI := Lib.hid hI
  have HL := Lib.hid hL
  clear hI hL
  go_enter Tryz.func14, Tryz.ntmps14
  go_wp2
  go_loop [3] (fun i => ∃ k : Nat, k ≤ L.length ∧ k ≤ 31 ∧ i = .int .i64 k ∧ Hid ((L.take k).all (fun x => smallB x.2.2.1) = true)) (fun i => 32 - (intOf i).toNat)
  case atStart => exact ⟨0, by omega, by omega, rfl, Lib.hid rfl⟩
  case round =>
    obtain ⟨k, hk, hk2, rfl, HK⟩ := hrel
    by_cases hlt : k < L.length
    · by_cases h30 : k ≤ 30
      · obtain ⟨ad, hA, ha, c0, c1, v0⟩ := HI.out.at k hlt
        subst hA
        obtain ⟨hll, hss⟩ := HL.out _ (List.getElem_mem hlt)
        have HSN := Lib.hid (show (L.take (k + 1)).all (fun x => smallB x.2.2.1) = ((L.take k).all (fun x => smallB x.2.2.1) && smallB L[k].2.2.1) by rw [List.take_succ_eq_append_getElem hlt, List.all_append]; simp)
        obtain ⟨b, hb⟩ : ∃ b, smallB L[k].2.2.1 = b := ⟨_, rfl⟩
        have hc := small_any L[k].1 L[k].2.1 L[k].2.2.1 w v0 hss (by omega)
        rw [hb] at hc
        have HC := Lib.hid hc
        have HB := Lib.hid hb
        clear hc hb v0 hss
        cases b
        · have HX := Lib.hid (show smallI L = false by
            unfold smallI
            rw [Bool.and_eq_false_iff]
            left
            rw [List.all_eq_false]
            exact ⟨L[k], List.mem_take_iff_getElem.2 ⟨k, by omega, rfl⟩, by rw [HB.out]; decide⟩)
          go_wp2_with fail
          refine HC.out.mono ?_
          rintro e w' ⟨rfl, rfl⟩
          go_wp2
          go_ret
          exact ⟨retB HX.out.symm, rfl⟩
        · go_wp2_with fail
          refine HC.out.mono ?_
          rintro e w' ⟨rfl, rfl⟩
          go_wp2
          go_round
          case rel => exact ⟨k + 1, by omega, by omega, by go_num, Lib.hid (by rw [HSN.out, HK.out, HB.out]; rfl)⟩
          case measure => simp [intOf]; omega
      · have h30' : decide ((k : Int) ≤ 30) = false := by simp; omega
        have hb30 : decide ((L.length : Int) ≤ 30) = false := by simp; omega
        have HF := Lib.hid (show smallI L = false by unfold smallI; rw [decide_eq_false (by omega), Bool.and_false])
        go_wp2
        go_ret
        exact ⟨retB HF.out.symm, rfl⟩
    · obtain rfl : k = L.length := by omega
      rw [List.take_length] at HK
      have HF := Lib.hid (show smallI L = decide (L.length ≤ 30) by
        unfold smallI
        rw [List.take_of_length_le (by omega), HK.out, Bool.true_and])
      by_cases h30 : L.length ≤ 30
      · have h30' : decide ((L.length : Int) ≤ 30) = true := by simp; omega
        go_wp2
        go_ret
        exact ⟨retB (by rw [HF.out]; simp [h30]), rfl⟩
      · have h30' : decide ((L.length : Int) ≤ 30) = false := by simp; omega
        go_wp2
        go_ret
        exact ⟨retB (by rw [HF.out]; simp [h30]), rfl⟩

def positiveI (L : List It) : Bool := L.all fun x => decide (0 ≤ x.2.2.2)
set_option maxHeartbeats 4000000 in
theorem isame_any (A B : Option Addr) (ca cb : Nat) (a b : List It) (w : World) (hA : Items w w.heap.size A a) (hB : Items w w.heap.size B b) (hl : a.length ≤ 140737488355328) (hl2 : b.length ≤ 140737488355328) (la : ∀ x ∈ a, x.2.2.1.length ≤ 140737488355328) (lb : ∀ x ∈ b, x.2.2.1.length ≤ 140737488355328) :
    Calls Tryz.prog 19 #[.slice A a.length ca, .slice B b.length cb] w fun e w' => e = .returned (.bool (decide (pl a = pl b))) ∧ Below w.heap.size w w' := by
  have HA := Lib.hid hA
  have HB := Lib.hid hB
  have LA := Lib.hid la
  have LB := Lib.hid lb
  clear hA hB la lb
  by_cases hlen : a.length = b.length
  · have el : ((a.length : Int) != (b.length : Int)) = false := by simp; omega
    have HLEN := Lib.hid hlen
    have hlenA : a.length ≤ b.length := by omega
    clear hlen
    go_enter Tryz.func19, Tryz.ntmps19
    go_wp2
    go_loopw [5] (fun i wr => ∃ k : Nat, k ≤ a.length ∧ i = .int .i64 k ∧ Hid (pl (a.take k) = pl (b.take k)) ∧ Hid (Below w.heap.size w wr)) (fun i _ => a.length - (intOf i).toNat)
    case atStart => exact ⟨0, by omega, rfl, Lib.hid rfl, Lib.hid (Below.refl _ _)⟩
    case round =>
      obtain ⟨k, hk, rfl, HK, HL⟩ := hrel
      have hsz := HL.out.size
      by_cases hlt : k < a.length
      · have hlt2 : k < b.length := by omega
        obtain ⟨ad, hA, ha, c0, c1, v0⟩ := (HA.out.below HL.out).at k hlt
        obtain ⟨bd, hB, hb, d0, d1, v1⟩ := (HB.out.below HL.out).at k hlt2
        subst hA
        subst hB
        have HPA := Lib.hid (pl_snoc a k hlt)
        have HPB := Lib.hid (pl_snoc b k hlt2)
        have hla := LA.out _ (List.getElem_mem hlt)
        have hlb := LB.out _ (List.getElem_mem hlt2)
        have HNE := Lib.hid (fun (h : pu a[k] ≠ pu b[k]) => show decide (pl a = pl b) = false by
          refine decide_eq_false fun e => h ?_
          have e2 : (pl a)[k]? = (pl b)[k]? := by rw [e]
          simpa [pl, hlt, hlt2] using e2)
        obtain ⟨x, hx⟩ : ∃ x, a[k] = x := ⟨_, rfl⟩
        obtain ⟨y, hy⟩ : ∃ y, b[k] = y := ⟨_, rfl⟩
        rw [hx] at c0 c1 v0 HPA hla HNE
        rw [hy] at d0 d1 v1 HPB hlb HNE
        clear hx hy
        obtain ⟨x1, x2, x3, x4⟩ := x
        obtain ⟨y1, y2, y3, y4⟩ := y
        simp only at c0 c1 v0 d0 d1 v1 hla hlb
        obtain ⟨z, hzz⟩ : ∃ z, decide (x3 = y3) = z := ⟨_, rfl⟩
        have hs := fun (w' : World) (h1 : Vals w' w'.heap.size x1 x3) (h2 : Vals w' w'.heap.size y1 y3) => rrowSame_any x1 y1 x2 y2 x3 y3 w' h1 h2 hla hlb
        rw [hzz] at hs
        have HS := Lib.hid hs
        have V0 := Lib.hid (v0.more hsz)
        have V1 := Lib.hid (v1.more hsz)
        have HZZ := Lib.hid hzz
        clear hs hzz v0 v1
        have za : (ad.add (k * 2)).block < wr.heap.size := by rw [add_block]; omega
        have zb : (bd.add (k * 2)).block < wr.heap.size := by rw [add_block]; omega
        obtain ⟨p, hp⟩ : ∃ p, ad.add (k * 2) = p := ⟨_, rfl⟩
        obtain ⟨q, hq⟩ : ∃ q, bd.add (k * 2) = q := ⟨_, rfl⟩
        go_wp2_with fail
        rw [hp] at c0 c1 za
        rw [hq] at d0 d1 zb
        go_region_held3 (fun w' => (w'.cell? p = some (.slice x1 x3.length x2) ∧ w'.cell? q = some (.slice y1 y3.length y2)) ∧ Below wr.heap.size wr w')
          (first | assumption | (refine keepP hb5 (by assumption) ?_; intro kk; exact ⟨(kk p za).trans c0, (kk q zb).trans d0⟩) | (exact ⟨⟨c0, d0⟩, Below.drew (Below.refl _ _)⟩))
          (first | (go_at_call 26; refine (HS.out _ ?cv ?cu).mono ?_; (case cv => exact V0.out); (case cu => exact V1.out); rintro e w5 ⟨rfl, hb5⟩))
        have M1 := Lib.hid (show Below wr.heap.size wr _ by rename_i hS; exact hS.2)
        have L1 := Lib.hid (bnext HL.out hsz M1.out)
        have e1 := (M1.out.cell (p := ⟨p.block, p.off + 1, none⟩) za).trans c1
        have e2 := (M1.out.cell (p := ⟨q.block, q.off + 1, none⟩) zb).trans d1
        cases z
        · have HX := Lib.hid (HNE.out (by intro h; have h1 := congrArg Prod.fst h; exact (of_decide_eq_false HZZ.out) h1))
          go_wp2
          go_quiet (fail)
          go_wp2
          go_ret
          exact ⟨retB HX.out.symm, drewN_below L1.out _⟩
        · by_cases hxy : x4 = y4
          · subst hxy
            have HX := Lib.hid (show pu (x1, x2, x3, x4) = pu (y1, y2, y3, x4) by unfold pu; rw [show x3 = y3 from of_decide_eq_true HZZ.out])
            go_wp2
            go_quiet (fail)
            go_wp2
            go_roundw
            case rel => exact ⟨k + 1, by omega, by go_num, Lib.hid (by rw [HPA.out, HPB.out, HK.out, HX.out]), Lib.hid (drewN_below L1.out _)⟩
            case measure => simp [intOf]; omega
          · have e4 : (x4 != y4) = true := by simpa using hxy
            have HX := Lib.hid (HNE.out (by intro h; have h1 := congrArg Prod.snd h; exact hxy h1))
            clear hxy
            go_wp2
            go_quiet (fail)
            go_wp2
            go_ret
            exact ⟨retB HX.out.symm, drewN_below L1.out _⟩
      · have HSM := Lib.hid (show pl a = pl b by have h := HK.out; rw [List.take_of_length_le (by omega), List.take_of_length_le (by have := HLEN.out; omega)] at h; exact h)
        go_wp2
        go_ret
        exact ⟨retB (decide_eq_true HSM.out).symm, HL.out⟩
  · have el : ((a.length : Int) != (b.length : Int)) = true := by simp; omega
    have HS := Lib.hid (show ¬ pl a = pl b by intro h; have := congrArg List.length h; rw [pl_length, pl_length] at this; exact hlen this)
    clear hlen
    go_enter Tryz.func19, Tryz.ntmps19
    go_wp2
    go_ret
    exact ⟨retB (decide_eq_false HS.out).symm, Below.refl _ _⟩
end Go.Proofs.YtjjikooabmddlaaGreatDoor.Items
