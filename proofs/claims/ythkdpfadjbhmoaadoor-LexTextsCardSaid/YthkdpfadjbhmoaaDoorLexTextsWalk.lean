/-
  The walk of LexTexts.
-/
import Derived.Test.YthkdpfadjbhmoaaDoorLexMore
namespace Go.Proofs.YthkdpfadjbhmoaaDoor.lexTexts
open Go.ChangeShapes Go.WideShapes Go.ChangeAt Go.RowKit Val Elems Go.Proofs.YthkdpfadjbhmoaaDoor.Code
set_option linter.unusedVariables false
def wsum (l : List W) : Nat := (l.map fun w => w.2.1.length).sum
theorem wsum_snoc (l : List W) (k : Nat) (h : k < l.length) : wsum (l.take (k + 1)) = wsum (l.take k) + l[k].2.1.length := by
  unfold wsum
  rw [List.take_succ_eq_append_getElem h, List.map_append, List.sum_append]
  simp
theorem wsum_mem {l : List W} {w : W} (h : w ∈ l) : w.2.1.length ≤ wsum l := by
  unfold wsum
  induction l with
  | nil => cases h
  | cons v l ih =>
    rw [List.map_cons, List.sum_cons]
    rcases List.mem_cons.1 h with rfl | h
    · omega
    · have := ih h
      omega
theorem wsum_le (b : Nat) : ∀ (l : List W), (∀ w ∈ l, w.2.1.length ≤ b) → wsum l ≤ b * l.length
  | [], _ => Nat.zero_le _
  | w :: l, h => by
    have h1 := h w (by simp)
    have h2 := wsum_le b l (fun x hx => h x (by simp [hx]))
    show w.2.1.length + wsum l ≤ _
    rw [List.length_cons, Nat.mul_add]
    omega
set_option maxHeartbeats 4000000 in
set_option maxRecDepth 100000 in
theorem walk (A : Option Addr) (cap : Nat) (l : List W) (m : Int) (w : World) (hv : At wc 3 w w.heap.size A l) (ht : ∀ x ∈ l, x.2.1.length ≤ 140737488355328) (hl : l.length ≤ 4398046511104) (hg : Glob w.heap.size m w) :
    Calls Tryd.prog 4 #[.slice A l.length cap] w fun e w' => e = .returned (.bool true) ∧ Below w.heap.size w w' := by
  have HG := Lib.hid hg
  have HV := Lib.hid hv
  have HT := Lib.hid ht
  clear hg hv ht
  go_enter Tryd.func4, Tryd.ntmps4
  go_wp2
  go_loop [3, 4] (fun n t => ∃ i : Nat, i ≤ l.length ∧ i ≤ 101 ∧ t = .int .i64 i ∧ n = .int .i64 (wsum (l.take i) : Nat)) (fun _ t => 101 - (intOf t).toNat)
  case atStart => exact ⟨0, by omega, by omega, rfl, rfl⟩
  case round =>
    obtain ⟨i, hi, hi1, rfl, rfl⟩ := hrel
    have hN := wsum_le 140737488355328 (l.take i) (fun x hx => HT.out x (List.mem_of_mem_take hx))
    rw [List.length_take_of_le hi] at hN
    by_cases hil : i < l.length
    · by_cases h100 : i ≤ 100
      · obtain ⟨ad, rfl, ha, c0, c1, c2⟩ := at_word HV.out i hil
        have HS := Lib.hid (wsum_snoc l i hil)
        have hT := HT.out l[i] (List.getElem_mem hil)
        obtain ⟨x, hx⟩ : ∃ x, l[i] = x := ⟨_, rfl⟩
        rw [hx] at c0 c1 c2 HS hT
        clear hx
        obtain ⟨k, t, p⟩ := x
        obtain ⟨T, hTT⟩ : ∃ T : ByteArray, ⟨t.toArray⟩ = T := ⟨_, rfl⟩
        have hTs : t.length = T.size := by rw [← hTT]; rfl
        dsimp only at c0 c1 c2 HS hT
        rw [hTT] at c1
        rw [hTs] at hT HS
        obtain ⟨N, hNN⟩ : ∃ N, wsum (l.take i) = N := ⟨_, rfl⟩
        rw [hNN] at hN HS ⊢
        clear hTT hTs hNN
        have hN2 : N ≤ 140737488355328 * 100 := Nat.le_trans hN (Nat.mul_le_mul_left _ h100)
        go_wp2
        go_round
        case rel => exact ⟨i + 1, by omega, by omega, by go_num, by rw [HS.out]; go_num⟩
        case measure => simp [intOf]; omega
      · obtain rfl : i = 101 := by omega
        obtain ⟨N, hNN⟩ : ∃ N, wsum (l.take 101) = N := ⟨_, rfl⟩
        rw [hNN]
        clear hNN hN
        go_wp2_with fail
        refine (alive_any m _ HG.out).mono ?_
        rintro e w1 ⟨rfl, hb1⟩
        have L1 := Lib.hid hb1
        clear hb1
        go_wp2
        go_ret
        exact ⟨rfl, L1.out⟩
    · obtain rfl : i = l.length := by omega
      rw [List.take_length] at hN ⊢
      have HM := Lib.hid (fun x (hx : x ∈ l) => wsum_mem hx)
      obtain ⟨N, hNN⟩ : ∃ N, wsum l = N := ⟨_, rfl⟩
      rw [hNN] at HM ⊢
      clear hNN hN
      by_cases hbig : 100 < l.length
      · go_wp2_with fail
        refine (alive_any m _ HG.out).mono ?_
        rintro e w1 ⟨rfl, hb1⟩
        have L1 := Lib.hid hb1
        clear hb1
        go_wp2
        go_ret
        exact ⟨rfl, L1.out⟩
      · by_cases h600 : 600 < N
        · go_wp2_with fail
          refine (alive_any m _ HG.out).mono ?_
          rintro e w1 ⟨rfl, hb1⟩
          have L1 := Lib.hid hb1
          clear hb1
          go_wp2
          go_ret
          exact ⟨rfl, L1.out⟩
        · have HF := Lib.hid (show FitW l from fun x hx => by have := HM.out x hx; omega)
          obtain ⟨T, hTT⟩ : ∃ T : ByteArray, ⟨(textL l).toArray⟩ = T := ⟨_, rfl⟩
          have HX := Lib.hid (fun (w' : World) (hv : At wc 3 w' w'.heap.size A l) hg => text_any A cap l m w' hv HF.out (by omega) hg)
          have HY := Lib.hid (fun (A' : Option Addr) (cap' : Nat) (w' : World) (hv : At wc 3 w' w'.heap.size A' l) => rtext_any A' cap' l w' hv HF.out (by omega))
          rw [hTT] at HX HY
          clear hTT
          go_wp2_with fail
          refine (alive_any m _ HG.out).mono ?_
          rintro e w1 ⟨rfl, hb1⟩
          have L1 := Lib.hid hb1
          have V1 := Lib.hid ((HV.out.below hb1).more hb1.size)
          clear hb1
          go_wp2_with fail
          refine (HX.out _ V1.out (HG.out.next L1.out)).mono ?_
          rintro e w2 ⟨rfl, hb2⟩
          have L2 := Lib.hid (bnext L1.out L1.out.size hb2)
          have V2 := Lib.hid ((V1.out.below hb2).more hb2.size)
          clear hb2
          go_wp2_with fail
          refine (to_any A cap l _ V2.out (by omega)).mono ?_
          rintro e w3 ⟨A3, c3, rfl, v3, hb3⟩
          have L3 := Lib.hid (bnext L2.out L2.out.size hb3)
          have V3 := Lib.hid v3
          clear hb3 v3
          go_wp2_with fail
          refine (HY.out A3 c3 _ V3.out).mono ?_
          rintro e w4 ⟨rfl, hb4⟩
          have L4 := Lib.hid (bnext L3.out L3.out.size hb4)
          clear hb4
          go_wp2
          go_ret
          exact ⟨by simp, L4.out⟩
end Go.Proofs.YthkdpfadjbhmoaaDoor.lexTexts
