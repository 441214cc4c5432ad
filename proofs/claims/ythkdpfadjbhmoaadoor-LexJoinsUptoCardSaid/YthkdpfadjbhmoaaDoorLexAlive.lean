/-
  The law's live question is answered true.
-/
import Derived.Test.YthkdpfadjbhmoaaDoorLexText
namespace Go.Proofs.YthkdpfadjbhmoaaDoor.Code
open Go.ChangeShapes Go.WideShapes Go.ChangeAt Go.RowKit Val Elems
set_option linter.unusedVariables false
def aliveW : List W := [(0, [97, 95, 49], 0), (3, [60, 61], 3), (2, [105, 116, 39, 115], 5), (1, [48, 55], 13)]
theorem alive_words : wordsL [97, 95, 49, 60, 61, 39, 105, 116, 39, 39, 115, 39, 32, 48, 55] 0 = .ok aliveW := by rfl
theorem alive_fault : wordsL [97, 32, 32, 39, 98] 0 = .error 3 := by rfl
theorem alive_text : textL aliveW = [97, 95, 49, 32, 60, 61, 32, 39, 105, 116, 39, 39, 115, 39, 32, 48, 55] := by rfl
theorem alive_fit : FitW aliveW := by
  intro w hw
  simp [aliveW] at hw
  rcases hw with rfl | rfl | rfl | rfl <;> decide
theorem words_ok {s : List UInt8} {l : List W} (h : wordsL s 0 = .ok l) : wL s = l ∧ wP s = 0 ∧ wE s = 0 := by
  unfold wL wP wE
  rw [h]
  exact ⟨rfl, rfl, rfl⟩
theorem words_err {s : List UInt8} {j : Int} (h : wordsL s 0 = .error j) : wL s = [] ∧ wP s = j ∧ wE s = 81 := by
  unfold wL wP wE
  rw [h]
  exact ⟨rfl, rfl, rfl⟩
set_option maxHeartbeats 4000000 in
set_option maxRecDepth 100000 in
theorem alive_any (m : Int) (w : World) (hg : Glob w.heap.size m w) :
    Calls Tryd.prog 7 #[] w fun e w' => e = .returned (.bool true) ∧ Below w.heap.size w w' := by
  have HG := Lib.hid hg
  have hW1 := fun w hm => words_any ⟨#[97, 95, 49, 60, 61, 39, 105, 116, 39, 39, 115, 39, 32, 48, 55]⟩ m w (by decide) hm
  have hW2 := fun w hm => words_any ⟨#[97, 32, 32, 39, 98]⟩ m w (by decide) hm
  have h1 := words_ok alive_words
  have h2 := words_err alive_fault
  have HW1 := Lib.hid (fun w hm => (hW1 w hm).mono (R' := fun e w' => ∃ (A : Option Addr) (cap : Nat), e = .returned (.tuple #[.slice A 4 cap, .int .i64 0, .int .i64 0]) ∧ At wc 3 w' w'.heap.size A aliveW ∧ Below w.heap.size w w') (by
    rintro e w' ⟨A, cap, he, hv, hb⟩
    refine ⟨A, cap, ?_, ?_, hb⟩
    · rw [he, show wL _ = _ from h1.1, show wP _ = _ from h1.2.1, show wE _ = _ from h1.2.2]; rfl
    · rw [show wL _ = _ from h1.1] at hv; exact hv))
  have HW2 := Lib.hid (fun w hm => (hW2 w hm).mono (R' := fun e w' => (∃ (A : Option Addr) (cap : Nat), e = .returned (.tuple #[.slice A 0 cap, .int .i64 3, .int .i64 81])) ∧ Below w.heap.size w w') (by
    rintro e w' ⟨A, cap, he, hv, hb⟩
    refine ⟨⟨A, cap, ?_⟩, hb⟩
    rw [he, show wL _ = _ from h2.1, show wP _ = _ from h2.2.1, show wE _ = _ from h2.2.2]; rfl))
  have HO := Lib.hid (fun w => (own_any ⟨#[105, 115]⟩ w).mono (R' := fun e w' => e = .returned (.bool true) ∧ w = w') (by rintro e w' ⟨h1, h2⟩; exact ⟨by rw [h1, ByteArray.toList_eq]; rfl, h2⟩))
  clear hg hW1 hW2 h1 h2
  go_enter Tryd.func7, Tryd.ntmps7
  go_wp2_with fail
  refine (HW1.out _ HG.out.cell).mono ?_
  rintro e w1 ⟨A, cap, rfl, hv1, hb1⟩
  have L1 := Lib.hid hb1
  have V1 := Lib.hid hv1
  clear hb1 hv1
  go_wp2_with fail
  refine (HW2.out _ (HG.out.below L1.out).cell).mono ?_
  rintro e w2 ⟨⟨A2, cap2, rfl⟩, hb2⟩
  have L2 := Lib.hid (bnext L1.out L1.out.size hb2)
  have V2 := Lib.hid ((V1.out.below hb2).more hb2.size)
  have HT := Lib.hid (fun w1 hv hg => (show Calls Tryd.prog 14 #[.slice A 4 cap] w1 _ from text_any A cap aliveW m w1 hv alive_fit (by decide) hg).mono (R' := fun e w' => e = .returned (.string ⟨#[97, 95, 49, 32, 60, 61, 32, 39, 105, 116, 39, 39, 115, 39, 32, 48, 55]⟩) ∧ Below w1.heap.size w1 w') (by rintro e w' ⟨h1, h2⟩; exact ⟨by rw [h1, alive_text], h2⟩))
  clear hb2
  obtain ⟨ad, rfl, ha, c0, c1, c2⟩ := at_word V2.out 2 (by decide)
  obtain ⟨ad', e', ha', d0, d1, d2⟩ := at_word V2.out 3 (by decide)
  obtain rfl : ad = ad' := Option.some.inj e'
  have e6 : ad.add (2 * 3) = ⟨ad.block, ad.off + 6, none⟩ := by unfold Addr.add; rw [if_neg (by decide)]
  have e9 : ad.add (3 * 3) = ⟨ad.block, ad.off + 9, none⟩ := by unfold Addr.add; rw [if_neg (by decide)]
  rw [e6] at c1 c2
  rw [e9] at d0
  have f1 : w2.cell? ⟨ad.block, ad.off + 6 + 1, none⟩ = some (.string ⟨#[105, 116, 39, 115]⟩) := c1
  have f2 : w2.cell? ⟨ad.block, ad.off + 6 + 2, none⟩ = some (.int .i64 5) := c2
  have f3 : w2.cell? ⟨ad.block, ad.off + 9, none⟩ = some (.int .i64 1) := d0
  clear e6 e9
  clear e' c0 c1 c2 d0 d1 d2
  have HT2 := Lib.hid (HT.out _ V2.out (HG.out.next L2.out))
  clear HT V1 V2
  go_wp2_with fail
  refine HT2.out.mono ?_
  rintro e w3 ⟨rfl, hb3⟩
  have L3 := Lib.hid (bnext L2.out L2.out.size hb3)
  clear hb3 HT2
  go_wp2_with fail
  refine (HO.out _).mono ?_
  rintro e w4 ⟨rfl, rfl⟩
  go_wp2
  go_ret
  exact ⟨rfl, L3.out⟩
end Go.Proofs.YthkdpfadjbhmoaaDoor.Code
