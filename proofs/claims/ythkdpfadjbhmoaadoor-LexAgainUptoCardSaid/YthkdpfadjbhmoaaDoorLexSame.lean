/-
  Contracts of the law's To and Same, and of Own, the program's and the document's.
-/
import Derived.Test.YthkdpfadjbhmoaaDoorLexRWords
import Derived.Deep.AppendLies
namespace Go.Proofs.YthkdpfadjbhmoaaDoor.Code
open Go.ChangeShapes Go.WideShapes Go.ChangeAt Go.RowKit Val Elems
set_option linter.unusedVariables false
theorem at_word {w : World} {B : Nat} {A : Option Addr} {l : List W} (h : At wc 3 w B A l) (i : Nat) (hi : i < l.length) :
    ∃ ad : Addr, A = some ad ∧ ad.block < B ∧ w.cell? (ad.add (i * 3)) = some (.int .i64 l[i].1) ∧ w.cell? ⟨(ad.add (i * 3)).block, (ad.add (i * 3)).off + 1, none⟩ = some (.string ⟨l[i].2.1.toArray⟩) ∧ w.cell? ⟨(ad.add (i * 3)).block, (ad.add (i * 3)).off + 2, none⟩ = some (.int .i64 l[i].2.2) := by
  obtain ⟨ad, e, hb, h0⟩ := h i hi
  refine ⟨ad, e, hb, h0 0 _ rfl, ?_, ?_⟩
  · rw [← add_next]; exact h0 1 _ rfl
  · rw [← add_next]; exact h0 2 _ rfl
set_option maxHeartbeats 4000000 in
set_option maxRecDepth 100000 in
theorem to_any (A : Option Addr) (cap : Nat) (l : List W) (w : World) (hv : At wc 3 w w.heap.size A l) (hl : l.length ≤ 4194304) :
    Calls Tryd.prog 11 #[.slice A l.length cap] w fun e w' => ∃ (A' : Option Addr) (cap' : Nat), e = .returned (.slice A' l.length cap') ∧ At wc 3 w' w'.heap.size A' l ∧ Below w.heap.size w w' := by
  have HV := Lib.hid hv
  clear hv
  obtain ⟨i0, hi0, hz0, hz1, hz2⟩ := info_parts info_rword
  go_enter Tryd.func11, Tryd.ntmps11
  go_wp2
  go_loopw [3, 4] (fun v t wr => ∃ i : Nat, i ≤ l.length ∧ t = .int .i64 i ∧ wr.ownsRow w.heap.size 44 3 v (l.take i).length (flatC wc (l.take i)) ∧ Below w.heap.size w wr) (fun _ t _ => l.length - (intOf t).toNat)
  case atStart => exact ⟨0, by omega, rfl, World.ownsRow_nil _ _ _ _, Below.refl _ _⟩
  case round =>
    obtain ⟨i, hi, rfl, hown, hbel⟩ := hrel
    have hsz := hbel.size
    have HO := Lib.hid hown
    have HL := Lib.hid hbel
    have VA := Lib.hid (HV.out.below hbel)
    have hX : (l.take i).length = i := List.length_take_of_le hi
    clear hown hbel
    by_cases hil : i < l.length
    · obtain ⟨ad, rfl, ha, c0, c1, c2⟩ := at_word HV.out i hil
      have HS := Lib.hid (List.take_succ_eq_append_getElem hil)
      obtain ⟨x, hx⟩ : ∃ x, l[i] = x := ⟨_, rfl⟩
      rw [hx] at c0 c1 c2 HS
      clear hx
      obtain ⟨k, t, p⟩ := x
      obtain ⟨T, hT⟩ : ∃ T : ByteArray, ⟨t.toArray⟩ = T := ⟨_, rfl⟩
      have HW := Lib.hid (show wc (k, t, p) = [.int .i64 k, .string T, .int .i64 p] by unfold wc; rw [← hT])
      dsimp only at c0 c1 c2
      rw [hT] at c1
      clear hT
      obtain ⟨N, hN⟩ : ∃ N, l.take i = N := ⟨_, rfl⟩
      rw [hX, hN] at HO
      rw [hN] at HS hX
      have HX := Lib.hid hX
      clear hN hX
      obtain ⟨q, hq⟩ : ∃ q, ad.add (i * 3) = q := ⟨_, rfl⟩
      have hbq : q.block < w.heap.size := by rw [← hq, add_block]; exact ha
      rw [hq] at c0 c1 c2
      have FQ := Lib.hid (fun (w' : World) (h : Below w.heap.size w w') => show w'.cell? q = some (.int .i64 k) ∧ w'.cell? ⟨q.block, q.off + 1, none⟩ = some (.string T) ∧ w'.cell? ⟨q.block, q.off + 2, none⟩ = some (.int .i64 p) from
        ⟨(h.cell (p := q) hbq).trans c0, (h.cell (p := ⟨q.block, q.off + 1, none⟩) hbq).trans c1, (h.cell (p := ⟨q.block, q.off + 2, none⟩) hbq).trans c2⟩)
      obtain ⟨k0, k1, k2⟩ := FQ.out _ HL.out
      have bi0 : (0 : Int) ≤ (i : Int) := by omega
      have bi1 : (i : Int) < (l.length : Int) := by omega
      clear c0 c1 c2
      go_wp2_with fail
      go_region_held3 (fun w' => (w'.cell? q = some (.int .i64 k) ∧ w'.cell? ⟨q.block, q.off + 1, none⟩ = some (.string T) ∧ w'.cell? ⟨q.block, q.off + 2, none⟩ = some (.int .i64 p)) ∧ Below w.heap.size w w')
        (first | assumption | (exact ⟨FQ.out _ HL.out.drew, HL.out.drew⟩) | (exact ⟨FQ.out _ (HL.out.alloc hsz _).drew, (HL.out.alloc hsz _).drew⟩) | (have hB := ((HL.out.alloc hsz _).drew).grown hgrow (by simp; omega) (fun j hj => (HO.out.lt j hj).1); exact ⟨FQ.out _ hB, hB⟩))
        ((refine step_append_lies _ (by rfl) _ _ _ (by rfl) w.heap.size 44 i0 _ 3 32 Tryd.underlying27 hi0 hz0 hz1 hz2 rfl (by omega) u3 i (flatC wc N) (by rfl) ((HO.out.alloc _).drew) ⟨wr.heap.size, 0, none⟩ 1 1 [.int .i64 k, .string T, .int .i64 p] (by rfl) (by rfl) (World.news_of_block (cs := #[.int .i64 k, .string T, .int .i64 p]) (t := 44) (fr := (0, 0)) (heap_alloc_new wr _)) (by rw [← HW.out]; exact wc_one _) (by omega) (by unfold maxLen; omega) (by omega) (by simp; omega) (wr.heap.size + 1) (by simp) ?_; intro gg cap9 w9 hown9 hgrow hat hlt9))
      have B9 := Lib.hid (show Below w.heap.size w w9 by rename_i hS; exact hS.2)
      have O9 := Lib.hid (show w9.ownsRow w.heap.size 44 3 (.slice (some ⟨gg, 0, none⟩) (i + 1) cap9) (l.take (i + 1)).length (flatC wc (l.take (i + 1))) by rw [HS.out, flatC_snoc, List.length_append, HX.out, HW.out]; exact hown9)
      clear hown9 hgrow hat hlt9 k0 k1 k2 FQ
      go_wp2
      go_roundw
      case rel => exact ⟨i + 1, by omega, by go_num, O9.out, B9.out⟩
      case measure => simp [intOf]; omega
    · obtain rfl : i = l.length := by omega
      rw [List.take_length] at HO
      obtain ⟨A', cap', rfl, hv'⟩ := own_at wc_length HO.out
      have HV' := Lib.hid hv'
      clear hv'
      go_wp2
      go_ret
      exact ⟨A', cap', rfl, HV'.out, HL.out⟩
set_option maxHeartbeats 4000000 in
set_option maxRecDepth 100000 in
/-- two lists of the same words are one -/
theorem same_words (A B : Option Addr) (ca cb : Nat) (l : List W) (w : World) (ha : At wc 3 w w.heap.size A l) (hb : At wc 3 w w.heap.size B l) (hl : l.length ≤ 4194304) :
    Calls Tryd.prog 10 #[.slice A l.length ca, .slice B l.length cb] w fun e w' => e = .returned (.bool true) ∧ Below w.heap.size w w' := by
  have HA := Lib.hid ha
  have HB := Lib.hid hb
  clear ha hb
  go_enter Tryd.func10, Tryd.ntmps10
  go_wp2
  go_loopw [5] (fun t wr => ∃ i : Nat, i ≤ l.length ∧ t = .int .i64 i ∧ Below w.heap.size w wr) (fun t _ => l.length - (intOf t).toNat)
  case atStart => exact ⟨0, by omega, rfl, Below.refl _ _⟩
  case round =>
    obtain ⟨i, hi, rfl, hbel⟩ := hrel
    have HL := Lib.hid hbel
    have VA := Lib.hid (HA.out.below hbel)
    have VB := Lib.hid (HB.out.below hbel)
    clear hbel
    by_cases hil : i < l.length
    · obtain ⟨ad, rfl, ga, c0, c1, c2⟩ := at_word VA.out i hil
      obtain ⟨bd, rfl, gb, d0, d1, d2⟩ := at_word VB.out i hil
      obtain ⟨x, hx⟩ : ∃ x, l[i] = x := ⟨_, rfl⟩
      rw [hx] at c0 c1 c2 d0 d1 d2
      clear hx
      obtain ⟨k, t, p⟩ := x
      obtain ⟨T, hT⟩ : ∃ T : ByteArray, ⟨t.toArray⟩ = T := ⟨_, rfl⟩
      dsimp only at c0 c1 c2 d0 d1 d2
      rw [hT] at c1 d1
      clear hT
      go_wp2
      go_quiet (fail)
      go_wp2
      go_roundw
      case rel => exact ⟨i + 1, by omega, by go_num, drewN_below HL.out _⟩
      case measure => simp [intOf]; omega
    · obtain rfl : i = l.length := by omega
      go_wp2
      go_ret
      exact ⟨rfl, HL.out⟩
/-- is it one of the language's own names? -/
def ownB (s : List UInt8) : Bool := s == [116, 114, 117, 101] || (s == [102, 97, 108, 115, 101] || (s == [110, 117, 108, 108] || (s == [97, 110, 100] || (s == [111, 114] || (s == [110, 111, 116] || s == [105, 115])))))
set_option maxHeartbeats 4000000 in
theorem own_any (s : ByteArray) (w : World) :
    Calls Tryd.prog 12 #[.string s] w fun e w' => e = .returned (.bool (ownB s.toList)) ∧ w = w' := by
  obtain ⟨b1, h1⟩ : ∃ b, (s.toList == [116, 114, 117, 101]) = b := ⟨_, rfl⟩
  obtain ⟨b2, h2⟩ : ∃ b, (s.toList == [102, 97, 108, 115, 101]) = b := ⟨_, rfl⟩
  obtain ⟨b3, h3⟩ : ∃ b, (s.toList == [110, 117, 108, 108]) = b := ⟨_, rfl⟩
  obtain ⟨b4, h4⟩ : ∃ b, (s.toList == [97, 110, 100]) = b := ⟨_, rfl⟩
  obtain ⟨b5, h5⟩ : ∃ b, (s.toList == [111, 114]) = b := ⟨_, rfl⟩
  obtain ⟨b6, h6⟩ : ∃ b, (s.toList == [110, 111, 116]) = b := ⟨_, rfl⟩
  obtain ⟨b7, h7⟩ : ∃ b, (s.toList == [105, 115]) = b := ⟨_, rfl⟩
  have HX := Lib.hid (show ownB s.toList = (b1 || (b2 || (b3 || (b4 || (b5 || (b6 || b7)))))) by unfold ownB; rw [h1, h2, h3, h4, h5, h6, h7])
  rw [HX.out]
  clear HX
  cases b1
  · cases b2
    · cases b3
      · cases b4
        · cases b5
          · cases b6
            · cases b7
              all_goals (go_enter Tryd.func12, Tryd.ntmps12; go_wp2; go_ret; exact ⟨rfl, rfl⟩)
            · (go_enter Tryd.func12, Tryd.ntmps12; go_wp2; go_ret; exact ⟨rfl, rfl⟩)
          · (go_enter Tryd.func12, Tryd.ntmps12; go_wp2; go_ret; exact ⟨rfl, rfl⟩)
        · (go_enter Tryd.func12, Tryd.ntmps12; go_wp2; go_ret; exact ⟨rfl, rfl⟩)
      · (go_enter Tryd.func12, Tryd.ntmps12; go_wp2; go_ret; exact ⟨rfl, rfl⟩)
    · (go_enter Tryd.func12, Tryd.ntmps12; go_wp2; go_ret; exact ⟨rfl, rfl⟩)
  · (go_enter Tryd.func12, Tryd.ntmps12; go_wp2; go_ret; exact ⟨rfl, rfl⟩)
set_option maxHeartbeats 4000000 in
theorem rown_any (s : ByteArray) (w : World) :
    Calls Tryd.prog 13 #[.string s] w fun e w' => e = .returned (.bool (ownB s.toList)) ∧ w = w' := by
  obtain ⟨b1, h1⟩ : ∃ b, (s.toList == [116, 114, 117, 101]) = b := ⟨_, rfl⟩
  obtain ⟨b2, h2⟩ : ∃ b, (s.toList == [102, 97, 108, 115, 101]) = b := ⟨_, rfl⟩
  obtain ⟨b3, h3⟩ : ∃ b, (s.toList == [110, 117, 108, 108]) = b := ⟨_, rfl⟩
  obtain ⟨b4, h4⟩ : ∃ b, (s.toList == [97, 110, 100]) = b := ⟨_, rfl⟩
  obtain ⟨b5, h5⟩ : ∃ b, (s.toList == [111, 114]) = b := ⟨_, rfl⟩
  obtain ⟨b6, h6⟩ : ∃ b, (s.toList == [110, 111, 116]) = b := ⟨_, rfl⟩
  obtain ⟨b7, h7⟩ : ∃ b, (s.toList == [105, 115]) = b := ⟨_, rfl⟩
  have HX := Lib.hid (show ownB s.toList = (b1 || (b2 || (b3 || (b4 || (b5 || (b6 || b7)))))) by unfold ownB; rw [h1, h2, h3, h4, h5, h6, h7])
  rw [HX.out]
  clear HX
  cases b1
  · cases b2
    · cases b3
      · cases b4
        · cases b5
          · cases b6
            · cases b7
              all_goals (go_enter Tryd.func13, Tryd.ntmps13; go_wp2; go_ret; exact ⟨rfl, rfl⟩)
            · (go_enter Tryd.func13, Tryd.ntmps13; go_wp2; go_ret; exact ⟨rfl, rfl⟩)
          · (go_enter Tryd.func13, Tryd.ntmps13; go_wp2; go_ret; exact ⟨rfl, rfl⟩)
        · (go_enter Tryd.func13, Tryd.ntmps13; go_wp2; go_ret; exact ⟨rfl, rfl⟩)
      · (go_enter Tryd.func13, Tryd.ntmps13; go_wp2; go_ret; exact ⟨rfl, rfl⟩)
    · (go_enter Tryd.func13, Tryd.ntmps13; go_wp2; go_ret; exact ⟨rfl, rfl⟩)
  · (go_enter Tryd.func13, Tryd.ntmps13; go_wp2; go_ret; exact ⟨rfl, rfl⟩)
end Go.Proofs.YthkdpfadjbhmoaaDoor.Code
