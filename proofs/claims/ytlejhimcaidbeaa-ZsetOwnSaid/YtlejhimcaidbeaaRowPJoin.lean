/-
  The contract of row.Join.
-/
import Derived.Test.YtlejhimcaidbeaaRowMem
namespace Go.Proofs.Ytlejhimcaidbeaa.Code
open Go.ChangeShapes Go.WideShapes Go.ChangeAt Go.RowKit Val
set_option linter.unusedVariables false

theorem fill_copy (X l : List (Int × Int × ByteArray)) (n N : Nat) (hn : n = X.length) (h : n + l.length ≤ N) :
    (X ++ List.replicate (N - n) zV).take n ++ (l ++ (X ++ List.replicate (N - n) zV).drop (n + l.length)) = (X ++ l) ++ List.replicate (N - (n + l.length)) zV := by
  subst hn
  rw [List.take_left, List.drop_append, List.drop_of_length_le (by omega), List.nil_append, Nat.add_sub_cancel_left, List.drop_replicate, Nat.sub_sub, List.append_assoc]
theorem size_val : (Try.prog.info? 52).map (·.size) = some 3 := by
  obtain ⟨i0, hi, _, hz1, _⟩ := info_parts info_val
  rw [hi]
  exact congrArg some hz1
/-- a list of the call's own cut from a place on -/
theorem cut_row (g n N : Nat) (h : n ≤ N) (w : World) :
    (Instr.slice 36 (.slice (some ⟨g, 0, none⟩) N N) (some (.int .i64 n)) none none).run Try.prog w = .ok (.slice (some (if n = N then ⟨g, 0, none⟩ else ⟨g, n * 3, none⟩)) (N - n) (N - n)) w := by
  have hu : Try.prog.underlying 36 = some (.slice (Try.prog.elem 36)) := by kernel_rfl
  have hz : ∀ w, (sizeOf (Try.prog.elem 36)).run Try.prog w = .ok 3 w := fun w => by kernel_rfl
  rw [run_slice_l w 36 _ _ _ hu .i64 n (by omega) (by omega), hz]
  simp only [Result.andThen, sliced, Int.toNat_natCast]
  by_cases e : n = N
  · subst e
    simp
  · rw [if_neg e, if_neg (fun h => e h.symm)]
    simp [Addr.add_lit]
set_option maxHeartbeats 4000000 in
set_option maxRecDepth 100000 in
theorem join_any (A : Option Addr) (cap : Nat) (L : List (Option Addr × Nat × List (Int × Int × ByteArray))) (w : World) (hr : RowsAt w w.heap.size A L) (hl : L.length ≤ 1000000) (hc : (catL L).length ≤ 1000000) :
    Calls Try.prog 68 #[.slice A L.length cap] w fun e w' => ∃ g, e = .returned (.slice (some ⟨g, 0, none⟩) (catL L).length (catL L).length) ∧ w.heap.size ≤ g ∧ Blk w' g (catL L) ∧ Below w.heap.size w w' := by
  have HR := Lib.hid hr
  clear hr
  obtain ⟨i0, hi0, hz0, hz1, hz2⟩ := info_parts info_val
  have hsv := size_val
  go_enter Try.func68, Try.ntmps68
  go_wp2
  go_loop [3, 9] (fun n i => ∃ (k m : Nat), k ≤ L.length ∧ m ≤ 1000000 ∧ i = .int .i64 k ∧ n = .int .i64 m ∧ Hid (m = (catL (L.take k)).length)) (fun _ i => L.length - (intOf i).toNat)
  case atStart => exact ⟨0, 0, by omega, by omega, rfl, rfl, Lib.hid rfl⟩
  case round =>
    obtain ⟨k, m, hk, hm, rfl, rfl, HM⟩ := hrel
    by_cases hkl : k < L.length
    · obtain ⟨⟨ad, rfl, ha, c0⟩, _⟩ := HR.out k hkl
      have HC := Lib.hid (catL_snoc L k hkl)
      have hle := catL_le L (k + 1)
      rw [HC.out, List.length_append, ← HM.out] at hle
      go_wp2
      go_round
      case rel => exact ⟨k + 1, m + L[k].2.2.length, by omega, by omega, by go_num, by go_num, Lib.hid (by rw [HC.out, List.length_append, ← HM.out])⟩
      case measure => simp [intOf]; omega
    · obtain rfl : k = L.length := by omega
      rw [List.take_length] at HM
      obtain ⟨N, rfl⟩ : ∃ N, N = m := ⟨_, rfl⟩
      have hN : (catL L).length = N := HM.out.symm
      have HN := Lib.hid hN
      clear hN hc
      go_wp2_with (at_make; refine wpList_make_vals _ rfl _ _ 36 rfl 52 i0 Try.underlying36 hi0 hz0 hz1 hz2 _ _ _ _ N rfl rfl rfl rfl (by omega) ?_)
      have HB0 := Lib.hid (Blk.fresh w (List.replicate N zV))
      have HL0 := Lib.hid (below_alloc w (.cells (flat (List.replicate N zV)).toArray 52))
      go_wp2
      go_loopw [3, 24] (fun n i wr => ∃ (k m : Nat), k ≤ L.length ∧ m ≤ N ∧ i = .int .i64 k ∧ n = .int .i64 m ∧ Hid (m = (catL (L.take k)).length) ∧ Blk wr w.heap.size (catL (L.take k) ++ List.replicate (N - m) zV) ∧ Below w.heap.size w wr) (fun _ i _ => L.length - (intOf i).toNat)
      case atStart => exact ⟨0, 0, by omega, by omega, rfl, rfl, Lib.hid rfl, by simpa [catL] using HB0.out, HL0.out⟩
      case round =>
        obtain ⟨k, m, hk, hm, rfl, rfl, HM, hblk, hbel⟩ := hrel
        have hsz := hbel.size
        have hlt := hblk.lt
        have HL := Lib.hid hbel
        have HB := Lib.hid hblk
        have VR := Lib.hid (HR.out.below hbel)
        clear hbel hblk
        by_cases hkl : k < L.length
        · obtain ⟨⟨ad, rfl, ha, c0⟩, v0⟩ := VR.out k hkl
          have V0 := Lib.hid v0
          have HC := Lib.hid (catL_snoc L k hkl)
          have hle := catL_le L (k + 1)
          rw [HC.out, List.length_append, ← HM.out, HN.out] at hle
          have hcut := cut_row w.heap.size m N hm
          have hlen : (catL (L.take k) ++ List.replicate (N - m) zV).length = N := by rw [List.length_append, ← HM.out]; simp; omega
          have HF := Lib.hid (fill_copy (catL (L.take k)) L[k].2.2 m N HM.out hle)
          clear v0
          go_wp2_with fail
          go_region_law (refine step_copy_vals rfl _ _ 36 36 rfl 52 Try.underlying36 hsv _ _ _ _ _ w.heap.size m _ L[k].2.2 rfl rfl HB.out (by omega) (by intro h; rw [if_neg (by omega)]) w.heap.size V0.out (by omega) w (Below.drew HL.out) (Nat.le_refl _) ?_; intro w4 hg4 hb4)
          have HB4 := Lib.hid (show Blk w4 w.heap.size (catL (L.take (k + 1)) ++ List.replicate (N - (m + L[k].2.2.length)) zV) by rw [HC.out, ← HF.out]; exact hg4.out)
          clear hg4
          go_wp2
          go_roundw
          case rel => exact ⟨k + 1, m + L[k].2.2.length, by omega, by omega, by go_num, by go_num, Lib.hid (by rw [HC.out, List.length_append, ← HM.out]), HB4.out, hb4.out⟩
          case measure => simp [intOf]; omega
        · obtain rfl : k = L.length := by omega
          rw [List.take_length] at HM HB
          obtain rfl : N = m := by rw [HM.out, HN.out]
          go_wp2
          go_ret
          exact ⟨w.heap.size, by rw [HN.out]; rfl, Nat.le_refl _, by simpa using HB.out, HL.out⟩
end Go.Proofs.Ytlejhimcaidbeaa.Code
