/- The walk of ValueBack. -/
import Derived.Test.YthfhehpfkpicmaaDoorValBack
import Derived.OpenShut
namespace Go.Proofs.YthfhehpfkpicmaaDoor.valueBack
set_option linter.unusedSimpArgs false
open Go.ChangeShapes Go.WideShapes Go.ChangeAt Go.RowKit Val
set_option maxRecDepth 100000 in
set_option maxHeartbeats 6400000 in
/-- the walk, where the first value is null -/
theorem walk0 (yk yn : Int) (ys : ByteArray) (F : Int) (k2 n2 : Int) (s2 : ByteArray) (c : Int) (m : Int) (w : World) (hm : w.cell? ⟨0, 0, none⟩ = some (.int .i64 m)) (f1 : fits 0) (f2 : fits n2)
    (h2 : decide ((600 : Int) < (s2.size : Int)) = false) (R1 : Hid (rightB 0 0 ⟨#[]⟩ = true)) (R2 : Hid (rightB k2 n2 s2 = true))
    (zk zn : Int) (zs : ByteArray) (G : Int)
    (CX : Hid (∀ w, Calls Tryd.prog 8 #[.agg #[.int .i64 0, .int .i64 0, .string ⟨#[]⟩], .int .i64 c] w fun e w' => e = .returned (.tuple #[.agg #[.int .i64 0, .int .i64 0, .string ⟨#[]⟩], .int .i64 0]) ∧ Below w.heap.size w w'))
    (FX : Hid (∀ w, Calls Tryd.prog 18 #[.agg #[.int .i64 0, .int .i64 0, .string ⟨#[]⟩], .int .i64 c] w fun e w' => e = .returned (.bool true) ∧ Below w.heap.size w w'))
    (CY : Hid (∀ w, Calls Tryd.prog 8 #[.agg #[.int .i64 0, .int .i64 0, .string ⟨#[]⟩], .int .i64 0] w fun e w' => e = .returned (.tuple #[.agg #[.int .i64 yk, .int .i64 yn, .string ys], .int .i64 F]) ∧ Below w.heap.size w w'))
    (CZ : Hid (∀ w, Calls Tryd.prog 8 #[.agg #[.int .i64 k2, .int .i64 n2, .string s2], .int .i64 c] w fun e w' => e = .returned (.tuple #[.agg #[.int .i64 zk, .int .i64 zn, .string zs], .int .i64 G]) ∧ Below w.heap.size w w'))
    (HD : Hid (((G == 0) = false ∧ (G != 0) = true) ∨ ((G == 0) = true ∧ (G != 0) = false ∧ (0 == k2) = false ∧ (0 != k2) = true) ∨ ((G == 0) = true ∧ (G != 0) = false ∧ (0 == k2) = true ∧ (0 != k2) = false ∧ (cmpV 0 0 ⟨#[]⟩ zk zn zs == cmpV 0 0 ⟨#[]⟩ k2 n2 s2) = true))) :
    Calls Tryd.prog 6 #[.agg #[.int .i64 0, .int .i64 0, .string ⟨#[]⟩], .agg #[.int .i64 k2, .int .i64 n2, .string s2], .int .i64 c] w fun e w' => e = .returned (.bool true) ∧ Below w.heap.size w w' := by
  have hlt : 0 < w.heap.size := World.block_lt_of_cell? _ _ hm
  have HM := Lib.hid hm
  clear hm
  have V := Lib.hid ((Box.fresh w 0 0 ⟨#[]⟩ 24).alloc (.cells #[.int .i64 k2, .int .i64 n2, .string s2] 24))
  have U := Lib.hid (Box.fresh (w.alloc (.cells #[.int .i64 0, .int .i64 0, .string ⟨#[]⟩] 24)) k2 n2 s2 24)
  rw [show (w.alloc (.cells #[.int .i64 0, .int .i64 0, .string ⟨#[]⟩] 24)).heap.size = w.heap.size + 1 by simp] at U
  have L := Lib.hid ((below_alloc w (.cells #[.int .i64 0, .int .i64 0, .string ⟨#[]⟩] 24)).alloc (by simp) (.cells #[.int .i64 k2, .int .i64 n2, .string s2] 24))
  go_enter Tryd.func6, Tryd.ntmps6
  go_wp2_with fail
  refine (right_is _ _ _ f1 true R1.out _).mono ?_
  rintro e w1 ⟨rfl, hb⟩
  have V1 := Lib.hid (V.out.call hb)
  have U1 := Lib.hid (U.out.call hb)
  have L1 := Lib.hid (bnext L.out L.out.size hb)
  clear V U L hb
  obtain ⟨u0, u1, u2, uz⟩ := U1.out
  go_wp2_with fail
  refine (right_is _ _ _ f2 true R2.out _).mono ?_
  rintro e w2 ⟨rfl, hb⟩
  have V2 := Lib.hid (V1.out.call hb)
  have U2 := Lib.hid (U1.out.call hb)
  have L2 := Lib.hid (bnext L1.out L1.out.size hb)
  clear V1 U1 L1 hb u0 u1 u2 uz
  obtain ⟨v0, v1, v2, vz⟩ := V2.out
  go_wp2_with fail
  refine (CX.out _).mono ?_
  rintro e w3 ⟨rfl, hb⟩
  have V3 := Lib.hid ((V2.out.call hb).alloc (.cells #[.int .i64 0, .int .i64 0, .string ⟨#[]⟩] 24))
  have U3 := Lib.hid ((U2.out.call hb).alloc (.cells #[.int .i64 0, .int .i64 0, .string ⟨#[]⟩] 24))
  have X3 := Lib.hid (Box.fresh w3 0 0 ⟨#[]⟩ 24)
  have L3 := Lib.hid ((bnext L2.out L2.out.size hb).alloc (bnext L2.out L2.out.size hb).size (.cells #[.int .i64 0, .int .i64 0, .string ⟨#[]⟩] 24))
  clear V2 U2 L2 hb v0 v1 v2 vz
  go_wp2_with fail
  refine (FX.out _).mono ?_
  rintro e w4 ⟨rfl, hb⟩
  have V4 := Lib.hid (V3.out.call hb)
  have U4 := Lib.hid (U3.out.call hb)
  have X4 := Lib.hid (X3.out.call hb)
  have L4 := Lib.hid (bnext L3.out L3.out.size hb)
  clear V3 U3 X3 L3 hb
  obtain ⟨v0, v1, v2, vz⟩ := V4.out
  obtain ⟨x0, x1, x2, xz⟩ := X4.out
  go_wp2_with fail
  refine (CY.out _).mono ?_
  rintro e w5 ⟨rfl, hb⟩
  have V5 := Lib.hid ((V4.out.call hb).alloc (.cells #[.int .i64 yk, .int .i64 yn, .string ys] 24))
  have U5 := Lib.hid ((U4.out.call hb).alloc (.cells #[.int .i64 yk, .int .i64 yn, .string ys] 24))
  have X5 := Lib.hid ((X4.out.call hb).alloc (.cells #[.int .i64 yk, .int .i64 yn, .string ys] 24))
  have Y5 := Lib.hid (Box.fresh w5 yk yn ys 24)
  have L5 := Lib.hid ((bnext L4.out L4.out.size hb).alloc (bnext L4.out L4.out.size hb).size (.cells #[.int .i64 yk, .int .i64 yn, .string ys] 24))
  clear V4 U4 X4 L4 hb v0 v1 v2 vz x0 x1 x2 xz
  obtain ⟨v0, v1, v2, vz⟩ := V5.out
  obtain ⟨u0, u1, u2, uz⟩ := U5.out
  go_wp2_with fail
  refine (CZ.out _).mono ?_
  rintro e w6 ⟨rfl, hb⟩
  have V6 := Lib.hid ((V5.out.call hb).alloc (.cells #[.int .i64 zk, .int .i64 zn, .string zs] 24))
  have U6 := Lib.hid ((U5.out.call hb).alloc (.cells #[.int .i64 zk, .int .i64 zn, .string zs] 24))
  have X6 := Lib.hid ((X5.out.call hb).alloc (.cells #[.int .i64 zk, .int .i64 zn, .string zs] 24))
  have Y6 := Lib.hid ((Y5.out.call hb).alloc (.cells #[.int .i64 zk, .int .i64 zn, .string zs] 24))
  have Z6 := Lib.hid (Box.fresh w6 zk zn zs 24)
  have L6 := Lib.hid ((bnext L5.out L5.out.size hb).alloc (bnext L5.out L5.out.size hb).size (.cells #[.int .i64 zk, .int .i64 zn, .string zs] 24))
  clear V5 U5 X5 Y5 L5 hb v0 v1 v2 vz u0 u1 u2 uz
  go_wp2_with fail
  have HW := Lib.hid (show (w6.alloc (.cells #[.int .i64 zk, .int .i64 zn, .string zs] 24)).cell? ⟨0, 0, none⟩ = some (.int .i64 m) by rw [L6.out.cell (p := ⟨0, 0, none⟩) hlt]; exact HM.out)
  clear HM Y6
  generalize w6.alloc (.cells #[.int .i64 zk, .int .i64 zn, .string zs] 24) = W at *
  obtain ⟨v0, v1, v2, vz⟩ := V6.out
  obtain ⟨u0, u1, u2, uz⟩ := U6.out
  obtain ⟨x0, x1, x2, xz⟩ := X6.out
  obtain ⟨z0, z1, z2, zz⟩ := Z6.out
  clear V6 U6 X6 Z6
  rcases HD.out with ⟨g0, g1⟩ | ⟨g0, g1, g2, g3⟩ | ⟨g0, g1, g2, g3, g4⟩
  · clear HD
    refine wp_region_held_drew (S := fun w' => Below W.heap.size W w') (by kernel_rfl) ?_ (fun hHeld => ?_)
    · exact Below.drew (Below.refl _ _)
    refine wpAnyH_ready (rs := [0]) (by kernel_rfl) (by simp) ?_
    refine AllReadyH.cons (o := ⟨some 87, _, _, _, _, _⟩) rfl (fun K hK => ?_) AllReadyH.nil
    go_simp
    refine (alive_any m W.drew HW.out).mono ?_
    rintro e w7 ⟨rfl, hb⟩
    refine hK.out _ _ ?_ (fun hHeld => ?_)
    · exact (Below.drew (Below.refl _ _)).trans (hb.mono (Nat.le_refl _))
    clear hK K
    (try simp only [Act.put, List.setIfInBounds_toArray, List.set_cons_zero, List.set_cons_succ])
    refine wpAnyH_take (i := 1) (oi := ⟨some 88, _, _, _, _, _⟩) (v := ?_) rfl (by kernel_rfl) (by kernel_rfl) (by kernel_rfl) (fun _ _ _ h => h) (Or.inl ⟨by rfl, ?_⟩) (by assumption) ?_; rotate_left 1; (intro w hSw; (try dsimp only at hSw); go_simp; try with_reducible rfl); (try simp only [Act.put, List.setIfInBounds_toArray, List.set_cons_zero, List.set_cons_succ])
    refine wpAnyH_take (i := 2) (oi := ⟨some 89, _, _, _, _, _⟩) (v := ?_) rfl (by kernel_rfl) (by kernel_rfl) (by kernel_rfl) (fun _ _ _ h => h) (Or.inl ⟨by rfl, ?_⟩) (by assumption) ?_; rotate_left 1; (intro w hSw; (try dsimp only at hSw); go_simp; try with_reducible rfl); (try simp only [Act.put, List.setIfInBounds_toArray, List.set_cons_zero, List.set_cons_succ])
    refine wpAnyH_take (i := 3) (oi := ⟨some 90, _, _, _, _, _⟩) (v := ?_) rfl (by kernel_rfl) (by kernel_rfl) (by kernel_rfl) (fun _ _ _ h => h) (Or.inl ⟨by rfl, ?_⟩) (by assumption) ?_; rotate_left 1; (intro w hSw; (try dsimp only at hSw); go_simp; try with_reducible rfl); (try simp only [Act.put, List.setIfInBounds_toArray, List.set_cons_zero, List.set_cons_succ])
    refine wpAnyH_take (i := 4) (oi := ⟨some 91, _, _, _, _, _⟩) (v := ?_) rfl (by kernel_rfl) (by kernel_rfl) (by kernel_rfl) (fun _ _ _ h => h) (Or.inl ⟨by rfl, ?_⟩) (by assumption) ?_; rotate_left 1; (intro w hSw; (try dsimp only at hSw); go_simp; try with_reducible rfl); (try simp only [Act.put, List.setIfInBounds_toArray, List.set_cons_zero, List.set_cons_succ])
    refine wpAnyH_take (i := 5) (oi := ⟨some 92, _, _, _, _, _⟩) (v := undef) rfl (by kernel_rfl) (by kernel_rfl) (by kernel_rfl) (fun _ _ _ h => h) (Or.inr ⟨by rfl, rfl⟩) (by assumption) ?_; (try simp only [Act.put, List.setIfInBounds_toArray, List.set_cons_zero, List.set_cons_succ])
    refine wpAnyH_take (i := 6) (oi := ⟨some 93, _, _, _, _, _⟩) (v := undef) rfl (by kernel_rfl) (by kernel_rfl) (by kernel_rfl) (fun _ _ _ h => h) (Or.inr ⟨by rfl, rfl⟩) (by assumption) ?_; (try simp only [Act.put, List.setIfInBounds_toArray, List.set_cons_zero, List.set_cons_succ])
    refine wpAnyH_take (i := 7) (oi := ⟨some 94, _, _, _, _, _⟩) (v := undef) rfl (by kernel_rfl) (by kernel_rfl) (by kernel_rfl) (fun _ _ _ h => h) (Or.inr ⟨by rfl, rfl⟩) (by assumption) ?_; (try simp only [Act.put, List.setIfInBounds_toArray, List.set_cons_zero, List.set_cons_succ])
    refine wpAnyH_take (i := 8) (oi := ⟨some 95, _, _, _, _, _⟩) (v := undef) rfl (by kernel_rfl) (by kernel_rfl) (by kernel_rfl) (fun _ _ _ h => h) (Or.inr ⟨by rfl, rfl⟩) (by assumption) ?_; (try simp only [Act.put, List.setIfInBounds_toArray, List.set_cons_zero, List.set_cons_succ])
    refine wpAnyH_take (i := 9) (oi := ⟨some 96, _, _, _, _, _⟩) (v := undef) rfl (by kernel_rfl) (by kernel_rfl) (by kernel_rfl) (fun _ _ _ h => h) (Or.inr ⟨by rfl, rfl⟩) (by assumption) ?_; (try simp only [Act.put, List.setIfInBounds_toArray, List.set_cons_zero, List.set_cons_succ])
    refine wpAnyH_take (i := 10) (oi := ⟨some 97, _, _, _, _, _⟩) (v := ?_) rfl (by kernel_rfl) (by kernel_rfl) (by kernel_rfl) (fun _ _ _ h => h) (Or.inl ⟨by rfl, ?_⟩) (by assumption) ?_; rotate_left 1; (intro w hSw; (try dsimp only at hSw); go_simp; try with_reducible rfl); (try simp only [Act.put, List.setIfInBounds_toArray, List.set_cons_zero, List.set_cons_succ])
    refine wpAnyH_take (i := 11) (oi := ⟨some 98, _, _, _, _, _⟩) (v := ?_) rfl (by kernel_rfl) (by kernel_rfl) (by kernel_rfl) (fun _ _ _ h => h) (Or.inl ⟨by rfl, ?_⟩) (by assumption) ?_; rotate_left 1; (intro w hSw; (try dsimp only at hSw); go_simp; try with_reducible rfl); (try simp only [Act.put, List.setIfInBounds_toArray, List.set_cons_zero, List.set_cons_succ])
    refine wpAnyH_take (i := 12) (oi := ⟨some 99, _, _, _, _, _⟩) (v := undef) rfl (by kernel_rfl) (by kernel_rfl) (by kernel_rfl) (fun _ _ _ h => h) (Or.inr ⟨by rfl, rfl⟩) (by assumption) ?_; (try simp only [Act.put, List.setIfInBounds_toArray, List.set_cons_zero, List.set_cons_succ])
    refine wpAnyH_take (i := 13) (oi := ⟨some 100, _, _, _, _, _⟩) (v := undef) rfl (by kernel_rfl) (by kernel_rfl) (by kernel_rfl) (fun _ _ _ h => h) (Or.inr ⟨by rfl, rfl⟩) (by assumption) ?_; (try simp only [Act.put, List.setIfInBounds_toArray, List.set_cons_zero, List.set_cons_succ])
    refine wpAnyH_take (i := 14) (oi := ⟨some 101, _, _, _, _, _⟩) (v := undef) rfl (by kernel_rfl) (by kernel_rfl) (by kernel_rfl) (fun _ _ _ h => h) (Or.inr ⟨by rfl, rfl⟩) (by assumption) ?_; (try simp only [Act.put, List.setIfInBounds_toArray, List.set_cons_zero, List.set_cons_succ])
    refine wpAnyH_take (i := 15) (oi := ⟨some 102, _, _, _, _, _⟩) (v := undef) rfl (by kernel_rfl) (by kernel_rfl) (by kernel_rfl) (fun _ _ _ h => h) (Or.inr ⟨by rfl, rfl⟩) (by assumption) ?_; (try simp only [Act.put, List.setIfInBounds_toArray, List.set_cons_zero, List.set_cons_succ])
    refine wpAnyH_take (i := 16) (oi := ⟨some 103, _, _, _, _, _⟩) (v := undef) rfl (by kernel_rfl) (by kernel_rfl) (by kernel_rfl) (fun _ _ _ h => h) (Or.inr ⟨by rfl, rfl⟩) (by assumption) ?_; (try simp only [Act.put, List.setIfInBounds_toArray, List.set_cons_zero, List.set_cons_succ])
    refine wpAnyH_take (i := 17) (oi := ⟨some 104, _, _, _, _, _⟩) (v := undef) rfl (by kernel_rfl) (by kernel_rfl) (by kernel_rfl) (fun _ _ _ h => h) (Or.inr ⟨by rfl, rfl⟩) (by assumption) ?_; (try simp only [Act.put, List.setIfInBounds_toArray, List.set_cons_zero, List.set_cons_succ])
    refine wpAnyH_take (i := 18) (oi := ⟨some 105, _, _, _, _, _⟩) (v := undef) rfl (by kernel_rfl) (by kernel_rfl) (by kernel_rfl) (fun _ _ _ h => h) (Or.inr ⟨by rfl, rfl⟩) (by assumption) ?_; (try simp only [Act.put, List.setIfInBounds_toArray, List.set_cons_zero, List.set_cons_succ])
    refine wpAnyH_take (i := 19) (oi := ⟨some 106, _, _, _, _, _⟩) (v := ?_) rfl (by kernel_rfl) (by kernel_rfl) (by kernel_rfl) (fun _ _ _ h => h) (Or.inl ⟨by rfl, ?_⟩) (by assumption) ?_; rotate_left 1; (intro w hSw; (try dsimp only at hSw); go_simp; try with_reducible rfl); (try simp only [Act.put, List.setIfInBounds_toArray, List.set_cons_zero, List.set_cons_succ])
    refine wpAnyH_take (i := 20) (oi := ⟨some 107, _, _, _, _, _⟩) (v := ?_) rfl (by kernel_rfl) (by kernel_rfl) (by kernel_rfl) (fun _ _ _ h => h) (Or.inl ⟨by rfl, ?_⟩) (by assumption) ?_; rotate_left 1; (intro w hSw; (try dsimp only at hSw); go_simp; try with_reducible rfl); (try simp only [Act.put, List.setIfInBounds_toArray, List.set_cons_zero, List.set_cons_succ])
    refine wpAnyH_take (i := 21) (oi := ⟨some 6, _, _, _, _, _⟩) (v := ?_) rfl (by kernel_rfl) (by kernel_rfl) (by kernel_rfl) (fun _ _ _ h => h) (Or.inl ⟨by rfl, ?_⟩) (by assumption) ?_; rotate_left 1; (intro w hSw; (try dsimp only at hSw); go_simp; try with_reducible rfl); (try simp only [Act.put, List.setIfInBounds_toArray, List.set_cons_zero, List.set_cons_succ])
    refine wpAnyH_done (by kernel_rfl) ?_ _
    have M := Lib.hid (show Below W.heap.size W _ from hHeld)
    go_wp2
    go_ret
    exact ⟨rfl, bnext L6.out L6.out.size M.out⟩
  · clear HD
    refine wp_region_held_drew (S := fun w' => (w'.cell? ⟨w.heap.size, 0, none⟩ = some (.int .i64 0) ∧ w'.cell? ⟨w.heap.size + 1, 0, none⟩ = some (.int .i64 k2)) ∧ Below W.heap.size W w') (by kernel_rfl) ?_ (fun hHeld => ?_)
    · exact ⟨⟨by simpa [go_sem] using v0, by simpa [go_sem] using u0⟩, Below.drew (Below.refl _ _)⟩
    refine wpAnyH_ready (rs := [0]) (by kernel_rfl) (by simp) ?_
    refine AllReadyH.cons (o := ⟨some 87, _, _, _, _, _⟩) rfl (fun K hK => ?_) AllReadyH.nil
    go_simp
    refine (alive_any m W.drew HW.out).mono ?_
    rintro e w7 ⟨rfl, hb⟩
    refine hK.out _ _ ?_ (fun hHeld => ?_)
    · exact keepK hb hHeld (fun kk => ⟨by rw [kk _ _ vz]; exact v0, by rw [kk _ _ uz]; exact u0⟩)
    clear hK K
    (try simp only [Act.put, List.setIfInBounds_toArray, List.set_cons_zero, List.set_cons_succ])
    refine wpAnyH_take (i := 1) (oi := ⟨some 88, _, _, _, _, _⟩) (v := ?_) rfl (by kernel_rfl) (by kernel_rfl) (by kernel_rfl) (fun _ _ _ h => h) (Or.inl ⟨by rfl, ?_⟩) (by assumption) ?_; rotate_left 1; (intro w hSw; (try dsimp only at hSw); go_simp; try with_reducible rfl); (try simp only [Act.put, List.setIfInBounds_toArray, List.set_cons_zero, List.set_cons_succ])
    refine wpAnyH_take (i := 2) (oi := ⟨some 89, _, _, _, _, _⟩) (v := ?_) rfl (by kernel_rfl) (by kernel_rfl) (by kernel_rfl) (fun _ _ _ h => h) (Or.inl ⟨by rfl, ?_⟩) (by assumption) ?_; rotate_left 1; (intro w hSw; (try dsimp only at hSw); go_simp; try with_reducible rfl); (try simp only [Act.put, List.setIfInBounds_toArray, List.set_cons_zero, List.set_cons_succ])
    refine wpAnyH_take (i := 3) (oi := ⟨some 90, _, _, _, _, _⟩) (v := ?_) rfl (by kernel_rfl) (by kernel_rfl) (by kernel_rfl) (fun _ _ _ h => h) (Or.inl ⟨by rfl, ?_⟩) (by assumption) ?_; rotate_left 1; (intro w hSw; (try dsimp only at hSw); go_simp; try with_reducible rfl); (try simp only [Act.put, List.setIfInBounds_toArray, List.set_cons_zero, List.set_cons_succ])
    refine wpAnyH_take (i := 4) (oi := ⟨some 91, _, _, _, _, _⟩) (v := ?_) rfl (by kernel_rfl) (by kernel_rfl) (by kernel_rfl) (fun _ _ _ h => h) (Or.inl ⟨by rfl, ?_⟩) (by assumption) ?_; rotate_left 1; (intro w hSw; (try dsimp only at hSw); go_simp; try with_reducible rfl); (try simp only [Act.put, List.setIfInBounds_toArray, List.set_cons_zero, List.set_cons_succ])
    refine wpAnyH_take (i := 5) (oi := ⟨some 92, _, _, _, _, _⟩) (v := ?_) rfl (by kernel_rfl) (by kernel_rfl) (by kernel_rfl) (fun _ _ _ h => h) (Or.inl ⟨by rfl, ?_⟩) (by assumption) ?_; rotate_left 1; (intro w hSw; (try dsimp only at hSw); go_simp; try with_reducible rfl); (try simp only [Act.put, List.setIfInBounds_toArray, List.set_cons_zero, List.set_cons_succ])
    refine wpAnyH_take (i := 6) (oi := ⟨some 93, _, _, _, _, _⟩) (v := ?_) rfl (by kernel_rfl) (by kernel_rfl) (by kernel_rfl) (fun _ _ _ h => h) (Or.inl ⟨by rfl, ?_⟩) (by assumption) ?_; rotate_left 1; (intro w hSw; (try dsimp only at hSw); go_simp; try with_reducible rfl); (try simp only [Act.put, List.setIfInBounds_toArray, List.set_cons_zero, List.set_cons_succ])
    refine wpAnyH_take (i := 7) (oi := ⟨some 94, _, _, _, _, _⟩) (v := ?_) rfl (by kernel_rfl) (by kernel_rfl) (by kernel_rfl) (fun _ _ _ h => h) (Or.inl ⟨by rfl, ?_⟩) (by assumption) ?_; rotate_left 1; (intro w hSw; (try dsimp only at hSw); go_simp; try with_reducible rfl); (try simp only [Act.put, List.setIfInBounds_toArray, List.set_cons_zero, List.set_cons_succ])
    refine wpAnyH_take (i := 8) (oi := ⟨some 95, _, _, _, _, _⟩) (v := ?_) rfl (by kernel_rfl) (by kernel_rfl) (by kernel_rfl) (fun _ _ _ h => h) (Or.inl ⟨by rfl, ?_⟩) (by assumption) ?_; rotate_left 1; (intro w hSw; (try dsimp only at hSw); go_simp; try with_reducible rfl); (try simp only [Act.put, List.setIfInBounds_toArray, List.set_cons_zero, List.set_cons_succ])
    refine wpAnyH_take (i := 9) (oi := ⟨some 96, _, _, _, _, _⟩) (v := ?_) rfl (by kernel_rfl) (by kernel_rfl) (by kernel_rfl) (fun _ _ _ h => h) (Or.inl ⟨by rfl, ?_⟩) (by assumption) ?_; rotate_left 1; (intro w hSw; (try dsimp only at hSw); go_simp; try with_reducible rfl); (try simp only [Act.put, List.setIfInBounds_toArray, List.set_cons_zero, List.set_cons_succ])
    refine wpAnyH_take (i := 10) (oi := ⟨some 97, _, _, _, _, _⟩) (v := ?_) rfl (by kernel_rfl) (by kernel_rfl) (by kernel_rfl) (fun _ _ _ h => h) (Or.inl ⟨by rfl, ?_⟩) (by assumption) ?_; rotate_left 1; (intro w hSw; (try dsimp only at hSw); go_simp; try with_reducible rfl); (try simp only [Act.put, List.setIfInBounds_toArray, List.set_cons_zero, List.set_cons_succ])
    refine wpAnyH_take (i := 11) (oi := ⟨some 98, _, _, _, _, _⟩) (v := ?_) rfl (by kernel_rfl) (by kernel_rfl) (by kernel_rfl) (fun _ _ _ h => h) (Or.inl ⟨by rfl, ?_⟩) (by assumption) ?_; rotate_left 1; (intro w hSw; (try dsimp only at hSw); go_simp; try with_reducible rfl); (try simp only [Act.put, List.setIfInBounds_toArray, List.set_cons_zero, List.set_cons_succ])
    refine wpAnyH_take (i := 12) (oi := ⟨some 99, _, _, _, _, _⟩) (v := undef) rfl (by kernel_rfl) (by kernel_rfl) (by kernel_rfl) (fun _ _ _ h => h) (Or.inr ⟨by rfl, rfl⟩) (by assumption) ?_; (try simp only [Act.put, List.setIfInBounds_toArray, List.set_cons_zero, List.set_cons_succ])
    refine wpAnyH_take (i := 13) (oi := ⟨some 100, _, _, _, _, _⟩) (v := undef) rfl (by kernel_rfl) (by kernel_rfl) (by kernel_rfl) (fun _ _ _ h => h) (Or.inr ⟨by rfl, rfl⟩) (by assumption) ?_; (try simp only [Act.put, List.setIfInBounds_toArray, List.set_cons_zero, List.set_cons_succ])
    refine wpAnyH_take (i := 14) (oi := ⟨some 101, _, _, _, _, _⟩) (v := undef) rfl (by kernel_rfl) (by kernel_rfl) (by kernel_rfl) (fun _ _ _ h => h) (Or.inr ⟨by rfl, rfl⟩) (by assumption) ?_; (try simp only [Act.put, List.setIfInBounds_toArray, List.set_cons_zero, List.set_cons_succ])
    refine wpAnyH_take (i := 15) (oi := ⟨some 102, _, _, _, _, _⟩) (v := undef) rfl (by kernel_rfl) (by kernel_rfl) (by kernel_rfl) (fun _ _ _ h => h) (Or.inr ⟨by rfl, rfl⟩) (by assumption) ?_; (try simp only [Act.put, List.setIfInBounds_toArray, List.set_cons_zero, List.set_cons_succ])
    refine wpAnyH_take (i := 16) (oi := ⟨some 103, _, _, _, _, _⟩) (v := undef) rfl (by kernel_rfl) (by kernel_rfl) (by kernel_rfl) (fun _ _ _ h => h) (Or.inr ⟨by rfl, rfl⟩) (by assumption) ?_; (try simp only [Act.put, List.setIfInBounds_toArray, List.set_cons_zero, List.set_cons_succ])
    refine wpAnyH_take (i := 17) (oi := ⟨some 104, _, _, _, _, _⟩) (v := undef) rfl (by kernel_rfl) (by kernel_rfl) (by kernel_rfl) (fun _ _ _ h => h) (Or.inr ⟨by rfl, rfl⟩) (by assumption) ?_; (try simp only [Act.put, List.setIfInBounds_toArray, List.set_cons_zero, List.set_cons_succ])
    refine wpAnyH_take (i := 18) (oi := ⟨some 105, _, _, _, _, _⟩) (v := undef) rfl (by kernel_rfl) (by kernel_rfl) (by kernel_rfl) (fun _ _ _ h => h) (Or.inr ⟨by rfl, rfl⟩) (by assumption) ?_; (try simp only [Act.put, List.setIfInBounds_toArray, List.set_cons_zero, List.set_cons_succ])
    refine wpAnyH_take (i := 19) (oi := ⟨some 106, _, _, _, _, _⟩) (v := ?_) rfl (by kernel_rfl) (by kernel_rfl) (by kernel_rfl) (fun _ _ _ h => h) (Or.inl ⟨by rfl, ?_⟩) (by assumption) ?_; rotate_left 1; (intro w hSw; (try dsimp only at hSw); go_simp; try with_reducible rfl); (try simp only [Act.put, List.setIfInBounds_toArray, List.set_cons_zero, List.set_cons_succ])
    refine wpAnyH_take (i := 20) (oi := ⟨some 107, _, _, _, _, _⟩) (v := ?_) rfl (by kernel_rfl) (by kernel_rfl) (by kernel_rfl) (fun _ _ _ h => h) (Or.inl ⟨by rfl, ?_⟩) (by assumption) ?_; rotate_left 1; (intro w hSw; (try dsimp only at hSw); go_simp; try with_reducible rfl); (try simp only [Act.put, List.setIfInBounds_toArray, List.set_cons_zero, List.set_cons_succ])
    refine wpAnyH_take (i := 21) (oi := ⟨some 6, _, _, _, _, _⟩) (v := ?_) rfl (by kernel_rfl) (by kernel_rfl) (by kernel_rfl) (fun _ _ _ h => h) (Or.inl ⟨by rfl, ?_⟩) (by assumption) ?_; rotate_left 1; (intro w hSw; (try dsimp only at hSw); go_simp; try with_reducible rfl); (try simp only [Act.put, List.setIfInBounds_toArray, List.set_cons_zero, List.set_cons_succ])
    refine wpAnyH_done (by kernel_rfl) ?_ _
    have M := Lib.hid (show Below W.heap.size W _ from hHeld.2)
    go_wp2
    go_ret
    exact ⟨rfl, bnext L6.out L6.out.size M.out⟩
  · clear HD
    first | (go_region_held3 (fun w' => (w'.cell? ⟨w.heap.size, 0, none⟩ = some (.int .i64 0) ∧ w'.cell? ⟨w.heap.size, 1, none⟩ = some (.int .i64 0) ∧ w'.cell? ⟨w.heap.size, 2, none⟩ = some (.string ⟨#[]⟩) ∧ w'.cell? ⟨w.heap.size + 1, 0, none⟩ = some (.int .i64 k2) ∧ w'.cell? ⟨w.heap.size + 1, 1, none⟩ = some (.int .i64 n2) ∧ w'.cell? ⟨w.heap.size + 1, 2, none⟩ = some (.string s2) ∧ w'.cell? ⟨w3.heap.size, 0, none⟩ = some (.int .i64 0) ∧ w'.cell? ⟨w3.heap.size, 1, none⟩ = some (.int .i64 0) ∧ w'.cell? ⟨w3.heap.size, 2, none⟩ = some (.string ⟨#[]⟩) ∧ w'.cell? ⟨w6.heap.size, 0, none⟩ = some (.int .i64 zk) ∧ w'.cell? ⟨w6.heap.size, 1, none⟩ = some (.int .i64 zn) ∧ w'.cell? ⟨w6.heap.size, 2, none⟩ = some (.string zs)) ∧ Below W.heap.size W w')
      (first | assumption | (refine keepK hb (by assumption) ?_; intro kk; exact ⟨by rw [kk _ _ vz]; exact v0, by rw [kk _ _ vz]; exact v1, by rw [kk _ _ vz]; exact v2, by rw [kk _ _ uz]; exact u0, by rw [kk _ _ uz]; exact u1, by rw [kk _ _ uz]; exact u2, by rw [kk _ _ xz]; exact x0, by rw [kk _ _ xz]; exact x1, by rw [kk _ _ xz]; exact x2, by rw [kk _ _ zz]; exact z0, by rw [kk _ _ zz]; exact z1, by rw [kk _ _ zz]; exact z2⟩) | (exact ⟨⟨by simpa [go_sem] using v0, by simpa [go_sem] using v1, by simpa [go_sem] using v2, by simpa [go_sem] using u0, by simpa [go_sem] using u1, by simpa [go_sem] using u2, by simpa [go_sem] using x0, by simpa [go_sem] using x1, by simpa [go_sem] using x2, by simpa [go_sem] using z0, by simpa [go_sem] using z1, by simpa [go_sem] using z2⟩, Below.drew (Below.refl _ _)⟩))
      (first | (go_at_call 7; refine (alive_any m _ ?c9).mono ?_; (case c9 => exact HW.out); rintro e w7 ⟨rfl, hb⟩) | (go_at_call 16; refine (compare_any _ _ _ _ _ _ _).mono ?_; rintro e w8 ⟨rfl, hb⟩))) | fail
    all_goals
      have M := Lib.hid (show Below W.heap.size W _ by rename_i hS; exact hS.2)
      go_wp2
      go_ret
      exact ⟨rfl, bnext L6.out L6.out.size M.out⟩
set_option maxRecDepth 100000 in
set_option maxHeartbeats 6400000 in
/-- the walk, where the first value is not null and its cast is one -/
theorem walk1 (k1 n1 : Int) (s1 : ByteArray) (k0 : (k1 == 0) = false) (k0' : (k1 != 0) = true) (k2 n2 : Int) (s2 : ByteArray) (c : Int) (m : Int) (w : World) (hm : w.cell? ⟨0, 0, none⟩ = some (.int .i64 m)) (f1 : fits n1) (f2 : fits n2)
    (h1 : decide ((600 : Int) < (s1.size : Int)) = false) (h2 : decide ((600 : Int) < (s2.size : Int)) = false) (R1 : Hid (rightB k1 n1 s1 = true)) (R2 : Hid (rightB k2 n2 s2 = true))
    (zk zn : Int) (zs : ByteArray) (G : Int)
    (CX : Hid (∀ w, Calls Tryd.prog 8 #[.agg #[.int .i64 k1, .int .i64 n1, .string s1], .int .i64 c] w fun e w' => e = .returned (.tuple #[.agg #[.int .i64 c, .int .i64 n1, .string s1], .int .i64 0]) ∧ Below w.heap.size w w'))
    (FX : Hid (∀ w, Calls Tryd.prog 18 #[.agg #[.int .i64 c, .int .i64 n1, .string s1], .int .i64 c] w fun e w' => e = .returned (.bool true) ∧ Below w.heap.size w w'))
    (CY : Hid (∀ w, Calls Tryd.prog 8 #[.agg #[.int .i64 c, .int .i64 n1, .string s1], .int .i64 k1] w fun e w' => e = .returned (.tuple #[.agg #[.int .i64 k1, .int .i64 n1, .string s1], .int .i64 0]) ∧ Below w.heap.size w w'))
    (CZ : Hid (∀ w, Calls Tryd.prog 8 #[.agg #[.int .i64 k2, .int .i64 n2, .string s2], .int .i64 c] w fun e w' => e = .returned (.tuple #[.agg #[.int .i64 zk, .int .i64 zn, .string zs], .int .i64 G]) ∧ Below w.heap.size w w'))
    (HD : Hid (((G == 0) = false ∧ (G != 0) = true) ∨ ((G == 0) = true ∧ (G != 0) = false ∧ (k1 == k2) = false ∧ (k1 != k2) = true) ∨ ((G == 0) = true ∧ (G != 0) = false ∧ (k1 == k2) = true ∧ (k1 != k2) = false ∧ (cmpV c n1 s1 zk zn zs == cmpV k1 n1 s1 k2 n2 s2) = true))) :
    Calls Tryd.prog 6 #[.agg #[.int .i64 k1, .int .i64 n1, .string s1], .agg #[.int .i64 k2, .int .i64 n2, .string s2], .int .i64 c] w fun e w' => e = .returned (.bool true) ∧ Below w.heap.size w w' := by
  have hlt : 0 < w.heap.size := World.block_lt_of_cell? _ _ hm
  have HM := Lib.hid hm
  clear hm
  have V := Lib.hid ((Box.fresh w k1 n1 s1 24).alloc (.cells #[.int .i64 k2, .int .i64 n2, .string s2] 24))
  have U := Lib.hid (Box.fresh (w.alloc (.cells #[.int .i64 k1, .int .i64 n1, .string s1] 24)) k2 n2 s2 24)
  rw [show (w.alloc (.cells #[.int .i64 k1, .int .i64 n1, .string s1] 24)).heap.size = w.heap.size + 1 by simp] at U
  have L := Lib.hid ((below_alloc w (.cells #[.int .i64 k1, .int .i64 n1, .string s1] 24)).alloc (by simp) (.cells #[.int .i64 k2, .int .i64 n2, .string s2] 24))
  go_enter Tryd.func6, Tryd.ntmps6
  go_wp2_with fail
  refine (right_is _ _ _ f1 true R1.out _).mono ?_
  rintro e w1 ⟨rfl, hb⟩
  have V1 := Lib.hid (V.out.call hb)
  have U1 := Lib.hid (U.out.call hb)
  have L1 := Lib.hid (bnext L.out L.out.size hb)
  clear V U L hb
  obtain ⟨u0, u1, u2, uz⟩ := U1.out
  go_wp2_with fail
  refine (right_is _ _ _ f2 true R2.out _).mono ?_
  rintro e w2 ⟨rfl, hb⟩
  have V2 := Lib.hid (V1.out.call hb)
  have U2 := Lib.hid (U1.out.call hb)
  have L2 := Lib.hid (bnext L1.out L1.out.size hb)
  clear V1 U1 L1 hb u0 u1 u2 uz
  obtain ⟨v0, v1, v2, vz⟩ := V2.out
  go_wp2_with fail
  refine (CX.out _).mono ?_
  rintro e w3 ⟨rfl, hb⟩
  have V3 := Lib.hid ((V2.out.call hb).alloc (.cells #[.int .i64 c, .int .i64 n1, .string s1] 24))
  have U3 := Lib.hid ((U2.out.call hb).alloc (.cells #[.int .i64 c, .int .i64 n1, .string s1] 24))
  have X3 := Lib.hid (Box.fresh w3 c n1 s1 24)
  have L3 := Lib.hid ((bnext L2.out L2.out.size hb).alloc (bnext L2.out L2.out.size hb).size (.cells #[.int .i64 c, .int .i64 n1, .string s1] 24))
  clear V2 U2 L2 hb v0 v1 v2 vz
  go_wp2_with fail
  refine (FX.out _).mono ?_
  rintro e w4 ⟨rfl, hb⟩
  have V4 := Lib.hid (V3.out.call hb)
  have U4 := Lib.hid (U3.out.call hb)
  have X4 := Lib.hid (X3.out.call hb)
  have L4 := Lib.hid (bnext L3.out L3.out.size hb)
  clear V3 U3 X3 L3 hb
  obtain ⟨v0, v1, v2, vz⟩ := V4.out
  obtain ⟨x0, x1, x2, xz⟩ := X4.out
  go_wp2_with fail
  refine (CY.out _).mono ?_
  rintro e w5 ⟨rfl, hb⟩
  have V5 := Lib.hid ((V4.out.call hb).alloc (.cells #[.int .i64 k1, .int .i64 n1, .string s1] 24))
  have U5 := Lib.hid ((U4.out.call hb).alloc (.cells #[.int .i64 k1, .int .i64 n1, .string s1] 24))
  have X5 := Lib.hid ((X4.out.call hb).alloc (.cells #[.int .i64 k1, .int .i64 n1, .string s1] 24))
  have Y5 := Lib.hid (Box.fresh w5 k1 n1 s1 24)
  have L5 := Lib.hid ((bnext L4.out L4.out.size hb).alloc (bnext L4.out L4.out.size hb).size (.cells #[.int .i64 k1, .int .i64 n1, .string s1] 24))
  clear V4 U4 X4 L4 hb v0 v1 v2 vz x0 x1 x2 xz
  obtain ⟨v0, v1, v2, vz⟩ := V5.out
  obtain ⟨u0, u1, u2, uz⟩ := U5.out
  go_wp2_with fail
  refine (CZ.out _).mono ?_
  rintro e w6 ⟨rfl, hb⟩
  have V6 := Lib.hid ((V5.out.call hb).alloc (.cells #[.int .i64 zk, .int .i64 zn, .string zs] 24))
  have U6 := Lib.hid ((U5.out.call hb).alloc (.cells #[.int .i64 zk, .int .i64 zn, .string zs] 24))
  have X6 := Lib.hid ((X5.out.call hb).alloc (.cells #[.int .i64 zk, .int .i64 zn, .string zs] 24))
  have Y6 := Lib.hid ((Y5.out.call hb).alloc (.cells #[.int .i64 zk, .int .i64 zn, .string zs] 24))
  have Z6 := Lib.hid (Box.fresh w6 zk zn zs 24)
  have L6 := Lib.hid ((bnext L5.out L5.out.size hb).alloc (bnext L5.out L5.out.size hb).size (.cells #[.int .i64 zk, .int .i64 zn, .string zs] 24))
  clear V5 U5 X5 Y5 L5 hb v0 v1 v2 vz u0 u1 u2 uz
  go_wp2_with fail
  have HW := Lib.hid (show (w6.alloc (.cells #[.int .i64 zk, .int .i64 zn, .string zs] 24)).cell? ⟨0, 0, none⟩ = some (.int .i64 m) by rw [L6.out.cell (p := ⟨0, 0, none⟩) hlt]; exact HM.out)
  clear HM Y6
  generalize w6.alloc (.cells #[.int .i64 zk, .int .i64 zn, .string zs] 24) = W at *
  obtain ⟨v0, v1, v2, vz⟩ := V6.out
  obtain ⟨u0, u1, u2, uz⟩ := U6.out
  obtain ⟨x0, x1, x2, xz⟩ := X6.out
  obtain ⟨z0, z1, z2, zz⟩ := Z6.out
  clear V6 U6 X6 Z6
  rcases HD.out with ⟨g0, g1⟩ | ⟨g0, g1, g2, g3⟩ | ⟨g0, g1, g2, g3, g4⟩
  · clear HD
    refine wp_region_held_drew (S := fun w' => Below W.heap.size W w') (by kernel_rfl) ?_ (fun hHeld => ?_)
    · exact Below.drew (Below.refl _ _)
    refine wpAnyH_ready (rs := [0]) (by kernel_rfl) (by simp) ?_
    refine AllReadyH.cons (o := ⟨some 87, _, _, _, _, _⟩) rfl (fun K hK => ?_) AllReadyH.nil
    go_simp
    refine (alive_any m W.drew HW.out).mono ?_
    rintro e w7 ⟨rfl, hb⟩
    refine hK.out _ _ ?_ (fun hHeld => ?_)
    · exact (Below.drew (Below.refl _ _)).trans (hb.mono (Nat.le_refl _))
    clear hK K
    (try simp only [Act.put, List.setIfInBounds_toArray, List.set_cons_zero, List.set_cons_succ])
    refine wpAnyH_take (i := 1) (oi := ⟨some 88, _, _, _, _, _⟩) (v := ?_) rfl (by kernel_rfl) (by kernel_rfl) (by kernel_rfl) (fun _ _ _ h => h) (Or.inl ⟨by rfl, ?_⟩) (by assumption) ?_; rotate_left 1; (intro w hSw; (try dsimp only at hSw); go_simp; try with_reducible rfl); (try simp only [Act.put, List.setIfInBounds_toArray, List.set_cons_zero, List.set_cons_succ])
    refine wpAnyH_take (i := 2) (oi := ⟨some 89, _, _, _, _, _⟩) (v := ?_) rfl (by kernel_rfl) (by kernel_rfl) (by kernel_rfl) (fun _ _ _ h => h) (Or.inl ⟨by rfl, ?_⟩) (by assumption) ?_; rotate_left 1; (intro w hSw; (try dsimp only at hSw); go_simp; try with_reducible rfl); (try simp only [Act.put, List.setIfInBounds_toArray, List.set_cons_zero, List.set_cons_succ])
    refine wpAnyH_take (i := 3) (oi := ⟨some 90, _, _, _, _, _⟩) (v := ?_) rfl (by kernel_rfl) (by kernel_rfl) (by kernel_rfl) (fun _ _ _ h => h) (Or.inl ⟨by rfl, ?_⟩) (by assumption) ?_; rotate_left 1; (intro w hSw; (try dsimp only at hSw); go_simp; try with_reducible rfl); (try simp only [Act.put, List.setIfInBounds_toArray, List.set_cons_zero, List.set_cons_succ])
    refine wpAnyH_take (i := 4) (oi := ⟨some 91, _, _, _, _, _⟩) (v := ?_) rfl (by kernel_rfl) (by kernel_rfl) (by kernel_rfl) (fun _ _ _ h => h) (Or.inl ⟨by rfl, ?_⟩) (by assumption) ?_; rotate_left 1; (intro w hSw; (try dsimp only at hSw); go_simp; try with_reducible rfl); (try simp only [Act.put, List.setIfInBounds_toArray, List.set_cons_zero, List.set_cons_succ])
    refine wpAnyH_take (i := 5) (oi := ⟨some 92, _, _, _, _, _⟩) (v := undef) rfl (by kernel_rfl) (by kernel_rfl) (by kernel_rfl) (fun _ _ _ h => h) (Or.inr ⟨by rfl, rfl⟩) (by assumption) ?_; (try simp only [Act.put, List.setIfInBounds_toArray, List.set_cons_zero, List.set_cons_succ])
    refine wpAnyH_take (i := 6) (oi := ⟨some 93, _, _, _, _, _⟩) (v := undef) rfl (by kernel_rfl) (by kernel_rfl) (by kernel_rfl) (fun _ _ _ h => h) (Or.inr ⟨by rfl, rfl⟩) (by assumption) ?_; (try simp only [Act.put, List.setIfInBounds_toArray, List.set_cons_zero, List.set_cons_succ])
    refine wpAnyH_take (i := 7) (oi := ⟨some 94, _, _, _, _, _⟩) (v := undef) rfl (by kernel_rfl) (by kernel_rfl) (by kernel_rfl) (fun _ _ _ h => h) (Or.inr ⟨by rfl, rfl⟩) (by assumption) ?_; (try simp only [Act.put, List.setIfInBounds_toArray, List.set_cons_zero, List.set_cons_succ])
    refine wpAnyH_take (i := 8) (oi := ⟨some 95, _, _, _, _, _⟩) (v := undef) rfl (by kernel_rfl) (by kernel_rfl) (by kernel_rfl) (fun _ _ _ h => h) (Or.inr ⟨by rfl, rfl⟩) (by assumption) ?_; (try simp only [Act.put, List.setIfInBounds_toArray, List.set_cons_zero, List.set_cons_succ])
    refine wpAnyH_take (i := 9) (oi := ⟨some 96, _, _, _, _, _⟩) (v := undef) rfl (by kernel_rfl) (by kernel_rfl) (by kernel_rfl) (fun _ _ _ h => h) (Or.inr ⟨by rfl, rfl⟩) (by assumption) ?_; (try simp only [Act.put, List.setIfInBounds_toArray, List.set_cons_zero, List.set_cons_succ])
    refine wpAnyH_take (i := 10) (oi := ⟨some 97, _, _, _, _, _⟩) (v := ?_) rfl (by kernel_rfl) (by kernel_rfl) (by kernel_rfl) (fun _ _ _ h => h) (Or.inl ⟨by rfl, ?_⟩) (by assumption) ?_; rotate_left 1; (intro w hSw; (try dsimp only at hSw); go_simp; try with_reducible rfl); (try simp only [Act.put, List.setIfInBounds_toArray, List.set_cons_zero, List.set_cons_succ])
    refine wpAnyH_take (i := 11) (oi := ⟨some 98, _, _, _, _, _⟩) (v := ?_) rfl (by kernel_rfl) (by kernel_rfl) (by kernel_rfl) (fun _ _ _ h => h) (Or.inl ⟨by rfl, ?_⟩) (by assumption) ?_; rotate_left 1; (intro w hSw; (try dsimp only at hSw); go_simp; try with_reducible rfl); (try simp only [Act.put, List.setIfInBounds_toArray, List.set_cons_zero, List.set_cons_succ])
    refine wpAnyH_take (i := 12) (oi := ⟨some 99, _, _, _, _, _⟩) (v := undef) rfl (by kernel_rfl) (by kernel_rfl) (by kernel_rfl) (fun _ _ _ h => h) (Or.inr ⟨by rfl, rfl⟩) (by assumption) ?_; (try simp only [Act.put, List.setIfInBounds_toArray, List.set_cons_zero, List.set_cons_succ])
    refine wpAnyH_take (i := 13) (oi := ⟨some 100, _, _, _, _, _⟩) (v := undef) rfl (by kernel_rfl) (by kernel_rfl) (by kernel_rfl) (fun _ _ _ h => h) (Or.inr ⟨by rfl, rfl⟩) (by assumption) ?_; (try simp only [Act.put, List.setIfInBounds_toArray, List.set_cons_zero, List.set_cons_succ])
    refine wpAnyH_take (i := 14) (oi := ⟨some 101, _, _, _, _, _⟩) (v := undef) rfl (by kernel_rfl) (by kernel_rfl) (by kernel_rfl) (fun _ _ _ h => h) (Or.inr ⟨by rfl, rfl⟩) (by assumption) ?_; (try simp only [Act.put, List.setIfInBounds_toArray, List.set_cons_zero, List.set_cons_succ])
    refine wpAnyH_take (i := 15) (oi := ⟨some 102, _, _, _, _, _⟩) (v := undef) rfl (by kernel_rfl) (by kernel_rfl) (by kernel_rfl) (fun _ _ _ h => h) (Or.inr ⟨by rfl, rfl⟩) (by assumption) ?_; (try simp only [Act.put, List.setIfInBounds_toArray, List.set_cons_zero, List.set_cons_succ])
    refine wpAnyH_take (i := 16) (oi := ⟨some 103, _, _, _, _, _⟩) (v := undef) rfl (by kernel_rfl) (by kernel_rfl) (by kernel_rfl) (fun _ _ _ h => h) (Or.inr ⟨by rfl, rfl⟩) (by assumption) ?_; (try simp only [Act.put, List.setIfInBounds_toArray, List.set_cons_zero, List.set_cons_succ])
    refine wpAnyH_take (i := 17) (oi := ⟨some 104, _, _, _, _, _⟩) (v := undef) rfl (by kernel_rfl) (by kernel_rfl) (by kernel_rfl) (fun _ _ _ h => h) (Or.inr ⟨by rfl, rfl⟩) (by assumption) ?_; (try simp only [Act.put, List.setIfInBounds_toArray, List.set_cons_zero, List.set_cons_succ])
    refine wpAnyH_take (i := 18) (oi := ⟨some 105, _, _, _, _, _⟩) (v := undef) rfl (by kernel_rfl) (by kernel_rfl) (by kernel_rfl) (fun _ _ _ h => h) (Or.inr ⟨by rfl, rfl⟩) (by assumption) ?_; (try simp only [Act.put, List.setIfInBounds_toArray, List.set_cons_zero, List.set_cons_succ])
    refine wpAnyH_take (i := 19) (oi := ⟨some 106, _, _, _, _, _⟩) (v := ?_) rfl (by kernel_rfl) (by kernel_rfl) (by kernel_rfl) (fun _ _ _ h => h) (Or.inl ⟨by rfl, ?_⟩) (by assumption) ?_; rotate_left 1; (intro w hSw; (try dsimp only at hSw); go_simp; try with_reducible rfl); (try simp only [Act.put, List.setIfInBounds_toArray, List.set_cons_zero, List.set_cons_succ])
    refine wpAnyH_take (i := 20) (oi := ⟨some 107, _, _, _, _, _⟩) (v := ?_) rfl (by kernel_rfl) (by kernel_rfl) (by kernel_rfl) (fun _ _ _ h => h) (Or.inl ⟨by rfl, ?_⟩) (by assumption) ?_; rotate_left 1; (intro w hSw; (try dsimp only at hSw); go_simp; try with_reducible rfl); (try simp only [Act.put, List.setIfInBounds_toArray, List.set_cons_zero, List.set_cons_succ])
    refine wpAnyH_take (i := 21) (oi := ⟨some 6, _, _, _, _, _⟩) (v := ?_) rfl (by kernel_rfl) (by kernel_rfl) (by kernel_rfl) (fun _ _ _ h => h) (Or.inl ⟨by rfl, ?_⟩) (by assumption) ?_; rotate_left 1; (intro w hSw; (try dsimp only at hSw); go_simp; try with_reducible rfl); (try simp only [Act.put, List.setIfInBounds_toArray, List.set_cons_zero, List.set_cons_succ])
    refine wpAnyH_done (by kernel_rfl) ?_ _
    have M := Lib.hid (show Below W.heap.size W _ from hHeld)
    go_wp2
    go_ret
    exact ⟨rfl, bnext L6.out L6.out.size M.out⟩
  · clear HD
    refine wp_region_held_drew (S := fun w' => (w'.cell? ⟨w.heap.size, 0, none⟩ = some (.int .i64 k1) ∧ w'.cell? ⟨w.heap.size + 1, 0, none⟩ = some (.int .i64 k2)) ∧ Below W.heap.size W w') (by kernel_rfl) ?_ (fun hHeld => ?_)
    · exact ⟨⟨by simpa [go_sem] using v0, by simpa [go_sem] using u0⟩, Below.drew (Below.refl _ _)⟩
    refine wpAnyH_ready (rs := [0]) (by kernel_rfl) (by simp) ?_
    refine AllReadyH.cons (o := ⟨some 87, _, _, _, _, _⟩) rfl (fun K hK => ?_) AllReadyH.nil
    go_simp
    refine (alive_any m W.drew HW.out).mono ?_
    rintro e w7 ⟨rfl, hb⟩
    refine hK.out _ _ ?_ (fun hHeld => ?_)
    · exact keepK hb hHeld (fun kk => ⟨by rw [kk _ _ vz]; exact v0, by rw [kk _ _ uz]; exact u0⟩)
    clear hK K
    (try simp only [Act.put, List.setIfInBounds_toArray, List.set_cons_zero, List.set_cons_succ])
    refine wpAnyH_take (i := 1) (oi := ⟨some 88, _, _, _, _, _⟩) (v := ?_) rfl (by kernel_rfl) (by kernel_rfl) (by kernel_rfl) (fun _ _ _ h => h) (Or.inl ⟨by rfl, ?_⟩) (by assumption) ?_; rotate_left 1; (intro w hSw; (try dsimp only at hSw); go_simp; try with_reducible rfl); (try simp only [Act.put, List.setIfInBounds_toArray, List.set_cons_zero, List.set_cons_succ])
    refine wpAnyH_take (i := 2) (oi := ⟨some 89, _, _, _, _, _⟩) (v := ?_) rfl (by kernel_rfl) (by kernel_rfl) (by kernel_rfl) (fun _ _ _ h => h) (Or.inl ⟨by rfl, ?_⟩) (by assumption) ?_; rotate_left 1; (intro w hSw; (try dsimp only at hSw); go_simp; try with_reducible rfl); (try simp only [Act.put, List.setIfInBounds_toArray, List.set_cons_zero, List.set_cons_succ])
    refine wpAnyH_take (i := 3) (oi := ⟨some 90, _, _, _, _, _⟩) (v := ?_) rfl (by kernel_rfl) (by kernel_rfl) (by kernel_rfl) (fun _ _ _ h => h) (Or.inl ⟨by rfl, ?_⟩) (by assumption) ?_; rotate_left 1; (intro w hSw; (try dsimp only at hSw); go_simp; try with_reducible rfl); (try simp only [Act.put, List.setIfInBounds_toArray, List.set_cons_zero, List.set_cons_succ])
    refine wpAnyH_take (i := 4) (oi := ⟨some 91, _, _, _, _, _⟩) (v := ?_) rfl (by kernel_rfl) (by kernel_rfl) (by kernel_rfl) (fun _ _ _ h => h) (Or.inl ⟨by rfl, ?_⟩) (by assumption) ?_; rotate_left 1; (intro w hSw; (try dsimp only at hSw); go_simp; try with_reducible rfl); (try simp only [Act.put, List.setIfInBounds_toArray, List.set_cons_zero, List.set_cons_succ])
    refine wpAnyH_take (i := 5) (oi := ⟨some 92, _, _, _, _, _⟩) (v := ?_) rfl (by kernel_rfl) (by kernel_rfl) (by kernel_rfl) (fun _ _ _ h => h) (Or.inl ⟨by rfl, ?_⟩) (by assumption) ?_; rotate_left 1; (intro w hSw; (try dsimp only at hSw); go_simp; try with_reducible rfl); (try simp only [Act.put, List.setIfInBounds_toArray, List.set_cons_zero, List.set_cons_succ])
    refine wpAnyH_take (i := 6) (oi := ⟨some 93, _, _, _, _, _⟩) (v := ?_) rfl (by kernel_rfl) (by kernel_rfl) (by kernel_rfl) (fun _ _ _ h => h) (Or.inl ⟨by rfl, ?_⟩) (by assumption) ?_; rotate_left 1; (intro w hSw; (try dsimp only at hSw); go_simp; try with_reducible rfl); (try simp only [Act.put, List.setIfInBounds_toArray, List.set_cons_zero, List.set_cons_succ])
    refine wpAnyH_take (i := 7) (oi := ⟨some 94, _, _, _, _, _⟩) (v := ?_) rfl (by kernel_rfl) (by kernel_rfl) (by kernel_rfl) (fun _ _ _ h => h) (Or.inl ⟨by rfl, ?_⟩) (by assumption) ?_; rotate_left 1; (intro w hSw; (try dsimp only at hSw); go_simp; try with_reducible rfl); (try simp only [Act.put, List.setIfInBounds_toArray, List.set_cons_zero, List.set_cons_succ])
    refine wpAnyH_take (i := 8) (oi := ⟨some 95, _, _, _, _, _⟩) (v := ?_) rfl (by kernel_rfl) (by kernel_rfl) (by kernel_rfl) (fun _ _ _ h => h) (Or.inl ⟨by rfl, ?_⟩) (by assumption) ?_; rotate_left 1; (intro w hSw; (try dsimp only at hSw); go_simp; try with_reducible rfl); (try simp only [Act.put, List.setIfInBounds_toArray, List.set_cons_zero, List.set_cons_succ])
    refine wpAnyH_take (i := 9) (oi := ⟨some 96, _, _, _, _, _⟩) (v := ?_) rfl (by kernel_rfl) (by kernel_rfl) (by kernel_rfl) (fun _ _ _ h => h) (Or.inl ⟨by rfl, ?_⟩) (by assumption) ?_; rotate_left 1; (intro w hSw; (try dsimp only at hSw); go_simp; try with_reducible rfl); (try simp only [Act.put, List.setIfInBounds_toArray, List.set_cons_zero, List.set_cons_succ])
    refine wpAnyH_take (i := 10) (oi := ⟨some 97, _, _, _, _, _⟩) (v := ?_) rfl (by kernel_rfl) (by kernel_rfl) (by kernel_rfl) (fun _ _ _ h => h) (Or.inl ⟨by rfl, ?_⟩) (by assumption) ?_; rotate_left 1; (intro w hSw; (try dsimp only at hSw); go_simp; try with_reducible rfl); (try simp only [Act.put, List.setIfInBounds_toArray, List.set_cons_zero, List.set_cons_succ])
    refine wpAnyH_take (i := 11) (oi := ⟨some 98, _, _, _, _, _⟩) (v := ?_) rfl (by kernel_rfl) (by kernel_rfl) (by kernel_rfl) (fun _ _ _ h => h) (Or.inl ⟨by rfl, ?_⟩) (by assumption) ?_; rotate_left 1; (intro w hSw; (try dsimp only at hSw); go_simp; try with_reducible rfl); (try simp only [Act.put, List.setIfInBounds_toArray, List.set_cons_zero, List.set_cons_succ])
    refine wpAnyH_take (i := 12) (oi := ⟨some 99, _, _, _, _, _⟩) (v := undef) rfl (by kernel_rfl) (by kernel_rfl) (by kernel_rfl) (fun _ _ _ h => h) (Or.inr ⟨by rfl, rfl⟩) (by assumption) ?_; (try simp only [Act.put, List.setIfInBounds_toArray, List.set_cons_zero, List.set_cons_succ])
    refine wpAnyH_take (i := 13) (oi := ⟨some 100, _, _, _, _, _⟩) (v := undef) rfl (by kernel_rfl) (by kernel_rfl) (by kernel_rfl) (fun _ _ _ h => h) (Or.inr ⟨by rfl, rfl⟩) (by assumption) ?_; (try simp only [Act.put, List.setIfInBounds_toArray, List.set_cons_zero, List.set_cons_succ])
    refine wpAnyH_take (i := 14) (oi := ⟨some 101, _, _, _, _, _⟩) (v := undef) rfl (by kernel_rfl) (by kernel_rfl) (by kernel_rfl) (fun _ _ _ h => h) (Or.inr ⟨by rfl, rfl⟩) (by assumption) ?_; (try simp only [Act.put, List.setIfInBounds_toArray, List.set_cons_zero, List.set_cons_succ])
    refine wpAnyH_take (i := 15) (oi := ⟨some 102, _, _, _, _, _⟩) (v := undef) rfl (by kernel_rfl) (by kernel_rfl) (by kernel_rfl) (fun _ _ _ h => h) (Or.inr ⟨by rfl, rfl⟩) (by assumption) ?_; (try simp only [Act.put, List.setIfInBounds_toArray, List.set_cons_zero, List.set_cons_succ])
    refine wpAnyH_take (i := 16) (oi := ⟨some 103, _, _, _, _, _⟩) (v := undef) rfl (by kernel_rfl) (by kernel_rfl) (by kernel_rfl) (fun _ _ _ h => h) (Or.inr ⟨by rfl, rfl⟩) (by assumption) ?_; (try simp only [Act.put, List.setIfInBounds_toArray, List.set_cons_zero, List.set_cons_succ])
    refine wpAnyH_take (i := 17) (oi := ⟨some 104, _, _, _, _, _⟩) (v := undef) rfl (by kernel_rfl) (by kernel_rfl) (by kernel_rfl) (fun _ _ _ h => h) (Or.inr ⟨by rfl, rfl⟩) (by assumption) ?_; (try simp only [Act.put, List.setIfInBounds_toArray, List.set_cons_zero, List.set_cons_succ])
    refine wpAnyH_take (i := 18) (oi := ⟨some 105, _, _, _, _, _⟩) (v := undef) rfl (by kernel_rfl) (by kernel_rfl) (by kernel_rfl) (fun _ _ _ h => h) (Or.inr ⟨by rfl, rfl⟩) (by assumption) ?_; (try simp only [Act.put, List.setIfInBounds_toArray, List.set_cons_zero, List.set_cons_succ])
    refine wpAnyH_take (i := 19) (oi := ⟨some 106, _, _, _, _, _⟩) (v := ?_) rfl (by kernel_rfl) (by kernel_rfl) (by kernel_rfl) (fun _ _ _ h => h) (Or.inl ⟨by rfl, ?_⟩) (by assumption) ?_; rotate_left 1; (intro w hSw; (try dsimp only at hSw); go_simp; try with_reducible rfl); (try simp only [Act.put, List.setIfInBounds_toArray, List.set_cons_zero, List.set_cons_succ])
    refine wpAnyH_take (i := 20) (oi := ⟨some 107, _, _, _, _, _⟩) (v := ?_) rfl (by kernel_rfl) (by kernel_rfl) (by kernel_rfl) (fun _ _ _ h => h) (Or.inl ⟨by rfl, ?_⟩) (by assumption) ?_; rotate_left 1; (intro w hSw; (try dsimp only at hSw); go_simp; try with_reducible rfl); (try simp only [Act.put, List.setIfInBounds_toArray, List.set_cons_zero, List.set_cons_succ])
    refine wpAnyH_take (i := 21) (oi := ⟨some 6, _, _, _, _, _⟩) (v := ?_) rfl (by kernel_rfl) (by kernel_rfl) (by kernel_rfl) (fun _ _ _ h => h) (Or.inl ⟨by rfl, ?_⟩) (by assumption) ?_; rotate_left 1; (intro w hSw; (try dsimp only at hSw); go_simp; try with_reducible rfl); (try simp only [Act.put, List.setIfInBounds_toArray, List.set_cons_zero, List.set_cons_succ])
    refine wpAnyH_done (by kernel_rfl) ?_ _
    have M := Lib.hid (show Below W.heap.size W _ from hHeld.2)
    go_wp2
    go_ret
    exact ⟨rfl, bnext L6.out L6.out.size M.out⟩
  · clear HD
    first | (go_region_held3 (fun w' => (w'.cell? ⟨w.heap.size, 0, none⟩ = some (.int .i64 k1) ∧ w'.cell? ⟨w.heap.size, 1, none⟩ = some (.int .i64 n1) ∧ w'.cell? ⟨w.heap.size, 2, none⟩ = some (.string s1) ∧ w'.cell? ⟨w.heap.size + 1, 0, none⟩ = some (.int .i64 k2) ∧ w'.cell? ⟨w.heap.size + 1, 1, none⟩ = some (.int .i64 n2) ∧ w'.cell? ⟨w.heap.size + 1, 2, none⟩ = some (.string s2) ∧ w'.cell? ⟨w3.heap.size, 0, none⟩ = some (.int .i64 c) ∧ w'.cell? ⟨w3.heap.size, 1, none⟩ = some (.int .i64 n1) ∧ w'.cell? ⟨w3.heap.size, 2, none⟩ = some (.string s1) ∧ w'.cell? ⟨w6.heap.size, 0, none⟩ = some (.int .i64 zk) ∧ w'.cell? ⟨w6.heap.size, 1, none⟩ = some (.int .i64 zn) ∧ w'.cell? ⟨w6.heap.size, 2, none⟩ = some (.string zs)) ∧ Below W.heap.size W w')
      (first | assumption | (refine keepK hb (by assumption) ?_; intro kk; exact ⟨by rw [kk _ _ vz]; exact v0, by rw [kk _ _ vz]; exact v1, by rw [kk _ _ vz]; exact v2, by rw [kk _ _ uz]; exact u0, by rw [kk _ _ uz]; exact u1, by rw [kk _ _ uz]; exact u2, by rw [kk _ _ xz]; exact x0, by rw [kk _ _ xz]; exact x1, by rw [kk _ _ xz]; exact x2, by rw [kk _ _ zz]; exact z0, by rw [kk _ _ zz]; exact z1, by rw [kk _ _ zz]; exact z2⟩) | (exact ⟨⟨by simpa [go_sem] using v0, by simpa [go_sem] using v1, by simpa [go_sem] using v2, by simpa [go_sem] using u0, by simpa [go_sem] using u1, by simpa [go_sem] using u2, by simpa [go_sem] using x0, by simpa [go_sem] using x1, by simpa [go_sem] using x2, by simpa [go_sem] using z0, by simpa [go_sem] using z1, by simpa [go_sem] using z2⟩, Below.drew (Below.refl _ _)⟩))
      (first | (go_at_call 7; refine (alive_any m _ ?c9).mono ?_; (case c9 => exact HW.out); rintro e w7 ⟨rfl, hb⟩) | (go_at_call 16; refine (compare_any _ _ _ _ _ _ _).mono ?_; rintro e w8 ⟨rfl, hb⟩))) | fail
    all_goals
      have M := Lib.hid (show Below W.heap.size W _ by rename_i hS; exact hS.2)
      go_wp2
      go_ret
      exact ⟨rfl, bnext L6.out L6.out.size M.out⟩
set_option maxRecDepth 100000 in
set_option maxHeartbeats 1600000 in
/-- the walk, where a text is too long -/
theorem walkL (k1 n1 : Int) (s1 : ByteArray) (k2 n2 : Int) (s2 : ByteArray) (c : Int) (m : Int) (w : World) (hm : w.cell? ⟨0, 0, none⟩ = some (.int .i64 m))
    (b1 b2 : Bool) (h1 : decide ((600 : Int) < (s1.size : Int)) = b1) (h2 : decide ((600 : Int) < (s2.size : Int)) = b2) (hb : (b1 || b2) = true) :
    Calls Tryd.prog 6 #[.agg #[.int .i64 k1, .int .i64 n1, .string s1], .agg #[.int .i64 k2, .int .i64 n2, .string s2], .int .i64 c] w fun e w' => e = .returned (.bool true) ∧ Below w.heap.size w w' := by
  have hlt : 0 < w.heap.size := World.block_lt_of_cell? _ _ hm
  have HM := Lib.hid hm
  clear hm
  have L := Lib.hid ((below_alloc w (.cells #[.int .i64 k1, .int .i64 n1, .string s1] 24)).alloc (by simp) (.cells #[.int .i64 k2, .int .i64 n2, .string s2] 24))
  cases b1 <;> cases b2 <;> first | exact absurd hb (by decide) | clear hb
  all_goals
    go_enter Tryd.func6, Tryd.ntmps6
    go_wp2_with fail
    refine (alive_any m _ (by rw [L.out.cell (p := ⟨0, 0, none⟩) hlt]; exact HM.out)).mono ?_
    rintro e w1 ⟨rfl, hb1⟩
    have L1 := Lib.hid (bnext L.out (by simp; omega) hb1)
    clear hb1 L
    go_wp2
    go_ret
    exact ⟨rfl, L1.out⟩
set_option maxRecDepth 100000 in
set_option maxHeartbeats 1600000 in
/-- the walk, where a value is not right -/
theorem walkR (k1 n1 : Int) (s1 : ByteArray) (k2 n2 : Int) (s2 : ByteArray) (c : Int) (m : Int) (w : World) (hm : w.cell? ⟨0, 0, none⟩ = some (.int .i64 m)) (f1 : fits n1) (f2 : fits n2)
    (h1 : decide ((600 : Int) < (s1.size : Int)) = false) (h2 : decide ((600 : Int) < (s2.size : Int)) = false) (HR : rightB k1 n1 s1 = false ∨ (rightB k1 n1 s1 = true ∧ rightB k2 n2 s2 = false)) :
    Calls Tryd.prog 6 #[.agg #[.int .i64 k1, .int .i64 n1, .string s1], .agg #[.int .i64 k2, .int .i64 n2, .string s2], .int .i64 c] w fun e w' => e = .returned (.bool true) ∧ Below w.heap.size w w' := by
  have hlt : 0 < w.heap.size := World.block_lt_of_cell? _ _ hm
  have HM := Lib.hid hm
  clear hm
  have L := Lib.hid ((below_alloc w (.cells #[.int .i64 k1, .int .i64 n1, .string s1] 24)).alloc (by simp) (.cells #[.int .i64 k2, .int .i64 n2, .string s2] 24))
  have U := Lib.hid (Box.fresh (w.alloc (.cells #[.int .i64 k1, .int .i64 n1, .string s1] 24)) k2 n2 s2 24)
  rw [show (w.alloc (.cells #[.int .i64 k1, .int .i64 n1, .string s1] 24)).heap.size = w.heap.size + 1 by simp] at U
  rcases HR with r1 | ⟨r1, r2⟩
  · have R1 := Lib.hid r1
    clear r1
    go_enter Tryd.func6, Tryd.ntmps6
    go_wp2_with fail
    refine (right_is _ _ _ f1 false R1.out _).mono ?_
    rintro e w1 ⟨rfl, hb⟩
    have L1 := Lib.hid (bnext L.out L.out.size hb)
    clear L U hb
    go_wp2_with fail
    refine (alive_any m _ (by rw [L1.out.cell (p := ⟨0, 0, none⟩) hlt]; exact HM.out)).mono ?_
    rintro e w2 ⟨rfl, hb⟩
    have L2 := Lib.hid (bnext L1.out L1.out.size hb)
    clear hb
    go_wp2
    go_ret
    exact ⟨rfl, L2.out⟩
  · have R1 := Lib.hid r1
    have R2 := Lib.hid r2
    clear r1 r2
    go_enter Tryd.func6, Tryd.ntmps6
    go_wp2_with fail
    refine (right_is _ _ _ f1 true R1.out _).mono ?_
    rintro e w1 ⟨rfl, hb⟩
    have L1 := Lib.hid (bnext L.out L.out.size hb)
    obtain ⟨u0, u1, u2, uz⟩ := U.out.call hb
    clear L U hb
    go_wp2_with fail
    refine (right_is _ _ _ f2 false R2.out _).mono ?_
    rintro e w2 ⟨rfl, hb⟩
    have L2 := Lib.hid (bnext L1.out L1.out.size hb)
    clear hb u0 u1 u2 uz
    go_wp2_with fail
    refine (alive_any m _ (by rw [L2.out.cell (p := ⟨0, 0, none⟩) hlt]; exact HM.out)).mono ?_
    rintro e w3 ⟨rfl, hb⟩
    have L3 := Lib.hid (bnext L2.out L2.out.size hb)
    clear hb
    go_wp2
    go_ret
    exact ⟨rfl, L3.out⟩
set_option maxRecDepth 100000 in
set_option maxHeartbeats 1600000 in
/-- the walk, where the first one's cast is none -/
theorem walkB (k1 n1 : Int) (s1 : ByteArray) (k2 n2 : Int) (s2 : ByteArray) (c : Int) (m : Int) (w : World) (hm : w.cell? ⟨0, 0, none⟩ = some (.int .i64 m)) (f1 : fits n1) (f2 : fits n2)
    (h1 : decide ((600 : Int) < (s1.size : Int)) = false) (h2 : decide ((600 : Int) < (s2.size : Int)) = false) (R1 : Hid (rightB k1 n1 s1 = true)) (R2 : Hid (rightB k2 n2 s2 = true)) (E : Int) (_ : (E == 0) = false) (e1 : (E != 0) = true)
    (CX : Hid (∀ w, Calls Tryd.prog 8 #[.agg #[.int .i64 k1, .int .i64 n1, .string s1], .int .i64 c] w fun e w' => e = .returned (.tuple #[.agg #[.int .i64 0, .int .i64 0, .string ⟨#[]⟩], .int .i64 E]) ∧ Below w.heap.size w w')) :
    Calls Tryd.prog 6 #[.agg #[.int .i64 k1, .int .i64 n1, .string s1], .agg #[.int .i64 k2, .int .i64 n2, .string s2], .int .i64 c] w fun e w' => e = .returned (.bool true) ∧ Below w.heap.size w w' := by
  have hlt : 0 < w.heap.size := World.block_lt_of_cell? _ _ hm
  have HM := Lib.hid hm
  clear hm
  have V := Lib.hid ((Box.fresh w k1 n1 s1 24).alloc (.cells #[.int .i64 k2, .int .i64 n2, .string s2] 24))
  have U := Lib.hid (Box.fresh (w.alloc (.cells #[.int .i64 k1, .int .i64 n1, .string s1] 24)) k2 n2 s2 24)
  rw [show (w.alloc (.cells #[.int .i64 k1, .int .i64 n1, .string s1] 24)).heap.size = w.heap.size + 1 by simp] at U
  have L := Lib.hid ((below_alloc w (.cells #[.int .i64 k1, .int .i64 n1, .string s1] 24)).alloc (by simp) (.cells #[.int .i64 k2, .int .i64 n2, .string s2] 24))
  go_enter Tryd.func6, Tryd.ntmps6
  go_wp2_with fail
  refine (right_is _ _ _ f1 true R1.out _).mono ?_
  rintro e w1 ⟨rfl, hb⟩
  have V1 := Lib.hid (V.out.call hb)
  have L1 := Lib.hid (bnext L.out L.out.size hb)
  obtain ⟨u0, u1, u2, uz⟩ := U.out.call hb
  clear V U L hb
  go_wp2_with fail
  refine (right_is _ _ _ f2 true R2.out _).mono ?_
  rintro e w2 ⟨rfl, hb⟩
  have L2 := Lib.hid (bnext L1.out L1.out.size hb)
  obtain ⟨v0, v1, v2, vz⟩ := V1.out.call hb
  clear V1 L1 hb u0 u1 u2 uz
  go_wp2_with fail
  refine (CX.out _).mono ?_
  rintro e w3 ⟨rfl, hb⟩
  have L3 := Lib.hid ((bnext L2.out L2.out.size hb).alloc (bnext L2.out L2.out.size hb).size (.cells #[.int .i64 0, .int .i64 0, .string ⟨#[]⟩] 24))
  have X3 := Lib.hid (Box.fresh w3 0 0 ⟨#[]⟩ 24)
  clear L2 hb v0 v1 v2 vz
  go_wp2_with fail
  refine (alive_any m _ (by rw [L3.out.cell (p := ⟨0, 0, none⟩) hlt]; exact HM.out)).mono ?_
  rintro e w4 ⟨rfl, hb⟩
  have L4 := Lib.hid (bnext L3.out L3.out.size hb)
  obtain ⟨x0, x1, x2, xz⟩ := X3.out.call hb
  clear hb L3 X3
  go_wp2
  go_ret
  exact ⟨rfl, L4.out⟩
theorem dec_ff {n : Nat} (h : ¬ 600 < n) : decide ((600 : Int) < (n : Int)) = false := decide_eq_false (by omega)
theorem dec_tt {n : Nat} (h : 600 < n) : decide ((600 : Int) < (n : Int)) = true := decide_eq_true (by omega)
/-- how the cast of a second value goes, and its order -/
theorem last_cases (k1 n1 : Int) (s1 : ByteArray) (k2 n2 : Int) (s2 : ByteArray) (c xk : Int) (hx : xk = if k1 = 0 then 0 else c) :
    ((castE k2 n2 s2 c == 0) = false ∧ (castE k2 n2 s2 c != 0) = true) ∨ ((castE k2 n2 s2 c == 0) = true ∧ (castE k2 n2 s2 c != 0) = false ∧ (k1 == k2) = false ∧ (k1 != k2) = true) ∨
      ((castE k2 n2 s2 c == 0) = true ∧ (castE k2 n2 s2 c != 0) = false ∧ (k1 == k2) = true ∧ (k1 != k2) = false ∧ (cmpV xk n1 s1 (castK k2 n2 s2 c) (castN k2 n2 s2 c) (castS k2 n2 s2 c) == cmpV k1 n1 s1 k2 n2 s2) = true) := by
  by_cases g : castE k2 n2 s2 c = 0
  · by_cases hk : k1 = k2
    · refine Or.inr (Or.inr ⟨by simpa using g, by simpa using g, by simpa using hk, by simpa using hk, ?_⟩)
      obtain ⟨a, b, d⟩ := cast_yes g
      subst hk
      rw [a, b, d, hx]
      by_cases h0 : k1 = 0
      · rw [if_pos h0, h0]; exact beq_self_eq_true _
      · rw [if_neg h0, cmpV_kind c k1]; exact beq_self_eq_true _
    · exact Or.inr (Or.inl ⟨by simpa using g, by simpa using g, by simpa using hk, by simpa using hk⟩)
  · exact Or.inl ⟨by simpa using g, by simpa using g⟩
theorem walk (k1 n1 : Int) (s1 : ByteArray) (k2 n2 : Int) (s2 : ByteArray) (c : Int) (_ : (Lit.int .i64 k1).wf = true) (y1 : (Lit.int .i64 n1).wf = true) (_ : s1.size ≤ maxLen) (_ : (Lit.int .i64 k2).wf = true) (y2 : (Lit.int .i64 n2).wf = true) (_ : s2.size ≤ maxLen) (_ : (Lit.int .i64 c).wf = true) (m : Int) (w : World) (hm : w.cell? ⟨0, 0, none⟩ = some (.int .i64 m)) :
    Calls Tryd.prog 6 #[.agg #[.int .i64 k1, .int .i64 n1, .string s1], .agg #[.int .i64 k2, .int .i64 n2, .string s2], .int .i64 c] w fun e w' => e = .returned (.bool true) ∧ Below w.heap.size w w' := by
  have f1 : fits n1 := bounds_i64 y1
  have f2 : fits n2 := bounds_i64 y2
  by_cases h1 : 600 < s1.size
  · exact walkL _ _ _ _ _ _ _ m w hm true _ (dec_tt h1) rfl rfl
  by_cases h2 : 600 < s2.size
  · exact walkL _ _ _ _ _ _ _ m w hm false true (dec_ff h1) (dec_tt h2) rfl
  cases r1 : rightB k1 n1 s1 with
  | false => exact walkR _ _ _ _ _ _ _ m w hm f1 f2 (dec_ff h1) (dec_ff h2) (Or.inl r1)
  | true =>
  cases r2 : rightB k2 n2 s2 with
  | false => exact walkR _ _ _ _ _ _ _ m w hm f1 f2 (dec_ff h1) (dec_ff h2) (Or.inr ⟨r1, r2⟩)
  | true =>
  by_cases e : castE k1 n1 s1 c = 0
  · obtain ⟨x0, x1, x2⟩ := cast_yes e
    obtain ⟨_, hc, _⟩ := cast_ok e
    by_cases h0 : k1 = 0
    · subst h0
      obtain ⟨rfl, hz⟩ : n1 = 0 ∧ s1.size = 0 := by unfold rightB at r1; simpa using r1
      obtain rfl := size0 hz
      exact walk0 _ _ _ _ k2 n2 s2 c m w hm f1 f2 (dec_ff h2) (Lib.hid r1) (Lib.hid r2) _ _ _ _
        (Lib.hid (cast_is 0 0 ⟨#[]⟩ c 0 0 ⟨#[]⟩ 0 f1 x0 x1 x2 e)) (Lib.hid (fits_yes 0 0 ⟨#[]⟩ c f1 (Lib.hid r1) (Lib.hid hc) (Or.inl rfl)))
        (Lib.hid (cast_is 0 0 ⟨#[]⟩ 0 _ _ _ _ f1 rfl rfl rfl rfl)) (Lib.hid (cast_is k2 n2 s2 c _ _ _ _ f2 rfl rfl rfl rfl)) (Lib.hid (last_cases 0 0 ⟨#[]⟩ k2 n2 s2 c 0 rfl))
    · rw [if_neg h0] at x0
      obtain ⟨b0, b1, b2, b3⟩ := back_all e h0
      have c0 : c ≠ 0 := by unfold columnB at hc; simp at hc; omega
      exact walk1 k1 n1 s1 (by simpa using h0) (by simpa using h0) k2 n2 s2 c m w hm f1 f2 (dec_ff h1) (dec_ff h2) (Lib.hid r1) (Lib.hid r2) _ _ _ _
        (Lib.hid (cast_is k1 n1 s1 c c n1 s1 0 f1 x0 x1 x2 e)) (Lib.hid (fits_yes c n1 s1 c f1 (Lib.hid (cast_right e h0)) (Lib.hid hc) (Or.inr ⟨by simpa using c0, rfl⟩)))
        (Lib.hid (cast_is c n1 s1 k1 k1 n1 s1 0 f1 b0 b1 b2 b3)) (Lib.hid (cast_is k2 n2 s2 c _ _ _ _ f2 rfl rfl rfl rfl)) (Lib.hid (last_cases k1 n1 s1 k2 n2 s2 c c (by rw [if_neg h0])))
  · obtain ⟨x0, x1, x2⟩ := cast_no e
    exact walkB k1 n1 s1 k2 n2 s2 c m w hm f1 f2 (dec_ff h1) (dec_ff h2) (Lib.hid r1) (Lib.hid r2) _ (by simpa using e) (by simpa using e) (Lib.hid (cast_is k1 n1 s1 c 0 0 ⟨#[]⟩ _ f1 x0 x1 x2 rfl))
end Go.Proofs.YthfhehpfkpicmaaDoor.valueBack
