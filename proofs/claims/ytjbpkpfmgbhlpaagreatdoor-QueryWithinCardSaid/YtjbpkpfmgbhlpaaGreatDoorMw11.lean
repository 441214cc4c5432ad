/-
  Contract of the program's writer's rule, of any node: its rule, or that it is none.
-/
import Derived.Test.YtjbpkpfmgbhlpaaGreatDoorMw10
import Derived.Test.YtjbpkpfmgbhlpaaGreatDoorMw5
import Derived.Deep.RegionHeld3
namespace Go.Proofs.YtjbpkpfmgbhlpaaGreatDoor.Code
open Go.ChangeShapes Go.WideShapes Go.ChangeAt Go.RowKit Val Elems
set_option linter.unusedVariables false
set_option linter.unusedSimpArgs false
def FRule (w : World) (B : Nat) (r : Option RuleR) (e : Ending) (w' : World) : Prop :=
 match r with
 | some r => ∃ Y d, e = .returned (.tuple #[.agg #[.int .i64 r.1, .slice Y r.2.1.length d, .bool r.2.2], .bool true]) ∧ LvAt w B r.2.1 Y ∧ Below w.heap.size w w'
 | none => e = .returned (.tuple #[.agg #[.int .i64 7, .slice none 0 0, .bool false], .bool false]) ∧ Below w.heap.size w w'
theorem toList_eq_nil' {s : ByteArray} (h : s.toList = []) : s = ⟨#[]⟩ := by
 rw [ByteArray.toList_eq] at h
 rw [← Lib.mk_data s, h]
theorem run_look_no (w : World) (b n : Nat) (f : ByteArray → Option Value) (h : MapR w b n f) (k : ByteArray) (hk : k.size ≤ maxLen) (hs : f k = none) :
  (Instr.lookup 139 (.map (some b)) (.string k) true).run Tryz.prog w = .ok (.tuple #[.agg #[.int .i64 0, .slice none 0 0, .bool false], .bool false]) w := by
 obtain ⟨D, h1, h2⟩ := h
 obtain ⟨v, ps, hrun, hv⟩ := h1.look_ok mk_law Tryz.underlying139 (mk_zero w) (show hR (.agg #[.int .i64 0, .slice none 0 0, .bool false]) = some (.held (.agg #[.int .i64 0, .slice none 0 0, .bool false]), []) from rfl) (mk_is hk)
 have h3 := (h2 k hk).1
 rw [hs] at h3
 have h4 : Maps.has D (mk k) = false := h3
 rw [Maps.atKey_of_not_has h4] at hv
 unfold hR at hv
 simp only [Option.some.injEq, Prod.mk.injEq, DataW.held.injEq] at hv
 rw [hrun, h4, hv.1]
set_option maxHeartbeats 8000000 in
set_option maxRecDepth 100000 in
theorem frule_bare (b mb : Nat) (bs : List UInt8) (op tx : ByteArray) (X : Option Addr) (lv : Int) (Y : Option Addr) (M d : Nat) (tb : Bool) (N c n : Nat) (f : ByteArray → Option Value) (hNs : N ≤ 1000000000) (hMs : M ≤ 1000000000) (w : World) (h : Wr w b mb bs) (hM : MapR w mb n f) (hf : f op = some (.agg #[.int .i64 lv, .slice Y M d, .bool tb])) (hop : op.size ≤ 9223372036854775807) (hNM : N = M) (hte : tx = ⟨#[]⟩) :
  Calls Tryz.prog 147 #[.pointer (some ⟨b, 0, none⟩), .agg #[.string op, .string tx, .slice X N c]] w (fun e w' => e = .returned (.tuple #[.agg #[.int .i64 lv, .slice Y M d, .bool tb], .bool true]) ∧ Below w.heap.size w w') := by
 subst hNM
 subst hte
 have hmw : mb < w.heap.size := hM.lt
 have hbw := h.lt
 have hcb : w.cell? ⟨b, 0, none⟩ = some (.map (some mb)) := by rcases h with ⟨_, h, _⟩ | ⟨_, h, _⟩ <;> exact h.cell 0
 have hlk0 := fun (w' : World) (e : w'.heap[mb]? = w.heap[mb]?) => run_look w' mb n f (hM.heap e) op (by unfold maxLen; omega) _ hf
 clear h hM hf
 have hz : w.heap.size < w.heap.size + 1 := by omega
 go_enter Tryz.func147, Tryz.ntmps147
 go_upto_region 1 with fail
 obtain ⟨W, hW⟩ : ∃ W, (w.alloc (.cells #[.string op, .string ⟨#[]⟩, .slice X N c] 25)).alloc (.cells #[.int .i64 0, .slice none 0 0, .bool false] 150) = W := ⟨_, rfl⟩
 have L0 := Lib.hid (show Below w.heap.size w W by rw [← hW]; exact ((Below.refl _ _).alloc (Nat.le_refl _) _).alloc (by simp) _)
 have N0 := Lib.hid (show HB W w.heap.size #[.string op, .string ⟨#[]⟩, .slice X N c] 25 by rw [← hW]; exact (HB.fresh _ _ _).alloc _)
 have M0 := Lib.hid (show NBox W (w.heap.size + 1) (.int .i64 0) (.slice none 0 0) (.bool false) by
  rw [← hW, show w.heap.size + 1 = (w.alloc (.cells #[.string op, .string ⟨#[]⟩, .slice X N c] 25)).heap.size by simp]; exact NBox.fresh _ _ _ _ _)
 have hzW : W.heap.size = w.heap.size + 2 := by rw [← hW]; simp
 have HLK := Lib.hid (fun (w' : World) (e : w'.heap[mb]? = W.heap[mb]?) => hlk0 w' (e.trans (L0.out.block mb hmw)))
 have c0 : W.cell? ⟨b, 0, none⟩ = some (.map (some mb)) := (L0.out.cell (p := ⟨b, 0, none⟩) hbw).trans hcb
 have n0 : W.cell? ⟨w.heap.size, 0, none⟩ = some (.string op) := N0.out.cell 0
 rw [hW]
 clear hW hlk0 hcb
 refine wp_region_held_drew (S := fun w' => w'.cell? ⟨b, 0, none⟩ = some (.map (some mb)) ∧ w'.cell? ⟨w.heap.size, 0, none⟩ = some (.string op) ∧ w'.heap[mb]? = W.heap[mb]?) (by kernel_rfl) ⟨c0, n0, rfl⟩ (fun hHeld => ?_)
 -- region
 refine wpAnyH_take (i := 0) (oi := ⟨some 9, _, _, _, _, _⟩) (v := ?_) rfl (by kernel_rfl) (by kernel_rfl) (by kernel_rfl) (fun _ _ _ h => h) (Or.inl ⟨by rfl, ?_⟩) (by assumption) ?_; rotate_left 1; (intro w hSw; (try dsimp only at hSw); go_simp; try with_reducible rfl); (try simp only [Act.put, List.setIfInBounds_toArray, List.set_cons_zero, List.set_cons_succ])
 refine wpAnyH_take (i := 1) (oi := ⟨some 10, _, _, _, _, _⟩) (v := ?_) rfl (by kernel_rfl) (by kernel_rfl) (by kernel_rfl) (fun _ _ _ h => h) (Or.inl ⟨by rfl, ?_⟩) (by assumption) ?_; rotate_left 1; (intro w hSw; (try dsimp only at hSw); go_simp; try with_reducible rfl); (try simp only [Act.put, List.setIfInBounds_toArray, List.set_cons_zero, List.set_cons_succ])
 refine wpAnyH_take (i := 2) (oi := ⟨some 11, _, _, _, _, _⟩) (v := ?_) rfl (by kernel_rfl) (by kernel_rfl) (by kernel_rfl) (fun _ _ _ h => h) (Or.inl ⟨by rfl, ?_⟩) (by assumption) ?_; rotate_left 1; (intro w hSw; (try dsimp only at hSw); go_simp; try with_reducible rfl); (try simp only [Act.put, List.setIfInBounds_toArray, List.set_cons_zero, List.set_cons_succ])
 refine wpAnyH_take (i := 3) (oi := ⟨some 12, _, _, _, _, _⟩) (v := ?_) rfl (by kernel_rfl) (by kernel_rfl) (by kernel_rfl) (fun _ _ _ h => h) (Or.inl ⟨by rfl, ?_⟩) (by assumption) ?_; rotate_left 1; (intro w hSw; (try dsimp only at hSw); go_simp; try with_reducible rfl); (try simp only [Act.put, List.setIfInBounds_toArray, List.set_cons_zero, List.set_cons_succ])
 refine wpAnyH_take (i := 4) (oi := ⟨some 13, _, _, _, _, _⟩) (v := ?_) rfl (by kernel_rfl) (by kernel_rfl) (by kernel_rfl) (fun _ _ _ h => h) (Or.inl ⟨by rfl, ?_⟩) (by assumption) ?_; rotate_left 1; (intro w hSw; (try dsimp only at hSw); go_simp; try with_reducible rfl); (try simp only [Act.put, List.setIfInBounds_toArray, List.set_cons_zero, List.set_cons_succ])
 refine wpAnyH_take (i := 5) (oi := ⟨some 14, _, _, _, _, _⟩) (v := ?_) rfl (by kernel_rfl) (by kernel_rfl) (by kernel_rfl) (fun _ _ _ h => h) (Or.inl ⟨by rfl, ?_⟩) (by assumption) ?_; rotate_left 1; (intro w hSw; (try dsimp only at hSw); go_simp; try with_reducible rfl); (try simp only [Act.put, List.setIfInBounds_toArray, List.set_cons_zero, List.set_cons_succ])
 refine wpAnyH_take (i := 6) (oi := ⟨some 15, _, _, _, _, _⟩) (v := ?_) rfl (by kernel_rfl) (by kernel_rfl) (by kernel_rfl) (fun _ _ _ h => h) (Or.inl ⟨by rfl, ?_⟩) (by assumption) ?_; rotate_left 1; (intro w hSw; (try dsimp only at hSw); go_simp; rw [HLK.out _ hSw.2.2]; go_simp; try with_reducible rfl); (try simp only [Act.put, List.setIfInBounds_toArray, List.set_cons_zero, List.set_cons_succ])
 refine wpAnyH_take (i := 7) (oi := ⟨some 8, _, _, _, _, _⟩) (v := ?_) rfl (by kernel_rfl) (by kernel_rfl) (by kernel_rfl) (fun _ _ _ h => h) (Or.inl ⟨by rfl, ?_⟩) (by assumption) ?_; rotate_left 1; (intro w hSw; (try dsimp only at hSw); go_simp; try with_reducible rfl); (try simp only [Act.put, List.setIfInBounds_toArray, List.set_cons_zero, List.set_cons_succ])
 refine wpAnyH_take (i := 8) (oi := ⟨some 16, _, _, _, _, _⟩) (v := ?_) rfl (by kernel_rfl) (by kernel_rfl) (by kernel_rfl) (fun _ _ _ h => h) (Or.inl ⟨by rfl, ?_⟩) (by assumption) ?_; rotate_left 1; (intro w hSw; (try dsimp only at hSw); go_simp; try with_reducible rfl); (try simp only [Act.put, List.setIfInBounds_toArray, List.set_cons_zero, List.set_cons_succ])
 refine wpAnyH_take (i := 9) (oi := ⟨some 17, _, _, _, _, _⟩) (v := ?_) rfl (by kernel_rfl) (by kernel_rfl) (by kernel_rfl) (fun _ _ _ h => h) (Or.inl ⟨by rfl, ?_⟩) (by assumption) ?_; rotate_left 1; (intro w hSw; (try dsimp only at hSw); go_simp; try with_reducible rfl); (try simp only [Act.put, List.setIfInBounds_toArray, List.set_cons_zero, List.set_cons_succ])
 refine wpAnyH_ready (rs := [10]) (by kernel_rfl) (by simp) ?_
 refine AllReadyH.cons (o := ⟨some 6, _, _, _, _, _⟩) rfl (fun K hK => ?_) AllReadyH.nil
 go_simp
 refine hK.out _ _ ⟨(World.cell?_alloc_some _ _ _ (by rw [c0]; rfl)).trans c0, (World.cell?_alloc_some _ _ _ (by rw [n0]; rfl)).trans n0, (below_alloc W _).block mb (by omega)⟩ (fun hHeld2 => ?_)
 clear hK K
 (try simp only [Act.put, List.setIfInBounds_toArray, List.set_cons_zero, List.set_cons_succ])
 refine wpAnyH_ready (rs := [11]) (by kernel_rfl) (by simp) ?_
 refine AllReadyH.cons (o := ⟨none, _, _, _, _, _⟩) rfl (fun K hK => ?_) AllReadyH.nil
 go_simp
 refine hK.out _ _ ⟨(World.cell?_alloc_some _ _ _ (by rw [c0]; rfl)).trans c0, (World.cell?_alloc_some _ _ _ (by rw [n0]; rfl)).trans n0, (below_alloc W _).block mb (by omega)⟩ (fun hHeld3 => ?_)
 clear hK K
 (try simp only [Act.put, List.setIfInBounds_toArray, List.set_cons_zero, List.set_cons_succ])
 refine wpAnyH_take (i := 12) (oi := ⟨some 7, _, _, _, _, _⟩) (v := ?_) rfl (by kernel_rfl) (by kernel_rfl) (by kernel_rfl) (fun _ _ _ h => h) (Or.inl ⟨by rfl, ?_⟩) (by assumption) ?_; rotate_left 1; (intro w hSw; (try dsimp only at hSw); go_simp; try with_reducible rfl); (try simp only [Act.put, List.setIfInBounds_toArray, List.set_cons_zero, List.set_cons_succ])
 refine wpAnyH_done (by kernel_rfl) ?_ _
 clear hHeld hHeld2 hHeld3 c0 n0 HLK
 have Lx := Lib.hid (show Below W.heap.size W (W.alloc (.cells #[.int .i64 lv, .slice Y N d, .bool tb] 150)).drew from (below_alloc W _).drew)
 have V0 := Lib.hid (show NBox (W.alloc (.cells #[.int .i64 lv, .slice Y N d, .bool tb] 150)).drew (w.heap.size + 2) (.int .i64 lv) (.slice Y N d) (.bool tb) by rw [← hzW]; exact (NBox.fresh W _ _ _ _).below (Below.drew (Below.refl _ _)))
 obtain ⟨W2, hW2⟩ : ∃ W2, (W.alloc (.cells #[.int .i64 lv, .slice Y N d, .bool tb] 150)).drew = W2 := ⟨_, rfl⟩
 rw [hW2] at V0 Lx ⊢
 have N2 := Lib.hid (N0.out.below Lx.out)
 have M2 := Lib.hid (M0.out.below Lx.out)
 have L2 := Lib.hid (bnext L0.out (by omega) Lx.out)
 have n0 : W2.cell? ⟨w.heap.size, 0, none⟩ = some (.string op) := N2.out.cell 0
 have n1 : W2.cell? ⟨w.heap.size, 1, none⟩ = some (.string ⟨#[]⟩) := N2.out.cell 1
 have n2 : W2.cell? ⟨w.heap.size, 2, none⟩ = some (.slice X N c) := N2.out.cell 2
 obtain ⟨v0, v1, v2, vf⟩ := V0.out
 obtain ⟨y0, y1, y2, yf⟩ := M2.out
 have zl := V0.out.lt
 clear hW2 N0 M0 L0 Lx hzW
 go_wp2
 have Z := M2.out.set (.int .i64 lv) (.slice Y N d) (.bool tb)
 exact bodyPost_ret (v := .tuple #[.agg #[.int .i64 lv, .slice Y N d, .bool tb], .bool true]) (by simp [results, Tryz.results147, go_sem, Z.c0, Z.c1, Z.c2]) rfl
  ⟨rfl, ((L2.out.setCell (p := ⟨w.heap.size + 1, 0, none⟩) (by simp) _).setCell (p := ⟨w.heap.size + 1, 1, none⟩) (by simp) _).setCell (p := ⟨w.heap.size + 1, 2, none⟩) (by simp) _⟩
set_option maxHeartbeats 8000000 in
set_option maxRecDepth 100000 in
theorem frule_text (b mb : Nat) (bs : List UInt8) (op tx : ByteArray) (X : Option Addr) (lv : Int) (Y : Option Addr) (M d : Nat) (tb : Bool) (N c n : Nat) (f : ByteArray → Option Value) (hNs : N ≤ 1000000000) (hMs : M ≤ 1000000000) (w : World) (h : Wr w b mb bs) (hM : MapR w mb n f) (hf : f op = some (.agg #[.int .i64 lv, .slice Y M d, .bool tb])) (hop : op.size ≤ 9223372036854775807) (hNM : N = M) (hte : ¬ tx = ⟨#[]⟩) (htb : tb = true) :
  Calls Tryz.prog 147 #[.pointer (some ⟨b, 0, none⟩), .agg #[.string op, .string tx, .slice X N c]] w (fun e w' => e = .returned (.tuple #[.agg #[.int .i64 lv, .slice Y M d, .bool tb], .bool true]) ∧ Below w.heap.size w w') := by
 subst hNM
 subst htb
 have b2 : ¬ tx.toList = [] := fun e => hte (toList_eq_nil' e)
 have b1 : (tx.toList == []) = false := by simpa using b2
 have b3 : (tx.toList != []) = true := by simpa using b2
 clear hte b2
 have hmw : mb < w.heap.size := hM.lt
 have hbw := h.lt
 have hcb : w.cell? ⟨b, 0, none⟩ = some (.map (some mb)) := by rcases h with ⟨_, h, _⟩ | ⟨_, h, _⟩ <;> exact h.cell 0
 have hlk0 := fun (w' : World) (e : w'.heap[mb]? = w.heap[mb]?) => run_look w' mb n f (hM.heap e) op (by unfold maxLen; omega) _ hf
 clear h hM hf
 have hz : w.heap.size < w.heap.size + 1 := by omega
 go_enter Tryz.func147, Tryz.ntmps147
 go_upto_region 1 with fail
 obtain ⟨W, hW⟩ : ∃ W, (w.alloc (.cells #[.string op, .string tx, .slice X N c] 25)).alloc (.cells #[.int .i64 0, .slice none 0 0, .bool false] 150) = W := ⟨_, rfl⟩
 have L0 := Lib.hid (show Below w.heap.size w W by rw [← hW]; exact ((Below.refl _ _).alloc (Nat.le_refl _) _).alloc (by simp) _)
 have N0 := Lib.hid (show HB W w.heap.size #[.string op, .string tx, .slice X N c] 25 by rw [← hW]; exact (HB.fresh _ _ _).alloc _)
 have M0 := Lib.hid (show NBox W (w.heap.size + 1) (.int .i64 0) (.slice none 0 0) (.bool false) by
  rw [← hW, show w.heap.size + 1 = (w.alloc (.cells #[.string op, .string tx, .slice X N c] 25)).heap.size by simp]; exact NBox.fresh _ _ _ _ _)
 have hzW : W.heap.size = w.heap.size + 2 := by rw [← hW]; simp
 have HLK := Lib.hid (fun (w' : World) (e : w'.heap[mb]? = W.heap[mb]?) => hlk0 w' (e.trans (L0.out.block mb hmw)))
 have c0 : W.cell? ⟨b, 0, none⟩ = some (.map (some mb)) := (L0.out.cell (p := ⟨b, 0, none⟩) hbw).trans hcb
 have n0 : W.cell? ⟨w.heap.size, 0, none⟩ = some (.string op) := N0.out.cell 0
 rw [hW]
 clear hW hlk0 hcb
 refine wp_region_held_drew (S := fun w' => w'.cell? ⟨b, 0, none⟩ = some (.map (some mb)) ∧ w'.cell? ⟨w.heap.size, 0, none⟩ = some (.string op) ∧ w'.heap[mb]? = W.heap[mb]?) (by kernel_rfl) ⟨c0, n0, rfl⟩ (fun hHeld => ?_)
 -- region
 refine wpAnyH_take (i := 0) (oi := ⟨some 9, _, _, _, _, _⟩) (v := ?_) rfl (by kernel_rfl) (by kernel_rfl) (by kernel_rfl) (fun _ _ _ h => h) (Or.inl ⟨by rfl, ?_⟩) (by assumption) ?_; rotate_left 1; (intro w hSw; (try dsimp only at hSw); go_simp; try with_reducible rfl); (try simp only [Act.put, List.setIfInBounds_toArray, List.set_cons_zero, List.set_cons_succ])
 refine wpAnyH_take (i := 1) (oi := ⟨some 10, _, _, _, _, _⟩) (v := ?_) rfl (by kernel_rfl) (by kernel_rfl) (by kernel_rfl) (fun _ _ _ h => h) (Or.inl ⟨by rfl, ?_⟩) (by assumption) ?_; rotate_left 1; (intro w hSw; (try dsimp only at hSw); go_simp; try with_reducible rfl); (try simp only [Act.put, List.setIfInBounds_toArray, List.set_cons_zero, List.set_cons_succ])
 refine wpAnyH_take (i := 2) (oi := ⟨some 11, _, _, _, _, _⟩) (v := ?_) rfl (by kernel_rfl) (by kernel_rfl) (by kernel_rfl) (fun _ _ _ h => h) (Or.inl ⟨by rfl, ?_⟩) (by assumption) ?_; rotate_left 1; (intro w hSw; (try dsimp only at hSw); go_simp; try with_reducible rfl); (try simp only [Act.put, List.setIfInBounds_toArray, List.set_cons_zero, List.set_cons_succ])
 refine wpAnyH_take (i := 3) (oi := ⟨some 12, _, _, _, _, _⟩) (v := ?_) rfl (by kernel_rfl) (by kernel_rfl) (by kernel_rfl) (fun _ _ _ h => h) (Or.inl ⟨by rfl, ?_⟩) (by assumption) ?_; rotate_left 1; (intro w hSw; (try dsimp only at hSw); go_simp; try with_reducible rfl); (try simp only [Act.put, List.setIfInBounds_toArray, List.set_cons_zero, List.set_cons_succ])
 refine wpAnyH_take (i := 4) (oi := ⟨some 13, _, _, _, _, _⟩) (v := ?_) rfl (by kernel_rfl) (by kernel_rfl) (by kernel_rfl) (fun _ _ _ h => h) (Or.inl ⟨by rfl, ?_⟩) (by assumption) ?_; rotate_left 1; (intro w hSw; (try dsimp only at hSw); go_simp; try with_reducible rfl); (try simp only [Act.put, List.setIfInBounds_toArray, List.set_cons_zero, List.set_cons_succ])
 refine wpAnyH_take (i := 5) (oi := ⟨some 14, _, _, _, _, _⟩) (v := ?_) rfl (by kernel_rfl) (by kernel_rfl) (by kernel_rfl) (fun _ _ _ h => h) (Or.inl ⟨by rfl, ?_⟩) (by assumption) ?_; rotate_left 1; (intro w hSw; (try dsimp only at hSw); go_simp; try with_reducible rfl); (try simp only [Act.put, List.setIfInBounds_toArray, List.set_cons_zero, List.set_cons_succ])
 refine wpAnyH_take (i := 6) (oi := ⟨some 15, _, _, _, _, _⟩) (v := ?_) rfl (by kernel_rfl) (by kernel_rfl) (by kernel_rfl) (fun _ _ _ h => h) (Or.inl ⟨by rfl, ?_⟩) (by assumption) ?_; rotate_left 1; (intro w hSw; (try dsimp only at hSw); go_simp; rw [HLK.out _ hSw.2.2]; go_simp; try with_reducible rfl); (try simp only [Act.put, List.setIfInBounds_toArray, List.set_cons_zero, List.set_cons_succ])
 refine wpAnyH_take (i := 7) (oi := ⟨some 8, _, _, _, _, _⟩) (v := ?_) rfl (by kernel_rfl) (by kernel_rfl) (by kernel_rfl) (fun _ _ _ h => h) (Or.inl ⟨by rfl, ?_⟩) (by assumption) ?_; rotate_left 1; (intro w hSw; (try dsimp only at hSw); go_simp; try with_reducible rfl); (try simp only [Act.put, List.setIfInBounds_toArray, List.set_cons_zero, List.set_cons_succ])
 refine wpAnyH_take (i := 8) (oi := ⟨some 16, _, _, _, _, _⟩) (v := ?_) rfl (by kernel_rfl) (by kernel_rfl) (by kernel_rfl) (fun _ _ _ h => h) (Or.inl ⟨by rfl, ?_⟩) (by assumption) ?_; rotate_left 1; (intro w hSw; (try dsimp only at hSw); go_simp; try with_reducible rfl); (try simp only [Act.put, List.setIfInBounds_toArray, List.set_cons_zero, List.set_cons_succ])
 refine wpAnyH_take (i := 9) (oi := ⟨some 17, _, _, _, _, _⟩) (v := ?_) rfl (by kernel_rfl) (by kernel_rfl) (by kernel_rfl) (fun _ _ _ h => h) (Or.inl ⟨by rfl, ?_⟩) (by assumption) ?_; rotate_left 1; (intro w hSw; (try dsimp only at hSw); go_simp; try with_reducible rfl); (try simp only [Act.put, List.setIfInBounds_toArray, List.set_cons_zero, List.set_cons_succ])
 refine wpAnyH_ready (rs := [10]) (by kernel_rfl) (by simp) ?_
 refine AllReadyH.cons (o := ⟨some 6, _, _, _, _, _⟩) rfl (fun K hK => ?_) AllReadyH.nil
 go_simp
 refine hK.out _ _ ⟨(World.cell?_alloc_some _ _ _ (by rw [c0]; rfl)).trans c0, (World.cell?_alloc_some _ _ _ (by rw [n0]; rfl)).trans n0, (below_alloc W _).block mb (by omega)⟩ (fun hHeld2 => ?_)
 clear hK K
 (try simp only [Act.put, List.setIfInBounds_toArray, List.set_cons_zero, List.set_cons_succ])
 refine wpAnyH_ready (rs := [11]) (by kernel_rfl) (by simp) ?_
 refine AllReadyH.cons (o := ⟨none, _, _, _, _, _⟩) rfl (fun K hK => ?_) AllReadyH.nil
 go_simp
 refine hK.out _ _ ⟨(World.cell?_alloc_some _ _ _ (by rw [c0]; rfl)).trans c0, (World.cell?_alloc_some _ _ _ (by rw [n0]; rfl)).trans n0, (below_alloc W _).block mb (by omega)⟩ (fun hHeld3 => ?_)
 clear hK K
 (try simp only [Act.put, List.setIfInBounds_toArray, List.set_cons_zero, List.set_cons_succ])
 refine wpAnyH_take (i := 12) (oi := ⟨some 7, _, _, _, _, _⟩) (v := ?_) rfl (by kernel_rfl) (by kernel_rfl) (by kernel_rfl) (fun _ _ _ h => h) (Or.inl ⟨by rfl, ?_⟩) (by assumption) ?_; rotate_left 1; (intro w hSw; (try dsimp only at hSw); go_simp; try with_reducible rfl); (try simp only [Act.put, List.setIfInBounds_toArray, List.set_cons_zero, List.set_cons_succ])
 refine wpAnyH_done (by kernel_rfl) ?_ _
 clear hHeld hHeld2 hHeld3 c0 n0 HLK
 have Lx := Lib.hid (show Below W.heap.size W (W.alloc (.cells #[.int .i64 lv, .slice Y N d, .bool true] 150)).drew from (below_alloc W _).drew)
 have V0 := Lib.hid (show NBox (W.alloc (.cells #[.int .i64 lv, .slice Y N d, .bool true] 150)).drew (w.heap.size + 2) (.int .i64 lv) (.slice Y N d) (.bool true) by rw [← hzW]; exact (NBox.fresh W _ _ _ _).below (Below.drew (Below.refl _ _)))
 obtain ⟨W2, hW2⟩ : ∃ W2, (W.alloc (.cells #[.int .i64 lv, .slice Y N d, .bool true] 150)).drew = W2 := ⟨_, rfl⟩
 rw [hW2] at V0 Lx ⊢
 have N2 := Lib.hid (N0.out.below Lx.out)
 have M2 := Lib.hid (M0.out.below Lx.out)
 have L2 := Lib.hid (bnext L0.out (by omega) Lx.out)
 have n0 : W2.cell? ⟨w.heap.size, 0, none⟩ = some (.string op) := N2.out.cell 0
 have n1 : W2.cell? ⟨w.heap.size, 1, none⟩ = some (.string tx) := N2.out.cell 1
 have n2 : W2.cell? ⟨w.heap.size, 2, none⟩ = some (.slice X N c) := N2.out.cell 2
 obtain ⟨v0, v1, v2, vf⟩ := V0.out
 obtain ⟨y0, y1, y2, yf⟩ := M2.out
 have zl := V0.out.lt
 clear hW2 N0 M0 L0 Lx hzW
 go_wp2
 have Z := M2.out.set (.int .i64 lv) (.slice Y N d) (.bool true)
 exact bodyPost_ret (v := .tuple #[.agg #[.int .i64 lv, .slice Y N d, .bool true], .bool true]) (by simp [results, Tryz.results147, go_sem, Z.c0, Z.c1, Z.c2]) rfl
  ⟨rfl, ((L2.out.setCell (p := ⟨w.heap.size + 1, 0, none⟩) (by simp) _).setCell (p := ⟨w.heap.size + 1, 1, none⟩) (by simp) _).setCell (p := ⟨w.heap.size + 1, 2, none⟩) (by simp) _⟩
set_option maxHeartbeats 8000000 in
set_option maxRecDepth 100000 in
theorem frule_over (b mb : Nat) (bs : List UInt8) (op tx : ByteArray) (X : Option Addr) (lv : Int) (Y : Option Addr) (M d : Nat) (tb : Bool) (N c n : Nat) (f : ByteArray → Option Value) (hNs : N ≤ 1000000000) (hMs : M ≤ 1000000000) (w : World) (h : Wr w b mb bs) (hM : MapR w mb n f) (hf : f op = some (.agg #[.int .i64 lv, .slice Y M d, .bool tb])) (hop : op.size ≤ 9223372036854775807) (hNM : N = M) (hte : ¬ tx = ⟨#[]⟩) (htb : tb = false) :
  Calls Tryz.prog 147 #[.pointer (some ⟨b, 0, none⟩), .agg #[.string op, .string tx, .slice X N c]] w (fun e w' => e = .returned (.tuple #[.agg #[.int .i64 7, .slice none 0 0, .bool false], .bool false]) ∧ Below w.heap.size w w') := by
 subst hNM
 subst htb
 have b2 : ¬ tx.toList = [] := fun e => hte (toList_eq_nil' e)
 have b1 : (tx.toList == []) = false := by simpa using b2
 have b3 : (tx.toList != []) = true := by simpa using b2
 clear hte b2
 have hmw : mb < w.heap.size := hM.lt
 have hbw := h.lt
 have hcb : w.cell? ⟨b, 0, none⟩ = some (.map (some mb)) := by rcases h with ⟨_, h, _⟩ | ⟨_, h, _⟩ <;> exact h.cell 0
 have hlk0 := fun (w' : World) (e : w'.heap[mb]? = w.heap[mb]?) => run_look w' mb n f (hM.heap e) op (by unfold maxLen; omega) _ hf
 clear h hM hf
 have hz : w.heap.size < w.heap.size + 1 := by omega
 go_enter Tryz.func147, Tryz.ntmps147
 go_upto_region 1 with fail
 obtain ⟨W, hW⟩ : ∃ W, (w.alloc (.cells #[.string op, .string tx, .slice X N c] 25)).alloc (.cells #[.int .i64 0, .slice none 0 0, .bool false] 150) = W := ⟨_, rfl⟩
 have L0 := Lib.hid (show Below w.heap.size w W by rw [← hW]; exact ((Below.refl _ _).alloc (Nat.le_refl _) _).alloc (by simp) _)
 have N0 := Lib.hid (show HB W w.heap.size #[.string op, .string tx, .slice X N c] 25 by rw [← hW]; exact (HB.fresh _ _ _).alloc _)
 have M0 := Lib.hid (show NBox W (w.heap.size + 1) (.int .i64 0) (.slice none 0 0) (.bool false) by
  rw [← hW, show w.heap.size + 1 = (w.alloc (.cells #[.string op, .string tx, .slice X N c] 25)).heap.size by simp]; exact NBox.fresh _ _ _ _ _)
 have hzW : W.heap.size = w.heap.size + 2 := by rw [← hW]; simp
 have HLK := Lib.hid (fun (w' : World) (e : w'.heap[mb]? = W.heap[mb]?) => hlk0 w' (e.trans (L0.out.block mb hmw)))
 have c0 : W.cell? ⟨b, 0, none⟩ = some (.map (some mb)) := (L0.out.cell (p := ⟨b, 0, none⟩) hbw).trans hcb
 have n0 : W.cell? ⟨w.heap.size, 0, none⟩ = some (.string op) := N0.out.cell 0
 rw [hW]
 clear hW hlk0 hcb
 refine wp_region_held_drew (S := fun w' => w'.cell? ⟨b, 0, none⟩ = some (.map (some mb)) ∧ w'.cell? ⟨w.heap.size, 0, none⟩ = some (.string op) ∧ w'.heap[mb]? = W.heap[mb]?) (by kernel_rfl) ⟨c0, n0, rfl⟩ (fun hHeld => ?_)
 -- region
 refine wpAnyH_take (i := 0) (oi := ⟨some 9, _, _, _, _, _⟩) (v := ?_) rfl (by kernel_rfl) (by kernel_rfl) (by kernel_rfl) (fun _ _ _ h => h) (Or.inl ⟨by rfl, ?_⟩) (by assumption) ?_; rotate_left 1; (intro w hSw; (try dsimp only at hSw); go_simp; try with_reducible rfl); (try simp only [Act.put, List.setIfInBounds_toArray, List.set_cons_zero, List.set_cons_succ])
 refine wpAnyH_take (i := 1) (oi := ⟨some 10, _, _, _, _, _⟩) (v := ?_) rfl (by kernel_rfl) (by kernel_rfl) (by kernel_rfl) (fun _ _ _ h => h) (Or.inl ⟨by rfl, ?_⟩) (by assumption) ?_; rotate_left 1; (intro w hSw; (try dsimp only at hSw); go_simp; try with_reducible rfl); (try simp only [Act.put, List.setIfInBounds_toArray, List.set_cons_zero, List.set_cons_succ])
 refine wpAnyH_take (i := 2) (oi := ⟨some 11, _, _, _, _, _⟩) (v := ?_) rfl (by kernel_rfl) (by kernel_rfl) (by kernel_rfl) (fun _ _ _ h => h) (Or.inl ⟨by rfl, ?_⟩) (by assumption) ?_; rotate_left 1; (intro w hSw; (try dsimp only at hSw); go_simp; try with_reducible rfl); (try simp only [Act.put, List.setIfInBounds_toArray, List.set_cons_zero, List.set_cons_succ])
 refine wpAnyH_take (i := 3) (oi := ⟨some 12, _, _, _, _, _⟩) (v := ?_) rfl (by kernel_rfl) (by kernel_rfl) (by kernel_rfl) (fun _ _ _ h => h) (Or.inl ⟨by rfl, ?_⟩) (by assumption) ?_; rotate_left 1; (intro w hSw; (try dsimp only at hSw); go_simp; try with_reducible rfl); (try simp only [Act.put, List.setIfInBounds_toArray, List.set_cons_zero, List.set_cons_succ])
 refine wpAnyH_take (i := 4) (oi := ⟨some 13, _, _, _, _, _⟩) (v := ?_) rfl (by kernel_rfl) (by kernel_rfl) (by kernel_rfl) (fun _ _ _ h => h) (Or.inl ⟨by rfl, ?_⟩) (by assumption) ?_; rotate_left 1; (intro w hSw; (try dsimp only at hSw); go_simp; try with_reducible rfl); (try simp only [Act.put, List.setIfInBounds_toArray, List.set_cons_zero, List.set_cons_succ])
 refine wpAnyH_take (i := 5) (oi := ⟨some 14, _, _, _, _, _⟩) (v := ?_) rfl (by kernel_rfl) (by kernel_rfl) (by kernel_rfl) (fun _ _ _ h => h) (Or.inl ⟨by rfl, ?_⟩) (by assumption) ?_; rotate_left 1; (intro w hSw; (try dsimp only at hSw); go_simp; try with_reducible rfl); (try simp only [Act.put, List.setIfInBounds_toArray, List.set_cons_zero, List.set_cons_succ])
 refine wpAnyH_take (i := 6) (oi := ⟨some 15, _, _, _, _, _⟩) (v := ?_) rfl (by kernel_rfl) (by kernel_rfl) (by kernel_rfl) (fun _ _ _ h => h) (Or.inl ⟨by rfl, ?_⟩) (by assumption) ?_; rotate_left 1; (intro w hSw; (try dsimp only at hSw); go_simp; rw [HLK.out _ hSw.2.2]; go_simp; try with_reducible rfl); (try simp only [Act.put, List.setIfInBounds_toArray, List.set_cons_zero, List.set_cons_succ])
 refine wpAnyH_take (i := 7) (oi := ⟨some 8, _, _, _, _, _⟩) (v := ?_) rfl (by kernel_rfl) (by kernel_rfl) (by kernel_rfl) (fun _ _ _ h => h) (Or.inl ⟨by rfl, ?_⟩) (by assumption) ?_; rotate_left 1; (intro w hSw; (try dsimp only at hSw); go_simp; try with_reducible rfl); (try simp only [Act.put, List.setIfInBounds_toArray, List.set_cons_zero, List.set_cons_succ])
 refine wpAnyH_take (i := 8) (oi := ⟨some 16, _, _, _, _, _⟩) (v := ?_) rfl (by kernel_rfl) (by kernel_rfl) (by kernel_rfl) (fun _ _ _ h => h) (Or.inl ⟨by rfl, ?_⟩) (by assumption) ?_; rotate_left 1; (intro w hSw; (try dsimp only at hSw); go_simp; try with_reducible rfl); (try simp only [Act.put, List.setIfInBounds_toArray, List.set_cons_zero, List.set_cons_succ])
 refine wpAnyH_take (i := 9) (oi := ⟨some 17, _, _, _, _, _⟩) (v := ?_) rfl (by kernel_rfl) (by kernel_rfl) (by kernel_rfl) (fun _ _ _ h => h) (Or.inl ⟨by rfl, ?_⟩) (by assumption) ?_; rotate_left 1; (intro w hSw; (try dsimp only at hSw); go_simp; try with_reducible rfl); (try simp only [Act.put, List.setIfInBounds_toArray, List.set_cons_zero, List.set_cons_succ])
 refine wpAnyH_ready (rs := [10]) (by kernel_rfl) (by simp) ?_
 refine AllReadyH.cons (o := ⟨some 6, _, _, _, _, _⟩) rfl (fun K hK => ?_) AllReadyH.nil
 go_simp
 refine hK.out _ _ ⟨(World.cell?_alloc_some _ _ _ (by rw [c0]; rfl)).trans c0, (World.cell?_alloc_some _ _ _ (by rw [n0]; rfl)).trans n0, (below_alloc W _).block mb (by omega)⟩ (fun hHeld2 => ?_)
 clear hK K
 (try simp only [Act.put, List.setIfInBounds_toArray, List.set_cons_zero, List.set_cons_succ])
 refine wpAnyH_ready (rs := [11]) (by kernel_rfl) (by simp) ?_
 refine AllReadyH.cons (o := ⟨none, _, _, _, _, _⟩) rfl (fun K hK => ?_) AllReadyH.nil
 go_simp
 refine hK.out _ _ ⟨(World.cell?_alloc_some _ _ _ (by rw [c0]; rfl)).trans c0, (World.cell?_alloc_some _ _ _ (by rw [n0]; rfl)).trans n0, (below_alloc W _).block mb (by omega)⟩ (fun hHeld3 => ?_)
 clear hK K
 (try simp only [Act.put, List.setIfInBounds_toArray, List.set_cons_zero, List.set_cons_succ])
 refine wpAnyH_take (i := 12) (oi := ⟨some 7, _, _, _, _, _⟩) (v := ?_) rfl (by kernel_rfl) (by kernel_rfl) (by kernel_rfl) (fun _ _ _ h => h) (Or.inl ⟨by rfl, ?_⟩) (by assumption) ?_; rotate_left 1; (intro w hSw; (try dsimp only at hSw); go_simp; try with_reducible rfl); (try simp only [Act.put, List.setIfInBounds_toArray, List.set_cons_zero, List.set_cons_succ])
 refine wpAnyH_done (by kernel_rfl) ?_ _
 clear hHeld hHeld2 hHeld3 c0 n0 HLK
 have Lx := Lib.hid (show Below W.heap.size W (W.alloc (.cells #[.int .i64 lv, .slice Y N d, .bool false] 150)).drew from (below_alloc W _).drew)
 have V0 := Lib.hid (show NBox (W.alloc (.cells #[.int .i64 lv, .slice Y N d, .bool false] 150)).drew (w.heap.size + 2) (.int .i64 lv) (.slice Y N d) (.bool false) by rw [← hzW]; exact (NBox.fresh W _ _ _ _).below (Below.drew (Below.refl _ _)))
 obtain ⟨W2, hW2⟩ : ∃ W2, (W.alloc (.cells #[.int .i64 lv, .slice Y N d, .bool false] 150)).drew = W2 := ⟨_, rfl⟩
 rw [hW2] at V0 Lx ⊢
 have N2 := Lib.hid (N0.out.below Lx.out)
 have M2 := Lib.hid (M0.out.below Lx.out)
 have L2 := Lib.hid (bnext L0.out (by omega) Lx.out)
 have n0 : W2.cell? ⟨w.heap.size, 0, none⟩ = some (.string op) := N2.out.cell 0
 have n1 : W2.cell? ⟨w.heap.size, 1, none⟩ = some (.string tx) := N2.out.cell 1
 have n2 : W2.cell? ⟨w.heap.size, 2, none⟩ = some (.slice X N c) := N2.out.cell 2
 obtain ⟨v0, v1, v2, vf⟩ := V0.out
 obtain ⟨y0, y1, y2, yf⟩ := M2.out
 have zl := V0.out.lt
 clear hW2 N0 M0 L0 Lx hzW
 go_wp2
 have Z := M2.out.set (.int .i64 7) (.slice none 0 0) (.bool false)
 exact bodyPost_ret (v := .tuple #[.agg #[.int .i64 7, .slice none 0 0, .bool false], .bool false]) (by simp [results, Tryz.results147, go_sem, Z.c0, Z.c1, Z.c2]) rfl
  ⟨rfl, ((L2.out.setCell (p := ⟨w.heap.size + 1, 0, none⟩) (by simp) _).setCell (p := ⟨w.heap.size + 1, 1, none⟩) (by simp) _).setCell (p := ⟨w.heap.size + 1, 2, none⟩) (by simp) _⟩
set_option maxHeartbeats 8000000 in
set_option maxRecDepth 100000 in
theorem frule_kids (b mb : Nat) (bs : List UInt8) (op tx : ByteArray) (X : Option Addr) (lv : Int) (Y : Option Addr) (M d : Nat) (tb : Bool) (N c n : Nat) (f : ByteArray → Option Value) (hNs : N ≤ 1000000000) (hMs : M ≤ 1000000000) (w : World) (h : Wr w b mb bs) (hM : MapR w mb n f) (hf : f op = some (.agg #[.int .i64 lv, .slice Y M d, .bool tb])) (hop : op.size ≤ 9223372036854775807) (hNM : ¬ N = M) :
  Calls Tryz.prog 147 #[.pointer (some ⟨b, 0, none⟩), .agg #[.string op, .string tx, .slice X N c]] w (fun e w' => e = .returned (.tuple #[.agg #[.int .i64 7, .slice none 0 0, .bool false], .bool false]) ∧ Below w.heap.size w w') := by
 have b1 : ((N : Int) != (M : Int)) = true := by
  simp only [bne_iff_ne, ne_eq]
  omega
 have b2 : ¬ (N : Int) = (M : Int) := by omega
 clear hNM
 have hmw : mb < w.heap.size := hM.lt
 have hbw := h.lt
 have hcb : w.cell? ⟨b, 0, none⟩ = some (.map (some mb)) := by rcases h with ⟨_, h, _⟩ | ⟨_, h, _⟩ <;> exact h.cell 0
 have hlk0 := fun (w' : World) (e : w'.heap[mb]? = w.heap[mb]?) => run_look w' mb n f (hM.heap e) op (by unfold maxLen; omega) _ hf
 clear h hM hf
 have hz : w.heap.size < w.heap.size + 1 := by omega
 go_enter Tryz.func147, Tryz.ntmps147
 go_upto_region 1 with fail
 obtain ⟨W, hW⟩ : ∃ W, (w.alloc (.cells #[.string op, .string tx, .slice X N c] 25)).alloc (.cells #[.int .i64 0, .slice none 0 0, .bool false] 150) = W := ⟨_, rfl⟩
 have L0 := Lib.hid (show Below w.heap.size w W by rw [← hW]; exact ((Below.refl _ _).alloc (Nat.le_refl _) _).alloc (by simp) _)
 have N0 := Lib.hid (show HB W w.heap.size #[.string op, .string tx, .slice X N c] 25 by rw [← hW]; exact (HB.fresh _ _ _).alloc _)
 have M0 := Lib.hid (show NBox W (w.heap.size + 1) (.int .i64 0) (.slice none 0 0) (.bool false) by
  rw [← hW, show w.heap.size + 1 = (w.alloc (.cells #[.string op, .string tx, .slice X N c] 25)).heap.size by simp]; exact NBox.fresh _ _ _ _ _)
 have hzW : W.heap.size = w.heap.size + 2 := by rw [← hW]; simp
 have HLK := Lib.hid (fun (w' : World) (e : w'.heap[mb]? = W.heap[mb]?) => hlk0 w' (e.trans (L0.out.block mb hmw)))
 have c0 : W.cell? ⟨b, 0, none⟩ = some (.map (some mb)) := (L0.out.cell (p := ⟨b, 0, none⟩) hbw).trans hcb
 have n0 : W.cell? ⟨w.heap.size, 0, none⟩ = some (.string op) := N0.out.cell 0
 rw [hW]
 clear hW hlk0 hcb
 refine wp_region_held_drew (S := fun w' => w'.cell? ⟨b, 0, none⟩ = some (.map (some mb)) ∧ w'.cell? ⟨w.heap.size, 0, none⟩ = some (.string op) ∧ w'.heap[mb]? = W.heap[mb]?) (by kernel_rfl) ⟨c0, n0, rfl⟩ (fun hHeld => ?_)
 -- region
 refine wpAnyH_take (i := 0) (oi := ⟨some 9, _, _, _, _, _⟩) (v := ?_) rfl (by kernel_rfl) (by kernel_rfl) (by kernel_rfl) (fun _ _ _ h => h) (Or.inl ⟨by rfl, ?_⟩) (by assumption) ?_; rotate_left 1; (intro w hSw; (try dsimp only at hSw); go_simp; try with_reducible rfl); (try simp only [Act.put, List.setIfInBounds_toArray, List.set_cons_zero, List.set_cons_succ])
 refine wpAnyH_take (i := 1) (oi := ⟨some 10, _, _, _, _, _⟩) (v := ?_) rfl (by kernel_rfl) (by kernel_rfl) (by kernel_rfl) (fun _ _ _ h => h) (Or.inl ⟨by rfl, ?_⟩) (by assumption) ?_; rotate_left 1; (intro w hSw; (try dsimp only at hSw); go_simp; try with_reducible rfl); (try simp only [Act.put, List.setIfInBounds_toArray, List.set_cons_zero, List.set_cons_succ])
 refine wpAnyH_take (i := 2) (oi := ⟨some 11, _, _, _, _, _⟩) (v := ?_) rfl (by kernel_rfl) (by kernel_rfl) (by kernel_rfl) (fun _ _ _ h => h) (Or.inl ⟨by rfl, ?_⟩) (by assumption) ?_; rotate_left 1; (intro w hSw; (try dsimp only at hSw); go_simp; try with_reducible rfl); (try simp only [Act.put, List.setIfInBounds_toArray, List.set_cons_zero, List.set_cons_succ])
 refine wpAnyH_take (i := 3) (oi := ⟨some 12, _, _, _, _, _⟩) (v := ?_) rfl (by kernel_rfl) (by kernel_rfl) (by kernel_rfl) (fun _ _ _ h => h) (Or.inl ⟨by rfl, ?_⟩) (by assumption) ?_; rotate_left 1; (intro w hSw; (try dsimp only at hSw); go_simp; try with_reducible rfl); (try simp only [Act.put, List.setIfInBounds_toArray, List.set_cons_zero, List.set_cons_succ])
 refine wpAnyH_take (i := 4) (oi := ⟨some 13, _, _, _, _, _⟩) (v := ?_) rfl (by kernel_rfl) (by kernel_rfl) (by kernel_rfl) (fun _ _ _ h => h) (Or.inl ⟨by rfl, ?_⟩) (by assumption) ?_; rotate_left 1; (intro w hSw; (try dsimp only at hSw); go_simp; try with_reducible rfl); (try simp only [Act.put, List.setIfInBounds_toArray, List.set_cons_zero, List.set_cons_succ])
 refine wpAnyH_take (i := 5) (oi := ⟨some 14, _, _, _, _, _⟩) (v := ?_) rfl (by kernel_rfl) (by kernel_rfl) (by kernel_rfl) (fun _ _ _ h => h) (Or.inl ⟨by rfl, ?_⟩) (by assumption) ?_; rotate_left 1; (intro w hSw; (try dsimp only at hSw); go_simp; try with_reducible rfl); (try simp only [Act.put, List.setIfInBounds_toArray, List.set_cons_zero, List.set_cons_succ])
 refine wpAnyH_take (i := 6) (oi := ⟨some 15, _, _, _, _, _⟩) (v := ?_) rfl (by kernel_rfl) (by kernel_rfl) (by kernel_rfl) (fun _ _ _ h => h) (Or.inl ⟨by rfl, ?_⟩) (by assumption) ?_; rotate_left 1; (intro w hSw; (try dsimp only at hSw); go_simp; rw [HLK.out _ hSw.2.2]; go_simp; try with_reducible rfl); (try simp only [Act.put, List.setIfInBounds_toArray, List.set_cons_zero, List.set_cons_succ])
 refine wpAnyH_take (i := 7) (oi := ⟨some 8, _, _, _, _, _⟩) (v := ?_) rfl (by kernel_rfl) (by kernel_rfl) (by kernel_rfl) (fun _ _ _ h => h) (Or.inl ⟨by rfl, ?_⟩) (by assumption) ?_; rotate_left 1; (intro w hSw; (try dsimp only at hSw); go_simp; try with_reducible rfl); (try simp only [Act.put, List.setIfInBounds_toArray, List.set_cons_zero, List.set_cons_succ])
 refine wpAnyH_take (i := 8) (oi := ⟨some 16, _, _, _, _, _⟩) (v := ?_) rfl (by kernel_rfl) (by kernel_rfl) (by kernel_rfl) (fun _ _ _ h => h) (Or.inl ⟨by rfl, ?_⟩) (by assumption) ?_; rotate_left 1; (intro w hSw; (try dsimp only at hSw); go_simp; try with_reducible rfl); (try simp only [Act.put, List.setIfInBounds_toArray, List.set_cons_zero, List.set_cons_succ])
 refine wpAnyH_take (i := 9) (oi := ⟨some 17, _, _, _, _, _⟩) (v := ?_) rfl (by kernel_rfl) (by kernel_rfl) (by kernel_rfl) (fun _ _ _ h => h) (Or.inl ⟨by rfl, ?_⟩) (by assumption) ?_; rotate_left 1; (intro w hSw; (try dsimp only at hSw); go_simp; try with_reducible rfl); (try simp only [Act.put, List.setIfInBounds_toArray, List.set_cons_zero, List.set_cons_succ])
 refine wpAnyH_ready (rs := [10]) (by kernel_rfl) (by simp) ?_
 refine AllReadyH.cons (o := ⟨some 6, _, _, _, _, _⟩) rfl (fun K hK => ?_) AllReadyH.nil
 go_simp
 refine hK.out _ _ ⟨(World.cell?_alloc_some _ _ _ (by rw [c0]; rfl)).trans c0, (World.cell?_alloc_some _ _ _ (by rw [n0]; rfl)).trans n0, (below_alloc W _).block mb (by omega)⟩ (fun hHeld2 => ?_)
 clear hK K
 (try simp only [Act.put, List.setIfInBounds_toArray, List.set_cons_zero, List.set_cons_succ])
 refine wpAnyH_ready (rs := [11]) (by kernel_rfl) (by simp) ?_
 refine AllReadyH.cons (o := ⟨none, _, _, _, _, _⟩) rfl (fun K hK => ?_) AllReadyH.nil
 go_simp
 refine hK.out _ _ ⟨(World.cell?_alloc_some _ _ _ (by rw [c0]; rfl)).trans c0, (World.cell?_alloc_some _ _ _ (by rw [n0]; rfl)).trans n0, (below_alloc W _).block mb (by omega)⟩ (fun hHeld3 => ?_)
 clear hK K
 (try simp only [Act.put, List.setIfInBounds_toArray, List.set_cons_zero, List.set_cons_succ])
 refine wpAnyH_take (i := 12) (oi := ⟨some 7, _, _, _, _, _⟩) (v := ?_) rfl (by kernel_rfl) (by kernel_rfl) (by kernel_rfl) (fun _ _ _ h => h) (Or.inl ⟨by rfl, ?_⟩) (by assumption) ?_; rotate_left 1; (intro w hSw; (try dsimp only at hSw); go_simp; try with_reducible rfl); (try simp only [Act.put, List.setIfInBounds_toArray, List.set_cons_zero, List.set_cons_succ])
 refine wpAnyH_done (by kernel_rfl) ?_ _
 clear hHeld hHeld2 hHeld3 c0 n0 HLK
 have Lx := Lib.hid (show Below W.heap.size W (W.alloc (.cells #[.int .i64 lv, .slice Y M d, .bool tb] 150)).drew from (below_alloc W _).drew)
 have V0 := Lib.hid (show NBox (W.alloc (.cells #[.int .i64 lv, .slice Y M d, .bool tb] 150)).drew (w.heap.size + 2) (.int .i64 lv) (.slice Y M d) (.bool tb) by rw [← hzW]; exact (NBox.fresh W _ _ _ _).below (Below.drew (Below.refl _ _)))
 obtain ⟨W2, hW2⟩ : ∃ W2, (W.alloc (.cells #[.int .i64 lv, .slice Y M d, .bool tb] 150)).drew = W2 := ⟨_, rfl⟩
 rw [hW2] at V0 Lx ⊢
 have N2 := Lib.hid (N0.out.below Lx.out)
 have M2 := Lib.hid (M0.out.below Lx.out)
 have L2 := Lib.hid (bnext L0.out (by omega) Lx.out)
 have n0 : W2.cell? ⟨w.heap.size, 0, none⟩ = some (.string op) := N2.out.cell 0
 have n1 : W2.cell? ⟨w.heap.size, 1, none⟩ = some (.string tx) := N2.out.cell 1
 have n2 : W2.cell? ⟨w.heap.size, 2, none⟩ = some (.slice X N c) := N2.out.cell 2
 obtain ⟨v0, v1, v2, vf⟩ := V0.out
 obtain ⟨y0, y1, y2, yf⟩ := M2.out
 have zl := V0.out.lt
 clear hW2 N0 M0 L0 Lx hzW
 go_wp2
 have Z := M2.out.set (.int .i64 7) (.slice none 0 0) (.bool false)
 exact bodyPost_ret (v := .tuple #[.agg #[.int .i64 7, .slice none 0 0, .bool false], .bool false]) (by simp [results, Tryz.results147, go_sem, Z.c0, Z.c1, Z.c2]) rfl
  ⟨rfl, ((L2.out.setCell (p := ⟨w.heap.size + 1, 0, none⟩) (by simp) _).setCell (p := ⟨w.heap.size + 1, 1, none⟩) (by simp) _).setCell (p := ⟨w.heap.size + 1, 2, none⟩) (by simp) _⟩
set_option maxHeartbeats 8000000 in
set_option maxRecDepth 100000 in
theorem frule_none (b mb : Nat) (bs : List UInt8) (op tx : ByteArray) (X : Option Addr) (N c n : Nat) (f : ByteArray → Option Value) (w : World) (h : Wr w b mb bs) (hM : MapR w mb n f) (hf : f op = none) (hop : op.size ≤ 9223372036854775807) :
  Calls Tryz.prog 147 #[.pointer (some ⟨b, 0, none⟩), .agg #[.string op, .string tx, .slice X N c]] w (fun e w' => e = .returned (.tuple #[.agg #[.int .i64 7, .slice none 0 0, .bool false], .bool false]) ∧ Below w.heap.size w w') := by
 have hmw : mb < w.heap.size := hM.lt
 have hbw := h.lt
 have hcb : w.cell? ⟨b, 0, none⟩ = some (.map (some mb)) := by rcases h with ⟨_, h, _⟩ | ⟨_, h, _⟩ <;> exact h.cell 0
 have hlk0 := fun (w' : World) (e : w'.heap[mb]? = w.heap[mb]?) => run_look_no w' mb n f (hM.heap e) op (by unfold maxLen; omega) hf
 clear h hM hf
 have hz : w.heap.size < w.heap.size + 1 := by omega
 go_enter Tryz.func147, Tryz.ntmps147
 go_upto_region 1 with fail
 obtain ⟨W, hW⟩ : ∃ W, (w.alloc (.cells #[.string op, .string tx, .slice X N c] 25)).alloc (.cells #[.int .i64 0, .slice none 0 0, .bool false] 150) = W := ⟨_, rfl⟩
 have L0 := Lib.hid (show Below w.heap.size w W by rw [← hW]; exact ((Below.refl _ _).alloc (Nat.le_refl _) _).alloc (by simp) _)
 have N0 := Lib.hid (show HB W w.heap.size #[.string op, .string tx, .slice X N c] 25 by rw [← hW]; exact (HB.fresh _ _ _).alloc _)
 have M0 := Lib.hid (show NBox W (w.heap.size + 1) (.int .i64 0) (.slice none 0 0) (.bool false) by
  rw [← hW, show w.heap.size + 1 = (w.alloc (.cells #[.string op, .string tx, .slice X N c] 25)).heap.size by simp]; exact NBox.fresh _ _ _ _ _)
 have hzW : W.heap.size = w.heap.size + 2 := by rw [← hW]; simp
 have HLK := Lib.hid (fun (w' : World) (e : w'.heap[mb]? = W.heap[mb]?) => hlk0 w' (e.trans (L0.out.block mb hmw)))
 have c0 : W.cell? ⟨b, 0, none⟩ = some (.map (some mb)) := (L0.out.cell (p := ⟨b, 0, none⟩) hbw).trans hcb
 have n0 : W.cell? ⟨w.heap.size, 0, none⟩ = some (.string op) := N0.out.cell 0
 rw [hW]
 clear hW hlk0 hcb
 refine wp_region_held_drew (S := fun w' => w'.cell? ⟨b, 0, none⟩ = some (.map (some mb)) ∧ w'.cell? ⟨w.heap.size, 0, none⟩ = some (.string op) ∧ w'.heap[mb]? = W.heap[mb]?) (by kernel_rfl) ⟨c0, n0, rfl⟩ (fun hHeld => ?_)
 -- region
 refine wpAnyH_take (i := 0) (oi := ⟨some 9, _, _, _, _, _⟩) (v := ?_) rfl (by kernel_rfl) (by kernel_rfl) (by kernel_rfl) (fun _ _ _ h => h) (Or.inl ⟨by rfl, ?_⟩) (by assumption) ?_; rotate_left 1; (intro w hSw; (try dsimp only at hSw); go_simp; try with_reducible rfl); (try simp only [Act.put, List.setIfInBounds_toArray, List.set_cons_zero, List.set_cons_succ])
 refine wpAnyH_take (i := 1) (oi := ⟨some 10, _, _, _, _, _⟩) (v := ?_) rfl (by kernel_rfl) (by kernel_rfl) (by kernel_rfl) (fun _ _ _ h => h) (Or.inl ⟨by rfl, ?_⟩) (by assumption) ?_; rotate_left 1; (intro w hSw; (try dsimp only at hSw); go_simp; try with_reducible rfl); (try simp only [Act.put, List.setIfInBounds_toArray, List.set_cons_zero, List.set_cons_succ])
 refine wpAnyH_take (i := 2) (oi := ⟨some 11, _, _, _, _, _⟩) (v := ?_) rfl (by kernel_rfl) (by kernel_rfl) (by kernel_rfl) (fun _ _ _ h => h) (Or.inl ⟨by rfl, ?_⟩) (by assumption) ?_; rotate_left 1; (intro w hSw; (try dsimp only at hSw); go_simp; try with_reducible rfl); (try simp only [Act.put, List.setIfInBounds_toArray, List.set_cons_zero, List.set_cons_succ])
 refine wpAnyH_take (i := 3) (oi := ⟨some 12, _, _, _, _, _⟩) (v := ?_) rfl (by kernel_rfl) (by kernel_rfl) (by kernel_rfl) (fun _ _ _ h => h) (Or.inl ⟨by rfl, ?_⟩) (by assumption) ?_; rotate_left 1; (intro w hSw; (try dsimp only at hSw); go_simp; try with_reducible rfl); (try simp only [Act.put, List.setIfInBounds_toArray, List.set_cons_zero, List.set_cons_succ])
 refine wpAnyH_take (i := 4) (oi := ⟨some 13, _, _, _, _, _⟩) (v := ?_) rfl (by kernel_rfl) (by kernel_rfl) (by kernel_rfl) (fun _ _ _ h => h) (Or.inl ⟨by rfl, ?_⟩) (by assumption) ?_; rotate_left 1; (intro w hSw; (try dsimp only at hSw); go_simp; try with_reducible rfl); (try simp only [Act.put, List.setIfInBounds_toArray, List.set_cons_zero, List.set_cons_succ])
 refine wpAnyH_take (i := 5) (oi := ⟨some 14, _, _, _, _, _⟩) (v := ?_) rfl (by kernel_rfl) (by kernel_rfl) (by kernel_rfl) (fun _ _ _ h => h) (Or.inl ⟨by rfl, ?_⟩) (by assumption) ?_; rotate_left 1; (intro w hSw; (try dsimp only at hSw); go_simp; try with_reducible rfl); (try simp only [Act.put, List.setIfInBounds_toArray, List.set_cons_zero, List.set_cons_succ])
 refine wpAnyH_take (i := 6) (oi := ⟨some 15, _, _, _, _, _⟩) (v := ?_) rfl (by kernel_rfl) (by kernel_rfl) (by kernel_rfl) (fun _ _ _ h => h) (Or.inl ⟨by rfl, ?_⟩) (by assumption) ?_; rotate_left 1; (intro w hSw; (try dsimp only at hSw); go_simp; rw [HLK.out _ hSw.2.2]; go_simp; try with_reducible rfl); (try simp only [Act.put, List.setIfInBounds_toArray, List.set_cons_zero, List.set_cons_succ])
 refine wpAnyH_take (i := 7) (oi := ⟨some 8, _, _, _, _, _⟩) (v := ?_) rfl (by kernel_rfl) (by kernel_rfl) (by kernel_rfl) (fun _ _ _ h => h) (Or.inl ⟨by rfl, ?_⟩) (by assumption) ?_; rotate_left 1; (intro w hSw; (try dsimp only at hSw); go_simp; try with_reducible rfl); (try simp only [Act.put, List.setIfInBounds_toArray, List.set_cons_zero, List.set_cons_succ])
 refine wpAnyH_take (i := 8) (oi := ⟨some 16, _, _, _, _, _⟩) (v := ?_) rfl (by kernel_rfl) (by kernel_rfl) (by kernel_rfl) (fun _ _ _ h => h) (Or.inl ⟨by rfl, ?_⟩) (by assumption) ?_; rotate_left 1; (intro w hSw; (try dsimp only at hSw); go_simp; try with_reducible rfl); (try simp only [Act.put, List.setIfInBounds_toArray, List.set_cons_zero, List.set_cons_succ])
 refine wpAnyH_take (i := 9) (oi := ⟨some 17, _, _, _, _, _⟩) (v := ?_) rfl (by kernel_rfl) (by kernel_rfl) (by kernel_rfl) (fun _ _ _ h => h) (Or.inl ⟨by rfl, ?_⟩) (by assumption) ?_; rotate_left 1; (intro w hSw; (try dsimp only at hSw); go_simp; try with_reducible rfl); (try simp only [Act.put, List.setIfInBounds_toArray, List.set_cons_zero, List.set_cons_succ])
 refine wpAnyH_ready (rs := [10]) (by kernel_rfl) (by simp) ?_
 refine AllReadyH.cons (o := ⟨some 6, _, _, _, _, _⟩) rfl (fun K hK => ?_) AllReadyH.nil
 go_simp
 refine hK.out _ _ ⟨(World.cell?_alloc_some _ _ _ (by rw [c0]; rfl)).trans c0, (World.cell?_alloc_some _ _ _ (by rw [n0]; rfl)).trans n0, (below_alloc W _).block mb (by omega)⟩ (fun hHeld2 => ?_)
 clear hK K
 (try simp only [Act.put, List.setIfInBounds_toArray, List.set_cons_zero, List.set_cons_succ])
 refine wpAnyH_ready (rs := [11]) (by kernel_rfl) (by simp) ?_
 refine AllReadyH.cons (o := ⟨none, _, _, _, _, _⟩) rfl (fun K hK => ?_) AllReadyH.nil
 go_simp
 refine hK.out _ _ ⟨(World.cell?_alloc_some _ _ _ (by rw [c0]; rfl)).trans c0, (World.cell?_alloc_some _ _ _ (by rw [n0]; rfl)).trans n0, (below_alloc W _).block mb (by omega)⟩ (fun hHeld3 => ?_)
 clear hK K
 (try simp only [Act.put, List.setIfInBounds_toArray, List.set_cons_zero, List.set_cons_succ])
 refine wpAnyH_take (i := 12) (oi := ⟨some 7, _, _, _, _, _⟩) (v := ?_) rfl (by kernel_rfl) (by kernel_rfl) (by kernel_rfl) (fun _ _ _ h => h) (Or.inl ⟨by rfl, ?_⟩) (by assumption) ?_; rotate_left 1; (intro w hSw; (try dsimp only at hSw); go_simp; try with_reducible rfl); (try simp only [Act.put, List.setIfInBounds_toArray, List.set_cons_zero, List.set_cons_succ])
 refine wpAnyH_done (by kernel_rfl) ?_ _
 clear hHeld hHeld2 hHeld3 c0 n0 HLK
 have Lx := Lib.hid (show Below W.heap.size W (W.alloc (.cells #[.int .i64 0, .slice none 0 0, .bool false] 150)).drew from (below_alloc W _).drew)
 have V0 := Lib.hid (show NBox (W.alloc (.cells #[.int .i64 0, .slice none 0 0, .bool false] 150)).drew (w.heap.size + 2) (.int .i64 0) (.slice none 0 0) (.bool false) by rw [← hzW]; exact (NBox.fresh W _ _ _ _).below (Below.drew (Below.refl _ _)))
 obtain ⟨W2, hW2⟩ : ∃ W2, (W.alloc (.cells #[.int .i64 0, .slice none 0 0, .bool false] 150)).drew = W2 := ⟨_, rfl⟩
 rw [hW2] at V0 Lx ⊢
 have N2 := Lib.hid (N0.out.below Lx.out)
 have M2 := Lib.hid (M0.out.below Lx.out)
 have L2 := Lib.hid (bnext L0.out (by omega) Lx.out)
 have n0 : W2.cell? ⟨w.heap.size, 0, none⟩ = some (.string op) := N2.out.cell 0
 have n1 : W2.cell? ⟨w.heap.size, 1, none⟩ = some (.string tx) := N2.out.cell 1
 have n2 : W2.cell? ⟨w.heap.size, 2, none⟩ = some (.slice X N c) := N2.out.cell 2
 obtain ⟨v0, v1, v2, vf⟩ := V0.out
 obtain ⟨y0, y1, y2, yf⟩ := M2.out
 have zl := V0.out.lt
 clear hW2 N0 M0 L0 Lx hzW
 go_wp2
 have Z := M2.out.set (.int .i64 7) (.slice none 0 0) (.bool false)
 exact bodyPost_ret (v := .tuple #[.agg #[.int .i64 7, .slice none 0 0, .bool false], .bool false]) (by simp [results, Tryz.results147, go_sem, Z.c0, Z.c1, Z.c2]) rfl
  ⟨rfl, ((L2.out.setCell (p := ⟨w.heap.size + 1, 0, none⟩) (by simp) _).setCell (p := ⟨w.heap.size + 1, 1, none⟩) (by simp) _).setCell (p := ⟨w.heap.size + 1, 2, none⟩) (by simp) _⟩
theorem frule_any (b mb : Nat) (bs : List UInt8) (op tx : ByteArray) (X : Option Addr) (N c : Nat) (hNs : N ≤ 1000000000) (w : World) (h : Wr w b mb bs) (ht : Tbl w b mb) (hop : op.size ≤ 9223372036854775807) :
  Calls Tryz.prog 147 #[.pointer (some ⟨b, 0, none⟩), .agg #[.string op, .string tx, .slice X N c]] w (FRule w b (rE op.data.toList tx.data.toList N)) := by
 obtain ⟨f, n, h1, h2, h3, h4⟩ := ht
 have htx : tx = ⟨#[]⟩ ↔ tx.data.toList = [] := by
  constructor
  ·rintro rfl; rfl
  ·intro e; rw [← Lib.mk_data tx, e]
 cases hr : ruleE op.data.toList with
 | none =>
  have hf := h3 _ hr
  rw [Lib.mk_data] at hf
  have e : rE op.data.toList tx.data.toList N = none := by unfold rE; rw [hr]
  rw [e]
  exact frule_none b mb bs op tx X N c n f w h h2 hf hop
 | some r =>
  obtain ⟨Y, d, hf, hl⟩ := h4 _ _ hr
  rw [Lib.mk_data] at hf
  have hfew := (rule_few hr).1
  have hE : ∀ q : Prop, [Decidable q] → (N = r.2.1.length ∧ (tx.data.toList = [] ∨ r.2.2 = true) ↔ q) → rE op.data.toList tx.data.toList N = if q then some r else none := by
   intro q _ hq
   unfold rE
   rw [hr]
   dsimp only
   by_cases hc : q
   ·rw [if_pos (hq.2 hc), if_pos hc]
   ·rw [if_neg (fun h => hc (hq.1 h)), if_neg hc]
  by_cases h1 : N = r.2.1.length
  ·by_cases hte : tx = ⟨#[]⟩
   ·rw [hE True ⟨fun _ => trivial, fun _ => ⟨h1, .inl (htx.1 hte)⟩⟩, if_pos trivial]
    exact (frule_bare b mb bs op tx X r.1 Y r.2.1.length d r.2.2 N c n f hNs (by omega) w h h2 hf hop h1 hte).mono fun e w' hp => ⟨Y, d, hp.1, hl, hp.2⟩
   ·cases hb : r.2.2 with
    | true =>
     rw [hE True ⟨fun _ => trivial, fun _ => ⟨h1, .inr hb⟩⟩, if_pos trivial]
     exact (frule_text b mb bs op tx X r.1 Y r.2.1.length d r.2.2 N c n f hNs (by omega) w h h2 hf hop h1 hte hb).mono fun e w' hp => ⟨Y, d, hp.1, hl, hp.2⟩
    | false =>
     rw [hE False ⟨fun hx => hx.2.elim (fun e => hte (htx.2 e)) (fun e => by rw [hb] at e; cases e), False.elim⟩, if_neg id]
     exact frule_over b mb bs op tx X r.1 Y r.2.1.length d r.2.2 N c n f hNs (by omega) w h h2 hf hop h1 hte hb
  ·rw [hE False ⟨fun hx => h1 hx.1, False.elim⟩, if_neg id]
   exact frule_kids b mb bs op tx X r.1 Y r.2.1.length d r.2.2 N c n f hNs (by omega) w h h2 hf hop h1
end Go.Proofs.YtjbpkpfmgbhlpaaGreatDoor.Code
