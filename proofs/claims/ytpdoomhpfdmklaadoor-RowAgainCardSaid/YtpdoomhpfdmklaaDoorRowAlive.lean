/-
  The live question of layer 5: its answer is true.
-/
import Derived.Test.YtpdoomhpfdmklaaDoorRowShow
import Derived.Test.YtpdoomhpfdmklaaDoorRowFits
import Derived.Test.YtpdoomhpfdmklaaDoorRowKey
import Derived.Test.YtpdoomhpfdmklaaDoorRowCmp
import Derived.Test.YtpdoomhpfdmklaaDoorRowPick
namespace Go.Proofs.YtpdoomhpfdmklaaDoor.Code
open Go.ChangeShapes Go.WideShapes Go.ChangeAt Go.RowKit Val
set_option linter.unusedVariables false

def live : List (Int × Int × ByteArray) := [(2, 7, ⟨#[]⟩), (0, 0, ⟨#[]⟩), (4, 0, ⟨#[97]⟩)]
def live1 : List (Int × Int × ByteArray) := [(2, 7, ⟨#[]⟩)]
def liveP : List (Int × Int × ByteArray) := [(4, 0, ⟨#[97]⟩), (2, 7, ⟨#[]⟩), (4, 0, ⟨#[97]⟩)]
theorem fitL_of {l : List (Int × Int × ByteArray)} (h : l.all (fun v => decide (v.2.1 = 0) || decide (v.2.1 = 7)) = true) : FitL l := by
  intro v hv
  have := List.all_eq_true.1 h v hv
  simp at this
  unfold fitV
  omega
theorem ints_new (W : World) (l : List Int) (t : TypeId) (g : Nat) (hg : g = W.heap.size) : Ints (W.alloc (.cells (l.map (Value.int .i64)).toArray t)) (W.alloc (.cells (l.map (Value.int .i64)).toArray t)).heap.size (some ⟨g, 0, none⟩) l := by
  subst hg
  intro i hi
  refine ⟨⟨W.heap.size, 0, none⟩, rfl, by simp, ?_⟩
  have h := heap_alloc_new W (.cells (l.map (Value.int .i64)).toArray t)
  rw [Addr.add_lit, Nat.zero_add]
  simp only [World.cell?, h]
  simp [hi]
theorem live_show : showR liveP = [40, 39, 97, 39, 44, 32, 55, 44, 32, 39, 97, 39, 41] := by
  have h7 : showV (2, 7, ⟨#[]⟩) = [55] := by
    unfold showV
    rw [show_n (by decide) (by decide) (by decide) (by decide)]
    show Lib.itoa ((7 : Nat) : Int) = _
    rw [itoa_pos, Lib.decDigits_one (by omega)]
    rfl
  have ha : showV (4, 0, ⟨#[97]⟩) = [39, 97, 39] := by decide
  unfold showR joinR liveP
  rw [List.map_cons, List.map_cons, List.map_cons, List.map_nil, h7, ha]
  rfl
theorem c_pick1 (W : World) (g i : Nat) (hB : Blk W g live) (hI : Ints W W.heap.size (some ⟨i, 0, none⟩) [2, 0, 2]) :
    Calls Tryd.prog 21 #[.slice (some ⟨g, 0, none⟩) 3 3, .slice (some ⟨i, 0, none⟩) 3 3] W fun e w' => ∃ A cap, e = .returned (.tuple #[.slice A 3 cap, .int .i64 0]) ∧ Vals w' w'.heap.size A liveP ∧ Below W.heap.size W w' := by
  refine (pick_any (some ⟨g, 0, none⟩) (some ⟨i, 0, none⟩) 3 3 live [2, 0, 2] W hB.vals hI (by decide) (by decide)).mono ?_
  rintro e w' ⟨A, cap, he, ho, hb⟩
  have h1 : pickL live [2, 0, 2] = liveP := by rfl
  have h2 : pickE live [2, 0, 2] = 0 := by rfl
  rw [h1] at ho
  rw [h1, h2] at he
  exact ⟨A, cap, he, ho.vals, hb⟩
theorem c_pick2 (W : World) (g i : Nat) (hB : Blk W g live) (hI : Ints W W.heap.size (some ⟨i, 0, none⟩) [3]) :
    Calls Tryd.prog 21 #[.slice (some ⟨g, 0, none⟩) 3 3, .slice (some ⟨i, 0, none⟩) 1 1] W fun e w' => ∃ A cap, e = .returned (.tuple #[.slice A 0 cap, .int .i64 51]) ∧ Below W.heap.size W w' := by
  refine (pick_any (some ⟨g, 0, none⟩) (some ⟨i, 0, none⟩) 3 1 live [3] W hB.vals hI (by decide) (by decide)).mono ?_
  rintro e w' ⟨A, cap, he, ho, hb⟩
  have h1 : pickL live [3] = [] := by rfl
  have h2 : pickE live [3] = 51 := by rfl
  rw [h1, h2] at he
  exact ⟨A, cap, he, hb⟩
theorem c_show (A : Option Addr) (cap : Nat) (m : Int) (W : World) (hv : Vals W W.heap.size A liveP) (hg : Glob W.heap.size m W) :
    Calls Tryd.prog 11 #[.slice A 3 cap] W fun e w' => e = .returned (.string ⟨#[40, 39, 97, 39, 44, 32, 55, 44, 32, 39, 97, 39, 41]⟩) ∧ Below W.heap.size W w' := by
  have h := rowShow_any A cap liveP m W hv (fitL_of (by decide)) (by decide) hg
  rw [live_show] at h
  exact h
theorem c_fits1 (W : World) (g i : Nat) (hB : Blk W g live) (hI : Ints W W.heap.size (some ⟨i, 0, none⟩) [2, 1, 4]) :
    Calls Tryd.prog 15 #[.slice (some ⟨g, 0, none⟩) 3 3, .slice (some ⟨i, 0, none⟩) 3 3] W fun e w' => e = .returned (.bool true) ∧ Below W.heap.size W w' := by
  have h := rowFits_any (some ⟨g, 0, none⟩) (some ⟨i, 0, none⟩) 3 3 live [2, 1, 4] W hB.vals hI (fitL_of (by decide)) (by decide) (by decide)
  rw [show rowFits live [2, 1, 4] = true by decide] at h
  exact h
theorem c_fits2 (W : World) (g i : Nat) (hB : Blk W g live) (hI : Ints W W.heap.size (some ⟨i, 0, none⟩) [3, 1, 4]) :
    Calls Tryd.prog 15 #[.slice (some ⟨g, 0, none⟩) 3 3, .slice (some ⟨i, 0, none⟩) 3 3] W fun e w' => e = .returned (.bool false) ∧ Below W.heap.size W w' := by
  have h := rowFits_any (some ⟨g, 0, none⟩) (some ⟨i, 0, none⟩) 3 3 live [3, 1, 4] W hB.vals hI (fitL_of (by decide)) (by decide) (by decide)
  rw [show rowFits live [3, 1, 4] = false by decide] at h
  exact h
theorem live1_vals {W : World} {g : Nat} (hB : Blk W g live) : Vals W W.heap.size (some ⟨g, 0, none⟩) live1 := by
  intro i hi
  have h0 : i = 0 := by simp [live1] at hi; exact hi
  subst h0
  exact hB.vals 0 (by decide)
theorem c_key (W : World) (g : Nat) (m : Int) (hB : Blk W g live) (hm : W.cell? ⟨0, 0, none⟩ = some (.int .i64 m)) :
    Calls Tryd.prog 13 #[.slice (some ⟨g, 0, none⟩) 1 3] W fun e w' => e = .returned (.string ⟨#[2, 128, 0, 0, 7]⟩) ∧ Below W.heap.size W w' := by
  have h := rowKey_any (some ⟨g, 0, none⟩) 3 live1 m W (live1_vals hB) (fitL_of (by decide)) (by decide) hm
  rw [show keyS live1 = ⟨#[2, 128, 0, 0, 7]⟩ by
    rw [key_yes (by decide), (enc_yes (by decide)).1, show encL live1 = [2, 128, 0, 0, 7] by decide]] at h
  exact h
theorem c_cmp (W : World) (g : Nat) (hB : Blk W g live) :
    Calls Tryd.prog 17 #[.slice (some ⟨g, 0, none⟩) 1 3, .slice (some ⟨g, 0, none⟩) 3 3] W fun e w' => e = .returned (.int .i64 (-1)) ∧ Below W.heap.size W w' := by
  have h := rowCompare_any (some ⟨g, 0, none⟩) (some ⟨g, 0, none⟩) 3 3 live1 live W (live1_vals hB) hB.vals (by decide) (by decide)
  rw [show cmpL live1 live = -1 by decide] at h
  exact h
set_option maxHeartbeats 4000000 in
theorem alive_any (m : Int) (w : World) (hg : Glob w.heap.size m w) :
    Calls Tryd.prog 8 #[] w fun e w' => e = .returned (.bool true) ∧ Below w.heap.size w w' := by
  have HG := Lib.hid hg
  clear hg
  have R0 := Lib.hid (show Blk (w.alloc (.cells #[.int .i64 2, .int .i64 7, .string ⟨#[]⟩, .int .i64 0, .int .i64 0, .string ⟨#[]⟩, .int .i64 4, .int .i64 0, .string ⟨#[97]⟩] 41)) w.heap.size live from heap_alloc_new w _)
  have L0 := Lib.hid (below_alloc w (.cells #[.int .i64 2, .int .i64 7, .string ⟨#[]⟩, .int .i64 0, .int .i64 0, .string ⟨#[]⟩, .int .i64 4, .int .i64 0, .string ⟨#[97]⟩] 41))
  go_enter Tryd.func8, Tryd.ntmps8
  go_wp2_with fail
  refine (c_pick1 _ w.heap.size (w.heap.size + 1) (R0.out.alloc _) (ints_new _ [2, 0, 2] 3 _ (by simp))).mono ?_
  rintro e w1 ⟨A, cap, rfl, hv1, hb1⟩
  have R1 := Lib.hid ((R0.out.alloc _).call hb1)
  have V1 := Lib.hid hv1
  have L1 := Lib.hid (bnext (L0.out.alloc (by simp) _) (by simp; omega) hb1)
  clear hb1 hv1 R0 L0
  go_wp2_with fail
  refine (c_pick2 _ w.heap.size w1.heap.size (R1.out.alloc _) (ints_new _ [3] 3 _ rfl)).mono ?_
  rintro e w2 ⟨A2, cap2, rfl, hb2⟩
  have R2 := Lib.hid ((R1.out.alloc _).call hb2)
  have hz1 := L1.out.size
  have L12 := Lib.hid (bnext (below_alloc w1 _) (by simp) hb2)
  have L2 := Lib.hid (bnext L1.out hz1 L12.out)
  have V2 := Lib.hid ((V1.out.below L12.out).more L12.out.size)
  clear hb2 R1 L12 V1
  go_wp2_with fail
  refine (c_show A cap m _ V2.out (HG.out.next L2.out)).mono ?_
  rintro e w3 ⟨rfl, hb3⟩
  have R3 := Lib.hid (R2.out.call hb3)
  have hz2 := L2.out.size
  have L3 := Lib.hid (bnext L2.out hz2 hb3)
  clear hb3 R2 V2
  go_wp2_with fail
  refine (c_fits1 _ w.heap.size w3.heap.size (R3.out.alloc _) (ints_new _ [2, 1, 4] 39 _ rfl)).mono ?_
  rintro e w4 ⟨rfl, hb4⟩
  have R4 := Lib.hid ((R3.out.alloc _).call hb4)
  have hz3 := L3.out.size
  have L4 := Lib.hid (bnext (L3.out.alloc hz3 _) (by simp; omega) hb4)
  clear hb4 R3
  go_wp2_with fail
  refine (c_fits2 _ w.heap.size w4.heap.size (R4.out.alloc _) (ints_new _ [3, 1, 4] 39 _ rfl)).mono ?_
  rintro e w5 ⟨rfl, hb5⟩
  have R5 := Lib.hid ((R4.out.alloc _).call hb5)
  have hz4 := L4.out.size
  have L5 := Lib.hid (bnext (L4.out.alloc hz4 _) (by simp; omega) hb5)
  clear hb5 R4
  go_wp2_with fail
  refine (c_key _ w.heap.size m R5.out (HG.out.below L5.out).cell).mono ?_
  rintro e w6 ⟨rfl, hb6⟩
  have R6 := Lib.hid (R5.out.call hb6)
  have hz5 := L5.out.size
  have L6 := Lib.hid (bnext L5.out hz5 hb6)
  clear hb6 R5
  go_wp2_with fail
  refine (c_cmp _ w.heap.size R6.out).mono ?_
  rintro e w7 ⟨rfl, hb7⟩
  have hz6 := L6.out.size
  have L7 := Lib.hid (bnext L6.out hz6 hb7)
  clear hb7 R6
  go_wp2
  go_ret
  exact ⟨rfl, L7.out⟩
end Go.Proofs.YtpdoomhpfdmklaaDoor.Code
