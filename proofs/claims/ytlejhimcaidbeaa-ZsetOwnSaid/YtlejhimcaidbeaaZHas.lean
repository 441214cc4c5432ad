/-
  The contract of slices.ContainsFunc as package zset's sum calls it: is a row not right? and slices.SortFunc of no list.
-/
import Derived.Test.YtlejhimcaidbeaaRowRights
import Derived.Test.YtlejhimcaidbeaaZSort
namespace Go.Proofs.Ytlejhimcaidbeaa.Items
open Go.ChangeShapes Go.WideShapes Go.ChangeAt Go.RowKit Val Go.Proofs.Ytlejhimcaidbeaa.Code Go.Proofs.Ytlejhimcaidbeaa.Elems Go.Proofs.Ytlejhimcaidbeaa.ZP Go.Proofs.Ytlejhimcaidbeaa.Bits
set_option linter.unusedVariables false
set_option maxRecDepth 100000

set_option maxHeartbeats 1000000 in
theorem bad_any (x1 : Option Addr) (x2 : Nat) (x3 : List (Int × Int × ByteArray)) (x4 : Int) (w : World) (hx : Vals w w.heap.size x1 x3) (hf : FitL x3) (lx : x3.length ≤ 140737488355328) :
    Calls Try.prog 56 #[.agg #[.slice x1 x3.length x2, .int .i64 x4]] w fun e w' => e = .returned (.bool (!rightR x3)) ∧ Below w.heap.size w w' := by
  have HX := Lib.hid hx
  have HF := Lib.hid hf
  clear hx hf
  go_enter Try.func56, Try.ntmps56
  go_wp2_with fail
  have hb := below_alloc w (.cells #[.slice x1 x3.length x2, .int .i64 x4] 48)
  have HB := Lib.hid hb
  refine (rowRight_any x1 x2 x3 _ ((HX.out.below hb).more hb.size) HF.out lx).mono ?_
  rintro e w1 ⟨rfl, hb1⟩
  have L1 := Lib.hid (bnext HB.out HB.out.size hb1)
  clear hb hb1
  obtain ⟨r, hr⟩ : ∃ r, rightR x3 = r := ⟨_, rfl⟩
  rw [hr]
  have HR := Lib.hid hr
  clear hr
  go_wp2
  go_ret
  exact ⟨by rw [HR.out]; rfl, L1.out⟩
abbrev ItOk (w : World) (n₀ : Nat) : Type := { x : It // Vals w n₀ x.1 x.2.2.1 ∧ FitL x.2.2.1 ∧ x.2.2.1.length ≤ 140737488355328 }
instance (w : World) (n₀ : Nat) : Inhabited (ItOk w n₀) := ⟨⟨(none, 0, [], 0), fun i hi => absurd hi (Nat.not_lt_zero _), (fun v hv => by cases hv), by simp⟩⟩
def encK {w : World} {n₀ : Nat} (x : ItOk w n₀) : List Value := cellsI x.1

theorem has_some (g cap n₀ : Nat) (L : List It) (w : World) (ho : w.ownsRow n₀ 48 2 (.slice (some ⟨g, 0, none⟩) L.length cap) L.length (flatC cellsI L)) (hv : ∀ x ∈ L, Vals w n₀ x.1 x.2.2.1 ∧ FitL x.2.2.1 ∧ x.2.2.1.length ≤ 140737488355328) (hn : n₀ ≤ w.heap.size) (hl : L.length ≤ 4398046511104) :
    Calls Try.prog 55 #[.slice (some ⟨g, 0, none⟩) L.length cap, .func (.func 56) #[] #[]] w fun e w' => e = .returned (.bool (!okRows L)) ∧ Below w.heap.size w w' := by
  obtain ⟨hgn, hgw⟩ := ho.lt g rfl
  obtain ⟨l, hlm⟩ : ∃ l : List (ItOk w n₀), l.map (·.1) = L := ⟨L.pmap (fun x h => ⟨x, h⟩) hv, by rw [List.map_pmap]; simp⟩
  have hll : l.length = L.length := by rw [← hlm]; simp
  have hp : PredBelow Try.prog 56 #[] (fun x => .agg (encK (w := w) (n₀ := n₀) x).toArray) (fun x => !rightR x.1.2.2.1) w := by
    intro W x hb
    obtain ⟨⟨x1, x2, x3, x4⟩, hx, hf, lx⟩ := x
    refine (bad_any x1 x2 x3 x4 W ((hx.below (hb.mono hn)).more (Nat.le_trans hn hb.size)) hf lx).mono ?_
    rintro e w' ⟨he, hb2⟩
    exact ⟨he, hb.trans (hb2.mono hb.size)⟩
  have hc := AnyQ.slices_ContainsFunc Try.hasI 2 Try.isAgg48 Try.sizeOf48 (encK (w := w) (n₀ := n₀)) (fun _ => rfl) (fun x => !rightR x.1.2.2.1) 56 #[] (enters_of Try.func56 (by kernel_rfl) rfl) g 0 L.length cap l w hp (by omega) (by omega) hgw (by
    intro j hj i u hu
    have hi : i < 2 := by
      have := (List.getElem?_eq_some_iff.1 hu).1
      exact this
    rw [ho.cellAt _ (by omega), Nat.zero_add, ← hlm, flatC_at cellsI_length _ _ (by simpa using hj) _ hi, List.getElem_map]
    rw [getElem!_pos l j hj] at hu
    exact hu)
  refine hc.mono ?_
  rintro e w' ⟨he, hb⟩
  refine ⟨?_, hb⟩
  rw [he, ← hll, List.take_length, ← hlm]
  unfold okRows
  rw [List.all_map, List.any_eq_not_all_not]
  simp [Function.comp_def]
theorem has_none (w : World) :
    Calls Try.prog 55 #[.slice none 0 0, .func (.func 56) #[] #[]] w fun e w' => e = .returned (.bool false) ∧ w' = w := by
  have h : ∀ w, Calls Try.prog 70 #[.slice none 0 0, .func (.func 56) #[] #[]] w fun e w' => e = .returned (.int .i64 (-1)) ∧ w' = w := by
    intro w
    go_enter Try.func70, Try.ntmps70
    go_wp2
    refine wp_loop_rounds 1 ?_
    rw [rounds_succ]
    go_wp2
    go_ret
    exact ⟨rfl, rfl⟩
  go_enter Try.func55, Try.ntmps55
  go_wp2_with fail
  refine (h _).mono ?_
  rintro e w1 ⟨rfl, rfl⟩
  go_wp2
  go_ret
  exact ⟨rfl, rfl⟩
set_option maxHeartbeats 1000000 in
theorem sort_none (w : World) :
    Calls Try.prog 57 #[.slice none 0 0, .func (.func 58) #[] #[]] w fun e w' => e = .returned (.tuple #[]) ∧ Below w.heap.size w w' := by
  have hbl : ∀ w, Calls Try.prog 72 #[.int .u64 (0 : Int)] w fun e w' => e = .returned (.int .i64 (0 : Int)) ∧ w' = w := fun w => by
    have h := Any.bits_Len (SlLaysF0.n15.bits (P := Try.prog) (ρ := Try.pdqI_ren) { Try.pdqI with }) 0 w (by omega) (by omega)
    exact h
  have hi : ∀ w, Calls Try.prog 81 #[.slice none 0 0, .int .i64 0, .int .i64 0, .func (.func 58) #[] #[]] w fun e w' => e = .returned (.tuple #[]) ∧ w' = w := by
    intro w
    go_enter Try.func81, Try.ntmps81
    go_wp2
    refine wp_loop_rounds 1 ?_
    rw [rounds_succ]
    go_wp2
    go_end0
    exact ⟨rfl, rfl⟩
  have hp : ∀ w, Calls Try.prog 71 #[.slice none 0 0, .int .i64 0, .int .i64 0, .int .i64 0, .func (.func 58) #[] #[]] w fun e w' => e = .returned (.tuple #[]) ∧ Below w.heap.size w w' := by
    intro w
    go_enter Try.func71, Try.ntmps71
    go_wp2
    refine wp_loop_rounds 1 ?_
    rw [rounds_succ]
    go_wp2_with fail
    refine (hi _).mono ?_
    rintro e w1 ⟨rfl, rfl⟩
    go_wp2
    first
      | (refine bodyPost_ret (results_none rfl _ _ _) rfl ?_; exact ⟨rfl, Below.refl _ _⟩)
      | (go_end0; exact ⟨rfl, Below.refl _ _⟩)
  go_enter Try.func57, Try.ntmps57
  go_wp2_with fail
  refine (hbl _).mono ?_
  rintro e w1 ⟨rfl, rfl⟩
  go_wp2_with fail
  refine (hp _).mono ?_
  rintro e w2 ⟨rfl, hb2⟩
  have L2 := Lib.hid hb2
  clear hb2
  go_wp2
  go_end0
  exact ⟨rfl, L2.out⟩

theorem has_any (n₀ : Nat) (v : Value) (L : List It) (w : World) (ho : w.ownsRow n₀ 48 2 v L.length (flatC cellsI L)) (hv : ∀ x ∈ L, Vals w n₀ x.1 x.2.2.1 ∧ FitL x.2.2.1 ∧ x.2.2.1.length ≤ 140737488355328) (hn : n₀ ≤ w.heap.size) (hl : L.length ≤ 4398046511104) :
    Calls Try.prog 55 #[v, .func (.func 56) #[] #[]] w fun e w' => e = .returned (.bool (!okRows L)) ∧ Below w.heap.size w w' := by
  rcases ho.2 with ⟨rfl, h0⟩ | ⟨g, cap, cur, rfl, h⟩
  · refine (has_none w).mono ?_
    rintro e w' ⟨he, rfl⟩
    have : L = [] := List.eq_nil_of_length_eq_zero h0
    subst this
    exact ⟨he, Below.refl _ _⟩
  · exact has_some g cap n₀ L w ho hv hn hl
theorem sort_any (n₀ : Nat) (v : Value) (L : List It) (w : World) (ho : w.ownsRow n₀ 48 2 v L.length (flatC cellsI L)) (hv : ∀ x ∈ L, Vals w n₀ x.1 x.2.2.1 ∧ FitL x.2.2.1 ∧ x.2.2.1.length ≤ 140737488355328) (hn : n₀ ≤ w.heap.size) (hl : L.length ≤ 4398046511104) :
    Calls Try.prog 57 #[v, .func (.func 58) #[] #[]] w fun e w' => e = .returned (.tuple #[]) ∧ ∃ (A : Option Addr) (cap : Nat) (M : List It), v = .slice A M.length cap ∧ M.length ≤ cap ∧ cap ≤ 9223372036854775807 ∧ M.Perm L ∧ M.Pairwise (fun a b => cmpL b.2.2.1 a.2.2.1 ≠ -1) ∧ Items w' w'.heap.size A M ∧ Below n₀ w w' := by
  rcases ho.2 with ⟨rfl, h0⟩ | ⟨g, cap, cur, rfl, _, _, hlc, hcm, _⟩
  · refine (sort_none w).mono ?_
    rintro e w' ⟨he, hb⟩
    have : L = [] := List.eq_nil_of_length_eq_zero h0
    subst this
    exact ⟨he, none, 0, [], rfl, Nat.le_refl _, by omega, List.Perm.refl _, List.Pairwise.nil, ⟨At.nil _ _ _, fun x hx => by cases hx⟩, hb.mono hn⟩
  · refine (zsort_any g cap n₀ L w ho (fun x hx => ⟨(hv x hx).1, (hv x hx).2.2⟩) hn hl).mono ?_
    rintro e w' ⟨he, M, hp, hs, ha, hb⟩
    refine ⟨he, some ⟨g, 0, none⟩, cap, M, by rw [hp.length_eq], by rw [hp.length_eq]; exact hlc, by unfold maxLen at hcm; omega, hp, hs, ⟨ha, fun x hx => ((hv x (hp.mem_iff.1 hx)).1.below hb).more (Nat.le_trans hn hb.size)⟩, hb⟩
end Go.Proofs.Ytlejhimcaidbeaa.Items
