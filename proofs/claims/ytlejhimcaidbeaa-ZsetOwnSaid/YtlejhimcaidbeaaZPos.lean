/-
  The contract of Positive of package zset.
-/
import Derived.Test.YtlejhimcaidbeaaZEach
namespace Go.Proofs.Ytlejhimcaidbeaa.Items
open Go.ChangeShapes Go.WideShapes Go.ChangeAt Go.RowKit Val Go.Proofs.Ytlejhimcaidbeaa.Code Go.Proofs.Ytlejhimcaidbeaa.Elems Go.Proofs.Ytlejhimcaidbeaa.ZP Go.Proofs.Ytlejhimcaidbeaa.Bits Go.Proofs.Ytlejhimcaidbeaa.Range
set_option linter.unusedVariables false
set_option maxRecDepth 100000
attribute [local go_sem] Oper.semAt_some

/-- a cell that the function made holds v, can be written, and nothing older has changed -/
def CellAt (w : World) (g : Nat) (v : Value) (W : World) : Prop := W.cell? ⟨g, 0, none⟩ = some v ∧ W.frozen? ⟨g, 0, none⟩ = false ∧ Below w.heap.size w W
theorem CellAt.turn {w W W' : World} {g : Nat} {v : Value} {row : Option Nat} {B : Nat} (hg : W.grownBy W' row) (hr : ∀ r, row = some r → B ≤ r ∧ ∃ o : Obj, W.heap[r]? = some o ∧ o.isCells = false) (hB : w.heap.size ≤ B) (h : CellAt w g v W) : CellAt w g v W' := by
  obtain ⟨h1, h2, h3⟩ := h
  obtain ⟨e1, e2⟩ := turn_cell hg hr h1
  exact ⟨e1, e2.trans h2, turn_below hg hr (Nat.le_refl _) hB h3⟩

set_option maxHeartbeats 2000000 in
theorem zpos_any (A : Option Addr) (cap : Nat) (L : List It) (w : World) (hI : Items w w.heap.size A L) (hl : L.length ≤ 140737488355328) :
    Calls Try.prog 26 #[.slice A L.length cap] w fun e w' => e = .returned (.bool (positiveI L)) ∧ Below w.heap.size w w' := by
  refine calls_marks Try.func26 rfl ?_
  simp only [Try.ntmps26, List.size_toArray, List.length_cons, List.length_nil, Nat.reduceAdd, Nat.reduceSub, Array.replicate_succ, Array.replicate_zero, List.push_toArray, List.append_toArray, List.nil_append, List.cons_append]
  have HI := Lib.hid hI
  clear hI
  go_wp2_with fail
  have hc0 : CellAt w w.heap.size (.bool false) (w.alloc (.cells #[.bool false] 4)) := ⟨by simp [go_sem], by simp [go_sem], below_alloc w _⟩
  have HS := Lib.hid (each_seq A cap w.heap.size L (w.alloc (.cells #[.bool false] 4)) (by simp) (HI.out.below (below_alloc w _)) hl)
  refine wp_range (gf := 45) (ms := #[.slice A L.length cap]) rfl (enters_of Try.func45 (by kernel_rfl) rfl) (n₀ := w.heap.size) (by simp) (fun _ => rfl) HS.out
    (fun pre W => (∀ x ∈ pre, 0 ≤ x.2.2.2) ∧ CellAt w w.heap.size (.bool false) W)
    (fun c pre W => c = .ret ∧ (∃ x ∈ pre, x.2.2.2 < 0) ∧ CellAt w w.heap.size (.bool false) W)
    ?hI ?hIx ⟨by simp, hc0⟩
    (fun x a' _ => a' = { tmps := #[.slice A L.length cap, undef, .pointer (some ⟨w.heap.size, 0, none⟩), undef, .int .i64 x.2.2.2, .slice A L.length cap, .func (.func 45) #[.slice A L.length cap] #[], .slice x.1 x.2.2.1.length x.2.1, .int .i64 x.2.2.2, undef, undef], defers := [] })
    (fun x a' s X Y row h _ _ => h) ?assign ?body ?done ?stop
  case hI => exact fun s X Y row h hg hr => ⟨h.1, h.2.turn hg hr (by simp)⟩
  case hIx => exact fun c s X Y row h hg hr => ⟨h.1, h.2.1, h.2.2.turn hg hr (by simp)⟩
  case assign =>
    intro l pre x W K hz hi hK
    have HK := Lib.hid (hK _ W (KeepsFrom.refl _ _) (Below.refl _ _) hi rfl)
    clear hK hi
    dsimp only [encI]
    gi_wp2
    exact HK.out
  case body =>
    rintro l pre x a' W hz ⟨hp, hc, hf, hb⟩ rfl hpre
    have HP := Lib.hid hp
    have HPre := Lib.hid hpre
    have HC := Lib.hid (show CellAt w w.heap.size (.bool false) W from ⟨hc, hf, hb⟩)
    clear hp hpre hb
    gi_wp2
    · rename_i hneg
      exact ⟨(KeepsOthers.setCell _ _ _).from _, rfl, ⟨x, by simp, hneg⟩, World.cell?_setCell_same' _ _ _ (by rw [hc]; rfl), by rw [World.frozen?_setCell]; exact hf, HC.out.2.2.setCell (p := ⟨w.heap.size, 0, none⟩) (Nat.le_refl _) _⟩
    · rename_i hpos
      refine ⟨KeepsFrom.refl _ _, Below.refl _ _, fun y hy => ?_, HC.out⟩
      rcases List.mem_append.1 hy with h | h
      · exact HP.out y h
      · rw [List.mem_singleton.1 h]
        omega
  case done =>
    rintro D W hD ⟨hp, hc, hf, hb⟩ hK
    have HP := Lib.hid (show positiveI L = true by unfold positiveI; rw [List.all_eq_true]; intro x hx; exact decide_eq_true (hp x hx))
    have HB := Lib.hid (hb.setCell (p := ⟨w.heap.size, 0, none⟩) (Nat.le_refl _) (.bool true))
    have hK2 : (W.setCell ⟨w.heap.size, 0, none⟩ (.bool true)).heap[D]? = some (.deferred (some [])) := (Below.heap_setCell _ _ _ D (by simp at hD ⊢; omega)).trans hK
    have HK := Lib.hid hK2
    have hc2 : (W.setCell ⟨w.heap.size, 0, none⟩ (.bool true)).cell? ⟨w.heap.size, 0, none⟩ = some (.bool true) := World.cell?_setCell_same' _ _ _ (by rw [hc]; rfl)
    have HC2 := Lib.hid hc2
    clear hp hb hK hK2 hc2
    go_wp2
    refine leave_mark HK.out (n₀ := w.heap.size) (by simp at hD; omega) fun W' hcell hsz hbel hoth => ?_
    refine ⟨.bool true, ?_, by rw [HP.out], HB.out.trans hbel⟩
    have hc3 := (hcell _).trans HC2.out
    simp [results, Try.results26, go_sem, hc3]
  case stop =>
    rintro D c pre W hD hpre ⟨rfl, ⟨x, hx, hn⟩, hc, hf, hb⟩ hK
    have HP := Lib.hid (show positiveI L = false by
      unfold positiveI
      rw [List.all_eq_false]
      exact ⟨x, hpre.subset hx, by simp; omega⟩)
    have HB := Lib.hid hb
    have HK := Lib.hid hK
    have HC2 := Lib.hid hc
    clear hb hK hn hx
    go_wp2
    refine leave_mark HK.out (n₀ := w.heap.size) (by simp at hD; omega) fun W' hcell hsz hbel hoth => ?_
    refine ⟨.bool false, ?_, by rw [HP.out], HB.out.trans hbel⟩
    have hc3 := (hcell _).trans HC2.out
    simp [results, Try.results26, go_sem, hc3]
end Go.Proofs.Ytlejhimcaidbeaa.Items
