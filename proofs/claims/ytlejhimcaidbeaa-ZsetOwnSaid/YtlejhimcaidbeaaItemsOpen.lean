/-
  A list of items that came in, opened.
-/
import Derived.Test.YtlejhimcaidbeaaOpenLists
import Derived.Test.YtlejhimcaidbeaaItemsTell
namespace Go.Proofs.Ytlejhimcaidbeaa.RowOpen
open Go.ChangeShapes Go.WideShapes Go.ChangeAt Go.RowKit Go.Deep Val Go.Proofs.Ytlejhimcaidbeaa.Code Go.Proofs.Ytlejhimcaidbeaa.Elems Go.Proofs.Ytlejhimcaidbeaa.Items
set_option linter.unusedVariables false
set_option maxRecDepth 100000
section
variable {H : Type} {enc : TypeId × Value → H} {P : Program} {w : World} {base : Nat} {spare : Nat → Bool} {held : Bool}
/-- what is known of one item that came in -/
def ItemIn (w : World) (y : It) : Prop := RowIn w y.1 y.2.2.1 ∧ fits y.2.2.2
theorem open_item {e te : TypeId} {h0 h1 f0 f1 f2 : Field} {n : Nat} {cs : List Value} {x : DataW H × List MemPlace} (he : P.underlying e = some (.struct #[h0, h1])) (hone : oneCellFields P #[h0, h1] = true)
    (ht : P.underlying h0.type = some (.slice te)) (hte : P.underlying te = some (.struct #[f0, f1, f2])) (honet : oneCellFields P #[f0, f1, f2] = true) (hC : P.cellsOf te = 3)
    (e0 : P.underlying f0.type = some (.int .i64)) (e1 : P.underlying f1.type = some (.int .i64)) (e2 : P.underlying f2.type = some .string) (e3 : P.underlying h1.type = some (.int .i64)) (hbytes : P.bytesOf te = 32)
    (hlen : cs.length = 2) (h : DataW.trod enc P w base spare held n e cs = some x) (hw : (x.1.weights P e).all (· ≤ reachBytes) = true) :
    ∃ y : It, cs = cellsI y ∧ ItemIn w y := by
  obtain ⟨ys, n', hn', hy, hl3, hyl, hf⟩ := DataW.trod_struct he h
  match cs, hlen with
  | [c0, c1], _ =>
    have o := fun j f (hj : (#[h0, h1] : Array Field)[j]? = some f) => hone_of hone j f hj
    obtain ⟨o0, k0⟩ := o 0 h0 rfl
    obtain ⟨o1, k1⟩ := o 1 h1 rfl
    match ys, hyl with
    | [y0, y1], _ =>
      have g0 := hf 0 h0 rfl
      have g1 := hf 1 h1 rfl
      rw [o0, k0] at g0
      rw [o1, k1] at g1
      obtain ⟨b, eb, xb, wb⟩ := DataW.trod_int e3 (show DataW.trod enc P w base spare held n' h1.type [c1] = some y1 from g1)
      simp only [List.cons.injEq, and_true] at eb
      obtain ⟨d0, p0⟩ := y0
      have hw0 : (d0.weights P h0.type).all (· ≤ reachBytes) = true := by
        rw [List.all_eq_true] at hw ⊢
        intro m hm
        refine hw m ?_
        rw [hy]
        show m ∈ (DataW.agg [d0, y1.1]).weights P e
        rw [DataW.weights, he]
        simp only [List.map_cons, List.map_nil, DataW.weightsEach, List.mem_append]
        exact Or.inl hm
      obtain ⟨A, cap, l, hz, hr, _⟩ := open_row ht hte honet hC e0 e1 e2 (show DataW.trod enc P w base spare held n' h0.type [c0] = some (d0, p0) from g0) hw0 hbytes
      simp only [List.cons.injEq, and_true] at hz
      exact ⟨(A, cap, l, b), by rw [hz, eb]; rfl, hr, fits_of_wf wb⟩
/-- items that came in -/
theorem open_items {r : Reach} {b0 : Nat} {T e te : TypeId} {h0 h1 f0 f1 f2 : Field} {v : Value} {d : DataW H} {p : List MemPlace} (hT : P.underlying T = some (.slice e)) (he : P.underlying e = some (.struct #[h0, h1])) (hone : oneCellFields P #[h0, h1] = true) (hCe : P.cellsOf e = 2)
    (ht : P.underlying h0.type = some (.slice te)) (hte : P.underlying te = some (.struct #[f0, f1, f2])) (honet : oneCellFields P #[f0, f1, f2] = true) (hC : P.cellsOf te = 3)
    (e0 : P.underlying f0.type = some (.int .i64)) (e1 : P.underlying f1.type = some (.int .i64)) (e2 : P.underlying f2.type = some .string) (e3 : P.underlying h1.type = some (.int .i64)) (hbytes : P.bytesOf te = 32) (hbe : P.bytesOf e = 32)
    (hv : Value.okWide P w r b0 T v) (h : DataW.Trod enc P w base spare held T v d p) (hw : (d.weights P T).all (· ≤ reachBytes) = true) :
    ∃ (A : Option Addr) (cap : Nat) (L : List It), v = .slice A L.length cap ∧ (Items w w.heap.size A L ∧ FitI L ∧ LongI L ∧ L.length ≤ 4398046511104) ∧ (L = [] ∨ ∃ elems sp, d = .slice elems sp ∧ elems.length = L.length) := by
  obtain ⟨a', len', cap', rfl⟩ := okWide_slice hT hv
  obtain ⟨fuel, hf⟩ := h
  rcases open_slice hT hf with ⟨h0, hx⟩ | ⟨a, len, cap, m, n, D, Pl, hcs, hb, hl, hm, hmm, hx, hi⟩
  · have ev : Value.slice a' len' cap' = .slice none 0 0 := by simpa [Value.cells] using h0
    rw [ev]
    exact ⟨none, 0, [], rfl, ⟨⟨At.nil _ _ _, fun x hx => (by cases hx)⟩, fun x hx => (by cases hx), fun x hx => (by cases hx), Nat.zero_le _⟩, .inl rfl⟩
  · have ev : Value.slice a' len' cap' = .slice (some a) len cap := by simpa [Value.cells] using hcs
    rw [ev]
    have hlm : len ≤ m := by rw [hmm]; split <;> omega
    have hd : d = .slice ((List.range len).map D) ((List.range (m - len)).map fun j => D (len + j)) := congrArg Prod.fst hx
    rw [List.all_eq_true] at hw
    rw [hCe] at hi
    obtain ⟨Z, hZ⟩ := choose_lt (α := It) (n := len) (p := fun i x => (∀ (j : Nat) (u : Value), (cellsI x)[j]? = some u → w.cell? (a.add (i * 2 + j)) = some u) ∧ ItemIn w x) (fun i hil => by
      obtain ⟨cs', hc, ht'⟩ := hi i (by omega)
      obtain ⟨_, hcl, hat⟩ := World.cells?_some hc
      have hwi : ((D i).weights P e).all (· ≤ reachBytes) = true := by
        rw [List.all_eq_true]
        intro y hy
        refine hw y ?_
        rw [hd, DataW.weights, hT]
        exact List.mem_cons_of_mem _ (List.mem_append_left _ (weightsAll_mem (d := D i) hy (List.mem_map.2 ⟨i, List.mem_range.2 hil, rfl⟩)))
      obtain ⟨y, hy, hin⟩ := open_item he hone ht hte honet hC e0 e1 e2 e3 hbytes hcl ht' hwi
      refine ⟨y, fun j u hu => ?_, hin⟩
      have hj : j < 2 := by
        have := (List.getElem?_eq_some_iff.1 hu).1
        rwa [cellsI_length] at this
      have c := hat j hj
      rw [Go.Deep.add_add, hy, hu] at c
      exact c)
    have hl2 : ((List.range len).map Z).length = len := by simp
    refine ⟨some a, cap, (List.range len).map Z, by rw [hl2], ⟨⟨?_, ?_⟩, ?_, ?_, ?_⟩, .inr ⟨_, _, hd, by simp⟩⟩
    · intro i hil
      have hil2 : i < len := by rwa [hl2] at hil
      obtain ⟨c0, hr⟩ := hZ i hil2
      have hblk := World.block_lt_of_cell? _ _ (c0 0 _ rfl)
      rw [add_block] at hblk
      have hat : ((List.range len).map Z)[i] = Z i := by simp
      rw [hat]
      exact ⟨a, rfl, hblk, c0⟩
    · intro x hx
      obtain ⟨i, hil, rfl⟩ := List.mem_map.1 hx
      exact (hZ i (List.mem_range.1 hil)).2.1.1
    · intro x hx
      obtain ⟨i, hil, rfl⟩ := List.mem_map.1 hx
      have := (hZ i (List.mem_range.1 hil)).2
      exact ⟨this.1.2.1, this.2⟩
    · intro x hx
      obtain ⟨i, hil, rfl⟩ := List.mem_map.1 hx
      have := (hZ i (List.mem_range.1 hil)).2.1
      exact ⟨this.2.2.2, this.2.2.1⟩
    · have hmem : (((List.range len).map D).length + ((List.range (m - len)).map fun j => D (len + j)).length) * P.bytesOf e ∈ d.weights P T := by
        rw [hd, DataW.weights, hT]
        exact List.mem_cons_self
      have := hw _ hmem
      rw [hbe] at this
      rw [decide_eq_true_iff, show reachBytes = 140737488351232 by decide] at this
      simp only [List.length_map, List.length_range] at this
      rw [hl2]
      omega
end
end Go.Proofs.Ytlejhimcaidbeaa.RowOpen
