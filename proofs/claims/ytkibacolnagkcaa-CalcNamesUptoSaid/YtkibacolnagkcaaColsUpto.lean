/-
  A list of columns that came in, opened where the bulk is bounded. No function is named.
-/
import Derived.Test.YtkibacolnagkcaaM37
import Derived.Test.YtkibacolnagkcaaM10
import Derived.Test.YtkibacolnagkcaaBulk
import Derived.Test.YtkibacolnagkcaaNodOpen
namespace Go.Proofs.Ytkibacolnagkcaa.RowOpen
open Go.ChangeShapes Go.WideShapes Go.ChangeAt Go.RowKit Go.Deep Val Elems Go.Proofs.Ytkibacolnagkcaa.Code
set_option linter.unusedVariables false
section
variable {H : Type} {enc : TypeId × Value → H} {P : Program} {w : World} {base : Nat} {spare : Nat → Bool} {held : Bool}
theorem open_wordsUT {t e : TypeId} {f0 f1 f2 : Field} {fuel : Nat} {cs0 : List Value} {d : DataW H} {p : List MemPlace} (ht : P.underlying t = some (.slice e)) (he : P.underlying e = some (.struct #[f0, f1, f2])) (hone : oneCellFields P #[f0, f1, f2] = true) (hC : P.cellsOf e = 3)
    (e0 : P.underlying f0.type = some (.int .i64)) (e1 : P.underlying f1.type = some .string) (e2 : P.underlying f2.type = some (.int .i64)) (hf : DataW.trod enc P w base spare held fuel t cs0 = some (d, p)) (hw : Rows.uptoBulk d ≤ 1048576) :
    ∃ (A : Option Addr) (cap : Nat) (l : List W), cs0 = [.slice A l.length cap] ∧ At wc 3 w w.heap.size A l ∧ (∀ x ∈ l, x.2.1.length ≤ 1048576) ∧ l.length ≤ 1048576 := by
  rcases open_slice ht hf with ⟨h0, hx⟩ | ⟨a, len, cap, m, n, D, Pl, hcs, hb, hl, hm, hmm, hx, hi⟩
  · exact ⟨none, 0, [], h0, At.nil _ _ _, fun x hx => (by cases hx), Nat.zero_le _⟩
  · have hlm : len ≤ m := by rw [hmm]; split <;> omega
    rw [hC] at hi
    obtain ⟨V, hV⟩ := choose_lt (α := W) (n := len) (p := fun i x => w.cell? (a.add (i * 3)) = some (.int .i64 x.1) ∧ w.cell? (a.add (i * 3 + 1)) = some (.string ⟨x.2.1.toArray⟩) ∧ w.cell? (a.add (i * 3 + 2)) = some (.int .i64 x.2.2) ∧ D i = .agg [.lit (.int .i64 x.1), .lit (.string x.2.1), .lit (.int .i64 x.2.2)]) (fun i hil => by
      obtain ⟨cs', hc, ht'⟩ := hi i (by omega)
      obtain ⟨_, hcl, hat⟩ := World.cells?_some hc
      obtain ⟨x, hx1, hx2⟩ := open_wpart he hone e0 e1 e2 hcl ht'
      have c0 := hat 0 (by omega)
      have c1 := hat 1 (by omega)
      have c2 := hat 2 (by omega)
      rw [Go.Deep.add_add, hx1] at c0 c1 c2
      exact ⟨(x.1, x.2.1.data.toList, x.2.2), c0, by rw [Lib.mk_data]; exact c1, c2, hx2⟩)
    have hd : d = .slice ((List.range len).map D) ((List.range (m - len)).map fun j => D (len + j)) := congrArg Prod.fst hx
    have hl2 : ((List.range len).map V).length = len := by simp
    have hat : ∀ (i : Nat) (hi : i < ((List.range len).map V).length), ((List.range len).map V)[i] = V i := fun i hi => by simp
    refine ⟨some a, cap, (List.range len).map V, by rw [hl2]; exact hcs, ?_, ?_, ?_⟩
    · intro i hil
      rw [hat i hil]
      rw [hl2] at hil
      obtain ⟨c0, c1, c2, _⟩ := hV i hil
      have hblk := World.block_lt_of_cell? _ _ c0
      rw [add_block] at hblk
      refine ⟨a, rfl, hblk, fun j u hu => ?_⟩
      rcases j with _ | _ | _ | j
      · cases hu; exact c0
      · cases hu; exact c1
      · cases hu; exact c2
      · exact absurd (List.getElem?_eq_some_iff.1 hu).1 (by show ¬ j + 3 < 3; omega)
    · intro x hx
      obtain ⟨i, hil, rfl⟩ := List.mem_map.1 hx
      have h5 := (hV i (List.mem_range.1 hil)).2.2.2
      have hm := bulk_mem (List.mem_map.2 ⟨i, hil, rfl⟩ : D i ∈ (List.range len).map D)
      rw [h5] at hm
      rw [hd] at hw
      simp only [Rows.uptoBulk, Rows.uptoBulkAll] at hm hw
      omega
    · have := Bulk.length_le ((List.range len).map D)
      rw [hd] at hw
      simp only [Rows.uptoBulk] at hw
      simp only [List.length_map, List.length_range] at this
      rw [hl2]
      omega
theorem open_wordsU {r : Reach} {b0 : Nat} {t e : TypeId} {f0 f1 f2 : Field} {v : Value} {d : DataW H} {p : List MemPlace} (ht : P.underlying t = some (.slice e)) (he : P.underlying e = some (.struct #[f0, f1, f2])) (hone : oneCellFields P #[f0, f1, f2] = true) (hC : P.cellsOf e = 3)
    (e0 : P.underlying f0.type = some (.int .i64)) (e1 : P.underlying f1.type = some .string) (e2 : P.underlying f2.type = some (.int .i64)) (hv : Value.okWide P w r b0 t v) (h : DataW.Trod enc P w base spare held t v d p) (hw : Rows.uptoBulk d ≤ 1048576) :
    ∃ (A : Option Addr) (cap : Nat) (l : List W), v = .slice A l.length cap ∧ At wc 3 w w.heap.size A l ∧ (∀ x ∈ l, x.2.1.length ≤ 1048576) ∧ l.length ≤ 1048576 := by
  obtain ⟨a', len', cap', rfl⟩ := okWide_slice ht hv
  obtain ⟨fuel, hf⟩ := h
  obtain ⟨A, cap, l, h1, h2⟩ := open_wordsUT ht he hone hC e0 e1 e2 hf hw
  exact ⟨A, cap, l, by simpa [Value.cells] using h1, h2⟩
end
end Go.Proofs.Ytkibacolnagkcaa.RowOpen
