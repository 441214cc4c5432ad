/-
  Arguments that came in, opened: a list of values (a row), of numbers, of rows. No function is named.
-/
import Derived.Test.YtajnnkclonjcoaaDoorM4
import Derived.Test.YtajnnkclonjcoaaDoorM12
import Derived.Deep.Slices
import Derived.Deep.Fields
import Derived.ChangeSame
import Derived.Test.YtajnnkclonjcoaaDoorM6
import Derived.LaidSub
import Derived.MakeChecks
import Derived.Lib.LaidTab
namespace Go.Proofs.YtajnnkclonjcoaaDoor.RowOpen
open Go.ChangeShapes Go.WideShapes Go.ChangeAt Go.RowKit Go.Deep Val Go.Proofs.YtajnnkclonjcoaaDoor.Code
set_option linter.unusedVariables false
section
variable {H : Type} {enc : TypeId × Value → H} {P : Program} {w : World} {base : Nat} {spare : Nat → Bool} {held : Bool}
theorem fits_of_wf {n : Int} (h : (Lit.int .i64 n).wf = true) : -9223372036854775808 ≤ n ∧ n ≤ 9223372036854775807 := by
  simpa [Lit.wf, IntKind.min, IntKind.max, IntKind.signed, IntKind.bits] using h
theorem weightsAll_mem {e : TypeId} {d : DataW H} {n : Nat} (hn : n ∈ d.weights P e) : ∀ {l : List (DataW H)}, d ∈ l → n ∈ DataW.weightsAll P e l
  | [], h => by cases h
  | x :: l, h => by
    rw [DataW.weightsAll, List.mem_append]
    rcases List.mem_cons.1 h with rfl | h
    · exact .inl hn
    · exact .inr (weightsAll_mem hn h)
/-- one value of three parts -/
theorem open_part {e : TypeId} {f0 f1 f2 : Field} {n : Nat} {cs : List Value} {x : DataW H × List MemPlace} (he : P.underlying e = some (.struct #[f0, f1, f2])) (hone : oneCellFields P #[f0, f1, f2] = true)
    (e0 : P.underlying f0.type = some (.int .i64)) (e1 : P.underlying f1.type = some (.int .i64)) (e2 : P.underlying f2.type = some .string) (hlen : cs.length = 3) (h : DataW.trod enc P w base spare held n e cs = some x) :
    ∃ (v : Int × Int × ByteArray), cs = [.int .i64 v.1, .int .i64 v.2.1, .string v.2.2] ∧ x.1 = .agg [.lit (.int .i64 v.1), .lit (.int .i64 v.2.1), .lit (.string v.2.2.data.toList)] ∧ (Lit.int .i64 v.2.1).wf = true := by
  obtain ⟨ys, n', hn', hy, hl3, hyl, hf⟩ := DataW.trod_struct he h
  match cs, hlen with
  | [c0, c1, c2], _ =>
    have o := fun j f (hj : (#[f0, f1, f2] : Array Field)[j]? = some f) => hone_of hone j f hj
    obtain ⟨o0, k0⟩ := o 0 f0 rfl
    obtain ⟨o1, k1⟩ := o 1 f1 rfl
    obtain ⟨o2, k2⟩ := o 2 f2 rfl
    match ys, hyl with
    | [y0, y1, y2], _ =>
      have g0 := hf 0 f0 rfl
      have g1 := hf 1 f1 rfl
      have g2 := hf 2 f2 rfl
      rw [o0, k0] at g0
      rw [o1, k1] at g1
      rw [o2, k2] at g2
      obtain ⟨a, ea, xa, wa⟩ := DataW.trod_int e0 (show DataW.trod enc P w base spare held n' f0.type [c0] = some y0 from g0)
      obtain ⟨b, eb, xb, wb⟩ := DataW.trod_int e1 (show DataW.trod enc P w base spare held n' f1.type [c1] = some y1 from g1)
      obtain ⟨s, es, xs, ws⟩ := DataW.trod_string e2 (show DataW.trod enc P w base spare held n' f2.type [c2] = some y2 from g2)
      simp only [List.cons.injEq, and_true] at ea eb es
      refine ⟨(a, b, s), by rw [ea, eb, es], ?_, wb⟩
      rw [hy]
      show DataW.agg [y0.1, y1.1, y2.1] = _
      rw [xa, xb, xs]
theorem cell_add {a : Addr} {i j : Nat} : a.add (i * 3 + (j + 1)) = ⟨(a.add (i * 3)).block, (a.add (i * 3)).off + (j + 1), none⟩ := add_next a (i * 3) j
/-- what is known of a list of values that came in -/
def RowIn (w : World) (A : Option Addr) (l : List (Int × Int × ByteArray)) : Prop := Vals w w.heap.size A l ∧ FitL l ∧ Short l ∧ l.length ≤ 4398046511104
theorem open_row {t e : TypeId} {f0 f1 f2 : Field} {fuel : Nat} {cs : List Value} {d : DataW H} {p : List MemPlace} (ht : P.underlying t = some (.slice e)) (he : P.underlying e = some (.struct #[f0, f1, f2])) (hone : oneCellFields P #[f0, f1, f2] = true) (hC : P.cellsOf e = 3)
    (e0 : P.underlying f0.type = some (.int .i64)) (e1 : P.underlying f1.type = some (.int .i64)) (e2 : P.underlying f2.type = some .string) (hf : DataW.trod enc P w base spare held fuel t cs = some (d, p)) (hw : (d.weights P t).all (· ≤ reachBytes) = true) (hbytes : P.bytesOf e = 32) :
    ∃ (A : Option Addr) (cap : Nat) (l : List (Int × Int × ByteArray)), cs = [.slice A l.length cap] ∧ RowIn w A l ∧ (l = [] ∨ ∃ elems sp, d = .slice elems sp ∧ elems.length = l.length) := by
  rcases open_slice ht hf with ⟨h0, hx⟩ | ⟨a, len, cap, m, n, D, Pl, hcs, hb, hl, hm, hmm, hx, hi⟩
  · exact ⟨none, 0, [], h0, ⟨fun i hi => absurd hi (Nat.not_lt_zero _), fun x hx => (by cases hx), fun x hx => (by cases hx), Nat.zero_le _⟩, .inl rfl⟩
  · have hlm : len ≤ m := by rw [hmm]; split <;> omega
    rw [hC] at hi
    obtain ⟨V, hV⟩ := choose_lt (α := Int × Int × ByteArray) (n := len) (p := fun i x => w.cell? (a.add (i * 3)) = some (.int .i64 x.1) ∧ w.cell? (a.add (i * 3 + 1)) = some (.int .i64 x.2.1) ∧ w.cell? (a.add (i * 3 + 2)) = some (.string x.2.2) ∧ (Lit.int .i64 x.2.1).wf = true ∧ D i = .agg [.lit (.int .i64 x.1), .lit (.int .i64 x.2.1), .lit (.string x.2.2.data.toList)]) (fun i hil => by
      obtain ⟨cs', hc, ht'⟩ := hi i (by omega)
      obtain ⟨_, hcl, hat⟩ := World.cells?_some hc
      obtain ⟨x, hx1, hx2, hx3⟩ := open_part he hone e0 e1 e2 hcl ht'
      have c0 := hat 0 (by omega)
      have c1 := hat 1 (by omega)
      have c2 := hat 2 (by omega)
      rw [Go.Deep.add_add, hx1] at c0 c1 c2
      exact ⟨x, c0, c1, c2, hx3, hx2⟩)
    have hd : d = .slice ((List.range len).map D) ((List.range (m - len)).map fun j => D (len + j)) := congrArg Prod.fst hx
    have hl2 : ((List.range len).map V).length = len := by simp
    have hat : ∀ (i : Nat) (hi : i < ((List.range len).map V).length), ((List.range len).map V)[i] = V i := fun i hi => by simp
    rw [List.all_eq_true] at hw
    refine ⟨some a, cap, (List.range len).map V, by rw [hl2]; exact hcs, ⟨?_, ?_, ?_, ?_⟩, .inr ⟨_, _, hd, by simp⟩⟩
    · intro i hil
      rw [hat i hil]
      rw [hl2] at hil
      obtain ⟨c0, c1, c2, _⟩ := hV i hil
      have hblk := World.block_lt_of_cell? _ _ c0
      rw [add_block] at hblk
      refine ⟨a, rfl, hblk, c0, ?_, ?_⟩
      · rw [← cell_add (j := 0)]; exact c1
      · rw [← cell_add (j := 1)]; exact c2
    · intro x hx
      obtain ⟨i, hil, rfl⟩ := List.mem_map.1 hx
      have := (hV i (List.mem_range.1 hil)).2.2.2.1
      exact fits_of_wf this
    · intro x hx
      obtain ⟨i, hil, rfl⟩ := List.mem_map.1 hx
      have h5 := (hV i (List.mem_range.1 hil)).2.2.2.2
      have hmem : (V i).2.2.data.toList.length ∈ d.weights P t := by
        rw [hd, DataW.weights, ht]
        refine List.mem_cons_of_mem _ (List.mem_append_left _ (weightsAll_mem (d := D i) ?_ (List.mem_map.2 ⟨i, hil, rfl⟩)))
        rw [h5, DataW.weights, he]
        simp [DataW.weightsEach, DataW.weights]
      have := hw _ hmem
      rw [decide_eq_true_iff, show reachBytes = 140737488351232 by decide] at this
      exact Nat.le_trans this (by decide)
    · have hmem : (((List.range len).map D).length + ((List.range (m - len)).map fun j => D (len + j)).length) * P.bytesOf e ∈ d.weights P t := by
        rw [hd, DataW.weights, ht]
        exact List.mem_cons_self
      have := hw _ hmem
      rw [hbytes] at this
      rw [decide_eq_true_iff, show reachBytes = 140737488351232 by decide] at this
      simp only [List.length_map, List.length_range] at this
      rw [hl2]
      omega
theorem open_rowv {r : Reach} {b0 : Nat} {t e : TypeId} {f0 f1 f2 : Field} {v : Value} {d : DataW H} {p : List MemPlace} (ht : P.underlying t = some (.slice e)) (he : P.underlying e = some (.struct #[f0, f1, f2])) (hone : oneCellFields P #[f0, f1, f2] = true) (hC : P.cellsOf e = 3)
    (e0 : P.underlying f0.type = some (.int .i64)) (e1 : P.underlying f1.type = some (.int .i64)) (e2 : P.underlying f2.type = some .string) (hv : Value.okWide P w r b0 t v) (h : DataW.Trod enc P w base spare held t v d p) (hw : (d.weights P t).all (· ≤ reachBytes) = true) (hbytes : P.bytesOf e = 32) :
    ∃ (A : Option Addr) (cap : Nat) (l : List (Int × Int × ByteArray)), v = .slice A l.length cap ∧ RowIn w A l ∧ (l = [] ∨ ∃ elems sp, d = .slice elems sp ∧ elems.length = l.length) := by
  obtain ⟨a', len', cap', rfl⟩ := okWide_slice ht hv
  obtain ⟨fuel, hf⟩ := h
  obtain ⟨A, cap, l, h1, h2, h3⟩ := open_row ht he hone hC e0 e1 e2 hf hw hbytes
  exact ⟨A, cap, l, by simpa [Value.cells] using h1, h2, h3⟩
/-- numbers that came in -/
theorem open_ints {r : Reach} {b0 : Nat} {t e : TypeId} {v : Value} {d : DataW H} {p : List MemPlace} (ht : P.underlying t = some (.slice e)) (he : P.underlying e = some (.int .i64)) (hC : P.cellsOf e = 1) (hv : Value.okWide P w r b0 t v) (h : DataW.Trod enc P w base spare held t v d p) (hw : (d.weights P t).all (· ≤ reachBytes) = true) (hbytes : P.bytesOf e = 8) :
    ∃ (A : Option Addr) (cap : Nat) (l : List Int), v = .slice A l.length cap ∧ (Ints w w.heap.size A l ∧ l.length ≤ 17592186044416) ∧ (l = [] ∨ ∃ elems sp, d = .slice elems sp ∧ elems.length = l.length) := by
  obtain ⟨a', len', cap', rfl⟩ := okWide_slice ht hv
  obtain ⟨fuel, hf⟩ := h
  rcases open_slice1 ht hC hf with ⟨h0, hx⟩ | ⟨a, len, cap, m, n, V, D, Pl, hcs, hb, hl, hm, hmm, hx, hi⟩
  · have ev : Value.slice a' len' cap' = .slice none 0 0 := by simpa [Value.cells] using h0
    rw [ev]
    exact ⟨none, 0, [], rfl, ⟨fun i hi => absurd hi (Nat.not_lt_zero _), Nat.zero_le _⟩, .inl rfl⟩
  · have ev : Value.slice a' len' cap' = .slice (some a) len cap := by simpa [Value.cells] using hcs
    rw [ev]
    have hlm : len ≤ m := by rw [hmm]; split <;> omega
    obtain ⟨Z, hZ⟩ := choose_lt (α := Int) (n := len) (p := fun i x => w.cell? (a.add i) = some (.int .i64 x)) (fun i hil => by
      obtain ⟨hc, ht'⟩ := hi i (by omega)
      obtain ⟨z, hz, _, _⟩ := DataW.trod_int he ht'
      simp only [List.cons.injEq, and_true] at hz
      exact ⟨z, by rw [hc, hz]⟩)
    have hd : d = .slice ((List.range len).map D) ((List.range (m - len)).map fun j => D (len + j)) := congrArg Prod.fst hx
    have hl2 : ((List.range len).map Z).length = len := by simp
    rw [List.all_eq_true] at hw
    refine ⟨some a, cap, (List.range len).map Z, by rw [hl2], ⟨?_, ?_⟩, .inr ⟨_, _, hd, by simp⟩⟩
    · intro i hil
      have hil2 : i < len := by rwa [hl2] at hil
      have c0 := hZ i hil2
      have hblk := World.block_lt_of_cell? _ _ c0
      rw [add_block] at hblk
      exact ⟨a, rfl, hblk, by simpa using c0⟩
    · have hmem : (((List.range len).map D).length + ((List.range (m - len)).map fun j => D (len + j)).length) * P.bytesOf e ∈ d.weights P t := by
        rw [hd, DataW.weights, ht]
        exact List.mem_cons_self
      have := hw _ hmem
      rw [hbytes] at this
      rw [decide_eq_true_iff, show reachBytes = 140737488351232 by decide] at this
      simp only [List.length_map, List.length_range] at this
      rw [hl2]
      omega
/-- rows that came in -/
theorem open_rows {r : Reach} {b0 : Nat} {T t e : TypeId} {f0 f1 f2 : Field} {v : Value} {d : DataW H} {p : List MemPlace} (hT : P.underlying T = some (.slice t)) (hCt : P.cellsOf t = 1) (ht : P.underlying t = some (.slice e)) (he : P.underlying e = some (.struct #[f0, f1, f2])) (hone : oneCellFields P #[f0, f1, f2] = true) (hC : P.cellsOf e = 3)
    (e0 : P.underlying f0.type = some (.int .i64)) (e1 : P.underlying f1.type = some (.int .i64)) (e2 : P.underlying f2.type = some .string) (hv : Value.okWide P w r b0 T v) (h : DataW.Trod enc P w base spare held T v d p) (hw : (d.weights P T).all (· ≤ reachBytes) = true) (hbytes : P.bytesOf e = 32) (hbt : P.bytesOf t = 24) :
    ∃ (A : Option Addr) (cap : Nat) (L : List (Option Addr × Nat × List (Int × Int × ByteArray))), v = .slice A L.length cap ∧ (RowsAt w w.heap.size A L ∧ (∀ x ∈ L, RowIn w x.1 x.2.2) ∧ L.length ≤ 5864062014806) ∧ (L = [] ∨ ∃ elems sp, d = .slice elems sp ∧ elems.length = L.length) := by
  obtain ⟨a', len', cap', rfl⟩ := okWide_slice hT hv
  obtain ⟨fuel, hf⟩ := h
  rcases open_slice1 hT hCt hf with ⟨h0, hx⟩ | ⟨a, len, cap, m, n, V, D, Pl, hcs, hb, hl, hm, hmm, hx, hi⟩
  · have ev : Value.slice a' len' cap' = .slice none 0 0 := by simpa [Value.cells] using h0
    rw [ev]
    exact ⟨none, 0, [], rfl, ⟨fun i hi => absurd hi (Nat.not_lt_zero _), fun x hx => (by cases hx), Nat.zero_le _⟩, .inl rfl⟩
  · have ev : Value.slice a' len' cap' = .slice (some a) len cap := by simpa [Value.cells] using hcs
    rw [ev]
    have hlm : len ≤ m := by rw [hmm]; split <;> omega
    have hd : d = .slice ((List.range len).map D) ((List.range (m - len)).map fun j => D (len + j)) := congrArg Prod.fst hx
    rw [List.all_eq_true] at hw
    obtain ⟨Z, hZ⟩ := choose_lt (α := Option Addr × Nat × List (Int × Int × ByteArray)) (n := len) (p := fun i x => w.cell? (a.add i) = some (.slice x.1 x.2.2.length x.2.1) ∧ RowIn w x.1 x.2.2) (fun i hil => by
      obtain ⟨hc, ht'⟩ := hi i (by omega)
      have hwi : ((D i).weights P t).all (· ≤ reachBytes) = true := by
        rw [List.all_eq_true]
        intro y hy
        refine hw y ?_
        rw [hd, DataW.weights, hT]
        exact List.mem_cons_of_mem _ (List.mem_append_left _ (weightsAll_mem (d := D i) hy (List.mem_map.2 ⟨i, List.mem_range.2 hil, rfl⟩)))
      obtain ⟨A, c, l, hz, hr, _⟩ := open_row ht he hone hC e0 e1 e2 ht' hwi hbytes
      simp only [List.cons.injEq, and_true] at hz
      exact ⟨(A, c, l), by rw [hc, hz], hr⟩)
    have hl2 : ((List.range len).map Z).length = len := by simp
    refine ⟨some a, cap, (List.range len).map Z, by rw [hl2], ⟨?_, ?_, ?_⟩, .inr ⟨_, _, hd, by simp⟩⟩
    · intro i hil
      have hil2 : i < len := by rwa [hl2] at hil
      obtain ⟨c0, hr⟩ := hZ i hil2
      have hblk := World.block_lt_of_cell? _ _ c0
      rw [add_block] at hblk
      have hat : ((List.range len).map Z)[i] = Z i := by simp
      rw [hat]
      exact ⟨⟨a, rfl, hblk, c0⟩, hr.1⟩
    · intro x hx
      obtain ⟨i, hil, rfl⟩ := List.mem_map.1 hx
      exact (hZ i (List.mem_range.1 hil)).2
    · have hmem : (((List.range len).map D).length + ((List.range (m - len)).map fun j => D (len + j)).length) * P.bytesOf t ∈ d.weights P T := by
        rw [hd, DataW.weights, hT]
        exact List.mem_cons_self
      have := hw _ hmem
      rw [hbt] at this
      rw [decide_eq_true_iff, show reachBytes = 140737488351232 by decide] at this
      simp only [List.length_map, List.length_range] at this
      rw [hl2]
      omega
end
end Go.Proofs.YtajnnkclonjcoaaDoor.RowOpen
/-
  What the row lists of the library's tables.
-/
namespace Go.Proofs.YtajnnkclonjcoaaDoor.RowOpen
open Go.ChangeShapes Go.WideShapes Go.ChangeAt Go.RowKit Go.Deep Val Go.Proofs.YtajnnkclonjcoaaDoor.Code
set_option linter.unusedVariables false
end Go.Proofs.YtajnnkclonjcoaaDoor.RowOpen
/-
  A list of words that came in, opened. No function is named.
-/
namespace Go.Proofs.YtajnnkclonjcoaaDoor.RowOpen
open Go.ChangeShapes Go.WideShapes Go.ChangeAt Go.RowKit Go.Deep Val Elems Go.Proofs.YtajnnkclonjcoaaDoor.Code
set_option linter.unusedVariables false
section
variable {H : Type} {enc : TypeId × Value → H} {P : Program} {w : World} {base : Nat} {spare : Nat → Bool} {held : Bool}
/-- one word of three parts -/
theorem open_wpart {e : TypeId} {f0 f1 f2 : Field} {n : Nat} {cs : List Value} {x : DataW H × List MemPlace} (he : P.underlying e = some (.struct #[f0, f1, f2])) (hone : oneCellFields P #[f0, f1, f2] = true)
    (e0 : P.underlying f0.type = some (.int .i64)) (e1 : P.underlying f1.type = some .string) (e2 : P.underlying f2.type = some (.int .i64)) (hlen : cs.length = 3) (h : DataW.trod enc P w base spare held n e cs = some x) :
    ∃ (v : Int × ByteArray × Int), cs = [.int .i64 v.1, .string v.2.1, .int .i64 v.2.2] ∧ x.1 = .agg [.lit (.int .i64 v.1), .lit (.string v.2.1.data.toList), .lit (.int .i64 v.2.2)] := by
  obtain ⟨ys, n', hn', hy, hl3, hyl, hf⟩ := DataW.trod_struct he h
  match cs, hlen with
  | [c0, c1, c2], _ =>
    have o := fun j f (hj : (#[f0, f1, f2] : Array Field)[j]? = some f) => hone_of hone j f hj
    obtain ⟨o0, k0⟩ := o 0 f0 rfl
    obtain ⟨o1, k1⟩ := o 1 f1 rfl
    obtain ⟨o2, k2⟩ := o 2 f2 rfl
    match ys, hyl with
    | [y0, y1, y2], _ =>
      have g0 := hf 0 f0 rfl
      have g1 := hf 1 f1 rfl
      have g2 := hf 2 f2 rfl
      rw [o0, k0] at g0
      rw [o1, k1] at g1
      rw [o2, k2] at g2
      obtain ⟨a, ea, xa, wa⟩ := DataW.trod_int e0 (show DataW.trod enc P w base spare held n' f0.type [c0] = some y0 from g0)
      obtain ⟨s, es, xs, ws⟩ := DataW.trod_string e1 (show DataW.trod enc P w base spare held n' f1.type [c1] = some y1 from g1)
      obtain ⟨b, eb, xb, wb⟩ := DataW.trod_int e2 (show DataW.trod enc P w base spare held n' f2.type [c2] = some y2 from g2)
      simp only [List.cons.injEq, and_true] at ea eb es
      refine ⟨(a, s, b), by rw [ea, eb, es], ?_⟩
      rw [hy]
      show DataW.agg [y0.1, y1.1, y2.1] = _
      rw [xa, xb, xs]
theorem open_wordsC {r : Reach} {b0 : Nat} {t e : TypeId} {f0 f1 f2 : Field} {v : Value} {d : DataW H} {p : List MemPlace} (ht : P.underlying t = some (.slice e)) (he : P.underlying e = some (.struct #[f0, f1, f2])) (hone : oneCellFields P #[f0, f1, f2] = true) (hC : P.cellsOf e = 3)
    (e0 : P.underlying f0.type = some (.int .i64)) (e1 : P.underlying f1.type = some .string) (e2 : P.underlying f2.type = some (.int .i64)) (hv : Value.okWide P w r b0 t v) (h : DataW.Trod enc P w base spare held t v d p) (hw : (d.weights P t).all (· ≤ reachBytes) = true) (hbytes : P.bytesOf e = 32) :
    ∃ (A : Option Addr) (cap : Nat) (l : List W), v = .slice A l.length cap ∧ At wc 3 w w.heap.size A l ∧ (∀ x ∈ l, x.2.1.length ≤ 140737488355328) ∧ l.length ≤ 4398046511104 ∧ l.length ≤ cap := by
  obtain ⟨a', len', cap', rfl⟩ := okWide_slice ht hv
  obtain ⟨fuel, hf⟩ := h
  rcases open_slice ht hf with ⟨h0, hx⟩ | ⟨a, len, cap, m, n, D, Pl, hcs, hb, hl, hm, hmm, hx, hi⟩
  · have ev : Value.slice a' len' cap' = .slice none 0 0 := by simpa [Value.cells] using h0
    rw [ev]
    exact ⟨none, 0, [], rfl, At.nil _ _ _, fun x hx => (by cases hx), Nat.zero_le _, Nat.zero_le _⟩
  · have ev : Value.slice a' len' cap' = .slice (some a) len cap := by simpa [Value.cells] using hcs
    rw [ev]
    have hlm : len ≤ m := by rw [hmm]; split <;> omega
    rw [hC] at hi
    obtain ⟨V, hV⟩ := choose_lt (α := W) (n := len) (p := fun i x => w.cell? (a.add (i * 3)) = some (.int .i64 x.1) ∧ w.cell? (a.add (i * 3 + 1)) = some (.string ⟨x.2.1.toArray⟩) ∧ w.cell? (a.add (i * 3 + 2)) = some (.int .i64 x.2.2) ∧ D i = .agg [.lit (.int .i64 x.1), .lit (.string x.2.1), .lit (.int .i64 x.2.2)]) (fun i hil => by
      obtain ⟨cs', hc, ht'⟩ := hi i (by omega)
      obtain ⟨_, hcl, hat⟩ := World.cells?_some hc
      obtain ⟨x, hx1, hx2⟩ := open_wpart he hone e0 e1 e2 hcl ht'
      have c0 := hat 0 (by omega)
      have c1 := hat 1 (by omega)
      have c2 := hat 2 (by omega)
      rw [Go.Deep.add_add, hx1] at c0 c1 c2
      exact ⟨(x.1, x.2.1.data.toList, x.2.2), c0, by rw [Lib.mk_data]; exact c1, c2, hx2⟩)
    have hd : d = .slice ((List.range len).map D) ((List.range (m - len)).map fun j => D (len + j)) := congrArg Prod.fst hx
    have hl2 : ((List.range len).map V).length = len := by simp
    have hat : ∀ (i : Nat) (hi : i < ((List.range len).map V).length), ((List.range len).map V)[i] = V i := fun i hi => by simp
    rw [List.all_eq_true] at hw
    refine ⟨some a, cap, (List.range len).map V, by rw [hl2], ?_, ?_, ?_, by rw [hl2]; exact hl⟩
    · intro i hil
      rw [hat i hil]
      rw [hl2] at hil
      obtain ⟨c0, c1, c2, _⟩ := hV i hil
      have hblk := World.block_lt_of_cell? _ _ c0
      rw [add_block] at hblk
      refine ⟨a, rfl, hblk, fun j u hu => ?_⟩
      rcases j with _ | _ | _ | j
      · cases hu; exact c0
      · cases hu; exact c1
      · cases hu; exact c2
      · exact absurd (List.getElem?_eq_some_iff.1 hu).1 (by show ¬ j + 3 < 3; omega)
    · intro x hx
      obtain ⟨i, hil, rfl⟩ := List.mem_map.1 hx
      have h5 := (hV i (List.mem_range.1 hil)).2.2.2
      have hmem : (V i).2.1.length ∈ d.weights P t := by
        rw [hd, DataW.weights, ht]
        refine List.mem_cons_of_mem _ (List.mem_append_left _ (weightsAll_mem (d := D i) ?_ (List.mem_map.2 ⟨i, hil, rfl⟩)))
        rw [h5, DataW.weights, he]
        simp [DataW.weightsEach, DataW.weights]
      have := hw _ hmem
      rw [decide_eq_true_iff, show reachBytes = 140737488351232 by decide] at this
      exact Nat.le_trans this (by decide)
    · have hmem : (((List.range len).map D).length + ((List.range (m - len)).map fun j => D (len + j)).length) * P.bytesOf e ∈ d.weights P t := by
        rw [hd, DataW.weights, ht]
        exact List.mem_cons_self
      have := hw _ hmem
      rw [hbytes] at this
      rw [decide_eq_true_iff, show reachBytes = 140737488351232 by decide] at this
      simp only [List.length_map, List.length_range] at this
      rw [hl2]
      omega
theorem open_words {r : Reach} {b0 : Nat} {t e : TypeId} {f0 f1 f2 : Field} {v : Value} {d : DataW H} {p : List MemPlace} (ht : P.underlying t = some (.slice e)) (he : P.underlying e = some (.struct #[f0, f1, f2])) (hone : oneCellFields P #[f0, f1, f2] = true) (hC : P.cellsOf e = 3)
    (e0 : P.underlying f0.type = some (.int .i64)) (e1 : P.underlying f1.type = some .string) (e2 : P.underlying f2.type = some (.int .i64)) (hv : Value.okWide P w r b0 t v) (h : DataW.Trod enc P w base spare held t v d p) (hw : (d.weights P t).all (· ≤ reachBytes) = true) (hbytes : P.bytesOf e = 32) :
    ∃ (A : Option Addr) (cap : Nat) (l : List W), v = .slice A l.length cap ∧ At wc 3 w w.heap.size A l ∧ (∀ x ∈ l, x.2.1.length ≤ 140737488355328) ∧ l.length ≤ 4398046511104 := by
  obtain ⟨A, cap, l, h1, h2, h3, h4, _⟩ := open_wordsC ht he hone hC e0 e1 e2 hv h hw hbytes
  exact ⟨A, cap, l, h1, h2, h3, h4⟩
end
end Go.Proofs.YtajnnkclonjcoaaDoor.RowOpen
/-
  A column that came in, opened. No function is named.
-/
namespace Go.Proofs.YtajnnkclonjcoaaDoor.Law
open Go.Joins Go.ChangeShapes Go.WideShapes Go.WideElems Go.RowKit Go.Deep
set_option linter.unusedVariables false
section
variable {H : Type} {enc : TypeId × Value → H} {P : Program} {w : World} {base : Nat} {spare : Nat → Bool} {held : Bool}
theorem open_col {r : Reach} {b0 : Nat} {t : TypeId} {f0 f1 f2 : Field} {v : Value} {d : DataW H} {p : List MemPlace} (hs : P.underlying t = some (.struct #[f0, f1, f2])) (hone : oneCellFields P #[f0, f1, f2] = true) (hC : P.cellsOf t = 3)
    (e0 : P.underlying f0.type = some (.int .i64)) (e1 : P.underlying f1.type = some .string) (e2 : P.underlying f2.type = some (.int .i64)) (hv : Value.okWide P w r b0 t v) (h : DataW.Trod enc P w base spare held t v d p) :
    ∃ (a : Int) (s : ByteArray) (b : Int), v = .agg #[.int .i64 a, .string s, .int .i64 b] ∧ (Lit.int .i64 a).wf = true ∧ s.size ≤ maxLen ∧ (Lit.int .i64 b).wf = true := by
  obtain ⟨v0, v1, v2, y0, y1, y2, n, rfl, _, _, g0, g1, g2⟩ := open_agg3 hs hone hC hv h
  obtain ⟨a, ea, _, wa⟩ := DataW.trod_int e0 g0
  obtain ⟨s, es, _, ws⟩ := DataW.trod_string e1 g1
  obtain ⟨b, eb, _, wb⟩ := DataW.trod_int e2 g2
  simp only [List.cons.injEq, and_true] at ea eb es
  exact ⟨a, s, b, by rw [ea, eb, es], wa, ws, wb⟩
end
end Go.Proofs.YtajnnkclonjcoaaDoor.Law
