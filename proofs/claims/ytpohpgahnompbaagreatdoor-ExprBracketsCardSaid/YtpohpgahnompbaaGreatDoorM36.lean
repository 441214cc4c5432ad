/-
  Arguments that came in, opened: a list of values (a row), of numbers, of rows. No function is named.
-/
import Derived.Test.YtpohpgahnompbaaGreatDoorM9
import Derived.Test.YtpohpgahnompbaaGreatDoorM35
import Derived.Deep.Slices
import Derived.Deep.Fields
import Derived.ChangeSame
import Derived.Test.YtpohpgahnompbaaGreatDoorM11
import Derived.LaidSub
import Derived.MakeChecks
import Derived.Lib.LaidTab
import Derived.Test.YtpohpgahnompbaaGreatDoorM22
import Derived.Stop.LaidErr
namespace Go.Proofs.YtpohpgahnompbaaGreatDoor.RowOpen
open Go.ChangeShapes Go.WideShapes Go.ChangeAt Go.RowKit Go.Deep Val Go.Proofs.YtpohpgahnompbaaGreatDoor.Code
set_option linter.unusedVariables false
section
variable {H : Type} {enc : TypeId × Value → H} {P : Program} {w : World} {base : Nat} {spare : Nat → Bool} {held : Bool}
theorem fits_of_wf {n : Int} (h : (Lit.int .i64 n).wf = true) : -9223372036854775808 ≤ n ∧ n ≤ 9223372036854775807 := by
  simpa [Lit.wf, IntKind.min, IntKind.max, IntKind.signed, IntKind.bits] using h
theorem weightsAll_mem {e : TypeId} {d : DataW H} {n : Nat} (hn : n ∈ d.weights P e) : ∀ {l : List (DataW H)}, d ∈ l → n ∈ DataW.weightsAll P e l
  | [], h => by cases h
  | x :: l, h => by
    rw [DataW.weightsAll, List.mem_append]
    rcases List.mem_cons.1 h with rfl | h
    · exact .inl hn
    · exact .inr (weightsAll_mem hn h)
/-- one value of three parts -/
theorem open_part {e : TypeId} {f0 f1 f2 : Field} {n : Nat} {cs : List Value} {x : DataW H × List MemPlace} (he : P.underlying e = some (.struct #[f0, f1, f2])) (hone : oneCellFields P #[f0, f1, f2] = true)
    (e0 : P.underlying f0.type = some (.int .i64)) (e1 : P.underlying f1.type = some (.int .i64)) (e2 : P.underlying f2.type = some .string) (hlen : cs.length = 3) (h : DataW.trod enc P w base spare held n e cs = some x) :
    ∃ (v : Int × Int × ByteArray), cs = [.int .i64 v.1, .int .i64 v.2.1, .string v.2.2] ∧ x.1 = .agg [.lit (.int .i64 v.1), .lit (.int .i64 v.2.1), .lit (.string v.2.2.data.toList)] ∧ (Lit.int .i64 v.2.1).wf = true := by
  obtain ⟨ys, n', hn', hy, hl3, hyl, hf⟩ := DataW.trod_struct he h
  match cs, hlen with
  | [c0, c1, c2], _ =>
    have o := fun j f (hj : (#[f0, f1, f2] : Array Field)[j]? = some f) => hone_of hone j f hj
    obtain ⟨o0, k0⟩ := o 0 f0 rfl
    obtain ⟨o1, k1⟩ := o 1 f1 rfl
    obtain ⟨o2, k2⟩ := o 2 f2 rfl
    match ys, hyl with
    | [y0, y1, y2], _ =>
      have g0 := hf 0 f0 rfl
      have g1 := hf 1 f1 rfl
      have g2 := hf 2 f2 rfl
      rw [o0, k0] at g0
      rw [o1, k1] at g1
      rw [o2, k2] at g2
      obtain ⟨a, ea, xa, wa⟩ := DataW.trod_int e0 (show DataW.trod enc P w base spare held n' f0.type [c0] = some y0 from g0)
      obtain ⟨b, eb, xb, wb⟩ := DataW.trod_int e1 (show DataW.trod enc P w base spare held n' f1.type [c1] = some y1 from g1)
      obtain ⟨s, es, xs, ws⟩ := DataW.trod_string e2 (show DataW.trod enc P w base spare held n' f2.type [c2] = some y2 from g2)
      simp only [List.cons.injEq, and_true] at ea eb es
      refine ⟨(a, b, s), by rw [ea, eb, es], ?_, wb⟩
      rw [hy]
      show DataW.agg [y0.1, y1.1, y2.1] = _
      rw [xa, xb, xs]
theorem cell_add {a : Addr} {i j : Nat} : a.add (i * 3 + (j + 1)) = ⟨(a.add (i * 3)).block, (a.add (i * 3)).off + (j + 1), none⟩ := add_next a (i * 3) j
/-- what is known of a list of values that came in -/
def RowIn (w : World) (A : Option Addr) (l : List (Int × Int × ByteArray)) : Prop := Vals w w.heap.size A l ∧ FitL l ∧ Short l ∧ l.length ≤ 4398046511104
theorem open_row {t e : TypeId} {f0 f1 f2 : Field} {fuel : Nat} {cs : List Value} {d : DataW H} {p : List MemPlace} (ht : P.underlying t = some (.slice e)) (he : P.underlying e = some (.struct #[f0, f1, f2])) (hone : oneCellFields P #[f0, f1, f2] = true) (hC : P.cellsOf e = 3)
    (e0 : P.underlying f0.type = some (.int .i64)) (e1 : P.underlying f1.type = some (.int .i64)) (e2 : P.underlying f2.type = some .string) (hf : DataW.trod enc P w base spare held fuel t cs = some (d, p)) (hw : (d.weights P t).all (· ≤ reachBytes) = true) (hbytes : P.bytesOf e = 32) :
    ∃ (A : Option Addr) (cap : Nat) (l : List (Int × Int × ByteArray)), cs = [.slice A l.length cap] ∧ RowIn w A l ∧ (l = [] ∨ ∃ elems sp, d = .slice elems sp ∧ elems.length = l.length) := by
  rcases open_slice ht hf with ⟨h0, hx⟩ | ⟨a, len, cap, m, n, D, Pl, hcs, hb, hl, hm, hmm, hx, hi⟩
  · exact ⟨none, 0, [], h0, ⟨fun i hi => absurd hi (Nat.not_lt_zero _), fun x hx => (by cases hx), fun x hx => (by cases hx), Nat.zero_le _⟩, .inl rfl⟩
  · have hlm : len ≤ m := by rw [hmm]; split <;> omega
    rw [hC] at hi
    obtain ⟨V, hV⟩ := choose_lt (α := Int × Int × ByteArray) (n := len) (p := fun i x => w.cell? (a.add (i * 3)) = some (.int .i64 x.1) ∧ w.cell? (a.add (i * 3 + 1)) = some (.int .i64 x.2.1) ∧ w.cell? (a.add (i * 3 + 2)) = some (.string x.2.2) ∧ (Lit.int .i64 x.2.1).wf = true ∧ D i = .agg [.lit (.int .i64 x.1), .lit (.int .i64 x.2.1), .lit (.string x.2.2.data.toList)]) (fun i hil => by
      obtain ⟨cs', hc, ht'⟩ := hi i (by omega)
      obtain ⟨_, hcl, hat⟩ := World.cells?_some hc
      obtain ⟨x, hx1, hx2, hx3⟩ := open_part he hone e0 e1 e2 hcl ht'
      have c0 := hat 0 (by omega)
      have c1 := hat 1 (by omega)
      have c2 := hat 2 (by omega)
      rw [Go.Deep.add_add, hx1] at c0 c1 c2
      exact ⟨x, c0, c1, c2, hx3, hx2⟩)
    have hd : d = .slice ((List.range len).map D) ((List.range (m - len)).map fun j => D (len + j)) := congrArg Prod.fst hx
    have hl2 : ((List.range len).map V).length = len := by simp
    have hat : ∀ (i : Nat) (hi : i < ((List.range len).map V).length), ((List.range len).map V)[i] = V i := fun i hi => by simp
    rw [List.all_eq_true] at hw
    refine ⟨some a, cap, (List.range len).map V, by rw [hl2]; exact hcs, ⟨?_, ?_, ?_, ?_⟩, .inr ⟨_, _, hd, by simp⟩⟩
    · intro i hil
      rw [hat i hil]
      rw [hl2] at hil
      obtain ⟨c0, c1, c2, _⟩ := hV i hil
      have hblk := World.block_lt_of_cell? _ _ c0
      rw [add_block] at hblk
      refine ⟨a, rfl, hblk, c0, ?_, ?_⟩
      · rw [← cell_add (j := 0)]; exact c1
      · rw [← cell_add (j := 1)]; exact c2
    · intro x hx
      obtain ⟨i, hil, rfl⟩ := List.mem_map.1 hx
      have := (hV i (List.mem_range.1 hil)).2.2.2.1
      exact fits_of_wf this
    · intro x hx
      obtain ⟨i, hil, rfl⟩ := List.mem_map.1 hx
      have h5 := (hV i (List.mem_range.1 hil)).2.2.2.2
      have hmem : (V i).2.2.data.toList.length ∈ d.weights P t := by
        rw [hd, DataW.weights, ht]
        refine List.mem_cons_of_mem _ (List.mem_append_left _ (weightsAll_mem (d := D i) ?_ (List.mem_map.2 ⟨i, hil, rfl⟩)))
        rw [h5, DataW.weights, he]
        simp [DataW.weightsEach, DataW.weights]
      have := hw _ hmem
      rw [decide_eq_true_iff, show reachBytes = 140737488351232 by decide] at this
      exact Nat.le_trans this (by decide)
    · have hmem : (((List.range len).map D).length + ((List.range (m - len)).map fun j => D (len + j)).length) * P.bytesOf e ∈ d.weights P t := by
        rw [hd, DataW.weights, ht]
        exact List.mem_cons_self
      have := hw _ hmem
      rw [hbytes] at this
      rw [decide_eq_true_iff, show reachBytes = 140737488351232 by decide] at this
      simp only [List.length_map, List.length_range] at this
      rw [hl2]
      omega
theorem open_rowv {r : Reach} {b0 : Nat} {t e : TypeId} {f0 f1 f2 : Field} {v : Value} {d : DataW H} {p : List MemPlace} (ht : P.underlying t = some (.slice e)) (he : P.underlying e = some (.struct #[f0, f1, f2])) (hone : oneCellFields P #[f0, f1, f2] = true) (hC : P.cellsOf e = 3)
    (e0 : P.underlying f0.type = some (.int .i64)) (e1 : P.underlying f1.type = some (.int .i64)) (e2 : P.underlying f2.type = some .string) (hv : Value.okWide P w r b0 t v) (h : DataW.Trod enc P w base spare held t v d p) (hw : (d.weights P t).all (· ≤ reachBytes) = true) (hbytes : P.bytesOf e = 32) :
    ∃ (A : Option Addr) (cap : Nat) (l : List (Int × Int × ByteArray)), v = .slice A l.length cap ∧ RowIn w A l ∧ (l = [] ∨ ∃ elems sp, d = .slice elems sp ∧ elems.length = l.length) := by
  obtain ⟨a', len', cap', rfl⟩ := okWide_slice ht hv
  obtain ⟨fuel, hf⟩ := h
  obtain ⟨A, cap, l, h1, h2, h3⟩ := open_row ht he hone hC e0 e1 e2 hf hw hbytes
  exact ⟨A, cap, l, by simpa [Value.cells] using h1, h2, h3⟩
/-- numbers that came in -/
theorem open_ints {r : Reach} {b0 : Nat} {t e : TypeId} {v : Value} {d : DataW H} {p : List MemPlace} (ht : P.underlying t = some (.slice e)) (he : P.underlying e = some (.int .i64)) (hC : P.cellsOf e = 1) (hv : Value.okWide P w r b0 t v) (h : DataW.Trod enc P w base spare held t v d p) (hw : (d.weights P t).all (· ≤ reachBytes) = true) (hbytes : P.bytesOf e = 8) :
    ∃ (A : Option Addr) (cap : Nat) (l : List Int), v = .slice A l.length cap ∧ (Ints w w.heap.size A l ∧ l.length ≤ 17592186044416) ∧ (l = [] ∨ ∃ elems sp, d = .slice elems sp ∧ elems.length = l.length) := by
  obtain ⟨a', len', cap', rfl⟩ := okWide_slice ht hv
  obtain ⟨fuel, hf⟩ := h
  rcases open_slice1 ht hC hf with ⟨h0, hx⟩ | ⟨a, len, cap, m, n, V, D, Pl, hcs, hb, hl, hm, hmm, hx, hi⟩
  · have ev : Value.slice a' len' cap' = .slice none 0 0 := by simpa [Value.cells] using h0
    rw [ev]
    exact ⟨none, 0, [], rfl, ⟨fun i hi => absurd hi (Nat.not_lt_zero _), Nat.zero_le _⟩, .inl rfl⟩
  · have ev : Value.slice a' len' cap' = .slice (some a) len cap := by simpa [Value.cells] using hcs
    rw [ev]
    have hlm : len ≤ m := by rw [hmm]; split <;> omega
    obtain ⟨Z, hZ⟩ := choose_lt (α := Int) (n := len) (p := fun i x => w.cell? (a.add i) = some (.int .i64 x)) (fun i hil => by
      obtain ⟨hc, ht'⟩ := hi i (by omega)
      obtain ⟨z, hz, _, _⟩ := DataW.trod_int he ht'
      simp only [List.cons.injEq, and_true] at hz
      exact ⟨z, by rw [hc, hz]⟩)
    have hd : d = .slice ((List.range len).map D) ((List.range (m - len)).map fun j => D (len + j)) := congrArg Prod.fst hx
    have hl2 : ((List.range len).map Z).length = len := by simp
    rw [List.all_eq_true] at hw
    refine ⟨some a, cap, (List.range len).map Z, by rw [hl2], ⟨?_, ?_⟩, .inr ⟨_, _, hd, by simp⟩⟩
    · intro i hil
      have hil2 : i < len := by rwa [hl2] at hil
      have c0 := hZ i hil2
      have hblk := World.block_lt_of_cell? _ _ c0
      rw [add_block] at hblk
      exact ⟨a, rfl, hblk, by simpa using c0⟩
    · have hmem : (((List.range len).map D).length + ((List.range (m - len)).map fun j => D (len + j)).length) * P.bytesOf e ∈ d.weights P t := by
        rw [hd, DataW.weights, ht]
        exact List.mem_cons_self
      have := hw _ hmem
      rw [hbytes] at this
      rw [decide_eq_true_iff, show reachBytes = 140737488351232 by decide] at this
      simp only [List.length_map, List.length_range] at this
      rw [hl2]
      omega
/-- rows that came in -/
theorem open_rows {r : Reach} {b0 : Nat} {T t e : TypeId} {f0 f1 f2 : Field} {v : Value} {d : DataW H} {p : List MemPlace} (hT : P.underlying T = some (.slice t)) (hCt : P.cellsOf t = 1) (ht : P.underlying t = some (.slice e)) (he : P.underlying e = some (.struct #[f0, f1, f2])) (hone : oneCellFields P #[f0, f1, f2] = true) (hC : P.cellsOf e = 3)
    (e0 : P.underlying f0.type = some (.int .i64)) (e1 : P.underlying f1.type = some (.int .i64)) (e2 : P.underlying f2.type = some .string) (hv : Value.okWide P w r b0 T v) (h : DataW.Trod enc P w base spare held T v d p) (hw : (d.weights P T).all (· ≤ reachBytes) = true) (hbytes : P.bytesOf e = 32) (hbt : P.bytesOf t = 24) :
    ∃ (A : Option Addr) (cap : Nat) (L : List (Option Addr × Nat × List (Int × Int × ByteArray))), v = .slice A L.length cap ∧ (RowsAt w w.heap.size A L ∧ (∀ x ∈ L, RowIn w x.1 x.2.2) ∧ L.length ≤ 5864062014806) ∧ (L = [] ∨ ∃ elems sp, d = .slice elems sp ∧ elems.length = L.length) := by
  obtain ⟨a', len', cap', rfl⟩ := okWide_slice hT hv
  obtain ⟨fuel, hf⟩ := h
  rcases open_slice1 hT hCt hf with ⟨h0, hx⟩ | ⟨a, len, cap, m, n, V, D, Pl, hcs, hb, hl, hm, hmm, hx, hi⟩
  · have ev : Value.slice a' len' cap' = .slice none 0 0 := by simpa [Value.cells] using h0
    rw [ev]
    exact ⟨none, 0, [], rfl, ⟨fun i hi => absurd hi (Nat.not_lt_zero _), fun x hx => (by cases hx), Nat.zero_le _⟩, .inl rfl⟩
  · have ev : Value.slice a' len' cap' = .slice (some a) len cap := by simpa [Value.cells] using hcs
    rw [ev]
    have hlm : len ≤ m := by rw [hmm]; split <;> omega
    have hd : d = .slice ((List.range len).map D) ((List.range (m - len)).map fun j => D (len + j)) := congrArg Prod.fst hx
    rw [List.all_eq_true] at hw
    obtain ⟨Z, hZ⟩ := choose_lt (α := Option Addr × Nat × List (Int × Int × ByteArray)) (n := len) (p := fun i x => w.cell? (a.add i) = some (.slice x.1 x.2.2.length x.2.1) ∧ RowIn w x.1 x.2.2) (fun i hil => by
      obtain ⟨hc, ht'⟩ := hi i (by omega)
      have hwi : ((D i).weights P t).all (· ≤ reachBytes) = true := by
        rw [List.all_eq_true]
        intro y hy
        refine hw y ?_
        rw [hd, DataW.weights, hT]
        exact List.mem_cons_of_mem _ (List.mem_append_left _ (weightsAll_mem (d := D i) hy (List.mem_map.2 ⟨i, List.mem_range.2 hil, rfl⟩)))
      obtain ⟨A, c, l, hz, hr, _⟩ := open_row ht he hone hC e0 e1 e2 ht' hwi hbytes
      simp only [List.cons.injEq, and_true] at hz
      exact ⟨(A, c, l), by rw [hc, hz], hr⟩)
    have hl2 : ((List.range len).map Z).length = len := by simp
    refine ⟨some a, cap, (List.range len).map Z, by rw [hl2], ⟨?_, ?_, ?_⟩, .inr ⟨_, _, hd, by simp⟩⟩
    · intro i hil
      have hil2 : i < len := by rwa [hl2] at hil
      obtain ⟨c0, hr⟩ := hZ i hil2
      have hblk := World.block_lt_of_cell? _ _ c0
      rw [add_block] at hblk
      have hat : ((List.range len).map Z)[i] = Z i := by simp
      rw [hat]
      exact ⟨⟨a, rfl, hblk, c0⟩, hr.1⟩
    · intro x hx
      obtain ⟨i, hil, rfl⟩ := List.mem_map.1 hx
      exact (hZ i (List.mem_range.1 hil)).2
    · have hmem : (((List.range len).map D).length + ((List.range (m - len)).map fun j => D (len + j)).length) * P.bytesOf t ∈ d.weights P T := by
        rw [hd, DataW.weights, hT]
        exact List.mem_cons_self
      have := hw _ hmem
      rw [hbt] at this
      rw [decide_eq_true_iff, show reachBytes = 140737488351232 by decide] at this
      simp only [List.length_map, List.length_range] at this
      rw [hl2]
      omega
end
end Go.Proofs.YtpohpgahnompbaaGreatDoor.RowOpen

/-
  What the row lists of the library's tables.
-/
namespace Go.Proofs.YtpohpgahnompbaaGreatDoor.RowOpen
open Go.ChangeShapes Go.WideShapes Go.ChangeAt Go.RowKit Go.Deep Val Go.Proofs.YtpohpgahnompbaaGreatDoor.Code
set_option linter.unusedVariables false
/-- what a row that lists the table gives -/
theorem glob_of {laid : List (String × DataW Unit)} {d : DataW Unit} {m : Int} {W : World} (hL : laidMetH Tryz.prog laid W) (hp : (laid.all fun x => x.2.handleName?.isNone) = true) (hf : laid.filter (fun x => x.1 == "internal/strconv.uint64pow10") = [("internal/strconv.uint64pow10", d)]) (hd : d = Lib.tabData .u64 Lib.pow10Tab)
    (hm : W.cell? ⟨1, 0, none⟩ = some (.int .i64 m)) : Glob W.heap.size m W := by
  rw [Go.MakeChecks.laidMetH_plain _ _ _ hp] at hL
  have h := hL.filter (fun x => x.1 == "internal/strconv.uint64pow10")
  rw [hf, hd] at h
  have tab : Lib.TabIs Tryz.prog W "internal/strconv.uint64pow10" .u64 Lib.pow10Tab := by
    obtain ⟨n, t, e, h1, h2, h3, h4, h5⟩ : ∃ (n : Nat) (t e : TypeId), (Tryz.prog.globals[0]?).map (·.type) = some t ∧ Tryz.prog.underlying t = some (.array n e) ∧ Tryz.prog.underlying e = some (.int .u64) ∧ Tryz.prog.cellsOf e = 1 ∧ Tryz.prog.cellsOf t = n :=
      ⟨20, 139, 128, by kernel_rfl, by kernel_rfl, by kernel_rfl, by kernel_rfl, by kernel_rfl⟩
    exact Lib.tabIs_of_head glob_pow h1 h2 h3 h4 h5 h
  refine ⟨World.block_lt_of_cell? _ _ hm, ?_, hm, tab⟩
  unfold Lib.TabIs at tab
  simp only [World.var?, glob_pow, Option.bind_some] at tab
  by_cases hlt : 0 < W.heap.size
  · exact hlt
  · rw [Array.getElem?_eq_none (by omega)] at tab
    cases tab
end Go.Proofs.YtpohpgahnompbaaGreatDoor.RowOpen

/-
  What the row lists: the tables of Go's library, and the error ErrRange.
-/
namespace Go.Proofs.YtpohpgahnompbaaGreatDoor.RowOpen
open Go.ChangeShapes Go.WideShapes Go.ChangeAt Go.RowKit Go.Deep Val Go.Proofs.YtpohpgahnompbaaGreatDoor.Code
set_option linter.unusedVariables false
theorem star_err : "*" ++ "errors.errorString" = "*errors.errorString" := by decide
theorem row_err (u : TypeId) (h : Tryz.prog.typeName? 3 u = some "*errors.errorString") : u = 171 :=
  typeName_ptr_named (nm := "errors.errorString") (by rw [star_err]; kernel_rfl) (by kernel_rfl) (by decide) u (by rw [star_err]; exact h)
theorem err_of {laid : List (String × DataW Unit)} {tx : List UInt8} {W : World} (hL : laidMetH Tryz.prog laid W) (hp : (laid.all fun x => x.2.handleName?.isNone) = true)
    (he : laid.filter (fun x => x.1 == "strconv.ErrRange") = [("strconv.ErrRange", .iface "*errors.errorString" (.ptr (.agg [.lit (.string tx)])))]) : ∃ te pe, W.cell? ⟨7, 0, none⟩ = some (.iface te pe) := by
  rw [Go.MakeChecks.laidMetH_plain _ _ _ hp] at hL
  have h := hL.filter (fun x => x.1 == "strconv.ErrRange")
  rw [he] at h
  have hg : Tryz.prog.globalNamed "strconv.ErrRange" = some 7 := by kernel_rfl
  obtain ⟨a, s, hv, _⟩ := laid_sentinel h hg (ti := 79) (by kernel_rfl) Tryz.underlying79 (tp := 171) (te := 173) (ts := 9)
    row_err Tryz.underlying171 Tryz.underlying173 rfl rfl Tryz.underlying9 (by kernel_rfl) (by kernel_rfl)
  exact ⟨_, _, by have := World.var?_cell hg hv 0; simpa using this⟩
/-- what a row that lists both gives -/
theorem env_of {laid : List (String × DataW Unit)} {d : DataW Unit} {tx : List UInt8} {m : Int} {W : World} (hL : laidMetH Tryz.prog laid W) (hp : (laid.all fun x => x.2.handleName?.isNone) = true) (hf : laid.filter (fun x => x.1 == "internal/strconv.uint64pow10") = [("internal/strconv.uint64pow10", d)]) (hd : d = Lib.tabData .u64 Lib.pow10Tab)
    (he : laid.filter (fun x => x.1 == "strconv.ErrRange") = [("strconv.ErrRange", .iface "*errors.errorString" (.ptr (.agg [.lit (.string tx)])))])
    (hm : W.cell? ⟨1, 0, none⟩ = some (.int .i64 m)) : Env W.heap.size m W := by
  obtain ⟨te, pe, hc⟩ := err_of hL hp he
  exact ⟨glob_of hL hp hf hd hm, World.block_lt_of_cell? _ _ hc, te, pe, hc⟩
end Go.Proofs.YtpohpgahnompbaaGreatDoor.RowOpen
