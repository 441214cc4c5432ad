/-
  A node that came in, opened, whatever its size (its lists' weights alone are bounded). No function is named.
-/
import Derived.Test.YtkibacolnagkcaaM36
import Derived.Test.YtkibacolnagkcaaM16
import Derived.Test.YtkibacolnagkcaaM12
import Derived.LaidSub
import Derived.MakeChecks
import Derived.Lib.LaidTab
import Derived.Test.YtkibacolnagkcaaM10
import Derived.Lib.SmallJoins
namespace Go.Proofs.Ytkibacolnagkcaa.RowOpen
open Go.ChangeShapes Go.WideShapes Go.ChangeAt Go.RowKit Go.Deep Val Elems Go.Proofs.Ytkibacolnagkcaa.Code
set_option linter.unusedVariables false
section
variable {H : Type} {enc : TypeId × Value → H} {P : Program} {w : World} {base : Nat} {spare : Nat → Bool} {held : Bool}
instance nodf0 : Inhabited Nod := ⟨.mk [] [] []⟩
theorem open_nodeF {e : TypeId} {f0 f1 f2 : Field} (he : P.underlying e = some (.struct #[f0, f1, f2])) (hone : oneCellFields P #[f0, f1, f2] = true) (hC : P.cellsOf e = 3) (hB : P.bytesOf e = 56)
    (e0 : P.underlying f0.type = some .string) (e1 : P.underlying f1.type = some .string) (e2 : P.underlying f2.type = some (.slice e)) :
    ∀ (fuel : Nat) (cs : List Value) (x : DataW H × List MemPlace), cs.length = 3 → DataW.trod enc P w base spare held fuel e cs = some x → (x.1.weights P e).all (· ≤ reachBytes) = true →
      ∃ (t : Nod) (v : NV), cs = nc v ∧ RIn w (fun g => g < w.heap.size) t v := by
  intro fuel
  induction fuel using Nat.strongRecOn with
  | ind fuel ih =>
    intro cs x hlen h hbk
    obtain ⟨ys, n, hn, hy, hl3, hyl, hf⟩ := DataW.trod_struct he h
    match cs, hlen with
    | [c0, c1, c2], _ =>
      have o := fun j f (hj : (#[f0, f1, f2] : Array Field)[j]? = some f) => hone_of hone j f hj
      obtain ⟨o0, k0⟩ := o 0 f0 rfl
      obtain ⟨o1, k1⟩ := o 1 f1 rfl
      obtain ⟨o2, k2⟩ := o 2 f2 rfl
      match ys, hyl with
      | [y0, y1, y2], _ =>
        have g0 := hf 0 f0 rfl
        have g1 := hf 1 f1 rfl
        have g2 := hf 2 f2 rfl
        rw [o0, k0] at g0
        rw [o1, k1] at g1
        rw [o2, k2] at g2
        obtain ⟨a, ea, xa, wa⟩ := DataW.trod_string e0 (show DataW.trod enc P w base spare held n f0.type [c0] = some y0 from g0)
        obtain ⟨b, eb, xb, wb⟩ := DataW.trod_string e1 (show DataW.trod enc P w base spare held n f1.type [c1] = some y1 from g1)
        have hx : x.1 = .agg [y0.1, y1.1, y2.1] := by rw [hy]; rfl
        have hw2 : (y2.1.weights P f2.type).all (· ≤ reachBytes) = true := by
          rw [List.all_eq_true] at hbk ⊢
          intro m hm
          refine hbk m ?_
          rw [hx, DataW.weights, he]
          simp only [List.map_cons, List.map_nil, DataW.weightsEach, List.mem_append]
          exact Or.inr (Or.inr (Or.inl hm))
        simp only [List.cons.injEq, and_true] at ea eb
        subst ea eb
        rcases DataW.trod_slice e2 (show DataW.trod enc P w base spare held n f2.type [c2] = some y2 from g2) with ⟨h0, hx2⟩ | ⟨ad, len, cap, elems, rest, m, hm, hcs, hx2, hb, hl, hmx, hel, hat, _⟩
        · simp only [List.cons.injEq, and_true] at h0
          subst h0
          exact ⟨.mk a.data.toList b.data.toList [], (a, b, none, 0, 0), rfl, RIn.leafN w _ a b⟩
        · simp only [List.cons.injEq, and_true] at hcs
          subst hcs
          have hy2 : y2.1 = .slice (elems.map (·.1)) (rest.map (·.1)) := by rw [hx2]
          rw [List.all_eq_true] at hw2
          have hlen56 : len ≤ 2600000000000 := by
            have hmem : ((elems.map (·.1)).length + (rest.map (·.1)).length) * P.bytesOf e ∈ y2.1.weights P f2.type := by
              rw [hy2, DataW.weights, e2]
              exact List.mem_cons_self
            have := hw2 _ hmem
            rw [hB, decide_eq_true_iff, show reachBytes = 140737488351232 by decide] at this
            simp only [List.length_map] at this
            omega
          have hkid : ∀ i, i < len → ∃ (q : Nod × NV), w.cell? (ad.add (i * 3)) = some (.string q.2.1) ∧ w.cell? ⟨(ad.add (i * 3)).block, (ad.add (i * 3)).off + 1, none⟩ = some (.string q.2.2.1) ∧ w.cell? ⟨(ad.add (i * 3)).block, (ad.add (i * 3)).off + 2, none⟩ = some (.slice q.2.2.2.1 q.2.2.2.2.1 q.2.2.2.2.2) ∧ RIn w (fun g => g < w.heap.size) q.1 q.2 := by
            intro i hi
            have h1 := hat i hi
            rw [hC] at h1
            have hie : i < elems.length := by omega
            rw [List.getElem?_eq_getElem hie] at h1
            obtain ⟨cs', hc, ht'⟩ := Option.bind_eq_some_iff.1 h1
            obtain ⟨_, hcl, hca⟩ := World.cells?_some hc
            have hwi : ((elems[i]).1.weights P e).all (· ≤ reachBytes) = true := by
              rw [List.all_eq_true]
              intro y hy
              refine hw2 y ?_
              rw [hy2, DataW.weights, e2]
              exact List.mem_cons_of_mem _ (List.mem_append_left _ (weightsAll_mem hy (List.mem_map.2 ⟨elems[i], List.getElem_mem hie, rfl⟩)))
            obtain ⟨t, v, hcv, hr⟩ := ih m (by omega) cs' elems[i] hcl ht' hwi
            have d0 := hca 0 (by omega)
            have d1 := hca 1 (by omega)
            have d2 := hca 2 (by omega)
            rw [Go.Deep.add_add, hcv] at d0 d1 d2
            refine ⟨(t, v), d0, ?_, ?_, hr⟩
            · rw [← cell_add (j := 0)]; exact d1
            · rw [← cell_add (j := 1)]; exact d2
          obtain ⟨V, hV⟩ := choose_lt (α := Nod × NV) (n := len) (p := fun i q => w.cell? (ad.add (i * 3)) = some (.string q.2.1) ∧ w.cell? ⟨(ad.add (i * 3)).block, (ad.add (i * 3)).off + 1, none⟩ = some (.string q.2.2.1) ∧ w.cell? ⟨(ad.add (i * 3)).block, (ad.add (i * 3)).off + 2, none⟩ = some (.slice q.2.2.2.1 q.2.2.2.2.1 q.2.2.2.2.2) ∧ RIn w (fun g => g < w.heap.size) q.1 q.2) hkid
          obtain ⟨K, hK⟩ : ∃ K, (List.range len).map (fun i => (V i).1) = K := ⟨_, rfl⟩
          obtain ⟨L, hL⟩ : ∃ L, (List.range len).map (fun i => (V i).2) = L := ⟨_, rfl⟩
          have hKl : K.length = len := by rw [← hK]; simp
          have hLl : L.length = len := by rw [← hL]; simp
          have hKi : ∀ (i : Nat) (h : i < K.length), K[i] = (V i).1 := fun i h => by subst hK; simp
          have hLi : ∀ (i : Nat) (h : i < L.length), L[i] = (V i).2 := fun i h => by subst hL; simp
          have hNA : NAt w (fun g => g < w.heap.size) (some ad) L := by
            intro i hi
            rw [hLi i hi]
            obtain ⟨c0, c1, c2, _⟩ := hV i (by omega)
            have hblk := World.block_lt_of_cell? _ _ c0
            rw [add_block] at hblk
            exact ⟨ad, rfl, hblk, c0, c1, c2⟩
          have hr : RIn w (fun g => g < w.heap.size) (.mk a.data.toList b.data.toList K) (a, b, some ad, K.length, cap) := by
            have h9 := RIn.mk (w := w) (S := fun g => g < w.heap.size) a.data.toList b.data.toList K (some ad) cap L (by omega) (by omega) (by omega) hNA (fun i hi => by
              rw [hKi i hi, hLi i (by omega)]
              exact (hV i (by omega)).2.2.2)
            exact h9
          exact ⟨.mk a.data.toList b.data.toList K, (a, b, some ad, len, cap), rfl, by rw [hKl] at hr; exact hr⟩
theorem open_nodevF {r : Reach} {b0 : Nat} {e : TypeId} {f0 f1 f2 : Field} {v : Value} {d : DataW H} {p : List MemPlace} (he : P.underlying e = some (.struct #[f0, f1, f2])) (hone : oneCellFields P #[f0, f1, f2] = true) (hC : P.cellsOf e = 3) (hB : P.bytesOf e = 56)
    (e0 : P.underlying f0.type = some .string) (e1 : P.underlying f1.type = some .string) (e2 : P.underlying f2.type = some (.slice e)) (hv : Value.okWide P w r b0 e v) (h : DataW.Trod enc P w base spare held e v d p) (hw : (d.weights P e).all (· ≤ reachBytes) = true) :
    ∃ (t : Nod) (op tx : ByteArray) (X : Option Addr) (n k : Nat), v = .agg #[.string op, .string tx, .slice X n k] ∧ RIn w (fun g => g < w.heap.size) t (op, tx, X, n, k) := by
  obtain ⟨cs, rfl, hsz⟩ := okWide_struct he hv
  obtain ⟨fuel, hf⟩ := h
  obtain ⟨t, x, hc, hr⟩ := open_nodeF (w := w) (spare := spare) he hone hC hB e0 e1 e2 fuel cs.toList (d, p) (by rw [Array.length_toList, hsz, hC]) hf hw
  obtain ⟨op, tx, X, n, k⟩ := x
  refine ⟨t, op, tx, X, n, k, ?_, hr⟩
  have : cs = (nc (op, tx, X, n, k)).toArray := by rw [← hc]
  rw [this]
  rfl
end
end Go.Proofs.Ytkibacolnagkcaa.RowOpen
/-
  What the row lists of the library's tables.
-/
namespace Go.Proofs.Ytkibacolnagkcaa.RowOpen
open Go.ChangeShapes Go.WideShapes Go.ChangeAt Go.RowKit Go.Deep Val Go.Proofs.Ytkibacolnagkcaa.Code
set_option linter.unusedVariables false
end Go.Proofs.Ytkibacolnagkcaa.RowOpen
/-
  A list of words that came in, opened. No function is named.
-/
namespace Go.Proofs.Ytkibacolnagkcaa.RowOpen
open Go.ChangeShapes Go.WideShapes Go.ChangeAt Go.RowKit Go.Deep Val Elems Go.Proofs.Ytkibacolnagkcaa.Code
set_option linter.unusedVariables false
section
variable {H : Type} {enc : TypeId × Value → H} {P : Program} {w : World} {base : Nat} {spare : Nat → Bool} {held : Bool}
/-- one word of three parts -/
theorem open_wpart {e : TypeId} {f0 f1 f2 : Field} {n : Nat} {cs : List Value} {x : DataW H × List MemPlace} (he : P.underlying e = some (.struct #[f0, f1, f2])) (hone : oneCellFields P #[f0, f1, f2] = true)
    (e0 : P.underlying f0.type = some (.int .i64)) (e1 : P.underlying f1.type = some .string) (e2 : P.underlying f2.type = some (.int .i64)) (hlen : cs.length = 3) (h : DataW.trod enc P w base spare held n e cs = some x) :
    ∃ (v : Int × ByteArray × Int), cs = [.int .i64 v.1, .string v.2.1, .int .i64 v.2.2] ∧ x.1 = .agg [.lit (.int .i64 v.1), .lit (.string v.2.1.data.toList), .lit (.int .i64 v.2.2)] := by
  obtain ⟨ys, n', hn', hy, hl3, hyl, hf⟩ := DataW.trod_struct he h
  match cs, hlen with
  | [c0, c1, c2], _ =>
    have o := fun j f (hj : (#[f0, f1, f2] : Array Field)[j]? = some f) => hone_of hone j f hj
    obtain ⟨o0, k0⟩ := o 0 f0 rfl
    obtain ⟨o1, k1⟩ := o 1 f1 rfl
    obtain ⟨o2, k2⟩ := o 2 f2 rfl
    match ys, hyl with
    | [y0, y1, y2], _ =>
      have g0 := hf 0 f0 rfl
      have g1 := hf 1 f1 rfl
      have g2 := hf 2 f2 rfl
      rw [o0, k0] at g0
      rw [o1, k1] at g1
      rw [o2, k2] at g2
      obtain ⟨a, ea, xa, wa⟩ := DataW.trod_int e0 (show DataW.trod enc P w base spare held n' f0.type [c0] = some y0 from g0)
      obtain ⟨s, es, xs, ws⟩ := DataW.trod_string e1 (show DataW.trod enc P w base spare held n' f1.type [c1] = some y1 from g1)
      obtain ⟨b, eb, xb, wb⟩ := DataW.trod_int e2 (show DataW.trod enc P w base spare held n' f2.type [c2] = some y2 from g2)
      simp only [List.cons.injEq, and_true] at ea eb es
      refine ⟨(a, s, b), by rw [ea, eb, es], ?_⟩
      rw [hy]
      show DataW.agg [y0.1, y1.1, y2.1] = _
      rw [xa, xb, xs]
theorem open_wordsT {t e : TypeId} {f0 f1 f2 : Field} {fuel : Nat} {cs0 : List Value} {d : DataW H} {p : List MemPlace} (ht : P.underlying t = some (.slice e)) (he : P.underlying e = some (.struct #[f0, f1, f2])) (hone : oneCellFields P #[f0, f1, f2] = true) (hC : P.cellsOf e = 3)
    (e0 : P.underlying f0.type = some (.int .i64)) (e1 : P.underlying f1.type = some .string) (e2 : P.underlying f2.type = some (.int .i64)) (hf : DataW.trod enc P w base spare held fuel t cs0 = some (d, p)) (hw : (d.weights P t).all (· ≤ reachBytes) = true) (hbytes : P.bytesOf e = 32) :
    ∃ (A : Option Addr) (cap : Nat) (l : List W), cs0 = [.slice A l.length cap] ∧ At wc 3 w w.heap.size A l ∧ (∀ x ∈ l, x.2.1.length ≤ 140737488355328) ∧ l.length ≤ 4398046511104 ∧ l.length ≤ cap := by
  rcases open_slice ht hf with ⟨h0, hx⟩ | ⟨a, len, cap, m, n, D, Pl, hcs, hb, hl, hm, hmm, hx, hi⟩
  · exact ⟨none, 0, [], h0, At.nil _ _ _, fun x hx => (by cases hx), Nat.zero_le _, Nat.zero_le _⟩
  · have hlm : len ≤ m := by rw [hmm]; split <;> omega
    rw [hC] at hi
    obtain ⟨V, hV⟩ := choose_lt (α := W) (n := len) (p := fun i x => w.cell? (a.add (i * 3)) = some (.int .i64 x.1) ∧ w.cell? (a.add (i * 3 + 1)) = some (.string ⟨x.2.1.toArray⟩) ∧ w.cell? (a.add (i * 3 + 2)) = some (.int .i64 x.2.2) ∧ D i = .agg [.lit (.int .i64 x.1), .lit (.string x.2.1), .lit (.int .i64 x.2.2)]) (fun i hil => by
      obtain ⟨cs', hc, ht'⟩ := hi i (by omega)
      obtain ⟨_, hcl, hat⟩ := World.cells?_some hc
      obtain ⟨x, hx1, hx2⟩ := open_wpart he hone e0 e1 e2 hcl ht'
      have c0 := hat 0 (by omega)
      have c1 := hat 1 (by omega)
      have c2 := hat 2 (by omega)
      rw [Go.Deep.add_add, hx1] at c0 c1 c2
      exact ⟨(x.1, x.2.1.data.toList, x.2.2), c0, by rw [Lib.mk_data]; exact c1, c2, hx2⟩)
    have hd : d = .slice ((List.range len).map D) ((List.range (m - len)).map fun j => D (len + j)) := congrArg Prod.fst hx
    have hl2 : ((List.range len).map V).length = len := by simp
    have hat : ∀ (i : Nat) (hi : i < ((List.range len).map V).length), ((List.range len).map V)[i] = V i := fun i hi => by simp
    rw [List.all_eq_true] at hw
    refine ⟨some a, cap, (List.range len).map V, by rw [hl2]; exact hcs, ?_, ?_, ?_, by rw [hl2]; exact hl⟩
    · intro i hil
      rw [hat i hil]
      rw [hl2] at hil
      obtain ⟨c0, c1, c2, _⟩ := hV i hil
      have hblk := World.block_lt_of_cell? _ _ c0
      rw [add_block] at hblk
      refine ⟨a, rfl, hblk, fun j u hu => ?_⟩
      rcases j with _ | _ | _ | j
      · cases hu; exact c0
      · cases hu; exact c1
      · cases hu; exact c2
      · exact absurd (List.getElem?_eq_some_iff.1 hu).1 (by show ¬ j + 3 < 3; omega)
    · intro x hx
      obtain ⟨i, hil, rfl⟩ := List.mem_map.1 hx
      have h5 := (hV i (List.mem_range.1 hil)).2.2.2
      have hmem : (V i).2.1.length ∈ d.weights P t := by
        rw [hd, DataW.weights, ht]
        refine List.mem_cons_of_mem _ (List.mem_append_left _ (weightsAll_mem (d := D i) ?_ (List.mem_map.2 ⟨i, hil, rfl⟩)))
        rw [h5, DataW.weights, he]
        simp [DataW.weightsEach, DataW.weights]
      have := hw _ hmem
      rw [decide_eq_true_iff, show reachBytes = 140737488351232 by decide] at this
      exact Nat.le_trans this (by decide)
    · have hmem : (((List.range len).map D).length + ((List.range (m - len)).map fun j => D (len + j)).length) * P.bytesOf e ∈ d.weights P t := by
        rw [hd, DataW.weights, ht]
        exact List.mem_cons_self
      have := hw _ hmem
      rw [hbytes] at this
      rw [decide_eq_true_iff, show reachBytes = 140737488351232 by decide] at this
      simp only [List.length_map, List.length_range] at this
      rw [hl2]
      omega
theorem open_wordsC {r : Reach} {b0 : Nat} {t e : TypeId} {f0 f1 f2 : Field} {v : Value} {d : DataW H} {p : List MemPlace} (ht : P.underlying t = some (.slice e)) (he : P.underlying e = some (.struct #[f0, f1, f2])) (hone : oneCellFields P #[f0, f1, f2] = true) (hC : P.cellsOf e = 3)
    (e0 : P.underlying f0.type = some (.int .i64)) (e1 : P.underlying f1.type = some .string) (e2 : P.underlying f2.type = some (.int .i64)) (hv : Value.okWide P w r b0 t v) (h : DataW.Trod enc P w base spare held t v d p) (hw : (d.weights P t).all (· ≤ reachBytes) = true) (hbytes : P.bytesOf e = 32) :
    ∃ (A : Option Addr) (cap : Nat) (l : List W), v = .slice A l.length cap ∧ At wc 3 w w.heap.size A l ∧ (∀ x ∈ l, x.2.1.length ≤ 140737488355328) ∧ l.length ≤ 4398046511104 ∧ l.length ≤ cap := by
  obtain ⟨a', len', cap', rfl⟩ := okWide_slice ht hv
  obtain ⟨fuel, hf⟩ := h
  obtain ⟨A, cap, l, h1, h2⟩ := open_wordsT ht he hone hC e0 e1 e2 hf hw hbytes
  exact ⟨A, cap, l, by simpa [Value.cells] using h1, h2⟩
theorem open_words {r : Reach} {b0 : Nat} {t e : TypeId} {f0 f1 f2 : Field} {v : Value} {d : DataW H} {p : List MemPlace} (ht : P.underlying t = some (.slice e)) (he : P.underlying e = some (.struct #[f0, f1, f2])) (hone : oneCellFields P #[f0, f1, f2] = true) (hC : P.cellsOf e = 3)
    (e0 : P.underlying f0.type = some (.int .i64)) (e1 : P.underlying f1.type = some .string) (e2 : P.underlying f2.type = some (.int .i64)) (hv : Value.okWide P w r b0 t v) (h : DataW.Trod enc P w base spare held t v d p) (hw : (d.weights P t).all (· ≤ reachBytes) = true) (hbytes : P.bytesOf e = 32) :
    ∃ (A : Option Addr) (cap : Nat) (l : List W), v = .slice A l.length cap ∧ At wc 3 w w.heap.size A l ∧ (∀ x ∈ l, x.2.1.length ≤ 140737488355328) ∧ l.length ≤ 4398046511104 := by
  obtain ⟨A, cap, l, h1, h2, h3, h4, _⟩ := open_wordsC ht he hone hC e0 e1 e2 hv h hw hbytes
  exact ⟨A, cap, l, h1, h2, h3, h4⟩
end
end Go.Proofs.Ytkibacolnagkcaa.RowOpen
/-
  Columns with a row that came in as one struct, opened. No function is named.
-/
namespace Go.Proofs.Ytkibacolnagkcaa.RowOpen
open Go.Joins Go.ChangeShapes Go.WideShapes Go.WideElems Go.ChangeAt Go.RowKit Go.Deep Val Elems Go.Proofs.Ytkibacolnagkcaa.Code
set_option linter.unusedVariables false
section
variable {H : Type} {enc : TypeId × Value → H} {P : Program} {w : World} {base : Nat} {spare : Nat → Bool} {held : Bool}
theorem open_case {r : Reach} {b0 : Nat} {t eS eR : TypeId} {f0 f1 s0 s1 s2 r0 r1 r2 : Field} {v : Value} {d : DataW H} {p : List MemPlace} (hs : P.underlying t = some (.struct #[f0, f1])) (hone : oneCellFields P #[f0, f1] = true) (hC : P.cellsOf t = 2)
    (tS : P.underlying f0.type = some (.slice eS)) (heS : P.underlying eS = some (.struct #[s0, s1, s2])) (hoS : oneCellFields P #[s0, s1, s2] = true) (hCS : P.cellsOf eS = 3) (a0 : P.underlying s0.type = some (.int .i64)) (a1 : P.underlying s1.type = some .string) (a2 : P.underlying s2.type = some (.int .i64)) (bS : P.bytesOf eS = 32)
    (tR : P.underlying f1.type = some (.slice eR)) (heR : P.underlying eR = some (.struct #[r0, r1, r2])) (hoR : oneCellFields P #[r0, r1, r2] = true) (hCR : P.cellsOf eR = 3) (c0 : P.underlying r0.type = some (.int .i64)) (c1 : P.underlying r1.type = some (.int .i64)) (c2 : P.underlying r2.type = some .string) (bR : P.bytesOf eR = 32)
    (hv : Value.okWide P w r b0 t v) (h : DataW.Trod enc P w base spare held t v d p) (hw : (d.weights P t).all (· ≤ reachBytes) = true) :
    ∃ (A : Option Addr) (ca : Nat) (l : List W) (B : Option Addr) (cb : Nat) (m : List (Int × Int × ByteArray)), v = .agg #[.slice A l.length ca, .slice B m.length cb] ∧ (At wc 3 w w.heap.size A l ∧ (∀ x ∈ l, x.2.1.length ≤ 140737488355328) ∧ l.length ≤ 4398046511104 ∧ l.length ≤ ca) ∧ RowIn w B m := by
  obtain ⟨v0, v1, y0, y1, n, rfl, hd, hp, g0, g1⟩ := open_agg2 hs hone hC hv h
  have hw0 : (y0.1.weights P f0.type).all (· ≤ reachBytes) = true := by
    rw [hd, DataW.weights, hs] at hw
    simp only [DataW.weightsEach, List.all_append, Bool.and_eq_true, List.map_cons] at hw
    exact hw.1
  have hw1 : (y1.1.weights P f1.type).all (· ≤ reachBytes) = true := by
    rw [hd, DataW.weights, hs] at hw
    simp only [DataW.weightsEach, List.all_append, Bool.and_eq_true, List.map_cons] at hw
    exact hw.2.1
  obtain ⟨A, ca, l, h1, h2, h3, h4, h5⟩ := open_wordsT tS heS hoS hCS a0 a1 a2 (show DataW.trod enc P w base spare held n f0.type [v0] = some (y0.1, y0.2) from g0) hw0 bS
  obtain ⟨B, cb, m, k1, k2, _⟩ := open_row tR heR hoR hCR c0 c1 c2 (show DataW.trod enc P w base spare held n f1.type [v1] = some (y1.1, y1.2) from g1) hw1 bR
  simp only [List.cons.injEq, and_true] at h1 k1
  subst h1 k1
  exact ⟨A, ca, l, B, cb, m, rfl, ⟨h2, h3, h4, h5⟩, k2⟩
end
end Go.Proofs.Ytkibacolnagkcaa.RowOpen
