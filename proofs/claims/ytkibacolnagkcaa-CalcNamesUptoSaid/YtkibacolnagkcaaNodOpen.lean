/-
  A node that came in, opened: what lies where, how much there is. No function is named.
-/
import Derived.Test.YtkibacolnagkcaaBulk
import Derived.Test.YtkibacolnagkcaaM36
import Derived.Test.YtkibacolnagkcaaM16
import Derived.Test.YtkibacolnagkcaaTot
namespace Go.Proofs.Ytkibacolnagkcaa.RowOpen
open Go.ChangeShapes Go.WideShapes Go.ChangeAt Go.RowKit Go.Deep Val Elems Go.Proofs.Ytkibacolnagkcaa.Code
set_option linter.unusedVariables false
section
variable {H : Type} {enc : TypeId × Value → H} {P : Program} {w : World} {base : Nat} {spare : Nat → Bool} {held : Bool}
instance nod0 : Inhabited Nod := ⟨.mk [] [] []⟩
theorem bulk_mem {d : DataW H} : ∀ {l : List (DataW H)}, d ∈ l → Rows.uptoBulk d ≤ Rows.uptoBulkAll l
  | x :: l, h => by
    rw [Rows.uptoBulkAll]
    rcases List.mem_cons.1 h with rfl | h
    · omega
    · have := bulk_mem h
      omega
theorem open_node {e : TypeId} {f0 f1 f2 : Field} (he : P.underlying e = some (.struct #[f0, f1, f2])) (hone : oneCellFields P #[f0, f1, f2] = true) (hC : P.cellsOf e = 3)
    (e0 : P.underlying f0.type = some .string) (e1 : P.underlying f1.type = some .string) (e2 : P.underlying f2.type = some (.slice e)) :
    ∀ (fuel : Nat) (cs : List Value) (x : DataW H × List MemPlace), cs.length = 3 → DataW.trod enc P w base spare held fuel e cs = some x → Rows.uptoBulk x.1 ≤ 1048576 →
      ∃ (t : Nod) (v : NV), cs = nc v ∧ RIn w (fun g => g < w.heap.size) t v ∧ t.tot ≤ Rows.uptoBulk x.1 := by
  intro fuel
  induction fuel using Nat.strongRecOn with
  | ind fuel ih =>
    intro cs x hlen h hbk
    obtain ⟨ys, n, hn, hy, hl3, hyl, hf⟩ := DataW.trod_struct he h
    match cs, hlen with
    | [c0, c1, c2], _ =>
      have o := fun j f (hj : (#[f0, f1, f2] : Array Field)[j]? = some f) => hone_of hone j f hj
      obtain ⟨o0, k0⟩ := o 0 f0 rfl
      obtain ⟨o1, k1⟩ := o 1 f1 rfl
      obtain ⟨o2, k2⟩ := o 2 f2 rfl
      match ys, hyl with
      | [y0, y1, y2], _ =>
        have g0 := hf 0 f0 rfl
        have g1 := hf 1 f1 rfl
        have g2 := hf 2 f2 rfl
        rw [o0, k0] at g0
        rw [o1, k1] at g1
        rw [o2, k2] at g2
        obtain ⟨a, ea, xa, wa⟩ := DataW.trod_string e0 (show DataW.trod enc P w base spare held n f0.type [c0] = some y0 from g0)
        obtain ⟨b, eb, xb, wb⟩ := DataW.trod_string e1 (show DataW.trod enc P w base spare held n f1.type [c1] = some y1 from g1)
        have hx : x.1 = .agg [y0.1, y1.1, y2.1] := by rw [hy]; rfl
        have hbx : Rows.uptoBulk x.1 = (a.size + 1) + ((b.size + 1) + (Rows.uptoBulk y2.1 + 0)) + 1 := by
          rw [hx, Rows.uptoBulk, Rows.uptoBulkAll, Rows.uptoBulkAll, Rows.uptoBulkAll, Rows.uptoBulkAll, xa, xb, ← Bulk.string_le, ← Bulk.string_le]
        have hsa : a.data.toList.length = a.size := rfl
        have hsb : b.data.toList.length = b.size := rfl
        simp only [List.cons.injEq, and_true] at ea eb
        subst ea eb
        rcases DataW.trod_slice e2 (show DataW.trod enc P w base spare held n f2.type [c2] = some y2 from g2) with ⟨h0, hx2⟩ | ⟨ad, len, cap, elems, rest, m, hm, hcs, hx2, hb, hl, hmx, hel, hat, _⟩
        · simp only [List.cons.injEq, and_true] at h0
          subst h0
          refine ⟨.mk a.data.toList b.data.toList [], (a, b, none, 0, 0), rfl, RIn.leafN w _ a b, ?_⟩
          rw [Nod.tot, Nod.totL]
          omega
        · simp only [List.cons.injEq, and_true] at hcs
          subst hcs
          have hy2 : y2.1 = .slice (elems.map (·.1)) (rest.map (·.1)) := by rw [hx2]
          have hb2 : Rows.uptoBulk y2.1 = Rows.uptoBulkAll (elems.map (·.1)) + Rows.uptoBulkAll (rest.map (·.1)) + 1 := by rw [hy2, Rows.uptoBulk]
          have hlb := Bulk.length_le (elems.map (·.1))
          rw [List.length_map] at hlb
          have hkid : ∀ i, i < len → ∃ (q : Nod × NV), w.cell? (ad.add (i * 3)) = some (.string q.2.1) ∧ w.cell? ⟨(ad.add (i * 3)).block, (ad.add (i * 3)).off + 1, none⟩ = some (.string q.2.2.1) ∧ w.cell? ⟨(ad.add (i * 3)).block, (ad.add (i * 3)).off + 2, none⟩ = some (.slice q.2.2.2.1 q.2.2.2.2.1 q.2.2.2.2.2) ∧ RIn w (fun g => g < w.heap.size) q.1 q.2 ∧ q.1.tot ≤ Rows.uptoBulk ((elems.map (·.1)).getD i .nil) := by
            intro i hi
            have h1 := hat i hi
            rw [hC] at h1
            have hie : i < elems.length := by omega
            rw [List.getElem?_eq_getElem hie] at h1
            obtain ⟨cs', hc, ht'⟩ := Option.bind_eq_some_iff.1 h1
            obtain ⟨_, hcl, hca⟩ := World.cells?_some hc
            have hmem : Rows.uptoBulk (elems[i]).1 ≤ Rows.uptoBulkAll (elems.map (·.1)) := bulk_mem (List.mem_map.2 ⟨elems[i], List.getElem_mem hie, rfl⟩)
            obtain ⟨t, v, hcv, hr, ht⟩ := ih m (by omega) cs' elems[i] hcl ht' (by omega)
            have d0 := hca 0 (by omega)
            have d1 := hca 1 (by omega)
            have d2 := hca 2 (by omega)
            rw [Go.Deep.add_add, hcv] at d0 d1 d2
            refine ⟨(t, v), d0, ?_, ?_, hr, ?_⟩
            · rw [← cell_add (j := 0)]; exact d1
            · rw [← cell_add (j := 1)]; exact d2
            · have e : (elems.map (·.1)).getD i .nil = (elems[i]).1 := by simp [List.getD, hie]
              rw [e]; exact ht
          obtain ⟨V, hV⟩ := choose_lt (α := Nod × NV) (n := len) (p := fun i q => w.cell? (ad.add (i * 3)) = some (.string q.2.1) ∧ w.cell? ⟨(ad.add (i * 3)).block, (ad.add (i * 3)).off + 1, none⟩ = some (.string q.2.2.1) ∧ w.cell? ⟨(ad.add (i * 3)).block, (ad.add (i * 3)).off + 2, none⟩ = some (.slice q.2.2.2.1 q.2.2.2.2.1 q.2.2.2.2.2) ∧ RIn w (fun g => g < w.heap.size) q.1 q.2 ∧ q.1.tot ≤ Rows.uptoBulk ((elems.map (·.1)).getD i .nil)) hkid
          obtain ⟨K, hK⟩ : ∃ K, (List.range len).map (fun i => (V i).1) = K := ⟨_, rfl⟩
          obtain ⟨L, hL⟩ : ∃ L, (List.range len).map (fun i => (V i).2) = L := ⟨_, rfl⟩
          have hKl : K.length = len := by rw [← hK]; simp
          have hLl : L.length = len := by rw [← hL]; simp
          have hKi : ∀ (i : Nat) (h : i < K.length), K[i] = (V i).1 := fun i h => by subst hK; simp
          have hLi : ∀ (i : Nat) (h : i < L.length), L[i] = (V i).2 := fun i h => by subst hL; simp
          have hNA : NAt w (fun g => g < w.heap.size) (some ad) L := by
            intro i hi
            rw [hLi i hi]
            obtain ⟨c0, c1, c2, _⟩ := hV i (by omega)
            have hblk := World.block_lt_of_cell? _ _ c0
            rw [add_block] at hblk
            exact ⟨ad, rfl, hblk, c0, c1, c2⟩
          have htot : Nod.totL K ≤ Rows.uptoBulkAll (elems.map (·.1)) := by
            have hlist : ∀ (n : Nat) (l : List (DataW H)), n ≤ l.length → (∀ i, i < n → (V i).1.tot ≤ Rows.uptoBulk (l.getD i .nil)) → Nod.totL ((List.range n).map fun i => (V i).1) ≤ Rows.uptoBulkAll (l.take n) := by
              intro n
              induction n with
              | zero => intro l _ _; exact Nat.zero_le _
              | succ n ihn =>
                intro l hn hh
                have h1 := ihn l (by omega) (fun i hi => hh i (by omega))
                have h2 := hh n (by omega)
                have hT : ∀ (a : List Nod) (b : Nod), Nod.totL (a ++ [b]) = Nod.totL a + b.tot := by
                  intro a b
                  induction a with
                  | nil => simp [Nod.totL]
                  | cons x a iha => rw [List.cons_append, Nod.totL, Nod.totL, iha]; omega
                have hB : ∀ (a : List (DataW H)) (b : DataW H), Rows.uptoBulkAll (a ++ [b]) = Rows.uptoBulkAll a + Rows.uptoBulk b := by
                  intro a b
                  induction a with
                  | nil => simp [Rows.uptoBulkAll]
                  | cons x a iha => rw [List.cons_append, Rows.uptoBulkAll, Rows.uptoBulkAll, iha]; omega
                have e : l.getD n .nil = l[n]'(by omega) := by simp [List.getD, show n < l.length by omega]
                rw [List.range_succ, List.map_append, List.map_cons, List.map_nil, hT, List.take_succ_eq_append_getElem (show n < l.length by omega), hB]
                rw [e] at h2
                omega
            have h9 := hlist len (elems.map (·.1)) (by rw [List.length_map]; omega) (fun i hi => (hV i hi).2.2.2.2)
            rw [List.take_of_length_le (by rw [List.length_map]; omega), hK] at h9
            exact h9
          have hr : RIn w (fun g => g < w.heap.size) (.mk a.data.toList b.data.toList K) (a, b, some ad, K.length, cap) := by
            have h9 := RIn.mk (w := w) (S := fun g => g < w.heap.size) a.data.toList b.data.toList K (some ad) cap L (by omega) (by omega) (by omega) hNA (fun i hi => by
              rw [hKi i hi, hLi i (by omega)]
              exact (hV i (by omega)).2.2.2.1)
            exact h9
          refine ⟨.mk a.data.toList b.data.toList K, (a, b, some ad, len, cap), rfl, by rw [hKl] at hr; exact hr, ?_⟩
          rw [Nod.tot]
          omega
theorem open_nodev {r : Reach} {b0 : Nat} {e : TypeId} {f0 f1 f2 : Field} {v : Value} {d : DataW H} {p : List MemPlace} (he : P.underlying e = some (.struct #[f0, f1, f2])) (hone : oneCellFields P #[f0, f1, f2] = true) (hC : P.cellsOf e = 3)
    (e0 : P.underlying f0.type = some .string) (e1 : P.underlying f1.type = some .string) (e2 : P.underlying f2.type = some (.slice e)) (hv : Value.okWide P w r b0 e v) (h : DataW.Trod enc P w base spare held e v d p) (hb : Rows.uptoBulk d ≤ 1048576) :
    ∃ (t : Nod) (op tx : ByteArray) (X : Option Addr) (n k : Nat), v = .agg #[.string op, .string tx, .slice X n k] ∧ RIn w (fun g => g < w.heap.size) t (op, tx, X, n, k) ∧ t.tot ≤ 1048576 := by
  obtain ⟨cs, rfl, hsz⟩ := okWide_struct he hv
  obtain ⟨fuel, hf⟩ := h
  obtain ⟨t, x, hc, hr, ht⟩ := open_node (w := w) (spare := spare) he hone hC e0 e1 e2 fuel cs.toList (d, p) (by rw [Array.length_toList, hsz, hC]) hf hb
  obtain ⟨op, tx, X, n, k⟩ := x
  refine ⟨t, op, tx, X, n, k, ?_, hr, Nat.le_trans ht hb⟩
  have : cs = (nc (op, tx, X, n, k)).toArray := by rw [← hc]
  rw [this]
  rfl
end
end Go.Proofs.Ytkibacolnagkcaa.RowOpen
