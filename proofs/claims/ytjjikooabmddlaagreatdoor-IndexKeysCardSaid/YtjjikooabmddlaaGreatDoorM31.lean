/-
  A list of sets of items that came in, opened.
-/
import Derived.Test.YtjjikooabmddlaaGreatDoorM30
import Derived.Test.YtjjikooabmddlaaGreatDoorM10
import Derived.Test.YtjjikooabmddlaaGreatDoorM29
namespace Go.Proofs.YtjjikooabmddlaaGreatDoor.RowOpen
open Go.ChangeShapes Go.WideShapes Go.ChangeAt Go.RowKit Go.Deep Val Go.Proofs.YtjjikooabmddlaaGreatDoor.Code Go.Proofs.YtjjikooabmddlaaGreatDoor.Elems Go.Proofs.YtjjikooabmddlaaGreatDoor.Items
set_option linter.unusedVariables false
set_option maxRecDepth 100000
section
variable {H : Type} {enc : TypeId × Value → H} {P : Program} {w : World} {base : Nat} {spare : Nat → Bool} {held : Bool}
/-- items that came in, told by a slice's cell -/
theorem open_items_at {n0 : Nat} {cs0 : List Value} {T e te : TypeId} {h0 h1 f0 f1 f2 : Field} {d : DataW H} {p : List MemPlace} (hT : P.underlying T = some (.slice e)) (he : P.underlying e = some (.struct #[h0, h1])) (hone : oneCellFields P #[h0, h1] = true) (hCe : P.cellsOf e = 2)
    (ht : P.underlying h0.type = some (.slice te)) (hte : P.underlying te = some (.struct #[f0, f1, f2])) (honet : oneCellFields P #[f0, f1, f2] = true) (hC : P.cellsOf te = 3)
    (e0 : P.underlying f0.type = some (.int .i64)) (e1 : P.underlying f1.type = some (.int .i64)) (e2 : P.underlying f2.type = some .string) (e3 : P.underlying h1.type = some (.int .i64)) (hbytes : P.bytesOf te = 32) (hbe : P.bytesOf e = 32)
    (hf : DataW.trod enc P w base spare held n0 T cs0 = some (d, p)) (hw : (d.weights P T).all (· ≤ reachBytes) = true) :
    ∃ (A : Option Addr) (cap : Nat) (L : List It), cs0 = [.slice A L.length cap] ∧ (Items w w.heap.size A L ∧ FitI L ∧ LongI L ∧ L.length ≤ 4398046510976) ∧ (L = [] ∨ ∃ elems sp, d = .slice elems sp ∧ elems.length = L.length) := by
  rcases open_slice hT hf with ⟨h0, hx⟩ | ⟨a, len, cap, m, n, D, Pl, hcs, hb, hl, hm, hmm, hx, hi⟩
  · subst h0
    exact ⟨none, 0, [], rfl, ⟨⟨At.nil _ _ _, fun x hx => (by cases hx)⟩, fun x hx => (by cases hx), fun x hx => (by cases hx), Nat.zero_le _⟩, .inl rfl⟩
  · subst hcs
    have hlm : len ≤ m := by rw [hmm]; split <;> omega
    have hd : d = .slice ((List.range len).map D) ((List.range (m - len)).map fun j => D (len + j)) := congrArg Prod.fst hx
    rw [List.all_eq_true] at hw
    rw [hCe] at hi
    obtain ⟨Z, hZ⟩ := choose_lt (α := It) (n := len) (p := fun i x => (∀ (j : Nat) (u : Value), (cellsI x)[j]? = some u → w.cell? (a.add (i * 2 + j)) = some u) ∧ ItemIn w x) (fun i hil => by
      obtain ⟨cs', hc, ht'⟩ := hi i (by omega)
      obtain ⟨_, hcl, hat⟩ := World.cells?_some hc
      have hwi : ((D i).weights P e).all (· ≤ reachBytes) = true := by
        rw [List.all_eq_true]
        intro y hy
        refine hw y ?_
        rw [hd, DataW.weights, hT]
        exact List.mem_cons_of_mem _ (List.mem_append_left _ (weightsAll_mem (d := D i) hy (List.mem_map.2 ⟨i, List.mem_range.2 hil, rfl⟩)))
      obtain ⟨y, hy, hin⟩ := open_item he hone ht hte honet hC e0 e1 e2 e3 hbytes hcl ht' hwi
      refine ⟨y, fun j u hu => ?_, hin⟩
      have hj : j < 2 := by
        have := (List.getElem?_eq_some_iff.1 hu).1
        rwa [cellsI_length] at this
      have c := hat j hj
      rw [Go.Deep.add_add, hy, hu] at c
      exact c)
    have hl2 : ((List.range len).map Z).length = len := by simp
    refine ⟨some a, cap, (List.range len).map Z, by rw [hl2], ⟨⟨?_, ?_⟩, ?_, ?_, ?_⟩, .inr ⟨_, _, hd, by simp⟩⟩
    · intro i hil
      have hil2 : i < len := by rwa [hl2] at hil
      obtain ⟨c0, hr⟩ := hZ i hil2
      have hblk := World.block_lt_of_cell? _ _ (c0 0 _ rfl)
      rw [add_block] at hblk
      have hat : ((List.range len).map Z)[i] = Z i := by simp
      rw [hat]
      exact ⟨a, rfl, hblk, c0⟩
    · intro x hx
      obtain ⟨i, hil, rfl⟩ := List.mem_map.1 hx
      exact (hZ i (List.mem_range.1 hil)).2.1.1
    · intro x hx
      obtain ⟨i, hil, rfl⟩ := List.mem_map.1 hx
      have := (hZ i (List.mem_range.1 hil)).2
      exact ⟨this.1.2.1, this.2⟩
    · intro x hx
      obtain ⟨i, hil, rfl⟩ := List.mem_map.1 hx
      have := (hZ i (List.mem_range.1 hil)).2.1
      exact ⟨this.2.2.2, this.2.2.1⟩
    · have hmem : (((List.range len).map D).length + ((List.range (m - len)).map fun j => D (len + j)).length) * P.bytesOf e ∈ d.weights P T := by
        rw [hd, DataW.weights, hT]
        exact List.mem_cons_self
      have := hw _ hmem
      rw [hbe] at this
      rw [decide_eq_true_iff, show reachBytes = 140737488351232 by decide] at this
      simp only [List.length_map, List.length_range] at this
      rw [hl2]
      omega
/-- items that came in: no more than any machine bears -/
theorem open_list {r : Reach} {b0 : Nat} {T e te : TypeId} {h0 h1 f0 f1 f2 : Field} {v : Value} {d : DataW H} {p : List MemPlace} (hT : P.underlying T = some (.slice e)) (he : P.underlying e = some (.struct #[h0, h1])) (hone : oneCellFields P #[h0, h1] = true) (hCe : P.cellsOf e = 2)
    (ht : P.underlying h0.type = some (.slice te)) (hte : P.underlying te = some (.struct #[f0, f1, f2])) (honet : oneCellFields P #[f0, f1, f2] = true) (hC : P.cellsOf te = 3)
    (e0 : P.underlying f0.type = some (.int .i64)) (e1 : P.underlying f1.type = some (.int .i64)) (e2 : P.underlying f2.type = some .string) (e3 : P.underlying h1.type = some (.int .i64)) (hbytes : P.bytesOf te = 32) (hbe : P.bytesOf e = 32)
    (hv : Value.okWide P w r b0 T v) (h : DataW.Trod enc P w base spare held T v d p) (hw : (d.weights P T).all (· ≤ reachBytes) = true) :
    ∃ (A : Option Addr) (cap : Nat) (L : List It), v = .slice A L.length cap ∧ (Items w w.heap.size A L ∧ FitI L ∧ LongI L ∧ L.length ≤ 4398046510976) ∧ (L = [] ∨ ∃ elems sp, d = .slice elems sp ∧ elems.length = L.length) := by
  obtain ⟨a', len', cap', rfl⟩ := okWide_slice hT hv
  obtain ⟨fuel, hf⟩ := h
  obtain ⟨A, cap, l, h1, h2, h3⟩ := open_items_at hT he hone hCe ht hte honet hC e0 e1 e2 e3 hbytes hbe hf hw
  exact ⟨A, cap, l, by simpa [Value.cells] using h1, h2, h3⟩
/-- where sets of items lie -/
def SetsIn (w : World) (A : Option Addr) (L : List (Option Addr × Nat × List It)) : Prop :=
  ∀ (i : Nat) (h : i < L.length), ∃ ad : Addr, A = some ad ∧ ad.block < w.heap.size ∧ w.cell? (ad.add i) = some (.slice L[i].1 L[i].2.2.length L[i].2.1)
/-- sets of items that came in -/
theorem open_sets {r : Reach} {b0 : Nat} {TT T e te : TypeId} {h0 h1 f0 f1 f2 : Field} {v : Value} {d : DataW H} {p : List MemPlace} (hTT : P.underlying TT = some (.slice T)) (hCT : P.cellsOf T = 1) (hbT : P.bytesOf T = 24) (hT : P.underlying T = some (.slice e)) (he : P.underlying e = some (.struct #[h0, h1])) (hone : oneCellFields P #[h0, h1] = true) (hCe : P.cellsOf e = 2)
    (ht : P.underlying h0.type = some (.slice te)) (hte : P.underlying te = some (.struct #[f0, f1, f2])) (honet : oneCellFields P #[f0, f1, f2] = true) (hC : P.cellsOf te = 3)
    (e0 : P.underlying f0.type = some (.int .i64)) (e1 : P.underlying f1.type = some (.int .i64)) (e2 : P.underlying f2.type = some .string) (e3 : P.underlying h1.type = some (.int .i64)) (hbytes : P.bytesOf te = 32) (hbe : P.bytesOf e = 32)
    (hv : Value.okWide P w r b0 TT v) (h : DataW.Trod enc P w base spare held TT v d p) (hw : (d.weights P TT).all (· ≤ reachBytes) = true) :
    ∃ (A : Option Addr) (cap : Nat) (L : List (Option Addr × Nat × List It)), v = .slice A L.length cap ∧ (SetsIn w A L ∧ (∀ x ∈ L, Items w w.heap.size x.1 x.2.2 ∧ FitI x.2.2 ∧ LongI x.2.2 ∧ x.2.2.length ≤ 4398046510976) ∧ L.length ≤ 5864062014806) ∧ (L = [] ∨ ∃ elems sp, d = .slice elems sp ∧ elems.length = L.length) := by
  obtain ⟨a', len', cap', rfl⟩ := okWide_slice hTT hv
  obtain ⟨fuel, hf⟩ := h
  rcases open_slice1 hTT hCT hf with ⟨h0, hx⟩ | ⟨a, len, cap, m, n, V, D, Pl, hcs, hb, hl, hm, hmm, hx, hi⟩
  · have ev : Value.slice a' len' cap' = .slice none 0 0 := by simpa [Value.cells] using h0
    rw [ev]
    exact ⟨none, 0, [], rfl, ⟨fun i hi => absurd hi (Nat.not_lt_zero _), fun x hx => (by cases hx), Nat.zero_le _⟩, .inl rfl⟩
  · have ev : Value.slice a' len' cap' = .slice (some a) len cap := by simpa [Value.cells] using hcs
    rw [ev]
    have hlm : len ≤ m := by rw [hmm]; split <;> omega
    have hd : d = .slice ((List.range len).map D) ((List.range (m - len)).map fun j => D (len + j)) := congrArg Prod.fst hx
    rw [List.all_eq_true] at hw
    obtain ⟨Z, hZ⟩ := choose_lt (α := Option Addr × Nat × List It) (n := len) (p := fun i x => w.cell? (a.add i) = some (.slice x.1 x.2.2.length x.2.1) ∧ (Items w w.heap.size x.1 x.2.2 ∧ FitI x.2.2 ∧ LongI x.2.2 ∧ x.2.2.length ≤ 4398046510976)) (fun i hil => by
      obtain ⟨hc, ht'⟩ := hi i (by omega)
      have hwi : ((D i).weights P T).all (· ≤ reachBytes) = true := by
        rw [List.all_eq_true]
        intro y hy
        refine hw y ?_
        rw [hd, DataW.weights, hTT]
        exact List.mem_cons_of_mem _ (List.mem_append_left _ (weightsAll_mem (d := D i) hy (List.mem_map.2 ⟨i, List.mem_range.2 hil, rfl⟩)))
      obtain ⟨A, c, l, hz, hr, _⟩ := open_items_at hT he hone hCe ht hte honet hC e0 e1 e2 e3 hbytes hbe ht' hwi
      simp only [List.cons.injEq, and_true] at hz
      exact ⟨(A, c, l), by rw [hc, hz], hr⟩)
    have hl2 : ((List.range len).map Z).length = len := by simp
    refine ⟨some a, cap, (List.range len).map Z, by rw [hl2], ⟨?_, ?_, ?_⟩, .inr ⟨_, _, hd, by simp⟩⟩
    · intro i hil
      have hil2 : i < len := by rwa [hl2] at hil
      obtain ⟨c0, hr⟩ := hZ i hil2
      have hblk := World.block_lt_of_cell? _ _ c0
      rw [add_block] at hblk
      have hat : ((List.range len).map Z)[i] = Z i := by simp
      rw [hat]
      exact ⟨a, rfl, hblk, c0⟩
    · intro x hx
      obtain ⟨i, hil, rfl⟩ := List.mem_map.1 hx
      exact (hZ i (List.mem_range.1 hil)).2
    · have hmem : (((List.range len).map D).length + ((List.range (m - len)).map fun j => D (len + j)).length) * P.bytesOf T ∈ d.weights P TT := by
        rw [hd, DataW.weights, hTT]
        exact List.mem_cons_self
      have := hw _ hmem
      rw [hbT] at this
      rw [decide_eq_true_iff, show reachBytes = 140737488351232 by decide] at this
      simp only [List.length_map, List.length_range] at this
      rw [hl2]
      omega
/-- two rows that came in, side by side -/
theorem open_two {r : Reach} {b0 : Nat} {TT t e : TypeId} {f0 f1 f2 : Field} {v : Value} {d : DataW H} {p : List MemPlace} (hTT : P.underlying TT = some (.array 2 t)) (hC2 : P.cellsOf TT = 2) (hCt : P.cellsOf t = 1) (ht : P.underlying t = some (.slice e)) (he : P.underlying e = some (.struct #[f0, f1, f2])) (hone : oneCellFields P #[f0, f1, f2] = true) (hC : P.cellsOf e = 3)
    (e0 : P.underlying f0.type = some (.int .i64)) (e1 : P.underlying f1.type = some (.int .i64)) (e2 : P.underlying f2.type = some .string) (hv : Value.okWide P w r b0 TT v) (h : DataW.Trod enc P w base spare held TT v d p) (hw : (d.weights P TT).all (· ≤ reachBytes) = true) (hbytes : P.bytesOf e = 32) :
    ∃ (A : Option Addr) (c : Nat) (l : List (Int × Int × ByteArray)) (A' : Option Addr) (c' : Nat) (l' : List (Int × Int × ByteArray)), v = .agg #[.slice A l.length c, .slice A' l'.length c'] ∧ RowIn w A l ∧ RowIn w A' l' := by
  simp only [Value.okWide, hTT] at hv
  obtain ⟨⟨cs⟩, rfl, hsz, _⟩ := hv
  rw [hC2] at hsz
  match cs, hsz with
  | [c0, c1], _ =>
    obtain ⟨fuel, hf⟩ := h
    obtain ⟨xs, m, _, hx, _, hl, hat⟩ := DataW.trod_array hTT hf
    match xs, hl with
    | [y0, y1], _ =>
      rw [hCt] at hat
      have g0 := hat 0 (by omega)
      have g1 := hat 1 (by omega)
      obtain ⟨d0, p0⟩ := y0
      obtain ⟨d1, p1⟩ := y1
      have hd : d = .agg [d0, d1] := congrArg Prod.fst hx
      rw [List.all_eq_true] at hw
      have hw0 : (d0.weights P t).all (· ≤ reachBytes) = true := by
        rw [List.all_eq_true]
        intro y hy
        refine hw y ?_
        rw [hd, DataW.weights, hTT]
        exact weightsAll_mem (d := d0) hy (by simp)
      have hw1 : (d1.weights P t).all (· ≤ reachBytes) = true := by
        rw [List.all_eq_true]
        intro y hy
        refine hw y ?_
        rw [hd, DataW.weights, hTT]
        exact weightsAll_mem (d := d1) hy (by simp)
      obtain ⟨A, c, l, h1, h2, _⟩ := open_row ht he hone hC e0 e1 e2 (show DataW.trod enc P w base spare held m t [c0] = some (d0, p0) from g0) hw0 hbytes
      obtain ⟨A', c', l', h3, h4, _⟩ := open_row ht he hone hC e0 e1 e2 (show DataW.trod enc P w base spare held m t [c1] = some (d1, p1) from g1) hw1 hbytes
      simp only [List.cons.injEq, and_true] at h1 h3
      exact ⟨A, c, l, A', c', l', by rw [h1, h3], h2, h4⟩
end
end Go.Proofs.YtjjikooabmddlaaGreatDoor.RowOpen

/-
  Are sets such as are put? (the law's own question, of layer 7)
-/
namespace Go.Proofs.YtjjikooabmddlaaGreatDoor.Items
open Go.ChangeShapes Go.WideShapes Go.ChangeAt Go.RowKit Val Go.Proofs.YtjjikooabmddlaaGreatDoor.Code Go.Proofs.YtjjikooabmddlaaGreatDoor.Elems Go.Proofs.YtjjikooabmddlaaGreatDoor.ZP Go.Proofs.YtjjikooabmddlaaGreatDoor.RowOpen
set_option linter.unusedVariables false
set_option maxRecDepth 100000

def fitsS (L : List (Option Addr × Nat × List It)) : Bool := ((L.take 13).all fun x => smallI x.2.2) && decide (L.length ≤ 12)
theorem fitsS_le {L : List (Option Addr × Nat × List It)} (h : fitsS L = true) : L.length ≤ 12 := by
  unfold fitsS at h
  rw [Bool.and_eq_true] at h
  exact of_decide_eq_true h.2
theorem fitsS_all {L : List (Option Addr × Nat × List It)} (h : fitsS L = true) : ∀ x ∈ L, smallI x.2.2 = true := by
  have hl := fitsS_le h
  unfold fitsS at h
  rw [Bool.and_eq_true, List.take_of_length_le (by omega), List.all_eq_true] at h
  exact h.1
theorem fitsS_end {L : List (Option Addr × Nat × List It)} {k : Nat} (h : (L.take k).all (fun x => smallI x.2.2) = true) (hk : k = L.length ∨ k = 13) (hkl : k ≤ L.length) : fitsS L = decide (L.length ≤ 12) := by
  unfold fitsS
  rcases hk with rfl | rfl
  · by_cases hl : L.length ≤ 13
    · rw [List.take_of_length_le hl]
      rw [List.take_length] at h
      rw [h]; rfl
    · rw [decide_eq_false (by omega), Bool.and_false]
  · rw [h]; rfl
theorem fitsS_not {L : List (Option Addr × Nat × List It)} {k : Nat} (h : k < L.length) (hk : k < 13) (g : smallI L[k].2.2 = false) : fitsS L = false := by
  unfold fitsS
  rw [Bool.and_eq_false_iff]
  refine .inl ?_
  rw [List.all_eq_false]
  refine ⟨L[k], ?_, by rw [g]; simp⟩
  have : (L.take 13)[k]'(by rw [List.length_take]; omega) = L[k] := by simp
  rw [← this]
  exact List.getElem_mem _
set_option maxHeartbeats 2000000 in
theorem fits_any (A : Option Addr) (cap : Nat) (L : List (Option Addr × Nat × List It)) (w : World) (hA : SetsIn w A L) (hL : ∀ x ∈ L, Items w w.heap.size x.1 x.2.2 ∧ FitI x.2.2 ∧ LongI x.2.2 ∧ x.2.2.length ≤ 4398046510976) (hl : L.length ≤ 5864062014806) :
    Calls Tryz.prog 6 #[.slice A L.length cap] w fun e w' => e = .returned (.bool (fitsS L)) ∧ w = w' := by
  have HA := Lib.hid hA
  have HL := Lib.hid hL
  clear hA hL
  go_enter Tryz.func6, Tryz.ntmps6
  go_wp2
  go_loop [3] (fun i => ∃ k : Nat, k ≤ L.length ∧ k ≤ 13 ∧ i = .int .i64 k ∧ Hid ((L.take k).all (fun x => smallI x.2.2) = true)) (fun i => L.length - (intOf i).toNat)
  case atStart => exact ⟨0, by omega, by omega, rfl, Lib.hid rfl⟩
  case round =>
    obtain ⟨k, hk, hk13, rfl, HK⟩ := hrel
    by_cases hlt : k < L.length
    · by_cases h12 : k ≤ 12
      · have e12 : decide ((k : Int) ≤ 12) = true := by simp; omega
        obtain ⟨ad, hA, ha, c0⟩ := HA.out k hlt
        subst hA
        obtain ⟨hi, _, hlo, hle⟩ := HL.out _ (List.getElem_mem hlt)
        have HN := Lib.hid (fun g => fitsS_not hlt (by omega) g)
        have HS := Lib.hid (show (L.take (k + 1)).all (fun x => smallI x.2.2) = smallI L[k].2.2 by rw [List.take_succ_eq_append_getElem hlt, List.all_append, HK.out]; simp)
        have hc := smallI_any L[k].1 L[k].2.1 L[k].2.2 w hi hlo (by omega)
        obtain ⟨x, hx⟩ : ∃ x, L[k] = x := ⟨_, rfl⟩
        rw [hx] at c0 hc HN HS hle
        clear hx hi hlo
        obtain ⟨x1, x2, x3⟩ := x
        simp only at c0 hc HN HS hle
        obtain ⟨z, hz⟩ : ∃ z, smallI x3 = z := ⟨_, rfl⟩
        rw [hz] at hc HN HS
        have HC := Lib.hid hc
        clear hc hz
        go_wp2_with fail
        refine HC.out.mono ?_
        rintro e w' ⟨rfl, rfl⟩
        cases z
        · have HX := Lib.hid (HN.out rfl)
          go_wp2
          go_ret
          exact ⟨by rw [HX.out]; rfl, rfl⟩
        · go_wp2
          go_round
          case rel => exact ⟨k + 1, by omega, by omega, by go_num, HS⟩
          case measure => simp [intOf]; omega
      · obtain rfl : k = 13 := by omega
        have HE := Lib.hid (fitsS_end HK.out (.inr rfl) hk)
        have hz : decide ((L.length : Int) ≤ 12) = decide (L.length ≤ 12) := by simp; omega
        have HZ := Lib.hid hz
        clear hz
        go_wp2
        go_ret
        exact ⟨by rw [HE.out]; simp [go_sem]; omega, rfl⟩
    · obtain rfl : k = L.length := by omega
      have HE := Lib.hid (fitsS_end HK.out (.inl rfl) hk)
      go_wp2
      go_ret
      exact ⟨by rw [HE.out]; simp [go_sem]; omega, rfl⟩
end Go.Proofs.YtjjikooabmddlaaGreatDoor.Items

/-
  An index and the document's side by side: what is put into both.
-/
namespace Go.Proofs.YtjjikooabmddlaaGreatDoor.Items
open Go.ChangeShapes Go.WideShapes Go.ChangeAt Go.RowKit Val Go.Proofs.YtjjikooabmddlaaGreatDoor.Code Go.Proofs.YtjjikooabmddlaaGreatDoor.Elems Go.Proofs.YtjjikooabmddlaaGreatDoor.ZP Go.Proofs.YtjjikooabmddlaaGreatDoor.MapSl
set_option linter.unusedVariables false
set_option maxRecDepth 100000

theorem okI_two {l : List Int} {s : List It} : okI l s = (okAll l s && okRows s) := by
  unfold okI okAll okRows
  induction s with
  | nil => rfl
  | cons x s ih =>
    simp only [List.all_cons, ih, okX]
    cases okP x.2.2.1 l <;> cases rightR x.2.2.1 <;> simp
theorem okRows_app {a b : List It} : okRows (a ++ b) = (okRows a && okRows b) := by
  unfold okRows
  exact List.all_append
theorem rows_right {l : List Int} {S : List It} (h : RowsOk l (pl S)) : okRows S = true := (okRows_iff S).2 fun x hx => (h x hx).1
/-- both answer alike -/
theorem put_doc {w w' : World} {p : Nat} {mo : Option Nat} {C : Option Addr} {cc : Nat} {l : List Int} {S s : List It} {e : Ending} (hX : Idx w p mo C cc l (pl S)) (h : PutPost w p mo C cc l (pl S) s e w') :
    e = .returned (.int .i64 (putE l S s)) ∧ ∃ mo', Idx w' p mo' C cc l (pl (putS l S s)) ∧ Chg w w' (badOf p mo) ∧ (mo' = mo ∨ mo = none ∧ ∀ b, mo' = some b → w.heap.size ≤ b) := by
  have hSr := rows_right hX.rows
  rcases h with ⟨hok, he, hb⟩ | ⟨hok, hw, he, hb⟩ | ⟨hok, hw, he, T, mo', hT, hX', hc, hd⟩
  · have h1 : putE l S s = 51 ∧ putS l S s = S := by
      rw [okI_two] at hok
      unfold putE putS
      cases h2 : okAll l s with
      | false => exact ⟨rfl, rfl⟩
      | true =>
        rw [h2, Bool.true_and] at hok
        have h3 : ofE (S ++ s) = 51 := by
          unfold ofE
          rw [okRows_app, hSr, hok]
          rfl
        rw [h3]
        exact ⟨rfl, rfl⟩
    rw [h1.1, h1.2]
    exact ⟨he, mo, hX.below hb, Chg.of hb _, .inl rfl⟩
  · rw [okI_two, Bool.and_eq_true] at hok
    have hR : RightP (pl (S ++ s)) := (okRows_iff _).1 (by rw [okRows_app, hSr, hok.2]; rfl)
    have h1 : putE l S s = 11 ∧ putS l S s = S := by
      unfold putE putS
      rw [hok.1]
      rcases of_cases hR with ⟨_, h2, _⟩ | ⟨h2, _⟩
      · rw [pl_append] at h2
        exact absurd h2 hw
      · rw [h2]
        exact ⟨rfl, rfl⟩
    rw [h1.1, h1.2]
    exact ⟨he, mo, hX.below hb, Chg.of hb _, .inl rfl⟩
  · rw [okI_two, Bool.and_eq_true] at hok
    have hR : RightP (pl (S ++ s)) := (okRows_iff _).1 (by rw [okRows_app, hSr, hok.2]; rfl)
    have h1 : putE l S s = 0 ∧ putS l S s = ofL (S ++ s) ∧ pl (ofL (S ++ s)) = T := by
      unfold putE putS
      rw [hok.1]
      rcases of_cases hR with ⟨h2, _, h3⟩ | ⟨_, h2⟩
      · rw [h2]
        rw [pl_append] at h3
        exact ⟨rfl, rfl, h3.eq hT⟩
      · rw [pl_append] at h2
        exact absurd hw h2
    rw [h1.1, h1.2.1, h1.2.2]
    exact ⟨he, mo', hX', hc, hd⟩
theorem putS_fit {l : List Int} {S s : List It} (fS : FitI S) (fs : FitI s) : FitI (putS l S s) := by
  unfold putS
  split
  · intro x hx
    exact ⟨ofL_rows (P := FitL) (fun y hy => ((fit_app fS fs) y hy).1) x hx, ofL_weights _ x hx⟩
  · exact fS
theorem putS_len {l : List Int} {S s : List It} : (putS l S s).length ≤ S.length + s.length := by
  unfold putS
  split
  · refine Nat.le_trans (ofL_length _) ?_
    rw [List.length_append]
    exact Nat.le_refl _
  · omega
theorem rblk_plain {w : World} {g : Nat} {a b : Value} {T : TypeId} (hb : w.heap[g]? = some (.cells #[a, b] T (0, 0))) (ha : (∀ k n, a ≠ .int k n) ∧ ∀ s, a ≠ .string s) (hb2 : (∀ k n, b ≠ .int k n) ∧ ∀ s, b ≠ .string s) : Plain w (fun k => some k = some g) := by
  intro q hq
  obtain ⟨g', o, sp⟩ := q
  simp only [Option.some.injEq] at hq
  subst hq
  have key : ∀ v, w.cell? ⟨g', o, sp⟩ = some v → (∀ k n, v ≠ .int k n) ∧ ∀ s, v ≠ .string s := by
    intro v hv
    unfold World.cell? at hv
    simp only [hb] at hv
    match o with
    | 0 => simp at hv; obtain ⟨_, rfl⟩ := hv; exact ha
    | 1 => simp at hv; obtain ⟨_, rfl⟩ := hv; exact hb2
    | n + 2 => simp at hv
  exact ⟨fun k n h => (key _ h).1 k n rfl, fun s h => (key _ h).2 s rfl⟩
theorem slice_not (A : Option Addr) (n c : Nat) : (∀ k m, (Value.slice A n c) ≠ .int k m) ∧ ∀ s, (Value.slice A n c) ≠ .string s := ⟨fun _ _ => by simp, fun _ => by simp⟩
section
variable {w w' : World} {p g : Nat} {mo : Option Nat} {C A0 A : Option Addr} {cc c0 ca : Nat} {l : List Int} {T : PL} {S : List It}
theorem blk_not {cs cs' : Array Value} {t t' : TypeId} {m m' : Nat × Nat} {a b : Nat} (h : w.heap[a]? = some (.cells cs t m)) (h' : w.heap[b]? = some (.cells cs' t' m')) (ht : t ≠ t') : a ≠ b := by
  rintro rfl
  rw [h] at h'
  simp only [Option.some.injEq, Obj.cells.injEq] at h'
  exact ht h'.2.1
theorem idx_bad (hX : Idx w p mo C cc l T) {cs : Array Value} {t : TypeId} {a : Nat} (h : w.heap[a]? = some (.cells cs t (0, 0))) (ht : t ≠ 63) : ¬ badOf p mo a := by
  rintro (e | e)
  · exact blk_not h hX.blk ht e
  · obtain ⟨f, hf, _⟩ := hX.map
    rw [← e] at hf
    exact map_blk hf h rfl
/-- the document's index stays while the program's turns -/
theorem RIdx.but (hR : RIdx w g A0 c0 l A ca S) (hX : Idx w p mo C cc l T) (hc : Chg w w' (badOf p mo)) : RIdx w' g A0 c0 l A ca S :=
  ⟨(hc.block g hR.lt (idx_bad hX hR.blk (by decide))).trans hR.blk, ints_but hR.ints hc hX.plain, items_but hR.items hc hX.plain⟩
/-- .. and the program's while the document's turns -/
theorem Idx.ref (hX : Idx w p mo C cc l T) (hR : RIdx w g A0 c0 l A ca S) (hg : w.grownBy w' (some g)) : Idx w' p mo C cc l T := by
  refine hX.but (Chg.grown hg) (rblk_plain hR.blk (slice_not _ _ _) (slice_not _ _ _)) (fun e => ?_) fun b e e2 => ?_
  · exact idx_bad hX hR.blk (by decide) (.inl (Option.some.inj e).symm)
  · exact idx_bad hX hR.blk (by decide) (.inr (by rw [e, Option.some.inj e2]))
end
end Go.Proofs.YtjjikooabmddlaaGreatDoor.Items
