/-
  The contract of slices.SortFunc as package zset calls it: a list of items of the call's own is put into the order of its rows.
-/
import Derived.Test.YtlejhimcaidbeaaRowCmpD
import Derived.Test.YtlejhimcaidbeaaItemsAll
import Derived.Test.YtlejhimcaidbeaaShelfSort
import Derived.Lib.OwnBridge
import Derived.Lib.QuietBelow
import Derived.Laws.OwnMore
namespace Go.Proofs.Ytlejhimcaidbeaa.Items
open Go.ChangeShapes Go.WideShapes Go.ChangeAt Go.RowKit Val Go.Proofs.Ytlejhimcaidbeaa.Code Go.Proofs.Ytlejhimcaidbeaa.Elems Go.Proofs.Ytlejhimcaidbeaa.ZP Go.Proofs.Ytlejhimcaidbeaa.Bits
set_option linter.unusedVariables false
set_option maxRecDepth 100000

set_option maxHeartbeats 1000000 in
theorem cmp2_any (x1 y1 : Option Addr) (x2 y2 : Nat) (x3 y3 : List (Int × Int × ByteArray)) (x4 y4 : Int) (w : World) (hx : Vals w w.heap.size x1 x3) (hy : Vals w w.heap.size y1 y3) (lx : x3.length ≤ 140737488355328) (ly : y3.length ≤ 140737488355328) :
    Calls Try.prog 58 #[.agg #[.slice x1 x3.length x2, .int .i64 x4], .agg #[.slice y1 y3.length y2, .int .i64 y4]] w fun e w' => e = .returned (.int .i64 (cmpL x3 y3)) ∧ BelD w.heap.size w w' := by
  have HX := Lib.hid hx
  have HY := Lib.hid hy
  clear hx hy
  go_enter Try.func58, Try.ntmps58
  go_wp2_with fail
  have hb : Below w.heap.size w ((w.alloc (.cells #[.slice x1 x3.length x2, .int .i64 x4] 48)).alloc (.cells #[.slice y1 y3.length y2, .int .i64 y4] 48)) := (below_alloc w _).alloc (by simp) _
  have HB := Lib.hid hb
  refine (rowCompareD_any x1 y1 x2 y2 x3 y3 _ ((HX.out.below hb).more hb.size) ((HY.out.below hb).more hb.size) lx ly).mono ?_
  rintro e w1 ⟨rfl, hb1⟩
  have L1 := Lib.hid (dnext (⟨HB.out, Nat.le_refl _⟩ : BelD w.heap.size w _) HB.out.size hb1)
  clear hb hb1
  go_wp2
  go_ret
  exact ⟨rfl, L1.out⟩

/-- an item whose row lies below n₀ -/
abbrev ItAt (w : World) (n₀ : Nat) : Type := { x : It // Vals w n₀ x.1 x.2.2.1 ∧ x.2.2.1.length ≤ 140737488355328 }
instance (w : World) (n₀ : Nat) : Inhabited (ItAt w n₀) := ⟨⟨(none, 0, [], 0), fun i hi => absurd hi (Nat.not_lt_zero _), by simp⟩⟩
def cfI {w : World} {n₀ : Nat} (x y : ItAt w n₀) : Int := cmpL x.1.2.2.1 y.1.2.2.1
theorem ltOf_iff {w : World} {n₀ : Nat} (x y : ItAt w n₀) : ltOf cfI x y = true ↔ cmpL x.1.2.2.1 y.1.2.2.1 = -1 := by
  unfold ltOf cfI
  have := cmpL_range x.1.2.2.1 y.1.2.2.1
  rw [decide_eq_true_iff]
  omega
theorem swo_items (w : World) (n₀ : Nat) : Go.Sort.SWO (ltOf (cfI (w := w) (n₀ := n₀))) where
  irrefl x := by
    rw [Bool.eq_false_iff]
    intro h
    exact lt_irrefl ((ltOf_iff x x).1 h)
  trans x y z h1 h2 := (ltOf_iff x z).2 (cmpL_lt_trans ((ltOf_iff x y).1 h1) ((ltOf_iff y z).1 h2))
  ntrans x y z h1 h2 := by
    rw [Bool.eq_false_iff] at *
    intro h
    have h3 := (ltOf_iff x z).1 h
    rcases lt_cases x.1.2.2.1 y.1.2.2.1 with e | e | e
    · exact h1 ((ltOf_iff x y).2 e)
    · rw [e] at h3
      exact h2 ((ltOf_iff y z).2 h3)
    · exact h2 ((ltOf_iff y z).2 (cmpL_lt_trans e h3))
def encA {w : World} {n₀ : Nat} (x : ItAt w n₀) : List Value := cellsI x.1

/-- a world that differs from w in one block from n₀ on, and in what it has beyond -/
theorem sorted_below {α : Type} [Inhabited α] {enc : α → List Value} {w : World} {g m n₀ : Nat} {dk : Array α} {os : Array Obj} (hn : n₀ ≤ g) (hz : n₀ ≤ w.heap.size) : Below n₀ w (sortWorldK enc 2 w g 0 m dk os) := by
  have h1 : Below n₀ w (Sort.putRow id (Sort.ahead w m) g 0 (Sort.flatK enc 2 dk)) := Lib.below_putRow (Below.refl n₀ w) hn
  refine ⟨h1.os, h1.tape, h1.output, ?_, fun k hk => ?_⟩
  · have := h1.size
    simp only [sortWorldK, Sort.grow, Array.size_append]
    exact Nat.le_trans this (Nat.le_add_right _ _)
  · have hs := h1.size
    simp only [sortWorldK, Sort.grow]
    rw [Array.getElem?_append_left (by exact Nat.lt_of_lt_of_le hk (Nat.le_trans hz hs))]
    exact h1.block k hk
theorem grown_of_belD {w w' : World} (h : BelD w.heap.size w w') : ∃ q os', w' = Sort.grow (w.drewN q) os' := by
  obtain ⟨⟨d, os⟩, hp⟩ := regrown_of_below h.1
  have hd : w'.drawn = d := by rw [hp]; rfl
  have h2 := h.2
  refine ⟨d - w.drawn, os, ?_⟩
  rw [hp]
  have : redrawn w d = w.drewN (d - w.drawn) := by
    unfold redrawn World.drewN
    congr 1
    omega
  rw [this]

theorem flat_get {w : World} {n₀ : Nat} (l : List (ItAt w n₀)) (t : Nat) (h : t < l.length * 2) : (flatC cellsI (l.map (·.1)))[t]? = some ((encA (l.toArray[t / 2]!))[t % 2]!) := by
  have hi : t / 2 < l.length := by omega
  have h2 := flatC_at cellsI_length (l.map (·.1)) (t / 2) (by simpa using hi) (t % 2) (by omega)
  rw [show t / 2 * 2 + t % 2 = t by omega] at h2
  rw [h2]
  have e1 : l.toArray[t / 2]! = l[t / 2] := by simp [hi]
  rw [e1, List.getElem_map]
  unfold encA
  have h3 : t % 2 = 0 ∨ t % 2 = 1 := by omega
  rcases h3 with h3 | h3 <;> rw [h3] <;> rfl
/-- what slices.SortFunc leaves of items at g -/
def Sorted (w : World) (n₀ g : Nat) (L : List It) (w' : World) : Prop :=
  ∃ M : List It, M.Perm L ∧ M.Pairwise (fun a b => cmpL b.2.2.1 a.2.2.1 ≠ -1) ∧ At cellsI 2 w' w'.heap.size (some ⟨g, 0, none⟩) M ∧ Below n₀ w w'

set_option maxHeartbeats 1000000 in
theorem zsort_any (g cap n₀ : Nat) (L : List It) (w : World) (ho : w.ownsRow n₀ 48 2 (.slice (some ⟨g, 0, none⟩) L.length cap) L.length (flatC cellsI L)) (hv : ∀ x ∈ L, Vals w n₀ x.1 x.2.2.1 ∧ x.2.2.1.length ≤ 140737488355328) (hn : n₀ ≤ w.heap.size) (hl : L.length ≤ 4398046511104) :
    Calls Try.prog 57 #[.slice (some ⟨g, 0, none⟩) L.length cap, .func (.func 58) #[] #[]] w fun e w' => e = .returned (.tuple #[]) ∧ Sorted w n₀ g L w' := by
  obtain ⟨hgn, hgw⟩ := ho.lt g rfl
  obtain ⟨l, hlm⟩ : ∃ l : List (ItAt w n₀), l.map (·.1) = L := ⟨L.pmap (fun x h => ⟨x, h⟩) hv, by rw [List.map_pmap]; simp⟩
  have hll : l.length = L.length := by rw [← hlm]; simp
  have hH : Sort.HoldsK encA 2 w g 0 l.toArray := by
    intro j hj
    rw [Sort.size_flatK] at hj
    have hj' : j < L.length * 2 := by rw [← hll]; simpa using hj
    rw [Sort.get_flatK _ _ _ _ hj, Nat.zero_add]
    refine ⟨?_, ho.frozenAt j⟩
    rw [ho.cellAt j hj', ← hlm, flat_get l j (by omega)]
    rfl
  have hR : RowK (encA (w := w) (n₀ := n₀)) 2 w g 0 l.toArray := ⟨fun _ => rfl, fun x => cellsI_one x.1, hH, hgw⟩
  have hcmp : CmpLays Try.prog 58 #[] (encA (w := w) (n₀ := n₀)) 2 cfI g 0 l.toArray.size w := by
    intro m os dk hs x y
    have hb := sorted_below (enc := encA (w := w) (n₀ := n₀)) (m := m) (dk := dk) (os := os) hgn hn
    have hz := Nat.le_trans hn hb.size
    obtain ⟨⟨x1, x2, x3, x4⟩, hx, lx⟩ := x
    obtain ⟨⟨y1, y2, y3, y4⟩, hy, ly⟩ := y
    refine (cmp2_any x1 y1 x2 y2 x3 y3 x4 y4 _ ((hx.below hb).more hz) ((hy.below hb).more hz) lx ly).mono ?_
    rintro e w' ⟨he, hbd⟩
    exact ⟨he, grown_of_belD hbd⟩
  have eg : ∀ args w, (callFunc 58 args).run Try.prog w = .ok (.enter 58 args) w := enters_of Try.func58 (by kernel_rfl) rfl
  have hsz : l.toArray.size = L.length := by simpa using hll
  have hlim : Lib.bitLen L.length < 4611686018427387904 := Nat.lt_of_le_of_lt (Lib.bitLen_le L.length 62 (by omega) (by omega)) (by omega)
  have hp := AnyQ.pdqsortCmpFunc_all Try.pdqI 2 Try.isAgg48 Try.sizeOf48 encA cfI 58 #[] (swo_items w n₀) g 0 cap l.toArray w eg hcmp hR (L.length + 1) 0 L.length (Lib.bitLen L.length) l.toArray w (by omega) rfl (SWK.start hH) (Nat.zero_le _) (by rw [hsz]; exact Nat.le_refl _) (by rw [hsz]; omega) hlim (Or.inl rfl)
  have hq := Sort.pdq_sorts (ltOf cfI) (swo_items w n₀) l.toArray 0 L.length (Lib.bitLen L.length) true true (Nat.zero_le _) (by rw [hsz]; exact Nat.le_refl _) (Or.inl rfl)
  have hbl : Calls Try.prog 72 #[.int .u64 (L.length : Int)] w fun e w' => e = .returned (.int .i64 (Lib.bitLen L.length : Nat)) ∧ w' = w := by
    have h := Any.bits_Len (SlLaysF0.n15.bits (P := Try.prog) (ρ := Try.pdqI_ren) { Try.pdqI with }) (L.length : Int) w (by omega) (by omega)
    rwa [Int.toNat_natCast] at h
  rw [hsz] at hp
  change Calls Try.prog 71 _ _ _ at hp
  generalize Sort.pdq (ltOf cfI) l.toArray 0 L.length (Lib.bitLen L.length) true true = d' at hp hq
  have HP := Lib.hid hp
  have HQ := Lib.hid hq
  have HR := Lib.hid hR
  have HL := Lib.hid hbl
  have wr : IntKind.u64.wrap (L.length : Int) = L.length := by simp [IntKind.wrap, IntKind.bits, IntKind.signed]; omega
  clear hp hq hR hbl hcmp hH eg ho hv
  go_enter Try.func57, Try.ntmps57
  go_wp2_with fail
  refine HL.out.mono ?_
  rintro e w1 ⟨rfl, rfl⟩
  go_wp2_with fail
  refine HP.out.mono ?_
  rintro e w2 ⟨rfl, hw2⟩
  have H2 := Lib.hid hw2
  clear hw2
  go_wp2
  go_end0
  refine ⟨rfl, ?_⟩
  obtain ⟨⟨hs1, _, hperm⟩, hsorted⟩ := HQ.out
  have hs2 : d'.size = l.toArray.size := hs1
  have hs3 : d'.size = L.length := hs2.trans hsz
  have hh := H2.out.holds HR.out.hblk HR.out.hH hs2
  have hb2 : Below n₀ w1 w2 := by
    obtain ⟨m, os, e⟩ := H2.out
    rw [e]
    exact sorted_below hgn hn
  refine ⟨d'.toList.map (·.1), ?_, ?_, ?_, hb2⟩
  · rw [show d'.extract 0 L.length = d' by rw [← hs3]; simp, show l.toArray.extract 0 L.length = l.toArray by rw [← hsz]; simp] at hperm
    rw [← hlm]
    exact (by simpa using hperm : d'.toList.Perm l).map _
  · rw [List.pairwise_map, List.pairwise_iff_getElem]
    intro i j hi hj hij
    have h1 := hsorted i j (Nat.zero_le _) hij (by rw [← hs3]; simpa using hj)
    simp only [Array.length_toList] at hi hj
    rw [getElem!_pos d' i hi, getElem!_pos d' j hj] at h1
    intro h2
    rw [(ltOf_iff _ _).2 (by simpa using h2)] at h1
    cases h1
  · intro i hi
    have hi' : i < d'.size := by simpa using hi
    refine ⟨⟨g, 0, none⟩, rfl, Nat.lt_of_lt_of_le hgw H2.out.le, fun j u hu => ?_⟩
    have hj : j < 2 := by
      have := (List.getElem?_eq_some_iff.1 hu).1
      rwa [cellsI_length] at this
    have h1 := (hh.cell hi' hj).1
    rw [show (({ block := g, off := 0 } : Addr).add (i * 2 + j)) = ⟨g, 0 + i * 2 + j, none⟩ by rw [Addr.add_lit]; congr 1; omega]
    rw [h1, getElem!_pos d' i hi']
    rw [List.getElem_map, Array.getElem_toList] at hu
    have h3 : j = 0 ∨ j = 1 := by omega
    rcases h3 with rfl | rfl
    · simpa [encA, cellsI] using hu
    · simpa [encA, cellsI] using hu
end Go.Proofs.Ytlejhimcaidbeaa.Items
