/-
  The program's Right of columns, and parts of lists of columns.
-/
import Derived.Test.YtkibacolnagkcaaM17
import Derived.Test.YtkibacolnagkcaaM13
import Derived.Test.YtkibacolnagkcaaM14
import Derived.Deep.RegionLaw
import Derived.Test.YtkibacolnagkcaaM10
import Derived.Test.YtkibacolnagkcaaM8
import Derived.Test.YtkibacolnagkcaaM16
namespace Go.Proofs.Ytkibacolnagkcaa.Code
open Go.ChangeShapes Go.WideShapes Go.ChangeAt Go.RowKit Val Elems
set_option linter.unusedVariables false
set_option linter.unusedSimpArgs false
/-- the first ones of a list -/
theorem run_cutH (ad : Addr) (n c h : Nat) (hc : h ≤ c) (w : World) :
    (Instr.slice 36 (.slice (some ad) n c) none (some (.int .i64 (h : Nat))) none).run Try.prog w = .ok (.slice (some ad) h c) w := by
  have hu : Try.prog.underlying 36 = some (.slice (Try.prog.elem 36)) := by kernel_rfl
  have hz : ∀ w, (sizeOf (Try.prog.elem 36)).run Try.prog w = .ok 3 w := fun w => by kernel_rfl
  rw [run_slice_h w 36 _ _ _ hu .i64 h (by omega) (by omega), hz]
  simp only [Result.andThen, sliced, Int.toNat_natCast, Nat.zero_mul, Nat.sub_zero]
  split
  · rfl
  · simp [Addr.add]
/-- those behind a place -/
theorem run_cutL (ad : Addr) (n c h : Nat) (hc : h ≤ n) (w : World) :
    (Instr.slice 36 (.slice (some ad) n c) (some (.int .i64 (h : Nat))) none none).run Try.prog w = .ok (.slice (if c = h then some ad else some (ad.add (h * 3))) (n - h) (c - h)) w := by
  have hu : Try.prog.underlying 36 = some (.slice (Try.prog.elem 36)) := by kernel_rfl
  have hz : ∀ w, (sizeOf (Try.prog.elem 36)).run Try.prog w = .ok 3 w := fun w => by kernel_rfl
  rw [run_slice_l w 36 _ _ _ hu .i64 h (by omega) (by omega), hz]
  simp only [Result.andThen, sliced, Int.toNat_natCast]
  rfl
theorem at_behind {w : World} {B : Nat} {ad : Addr} {l : List W} {c : Nat} (h : At wc 3 w B (some ad) l) (hc : l.length ≤ c) (n : Nat) : At wc 3 w B (if c = n then some ad else some (ad.add (n * 3))) (l.drop n) := by
  intro i hi
  rw [List.length_drop] at hi
  rw [if_neg (by omega)]
  obtain ⟨ad', e, hb, h0⟩ := h (n + i) (by omega)
  cases e
  refine ⟨_, rfl, by rw [add_block]; exact hb, fun j u hu => ?_⟩
  rw [Go.Deep.add_add, show n * 3 + (i * 3 + j) = (n + i) * 3 + j by omega]
  rw [List.getElem_drop] at hu
  exact h0 j u hu
end Go.Proofs.Ytkibacolnagkcaa.Code
/-
  Contracts of the program's Wider and Name of kinds.
-/
namespace Go.Proofs.Ytkibacolnagkcaa.Val
open Go.ChangeShapes Go.WideShapes Go.ChangeAt Go.RowKit
set_option linter.unusedVariables false
theorem wider_out (k t : Int) (h : k ≠ t) (h0 : t ≠ 0) (h1 : t ≠ 1) (h2 : t ≠ 2) : widerB k t = false := by
  unfold widerB
  rw [if_neg (by omega)]
  exact decide_eq_false (by omega)
set_option maxHeartbeats 1000000 in
theorem wider_any (k t : Int) (w : World) :
    Calls Try.prog 74 #[.int .i64 k, .int .i64 t] w fun e w' => e = .returned (.bool (widerB k t)) ∧ w = w' := by
  rcases kinds k with rfl | rfl | rfl | rfl | rfl | ⟨k0, k1, k2, k3, k4⟩
  iterate 5
    · rcases kinds t with rfl | rfl | rfl | rfl | rfl | ⟨t0, t1, t2, t3, t4⟩
      iterate 5
        · go_enter Try.func74, Try.ntmps74
          go_wp2
          go_ret
          exact ⟨retB (by decide), rfl⟩
      · go_enter Try.func74, Try.ntmps74
        go_wp2
        go_ret
        simp at t0 t1 t2 t3 t4
        exact ⟨retB (wider_out _ t (by omega) t0 t1 t2).symm, rfl⟩
  · go_enter Try.func74, Try.ntmps74
    go_wp2
    go_ret
    simp at k0 k1 k2 k3 k4
    exact ⟨retB (by unfold widerB; split <;> exact (decide_eq_false (by omega)).symm), rfl⟩
end Go.Proofs.Ytkibacolnagkcaa.Val
/-
  A block of texts that the call made (cut out of RowShow). No function of the program is named here.
-/
namespace Go.Proofs.Ytkibacolnagkcaa.Code
open Go.ChangeShapes Go.WideShapes Go.ChangeAt Go.RowKit Val
set_option linter.unusedVariables false
/-- a block of texts, made by the call -/
def SBlk (w : World) (g : Nat) (D : List ByteArray) : Prop := w.heap[g]? = some (.cells (D.map Value.string).toArray 9 (0, 0))
theorem SBlk.lt {w : World} {g : Nat} {D : List ByteArray} (h : SBlk w g D) : g < w.heap.size := (Array.getElem?_eq_some_iff.1 h).1
theorem SBlk.call {w w' : World} {g : Nat} {D : List ByteArray} (h : SBlk w g D) (hb : Below w.heap.size w w') : SBlk w' g D := (hb.block g h.lt).trans h
theorem SBlk.cell {w : World} {g : Nat} {D : List ByteArray} (h : SBlk w g D) (j : Nat) (x : ByteArray) (hx : D[j]? = some x) : w.cell? ⟨g, j, none⟩ = some (.string x) := by
  unfold SBlk at h
  simp [World.cell?, h, hx]
theorem SBlk.free {w : World} {g : Nat} {D : List ByteArray} (h : SBlk w g D) (j : Nat) : w.frozen? ⟨g, j, none⟩ = false := by
  unfold SBlk at h
  simp [World.frozen?, h]
theorem SBlk.set {w : World} {g : Nat} {D : List ByteArray} (h : SBlk w g D) (k : Nat) (x : ByteArray) : SBlk (w.setCell ⟨g, k, none⟩ (.string x)) g (D.set k x) := by
  unfold SBlk at *
  rw [setCell_eq_setRow w g _ _ _ _ _ h, setRow_heap w g _ _ _ _ h, List.map_set]
  simp
theorem info_str : (Try.prog.info? 9).map (fun i => (i.zero, i.size, i.bytes)) = some (some (.string ByteArray.empty), 1, 16) := by kernel_rfl
theorem made_strs (n : Nat) : madeCells #[Value.string ByteArray.empty] (n * 1) = Array.replicate n (Value.string ByteArray.empty) := by
  apply Array.toList_inj.1
  rw [toList_madeCells_one, Nat.mul_one]
  simp
theorem SBlk.fresh (w : World) (n : Nat) : SBlk (w.alloc (.cells (Array.replicate n (Value.string ByteArray.empty)) 9)) w.heap.size (List.replicate n ByteArray.empty) := by
  unfold SBlk
  rw [heap_alloc_new]
  simp
theorem wpList_make_strs {P : Program} (w : World) {ops : Array Oper} {rest : List Oper} {o : Oper} {a : Act} {Q : Exit → Act → World → Prop}
    (hg : o.guard = none) (l c : Operand) (t : TypeId) (hop : o.op = Op.makeSlice t l c) (e : TypeId) (i : TypeInfo) (h1 : P.underlying t = some (.slice e)) (h2 : P.info? e = some i)
    (h3 : i.zero = some (.string ByteArray.empty)) (h4 : i.size = 1) (h5 : i.bytes = 16)
    (kl kc : IntKind) (L C : Int) (n : Nat) (hl : a.eval l = .int kl L) (hc : a.eval c = .int kc C) (hL : L = (n : Int)) (hC : C = (n : Int)) (b : n ≤ 8796093022208)
    (hK : wpList P ops Q rest (a.put o.dst (.slice (some ⟨w.heap.size, 0, none⟩) n n)) (w.alloc (.cells (Array.replicate n (Value.string ByteArray.empty)) e))) :
    wpList P ops Q (o :: rest) a w := by
  refine wpList_plain hg fun K hK' => ?_
  have hr := run_make (P := P) w t e i _ h1 h2 h3 kl kc n n (by omega) (Int.le_refl _) (by rw [h5]; omega) (by omega)
  rw [Int.toNat_natCast, h4, show (Value.string ByteArray.empty).cells = #[Value.string ByteArray.empty] by rfl, made_strs] at hr
  subst hL
  subst hC
  unfold Oper.wp
  simp [execOp, hop, hl, hc, hr, Result.andThen]
  exact hK' _ _ hK
theorem sfill_set (X : List ByteArray) (n : Nat) (hn : 0 < n) (v : ByteArray) : (X ++ List.replicate n ByteArray.empty).set X.length v = (X ++ [v]) ++ List.replicate (n - 1) ByteArray.empty := by
  obtain ⟨m, rfl⟩ : ∃ m, n = m + 1 := ⟨n - 1, by omega⟩
  rw [List.set_append_right _ _ (Nat.le_refl _), Nat.sub_self, List.replicate_succ, List.set_cons_zero, Nat.add_sub_cancel, List.append_assoc]
  rfl
end Go.Proofs.Ytkibacolnagkcaa.Code
/-
  The program's Alike, Kinds and Show of columns.
-/
namespace Go.Proofs.Ytkibacolnagkcaa.Code
open Go.ChangeShapes Go.WideShapes Go.ChangeAt Go.RowKit Val Elems
set_option linter.unusedVariables false
set_option linter.unusedSimpArgs false
set_option maxRecDepth 100000
/-- a block of kinds, made by the call -/
def KBlk (w : World) (g : Nat) (D : List Int) : Prop := w.heap[g]? = some (.cells (D.map (Value.int .i64)).toArray 32 (0, 0))
theorem KBlk.lt {w : World} {g : Nat} {D : List Int} (h : KBlk w g D) : g < w.heap.size := (Array.getElem?_eq_some_iff.1 h).1
theorem KBlk.call {w w' : World} {g : Nat} {D : List Int} (h : KBlk w g D) (hb : Below w.heap.size w w') : KBlk w' g D := (hb.block g h.lt).trans h
theorem KBlk.cell {w : World} {g : Nat} {D : List Int} (h : KBlk w g D) (j : Nat) (x : Int) (hx : D[j]? = some x) : w.cell? ⟨g, j, none⟩ = some (.int .i64 x) := by
  unfold KBlk at h
  simp [World.cell?, h, hx]
theorem KBlk.free {w : World} {g : Nat} {D : List Int} (h : KBlk w g D) (j : Nat) : w.frozen? ⟨g, j, none⟩ = false := by
  unfold KBlk at h
  simp [World.frozen?, h]
theorem KBlk.set {w : World} {g : Nat} {D : List Int} (h : KBlk w g D) (k : Nat) (x : Int) : KBlk (w.setCell ⟨g, k, none⟩ (.int .i64 x)) g (D.set k x) := by
  unfold KBlk at *
  rw [setCell_eq_setRow w g _ _ _ _ _ h, setRow_heap w g _ _ _ _ h, List.map_set]
  simp
theorem KBlk.at {w : World} {g B : Nat} {D : List Int} (h : KBlk w g D) (hg : g < B) : At kc 1 w B (some ⟨g, 0, none⟩) D := by
  intro i hi
  refine ⟨⟨g, 0, none⟩, rfl, hg, fun j u hu => ?_⟩
  match j, hu with
  | 0, hu =>
    simp [kc] at hu
    subst hu
    rw [Addr.add_lit]
    simpa using h.cell i _ (List.getElem?_eq_getElem hi)
theorem made_kinds (n : Nat) : madeCells #[Value.int .i64 0] (n * 1) = Array.replicate n (Value.int .i64 0) := by
  apply Array.toList_inj.1
  rw [toList_madeCells_one, Nat.mul_one]
  simp
theorem KBlk.fresh (w : World) (n : Nat) : KBlk (w.alloc (.cells (Array.replicate n (Value.int .i64 0)) 32)) w.heap.size (List.replicate n 0) := by
  unfold KBlk
  rw [heap_alloc_new]
  simp
theorem wpList_make_kinds {P : Program} (w : World) {ops : Array Oper} {rest : List Oper} {o : Oper} {a : Act} {Q : Exit → Act → World → Prop}
    (hg : o.guard = none) (l c : Operand) (t : TypeId) (hop : o.op = Op.makeSlice t l c) (e : TypeId) (i : TypeInfo) (h1 : P.underlying t = some (.slice e)) (h2 : P.info? e = some i)
    (h3 : i.zero = some (.int .i64 0)) (h4 : i.size = 1) (h5 : i.bytes = 8)
    (kl kc : IntKind) (L C : Int) (n : Nat) (hl : a.eval l = .int kl L) (hc : a.eval c = .int kc C) (hL : L = (n : Int)) (hC : C = (n : Int)) (b : n ≤ 8796093022208)
    (hK : wpList P ops Q rest (a.put o.dst (.slice (some ⟨w.heap.size, 0, none⟩) n n)) (w.alloc (.cells (Array.replicate n (Value.int .i64 0)) e))) :
    wpList P ops Q (o :: rest) a w := by
  refine wpList_plain hg fun K hK' => ?_
  have hr := run_make (P := P) w t e i _ h1 h2 h3 kl kc n n (by omega) (Int.le_refl _) (by rw [h5]; omega) (by omega)
  rw [Int.toNat_natCast, h4, show (Value.int .i64 0).cells = #[Value.int .i64 0] by rfl, made_kinds] at hr
  subst hL
  subst hC
  unfold Oper.wp
  simp [execOp, hop, hl, hc, hr, Result.andThen]
  exact hK' _ _ hK
theorem kfill_set (X : List Int) (n : Nat) (hn : 0 < n) (v : Int) : (X ++ List.replicate n 0).set X.length v = (X ++ [v]) ++ List.replicate (n - 1) 0 := by
  obtain ⟨m, rfl⟩ : ∃ m, n = m + 1 := ⟨n - 1, by omega⟩
  rw [List.set_append_right _ _ (Nat.le_refl _), Nat.sub_self, List.replicate_succ, List.set_cons_zero, Nat.add_sub_cancel, List.append_assoc]
  rfl
set_option maxHeartbeats 4000000 in
theorem skinds_any (A : Option Addr) (cap : Nat) (l : List W) (w : World) (hv : At wc 3 w w.heap.size A l) (hl : l.length ≤ 4194304) :
    Calls Try.prog 36 #[.slice A l.length cap] w fun e w' => ∃ (A' : Option Addr) (cap' : Nat), e = .returned (.slice A' l.length cap') ∧ At kc 1 w' w'.heap.size A' (kindsC l) ∧ Below w.heap.size w w' := by
  have HV := Lib.hid hv
  clear hv
  obtain ⟨i0, hi0, hz0, hz1, hz2⟩ := info_parts info_kind
  go_enter Try.func36, Try.ntmps36
  go_wp2_with (at_make; refine wpList_make_kinds _ rfl _ _ 53 rfl 32 i0 Try.underlying53 hi0 hz0 hz1 hz2 _ _ _ _ l.length rfl rfl rfl rfl (by omega) ?_)
  have HB0 := Lib.hid (KBlk.fresh w l.length)
  have HL0 := Lib.hid (below_alloc w (.cells (Array.replicate l.length (Value.int .i64 0)) 32))
  go_wp2
  go_loopw [10] (fun i wr => ∃ k : Nat, k ≤ l.length ∧ i = .int .i64 k ∧ KBlk wr w.heap.size (kindsC (l.take k) ++ List.replicate (l.length - k) 0) ∧ Below w.heap.size w wr) (fun i _ => l.length - (intOf i).toNat)
  case atStart => exact ⟨0, by omega, rfl, by simpa [kindsC] using HB0.out, HL0.out⟩
  case round =>
    obtain ⟨k, hk, rfl, hblk, hbel⟩ := hrel
    have hsz := hbel.size
    have hlt := hblk.lt
    have HL := Lib.hid hbel
    have HB := Lib.hid hblk
    have VA := Lib.hid (HV.out.below hbel)
    clear hbel hblk
    have HX := Lib.hid (show (kindsC (l.take k)).length = k by unfold kindsC; rw [List.length_map, List.length_take_of_le hk])
    by_cases hkl : k < l.length
    · obtain ⟨ad, rfl, ha, c0, c1, c2⟩ := at_word VA.out k hkl
      have HS := Lib.hid (kinds_take l k hkl)
      have HE := Lib.hid (show (kindsC (l.take k) ++ List.replicate (l.length - k) 0).set k l[k].2.2 = kindsC (l.take (k + 1)) ++ List.replicate (l.length - (k + 1)) 0 by
        have e := kfill_set (kindsC (l.take k)) (l.length - k) (by omega) l[k].2.2
        rw [HX.out, Nat.sub_sub] at e
        rw [e, HS.out])
      have b0 : ∃ y, wr.cell? ⟨w.heap.size, k, none⟩ = some (.int .i64 y) := by
        have hlen : k < (kindsC (l.take k) ++ List.replicate (l.length - k) 0).length := by rw [List.length_append, HX.out]; simp; omega
        exact ⟨_, HB.out.cell k _ (List.getElem?_eq_getElem hlen)⟩
      obtain ⟨y, b0⟩ := b0
      have f0 := HB.out.free k
      obtain ⟨x, hx⟩ : ∃ x, l[k].2.2 = x := ⟨_, rfl⟩
      rw [hx] at c2 HE
      have hlt2 : w.heap.size < wr.heap.size := hlt
      clear hx c0 c1 HS
      go_wp2
      go_roundw
      case rel => exact ⟨k + 1, by omega, by go_num, by have h := HB.out.set k x; rw [HE.out] at h; exact h, HL.out.setCell (Nat.le_refl _) _⟩
      case measure => simp [intOf]; omega
    · obtain rfl : k = l.length := by omega
      rw [List.take_length] at HB
      have HB2 := Lib.hid (show KBlk wr w.heap.size (kindsC l) by simpa using HB.out)
      go_wp2
      go_ret
      exact ⟨_, _, rfl, HB2.out.at hlt, HL.out⟩
def ctexts (l : List W) : List ByteArray := l.map fun c => ⟨(colT c).toArray⟩
theorem ctexts_length (l : List W) : (ctexts l).length = l.length := by simp [ctexts]
theorem ctexts_snoc (l : List W) (k : Nat) (h : k < l.length) : ctexts (l.take (k + 1)) = ctexts (l.take k) ++ [⟨(colT l[k]).toArray⟩] := by
  unfold ctexts
  rw [List.take_succ_eq_append_getElem h, List.map_append]
  rfl
theorem ctexts_data (l : List W) : (ctexts l).map (·.data.toList) = l.map colT := by
  unfold ctexts
  rw [List.map_map]
  congr 1
theorem colT_le {c : W} (h : c.2.1.length ≤ 1000) : (colT c).length ≤ 1006 := by
  unfold colT
  have := nameS_le c.2.2
  rw [List.length_append, List.length_append]
  have h2 : (nameS c.2.2).data.toList.length = (nameS c.2.2).size := by rw [Array.length_toList]; rfl
  simp only [List.length_cons, List.length_nil]
  omega
theorem showC_length (l : List W) (h : ∀ c ∈ l, c.2.1.length ≤ 1000) : (showC l).length ≤ 1008 * l.length := by
  unfold showC
  cases l with
  | nil => simp [Lib.join_nil]
  | cons v l =>
    rw [List.map_cons, Lib.join_length]
    have := lens_le ((v :: l).map colT) 1006 (by intro x hx; obtain ⟨y, hy, rfl⟩ := List.mem_map.1 hx; exact colT_le (h y hy))
    simp only [List.map_cons, List.length_cons, List.length_map, List.length_nil] at *
    omega
end Go.Proofs.Ytkibacolnagkcaa.Code
/-
  The program's each, of kinds and of values: what nodes come to, one by one; a function is handed in.
-/
namespace Go.Proofs.Ytkibacolnagkcaa.Code
open Go.ChangeShapes Go.WideShapes Go.ChangeAt Go.RowKit Val Elems
set_option linter.unusedVariables false
set_option linter.unusedSimpArgs false
/-- what a list comes to, one by one; the first error alone, if one has one -/
def eachL {α : Type} (f : Nod → α × Int) : List Nod → List α × Int
  | [] => ([], 0)
  | t :: l => if (f t).2 = 0 then (if (eachL f l).2 = 0 then ((f t).1 :: (eachL f l).1, 0) else ([], (eachL f l).2)) else ([], (f t).2)
theorem each_type (cols : List W) : ∀ l : List Nod, typeL cols l = eachL (typeE cols) l
  | [] => rfl
  | t :: l => by rw [typeL, eachL, each_type cols l]
theorem each_val (cols : List W) (row : List CV) : ∀ l : List Nod, valL cols row l = eachL (valE cols row) l
  | [] => rfl
  | t :: l => by rw [valL, eachL, each_val cols row l]
theorem each_ok {α : Type} (f : Nod → α × Int) : ∀ l : List Nod, (∀ (j : Nat) (h : j < l.length), (f l[j]).2 = 0) → eachL f l = (l.map (fun t => (f t).1), 0)
  | [], _ => rfl
  | t :: l, h => by
    have h0 : (f t).2 = 0 := h 0 (by simp)
    have h1 := each_ok f l (fun j hj => h (j + 1) (by simp; omega))
    rw [eachL, if_pos h0, h1, if_pos rfl]
    rfl
theorem each_bad {α : Type} (f : Nod → α × Int) : ∀ (l : List Nod) (i : Nat) (hi : i < l.length), (∀ (j : Nat) (h : j < l.length), j < i → (f l[j]).2 = 0) → (f l[i]).2 ≠ 0 → eachL f l = ([], (f l[i]).2)
  | [], i, hi, _, _ => absurd hi (Nat.not_lt_zero _)
  | t :: l, 0, hi, _, hb => by
    have hb : (f t).2 ≠ 0 := hb
    rw [eachL, if_neg hb]
    rfl
  | t :: l, i + 1, hi, h, hb => by
    have h0 : (f t).2 = 0 := h 0 (by simp) (by omega)
    have hb : (f (l[i]'(by simp at hi; omega))).2 ≠ 0 := hb
    have h1 := each_bad f l i (by simp at hi; omega) (fun j hj hji => h (j + 1) (by simp; omega) (by omega)) hb
    rw [eachL, if_pos h0, h1, if_neg hb]
    rfl
theorem map_take {α β : Type} (f : α → β) (l : List α) (k : Nat) (h : k < l.length) : (l.take (k + 1)).map f = (l.take k).map f ++ [f l[k]] := by
  rw [List.take_succ_eq_append_getElem h, List.map_append]
  rfl
theorem at_ints {w : World} {B : Nat} {A : Option Addr} {l : List Int} (h : At kc 1 w B A l) : Ints w B A l := by
  intro i hi
  obtain ⟨ad, e, hb, h0⟩ := h i hi
  refine ⟨ad, e, hb, ?_⟩
  have := h0 0 _ rfl
  simpa using this
theorem vfill_set (X : List CV) (n : Nat) (hn : 0 < n) (v : CV) : (X ++ List.replicate n zV).set X.length v = (X ++ [v]) ++ List.replicate (n - 1) zV := by
  obtain ⟨m, rfl⟩ : ∃ m, n = m + 1 := ⟨n - 1, by omega⟩
  rw [List.set_append_right _ _ (Nat.le_refl _), Nat.sub_self, List.replicate_succ, List.set_cons_zero, Nat.add_sub_cancel, List.append_assoc]
  rfl
/-- what a function that is handed in tells of each Kid -/
def TellK (fn : Nat) (cps : Array Value) (f : Nod → Int × Int) (ks : List Nod) (S : Nat → Prop) (w : World) : Prop :=
  ∀ (k : Nat) (hk : k < ks.length) (op tx : ByteArray) (X : Option Addr) (n m : Nat) (w' : World), Below w.heap.size w w' → RIn w' S ks[k] (op, tx, X, n, m) →
    Calls Try.prog fn (#[.agg #[.string op, .string tx, .slice X n m]] ++ cps) w' fun e w'' => e = .returned (.tuple #[.int .i64 (f ks[k]).1, .int .i64 (f ks[k]).2]) ∧ Below w'.heap.size w' w''
def TellV (fn : Nat) (ms : Array Value) (f : Nod → CV × Int) (ks : List Nod) (S : Nat → Prop) (w : World) : Prop :=
  ∀ (k : Nat) (hk : k < ks.length) (op tx : ByteArray) (X : Option Addr) (n m : Nat) (w' : World), Below w.heap.size w w' → RIn w' S ks[k] (op, tx, X, n, m) →
    Calls Try.prog fn (ms ++ #[.agg #[.string op, .string tx, .slice X n m]]) w' fun e w'' => e = .returned (.tuple #[.agg #[.int .i64 (f ks[k]).1.1, .int .i64 (f ks[k]).1.2.1, .string (f ks[k]).1.2.2], .int .i64 (f ks[k]).2]) ∧ Below w'.heap.size w' w''
/-- the kinds, and the error -/
def KsPost (w : World) (r : List Int × Int) (e : Ending) (w' : World) : Prop :=
  ∃ (A : Option Addr) (cap : Nat), e = .returned (.tuple #[.slice A r.1.length cap, .int .i64 r.2]) ∧ Ints w' w'.heap.size A r.1 ∧ Below w.heap.size w w'
/-- a list of values in a new block -/
def OwnV (w w' : World) (A : Option Addr) (l : List CV) : Prop := 0 < l.length → ∃ g, A = some ⟨g, 0, none⟩ ∧ w.heap.size ≤ g ∧ Blk w' g l
theorem OwnV.vals {w w' : World} {A : Option Addr} {l : List CV} (h : OwnV w w' A l) : Vals w' w'.heap.size A l := by
  intro i hi
  obtain ⟨g, rfl, _, hb⟩ := h (by omega)
  exact hb.vals i hi
theorem OwnV.below {w w1 w2 : World} {A : Option Addr} {l : List CV} (h : OwnV w w1 A l) (hb : Below w1.heap.size w1 w2) : OwnV w w2 A l := by
  intro hl
  obtain ⟨g, e, h1, h2⟩ := h hl
  exact ⟨g, e, h1, h2.call hb⟩
def VsPost (w : World) (r : List CV × Int) (e : Ending) (w' : World) : Prop :=
  ∃ (A : Option Addr) (cap : Nat), e = .returned (.tuple #[.slice A r.1.length cap, .int .i64 r.2]) ∧ OwnV w w' A r.1 ∧ Below w.heap.size w w'
theorem ks_bad {w w' : World} {r : List Int × Int} {c : Int} (h : r = ([], c)) (hb : Below w.heap.size w w') : KsPost w r (.returned (.tuple #[.slice none 0 0, .int .i64 c])) w' := by
  subst h
  exact ⟨none, 0, rfl, fun i hi => absurd hi (Nat.not_lt_zero _), hb⟩
theorem vs_bad {w w' : World} {r : List CV × Int} {c : Int} (h : r = ([], c)) (hb : Below w.heap.size w w') : VsPost w r (.returned (.tuple #[.slice none 0 0, .int .i64 c])) w' := by
  subst h
  exact ⟨none, 0, rfl, fun hi => absurd hi (Nat.not_lt_zero _), hb⟩
theorem ks_ok {w w' : World} {r : List Int × Int} {l : List Int} {g n : Nat} (h : r = (l, 0)) (hn : n = l.length) (hB : KBlk w' g l) (hb : Below w.heap.size w w') : KsPost w r (.returned (.tuple #[.slice (some ⟨g, 0, none⟩) n n, .int .i64 0])) w' := by
  subst h hn
  exact ⟨some ⟨g, 0, none⟩, _, rfl, at_ints (hB.at hB.lt), hb⟩
theorem vs_ok {w w' : World} {r : List CV × Int} {l : List CV} {g n : Nat} (h : r = (l, 0)) (hn : n = l.length) (hg : w.heap.size ≤ g) (hB : Blk w' g l) (hb : Below w.heap.size w w') : VsPost w r (.returned (.tuple #[.slice (some ⟨g, 0, none⟩) n n, .int .i64 0])) w' := by
  subst h hn
  exact ⟨some ⟨g, 0, none⟩, _, rfl, fun _ => ⟨g, rfl, hg, hB⟩, hb⟩
set_option maxHeartbeats 8000000 in
set_option maxRecDepth 100000 in
theorem eachK_any (fn : Nat) (en : ∀ args w, (callFunc fn args).run Try.prog w = .ok (.enter fn args) w) (cps : Array Value) (f : Nod → Int × Int) (t : Nod) (S : Nat → Prop) (op tx : ByteArray) (X : Option Addr) (n m : Nat) (w : World) (hS : ∀ g, S g → g < w.heap.size) (hn : RIn w S t (op, tx, X, n, m)) (hf : TellK fn cps f t.ks S w) :
    Calls Try.prog 17 #[.slice X n m, .func (.func fn) #[] cps] w (KsPost w (eachL f t.ks)) := by
  obtain ⟨-, -, e3, hkl⟩ := hn.texts
  dsimp only at e3
  subst e3
  obtain ⟨o9, x9, ks⟩ := t
  dsimp only [Nod.ks] at hf hkl hn ⊢
  have HN := Lib.hid (fun (w' : World) (hb : Below w.heap.size w w') (k : Nat) (hk : k < ks.length) => (hn.bel hS hb).kid k hk)
  dsimp only [Nod.ks] at HN
  have HF := Lib.hid hf
  have HS := Lib.hid hS
  clear hS hn hf
  obtain ⟨i0, hi0, hz0, hz1, hz2⟩ := info_parts info_kind
  go_enter Try.func17, Try.ntmps17
  go_wp2_with (at_make; refine wpList_make_kinds _ rfl _ _ 53 rfl 32 i0 Try.underlying53 hi0 hz0 hz1 hz2 _ _ _ _ ks.length rfl rfl rfl rfl (by omega) ?_)
  have HB0 := Lib.hid (KBlk.fresh w ks.length)
  have HL0 := Lib.hid (below_alloc w (.cells (Array.replicate ks.length (Value.int .i64 0)) 32))
  go_wp2
  go_loopw [16] (fun i wr => ∃ k : Nat, k ≤ ks.length ∧ i = .int .i64 k ∧ (∀ (j : Nat) (hj : j < ks.length), j < k → (f ks[j]).2 = 0) ∧ KBlk wr w.heap.size ((ks.take k).map (fun t => (f t).1) ++ List.replicate (ks.length - k) 0) ∧ Below w.heap.size w wr) (fun i _ => ks.length - (intOf i).toNat)
  case atStart => exact ⟨0, by omega, rfl, fun j _ h => absurd h (Nat.not_lt_zero _), by simpa using HB0.out, HL0.out⟩
  case round =>
    obtain ⟨k, hk, rfl, hno, hblk, hbel⟩ := hrel
    have hsz := hbel.size
    have hlt := hblk.lt
    have HL := Lib.hid hbel
    have HB := Lib.hid hblk
    have HNO := Lib.hid hno
    clear hbel hblk hno
    have HX := Lib.hid (show ((ks.take k).map (fun t => (f t).1)).length = k by rw [List.length_map, List.length_take_of_le hk])
    by_cases hkl2 : k < ks.length
    · obtain ⟨ad, ⟨op', tx', X', n', m'⟩, eA, hS', q0, q1, q2, hk'⟩ := HN.out wr HL.out k hkl2
      dsimp only at eA q0 q1 q2
      subst eA
      obtain ⟨q, hq⟩ : ∃ q, ad.add (k * 3) = q := ⟨_, rfl⟩
      have hbq : q.block < wr.heap.size := by rw [← hq, add_block]; have := HS.out _ hS'; omega
      rw [hq] at q0 q1 q2
      obtain ⟨W0, hW0⟩ : ∃ W0, wr.alloc (.cells #[.string op', .string tx', .slice X' n' m'] 24) = W0 := ⟨_, rfl⟩
      have L0 := Lib.hid (show Below w.heap.size w W0 by rw [← hW0]; exact HL.out.trans ((below_alloc wr _).mono HL.out.size))
      have N0 := Lib.hid (show NBox W0 wr.heap.size (.string op') (.string tx') (.slice X' n' m') by rw [← hW0]; exact NBox.fresh _ _ _ _ _)
      have B0 := Lib.hid (show KBlk W0 w.heap.size ((ks.take k).map (fun t => (f t).1) ++ List.replicate (ks.length - k) 0) by rw [← hW0]; exact HB.out.call (below_alloc wr _))
      have HC := Lib.hid (HF.out k hkl2 op' tx' X' n' m' W0 L0.out (hk'.keep (fun g h => h) (fun p hp => by rw [← hW0]; exact (below_alloc wr _).cell (Nat.lt_of_lt_of_le (HS.out _ hp) hsz))))
      have HS2 := Lib.hid (map_take (fun t => (f t).1) ks k hkl2)
      have HBAD := Lib.hid (fun h => each_bad f ks k hkl2 HNO.out h)
      have HNO2 := Lib.hid (fun (h : (f ks[k]).2 = 0) => show ∀ (j : Nat) (hj : j < ks.length), j < k + 1 → (f ks[j]).2 = 0 from fun j hj h2 => if e : j = k then by subst e; exact h else HNO.out j hj (by omega))
      obtain ⟨r, hr⟩ : ∃ r, f ks[k] = r := ⟨_, rfl⟩
      rw [hr] at HC HS2 HBAD HNO2
      obtain ⟨rk, re⟩ := r
      dsimp only at HC HS2 HBAD HNO2
      have HE := Lib.hid (show ((ks.take k).map (fun t => (f t).1) ++ List.replicate (ks.length - k) 0).set k rk = (ks.take (k + 1)).map (fun t => (f t).1) ++ List.replicate (ks.length - (k + 1)) 0 by
        have e := kfill_set ((ks.take k).map (fun t => (f t).1)) (ks.length - k) (by omega) rk
        rw [HX.out, Nat.sub_sub] at e
        rw [e, HS2.out])
      have hz0 : w.heap.size < W0.heap.size := B0.out.lt
      have HW0 := Lib.hid hW0
      have bi0 : (0 : Int) ≤ (k : Int) := by omega
      have bi1 : (k : Int) < (ks.length : Int) := by omega
      clear hk' hS' hW0 hr
      go_upto_region 5 with fail
      rw [HW0.out]
      clear q0 q1 q2
      obtain ⟨x0, x1, x2, xf⟩ := N0.out
      go_wp2_with fail
      refine HC.out.mono ?_
      rintro e w1 ⟨rfl, hb1⟩
      have L1 := Lib.hid (L0.out.trans (hb1.mono L0.out.size))
      have B1 := Lib.hid (B0.out.call hb1)
      have hz1 := B1.out.lt
      clear hb1 x0 x1 x2 xf HC
      by_cases hre : re = 0
      · have b0 : ∃ y, w1.cell? ⟨w.heap.size, k, none⟩ = some (.int .i64 y) := by
          have hlen : k < ((ks.take k).map (fun t => (f t).1) ++ List.replicate (ks.length - k) 0).length := by rw [List.length_append, HX.out]; simp; omega
          exact ⟨_, B1.out.cell k _ (List.getElem?_eq_getElem hlen)⟩
        obtain ⟨y, b0⟩ := b0
        have f0 := B1.out.free k
        subst hre
        have HN2 := Lib.hid (HNO2.out rfl)
        go_wp2
        go_roundw
        case rel => exact ⟨k + 1, by omega, by go_num, HN2.out, by have h := B1.out.set k rk; rw [HE.out] at h; exact h, L1.out.setCell (Nat.le_refl _) _⟩
        case measure => simp [intOf]; omega
      · have e1 : (re != 0) = true := by simpa using hre
        have HQ := Lib.hid (HBAD.out hre)
        clear hre
        go_wp2
        go_ret2
        exact ks_bad HQ.out L1.out
    · obtain rfl : k = ks.length := by omega
      have HQ := Lib.hid (each_ok f ks (fun j hj => HNO.out j hj hj))
      rw [List.take_length] at HB
      have HB2 := Lib.hid (show KBlk wr w.heap.size (ks.map (fun t => (f t).1)) by simpa using HB.out)
      go_wp2
      go_ret2
      exact ks_ok HQ.out (by simp) HB2.out HL.out
set_option maxHeartbeats 8000000 in
set_option maxRecDepth 100000 in
theorem eachV_any (fn : Nat) (en : ∀ args w, (callFunc fn args).run Try.prog w = .ok (.enter fn args) w) (cps : Array Value) (f : Nod → CV × Int) (t : Nod) (S : Nat → Prop) (op tx : ByteArray) (X : Option Addr) (n m : Nat) (w : World) (hS : ∀ g, S g → g < w.heap.size) (hn : RIn w S t (op, tx, X, n, m)) (hf : TellV fn cps f t.ks S w) :
    Calls Try.prog 56 #[.slice X n m, .func (.func fn) cps #[]] w (VsPost w (eachL f t.ks)) := by
  obtain ⟨-, -, e3, hkl⟩ := hn.texts
  dsimp only at e3
  subst e3
  obtain ⟨o9, x9, ks⟩ := t
  dsimp only [Nod.ks] at hf hkl hn ⊢
  have HN := Lib.hid (fun (w' : World) (hb : Below w.heap.size w w') (k : Nat) (hk : k < ks.length) => (hn.bel hS hb).kid k hk)
  dsimp only [Nod.ks] at HN
  have HF := Lib.hid hf
  have HS := Lib.hid hS
  clear hS hn hf
  obtain ⟨i0, hi0, hz0, hz1, hz2⟩ := info_parts info_val
  go_enter Try.func56, Try.ntmps56
  go_wp2_with (at_make; refine wpList_make_vals _ rfl _ _ 26 rfl 38 i0 Try.underlying26 hi0 hz0 hz1 hz2 _ _ _ _ ks.length rfl rfl rfl rfl (by omega) ?_)
  have HB0 := Lib.hid (Blk.fresh w (List.replicate ks.length zV))
  have HL0 := Lib.hid (below_alloc w (.cells (flat (List.replicate ks.length zV)).toArray 38))
  go_wp2
  go_loopw [16] (fun i wr => ∃ k : Nat, k ≤ ks.length ∧ i = .int .i64 k ∧ (∀ (j : Nat) (hj : j < ks.length), j < k → (f ks[j]).2 = 0) ∧ Blk wr w.heap.size ((ks.take k).map (fun t => (f t).1) ++ List.replicate (ks.length - k) zV) ∧ Below w.heap.size w wr) (fun i _ => ks.length - (intOf i).toNat)
  case atStart => exact ⟨0, by omega, rfl, fun j _ h => absurd h (Nat.not_lt_zero _), by simpa using HB0.out, HL0.out⟩
  case round =>
    obtain ⟨k, hk, rfl, hno, hblk, hbel⟩ := hrel
    have hsz := hbel.size
    have hlt := hblk.lt
    have HL := Lib.hid hbel
    have HB := Lib.hid hblk
    have HNO := Lib.hid hno
    clear hbel hblk hno
    have HX := Lib.hid (show ((ks.take k).map (fun t => (f t).1)).length = k by rw [List.length_map, List.length_take_of_le hk])
    by_cases hkl2 : k < ks.length
    · obtain ⟨ad, ⟨op', tx', X', n', m'⟩, eA, hS', q0, q1, q2, hk'⟩ := HN.out wr HL.out k hkl2
      dsimp only at eA q0 q1 q2
      subst eA
      obtain ⟨q, hq⟩ : ∃ q, ad.add (k * 3) = q := ⟨_, rfl⟩
      have hbq : q.block < wr.heap.size := by rw [← hq, add_block]; have := HS.out _ hS'; omega
      rw [hq] at q0 q1 q2
      obtain ⟨W0, hW0⟩ : ∃ W0, wr.alloc (.cells #[.string op', .string tx', .slice X' n' m'] 24) = W0 := ⟨_, rfl⟩
      have L0 := Lib.hid (show Below w.heap.size w W0 by rw [← hW0]; exact HL.out.trans ((below_alloc wr _).mono HL.out.size))
      have N0 := Lib.hid (show NBox W0 wr.heap.size (.string op') (.string tx') (.slice X' n' m') by rw [← hW0]; exact NBox.fresh _ _ _ _ _)
      have B0 := Lib.hid (show Blk W0 w.heap.size ((ks.take k).map (fun t => (f t).1) ++ List.replicate (ks.length - k) zV) by rw [← hW0]; exact HB.out.call (below_alloc wr _))
      have HC := Lib.hid (HF.out k hkl2 op' tx' X' n' m' W0 L0.out (hk'.keep (fun g h => h) (fun p hp => by rw [← hW0]; exact (below_alloc wr _).cell (Nat.lt_of_lt_of_le (HS.out _ hp) hsz))))
      have HS2 := Lib.hid (map_take (fun t => (f t).1) ks k hkl2)
      have HBAD := Lib.hid (fun h => each_bad f ks k hkl2 HNO.out h)
      have HNO2 := Lib.hid (fun (h : (f ks[k]).2 = 0) => show ∀ (j : Nat) (hj : j < ks.length), j < k + 1 → (f ks[j]).2 = 0 from fun j hj h2 => if e : j = k then by subst e; exact h else HNO.out j hj (by omega))
      obtain ⟨r, hr⟩ : ∃ r, f ks[k] = r := ⟨_, rfl⟩
      rw [hr] at HC HS2 HBAD HNO2
      obtain ⟨⟨vk, vn, vs⟩, re⟩ := r
      dsimp only at HC HS2 HBAD HNO2
      have HE := Lib.hid (show ((ks.take k).map (fun t => (f t).1) ++ List.replicate (ks.length - k) zV).set k (vk, vn, vs) = (ks.take (k + 1)).map (fun t => (f t).1) ++ List.replicate (ks.length - (k + 1)) zV by
        have e := vfill_set ((ks.take k).map (fun t => (f t).1)) (ks.length - k) (by omega) (vk, vn, vs)
        rw [HX.out, Nat.sub_sub] at e
        rw [e, HS2.out])
      have hz0 : w.heap.size < W0.heap.size := B0.out.lt
      have HW0 := Lib.hid hW0
      have bi0 : (0 : Int) ≤ (k : Int) := by omega
      have bi1 : (k : Int) < (ks.length : Int) := by omega
      clear hk' hS' hW0 hr
      go_upto_region 5 with fail
      rw [HW0.out]
      clear q0 q1 q2
      obtain ⟨x0, x1, x2, xf⟩ := N0.out
      go_wp2_with fail
      refine HC.out.mono ?_
      rintro e w1 ⟨rfl, hb1⟩
      have L1 := Lib.hid (L0.out.trans (hb1.mono L0.out.size))
      have B1 := Lib.hid (B0.out.call hb1)
      have hz1 := B1.out.lt
      clear hb1 x0 x1 x2 xf HC
      by_cases hre : re = 0
      · have hlen : ((ks.take k).map (fun t => (f t).1) ++ List.replicate (ks.length - k) zV).length = ks.length := by rw [List.length_append, HX.out]; simp; omega
        have hb9 := B1.out.at k (by omega)
        obtain ⟨y9, hy9⟩ : ∃ y9, (((ks.take k).map (fun t => (f t).1) ++ List.replicate (ks.length - k) zV)[k]'(by omega)) = y9 := ⟨_, rfl⟩
        rw [hy9] at hb9
        obtain ⟨b0, b1, b2⟩ := hb9
        have f0 := B1.out.free (k * 3)
        have f1 := B1.out.free (k * 3 + 1)
        have f2 := B1.out.free (k * 3 + 2)
        have HLEN := Lib.hid hlen
        clear hy9
        clear hlen
        subst hre
        have HN2 := Lib.hid (HNO2.out rfl)
        go_wp2
        go_roundw
        case rel => exact ⟨k + 1, by omega, by go_num, HN2.out, by have h := B1.out.set k (by rw [HLEN.out]; exact hkl2) (vk, vn, vs); rw [HE.out] at h; exact h.call (below_alloc _ _), (below_set3 L1.out (Nat.le_refl _)).alloc (by simp; omega) _⟩
        case measure => simp [intOf]; omega
      · have e1 : (re != 0) = true := by simpa using hre
        have HQ := Lib.hid (HBAD.out hre)
        clear hre
        go_wp2
        go_ret2
        exact vs_bad HQ.out (L1.out.trans ((below_alloc w1 _).mono L1.out.size))
    · obtain rfl : k = ks.length := by omega
      have HQ := Lib.hid (each_ok f ks (fun j hj => HNO.out j hj hj))
      rw [List.take_length] at HB
      have HB2 := Lib.hid (show Blk wr w.heap.size (ks.map (fun t => (f t).1)) by simpa using HB.out)
      go_wp2
      go_ret2
      exact vs_ok HQ.out (by simp) (Nat.le_refl _) HB2.out HL.out
end Go.Proofs.Ytkibacolnagkcaa.Code
