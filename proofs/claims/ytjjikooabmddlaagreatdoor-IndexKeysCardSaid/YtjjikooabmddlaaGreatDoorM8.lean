/-
  Numbers as bits, in plain words: any whole number's bits (two's complement, as many as one asks for); of sums, of 0 less one, of halves; the same bits are the same number, taken round. No program is named here.
-/
import Derived.Test.YtjjikooabmddlaaGreatDoorChecked
import Derived.ProofKit
import Derived.Test.YtjjikooabmddlaaGreatDoorM4
import Derived.ChangeKeysEq
import Derived.Deep.QuietTactic
import Derived.BigQuiet
import Derived.Deep.MidRow
import Derived.Laws.StructEq
namespace Go.Proofs.YtjjikooabmddlaaGreatDoor.Bits
set_option linter.unusedVariables false

/-- bit i of a number -/
def tb (n : Int) (i : Nat) : Bool := decide (n / 2 ^ i % 2 = 1)
theorem two_pos (i : Nat) : (0 : Int) < 2 ^ i := Int.pow_pos (by decide)
theorem two_up (i : Nat) : (2 : Int) ^ (i + 1) = 2 * 2 ^ i := by rw [Int.pow_succ]; omega
theorem parts (n : Int) (i : Nat) : n = 2 ^ i * (n / 2 ^ i) + n % 2 ^ i ∧ 0 ≤ n % 2 ^ i ∧ n % 2 ^ i < 2 ^ i :=
  ⟨(Int.mul_ediv_add_emod _ _).symm, Int.emod_nonneg _ (by have := two_pos i; omega), Int.emod_lt_of_pos _ (two_pos i)⟩
/-- quotient and rest are told by any parts that fit -/
theorem div_of {n p q r : Int} (h : n = p * q + r) (h0 : 0 ≤ r) (h1 : r < p) : n / p = q ∧ n % p = r := by
  have hp : p ≠ 0 := by omega
  subst h
  constructor
  · rw [Int.mul_add_ediv_left _ _ hp, Int.ediv_eq_zero_of_lt h0 h1, Int.add_zero]
  · rw [Int.mul_add_emod_self_left, Int.emod_eq_of_lt h0 h1]
/-- what is carried into place i -/
def cy (x y : Int) (i : Nat) : Bool := decide (2 ^ i ≤ x % 2 ^ i + y % 2 ^ i)
theorem cy_0 (x y : Int) : cy x y 0 = false := by
  unfold cy
  simp
/-- the rest one place on -/
theorem rest_up (n : Int) (i : Nat) : n % 2 ^ (i + 1) = n % 2 ^ i + (if tb n i then 2 ^ i else 0) := by
  obtain ⟨h, h0, h1⟩ := parts n i
  have hp := two_pos i
  rw [two_up]
  unfold tb
  generalize hq : n / 2 ^ i = q at *
  generalize hr : n % 2 ^ i = r at *
  generalize (2 : Int) ^ i = p at *
  have hq2 : q = 2 * (q / 2) + q % 2 := by omega
  have hm : p * q = 2 * p * (q / 2) + p * (q % 2) := by
    conv => lhs; rw [hq2]
    rw [Int.mul_add, ← Int.mul_assoc, Int.mul_comm p 2]
  rcases (show q % 2 = 0 ∨ q % 2 = 1 by omega) with e | e
  · rw [e, Int.mul_zero] at hm
    rw [if_neg (by simp; omega)]
    exact (div_of (p := 2 * p) (q := q / 2) (r := r) (by omega) h0 (by omega)).2.trans (by omega)
  · rw [e, Int.mul_one] at hm
    rw [if_pos (by simp; omega)]
    exact (div_of (p := 2 * p) (q := q / 2) (r := r + p) (by omega) (by omega) (by omega)).2
theorem tb_add (x y : Int) (i : Nat) : tb (x + y) i = ((tb x i != tb y i) != cy x y i) := by
  obtain ⟨hx, x0, x1⟩ := parts x i
  obtain ⟨hy, y0, y1⟩ := parts y i
  unfold tb cy
  generalize x / 2 ^ i = q at *
  generalize y / 2 ^ i = s at *
  generalize x % 2 ^ i = r at *
  generalize y % 2 ^ i = t at *
  generalize (2 : Int) ^ i = p at *
  have hm : p * (q + s) = p * q + p * s := Int.mul_add _ _ _
  have hm1 : p * (q + s + 1) = p * q + p * s + p := by rw [Int.mul_add, hm, Int.mul_one]
  by_cases hc : p ≤ r + t
  · have hd := (div_of (n := x + y) (p := p) (q := q + s + 1) (r := r + t - p) (by omega) (by omega) (by omega)).1
    rw [hd]
    rw [Bool.eq_iff_iff]
    rcases (show q % 2 = 0 ∨ q % 2 = 1 by omega) with e | e <;> rcases (show s % 2 = 0 ∨ s % 2 = 1 by omega) with f | f <;> simp [e, f, hc] <;> omega
  · have hd := (div_of (n := x + y) (p := p) (q := q + s) (r := r + t) (by omega) (by omega) (by omega)).1
    rw [hd]
    rw [Bool.eq_iff_iff]
    rcases (show q % 2 = 0 ∨ q % 2 = 1 by omega) with e | e <;> rcases (show s % 2 = 0 ∨ s % 2 = 1 by omega) with f | f <;> simp [e, f, hc] <;> omega
theorem cy_up (x y : Int) (i : Nat) : cy x y (i + 1) = (tb x i && tb y i || (tb x i != tb y i) && cy x y i) := by
  obtain ⟨_, x0, x1⟩ := parts x i
  obtain ⟨_, y0, y1⟩ := parts y i
  unfold cy
  rw [rest_up x i, rest_up y i, two_up]
  generalize tb x i = a
  generalize tb y i = b
  generalize x % 2 ^ i = r at *
  generalize y % 2 ^ i = t at *
  generalize (2 : Int) ^ i = p at *
  by_cases hc : p ≤ r + t <;> cases a <;> cases b <;> simp [hc] <;> omega
theorem tb_not (x : Int) (i : Nat) : tb (-x - 1) i = !tb x i := by
  obtain ⟨hx, x0, x1⟩ := parts x i
  unfold tb
  generalize x / 2 ^ i = q at *
  generalize x % 2 ^ i = r at *
  generalize (2 : Int) ^ i = p at *
  have hm : p * (-q - 1) = -(p * q) - p := by rw [Int.mul_sub, Int.mul_neg, Int.mul_one]
  have hd := (div_of (n := -x - 1) (p := p) (q := -q - 1) (r := p - 1 - r) (by omega) (by omega) (by omega)).1
  rw [hd, Bool.eq_iff_iff]
  simp
  omega
theorem tb_one (i : Nat) : tb 1 i = decide (i = 0) := by
  unfold tb
  cases i with
  | zero => simp
  | succ i =>
    have hp := two_pos i
    have hd := (div_of (n := 1) (p := 2 ^ (i + 1)) (q := 0) (r := 1) (by omega) (by omega) (by rw [two_up]; omega)).1
    rw [hd]
    simp
/-- bits of a number of two halves -/
theorem tb_low (hi lo : Int) (i : Nat) (h : i < 64) : tb (hi * 2 ^ 64 + lo) i = tb lo i := by
  obtain ⟨hx, x0, x1⟩ := parts lo i
  unfold tb
  have hp : (2 : Int) ^ 64 = 2 ^ i * (2 * 2 ^ (63 - i)) := by
    rw [← two_up, ← Int.pow_add]
    congr 1
    omega
  rw [hp]
  generalize (2 : Int) ^ (63 - i) = z at *
  generalize lo / 2 ^ i = q at *
  generalize lo % 2 ^ i = r at *
  generalize (2 : Int) ^ i = p at *
  have hm : hi * (p * (2 * z)) + p * q = p * (2 * (hi * z) + q) := by
    rw [Int.mul_add]
    congr 1
    rw [Int.mul_left_comm, Int.mul_left_comm hi 2 z]
  have hd := (div_of (n := hi * (p * (2 * z)) + lo) (p := p) (q := 2 * (hi * z) + q) (r := r) (by omega) x0 x1).1
  rw [hd, Bool.eq_iff_iff]
  simp
theorem tb_high (hi lo : Int) (i : Nat) (h0 : 0 ≤ lo) (h1 : lo < 2 ^ 64) : tb (hi * 2 ^ 64 + lo) (64 + i) = tb hi i := by
  unfold tb
  rw [Int.pow_add, ← Int.ediv_ediv_of_nonneg (by decide)]
  rw [show (hi * 2 ^ 64 + lo) / 2 ^ 64 = hi from (div_of (p := 2 ^ 64) (q := hi) (r := lo) (by rw [Int.mul_comm]) h0 h1).1]
/-- a number taken round has the same lower bits -/
theorem tb_round (n : Int) (i : Nat) (h : i < 64) : tb (n % 2 ^ 64) i = tb n i := by
  have e := Int.mul_ediv_add_emod n (2 ^ 64)
  conv => rhs; rw [← e, Int.mul_comm]
  exact (tb_low (n / 2 ^ 64) (n % 2 ^ 64) i h).symm
/-- one place less -/
theorem tb_half (n : Int) (i : Nat) : tb (n / 2) i = tb n (i + 1) := by
  unfold tb
  rw [Int.pow_succ, Int.mul_comm, ← Int.ediv_ediv_of_nonneg (by decide)]
theorem tb_zero (n : Int) : tb n 0 = decide (n % 2 = 1) := by unfold tb; simp
/-- so many bits from a place on, as a number -/
def seg (x : Int) (s k : Nat) : Int := x / 2 ^ s % 2 ^ k
theorem seg_zero (x : Int) (s : Nat) : seg x s 0 = 0 := by unfold seg; simp
theorem seg_down (x : Int) (s k : Nat) : seg x s (k + 1) = 2 * seg x (s + 1) k + (if tb x s then 1 else 0) := by
  unfold seg tb
  rw [Int.pow_succ 2 s, ← Int.ediv_ediv_of_nonneg (Int.le_of_lt (two_pos s)), two_up]
  generalize x / 2 ^ s = y
  obtain ⟨h, h0, h1⟩ := parts (y / 2) k
  generalize y / 2 / 2 ^ k = q at *
  have hp := two_pos k
  generalize y / 2 % 2 ^ k = r at *
  generalize (2 : Int) ^ k = p at *
  have hm : 2 * p * q = 2 * (p * q) := Int.mul_assoc _ _ _
  by_cases e : y % 2 = 1
  · rw [if_pos (by simpa using e)]
    exact (div_of (n := y) (p := 2 * p) (q := q) (r := 2 * r + 1) (by omega) (by omega) (by omega)).2
  · rw [if_neg (by simpa using e)]
    exact (div_of (n := y) (p := 2 * p) (q := q) (r := 2 * r + 0) (by omega) (by omega) (by omega)).2
theorem seg_lt (x : Int) (s k : Nat) : 0 ≤ seg x s k ∧ seg x s k < 2 ^ k := ⟨Int.emod_nonneg _ (by have := two_pos k; omega), Int.emod_lt_of_pos _ (two_pos k)⟩
/-- all 128 bits -/
def bl (n : Int) : List Bool := (List.range 128).map (tb n)
theorem bl_length (n : Int) : (bl n).length = 128 := by simp [bl]
theorem bl_at (n : Int) (i : Nat) (h : i < (bl n).length) : (bl n)[i] = tb n i := by simp [bl]
theorem rest_eq {x y : Int} : ∀ k : Nat, (∀ i, i < k → tb x i = tb y i) → x % 2 ^ k = y % 2 ^ k
  | 0, _ => by simp
  | k + 1, h => by rw [rest_up, rest_up, rest_eq k (fun i hi => h i (by omega)), h k (by omega)]
theorem rest_bits {x y : Int} (h : x % 2 ^ 128 = y % 2 ^ 128) (i : Nat) (hi : i < 128) : tb x i = tb y i := by
  have key : ∀ n : Int, tb (n % 2 ^ 128) i = tb n i := by
    intro n
    obtain ⟨hx, x0, x1⟩ := parts n i
    unfold tb
    have hp : (2 : Int) ^ 128 = 2 ^ i * (2 * 2 ^ (127 - i)) := by
      rw [← two_up, ← Int.pow_add]
      congr 1
      omega
    have e := Int.mul_ediv_add_emod n (2 ^ 128)
    generalize n % 2 ^ 128 = y at *
    generalize n / 2 ^ 128 = z at *
    rw [hp] at e
    generalize (2 : Int) ^ (127 - i) = u at *
    generalize n / 2 ^ i = q at *
    generalize n % 2 ^ i = r at *
    generalize (2 : Int) ^ i = p at *
    have hm : p * (q - 2 * (u * z)) = p * q - p * (2 * u) * z := by
      rw [Int.mul_sub]
      congr 1
      rw [Int.mul_assoc, Int.mul_assoc]
    have hd := (div_of (n := y) (p := p) (q := q - 2 * (u * z)) (r := r) (by omega) x0 x1).1
    rw [hd, Bool.eq_iff_iff]
    simp
  rw [← key x, ← key y, h]
theorem bl_eq {x y : Int} : bl x = bl y ↔ x % 2 ^ 128 = y % 2 ^ 128 := by
  constructor
  · intro h
    refine rest_eq 128 fun i hi => ?_
    have h2 : (bl x)[i]? = (bl y)[i]? := by rw [h]
    simpa [bl, hi] using h2
  · intro h
    unfold bl
    refine List.map_congr_left fun i hi => ?_
    exact rest_bits h i (List.mem_range.1 hi)
end Go.Proofs.YtjjikooabmddlaaGreatDoor.Bits

/-
  Arrays of 128 bits, in memory and as values.
-/
namespace Go.Proofs.YtjjikooabmddlaaGreatDoor.Bits
open Go.ChangeShapes Go.WideShapes Go.ChangeAt Go.RowKit Val
set_option linter.unusedVariables false

def bools (D : List Bool) : Array Value := (D.map Value.bool).toArray
/-- a number's bits, as a value -/
def bv (n : Int) : Value := .agg (bools (bl n))
def BBlk (w : World) (g : Nat) (D : List Bool) : Prop := w.heap[g]? = some (.cells (bools D) 95 (0, 0))
theorem bools_size (D : List Bool) : (bools D).size = D.length := by simp [bools]
theorem BBlk.lt {w : World} {g : Nat} {D : List Bool} (h : BBlk w g D) : g < w.heap.size := (Array.getElem?_eq_some_iff.1 h).1
theorem BBlk.fresh (w : World) (D : List Bool) : BBlk (w.alloc (.cells (bools D) 95)) w.heap.size D := heap_alloc_new w _
theorem BBlk.keep {w w' : World} {g : Nat} {D : List Bool} (h : BBlk w g D) (hb : w'.heap[g]? = w.heap[g]?) : BBlk w' g D := hb.trans h
theorem BBlk.call {w w' : World} {g : Nat} {D : List Bool} (h : BBlk w g D) (hb : Below w.heap.size w w') : BBlk w' g D := h.keep (hb.block g h.lt)
theorem BBlk.alloc {w : World} {g : Nat} {D : List Bool} (h : BBlk w g D) (o : Obj) : BBlk (w.alloc o) g D := h.call (below_alloc w o)
theorem BBlk.at {w : World} {g : Nat} {D : List Bool} (h : BBlk w g D) (i : Nat) (b : Bool) (hi : D[i]? = some b) : w.cell? ⟨g, i, none⟩ = some (.bool b) := by
  unfold BBlk at h
  simp only [World.cell?, h]
  simp [bools, hi]
theorem BBlk.free {w : World} {g : Nat} {D : List Bool} (h : BBlk w g D) (i : Nat) : w.frozen? ⟨g, i, none⟩ = false := by
  unfold BBlk at h
  simp only [World.frozen?, h]
  simp
theorem BBlk.set {w : World} {g : Nat} {D : List Bool} (h : BBlk w g D) (i : Nat) (b : Bool) : BBlk (w.setCell ⟨g, i, none⟩ (.bool b)) g (D.set i b) := by
  unfold BBlk at *
  rw [setCell_eq_setRow w g _ _ _ _ _ h, setRow_heap w g _ _ _ _ h]
  unfold bools
  rw [List.map_set]
  simp
theorem BBlk.other {w : World} {g g' : Nat} {D : List Bool} (h : BBlk w g D) (hg : g ≠ g') (i : Nat) (v : Value) : BBlk (w.setCell ⟨g', i, none⟩ v) g D := by
  refine h.keep ?_
  simp [World.setCell, Array.getElem?_modify, Ne.symm hg]
def none128 : List Bool := List.replicate 128 false
theorem none_length : none128.length = 128 := by simp [none128]
theorem zero_bits (w : World) : (zeroValue 95).run Tryz.prog w = .ok (.agg (bools none128)) w := by kernel_rfl
theorem run_loadVar_bits {w : World} {g : Nat} {D : List Bool} (h : BBlk w g D) (hD : D.length = 128) : (loadVar 95 ⟨g, 0, none⟩).run Tryz.prog w = .ok (.agg (bools D)) w := by
  have hl := run_loadCells_list (P := Tryz.prog) w ⟨g, 0, none⟩ (D.map Value.bool) (fun j v hj => by
    rw [Addr.add_lit, Nat.zero_add]
    obtain ⟨b, hb, rfl⟩ : ∃ b, D[j]? = some b ∧ Value.bool b = v := by simpa using hj
    exact h.at j b hb)
  rw [List.length_map, hD] at hl
  have ha : ∀ w, (isAgg 95).run Tryz.prog w = .ok true w := fun w => by kernel_rfl
  have hs : ∀ w, (sizeOf 95).run Tryz.prog w = .ok 128 w := fun w => by kernel_rfl
  unfold loadVar
  simp only [Sem.run_bind, ha, Result.andThen_ok, if_true, hs, hl, Sem.run_pure]
  rfl
theorem run_storeVar_bits {w : World} {g : Nat} {D E : List Bool} (h : BBlk w g D) (hD : D.length = 128) (hE : E.length = 128) : ∃ w', (storeVar 95 ⟨g, 0, none⟩ (.agg (bools E))).run Tryz.prog w = .ok () w' ∧ w' = w.setRow g (bools E) := by
  have hs : ∀ w, (sizeOf 95).run Tryz.prog w = .ok 128 w := fun w => by kernel_rfl
  have hst := run_storeCells_at Tryz.prog g 0 _ (E.map Value.bool) 0 (bools D) w h (by rw [bools_size]; simp; omega) (fun v hv => by obtain ⟨b, _, rfl⟩ := List.mem_map.1 hv; rfl)
  have e1 : (Value.agg (bools E)).cells = bools E := by rfl
  have e2 : (bools E).toList = E.map Value.bool := by simp [bools]
  have e3 : ((bools D).toList.take (0 + 0) ++ E.map Value.bool ++ (bools D).toList.drop (0 + 0 + (E.map Value.bool).length)).toArray = bools E := by
    rw [List.drop_of_length_le (by simp [bools]; omega)]
    simp [bools]
  rw [e3] at hst
  refine ⟨_, ?_, rfl⟩
  unfold storeVar
  rw [e1, e2]
  simp only [Sem.run_bind, hs, Result.andThen_ok, bools_size, hE, ne_eq, not_true_eq_false, if_false, hst]
theorem below_row {B g : Nat} {w0 w : World} (hb : Below B w0 w) (hBg : B ≤ g) (cs : Array Value) : Below B w0 (w.setRow g cs) := below_setRow hb hBg cs
theorem BBlk.row {w : World} {g : Nat} {D : List Bool} (h : BBlk w g D) (E : List Bool) : BBlk (w.setRow g (bools E)) g E := setRow_heap w g _ _ _ _ h
theorem BBlk.rowOther {w : World} {g g' : Nat} {D : List Bool} (h : BBlk w g D) (hg : g ≠ g') (cs : Array Value) : BBlk (w.setRow g' cs) g D := h.keep (setRow_other w g' g cs hg)
/-- a whole array loaded -/
theorem wpList_load_bits {w : World} {ops : Array Oper} {rest : List Oper} {o : Oper} {a : Act} {Q : Exit → Act → World → Prop} (hgd : o.guard = none) (x : Operand) (ho : o.op = .load 95 x) (g : Nat) (D : List Bool) (hx : a.eval x = .pointer (some ⟨g, 0, none⟩)) (hb : BBlk w g D) (hD : D.length = 128)
    (h : wpList Tryz.prog ops Q rest (a.put o.dst (.agg (bools D))) w) : wpList Tryz.prog ops Q (o :: rest) a w := by
  refine wpList_plain hgd fun K hK => ?_
  have hr := run_loadVar_bits hb hD
  unfold Oper.wp
  simp [execOp, ho, hx, Instr.loadAt, Instr.sureAddr, hr, Result.andThen]
  exact hK _ _ h
/-- a whole array stored -/
theorem wpList_store_bits {w : World} {ops : Array Oper} {rest : List Oper} {o : Oper} {a : Act} {Q : Exit → Act → World → Prop} (hgd : o.guard = none) (x y : Operand) (ho : o.op = .store 95 x y) (g : Nat) (D E : List Bool) (hx : a.eval x = .pointer (some ⟨g, 0, none⟩)) (hy : a.eval y = .agg (bools E)) (hb : BBlk w g D) (hD : D.length = 128) (hE : E.length = 128)
    (h : wpList Tryz.prog ops Q rest (a.put o.dst undef) (w.setRow g (bools E))) : wpList Tryz.prog ops Q (o :: rest) a w := by
  refine wpList_plain hgd fun K hK => ?_
  obtain ⟨w', hr, rfl⟩ := run_storeVar_bits hb hD hE
  unfold Oper.wp
  simp [execOp, ho, hx, hy, Instr.storeAt, Instr.sureAddr, hr, Result.andThen]
  exact hK _ _ h
/-- what a function answers whose result lies in a cell -/
theorem results_bits {fn : Func} {t : Tmp} (hf : fn.results = #[.cell t 95]) {tmps : Array Value} {w : World} {g : Nat} {D : List Bool} (ht : tmps.getD t undef = .pointer (some ⟨g, 0, none⟩)) (hb : BBlk w g D) (hD : D.length = 128) : (results fn tmps).run Tryz.prog w = .ok (.agg (bools D)) w := by
  have hr := run_loadVar_bits hb hD
  rw [Array.getD_eq_getD_getElem?] at ht
  simp [results, hf, ht, asAddr, hr]
end Go.Proofs.YtjjikooabmddlaaGreatDoor.Bits

/-
  Contracts of the document's Of and Int of bits.
-/
namespace Go.Proofs.YtjjikooabmddlaaGreatDoor.Bits
open Go.ChangeShapes Go.WideShapes Go.ChangeAt Go.RowKit Val
set_option linter.unusedVariables false

/-- the bits that are laid behind k rounds -/
def laid (hi lo : Int) (k : Nat) : List Bool := (List.range 128).map fun j => (decide (j < k) && tb lo j) || (decide (64 ≤ j ∧ j < 64 + k) && tb hi (j - 64))
theorem laid_length (hi lo : Int) (k : Nat) : (laid hi lo k).length = 128 := by simp [laid]
theorem laid_0 (hi lo : Int) : laid hi lo 0 = none128 := by
  apply List.ext_getElem (by simp [laid, none128])
  intro i h1 h2
  have a1 : decide (i < 0) = false := decide_eq_false (by omega)
  have a2 : decide (64 ≤ i ∧ i < 64 + 0) = false := decide_eq_false (by omega)
  simp only [laid, none128, List.getElem_map, List.getElem_range, List.getElem_replicate, a1, a2]
  rfl
theorem laid_up (hi lo : Int) (k : Nat) (hk : k < 64) : ((laid hi lo k).set k (tb lo k)).set (64 + k) (tb hi k) = laid hi lo (k + 1) := by
  apply List.ext_getElem (by simp [laid])
  intro i h1 h2
  rw [List.getElem_set, List.getElem_set]
  simp only [laid, List.getElem_map, List.getElem_range]
  by_cases e1 : 64 + k = i
  · rw [if_pos e1]
    subst e1
    simp
    omega
  · rw [if_neg e1]
    by_cases e2 : k = i
    · rw [if_pos e2]
      subst e2
      simp
      omega
    · rw [if_neg e2]
      have a1 : decide (i < k) = decide (i < k + 1) := decide_eq_decide.2 (by omega)
      have a2 : decide (64 ≤ i ∧ i < 64 + k) = decide (64 ≤ i ∧ i < 64 + (k + 1)) := decide_eq_decide.2 (by omega)
      rw [a1, a2]
theorem laid_all (hi lo : Int) (h0 : 0 ≤ lo) (h1 : lo < 2 ^ 64) : laid hi lo 64 = bl (hi * 2 ^ 64 + lo) := by
  apply List.ext_getElem (by simp [laid, bl])
  intro i h2 h3
  simp only [laid, bl, List.getElem_map, List.getElem_range]
  by_cases e : i < 64
  · rw [tb_low hi lo i e]
    simp [e]
    omega
  · obtain ⟨j, rfl⟩ : ∃ j, i = 64 + j := ⟨i - 64, by omega⟩
    rw [tb_high hi lo j h0 h1]
    rw [laid_length] at h2
    have a1 : decide (64 + j < 64) = false := decide_eq_false (by omega)
    have a2 : decide (64 ≤ 64 + j ∧ 64 + j < 64 + 64) = true := decide_eq_true (by omega)
    rw [a1, a2, Nat.add_sub_cancel_left]
    simp
theorem div_two (x : Int) (k : Nat) : x / 2 ^ k / 2 = x / 2 ^ (k + 1) := by
  rw [Int.pow_succ, ← Int.ediv_ediv_of_nonneg (by have := two_pos k; omega)]
set_option maxHeartbeats 4000000 in
set_option maxRecDepth 100000 in
theorem of_any (hi lo U : Int) (hh : -9223372036854775808 ≤ hi ∧ hi ≤ 9223372036854775807) (hl : 0 ≤ lo ∧ lo < 18446744073709551616) (hU : U = hi % 18446744073709551616) (w : World) :
    Calls Tryz.prog 69 #[.int .i64 hi, .int .u64 lo] w fun e w' => e = .returned (bv (hi * 2 ^ 64 + lo)) ∧ Below w.heap.size w w' := by
  have hz := zero_bits
  have hU0 : 0 ≤ U ∧ U < 18446744073709551616 := by omega
  have HF := Lib.hid (laid_all hi lo hl.1 (by omega))
  have HT := Lib.hid (fun i (h : i < 64) => show tb U i = tb hi i by rw [hU]; exact tb_round hi i h)
  have hw : IntKind.u64.wrap hi = U := by rw [IntKind.wrap_u64]; omega
  have HU := Lib.hid hU
  clear hU
  go_enter Tryz.func69, Tryz.ntmps69
  go_wp2
  have HA := Lib.hid ((BBlk.fresh w none128).alloc (.cells (bools none128) 95))
  have HB := Lib.hid (show BBlk ((w.alloc (.cells (bools none128) 95)).alloc (.cells (bools none128) 95)) (w.heap.size + 1) none128 by have := BBlk.fresh (w.alloc (.cells (bools none128) 95)) none128; simpa using this)
  have HL := Lib.hid ((below_alloc w (.cells (bools none128) 95)).alloc (by simp) (.cells (bools none128) 95))
  go_loopw [1, 6, 7] (fun x u i wr => ∃ (k : Nat) (X V : Int), k ≤ 64 ∧ i = .int .i64 k ∧ x = .int .u64 X ∧ u = .int .u64 V ∧ 0 ≤ X ∧ X < 18446744073709551616 ∧ 0 ≤ V ∧ V < 18446744073709551616 ∧ Hid (X = lo / 2 ^ k ∧ V = U / 2 ^ k) ∧ Hid (BBlk wr w.heap.size none128) ∧ Hid (BBlk wr (w.heap.size + 1) (laid hi lo k)) ∧ Hid (Below w.heap.size w wr)) (fun _ _ i _ => 64 - (intOf i).toNat)
  case atStart => exact ⟨0, lo, U, by omega, rfl, rfl, rfl, hl.1, hl.2, hU0.1, hU0.2, Lib.hid (by simp), HA, by rw [laid_0]; exact HB, HL⟩
  case round =>
    obtain ⟨k, X, V, hk, rfl, rfl, rfl, hX0, hX1, hV0, hV1, HXV, HA, HB, HL⟩ := hrel
    have hszr := HL.out.size
    by_cases hlt : k < 64
    · have hd := laid_length hi lo k
      obtain ⟨b0, hb0⟩ : ∃ b, (laid hi lo k)[k]? = some b := ⟨_, List.getElem?_eq_getElem (by omega)⟩
      obtain ⟨b1, hb1⟩ : ∃ b, ((laid hi lo k).set k (tb lo k))[64 + k]? = some b := ⟨_, List.getElem?_eq_getElem (by rw [List.length_set]; omega)⟩
      have c0 := HB.out.at k b0 hb0
      have f0 := HB.out.free k
      have HB1 := Lib.hid (HB.out.set k (tb lo k))
      have c1 := HB1.out.at (64 + k) b1 hb1
      have f1 := HB1.out.free (64 + k)
      have t0 : (X % 2 == 1) = tb lo k := by rw [HXV.out.1]; rfl
      have t1 : (V % 2 == 1) = tb hi k := by rw [← HT.out k hlt, HXV.out.2]; rfl
      have hki : (64 : Int) + k < 128 := by omega
      clear hd hb0 hb1
      go_wp2
      go_roundw
      case rel => exact ⟨k + 1, X / 2, V / 2, by omega, by go_num, rfl, rfl, by omega, by omega, by omega, by omega, Lib.hid ⟨by rw [HXV.out.1, div_two], by rw [HXV.out.2, div_two]⟩, Lib.hid ((HA.out.other (by omega) _ _).other (by omega) _ _), Lib.hid (by have := HB1.out.set (64 + k) (tb hi k); rw [laid_up hi lo k hlt] at this; exact this), Lib.hid ((HL.out.setCell (Nat.le_succ _) _).setCell (Nat.le_succ _) _)⟩
      case measure => simp [intOf]; omega
    · obtain rfl : k = 64 := by omega
      have HE := Lib.hid (laid_length hi lo 64)
      go_wp2_with (first | (refine wpList_load_bits rfl _ rfl (w.heap.size + 1) (laid hi lo 64) rfl HB.out HE.out ?_) | (refine wpList_store_bits rfl _ _ rfl w.heap.size none128 (laid hi lo 64) rfl rfl HA.out none_length HE.out ?_))
      exact bodyPost_ret (v := .agg (bools (laid hi lo 64))) (results_bits rfl rfl (HA.out.row _) HE.out) rfl ⟨by rw [HF.out]; rfl, below_row HL.out (Nat.le_refl _) _⟩
theorem of_is (hi lo U n : Int) (hh : -9223372036854775808 ≤ hi ∧ hi ≤ 9223372036854775807) (hl : 0 ≤ lo ∧ lo < 18446744073709551616) (hU : U = hi % 18446744073709551616) (hn : hi * 2 ^ 64 + lo = n) (w : World) :
    Calls Tryz.prog 69 #[.int .i64 hi, .int .u64 lo] w fun e w' => e = .returned (.agg (bools (bl n))) ∧ Below w.heap.size w w' := by
  have := of_any hi lo U hh hl hU w
  rw [hn] at this
  exact this
set_option maxHeartbeats 4000000 in
set_option maxRecDepth 100000 in
theorem int_any (a : Int) (ha : fits a) (w : World) :
    Calls Tryz.prog 50 #[.int .i64 a] w fun e w' => e = .returned (bv a) ∧ Below w.heap.size w w' := by
  unfold fits at ha
  have hz := zero_bits
  have HA := Lib.hid (BBlk.fresh w none128)
  have HL := Lib.hid (below_alloc w (.cells (bools none128) 95))
  have HE := Lib.hid (bl_length a)
  by_cases h : a < 0
  · have e0 : decide (a < 0) = true := by simpa using h
    have hw : IntKind.u64.wrap a = a + 18446744073709551616 := by rw [IntKind.wrap_u64]; omega
    have HO := Lib.hid (of_is (-1) (a + 18446744073709551616) 18446744073709551615 a (by omega) (by omega) (by omega) (by omega))
    go_enter Tryz.func50, Tryz.ntmps50
    go_wp2_with fail
    refine (HO.out _).mono ?_
    rintro e w1 ⟨rfl, hb1⟩
    have A1 := Lib.hid (HA.out.call hb1)
    have L1 := Lib.hid (bnext HL.out (by simp) hb1)
    clear hb1
    go_wp2_with (first | (refine wpList_store_bits rfl _ _ rfl w.heap.size none128 (bl a) rfl rfl A1.out none_length HE.out ?_))
    exact bodyPost_ret (v := .agg (bools (bl a))) (results_bits rfl rfl (A1.out.row _) HE.out) rfl ⟨rfl, below_row L1.out (Nat.le_refl _) _⟩
  · have e0 : decide (a < 0) = false := by simpa using h
    have hw : IntKind.u64.wrap a = a := by rw [IntKind.wrap_u64]; omega
    have HO := Lib.hid (of_is 0 a 0 a (by omega) (by omega) (by omega) (by omega))
    go_enter Tryz.func50, Tryz.ntmps50
    go_wp2_with fail
    refine (HO.out _).mono ?_
    rintro e w1 ⟨rfl, hb1⟩
    have A1 := Lib.hid (HA.out.call hb1)
    have L1 := Lib.hid (bnext HL.out (by simp) hb1)
    clear hb1
    go_wp2_with (first | (refine wpList_store_bits rfl _ _ rfl w.heap.size none128 (bl a) rfl rfl A1.out none_length HE.out ?_))
    exact bodyPost_ret (v := .agg (bools (bl a))) (results_bits rfl rfl (A1.out.row _) HE.out) rfl ⟨rfl, below_row L1.out (Nat.le_refl _) _⟩
end Go.Proofs.YtjjikooabmddlaaGreatDoor.Bits

/-
  Contracts of the document's Add, Neg and Halves of bits, and whether two are the same.
-/
namespace Go.Proofs.YtjjikooabmddlaaGreatDoor.Bits
open Go.ChangeShapes Go.WideShapes Go.ChangeAt Go.RowKit Val
set_option linter.unusedVariables false

/-- the first k bits -/
def front (n : Int) (k : Nat) : List Bool := (List.range 128).map fun j => decide (j < k) && tb n j
theorem front_length (n : Int) (k : Nat) : (front n k).length = 128 := by simp [front]
theorem front_0 (n : Int) : front n 0 = none128 := by
  apply List.ext_getElem (by simp [front, none128])
  intro i h1 h2
  have a1 : decide (i < 0) = false := decide_eq_false (by omega)
  simp only [front, none128, List.getElem_map, List.getElem_range, List.getElem_replicate, a1]
  rfl
theorem front_up (n : Int) (k : Nat) : (front n k).set k (tb n k) = front n (k + 1) := by
  apply List.ext_getElem (by simp [front])
  intro i h1 h2
  rw [List.getElem_set]
  simp only [front, List.getElem_map, List.getElem_range]
  by_cases e : k = i
  · rw [if_pos e]
    subst e
    simp
  · rw [if_neg e]
    have a1 : decide (i < k) = decide (i < k + 1) := decide_eq_decide.2 (by omega)
    rw [a1]
theorem front_all (n : Int) : front n 128 = bl n := by
  apply List.ext_getElem (by simp [front, bl])
  intro i h1 h2
  rw [front_length] at h1
  simp [front, bl, h1]
theorem bl_some (n : Int) (k : Nat) (h : k < 128) : (bl n)[k]? = some (tb n k) := by simp [bl, h]
theorem front_some (n : Int) (k : Nat) (h : k < 128) : ∃ b, (front n k)[k]? = some b := ⟨_, List.getElem?_eq_getElem (by rw [front_length]; exact h)⟩
theorem drewN_blk {w : World} {g : Nat} {D : List Bool} (h : BBlk w g D) (n : Nat) : BBlk (w.drewN n) g D := h
theorem below_set1 {B : Nat} {w0 w : World} {g i : Nat} {v : Value} (h : Below B w0 w) (hg : B ≤ g) : Below B w0 (w.setCell ⟨g, i, none⟩ v) := h.setCell hg _
theorem below_drewN {B : Nat} {a w : World} (h : Below B a w) (n : Nat) : Below B a (w.drewN n) := ⟨h.os, h.tape, h.output, h.size, h.block⟩
set_option maxHeartbeats 4000000 in
set_option maxRecDepth 100000 in
theorem add_any (x y n : Int) (hn : x + y = n) (w : World) :
    Calls Tryz.prog 49 #[.agg (bools (bl x)), .agg (bools (bl y))] w fun e w' => e = .returned (.agg (bools (bl n))) ∧ Below w.heap.size w w' := by
  have hz := zero_bits
  have HN := Lib.hid hn
  clear hn
  have HE := Lib.hid (bl_length n)
  go_enter Tryz.func49, Tryz.ntmps49
  go_wp2
  have K0 := BBlk.fresh w (bl x)
  have K1 := K0.alloc (.cells (bools (bl y)) 95)
  have Y1 := BBlk.fresh (w.alloc (.cells (bools (bl x)) 95)) (bl y)
  have K2 := K1.alloc (.cells (bools none128) 95)
  have Y2 := Y1.alloc (.cells (bools none128) 95)
  have R2 := BBlk.fresh ((w.alloc (.cells (bools (bl x)) 95)).alloc (.cells (bools (bl y)) 95)) none128
  have HX := Lib.hid (K2.alloc (.cells (bools none128) 95))
  have HY := Lib.hid (Y2.alloc (.cells (bools none128) 95))
  have HR := Lib.hid (R2.alloc (.cells (bools none128) 95))
  have HO := Lib.hid (BBlk.fresh (((w.alloc (.cells (bools (bl x)) 95)).alloc (.cells (bools (bl y)) 95)).alloc (.cells (bools none128) 95)) none128)
  have HL := Lib.hid ((((below_alloc w (.cells (bools (bl x)) 95)).alloc (by simp) (.cells (bools (bl y)) 95)).alloc (by simp; omega) (.cells (bools none128) 95)).alloc (by simp; omega) (.cells (bools none128) 95))
  rw [show (w.alloc (.cells (bools (bl x)) 95)).heap.size = w.heap.size + 1 by simp] at HY
  rw [show ((w.alloc (.cells (bools (bl x)) 95)).alloc (.cells (bools (bl y)) 95)).heap.size = w.heap.size + 1 + 1 by simp] at HR
  rw [show (((w.alloc (.cells (bools (bl x)) 95)).alloc (.cells (bools (bl y)) 95)).alloc (.cells (bools none128) 95)).heap.size = w.heap.size + 1 + 1 + 1 by simp] at HO
  clear K0 K1 Y1 K2 Y2 R2
  go_loopw [6, 7] (fun c i wr => ∃ k : Nat, k ≤ 128 ∧ i = .int .i64 k ∧ c = .bool (cy x y k) ∧ Hid (BBlk wr w.heap.size (bl x)) ∧ Hid (BBlk wr (w.heap.size + 1) (bl y)) ∧ Hid (BBlk wr (w.heap.size + 1 + 1) none128) ∧ Hid (BBlk wr (w.heap.size + 1 + 1 + 1) (front n k)) ∧ Hid (Below w.heap.size w wr)) (fun _ i _ => 128 - (intOf i).toNat)
  case atStart => exact ⟨0, by omega, rfl, by rw [cy_0], HX, HY, HR, by rw [front_0]; exact HO, HL⟩
  case round =>
    obtain ⟨k, hk, rfl, rfl, HX, HY, HR, HO, HL⟩ := hrel
    by_cases hlt : k < 128
    · have x0 := HX.out.at k _ (bl_some x k hlt)
      have y0 := HY.out.at k _ (bl_some y k hlt)
      obtain ⟨b, hb⟩ := front_some n k hlt
      have o0 := HO.out.at k b hb
      have f0 := HO.out.free k
      have HS := Lib.hid (show tb n k = ((tb x k != tb y k) != cy x y k) by rw [← HN.out]; exact tb_add x y k)
      have HC := Lib.hid (cy_up x y k)
      clear hb
      generalize tb x k = p at *
      generalize tb y k = q at *
      generalize cy x y k = c at *
      cases p <;> cases q <;> cases c
      all_goals
        go_wp2
        go_quiet (fail)
        go_wp2
        go_roundw
        case rel => exact ⟨k + 1, by omega, by go_num, by rw [HC.out]; rfl, Lib.hid ((drewN_blk HX.out _).other (by omega) _ _), Lib.hid ((drewN_blk HY.out _).other (by omega) _ _), Lib.hid ((drewN_blk HR.out _).other (by omega) _ _), Lib.hid (by have h := (drewN_blk HO.out nq).set k (tb n k); rw [front_up, HS.out] at h; exact h), Lib.hid (below_set1 (below_drewN HL.out _) (by omega))⟩
        case measure => simp [intOf]; omega
    · obtain rfl : k = 128 := by omega
      have HF := Lib.hid (front_all n)
      have HE2 := Lib.hid (front_length n 128)
      go_wp2_with (first | (refine wpList_load_bits rfl _ rfl (w.heap.size + 1 + 1 + 1) (front n 128) rfl HO.out HE2.out ?_) | (refine wpList_store_bits rfl _ _ rfl (w.heap.size + 1 + 1) none128 (front n 128) rfl rfl HR.out none_length HE2.out ?_))
      exact bodyPost_ret (v := .agg (bools (front n 128))) (results_bits rfl rfl (HR.out.row _) HE2.out) rfl ⟨by rw [HF.out], below_row HL.out (by omega) _⟩
end Go.Proofs.YtjjikooabmddlaaGreatDoor.Bits

/-
  Contracts of the document's half and Halves of bits; whether two are the same.
-/
namespace Go.Proofs.YtjjikooabmddlaaGreatDoor.Bits
open Go.ChangeShapes Go.WideShapes Go.ChangeAt Go.RowKit Val
set_option linter.unusedVariables false

theorem seg_le (x : Int) (s k : Nat) (h : k < 64) : 0 ≤ seg x s k ∧ 2 * seg x s k + 1 < 18446744073709551616 := by
  obtain ⟨h0, h1⟩ := seg_lt x s k
  have hp : (2 : Int) ^ k ≤ 2 ^ 63 := by
    have : (2 : Nat) ^ k ≤ 2 ^ 63 := Nat.pow_le_pow_right (by decide) (by omega)
    exact_mod_cast this
  have : (2 : Int) ^ 63 = 9223372036854775808 := by decide
  omega
set_option maxHeartbeats 4000000 in
set_option maxRecDepth 100000 in
theorem half_any (x : Int) (f : Nat) (hf : f ≤ 64) (w : World) :
    Calls Tryz.prog 90 #[.agg (bools (bl x)), .int .i64 (f : Int)] w fun e w' => e = .returned (.int .u64 (seg x f 64)) ∧ Below w.heap.size w w' := by
  have HX := Lib.hid (BBlk.fresh w (bl x))
  have HL := Lib.hid (below_alloc w (.cells (bools (bl x)) 95))
  go_enter Tryz.func90, Tryz.ntmps90
  go_wp2
  go_loop [5, 6] (fun n i => ∃ (r : Nat) (N J : Int), r ≤ 64 ∧ i = .int .i64 J ∧ n = .int .u64 N ∧ J = 63 - (r : Int) ∧ 0 ≤ N ∧ (r < 64 → 2 * N + 1 < 18446744073709551616) ∧ Hid (N = seg x (f + (64 - r)) r)) (fun _ i => (intOf i + 1).toNat)
  case atStart => exact ⟨0, 0, 63, by omega, rfl, rfl, by omega, by omega, fun _ => by omega, Lib.hid (seg_zero _ _).symm⟩
  case round =>
    obtain ⟨r, N, J, hr, rfl, rfl, hJ, hN0, hN1, HN⟩ := hrel
    by_cases hlt : r < 64
    · obtain ⟨q, rfl⟩ : ∃ q : Nat, J = q := ⟨J.toNat, by omega⟩
      have hq : q = 63 - r := by omega
      have hN2 := hN1 hlt
      clear hN1
      have x0 := HX.out.at (f + q) _ (bl_some x (f + q) (by omega))
      have HS := Lib.hid (show seg x (f + (64 - (r + 1))) (r + 1) = 2 * N + (if tb x (f + q) then 1 else 0) by
        rw [seg_down, HN.out, show f + (64 - (r + 1)) = f + q by omega, show f + q + 1 = f + (64 - r) by omega])
      have HB := Lib.hid (fun (h : r + 1 < 64) => seg_le x (f + (64 - (r + 1))) (r + 1) h)
      have HB0 := Lib.hid (seg_lt x (f + (64 - (r + 1))) (r + 1)).1
      have HJ := Lib.hid hJ
      have HQ := Lib.hid hq
      have hfq : f + q < 128 := by omega
      have hfi : (f : Int) + (q : Int) < 128 := by omega
      have hq0 : decide ((0 : Int) ≤ (q : Int)) = true := by simp
      clear hJ hq hr
      generalize tb x (f + q) = b at *
      cases b
      all_goals
        go_wp2
        go_round
        case rel => exact ⟨r + 1, _, (q : Int) - 1, by omega, rfl, rfl, by have := HQ.out; omega, by omega, fun h => by have := HB.out h; rw [HS.out] at this; simpa using this.2, Lib.hid (by rw [HS.out]; simp)⟩
        case measure => first | (simp [intOf]; done) | (simp [intOf]; omega)
    · obtain rfl : r = 64 := by omega
      have e : J = -1 := by omega
      subst e
      go_wp2
      go_ret
      exact ⟨ret1 (by rw [HN.out]; rfl), HL.out⟩
set_option maxHeartbeats 4000000 in
set_option maxRecDepth 100000 in
theorem halves_any (x : Int) (w : World) :
    Calls Tryz.prog 70 #[.agg (bools (bl x))] w fun e w' => e = .returned (.tuple #[.int .i64 (wrap64 (seg x 64 64)), .int .u64 (seg x 0 64)]) ∧ Below w.heap.size w w' := by
  have HX := Lib.hid (BBlk.fresh w (bl x))
  have HL := Lib.hid (below_alloc w (.cells (bools (bl x)) 95))
  have HE := Lib.hid (bl_length x)
  go_enter Tryz.func70, Tryz.ntmps70
  go_wp2_with (first | (refine wpList_load_bits rfl _ rfl w.heap.size (bl x) rfl HX.out HE.out ?_))
  refine (half_any x 64 (by omega) _).mono ?_
  rintro e w1 ⟨rfl, hb1⟩
  have X1 := Lib.hid (HX.out.call hb1)
  have L1 := Lib.hid (bnext HL.out (by simp) hb1)
  clear hb1
  go_wp2_with (first | (refine wpList_load_bits rfl _ rfl w.heap.size (bl x) rfl X1.out HE.out ?_))
  refine (half_any x 0 (by omega) _).mono ?_
  rintro e w2 ⟨rfl, hb2⟩
  have L2 := Lib.hid (bnext L1.out L1.out.size hb2)
  clear hb2
  go_wp2
  go_ret2
  exact ⟨rfl, L2.out⟩

theorem run_eqItems_bits (d : Nat) (D E : List Bool) (w : World) (hD : D.length = 128) (hE : E.length = 128) : ∀ is : List Nat, (∀ i ∈ is, i < 128) →
    (Op.eqItems (d + 1) 4 1 (bools D) (bools E) is).run Tryz.prog w = .ok (is.all fun i => D.getD i false == E.getD i false) w
  | [], _ => by simp [Op.eqItems]
  | i :: is, h => by
    have hi := h i (by simp)
    have ih := run_eqItems_bits d D E w hD hE is (fun j hj => h j (by simp [hj]))
    have ha : ∀ w, (isAgg 4).run Tryz.prog w = .ok false w := fun w => by kernel_rfl
    have pt : ∀ (F : List Bool), F.length = 128 → (part 4 (bools F) (i * 1)).run Tryz.prog w = .ok (.bool (F.getD i false)) w := by
      intro F hF
      have e : (bools F)[i * 1]? = some (.bool (F.getD i false)) := by
        rw [Nat.mul_one]
        have hl : i < F.length := by omega
        simp [bools, List.getD, hl]
      unfold part
      simp only [Sem.run_bind, ha, Result.andThen_ok, Bool.false_eq_true, if_false, e, Sem.run_pure]
    have he := run_equalIn_bool (P := Tryz.prog) w d 4 (D.getD i false) (E.getD i false) Tryz.underlying4
    simp only [Op.eqItems, Sem.run_bind, pt D hD, pt E hE, Result.andThen_ok, he, List.all_cons]
    cases hc : (D.getD i false == E.getD i false)
    · simp
    · simp only [Bool.not_true, Bool.false_eq_true, if_false, ih, Bool.true_and]
set_option maxRecDepth 100000 in
theorem run_eq_bits (d : Nat) (D E : List Bool) (hD : D.length = 128) (hE : E.length = 128) (c : Bool) (hc : decide (D = E) = c) (w : World) :
    (Op.equalIn (d + 2) 95 (.agg (bools D)) (.agg (bools E))).run Tryz.prog w = .ok c w := by
  obtain ⟨i0, hi⟩ : ∃ i, Tryz.prog.info? 4 = some i := by
    have : (Tryz.prog.info? 4).isSome = true := by kernel_rfl
    exact Option.isSome_iff_exists.1 this
  rw [run_equalIn_array w (d + 1) (n := 128) (bools D) (bools E) (by kernel_rfl) hi, show Tryz.prog.cellsOf 4 = 1 by kernel_rfl, run_eqItems_bits d D E w hD hE _ (fun i hi => List.mem_range.1 hi), ← hc]
  congr 1
  rw [Bool.eq_iff_iff, List.all_eq_true, decide_eq_true_iff]
  constructor
  · intro h
    apply List.ext_getElem (by omega)
    intro i h1 h2
    have := h i (List.mem_range.2 (by omega))
    simpa [List.getD, h1, h2] using this
  · intro h i hi
    rw [h]
    simp
/-- whether a wide number is one of 64 bits, and which -/
def fitN (x : Int) : Int := if -9223372036854775808 ≤ x ∧ x ≤ 9223372036854775807 then x else 0
def fitE (x : Int) : Int := if -9223372036854775808 ≤ x ∧ x ≤ 9223372036854775807 then 0 else 11
theorem low_is (x : Int) : seg x 0 64 = x % 18446744073709551616 := by unfold seg; simp
theorem same_bits {x s : Int} (hx : -170141183460469231731687303715884105728 ≤ x ∧ x < 170141183460469231731687303715884105728) (hs : -9223372036854775808 ≤ s ∧ s ≤ 9223372036854775807) (h : (x - s) % 18446744073709551616 = 0) :
    decide (bl s = bl x) = decide (-9223372036854775808 ≤ x ∧ x ≤ 9223372036854775807) := by
  have hp : (2 : Int) ^ 128 = 340282366920938463463374607431768211456 := by decide
  refine decide_eq_decide.2 ?_
  rw [bl_eq, hp]
  omega
theorem BBlk.range {w : World} {g : Nat} {D : List Bool} (h : BBlk w g D) : w.rangeAt g 0 (D.map Value.bool) := by
  intro j v hj
  obtain ⟨b, hb, rfl⟩ : ∃ b, D[j]? = some b ∧ Value.bool b = v := by simpa using hj
  rw [Nat.zero_add]
  exact h.at j b hb
theorem keepL {W w1 w2 : World} {g : Nat} {cs : List Value} (hR : W.rangeAt g 0 cs) (hg : g < W.heap.size) (hb : Below w1.heap.size w1 w2) (h : w1.rangeAt g 0 cs ∧ Below W.heap.size W w1) :
    w2.rangeAt g 0 cs ∧ Below W.heap.size W w2 := by
  have hB2 := h.2.trans (hb.mono h.2.size)
  exact ⟨fun j v hj => (hB2.cell (p := ⟨g, 0 + j, none⟩) hg).trans (hR j v hj), hB2⟩
end Go.Proofs.YtjjikooabmddlaaGreatDoor.Bits

/-
  The contract of layer 6's fits (the document's).
-/
namespace Go.Proofs.YtjjikooabmddlaaGreatDoor.Bits
open Go.ChangeShapes Go.WideShapes Go.ChangeAt Go.RowKit Val
set_option linter.unusedVariables false

theorem int_is (a : Int) (ha : fits a) (w : World) : Calls Tryz.prog 50 #[.int .i64 a] w fun e w' => e = .returned (.agg (bools (bl a))) ∧ Below w.heap.size w w' := int_any a ha w
theorem exec_neq {o : Oper} {a : Act} {x y : Operand} {r : TypeId} {A B : Array Value} {c : Bool} (ho : o.op = .binOp .neq 95 x y r) (hx : a.eval x = .agg A) (hy : a.eval y = .agg B) (heq : ∀ w, (Op.equalIn 10000 95 (.agg A) (.agg B)).run Tryz.prog w = .ok c w) (w : World) :
    (execOp a.eval o).run Tryz.prog w = .ok (.value (.bool (!c))) w := by
  unfold execOp
  have hm : Tryz.prog.eqGuardType Tryz.prog.depth 95 = false := by kernel_rfl
  simp only [ho, hx, hy, Sem.run_bind, run_eqGuard_agg w _ _ x y A B hm, run_neq_struct, heq, Result.andThen_ok, Sem.run_pure]
set_option maxHeartbeats 1000000 in
set_option maxRecDepth 100000 in
theorem fits6_any (x : Int) (hx : -170141183460469231731687303715884105728 ≤ x ∧ x < 170141183460469231731687303715884105728) (w : World) :
    Calls Tryz.prog 51 #[.agg (bools (bl x))] w fun e w' => e = .returned (.tuple #[.int .i64 (fitN x), .int .i64 (fitE x)]) ∧ Below w.heap.size w w' := by
  have HX := Lib.hid (BBlk.fresh w (bl x))
  have HL := Lib.hid (below_alloc w (.cells (bools (bl x)) 95))
  have HE := Lib.hid (bl_length x)
  have hh := halves_any x
  obtain ⟨lo, hlo⟩ : ∃ lo, seg x 0 64 = lo := ⟨_, rfl⟩
  obtain ⟨hi, hhi⟩ : ∃ hi, wrap64 (seg x 64 64) = hi := ⟨_, rfl⟩
  rw [hlo, hhi] at hh
  have hlo2 : 0 ≤ lo ∧ lo < 18446744073709551616 ∧ (x - lo) % 18446744073709551616 = 0 := by rw [← hlo, low_is]; omega
  obtain ⟨s, hs⟩ : ∃ s, wrap64 lo = s := ⟨_, rfl⟩
  have hw : IntKind.i64.wrap lo = s := by rw [← hs, IntKind.wrap_i64]; unfold wrap64; omega
  have hsw : -9223372036854775808 ≤ s ∧ s ≤ 9223372036854775807 := by rw [← hs]; unfold wrap64; omega
  have hsx : (x - s) % 18446744073709551616 = 0 := by rw [← hs]; unfold wrap64; omega
  obtain ⟨c, hc⟩ : ∃ c, decide (-9223372036854775808 ≤ x ∧ x ≤ 9223372036854775807) = c := ⟨_, rfl⟩
  have heq : ∀ w, (Op.equalIn 10000 95 (.agg (bools (bl s))) (.agg (bools (bl x)))).run Tryz.prog w = .ok c w := fun w => run_eq_bits 9998 (bl s) (bl x) (bl_length s) (bl_length x) c ((same_bits hx hsw hsx).trans hc) w
  have HI := Lib.hid (int_is s hsw)
  have HH := Lib.hid hh
  have hA : fitN x = (if c then s else 0) ∧ fitE x = (if c then 0 else 11) := by
    unfold fitN fitE
    cases c
    · rw [decide_eq_false_iff_not] at hc
      rw [if_neg hc, if_neg hc]
      exact ⟨rfl, rfl⟩
    · rw [decide_eq_true_iff] at hc
      rw [if_pos hc, if_pos hc]
      refine ⟨?_, rfl⟩
      show x = s
      omega
  have HA := Lib.hid hA
  obtain ⟨cs, hcs⟩ : ∃ cs : List Value, cs = (bl x).map Value.bool := ⟨_, rfl⟩
  rw [show bools (bl x) = cs.toArray by rw [hcs]; rfl] at heq
  have hu : Tryz.prog.underlying 95 = some (.array 128 4) := by kernel_rfl
  have hsz : (Tryz.prog.info? 95).map (·.size) = some cs.length := by
    rw [hcs, List.length_map, bl_length]
    kernel_rfl
  have HCS := Lib.hid hcs
  clear hA hc hsx hsw hx hcs hh hlo hhi hlo2
  cases c
  all_goals
    go_enter Tryz.func51, Tryz.ntmps51
    go_wp2_with (first | (refine wpList_load_bits rfl _ rfl w.heap.size (bl x) rfl HX.out HE.out ?_))
    refine (HH.out _).mono ?_
    rintro e w1 ⟨rfl, hb1⟩
    have X1 := Lib.hid (HX.out.call hb1)
    have L1 := Lib.hid (bnext HL.out (by simp) hb1)
    clear hb1
    go_wp2_with fail
    have hR := show w1.rangeAt w.heap.size 0 cs by rw [HCS.out]; exact X1.out.range
    have hlt := X1.out.lt
    refine wp_region_held_drew (S := fun w' => w'.rangeAt w.heap.size 0 cs ∧ Below w1.heap.size w1 w') (by kernel_rfl) ⟨hR, Below.drew (Below.refl _ _)⟩ (fun hHeld => ?_)
    refine wpAnyH_take (i := 0) (oi := ⟨some 11, _, _, _, _, _⟩) (v := ?_) rfl (by kernel_rfl) (by kernel_rfl) (by kernel_rfl) (fun _ _ _ h => h) (Or.inl ⟨by rfl, ?_⟩) (by assumption) ?_; rotate_left 1; (intro w hSw; (try dsimp only at hSw); go_simp; try with_reducible rfl); (try simp only [Act.put, List.setIfInBounds_toArray, List.set_cons_zero, List.set_cons_succ])
    refine wpAnyH_take (i := 1) (oi := ⟨some 12, _, _, _, _, _⟩) (v := ?_) rfl (by kernel_rfl) (by kernel_rfl) (by kernel_rfl) (fun _ _ _ h => h) (Or.inl ⟨by rfl, ?_⟩) (by assumption) ?_; rotate_left 1; (intro w hSw; (try dsimp only at hSw); go_simp; try with_reducible rfl); (try simp only [Act.put, List.setIfInBounds_toArray, List.set_cons_zero, List.set_cons_succ])
    refine wpAnyH_take (i := 3) (oi := ⟨some 14, _, _, _, _, _⟩) (v := .agg cs.toArray) rfl (by kernel_rfl) (by kernel_rfl) (by kernel_rfl) (fun _ _ _ h => h) (yieldsIf_load_mid (by rfl) _ _ rfl w.heap.size 0 rfl cs _ (fun w h => h.1) hu rfl hsz) (by assumption) ?_; (try simp only [Act.put, List.setIfInBounds_toArray, List.set_cons_zero, List.set_cons_succ])
    refine wpAnyH_ready (rs := [2]) (by kernel_rfl) (by simp) ?_
    refine AllReadyH.cons (o := ⟨some 13, _, _, _, _, _⟩) rfl (fun K hK => ?_) AllReadyH.nil
    go_simp
    refine (HI.out _).mono ?_
    rintro e w5 ⟨rfl, hb5⟩
    refine hK.out _ _ (keepL hR hlt hb5 hHeld) (fun hHeld2 => ?_)
    clear hK K
    (try simp only [Act.put, List.setIfInBounds_toArray, List.set_cons_zero, List.set_cons_succ])
    refine wpAnyH_take (i := 4) (oi := ⟨some 15, _, _, _, _, _⟩) (v := .bool _) rfl (by kernel_rfl) (by kernel_rfl) (by kernel_rfl) (fun _ _ _ h => h) (Or.inl ⟨by rfl, fun w _ => exec_neq rfl rfl rfl heq w⟩) (by assumption) ?_; (try simp only [Act.put, List.setIfInBounds_toArray, List.set_cons_zero, List.set_cons_succ])
    refine wpAnyH_done (by kernel_rfl) ?_ _
    have M1 := Lib.hid hHeld2.2
    go_wp2
    go_ret2
    exact ⟨ret2 (by rw [HA.out.1]; rfl) (by rw [HA.out.2]; rfl), bnext L1.out (by have := L1.out.size; omega) M1.out⟩
end Go.Proofs.YtjjikooabmddlaaGreatDoor.Bits
