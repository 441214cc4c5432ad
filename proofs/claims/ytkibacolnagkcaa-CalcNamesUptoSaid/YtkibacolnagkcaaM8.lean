/-
  Lists of values in memory: what a list is there, appended to, cut; no function of the program is named.
-/
import Derived.Test.YtkibacolnagkcaaM7
import Derived.Test.YtkibacolnagkcaaM2
import Derived.Laws.OwnMore
import Derived.Laws.AppendOwnNone
import Derived.Deep.AppendLies
import Derived.Deep.Draws
import Derived.Deep.QuietTactic
import Derived.BigQuiet
import Derived.Maps.AppendAt
import Derived.Lib.OthersKept
import Derived.Laws.CopyOwn
import Derived.Laws.MakeOwn
import Derived.Laws.Tables
import Derived.Deep.RegionLaw
namespace Go.Proofs.Ytkibacolnagkcaa.Code
open Go.ChangeShapes Go.WideShapes Go.ChangeAt Go.RowKit Val
set_option linter.unusedVariables false

/-- a piece of a text -/
theorem cut_at (s : ByteArray) (i j : Int) (a b : Nat) (hi : i = a) (hj : j = b) (h : a ≤ b) (g : b ≤ s.size) (w : World) :
    (Instr.slice 9 (.string s) (some (.int .i64 i)) (some (.int .i64 j)) none).run Try.prog w = .ok (.string (s.extract a b)) w := by
  rw [run_slice_string w 9 s .i64 .i64 i j Try.underlying9 (by omega) (by omega) (by omega), show i.toNat = a by omega, show j.toNat = b by omega]

theorem cut_from (s : ByteArray) (i : Int) (a : Nat) (hi : i = a) (g : a ≤ s.size) (w : World) :
    (Instr.slice 9 (.string s) (some (.int .i64 i)) none none).run Try.prog w = .ok (.string (s.extract a s.size)) w := by
  rw [run_slice_string_from_if w 9 s .i64 i Try.underlying9, if_pos (by omega), show i.toNat = a by omega]
theorem cut_to (s : ByteArray) (i : Int) (a : Nat) (hi : i = a) (g : a ≤ s.size) (w : World) :
    (Instr.slice 9 (.string s) none (some (.int .i64 i)) none).run Try.prog w = .ok (.string (s.extract 0 a)) w := by
  rw [run_slice_string_to_if w 9 s .i64 i Try.underlying9, if_pos (by omega), show i.toNat = a by omega]
theorem from_list (s : ByteArray) (a : Nat) : (s.extract a s.size).data.toList = s.data.toList.drop a := by
  have hl : s.data.toList.length = s.size := rfl
  rw [ByteArray.data_extract, Array.toList_extract, List.extract_eq_take_drop]
  exact List.take_of_length_le (by rw [List.length_drop]; omega)
theorem to_list (s : ByteArray) (a : Nat) : (s.extract 0 a).data.toList = s.data.toList.take a := by
  rw [ByteArray.data_extract, Array.toList_extract, List.extract_eq_take_drop]
  simp
theorem size_list (s : ByteArray) : s.size = s.data.toList.length := rfl

theorem add_block (a : Addr) (n : Nat) : (a.add n).block = a.block := by unfold Addr.add; split <;> rfl
theorem add_next (a : Addr) (n j : Nat) : a.add (n + (j + 1)) = ⟨(a.add n).block, (a.add n).off + (j + 1), none⟩ := by
  unfold Addr.add
  rw [if_neg (by omega)]
  by_cases h : n = 0
  · rw [if_pos h, h, Nat.zero_add]
  · rw [if_neg h, Nat.add_assoc]
/-- the slice at A holds these values, and lies below B -/
def Vals (w : World) (B : Nat) (A : Option Addr) (l : List (Int × Int × ByteArray)) : Prop :=
  ∀ (i : Nat) (h : i < l.length), ∃ ad : Addr, A = some ad ∧ ad.block < B ∧ w.cell? (ad.add (i * 3)) = some (.int .i64 l[i].1) ∧ w.cell? ⟨(ad.add (i * 3)).block, (ad.add (i * 3)).off + 1, none⟩ = some (.int .i64 l[i].2.1) ∧ w.cell? ⟨(ad.add (i * 3)).block, (ad.add (i * 3)).off + 2, none⟩ = some (.string l[i].2.2)
theorem Vals.keep {w w' : World} {B : Nat} {A : Option Addr} {l : List (Int × Int × ByteArray)} (h : Vals w B A l) (hk : ∀ p : Addr, p.block < B → w'.cell? p = w.cell? p) : Vals w' B A l := by
  intro i hi
  obtain ⟨ad, e, hb, h0, h1, h2⟩ := h i hi
  exact ⟨ad, e, hb, (hk _ (by rw [add_block]; exact hb)).trans h0, (hk _ (by rw [add_block]; exact hb)).trans h1, (hk _ (by rw [add_block]; exact hb)).trans h2⟩
theorem Vals.below {w w' : World} {B : Nat} {A : Option Addr} {l : List (Int × Int × ByteArray)} (h : Vals w B A l) (hb : Below B w w') : Vals w' B A l := h.keep fun _ hp => hb.cell hp
theorem Vals.more {w : World} {B B' : Nat} {A : Option Addr} {l : List (Int × Int × ByteArray)} (h : Vals w B A l) (hB : B ≤ B') : Vals w B' A l := by
  intro i hi
  obtain ⟨ad, e, hb, h0⟩ := h i hi
  exact ⟨ad, e, by omega, h0⟩

/-- how long the texts are together -/
def sizes (l : List (Int × Int × ByteArray)) : Nat := (l.map fun v => v.2.2.size).sum
theorem sizes_snoc (l : List (Int × Int × ByteArray)) (k : Nat) (h : k < l.length) : sizes (l.take (k + 1)) = sizes (l.take k) + l[k].2.2.size := by
  unfold sizes
  rw [List.take_succ_eq_append_getElem h, List.map_append, List.sum_append]
  simp
def Short (l : List (Int × Int × ByteArray)) : Prop := ∀ v ∈ l, v.2.2.size ≤ 140737488355328
theorem sizes_le {l : List (Int × Int × ByteArray)} (h : Short l) : ∀ k : Nat, sizes (l.take k) ≤ k * 140737488355328
  | 0 => Nat.zero_le _
  | k + 1 => by
    have ih := sizes_le h k
    rw [Nat.add_mul, Nat.one_mul]
    by_cases hk : k < l.length
    · rw [sizes_snoc l k hk]
      exact Nat.add_le_add ih (h l[k] (List.getElem_mem hk))
    · rw [List.take_of_length_le (by omega)] at ih
      rw [List.take_of_length_le (by omega)]
      exact Nat.le_trans ih (Nat.le_add_right _ _)
theorem take_snoc (l : List (Int × Int × ByteArray)) (k : Nat) (h : k < l.length) : l.take (k + 1) = l.take k ++ [l[k]] := List.take_succ_eq_append_getElem h
theorem drewN_below {B : Nat} {a w : World} (h : Below B a w) (n : Nat) : Below B a (w.drewN n) := ⟨h.os, h.tape, h.output, h.size, h.block⟩
theorem toList_ne {s t : ByteArray} (h : s ≠ t) : (s.toList == t.toList) = false := by
  rw [beq_eq_false_iff_ne]
  intro e
  rw [ByteArray.toList_eq, ByteArray.toList_eq] at e
  apply h
  obtain ⟨⟨a⟩⟩ := s
  obtain ⟨⟨b⟩⟩ := t
  simp at e
  rw [e]

def cells3 (v : Int × Int × ByteArray) : List Value := [.int .i64 v.1, .int .i64 v.2.1, .string v.2.2]
/-- values as the cells of a row -/
def flat (l : List (Int × Int × ByteArray)) : List Value := l.flatMap cells3
theorem flat_length : ∀ l, (flat l).length = l.length * 3
  | [] => rfl
  | v :: l => by
    show (cells3 v ++ flat l).length = _
    rw [List.length_append, flat_length l, List.length_cons]
    show 3 + _ = _
    omega
theorem flat_at : ∀ (l : List (Int × Int × ByteArray)) (i : Nat) (h : i < l.length) (j : Nat), j < 3 → (flat l)[i * 3 + j]? = (cells3 l[i])[j]?
  | v :: l, 0, _, j, hj => by
    show (cells3 v ++ flat l)[0 * 3 + j]? = (cells3 v)[j]?
    rw [Nat.zero_mul, Nat.zero_add, List.getElem?_append_left hj]
  | v :: l, i + 1, h, j, hj => by
    show (cells3 v ++ flat l)[(i + 1) * 3 + j]? = _
    have hl : (cells3 v).length = 3 := rfl
    rw [List.getElem?_append_right (by omega), hl, show (i + 1) * 3 + j - 3 = i * 3 + j by omega]
    exact flat_at l i (by simpa using h) j hj
theorem flat_snoc (l : List (Int × Int × ByteArray)) (v : Int × Int × ByteArray) : flat (l ++ [v]) = flat l ++ cells3 v := by
  unfold flat
  rw [List.flatMap_append]
  simp
theorem info_val : (Try.prog.info? 38).map (fun i => (i.zero, i.size, i.bytes)) = some (some (.agg #[.int .i64 0, .int .i64 0, .string ByteArray.empty]), 3, 32) := by kernel_rfl
/-- a row of the call's own is a list of values -/
theorem own_vals {w : World} {B : Nat} {v : Value} {l : List (Int × Int × ByteArray)} (h : w.ownsRow B 38 3 v l.length (flat l)) : ∃ A cap, v = .slice A l.length cap ∧ Vals w w.heap.size A l := by
  rcases Nat.eq_zero_or_pos l.length with h0 | h0
  · have hn := List.eq_nil_of_length_eq_zero h0
    subst hn
    rcases h.2 with ⟨rfl, _⟩ | ⟨g, cap, cur, rfl, _⟩
    · exact ⟨none, 0, rfl, fun i hi => absurd hi (Nat.not_lt_zero _)⟩
    · exact ⟨some ⟨g, 0, none⟩, cap, rfl, fun i hi => absurd hi (Nat.not_lt_zero _)⟩
  · obtain ⟨g, cap, hv, hg, hlt⟩ := h.form h0
    have hc := h.cells (g := g) (by rw [hv]; rfl)
    refine ⟨some ⟨g, 0, none⟩, cap, hv, fun i hi => ⟨⟨g, 0, none⟩, rfl, hlt, ?_, ?_, ?_⟩⟩
    · exact hc (i * 3) _ (flat_at l i hi 0 (by omega))
    · rw [← add_next]; exact hc (i * 3 + 1) _ (flat_at l i hi 1 (by omega))
    · rw [← add_next]; exact hc (i * 3 + 2) _ (flat_at l i hi 2 (by omega))
theorem own_call {w w' : World} {B n size : Nat} {t : TypeId} {v : Value} {xs : List Value} (h : w.ownsRow B t size v n xs) (hb : Below w.heap.size w w') : w'.ownsRow B t size v n xs :=
  h.kept (row := none) ⟨hb.os, hb.tape, hb.output, hb.size, fun i hi _ => hb.block i hi⟩ (Classical.em _)
theorem row3_new (w : World) (o : Obj) (k n : Int) (t : ByteArray) (ty : TypeId) : ∀ (j : Nat) (u : Value), (cells3 (k, n, t))[j]? = some u → ((w.alloc o).alloc (.cells #[.int .i64 k, .int .i64 n, .string t] ty)).cell? ((⟨w.heap.size + 1, 0, none⟩ : Addr).add j) = some u := by
  have h := heap_alloc_new (w.alloc o) (.cells #[.int .i64 k, .int .i64 n, .string t] ty)
  rw [show (w.alloc o).heap.size = w.heap.size + 1 by simp] at h
  exact World.news_of_block h
def strSize : Value → Nat
  | .string s => s.size
  | _ => 0

theorem vals_news {w : World} {B : Nat} {ad : Addr} {l : List (Int × Int × ByteArray)} (h : Vals w B (some ad) l) : ∀ (j : Nat) (u : Value), (flat l)[j]? = some u → w.cell? (ad.add j) = some u := by
  intro j u hu
  have hj : j < (flat l).length := by
    rcases Nat.lt_or_ge j (flat l).length with h1 | h1
    · exact h1
    · rw [List.getElem?_eq_none h1] at hu; cases hu
  rw [flat_length] at hj
  obtain ⟨i, r, hr, rfl⟩ : ∃ i r, r < 3 ∧ j = i * 3 + r := ⟨j / 3, j % 3, Nat.mod_lt _ (by decide), by omega⟩
  have hi : i < l.length := by omega
  obtain ⟨ad', e, _, c0, c1, c2⟩ := h i hi
  obtain rfl : ad = ad' := Option.some.inj e
  rw [flat_at l i hi r hr] at hu
  match r, hr with
  | 0, _ => exact c0.trans hu
  | 1, _ => rw [add_next]; exact c1.trans hu
  | 2, _ => rw [add_next]; exact c2.trans hu
theorem flat_one (l : List (Int × Int × ByteArray)) : ∀ u ∈ flat l, u.oneCell' = true := by
  intro u hu
  obtain ⟨v, _, hv⟩ := List.mem_flatMap.1 hu
  simp [cells3] at hv
  rcases hv with rfl | rfl | rfl <;> simp [Value.oneCell']
theorem flat_append (a b : List (Int × Int × ByteArray)) : flat (a ++ b) = flat a ++ flat b := List.flatMap_append
theorem run_append_nothing {P : Program} (w : World) (base : Nat) (t ty e : TypeId) (i : TypeInfo) (size : Nat) (ht : P.underlying t = some (.slice e)) (hi : P.info? e = some i) (v : Value) (n : Nat) (xs : List Value) (hown : w.ownsRow base e size v n xs) (c : Nat) :
    (Builtin.append_ #[t, t] ty #[v, .slice none 0 c]).run P w = .ok v w := by
  rcases hown.2 with ⟨rfl, rfl⟩ | ⟨g, cap, cur, rfl, _, _, hnc, _⟩
  · simp [Builtin.append_, run_underlying ht, sizeOf, typeInfo, hi, Builtin.lenOf, Builtin.firstCells]
  · simp [Builtin.append_, run_underlying ht, sizeOf, typeInfo, hi, Builtin.lenOf, Builtin.firstCells, hnc, storeCells]
/-- values appended to a row of the call's own, whether they are nil or not -/
theorem wpList_append_vals {P : Program} {w : World} {ops : Array Oper} {rest : List Oper} {o : Oper} {a : Act} {Q : Exit → Act → World → Prop} (hgd : o.guard = none) (s x : Operand) (t : TypeId)
    (ho : o.op = .call { callee := .builtin .append, args := #[s, x], argTypes := #[t, t] })
    (base : Nat) (e : TypeId) (i : TypeInfo) (z : Value) (bytes : Nat) (ht : P.underlying t = some (.slice e)) (hi : P.info? e = some i) (hz : i.zero = some z)
    (hsize : i.size = 3) (hby : i.bytes = bytes) (hzs : z.cells.size = 3) (v : Value) (n : Nat) (xs : List Value) (hs : a.eval s = v) (hown : w.ownsRow base e 3 v n xs)
    (B : Nat) (A : Option Addr) (c : Nat) (l : List (Int × Int × ByteArray)) (hx : a.eval x = .slice A l.length c) (hv : Vals w B A l)
    (h63 : n + l.length ≤ maxLen) (hbytes : (n + l.length) * bytes ≤ 140737488355328) (hbase : base ≤ w.heap.size)
    (h : ∀ v' w', w'.ownsRow base e 3 v' (n + l.length) (xs ++ flat l) → w.grownBy w' v.ownBlock → wpList P ops Q rest (a.put o.dst v') w') : wpList P ops Q (o :: rest) a w := by
  rcases A with _ | ad
  · have h0 : l = [] := by
      cases l with
      | nil => rfl
      | cons y l =>
        obtain ⟨ad, e, _⟩ := hv 0 (by simp)
        cases e
    subst h0
    refine wpList_plain hgd fun K hK => ?_
    have hrun := run_append_nothing (P := P) w base t o.type e i 3 ht hi v n xs hown c
    unfold Oper.wp execOp
    simp only [ho, resolve, invoke, builtin, Sem.run_bind, Sem.run_pure, Result.andThen_ok, List.map_toArray, List.map_cons, List.map_nil, hs, hx, List.length_nil, hrun]
    exact hK _ _ (h v w (by simpa [flat] using hown) (World.grownBy.refl w _))
  · exact wpList_append_own w hgd s x t ho base e i z 3 bytes ht hi hz hsize hby hzs (by decide) v n xs hs hown ad l.length c (flat l) hx (flat_length l) (vals_news hv) (flat_one l) h63 hbytes hbase (fun v' w' h1 h2 _ => h v' w' h1 h2)
theorem own_empty (w : World) : (w.alloc (.cells #[] 38)).ownsRow w.heap.size 38 3 (.slice (some ⟨w.heap.size, 0, none⟩) 0 0) 0 [] :=
  ⟨rfl, .inr ⟨w.heap.size, 0, #[], rfl, Nat.le_refl _, heap_alloc_new w _, Nat.le_refl _, Nat.zero_le _, rfl, rfl⟩⟩

/-- a block that is a value's -/
def VBlk (W : World) (b : Nat) (k n : Int) (s : ByteArray) : Prop := W.heap[b]? = some (.cells #[.int .i64 k, .int .i64 n, .string s] 38 (0, 0))
theorem VBlk.box {W : World} {b : Nat} {k n : Int} {s : ByteArray} (h : VBlk W b k n s) : Box W b k n s := by
  unfold VBlk at h
  have hlt : b < W.heap.size := (Array.getElem?_eq_some_iff.1 h).1
  exact ⟨cell_of_row W b 0 _ _ _ h, cell_of_row W b 1 _ _ _ h, cell_of_row W b 2 _ _ _ h, hlt⟩
theorem VBlk.fresh (W : World) (k n : Int) (s : ByteArray) : VBlk (W.alloc (.cells #[.int .i64 k, .int .i64 n, .string s] 38)) W.heap.size k n s := heap_alloc_new W _
theorem VBlk.call {W W' : World} {b : Nat} {k n : Int} {s : ByteArray} (h : VBlk W b k n s) (hb : Below W.heap.size W W') : VBlk W' b k n s :=
  (hb.block b (Array.getElem?_eq_some_iff.1 h).1).trans h
theorem VBlk.others {W W' : World} {b c : Nat} {k n : Int} {s : ByteArray} (h : VBlk W b k n s) (hb : Lib.OthersKept 5 (some c) W W') (hc : b ≠ c) : VBlk W' b k n s :=
  hb b _ h (fun e => hc (Option.some.inj e)) (fun c fz e => by injection e with _ e2; revert e2; decide)
def FitL (l : List (Int × Int × ByteArray)) : Prop := ∀ v ∈ l, fitV v

theorem below2 (w : World) (o o' : Obj) : Below w.heap.size w ((w.alloc o).alloc o') := (below_alloc w o).alloc (by simp) o'
/-- what was there is there behind what makes memory of its own alone, at any place -/
theorem keepP {C : Prop} {W w1 w2 : World} (hb : Below w1.heap.size w1 w2) (h : C ∧ Below W.heap.size W w1) {C' : Prop}
    (hC : (∀ p : Addr, p.block < W.heap.size → w2.cell? p = W.cell? p) → C') : C' ∧ Below W.heap.size W w2 := by
  have hB := h.2.trans (hb.mono h.2.size)
  exact ⟨hC fun p hl => hB.cell hl, hB⟩



end Go.Proofs.Ytkibacolnagkcaa.Code
/-
  Lists of values that a call makes: made whole, copied into, stored into; lists of numbers, and lists of rows, in memory. No function of the program is named.
-/
namespace Go.Proofs.Ytkibacolnagkcaa.Code
open Go.ChangeShapes Go.WideShapes Go.ChangeAt Go.RowKit Val
set_option linter.unusedVariables false

theorem flat_take : ∀ (D : List (Int × Int × ByteArray)) (n : Nat), (flat D).take (n * 3) = flat (D.take n)
  | [], n => by simp [flat]
  | v :: D, 0 => by simp [flat]
  | v :: D, n + 1 => by
    show (cells3 v ++ flat D).take ((n + 1) * 3) = cells3 v ++ flat (D.take n)
    rw [List.take_append, List.take_of_length_le (by show 3 ≤ _; omega), show (n + 1) * 3 - (cells3 v).length = n * 3 by show (n + 1) * 3 - 3 = _; omega, flat_take D n]
theorem flat_drop : ∀ (D : List (Int × Int × ByteArray)) (n : Nat), (flat D).drop (n * 3) = flat (D.drop n)
  | [], n => by simp [flat]
  | v :: D, 0 => by simp [flat]
  | v :: D, n + 1 => by
    show (cells3 v ++ flat D).drop ((n + 1) * 3) = flat (D.drop n)
    rw [List.drop_append, List.drop_of_length_le (by show 3 ≤ _; omega), show (n + 1) * 3 - (cells3 v).length = n * 3 by show (n + 1) * 3 - 3 = _; omega, flat_drop D n]
    rfl
theorem flat_set : ∀ (D : List (Int × Int × ByteArray)) (k : Nat) (v : Int × Int × ByteArray), k < D.length →
    flat (D.set k v) = (((flat D).set (k * 3) (.int .i64 v.1)).set (k * 3 + 1) (.int .i64 v.2.1)).set (k * 3 + 2) (.string v.2.2)
  | x :: D, 0, v, _ => rfl
  | x :: D, k + 1, v, h => by
    have ih := flat_set D k v (by simpa using h)
    show cells3 x ++ flat (D.set k v) = _
    rw [ih, show flat (x :: D) = cells3 x ++ flat D from rfl, show (k + 1) * 3 = k * 3 + 1 + 1 + 1 by omega]
    simp [cells3]
def zV : Int × Int × ByteArray := (0, 0, ByteArray.empty)
theorem made_vals (n : Nat) : madeCells #[.int .i64 0, .int .i64 0, .string ByteArray.empty] (n * 3) = (flat (List.replicate n zV)).toArray := by
  apply Array.toList_inj.1
  apply List.ext_getElem?
  intro j
  by_cases hj : j < n * 3
  · obtain ⟨i, r, hr, rfl⟩ : ∃ i r, r < 3 ∧ j = i * 3 + r := ⟨j / 3, j % 3, Nat.mod_lt _ (by decide), by omega⟩
    rw [flat_at _ i (by simp; omega) r hr]
    have e : (i * 3 + r) % 3 = r := by omega
    simp [madeCells, hj, e, zV, cells3]
    match r, hr with
    | 0, _ => rfl
    | 1, _ => rfl
    | 2, _ => rfl
  · rw [List.getElem?_eq_none (by simp [madeCells]; omega), List.getElem?_eq_none (by rw [flat_length]; simp; omega)]
/-- 'make', of values: a new block of zeros -/
theorem wpList_make_vals {P : Program} (w : World) {ops : Array Oper} {rest : List Oper} {o : Oper} {a : Act} {Q : Exit → Act → World → Prop}
    (hg : o.guard = none) (l c : Operand) (t : TypeId) (hop : o.op = Op.makeSlice t l c) (e : TypeId) (i : TypeInfo) (h1 : P.underlying t = some (.slice e)) (h2 : P.info? e = some i)
    (h3 : i.zero = some (.agg #[.int .i64 0, .int .i64 0, .string ByteArray.empty])) (h4 : i.size = 3) (h5 : i.bytes = 32)
    (kl kc : IntKind) (L C : Int) (n : Nat) (hl : a.eval l = .int kl L) (hc : a.eval c = .int kc C) (hL : L = (n : Int)) (hC : C = (n : Int)) (b : n ≤ 8796093022208)
    (hK : wpList P ops Q rest (a.put o.dst (.slice (some ⟨w.heap.size, 0, none⟩) n n)) (w.alloc (.cells (flat (List.replicate n zV)).toArray e))) :
    wpList P ops Q (o :: rest) a w := by
  refine wpList_plain hg fun K hK' => ?_
  have hr := run_make (P := P) w t e i _ h1 h2 h3 kl kc n n (by omega) (Int.le_refl _) (by rw [h5]; omega) (by omega)
  rw [Int.toNat_natCast, h4, show (Value.agg #[.int .i64 0, .int .i64 0, .string ByteArray.empty]).cells = #[.int .i64 0, .int .i64 0, .string ByteArray.empty] by rfl, made_vals] at hr
  subst hL
  subst hC
  unfold Oper.wp
  simp [execOp, hop, hl, hc, hr, Result.andThen]
  exact hK' _ _ hK

/-- the block holds these values, and no more -/
def Blk (w : World) (g : Nat) (D : List (Int × Int × ByteArray)) : Prop := w.heap[g]? = some (.cells (flat D).toArray 38 (0, 0))
theorem Blk.lt {w : World} {g : Nat} {D : List (Int × Int × ByteArray)} (h : Blk w g D) : g < w.heap.size := (Array.getElem?_eq_some_iff.1 h).1
theorem Blk.fresh (w : World) (D : List (Int × Int × ByteArray)) : Blk (w.alloc (.cells (flat D).toArray 38)) w.heap.size D := heap_alloc_new w _
theorem Blk.keep {w w' : World} {g : Nat} {D : List (Int × Int × ByteArray)} (h : Blk w g D) (hb : w'.heap[g]? = w.heap[g]?) : Blk w' g D := hb.trans h
theorem Blk.call {w w' : World} {g : Nat} {D : List (Int × Int × ByteArray)} (h : Blk w g D) (hb : Below w.heap.size w w') : Blk w' g D := h.keep (hb.block g h.lt)
theorem Blk.alloc {w : World} {g : Nat} {D : List (Int × Int × ByteArray)} (h : Blk w g D) (o : Obj) : Blk (w.alloc o) g D := h.call (below_alloc w o)
theorem Blk.drew {w : World} {g : Nat} {D : List (Int × Int × ByteArray)} (h : Blk w g D) (n : Nat) : Blk (w.drewN n) g D := h
theorem Blk.at {w : World} {g : Nat} {D : List (Int × Int × ByteArray)} (h : Blk w g D) (k : Nat) (hk : k < D.length) :
    w.cell? ⟨g, k * 3, none⟩ = some (.int .i64 D[k].1) ∧ w.cell? ⟨g, k * 3 + 1, none⟩ = some (.int .i64 D[k].2.1) ∧ w.cell? ⟨g, k * 3 + 2, none⟩ = some (.string D[k].2.2) := by
  unfold Blk at h
  have e := fun r hr => flat_at D k hk r hr
  refine ⟨?_, ?_, ?_⟩
  · have := e 0 (by omega)
    simp [World.cell?, h]
    simpa [cells3] using this
  · have := e 1 (by omega)
    simp [World.cell?, h, this, cells3]
  · have := e 2 (by omega)
    simp [World.cell?, h, this, cells3]
theorem Blk.free {w : World} {g : Nat} {D : List (Int × Int × ByteArray)} (h : Blk w g D) (j : Nat) : w.frozen? ⟨g, j, none⟩ = false := by
  unfold Blk at h
  simp [World.frozen?, h]
theorem Blk.vals {w : World} {g : Nat} {D : List (Int × Int × ByteArray)} (h : Blk w g D) : Vals w w.heap.size (some ⟨g, 0, none⟩) D := by
  intro i hi
  obtain ⟨c0, c1, c2⟩ := h.at i hi
  refine ⟨⟨g, 0, none⟩, rfl, h.lt, ?_, ?_, ?_⟩
  · rw [Addr.add_lit, Nat.zero_add]; exact c0
  · rw [Addr.add_lit, Nat.zero_add]; exact c1
  · rw [Addr.add_lit, Nat.zero_add]; exact c2
theorem Blk.set {w : World} {g : Nat} {D : List (Int × Int × ByteArray)} (h : Blk w g D) (k : Nat) (hk : k < D.length) (v : Int × Int × ByteArray) :
    Blk (((w.setCell ⟨g, k * 3, none⟩ (.int .i64 v.1)).setCell ⟨g, k * 3 + 1, none⟩ (.int .i64 v.2.1)).setCell ⟨g, k * 3 + 2, none⟩ (.string v.2.2)) g (D.set k v) := by
  unfold Blk at *
  rw [setCell_eq_setRow w g _ _ _ _ _ h]
  have h1 := setRow_heap w g _ ((flat D).toArray.setIfInBounds (k * 3) (.int .i64 v.1)) _ _ h
  rw [setCell_eq_setRow _ g _ _ _ _ _ h1]
  have h2 := setRow_heap _ g _ (((flat D).toArray.setIfInBounds (k * 3) (.int .i64 v.1)).setIfInBounds (k * 3 + 1) (.int .i64 v.2.1)) _ _ h1
  rw [setCell_eq_setRow _ g _ _ _ _ _ h2, setRow_heap _ g _ _ _ _ h2, flat_set D k v hk]
  simp
theorem below_set3 {B : Nat} {w0 w : World} {g i j k : Nat} {x y z : Value} (h : Below B w0 w) (hg : B ≤ g) : Below B w0 (((w.setCell ⟨g, i, none⟩ x).setCell ⟨g, j, none⟩ y).setCell ⟨g, k, none⟩ z) :=
  ((h.setCell hg _).setCell hg _).setCell hg _

theorem run_copy_rowK {P : Program} (w : World) (dT sT ty elem : TypeId) (g o dLen dCap : Nat) (a : Addr) (sLen sCap : Nat) (cur : Array Value) (t : TypeId) (cs : List Value) (k : Nat)
    (hu : P.underlying dT = some (.slice elem)) (hs : (P.info? elem).map (·.size) = some k)
    (hg : w.heap[g]? = some (.cells cur t (0, 0))) (hn : cs.length = Nat.min sLen dLen * k)
    (hsrc : ∀ j v, cs[j]? = some v → w.cell? (a.add j) = some v) (hfit : o + cs.length ≤ cur.size) (h1 : ∀ v ∈ cs, v.oneCell' = true) :
    (Builtin.copy_ #[dT, sT] ty #[.slice (some ⟨g, o, none⟩) dLen dCap, .slice (some a) sLen sCap]).run P w =
      .ok (goInt (Nat.min sLen dLen)) (w.setRow g (cur.toList.take o ++ cs ++ cur.toList.drop (o + cs.length)).toArray) := by
  have hl := run_loadCells_list (P := P) w a cs hsrc
  have hst := run_storeCells_at P g o t cs 0 cur w hg (by simpa using hfit) h1
  cases hq : P.info? elem with
  | none => simp [hq] at hs
  | some i =>
    have hi : i.size = k := by simpa [hq] using hs
    simp [Builtin.copy_, run_underlying hu, Builtin.lenOf, Builtin.firstCells, sizeOf, typeInfo, hq, hi, ← hn, hl, hst]
theorem run_copy_noneK {P : Program} (w : World) (dT sT ty elem : TypeId) (d a : Option Addr) (dLen dCap sLen sCap k : Nat) (hu : P.underlying dT = some (.slice elem)) (hs : (P.info? elem).map (·.size) = some k) (hn : Nat.min sLen dLen = 0) :
    (Builtin.copy_ #[dT, sT] ty #[.slice d dLen dCap, .slice a sLen sCap]).run P w = .ok (goInt 0) w := by
  cases hq : P.info? elem with
  | none => simp [hq] at hs
  | some i =>
    have hl : ∀ (x : Addr), (loadCells x 0).run P w = .ok #[] w := fun x => by simpa using run_loadCells_list (P := P) w x [] (by simp)
    cases d <;> cases a <;> simp [Builtin.copy_, run_underlying hu, Builtin.lenOf, Builtin.firstCells, sizeOf, typeInfo, hq, hn, storeCells, hl]
/-- 'copy', of values, into a block of the call's own -/
theorem run_copy_vals {P : Program} {w : World} (dT sT ty elem : TypeId) (hu : P.underlying dT = some (.slice elem)) (hsz : (P.info? elem).map (·.size) = some 3)
    (dp sp : Option Addr) (dLen dCap sCap : Nat) (g n : Nat) (D l : List (Int × Int × ByteArray)) (hg : Blk w g D) (hle : l.length ≤ dLen)
    (hpos : 0 < l.length → dp = some ⟨g, n * 3, none⟩) (B : Nat) (hv : Vals w B sp l) (hfit : n + l.length ≤ D.length) (w0 : World) (hb : Below B w0 w) (hBg : B ≤ g) :
    ∃ w', (Builtin.copy_ #[dT, sT] ty #[.slice dp dLen dCap, .slice sp l.length sCap]).run P w = .ok (goInt l.length) w' ∧ Blk w' g (D.take n ++ (l ++ D.drop (n + l.length))) ∧ Below B w0 w' ∧ w'.heap.size = w.heap.size := by
  rcases Nat.eq_zero_or_pos l.length with h0 | h0
  · obtain rfl := List.eq_nil_of_length_eq_zero h0
    refine ⟨w, run_copy_noneK w dT sT ty elem dp sp dLen dCap _ sCap 3 hu hsz (Nat.zero_min _), ?_, hb, rfl⟩
    simpa using hg
  · obtain rfl := hpos h0
    obtain ⟨ad, rfl, _⟩ := hv 0 h0
    have hm : Nat.min l.length dLen = l.length := Nat.min_eq_left hle
    have hr := run_copy_rowK (P := P) w dT sT ty elem g (n * 3) dLen dCap ad l.length sCap (flat D).toArray _ (flat l) 3 hu hsz hg (by rw [hm, flat_length]) (vals_news hv) (by simp [flat_length]; omega) (flat_one l)
    rw [hm] at hr
    refine ⟨_, hr, ?_, below_setRow hb hBg _, by simp⟩
    unfold Blk
    rw [setRow_heap w g _ _ _ _ hg]
    rw [flat_append, flat_append, flat_length]
    rw [show n * 3 + l.length * 3 = (n + l.length) * 3 by omega]
    rw [List.toList_toArray, flat_take, flat_drop, List.append_assoc]
/-- .. as one step of a region that draws its order -/
theorem step_copy_vals {P : Program} {ops : Array Oper} {o : Oper} {a : Act} {w : World} {K : Act → World → Prop} {Q : Exit → Act → World → Prop} {E : Prop} (hgd : o.guard = none) (d s : Operand) (dT sT : TypeId)
    (ho : o.op = .call { callee := .builtin .copy, args := #[d, s], argTypes := #[dT, sT] }) (elem : TypeId) (hu : P.underlying dT = some (.slice elem)) (hsz : (P.info? elem).map (·.size) = some 3)
    (dp sp : Option Addr) (dLen dCap sCap : Nat) (g n : Nat) (D l : List (Int × Int × ByteArray)) (hd : a.eval d = .slice dp dLen dCap) (hs : a.eval s = .slice sp l.length sCap) (hg : Blk w g D) (hle : l.length ≤ dLen)
    (hpos : 0 < l.length → dp = some ⟨g, n * 3, none⟩) (B : Nat) (hv : Vals w B sp l) (hfit : n + l.length ≤ D.length) (w0 : World) (hb : Below B w0 w) (hBg : B ≤ g)
    (h : ∀ w', Hid (Blk w' g (D.take n ++ (l ++ D.drop (n + l.length)))) → Hid (Below B w0 w') → K (a.put o.dst (goInt l.length)) w') :
    if Region.wanted o (yielded ops a.tmps) = true then Oper.wp P o a w K Q else E := by
  have hw : Region.wanted o (yielded ops a.tmps) = true := by simp [Region.wanted, hgd]
  rw [if_pos hw]
  obtain ⟨w', hrun, h1, h2, _⟩ := run_copy_vals (P := P) dT sT o.type elem hu hsz dp sp dLen dCap sCap g n D l hg hle hpos B hv hfit w0 hb hBg
  unfold Oper.wp
  simp [execOp, ho, resolve, invoke, builtin, hd, hs, hrun, Result.andThen]
  exact h _ h1 h2

/-- numbers in memory -/
def Ints (w : World) (B : Nat) (A : Option Addr) (l : List Int) : Prop := ∀ (i : Nat) (h : i < l.length), ∃ ad : Addr, A = some ad ∧ ad.block < B ∧ w.cell? (ad.add i) = some (.int .i64 l[i])
theorem Ints.keep {w w' : World} {B : Nat} {A : Option Addr} {l : List Int} (h : Ints w B A l) (hk : ∀ p : Addr, p.block < B → w'.cell? p = w.cell? p) : Ints w' B A l := by
  intro i hi
  obtain ⟨ad, e, hb, h0⟩ := h i hi
  exact ⟨ad, e, hb, (hk _ (by rw [add_block]; exact hb)).trans h0⟩
theorem Ints.below {w w' : World} {B : Nat} {A : Option Addr} {l : List Int} (h : Ints w B A l) (hb : Below B w w') : Ints w' B A l := h.keep fun _ hp => hb.cell hp
theorem Ints.more {w : World} {B B' : Nat} {A : Option Addr} {l : List Int} (h : Ints w B A l) (hB : B ≤ B') : Ints w B' A l := by
  intro i hi
  obtain ⟨ad, e, hb, h0⟩ := h i hi
  exact ⟨ad, e, by omega, h0⟩
theorem own_ints {w : World} {B : Nat} {e : TypeId} {v : Value} {l : List Int} (h : w.ownsRow B e 1 v l.length (l.map (Value.int .i64))) : ∃ A cap, v = .slice A l.length cap ∧ Ints w w.heap.size A l := by
  rcases Nat.eq_zero_or_pos l.length with h0 | h0
  · have hn := List.eq_nil_of_length_eq_zero h0
    subst hn
    rcases h.2 with ⟨rfl, _⟩ | ⟨g, cap, cur, rfl, _⟩
    · exact ⟨none, 0, rfl, fun i hi => absurd hi (Nat.not_lt_zero _)⟩
    · exact ⟨some ⟨g, 0, none⟩, cap, rfl, fun i hi => absurd hi (Nat.not_lt_zero _)⟩
  · obtain ⟨g, cap, hv, hg, hlt⟩ := h.form h0
    have hc := h.cells (g := g) (by rw [hv]; rfl)
    exact ⟨some ⟨g, 0, none⟩, cap, hv, fun i hi => ⟨⟨g, 0, none⟩, rfl, hlt, hc i _ (by simp [hi])⟩⟩

/-- rows in memory: where each lies, its capacity, its values -/
def RowsAt (w : World) (B : Nat) (A : Option Addr) (L : List (Option Addr × Nat × List (Int × Int × ByteArray))) : Prop :=
  ∀ (i : Nat) (h : i < L.length), (∃ ad : Addr, A = some ad ∧ ad.block < B ∧ w.cell? (ad.add i) = some (.slice L[i].1 L[i].2.2.length L[i].2.1)) ∧ Vals w B L[i].1 L[i].2.2
theorem RowsAt.keep {w w' : World} {B : Nat} {A : Option Addr} {L : List (Option Addr × Nat × List (Int × Int × ByteArray))} (h : RowsAt w B A L) (hk : ∀ p : Addr, p.block < B → w'.cell? p = w.cell? p) : RowsAt w' B A L := by
  intro i hi
  obtain ⟨⟨ad, e, hb, h0⟩, hv⟩ := h i hi
  exact ⟨⟨ad, e, hb, (hk _ (by rw [add_block]; exact hb)).trans h0⟩, hv.keep hk⟩
theorem RowsAt.below {w w' : World} {B : Nat} {A : Option Addr} {L : List (Option Addr × Nat × List (Int × Int × ByteArray))} (h : RowsAt w B A L) (hb : Below B w w') : RowsAt w' B A L := h.keep fun _ hp => hb.cell hp
theorem RowsAt.more {w : World} {B B' : Nat} {A : Option Addr} {L : List (Option Addr × Nat × List (Int × Int × ByteArray))} (h : RowsAt w B A L) (hB : B ≤ B') : RowsAt w B' A L := by
  intro i hi
  obtain ⟨⟨ad, e, hb, h0⟩, hv⟩ := h i hi
  exact ⟨⟨ad, e, by omega, h0⟩, hv.more hB⟩
/-- all rows' values -/
def catL (L : List (Option Addr × Nat × List (Int × Int × ByteArray))) : List (Int × Int × ByteArray) := L.flatMap (·.2.2)
theorem catL_snoc (L : List (Option Addr × Nat × List (Int × Int × ByteArray))) (k : Nat) (h : k < L.length) : catL (L.take (k + 1)) = catL (L.take k) ++ L[k].2.2 := by
  unfold catL
  rw [List.take_succ_eq_append_getElem h, List.flatMap_append]
  simp
theorem catL_le (L : List (Option Addr × Nat × List (Int × Int × ByteArray))) (k : Nat) : (catL (L.take k)).length ≤ (catL L).length := by
  conv => rhs; rw [← List.take_append_drop k L]
  unfold catL
  rw [List.flatMap_append, List.length_append]
  omega
end Go.Proofs.Ytkibacolnagkcaa.Code
/-
  The contract of the document's Right of a value, for every argument (cut out of CodeVal).
-/
namespace Go.Proofs.Ytkibacolnagkcaa.Val
open Go.ChangeShapes Go.WideShapes Go.ChangeAt Go.RowKit
set_option linter.unusedVariables false

end Go.Proofs.Ytkibacolnagkcaa.Val
namespace Go.Proofs.Ytkibacolnagkcaa.Code
open Go.ChangeShapes Go.WideShapes Go.ChangeAt Go.RowKit Val
end Go.Proofs.Ytkibacolnagkcaa.Code
namespace Go.Proofs.Ytkibacolnagkcaa.Val
end Go.Proofs.Ytkibacolnagkcaa.Val
/-
  The contract of the document's Right of rows.
-/
namespace Go.Proofs.Ytkibacolnagkcaa.Code
open Go.ChangeShapes Go.WideShapes Go.ChangeAt Go.RowKit Val
set_option linter.unusedVariables false

theorem rightL_snoc (l : List (Int × Int × ByteArray)) (k : Nat) (h : k < l.length) : rightL (l.take (k + 1)) = (rightL (l.take k) && rightV l[k]) := by
  unfold rightL
  rw [List.take_succ_eq_append_getElem h, List.all_append]
  simp
theorem rightL_not {l : List (Int × Int × ByteArray)} {k : Nat} (h : k < l.length) (g : rightV l[k] = false) : rightL l = false := by
  unfold rightL
  rw [List.all_eq_false]
  exact ⟨l[k], List.getElem_mem h, by simp [g]⟩
/-- whether a row is right -/
def rightR (l : List (Int × Int × ByteArray)) : Bool := decide (l.length ≤ 24) && rightL l
end Go.Proofs.Ytkibacolnagkcaa.Code
