/-
  Lists of values in memory: what a list is there, appended to, cut; no function of the program is named.
-/
import Derived.Test.YtpohpgahnompbaaGreatDoorM6
import Derived.Test.YtpohpgahnompbaaGreatDoorM2
import Derived.Laws.OwnMore
import Derived.Laws.AppendOwnNone
import Derived.Deep.AppendLies
import Derived.Deep.Draws
import Derived.Deep.QuietTactic
import Derived.BigQuiet
import Derived.Maps.AppendAt
import Derived.Lib.OthersKept
import Derived.Test.YtpohpgahnompbaaGreatDoorM4
namespace Go.Proofs.YtpohpgahnompbaaGreatDoor.Code
open Go.ChangeShapes Go.WideShapes Go.ChangeAt Go.RowKit Val
set_option linter.unusedVariables false

/-- a piece of a text -/
theorem cut_at (s : ByteArray) (i j : Int) (a b : Nat) (hi : i = a) (hj : j = b) (h : a ≤ b) (g : b ≤ s.size) (w : World) :
    (Instr.slice 9 (.string s) (some (.int .i64 i)) (some (.int .i64 j)) none).run Tryz.prog w = .ok (.string (s.extract a b)) w := by
  rw [run_slice_string w 9 s .i64 .i64 i j Tryz.underlying9 (by omega) (by omega) (by omega), show i.toNat = a by omega, show j.toNat = b by omega]

theorem cut_from (s : ByteArray) (i : Int) (a : Nat) (hi : i = a) (g : a ≤ s.size) (w : World) :
    (Instr.slice 9 (.string s) (some (.int .i64 i)) none none).run Tryz.prog w = .ok (.string (s.extract a s.size)) w := by
  rw [run_slice_string_from_if w 9 s .i64 i Tryz.underlying9, if_pos (by omega), show i.toNat = a by omega]
theorem cut_to (s : ByteArray) (i : Int) (a : Nat) (hi : i = a) (g : a ≤ s.size) (w : World) :
    (Instr.slice 9 (.string s) none (some (.int .i64 i)) none).run Tryz.prog w = .ok (.string (s.extract 0 a)) w := by
  rw [run_slice_string_to_if w 9 s .i64 i Tryz.underlying9, if_pos (by omega), show i.toNat = a by omega]
theorem from_list (s : ByteArray) (a : Nat) : (s.extract a s.size).data.toList = s.data.toList.drop a := by
  have hl : s.data.toList.length = s.size := rfl
  rw [ByteArray.data_extract, Array.toList_extract, List.extract_eq_take_drop]
  exact List.take_of_length_le (by rw [List.length_drop]; omega)
theorem to_list (s : ByteArray) (a : Nat) : (s.extract 0 a).data.toList = s.data.toList.take a := by
  rw [ByteArray.data_extract, Array.toList_extract, List.extract_eq_take_drop]
  simp
theorem size_list (s : ByteArray) : s.size = s.data.toList.length := rfl

theorem add_block (a : Addr) (n : Nat) : (a.add n).block = a.block := by unfold Addr.add; split <;> rfl
theorem add_next (a : Addr) (n j : Nat) : a.add (n + (j + 1)) = ⟨(a.add n).block, (a.add n).off + (j + 1), none⟩ := by
  unfold Addr.add
  rw [if_neg (by omega)]
  by_cases h : n = 0
  · rw [if_pos h, h, Nat.zero_add]
  · rw [if_neg h, Nat.add_assoc]
/-- the slice at A holds these values, and lies below B -/
def Vals (w : World) (B : Nat) (A : Option Addr) (l : List (Int × Int × ByteArray)) : Prop :=
  ∀ (i : Nat) (h : i < l.length), ∃ ad : Addr, A = some ad ∧ ad.block < B ∧ w.cell? (ad.add (i * 3)) = some (.int .i64 l[i].1) ∧ w.cell? ⟨(ad.add (i * 3)).block, (ad.add (i * 3)).off + 1, none⟩ = some (.int .i64 l[i].2.1) ∧ w.cell? ⟨(ad.add (i * 3)).block, (ad.add (i * 3)).off + 2, none⟩ = some (.string l[i].2.2)
theorem Vals.keep {w w' : World} {B : Nat} {A : Option Addr} {l : List (Int × Int × ByteArray)} (h : Vals w B A l) (hk : ∀ p : Addr, p.block < B → w'.cell? p = w.cell? p) : Vals w' B A l := by
  intro i hi
  obtain ⟨ad, e, hb, h0, h1, h2⟩ := h i hi
  exact ⟨ad, e, hb, (hk _ (by rw [add_block]; exact hb)).trans h0, (hk _ (by rw [add_block]; exact hb)).trans h1, (hk _ (by rw [add_block]; exact hb)).trans h2⟩
theorem Vals.below {w w' : World} {B : Nat} {A : Option Addr} {l : List (Int × Int × ByteArray)} (h : Vals w B A l) (hb : Below B w w') : Vals w' B A l := h.keep fun _ hp => hb.cell hp
theorem Vals.more {w : World} {B B' : Nat} {A : Option Addr} {l : List (Int × Int × ByteArray)} (h : Vals w B A l) (hB : B ≤ B') : Vals w B' A l := by
  intro i hi
  obtain ⟨ad, e, hb, h0⟩ := h i hi
  exact ⟨ad, e, by omega, h0⟩

/-- how long the texts are together -/
def sizes (l : List (Int × Int × ByteArray)) : Nat := (l.map fun v => v.2.2.size).sum
theorem sizes_snoc (l : List (Int × Int × ByteArray)) (k : Nat) (h : k < l.length) : sizes (l.take (k + 1)) = sizes (l.take k) + l[k].2.2.size := by
  unfold sizes
  rw [List.take_succ_eq_append_getElem h, List.map_append, List.sum_append]
  simp
def Short (l : List (Int × Int × ByteArray)) : Prop := ∀ v ∈ l, v.2.2.size ≤ 140737488355328
theorem sizes_le {l : List (Int × Int × ByteArray)} (h : Short l) : ∀ k : Nat, sizes (l.take k) ≤ k * 140737488355328
  | 0 => Nat.zero_le _
  | k + 1 => by
    have ih := sizes_le h k
    rw [Nat.add_mul, Nat.one_mul]
    by_cases hk : k < l.length
    · rw [sizes_snoc l k hk]
      exact Nat.add_le_add ih (h l[k] (List.getElem_mem hk))
    · rw [List.take_of_length_le (by omega)] at ih
      rw [List.take_of_length_le (by omega)]
      exact Nat.le_trans ih (Nat.le_add_right _ _)
theorem take_snoc (l : List (Int × Int × ByteArray)) (k : Nat) (h : k < l.length) : l.take (k + 1) = l.take k ++ [l[k]] := List.take_succ_eq_append_getElem h
theorem drewN_below {B : Nat} {a w : World} (h : Below B a w) (n : Nat) : Below B a (w.drewN n) := ⟨h.os, h.tape, h.output, h.size, h.block⟩
theorem toList_ne {s t : ByteArray} (h : s ≠ t) : (s.toList == t.toList) = false := by
  rw [beq_eq_false_iff_ne]
  intro e
  rw [ByteArray.toList_eq, ByteArray.toList_eq] at e
  apply h
  obtain ⟨⟨a⟩⟩ := s
  obtain ⟨⟨b⟩⟩ := t
  simp at e
  rw [e]

def cells3 (v : Int × Int × ByteArray) : List Value := [.int .i64 v.1, .int .i64 v.2.1, .string v.2.2]
/-- values as the cells of a row -/
def flat (l : List (Int × Int × ByteArray)) : List Value := l.flatMap cells3
theorem flat_length : ∀ l, (flat l).length = l.length * 3
  | [] => rfl
  | v :: l => by
    show (cells3 v ++ flat l).length = _
    rw [List.length_append, flat_length l, List.length_cons]
    show 3 + _ = _
    omega
theorem flat_at : ∀ (l : List (Int × Int × ByteArray)) (i : Nat) (h : i < l.length) (j : Nat), j < 3 → (flat l)[i * 3 + j]? = (cells3 l[i])[j]?
  | v :: l, 0, _, j, hj => by
    show (cells3 v ++ flat l)[0 * 3 + j]? = (cells3 v)[j]?
    rw [Nat.zero_mul, Nat.zero_add, List.getElem?_append_left hj]
  | v :: l, i + 1, h, j, hj => by
    show (cells3 v ++ flat l)[(i + 1) * 3 + j]? = _
    have hl : (cells3 v).length = 3 := rfl
    rw [List.getElem?_append_right (by omega), hl, show (i + 1) * 3 + j - 3 = i * 3 + j by omega]
    exact flat_at l i (by simpa using h) j hj
theorem flat_snoc (l : List (Int × Int × ByteArray)) (v : Int × Int × ByteArray) : flat (l ++ [v]) = flat l ++ cells3 v := by
  unfold flat
  rw [List.flatMap_append]
  simp
theorem info_val : (Tryz.prog.info? 85).map (fun i => (i.zero, i.size, i.bytes)) = some (some (.agg #[.int .i64 0, .int .i64 0, .string ByteArray.empty]), 3, 32) := by kernel_rfl
/-- a row of the call's own is a list of values -/
theorem own_vals {w : World} {B : Nat} {v : Value} {l : List (Int × Int × ByteArray)} (h : w.ownsRow B 85 3 v l.length (flat l)) : ∃ A cap, v = .slice A l.length cap ∧ Vals w w.heap.size A l := by
  rcases Nat.eq_zero_or_pos l.length with h0 | h0
  · have hn := List.eq_nil_of_length_eq_zero h0
    subst hn
    rcases h.2 with ⟨rfl, _⟩ | ⟨g, cap, cur, rfl, _⟩
    · exact ⟨none, 0, rfl, fun i hi => absurd hi (Nat.not_lt_zero _)⟩
    · exact ⟨some ⟨g, 0, none⟩, cap, rfl, fun i hi => absurd hi (Nat.not_lt_zero _)⟩
  · obtain ⟨g, cap, hv, hg, hlt⟩ := h.form h0
    have hc := h.cells (g := g) (by rw [hv]; rfl)
    refine ⟨some ⟨g, 0, none⟩, cap, hv, fun i hi => ⟨⟨g, 0, none⟩, rfl, hlt, ?_, ?_, ?_⟩⟩
    · exact hc (i * 3) _ (flat_at l i hi 0 (by omega))
    · rw [← add_next]; exact hc (i * 3 + 1) _ (flat_at l i hi 1 (by omega))
    · rw [← add_next]; exact hc (i * 3 + 2) _ (flat_at l i hi 2 (by omega))
theorem own_call {w w' : World} {B n size : Nat} {t : TypeId} {v : Value} {xs : List Value} (h : w.ownsRow B t size v n xs) (hb : Below w.heap.size w w') : w'.ownsRow B t size v n xs :=
  h.kept (row := none) ⟨hb.os, hb.tape, hb.output, hb.size, fun i hi _ => hb.block i hi⟩ (Classical.em _)
theorem row3_new (w : World) (o : Obj) (k n : Int) (t : ByteArray) (ty : TypeId) : ∀ (j : Nat) (u : Value), (cells3 (k, n, t))[j]? = some u → ((w.alloc o).alloc (.cells #[.int .i64 k, .int .i64 n, .string t] ty)).cell? ((⟨w.heap.size + 1, 0, none⟩ : Addr).add j) = some u := by
  have h := heap_alloc_new (w.alloc o) (.cells #[.int .i64 k, .int .i64 n, .string t] ty)
  rw [show (w.alloc o).heap.size = w.heap.size + 1 by simp] at h
  exact World.news_of_block h
def strSize : Value → Nat
  | .string s => s.size
  | _ => 0

theorem vals_news {w : World} {B : Nat} {ad : Addr} {l : List (Int × Int × ByteArray)} (h : Vals w B (some ad) l) : ∀ (j : Nat) (u : Value), (flat l)[j]? = some u → w.cell? (ad.add j) = some u := by
  intro j u hu
  have hj : j < (flat l).length := by
    rcases Nat.lt_or_ge j (flat l).length with h1 | h1
    · exact h1
    · rw [List.getElem?_eq_none h1] at hu; cases hu
  rw [flat_length] at hj
  obtain ⟨i, r, hr, rfl⟩ : ∃ i r, r < 3 ∧ j = i * 3 + r := ⟨j / 3, j % 3, Nat.mod_lt _ (by decide), by omega⟩
  have hi : i < l.length := by omega
  obtain ⟨ad', e, _, c0, c1, c2⟩ := h i hi
  obtain rfl : ad = ad' := Option.some.inj e
  rw [flat_at l i hi r hr] at hu
  match r, hr with
  | 0, _ => exact c0.trans hu
  | 1, _ => rw [add_next]; exact c1.trans hu
  | 2, _ => rw [add_next]; exact c2.trans hu
theorem flat_one (l : List (Int × Int × ByteArray)) : ∀ u ∈ flat l, u.oneCell' = true := by
  intro u hu
  obtain ⟨v, _, hv⟩ := List.mem_flatMap.1 hu
  simp [cells3] at hv
  rcases hv with rfl | rfl | rfl <;> simp [Value.oneCell']
theorem flat_append (a b : List (Int × Int × ByteArray)) : flat (a ++ b) = flat a ++ flat b := List.flatMap_append
theorem run_append_nothing {P : Program} (w : World) (base : Nat) (t ty e : TypeId) (i : TypeInfo) (size : Nat) (ht : P.underlying t = some (.slice e)) (hi : P.info? e = some i) (v : Value) (n : Nat) (xs : List Value) (hown : w.ownsRow base e size v n xs) (c : Nat) :
    (Builtin.append_ #[t, t] ty #[v, .slice none 0 c]).run P w = .ok v w := by
  rcases hown.2 with ⟨rfl, rfl⟩ | ⟨g, cap, cur, rfl, _, _, hnc, _⟩
  · simp [Builtin.append_, run_underlying ht, sizeOf, typeInfo, hi, Builtin.lenOf, Builtin.firstCells]
  · simp [Builtin.append_, run_underlying ht, sizeOf, typeInfo, hi, Builtin.lenOf, Builtin.firstCells, hnc, storeCells]
/-- values appended to a row of the call's own, whether they are nil or not -/
theorem wpList_append_vals {P : Program} {w : World} {ops : Array Oper} {rest : List Oper} {o : Oper} {a : Act} {Q : Exit → Act → World → Prop} (hgd : o.guard = none) (s x : Operand) (t : TypeId)
    (ho : o.op = .call { callee := .builtin .append, args := #[s, x], argTypes := #[t, t] })
    (base : Nat) (e : TypeId) (i : TypeInfo) (z : Value) (bytes : Nat) (ht : P.underlying t = some (.slice e)) (hi : P.info? e = some i) (hz : i.zero = some z)
    (hsize : i.size = 3) (hby : i.bytes = bytes) (hzs : z.cells.size = 3) (v : Value) (n : Nat) (xs : List Value) (hs : a.eval s = v) (hown : w.ownsRow base e 3 v n xs)
    (B : Nat) (A : Option Addr) (c : Nat) (l : List (Int × Int × ByteArray)) (hx : a.eval x = .slice A l.length c) (hv : Vals w B A l)
    (h63 : n + l.length ≤ maxLen) (hbytes : (n + l.length) * bytes ≤ 140737488355328) (hbase : base ≤ w.heap.size)
    (h : ∀ v' w', w'.ownsRow base e 3 v' (n + l.length) (xs ++ flat l) → w.grownBy w' v.ownBlock → wpList P ops Q rest (a.put o.dst v') w') : wpList P ops Q (o :: rest) a w := by
  rcases A with _ | ad
  · have h0 : l = [] := by
      cases l with
      | nil => rfl
      | cons y l =>
        obtain ⟨ad, e, _⟩ := hv 0 (by simp)
        cases e
    subst h0
    refine wpList_plain hgd fun K hK => ?_
    have hrun := run_append_nothing (P := P) w base t o.type e i 3 ht hi v n xs hown c
    unfold Oper.wp execOp
    simp only [ho, resolve, invoke, builtin, Sem.run_bind, Sem.run_pure, Result.andThen_ok, List.map_toArray, List.map_cons, List.map_nil, hs, hx, List.length_nil, hrun]
    exact hK _ _ (h v w (by simpa [flat] using hown) (World.grownBy.refl w _))
  · exact wpList_append_own w hgd s x t ho base e i z 3 bytes ht hi hz hsize hby hzs (by decide) v n xs hs hown ad l.length c (flat l) hx (flat_length l) (vals_news hv) (flat_one l) h63 hbytes hbase (fun v' w' h1 h2 _ => h v' w' h1 h2)
theorem own_empty (w : World) : (w.alloc (.cells #[] 85)).ownsRow w.heap.size 85 3 (.slice (some ⟨w.heap.size, 0, none⟩) 0 0) 0 [] :=
  ⟨rfl, .inr ⟨w.heap.size, 0, #[], rfl, Nat.le_refl _, heap_alloc_new w _, Nat.le_refl _, Nat.zero_le _, rfl, rfl⟩⟩

/-- a block that is a value's -/
def VBlk (W : World) (b : Nat) (k n : Int) (s : ByteArray) : Prop := W.heap[b]? = some (.cells #[.int .i64 k, .int .i64 n, .string s] 85 (0, 0))
theorem VBlk.box {W : World} {b : Nat} {k n : Int} {s : ByteArray} (h : VBlk W b k n s) : Box W b k n s := by
  unfold VBlk at h
  have hlt : b < W.heap.size := (Array.getElem?_eq_some_iff.1 h).1
  exact ⟨cell_of_row W b 0 _ _ _ h, cell_of_row W b 1 _ _ _ h, cell_of_row W b 2 _ _ _ h, hlt⟩
theorem VBlk.fresh (W : World) (k n : Int) (s : ByteArray) : VBlk (W.alloc (.cells #[.int .i64 k, .int .i64 n, .string s] 85)) W.heap.size k n s := heap_alloc_new W _
theorem VBlk.call {W W' : World} {b : Nat} {k n : Int} {s : ByteArray} (h : VBlk W b k n s) (hb : Below W.heap.size W W') : VBlk W' b k n s :=
  (hb.block b (Array.getElem?_eq_some_iff.1 h).1).trans h
theorem VBlk.others {W W' : World} {b c : Nat} {k n : Int} {s : ByteArray} (h : VBlk W b k n s) (hb : Lib.OthersKept 5 (some c) W W') (hc : b ≠ c) : VBlk W' b k n s :=
  hb b _ h (fun e => hc (Option.some.inj e)) (fun c fz e => by injection e with _ e2; revert e2; decide)
def FitL (l : List (Int × Int × ByteArray)) : Prop := ∀ v ∈ l, fitV v

theorem below2 (w : World) (o o' : Obj) : Below w.heap.size w ((w.alloc o).alloc o') := (below_alloc w o).alloc (by simp) o'
/-- what was there is there behind what makes memory of its own alone, at any place -/
theorem keepP {C : Prop} {W w1 w2 : World} (hb : Below w1.heap.size w1 w2) (h : C ∧ Below W.heap.size W w1) {C' : Prop}
    (hC : (∀ p : Addr, p.block < W.heap.size → w2.cell? p = W.cell? p) → C') : C' ∧ Below W.heap.size W w2 := by
  have hB := h.2.trans (hb.mono h.2.size)
  exact ⟨hC fun p hl => hB.cell hl, hB⟩



end Go.Proofs.YtpohpgahnompbaaGreatDoor.Code

/-
  Lists in memory whose elements have any number of cells: what lies where, what is appended. No type and no function of the program is named.
-/
namespace Go.Proofs.YtpohpgahnompbaaGreatDoor.Elems
open Go.ChangeShapes Go.WideShapes Go.ChangeAt Go.RowKit Val Go.Proofs.YtpohpgahnompbaaGreatDoor.Code
set_option linter.unusedVariables false
section
variable {α : Type} {c : α → List Value} {k : Nat}

/-- elements as the cells of a row -/
def flatC (c : α → List Value) (l : List α) : List Value := l.flatMap c
theorem flatC_length (hk : ∀ x, (c x).length = k) : ∀ l, (flatC c l).length = l.length * k
  | [] => by simp [flatC]
  | v :: l => by
    show (c v ++ flatC c l).length = _
    rw [List.length_append, flatC_length hk l, List.length_cons, hk, Nat.add_mul, Nat.one_mul, Nat.add_comm]
theorem flatC_at (hk : ∀ x, (c x).length = k) : ∀ (l : List α) (i : Nat) (h : i < l.length) (j : Nat), j < k → (flatC c l)[i * k + j]? = (c l[i])[j]?
  | v :: l, 0, _, j, hj => by
    show (c v ++ flatC c l)[0 * k + j]? = (c v)[j]?
    rw [Nat.zero_mul, Nat.zero_add, List.getElem?_append_left (by rw [hk]; exact hj)]
  | v :: l, i + 1, h, j, hj => by
    show (c v ++ flatC c l)[(i + 1) * k + j]? = _
    rw [List.getElem?_append_right (by rw [hk, Nat.add_mul, Nat.one_mul]; omega), hk, show (i + 1) * k + j - k = i * k + j by rw [Nat.add_mul, Nat.one_mul]; omega]
    exact flatC_at hk l i (by simpa using h) j hj
theorem flatC_snoc (l : List α) (v : α) : flatC c (l ++ [v]) = flatC c l ++ c v := by
  unfold flatC
  rw [List.flatMap_append]
  simp
theorem flatC_append (a b : List α) : flatC c (a ++ b) = flatC c a ++ flatC c b := List.flatMap_append
theorem flatC_one (h1 : ∀ x, ∀ u ∈ c x, u.oneCell' = true) (l : List α) : ∀ u ∈ flatC c l, u.oneCell' = true := by
  intro u hu
  obtain ⟨v, _, hv⟩ := List.mem_flatMap.1 hu
  exact h1 v u hv
/-- the slice at A holds these elements, and lies below B -/
def At (c : α → List Value) (k : Nat) (w : World) (B : Nat) (A : Option Addr) (l : List α) : Prop :=
  ∀ (i : Nat) (h : i < l.length), ∃ ad : Addr, A = some ad ∧ ad.block < B ∧ ∀ (j : Nat) (u : Value), (c l[i])[j]? = some u → w.cell? (ad.add (i * k + j)) = some u
theorem At.keep {w w' : World} {B : Nat} {A : Option Addr} {l : List α} (h : At c k w B A l) (hk : ∀ p : Addr, p.block < B → w'.cell? p = w.cell? p) : At c k w' B A l := by
  intro i hi
  obtain ⟨ad, e, hb, h0⟩ := h i hi
  exact ⟨ad, e, hb, fun j u hu => (hk _ (by rw [add_block]; exact hb)).trans (h0 j u hu)⟩
theorem At.below {w w' : World} {B : Nat} {A : Option Addr} {l : List α} (h : At c k w B A l) (hb : Below B w w') : At c k w' B A l := h.keep fun _ hp => hb.cell hp
theorem At.more {w : World} {B B' : Nat} {A : Option Addr} {l : List α} (h : At c k w B A l) (hB : B ≤ B') : At c k w B' A l := by
  intro i hi
  obtain ⟨ad, e, hb, h0⟩ := h i hi
  exact ⟨ad, e, by omega, h0⟩
theorem At.nil (w : World) (B : Nat) (A : Option Addr) : At c k w B A ([] : List α) := fun i hi => absurd hi (Nat.not_lt_zero _)
theorem At.take {w : World} {B : Nat} {A : Option Addr} {l : List α} (h : At c k w B A l) (n : Nat) : At c k w B A (l.take n) := by
  intro i hi
  rw [List.length_take] at hi
  obtain ⟨ad, e, hb, h0⟩ := h i (by omega)
  exact ⟨ad, e, hb, by rw [List.getElem_take]; exact h0⟩
/-- a row of the call's own is a list of elements -/
theorem own_at (hk : ∀ x, (c x).length = k) {w : World} {B : Nat} {e : TypeId} {v : Value} {l : List α} (h : w.ownsRow B e k v l.length (flatC c l)) : ∃ A cap, v = .slice A l.length cap ∧ At c k w w.heap.size A l := by
  rcases Nat.eq_zero_or_pos l.length with h0 | h0
  · have hn := List.eq_nil_of_length_eq_zero h0
    subst hn
    rcases h.2 with ⟨rfl, _⟩ | ⟨g, cap, cur, rfl, _⟩
    · exact ⟨none, 0, rfl, At.nil _ _ _⟩
    · exact ⟨some ⟨g, 0, none⟩, cap, rfl, At.nil _ _ _⟩
  · obtain ⟨g, cap, hv, hg, hlt⟩ := h.form h0
    have hc := h.cells (g := g) (by rw [hv]; rfl)
    refine ⟨some ⟨g, 0, none⟩, cap, hv, fun i hi => ⟨⟨g, 0, none⟩, rfl, hlt, fun j u hu => hc _ _ ?_⟩⟩
    have hj : j < k := by
      have := (List.getElem?_eq_some_iff.1 hu).1
      rwa [hk] at this
    rw [flatC_at hk l i hi j hj, hu]
theorem at_news (hk : ∀ x, (c x).length = k) (hk0 : 0 < k) {w : World} {B : Nat} {ad : Addr} {l : List α} (h : At c k w B (some ad) l) : ∀ (j : Nat) (u : Value), (flatC c l)[j]? = some u → w.cell? (ad.add j) = some u := by
  intro j u hu
  have hj : j < l.length * k := by
    have := (List.getElem?_eq_some_iff.1 hu).1
    rwa [flatC_length hk] at this
  have hi : j / k < l.length := Nat.div_lt_of_lt_mul (by rw [Nat.mul_comm]; exact hj)
  have hr : j % k < k := Nat.mod_lt _ hk0
  have e : j = j / k * k + j % k := by have := Nat.div_add_mod j k; rw [Nat.mul_comm] at this; exact this.symm
  obtain ⟨ad', e', _, h0⟩ := h (j / k) hi
  obtain rfl : ad = ad' := Option.some.inj e'
  rw [e]
  refine h0 _ _ ?_
  rw [← flatC_at hk l _ hi _ hr, ← e]
  exact hu
theorem run_append_nothingK {P : Program} (w : World) (base : Nat) (t ty e : TypeId) (i : TypeInfo) (size : Nat) (ht : P.underlying t = some (.slice e)) (hi : P.info? e = some i) (v : Value) (n : Nat) (xs : List Value) (hown : w.ownsRow base e size v n xs) (cp : Nat) :
    (Builtin.append_ #[t, t] ty #[v, .slice none 0 cp]).run P w = .ok v w := run_append_nothing w base t ty e i size ht hi v n xs hown cp
/-- a list appended to a row of the call's own, whether it is nil or not -/
theorem wpList_append_at (hk : ∀ x, (c x).length = k) (hk0 : 0 < k) (h1 : ∀ x, ∀ u ∈ c x, u.oneCell' = true) {P : Program} {w : World} {ops : Array Oper} {rest : List Oper} {o : Oper} {a : Act} {Q : Exit → Act → World → Prop} (hgd : o.guard = none) (s x : Operand) (t : TypeId)
    (ho : o.op = .call { callee := .builtin .append, args := #[s, x], argTypes := #[t, t] })
    (base : Nat) (e : TypeId) (i : TypeInfo) (z : Value) (bytes : Nat) (ht : P.underlying t = some (.slice e)) (hi : P.info? e = some i) (hz : i.zero = some z)
    (hsize : i.size = k) (hby : i.bytes = bytes) (hzs : z.cells.size = k) (v : Value) (n : Nat) (xs : List Value) (hs : a.eval s = v) (hown : w.ownsRow base e k v n xs)
    (B : Nat) (A : Option Addr) (cp : Nat) (l : List α) (hx : a.eval x = .slice A l.length cp) (hv : At c k w B A l)
    (h63 : n + l.length ≤ maxLen) (hbytes : (n + l.length) * bytes ≤ 140737488355328) (hbase : base ≤ w.heap.size)
    (h : ∀ v' w', w'.ownsRow base e k v' (n + l.length) (xs ++ flatC c l) → w.grownBy w' v.ownBlock → wpList P ops Q rest (a.put o.dst v') w') : wpList P ops Q (o :: rest) a w := by
  rcases A with _ | ad
  · have h0 : l = [] := by
      cases l with
      | nil => rfl
      | cons y l =>
        obtain ⟨ad, e, _⟩ := hv 0 (by simp)
        cases e
    subst h0
    refine wpList_plain hgd fun K hK => ?_
    have hrun := run_append_nothing (P := P) w base t o.type e i k ht hi v n xs hown cp
    unfold Oper.wp
    simp only [ho, execOp, resolve, invoke, builtin, Sem.run_bind, Sem.run_pure, Result.andThen_ok, List.map_toArray, List.map_cons, List.map_nil, hs, hx, List.length_nil, hrun]
    exact hK _ _ (h v w (by simpa [flatC] using hown) (World.grownBy.refl w _))
  · exact wpList_append_own w hgd s x t ho base e i z k bytes ht hi hz hsize hby hzs hk0 v n xs hs hown ad l.length cp (flatC c l) hx (flatC_length hk l) (at_news hk hk0 hv) (flatC_one h1 l) h63 hbytes hbase (fun v' w' h1 h2 _ => h v' w' h1 h2)
end
end Go.Proofs.YtpohpgahnompbaaGreatDoor.Elems

/-
  Words of a text in memory; what a round of Words does. No function of the program is named here.
-/
namespace Go.Proofs.YtpohpgahnompbaaGreatDoor.Code
open Go.ChangeShapes Go.WideShapes Go.ChangeAt Go.RowKit Val Elems
set_option linter.unusedVariables false
/-- a word's cells -/
def wc (w : W) : List Value := [.int .i64 w.1, .string ⟨w.2.1.toArray⟩, .int .i64 w.2.2]
theorem wc_length (w : W) : (wc w).length = 3 := rfl
theorem wc_one : ∀ w : W, ∀ u ∈ wc w, u.oneCell' = true := by
  intro w u hu
  simp [wc] at hu
  rcases hu with rfl | rfl | rfl <;> rfl
def wcons (a : List W) (r : Except Int (List W)) : Except Int (List W) := match r with | .error j => .error j | .ok m => .ok (a ++ m)
theorem wcons_nil (r : Except Int (List W)) : wcons [] r = r := by cases r <;> rfl
theorem wcons_wcons (a b : List W) (r : Except Int (List W)) : wcons a (wcons b r) = wcons (a ++ b) r := by
  cases r
  · rfl
  · simp [wcons]
/-- how far the words of a text are gone through -/
def WAt (s : List UInt8) (i : Nat) (a : List W) : Prop := wordsL s 0 = wcons a (wordsL (s.drop i) i)
theorem WAt.start (s : List UInt8) : WAt s 0 [] := by
  unfold WAt
  rw [wcons_nil]
  rfl
theorem WAt.blank {s : List UInt8} {i : Nat} {a : List W} (h : WAt s i a) (hi : i < s.length) (hb : blankB s[i] = true) : WAt s (i + 1) a := by
  unfold WAt at *
  rw [h, List.drop_eq_getElem_cons hi, wordsL_blank hb]
  rfl
theorem WAt.none {s : List UInt8} {i : Nat} {a : List W} (h : WAt s i a) (hi : i < s.length) (hb : blankB s[i] = false) (hf : firstL (s.drop i) = none) : wordsL s 0 = .error i := by
  unfold WAt at h
  rw [List.drop_eq_getElem_cons hi] at h hf
  rw [h, wordsL_none hb hf]
  rfl
theorem WAt.one {s : List UInt8} {i n : Nat} {a : List W} {k : Int} {t : List UInt8} (h : WAt s i a) (hi : i < s.length) (hf : firstL (s.drop i) = some (k, t, n)) : WAt s (i + n) (a ++ [(k, t, (i : Int))]) := by
  unfold WAt at *
  have e : wordsL (s.drop i) i = wcons [(k, t, (i : Int))] (wordsL (s.drop (i + n)) ((i + n : Nat) : Int)) := by
    have e2 : (s.drop i).drop n = s.drop (i + n) := List.drop_drop
    rw [← e2, List.drop_eq_getElem_cons hi] at *
    rw [wordsL_one hf, Int.natCast_add]
    rfl
  rw [h, e, wcons_wcons]
theorem WAt.done {s : List UInt8} {a : List W} {i : Nat} (h : WAt s i a) (hi : s.length ≤ i) : wordsL s 0 = .ok a := by
  unfold WAt at h
  rw [h, List.drop_eq_nil_of_le hi, wordsL_nil]
  simp [wcons]
def wL (s : List UInt8) : List W := match wordsL s 0 with | .ok l => l | .error _ => []
def wP (s : List UInt8) : Int := match wordsL s 0 with | .ok _ => 0 | .error j => j
def wE (s : List UInt8) : Int := match wordsL s 0 with | .ok _ => 0 | .error _ => 81
/-- what Words answers -/
def WordsPost (w : World) (s : List UInt8) (e : Ending) (w' : World) : Prop :=
  ∃ (A : Option Addr) (cap : Nat), e = .returned (.tuple #[.slice A (wL s).length cap, .int .i64 (wP s), .int .i64 (wE s)]) ∧ At wc 3 w' w'.heap.size A (wL s) ∧ Below w.heap.size w w'
theorem words_no {w w' : World} {s : List UInt8} {j : Int} (h : wordsL s 0 = .error j) (hb : Below w.heap.size w w') : WordsPost w s (.returned (.tuple #[.slice none 0 0, .int .i64 j, .int .i64 81])) w' := by
  have h1 : wL s = [] := by unfold wL; rw [h]
  have h2 : wP s = j := by unfold wP; rw [h]
  have h3 : wE s = 81 := by unfold wE; rw [h]
  exact ⟨none, 0, by rw [h1, h2, h3]; rfl, by rw [h1]; exact At.nil _ _ _, hb⟩
theorem words_yes {w w' : World} {s : List UInt8} {l : List W} {v : Value} {e : TypeId} (h : wordsL s 0 = .ok l) (ho : w'.ownsRow w.heap.size e 3 v l.length (flatC wc l)) (hb : Below w.heap.size w w') : WordsPost w s (.returned (.tuple #[v, .int .i64 0, .int .i64 0])) w' := by
  have h1 : wL s = l := by unfold wL; rw [h]
  have h2 : wP s = 0 := by unfold wP; rw [h]
  have h3 : wE s = 0 := by unfold wE; rw [h]
  obtain ⟨A, cap, rfl, hv⟩ := own_at wc_length ho
  exact ⟨A, cap, by rw [h1, h2, h3], by rw [h1]; exact hv, hb⟩
end Go.Proofs.YtpohpgahnompbaaGreatDoor.Code
