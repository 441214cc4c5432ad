/-
  The contract of with of package zset: one row more, a copy, at the end of a list of the call's own.
-/
import Derived.Test.YtlejhimcaidbeaaRowPJoin
import Derived.Test.YtlejhimcaidbeaaItemsAll
import Derived.Test.YtlejhimcaidbeaaRange
import Derived.Maps.AppendAt
namespace Go.Proofs.Ytlejhimcaidbeaa.Items
open Go.ChangeShapes Go.WideShapes Go.ChangeAt Go.RowKit Val Go.Proofs.Ytlejhimcaidbeaa.Code Go.Proofs.Ytlejhimcaidbeaa.Elems Go.Proofs.Ytlejhimcaidbeaa.ZP Go.Proofs.Ytlejhimcaidbeaa.Bits
set_option linter.unusedVariables false
set_option maxRecDepth 100000

theorem rowsAt_one (w : World) (A : Option Addr) (c : Nat) (r : List (Int × Int × ByteArray)) (t : TypeId) (hA : Vals w w.heap.size A r) :
    RowsAt (w.alloc (.cells #[.slice A r.length c] t)) (w.alloc (.cells #[.slice A r.length c] t)).heap.size (some ⟨w.heap.size, 0, none⟩) [(A, c, r)] := by
  have hb := below_alloc w (.cells #[.slice A r.length c] t)
  have hn := World.news_of_block (heap_alloc_new w (.cells #[.slice A r.length c] t))
  have hz : w.heap.size < (w.alloc (.cells #[.slice A r.length c] t)).heap.size := by simp
  intro i hi
  match i, hi with
  | 0, _ => exact ⟨⟨_, rfl, hz, hn 0 _ rfl⟩, (hA.below hb).more hb.size⟩
theorem catL_one (A : Option Addr) (c : Nat) (r : List (Int × Int × ByteArray)) : catL [(A, c, r)] = r := by simp [catL]
theorem below_grown {w w' : World} (h : Below w.heap.size w w') (row : Option Nat) : w.grownBy w' row := ⟨h.os, h.tape, h.output, h.size, fun k hk _ => h.block k hk⟩
/-- rows that lie in blocks of their own, made since B -/
def OwnRows (w : World) (B : Nat) (M : List It) : Prop := ∀ x ∈ M, ∃ g, x.1 = some ⟨g, 0, none⟩ ∧ B ≤ g ∧ x.2.1 = x.2.2.1.length ∧ Blk w g x.2.2.1
theorem OwnRows.nil (w : World) (B : Nat) : OwnRows w B [] := fun x hx => by cases hx
theorem OwnRows.keep {w w' : World} {B : Nat} {M : List It} (h : OwnRows w B M) (hk : ∀ (g : Nat) (D : List (Int × Int × ByteArray)), B ≤ g → Blk w g D → Blk w' g D) : OwnRows w' B M := by
  intro x hx
  obtain ⟨g, e, hb, hc, hB⟩ := h x hx
  exact ⟨g, e, hb, hc, hk g _ hb hB⟩
theorem OwnRows.call {w w' : World} {B : Nat} {M : List It} (h : OwnRows w B M) (hb : Below w.heap.size w w') : OwnRows w' B M := h.keep fun g D _ hB => hB.call hb
theorem OwnRows.snoc {w : World} {B : Nat} {M : List It} (h : OwnRows w B M) {g : Nat} {r : List (Int × Int × ByteArray)} (hB : B ≤ g) (hg : Blk w g r) (n : Int) : OwnRows w B (M ++ [(some ⟨g, 0, none⟩, r.length, r, n)]) := by
  intro x hx
  rcases List.mem_append.1 hx with h1 | h1
  · exact h x h1
  · rw [List.mem_singleton.1 h1]
    exact ⟨g, rfl, hB, rfl, hg⟩
theorem OwnRows.vals {w : World} {B : Nat} {M : List It} (h : OwnRows w B M) : ∀ x ∈ M, Vals w w.heap.size x.1 x.2.2.1 := by
  intro x hx
  obtain ⟨g, e, _, _, hb⟩ := h x hx
  rw [e]
  exact hb.vals
/-- a block of values is not the block of a list of items -/
theorem blk_not_own {w : World} {base n g : Nat} {v : Value} {xs : List Value} {D : List (Int × Int × ByteArray)} (hB : Blk w g D) (ho : w.ownsRow base 48 2 v n xs) : some g ≠ v.ownBlock := by
  rcases ho.2 with ⟨rfl, _⟩ | ⟨h, cap, cur, rfl, _, hgb, _⟩
  · simp [Value.ownBlock]
  · intro e
    have e' : g = h := by simpa [Value.ownBlock] using e
    subst e'
    have h1 := (show w.heap[g]? = _ from hB).symm.trans hgb
    simp at h1
theorem OwnRows.grown {w w' : World} {B base n : Nat} {M : List It} {v : Value} {xs : List Value} (h : OwnRows w B M) (ho : w.ownsRow base 48 2 v n xs) (hg : w.grownBy w' v.ownBlock) : OwnRows w' B M :=
  h.keep fun g D _ hB => hB.keep (hg.block g hB.lt (blk_not_own hB ho))

set_option maxHeartbeats 2000000 in
theorem with_any (base : Nat) (v : Value) (M : List It) (A : Option Addr) (cap : Nat) (r : List (Int × Int × ByteArray)) (n : Int) (w : World) (ho : w.ownsRow base 48 2 v M.length (flatC cellsI M)) (hr : Vals w w.heap.size A r) (hbase : base ≤ w.heap.size) (hrl : r.length ≤ 1000000) (hM : M.length + 1 ≤ 4398046511104) :
    Calls Try.prog 51 #[v, .slice A r.length cap, .int .i64 n] w fun e w' => ∃ v' g, e = .returned v' ∧ w'.ownsRow base 48 2 v' (M.length + 1) (flatC cellsI (M ++ [(some ⟨g, 0, none⟩, r.length, r, n)])) ∧ Blk w' g r ∧ w.heap.size ≤ g ∧ w.grownBy w' v.ownBlock := by
  have HO := Lib.hid ho
  have HR := Lib.hid hr
  clear ho hr
  obtain ⟨i0, hi0, hz0, hz1, hz2⟩ := info_parts info_item
  go_enter Try.func51, Try.ntmps51
  go_wp2_with fail
  have hbz := below_alloc w (.cells #[.slice A r.length cap] 36)
  have hj := join_any (some ⟨w.heap.size, 0, none⟩) 1 [(A, cap, r)] _ (rowsAt_one w A cap r 36 HR.out) (by simp) (by rw [catL_one]; exact hrl)
  rw [catL_one] at hj
  refine hj.mono ?_
  rintro e w1 ⟨g, rfl, hg, hB, hb1⟩
  rw [World.size_alloc] at hg
  have hb01 := hbz.trans (hb1.mono hbz.size)
  have O1 := Lib.hid (HO.out.kept (below_grown hb01 none) (Decidable.em (v.ownBlock = none)))
  have B1 := Lib.hid hB
  have L1 := Lib.hid hb01
  have s1 : base ≤ w1.heap.size := Nat.le_trans hbase hb01.size
  clear hb01 hb1 hbz hB HR HO hj
  go_wp2_with (at_builtin; refine wpList_append_at (k := 2) (c := cellsI) cellsI_length (by decide) cellsI_one rfl _ _ 25 rfl base 48 i0 (.agg #[.slice none 0 0, .int .i64 0]) 32 Try.underlying25 hi0 hz0 hz1 hz2 rfl _ _ _ rfl (O1.out.alloc _) (w1.heap.size + 1) (some ⟨w1.heap.size, 0, none⟩) 1 [(some ⟨g, 0, none⟩, r.length, r, n)] rfl ?c2 ?c3 ?c4 ?c5 ?_)
  case c2 =>
    intro i hi
    match i, hi with
    | 0, _ => exact ⟨_, rfl, by simp, fun j u hu => World.news_of_block (heap_alloc_new w1 _) _ _ (by simpa [cellsI] using hu)⟩
  case c3 => unfold maxLen; simp; omega
  case c4 => simp; omega
  case c5 => simp; omega
  intro v' w2 hown' hgrow
  have O2 := Lib.hid hown'
  have G2 := Lib.hid hgrow
  clear hown' hgrow
  go_wp2
  go_ret
  refine ⟨v', g, rfl, ?_, ?_, by omega, ?_⟩
  · have := O2.out
    rw [flatC_snoc]
    simpa [flatC] using this
  · have b2 := B1.out.alloc (.cells #[.slice (some ⟨g, 0, none⟩) r.length r.length, .int .i64 n] 48)
    have o2 := O1.out.alloc (.cells #[.slice (some ⟨g, 0, none⟩) r.length r.length, .int .i64 n] 48)
    exact b2.keep (G2.out.block g b2.lt (blk_not_own b2 o2))
  · exact (((below_grown L1.out v.ownBlock).trans (World.grownBy_alloc w1 _ v.ownBlock))).trans G2.out
end Go.Proofs.Ytlejhimcaidbeaa.Items
