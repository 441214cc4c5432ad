/-
  Lists of items (rows with weights) in memory. Types alone are named.
-/
import Derived.Test.YtlejhimcaidbeaaElems
import Derived.Test.YtlejhimcaidbeaaZPure
namespace Go.Proofs.Ytlejhimcaidbeaa.Items
open Go.ChangeShapes Go.WideShapes Go.ChangeAt Go.RowKit Val Go.Proofs.Ytlejhimcaidbeaa.Code Go.Proofs.Ytlejhimcaidbeaa.Elems Go.Proofs.Ytlejhimcaidbeaa.ZP
set_option linter.unusedVariables false

/-- an item: where its row lies, the row's capacity, its values; its weight -/
abbrev It := Option Addr × Nat × List (Int × Int × ByteArray) × Int
def cellsI (x : It) : List Value := [.slice x.1 x.2.2.1.length x.2.1, .int .i64 x.2.2.2]
theorem cellsI_length (x : It) : (cellsI x).length = 2 := rfl
theorem cellsI_one (x : It) : ∀ u ∈ cellsI x, u.oneCell' = true := by
  intro u hu
  simp [cellsI] at hu
  rcases hu with rfl | rfl <;> simp [Value.oneCell']
/-- what it says, wherever it lies -/
def pu (x : It) : List (Int × Int × ByteArray) × Int := (x.2.2.1, x.2.2.2)
def pl (L : List It) : List (List (Int × Int × ByteArray) × Int) := L.map pu
theorem pl_length (L : List It) : (pl L).length = L.length := by simp [pl]
theorem pl_take (L : List It) (k : Nat) : pl (L.take k) = (pl L).take k := by simp [pl, List.map_take]
theorem pl_snoc (L : List It) (k : Nat) (h : k < L.length) : pl (L.take (k + 1)) = pl (L.take k) ++ [pu L[k]] := by
  unfold pl
  rw [List.take_succ_eq_append_getElem h, List.map_append]
  rfl
theorem pl_append (a b : List It) : pl (a ++ b) = pl a ++ pl b := List.map_append
/-- the slice at A holds these items, and all lies below B -/
def Items (w : World) (B : Nat) (A : Option Addr) (L : List It) : Prop := At cellsI 2 w B A L ∧ ∀ x ∈ L, Vals w B x.1 x.2.2.1
theorem Items.keep {w w' : World} {B : Nat} {A : Option Addr} {L : List It} (h : Items w B A L) (hk : ∀ p : Addr, p.block < B → w'.cell? p = w.cell? p) : Items w' B A L := ⟨h.1.keep hk, fun x hx => (h.2 x hx).keep hk⟩
theorem Items.below {w w' : World} {B : Nat} {A : Option Addr} {L : List It} (h : Items w B A L) (hb : Below B w w') : Items w' B A L := h.keep fun _ hp => hb.cell hp
theorem Items.more {w : World} {B B' : Nat} {A : Option Addr} {L : List It} (h : Items w B A L) (hB : B ≤ B') : Items w B' A L := ⟨h.1.more hB, fun x hx => (h.2 x hx).more hB⟩
theorem Items.at {w : World} {B : Nat} {A : Option Addr} {L : List It} (h : Items w B A L) (i : Nat) (hi : i < L.length) :
    ∃ ad : Addr, A = some ad ∧ ad.block < B ∧ w.cell? (ad.add (i * 2)) = some (.slice L[i].1 L[i].2.2.1.length L[i].2.1) ∧ w.cell? ⟨(ad.add (i * 2)).block, (ad.add (i * 2)).off + 1, none⟩ = some (.int .i64 L[i].2.2.2) ∧ Vals w B L[i].1 L[i].2.2.1 := by
  obtain ⟨ad, e, hb, h0⟩ := h.1 i hi
  refine ⟨ad, e, hb, ?_, ?_, h.2 _ (List.getElem_mem hi)⟩
  · have := h0 0 _ rfl
    rwa [Nat.add_zero] at this
  · have := h0 1 _ rfl
    rwa [add_next ad (i * 2) 0] at this
theorem info_item : (Try.prog.info? 48).map (fun i => (i.zero, i.size, i.bytes)) = some (some (.agg #[.slice none 0 0, .int .i64 0]), 2, 32) := by kernel_rfl
/-- what is known of rows that came in, or were made: each number fits -/
def FitI (L : List It) : Prop := ∀ x ∈ L, FitL x.2.2.1 ∧ fits x.2.2.2
theorem FitI.take {L : List It} (h : FitI L) (k : Nat) : FitI (L.take k) := fun x hx => h x (List.mem_of_mem_take hx)
/-- items of the call's own, whose rows lie anywhere below -/
theorem own_items {w : World} {B : Nat} {v : Value} {L : List It} (h : w.ownsRow B 48 2 v L.length (flatC cellsI L)) (hv : ∀ x ∈ L, Vals w w.heap.size x.1 x.2.2.1) : ∃ A cap, v = .slice A L.length cap ∧ Items w w.heap.size A L := by
  obtain ⟨A, cap, e, ha⟩ := own_at cellsI_length h
  exact ⟨A, cap, e, ha, hv⟩
end Go.Proofs.Ytlejhimcaidbeaa.Items
