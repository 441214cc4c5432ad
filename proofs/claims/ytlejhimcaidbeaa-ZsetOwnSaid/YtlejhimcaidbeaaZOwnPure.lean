/-
  Rows of values that are written: what stays as it was.
-/
import Derived.Test.YtlejhimcaidbeaaZAliveIs
namespace Go.Proofs.Ytlejhimcaidbeaa.Items
open Go.ChangeShapes Go.WideShapes Go.ChangeAt Go.RowKit Val Go.Proofs.Ytlejhimcaidbeaa.Code Go.Proofs.Ytlejhimcaidbeaa.Elems Go.Proofs.Ytlejhimcaidbeaa.ZP Go.Proofs.Ytlejhimcaidbeaa.Bits
set_option linter.unusedVariables false

theorem blk_len {w : World} {g : Nat} {D E : List (Int × Int × ByteArray)} (h : Blk w g D) (k : Blk w g E) : D.length = E.length := by
  unfold Blk at h k
  rw [h] at k
  injection k with k
  injection k with k1 _ _
  have e : flat D = flat E := by simpa using k1
  have := congrArg List.length e
  rw [flat_length, flat_length] at this
  omega
theorem blk_noslice {w : World} {g : Nat} {D : List (Int × Int × ByteArray)} (h : Blk w g D) {p : Addr} {A : Option Addr} {l c : Nat} (hp : w.cell? p = some (.slice A l c)) : p.block ≠ g := by
  intro e
  subst e
  unfold Blk at h
  unfold World.cell? at hp
  rw [h] at hp
  simp only at hp
  split at hp
  · cases hp
  · have hm : Value.slice A l c ∈ flat D := by
      rw [List.getElem?_toArray] at hp
      exact List.mem_of_getElem? hp
    unfold flat at hm
    obtain ⟨v, _, hv⟩ := List.mem_flatMap.1 hm
    simp [cells3] at hv
/-- rows of values were written, those in blocks from B on and below C alone; their lengths are as they were -/
structure Spoil (B C : Nat) (w w' : World) : Prop where
  os : w'.os = w.os
  tape : w'.tape = w.tape
  output : w'.output = w.output
  size : w'.heap.size = w.heap.size
  block : ∀ k, w'.heap[k]? = w.heap[k]? ∨ (B ≤ k ∧ k < C ∧ ∃ D D', D'.length = D.length ∧ Blk w k D ∧ Blk w' k D')
theorem Spoil.refl (B C : Nat) (w : World) : Spoil B C w w := ⟨rfl, rfl, rfl, rfl, fun _ => .inl rfl⟩
theorem Spoil.below {B C : Nat} {w w' : World} (h : Spoil B C w w') : Below B w w' :=
  ⟨h.os, h.tape, h.output, Nat.le_of_eq h.size.symm, fun k hk => (h.block k).elim id (fun ⟨hB, _⟩ => absurd hB (by omega))⟩
theorem Spoil.above {B C : Nat} {w w' : World} (h : Spoil B C w w') {k : Nat} (hk : C ≤ k) : w'.heap[k]? = w.heap[k]? := (h.block k).elim id (fun ⟨_, hC, _⟩ => absurd hC (by omega))
theorem Spoil.blk {B C : Nat} {w w' : World} (h : Spoil B C w w') {g : Nat} {D : List (Int × Int × ByteArray)} (hb : Blk w g D) : ∃ D', D'.length = D.length ∧ Blk w' g D' := by
  rcases h.block g with e | ⟨_, _, D1, D2, hl, h1, h2⟩
  · exact ⟨D, rfl, hb.keep e⟩
  · exact ⟨D2, hl.trans (blk_len h1 hb), h2⟩
theorem Spoil.slice {B C : Nat} {w w' : World} (h : Spoil B C w w') {p : Addr} {A : Option Addr} {l c : Nat} (hp : w.cell? p = some (.slice A l c)) : w'.heap[p.block]? = w.heap[p.block]? := by
  rcases h.block p.block with e | ⟨_, _, D1, D2, hl, h1, h2⟩
  · exact e
  · exact absurd rfl (blk_noslice h1 hp)
theorem Spoil.at {B C : Nat} {w w' : World} (h : Spoil B C w w') {N : Nat} {A : Option Addr} {L : List It} (ha : At cellsI 2 w N A L) : At cellsI 2 w' N A L := by
  intro i hi
  obtain ⟨ad, e, hb, h0⟩ := ha i hi
  have e1 := h.slice (h0 0 _ rfl)
  refine ⟨ad, e, hb, fun j u hu => (World.cell?_of_block (w := w) ?_).trans (h0 j u hu)⟩
  rw [add_block] at e1 ⊢
  exact e1
theorem Spoil.store {B C : Nat} {w0 w : World} (h : Spoil B C w0 w) {g : Nat} {D : List (Int × Int × ByteArray)} (hb : Blk w g D) (hB : B ≤ g) (hC : g < C) (k : Nat) (hk : k < D.length) (v : Int × Int × ByteArray) :
    Spoil B C w0 (((w.setCell ⟨g, k * 3, none⟩ (.int .i64 v.1)).setCell ⟨g, k * 3 + 1, none⟩ (.int .i64 v.2.1)).setCell ⟨g, k * 3 + 2, none⟩ (.string v.2.2)) := by
  have hs := hb.set k hk v
  refine ⟨h.os, h.tape, h.output, by simpa using h.size, fun j => ?_⟩
  by_cases e : j = g
  · subst e
    refine .inr ⟨hB, hC, ?_⟩
    rcases h.block j with e | ⟨_, _, D1, D2, hl, h1, h2⟩
    · exact ⟨D, D.set k v, by rw [List.length_set], hb.keep e.symm, hs⟩
    · exact ⟨D1, D.set k v, by rw [List.length_set, ← hl, blk_len h2 hb], h1, hs⟩
  · have e1 : (((w.setCell ⟨g, k * 3, none⟩ (.int .i64 v.1)).setCell ⟨g, k * 3 + 1, none⟩ (.int .i64 v.2.1)).setCell ⟨g, k * 3 + 2, none⟩ (.string v.2.2)).heap[j]? = w.heap[j]? := by
      rw [Below.heap_setCell _ _ _ _ e, Below.heap_setCell _ _ _ _ e, Below.heap_setCell _ _ _ _ e]
    rcases h.block j with e2 | ⟨b1, b2, D1, D2, hl, h1, h2⟩
    · exact .inl (e1.trans e2)
    · exact .inr ⟨b1, b2, D1, D2, hl, h1, h2.keep e1⟩
/-- rows in blocks from B on and below C, of the lengths that are said -/
def Mine (w : World) (B C : Nat) (M : List It) : Prop := ∀ x ∈ M, ∃ g D, x.1 = some ⟨g, 0, none⟩ ∧ B ≤ g ∧ g < C ∧ D.length = x.2.2.1.length ∧ Blk w g D
theorem OwnRows.mine {w : World} {B : Nat} {M : List It} (h : OwnRows w B M) : Mine w B w.heap.size M := fun x hx => by
  obtain ⟨g, e, hb, _, hB⟩ := h x hx
  exact ⟨g, _, e, hb, hB.lt, rfl, hB⟩
theorem OwnRows.mine' {w : World} {B C : Nat} {M : List It} (h : OwnRows w B M) (hC : w.heap.size = C) : Mine w B C M := hC ▸ h.mine
theorem Mine.call {w w' : World} {B C : Nat} {M : List It} (h : Mine w B C M) (hb : Below w.heap.size w w') : Mine w' B C M := fun x hx => by
  obtain ⟨g, D, e, h1, h2, h3, h4⟩ := h x hx
  exact ⟨g, D, e, h1, h2, h3, h4.call hb⟩
theorem Spoil.mine {B C B' C' : Nat} {w w' : World} (h : Spoil B C w w') {M : List It} (hm : Mine w B' C' M) : Mine w' B' C' M := fun x hx => by
  obtain ⟨g, D, e, h1, h2, h3, h4⟩ := hm x hx
  obtain ⟨D', hl, hb⟩ := h.blk h4
  exact ⟨g, D', e, h1, h2, hl.trans h3, hb⟩
theorem OwnRows.spoil {w w' : World} {B B' C : Nat} {M : List It} (h : OwnRows w B M) (hs : Spoil B' C w w') (hC : C ≤ B) : OwnRows w' B M := h.keep fun g D hg hb => hb.keep (hs.above (by omega))
/-- a row's place, as the cell of a list of rows -/
def cellsR (x : Option Addr × Nat × List (Int × Int × ByteArray)) : List Value := [.slice x.1 x.2.2.length x.2.1]
theorem cellsR_length (x : Option Addr × Nat × List (Int × Int × ByteArray)) : (cellsR x).length = 1 := rfl
theorem cellsR_one (x : Option Addr × Nat × List (Int × Int × ByteArray)) : ∀ u ∈ cellsR x, u.oneCell' = true := by
  intro u hu
  simp [cellsR] at hu
  subst hu
  rfl
theorem info_row : (Try.prog.info? 36).map (fun i => (i.zero, i.size, i.bytes)) = some (some (.slice none 0 0), 1, 24) := by kernel_rfl
/-- rows of the call's own, from block B on -/
def Held (w : World) (B : Nat) (R : List (Option Addr × Nat × List (Int × Int × ByteArray))) : Prop := ∀ x ∈ R, w.ownsRow B 52 3 (.slice x.1 x.2.2.length x.2.1) x.2.2.length (flat x.2.2)
theorem own_ne {w : World} {B B' n n' k k' : Nat} {e e' : TypeId} {v v' : Value} {xs xs' : List Value} (h : w.ownsRow B e k v n xs) (h' : w.ownsRow B' e' k' v' n' xs') (he : e ≠ e') : v.ownBlock = none ∨ v.ownBlock ≠ v'.ownBlock := by
  rcases h.2 with ⟨rfl, _⟩ | ⟨g, cap, cur, rfl, _, hg, _⟩
  · exact .inl rfl
  · refine .inr fun e1 => ?_
    rcases h'.2 with ⟨rfl, _⟩ | ⟨g', cap', cur', rfl, _, hg', _⟩
    · cases e1
    · simp only [Value.ownBlock, Option.some.injEq] at e1
      subst e1
      rw [hg] at hg'
      injection hg' with h1
      injection h1 with _ h2 _
      exact he h2
theorem Spoil.own {B C B' n k : Nat} {w w' : World} {e : TypeId} {v : Value} {xs : List Value} (hs : Spoil B C w w') (h : w.ownsRow B' e k v n xs) (hC : C ≤ B') : w'.ownsRow B' e k v n xs := by
  refine ⟨h.1, ?_⟩
  rcases h.2 with hn | ⟨g, cap, cur, rfl, hb, hgg, rest⟩
  · exact .inl hn
  · exact .inr ⟨g, cap, cur, rfl, hb, (hs.above (by omega)).trans hgg, rest⟩
theorem own_to {w w' : World} {B n k : Nat} {e : TypeId} {v : Value} {xs : List Value} (h : w.ownsRow B e k v n xs) (hb : Below w.heap.size w w') : w'.ownsRow B e k v n xs := by
  refine ⟨h.1, ?_⟩
  rcases h.2 with hn | ⟨g, cap, cur, rfl, hB, hgg, rest⟩
  · exact .inl hn
  · exact .inr ⟨g, cap, cur, rfl, hB, (hb.block g (Array.getElem?_eq_some_iff.1 hgg).1).trans hgg, rest⟩
theorem own_less {w : World} {B B' n k : Nat} {e : TypeId} {v : Value} {xs : List Value} (h : w.ownsRow B e k v n xs) (hB : B' ≤ B) : w.ownsRow B' e k v n xs := by
  refine ⟨h.1, ?_⟩
  rcases h.2 with hn | ⟨g, cap, cur, rfl, hb, rest⟩
  · exact .inl hn
  · exact .inr ⟨g, cap, cur, rfl, by omega, rest⟩
theorem own_row {w : World} {B : Nat} {A : Option Addr} {cap : Nat} {l : List (Int × Int × ByteArray)} (h : w.ownsRow B 52 3 (.slice A l.length cap) l.length (flat l)) : Vals w w.heap.size A l := by
  obtain ⟨A', cap', he, hv⟩ := own_vals h
  injection he with h1 _ _
  rw [h1]
  exact hv
theorem own_rows {w : World} {B : Nat} {A : Option Addr} {cap : Nat} {R : List (Option Addr × Nat × List (Int × Int × ByteArray))} (h : w.ownsRow B 36 1 (.slice A R.length cap) R.length (flatC cellsR R)) : At cellsR 1 w w.heap.size A R := by
  obtain ⟨A', cap', he, hv⟩ := own_at cellsR_length h
  injection he with h1 _ _
  rw [h1]
  exact hv
theorem Held.to {w w' : World} {B : Nat} {R : List (Option Addr × Nat × List (Int × Int × ByteArray))} (h : Held w B R) (hb : Below w.heap.size w w') : Held w' B R := fun x hx => own_to (h x hx) hb
theorem Held.grown {w w' : World} {B B' n k : Nat} {e : TypeId} {v : Value} {xs : List Value} {R : List (Option Addr × Nat × List (Int × Int × ByteArray))} (h : Held w B R) (ho : w.ownsRow B' e k v n xs) (he : 52 ≠ e) (hg : w.grownBy w' v.ownBlock) : Held w' B R := fun x hx => (h x hx).kept hg (own_ne (h x hx) ho he)
theorem Spoil.held {B C B' : Nat} {w w' : World} {R : List (Option Addr × Nat × List (Int × Int × ByteArray))} (hs : Spoil B C w w') (h : Held w B' R) (hC : C ≤ B') : Held w' B' R := fun x hx => hs.own (h x hx) hC
theorem Held.snoc {w : World} {B : Nat} {R : List (Option Addr × Nat × List (Int × Int × ByteArray))} {x : Option Addr × Nat × List (Int × Int × ByteArray)} (h : Held w B R) (hx : w.ownsRow B 52 3 (.slice x.1 x.2.2.length x.2.1) x.2.2.length (flat x.2.2)) : Held w B (R ++ [x]) := fun y hy => by
  rcases List.mem_append.1 hy with hy | hy
  · exact h y hy
  · rw [List.mem_singleton.1 hy]; exact hx
/-- the rows' values are the items' -/
def Copies (R : List (Option Addr × Nat × List (Int × Int × ByteArray))) (L : List It) : Prop := R.map (·.2.2) = L.map (·.2.2.1)
theorem Copies.at {R : List (Option Addr × Nat × List (Int × Int × ByteArray))} {L : List It} (h : Copies R L) (k : Nat) (h1 : k < R.length) (h2 : k < L.length) : R[k].2.2 = L[k].2.2.1 := by
  have := congrArg (·[k]?) h
  simpa [h1, h2] using this
theorem Copies.snoc {R : List (Option Addr × Nat × List (Int × Int × ByteArray))} {L : List It} {k : Nat} (h : Copies R (L.take k)) (hk : k < L.length) {A : Option Addr} {c : Nat} {r : List (Int × Int × ByteArray)} (hr : L[k].2.2.1 = r) : Copies (R ++ [(A, c, r)]) (L.take (k + 1)) := by
  unfold Copies at *
  rw [List.take_succ_eq_append_getElem hk, List.map_append, List.map_append, h, ← hr]
  rfl
end Go.Proofs.Ytlejhimcaidbeaa.Items
