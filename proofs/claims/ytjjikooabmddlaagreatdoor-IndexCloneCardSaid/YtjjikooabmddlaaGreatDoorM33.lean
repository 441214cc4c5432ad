/-
  The law's question whose answer is fixed, of layer 6, from the contracts of the program's functions.
-/
import Derived.Test.YtjjikooabmddlaaGreatDoorM32
import Derived.Test.YtjjikooabmddlaaGreatDoorM26
import Derived.Test.YtjjikooabmddlaaGreatDoorM14
namespace Go.Proofs.YtjjikooabmddlaaGreatDoor.Items
open Go.ChangeShapes Go.WideShapes Go.ChangeAt Go.RowKit Val Go.Proofs.YtjjikooabmddlaaGreatDoor.Code Go.Proofs.YtjjikooabmddlaaGreatDoor.Elems Go.Proofs.YtjjikooabmddlaaGreatDoor.ZP Go.Proofs.YtjjikooabmddlaaGreatDoor.Bits
set_option linter.unusedVariables false
set_option maxRecDepth 100000

def ra : List (Int × Int × ByteArray) := [(2, 2, ByteArray.empty)]
def rb : List (Int × Int × ByteArray) := [(2, 1, ByteArray.empty)]
def four (A B C D : Option Addr) (a b c d : Nat) : List It := [(A, a, ra, 9223372036854775807), (B, b, rb, -2), (C, c, ra, 9223372036854775807), (D, d, ra, -9223372036854775807)]
def two (A B : Option Addr) (a b : Nat) : List It := [(A, a, ra, 9223372036854775807), (B, b, ra, 9223372036854775807)]
theorem four_of (A B C D : Option Addr) (a b c d : Nat) : pl (ofL (four A B C D a b c d)) = [(rb, -2), (ra, 9223372036854775807)] := by kernel_rfl
theorem four_e (A B C D : Option Addr) (a b c d : Nat) : ofE (four A B C D a b c d) = 0 := by kernel_rfl
theorem two_of (A B : Option Addr) (a b : Nat) : ofE (two A B a b) = 11 ∧ ofL (two A B a b) = [] := ⟨by kernel_rfl, by kernel_rfl⟩

def ZPositive : Prop := ∀ (A : Option Addr) (cap : Nat) (L : List It) (w : World), Items w w.heap.size A L → L.length ≤ 140737488355328 → Calls Tryz.prog 151 #[.slice A L.length cap] w fun e w' => e = .returned (.bool (positiveI L)) ∧ Below w.heap.size w w'

def aw1 (w : World) : World := w.alloc (.cells #[.int .i64 2, .int .i64 2, .string ⟨#[]⟩] 51)
def aw2 (w : World) : World := (aw1 w).alloc (.cells #[.slice (some ⟨w.heap.size, 0, none⟩) 1 1, .int .i64 9223372036854775807] 48)
def aw3 (w : World) : World := (aw2 w).alloc (.cells #[.int .i64 2, .int .i64 1, .string ⟨#[]⟩] 51)
def aw4 (w : World) : World := (aw3 w).alloc (.cells #[.slice (some ⟨w.heap.size + 1 + 1, 0, none⟩) 1 1, .int .i64 (-2)] 48)
def aw5 (w : World) : World := (aw4 w).alloc (.cells #[.slice (some ⟨w.heap.size, 0, none⟩) 1 1, .int .i64 9223372036854775807, .slice (some ⟨w.heap.size + 1 + 1, 0, none⟩) 1 1, .int .i64 (-2), .slice (some ⟨w.heap.size, 0, none⟩) 1 1, .int .i64 9223372036854775807, .slice (some ⟨w.heap.size, 0, none⟩) 1 1, .int .i64 (-9223372036854775807)] 48)
theorem aws (w : World) : (aw1 w).heap.size = w.heap.size + 1 ∧ (aw2 w).heap.size = w.heap.size + 1 + 1 ∧ (aw3 w).heap.size = w.heap.size + 1 + 1 + 1 ∧ (aw4 w).heap.size = w.heap.size + 1 + 1 + 1 + 1 ∧ (aw5 w).heap.size = w.heap.size + 1 + 1 + 1 + 1 + 1 := by
  simp [aw1, aw2, aw3, aw4, aw5]
theorem vals_new (w : World) (k n : Int) (t : ByteArray) : Vals (w.alloc (.cells #[.int .i64 k, .int .i64 n, .string t] 51)) (w.alloc (.cells #[.int .i64 k, .int .i64 n, .string t] 51)).heap.size (some ⟨w.heap.size, 0, none⟩) [(k, n, t)] :=
  Blk.vals (show Blk _ _ _ from heap_alloc_new w _)
theorem items_block {w : World} {L : List It} (hn : ∀ j u, (flatC cellsI L)[j]? = some u → w.cell? (({ block := w.heap.size - 1, off := 0 } : Addr).add j) = some u) (h0 : 0 < w.heap.size) (hv : ∀ x ∈ L, Vals w w.heap.size x.1 x.2.2.1) : Items w w.heap.size (some ⟨w.heap.size - 1, 0, none⟩) L := by
  refine ⟨fun i hi => ⟨_, rfl, by show w.heap.size - 1 < _; omega, fun j u hu => hn _ _ ?_⟩, hv⟩
  have hj : j < 2 := by
    have := (List.getElem?_eq_some_iff.1 hu).1
    rwa [cellsI_length] at this
  rw [flatC_at cellsI_length L i hi j hj]
  exact hu
theorem below_aw5 (w : World) : Below w.heap.size w (aw5 w) := by
  obtain ⟨s1, s2, s3, s4, s5⟩ := aws w
  exact ((((below_alloc w _).alloc (by show _ ≤ (aw1 w).heap.size; omega) _).alloc (by show _ ≤ (aw2 w).heap.size; omega) _).alloc (by show _ ≤ (aw3 w).heap.size; omega) _).alloc (by show _ ≤ (aw4 w).heap.size; omega) _
theorem vals_ra (w : World) : Vals (aw5 w) (aw5 w).heap.size (some ⟨w.heap.size, 0, none⟩) ra := by
  obtain ⟨s1, s2, s3, s4, s5⟩ := aws w
  have h1 : Vals (aw1 w) (aw1 w).heap.size (some ⟨w.heap.size, 0, none⟩) ra := vals_new w 2 2 ⟨#[]⟩
  have hb : Below (aw1 w).heap.size (aw1 w) (aw5 w) := (((below_alloc (aw1 w) _).alloc (by show _ ≤ (aw2 w).heap.size; omega) _).alloc (by show _ ≤ (aw3 w).heap.size; omega) _).alloc (by show _ ≤ (aw4 w).heap.size; omega) _
  exact (h1.below hb).more hb.size
theorem vals_rb (w : World) : Vals (aw5 w) (aw5 w).heap.size (some ⟨w.heap.size + 1 + 1, 0, none⟩) rb := by
  obtain ⟨s1, s2, s3, s4, s5⟩ := aws w
  have h1 : Vals (aw3 w) (aw3 w).heap.size (some ⟨(aw2 w).heap.size, 0, none⟩) rb := vals_new (aw2 w) 2 1 ⟨#[]⟩
  rw [s2] at h1
  have hb : Below (aw3 w).heap.size (aw3 w) (aw5 w) := (below_alloc (aw3 w) _).alloc (by show _ ≤ (aw4 w).heap.size; omega) _
  exact (h1.below hb).more hb.size
theorem items_four (w : World) : Items (aw5 w) (aw5 w).heap.size (some ⟨w.heap.size + 1 + 1 + 1 + 1, 0, none⟩) (four (some ⟨w.heap.size, 0, none⟩) (some ⟨w.heap.size + 1 + 1, 0, none⟩) (some ⟨w.heap.size, 0, none⟩) (some ⟨w.heap.size, 0, none⟩) 1 1 1 1) := by
  obtain ⟨s1, s2, s3, s4, s5⟩ := aws w
  have hn := World.news_of_block (heap_alloc_new (aw4 w) (.cells #[.slice (some ⟨w.heap.size, 0, none⟩) 1 1, .int .i64 9223372036854775807, .slice (some ⟨w.heap.size + 1 + 1, 0, none⟩) 1 1, .int .i64 (-2), .slice (some ⟨w.heap.size, 0, none⟩) 1 1, .int .i64 9223372036854775807, .slice (some ⟨w.heap.size, 0, none⟩) 1 1, .int .i64 (-9223372036854775807)] 48))
  rw [s4] at hn
  have h := items_block (w := aw5 w) (L := four (some ⟨w.heap.size, 0, none⟩) (some ⟨w.heap.size + 1 + 1, 0, none⟩) (some ⟨w.heap.size, 0, none⟩) (some ⟨w.heap.size, 0, none⟩) 1 1 1 1) (by rw [s5]; exact hn) (by omega) (by
    intro x hx
    simp only [four, List.mem_cons, List.not_mem_nil, or_false] at hx
    rcases hx with rfl | rfl | rfl | rfl
    · exact vals_ra w
    · exact vals_rb w
    · exact vals_ra w
    · exact vals_ra w)
  rw [s5] at h
  rw [s5]
  exact h

theorem two_items {M : List It} (h : pl M = [(rb, -2), (ra, 9223372036854775807)]) : ∃ A a B b, M = [(A, a, rb, -2), (B, b, ra, 9223372036854775807)] := by
  rcases M with _ | ⟨x, _ | ⟨y, _ | ⟨z, L⟩⟩⟩
  · simp [pl] at h
  · simp [pl] at h
  · obtain ⟨A, a, r, n⟩ := x
    obtain ⟨B, b, t, m⟩ := y
    simp only [pl, pu, List.map_cons, List.map_nil, List.cons.injEq, Prod.mk.injEq, and_true] at h
    obtain ⟨⟨rfl, rfl⟩, rfl, rfl⟩ := h
    exact ⟨A, a, B, b, rfl⟩
  · simp [pl] at h
theorem items_two {w : World} {A : Option Addr} (hv : Vals w w.heap.size A ra) : Items (w.alloc (.cells #[.slice A 1 1, .int .i64 9223372036854775807, .slice A 1 1, .int .i64 9223372036854775807] 48)) (w.alloc (.cells #[.slice A 1 1, .int .i64 9223372036854775807, .slice A 1 1, .int .i64 9223372036854775807] 48)).heap.size (some ⟨w.heap.size, 0, none⟩) (two A A 1 1) := by
  have hn := World.news_of_block (heap_alloc_new w (.cells #[.slice A 1 1, .int .i64 9223372036854775807, .slice A 1 1, .int .i64 9223372036854775807] 48))
  have hb := below_alloc w (.cells #[.slice A 1 1, .int .i64 9223372036854775807, .slice A 1 1, .int .i64 9223372036854775807] 48)
  have hz : (w.alloc (.cells #[.slice A 1 1, .int .i64 9223372036854775807, .slice A 1 1, .int .i64 9223372036854775807] 48)).heap.size = w.heap.size + 1 := by simp
  have h := items_block (w := w.alloc (.cells #[.slice A 1 1, .int .i64 9223372036854775807, .slice A 1 1, .int .i64 9223372036854775807] 48)) (L := two A A 1 1) (by rw [hz]; exact hn) (by omega) (by
    intro x hx
    simp only [two, List.mem_cons, List.not_mem_nil, or_false] at hx
    rcases hx with rfl | rfl
    · exact (hv.below hb).more hb.size
    · exact (hv.below hb).more hb.size)
  rw [hz] at h
  rw [hz]
  exact h
theorem fitL_ra : FitL ra := fun v hv => by
  simp only [ra, List.mem_cons, List.not_mem_nil, or_false] at hv
  subst hv
  unfold fitV
  simp only
  omega
theorem fitL_rb : FitL rb := fun v hv => by
  simp only [rb, List.mem_cons, List.not_mem_nil, or_false] at hv
  subst hv
  unfold fitV
  simp only
  omega
theorem box_cells (w : World) : (aw5 w).cell? ⟨w.heap.size + 1, 0, none⟩ = some (.slice (some ⟨w.heap.size, 0, none⟩) 1 1) ∧ (aw5 w).cell? ⟨w.heap.size + 1, 1, none⟩ = some (.int .i64 9223372036854775807) := by
  obtain ⟨s1, s2, s3, s4, s5⟩ := aws w
  have hn := World.news_of_block (heap_alloc_new (aw1 w) (.cells #[.slice (some ⟨w.heap.size, 0, none⟩) 1 1, .int .i64 9223372036854775807] 48))
  rw [s1] at hn
  have hb : Below (aw2 w).heap.size (aw2 w) (aw5 w) := ((below_alloc (aw2 w) _).alloc (by show _ ≤ (aw3 w).heap.size; omega) _).alloc (by show _ ≤ (aw4 w).heap.size; omega) _
  exact ⟨(hb.cell (p := ⟨w.heap.size + 1, 0, none⟩) (by show _ < (aw2 w).heap.size; simp only; omega)).trans (hn 0 _ rfl), (hb.cell (p := ⟨w.heap.size + 1, 1, none⟩) (by show _ < (aw2 w).heap.size; simp only; omega)).trans (hn 1 _ rfl)⟩
end Go.Proofs.YtjjikooabmddlaaGreatDoor.Items

/-
  The law's question whose answer is fixed, of layer 6, out of the contracts of the program's functions.
-/
namespace Go.Proofs.YtjjikooabmddlaaGreatDoor.Items
open Go.ChangeShapes Go.WideShapes Go.ChangeAt Go.RowKit Val Go.Proofs.YtjjikooabmddlaaGreatDoor.Code Go.Proofs.YtjjikooabmddlaaGreatDoor.Elems Go.Proofs.YtjjikooabmddlaaGreatDoor.ZP Go.Proofs.YtjjikooabmddlaaGreatDoor.Bits Go.Proofs.YtjjikooabmddlaaGreatDoor.Range
set_option linter.unusedVariables false
theorem total_is {L : List It} (hF : FitI L) (hl : L.length ≤ 1000000) : Wide.intV (totalP (pl L)) = fitN (totalP (pl L)) ∧ Wide.intE (totalP (pl L)) = fitE (totalP (pl L)) := by
  have h := total_bound (pl L) (fits_of hF)
  rw [pl_length] at h
  have h2 := int_in (n := totalP (pl L)) (by omega)
  exact ⟨h2.2, h2.1⟩
theorem zAdd : ZAdd := fun G cap LS w h1 h2 h3 h4 h5 => (zadd_any G cap LS w h1 h2 h3 h4 (by omega)).mono fun _ _ h => h.set
end Go.Proofs.YtjjikooabmddlaaGreatDoor.Items

/-
  Rows of values that are written: what stays as it was.
-/
namespace Go.Proofs.YtjjikooabmddlaaGreatDoor.Items
open Go.ChangeShapes Go.WideShapes Go.ChangeAt Go.RowKit Val Go.Proofs.YtjjikooabmddlaaGreatDoor.Code Go.Proofs.YtjjikooabmddlaaGreatDoor.Elems Go.Proofs.YtjjikooabmddlaaGreatDoor.ZP Go.Proofs.YtjjikooabmddlaaGreatDoor.Bits
set_option linter.unusedVariables false

theorem blk_len {w : World} {g : Nat} {D E : List (Int × Int × ByteArray)} (h : Blk w g D) (k : Blk w g E) : D.length = E.length := by
  unfold Blk at h k
  rw [h] at k
  injection k with k
  injection k with k1 _ _
  have e : flat D = flat E := by simpa using k1
  have := congrArg List.length e
  rw [flat_length, flat_length] at this
  omega
theorem blk_noslice {w : World} {g : Nat} {D : List (Int × Int × ByteArray)} (h : Blk w g D) {p : Addr} {A : Option Addr} {l c : Nat} (hp : w.cell? p = some (.slice A l c)) : p.block ≠ g := by
  intro e
  subst e
  unfold Blk at h
  unfold World.cell? at hp
  rw [h] at hp
  simp only at hp
  split at hp
  · cases hp
  · have hm : Value.slice A l c ∈ flat D := by
      rw [List.getElem?_toArray] at hp
      exact List.mem_of_getElem? hp
    unfold flat at hm
    obtain ⟨v, _, hv⟩ := List.mem_flatMap.1 hm
    simp [cells3] at hv
/-- rows of values were written, those in blocks from B on and below C alone; their lengths are as they were -/
structure Spoil (B C : Nat) (w w' : World) : Prop where
  os : w'.os = w.os
  tape : w'.tape = w.tape
  output : w'.output = w.output
  size : w'.heap.size = w.heap.size
  block : ∀ k, w'.heap[k]? = w.heap[k]? ∨ (B ≤ k ∧ k < C ∧ ∃ D D', D'.length = D.length ∧ Blk w k D ∧ Blk w' k D')
theorem Spoil.refl (B C : Nat) (w : World) : Spoil B C w w := ⟨rfl, rfl, rfl, rfl, fun _ => .inl rfl⟩
theorem Spoil.below {B C : Nat} {w w' : World} (h : Spoil B C w w') : Below B w w' :=
  ⟨h.os, h.tape, h.output, Nat.le_of_eq h.size.symm, fun k hk => (h.block k).elim id (fun ⟨hB, _⟩ => absurd hB (by omega))⟩
theorem Spoil.above {B C : Nat} {w w' : World} (h : Spoil B C w w') {k : Nat} (hk : C ≤ k) : w'.heap[k]? = w.heap[k]? := (h.block k).elim id (fun ⟨_, hC, _⟩ => absurd hC (by omega))
theorem Spoil.blk {B C : Nat} {w w' : World} (h : Spoil B C w w') {g : Nat} {D : List (Int × Int × ByteArray)} (hb : Blk w g D) : ∃ D', D'.length = D.length ∧ Blk w' g D' := by
  rcases h.block g with e | ⟨_, _, D1, D2, hl, h1, h2⟩
  · exact ⟨D, rfl, hb.keep e⟩
  · exact ⟨D2, hl.trans (blk_len h1 hb), h2⟩
theorem Spoil.slice {B C : Nat} {w w' : World} (h : Spoil B C w w') {p : Addr} {A : Option Addr} {l c : Nat} (hp : w.cell? p = some (.slice A l c)) : w'.heap[p.block]? = w.heap[p.block]? := by
  rcases h.block p.block with e | ⟨_, _, D1, D2, hl, h1, h2⟩
  · exact e
  · exact absurd rfl (blk_noslice h1 hp)
theorem Spoil.at {B C : Nat} {w w' : World} (h : Spoil B C w w') {N : Nat} {A : Option Addr} {L : List It} (ha : At cellsI 2 w N A L) : At cellsI 2 w' N A L := by
  intro i hi
  obtain ⟨ad, e, hb, h0⟩ := ha i hi
  have e1 := h.slice (h0 0 _ rfl)
  refine ⟨ad, e, hb, fun j u hu => (World.cell?_of_block (w := w) ?_).trans (h0 j u hu)⟩
  rw [add_block] at e1 ⊢
  exact e1
theorem Spoil.store {B C : Nat} {w0 w : World} (h : Spoil B C w0 w) {g : Nat} {D : List (Int × Int × ByteArray)} (hb : Blk w g D) (hB : B ≤ g) (hC : g < C) (k : Nat) (hk : k < D.length) (v : Int × Int × ByteArray) :
    Spoil B C w0 (((w.setCell ⟨g, k * 3, none⟩ (.int .i64 v.1)).setCell ⟨g, k * 3 + 1, none⟩ (.int .i64 v.2.1)).setCell ⟨g, k * 3 + 2, none⟩ (.string v.2.2)) := by
  have hs := hb.set k hk v
  refine ⟨h.os, h.tape, h.output, by simpa using h.size, fun j => ?_⟩
  by_cases e : j = g
  · subst e
    refine .inr ⟨hB, hC, ?_⟩
    rcases h.block j with e | ⟨_, _, D1, D2, hl, h1, h2⟩
    · exact ⟨D, D.set k v, by rw [List.length_set], hb.keep e.symm, hs⟩
    · exact ⟨D1, D.set k v, by rw [List.length_set, ← hl, blk_len h2 hb], h1, hs⟩
  · have e1 : (((w.setCell ⟨g, k * 3, none⟩ (.int .i64 v.1)).setCell ⟨g, k * 3 + 1, none⟩ (.int .i64 v.2.1)).setCell ⟨g, k * 3 + 2, none⟩ (.string v.2.2)).heap[j]? = w.heap[j]? := by
      rw [Below.heap_setCell _ _ _ _ e, Below.heap_setCell _ _ _ _ e, Below.heap_setCell _ _ _ _ e]
    rcases h.block j with e2 | ⟨b1, b2, D1, D2, hl, h1, h2⟩
    · exact .inl (e1.trans e2)
    · exact .inr ⟨b1, b2, D1, D2, hl, h1, h2.keep e1⟩
/-- rows in blocks from B on and below C, of the lengths that are said -/
def Mine (w : World) (B C : Nat) (M : List It) : Prop := ∀ x ∈ M, ∃ g D, x.1 = some ⟨g, 0, none⟩ ∧ B ≤ g ∧ g < C ∧ D.length = x.2.2.1.length ∧ Blk w g D
theorem OwnRows.mine {w : World} {B : Nat} {M : List It} (h : OwnRows w B M) : Mine w B w.heap.size M := fun x hx => by
  obtain ⟨g, e, hb, _, hB⟩ := h x hx
  exact ⟨g, _, e, hb, hB.lt, rfl, hB⟩
theorem OwnRows.mine' {w : World} {B C : Nat} {M : List It} (h : OwnRows w B M) (hC : w.heap.size = C) : Mine w B C M := hC ▸ h.mine
theorem Mine.call {w w' : World} {B C : Nat} {M : List It} (h : Mine w B C M) (hb : Below w.heap.size w w') : Mine w' B C M := fun x hx => by
  obtain ⟨g, D, e, h1, h2, h3, h4⟩ := h x hx
  exact ⟨g, D, e, h1, h2, h3, h4.call hb⟩
theorem Spoil.mine {B C B' C' : Nat} {w w' : World} (h : Spoil B C w w') {M : List It} (hm : Mine w B' C' M) : Mine w' B' C' M := fun x hx => by
  obtain ⟨g, D, e, h1, h2, h3, h4⟩ := hm x hx
  obtain ⟨D', hl, hb⟩ := h.blk h4
  exact ⟨g, D', e, h1, h2, hl.trans h3, hb⟩
theorem OwnRows.spoil {w w' : World} {B B' C : Nat} {M : List It} (h : OwnRows w B M) (hs : Spoil B' C w w') (hC : C ≤ B) : OwnRows w' B M := h.keep fun g D hg hb => hb.keep (hs.above (by omega))
theorem Spoil.own {B C B' n k : Nat} {w w' : World} {e : TypeId} {v : Value} {xs : List Value} (hs : Spoil B C w w') (h : w.ownsRow B' e k v n xs) (hC : C ≤ B') : w'.ownsRow B' e k v n xs := by
  refine ⟨h.1, ?_⟩
  rcases h.2 with hn | ⟨g, cap, cur, rfl, hb, hgg, rest⟩
  · exact .inl hn
  · exact .inr ⟨g, cap, cur, rfl, hb, (hs.above (by omega)).trans hgg, rest⟩
theorem Spoil.held {B C B' : Nat} {w w' : World} {R : List (Option Addr × Nat × List (Int × Int × ByteArray))} (hs : Spoil B C w w') (h : Held w B' R) (hC : C ≤ B') : Held w' B' R := fun x hx => hs.own (h x hx) hC
end Go.Proofs.YtjjikooabmddlaaGreatDoor.Items
