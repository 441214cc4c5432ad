/-
  The law's question whose answer is fixed, of layer 6, from the contracts of the program's functions.
-/
import Derived.Test.YtlejhimcaidbeaaZSumsOf
namespace Go.Proofs.Ytlejhimcaidbeaa.Items
open Go.ChangeShapes Go.WideShapes Go.ChangeAt Go.RowKit Val Go.Proofs.Ytlejhimcaidbeaa.Code Go.Proofs.Ytlejhimcaidbeaa.Elems Go.Proofs.Ytlejhimcaidbeaa.ZP Go.Proofs.Ytlejhimcaidbeaa.Bits
set_option linter.unusedVariables false
set_option maxRecDepth 100000

def ra : List (Int × Int × ByteArray) := [(2, 2, ByteArray.empty)]
def rb : List (Int × Int × ByteArray) := [(2, 1, ByteArray.empty)]
def four (A B C D : Option Addr) (a b c d : Nat) : List It := [(A, a, ra, 9223372036854775807), (B, b, rb, -2), (C, c, ra, 9223372036854775807), (D, d, ra, -9223372036854775807)]
def two (A B : Option Addr) (a b : Nat) : List It := [(A, a, ra, 9223372036854775807), (B, b, ra, 9223372036854775807)]
theorem four_of (A B C D : Option Addr) (a b c d : Nat) : pl (ofL (four A B C D a b c d)) = [(rb, -2), (ra, 9223372036854775807)] := by kernel_rfl
theorem four_e (A B C D : Option Addr) (a b c d : Nat) : ofE (four A B C D a b c d) = 0 := by kernel_rfl
theorem two_of (A B : Option Addr) (a b : Nat) : ofE (two A B a b) = 11 ∧ ofL (two A B a b) = [] := ⟨by kernel_rfl, by kernel_rfl⟩

def ZTotal : Prop := ∀ (A : Option Addr) (cap : Nat) (L : List It) (w : World), Items w w.heap.size A L → FitI L → L.length ≤ 1000 → Calls Try.prog 20 #[.slice A L.length cap] w fun e w' => e = .returned (.tuple #[.int .i64 (fitN (totalP (pl L))), .int .i64 (fitE (totalP (pl L)))]) ∧ Below w.heap.size w w'
def ZDistinct : Prop := ∀ (A : Option Addr) (cap : Nat) (L : List It) (w : World), Items w w.heap.size A L → L.length ≤ 1000 → (∀ x ∈ L, x.2.2.1.length ≤ 1000000) → Calls Try.prog 24 #[.slice A L.length cap] w fun e w' => ∃ (B : Option Addr) (cb : Nat) (M : List It), e = .returned (.slice B M.length cb) ∧ Items w' w'.heap.size B M ∧ pl M = pl (distI L) ∧ Below w.heap.size w w'
def ZRight : Prop := ∀ (A : Option Addr) (cap : Nat) (L : List It) (w : World), Items w w.heap.size A L → FitI L → (∀ x ∈ L, x.2.2.1.length ≤ 140737488355328) → L.length ≤ 140737488355328 → Calls Try.prog 17 #[.slice A L.length cap] w fun e w' => e = .returned (.bool (rightI L)) ∧ Below w.heap.size w w'
def ZPositive : Prop := ∀ (A : Option Addr) (cap : Nat) (L : List It) (w : World), Items w w.heap.size A L → L.length ≤ 140737488355328 → Calls Try.prog 26 #[.slice A L.length cap] w fun e w' => e = .returned (.bool (positiveI L)) ∧ Below w.heap.size w w'

def aw1 (w : World) : World := w.alloc (.cells #[.int .i64 2, .int .i64 2, .string ⟨#[]⟩] 52)
def aw2 (w : World) : World := (aw1 w).alloc (.cells #[.slice (some ⟨w.heap.size, 0, none⟩) 1 1, .int .i64 9223372036854775807] 48)
def aw3 (w : World) : World := (aw2 w).alloc (.cells #[.int .i64 2, .int .i64 1, .string ⟨#[]⟩] 52)
def aw4 (w : World) : World := (aw3 w).alloc (.cells #[.slice (some ⟨w.heap.size + 1 + 1, 0, none⟩) 1 1, .int .i64 (-2)] 48)
def aw5 (w : World) : World := (aw4 w).alloc (.cells #[.slice (some ⟨w.heap.size, 0, none⟩) 1 1, .int .i64 9223372036854775807, .slice (some ⟨w.heap.size + 1 + 1, 0, none⟩) 1 1, .int .i64 (-2), .slice (some ⟨w.heap.size, 0, none⟩) 1 1, .int .i64 9223372036854775807, .slice (some ⟨w.heap.size, 0, none⟩) 1 1, .int .i64 (-9223372036854775807)] 48)
theorem aws (w : World) : (aw1 w).heap.size = w.heap.size + 1 ∧ (aw2 w).heap.size = w.heap.size + 1 + 1 ∧ (aw3 w).heap.size = w.heap.size + 1 + 1 + 1 ∧ (aw4 w).heap.size = w.heap.size + 1 + 1 + 1 + 1 ∧ (aw5 w).heap.size = w.heap.size + 1 + 1 + 1 + 1 + 1 := by
  simp [aw1, aw2, aw3, aw4, aw5]
theorem vals_new (w : World) (k n : Int) (t : ByteArray) : Vals (w.alloc (.cells #[.int .i64 k, .int .i64 n, .string t] 52)) (w.alloc (.cells #[.int .i64 k, .int .i64 n, .string t] 52)).heap.size (some ⟨w.heap.size, 0, none⟩) [(k, n, t)] :=
  Blk.vals (show Blk _ _ _ from heap_alloc_new w _)
theorem items_block {w : World} {L : List It} (hn : ∀ j u, (flatC cellsI L)[j]? = some u → w.cell? (({ block := w.heap.size - 1, off := 0 } : Addr).add j) = some u) (h0 : 0 < w.heap.size) (hv : ∀ x ∈ L, Vals w w.heap.size x.1 x.2.2.1) : Items w w.heap.size (some ⟨w.heap.size - 1, 0, none⟩) L := by
  refine ⟨fun i hi => ⟨_, rfl, by show w.heap.size - 1 < _; omega, fun j u hu => hn _ _ ?_⟩, hv⟩
  have hj : j < 2 := by
    have := (List.getElem?_eq_some_iff.1 hu).1
    rwa [cellsI_length] at this
  rw [flatC_at cellsI_length L i hi j hj]
  exact hu
theorem below_aw5 (w : World) : Below w.heap.size w (aw5 w) := by
  obtain ⟨s1, s2, s3, s4, s5⟩ := aws w
  exact ((((below_alloc w _).alloc (by show _ ≤ (aw1 w).heap.size; omega) _).alloc (by show _ ≤ (aw2 w).heap.size; omega) _).alloc (by show _ ≤ (aw3 w).heap.size; omega) _).alloc (by show _ ≤ (aw4 w).heap.size; omega) _
theorem vals_ra (w : World) : Vals (aw5 w) (aw5 w).heap.size (some ⟨w.heap.size, 0, none⟩) ra := by
  obtain ⟨s1, s2, s3, s4, s5⟩ := aws w
  have h1 : Vals (aw1 w) (aw1 w).heap.size (some ⟨w.heap.size, 0, none⟩) ra := vals_new w 2 2 ⟨#[]⟩
  have hb : Below (aw1 w).heap.size (aw1 w) (aw5 w) := (((below_alloc (aw1 w) _).alloc (by show _ ≤ (aw2 w).heap.size; omega) _).alloc (by show _ ≤ (aw3 w).heap.size; omega) _).alloc (by show _ ≤ (aw4 w).heap.size; omega) _
  exact (h1.below hb).more hb.size
theorem vals_rb (w : World) : Vals (aw5 w) (aw5 w).heap.size (some ⟨w.heap.size + 1 + 1, 0, none⟩) rb := by
  obtain ⟨s1, s2, s3, s4, s5⟩ := aws w
  have h1 : Vals (aw3 w) (aw3 w).heap.size (some ⟨(aw2 w).heap.size, 0, none⟩) rb := vals_new (aw2 w) 2 1 ⟨#[]⟩
  rw [s2] at h1
  have hb : Below (aw3 w).heap.size (aw3 w) (aw5 w) := (below_alloc (aw3 w) _).alloc (by show _ ≤ (aw4 w).heap.size; omega) _
  exact (h1.below hb).more hb.size
theorem items_four (w : World) : Items (aw5 w) (aw5 w).heap.size (some ⟨w.heap.size + 1 + 1 + 1 + 1, 0, none⟩) (four (some ⟨w.heap.size, 0, none⟩) (some ⟨w.heap.size + 1 + 1, 0, none⟩) (some ⟨w.heap.size, 0, none⟩) (some ⟨w.heap.size, 0, none⟩) 1 1 1 1) := by
  obtain ⟨s1, s2, s3, s4, s5⟩ := aws w
  have hn := World.news_of_block (heap_alloc_new (aw4 w) (.cells #[.slice (some ⟨w.heap.size, 0, none⟩) 1 1, .int .i64 9223372036854775807, .slice (some ⟨w.heap.size + 1 + 1, 0, none⟩) 1 1, .int .i64 (-2), .slice (some ⟨w.heap.size, 0, none⟩) 1 1, .int .i64 9223372036854775807, .slice (some ⟨w.heap.size, 0, none⟩) 1 1, .int .i64 (-9223372036854775807)] 48))
  rw [s4] at hn
  have h := items_block (w := aw5 w) (L := four (some ⟨w.heap.size, 0, none⟩) (some ⟨w.heap.size + 1 + 1, 0, none⟩) (some ⟨w.heap.size, 0, none⟩) (some ⟨w.heap.size, 0, none⟩) 1 1 1 1) (by rw [s5]; exact hn) (by omega) (by
    intro x hx
    simp only [four, List.mem_cons, List.not_mem_nil, or_false] at hx
    rcases hx with rfl | rfl | rfl | rfl
    · exact vals_ra w
    · exact vals_rb w
    · exact vals_ra w
    · exact vals_ra w)
  rw [s5] at h
  rw [s5]
  exact h

theorem two_items {M : List It} (h : pl M = [(rb, -2), (ra, 9223372036854775807)]) : ∃ A a B b, M = [(A, a, rb, -2), (B, b, ra, 9223372036854775807)] := by
  rcases M with _ | ⟨x, _ | ⟨y, _ | ⟨z, L⟩⟩⟩
  · simp [pl] at h
  · simp [pl] at h
  · obtain ⟨A, a, r, n⟩ := x
    obtain ⟨B, b, t, m⟩ := y
    simp only [pl, pu, List.map_cons, List.map_nil, List.cons.injEq, Prod.mk.injEq, and_true] at h
    obtain ⟨⟨rfl, rfl⟩, rfl, rfl⟩ := h
    exact ⟨A, a, B, b, rfl⟩
  · simp [pl] at h
theorem items_two {w : World} {A : Option Addr} (hv : Vals w w.heap.size A ra) : Items (w.alloc (.cells #[.slice A 1 1, .int .i64 9223372036854775807, .slice A 1 1, .int .i64 9223372036854775807] 48)) (w.alloc (.cells #[.slice A 1 1, .int .i64 9223372036854775807, .slice A 1 1, .int .i64 9223372036854775807] 48)).heap.size (some ⟨w.heap.size, 0, none⟩) (two A A 1 1) := by
  have hn := World.news_of_block (heap_alloc_new w (.cells #[.slice A 1 1, .int .i64 9223372036854775807, .slice A 1 1, .int .i64 9223372036854775807] 48))
  have hb := below_alloc w (.cells #[.slice A 1 1, .int .i64 9223372036854775807, .slice A 1 1, .int .i64 9223372036854775807] 48)
  have hz : (w.alloc (.cells #[.slice A 1 1, .int .i64 9223372036854775807, .slice A 1 1, .int .i64 9223372036854775807] 48)).heap.size = w.heap.size + 1 := by simp
  have h := items_block (w := w.alloc (.cells #[.slice A 1 1, .int .i64 9223372036854775807, .slice A 1 1, .int .i64 9223372036854775807] 48)) (L := two A A 1 1) (by rw [hz]; exact hn) (by omega) (by
    intro x hx
    simp only [two, List.mem_cons, List.not_mem_nil, or_false] at hx
    rcases hx with rfl | rfl
    · exact (hv.below hb).more hb.size
    · exact (hv.below hb).more hb.size)
  rw [hz] at h
  rw [hz]
  exact h
theorem fitL_ra : FitL ra := fun v hv => by
  simp only [ra, List.mem_cons, List.not_mem_nil, or_false] at hv
  subst hv
  unfold fitV
  simp only
  omega
theorem fitL_rb : FitL rb := fun v hv => by
  simp only [rb, List.mem_cons, List.not_mem_nil, or_false] at hv
  subst hv
  unfold fitV
  simp only
  omega
theorem box_cells (w : World) : (aw5 w).cell? ⟨w.heap.size + 1, 0, none⟩ = some (.slice (some ⟨w.heap.size, 0, none⟩) 1 1) ∧ (aw5 w).cell? ⟨w.heap.size + 1, 1, none⟩ = some (.int .i64 9223372036854775807) := by
  obtain ⟨s1, s2, s3, s4, s5⟩ := aws w
  have hn := World.news_of_block (heap_alloc_new (aw1 w) (.cells #[.slice (some ⟨w.heap.size, 0, none⟩) 1 1, .int .i64 9223372036854775807] 48))
  rw [s1] at hn
  have hb : Below (aw2 w).heap.size (aw2 w) (aw5 w) := ((below_alloc (aw2 w) _).alloc (by show _ ≤ (aw3 w).heap.size; omega) _).alloc (by show _ ≤ (aw4 w).heap.size; omega) _
  exact ⟨(hb.cell (p := ⟨w.heap.size + 1, 0, none⟩) (by show _ < (aw2 w).heap.size; simp only; omega)).trans (hn 0 _ rfl), (hb.cell (p := ⟨w.heap.size + 1, 1, none⟩) (by show _ < (aw2 w).heap.size; simp only; omega)).trans (hn 1 _ rfl)⟩
set_option maxHeartbeats 8000000 in
set_option maxRecDepth 100000 in
theorem alive_of (ZO : ZOf) (ZT : ZTotal) (ZD : ZDistinct) (ZR : ZRight) (ZP : ZPositive) : ZAlive := by
  intro w
  have HZO := Lib.hid ZO
  have HZT := Lib.hid ZT
  have HZD := Lib.hid ZD
  have HZR := Lib.hid ZR
  have HZP := Lib.hid ZP
  clear ZO ZT ZD ZR ZP
  go_enter Try.func8, Try.ntmps8
  go_wp2_with fail
  have c1 := HZO.out _ 4 _ (aw5 w) (items_four w) (by
    intro x hx
    simp only [four, List.mem_cons, List.not_mem_nil, or_false] at hx
    rcases hx with rfl | rfl | rfl | rfl
    · exact ⟨fitL_ra, by unfold fits; simp only; omega⟩
    · exact ⟨fitL_rb, by unfold fits; simp only; omega⟩
    · exact ⟨fitL_ra, by unfold fits; simp only; omega⟩
    · exact ⟨fitL_ra, by unfold fits; simp only; omega⟩) (by
    intro x hx
    simp only [four, List.mem_cons, List.not_mem_nil, or_false] at hx
    rcases hx with rfl | rfl | rfl | rfl <;> (simp [ra, rb])) (by simp [four])
  rw [four_e] at c1
  refine c1.mono ?_
  clear c1
  rintro e w6 ⟨X, cx, M, rfl, hi6, hp6, hb6⟩
  have HRM := Lib.hid (right_pl hp6 (ofL_right _))
  rw [four_of] at hp6
  obtain ⟨A0, a0, B0, b0, rfl⟩ := two_items hp6
  clear hp6
  obtain ⟨d0, d1⟩ := box_cells w
  have hs5 := (aws w).2.2.2.2
  have L6 := Lib.hid (bnext (below_aw5 w) (below_aw5 w).size hb6)
  have f0 := (hb6.cell (p := ⟨w.heap.size + 1, 0, none⟩) (by show _ < (aw5 w).heap.size; simp only; omega)).trans d0
  have f1 := (hb6.cell (p := ⟨w.heap.size + 1, 1, none⟩) (by show _ < (aw5 w).heap.size; simp only; omega)).trans d1
  have V6 := Lib.hid (((vals_ra w).below hb6).more hb6.size)
  have I6 := Lib.hid hi6
  clear hb6 hi6 d0 d1 hs5
  go_wp2_with fail
  have c2 := HZO.out _ 2 _ _ (items_two V6.out) (by
    intro x hx
    simp only [two, List.mem_cons, List.not_mem_nil, or_false] at hx
    rcases hx with rfl | rfl
    · exact ⟨fitL_ra, by unfold fits; simp only; omega⟩
    · exact ⟨fitL_ra, by unfold fits; simp only; omega⟩) (by
    intro x hx
    simp only [two, List.mem_cons, List.not_mem_nil, or_false] at hx
    rcases hx with rfl | rfl <;> (simp [ra])) (by simp [two])
  rw [(two_of _ _ _ _).1] at c2
  have hbz := below_alloc w6 (.cells #[.slice (some ⟨w.heap.size, 0, none⟩) 1 1, .int .i64 9223372036854775807, .slice (some ⟨w.heap.size, 0, none⟩) 1 1, .int .i64 9223372036854775807] 48)
  refine c2.mono ?_
  clear c2
  rintro e w7 ⟨X7, cx7, M7, rfl, hi7, hp7, hb7⟩
  have hb67 := hbz.trans (hb7.mono hbz.size)
  have L7 := Lib.hid (bnext L6.out L6.out.size hb67)
  have I7 := Lib.hid (I6.out.next hb67)
  clear hbz hb7 hb67 hi7 hp7 f0 f1 V6 I6 L6
  have t1 : fitN (totalP (pl [(A0, a0, rb, -2), (B0, b0, ra, 9223372036854775807)])) = 9223372036854775805 := by kernel_rfl
  have t2 : fitE (totalP (pl [(A0, a0, rb, -2), (B0, b0, ra, 9223372036854775807)])) = 0 := by kernel_rfl
  have t3 : positiveI [(A0, a0, rb, -2), (B0, b0, ra, 9223372036854775807)] = false := by kernel_rfl
  have t4 : (distI [(A0, a0, rb, -2), (B0, b0, ra, 9223372036854775807)]).length = 1 := by kernel_rfl
  have fM : FitI [(A0, a0, rb, -2), (B0, b0, ra, 9223372036854775807)] := by
    intro x hx
    simp only [List.mem_cons, List.not_mem_nil, or_false] at hx
    rcases hx with rfl | rfl
    · exact ⟨fitL_rb, by unfold fits; simp only; omega⟩
    · exact ⟨fitL_ra, by unfold fits; simp only; omega⟩
  have sM : ∀ x ∈ [(A0, a0, rb, (-2 : Int)), (B0, b0, ra, 9223372036854775807)], x.2.2.1.length ≤ 140737488355328 := by
    intro x hx
    simp only [List.mem_cons, List.not_mem_nil, or_false] at hx
    rcases hx with rfl | rfl <;> simp [ra, rb]
  have sM1 : ∀ x ∈ [(A0, a0, rb, (-2 : Int)), (B0, b0, ra, 9223372036854775807)], x.2.2.1.length ≤ 1000000 := by
    intro x hx
    simp only [List.mem_cons, List.not_mem_nil, or_false] at hx
    rcases hx with rfl | rfl <;> simp [ra, rb]
  have c3 := fun w' (h : Items w' w'.heap.size X [(A0, a0, rb, -2), (B0, b0, ra, 9223372036854775807)]) => HZT.out X cx _ w' h fM (by simp)
  simp only [t1, t2] at c3
  have c4 := fun w' (h : Items w' w'.heap.size X [(A0, a0, rb, -2), (B0, b0, ra, 9223372036854775807)]) => HZD.out X cx _ w' h (by simp) sM1
  have c5 := fun w' (h : Items w' w'.heap.size X [(A0, a0, rb, -2), (B0, b0, ra, 9223372036854775807)]) => HZP.out X cx _ w' h (by simp)
  simp only [t3] at c5
  have c6 := fun w' (h : Items w' w'.heap.size X [(A0, a0, rb, -2), (B0, b0, ra, 9223372036854775807)]) => HZR.out X cx _ w' h fM sM (by simp)
  simp only [HRM.out] at c6
  obtain ⟨N, hN⟩ : ∃ N, [(A0, a0, rb, (-2 : Int)), (B0, b0, ra, 9223372036854775807)] = N := ⟨_, rfl⟩
  have hN2 : N.length = 2 := by rw [← hN]; rfl
  have C3 := Lib.hid c3
  have C4 := Lib.hid c4
  have C5 := Lib.hid c5
  have C6 := Lib.hid c6
  have HT4 := Lib.hid t4
  obtain ⟨ad, rfl, hab, i0, i1, _⟩ := I7.out.at 0 (by simp)
  rw [show ad.add (0 * 2) = ad by unfold Addr.add; rw [if_pos (by omega)]] at i0 i1
  have i1' : w7.cell? ⟨ad.block, ad.off + 1, none⟩ = some (.int .i64 (-2)) := i1
  clear c3 c4 c5 c6 t1 t2 t3 t4 fM sM sM1 HZT HZD HZP HZR HZO i0 i1
  rw [hN] at C3 C4 C5 C6 I7 HT4
  simp only [hN2] at C3 C4 C5 C6
  clear hN HRM hN2
  go_wp2_with fail
  refine (C3.out w7 I7.out).mono ?_
  rintro e w8 ⟨rfl, hb8⟩
  have L8 := Lib.hid (bnext L7.out L7.out.size hb8)
  have I8 := Lib.hid (I7.out.next hb8)
  have j8 := (hb8.cell (p := ⟨ad.block, ad.off + 1, none⟩) hab).trans i1'
  clear hb8 i1' C3 L7 I7 hab
  go_wp2_with fail
  refine (C4.out w8 I8.out).mono ?_
  rintro e w9 ⟨D, cd, M9, rfl, hi9, hp9, hb9⟩
  have L9 := Lib.hid (bnext L8.out L8.out.size hb9)
  have I9 := Lib.hid (I8.out.next hb9)
  have hl9 : M9.length = 1 := (pl_short hp9).trans HT4.out
  clear hb9 hi9 hp9 j8 C4 L8 I8
  go_wp2_with fail
  refine (C5.out w9 I9.out).mono ?_
  rintro e w10 ⟨rfl, hb10⟩
  have L10 := Lib.hid (bnext L9.out L9.out.size hb10)
  have I10 := Lib.hid (I9.out.next hb10)
  clear hb10 C5 L9 I9
  go_wp2_with fail
  refine (C6.out w10 I10.out).mono ?_
  rintro e w11 ⟨rfl, hb11⟩
  have L11 := Lib.hid (bnext L10.out L10.out.size hb11)
  clear hb11 C6 L10 I10
  go_wp2
  go_ret
  exact ⟨rfl, L11.out⟩
end Go.Proofs.Ytlejhimcaidbeaa.Items
