/-
  The contract of Total of package zset: all weights together, as a wide number.
-/
import Derived.Test.YtlejhimcaidbeaaZPos
import Derived.Test.YtlejhimcaidbeaaWideZ
namespace Go.Proofs.Ytlejhimcaidbeaa.Items
open Go.ChangeShapes Go.WideShapes Go.ChangeAt Go.RowKit Val Go.Proofs.Ytlejhimcaidbeaa.Code Go.Proofs.Ytlejhimcaidbeaa.Elems Go.Proofs.Ytlejhimcaidbeaa.ZP Go.Proofs.Ytlejhimcaidbeaa.Bits Go.Proofs.Ytlejhimcaidbeaa.Range
set_option linter.unusedVariables false
set_option maxRecDepth 100000
attribute [local go_sem] Oper.semAt_some

/-- a wide number in a box that the call made -/
def WBox (w : World) (g : Nat) (n : Int) (W : World) : Prop := W.heap[g]? = some (.cells #[.int .i64 (Wide.hi n), .int .u64 (Wide.lo n)] 61 (0, 0)) ∧ Below w.heap.size w W
theorem WBox.cells {w W : World} {g : Nat} {n : Int} (h : WBox w g n W) : W.cell? ⟨g, 0, none⟩ = some (.int .i64 (Wide.hi n)) ∧ W.cell? ⟨g, 1, none⟩ = some (.int .u64 (Wide.lo n)) ∧ W.frozen? ⟨g, 0, none⟩ = false ∧ W.frozen? ⟨g, 1, none⟩ = false := by
  have h1 := h.1
  refine ⟨?_, ?_, ?_, ?_⟩ <;> simp [World.cell?, World.frozen?, h1]
theorem WBox.turn {w W W' : World} {g : Nat} {n : Int} {row : Option Nat} {B : Nat} (hg : W.grownBy W' row) (hr : ∀ r, row = some r → B ≤ r ∧ ∃ o : Obj, W.heap[r]? = some o ∧ o.isCells = false) (hB : w.heap.size ≤ B) (h : WBox w g n W) : WBox w g n W' :=
  ⟨(turn_block hg hr h.1).trans h.1, turn_below hg hr (Nat.le_refl _) hB h.2⟩

theorem WBox.keep {w W W' : World} {g : Nat} {n : Int} (h : WBox w g n W) (hb : Below W.heap.size W W') : WBox w g n W' :=
  ⟨(hb.block g (Array.getElem?_eq_some_iff.1 h.1).1).trans h.1, h.2.trans (hb.mono h.2.size)⟩
theorem WBox.set {w W : World} {g : Nat} {n : Int} (h : WBox w g n W) (hg : w.heap.size ≤ g) (m : Int) : WBox w g m ((W.setCell ⟨g, 0, none⟩ (.int .i64 (Wide.hi m))).setCell ⟨g, 1, none⟩ (.int .u64 (Wide.lo m))) := by
  refine ⟨?_, (h.2.setCell (p := ⟨g, 0, none⟩) hg _).setCell (p := ⟨g, 1, none⟩) hg _⟩
  obtain ⟨hlt, hk⟩ := Array.getElem?_eq_some_iff.1 h.1
  have e1 : (W.setCell ⟨g, 0, none⟩ (.int .i64 (Wide.hi m))).heap[g]? = some (.cells #[.int .i64 (Wide.hi m), .int .u64 (Wide.lo n)] 61 (0, 0)) := by
    show (W.heap.modify g _)[g]? = _
    rw [Array.getElem?_eq_getElem (by rw [Array.size_modify]; exact hlt), Array.getElem_modify_self, hk]
    rfl
  obtain ⟨hlt1, hk1⟩ := Array.getElem?_eq_some_iff.1 e1
  show ((W.setCell ⟨g, 0, none⟩ (.int .i64 (Wide.hi m))).heap.modify g _)[g]? = _
  rw [Array.getElem?_eq_getElem (by rw [Array.size_modify]; exact hlt1), Array.getElem_modify_self, hk1]
  rfl
theorem wbox_next {w W w2 w3 : World} {g : Nat} {n : Int} {o : Obj} (h : WBox w g n W) (hb2 : Below W.drew.heap.size W.drew w2) (hb3 : Below (w2.alloc o).heap.size (w2.alloc o) w3) : WBox w g n w3 :=
  ((h.keep (Below.trans (Below.drew (Below.refl _ W)) hb2)).keep (below_alloc w2 o)).keep hb3
theorem keeps_below {W W' : World} (h : Below W.heap.size W W') : KeepsOthers W W' := ⟨h.size, fun k o hk _ => (h.block k (Array.getElem?_eq_some_iff.1 hk).1).trans hk⟩
theorem total_add (pre : List It) (x : It) : totalP (pl (pre ++ [x])) = totalP (pl pre) + x.2.2.2 := by
  rw [pl_append]
  exact total_snoc _ _

theorem total_round {w W w2 w3 : World} {g : Nat} {n x m : Int} {o : Obj} {B : Nat} (h : WBox w g n W) (hb2 : Below W.drew.heap.size W.drew w2) (hb3 : Below (w2.alloc o).heap.size (w2.alloc o) w3) (hg : w.heap.size ≤ g) (hm : m = n + x) :
    KeepsFrom B W ((w3.setCell ⟨g, 0, none⟩ (.int .i64 (Wide.hi (n + x)))).setCell ⟨g, 1, none⟩ (.int .u64 (Wide.lo (n + x)))) ∧ Below w.heap.size W ((w3.setCell ⟨g, 0, none⟩ (.int .i64 (Wide.hi (n + x)))).setCell ⟨g, 1, none⟩ (.int .u64 (Wide.lo (n + x)))) ∧ WBox w g m ((w3.setCell ⟨g, 0, none⟩ (.int .i64 (Wide.hi (n + x)))).setCell ⟨g, 1, none⟩ (.int .u64 (Wide.lo (n + x)))) := by
  have b2 : Below W.heap.size W w2 := Below.trans (Below.drew (Below.refl _ W)) hb2
  have b3 : Below W.heap.size W w3 := (b2.trans ((below_alloc w2 o).mono b2.size)).trans (hb3.mono (by have := b2.size; simp; omega))
  rw [hm]
  exact ⟨((keeps_below b3).trans ((KeepsOthers.setCell _ _ _).trans (KeepsOthers.setCell _ _ _))).from _, ((b3.mono h.2.size).setCell (p := ⟨g, 0, none⟩) hg _).setCell (p := ⟨g, 1, none⟩) hg _, (wbox_next h hb2 hb3).set hg _⟩

set_option maxHeartbeats 4000000 in
theorem ztotal_any (A : Option Addr) (cap : Nat) (L : List It) (w : World) (hI : Items w w.heap.size A L) (hF : FitI L) (hl : L.length ≤ 1000000) :
    Calls Try.prog 20 #[.slice A L.length cap] w fun e w' => e = .returned (.tuple #[.int .i64 (Wide.intV (totalP (pl L))), .int .i64 (Wide.intE (totalP (pl L)))]) ∧ Below w.heap.size w w' := by
  refine calls_marks Try.func20 rfl ?_
  simp only [Try.ntmps20, List.size_toArray, List.length_cons, List.length_nil, Nat.reduceAdd, Nat.reduceSub, Array.replicate_succ, Array.replicate_zero, List.push_toArray, List.append_toArray, List.nil_append, List.cons_append]
  have HI := Lib.hid hI
  clear hI
  go_wp2_with fail
  refine (Wide.of_any 0 _ (by unfold Wide.fits; omega)).mono ?_
  rintro e w1 ⟨rfl, hb1⟩
  have HB1 := Lib.hid hb1
  have hz1 := hb1.size
  clear hb1
  go_wp2_with fail
  have hw0 : WBox w w1.heap.size (totalP (pl [])) (w1.alloc (.cells #[.int .i64 (Wide.hi 0), .int .u64 (Wide.lo 0)] 61)) := ⟨heap_alloc_new w1 _, HB1.out.alloc hz1 _⟩
  have HW0 := Lib.hid hw0
  have HS := Lib.hid (each_seq A cap w.heap.size L (w1.alloc (.cells #[.int .i64 (Wide.hi 0), .int .u64 (Wide.lo 0)] 61)) (by simp; omega) ((HI.out.below HB1.out).below ((below_alloc w1 _).mono hz1)) (by omega))
  clear hw0
  refine wp_range (gf := 45) (ms := #[.slice A L.length cap]) rfl (enters_of Try.func45 (by kernel_rfl) rfl) (n₀ := w.heap.size) (by simp; omega) (fun _ => rfl) HS.out
    (fun pre W => WBox w w1.heap.size (totalP (pl pre)) W)
    (fun c pre W => False)
    ?hI ?hIx HW0.out
    (fun x a' _ => a' = { tmps := #[.slice A L.length cap, undef, .int .i64 0, .int .i64 0, .pointer (some ⟨w1.heap.size, 0, none⟩), undef, .int .i64 x.2.2.2, .agg #[.int .i64 (Wide.hi 0), .int .u64 (Wide.lo 0)], .slice A L.length cap, .func (.func 45) #[.slice A L.length cap] #[], .slice x.1 x.2.2.1.length x.2.1, .int .i64 x.2.2.2, undef, undef, undef, undef, undef, undef, undef, undef, undef], defers := [] })
    (fun x a' s X Y row h _ _ => h) ?assign ?body ?done ?stop
  case hI => exact fun s X Y row h hg hr => h.turn hg hr (by simp; omega)
  case hIx => exact fun c s X Y row h hg hr => h.elim
  case assign =>
    intro l pre x W K hz hi hK
    have HK := Lib.hid (hK _ W (KeepsFrom.refl _ _) (Below.refl _ _) hi rfl)
    clear hK hi
    dsimp only [encI]
    gi_wp2
    exact HK.out
  case body =>
    rintro l pre x a' W hz hw rfl hpre
    have hx : x ∈ L := hpre.subset (by simp)
    have hfx := (hF x hx).2
    have HW := Lib.hid hw
    obtain ⟨c0, c1, f0, f1⟩ := hw.cells
    have HF := Lib.hid hfx
    clear hw hfx hpre
    obtain ⟨x1, x2, x3, x4⟩ := x
    have hzz : w1.heap.size + 1 ≤ W.heap.size := by simpa using hz
    obtain ⟨n, hn⟩ : ∃ n, totalP (pl pre) = n := ⟨_, rfl⟩
    rw [hn] at c0 c1 HW
    have hmx : Try.prog.follows .mixedOrders = true := by kernel_rfl
    gi_wp2_with fail
    have hg0 : w1.heap.size < W.drew.heap.size := by show w1.heap.size < W.heap.size; omega
    gi_region_with_o (first
      | (refine in_round (Wide.of_any x4 _ HF.out) ?_; rintro e w2 ⟨rfl, hb2⟩; have b2 := (hb2.block _ hg0).trans HW.out.1; have k0 := (hb2.cell (p := ⟨w1.heap.size, 0, none⟩) hg0).trans c0; have k1 := (hb2.cell (p := ⟨w1.heap.size, 1, none⟩) hg0).trans c1; have z2 := hb2.size; have j0 : ∀ o, (w2.alloc o).cell? ⟨w1.heap.size, 0, none⟩ = some (.int .i64 (Wide.hi n)) := fun o => (World.cell?_alloc_old _ _ _ (by simp; omega)).trans k0; have j1 : ∀ o, (w2.alloc o).cell? ⟨w1.heap.size, 1, none⟩ = some (.int .u64 (Wide.lo n)) := fun o => (World.cell?_alloc_old _ _ _ (by simp; omega)).trans k1)
      | (refine in_round (Wide.add1_any n x4 w2.heap.size 1 _ (by simp) (by simp [go_sem]) (by simp [go_sem])) ?_; rintro e w3 ⟨rfl, hb3⟩; have hW3 := wbox_next HW.out hb2 hb3; obtain ⟨m0, m1, q0, q1⟩ := hW3.cells))
    all_goals gi_wp2
    all_goals exact total_round HW.out hb2 hb3 HB1.out.size (show totalP (pl (pre ++ [(x1, x2, x3, x4)])) = n + x4 by rw [total_add, hn])
  case done =>
    rintro D W hD hw hK
    obtain ⟨c0, c1, f0, f1⟩ := hw.cells
    have HW := Lib.hid hw
    have HK := Lib.hid hK
    clear hw hK
    go_wp2_with fail
    refine (Wide.int_any (totalP (pl L)) _).mono ?_
    rintro e w3 ⟨rfl, hb3⟩
    have HK3 := Lib.hid ((hb3.block _ (Array.getElem?_eq_some_iff.1 HK.out).1).trans HK.out)
    have HB3 := Lib.hid (HW.out.2.trans (hb3.mono HW.out.2.size))
    clear hb3
    go_wp2
    refine leave_mark HK3.out (n₀ := w.heap.size) (by simp at hD; omega) fun W' hcell hsz hbel hoth => ?_
    exact ⟨_, results_tmp2 (fn := Try.f20) rfl _ _ _, rfl, HB3.out.trans hbel⟩
  case stop => exact fun D c pre W _ _ h _ => h.elim
end Go.Proofs.Ytlejhimcaidbeaa.Items
