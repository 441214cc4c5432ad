/-
  A node is the same as itself, as the program's Same tells it (by slices.EqualFunc).
-/
import Derived.Test.YtpohpgahnompbaaGreatDoorM21
import Derived.Test.YtpohpgahnompbaaGreatDoorM6
import Derived.Test.YtpohpgahnompbaaGreatDoorM22
import Derived.Test.YtpohpgahnompbaaGreatDoorM10
import Derived.Lib.OthersKept
import Derived.Lib.OwnKind
import Derived.Lib.AppendStr
import Derived.Lib.UnsafeStr
import Derived.Lib.Builder
import Derived.Maps.OwnOps
import Derived.Maps.OwnSet
namespace Go.Proofs.YtpohpgahnompbaaGreatDoor.Code
open Go.ChangeShapes Go.WideShapes Go.ChangeAt Go.RowKit Val Elems
set_option linter.unusedVariables false
set_option linter.unusedSimpArgs false
/-- Same tells a node and the like one be one -/
def SaysSame (x : Tr) : Prop := ∀ (S : Nat → Prop) (op tx : ByteArray) (X : Option Addr) (n m : Nat) (op' tx' : ByteArray) (X' : Option Addr) (n' m' : Nat) (w : World), (∀ g, S g → g < w.heap.size) → NIn w S x (.string op) (.string tx) (.slice X n m) → NIn w S x (.string op') (.string tx') (.slice X' n' m') →
    Calls Tryz.prog 9 #[.agg #[.string op, .string tx, .slice X n m], .agg #[.string op', .string tx', .slice X' n' m']] w (SamePost w true)
set_option maxHeartbeats 16000000 in
set_option maxRecDepth 100000 in
theorem eequal_yes (x : Tr) (ih : ∀ k (hk : k < (kids x).length), SaysSame (kids x)[k]) (N : Nat) (hN : (kids x).length = N) (S : Nat → Prop) (op tx : ByteArray) (X : Option Addr) (m : Nat) (op' tx' : ByteArray) (X' : Option Addr) (m' : Nat) (w : World) (hS : ∀ g, S g → g < w.heap.size) (hx : NIn w S x (.string op) (.string tx) (.slice X N m)) (hy : NIn w S x (.string op') (.string tx') (.slice X' N m')) :
    Calls Tryz.prog 18 #[.slice X N m, .slice X' N m', .func (.func 9) #[] #[]] w (SamePost w true) := by
  have hkx := kids_few x
  have HS := Lib.hid hS
  have HX := Lib.hid hx
  have HY := Lib.hid hy
  have IH := Lib.hid ih
  rw [hN] at hkx
  clear hS hx hy ih
  go_enter Tryz.func18, Tryz.ntmps18
  go_wp2
  go_loopw [17] (fun t wr => ∃ k : Nat, k ≤ N ∧ t = .int .i64 k ∧ Below w.heap.size w wr) (fun t _ => N - (intOf t).toNat)
  case atStart => exact ⟨0, by omega, rfl, Below.refl _ _⟩
  case round =>
    obtain ⟨k, hk, rfl, hb⟩ := hrel
    have HB := Lib.hid hb
    have hz := hb.size
    have KX := Lib.hid (HX.out.below HS.out hb)
    have KY := Lib.hid (HY.out.below HS.out hb)
    clear hb
    by_cases hlt : k < N
    · obtain ⟨X0, c0, e0, hkid⟩ := KX.out.node
      obtain ⟨ad, op1, tx1, X1, n1, m1, eA, hS1, p0, p1, p2, hk1⟩ := hkid k (by omega)
      injection e0 with eX en em
      obtain rfl : X = some ad := eX.trans eA
      clear hkid eX en em eA X0 c0
      obtain ⟨X0, c0, e0, hkid⟩ := KY.out.node
      obtain ⟨bd, op2, tx2, X2, n2, m2, eA, hS2, q0, q1, q2, hk2⟩ := hkid k (by omega)
      injection e0 with eX en em
      obtain rfl : X' = some bd := eX.trans eA
      clear hkid eX en em eA X0 c0
      have za0 : ad.block < wr.heap.size := by have := HS.out _ hS1; omega
      have zb0 : bd.block < wr.heap.size := by have := HS.out _ hS2; omega
      have za : (ad.add (k * 3)).block < wr.heap.size := by rw [add_block]; exact za0
      have zb : (bd.add (k * 3)).block < wr.heap.size := by rw [add_block]; exact zb0
      have hc := fun w' (h : Below wr.heap.size wr w') => IH.out k (by omega) S op1 tx1 X1 n1 m1 op2 tx2 X2 n2 m2 w' (fun g hg => by have := HS.out g hg; have := h.size; omega) (hk1.below (fun g hg => by have := HS.out g hg; omega) h) (hk2.below (fun g hg => by have := HS.out g hg; omega) h)
      unfold SamePost at hc
      have HC := Lib.hid hc
      clear hc hk1 hk2 hS1 hS2
      have L2 := Lib.hid (((Below.refl wr.heap.size wr).alloc (Nat.le_refl _) (.cells #[.string op1, .string tx1, .slice X1 n1 m1] 25)).alloc (by simp) (.cells #[.string op2, .string tx2, .slice X2 n2 m2] 25))
      go_wp2_with fail
      refine (HC.out _ L2.out).mono ?_
      rintro e w5 ⟨rfl, hb5⟩
      have M := Lib.hid (bnext L2.out L2.out.size hb5)
      clear hb5 p0 p1 p2 q0 q1 q2
      go_wp2
      go_roundw
      case rel => exact ⟨k + 1, by omega, by go_num, bnext HB.out hz M.out⟩
      case measure => simp [intOf]; omega
    · obtain rfl : k = N := by omega
      go_wp2
      go_ret
      exact ⟨rfl, HB.out⟩
set_option maxHeartbeats 16000000 in
set_option maxRecDepth 100000 in
theorem esame_any : ∀ (d : Nat) (x : Tr), x.deep ≤ d → SaysSame x
  | 0, x, h => absurd h (by rw [deep_kids]; omega)
  | d + 1, x, h => by
    intro S op tx X n m op' tx' X' n' m' w hS hx hy
    have ih := fun k (hk : k < (kids x).length) => esame_any d (kids x)[k] (by have := dm_mem (List.getElem_mem hk); rw [deep_kids] at h; omega)
    obtain ⟨X0, c0, e0, h0⟩ := hx.node
    injection e0 with eX en em
    subst en
    clear eX em X0 c0 h0
    obtain ⟨X0, c0, e0, h0⟩ := hy.node
    injection e0 with eX en em
    subst en
    clear eX em X0 c0 h0
    have ho : op = op' := by rw [hx.op_eq.1, hy.op_eq.1]
    have ht : tx = tx' := by rw [hx.op_eq.2, hy.op_eq.2]
    subst ho ht
    obtain ⟨N, hN⟩ : ∃ N, (kids x).length = N := ⟨_, rfl⟩
    rw [hN] at hx hy
    have hkx := kids_few x
    rw [hN] at hkx
    have HE := Lib.hid (fun w' (hb : Below w.heap.size w w') => eequal_yes x ih N hN S op tx X m op tx X' m' w' (fun g hg => Nat.lt_of_lt_of_le (hS g hg) hb.size) (hx.below hS hb) (hy.below hS hb))
    rw [hN]
    unfold SamePost at HE
    clear h hS hx hy ih
    go_enter Tryz.func9, Tryz.ntmps9
    obtain ⟨w0, hw0⟩ : ∃ w0, (w.alloc (.cells #[.string op, .string tx, .slice X N m] 25)).alloc (.cells #[.string op, .string tx, .slice X' N m'] 25) = w0 := ⟨_, rfl⟩
    have B0 := Lib.hid (show Below w.heap.size w w0 by rw [← hw0]; exact ((Below.refl _ _).alloc (Nat.le_refl _) _).alloc (by simp) _)
    have N0 := Lib.hid (show NBox w0 w.heap.size (.string op) (.string tx) (.slice X N m) by rw [← hw0]; exact (NBox.fresh _ _ _ _ _).alloc _)
    have N1 := Lib.hid (show NBox w0 (w.heap.size + 1) (.string op) (.string tx) (.slice X' N m') by
      rw [← hw0, show w.heap.size + 1 = (w.alloc (.cells #[.string op, .string tx, .slice X N m] 25)).heap.size by simp]; exact NBox.fresh _ _ _ _ _)
    obtain ⟨x0, x1, x2, xf⟩ := N0.out
    obtain ⟨y0, y1, y2, yf⟩ := N1.out
    go_wp2_with fail
    try rw [hw0]
    refine (HE.out _ B0.out).mono ?_
    rintro e w5 ⟨rfl, hb5⟩
    have M := Lib.hid (bnext B0.out B0.out.size hb5)
    clear hb5 x0 x1 x2 xf y0 y1 y2 yf
    go_wp2
    go_ret
    exact ⟨rfl, M.out⟩
end Go.Proofs.YtpohpgahnompbaaGreatDoor.Code

/-
  The answers of layer 9's live question, in plain words. No program is named here.
-/
namespace Go.Proofs.YtpohpgahnompbaaGreatDoor.Code
open Val
set_option linter.unusedVariables false
def aliveS : List UInt8 := [110, 111, 116, 32, 97, 32, 45, 32, 49, 32, 45, 32, 48, 50, 32, 42, 32, 45, 98, 32, 60, 61, 32, 51, 32, 97, 110, 100, 32, 39, 120, 39, 32, 105, 115, 32, 110, 117, 108, 108]
def aliveT : Tr := .two [97, 110, 100] (.one [110, 111, 116] (.two [60, 61] (.two [45] (.two [45] (.leaf sCol [97]) (.leaf sNum [49])) (.two [42] (.leaf sNum [50]) (.one sNeg (.leaf sCol [98])))) (.leaf sNum [51]))) (.one sIsNull (.leaf sText [120]))
theorem alive_1 : parseL aliveS = (aliveT, 0, 0) := by decide +kernel
theorem alive_2 : parseL [97, 32, 43, 32] = (zeroT, 4, 91) := by decide +kernel
theorem alive_3 : parseL [97, 32, 61, 32, 98, 32, 61, 32, 99] = (zeroT, 6, 91) := by decide +kernel
theorem alive_deep : aliveT.deep = 7 := by decide
end Go.Proofs.YtpohpgahnompbaaGreatDoor.Code

/-
  The writer of a node's text: its builder lies in it as a field; what is written, what is read at the end.
-/
namespace Go.Proofs.YtpohpgahnompbaaGreatDoor.Code
open Go.ChangeShapes Go.WideShapes Go.ChangeAt Go.RowKit Val Elems
set_option linter.unusedVariables false
set_option linter.unusedSimpArgs false
/-- what a writer's call keeps: what lies below the writer, and each block of cells that is not the writer and no row of bytes -/
structure Kp (b : Nat) (w w' : World) : Prop where
  bl : Below b w w'
  ot : Lib.OthersKept 5 (some b) w w'
theorem Kp.refl (b : Nat) (w : World) : Kp b w w := ⟨Below.refl _ _, Lib.OthersKept.refl _ _ _⟩
theorem Kp.trans {b : Nat} {w w1 w2 : World} (h : Kp b w w1) (g : Kp b w1 w2) : Kp b w w2 := ⟨h.bl.trans g.bl, h.ot.trans g.ot⟩
theorem Kp.alloc {b : Nat} {w w1 : World} (h : Kp b w w1) (hb : b ≤ w1.heap.size) (o : Obj) : Kp b w (w1.alloc o) := ⟨h.bl.alloc hb o, h.ot.alloc o⟩
theorem Kp.drew {b : Nat} {w w1 : World} (h : Kp b w w1) : Kp b w w1.drew := ⟨h.bl.drew, h.ot.drew⟩
theorem Kp.next {b : Nat} {w w1 w2 : World} (h : Kp b w w1) (hb : b ≤ w1.heap.size) (g : Below w1.heap.size w1 w2) : Kp b w w2 :=
  ⟨h.bl.trans (g.mono hb), fun k o hk hn ho => by
    have h1 := h.ot k o hk hn ho
    exact (g.block k (Array.getElem?_eq_some_iff.1 h1).1).trans h1⟩
theorem Kp.new {b : Nat} {w w1 : World} (h : Kp b w w1) (p : Addr) (hp : w.heap.size ≤ p.block) (hb : b ≤ p.block) (u : Value) : Kp b w (w1.setCell p u) :=
  ⟨h.bl.setCell hb u, fun k o hk hn ho => by
    have h1 := h.ot k o hk hn ho
    have hlt : k < w.heap.size := (Array.getElem?_eq_some_iff.1 hk).1
    rw [Below.heap_setCell _ _ _ _ (by omega)]
    exact h1⟩
theorem grown_set (w : World) (b i : Nat) (v : Value) : w.grownBy (w.setCell ⟨b, i, none⟩ v) (some b) :=
  ⟨rfl, rfl, rfl, by simp, fun k hk hr => Below.heap_setCell _ _ _ _ (fun e => hr (by rw [e]))⟩
/-- a block of cells as it was made -/
def HB (w : World) (g : Nat) (cs : Array Value) (t : TypeId) : Prop := w.heap[g]? = some (.cells cs t (0, 0))
theorem HB.lt {w : World} {g : Nat} {cs : Array Value} {t : TypeId} (h : HB w g cs t) : g < w.heap.size := (Array.getElem?_eq_some_iff.1 h).1
theorem HB.kp {w w' : World} {g b : Nat} {cs : Array Value} {t : TypeId} (h : HB w g cs t) (hk : Kp b w w') (hg : g ≠ b) (ht : t ≠ 5) : HB w' g cs t :=
  hk.ot g _ h (fun e => hg (Option.some.inj e)) (fun c fz e => by injection e with _ e2; exact ht e2)
theorem HB.below {w w' : World} {g : Nat} {cs : Array Value} {t : TypeId} (h : HB w g cs t) (hb : Below w.heap.size w w') : HB w' g cs t := (hb.block g h.lt).trans h
theorem HB.alloc {w : World} {g : Nat} {cs : Array Value} {t : TypeId} (h : HB w g cs t) (o : Obj) : HB (w.alloc o) g cs t := h.below (below_alloc w o)
theorem HB.fresh (w : World) (cs : Array Value) (t : TypeId) : HB (w.alloc (.cells cs t)) w.heap.size cs t := heap_alloc_new w _
theorem HB.cell {w : World} {g : Nat} {cs : Array Value} {t : TypeId} (h : HB w g cs t) (j : Nat) : w.cell? ⟨g, j, none⟩ = cs[j]? := by
  unfold World.cell?
  rw [h]
  rfl
theorem HB.free {w : World} {g : Nat} {cs : Array Value} {t : TypeId} (h : HB w g cs t) (j : Nat) : w.frozen? ⟨g, j, none⟩ = false := Lib.frozen_of_heap h j
theorem HB.set {w : World} {g : Nat} {cs : Array Value} {t : TypeId} (h : HB w g cs t) (j : Nat) (u : Value) : HB (w.setCell ⟨g, j, none⟩ u) g (cs.setIfInBounds j u) t := by
  unfold HB at h ⊢
  obtain ⟨hlt, hx⟩ := Array.getElem?_eq_some_iff.1 h
  simp [World.setCell, hlt, Array.getElem_modify, hx]
theorem HB.far {w : World} {g : Nat} {cs : Array Value} {t : TypeId} (h : HB w g cs t) (p : Addr) (hp : p.block ≠ g) (u : Value) : HB (w.setCell p u) g cs t := by
  unfold HB at h ⊢
  rw [Below.heap_setCell _ _ _ _ (fun e => hp e.symm)]
  exact h
/-- the writer in memory -/
structure WrAt (w : World) (b mb : Nat) (p : Value) (bs : List UInt8) : Prop where
  ex : ∃ v, HB w b #[.map (some mb), p, v] 53 ∧ w.ownsRow b 5 1 v bs.length (Lib.byteCells bs) ∧ v.ownBlock ≠ some b
def Wr (w : World) (b mb : Nat) (bs : List UInt8) : Prop := WrAt w b mb (.pointer none) bs ∨ WrAt w b mb (.pointer (some ⟨b, 1, none⟩)) bs
theorem Wr.lt {w : World} {b mb : Nat} {bs : List UInt8} (h : Wr w b mb bs) : b < w.heap.size := by rcases h with ⟨_, h, _⟩ | ⟨_, h, _⟩ <;> exact h.lt
theorem WrAt.below {w w' : World} {b mb : Nat} {p : Value} {bs : List UInt8} (h : WrAt w b mb p bs) (hb : Below w.heap.size w w') : WrAt w' b mb p bs := by
  obtain ⟨v, h1, h2, h3⟩ := h
  exact ⟨v, h1.below hb, h2.kept (row := none) ⟨hb.os, hb.tape, hb.output, hb.size, fun k hk _ => hb.block k hk⟩ (by cases v.ownBlock <;> simp), h3⟩
theorem Wr.below {w w' : World} {b mb : Nat} {bs : List UInt8} (h : Wr w b mb bs) (hb : Below w.heap.size w w') : Wr w' b mb bs := h.elim (fun h => .inl (h.below hb)) (fun h => .inr (h.below hb))
theorem lies_at : liesAt Tryz.prog Tryz.prog.depth 53 (3 / Tryz.prog.cellsOf 53) 1 51 1 = true := by kernel_rfl
theorem info_builder : (Tryz.prog.info? 51).map (·.size) = some 2 := by kernel_rfl
theorem info_byte : (Tryz.prog.info? 5).map (fun i => (i.zero, i.size, i.bytes)) = some (some (.int .u8 0), 1, 1) := by kernel_rfl
set_option maxHeartbeats 4000000 in
set_option maxRecDepth 100000 in
theorem ecopy_fresh (b mb : Nat) (bs : List UInt8) (w : World) (h : WrAt w b mb (.pointer none) bs) :
    Calls Tryz.prog 46 #[.pointer (some ⟨b, 1, none⟩)] w fun e w' => e = .returned (.tuple #[]) ∧ w' = w.setCell ⟨b, 1, none⟩ (.pointer (some ⟨b, 1, none⟩)) := by
  obtain ⟨v, h1, h2, h3⟩ := h
  obtain ⟨j, hj, hjs⟩ := Option.map_eq_some_iff.1 info_builder
  have c1 : w.cell? ⟨b, 1, none⟩ = some (.pointer none) := h1.cell 1
  have f1 : w.frozen? ⟨b, 1, none⟩ = false := h1.free 1
  have hsh : w.shape? b = some (53, 3) := by
    have : w.heap[b]? = some (.cells #[.map (some mb), .pointer none, v] 53 (0, 0)) := h1
    simp [World.shape?, this]
  clear h1 h2 h3
  go_enter Tryz.func46, Tryz.ntmps46
  go_wp2
  rw [Lib.run_to_unsafe w ⟨b, 1, none⟩ Tryz.underlying48 Tryz.underlying117 hj (by rw [hjs]; decide) hsh (by show 1 < 3; decide)]
  simp only [Result.andThen]
  rw [Oper.upon_value]
  go_wp2
  rw [run_callFunc_extern Tryz.func67 (by kernel_rfl) (by kernel_rfl) (by kernel_rfl) (e := Extern.AbiNoEscape.same) (by kernel_rfl)]
  rw [Lib.run_noEscape]
  simp only [Result.andThen]
  rw [Oper.upon_value]
  go_wp2
  rw [Lib.run_from_unsafe w ⟨b, 1, none⟩ Tryz.underlying117 Tryz.underlying48 hj hsh lies_at]
  simp only [Result.andThen]
  rw [Oper.upon_value]
  go_wp2
  go_end0
  exact ⟨rfl, rfl⟩
set_option maxHeartbeats 4000000 in
set_option maxRecDepth 100000 in
theorem ecopy_used (b mb : Nat) (bs : List UInt8) (w : World) (h : WrAt w b mb (.pointer (some ⟨b, 1, none⟩)) bs) :
    Calls Tryz.prog 46 #[.pointer (some ⟨b, 1, none⟩)] w fun e w' => e = .returned (.tuple #[]) ∧ w' = w := by
  obtain ⟨v, h1, h2, h3⟩ := h
  obtain ⟨j, hj, hjs⟩ := Option.map_eq_some_iff.1 info_builder
  have c1 : w.cell? ⟨b, 1, none⟩ = some (.pointer (some ⟨b, 1, none⟩)) := h1.cell 1
  have hneq := Lib.run_neq_ptr_same w (P := Tryz.prog) ⟨b, 1, none⟩ Tryz.underlying48 hj
  clear h1 h2 h3
  go_enter Tryz.func46, Tryz.ntmps46
  go_wp2
  go_end0
  exact ⟨rfl, rfl⟩
theorem ecopy_any (b mb : Nat) (bs : List UInt8) (w : World) (h : Wr w b mb bs) :
    Calls Tryz.prog 46 #[.pointer (some ⟨b, 1, none⟩)] w fun e w' => e = .returned (.tuple #[]) ∧ WrAt w' b mb (.pointer (some ⟨b, 1, none⟩)) bs ∧ Kp b w w' ∧ w'.heap.size = w.heap.size := by
  rcases h with h | h
  · refine (ecopy_fresh b mb bs w h).mono ?_
    rintro e w' ⟨rfl, rfl⟩
    obtain ⟨v, h1, h2, h3⟩ := h
    refine ⟨rfl, ⟨v, h1.set 1 _, ?_, h3⟩, ⟨(Below.refl b w).setCell (Nat.le_refl _) _, (Lib.OthersKept.refl _ _ w).setCell ⟨b, 1, none⟩ rfl _⟩, World.size_setCell _ _ _⟩
    exact h2.kept (grown_set w b 1 _) (.inr h3)
  · refine (ecopy_used b mb bs w h).mono ?_
    rintro e w' ⟨rfl, rfl⟩
    exact ⟨rfl, h, Kp.refl _ _, rfl⟩
set_option maxHeartbeats 4000000 in
set_option maxRecDepth 100000 in
theorem ewrite_any (b mb : Nat) (bs : List UInt8) (s : ByteArray) (w : World) (h : Wr w b mb bs) (hl : bs.length + s.size ≤ 1000000) :
    Calls Tryz.prog 28 #[.pointer (some ⟨b, 1, none⟩), .string s] w fun e w' => e = .returned (.tuple #[.int .i64 s.size, .nilIface]) ∧ Wr w' b mb (bs ++ s.data.toList) ∧ Kp b w w' := by
  obtain ⟨i0, hi, hz0, hz1, hz2⟩ := info_parts info_byte
  have HC := Lib.hid (ecopy_any b mb bs w h)
  have hbl := h.lt
  clear h
  go_enter Tryz.func28, Tryz.ntmps28
  go_wp2_with fail
  refine HC.out.mono ?_
  rintro e w1 ⟨rfl, ⟨v, h1, h2, h3⟩, hk1, hs1⟩
  have c1 : w1.cell? ⟨b, 1, none⟩ = some (.pointer (some ⟨b, 1, none⟩)) := h1.cell 1
  have c2 : w1.cell? ⟨b, 2, none⟩ = some v := h1.cell 2
  go_wp2_with (at_builtin; refine Lib.wpList_append_own_string _ rfl _ _ 49 9 rfl b 5 i0 Tryz.underlying49 Tryz.underlying9 hi hz0 hz1 hz2 _ _ _ rfl h2 s rfl ?c3 ?c4 ?c5 ?_)
  case c3 => unfold maxLen; omega
  case c4 => omega
  case c5 => omega
  intro v' w2 hown' hgrow _
  have h4 : HB w2 b #[.map (some mb), .pointer (some ⟨b, 1, none⟩), v] 53 := (hgrow.block b h1.lt (fun e => h3 e.symm)).trans h1
  have d2 : w2.cell? ⟨b, 2, none⟩ = some v := h4.cell 2
  have f2 : w2.frozen? ⟨b, 2, none⟩ = false := h4.free 2
  obtain ⟨ao, n', cap, rfl⟩ : ∃ ao n' cap, v' = .slice ao n' cap := by
    rcases hown'.2 with ⟨hv, _⟩ | ⟨g, cap, cur, hv, _⟩
    · exact ⟨_, _, _, hv⟩
    · exact ⟨_, _, _, hv⟩
  have hne' : (Value.slice ao n' cap).ownBlock ≠ some b := by
    intro e
    obtain ⟨c, fz, hc⟩ := Lib.ownsRow_kind hown' b e
    have h4' : w2.heap[b]? = some (.cells #[.map (some mb), .pointer (some ⟨b, 1, none⟩), v] 53 (0, 0)) := h4
    rw [h4'] at hc
    injection hc with hc
    injection hc with _ hc2
    exact absurd hc2 (by decide)
  go_wp2
  go_ret2
  refine ⟨rfl, .inr ⟨_, h4.set 2 _, ?_, hne'⟩, hk1.trans ⟨((Below.refl b w1).grown hgrow (by omega) (fun k hk => (h2.lt k hk).1)).setCell (p := ⟨b, 2, none⟩) (Nat.le_refl _) _, ((Lib.OthersKept.refl _ _ w1).grown hgrow (Lib.ownsRow_kind h2)).setCell ⟨b, 2, none⟩ rfl _⟩⟩
  have := hown'.kept (grown_set w2 b 2 (.slice ao n' cap)) (.inr hne')
  rw [List.length_append, Array.length_toList]
  rw [show Lib.byteCells (bs ++ s.data.toList) = Lib.byteCells bs ++ Lib.strCells s by rw [Lib.strCells_eq]; unfold Lib.byteCells; rw [List.map_append]]
  exact this
theorem cells_byte : Tryz.prog.cellsOf 5 = 1 := by kernel_rfl
set_option maxHeartbeats 4000000 in
set_option maxRecDepth 100000 in
theorem estring_any (b mb : Nat) (l : List UInt8) (w : World) (h : Wr w b mb l) (h0 : l ≠ []) :
    Calls Tryz.prog 21 #[.pointer (some ⟨b, 1, none⟩)] w fun e w' => e = .returned (.string ⟨l.toArray⟩) ∧ Below b w w' := by
  obtain ⟨p, v, hbk, hown, hne⟩ : ∃ p, WrAt w b mb p l := by
    rcases h with h | h
    · exact ⟨_, h⟩
    · exact ⟨_, h⟩
  have hl0 : l.length ≠ 0 := by simpa using h0
  obtain ⟨g, cap, cur, rfl, hbg, hg, hnc, hcm, hcs, htake⟩ : ∃ g cap cur, v = .slice (some ⟨g, 0, none⟩) l.length cap ∧ b ≤ g ∧ w.heap[g]? = some (.cells cur 5 (0, 0)) ∧ l.length ≤ cap ∧ cap ≤ maxLen ∧ cur.size = cap * 1 ∧ cur.toList.take (l.length * 1) = Lib.byteCells l := by
    rcases hown.2 with ⟨_, hz⟩ | ⟨g, cap, cur, hv, r⟩
    · exact absurd hz hl0
    · exact ⟨g, cap, cur, hv, r⟩
  have c1 : w.drew.cell? ⟨b, 2, none⟩ = some (.slice (some ⟨g, 0, none⟩) l.length cap) := hbk.cell 2
  have hSD : (Builtin.unsafeSliceData_ #[49] 87 #[.slice (some ⟨g, 0, none⟩) l.length cap]).run Tryz.prog w.drew = .ok (.pointer (some ⟨g, 0, none⟩)) w.drew :=
    Lib.run_unsafeSliceData_row _ _ _ _ _ _ (by omega)
  have hUS : (Builtin.unsafeString_ #[87, 3] 9 #[.pointer (some ⟨g, 0, none⟩), .int .i64 l.length]).run Tryz.prog w.drew = .ok (.string ⟨l.toArray⟩) (w.drew.freeze ⟨g, 0, none⟩ l.length) := by
    refine Lib.run_unsafeString_row w.drew 87 3 9 5 Tryz.underlying87 cells_byte g cur.size (by have hg' : w.drew.heap[g]? = some (.cells cur 5 (0, 0)) := hg; simp [World.shape?, hg']) l h0 (by omega) (by unfold maxLen at hcm; omega) ?_
    intro j x hx
    have := hown.cells (g := g) rfl j (.int .u8 x.toNat) (by simp [Lib.byteCells, hx])
    exact this
  have HF := Lib.hid (show Below b w (w.drew.freeze ⟨g, 0, none⟩ l.length) from Lib.below_freeze (Below.drew (Below.refl b w)) (p := ⟨g, 0, none⟩) hbg _)
  have mixed : Tryz.prog.follows .mixedOrders = true := by kernel_rfl
  clear hbk hown hne htake hcs hcm hg h
  go_enter Tryz.func21, Tryz.ntmps21
  go_wp2
  go_region_o
  all_goals (go_wp2; go_ret; exact ⟨rfl, HF.out⟩)
end Go.Proofs.YtpohpgahnompbaaGreatDoor.Code

/-
  A map from texts to rules: what one holds, an entry of a literal, a look-up.
-/
namespace Go.Proofs.YtpohpgahnompbaaGreatDoor.Code
open Go.ChangeShapes Go.WideShapes Go.ChangeAt Go.RowKit Val Elems Go.ChangeMaps Go.MapKept
open Go.WideElems (Fit rd rg pl rd_key rd_val rg_of)
open Go.Maps (Keyed)
set_option linter.unusedVariables false
set_option linter.unusedSimpArgs false
set_option maxRecDepth 100000
def hR (v : Value) : Option (DataW Value × List MemPlace) := some (.held v, [])
def mk (k : ByteArray) : Lit := .string k.data.toList
theorem mk_inj {a b : ByteArray} (h : mk a = mk b) : a = b := by
  unfold mk at h
  injection h with h
  rw [← Lib.mk_data a, h, Lib.mk_data]
theorem mk_law : Keyed Tryz.prog 9 := Maps.string_keyed Tryz.underlying9
theorem mk_zero (w : World) : (zeroValue 74).run Tryz.prog w = .ok (.agg #[.int .i64 0, .slice none 0 0, .bool false]) w := by kernel_rfl
theorem mk_is {k : ByteArray} (h : k.size ≤ maxLen) : keyOf Tryz.prog 9 (.string k) = some (mk k) := Go.WideMaps.keyOf_string_mk Tryz.underlying9 h
/-- what a map holds -/
def MSees (D : DataW Value) (f : ByteArray → Option Value) : Prop := ∀ k : ByteArray, k.size ≤ maxLen → Maps.has D (mk k) = (f k).isSome ∧ ∀ s, f k = some s → ∀ z, D.atKey (mk k) z = .held s
def MapR (w : World) (b n : Nat) (f : ByteArray → Option Value) : Prop := ∃ D, w.ownsMap Tryz.prog 9 hR b n D ∧ MSees D f
def mput (f : ByteArray → Option Value) (k : ByteArray) (s : Value) : ByteArray → Option Value := fun x => if x = k then some s else f x
theorem mput_same (f : ByteArray → Option Value) (k : ByteArray) (s : Value) : mput f k s k = some s := by simp [mput]
theorem mput_other (f : ByteArray → Option Value) {k x : ByteArray} (s : Value) (h : x ≠ k) : mput f k s x = f x := by simp [mput, h]
theorem MapR.lt {w : World} {b n : Nat} {f : ByteArray → Option Value} (h : MapR w b n f) : b < w.heap.size := by obtain ⟨D, h1, _⟩ := h; exact h1.lt
theorem MapR.heap {w w' : World} {b n : Nat} {f : ByteArray → Option Value} (h : MapR w b n f) (e : w'.heap[b]? = w.heap[b]?) : MapR w' b n f := by
  obtain ⟨D, ⟨es, clock, hb, r⟩, h2⟩ := h
  exact ⟨D, ⟨es, clock, e.trans hb, r⟩, h2⟩
theorem MapR.below {w w' : World} {b n : Nat} {f : ByteArray → Option Value} (h : MapR w b n f) (hb : Below w.heap.size w w') : MapR w' b n f := h.heap (hb.block _ h.lt)
theorem MapR.alloc {w : World} {b n : Nat} {f : ByteArray → Option Value} (h : MapR w b n f) (o : Obj) : MapR (w.alloc o) b n f := h.below (below_alloc w o)
theorem mapR_made (w : World) : MapR (w.alloc (.map #[] 0)) w.heap.size 0 fun _ => none :=
  ⟨_, World.ownsMap_made w Tryz.prog 9 hR, fun k _ => ⟨rfl, fun s h => by cases h⟩⟩
theorem msees_put {D : DataW Value} {f : ByteArray → Option Value} (hD : Maps.IsMap D) (h : MSees D f) (k : ByteArray) (s : Value) : MSees (D.put (mk k) (.held s)) (mput f k s) := by
  intro x hx
  by_cases e : x = k
  · subst e
    rw [mput_same]
    refine ⟨Maps.has_put_same hD (by simp [mk, WideAt.IsKeyLit]) _, fun s2 h2 z => ?_⟩
    cases h2
    exact Maps.atKey_put_same hD (by simp [mk, WideAt.IsKeyLit]) _ _
  · have hne : mk x ≠ mk k := fun h => e (mk_inj h)
    rw [mput_other f _ e, Maps.has_put_other hne]
    exact ⟨(h x hx).1, fun s2 h2 z => by rw [Maps.atKey_put_other hne]; exact (h x hx).2 s2 h2 z⟩
section
variable (w : World) {ops : Array Oper} {rest : List Oper} {o : Oper} {a : Act} {Q : Exit → Act → World → Prop}
/-- an entry of a literal -/
theorem wpList_ins (hg : o.guard = none) (m x v : Operand) (hop : o.op = Op.insert 46 m x v) (b n : Nat) (f : ByteArray → Option Value) (hm : a.eval m = .map (some b)) (h : MapR w b n f) (hn : n < maxLen) (k : ByteArray) (hx : a.eval x = .string k) (hk : k.size ≤ maxLen)
    (s : Value) (hv : a.eval v = s) (hK : ∀ w', MapR w' b (n + 1) (mput f k s) → w.grownBy w' (some b) → w'.heap.size = w.heap.size → wpList Tryz.prog ops Q rest (a.put o.dst undef) w') : wpList Tryz.prog ops Q (o :: rest) a w := by
  refine wpList_plain hg fun K' hK' => ?_
  obtain ⟨D, h1, h2⟩ := h
  obtain ⟨w', hrun, r1, r2⟩ := h1.store mk_law Tryz.underlying46 hn (mk_is hk) (show hR s = some (.held s, []) from rfl)
  have hsz : w'.heap.size = w.heap.size := by
    obtain ⟨es, clock, es', clock', hb, rfl⟩ := r2
    simp [setBlock]
  unfold Oper.wp
  simp [execOp, hop, hm, hx, hv, hrun, Result.andThen]
  exact hK' _ _ (hK w' ⟨_, r1, msees_put h1.isMap h2 k s⟩ r2.grown hsz)
end
/-- a look-up -/
theorem run_look (w : World) (b n : Nat) (f : ByteArray → Option Value) (h : MapR w b n f) (k : ByteArray) (hk : k.size ≤ maxLen) (s : Value) (hs : f k = some s) :
    (Instr.lookup 46 (.map (some b)) (.string k) true).run Tryz.prog w = .ok (.tuple #[s, .bool true]) w := by
  obtain ⟨D, h1, h2⟩ := h
  obtain ⟨v, ps, hrun, hv⟩ := h1.look_ok mk_law Tryz.underlying46 (mk_zero w) (show hR (.agg #[.int .i64 0, .slice none 0 0, .bool false]) = some (.held (.agg #[.int .i64 0, .slice none 0 0, .bool false]), []) from rfl) (mk_is hk)
  have h3 := h2 k hk
  rw [hs] at h3
  rw [h3.2 s rfl] at hv
  unfold hR at hv
  simp only [Option.some.injEq, Prod.mk.injEq, DataW.held.injEq] at hv
  rw [hrun, h3.1, hv.1]
  rfl
end Go.Proofs.YtpohpgahnompbaaGreatDoor.Code
