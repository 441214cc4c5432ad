/-
  Contracts of the program's writer's node at the nodes of the live question.
-/
import Derived.Test.YtpohpgahnompbaaGreatDoorM32
import Derived.Deep.RegionHeld3
namespace Go.Proofs.YtpohpgahnompbaaGreatDoor.Code
open Go.ChangeShapes Go.WideShapes Go.ChangeAt Go.RowKit Val Elems
set_option linter.unusedVariables false
set_option linter.unusedSimpArgs false
/-- what a node with one Kid is read by -/
theorem NSt.loads1 {b mb : Nat} {m : Int} {w0 w : World} {S : Nat → Prop} {o : List UInt8} {x : Tr} {op0 op tx : ByteArray} {X : Option Addr} {n k : Nat} {lv l0 : Int} {tb : Bool} {Y : Option Addr} {d g0 g6 : Nat} {bs : List UInt8}
    (h : NSt b mb m w0 S (.one o x) op0 op tx X n k lv [l0] tb Y d g0 g6 bs w) (hS : ∀ g, S g → g < b) (h0 : b < g0) (h6 : b < g6) : ∃ (g gl : Nat) (op1 tx1 : ByteArray) (X1 : Option Addr) (n1 k1 : Nat), X = some ⟨g, 0, none⟩ ∧ n = 1 ∧ Y = some ⟨gl, 0, none⟩ ∧
    ∀ w', Kp b w w' → (w'.cell? ⟨g0, 2, none⟩ = some (.slice (some ⟨g, 0, none⟩) 1 k) ∧ w'.cell? ⟨g, 0, none⟩ = some (.string op1) ∧ w'.cell? ⟨g, 1, none⟩ = some (.string tx1) ∧ w'.cell? ⟨g, 2, none⟩ = some (.slice X1 n1 k1) ∧ w'.cell? ⟨g6, 1, none⟩ = some (.slice (some ⟨gl, 0, none⟩) 1 d) ∧ w'.cell? ⟨gl, 0, none⟩ = some (.int .i64 l0)) ∧ NIn w' S x (.string op1) (.string tx1) (.slice X1 n1 k1) ∧ Kp b w w' := by
  obtain ⟨_, _, g, cap, x0, x1, x2, h3, h4, c0, c1, c2, hx⟩ := h.nin
  injection h3 with e1 e2 e3
  obtain ⟨X1, n1, k1, rfl⟩ := hx.form'
  obtain ⟨rfl, rfl⟩ := hx.texts
  rcases h.lvl with hl | ⟨gl, hY, hgl, hb⟩
  · cases hl
  · subst e1 e2 e3 hY
    refine ⟨g, gl, _, _, X1, n1, k1, rfl, rfl, rfl, fun w' hk => ⟨⟨(h.box.kp hk (by omega) (by decide)).cell 2, ?_, ?_, ?_, (h.rv.kp hk (by omega) (by decide)).cell 1, ?_⟩, hx.kp hS hk.bl, hk⟩⟩
    · exact (hk.bl.cell (p := ⟨g, 0, none⟩) (hS g h4)).trans c0
    · exact (hk.bl.cell (p := ⟨g, 1, none⟩) (hS g h4)).trans c1
    · exact (hk.bl.cell (p := ⟨g, 2, none⟩) (hS g h4)).trans c2
    · exact (hk.bl.cell (p := ⟨gl, 0, none⟩) hgl).trans (hb.cell 0)
/-- and one with two, either -/
theorem NSt.loads2 {b mb : Nat} {m : Int} {w0 w : World} {S : Nat → Prop} {o : List UInt8} {x y : Tr} {op0 op tx : ByteArray} {X : Option Addr} {n k : Nat} {lv l0 l1 : Int} {tb : Bool} {Y : Option Addr} {d g0 g6 : Nat} {bs : List UInt8}
    (h : NSt b mb m w0 S (.two o x y) op0 op tx X n k lv [l0, l1] tb Y d g0 g6 bs w) (hS : ∀ g, S g → g < b) (h0 : b < g0) (h6 : b < g6) : ∃ (g gl : Nat) (op1 tx1 : ByteArray) (X1 : Option Addr) (n1 k1 : Nat) (op2 tx2 : ByteArray) (X2 : Option Addr) (n2 k2 : Nat), X = some ⟨g, 0, none⟩ ∧ n = 2 ∧ Y = some ⟨gl, 0, none⟩ ∧
    ∀ w', Kp b w w' → (w'.cell? ⟨g0, 2, none⟩ = some (.slice (some ⟨g, 0, none⟩) 2 k) ∧ w'.cell? ⟨g, 0, none⟩ = some (.string op1) ∧ w'.cell? ⟨g, 1, none⟩ = some (.string tx1) ∧ w'.cell? ⟨g, 2, none⟩ = some (.slice X1 n1 k1) ∧ w'.cell? ⟨g, 3, none⟩ = some (.string op2) ∧ w'.cell? ⟨g, 4, none⟩ = some (.string tx2) ∧ w'.cell? ⟨g, 5, none⟩ = some (.slice X2 n2 k2) ∧
      w'.cell? ⟨g6, 1, none⟩ = some (.slice (some ⟨gl, 0, none⟩) 2 d) ∧ w'.cell? ⟨gl, 0, none⟩ = some (.int .i64 l0) ∧ w'.cell? ⟨gl, 1, none⟩ = some (.int .i64 l1) ∧ w'.cell? ⟨g0, 0, none⟩ = some (.string op0)) ∧ NIn w' S x (.string op1) (.string tx1) (.slice X1 n1 k1) ∧ NIn w' S y (.string op2) (.string tx2) (.slice X2 n2 k2) ∧ Kp b w w' := by
  obtain ⟨_, _, g, cap, x0, x1, x2, y0, y1, y2, h3, h4, c0, c1, c2, d0, d1, d2, hx, hy⟩ := h.nin
  injection h3 with e1 e2 e3
  obtain ⟨X1, n1, k1, rfl⟩ := hx.form'
  obtain ⟨rfl, rfl⟩ := hx.texts
  obtain ⟨X2, n2, k2, rfl⟩ := hy.form'
  obtain ⟨rfl, rfl⟩ := hy.texts
  rcases h.lvl with hl | ⟨gl, hY, hgl, hb⟩
  · cases hl
  · subst e1 e2 e3 hY
    refine ⟨g, gl, _, _, X1, n1, k1, _, _, X2, n2, k2, rfl, rfl, rfl, fun w' hk => ⟨⟨(h.box.kp hk (by omega) (by decide)).cell 2, ?_, ?_, ?_, ?_, ?_, ?_, (h.rv.kp hk (by omega) (by decide)).cell 1, ?_, ?_, (h.box.kp hk (by omega) (by decide)).cell 0⟩, hx.kp hS hk.bl, hy.kp hS hk.bl, hk⟩⟩
    · exact (hk.bl.cell (p := ⟨g, 0, none⟩) (hS g h4)).trans c0
    · exact (hk.bl.cell (p := ⟨g, 1, none⟩) (hS g h4)).trans c1
    · exact (hk.bl.cell (p := ⟨g, 2, none⟩) (hS g h4)).trans c2
    · exact (hk.bl.cell (p := ⟨g, 3, none⟩) (hS g h4)).trans d0
    · exact (hk.bl.cell (p := ⟨g, 4, none⟩) (hS g h4)).trans d1
    · exact (hk.bl.cell (p := ⟨g, 5, none⟩) (hS g h4)).trans d2
    · exact (hk.bl.cell (p := ⟨gl, 0, none⟩) hgl).trans (hb.cell 0)
    · exact (hk.bl.cell (p := ⟨gl, 1, none⟩) hgl).trans (hb.cell 1)
set_option maxHeartbeats 16000000 in
set_option maxRecDepth 100000 in
theorem enode_neg {b mb : Nat} {m : Int} (x : Tr) (ho : Okay (.one sNeg x)) (ih : Nd b mb m x) : Nd b mb m (.one sNeg x) := by
  intro S op tx X n k bs w h hS hn hl
  have hbl := h.lt
  have hsh : sh (.one sNeg x) = 45 :: kd 7 x (sh x) := rfl
  rw [hsh] at hl ⊢
  clear hsh
  have hxo : Okay x := ho.2
  have hR := fun (w' : World) (hb : Below w.heap.size w w') => node_rule (h.below hb) ho (hn.kp hS (hb.mono (Nat.le_of_lt hbl))) (6, [7], false) (by simp only [opOf]; decide)
  unfold RulePost at hR
  dsimp only at hR
  obtain rfl : op = ⟨#[110, 101, 103]⟩ := hn.op_eq.1
  obtain rfl : tx = ⟨#[]⟩ := hn.op_eq.2
  obtain ⟨tb, htb⟩ : ∃ q, false = q := ⟨_, rfl⟩
  rw [htb] at hR
  clear htb
  have HR := Lib.hid hR
  have HH := Lib.hid h
  have HN := Lib.hid hn
  have HS := Lib.hid hS
  clear hR h hn hS
  have hW := fun (bs' : List UInt8) (s : ByteArray) (w' : World) (h' : Wr w' b mb bs') (hl' : bs'.length + s.size ≤ 1000000) => ewrite_any b mb bs' s w' h' hl'
  have HW := Lib.hid hW
  clear hW
  go_enter Tryz.func20, Tryz.ntmps20
  obtain ⟨w0, hw0⟩ : ∃ w0, w.alloc (.cells #[.string ⟨#[110, 101, 103]⟩, .string ⟨#[]⟩, .slice X n k] 25) = w0 := ⟨_, rfl⟩
  have B0 := Lib.hid (show Below w.heap.size w w0 by rw [← hw0]; exact below_alloc w _)
  have X0 := Lib.hid (show HB w0 w.heap.size #[.string ⟨#[110, 101, 103]⟩, .string ⟨#[]⟩, .slice X n k] 25 by rw [← hw0]; exact HB.fresh w _ _)
  have x0 : w0.cell? ⟨w.heap.size, 0, none⟩ = some (.string ⟨#[110, 101, 103]⟩) := X0.out.cell 0
  have x1 : w0.cell? ⟨w.heap.size, 1, none⟩ = some (.string ⟨#[]⟩) := X0.out.cell 1
  have x2 : w0.cell? ⟨w.heap.size, 2, none⟩ = some (.slice X n k) := X0.out.cell 2
  go_wp2_with fail
  try rw [hw0]
  refine (HR.out _ B0.out).mono ?_
  rintro e w1 ⟨Y, d, rfl, hY, hb1⟩
  have hz0 : w.heap.size < w0.heap.size := by rw [← hw0]; simp
  have z1 := hb1.size
  have hbz : b < w1.heap.size := by omega
  obtain ⟨W1, hW1⟩ : ∃ W1, w1.alloc (.cells #[.int .i64 6, .slice Y n d, .bool tb] 74) = W1 := ⟨_, rfl⟩
  have B1 := Lib.hid (show Below w.heap.size w W1 by rw [← hW1]; exact (bnext B0.out B0.out.size hb1).alloc (by omega) _)
  have T1 := Lib.hid (show NSt b mb m w S (.one sNeg x) ⟨#[110, 101, 103]⟩ ⟨#[110, 101, 103]⟩ ⟨#[]⟩ X n k 6 [7] tb Y d w.heap.size w1.heap.size bs W1 from
    ⟨HH.out.below B1.out, by rw [← hW1]; exact (X0.out.below hb1).alloc _, by rw [← hW1]; exact HB.fresh w1 _ _, by rw [← hW1]; exact hY.below ((bnext (Below.refl _ _) (Nat.le_refl _) hb1).mono (by omega) |>.trans ((below_alloc w1 _).mono (by omega))), HN.out.kp HS.out (B1.out.mono (by omega)), (Kp.refl b w).next (by omega) B1.out⟩)
  have q0 : W1.cell? ⟨w.heap.size, 0, none⟩ = some (.string ⟨#[110, 101, 103]⟩) := T1.out.box.cell 0
  have q1 : W1.cell? ⟨w.heap.size, 1, none⟩ = some (.string ⟨#[]⟩) := T1.out.box.cell 1
  have q2 : W1.cell? ⟨w.heap.size, 2, none⟩ = some (.slice X n k) := T1.out.box.cell 2
  have f0 : W1.frozen? ⟨w.heap.size, 0, none⟩ = false := T1.out.box.free 0
  have f1 : W1.frozen? ⟨w.heap.size, 1, none⟩ = false := T1.out.box.free 1
  have q3 : W1.cell? ⟨w1.heap.size, 0, none⟩ = some (.int .i64 6) := T1.out.rv.cell 0
  have q4 : W1.cell? ⟨w1.heap.size, 1, none⟩ = some (.slice Y n d) := T1.out.rv.cell 1
  have q5 : W1.cell? ⟨w1.heap.size, 2, none⟩ = some (.bool tb) := T1.out.rv.cell 2
  have f3 : W1.frozen? ⟨w1.heap.size, 0, none⟩ = false := T1.out.rv.free 0
  have f4 : W1.frozen? ⟨w1.heap.size, 1, none⟩ = false := T1.out.rv.free 1
  have f5 : W1.frozen? ⟨w1.heap.size, 2, none⟩ = false := T1.out.rv.free 2
  clear hY hb1 x0 x1 x2 X0 B0 B1 HR
  obtain ⟨s, hs⟩ : ∃ s, kd 7 x (sh x) = s := ⟨_, rfl⟩
  have HKS := Lib.hid hs
  rw [hs] at hl ⊢
  clear hs
  go_wp2_with fail
  try rw [hW1]
  refine (HW.out _ ⟨#[45]⟩ _ T1.out.has.wr (by show bs.length + 1 ≤ 1000000; simp at hl; omega)).mono ?_
  rintro e w2 ⟨rfl, hw2, hk2⟩
  have T2 := Lib.hid (T1.out.next HS.out (by omega) (by omega) hw2 hk2)
  clear hw2 hk2 q0 q1 q2 q3 q4 q5 f0 f1 f3 f4 f5
  obtain ⟨g, gl, op1, tx1, X1, n1, k1, rfl, rfl, rfl, hK⟩ := T2.out.loads1 HS.out (by omega) (by omega)
  have K0 := Lib.hid hK
  clear hK
  have HKID := Lib.hid (fun (w' : World) (hb : Below w2.heap.size w2 w') => show Calls Tryz.prog 30 #[.pointer (some ⟨b, 0, none⟩), .agg #[.string op1, .string tx1, .slice X1 n1 k1], .int .i64 7] w' (fun e w'' => e = .returned (.tuple #[]) ∧ Wr w'' b mb ((bs ++ [45]) ++ s) ∧ Kp b w' w'') by
    have h := ekid_any x hxo ih 7 S op1 tx1 X1 n1 k1 (bs ++ [45]) w' (T2.out.has.below hb) HS.out (K0.out _ ((Kp.refl b w2).next (Nat.le_of_lt T2.out.has.lt) hb)).2.1 (by rw [HKS.out]; simp at hl ⊢; omega)
    rw [HKS.out] at h
    exact h)
  go_wp2_with fail
  try rw [hW1]
  go_region_held3 (fun w' => (w'.cell? ⟨w.heap.size, 2, none⟩ = some (.slice (some ⟨g, 0, none⟩) 1 k) ∧ w'.cell? ⟨g, 0, none⟩ = some (.string op1) ∧ w'.cell? ⟨g, 1, none⟩ = some (.string tx1) ∧ w'.cell? ⟨g, 2, none⟩ = some (.slice X1 n1 k1) ∧ w'.cell? ⟨w1.heap.size, 1, none⟩ = some (.slice (some ⟨gl, 0, none⟩) 1 d) ∧ w'.cell? ⟨gl, 0, none⟩ = some (.int .i64 7)) ∧ Kp b w2 w')
    (first | assumption | (exact ⟨(K0.out _ ((Kp.refl b w2).drew.trans hk5)).1, (Kp.refl b w2).drew.trans hk5⟩) | (exact ⟨(K0.out _ (Kp.refl b w2).drew).1, (Kp.refl b w2).drew⟩))
    (first | (go_at_call 30; with_reducible refine (HKID.out _ ?cv).mono ?_; (case cv => exact Below.drew (Below.refl _ _)); rintro e w5 ⟨rfl, hw5, hk5⟩))
  have T5 := Lib.hid (T2.out.next HS.out (by omega) (by omega) hw5 ((Kp.refl b w2).drew.trans hk5))
  clear hw5 hk5
  go_wp2
  go_end0
  exact ⟨rfl, by rw [HKS.out]; have h := T5.out.has.wr; simpa using h, T5.out.kp⟩
set_option maxHeartbeats 16000000 in
set_option maxRecDepth 100000 in
theorem enode_not {b mb : Nat} {m : Int} (x : Tr) (ho : Okay (.one sNot x)) (ih : Nd b mb m x) : Nd b mb m (.one sNot x) := by
  intro S op tx X n k bs w h hS hn hl
  have hbl := h.lt
  have hsh : sh (.one sNot x) = [110, 111, 116, 32] ++ kd 2 x (sh x) := rfl
  rw [hsh] at hl ⊢
  clear hsh
  have hxo : Okay x := ho.2
  have hR := fun (w' : World) (hb : Below w.heap.size w w') => node_rule (h.below hb) ho (hn.kp hS (hb.mono (Nat.le_of_lt hbl))) (2, [2], false) (by simp only [opOf]; decide)
  unfold RulePost at hR
  dsimp only at hR
  obtain rfl : op = ⟨#[110, 111, 116]⟩ := hn.op_eq.1
  obtain rfl : tx = ⟨#[]⟩ := hn.op_eq.2
  obtain ⟨tb, htb⟩ : ∃ q, false = q := ⟨_, rfl⟩
  rw [htb] at hR
  clear htb
  have HR := Lib.hid hR
  have HH := Lib.hid h
  have HN := Lib.hid hn
  have HS := Lib.hid hS
  clear hR h hn hS
  have hW := fun (bs' : List UInt8) (s : ByteArray) (w' : World) (h' : Wr w' b mb bs') (hl' : bs'.length + s.size ≤ 1000000) => ewrite_any b mb bs' s w' h' hl'
  have HW := Lib.hid hW
  clear hW
  go_enter Tryz.func20, Tryz.ntmps20
  obtain ⟨w0, hw0⟩ : ∃ w0, w.alloc (.cells #[.string ⟨#[110, 111, 116]⟩, .string ⟨#[]⟩, .slice X n k] 25) = w0 := ⟨_, rfl⟩
  have B0 := Lib.hid (show Below w.heap.size w w0 by rw [← hw0]; exact below_alloc w _)
  have X0 := Lib.hid (show HB w0 w.heap.size #[.string ⟨#[110, 111, 116]⟩, .string ⟨#[]⟩, .slice X n k] 25 by rw [← hw0]; exact HB.fresh w _ _)
  have x0 : w0.cell? ⟨w.heap.size, 0, none⟩ = some (.string ⟨#[110, 111, 116]⟩) := X0.out.cell 0
  have x1 : w0.cell? ⟨w.heap.size, 1, none⟩ = some (.string ⟨#[]⟩) := X0.out.cell 1
  have x2 : w0.cell? ⟨w.heap.size, 2, none⟩ = some (.slice X n k) := X0.out.cell 2
  go_wp2_with fail
  try rw [hw0]
  refine (HR.out _ B0.out).mono ?_
  rintro e w1 ⟨Y, d, rfl, hY, hb1⟩
  have hz0 : w.heap.size < w0.heap.size := by rw [← hw0]; simp
  have z1 := hb1.size
  have hbz : b < w1.heap.size := by omega
  obtain ⟨W1, hW1⟩ : ∃ W1, w1.alloc (.cells #[.int .i64 2, .slice Y n d, .bool tb] 74) = W1 := ⟨_, rfl⟩
  have B1 := Lib.hid (show Below w.heap.size w W1 by rw [← hW1]; exact (bnext B0.out B0.out.size hb1).alloc (by omega) _)
  have T1 := Lib.hid (show NSt b mb m w S (.one sNot x) ⟨#[110, 111, 116]⟩ ⟨#[110, 111, 116]⟩ ⟨#[]⟩ X n k 2 [2] tb Y d w.heap.size w1.heap.size bs W1 from
    ⟨HH.out.below B1.out, by rw [← hW1]; exact (X0.out.below hb1).alloc _, by rw [← hW1]; exact HB.fresh w1 _ _, by rw [← hW1]; exact hY.below ((bnext (Below.refl _ _) (Nat.le_refl _) hb1).mono (by omega) |>.trans ((below_alloc w1 _).mono (by omega))), HN.out.kp HS.out (B1.out.mono (by omega)), (Kp.refl b w).next (by omega) B1.out⟩)
  have q0 : W1.cell? ⟨w.heap.size, 0, none⟩ = some (.string ⟨#[110, 111, 116]⟩) := T1.out.box.cell 0
  have q1 : W1.cell? ⟨w.heap.size, 1, none⟩ = some (.string ⟨#[]⟩) := T1.out.box.cell 1
  have q2 : W1.cell? ⟨w.heap.size, 2, none⟩ = some (.slice X n k) := T1.out.box.cell 2
  have f0 : W1.frozen? ⟨w.heap.size, 0, none⟩ = false := T1.out.box.free 0
  have f1 : W1.frozen? ⟨w.heap.size, 1, none⟩ = false := T1.out.box.free 1
  have q3 : W1.cell? ⟨w1.heap.size, 0, none⟩ = some (.int .i64 2) := T1.out.rv.cell 0
  have q4 : W1.cell? ⟨w1.heap.size, 1, none⟩ = some (.slice Y n d) := T1.out.rv.cell 1
  have q5 : W1.cell? ⟨w1.heap.size, 2, none⟩ = some (.bool tb) := T1.out.rv.cell 2
  have f3 : W1.frozen? ⟨w1.heap.size, 0, none⟩ = false := T1.out.rv.free 0
  have f4 : W1.frozen? ⟨w1.heap.size, 1, none⟩ = false := T1.out.rv.free 1
  have f5 : W1.frozen? ⟨w1.heap.size, 2, none⟩ = false := T1.out.rv.free 2
  clear hY hb1 x0 x1 x2 X0 B0 B1 HR
  obtain ⟨s, hs⟩ : ∃ s, kd 2 x (sh x) = s := ⟨_, rfl⟩
  have HKS := Lib.hid hs
  rw [hs] at hl ⊢
  clear hs
  go_wp2_with fail
  try rw [hW1]
  refine (HW.out _ ⟨#[110, 111, 116, 32]⟩ _ T1.out.has.wr (by show bs.length + 4 ≤ 1000000; simp at hl; omega)).mono ?_
  rintro e w2 ⟨rfl, hw2, hk2⟩
  have T2 := Lib.hid (T1.out.next HS.out (by omega) (by omega) hw2 hk2)
  clear hw2 hk2 q0 q1 q2 q3 q4 q5 f0 f1 f3 f4 f5
  obtain ⟨g, gl, op1, tx1, X1, n1, k1, rfl, rfl, rfl, hK⟩ := T2.out.loads1 HS.out (by omega) (by omega)
  have K0 := Lib.hid hK
  clear hK
  have HKID := Lib.hid (fun (w' : World) (hb : Below w2.heap.size w2 w') => show Calls Tryz.prog 30 #[.pointer (some ⟨b, 0, none⟩), .agg #[.string op1, .string tx1, .slice X1 n1 k1], .int .i64 2] w' (fun e w'' => e = .returned (.tuple #[]) ∧ Wr w'' b mb ((bs ++ [110, 111, 116, 32]) ++ s) ∧ Kp b w' w'') by
    have h := ekid_any x hxo ih 2 S op1 tx1 X1 n1 k1 (bs ++ [110, 111, 116, 32]) w' (T2.out.has.below hb) HS.out (K0.out _ ((Kp.refl b w2).next (Nat.le_of_lt T2.out.has.lt) hb)).2.1 (by rw [HKS.out]; simp at hl ⊢; omega)
    rw [HKS.out] at h
    exact h)
  go_wp2_with fail
  try rw [hW1]
  go_region_held3 (fun w' => (w'.cell? ⟨w.heap.size, 2, none⟩ = some (.slice (some ⟨g, 0, none⟩) 1 k) ∧ w'.cell? ⟨g, 0, none⟩ = some (.string op1) ∧ w'.cell? ⟨g, 1, none⟩ = some (.string tx1) ∧ w'.cell? ⟨g, 2, none⟩ = some (.slice X1 n1 k1) ∧ w'.cell? ⟨w1.heap.size, 1, none⟩ = some (.slice (some ⟨gl, 0, none⟩) 1 d) ∧ w'.cell? ⟨gl, 0, none⟩ = some (.int .i64 2)) ∧ Kp b w2 w')
    (first | assumption | (exact ⟨(K0.out _ ((Kp.refl b w2).drew.trans hk5)).1, (Kp.refl b w2).drew.trans hk5⟩) | (exact ⟨(K0.out _ (Kp.refl b w2).drew).1, (Kp.refl b w2).drew⟩))
    (first | (go_at_call 30; with_reducible refine (HKID.out _ ?cv).mono ?_; (case cv => exact Below.drew (Below.refl _ _)); rintro e w5 ⟨rfl, hw5, hk5⟩))
  have T5 := Lib.hid (T2.out.next HS.out (by omega) (by omega) hw5 ((Kp.refl b w2).drew.trans hk5))
  clear hw5 hk5
  go_wp2
  go_end0
  exact ⟨rfl, by rw [HKS.out]; have h := T5.out.has.wr; simpa using h, T5.out.kp⟩
set_option maxHeartbeats 16000000 in
set_option maxRecDepth 100000 in
theorem enode_isn {b mb : Nat} {m : Int} (x : Tr) (ho : Okay (.one sIsNull x)) (ih : Nd b mb m x) : Nd b mb m (.one sIsNull x) := by
  intro S op tx X n k bs w h hS hn hl
  have hbl := h.lt
  have hsh : sh (.one sIsNull x) = kd 4 x (sh x) ++ [32, 105, 115, 32, 110, 117, 108, 108] := rfl
  rw [hsh] at hl ⊢
  clear hsh
  have hxo : Okay x := ho.2
  have hR := fun (w' : World) (hb : Below w.heap.size w w') => node_rule (h.below hb) ho (hn.kp hS (hb.mono (Nat.le_of_lt hbl))) (3, [4], false) (by simp only [opOf]; decide)
  unfold RulePost at hR
  dsimp only at hR
  obtain rfl : op = ⟨#[105, 115, 32, 110, 117, 108, 108]⟩ := hn.op_eq.1
  obtain rfl : tx = ⟨#[]⟩ := hn.op_eq.2
  obtain ⟨tb, htb⟩ : ∃ q, false = q := ⟨_, rfl⟩
  rw [htb] at hR
  clear htb
  have HR := Lib.hid hR
  have HH := Lib.hid h
  have HN := Lib.hid hn
  have HS := Lib.hid hS
  clear hR h hn hS
  have hW := fun (bs' : List UInt8) (s : ByteArray) (w' : World) (h' : Wr w' b mb bs') (hl' : bs'.length + s.size ≤ 1000000) => ewrite_any b mb bs' s w' h' hl'
  have HW := Lib.hid hW
  clear hW
  go_enter Tryz.func20, Tryz.ntmps20
  obtain ⟨w0, hw0⟩ : ∃ w0, w.alloc (.cells #[.string ⟨#[105, 115, 32, 110, 117, 108, 108]⟩, .string ⟨#[]⟩, .slice X n k] 25) = w0 := ⟨_, rfl⟩
  have B0 := Lib.hid (show Below w.heap.size w w0 by rw [← hw0]; exact below_alloc w _)
  have X0 := Lib.hid (show HB w0 w.heap.size #[.string ⟨#[105, 115, 32, 110, 117, 108, 108]⟩, .string ⟨#[]⟩, .slice X n k] 25 by rw [← hw0]; exact HB.fresh w _ _)
  have x0 : w0.cell? ⟨w.heap.size, 0, none⟩ = some (.string ⟨#[105, 115, 32, 110, 117, 108, 108]⟩) := X0.out.cell 0
  have x1 : w0.cell? ⟨w.heap.size, 1, none⟩ = some (.string ⟨#[]⟩) := X0.out.cell 1
  have x2 : w0.cell? ⟨w.heap.size, 2, none⟩ = some (.slice X n k) := X0.out.cell 2
  go_wp2_with fail
  try rw [hw0]
  refine (HR.out _ B0.out).mono ?_
  rintro e w1 ⟨Y, d, rfl, hY, hb1⟩
  have hz0 : w.heap.size < w0.heap.size := by rw [← hw0]; simp
  have z1 := hb1.size
  have hbz : b < w1.heap.size := by omega
  obtain ⟨W1, hW1⟩ : ∃ W1, w1.alloc (.cells #[.int .i64 3, .slice Y n d, .bool tb] 74) = W1 := ⟨_, rfl⟩
  have B1 := Lib.hid (show Below w.heap.size w W1 by rw [← hW1]; exact (bnext B0.out B0.out.size hb1).alloc (by omega) _)
  have T1 := Lib.hid (show NSt b mb m w S (.one sIsNull x) ⟨#[105, 115, 32, 110, 117, 108, 108]⟩ ⟨#[105, 115, 32, 110, 117, 108, 108]⟩ ⟨#[]⟩ X n k 3 [4] tb Y d w.heap.size w1.heap.size bs W1 from
    ⟨HH.out.below B1.out, by rw [← hW1]; exact (X0.out.below hb1).alloc _, by rw [← hW1]; exact HB.fresh w1 _ _, by rw [← hW1]; exact hY.below ((bnext (Below.refl _ _) (Nat.le_refl _) hb1).mono (by omega) |>.trans ((below_alloc w1 _).mono (by omega))), HN.out.kp HS.out (B1.out.mono (by omega)), (Kp.refl b w).next (by omega) B1.out⟩)
  have q0 : W1.cell? ⟨w.heap.size, 0, none⟩ = some (.string ⟨#[105, 115, 32, 110, 117, 108, 108]⟩) := T1.out.box.cell 0
  have q1 : W1.cell? ⟨w.heap.size, 1, none⟩ = some (.string ⟨#[]⟩) := T1.out.box.cell 1
  have q2 : W1.cell? ⟨w.heap.size, 2, none⟩ = some (.slice X n k) := T1.out.box.cell 2
  have f0 : W1.frozen? ⟨w.heap.size, 0, none⟩ = false := T1.out.box.free 0
  have f1 : W1.frozen? ⟨w.heap.size, 1, none⟩ = false := T1.out.box.free 1
  have q3 : W1.cell? ⟨w1.heap.size, 0, none⟩ = some (.int .i64 3) := T1.out.rv.cell 0
  have q4 : W1.cell? ⟨w1.heap.size, 1, none⟩ = some (.slice Y n d) := T1.out.rv.cell 1
  have q5 : W1.cell? ⟨w1.heap.size, 2, none⟩ = some (.bool tb) := T1.out.rv.cell 2
  have f3 : W1.frozen? ⟨w1.heap.size, 0, none⟩ = false := T1.out.rv.free 0
  have f4 : W1.frozen? ⟨w1.heap.size, 1, none⟩ = false := T1.out.rv.free 1
  have f5 : W1.frozen? ⟨w1.heap.size, 2, none⟩ = false := T1.out.rv.free 2
  clear hY hb1 x0 x1 x2 X0 B0 B1 HR
  obtain ⟨s, hs⟩ : ∃ s, kd 4 x (sh x) = s := ⟨_, rfl⟩
  have HKS := Lib.hid hs
  rw [hs] at hl ⊢
  clear hs
  clear q1
  obtain ⟨g, gl, op1, tx1, X1, n1, k1, rfl, rfl, rfl, hK⟩ := T1.out.loads1 HS.out (by omega) (by omega)
  have K0 := Lib.hid hK
  clear hK
  have HKID := Lib.hid (fun (w' : World) (hb : Below W1.heap.size W1 w') => show Calls Tryz.prog 30 #[.pointer (some ⟨b, 0, none⟩), .agg #[.string op1, .string tx1, .slice X1 n1 k1], .int .i64 4] w' (fun e w'' => e = .returned (.tuple #[]) ∧ Wr w'' b mb (bs ++ s) ∧ Kp b w' w'') by
    have h := ekid_any x hxo ih 4 S op1 tx1 X1 n1 k1 bs w' (T1.out.has.below hb) HS.out (K0.out _ ((Kp.refl b W1).next (Nat.le_of_lt T1.out.has.lt) hb)).2.1 (by rw [HKS.out]; simp at hl ⊢; omega)
    rw [HKS.out] at h
    exact h)
  go_wp2_with fail
  try rw [hW1]
  go_region_held3 (fun w' => (w'.cell? ⟨w.heap.size, 2, none⟩ = some (.slice (some ⟨g, 0, none⟩) 1 k) ∧ w'.cell? ⟨g, 0, none⟩ = some (.string op1) ∧ w'.cell? ⟨g, 1, none⟩ = some (.string tx1) ∧ w'.cell? ⟨g, 2, none⟩ = some (.slice X1 n1 k1) ∧ w'.cell? ⟨w1.heap.size, 1, none⟩ = some (.slice (some ⟨gl, 0, none⟩) 1 d) ∧ w'.cell? ⟨gl, 0, none⟩ = some (.int .i64 4)) ∧ Kp b W1 w')
    (first | assumption | (exact ⟨(K0.out _ ((Kp.refl b W1).drew.trans hk5)).1, (Kp.refl b W1).drew.trans hk5⟩) | (exact ⟨(K0.out _ (Kp.refl b W1).drew).1, (Kp.refl b W1).drew⟩))
    (first | (go_at_call 30; with_reducible refine (HKID.out _ ?cv).mono ?_; (case cv => exact Below.drew (Below.refl _ _)); rintro e w5 ⟨rfl, hw5, hk5⟩))
  have T5 := Lib.hid (T1.out.next HS.out (by omega) (by omega) hw5 ((Kp.refl b W1).drew.trans hk5))
  clear hw5 hk5
  go_wp2_with fail
  refine (HW.out _ ⟨#[32, 105, 115, 32, 110, 117, 108, 108]⟩ _ T5.out.has.wr (by show (bs ++ s).length + 8 ≤ 1000000; simp at hl ⊢; omega)).mono ?_
  rintro e w6 ⟨rfl, hw6, hk6⟩
  have T6 := Lib.hid (T5.out.next HS.out (by omega) (by omega) hw6 hk6)
  clear hw6 hk6
  go_wp2
  go_end0
  exact ⟨rfl, by rw [HKS.out]; have h := T6.out.has.wr; simpa using h, T6.out.kp⟩
set_option maxHeartbeats 16000000 in
set_option maxRecDepth 100000 in
theorem enode_sAnd {b mb : Nat} {m : Int} (x y : Tr) (ho : Okay (.two sAnd x y)) (ihx : Nd b mb m x) (ihy : Nd b mb m y) : Nd b mb m (.two sAnd x y) := by
  intro S op tx X n k bs w h hS hn hl
  have hbl := h.lt
  have hsh : sh (.two sAnd x y) = kd 1 x (sh x) ++ (32 :: (sAnd ++ [32])) ++ kd 2 y (sh y) := rfl
  rw [hsh, show (32 :: (sAnd ++ [32]) : List UInt8) = [32, 97, 110, 100, 32] from rfl] at hl ⊢
  clear hsh
  have hxo : Okay x := ho.2.1
  have hyo : Okay y := ho.2.2
  have hR := fun (w' : World) (hb : Below w.heap.size w w') => node_rule (h.below hb) ho (hn.kp hS (hb.mono (Nat.le_of_lt hbl))) (1, [1, 2], false) (by simp only [opOf]; decide)
  unfold RulePost at hR
  dsimp only at hR
  obtain rfl : op = ⟨#[97, 110, 100]⟩ := hn.op_eq.1
  obtain rfl : tx = ⟨#[]⟩ := hn.op_eq.2
  obtain ⟨tb, htb⟩ : ∃ q, false = q := ⟨_, rfl⟩
  rw [htb] at hR
  clear htb
  have HR := Lib.hid hR
  have HH := Lib.hid h
  have HN := Lib.hid hn
  have HS := Lib.hid hS
  clear hR h hn hS
  have hW := fun (bs' : List UInt8) (s : ByteArray) (w' : World) (h' : Wr w' b mb bs') (hl' : bs'.length + s.size ≤ 1000000) => ewrite_any b mb bs' s w' h' hl'
  have HW := Lib.hid hW
  clear hW
  go_enter Tryz.func20, Tryz.ntmps20
  obtain ⟨w0, hw0⟩ : ∃ w0, w.alloc (.cells #[.string ⟨#[97, 110, 100]⟩, .string ⟨#[]⟩, .slice X n k] 25) = w0 := ⟨_, rfl⟩
  have B0 := Lib.hid (show Below w.heap.size w w0 by rw [← hw0]; exact below_alloc w _)
  have X0 := Lib.hid (show HB w0 w.heap.size #[.string ⟨#[97, 110, 100]⟩, .string ⟨#[]⟩, .slice X n k] 25 by rw [← hw0]; exact HB.fresh w _ _)
  have x0 : w0.cell? ⟨w.heap.size, 0, none⟩ = some (.string ⟨#[97, 110, 100]⟩) := X0.out.cell 0
  have x1 : w0.cell? ⟨w.heap.size, 1, none⟩ = some (.string ⟨#[]⟩) := X0.out.cell 1
  have x2 : w0.cell? ⟨w.heap.size, 2, none⟩ = some (.slice X n k) := X0.out.cell 2
  go_wp2_with fail
  try rw [hw0]
  refine (HR.out _ B0.out).mono ?_
  rintro e w1 ⟨Y, d, rfl, hY, hb1⟩
  have hz0 : w.heap.size < w0.heap.size := by rw [← hw0]; simp
  have z1 := hb1.size
  have hbz : b < w1.heap.size := by omega
  obtain ⟨W1, hW1⟩ : ∃ W1, w1.alloc (.cells #[.int .i64 1, .slice Y n d, .bool tb] 74) = W1 := ⟨_, rfl⟩
  have B1 := Lib.hid (show Below w.heap.size w W1 by rw [← hW1]; exact (bnext B0.out B0.out.size hb1).alloc (by omega) _)
  have T1 := Lib.hid (show NSt b mb m w S (.two sAnd x y) ⟨#[97, 110, 100]⟩ ⟨#[97, 110, 100]⟩ ⟨#[]⟩ X n k 1 [1, 2] tb Y d w.heap.size w1.heap.size bs W1 from
    ⟨HH.out.below B1.out, by rw [← hW1]; exact (X0.out.below hb1).alloc _, by rw [← hW1]; exact HB.fresh w1 _ _, by rw [← hW1]; exact hY.below ((bnext (Below.refl _ _) (Nat.le_refl _) hb1).mono (by omega) |>.trans ((below_alloc w1 _).mono (by omega))), HN.out.kp HS.out (B1.out.mono (by omega)), (Kp.refl b w).next (by omega) B1.out⟩)
  have q0 : W1.cell? ⟨w.heap.size, 0, none⟩ = some (.string ⟨#[97, 110, 100]⟩) := T1.out.box.cell 0
  have q1 : W1.cell? ⟨w.heap.size, 1, none⟩ = some (.string ⟨#[]⟩) := T1.out.box.cell 1
  have q2 : W1.cell? ⟨w.heap.size, 2, none⟩ = some (.slice X n k) := T1.out.box.cell 2
  have f0 : W1.frozen? ⟨w.heap.size, 0, none⟩ = false := T1.out.box.free 0
  have f1 : W1.frozen? ⟨w.heap.size, 1, none⟩ = false := T1.out.box.free 1
  have q3 : W1.cell? ⟨w1.heap.size, 0, none⟩ = some (.int .i64 1) := T1.out.rv.cell 0
  have q4 : W1.cell? ⟨w1.heap.size, 1, none⟩ = some (.slice Y n d) := T1.out.rv.cell 1
  have q5 : W1.cell? ⟨w1.heap.size, 2, none⟩ = some (.bool tb) := T1.out.rv.cell 2
  have f3 : W1.frozen? ⟨w1.heap.size, 0, none⟩ = false := T1.out.rv.free 0
  have f4 : W1.frozen? ⟨w1.heap.size, 1, none⟩ = false := T1.out.rv.free 1
  have f5 : W1.frozen? ⟨w1.heap.size, 2, none⟩ = false := T1.out.rv.free 2
  clear hY hb1 x0 x1 x2 X0 B0 B1 HR
  obtain ⟨s, hs⟩ : ∃ s, kd 1 x (sh x) = s := ⟨_, rfl⟩
  have HKS := Lib.hid hs
  rw [hs] at hl ⊢
  clear hs
  obtain ⟨s', hs⟩ : ∃ s, kd 2 y (sh y) = s := ⟨_, rfl⟩
  have HKT := Lib.hid hs
  rw [hs] at hl ⊢
  clear hs q1
  obtain ⟨g, gl, op1, tx1, X1, n1, k1, op2, tx2, X2, n2, k2, rfl, rfl, rfl, hK⟩ := T1.out.loads2 HS.out (by omega) (by omega)
  have K0 := Lib.hid hK
  clear hK
  have HKID := Lib.hid (fun (w' : World) (hb : Below W1.heap.size W1 w') => show Calls Tryz.prog 30 #[.pointer (some ⟨b, 0, none⟩), .agg #[.string op1, .string tx1, .slice X1 n1 k1], .int .i64 1] w' (fun e w'' => e = .returned (.tuple #[]) ∧ Wr w'' b mb (bs ++ s) ∧ Kp b w' w'') by
    have h := ekid_any x hxo ihx 1 S op1 tx1 X1 n1 k1 (bs) w' (T1.out.has.below hb) HS.out (K0.out _ (((Kp.refl b W1).next (Nat.le_of_lt T1.out.has.lt) hb))).2.1 (by rw [HKS.out]; simp at hl ⊢; omega)
    rw [HKS.out] at h
    exact h)
  go_wp2_with fail
  try rw [hW1]
  go_region_held3 (fun w' => (w'.cell? ⟨w.heap.size, 2, none⟩ = some (.slice (some ⟨g, 0, none⟩) 2 k) ∧ w'.cell? ⟨g, 0, none⟩ = some (.string op1) ∧ w'.cell? ⟨g, 1, none⟩ = some (.string tx1) ∧ w'.cell? ⟨g, 2, none⟩ = some (.slice X1 n1 k1) ∧ w'.cell? ⟨g, 3, none⟩ = some (.string op2) ∧ w'.cell? ⟨g, 4, none⟩ = some (.string tx2) ∧ w'.cell? ⟨g, 5, none⟩ = some (.slice X2 n2 k2) ∧ w'.cell? ⟨w1.heap.size, 1, none⟩ = some (.slice (some ⟨gl, 0, none⟩) 2 d) ∧ w'.cell? ⟨gl, 0, none⟩ = some (.int .i64 1) ∧ w'.cell? ⟨gl, 1, none⟩ = some (.int .i64 2) ∧ w'.cell? ⟨w.heap.size, 0, none⟩ = some (.string ⟨#[97, 110, 100]⟩)) ∧ Kp b W1 w')
    (first | assumption | (exact ⟨(K0.out _ ((Kp.refl b W1).drew.trans hk5)).1, (Kp.refl b W1).drew.trans hk5⟩) | (exact ⟨(K0.out _ (Kp.refl b W1).drew).1, (Kp.refl b W1).drew⟩))
    (first | (go_at_call 30; with_reducible refine (HKID.out _ ?cv).mono ?_; (case cv => exact Below.drew (Below.refl _ _)); rintro e w5 ⟨rfl, hw5, hk5⟩))
  have T5 := Lib.hid (T1.out.next HS.out (by omega) (by omega) hw5 ((Kp.refl b W1).drew.trans hk5))
  have K5 := Lib.hid ((Kp.refl b W1).drew.trans hk5)
  have HW5 := Lib.hid (fun (sx : ByteArray) (hsx : sx.data.toList = [32, 97, 110, 100, 32]) (w' : World) (hb : Below w5.heap.size w5 w') => show Calls Tryz.prog 28 #[.pointer (some ⟨b, 1, none⟩), .string sx] w' (fun e w'' => (∃ v, e = .returned v) ∧ Wr w'' b mb (bs ++ s ++ [32, 97, 110, 100, 32]) ∧ Kp b w' w'') by
    have hsz : sx.size = 5 := by rw [← Lib.mk_data sx, hsx]; rfl
    have h := HW.out (bs ++ s) sx w' (T5.out.has.below hb).wr (by rw [hsz]; simp at hl ⊢; omega)
    rw [hsx] at h
    exact h.mono fun e w'' h => ⟨⟨_, h.1⟩, h.2⟩)
  have hadd1 := fun w => run_string_add_sum (P := Tryz.prog) w ⟨#[32]⟩ ⟨#[97, 110, 100]⟩ (by decide)
  have hadd2 := fun w => run_string_add_sum (P := Tryz.prog) w (⟨#[32]⟩ ++ ⟨#[97, 110, 100]⟩) ⟨#[32]⟩ (by decide)
  clear hw5 hk5 HKID
  go_wp2_with fail
  go_region_held3 (fun w' => (w'.cell? ⟨w.heap.size, 2, none⟩ = some (.slice (some ⟨g, 0, none⟩) 2 k) ∧ w'.cell? ⟨g, 0, none⟩ = some (.string op1) ∧ w'.cell? ⟨g, 1, none⟩ = some (.string tx1) ∧ w'.cell? ⟨g, 2, none⟩ = some (.slice X1 n1 k1) ∧ w'.cell? ⟨g, 3, none⟩ = some (.string op2) ∧ w'.cell? ⟨g, 4, none⟩ = some (.string tx2) ∧ w'.cell? ⟨g, 5, none⟩ = some (.slice X2 n2 k2) ∧ w'.cell? ⟨w1.heap.size, 1, none⟩ = some (.slice (some ⟨gl, 0, none⟩) 2 d) ∧ w'.cell? ⟨gl, 0, none⟩ = some (.int .i64 1) ∧ w'.cell? ⟨gl, 1, none⟩ = some (.int .i64 2) ∧ w'.cell? ⟨w.heap.size, 0, none⟩ = some (.string ⟨#[97, 110, 100]⟩)) ∧ Kp b W1 w')
    (first | assumption | (exact ⟨(K0.out _ (K5.out.drew.trans hk6)).1, K5.out.drew.trans hk6⟩) | (exact ⟨(K0.out _ K5.out.drew).1, K5.out.drew⟩))
    (first | (go_at_call 28; with_reducible refine (HW5.out _ ?ce _ ?cv).mono ?_; (case ce => decide +kernel); (case cv => exact Below.drew (Below.refl _ _)); rintro e w6 ⟨⟨v6, rfl⟩, hw6, hk6⟩))
  have T6 := Lib.hid (T5.out.next HS.out (by omega) (by omega) hw6 ((Kp.refl b w5).drew.trans hk6))
  have K6 := Lib.hid (K5.out.drew.trans hk6)
  clear hw6 hk6 HW5
  have HKIE := Lib.hid (fun (w' : World) (hb : Below w6.heap.size w6 w') => show Calls Tryz.prog 30 #[.pointer (some ⟨b, 0, none⟩), .agg #[.string op2, .string tx2, .slice X2 n2 k2], .int .i64 2] w' (fun e w'' => e = .returned (.tuple #[]) ∧ Wr w'' b mb (bs ++ s ++ [32, 97, 110, 100, 32] ++ s') ∧ Kp b w' w'') by
    have h := ekid_any y hyo ihy 2 S op2 tx2 X2 n2 k2 (bs ++ s ++ [32, 97, 110, 100, 32]) w' (T6.out.has.below hb) HS.out (K0.out _ (K6.out.trans ((Kp.refl b w6).next (Nat.le_of_lt T6.out.has.lt) hb))).2.2.1 (by rw [HKT.out]; simp at hl ⊢; omega)
    rw [HKT.out] at h
    exact h)
  go_wp2_with fail
  go_region_held3 (fun w' => (w'.cell? ⟨w.heap.size, 2, none⟩ = some (.slice (some ⟨g, 0, none⟩) 2 k) ∧ w'.cell? ⟨g, 0, none⟩ = some (.string op1) ∧ w'.cell? ⟨g, 1, none⟩ = some (.string tx1) ∧ w'.cell? ⟨g, 2, none⟩ = some (.slice X1 n1 k1) ∧ w'.cell? ⟨g, 3, none⟩ = some (.string op2) ∧ w'.cell? ⟨g, 4, none⟩ = some (.string tx2) ∧ w'.cell? ⟨g, 5, none⟩ = some (.slice X2 n2 k2) ∧ w'.cell? ⟨w1.heap.size, 1, none⟩ = some (.slice (some ⟨gl, 0, none⟩) 2 d) ∧ w'.cell? ⟨gl, 0, none⟩ = some (.int .i64 1) ∧ w'.cell? ⟨gl, 1, none⟩ = some (.int .i64 2) ∧ w'.cell? ⟨w.heap.size, 0, none⟩ = some (.string ⟨#[97, 110, 100]⟩)) ∧ Kp b W1 w')
    (first | assumption | (exact ⟨(K0.out _ (K6.out.drew.trans hk7)).1, K6.out.drew.trans hk7⟩) | (exact ⟨(K0.out _ K6.out.drew).1, K6.out.drew⟩))
    (first | (go_at_call 30; with_reducible refine (HKIE.out _ ?cv).mono ?_; (case cv => exact Below.drew (Below.refl _ _)); rintro e w7 ⟨rfl, hw7, hk7⟩))
  have T7 := Lib.hid (T6.out.next HS.out (by omega) (by omega) hw7 ((Kp.refl b w6).drew.trans hk7))
  clear hw7 hk7
  go_wp2
  go_end0
  exact ⟨rfl, by rw [HKS.out, HKT.out]; have h := T7.out.has.wr; simpa using h, T7.out.kp⟩
set_option maxHeartbeats 16000000 in
set_option maxRecDepth 100000 in
theorem enode_le {b mb : Nat} {m : Int} (x y : Tr) (ho : Okay (.two [60, 61] x y)) (ihx : Nd b mb m x) (ihy : Nd b mb m y) : Nd b mb m (.two [60, 61] x y) := by
  intro S op tx X n k bs w h hS hn hl
  have hbl := h.lt
  have hsh : sh (.two [60, 61] x y) = kd 4 x (sh x) ++ (32 :: ([60, 61] ++ [32])) ++ kd 4 y (sh y) := rfl
  rw [hsh, show (32 :: ([60, 61] ++ [32]) : List UInt8) = [32, 60, 61, 32] from rfl] at hl ⊢
  clear hsh
  have hxo : Okay x := ho.2.1
  have hyo : Okay y := ho.2.2
  have hR := fun (w' : World) (hb : Below w.heap.size w w') => node_rule (h.below hb) ho (hn.kp hS (hb.mono (Nat.le_of_lt hbl))) (3, [4, 4], false) (by simp only [opOf]; decide)
  unfold RulePost at hR
  dsimp only at hR
  obtain rfl : op = ⟨#[60, 61]⟩ := hn.op_eq.1
  obtain rfl : tx = ⟨#[]⟩ := hn.op_eq.2
  obtain ⟨tb, htb⟩ : ∃ q, false = q := ⟨_, rfl⟩
  rw [htb] at hR
  clear htb
  have HR := Lib.hid hR
  have HH := Lib.hid h
  have HN := Lib.hid hn
  have HS := Lib.hid hS
  clear hR h hn hS
  have hW := fun (bs' : List UInt8) (s : ByteArray) (w' : World) (h' : Wr w' b mb bs') (hl' : bs'.length + s.size ≤ 1000000) => ewrite_any b mb bs' s w' h' hl'
  have HW := Lib.hid hW
  clear hW
  go_enter Tryz.func20, Tryz.ntmps20
  obtain ⟨w0, hw0⟩ : ∃ w0, w.alloc (.cells #[.string ⟨#[60, 61]⟩, .string ⟨#[]⟩, .slice X n k] 25) = w0 := ⟨_, rfl⟩
  have B0 := Lib.hid (show Below w.heap.size w w0 by rw [← hw0]; exact below_alloc w _)
  have X0 := Lib.hid (show HB w0 w.heap.size #[.string ⟨#[60, 61]⟩, .string ⟨#[]⟩, .slice X n k] 25 by rw [← hw0]; exact HB.fresh w _ _)
  have x0 : w0.cell? ⟨w.heap.size, 0, none⟩ = some (.string ⟨#[60, 61]⟩) := X0.out.cell 0
  have x1 : w0.cell? ⟨w.heap.size, 1, none⟩ = some (.string ⟨#[]⟩) := X0.out.cell 1
  have x2 : w0.cell? ⟨w.heap.size, 2, none⟩ = some (.slice X n k) := X0.out.cell 2
  go_wp2_with fail
  try rw [hw0]
  refine (HR.out _ B0.out).mono ?_
  rintro e w1 ⟨Y, d, rfl, hY, hb1⟩
  have hz0 : w.heap.size < w0.heap.size := by rw [← hw0]; simp
  have z1 := hb1.size
  have hbz : b < w1.heap.size := by omega
  obtain ⟨W1, hW1⟩ : ∃ W1, w1.alloc (.cells #[.int .i64 3, .slice Y n d, .bool tb] 74) = W1 := ⟨_, rfl⟩
  have B1 := Lib.hid (show Below w.heap.size w W1 by rw [← hW1]; exact (bnext B0.out B0.out.size hb1).alloc (by omega) _)
  have T1 := Lib.hid (show NSt b mb m w S (.two [60, 61] x y) ⟨#[60, 61]⟩ ⟨#[60, 61]⟩ ⟨#[]⟩ X n k 3 [4, 4] tb Y d w.heap.size w1.heap.size bs W1 from
    ⟨HH.out.below B1.out, by rw [← hW1]; exact (X0.out.below hb1).alloc _, by rw [← hW1]; exact HB.fresh w1 _ _, by rw [← hW1]; exact hY.below ((bnext (Below.refl _ _) (Nat.le_refl _) hb1).mono (by omega) |>.trans ((below_alloc w1 _).mono (by omega))), HN.out.kp HS.out (B1.out.mono (by omega)), (Kp.refl b w).next (by omega) B1.out⟩)
  have q0 : W1.cell? ⟨w.heap.size, 0, none⟩ = some (.string ⟨#[60, 61]⟩) := T1.out.box.cell 0
  have q1 : W1.cell? ⟨w.heap.size, 1, none⟩ = some (.string ⟨#[]⟩) := T1.out.box.cell 1
  have q2 : W1.cell? ⟨w.heap.size, 2, none⟩ = some (.slice X n k) := T1.out.box.cell 2
  have f0 : W1.frozen? ⟨w.heap.size, 0, none⟩ = false := T1.out.box.free 0
  have f1 : W1.frozen? ⟨w.heap.size, 1, none⟩ = false := T1.out.box.free 1
  have q3 : W1.cell? ⟨w1.heap.size, 0, none⟩ = some (.int .i64 3) := T1.out.rv.cell 0
  have q4 : W1.cell? ⟨w1.heap.size, 1, none⟩ = some (.slice Y n d) := T1.out.rv.cell 1
  have q5 : W1.cell? ⟨w1.heap.size, 2, none⟩ = some (.bool tb) := T1.out.rv.cell 2
  have f3 : W1.frozen? ⟨w1.heap.size, 0, none⟩ = false := T1.out.rv.free 0
  have f4 : W1.frozen? ⟨w1.heap.size, 1, none⟩ = false := T1.out.rv.free 1
  have f5 : W1.frozen? ⟨w1.heap.size, 2, none⟩ = false := T1.out.rv.free 2
  clear hY hb1 x0 x1 x2 X0 B0 B1 HR
  obtain ⟨s, hs⟩ : ∃ s, kd 4 x (sh x) = s := ⟨_, rfl⟩
  have HKS := Lib.hid hs
  rw [hs] at hl ⊢
  clear hs
  obtain ⟨s', hs⟩ : ∃ s, kd 4 y (sh y) = s := ⟨_, rfl⟩
  have HKT := Lib.hid hs
  rw [hs] at hl ⊢
  clear hs q1
  obtain ⟨g, gl, op1, tx1, X1, n1, k1, op2, tx2, X2, n2, k2, rfl, rfl, rfl, hK⟩ := T1.out.loads2 HS.out (by omega) (by omega)
  have K0 := Lib.hid hK
  clear hK
  have HKID := Lib.hid (fun (w' : World) (hb : Below W1.heap.size W1 w') => show Calls Tryz.prog 30 #[.pointer (some ⟨b, 0, none⟩), .agg #[.string op1, .string tx1, .slice X1 n1 k1], .int .i64 4] w' (fun e w'' => e = .returned (.tuple #[]) ∧ Wr w'' b mb (bs ++ s) ∧ Kp b w' w'') by
    have h := ekid_any x hxo ihx 4 S op1 tx1 X1 n1 k1 (bs) w' (T1.out.has.below hb) HS.out (K0.out _ (((Kp.refl b W1).next (Nat.le_of_lt T1.out.has.lt) hb))).2.1 (by rw [HKS.out]; simp at hl ⊢; omega)
    rw [HKS.out] at h
    exact h)
  go_wp2_with fail
  try rw [hW1]
  go_region_held3 (fun w' => (w'.cell? ⟨w.heap.size, 2, none⟩ = some (.slice (some ⟨g, 0, none⟩) 2 k) ∧ w'.cell? ⟨g, 0, none⟩ = some (.string op1) ∧ w'.cell? ⟨g, 1, none⟩ = some (.string tx1) ∧ w'.cell? ⟨g, 2, none⟩ = some (.slice X1 n1 k1) ∧ w'.cell? ⟨g, 3, none⟩ = some (.string op2) ∧ w'.cell? ⟨g, 4, none⟩ = some (.string tx2) ∧ w'.cell? ⟨g, 5, none⟩ = some (.slice X2 n2 k2) ∧ w'.cell? ⟨w1.heap.size, 1, none⟩ = some (.slice (some ⟨gl, 0, none⟩) 2 d) ∧ w'.cell? ⟨gl, 0, none⟩ = some (.int .i64 4) ∧ w'.cell? ⟨gl, 1, none⟩ = some (.int .i64 4) ∧ w'.cell? ⟨w.heap.size, 0, none⟩ = some (.string ⟨#[60, 61]⟩)) ∧ Kp b W1 w')
    (first | assumption | (exact ⟨(K0.out _ ((Kp.refl b W1).drew.trans hk5)).1, (Kp.refl b W1).drew.trans hk5⟩) | (exact ⟨(K0.out _ (Kp.refl b W1).drew).1, (Kp.refl b W1).drew⟩))
    (first | (go_at_call 30; with_reducible refine (HKID.out _ ?cv).mono ?_; (case cv => exact Below.drew (Below.refl _ _)); rintro e w5 ⟨rfl, hw5, hk5⟩))
  have T5 := Lib.hid (T1.out.next HS.out (by omega) (by omega) hw5 ((Kp.refl b W1).drew.trans hk5))
  have K5 := Lib.hid ((Kp.refl b W1).drew.trans hk5)
  have HW5 := Lib.hid (fun (sx : ByteArray) (hsx : sx.data.toList = [32, 60, 61, 32]) (w' : World) (hb : Below w5.heap.size w5 w') => show Calls Tryz.prog 28 #[.pointer (some ⟨b, 1, none⟩), .string sx] w' (fun e w'' => (∃ v, e = .returned v) ∧ Wr w'' b mb (bs ++ s ++ [32, 60, 61, 32]) ∧ Kp b w' w'') by
    have hsz : sx.size = 4 := by rw [← Lib.mk_data sx, hsx]; rfl
    have h := HW.out (bs ++ s) sx w' (T5.out.has.below hb).wr (by rw [hsz]; simp at hl ⊢; omega)
    rw [hsx] at h
    exact h.mono fun e w'' h => ⟨⟨_, h.1⟩, h.2⟩)
  have hadd1 := fun w => run_string_add_sum (P := Tryz.prog) w ⟨#[32]⟩ ⟨#[60, 61]⟩ (by decide)
  have hadd2 := fun w => run_string_add_sum (P := Tryz.prog) w (⟨#[32]⟩ ++ ⟨#[60, 61]⟩) ⟨#[32]⟩ (by decide)
  clear hw5 hk5 HKID
  go_wp2_with fail
  go_region_held3 (fun w' => (w'.cell? ⟨w.heap.size, 2, none⟩ = some (.slice (some ⟨g, 0, none⟩) 2 k) ∧ w'.cell? ⟨g, 0, none⟩ = some (.string op1) ∧ w'.cell? ⟨g, 1, none⟩ = some (.string tx1) ∧ w'.cell? ⟨g, 2, none⟩ = some (.slice X1 n1 k1) ∧ w'.cell? ⟨g, 3, none⟩ = some (.string op2) ∧ w'.cell? ⟨g, 4, none⟩ = some (.string tx2) ∧ w'.cell? ⟨g, 5, none⟩ = some (.slice X2 n2 k2) ∧ w'.cell? ⟨w1.heap.size, 1, none⟩ = some (.slice (some ⟨gl, 0, none⟩) 2 d) ∧ w'.cell? ⟨gl, 0, none⟩ = some (.int .i64 4) ∧ w'.cell? ⟨gl, 1, none⟩ = some (.int .i64 4) ∧ w'.cell? ⟨w.heap.size, 0, none⟩ = some (.string ⟨#[60, 61]⟩)) ∧ Kp b W1 w')
    (first | assumption | (exact ⟨(K0.out _ (K5.out.drew.trans hk6)).1, K5.out.drew.trans hk6⟩) | (exact ⟨(K0.out _ K5.out.drew).1, K5.out.drew⟩))
    (first | (go_at_call 28; with_reducible refine (HW5.out _ ?ce _ ?cv).mono ?_; (case ce => decide +kernel); (case cv => exact Below.drew (Below.refl _ _)); rintro e w6 ⟨⟨v6, rfl⟩, hw6, hk6⟩))
  have T6 := Lib.hid (T5.out.next HS.out (by omega) (by omega) hw6 ((Kp.refl b w5).drew.trans hk6))
  have K6 := Lib.hid (K5.out.drew.trans hk6)
  clear hw6 hk6 HW5
  have HKIE := Lib.hid (fun (w' : World) (hb : Below w6.heap.size w6 w') => show Calls Tryz.prog 30 #[.pointer (some ⟨b, 0, none⟩), .agg #[.string op2, .string tx2, .slice X2 n2 k2], .int .i64 4] w' (fun e w'' => e = .returned (.tuple #[]) ∧ Wr w'' b mb (bs ++ s ++ [32, 60, 61, 32] ++ s') ∧ Kp b w' w'') by
    have h := ekid_any y hyo ihy 4 S op2 tx2 X2 n2 k2 (bs ++ s ++ [32, 60, 61, 32]) w' (T6.out.has.below hb) HS.out (K0.out _ (K6.out.trans ((Kp.refl b w6).next (Nat.le_of_lt T6.out.has.lt) hb))).2.2.1 (by rw [HKT.out]; simp at hl ⊢; omega)
    rw [HKT.out] at h
    exact h)
  go_wp2_with fail
  go_region_held3 (fun w' => (w'.cell? ⟨w.heap.size, 2, none⟩ = some (.slice (some ⟨g, 0, none⟩) 2 k) ∧ w'.cell? ⟨g, 0, none⟩ = some (.string op1) ∧ w'.cell? ⟨g, 1, none⟩ = some (.string tx1) ∧ w'.cell? ⟨g, 2, none⟩ = some (.slice X1 n1 k1) ∧ w'.cell? ⟨g, 3, none⟩ = some (.string op2) ∧ w'.cell? ⟨g, 4, none⟩ = some (.string tx2) ∧ w'.cell? ⟨g, 5, none⟩ = some (.slice X2 n2 k2) ∧ w'.cell? ⟨w1.heap.size, 1, none⟩ = some (.slice (some ⟨gl, 0, none⟩) 2 d) ∧ w'.cell? ⟨gl, 0, none⟩ = some (.int .i64 4) ∧ w'.cell? ⟨gl, 1, none⟩ = some (.int .i64 4) ∧ w'.cell? ⟨w.heap.size, 0, none⟩ = some (.string ⟨#[60, 61]⟩)) ∧ Kp b W1 w')
    (first | assumption | (exact ⟨(K0.out _ (K6.out.drew.trans hk7)).1, K6.out.drew.trans hk7⟩) | (exact ⟨(K0.out _ K6.out.drew).1, K6.out.drew⟩))
    (first | (go_at_call 30; with_reducible refine (HKIE.out _ ?cv).mono ?_; (case cv => exact Below.drew (Below.refl _ _)); rintro e w7 ⟨rfl, hw7, hk7⟩))
  have T7 := Lib.hid (T6.out.next HS.out (by omega) (by omega) hw7 ((Kp.refl b w6).drew.trans hk7))
  clear hw7 hk7
  go_wp2
  go_end0
  exact ⟨rfl, by rw [HKS.out, HKT.out]; have h := T7.out.has.wr; simpa using h, T7.out.kp⟩
set_option maxHeartbeats 16000000 in
set_option maxRecDepth 100000 in
theorem enode_minus {b mb : Nat} {m : Int} (x y : Tr) (ho : Okay (.two [45] x y)) (ihx : Nd b mb m x) (ihy : Nd b mb m y) : Nd b mb m (.two [45] x y) := by
  intro S op tx X n k bs w h hS hn hl
  have hbl := h.lt
  have hsh : sh (.two [45] x y) = kd 4 x (sh x) ++ (32 :: ([45] ++ [32])) ++ kd 5 y (sh y) := rfl
  rw [hsh, show (32 :: ([45] ++ [32]) : List UInt8) = [32, 45, 32] from rfl] at hl ⊢
  clear hsh
  have hxo : Okay x := ho.2.1
  have hyo : Okay y := ho.2.2
  have hR := fun (w' : World) (hb : Below w.heap.size w w') => node_rule (h.below hb) ho (hn.kp hS (hb.mono (Nat.le_of_lt hbl))) (4, [4, 5], false) (by simp only [opOf]; decide)
  unfold RulePost at hR
  dsimp only at hR
  obtain rfl : op = ⟨#[45]⟩ := hn.op_eq.1
  obtain rfl : tx = ⟨#[]⟩ := hn.op_eq.2
  obtain ⟨tb, htb⟩ : ∃ q, false = q := ⟨_, rfl⟩
  rw [htb] at hR
  clear htb
  have HR := Lib.hid hR
  have HH := Lib.hid h
  have HN := Lib.hid hn
  have HS := Lib.hid hS
  clear hR h hn hS
  have hW := fun (bs' : List UInt8) (s : ByteArray) (w' : World) (h' : Wr w' b mb bs') (hl' : bs'.length + s.size ≤ 1000000) => ewrite_any b mb bs' s w' h' hl'
  have HW := Lib.hid hW
  clear hW
  go_enter Tryz.func20, Tryz.ntmps20
  obtain ⟨w0, hw0⟩ : ∃ w0, w.alloc (.cells #[.string ⟨#[45]⟩, .string ⟨#[]⟩, .slice X n k] 25) = w0 := ⟨_, rfl⟩
  have B0 := Lib.hid (show Below w.heap.size w w0 by rw [← hw0]; exact below_alloc w _)
  have X0 := Lib.hid (show HB w0 w.heap.size #[.string ⟨#[45]⟩, .string ⟨#[]⟩, .slice X n k] 25 by rw [← hw0]; exact HB.fresh w _ _)
  have x0 : w0.cell? ⟨w.heap.size, 0, none⟩ = some (.string ⟨#[45]⟩) := X0.out.cell 0
  have x1 : w0.cell? ⟨w.heap.size, 1, none⟩ = some (.string ⟨#[]⟩) := X0.out.cell 1
  have x2 : w0.cell? ⟨w.heap.size, 2, none⟩ = some (.slice X n k) := X0.out.cell 2
  go_wp2_with fail
  try rw [hw0]
  refine (HR.out _ B0.out).mono ?_
  rintro e w1 ⟨Y, d, rfl, hY, hb1⟩
  have hz0 : w.heap.size < w0.heap.size := by rw [← hw0]; simp
  have z1 := hb1.size
  have hbz : b < w1.heap.size := by omega
  obtain ⟨W1, hW1⟩ : ∃ W1, w1.alloc (.cells #[.int .i64 4, .slice Y n d, .bool tb] 74) = W1 := ⟨_, rfl⟩
  have B1 := Lib.hid (show Below w.heap.size w W1 by rw [← hW1]; exact (bnext B0.out B0.out.size hb1).alloc (by omega) _)
  have T1 := Lib.hid (show NSt b mb m w S (.two [45] x y) ⟨#[45]⟩ ⟨#[45]⟩ ⟨#[]⟩ X n k 4 [4, 5] tb Y d w.heap.size w1.heap.size bs W1 from
    ⟨HH.out.below B1.out, by rw [← hW1]; exact (X0.out.below hb1).alloc _, by rw [← hW1]; exact HB.fresh w1 _ _, by rw [← hW1]; exact hY.below ((bnext (Below.refl _ _) (Nat.le_refl _) hb1).mono (by omega) |>.trans ((below_alloc w1 _).mono (by omega))), HN.out.kp HS.out (B1.out.mono (by omega)), (Kp.refl b w).next (by omega) B1.out⟩)
  have q0 : W1.cell? ⟨w.heap.size, 0, none⟩ = some (.string ⟨#[45]⟩) := T1.out.box.cell 0
  have q1 : W1.cell? ⟨w.heap.size, 1, none⟩ = some (.string ⟨#[]⟩) := T1.out.box.cell 1
  have q2 : W1.cell? ⟨w.heap.size, 2, none⟩ = some (.slice X n k) := T1.out.box.cell 2
  have f0 : W1.frozen? ⟨w.heap.size, 0, none⟩ = false := T1.out.box.free 0
  have f1 : W1.frozen? ⟨w.heap.size, 1, none⟩ = false := T1.out.box.free 1
  have q3 : W1.cell? ⟨w1.heap.size, 0, none⟩ = some (.int .i64 4) := T1.out.rv.cell 0
  have q4 : W1.cell? ⟨w1.heap.size, 1, none⟩ = some (.slice Y n d) := T1.out.rv.cell 1
  have q5 : W1.cell? ⟨w1.heap.size, 2, none⟩ = some (.bool tb) := T1.out.rv.cell 2
  have f3 : W1.frozen? ⟨w1.heap.size, 0, none⟩ = false := T1.out.rv.free 0
  have f4 : W1.frozen? ⟨w1.heap.size, 1, none⟩ = false := T1.out.rv.free 1
  have f5 : W1.frozen? ⟨w1.heap.size, 2, none⟩ = false := T1.out.rv.free 2
  clear hY hb1 x0 x1 x2 X0 B0 B1 HR
  obtain ⟨s, hs⟩ : ∃ s, kd 4 x (sh x) = s := ⟨_, rfl⟩
  have HKS := Lib.hid hs
  rw [hs] at hl ⊢
  clear hs
  obtain ⟨s', hs⟩ : ∃ s, kd 5 y (sh y) = s := ⟨_, rfl⟩
  have HKT := Lib.hid hs
  rw [hs] at hl ⊢
  clear hs q1
  obtain ⟨g, gl, op1, tx1, X1, n1, k1, op2, tx2, X2, n2, k2, rfl, rfl, rfl, hK⟩ := T1.out.loads2 HS.out (by omega) (by omega)
  have K0 := Lib.hid hK
  clear hK
  have HKID := Lib.hid (fun (w' : World) (hb : Below W1.heap.size W1 w') => show Calls Tryz.prog 30 #[.pointer (some ⟨b, 0, none⟩), .agg #[.string op1, .string tx1, .slice X1 n1 k1], .int .i64 4] w' (fun e w'' => e = .returned (.tuple #[]) ∧ Wr w'' b mb (bs ++ s) ∧ Kp b w' w'') by
    have h := ekid_any x hxo ihx 4 S op1 tx1 X1 n1 k1 (bs) w' (T1.out.has.below hb) HS.out (K0.out _ (((Kp.refl b W1).next (Nat.le_of_lt T1.out.has.lt) hb))).2.1 (by rw [HKS.out]; simp at hl ⊢; omega)
    rw [HKS.out] at h
    exact h)
  go_wp2_with fail
  try rw [hW1]
  go_region_held3 (fun w' => (w'.cell? ⟨w.heap.size, 2, none⟩ = some (.slice (some ⟨g, 0, none⟩) 2 k) ∧ w'.cell? ⟨g, 0, none⟩ = some (.string op1) ∧ w'.cell? ⟨g, 1, none⟩ = some (.string tx1) ∧ w'.cell? ⟨g, 2, none⟩ = some (.slice X1 n1 k1) ∧ w'.cell? ⟨g, 3, none⟩ = some (.string op2) ∧ w'.cell? ⟨g, 4, none⟩ = some (.string tx2) ∧ w'.cell? ⟨g, 5, none⟩ = some (.slice X2 n2 k2) ∧ w'.cell? ⟨w1.heap.size, 1, none⟩ = some (.slice (some ⟨gl, 0, none⟩) 2 d) ∧ w'.cell? ⟨gl, 0, none⟩ = some (.int .i64 4) ∧ w'.cell? ⟨gl, 1, none⟩ = some (.int .i64 5) ∧ w'.cell? ⟨w.heap.size, 0, none⟩ = some (.string ⟨#[45]⟩)) ∧ Kp b W1 w')
    (first | assumption | (exact ⟨(K0.out _ ((Kp.refl b W1).drew.trans hk5)).1, (Kp.refl b W1).drew.trans hk5⟩) | (exact ⟨(K0.out _ (Kp.refl b W1).drew).1, (Kp.refl b W1).drew⟩))
    (first | (go_at_call 30; with_reducible refine (HKID.out _ ?cv).mono ?_; (case cv => exact Below.drew (Below.refl _ _)); rintro e w5 ⟨rfl, hw5, hk5⟩))
  have T5 := Lib.hid (T1.out.next HS.out (by omega) (by omega) hw5 ((Kp.refl b W1).drew.trans hk5))
  have K5 := Lib.hid ((Kp.refl b W1).drew.trans hk5)
  have HW5 := Lib.hid (fun (sx : ByteArray) (hsx : sx.data.toList = [32, 45, 32]) (w' : World) (hb : Below w5.heap.size w5 w') => show Calls Tryz.prog 28 #[.pointer (some ⟨b, 1, none⟩), .string sx] w' (fun e w'' => (∃ v, e = .returned v) ∧ Wr w'' b mb (bs ++ s ++ [32, 45, 32]) ∧ Kp b w' w'') by
    have hsz : sx.size = 3 := by rw [← Lib.mk_data sx, hsx]; rfl
    have h := HW.out (bs ++ s) sx w' (T5.out.has.below hb).wr (by rw [hsz]; simp at hl ⊢; omega)
    rw [hsx] at h
    exact h.mono fun e w'' h => ⟨⟨_, h.1⟩, h.2⟩)
  have hadd1 := fun w => run_string_add_sum (P := Tryz.prog) w ⟨#[32]⟩ ⟨#[45]⟩ (by decide)
  have hadd2 := fun w => run_string_add_sum (P := Tryz.prog) w (⟨#[32]⟩ ++ ⟨#[45]⟩) ⟨#[32]⟩ (by decide)
  clear hw5 hk5 HKID
  go_wp2_with fail
  go_region_held3 (fun w' => (w'.cell? ⟨w.heap.size, 2, none⟩ = some (.slice (some ⟨g, 0, none⟩) 2 k) ∧ w'.cell? ⟨g, 0, none⟩ = some (.string op1) ∧ w'.cell? ⟨g, 1, none⟩ = some (.string tx1) ∧ w'.cell? ⟨g, 2, none⟩ = some (.slice X1 n1 k1) ∧ w'.cell? ⟨g, 3, none⟩ = some (.string op2) ∧ w'.cell? ⟨g, 4, none⟩ = some (.string tx2) ∧ w'.cell? ⟨g, 5, none⟩ = some (.slice X2 n2 k2) ∧ w'.cell? ⟨w1.heap.size, 1, none⟩ = some (.slice (some ⟨gl, 0, none⟩) 2 d) ∧ w'.cell? ⟨gl, 0, none⟩ = some (.int .i64 4) ∧ w'.cell? ⟨gl, 1, none⟩ = some (.int .i64 5) ∧ w'.cell? ⟨w.heap.size, 0, none⟩ = some (.string ⟨#[45]⟩)) ∧ Kp b W1 w')
    (first | assumption | (exact ⟨(K0.out _ (K5.out.drew.trans hk6)).1, K5.out.drew.trans hk6⟩) | (exact ⟨(K0.out _ K5.out.drew).1, K5.out.drew⟩))
    (first | (go_at_call 28; with_reducible refine (HW5.out _ ?ce _ ?cv).mono ?_; (case ce => decide +kernel); (case cv => exact Below.drew (Below.refl _ _)); rintro e w6 ⟨⟨v6, rfl⟩, hw6, hk6⟩))
  have T6 := Lib.hid (T5.out.next HS.out (by omega) (by omega) hw6 ((Kp.refl b w5).drew.trans hk6))
  have K6 := Lib.hid (K5.out.drew.trans hk6)
  clear hw6 hk6 HW5
  have HKIE := Lib.hid (fun (w' : World) (hb : Below w6.heap.size w6 w') => show Calls Tryz.prog 30 #[.pointer (some ⟨b, 0, none⟩), .agg #[.string op2, .string tx2, .slice X2 n2 k2], .int .i64 5] w' (fun e w'' => e = .returned (.tuple #[]) ∧ Wr w'' b mb (bs ++ s ++ [32, 45, 32] ++ s') ∧ Kp b w' w'') by
    have h := ekid_any y hyo ihy 5 S op2 tx2 X2 n2 k2 (bs ++ s ++ [32, 45, 32]) w' (T6.out.has.below hb) HS.out (K0.out _ (K6.out.trans ((Kp.refl b w6).next (Nat.le_of_lt T6.out.has.lt) hb))).2.2.1 (by rw [HKT.out]; simp at hl ⊢; omega)
    rw [HKT.out] at h
    exact h)
  go_wp2_with fail
  go_region_held3 (fun w' => (w'.cell? ⟨w.heap.size, 2, none⟩ = some (.slice (some ⟨g, 0, none⟩) 2 k) ∧ w'.cell? ⟨g, 0, none⟩ = some (.string op1) ∧ w'.cell? ⟨g, 1, none⟩ = some (.string tx1) ∧ w'.cell? ⟨g, 2, none⟩ = some (.slice X1 n1 k1) ∧ w'.cell? ⟨g, 3, none⟩ = some (.string op2) ∧ w'.cell? ⟨g, 4, none⟩ = some (.string tx2) ∧ w'.cell? ⟨g, 5, none⟩ = some (.slice X2 n2 k2) ∧ w'.cell? ⟨w1.heap.size, 1, none⟩ = some (.slice (some ⟨gl, 0, none⟩) 2 d) ∧ w'.cell? ⟨gl, 0, none⟩ = some (.int .i64 4) ∧ w'.cell? ⟨gl, 1, none⟩ = some (.int .i64 5) ∧ w'.cell? ⟨w.heap.size, 0, none⟩ = some (.string ⟨#[45]⟩)) ∧ Kp b W1 w')
    (first | assumption | (exact ⟨(K0.out _ (K6.out.drew.trans hk7)).1, K6.out.drew.trans hk7⟩) | (exact ⟨(K0.out _ K6.out.drew).1, K6.out.drew⟩))
    (first | (go_at_call 30; with_reducible refine (HKIE.out _ ?cv).mono ?_; (case cv => exact Below.drew (Below.refl _ _)); rintro e w7 ⟨rfl, hw7, hk7⟩))
  have T7 := Lib.hid (T6.out.next HS.out (by omega) (by omega) hw7 ((Kp.refl b w6).drew.trans hk7))
  clear hw7 hk7
  go_wp2
  go_end0
  exact ⟨rfl, by rw [HKS.out, HKT.out]; have h := T7.out.has.wr; simpa using h, T7.out.kp⟩
set_option maxHeartbeats 16000000 in
set_option maxRecDepth 100000 in
theorem enode_times {b mb : Nat} {m : Int} (x y : Tr) (ho : Okay (.two [42] x y)) (ihx : Nd b mb m x) (ihy : Nd b mb m y) : Nd b mb m (.two [42] x y) := by
  intro S op tx X n k bs w h hS hn hl
  have hbl := h.lt
  have hsh : sh (.two [42] x y) = kd 5 x (sh x) ++ (32 :: ([42] ++ [32])) ++ kd 6 y (sh y) := rfl
  rw [hsh, show (32 :: ([42] ++ [32]) : List UInt8) = [32, 42, 32] from rfl] at hl ⊢
  clear hsh
  have hxo : Okay x := ho.2.1
  have hyo : Okay y := ho.2.2
  have hR := fun (w' : World) (hb : Below w.heap.size w w') => node_rule (h.below hb) ho (hn.kp hS (hb.mono (Nat.le_of_lt hbl))) (5, [5, 6], false) (by simp only [opOf]; decide)
  unfold RulePost at hR
  dsimp only at hR
  obtain rfl : op = ⟨#[42]⟩ := hn.op_eq.1
  obtain rfl : tx = ⟨#[]⟩ := hn.op_eq.2
  obtain ⟨tb, htb⟩ : ∃ q, false = q := ⟨_, rfl⟩
  rw [htb] at hR
  clear htb
  have HR := Lib.hid hR
  have HH := Lib.hid h
  have HN := Lib.hid hn
  have HS := Lib.hid hS
  clear hR h hn hS
  have hW := fun (bs' : List UInt8) (s : ByteArray) (w' : World) (h' : Wr w' b mb bs') (hl' : bs'.length + s.size ≤ 1000000) => ewrite_any b mb bs' s w' h' hl'
  have HW := Lib.hid hW
  clear hW
  go_enter Tryz.func20, Tryz.ntmps20
  obtain ⟨w0, hw0⟩ : ∃ w0, w.alloc (.cells #[.string ⟨#[42]⟩, .string ⟨#[]⟩, .slice X n k] 25) = w0 := ⟨_, rfl⟩
  have B0 := Lib.hid (show Below w.heap.size w w0 by rw [← hw0]; exact below_alloc w _)
  have X0 := Lib.hid (show HB w0 w.heap.size #[.string ⟨#[42]⟩, .string ⟨#[]⟩, .slice X n k] 25 by rw [← hw0]; exact HB.fresh w _ _)
  have x0 : w0.cell? ⟨w.heap.size, 0, none⟩ = some (.string ⟨#[42]⟩) := X0.out.cell 0
  have x1 : w0.cell? ⟨w.heap.size, 1, none⟩ = some (.string ⟨#[]⟩) := X0.out.cell 1
  have x2 : w0.cell? ⟨w.heap.size, 2, none⟩ = some (.slice X n k) := X0.out.cell 2
  go_wp2_with fail
  try rw [hw0]
  refine (HR.out _ B0.out).mono ?_
  rintro e w1 ⟨Y, d, rfl, hY, hb1⟩
  have hz0 : w.heap.size < w0.heap.size := by rw [← hw0]; simp
  have z1 := hb1.size
  have hbz : b < w1.heap.size := by omega
  obtain ⟨W1, hW1⟩ : ∃ W1, w1.alloc (.cells #[.int .i64 5, .slice Y n d, .bool tb] 74) = W1 := ⟨_, rfl⟩
  have B1 := Lib.hid (show Below w.heap.size w W1 by rw [← hW1]; exact (bnext B0.out B0.out.size hb1).alloc (by omega) _)
  have T1 := Lib.hid (show NSt b mb m w S (.two [42] x y) ⟨#[42]⟩ ⟨#[42]⟩ ⟨#[]⟩ X n k 5 [5, 6] tb Y d w.heap.size w1.heap.size bs W1 from
    ⟨HH.out.below B1.out, by rw [← hW1]; exact (X0.out.below hb1).alloc _, by rw [← hW1]; exact HB.fresh w1 _ _, by rw [← hW1]; exact hY.below ((bnext (Below.refl _ _) (Nat.le_refl _) hb1).mono (by omega) |>.trans ((below_alloc w1 _).mono (by omega))), HN.out.kp HS.out (B1.out.mono (by omega)), (Kp.refl b w).next (by omega) B1.out⟩)
  have q0 : W1.cell? ⟨w.heap.size, 0, none⟩ = some (.string ⟨#[42]⟩) := T1.out.box.cell 0
  have q1 : W1.cell? ⟨w.heap.size, 1, none⟩ = some (.string ⟨#[]⟩) := T1.out.box.cell 1
  have q2 : W1.cell? ⟨w.heap.size, 2, none⟩ = some (.slice X n k) := T1.out.box.cell 2
  have f0 : W1.frozen? ⟨w.heap.size, 0, none⟩ = false := T1.out.box.free 0
  have f1 : W1.frozen? ⟨w.heap.size, 1, none⟩ = false := T1.out.box.free 1
  have q3 : W1.cell? ⟨w1.heap.size, 0, none⟩ = some (.int .i64 5) := T1.out.rv.cell 0
  have q4 : W1.cell? ⟨w1.heap.size, 1, none⟩ = some (.slice Y n d) := T1.out.rv.cell 1
  have q5 : W1.cell? ⟨w1.heap.size, 2, none⟩ = some (.bool tb) := T1.out.rv.cell 2
  have f3 : W1.frozen? ⟨w1.heap.size, 0, none⟩ = false := T1.out.rv.free 0
  have f4 : W1.frozen? ⟨w1.heap.size, 1, none⟩ = false := T1.out.rv.free 1
  have f5 : W1.frozen? ⟨w1.heap.size, 2, none⟩ = false := T1.out.rv.free 2
  clear hY hb1 x0 x1 x2 X0 B0 B1 HR
  obtain ⟨s, hs⟩ : ∃ s, kd 5 x (sh x) = s := ⟨_, rfl⟩
  have HKS := Lib.hid hs
  rw [hs] at hl ⊢
  clear hs
  obtain ⟨s', hs⟩ : ∃ s, kd 6 y (sh y) = s := ⟨_, rfl⟩
  have HKT := Lib.hid hs
  rw [hs] at hl ⊢
  clear hs q1
  obtain ⟨g, gl, op1, tx1, X1, n1, k1, op2, tx2, X2, n2, k2, rfl, rfl, rfl, hK⟩ := T1.out.loads2 HS.out (by omega) (by omega)
  have K0 := Lib.hid hK
  clear hK
  have HKID := Lib.hid (fun (w' : World) (hb : Below W1.heap.size W1 w') => show Calls Tryz.prog 30 #[.pointer (some ⟨b, 0, none⟩), .agg #[.string op1, .string tx1, .slice X1 n1 k1], .int .i64 5] w' (fun e w'' => e = .returned (.tuple #[]) ∧ Wr w'' b mb (bs ++ s) ∧ Kp b w' w'') by
    have h := ekid_any x hxo ihx 5 S op1 tx1 X1 n1 k1 (bs) w' (T1.out.has.below hb) HS.out (K0.out _ (((Kp.refl b W1).next (Nat.le_of_lt T1.out.has.lt) hb))).2.1 (by rw [HKS.out]; simp at hl ⊢; omega)
    rw [HKS.out] at h
    exact h)
  go_wp2_with fail
  try rw [hW1]
  go_region_held3 (fun w' => (w'.cell? ⟨w.heap.size, 2, none⟩ = some (.slice (some ⟨g, 0, none⟩) 2 k) ∧ w'.cell? ⟨g, 0, none⟩ = some (.string op1) ∧ w'.cell? ⟨g, 1, none⟩ = some (.string tx1) ∧ w'.cell? ⟨g, 2, none⟩ = some (.slice X1 n1 k1) ∧ w'.cell? ⟨g, 3, none⟩ = some (.string op2) ∧ w'.cell? ⟨g, 4, none⟩ = some (.string tx2) ∧ w'.cell? ⟨g, 5, none⟩ = some (.slice X2 n2 k2) ∧ w'.cell? ⟨w1.heap.size, 1, none⟩ = some (.slice (some ⟨gl, 0, none⟩) 2 d) ∧ w'.cell? ⟨gl, 0, none⟩ = some (.int .i64 5) ∧ w'.cell? ⟨gl, 1, none⟩ = some (.int .i64 6) ∧ w'.cell? ⟨w.heap.size, 0, none⟩ = some (.string ⟨#[42]⟩)) ∧ Kp b W1 w')
    (first | assumption | (exact ⟨(K0.out _ ((Kp.refl b W1).drew.trans hk5)).1, (Kp.refl b W1).drew.trans hk5⟩) | (exact ⟨(K0.out _ (Kp.refl b W1).drew).1, (Kp.refl b W1).drew⟩))
    (first | (go_at_call 30; with_reducible refine (HKID.out _ ?cv).mono ?_; (case cv => exact Below.drew (Below.refl _ _)); rintro e w5 ⟨rfl, hw5, hk5⟩))
  have T5 := Lib.hid (T1.out.next HS.out (by omega) (by omega) hw5 ((Kp.refl b W1).drew.trans hk5))
  have K5 := Lib.hid ((Kp.refl b W1).drew.trans hk5)
  have HW5 := Lib.hid (fun (sx : ByteArray) (hsx : sx.data.toList = [32, 42, 32]) (w' : World) (hb : Below w5.heap.size w5 w') => show Calls Tryz.prog 28 #[.pointer (some ⟨b, 1, none⟩), .string sx] w' (fun e w'' => (∃ v, e = .returned v) ∧ Wr w'' b mb (bs ++ s ++ [32, 42, 32]) ∧ Kp b w' w'') by
    have hsz : sx.size = 3 := by rw [← Lib.mk_data sx, hsx]; rfl
    have h := HW.out (bs ++ s) sx w' (T5.out.has.below hb).wr (by rw [hsz]; simp at hl ⊢; omega)
    rw [hsx] at h
    exact h.mono fun e w'' h => ⟨⟨_, h.1⟩, h.2⟩)
  have hadd1 := fun w => run_string_add_sum (P := Tryz.prog) w ⟨#[32]⟩ ⟨#[42]⟩ (by decide)
  have hadd2 := fun w => run_string_add_sum (P := Tryz.prog) w (⟨#[32]⟩ ++ ⟨#[42]⟩) ⟨#[32]⟩ (by decide)
  clear hw5 hk5 HKID
  go_wp2_with fail
  go_region_held3 (fun w' => (w'.cell? ⟨w.heap.size, 2, none⟩ = some (.slice (some ⟨g, 0, none⟩) 2 k) ∧ w'.cell? ⟨g, 0, none⟩ = some (.string op1) ∧ w'.cell? ⟨g, 1, none⟩ = some (.string tx1) ∧ w'.cell? ⟨g, 2, none⟩ = some (.slice X1 n1 k1) ∧ w'.cell? ⟨g, 3, none⟩ = some (.string op2) ∧ w'.cell? ⟨g, 4, none⟩ = some (.string tx2) ∧ w'.cell? ⟨g, 5, none⟩ = some (.slice X2 n2 k2) ∧ w'.cell? ⟨w1.heap.size, 1, none⟩ = some (.slice (some ⟨gl, 0, none⟩) 2 d) ∧ w'.cell? ⟨gl, 0, none⟩ = some (.int .i64 5) ∧ w'.cell? ⟨gl, 1, none⟩ = some (.int .i64 6) ∧ w'.cell? ⟨w.heap.size, 0, none⟩ = some (.string ⟨#[42]⟩)) ∧ Kp b W1 w')
    (first | assumption | (exact ⟨(K0.out _ (K5.out.drew.trans hk6)).1, K5.out.drew.trans hk6⟩) | (exact ⟨(K0.out _ K5.out.drew).1, K5.out.drew⟩))
    (first | (go_at_call 28; with_reducible refine (HW5.out _ ?ce _ ?cv).mono ?_; (case ce => decide +kernel); (case cv => exact Below.drew (Below.refl _ _)); rintro e w6 ⟨⟨v6, rfl⟩, hw6, hk6⟩))
  have T6 := Lib.hid (T5.out.next HS.out (by omega) (by omega) hw6 ((Kp.refl b w5).drew.trans hk6))
  have K6 := Lib.hid (K5.out.drew.trans hk6)
  clear hw6 hk6 HW5
  have HKIE := Lib.hid (fun (w' : World) (hb : Below w6.heap.size w6 w') => show Calls Tryz.prog 30 #[.pointer (some ⟨b, 0, none⟩), .agg #[.string op2, .string tx2, .slice X2 n2 k2], .int .i64 6] w' (fun e w'' => e = .returned (.tuple #[]) ∧ Wr w'' b mb (bs ++ s ++ [32, 42, 32] ++ s') ∧ Kp b w' w'') by
    have h := ekid_any y hyo ihy 6 S op2 tx2 X2 n2 k2 (bs ++ s ++ [32, 42, 32]) w' (T6.out.has.below hb) HS.out (K0.out _ (K6.out.trans ((Kp.refl b w6).next (Nat.le_of_lt T6.out.has.lt) hb))).2.2.1 (by rw [HKT.out]; simp at hl ⊢; omega)
    rw [HKT.out] at h
    exact h)
  go_wp2_with fail
  go_region_held3 (fun w' => (w'.cell? ⟨w.heap.size, 2, none⟩ = some (.slice (some ⟨g, 0, none⟩) 2 k) ∧ w'.cell? ⟨g, 0, none⟩ = some (.string op1) ∧ w'.cell? ⟨g, 1, none⟩ = some (.string tx1) ∧ w'.cell? ⟨g, 2, none⟩ = some (.slice X1 n1 k1) ∧ w'.cell? ⟨g, 3, none⟩ = some (.string op2) ∧ w'.cell? ⟨g, 4, none⟩ = some (.string tx2) ∧ w'.cell? ⟨g, 5, none⟩ = some (.slice X2 n2 k2) ∧ w'.cell? ⟨w1.heap.size, 1, none⟩ = some (.slice (some ⟨gl, 0, none⟩) 2 d) ∧ w'.cell? ⟨gl, 0, none⟩ = some (.int .i64 5) ∧ w'.cell? ⟨gl, 1, none⟩ = some (.int .i64 6) ∧ w'.cell? ⟨w.heap.size, 0, none⟩ = some (.string ⟨#[42]⟩)) ∧ Kp b W1 w')
    (first | assumption | (exact ⟨(K0.out _ (K6.out.drew.trans hk7)).1, K6.out.drew.trans hk7⟩) | (exact ⟨(K0.out _ K6.out.drew).1, K6.out.drew⟩))
    (first | (go_at_call 30; with_reducible refine (HKIE.out _ ?cv).mono ?_; (case cv => exact Below.drew (Below.refl _ _)); rintro e w7 ⟨rfl, hw7, hk7⟩))
  have T7 := Lib.hid (T6.out.next HS.out (by omega) (by omega) hw7 ((Kp.refl b w6).drew.trans hk7))
  clear hw7 hk7
  go_wp2
  go_end0
  exact ⟨rfl, by rw [HKS.out, HKT.out]; have h := T7.out.has.wr; simpa using h, T7.out.kp⟩
end Go.Proofs.YtpohpgahnompbaaGreatDoor.Code
