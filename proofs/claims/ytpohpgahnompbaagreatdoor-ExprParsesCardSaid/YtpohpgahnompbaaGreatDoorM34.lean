/-
  Contracts of the program's writer's node at the nodes of the live question.
-/
import Derived.Test.YtpohpgahnompbaaGreatDoorM32
import Derived.Deep.RegionHeld3
import Derived.Test.YtpohpgahnompbaaGreatDoorM33
import Derived.Test.YtpohpgahnompbaaGreatDoorM20
import Derived.Test.YtpohpgahnompbaaGreatDoorM30
namespace Go.Proofs.YtpohpgahnompbaaGreatDoor.Code
open Go.ChangeShapes Go.WideShapes Go.ChangeAt Go.RowKit Val Elems
set_option linter.unusedVariables false
set_option linter.unusedSimpArgs false
theorem WrAt.far {w : World} {b mb : Nat} {p : Value} {bs : List UInt8} (h : WrAt w b mb p bs) {g : Nat} {cs : Array Value} {t : TypeId} (hb : HB w g cs t) (ht : t ≠ 5) (hg : g ≠ b) (j : Nat) (u : Value) : WrAt (w.setCell ⟨g, j, none⟩ u) b mb p bs := by
  obtain ⟨v, h1, h2, h3⟩ := h
  have hne : v.ownBlock ≠ some g := by
    intro e
    obtain ⟨c, fz, hc⟩ := Lib.ownsRow_kind h2 g e
    have hb' : w.heap[g]? = some (.cells cs t (0, 0)) := hb
    rw [hb'] at hc
    injection hc with hc
    injection hc with _ hc2
    exact ht hc2
  exact ⟨v, h1.far _ hg u, h2.kept (grown_set w g j u) (.inr hne), h3⟩
theorem Has.far {b mb : Nat} {m : Int} {bs : List UInt8} {w : World} (h : Has b mb m bs w) {g : Nat} {cs : Array Value} {t : TypeId} (hb : HB w g cs t) (ht : t ≠ 5) (hg : b < g) (j : Nat) (u : Value) : Has b mb m bs (w.setCell ⟨g, j, none⟩ u) := by
  have hB : Below b w (w.setCell ⟨g, j, none⟩ u) := (Below.refl b w).setCell (Nat.le_of_lt hg) u
  exact ⟨h.wr.elim (fun h => .inl (h.far hb ht (by omega) j u)) (fun h => .inr (h.far hb ht (by omega) j u)), h.ru.below hB, h.ev.below hB⟩
set_option maxHeartbeats 16000000 in
set_option maxRecDepth 100000 in
theorem enode_sNum {b mb : Nat} {m : Int} (tv : List UInt8) (ho : Okay (.leaf sNum tv)) : Nd b mb m (.leaf sNum tv) := by
  intro S op tx X n k bs w h hS hn hl
  have hbl := h.lt
  have hsh : sh (.leaf sNum tv) = tv := rfl
  rw [hsh] at hl ⊢
  clear hsh
  have hR := fun (w' : World) (hb : Below w.heap.size w w') => node_rule (h.below hb) ho (hn.kp hS (hb.mono (Nat.le_of_lt hbl))) (7, [], true) (by simp only [opOf]; decide)
  unfold RulePost at hR
  dsimp only at hR
  obtain rfl : op = ⟨#[110, 117, 109]⟩ := hn.op_eq.1
  have HTX := Lib.hid (show tx = ⟨tv.toArray⟩ from hn.op_eq.2)
  have HR := Lib.hid hR
  have HH := Lib.hid h
  have HN := Lib.hid hn
  have HS := Lib.hid hS
  clear hR h hn hS
  have hW := fun (bs' : List UInt8) (s : ByteArray) (w' : World) (h' : Wr w' b mb bs') (hl' : bs'.length + s.size ≤ 1000000) => ewrite_any b mb bs' s w' h' hl'
  have HW := Lib.hid hW
  clear hW
  go_enter Tryz.func20, Tryz.ntmps20
  obtain ⟨w0, hw0⟩ : ∃ w0, w.alloc (.cells #[.string ⟨#[110, 117, 109]⟩, .string tx, .slice X n k] 25) = w0 := ⟨_, rfl⟩
  have B0 := Lib.hid (show Below w.heap.size w w0 by rw [← hw0]; exact below_alloc w _)
  have X0 := Lib.hid (show HB w0 w.heap.size #[.string ⟨#[110, 117, 109]⟩, .string tx, .slice X n k] 25 by rw [← hw0]; exact HB.fresh w _ _)
  have x0 : w0.cell? ⟨w.heap.size, 0, none⟩ = some (.string ⟨#[110, 117, 109]⟩) := X0.out.cell 0
  have x1 : w0.cell? ⟨w.heap.size, 1, none⟩ = some (.string tx) := X0.out.cell 1
  have x2 : w0.cell? ⟨w.heap.size, 2, none⟩ = some (.slice X n k) := X0.out.cell 2
  go_wp2_with fail
  try rw [hw0]
  refine (HR.out _ B0.out).mono ?_
  rintro e w1 ⟨Y, d, rfl, hY, hb1⟩
  have hz0 : w.heap.size < w0.heap.size := by rw [← hw0]; simp
  have z1 := hb1.size
  have hbz : b < w1.heap.size := by omega
  obtain ⟨W1, hW1⟩ : ∃ W1, w1.alloc (.cells #[.int .i64 7, .slice Y n d, .bool true] 74) = W1 := ⟨_, rfl⟩
  have B1 := Lib.hid (show Below w.heap.size w W1 by rw [← hW1]; exact (bnext B0.out B0.out.size hb1).alloc (by omega) _)
  have T1 := Lib.hid (show NSt b mb m w S (.leaf sNum tv) ⟨#[110, 117, 109]⟩ ⟨#[110, 117, 109]⟩ tx X n k 7 [] true Y d w.heap.size w1.heap.size bs W1 from
    ⟨HH.out.below B1.out, by rw [← hW1]; exact (X0.out.below hb1).alloc _, by rw [← hW1]; exact HB.fresh w1 _ _, by rw [← hW1]; exact hY.below ((bnext (Below.refl _ _) (Nat.le_refl _) hb1).mono (by omega) |>.trans ((below_alloc w1 _).mono (by omega))), HN.out.kp HS.out (B1.out.mono (by omega)), (Kp.refl b w).next (by omega) B1.out⟩)
  have q0 : W1.cell? ⟨w.heap.size, 0, none⟩ = some (.string ⟨#[110, 117, 109]⟩) := T1.out.box.cell 0
  have q1 : W1.cell? ⟨w.heap.size, 1, none⟩ = some (.string tx) := T1.out.box.cell 1
  have q2 : W1.cell? ⟨w.heap.size, 2, none⟩ = some (.slice X n k) := T1.out.box.cell 2
  have f0 : W1.frozen? ⟨w.heap.size, 0, none⟩ = false := T1.out.box.free 0
  have f1 : W1.frozen? ⟨w.heap.size, 1, none⟩ = false := T1.out.box.free 1
  have q3 : W1.cell? ⟨w1.heap.size, 0, none⟩ = some (.int .i64 7) := T1.out.rv.cell 0
  have q4 : W1.cell? ⟨w1.heap.size, 1, none⟩ = some (.slice Y n d) := T1.out.rv.cell 1
  have q5 : W1.cell? ⟨w1.heap.size, 2, none⟩ = some (.bool true) := T1.out.rv.cell 2
  have f3 : W1.frozen? ⟨w1.heap.size, 0, none⟩ = false := T1.out.rv.free 0
  have f4 : W1.frozen? ⟨w1.heap.size, 1, none⟩ = false := T1.out.rv.free 1
  have f5 : W1.frozen? ⟨w1.heap.size, 2, none⟩ = false := T1.out.rv.free 2
  clear hY hb1 x0 x1 x2 X0 B0 B1 HR
  clear q2 q3 q4 q5 f3 f4 f5
  obtain ⟨W3, hW3⟩ : ∃ W3, W1.setCell ⟨w.heap.size, 0, none⟩ (.string tx) = W3 := ⟨_, rfl⟩
  have A3 := Lib.hid (show Has b mb m bs W3 by rw [← hW3]; exact T1.out.has.far T1.out.box (by decide) (by omega) 0 _)
  have X3 := Lib.hid (show W3.cell? ⟨w.heap.size, 0, none⟩ = some (.string tx) by rw [← hW3]; exact (T1.out.box.set 0 _).cell 0)
  have K3 := Lib.hid (show Kp b w W3 by rw [← hW3]; exact T1.out.kp.new _ (Nat.le_refl _) (Nat.le_of_lt hbl) _)
  have B3 := Lib.hid (show HB W3 w.heap.size #[.string tx, .string tx, .slice X n k] 25 by rw [← hW3]; exact (T1.out.box.set 0 _))
  have KX := Lib.hid (fun (w' : World) (hk : Kp b W3 w') => show w'.cell? ⟨w.heap.size, 0, none⟩ = some (.string tx) from (B3.out.kp hk (by omega) (by decide)).cell 0)
  go_wp2_with fail
  try rw [hW1]
  try rw [hW3]
  go_region_held3 (fun w' => (w'.cell? ⟨w.heap.size, 0, none⟩ = some (.string tx)) ∧ Kp b W3 w')
    (first | assumption | (exact ⟨KX.out _ ((Kp.refl b W3).drew.trans hk5), (Kp.refl b W3).drew.trans hk5⟩) | (exact ⟨KX.out _ (Kp.refl b W3).drew, (Kp.refl b W3).drew⟩))
    (first | (go_at_call 28; with_reducible refine (HW.out bs tx _ ?ce ?cl).mono ?_; (case ce => exact (A3.out.below (Below.drew (Below.refl _ _))).wr); (case cl => (have h1 : tx.size = tv.length := by rw [HTX.out]; exact size_list _); (rw [h1]; simp at hl ⊢; omega)); rintro e w5 ⟨rfl, hw5, hk5⟩))
  have A5 := Lib.hid (show Wr w5 b mb (bs ++ tv) by have h := hw5; rw [HTX.out] at h; exact h)
  have K5 := Lib.hid (K3.out.trans ((Kp.refl b W3).drew.trans hk5))
  clear hw5 hk5
  go_wp2
  go_end0
  exact ⟨rfl, A5.out, K5.out⟩
set_option maxHeartbeats 16000000 in
set_option maxRecDepth 100000 in
theorem enode_sCol {b mb : Nat} {m : Int} (tv : List UInt8) (ho : Okay (.leaf sCol tv)) : Nd b mb m (.leaf sCol tv) := by
  intro S op tx X n k bs w h hS hn hl
  have hbl := h.lt
  have hsh : sh (.leaf sCol tv) = tv := rfl
  rw [hsh] at hl ⊢
  clear hsh
  have hR := fun (w' : World) (hb : Below w.heap.size w w') => node_rule (h.below hb) ho (hn.kp hS (hb.mono (Nat.le_of_lt hbl))) (7, [], true) (by simp only [opOf]; decide)
  unfold RulePost at hR
  dsimp only at hR
  obtain rfl : op = ⟨#[99, 111, 108]⟩ := hn.op_eq.1
  have HTX := Lib.hid (show tx = ⟨tv.toArray⟩ from hn.op_eq.2)
  have HR := Lib.hid hR
  have HH := Lib.hid h
  have HN := Lib.hid hn
  have HS := Lib.hid hS
  clear hR h hn hS
  have hW := fun (bs' : List UInt8) (s : ByteArray) (w' : World) (h' : Wr w' b mb bs') (hl' : bs'.length + s.size ≤ 1000000) => ewrite_any b mb bs' s w' h' hl'
  have HW := Lib.hid hW
  clear hW
  go_enter Tryz.func20, Tryz.ntmps20
  obtain ⟨w0, hw0⟩ : ∃ w0, w.alloc (.cells #[.string ⟨#[99, 111, 108]⟩, .string tx, .slice X n k] 25) = w0 := ⟨_, rfl⟩
  have B0 := Lib.hid (show Below w.heap.size w w0 by rw [← hw0]; exact below_alloc w _)
  have X0 := Lib.hid (show HB w0 w.heap.size #[.string ⟨#[99, 111, 108]⟩, .string tx, .slice X n k] 25 by rw [← hw0]; exact HB.fresh w _ _)
  have x0 : w0.cell? ⟨w.heap.size, 0, none⟩ = some (.string ⟨#[99, 111, 108]⟩) := X0.out.cell 0
  have x1 : w0.cell? ⟨w.heap.size, 1, none⟩ = some (.string tx) := X0.out.cell 1
  have x2 : w0.cell? ⟨w.heap.size, 2, none⟩ = some (.slice X n k) := X0.out.cell 2
  go_wp2_with fail
  try rw [hw0]
  refine (HR.out _ B0.out).mono ?_
  rintro e w1 ⟨Y, d, rfl, hY, hb1⟩
  have hz0 : w.heap.size < w0.heap.size := by rw [← hw0]; simp
  have z1 := hb1.size
  have hbz : b < w1.heap.size := by omega
  obtain ⟨W1, hW1⟩ : ∃ W1, w1.alloc (.cells #[.int .i64 7, .slice Y n d, .bool true] 74) = W1 := ⟨_, rfl⟩
  have B1 := Lib.hid (show Below w.heap.size w W1 by rw [← hW1]; exact (bnext B0.out B0.out.size hb1).alloc (by omega) _)
  have T1 := Lib.hid (show NSt b mb m w S (.leaf sCol tv) ⟨#[99, 111, 108]⟩ ⟨#[99, 111, 108]⟩ tx X n k 7 [] true Y d w.heap.size w1.heap.size bs W1 from
    ⟨HH.out.below B1.out, by rw [← hW1]; exact (X0.out.below hb1).alloc _, by rw [← hW1]; exact HB.fresh w1 _ _, by rw [← hW1]; exact hY.below ((bnext (Below.refl _ _) (Nat.le_refl _) hb1).mono (by omega) |>.trans ((below_alloc w1 _).mono (by omega))), HN.out.kp HS.out (B1.out.mono (by omega)), (Kp.refl b w).next (by omega) B1.out⟩)
  have q0 : W1.cell? ⟨w.heap.size, 0, none⟩ = some (.string ⟨#[99, 111, 108]⟩) := T1.out.box.cell 0
  have q1 : W1.cell? ⟨w.heap.size, 1, none⟩ = some (.string tx) := T1.out.box.cell 1
  have q2 : W1.cell? ⟨w.heap.size, 2, none⟩ = some (.slice X n k) := T1.out.box.cell 2
  have f0 : W1.frozen? ⟨w.heap.size, 0, none⟩ = false := T1.out.box.free 0
  have f1 : W1.frozen? ⟨w.heap.size, 1, none⟩ = false := T1.out.box.free 1
  have q3 : W1.cell? ⟨w1.heap.size, 0, none⟩ = some (.int .i64 7) := T1.out.rv.cell 0
  have q4 : W1.cell? ⟨w1.heap.size, 1, none⟩ = some (.slice Y n d) := T1.out.rv.cell 1
  have q5 : W1.cell? ⟨w1.heap.size, 2, none⟩ = some (.bool true) := T1.out.rv.cell 2
  have f3 : W1.frozen? ⟨w1.heap.size, 0, none⟩ = false := T1.out.rv.free 0
  have f4 : W1.frozen? ⟨w1.heap.size, 1, none⟩ = false := T1.out.rv.free 1
  have f5 : W1.frozen? ⟨w1.heap.size, 2, none⟩ = false := T1.out.rv.free 2
  clear hY hb1 x0 x1 x2 X0 B0 B1 HR
  clear q2 q3 q4 q5 f3 f4 f5
  obtain ⟨W3, hW3⟩ : ∃ W3, W1.setCell ⟨w.heap.size, 0, none⟩ (.string tx) = W3 := ⟨_, rfl⟩
  have A3 := Lib.hid (show Has b mb m bs W3 by rw [← hW3]; exact T1.out.has.far T1.out.box (by decide) (by omega) 0 _)
  have X3 := Lib.hid (show W3.cell? ⟨w.heap.size, 0, none⟩ = some (.string tx) by rw [← hW3]; exact (T1.out.box.set 0 _).cell 0)
  have K3 := Lib.hid (show Kp b w W3 by rw [← hW3]; exact T1.out.kp.new _ (Nat.le_refl _) (Nat.le_of_lt hbl) _)
  have B3 := Lib.hid (show HB W3 w.heap.size #[.string tx, .string tx, .slice X n k] 25 by rw [← hW3]; exact (T1.out.box.set 0 _))
  have KX := Lib.hid (fun (w' : World) (hk : Kp b W3 w') => show w'.cell? ⟨w.heap.size, 0, none⟩ = some (.string tx) from (B3.out.kp hk (by omega) (by decide)).cell 0)
  go_wp2_with fail
  try rw [hW1]
  try rw [hW3]
  go_region_held3 (fun w' => (w'.cell? ⟨w.heap.size, 0, none⟩ = some (.string tx)) ∧ Kp b W3 w')
    (first | assumption | (exact ⟨KX.out _ ((Kp.refl b W3).drew.trans hk5), (Kp.refl b W3).drew.trans hk5⟩) | (exact ⟨KX.out _ (Kp.refl b W3).drew, (Kp.refl b W3).drew⟩))
    (first | (go_at_call 28; with_reducible refine (HW.out bs tx _ ?ce ?cl).mono ?_; (case ce => exact (A3.out.below (Below.drew (Below.refl _ _))).wr); (case cl => (have h1 : tx.size = tv.length := by rw [HTX.out]; exact size_list _); (rw [h1]; simp at hl ⊢; omega)); rintro e w5 ⟨rfl, hw5, hk5⟩))
  have A5 := Lib.hid (show Wr w5 b mb (bs ++ tv) by have h := hw5; rw [HTX.out] at h; exact h)
  have K5 := Lib.hid (K3.out.trans ((Kp.refl b W3).drew.trans hk5))
  clear hw5 hk5
  go_wp2
  go_end0
  exact ⟨rfl, A5.out, K5.out⟩
set_option maxHeartbeats 16000000 in
set_option maxRecDepth 100000 in
theorem enode_sText {b mb : Nat} {m : Int} (tv : List UInt8) (ho : Okay (.leaf sText tv)) : Nd b mb m (.leaf sText tv) := by
  intro S op tx X n k bs w h hS hn hl
  have hbl := h.lt
  have hsh : sh (.leaf sText tv) = showL 4 0 ⟨tv.toArray⟩ := rfl
  rw [hsh] at hl ⊢
  clear hsh
  have hR := fun (w' : World) (hb : Below w.heap.size w w') => node_rule (h.below hb) ho (hn.kp hS (hb.mono (Nat.le_of_lt hbl))) (7, [], true) (by simp only [opOf]; decide)
  unfold RulePost at hR
  dsimp only at hR
  obtain rfl : op = ⟨#[116, 101, 120, 116]⟩ := hn.op_eq.1
  have HTX := Lib.hid (show tx = ⟨tv.toArray⟩ from hn.op_eq.2)
  have HR := Lib.hid hR
  have HH := Lib.hid h
  have HN := Lib.hid hn
  have HS := Lib.hid hS
  clear hR h hn hS
  have hW := fun (bs' : List UInt8) (s : ByteArray) (w' : World) (h' : Wr w' b mb bs') (hl' : bs'.length + s.size ≤ 1000000) => ewrite_any b mb bs' s w' h' hl'
  have HW := Lib.hid hW
  clear hW
  go_enter Tryz.func20, Tryz.ntmps20
  obtain ⟨w0, hw0⟩ : ∃ w0, w.alloc (.cells #[.string ⟨#[116, 101, 120, 116]⟩, .string tx, .slice X n k] 25) = w0 := ⟨_, rfl⟩
  have B0 := Lib.hid (show Below w.heap.size w w0 by rw [← hw0]; exact below_alloc w _)
  have X0 := Lib.hid (show HB w0 w.heap.size #[.string ⟨#[116, 101, 120, 116]⟩, .string tx, .slice X n k] 25 by rw [← hw0]; exact HB.fresh w _ _)
  have x0 : w0.cell? ⟨w.heap.size, 0, none⟩ = some (.string ⟨#[116, 101, 120, 116]⟩) := X0.out.cell 0
  have x1 : w0.cell? ⟨w.heap.size, 1, none⟩ = some (.string tx) := X0.out.cell 1
  have x2 : w0.cell? ⟨w.heap.size, 2, none⟩ = some (.slice X n k) := X0.out.cell 2
  go_wp2_with fail
  try rw [hw0]
  refine (HR.out _ B0.out).mono ?_
  rintro e w1 ⟨Y, d, rfl, hY, hb1⟩
  have hz0 : w.heap.size < w0.heap.size := by rw [← hw0]; simp
  have z1 := hb1.size
  have hbz : b < w1.heap.size := by omega
  obtain ⟨W1, hW1⟩ : ∃ W1, w1.alloc (.cells #[.int .i64 7, .slice Y n d, .bool true] 74) = W1 := ⟨_, rfl⟩
  have B1 := Lib.hid (show Below w.heap.size w W1 by rw [← hW1]; exact (bnext B0.out B0.out.size hb1).alloc (by omega) _)
  have T1 := Lib.hid (show NSt b mb m w S (.leaf sText tv) ⟨#[116, 101, 120, 116]⟩ ⟨#[116, 101, 120, 116]⟩ tx X n k 7 [] true Y d w.heap.size w1.heap.size bs W1 from
    ⟨HH.out.below B1.out, by rw [← hW1]; exact (X0.out.below hb1).alloc _, by rw [← hW1]; exact HB.fresh w1 _ _, by rw [← hW1]; exact hY.below ((bnext (Below.refl _ _) (Nat.le_refl _) hb1).mono (by omega) |>.trans ((below_alloc w1 _).mono (by omega))), HN.out.kp HS.out (B1.out.mono (by omega)), (Kp.refl b w).next (by omega) B1.out⟩)
  have q0 : W1.cell? ⟨w.heap.size, 0, none⟩ = some (.string ⟨#[116, 101, 120, 116]⟩) := T1.out.box.cell 0
  have q1 : W1.cell? ⟨w.heap.size, 1, none⟩ = some (.string tx) := T1.out.box.cell 1
  have q2 : W1.cell? ⟨w.heap.size, 2, none⟩ = some (.slice X n k) := T1.out.box.cell 2
  have f0 : W1.frozen? ⟨w.heap.size, 0, none⟩ = false := T1.out.box.free 0
  have f1 : W1.frozen? ⟨w.heap.size, 1, none⟩ = false := T1.out.box.free 1
  have q3 : W1.cell? ⟨w1.heap.size, 0, none⟩ = some (.int .i64 7) := T1.out.rv.cell 0
  have q4 : W1.cell? ⟨w1.heap.size, 1, none⟩ = some (.slice Y n d) := T1.out.rv.cell 1
  have q5 : W1.cell? ⟨w1.heap.size, 2, none⟩ = some (.bool true) := T1.out.rv.cell 2
  have f3 : W1.frozen? ⟨w1.heap.size, 0, none⟩ = false := T1.out.rv.free 0
  have f4 : W1.frozen? ⟨w1.heap.size, 1, none⟩ = false := T1.out.rv.free 1
  have f5 : W1.frozen? ⟨w1.heap.size, 2, none⟩ = false := T1.out.rv.free 2
  clear hY hb1 x0 x1 x2 X0 B0 B1 HR
  clear q2 q3 q4 q5 f3 f4 f5
  obtain ⟨V, hV⟩ : ∃ V : ByteArray, ⟨(showL 4 0 tx).toArray⟩ = V := ⟨_, rfl⟩
  have HVV := Lib.hid hV
  have HSH := Lib.hid (fun (w' : World) (hg : Glob w'.heap.size m w') => show Calls Tryz.prog 29 #[.agg #[.int .i64 4, .int .i64 0, .string tx]] w' fun e w'' => e = .returned (.string V) ∧ Below w'.heap.size w' w'' by
    have h := vshow_any 4 0 tx m w' fits0 hg
    rw [hV] at h
    exact h)
  clear hV
  go_wp2_with fail
  try rw [hW1]
  refine (HSH.out _ T1.out.has.ev.at.gl).mono ?_
  rintro e w2 ⟨rfl, hb2⟩
  have A2 := Lib.hid (T1.out.has.below hb2)
  have X2 := Lib.hid (T1.out.box.below hb2)
  have K2 := Lib.hid (T1.out.kp.next (Nat.le_of_lt T1.out.has.lt) hb2)
  have r1 : w2.cell? ⟨w.heap.size, 1, none⟩ = some (.string tx) := X2.out.cell 1
  have r0 : w2.cell? ⟨w.heap.size, 0, none⟩ = some (.string ⟨#[116, 101, 120, 116]⟩) := X2.out.cell 0
  have g1 : w2.frozen? ⟨w.heap.size, 1, none⟩ = false := X2.out.free 1
  have g0 : w2.frozen? ⟨w.heap.size, 0, none⟩ = false := X2.out.free 0
  clear hb2 q0 q1 f0 f1
  obtain ⟨W3, hW3⟩ : ∃ W3, (w2.setCell ⟨w.heap.size, 1, none⟩ (.string V)).setCell ⟨w.heap.size, 0, none⟩ (.string V) = W3 := ⟨_, rfl⟩
  have A3 := Lib.hid (show Has b mb m bs W3 by rw [← hW3]; exact (A2.out.far X2.out (by decide) (by omega) 1 _).far (X2.out.set 1 _) (by decide) (by omega) 0 _)
  have X3 := Lib.hid (show W3.cell? ⟨w.heap.size, 0, none⟩ = some (.string V) by rw [← hW3]; exact ((X2.out.set 1 _).set 0 _).cell 0)
  have K3 := Lib.hid (show Kp b w W3 by rw [← hW3]; exact (K2.out.new _ (Nat.le_refl _) (Nat.le_of_lt hbl) _).new _ (Nat.le_refl _) (Nat.le_of_lt hbl) _)
  have B3 := Lib.hid (show HB W3 w.heap.size #[.string V, .string V, .slice X n k] 25 by rw [← hW3]; exact ((X2.out.set 1 _).set 0 _))
  have KX := Lib.hid (fun (w' : World) (hk : Kp b W3 w') => show w'.cell? ⟨w.heap.size, 0, none⟩ = some (.string V) from (B3.out.kp hk (by omega) (by decide)).cell 0)
  go_wp2_with fail
  try rw [hW1]
  try rw [hW3]
  go_region_held3 (fun w' => (w'.cell? ⟨w.heap.size, 0, none⟩ = some (.string V)) ∧ Kp b W3 w')
    (first | assumption | (exact ⟨KX.out _ ((Kp.refl b W3).drew.trans hk5), (Kp.refl b W3).drew.trans hk5⟩) | (exact ⟨KX.out _ (Kp.refl b W3).drew, (Kp.refl b W3).drew⟩))
    (first | (go_at_call 28; with_reducible refine (HW.out bs V _ ?ce ?cl).mono ?_; (case ce => exact (A3.out.below (Below.drew (Below.refl _ _))).wr); (case cl => (have h1 : V.size = (showL 4 0 tx).length := by rw [← HVV.out]; exact size_list _); (rw [h1, HTX.out]; simp at hl ⊢; omega)); rintro e w5 ⟨rfl, hw5, hk5⟩))
  have A5 := Lib.hid (show Wr w5 b mb (bs ++ showL 4 0 ⟨tv.toArray⟩) by have h := hw5; rw [← HVV.out, HTX.out] at h; exact h)
  have K5 := Lib.hid (K3.out.trans ((Kp.refl b W3).drew.trans hk5))
  clear hw5 hk5
  go_wp2
  go_end0
  exact ⟨rfl, A5.out, K5.out⟩
end Go.Proofs.YtpohpgahnompbaaGreatDoor.Code

/-
  The program's Show at the nodes of the live question: the node's text, in plain words.
-/
namespace Go.Proofs.YtpohpgahnompbaaGreatDoor.Code
open Go.ChangeShapes Go.WideShapes Go.ChangeAt Go.RowKit Val Elems
set_option linter.unusedVariables false
set_option linter.unusedSimpArgs false
theorem enode_any {b mb : Nat} {m : Int} : ∀ (t : Tr), Okay t → Nd b mb m t
  | .leaf op tx, h => by
    have h' := h
    rcases h' with rfl | rfl | rfl
    · exact enode_sNum tx h
    · exact enode_sCol tx h
    · exact enode_sText tx h
  | .one op x, h => by
    have h' := h.1
    have ih := enode_any (b := b) (mb := mb) (m := m) x h.2
    rcases h' with rfl | rfl | rfl
    · exact enode_neg x h ih
    · exact enode_not x h ih
    · exact enode_isn x h ih
  | .two op x y, h => by
    have h' := h.1
    have ih := enode_any (b := b) (mb := mb) (m := m) x h.2.1
    have ih2 := enode_any (b := b) (mb := mb) (m := m) y h.2.2
    rcases h' with rfl | rfl | rfl | rfl
    · exact enode_sAnd x y h ih ih2
    · exact enode_le x y h ih ih2
    · exact enode_minus x y h ih ih2
    · exact enode_times x y h ih ih2
theorem wr_fresh (w : World) (mb : Nat) : Wr (w.alloc (.cells #[.map (some mb), .pointer none, .slice none 0 0] 53)) w.heap.size mb [] :=
  .inl ⟨_, HB.fresh w _ _, by show World.ownsRow _ _ _ _ _ 0 _; exact World.ownsRow_nil _ _ _ _, by simp [Value.ownBlock]⟩
set_option maxHeartbeats 8000000 in
set_option maxRecDepth 100000 in
theorem eshow_any (t : Tr) (ho : Okay t) (hl : (sh t).length ≤ 1000) (h0 : sh t ≠ []) (m : Int) (S : Nat → Prop) (op tx : ByteArray) (X : Option Addr) (n k : Nat) (w : World) (he : Env w.heap.size m w) (hS : ∀ g, S g → g < w.heap.size) (hn : NIn w S t (.string op) (.string tx) (.slice X n k)) :
    Calls Tryz.prog 10 #[.agg #[.string op, .string tx, .slice X n k]] w fun e w' => e = .returned (.string ⟨(sh t).toArray⟩) ∧ Below w.heap.size w w' := by
  have HE := Lib.hid he
  have HS := Lib.hid hS
  have HN := Lib.hid hn
  have HRU := Lib.hid (fun w' => erules_any w')
  obtain ⟨s, hs⟩ : ∃ s, sh t = s := ⟨_, rfl⟩
  have HSH := Lib.hid hs
  rw [hs] at hl h0 ⊢
  have H0 := Lib.hid h0
  clear he hS hn hs h0
  go_enter Tryz.func10, Tryz.ntmps10
  obtain ⟨w0, hw0⟩ : ∃ w0, w.alloc (.cells #[.string op, .string tx, .slice X n k] 25) = w0 := ⟨_, rfl⟩
  have B0 := Lib.hid (show Below w.heap.size w w0 by rw [← hw0]; exact below_alloc w _)
  have X0 := Lib.hid (show HB w0 w.heap.size #[.string op, .string tx, .slice X n k] 25 by rw [← hw0]; exact HB.fresh w _ _)
  have hz0 : w.heap.size < w0.heap.size := by rw [← hw0]; simp
  go_wp2_with fail
  try rw [hw0]
  refine (HRU.out _).mono ?_
  rintro e w1 ⟨mb, rfl, hru, hb1⟩
  have z1 := hb1.size
  obtain ⟨W1, hW1⟩ : ∃ W1, w1.alloc (.cells #[.map (some mb), .pointer none, .slice none 0 0] 53) = W1 := ⟨_, rfl⟩
  have B1 := Lib.hid (show Below w.heap.size w W1 by rw [← hW1]; exact (bnext B0.out B0.out.size hb1).alloc (by omega) _)
  have A1 := Lib.hid (show Has w1.heap.size mb m [] W1 from ⟨by rw [← hW1]; exact wr_fresh w1 mb, by rw [← hW1]; exact hru.below (below_alloc w1 _), (HE.out.below B1.out).more (by omega)⟩)
  have X1 := Lib.hid (show HB W1 w.heap.size #[.string op, .string tx, .slice X n k] 25 by rw [← hW1]; exact (X0.out.below hb1).alloc _)
  have N1 := Lib.hid (HN.out.below HS.out B1.out)
  have X2 := X0.out.below hb1
  have q0 : ∀ o, (w1.alloc o).cell? ⟨w.heap.size, 0, none⟩ = some (.string op) := fun o => (X2.alloc o).cell 0
  have q1 : ∀ o, (w1.alloc o).cell? ⟨w.heap.size, 1, none⟩ = some (.string tx) := fun o => (X2.alloc o).cell 1
  have q2 : ∀ o, (w1.alloc o).cell? ⟨w.heap.size, 2, none⟩ = some (.slice X n k) := fun o => (X2.alloc o).cell 2
  have HW1 := Lib.hid hW1
  have HND := Lib.hid (show Calls Tryz.prog 20 #[.pointer (some ⟨w1.heap.size, 0, none⟩), .agg #[.string op, .string tx, .slice X n k]] W1 (fun e w' => e = .returned (.tuple #[]) ∧ Wr w' w1.heap.size mb s ∧ Kp w1.heap.size W1 w') by
    have h := enode_any t ho S op tx X n k [] W1 A1.out (fun g hg => by have := HS.out g hg; omega) N1.out (by rw [HSH.out]; simpa using hl)
    rw [HSH.out] at h
    exact h)
  clear hru hb1 X0 B0 HRU hW1 X2
  go_wp2_with fail
  rw [HW1.out]
  refine HND.out.mono ?_
  rintro e w2 ⟨rfl, hw2, hk2⟩
  have B2 := Lib.hid (B1.out.trans (hk2.bl.mono (by omega)))
  have HST := Lib.hid (estring_any w1.heap.size mb s w2 hw2 H0.out)
  clear hw2 hk2 q0 q1 q2
  go_wp2_with fail
  refine HST.out.mono ?_
  rintro e w3 ⟨rfl, hb3⟩
  have B3 := Lib.hid (B2.out.trans (hb3.mono (by omega)))
  clear hb3
  go_wp2
  go_ret
  exact ⟨rfl, B3.out⟩
end Go.Proofs.YtpohpgahnompbaaGreatDoor.Code

/-
  The live question of layer 9, with the program's Parse, Show and Deep by their contracts.
-/
namespace Go.Proofs.YtpohpgahnompbaaGreatDoor.Code
open Go.ChangeShapes Go.WideShapes Go.ChangeAt Go.RowKit Val Elems
set_option linter.unusedVariables false
set_option linter.unusedSimpArgs false
set_option maxHeartbeats 4000000 in
set_option maxRecDepth 100000 in
theorem alive_of (w : World)
    (hP : ∀ t : ByteArray, t.size ≤ 404 → ∀ w0, Below w.heap.size w w0 → Calls Tryz.prog 6 #[.string t] w0 (ParsePost w0 (parseL t.data.toList)))
    (hD : ∀ (S : Nat → Prop) (op tx : ByteArray) (X : Option Addr) (n m : Nat) (w : World), (∀ g, S g → g < w.heap.size) → NIn w S aliveT (.string op) (.string tx) (.slice X n m) →
      Calls Tryz.prog 11 #[.agg #[.string op, .string tx, .slice X n m]] w (fun e w' => e = .returned (.int .i64 7) ∧ Below w.heap.size w w'))
    (hS : ∀ (S : Nat → Prop) (op tx : ByteArray) (X : Option Addr) (n m : Nat) (w0 : World), Below w.heap.size w w0 → (∀ g, S g → g < w0.heap.size) → NIn w0 S aliveT (.string op) (.string tx) (.slice X n m) →
      Calls Tryz.prog 10 #[.agg #[.string op, .string tx, .slice X n m]] w0 (fun e w' => e = .returned (.string ⟨#[110, 111, 116, 32, 97, 32, 45, 32, 49, 32, 45, 32, 50, 32, 42, 32, 45, 98, 32, 60, 61, 32, 51, 32, 97, 110, 100, 32, 39, 120, 39, 32, 105, 115, 32, 110, 117, 108, 108]⟩) ∧ Below w0.heap.size w0 w')) :
    Calls Tryz.prog 5 #[] w fun e w' => e = .returned (.bool true) ∧ Below w.heap.size w w' := by
  have h1 := hP ⟨#[110, 111, 116, 32, 97, 32, 45, 32, 49, 32, 45, 32, 48, 50, 32, 42, 32, 45, 98, 32, 60, 61, 32, 51, 32, 97, 110, 100, 32, 39, 120, 39, 32, 105, 115, 32, 110, 117, 108, 108]⟩ (by decide)
  have h2 := hP ⟨#[97, 32, 43, 32]⟩ (by decide)
  have h3 := hP ⟨#[97, 32, 61, 32, 98, 32, 61, 32, 99]⟩ (by decide)
  rw [show (⟨#[110, 111, 116, 32, 97, 32, 45, 32, 49, 32, 45, 32, 48, 50, 32, 42, 32, 45, 98, 32, 60, 61, 32, 51, 32, 97, 110, 100, 32, 39, 120, 39, 32, 105, 115, 32, 110, 117, 108, 108]⟩ : ByteArray).data.toList = aliveS from rfl, alive_1] at h1
  rw [show (⟨#[97, 32, 43, 32]⟩ : ByteArray).data.toList = [97, 32, 43, 32] from rfl, alive_2] at h2
  rw [show (⟨#[97, 32, 61, 32, 98, 32, 61, 32, 99]⟩ : ByteArray).data.toList = [97, 32, 61, 32, 98, 32, 61, 32, 99] from rfl, alive_3] at h3
  unfold ParsePost at h1 h2 h3
  have H1 := Lib.hid h1
  have H2 := Lib.hid h2
  have H3 := Lib.hid h3
  have HD := Lib.hid hD
  have HS := Lib.hid hS
  clear h1 h2 h3 hP hD hS
  go_enter Tryz.func5, Tryz.ntmps5
  go_wp2_with fail
  refine (H1.out _ (Below.refl _ _)).mono ?_
  rintro e w1 ⟨op, tx, X, n, m, rfl, hn1, hb1⟩
  have L1 := Lib.hid (hb1.alloc hb1.size (.cells #[.string op, .string tx, .slice X n m] 25))
  have I1 := Lib.hid ((hn1.imp (S' := fun g => g < w1.heap.size) (fun g hg => hg.2)).alloc (fun g hg => hg) (.cells #[.string op, .string tx, .slice X n m] 25))
  have V1 := Lib.hid (NBox.fresh w1 (.string op) (.string tx) (.slice X n m) 25)
  have z1 := hb1.size
  clear hb1 hn1
  go_wp2_with fail
  refine (H2.out _ L1.out).mono ?_
  rintro e w2 ⟨op2, tx2, X2, n2, m2, rfl, hn2, hb2⟩
  have z2 : w1.heap.size < w2.heap.size := by have := hb2.size; simp at this; omega
  have L2 := Lib.hid ((L1.out.trans (hb2.mono (by simp; omega))).alloc (by omega) (.cells #[.string op2, .string tx2, .slice X2 n2 m2] 25))
  have I2 := Lib.hid ((I1.out.below (fun g hg => by have : g < w1.heap.size := hg; simp; omega) hb2).alloc (fun g hg => by have : g < w1.heap.size := hg; omega) (.cells #[.string op2, .string tx2, .slice X2 n2 m2] 25))
  have V2 := Lib.hid ((V1.out.below hb2).alloc (.cells #[.string op2, .string tx2, .slice X2 n2 m2] 25))
  clear hb2 hn2
  go_wp2_with fail
  refine (H3.out _ L2.out).mono ?_
  rintro e w3 ⟨op3, tx3, X3, n3, m3, rfl, hn3, hb3⟩
  have z3 : w2.heap.size < w3.heap.size := by have := hb3.size; simp at this; omega
  have L3 := Lib.hid ((L2.out.trans (hb3.mono (by simp; omega))).alloc (by omega) (.cells #[.string op3, .string tx3, .slice X3 n3 m3] 25))
  have I3 := Lib.hid ((I2.out.below (fun g hg => by have : g < w1.heap.size := hg; simp; omega) hb3).alloc (fun g hg => by have : g < w1.heap.size := hg; omega) (.cells #[.string op3, .string tx3, .slice X3 n3 m3] 25))
  have V3 := Lib.hid ((V2.out.below hb3).alloc (.cells #[.string op3, .string tx3, .slice X3 n3 m3] 25))
  clear hb3 hn3
  obtain ⟨v0, v1, v2, vf⟩ := V3.out
  go_wp2_with fail
  refine (HS.out _ _ _ _ _ _ _ L3.out (fun g hg => by have : g < w1.heap.size := hg; simp; omega) I3.out).mono ?_
  rintro e w4 ⟨rfl, hb4⟩
  have z4 : w3.heap.size < w4.heap.size := by have := hb4.size; simp at this; omega
  have L4 := Lib.hid (L3.out.trans (hb4.mono (by simp; omega)))
  have I4 := Lib.hid (I3.out.below (fun g hg => by have : g < w1.heap.size := hg; simp; omega) hb4)
  have V4 := Lib.hid (V3.out.below hb4)
  clear hb4 v0 v1 v2 vf
  obtain ⟨v0, v1, v2, vf⟩ := V4.out
  go_wp2_with fail
  refine (HD.out _ _ _ _ _ _ _ (fun g hg => by have : g < w1.heap.size := hg; omega) I4.out).mono ?_
  rintro e w5 ⟨rfl, hb5⟩
  have L5 := Lib.hid (bnext L4.out (by omega) hb5)
  clear hb5
  go_wp2
  go_ret
  exact ⟨by simp, L5.out⟩
end Go.Proofs.YtpohpgahnompbaaGreatDoor.Code
