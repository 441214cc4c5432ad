/-
  Nodes without Kids, and those that are none, are written by the program's writer.
-/
import Derived.Test.YtjbpkpfmgbhlpaaGreatDoorMs10
import Derived.Deep.RegionHeld3
import Derived.Test.YtjbpkpfmgbhlpaaGreatDoorMs11
import Derived.Test.YtjbpkpfmgbhlpaaGreatDoorMs4
set_option maxRecDepth 100000
set_option maxHeartbeats 16000000
open Go.Lib (hid)
namespace Go.Proofs.YtjbpkpfmgbhlpaaGreatDoor.Code
open Go.ChangeShapes Go.WideShapes Go.ChangeAt Go.RowKit Val Elems
set_option linter.unusedVariables false
set_option linter.unusedSimpArgs false
theorem WrAt.far {w : World} {b mb : Nat} {p : Value} {bs : List UInt8} (h : WrAt w b mb p bs) {g : Nat} {cs : Array Value} {t : TypeId} (hb : HB w g cs t) (ht : t ≠ 5) (hg : g ≠ b) (j : Nat) (u : Value) : WrAt (w.setCell ⟨g, j, none⟩ u) b mb p bs := by
 obtain ⟨v, h1, h2, h3⟩ := h
 have hne : v.ownBlock ≠ some g := by
  intro e
  obtain ⟨c, fz, hc⟩ := Lib.ownsRow_kind h2 g e
  have hb' : w.heap[g]? = some (.cells cs t (0, 0)) := hb
  rw [hb'] at hc
  injection hc with hc
  injection hc with _ hc2
  exact ht hc2
 exact ⟨v, h1.far _ hg u, h2.kept (grown_set w g j u) (.inr hne), h3⟩
theorem HasE.far {b mb : Nat} {m : Int} {bs : List UInt8} {w : World} (h : HasE b mb m bs w) {g : Nat} {cs : Array Value} {t : TypeId} (hb : HB w g cs t) (ht : t ≠ 5) (hg : b < g) (j : Nat) (u : Value) : HasE b mb m bs (w.setCell ⟨g, j, none⟩ u) := by
 have hB : Below b w (w.setCell ⟨g, j, none⟩ u) := (Below.refl b w).setCell (Nat.le_of_lt hg) u
 exact ⟨h.wr.elim (fun h => .inl (h.far hb ht (by omega) j u)) (fun h => .inr (h.far hb ht (by omega) j u)), h.ru.below hB, h.ev.below hB⟩
theorem enodeE_num {b mb : Nat} {m : Int} (tv : List UInt8) : NdE b mb m (.mk sNum tv []) := by
 intro S op tx X n k bs w h hS hn ht hl
 have hbl := h.lt
 have hsh : showE (.mk sNum tv []) = tv := showE_good (r := (7, [], true)) (by unfold rE; rw [show ruleE sNum = some (7, [], true) by decide]; dsimp only; rw [if_pos ⟨rfl, .inr rfl⟩])
 rw [hsh] at hl ⊢
 clear hsh
 have hr : rE sNum tv 0 = some (7, [], true) := by unfold rE; rw [show ruleE sNum = some (7, [], true) by decide]; dsimp only; rw [if_pos ⟨rfl, .inr rfl⟩]
 have hR := fun (w' : World) (hb : Below w.heap.size w w') => (show Calls Tryz.prog 147 #[.pointer (some ⟨b, 0, none⟩), .agg #[.string op, .string tx, .slice X n k]] w' (FRule w' b (rE sNum tv 0)) from ruleN (h.below hb) ht (hn.kp hS (hb.mono (Nat.le_of_lt hbl))))
 rw [hr] at hR
 unfold FRule at hR
 dsimp only [List.length_cons, List.length_nil] at hR
 obtain ⟨e1, e2, e3, -⟩ := hn.texts
 dsimp only at e1 e2 e3
 obtain rfl : op = ⟨#[110, 117, 109]⟩ := e1
 have HTX := hid (show tx = ⟨tv.toArray⟩ from e2)
 clear e2
 obtain rfl : n = 0 := e3
 have HR := hid hR
 have HH := hid h
 have HN := hid hn
 have HS := hid hS
 have HT := hid ht
 clear hR h hn hS hr ht
 have hW := fun (bs' : List UInt8) (s : ByteArray) (w' : World) (h' : Wr w' b mb bs') (hl' : bs'.length + s.size ≤ 1000000) => ewrite_any b mb bs' s w' h' hl'
 have HW := hid hW
 clear hW
 go_enter Tryz.func135, Tryz.ntmps135
 obtain ⟨w0, hw0⟩ : ∃ w0, w.alloc (.cells #[.string ⟨#[110, 117, 109]⟩, .string tx, .slice X 0 k] 25) = w0 := ⟨_, rfl⟩
 have B0 := hid (show Below w.heap.size w w0 by rw [← hw0]; exact below_alloc w _)
 have X0 := hid (show HB w0 w.heap.size #[.string ⟨#[110, 117, 109]⟩, .string tx, .slice X 0 k] 25 by rw [← hw0]; exact HB.fresh w _ _)
 have x0 : w0.cell? ⟨w.heap.size, 0, none⟩ = some (.string ⟨#[110, 117, 109]⟩) := X0.out.cell 0
 have x1 : w0.cell? ⟨w.heap.size, 1, none⟩ = some (.string tx) := X0.out.cell 1
 have x2 : w0.cell? ⟨w.heap.size, 2, none⟩ = some (.slice X 0 k) := X0.out.cell 2
 go_wp2_with fail
 try rw [hw0]
 refine (HR.out _ B0.out).mono ?_
 rintro e w1 ⟨Y, d, rfl, hY, hb1⟩
 have hz0 : w.heap.size < w0.heap.size := by rw [← hw0]; simp
 have z1 := hb1.size
 have hbz : b < w1.heap.size := by omega
 obtain ⟨W1, hW1⟩ : ∃ W1, w1.alloc (.cells #[.int .i64 7, .slice Y 0 d, .bool true] 150) = W1 := ⟨_, rfl⟩
 have B1 := hid (show Below w.heap.size w W1 by rw [← hW1]; exact (bnext B0.out B0.out.size hb1).alloc (by omega) _)
 have RV := hid (show HB W1 w1.heap.size #[.int .i64 7, .slice Y 0 d, .bool true] 150 by rw [← hW1]; exact HB.fresh w1 _ _)
 have LV := hid (show LvAt W1 b [] Y by rw [← hW1]; exact hY.below ((bnext (Below.refl _ _) (Nat.le_refl _) hb1).mono (by omega) |>.trans ((below_alloc w1 _).mono (by omega))))
 have T1 := hid (show ESt b mb m w S (.mk sNum tv []) ⟨#[110, 117, 109]⟩ ⟨#[110, 117, 109]⟩ tx X 0 k w.heap.size bs W1 from
  ⟨HH.out.below B1.out, by rw [← hW1]; exact (X0.out.below hb1).alloc _, HN.out.kp HS.out (B1.out.mono (by omega)), (Kp.refl b w).next (by omega) B1.out⟩)
 have q0 : W1.cell? ⟨w.heap.size, 0, none⟩ = some (.string ⟨#[110, 117, 109]⟩) := T1.out.box.cell 0
 have q1 : W1.cell? ⟨w.heap.size, 1, none⟩ = some (.string tx) := T1.out.box.cell 1
 have q2 : W1.cell? ⟨w.heap.size, 2, none⟩ = some (.slice X 0 k) := T1.out.box.cell 2
 have f0 : W1.frozen? ⟨w.heap.size, 0, none⟩ = false := T1.out.box.free 0
 have f1 : W1.frozen? ⟨w.heap.size, 1, none⟩ = false := T1.out.box.free 1
 have q3 : W1.cell? ⟨w1.heap.size, 0, none⟩ = some (.int .i64 7) := RV.out.cell 0
 have q4 : W1.cell? ⟨w1.heap.size, 1, none⟩ = some (.slice Y 0 d) := RV.out.cell 1
 have q5 : W1.cell? ⟨w1.heap.size, 2, none⟩ = some (.bool true) := RV.out.cell 2
 clear hY hb1 x0 x1 x2 X0 B0 B1 HR
 clear q2 q3 q4 q5
 obtain ⟨W3, hW3⟩ : ∃ W3, W1.setCell ⟨w.heap.size, 0, none⟩ (.string tx) = W3 := ⟨_, rfl⟩
 have A3 := hid (show HasE b mb m bs W3 by rw [← hW3]; exact T1.out.has.far T1.out.box (by decide) (by omega) 0 _)
 have B3 := hid (show HB W3 w.heap.size #[.string tx, .string tx, .slice X 0 k] 25 by rw [← hW3]; exact (T1.out.box.set 0 _))
 have K3 := hid (show Kp b w W3 by rw [← hW3]; exact T1.out.kp.new _ (Nat.le_refl _) (Nat.le_of_lt hbl) _)
 have KX := hid (fun (w' : World) (hk : Kp b W3 w') => show w'.cell? ⟨w.heap.size, 0, none⟩ = some (.string tx) from (B3.out.kp hk (by omega) (by decide)).cell 0)
 go_wp2_with fail
 try rw [hW1]
 try rw [hW3]
 go_region_held3 (fun w' => (w'.cell? ⟨w.heap.size, 0, none⟩ = some (.string tx)) ∧ Kp b W3 w')
  (first | assumption | (exact ⟨KX.out _ ((Kp.refl b W3).drew.trans hk5), (Kp.refl b W3).drew.trans hk5⟩) | (exact ⟨KX.out _ (Kp.refl b W3).drew, (Kp.refl b W3).drew⟩))
  (first | (go_at_call 66; with_reducible refine (HW.out bs tx _ ?ce ?cl).mono ?_; (case ce => exact (A3.out.below (Below.drew (Below.refl _ _))).wr); (case cl => (have h1 : tx.size = tv.length := by rw [HTX.out]; exact size_list _); (rw [h1]; simp at hl ⊢; omega)); rintro e w5 ⟨rfl, hw5, hk5⟩))
 have A5 := hid (show Wr w5 b mb (bs ++ tv) by have h := hw5; rw [HTX.out] at h; exact h)
 have K5 := hid (K3.out.trans ((Kp.refl b W3).drew.trans hk5))
 clear hw5 hk5
 go_wp2
 go_end0
 exact ⟨rfl, A5.out, K5.out⟩
theorem enodeE_col {b mb : Nat} {m : Int} (tv : List UInt8) : NdE b mb m (.mk sCol tv []) := by
 intro S op tx X n k bs w h hS hn ht hl
 have hbl := h.lt
 have hsh : showE (.mk sCol tv []) = tv := showE_good (r := (7, [], true)) (by unfold rE; rw [show ruleE sCol = some (7, [], true) by decide]; dsimp only; rw [if_pos ⟨rfl, .inr rfl⟩])
 rw [hsh] at hl ⊢
 clear hsh
 have hr : rE sCol tv 0 = some (7, [], true) := by unfold rE; rw [show ruleE sCol = some (7, [], true) by decide]; dsimp only; rw [if_pos ⟨rfl, .inr rfl⟩]
 have hR := fun (w' : World) (hb : Below w.heap.size w w') => (show Calls Tryz.prog 147 #[.pointer (some ⟨b, 0, none⟩), .agg #[.string op, .string tx, .slice X n k]] w' (FRule w' b (rE sCol tv 0)) from ruleN (h.below hb) ht (hn.kp hS (hb.mono (Nat.le_of_lt hbl))))
 rw [hr] at hR
 unfold FRule at hR
 dsimp only [List.length_cons, List.length_nil] at hR
 obtain ⟨e1, e2, e3, -⟩ := hn.texts
 dsimp only at e1 e2 e3
 obtain rfl : op = ⟨#[99, 111, 108]⟩ := e1
 have HTX := hid (show tx = ⟨tv.toArray⟩ from e2)
 clear e2
 obtain rfl : n = 0 := e3
 have HR := hid hR
 have HH := hid h
 have HN := hid hn
 have HS := hid hS
 have HT := hid ht
 clear hR h hn hS hr ht
 have hW := fun (bs' : List UInt8) (s : ByteArray) (w' : World) (h' : Wr w' b mb bs') (hl' : bs'.length + s.size ≤ 1000000) => ewrite_any b mb bs' s w' h' hl'
 have HW := hid hW
 clear hW
 go_enter Tryz.func135, Tryz.ntmps135
 obtain ⟨w0, hw0⟩ : ∃ w0, w.alloc (.cells #[.string ⟨#[99, 111, 108]⟩, .string tx, .slice X 0 k] 25) = w0 := ⟨_, rfl⟩
 have B0 := hid (show Below w.heap.size w w0 by rw [← hw0]; exact below_alloc w _)
 have X0 := hid (show HB w0 w.heap.size #[.string ⟨#[99, 111, 108]⟩, .string tx, .slice X 0 k] 25 by rw [← hw0]; exact HB.fresh w _ _)
 have x0 : w0.cell? ⟨w.heap.size, 0, none⟩ = some (.string ⟨#[99, 111, 108]⟩) := X0.out.cell 0
 have x1 : w0.cell? ⟨w.heap.size, 1, none⟩ = some (.string tx) := X0.out.cell 1
 have x2 : w0.cell? ⟨w.heap.size, 2, none⟩ = some (.slice X 0 k) := X0.out.cell 2
 go_wp2_with fail
 try rw [hw0]
 refine (HR.out _ B0.out).mono ?_
 rintro e w1 ⟨Y, d, rfl, hY, hb1⟩
 have hz0 : w.heap.size < w0.heap.size := by rw [← hw0]; simp
 have z1 := hb1.size
 have hbz : b < w1.heap.size := by omega
 obtain ⟨W1, hW1⟩ : ∃ W1, w1.alloc (.cells #[.int .i64 7, .slice Y 0 d, .bool true] 150) = W1 := ⟨_, rfl⟩
 have B1 := hid (show Below w.heap.size w W1 by rw [← hW1]; exact (bnext B0.out B0.out.size hb1).alloc (by omega) _)
 have RV := hid (show HB W1 w1.heap.size #[.int .i64 7, .slice Y 0 d, .bool true] 150 by rw [← hW1]; exact HB.fresh w1 _ _)
 have LV := hid (show LvAt W1 b [] Y by rw [← hW1]; exact hY.below ((bnext (Below.refl _ _) (Nat.le_refl _) hb1).mono (by omega) |>.trans ((below_alloc w1 _).mono (by omega))))
 have T1 := hid (show ESt b mb m w S (.mk sCol tv []) ⟨#[99, 111, 108]⟩ ⟨#[99, 111, 108]⟩ tx X 0 k w.heap.size bs W1 from
  ⟨HH.out.below B1.out, by rw [← hW1]; exact (X0.out.below hb1).alloc _, HN.out.kp HS.out (B1.out.mono (by omega)), (Kp.refl b w).next (by omega) B1.out⟩)
 have q0 : W1.cell? ⟨w.heap.size, 0, none⟩ = some (.string ⟨#[99, 111, 108]⟩) := T1.out.box.cell 0
 have q1 : W1.cell? ⟨w.heap.size, 1, none⟩ = some (.string tx) := T1.out.box.cell 1
 have q2 : W1.cell? ⟨w.heap.size, 2, none⟩ = some (.slice X 0 k) := T1.out.box.cell 2
 have f0 : W1.frozen? ⟨w.heap.size, 0, none⟩ = false := T1.out.box.free 0
 have f1 : W1.frozen? ⟨w.heap.size, 1, none⟩ = false := T1.out.box.free 1
 have q3 : W1.cell? ⟨w1.heap.size, 0, none⟩ = some (.int .i64 7) := RV.out.cell 0
 have q4 : W1.cell? ⟨w1.heap.size, 1, none⟩ = some (.slice Y 0 d) := RV.out.cell 1
 have q5 : W1.cell? ⟨w1.heap.size, 2, none⟩ = some (.bool true) := RV.out.cell 2
 clear hY hb1 x0 x1 x2 X0 B0 B1 HR
 clear q2 q3 q4 q5
 obtain ⟨W3, hW3⟩ : ∃ W3, W1.setCell ⟨w.heap.size, 0, none⟩ (.string tx) = W3 := ⟨_, rfl⟩
 have A3 := hid (show HasE b mb m bs W3 by rw [← hW3]; exact T1.out.has.far T1.out.box (by decide) (by omega) 0 _)
 have B3 := hid (show HB W3 w.heap.size #[.string tx, .string tx, .slice X 0 k] 25 by rw [← hW3]; exact (T1.out.box.set 0 _))
 have K3 := hid (show Kp b w W3 by rw [← hW3]; exact T1.out.kp.new _ (Nat.le_refl _) (Nat.le_of_lt hbl) _)
 have KX := hid (fun (w' : World) (hk : Kp b W3 w') => show w'.cell? ⟨w.heap.size, 0, none⟩ = some (.string tx) from (B3.out.kp hk (by omega) (by decide)).cell 0)
 go_wp2_with fail
 try rw [hW1]
 try rw [hW3]
 go_region_held3 (fun w' => (w'.cell? ⟨w.heap.size, 0, none⟩ = some (.string tx)) ∧ Kp b W3 w')
  (first | assumption | (exact ⟨KX.out _ ((Kp.refl b W3).drew.trans hk5), (Kp.refl b W3).drew.trans hk5⟩) | (exact ⟨KX.out _ (Kp.refl b W3).drew, (Kp.refl b W3).drew⟩))
  (first | (go_at_call 66; with_reducible refine (HW.out bs tx _ ?ce ?cl).mono ?_; (case ce => exact (A3.out.below (Below.drew (Below.refl _ _))).wr); (case cl => (have h1 : tx.size = tv.length := by rw [HTX.out]; exact size_list _); (rw [h1]; simp at hl ⊢; omega)); rintro e w5 ⟨rfl, hw5, hk5⟩))
 have A5 := hid (show Wr w5 b mb (bs ++ tv) by have h := hw5; rw [HTX.out] at h; exact h)
 have K5 := hid (K3.out.trans ((Kp.refl b W3).drew.trans hk5))
 clear hw5 hk5
 go_wp2
 go_end0
 exact ⟨rfl, A5.out, K5.out⟩
theorem enodeE_text {b mb : Nat} {m : Int} (tv : List UInt8) : NdE b mb m (.mk sText tv []) := by
 intro S op tx X n k bs w h hS hn ht hl
 have hbl := h.lt
 have hsh : showE (.mk sText tv []) = showL 4 0 ⟨tv.toArray⟩ := showE_good (r := (7, [], true)) (by unfold rE; rw [show ruleE sText = some (7, [], true) by decide]; dsimp only; rw [if_pos ⟨rfl, .inr rfl⟩])
 rw [hsh] at hl ⊢
 clear hsh
 have hr : rE sText tv 0 = some (7, [], true) := by unfold rE; rw [show ruleE sText = some (7, [], true) by decide]; dsimp only; rw [if_pos ⟨rfl, .inr rfl⟩]
 have hR := fun (w' : World) (hb : Below w.heap.size w w') => (show Calls Tryz.prog 147 #[.pointer (some ⟨b, 0, none⟩), .agg #[.string op, .string tx, .slice X n k]] w' (FRule w' b (rE sText tv 0)) from ruleN (h.below hb) ht (hn.kp hS (hb.mono (Nat.le_of_lt hbl))))
 rw [hr] at hR
 unfold FRule at hR
 dsimp only [List.length_cons, List.length_nil] at hR
 obtain ⟨e1, e2, e3, -⟩ := hn.texts
 dsimp only at e1 e2 e3
 obtain rfl : op = ⟨#[116, 101, 120, 116]⟩ := e1
 have HTX := hid (show tx = ⟨tv.toArray⟩ from e2)
 clear e2
 obtain rfl : n = 0 := e3
 have HR := hid hR
 have HH := hid h
 have HN := hid hn
 have HS := hid hS
 have HT := hid ht
 clear hR h hn hS hr ht
 have hW := fun (bs' : List UInt8) (s : ByteArray) (w' : World) (h' : Wr w' b mb bs') (hl' : bs'.length + s.size ≤ 1000000) => ewrite_any b mb bs' s w' h' hl'
 have HW := hid hW
 clear hW
 go_enter Tryz.func135, Tryz.ntmps135
 obtain ⟨w0, hw0⟩ : ∃ w0, w.alloc (.cells #[.string ⟨#[116, 101, 120, 116]⟩, .string tx, .slice X 0 k] 25) = w0 := ⟨_, rfl⟩
 have B0 := hid (show Below w.heap.size w w0 by rw [← hw0]; exact below_alloc w _)
 have X0 := hid (show HB w0 w.heap.size #[.string ⟨#[116, 101, 120, 116]⟩, .string tx, .slice X 0 k] 25 by rw [← hw0]; exact HB.fresh w _ _)
 have x0 : w0.cell? ⟨w.heap.size, 0, none⟩ = some (.string ⟨#[116, 101, 120, 116]⟩) := X0.out.cell 0
 have x1 : w0.cell? ⟨w.heap.size, 1, none⟩ = some (.string tx) := X0.out.cell 1
 have x2 : w0.cell? ⟨w.heap.size, 2, none⟩ = some (.slice X 0 k) := X0.out.cell 2
 go_wp2_with fail
 try rw [hw0]
 refine (HR.out _ B0.out).mono ?_
 rintro e w1 ⟨Y, d, rfl, hY, hb1⟩
 have hz0 : w.heap.size < w0.heap.size := by rw [← hw0]; simp
 have z1 := hb1.size
 have hbz : b < w1.heap.size := by omega
 obtain ⟨W1, hW1⟩ : ∃ W1, w1.alloc (.cells #[.int .i64 7, .slice Y 0 d, .bool true] 150) = W1 := ⟨_, rfl⟩
 have B1 := hid (show Below w.heap.size w W1 by rw [← hW1]; exact (bnext B0.out B0.out.size hb1).alloc (by omega) _)
 have RV := hid (show HB W1 w1.heap.size #[.int .i64 7, .slice Y 0 d, .bool true] 150 by rw [← hW1]; exact HB.fresh w1 _ _)
 have LV := hid (show LvAt W1 b [] Y by rw [← hW1]; exact hY.below ((bnext (Below.refl _ _) (Nat.le_refl _) hb1).mono (by omega) |>.trans ((below_alloc w1 _).mono (by omega))))
 have T1 := hid (show ESt b mb m w S (.mk sText tv []) ⟨#[116, 101, 120, 116]⟩ ⟨#[116, 101, 120, 116]⟩ tx X 0 k w.heap.size bs W1 from
  ⟨HH.out.below B1.out, by rw [← hW1]; exact (X0.out.below hb1).alloc _, HN.out.kp HS.out (B1.out.mono (by omega)), (Kp.refl b w).next (by omega) B1.out⟩)
 have q0 : W1.cell? ⟨w.heap.size, 0, none⟩ = some (.string ⟨#[116, 101, 120, 116]⟩) := T1.out.box.cell 0
 have q1 : W1.cell? ⟨w.heap.size, 1, none⟩ = some (.string tx) := T1.out.box.cell 1
 have q2 : W1.cell? ⟨w.heap.size, 2, none⟩ = some (.slice X 0 k) := T1.out.box.cell 2
 have f0 : W1.frozen? ⟨w.heap.size, 0, none⟩ = false := T1.out.box.free 0
 have f1 : W1.frozen? ⟨w.heap.size, 1, none⟩ = false := T1.out.box.free 1
 have q3 : W1.cell? ⟨w1.heap.size, 0, none⟩ = some (.int .i64 7) := RV.out.cell 0
 have q4 : W1.cell? ⟨w1.heap.size, 1, none⟩ = some (.slice Y 0 d) := RV.out.cell 1
 have q5 : W1.cell? ⟨w1.heap.size, 2, none⟩ = some (.bool true) := RV.out.cell 2
 clear hY hb1 x0 x1 x2 X0 B0 B1 HR
 clear q2 q3 q4 q5
 obtain ⟨V, hV⟩ : ∃ V : ByteArray, ⟨(showL 4 0 tx).toArray⟩ = V := ⟨_, rfl⟩
 have HVV := hid hV
 have HSH := hid (fun (w' : World) (hg : Glob w'.heap.size m w') => show Calls Tryz.prog 148 #[.agg #[.int .i64 4, .int .i64 0, .string tx]] w' fun e w'' => e = .returned (.string V) ∧ Below w'.heap.size w' w'' by
  have h := vshow_any 4 0 tx m w' fits0 hg
  rw [hV] at h
  exact h)
 clear hV
 go_wp2_with fail
 try rw [hW1]
 refine (HSH.out _ T1.out.has.ev.at.gl).mono ?_
 rintro e w2 ⟨rfl, hb2⟩
 have A2 := hid (T1.out.has.below hb2)
 have X2 := hid (T1.out.box.below hb2)
 have K2 := hid (T1.out.kp.next (Nat.le_of_lt T1.out.has.lt) hb2)
 have r1 : w2.cell? ⟨w.heap.size, 1, none⟩ = some (.string tx) := X2.out.cell 1
 have r0 : w2.cell? ⟨w.heap.size, 0, none⟩ = some (.string ⟨#[116, 101, 120, 116]⟩) := X2.out.cell 0
 have g1 : w2.frozen? ⟨w.heap.size, 1, none⟩ = false := X2.out.free 1
 have g0 : w2.frozen? ⟨w.heap.size, 0, none⟩ = false := X2.out.free 0
 clear hb2 q0 q1 f0 f1
 obtain ⟨W3, hW3⟩ : ∃ W3, (w2.setCell ⟨w.heap.size, 1, none⟩ (.string V)).setCell ⟨w.heap.size, 0, none⟩ (.string V) = W3 := ⟨_, rfl⟩
 have A3 := hid (show HasE b mb m bs W3 by rw [← hW3]; exact (A2.out.far X2.out (by decide) (by omega) 1 _).far (X2.out.set 1 _) (by decide) (by omega) 0 _)
 have B3 := hid (show HB W3 w.heap.size #[.string V, .string V, .slice X 0 k] 25 by rw [← hW3]; exact ((X2.out.set 1 _).set 0 _))
 have K3 := hid (show Kp b w W3 by rw [← hW3]; exact (K2.out.new _ (Nat.le_refl _) (Nat.le_of_lt hbl) _).new _ (Nat.le_refl _) (Nat.le_of_lt hbl) _)
 have KX := hid (fun (w' : World) (hk : Kp b W3 w') => show w'.cell? ⟨w.heap.size, 0, none⟩ = some (.string V) from (B3.out.kp hk (by omega) (by decide)).cell 0)
 go_wp2_with fail
 try rw [hW1]
 try rw [hW3]
 go_region_held3 (fun w' => (w'.cell? ⟨w.heap.size, 0, none⟩ = some (.string V)) ∧ Kp b W3 w')
  (first | assumption | (exact ⟨KX.out _ ((Kp.refl b W3).drew.trans hk5), (Kp.refl b W3).drew.trans hk5⟩) | (exact ⟨KX.out _ (Kp.refl b W3).drew, (Kp.refl b W3).drew⟩))
  (first | (go_at_call 66; with_reducible refine (HW.out bs V _ ?ce ?cl).mono ?_; (case ce => exact (A3.out.below (Below.drew (Below.refl _ _))).wr); (case cl => (have h1 : V.size = (showL 4 0 tx).length := by rw [← HVV.out]; exact size_list _); (rw [h1, HTX.out]; simp at hl ⊢; omega)); rintro e w5 ⟨rfl, hw5, hk5⟩))
 have A5 := hid (show Wr w5 b mb (bs ++ showL 4 0 ⟨tv.toArray⟩) by have h := hw5; rw [← HVV.out, HTX.out] at h; exact h)
 have K5 := hid (K3.out.trans ((Kp.refl b W3).drew.trans hk5))
 clear hw5 hk5
 go_wp2
 go_end0
 exact ⟨rfl, A5.out, K5.out⟩
theorem enodeE_true {b mb : Nat} {m : Int} : NdE b mb m (.mk sTrue [] []) := by
 intro S op tx X n k bs w h hS hn ht hl
 have hbl := h.lt
 have hsh : showE (.mk sTrue [] []) = sTrue := rfl
 rw [hsh] at hl ⊢
 clear hsh
 have hr : rE sTrue [] 0 = some (7, [], false) := by decide
 have hR := fun (w' : World) (hb : Below w.heap.size w w') => (show Calls Tryz.prog 147 #[.pointer (some ⟨b, 0, none⟩), .agg #[.string op, .string tx, .slice X n k]] w' (FRule w' b (rE sTrue [] 0)) from ruleN (h.below hb) ht (hn.kp hS (hb.mono (Nat.le_of_lt hbl))))
 rw [hr] at hR
 unfold FRule at hR
 dsimp only [List.length_cons, List.length_nil] at hR
 obtain ⟨e1, e2, e3, -⟩ := hn.texts
 dsimp only at e1 e2 e3
 obtain rfl : op = ⟨#[116, 114, 117, 101]⟩ := e1
 obtain rfl : tx = ⟨#[]⟩ := e2
 obtain rfl : n = 0 := e3
 obtain ⟨tb, htb⟩ : ∃ q, false = q := ⟨_, rfl⟩
 rw [htb] at hR
 clear htb
 have HR := hid hR
 have HH := hid h
 have HN := hid hn
 have HS := hid hS
 have HT := hid ht
 clear hR h hn hS hr ht
 have hW := fun (bs' : List UInt8) (s : ByteArray) (w' : World) (h' : Wr w' b mb bs') (hl' : bs'.length + s.size ≤ 1000000) => ewrite_any b mb bs' s w' h' hl'
 have HW := hid hW
 clear hW
 go_enter Tryz.func135, Tryz.ntmps135
 obtain ⟨w0, hw0⟩ : ∃ w0, w.alloc (.cells #[.string ⟨#[116, 114, 117, 101]⟩, .string ⟨#[]⟩, .slice X 0 k] 25) = w0 := ⟨_, rfl⟩
 have B0 := hid (show Below w.heap.size w w0 by rw [← hw0]; exact below_alloc w _)
 have X0 := hid (show HB w0 w.heap.size #[.string ⟨#[116, 114, 117, 101]⟩, .string ⟨#[]⟩, .slice X 0 k] 25 by rw [← hw0]; exact HB.fresh w _ _)
 have x0 : w0.cell? ⟨w.heap.size, 0, none⟩ = some (.string ⟨#[116, 114, 117, 101]⟩) := X0.out.cell 0
 have x1 : w0.cell? ⟨w.heap.size, 1, none⟩ = some (.string ⟨#[]⟩) := X0.out.cell 1
 have x2 : w0.cell? ⟨w.heap.size, 2, none⟩ = some (.slice X 0 k) := X0.out.cell 2
 go_wp2_with fail
 try rw [hw0]
 refine (HR.out _ B0.out).mono ?_
 rintro e w1 ⟨Y, d, rfl, hY, hb1⟩
 have hz0 : w.heap.size < w0.heap.size := by rw [← hw0]; simp
 have z1 := hb1.size
 have hbz : b < w1.heap.size := by omega
 obtain ⟨W1, hW1⟩ : ∃ W1, w1.alloc (.cells #[.int .i64 7, .slice Y 0 d, .bool tb] 150) = W1 := ⟨_, rfl⟩
 have B1 := hid (show Below w.heap.size w W1 by rw [← hW1]; exact (bnext B0.out B0.out.size hb1).alloc (by omega) _)
 have RV := hid (show HB W1 w1.heap.size #[.int .i64 7, .slice Y 0 d, .bool tb] 150 by rw [← hW1]; exact HB.fresh w1 _ _)
 have LV := hid (show LvAt W1 b [] Y by rw [← hW1]; exact hY.below ((bnext (Below.refl _ _) (Nat.le_refl _) hb1).mono (by omega) |>.trans ((below_alloc w1 _).mono (by omega))))
 have T1 := hid (show ESt b mb m w S (.mk sTrue [] []) ⟨#[116, 114, 117, 101]⟩ ⟨#[116, 114, 117, 101]⟩ ⟨#[]⟩ X 0 k w.heap.size bs W1 from
  ⟨HH.out.below B1.out, by rw [← hW1]; exact (X0.out.below hb1).alloc _, HN.out.kp HS.out (B1.out.mono (by omega)), (Kp.refl b w).next (by omega) B1.out⟩)
 have q0 : W1.cell? ⟨w.heap.size, 0, none⟩ = some (.string ⟨#[116, 114, 117, 101]⟩) := T1.out.box.cell 0
 have q1 : W1.cell? ⟨w.heap.size, 1, none⟩ = some (.string ⟨#[]⟩) := T1.out.box.cell 1
 have q2 : W1.cell? ⟨w.heap.size, 2, none⟩ = some (.slice X 0 k) := T1.out.box.cell 2
 have f0 : W1.frozen? ⟨w.heap.size, 0, none⟩ = false := T1.out.box.free 0
 have f1 : W1.frozen? ⟨w.heap.size, 1, none⟩ = false := T1.out.box.free 1
 have q3 : W1.cell? ⟨w1.heap.size, 0, none⟩ = some (.int .i64 7) := RV.out.cell 0
 have q4 : W1.cell? ⟨w1.heap.size, 1, none⟩ = some (.slice Y 0 d) := RV.out.cell 1
 have q5 : W1.cell? ⟨w1.heap.size, 2, none⟩ = some (.bool tb) := RV.out.cell 2
 clear hY hb1 x0 x1 x2 X0 B0 B1 HR
 clear q1 q2 q3 q4 q5 f0 f1
 have KX := hid (fun (w' : World) (hk : Kp b W1 w') => show w'.cell? ⟨w.heap.size, 0, none⟩ = some (.string ⟨#[116, 114, 117, 101]⟩) from (T1.out.box.kp hk (by omega) (by decide)).cell 0)
 go_wp2_with fail
 try rw [hW1]
 try rw [hW3]
 go_region_held3 (fun w' => (w'.cell? ⟨w.heap.size, 0, none⟩ = some (.string ⟨#[116, 114, 117, 101]⟩)) ∧ Kp b W1 w')
  (first | assumption | (exact ⟨KX.out _ ((Kp.refl b W1).drew.trans hk5), (Kp.refl b W1).drew.trans hk5⟩) | (exact ⟨KX.out _ (Kp.refl b W1).drew, (Kp.refl b W1).drew⟩))
  (first | (go_at_call 66; with_reducible refine (HW.out bs ⟨#[116, 114, 117, 101]⟩ _ ?ce ?cl).mono ?_; (case ce => exact (T1.out.has.below (Below.drew (Below.refl _ _))).wr); (case cl => (have h1 : (⟨#[116, 114, 117, 101]⟩ : ByteArray).size = 4 := by decide); (have h2 : (sTrue : List UInt8).length = 4 := by decide); omega); rintro e w5 ⟨rfl, hw5, hk5⟩))
 have A5 := hid (show Wr w5 b mb (bs ++ sTrue) by have h := hw5; exact h)
 have K5 := hid (T1.out.kp.trans ((Kp.refl b W1).drew.trans hk5))
 clear hw5 hk5
 go_wp2
 go_end0
 exact ⟨rfl, A5.out, K5.out⟩
theorem enodeE_false {b mb : Nat} {m : Int} : NdE b mb m (.mk sFalse [] []) := by
 intro S op tx X n k bs w h hS hn ht hl
 have hbl := h.lt
 have hsh : showE (.mk sFalse [] []) = sFalse := rfl
 rw [hsh] at hl ⊢
 clear hsh
 have hr : rE sFalse [] 0 = some (7, [], false) := by decide
 have hR := fun (w' : World) (hb : Below w.heap.size w w') => (show Calls Tryz.prog 147 #[.pointer (some ⟨b, 0, none⟩), .agg #[.string op, .string tx, .slice X n k]] w' (FRule w' b (rE sFalse [] 0)) from ruleN (h.below hb) ht (hn.kp hS (hb.mono (Nat.le_of_lt hbl))))
 rw [hr] at hR
 unfold FRule at hR
 dsimp only [List.length_cons, List.length_nil] at hR
 obtain ⟨e1, e2, e3, -⟩ := hn.texts
 dsimp only at e1 e2 e3
 obtain rfl : op = ⟨#[102, 97, 108, 115, 101]⟩ := e1
 obtain rfl : tx = ⟨#[]⟩ := e2
 obtain rfl : n = 0 := e3
 obtain ⟨tb, htb⟩ : ∃ q, false = q := ⟨_, rfl⟩
 rw [htb] at hR
 clear htb
 have HR := hid hR
 have HH := hid h
 have HN := hid hn
 have HS := hid hS
 have HT := hid ht
 clear hR h hn hS hr ht
 have hW := fun (bs' : List UInt8) (s : ByteArray) (w' : World) (h' : Wr w' b mb bs') (hl' : bs'.length + s.size ≤ 1000000) => ewrite_any b mb bs' s w' h' hl'
 have HW := hid hW
 clear hW
 go_enter Tryz.func135, Tryz.ntmps135
 obtain ⟨w0, hw0⟩ : ∃ w0, w.alloc (.cells #[.string ⟨#[102, 97, 108, 115, 101]⟩, .string ⟨#[]⟩, .slice X 0 k] 25) = w0 := ⟨_, rfl⟩
 have B0 := hid (show Below w.heap.size w w0 by rw [← hw0]; exact below_alloc w _)
 have X0 := hid (show HB w0 w.heap.size #[.string ⟨#[102, 97, 108, 115, 101]⟩, .string ⟨#[]⟩, .slice X 0 k] 25 by rw [← hw0]; exact HB.fresh w _ _)
 have x0 : w0.cell? ⟨w.heap.size, 0, none⟩ = some (.string ⟨#[102, 97, 108, 115, 101]⟩) := X0.out.cell 0
 have x1 : w0.cell? ⟨w.heap.size, 1, none⟩ = some (.string ⟨#[]⟩) := X0.out.cell 1
 have x2 : w0.cell? ⟨w.heap.size, 2, none⟩ = some (.slice X 0 k) := X0.out.cell 2
 go_wp2_with fail
 try rw [hw0]
 refine (HR.out _ B0.out).mono ?_
 rintro e w1 ⟨Y, d, rfl, hY, hb1⟩
 have hz0 : w.heap.size < w0.heap.size := by rw [← hw0]; simp
 have z1 := hb1.size
 have hbz : b < w1.heap.size := by omega
 obtain ⟨W1, hW1⟩ : ∃ W1, w1.alloc (.cells #[.int .i64 7, .slice Y 0 d, .bool tb] 150) = W1 := ⟨_, rfl⟩
 have B1 := hid (show Below w.heap.size w W1 by rw [← hW1]; exact (bnext B0.out B0.out.size hb1).alloc (by omega) _)
 have RV := hid (show HB W1 w1.heap.size #[.int .i64 7, .slice Y 0 d, .bool tb] 150 by rw [← hW1]; exact HB.fresh w1 _ _)
 have LV := hid (show LvAt W1 b [] Y by rw [← hW1]; exact hY.below ((bnext (Below.refl _ _) (Nat.le_refl _) hb1).mono (by omega) |>.trans ((below_alloc w1 _).mono (by omega))))
 have T1 := hid (show ESt b mb m w S (.mk sFalse [] []) ⟨#[102, 97, 108, 115, 101]⟩ ⟨#[102, 97, 108, 115, 101]⟩ ⟨#[]⟩ X 0 k w.heap.size bs W1 from
  ⟨HH.out.below B1.out, by rw [← hW1]; exact (X0.out.below hb1).alloc _, HN.out.kp HS.out (B1.out.mono (by omega)), (Kp.refl b w).next (by omega) B1.out⟩)
 have q0 : W1.cell? ⟨w.heap.size, 0, none⟩ = some (.string ⟨#[102, 97, 108, 115, 101]⟩) := T1.out.box.cell 0
 have q1 : W1.cell? ⟨w.heap.size, 1, none⟩ = some (.string ⟨#[]⟩) := T1.out.box.cell 1
 have q2 : W1.cell? ⟨w.heap.size, 2, none⟩ = some (.slice X 0 k) := T1.out.box.cell 2
 have f0 : W1.frozen? ⟨w.heap.size, 0, none⟩ = false := T1.out.box.free 0
 have f1 : W1.frozen? ⟨w.heap.size, 1, none⟩ = false := T1.out.box.free 1
 have q3 : W1.cell? ⟨w1.heap.size, 0, none⟩ = some (.int .i64 7) := RV.out.cell 0
 have q4 : W1.cell? ⟨w1.heap.size, 1, none⟩ = some (.slice Y 0 d) := RV.out.cell 1
 have q5 : W1.cell? ⟨w1.heap.size, 2, none⟩ = some (.bool tb) := RV.out.cell 2
 clear hY hb1 x0 x1 x2 X0 B0 B1 HR
 clear q1 q2 q3 q4 q5 f0 f1
 have KX := hid (fun (w' : World) (hk : Kp b W1 w') => show w'.cell? ⟨w.heap.size, 0, none⟩ = some (.string ⟨#[102, 97, 108, 115, 101]⟩) from (T1.out.box.kp hk (by omega) (by decide)).cell 0)
 go_wp2_with fail
 try rw [hW1]
 try rw [hW3]
 go_region_held3 (fun w' => (w'.cell? ⟨w.heap.size, 0, none⟩ = some (.string ⟨#[102, 97, 108, 115, 101]⟩)) ∧ Kp b W1 w')
  (first | assumption | (exact ⟨KX.out _ ((Kp.refl b W1).drew.trans hk5), (Kp.refl b W1).drew.trans hk5⟩) | (exact ⟨KX.out _ (Kp.refl b W1).drew, (Kp.refl b W1).drew⟩))
  (first | (go_at_call 66; with_reducible refine (HW.out bs ⟨#[102, 97, 108, 115, 101]⟩ _ ?ce ?cl).mono ?_; (case ce => exact (T1.out.has.below (Below.drew (Below.refl _ _))).wr); (case cl => (have h1 : (⟨#[102, 97, 108, 115, 101]⟩ : ByteArray).size = 5 := by decide); (have h2 : (sFalse : List UInt8).length = 5 := by decide); omega); rintro e w5 ⟨rfl, hw5, hk5⟩))
 have A5 := hid (show Wr w5 b mb (bs ++ sFalse) by have h := hw5; exact h)
 have K5 := hid (T1.out.kp.trans ((Kp.refl b W1).drew.trans hk5))
 clear hw5 hk5
 go_wp2
 go_end0
 exact ⟨rfl, A5.out, K5.out⟩
theorem enodeE_null {b mb : Nat} {m : Int} : NdE b mb m (.mk sNull [] []) := by
 intro S op tx X n k bs w h hS hn ht hl
 have hbl := h.lt
 have hsh : showE (.mk sNull [] []) = sNull := rfl
 rw [hsh] at hl ⊢
 clear hsh
 have hr : rE sNull [] 0 = some (7, [], false) := by decide
 have hR := fun (w' : World) (hb : Below w.heap.size w w') => (show Calls Tryz.prog 147 #[.pointer (some ⟨b, 0, none⟩), .agg #[.string op, .string tx, .slice X n k]] w' (FRule w' b (rE sNull [] 0)) from ruleN (h.below hb) ht (hn.kp hS (hb.mono (Nat.le_of_lt hbl))))
 rw [hr] at hR
 unfold FRule at hR
 dsimp only [List.length_cons, List.length_nil] at hR
 obtain ⟨e1, e2, e3, -⟩ := hn.texts
 dsimp only at e1 e2 e3
 obtain rfl : op = ⟨#[110, 117, 108, 108]⟩ := e1
 obtain rfl : tx = ⟨#[]⟩ := e2
 obtain rfl : n = 0 := e3
 obtain ⟨tb, htb⟩ : ∃ q, false = q := ⟨_, rfl⟩
 rw [htb] at hR
 clear htb
 have HR := hid hR
 have HH := hid h
 have HN := hid hn
 have HS := hid hS
 have HT := hid ht
 clear hR h hn hS hr ht
 have hW := fun (bs' : List UInt8) (s : ByteArray) (w' : World) (h' : Wr w' b mb bs') (hl' : bs'.length + s.size ≤ 1000000) => ewrite_any b mb bs' s w' h' hl'
 have HW := hid hW
 clear hW
 go_enter Tryz.func135, Tryz.ntmps135
 obtain ⟨w0, hw0⟩ : ∃ w0, w.alloc (.cells #[.string ⟨#[110, 117, 108, 108]⟩, .string ⟨#[]⟩, .slice X 0 k] 25) = w0 := ⟨_, rfl⟩
 have B0 := hid (show Below w.heap.size w w0 by rw [← hw0]; exact below_alloc w _)
 have X0 := hid (show HB w0 w.heap.size #[.string ⟨#[110, 117, 108, 108]⟩, .string ⟨#[]⟩, .slice X 0 k] 25 by rw [← hw0]; exact HB.fresh w _ _)
 have x0 : w0.cell? ⟨w.heap.size, 0, none⟩ = some (.string ⟨#[110, 117, 108, 108]⟩) := X0.out.cell 0
 have x1 : w0.cell? ⟨w.heap.size, 1, none⟩ = some (.string ⟨#[]⟩) := X0.out.cell 1
 have x2 : w0.cell? ⟨w.heap.size, 2, none⟩ = some (.slice X 0 k) := X0.out.cell 2
 go_wp2_with fail
 try rw [hw0]
 refine (HR.out _ B0.out).mono ?_
 rintro e w1 ⟨Y, d, rfl, hY, hb1⟩
 have hz0 : w.heap.size < w0.heap.size := by rw [← hw0]; simp
 have z1 := hb1.size
 have hbz : b < w1.heap.size := by omega
 obtain ⟨W1, hW1⟩ : ∃ W1, w1.alloc (.cells #[.int .i64 7, .slice Y 0 d, .bool tb] 150) = W1 := ⟨_, rfl⟩
 have B1 := hid (show Below w.heap.size w W1 by rw [← hW1]; exact (bnext B0.out B0.out.size hb1).alloc (by omega) _)
 have RV := hid (show HB W1 w1.heap.size #[.int .i64 7, .slice Y 0 d, .bool tb] 150 by rw [← hW1]; exact HB.fresh w1 _ _)
 have LV := hid (show LvAt W1 b [] Y by rw [← hW1]; exact hY.below ((bnext (Below.refl _ _) (Nat.le_refl _) hb1).mono (by omega) |>.trans ((below_alloc w1 _).mono (by omega))))
 have T1 := hid (show ESt b mb m w S (.mk sNull [] []) ⟨#[110, 117, 108, 108]⟩ ⟨#[110, 117, 108, 108]⟩ ⟨#[]⟩ X 0 k w.heap.size bs W1 from
  ⟨HH.out.below B1.out, by rw [← hW1]; exact (X0.out.below hb1).alloc _, HN.out.kp HS.out (B1.out.mono (by omega)), (Kp.refl b w).next (by omega) B1.out⟩)
 have q0 : W1.cell? ⟨w.heap.size, 0, none⟩ = some (.string ⟨#[110, 117, 108, 108]⟩) := T1.out.box.cell 0
 have q1 : W1.cell? ⟨w.heap.size, 1, none⟩ = some (.string ⟨#[]⟩) := T1.out.box.cell 1
 have q2 : W1.cell? ⟨w.heap.size, 2, none⟩ = some (.slice X 0 k) := T1.out.box.cell 2
 have f0 : W1.frozen? ⟨w.heap.size, 0, none⟩ = false := T1.out.box.free 0
 have f1 : W1.frozen? ⟨w.heap.size, 1, none⟩ = false := T1.out.box.free 1
 have q3 : W1.cell? ⟨w1.heap.size, 0, none⟩ = some (.int .i64 7) := RV.out.cell 0
 have q4 : W1.cell? ⟨w1.heap.size, 1, none⟩ = some (.slice Y 0 d) := RV.out.cell 1
 have q5 : W1.cell? ⟨w1.heap.size, 2, none⟩ = some (.bool tb) := RV.out.cell 2
 clear hY hb1 x0 x1 x2 X0 B0 B1 HR
 clear q1 q2 q3 q4 q5 f0 f1
 have KX := hid (fun (w' : World) (hk : Kp b W1 w') => show w'.cell? ⟨w.heap.size, 0, none⟩ = some (.string ⟨#[110, 117, 108, 108]⟩) from (T1.out.box.kp hk (by omega) (by decide)).cell 0)
 go_wp2_with fail
 try rw [hW1]
 try rw [hW3]
 go_region_held3 (fun w' => (w'.cell? ⟨w.heap.size, 0, none⟩ = some (.string ⟨#[110, 117, 108, 108]⟩)) ∧ Kp b W1 w')
  (first | assumption | (exact ⟨KX.out _ ((Kp.refl b W1).drew.trans hk5), (Kp.refl b W1).drew.trans hk5⟩) | (exact ⟨KX.out _ (Kp.refl b W1).drew, (Kp.refl b W1).drew⟩))
  (first | (go_at_call 66; with_reducible refine (HW.out bs ⟨#[110, 117, 108, 108]⟩ _ ?ce ?cl).mono ?_; (case ce => exact (T1.out.has.below (Below.drew (Below.refl _ _))).wr); (case cl => (have h1 : (⟨#[110, 117, 108, 108]⟩ : ByteArray).size = 4 := by decide); (have h2 : (sNull : List UInt8).length = 4 := by decide); omega); rintro e w5 ⟨rfl, hw5, hk5⟩))
 have A5 := hid (show Wr w5 b mb (bs ++ sNull) by have h := hw5; exact h)
 have K5 := hid (T1.out.kp.trans ((Kp.refl b W1).drew.trans hk5))
 clear hw5 hk5
 go_wp2
 go_end0
 exact ⟨rfl, A5.out, K5.out⟩
theorem enodeE_bad {b mb : Nat} {m : Int} (t : Nod) (hr : rE t.op t.tx t.ks.length = none) : NdE b mb m t := by
 intro S op tx X n k bs w h hS hn ht hl
 have hbl := h.lt
 have hsh : showE t = [63] := by cases t; exact showE_bad hr
 rw [hsh] at hl ⊢
 have hR := fun (w' : World) (hb : Below w.heap.size w w') => ruleN (h.below hb) ht (hn.kp hS (hb.mono (Nat.le_of_lt hbl)))
 rw [hr] at hR
 unfold FRule at hR
 dsimp only at hR
 have HR := hid hR
 have HH := hid h
 have HS := hid hS
 have HW := hid (fun (w' : World) (h' : Wr w' b mb bs) => ewrite_any b mb bs ⟨#[63]⟩ w' h' (by show bs.length + 1 ≤ 1000000; simp at hl; omega))
 clear hR h hn hS hr hsh ht
 go_enter Tryz.func135, Tryz.ntmps135
 obtain ⟨w0, hw0⟩ : ∃ w0, w.alloc (.cells #[.string op, .string tx, .slice X n k] 25) = w0 := ⟨_, rfl⟩
 have B0 := hid (show Below w.heap.size w w0 by rw [← hw0]; exact below_alloc w _)
 have X0 := hid (show HB w0 w.heap.size #[.string op, .string tx, .slice X n k] 25 by rw [← hw0]; exact HB.fresh w _ _)
 have x0 : w0.cell? ⟨w.heap.size, 0, none⟩ = some (.string op) := X0.out.cell 0
 have x1 : w0.cell? ⟨w.heap.size, 1, none⟩ = some (.string tx) := X0.out.cell 1
 have x2 : w0.cell? ⟨w.heap.size, 2, none⟩ = some (.slice X n k) := X0.out.cell 2
 go_wp2_with fail
 try rw [hw0]
 refine (HR.out _ B0.out).mono ?_
 rintro e w1 ⟨rfl, hb1⟩
 have hz0 : w.heap.size < w0.heap.size := by rw [← hw0]; simp
 have z1 := hb1.size
 have B1 := hid ((bnext B0.out B0.out.size hb1).alloc (by omega) (.cells #[.int .i64 7, .slice none 0 0, .bool false] 150))
 clear hb1 x0 x1 x2
 go_wp2_with fail
 refine (HW.out _ (HH.out.below B1.out).wr).mono ?_
 rintro e w2 ⟨rfl, hw2, hk2⟩
 have K2 := hid (((Kp.refl b w).next (by omega) B1.out).trans hk2)
 have A2 := hid hw2
 clear hw2 hk2
 go_wp2
 go_end0
 exact ⟨rfl, A2.out, K2.out⟩
end Go.Proofs.YtjbpkpfmgbhlpaaGreatDoor.Code
/-
  Any node is written by the program's writer as it should.
-/
namespace Go.Proofs.YtjbpkpfmgbhlpaaGreatDoor.Code
open Go.ChangeShapes Go.WideShapes Go.ChangeAt Go.RowKit Val Elems
set_option linter.unusedVariables false
theorem enodeE_any {b mb : Nat} {m : Int} : ∀ (t : Nod), NdE b mb m t
 | .mk op tx [] => by
  cases hr : rE op tx 0 with
  | none => exact enodeE_bad _ hr
  | some r =>
   obtain ⟨h1, h2, h3⟩ := rE_some hr
   have hm := look_mem h1
   clear hr h1
   unfold tblE at hm
   simp only [List.mem_cons, Prod.mk.injEq, List.not_mem_nil, or_false] at hm
   rcases hm with ⟨rfl, rfl⟩ | ⟨rfl, rfl⟩ | ⟨rfl, rfl⟩ | ⟨rfl, rfl⟩ | ⟨rfl, rfl⟩ | ⟨rfl, rfl⟩ | ⟨rfl, rfl⟩ | ⟨rfl, rfl⟩ | ⟨rfl, rfl⟩ | ⟨rfl, rfl⟩ | ⟨rfl, rfl⟩ | ⟨rfl, rfl⟩ | ⟨rfl, rfl⟩ | ⟨rfl, rfl⟩ | ⟨rfl, rfl⟩ | ⟨rfl, rfl⟩ | ⟨rfl, rfl⟩ | ⟨rfl, rfl⟩ | ⟨rfl, rfl⟩ | ⟨rfl, rfl⟩
   ·exact absurd h2 (by simp)
   ·exact absurd h2 (by simp)
   ·exact absurd h2 (by simp)
   ·exact absurd h2 (by simp)
   ·exact absurd h2 (by simp)
   ·exact absurd h2 (by simp)
   ·exact absurd h2 (by simp)
   ·exact absurd h2 (by simp)
   ·exact absurd h2 (by simp)
   ·exact absurd h2 (by simp)
   ·exact absurd h2 (by simp)
   ·exact absurd h2 (by simp)
   ·exact absurd h2 (by simp)
   ·exact absurd h2 (by simp)
   ·exact enodeE_num tx
   ·exact enodeE_text tx
   ·exact enodeE_col tx
   ·obtain rfl : tx = [] := h3.resolve_right (by simp)
    exact enodeE_true
   ·obtain rfl : tx = [] := h3.resolve_right (by simp)
    exact enodeE_false
   ·obtain rfl : tx = [] := h3.resolve_right (by simp)
    exact enodeE_null
 | .mk op tx [x] => by
  have ih := enodeE_any (b := b) (mb := mb) (m := m) x
  cases hr : rE op tx 1 with
  | none => exact enodeE_bad _ hr
  | some r =>
   obtain ⟨h1, h2, h3⟩ := rE_some hr
   have hm := look_mem h1
   clear hr h1
   unfold tblE at hm
   simp only [List.mem_cons, Prod.mk.injEq, List.not_mem_nil, or_false] at hm
   rcases hm with ⟨rfl, rfl⟩ | ⟨rfl, rfl⟩ | ⟨rfl, rfl⟩ | ⟨rfl, rfl⟩ | ⟨rfl, rfl⟩ | ⟨rfl, rfl⟩ | ⟨rfl, rfl⟩ | ⟨rfl, rfl⟩ | ⟨rfl, rfl⟩ | ⟨rfl, rfl⟩ | ⟨rfl, rfl⟩ | ⟨rfl, rfl⟩ | ⟨rfl, rfl⟩ | ⟨rfl, rfl⟩ | ⟨rfl, rfl⟩ | ⟨rfl, rfl⟩ | ⟨rfl, rfl⟩ | ⟨rfl, rfl⟩ | ⟨rfl, rfl⟩ | ⟨rfl, rfl⟩
   ·exact absurd h2 (by simp)
   ·exact absurd h2 (by simp)
   ·obtain rfl : tx = [] := h3.resolve_right (by simp)
    exact enodeE_not x ih
   ·exact absurd h2 (by simp)
   ·exact absurd h2 (by simp)
   ·exact absurd h2 (by simp)
   ·exact absurd h2 (by simp)
   ·exact absurd h2 (by simp)
   ·exact absurd h2 (by simp)
   ·obtain rfl : tx = [] := h3.resolve_right (by simp)
    exact enodeE_isn x ih
   ·exact absurd h2 (by simp)
   ·exact absurd h2 (by simp)
   ·exact absurd h2 (by simp)
   ·obtain rfl : tx = [] := h3.resolve_right (by simp)
    exact enodeE_neg x ih
   ·exact absurd h2 (by simp)
   ·exact absurd h2 (by simp)
   ·exact absurd h2 (by simp)
   ·exact absurd h2 (by simp)
   ·exact absurd h2 (by simp)
   ·exact absurd h2 (by simp)
 | .mk op tx [x, y] => by
  have ih := enodeE_any (b := b) (mb := mb) (m := m) x
  have ih2 := enodeE_any (b := b) (mb := mb) (m := m) y
  cases hr : rE op tx 2 with
  | none => exact enodeE_bad _ hr
  | some r =>
   obtain ⟨h1, h2, h3⟩ := rE_some hr
   have hm := look_mem h1
   clear hr h1
   unfold tblE at hm
   simp only [List.mem_cons, Prod.mk.injEq, List.not_mem_nil, or_false] at hm
   rcases hm with ⟨rfl, rfl⟩ | ⟨rfl, rfl⟩ | ⟨rfl, rfl⟩ | ⟨rfl, rfl⟩ | ⟨rfl, rfl⟩ | ⟨rfl, rfl⟩ | ⟨rfl, rfl⟩ | ⟨rfl, rfl⟩ | ⟨rfl, rfl⟩ | ⟨rfl, rfl⟩ | ⟨rfl, rfl⟩ | ⟨rfl, rfl⟩ | ⟨rfl, rfl⟩ | ⟨rfl, rfl⟩ | ⟨rfl, rfl⟩ | ⟨rfl, rfl⟩ | ⟨rfl, rfl⟩ | ⟨rfl, rfl⟩ | ⟨rfl, rfl⟩ | ⟨rfl, rfl⟩
   ·obtain rfl : tx = [] := h3.resolve_right (by simp)
    exact enodeE_two _ _ _ _ rfl (by decide) (by decide) x y ih ih2
   ·obtain rfl : tx = [] := h3.resolve_right (by simp)
    exact enodeE_two _ _ _ _ rfl (by decide) (by decide) x y ih ih2
   ·exact absurd h2 (by simp)
   ·obtain rfl : tx = [] := h3.resolve_right (by simp)
    exact enodeE_two _ _ _ _ rfl (by decide) (by decide) x y ih ih2
   ·obtain rfl : tx = [] := h3.resolve_right (by simp)
    exact enodeE_two _ _ _ _ rfl (by decide) (by decide) x y ih ih2
   ·obtain rfl : tx = [] := h3.resolve_right (by simp)
    exact enodeE_two _ _ _ _ rfl (by decide) (by decide) x y ih ih2
   ·obtain rfl : tx = [] := h3.resolve_right (by simp)
    exact enodeE_two _ _ _ _ rfl (by decide) (by decide) x y ih ih2
   ·obtain rfl : tx = [] := h3.resolve_right (by simp)
    exact enodeE_two _ _ _ _ rfl (by decide) (by decide) x y ih ih2
   ·obtain rfl : tx = [] := h3.resolve_right (by simp)
    exact enodeE_two _ _ _ _ rfl (by decide) (by decide) x y ih ih2
   ·exact absurd h2 (by simp)
   ·obtain rfl : tx = [] := h3.resolve_right (by simp)
    exact enodeE_two _ _ _ _ rfl (by decide) (by decide) x y ih ih2
   ·obtain rfl : tx = [] := h3.resolve_right (by simp)
    exact enodeE_two _ _ _ _ rfl (by decide) (by decide) x y ih ih2
   ·obtain rfl : tx = [] := h3.resolve_right (by simp)
    exact enodeE_two _ _ _ _ rfl (by decide) (by decide) x y ih ih2
   ·exact absurd h2 (by simp)
   ·exact absurd h2 (by simp)
   ·exact absurd h2 (by simp)
   ·exact absurd h2 (by simp)
   ·exact absurd h2 (by simp)
   ·exact absurd h2 (by simp)
   ·exact absurd h2 (by simp)
 | .mk op tx (x :: y :: z :: l) => by
  refine enodeE_bad _ ?_
  cases hr : rE op tx (x :: y :: z :: l).length with
  | none => exact hr
  | some r =>
   obtain ⟨h1, h2, h3⟩ := rE_some hr
   have := (rule_few h1).1
   simp at h2
   omega
termination_by t => SizeOf.sizeOf t
end Go.Proofs.YtjbpkpfmgbhlpaaGreatDoor.Code
/-
  The program's Show of any node: its text, in plain words.
-/
namespace Go.Proofs.YtjbpkpfmgbhlpaaGreatDoor.Code
open Go.ChangeShapes Go.WideShapes Go.ChangeAt Go.RowKit Val Elems
set_option linter.unusedVariables false
set_option linter.unusedSimpArgs false
theorem estring_of (b : Nat) (w : World) (v : Value) (n : Nat) (T : ByteArray) (hlt : b < w.heap.size) (c1 : w.drew.cell? ⟨b, 2, none⟩ = some v) (p : Value) (wS : World) (hSD : (Builtin.unsafeSliceData_ #[71] 106 #[v]).run Tryz.prog w.drew = .ok p wS) (hcS : wS.cell? ⟨b, 2, none⟩ = some v)
  (hv : ∃ a c, v = .slice a n c) (w2 : World) (hUS : (Builtin.unsafeString_ #[106, 3] 9 #[p, .int .i64 n]).run Tryz.prog wS = .ok (.string T) w2) (hb : Below b w w2) :
  Calls Tryz.prog 33 #[.pointer (some ⟨b, 1, none⟩)] w fun e w' => e = .returned (.string T) ∧ Below b w w' := by
 obtain ⟨a, c, rfl⟩ := hv
 have HF := hid hb
 have mixed : Tryz.prog.follows .mixedOrders = true := by kernel_rfl
 clear hb hlt
 go_enter Tryz.func33, Tryz.ntmps33
 go_wp2
 go_region_o
 all_goals (go_wp2; go_ret; exact ⟨rfl, HF.out⟩)
theorem estring_nil (b mb : Nat) (w : World) (h : Wr w b mb []) :
  Calls Tryz.prog 33 #[.pointer (some ⟨b, 1, none⟩)] w fun e w' => e = .returned (.string ⟨#[]⟩) ∧ Below b w w' := by
 have hlt := h.lt
 obtain ⟨p, v, hbk, hown, hne⟩ : ∃ p, WrAt w b mb p [] := by
  rcases h with h | h
  ·exact ⟨_, h⟩
  ·exact ⟨_, h⟩
 have c1 : w.drew.cell? ⟨b, 2, none⟩ = some v := hbk.cell 2
 have hB : Below b w w.drew := (Below.refl b w).drew
 rcases hown.2 with ⟨hv, _⟩ | ⟨g, cap, cur, hv, hg, hhp, _⟩
 ·subst hv
  exact estring_of b w _ 0 ⟨#[]⟩ hlt c1 (.pointer none) w.drew (Lib.run_unsafeSliceData_nil _ _ _ _ _) c1 ⟨_, _, rfl⟩ w.drew (Lib.run_unsafeString_none _ _ _ _ _) hB
 ·subst hv
  by_cases hc : cap = 0
  ·subst hc
   exact estring_of b w _ 0 ⟨#[]⟩ hlt c1 (.pointer (some ⟨w.drew.heap.size, 0, none⟩)) (w.drew.alloc (.view ⟨g, 0, none⟩ 5)) (Lib.run_unsafeSliceData_zero _ _ _ 5 Tryz.underlying106 ⟨g, 0, none⟩ 0 (5, cur.size) (by have hg' : w.drew.heap[g]? = some (.cells cur 5 (0, 0)) := hhp; simp [World.shape?, hg'])) ((World.cell?_alloc_some _ _ _ (by rw [c1]; rfl)).trans c1) ⟨_, _, rfl⟩ (w.drew.alloc (.view ⟨g, 0, none⟩ 5)) (Lib.run_unsafeString_none _ _ _ _ _) (hB.alloc (Nat.le_of_lt hlt) _)
  ·exact estring_of b w _ 0 ⟨#[]⟩ hlt c1 (.pointer (some ⟨g, 0, none⟩)) w.drew (Lib.run_unsafeSliceData_row _ _ _ _ _ _ hc) c1 ⟨_, _, rfl⟩ w.drew (Lib.run_unsafeString_none _ _ _ _ _) hB
theorem estringE (b mb : Nat) (l : List UInt8) (w : World) (h : Wr w b mb l) :
  Calls Tryz.prog 33 #[.pointer (some ⟨b, 1, none⟩)] w fun e w' => e = .returned (.string ⟨l.toArray⟩) ∧ Below b w w' := by
 by_cases h0 : l = []
 ·subst h0
  exact estring_nil b mb w h
 ·exact estring_any b mb l w h h0
theorem wr_freshE (w : World) (mb : Nat) : Wr (w.alloc (.cells #[.map (some mb), .pointer none, .slice none 0 0] 142)) w.heap.size mb [] :=
 .inl ⟨_, HB.fresh w _ _, by show World.ownsRow _ _ _ _ _ 0 _; exact World.ownsRow_nil _ _ _ _, by simp [Value.ownBlock]⟩
mutual
def exprsOf : Nod → List Nod
 | .mk o _ ks => (if o = sFilter then ks.drop 1 else []) ++ (if o = sItem then [nthN ks 0] else []) ++ exprsOfL ks
def exprsOfL : List Nod → List Nod
 | [] => []
 | n :: l => exprsOf n ++ exprsOfL l
end
theorem exprs_is (t : Nod) : exprsOf t = (if t.op = sFilter then t.ks.drop 1 else []) ++ (if t.op = sItem then [nthN t.ks 0] else []) ++ exprsOfL t.ks := by
 cases t with
 | mk o x ks => exact exprsOf.eq_1 o x ks
theorem exprs_mem {x : Nod} : ∀ {l : List Nod} (i : Nat) (hi : i < l.length), x ∈ exprsOf l[i] → x ∈ exprsOfL l
 | n :: l, 0, _, h => by rw [exprsOfL]; exact List.mem_append_left _ h
 | n :: l, i + 1, hi, h => by rw [exprsOfL]; exact List.mem_append_right _ (exprs_mem i (by simpa using hi) h)
theorem exprs_kid {t x : Nod} (i : Nat) (hi : i < t.ks.length) (h : x ∈ exprsOf t.ks[i]) : x ∈ exprsOf t := by
 rw [exprs_is]
 exact List.mem_append_right _ (exprs_mem i hi h)
theorem exprs_filter {t : Nod} (ht : t.op = sFilter) (i : Nat) (hi : i < t.ks.length) (h0 : 0 < i) : t.ks[i] ∈ exprsOf t := by
 rw [exprs_is, if_pos ht]
 refine List.mem_append_left _ (List.mem_append_left _ ?_)
 rw [List.mem_iff_getElem]
 refine ⟨i - 1, by rw [List.length_drop]; omega, ?_⟩
 rw [List.getElem_drop]
 congr 1
 omega
theorem exprs_item {t : Nod} (ht : t.op = sItem) : nthN t.ks 0 ∈ exprsOf t := by
 rw [exprs_is, if_pos ht]
 exact List.mem_append_left _ (List.mem_append_right _ (List.mem_singleton.2 rfl))
def EShows (t : Nod) : Prop := t.tot ≤ 100000 → (showE t).length ≤ 900000 → ∀ (m : Int) (S : Nat → Prop) (op tx : ByteArray) (X : Option Addr) (n k : Nat) (w : World), Env w.heap.size m w → (∀ g, S g → g < w.heap.size) → RIn w S t (op, tx, X, n, k) →
  Calls Tryz.prog 111 #[.agg #[.string op, .string tx, .slice X n k]] w fun e w' => e = .returned (.string ⟨(showE t).toArray⟩) ∧ Below w.heap.size w w'
theorem eshow_of (t : Nod) (hND : ∀ (b mb : Nat) (m : Int), NdE b mb m t) : EShows t := by
 intro ht hl m S op tx X n k w he hS hn
 have HE := hid he
 have HS := hid hS
 have HN := hid hn
 have HRU := hid (fun w' => etable_any w')
 obtain ⟨s, hs⟩ : ∃ s, showE t = s := ⟨_, rfl⟩
 have HSH := hid hs
 rw [hs] at hl ⊢
 have HL := hid hl
 have HT := hid ht
 clear he hS hn hs hl ht
 go_enter Tryz.func111, Tryz.ntmps111
 obtain ⟨w0, hw0⟩ : ∃ w0, w.alloc (.cells #[.string op, .string tx, .slice X n k] 25) = w0 := ⟨_, rfl⟩
 have B0 := hid (show Below w.heap.size w w0 by rw [← hw0]; exact below_alloc w _)
 have X0 := hid (show HB w0 w.heap.size #[.string op, .string tx, .slice X n k] 25 by rw [← hw0]; exact HB.fresh w _ _)
 have hz0 : w.heap.size < w0.heap.size := by rw [← hw0]; simp
 go_wp2_with fail
 try rw [hw0]
 refine (HRU.out _).mono ?_
 rintro e w1 ⟨mb, rfl, hru, hb1⟩
 have z1 := hb1.size
 obtain ⟨W1, hW1⟩ : ∃ W1, w1.alloc (.cells #[.map (some mb), .pointer none, .slice none 0 0] 142) = W1 := ⟨_, rfl⟩
 have B1 := hid (show Below w.heap.size w W1 by rw [← hW1]; exact (bnext B0.out B0.out.size hb1).alloc (by omega) _)
 have A1 := hid (show HasE w1.heap.size mb m [] W1 from ⟨by rw [← hW1]; exact wr_freshE w1 mb, by rw [← hW1]; exact hru.below (below_alloc w1 _), (HE.out.below B1.out).more (by omega)⟩)
 have X1 := hid (show HB W1 w.heap.size #[.string op, .string tx, .slice X n k] 25 by rw [← hW1]; exact (X0.out.below hb1).alloc _)
 have N1 := hid (HN.out.bel HS.out B1.out)
 have X2 := X0.out.below hb1
 have q0 : ∀ o, (w1.alloc o).cell? ⟨w.heap.size, 0, none⟩ = some (.string op) := fun o => (X2.alloc o).cell 0
 have q1 : ∀ o, (w1.alloc o).cell? ⟨w.heap.size, 1, none⟩ = some (.string tx) := fun o => (X2.alloc o).cell 1
 have q2 : ∀ o, (w1.alloc o).cell? ⟨w.heap.size, 2, none⟩ = some (.slice X n k) := fun o => (X2.alloc o).cell 2
 have HW1 := hid hW1
 have HND := hid (show Calls Tryz.prog 135 #[.pointer (some ⟨w1.heap.size, 0, none⟩), .agg #[.string op, .string tx, .slice X n k]] W1 (fun e w' => e = .returned (.tuple #[]) ∧ Wr w' w1.heap.size mb s ∧ Kp w1.heap.size W1 w') by
  have h := hND _ _ _ S op tx X n k [] W1 A1.out (fun g hg => by have := HS.out g hg; omega) N1.out HT.out (by rw [HSH.out]; simpa using HL.out)
  rw [HSH.out] at h
  exact h)
 clear hru hb1 X0 B0 HRU hW1 X2
 go_wp2_with fail
 rw [HW1.out]
 refine HND.out.mono ?_
 rintro e w2 ⟨rfl, hw2, hk2⟩
 have B2 := hid (B1.out.trans (hk2.bl.mono (by omega)))
 have HST := hid (estringE w1.heap.size mb s w2 hw2)
 clear hw2 hk2 q0 q1 q2
 go_wp2_with fail
 refine HST.out.mono ?_
 rintro e w3 ⟨rfl, hb3⟩
 have B3 := hid (B2.out.trans (hb3.mono (by omega)))
 clear hb3
 go_wp2
 go_ret
 exact ⟨rfl, B3.out⟩
end Go.Proofs.YtjbpkpfmgbhlpaaGreatDoor.Code
/-
  Any expression is shown as it should by the program.
-/
namespace Go.Proofs.YtjbpkpfmgbhlpaaGreatDoor.Code
open Go.ChangeShapes Go.WideShapes Go.ChangeAt Go.RowKit Val Elems
set_option linter.unusedVariables false
theorem eshow_all (t : Nod) : EShows t := eshow_of t fun b mb m => enodeE_any t
end Go.Proofs.YtjbpkpfmgbhlpaaGreatDoor.Code
