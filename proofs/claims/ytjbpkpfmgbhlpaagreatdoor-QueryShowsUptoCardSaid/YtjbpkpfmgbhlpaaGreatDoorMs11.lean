/-
  Nodes with one Kid and with two are written by the program's writer.
-/
import Derived.Test.YtjbpkpfmgbhlpaaGreatDoorMs10
import Derived.Deep.RegionHeld3
set_option maxRecDepth 100000
set_option maxHeartbeats 16000000
open Go.Lib (hid)
namespace Go.Proofs.YtjbpkpfmgbhlpaaGreatDoor.Code
open Go.ChangeShapes Go.WideShapes Go.ChangeAt Go.RowKit Val Elems
set_option linter.unusedVariables false
set_option linter.unusedSimpArgs false
theorem kd0 (k : Nat) (ad : Addr) : ad.add (0 * 3) = ad := by simp [Addr.add]
theorem ESt.kids1 {b mb : Nat} {m : Int} {w0 w : World} {S : Nat → Prop} {o t : List UInt8} {x : Nod} {op0 op tx : ByteArray} {X : Option Addr} {n k : Nat} {g0 : Nat} {bs : List UInt8} (h : ESt b mb m w0 S (.mk o t [x]) op0 op tx X n k g0 bs w) (hS : ∀ g, S g → g < b) :
  ∃ (ad : Addr) (op1 tx1 : ByteArray) (X1 : Option Addr) (n1 k1 : Nat), X = some ad ∧ n = 1 ∧ ∀ w', Below b w w' → (w'.cell? ad = some (.string op1) ∧ w'.cell? ⟨ad.block, ad.off + 1, none⟩ = some (.string tx1) ∧ w'.cell? ⟨ad.block, ad.off + 2, none⟩ = some (.slice X1 n1 k1)) ∧ RIn w' S x (op1, tx1, X1, n1, k1) := by
 have hn := h.nin.texts.2.2.1
 obtain ⟨ad, ⟨op1, tx1, X1, n1, k1⟩, e, hs, c0, c1, c2, hk⟩ := h.nin.kid 0 (by show 0 < 1; omega)
 dsimp only at hn e c0 c1 c2
 rw [kd0 0 ad] at c0 c1 c2
 have hb := hS _ hs
 exact ⟨ad, op1, tx1, X1, n1, k1, e, hn, fun w' hw => ⟨⟨(hw.cell hb).trans c0, (hw.cell (p := ⟨ad.block, ad.off + 1, none⟩) hb).trans c1, (hw.cell (p := ⟨ad.block, ad.off + 2, none⟩) hb).trans c2⟩, hk.kp hS hw⟩⟩
theorem ESt.kids2 {b mb : Nat} {m : Int} {w0 w : World} {S : Nat → Prop} {o t : List UInt8} {x y : Nod} {op0 op tx : ByteArray} {X : Option Addr} {n k : Nat} {g0 : Nat} {bs : List UInt8} (h : ESt b mb m w0 S (.mk o t [x, y]) op0 op tx X n k g0 bs w) (hS : ∀ g, S g → g < b) :
  ∃ (ad : Addr) (op1 tx1 : ByteArray) (X1 : Option Addr) (n1 k1 : Nat) (op2 tx2 : ByteArray) (X2 : Option Addr) (n2 k2 : Nat), X = some ad ∧ n = 2 ∧ ∀ w', Below b w w' → (w'.cell? ad = some (.string op1) ∧ w'.cell? ⟨ad.block, ad.off + 1, none⟩ = some (.string tx1) ∧ w'.cell? ⟨ad.block, ad.off + 2, none⟩ = some (.slice X1 n1 k1) ∧
   w'.cell? ⟨ad.block, ad.off + 3, none⟩ = some (.string op2) ∧ w'.cell? ⟨ad.block, ad.off + 4, none⟩ = some (.string tx2) ∧ w'.cell? ⟨ad.block, ad.off + 5, none⟩ = some (.slice X2 n2 k2)) ∧ RIn w' S x (op1, tx1, X1, n1, k1) ∧ RIn w' S y (op2, tx2, X2, n2, k2) := by
 have hn := h.nin.texts.2.2.1
 obtain ⟨ad, ⟨op1, tx1, X1, n1, k1⟩, e, hs, c0, c1, c2, hk⟩ := h.nin.kid 0 (by show 0 < 2; omega)
 obtain ⟨ad', ⟨op2, tx2, X2, n2, k2⟩, e', hs', d0, d1, d2, hk'⟩ := h.nin.kid 1 (by show 1 < 2; omega)
 dsimp only at hn e c0 c1 c2 e' d0 d1 d2
 obtain rfl : ad = ad' := Option.some.inj (e.symm.trans e')
 have e3 : ad.add (1 * 3) = ⟨ad.block, ad.off + 3, none⟩ := by simp [Addr.add]
 rw [kd0 0 ad] at c0 c1 c2
 rw [e3] at d0 d1 d2
 have hb := hS _ hs
 exact ⟨ad, op1, tx1, X1, n1, k1, op2, tx2, X2, n2, k2, e, hn, fun w' hw => ⟨⟨(hw.cell hb).trans c0, (hw.cell (p := ⟨ad.block, ad.off + 1, none⟩) hb).trans c1, (hw.cell (p := ⟨ad.block, ad.off + 2, none⟩) hb).trans c2, (hw.cell (p := ⟨ad.block, ad.off + 3, none⟩) hb).trans d0, (hw.cell (p := ⟨ad.block, ad.off + 4, none⟩) hb).trans d1, (hw.cell (p := ⟨ad.block, ad.off + 5, none⟩) hb).trans d2⟩, hk.kp hS hw, hk'.kp hS hw⟩⟩
theorem enodeE_neg {b mb : Nat} {m : Int} (x : Nod) (ih : NdE b mb m x) : NdE b mb m (.mk sNeg [] [x]) := by
 intro S op tx X n k bs w h hS hn ht hl
 have hbl := h.lt
 have hxt : x.tot ≤ 100000 := by simp only [Nod.tot, Nod.totL] at ht; omega
 have hsh : showE (.mk sNeg [] [x]) = 45 :: kdE 7 (showE x, lvE x) := rfl
 rw [hsh] at hl ⊢
 clear hsh
 obtain ⟨s, hs⟩ : ∃ s, kdE 7 (showE x, lvE x) = s := ⟨_, rfl⟩
 have HKS := hid hs
 rw [hs] at hl ⊢
 clear hs
 have hr : rE sNeg [] 1 = some (6, [7], false) := by decide
 have hR := fun (w' : World) (hb : Below w.heap.size w w') => (show Calls Tryz.prog 147 #[.pointer (some ⟨b, 0, none⟩), .agg #[.string op, .string tx, .slice X n k]] w' (FRule w' b (rE sNeg [] 1)) from ruleN (h.below hb) ht (hn.kp hS (hb.mono (Nat.le_of_lt hbl))))
 rw [hr] at hR
 unfold FRule at hR
 dsimp only [List.length_cons, List.length_nil] at hR
 rw [show (0 : Nat) + 1 = 1 from rfl] at hR
 obtain ⟨e1, e2, e3, -⟩ := hn.texts
 dsimp only at e1 e2 e3
 obtain rfl : op = ⟨#[110, 101, 103]⟩ := e1
 obtain rfl : tx = ⟨#[]⟩ := e2
 obtain rfl : n = 1 := e3
 obtain ⟨tb, htb⟩ : ∃ q, false = q := ⟨_, rfl⟩
 rw [htb] at hR
 clear htb
 have HR := hid hR
 have HH := hid h
 have HN := hid hn
 have HS := hid hS
 have HT := hid ht
 clear hR h hn hS hr ht
 have hW := fun (bs' : List UInt8) (s : ByteArray) (w' : World) (h' : Wr w' b mb bs') (hl' : bs'.length + s.size ≤ 1000000) => ewrite_any b mb bs' s w' h' hl'
 have HW := hid hW
 clear hW
 go_enter Tryz.func135, Tryz.ntmps135
 obtain ⟨w0, hw0⟩ : ∃ w0, w.alloc (.cells #[.string ⟨#[110, 101, 103]⟩, .string ⟨#[]⟩, .slice X 1 k] 25) = w0 := ⟨_, rfl⟩
 have B0 := hid (show Below w.heap.size w w0 by rw [← hw0]; exact below_alloc w _)
 have X0 := hid (show HB w0 w.heap.size #[.string ⟨#[110, 101, 103]⟩, .string ⟨#[]⟩, .slice X 1 k] 25 by rw [← hw0]; exact HB.fresh w _ _)
 have x0 : w0.cell? ⟨w.heap.size, 0, none⟩ = some (.string ⟨#[110, 101, 103]⟩) := X0.out.cell 0
 have x1 : w0.cell? ⟨w.heap.size, 1, none⟩ = some (.string ⟨#[]⟩) := X0.out.cell 1
 have x2 : w0.cell? ⟨w.heap.size, 2, none⟩ = some (.slice X 1 k) := X0.out.cell 2
 go_wp2_with fail
 try rw [hw0]
 refine (HR.out _ B0.out).mono ?_
 rintro e w1 ⟨Y, d, rfl, hY, hb1⟩
 have hz0 : w.heap.size < w0.heap.size := by rw [← hw0]; simp
 have z1 := hb1.size
 have hbz : b < w1.heap.size := by omega
 obtain ⟨W1, hW1⟩ : ∃ W1, w1.alloc (.cells #[.int .i64 6, .slice Y 1 d, .bool tb] 150) = W1 := ⟨_, rfl⟩
 have B1 := hid (show Below w.heap.size w W1 by rw [← hW1]; exact (bnext B0.out B0.out.size hb1).alloc (by omega) _)
 have RV := hid (show HB W1 w1.heap.size #[.int .i64 6, .slice Y 1 d, .bool tb] 150 by rw [← hW1]; exact HB.fresh w1 _ _)
 have LV := hid (show LvAt W1 b [7] Y by rw [← hW1]; exact hY.below ((bnext (Below.refl _ _) (Nat.le_refl _) hb1).mono (by omega) |>.trans ((below_alloc w1 _).mono (by omega))))
 have T1 := hid (show ESt b mb m w S (.mk sNeg [] [x]) ⟨#[110, 101, 103]⟩ ⟨#[110, 101, 103]⟩ ⟨#[]⟩ X 1 k w.heap.size bs W1 from
  ⟨HH.out.below B1.out, by rw [← hW1]; exact (X0.out.below hb1).alloc _, HN.out.kp HS.out (B1.out.mono (by omega)), (Kp.refl b w).next (by omega) B1.out⟩)
 have q0 : W1.cell? ⟨w.heap.size, 0, none⟩ = some (.string ⟨#[110, 101, 103]⟩) := T1.out.box.cell 0
 have q1 : W1.cell? ⟨w.heap.size, 1, none⟩ = some (.string ⟨#[]⟩) := T1.out.box.cell 1
 have q2 : W1.cell? ⟨w.heap.size, 2, none⟩ = some (.slice X 1 k) := T1.out.box.cell 2
 have f0 : W1.frozen? ⟨w.heap.size, 0, none⟩ = false := T1.out.box.free 0
 have f1 : W1.frozen? ⟨w.heap.size, 1, none⟩ = false := T1.out.box.free 1
 have q3 : W1.cell? ⟨w1.heap.size, 0, none⟩ = some (.int .i64 6) := RV.out.cell 0
 have q4 : W1.cell? ⟨w1.heap.size, 1, none⟩ = some (.slice Y 1 d) := RV.out.cell 1
 have q5 : W1.cell? ⟨w1.heap.size, 2, none⟩ = some (.bool tb) := RV.out.cell 2
 clear hY hb1 x0 x1 x2 X0 B0 B1 HR
 go_wp2_with fail
 try rw [hW1]
 refine (HW.out _ ⟨#[45]⟩ _ T1.out.has.wr (by show bs.length + 1 ≤ 1000000; simp at hl; omega)).mono ?_
 rintro e w2 ⟨rfl, hw2, hk2⟩
 have T2 := hid (T1.out.next HS.out (by omega) hw2 hk2)
 have RV := hid (RV.out.kp hk2 (by omega) (by decide))
 have LV := hid (LV.out.below hk2.bl)
 clear hw2 hk2 q0 q1 q2 q3 q4 q5 f0 f1
 obtain ⟨ad, op1, tx1, X1, n1, k1, rfl, -, hK⟩ := T2.out.kids1 HS.out
 obtain ⟨gl, rfl, hgl, hgb⟩ : ∃ gl, Y = some ⟨gl, 0, none⟩ ∧ gl < b ∧ HB w2 gl #[.int .i64 7] 147 := by
  rcases LV.out with h | ⟨gl, h1, h2, h3⟩
  ·cases h
  ·exact ⟨gl, h1, h2, h3⟩
 have K0 := hid (fun (w' : World) (hk : Kp b w2 w') => (show (w'.cell? ⟨w.heap.size, 2, none⟩ = some (.slice (some ad) 1 k) ∧ w'.cell? ad = some (.string op1) ∧ w'.cell? ⟨ad.block, ad.off + 1, none⟩ = some (.string tx1) ∧ w'.cell? ⟨ad.block, ad.off + 2, none⟩ = some (.slice X1 n1 k1) ∧ w'.cell? ⟨w1.heap.size, 1, none⟩ = some (.slice (some ⟨gl, 0, none⟩) 1 d) ∧ w'.cell? ⟨gl, 0, none⟩ = some (.int .i64 7)) ∧ Kp b w2 w' from
  ⟨⟨(T2.out.box.kp hk (by omega) (by decide)).cell 2, (hK w' hk.bl).1.1, (hK w' hk.bl).1.2.1, (hK w' hk.bl).1.2.2, (RV.out.kp hk (by omega) (by decide)).cell 1, ((hk.bl.cell (p := ⟨gl, 0, none⟩) hgl).trans (hgb.cell 0))⟩, hk⟩))
 have KN := hid (fun (w' : World) (hk : Below b w2 w') => (hK w' hk).2)
 clear hK hgb
 have HKI1 := hid (fun (w' : World) (hb : Below w2.heap.size w2 w') => show Calls Tryz.prog 149 #[.pointer (some ⟨b, 0, none⟩), .agg #[.string op1, .string tx1, .slice X1 n1 k1], .int .i64 7] w' (fun e w'' => e = .returned (.tuple #[]) ∧ Wr w'' b mb ((bs ++ [45]) ++ s) ∧ Kp b w' w'') by
  have h := ekidE_any x ih hxt 7 S op1 tx1 X1 n1 k1 ((bs ++ [45])) w' (T2.out.has.below hb) HS.out (KN.out _ ((Kp.refl b w2).next (Nat.le_of_lt T2.out.has.lt) hb).bl) (by rw [HKS.out]; simp at hl ⊢; omega)
  rw [HKS.out] at h
  exact h)
 go_wp2_with fail
 try rw [hW1]
 go_region_held3 (fun w' => (w'.cell? ⟨w.heap.size, 2, none⟩ = some (.slice (some ad) 1 k) ∧ w'.cell? ad = some (.string op1) ∧ w'.cell? ⟨ad.block, ad.off + 1, none⟩ = some (.string tx1) ∧ w'.cell? ⟨ad.block, ad.off + 2, none⟩ = some (.slice X1 n1 k1) ∧ w'.cell? ⟨w1.heap.size, 1, none⟩ = some (.slice (some ⟨gl, 0, none⟩) 1 d) ∧ w'.cell? ⟨gl, 0, none⟩ = some (.int .i64 7)) ∧ Kp b w2 w')
  (first | assumption | (exact K0.out _ ((Kp.refl b w2).drew.trans hk5)) | (exact K0.out _ (Kp.refl b w2).drew))
  (first | (go_at_call 149; with_reducible refine (HKI1.out _ ?cv).mono ?_; (case cv => exact Below.drew (Below.refl _ _)); rintro e w5 ⟨rfl, hw5, hk5⟩))
 have T5 := hid (T2.out.next HS.out (by omega) hw5 ((Kp.refl b w2).drew.trans hk5))
 clear hw5 hk5
 go_wp2
 go_end0
 exact ⟨rfl, by have h := T5.out.has.wr; simpa using h, T5.out.kp⟩
theorem enodeE_not {b mb : Nat} {m : Int} (x : Nod) (ih : NdE b mb m x) : NdE b mb m (.mk sNot [] [x]) := by
 intro S op tx X n k bs w h hS hn ht hl
 have hbl := h.lt
 have hxt : x.tot ≤ 100000 := by simp only [Nod.tot, Nod.totL] at ht; omega
 have hsh : showE (.mk sNot [] [x]) = [110, 111, 116, 32] ++ kdE 2 (showE x, lvE x) := rfl
 rw [hsh] at hl ⊢
 clear hsh
 obtain ⟨s, hs⟩ : ∃ s, kdE 2 (showE x, lvE x) = s := ⟨_, rfl⟩
 have HKS := hid hs
 rw [hs] at hl ⊢
 clear hs
 have hr : rE sNot [] 1 = some (2, [2], false) := by decide
 have hR := fun (w' : World) (hb : Below w.heap.size w w') => (show Calls Tryz.prog 147 #[.pointer (some ⟨b, 0, none⟩), .agg #[.string op, .string tx, .slice X n k]] w' (FRule w' b (rE sNot [] 1)) from ruleN (h.below hb) ht (hn.kp hS (hb.mono (Nat.le_of_lt hbl))))
 rw [hr] at hR
 unfold FRule at hR
 dsimp only [List.length_cons, List.length_nil] at hR
 rw [show (0 : Nat) + 1 = 1 from rfl] at hR
 obtain ⟨e1, e2, e3, -⟩ := hn.texts
 dsimp only at e1 e2 e3
 obtain rfl : op = ⟨#[110, 111, 116]⟩ := e1
 obtain rfl : tx = ⟨#[]⟩ := e2
 obtain rfl : n = 1 := e3
 obtain ⟨tb, htb⟩ : ∃ q, false = q := ⟨_, rfl⟩
 rw [htb] at hR
 clear htb
 have HR := hid hR
 have HH := hid h
 have HN := hid hn
 have HS := hid hS
 have HT := hid ht
 clear hR h hn hS hr ht
 have hW := fun (bs' : List UInt8) (s : ByteArray) (w' : World) (h' : Wr w' b mb bs') (hl' : bs'.length + s.size ≤ 1000000) => ewrite_any b mb bs' s w' h' hl'
 have HW := hid hW
 clear hW
 go_enter Tryz.func135, Tryz.ntmps135
 obtain ⟨w0, hw0⟩ : ∃ w0, w.alloc (.cells #[.string ⟨#[110, 111, 116]⟩, .string ⟨#[]⟩, .slice X 1 k] 25) = w0 := ⟨_, rfl⟩
 have B0 := hid (show Below w.heap.size w w0 by rw [← hw0]; exact below_alloc w _)
 have X0 := hid (show HB w0 w.heap.size #[.string ⟨#[110, 111, 116]⟩, .string ⟨#[]⟩, .slice X 1 k] 25 by rw [← hw0]; exact HB.fresh w _ _)
 have x0 : w0.cell? ⟨w.heap.size, 0, none⟩ = some (.string ⟨#[110, 111, 116]⟩) := X0.out.cell 0
 have x1 : w0.cell? ⟨w.heap.size, 1, none⟩ = some (.string ⟨#[]⟩) := X0.out.cell 1
 have x2 : w0.cell? ⟨w.heap.size, 2, none⟩ = some (.slice X 1 k) := X0.out.cell 2
 go_wp2_with fail
 try rw [hw0]
 refine (HR.out _ B0.out).mono ?_
 rintro e w1 ⟨Y, d, rfl, hY, hb1⟩
 have hz0 : w.heap.size < w0.heap.size := by rw [← hw0]; simp
 have z1 := hb1.size
 have hbz : b < w1.heap.size := by omega
 obtain ⟨W1, hW1⟩ : ∃ W1, w1.alloc (.cells #[.int .i64 2, .slice Y 1 d, .bool tb] 150) = W1 := ⟨_, rfl⟩
 have B1 := hid (show Below w.heap.size w W1 by rw [← hW1]; exact (bnext B0.out B0.out.size hb1).alloc (by omega) _)
 have RV := hid (show HB W1 w1.heap.size #[.int .i64 2, .slice Y 1 d, .bool tb] 150 by rw [← hW1]; exact HB.fresh w1 _ _)
 have LV := hid (show LvAt W1 b [2] Y by rw [← hW1]; exact hY.below ((bnext (Below.refl _ _) (Nat.le_refl _) hb1).mono (by omega) |>.trans ((below_alloc w1 _).mono (by omega))))
 have T1 := hid (show ESt b mb m w S (.mk sNot [] [x]) ⟨#[110, 111, 116]⟩ ⟨#[110, 111, 116]⟩ ⟨#[]⟩ X 1 k w.heap.size bs W1 from
  ⟨HH.out.below B1.out, by rw [← hW1]; exact (X0.out.below hb1).alloc _, HN.out.kp HS.out (B1.out.mono (by omega)), (Kp.refl b w).next (by omega) B1.out⟩)
 have q0 : W1.cell? ⟨w.heap.size, 0, none⟩ = some (.string ⟨#[110, 111, 116]⟩) := T1.out.box.cell 0
 have q1 : W1.cell? ⟨w.heap.size, 1, none⟩ = some (.string ⟨#[]⟩) := T1.out.box.cell 1
 have q2 : W1.cell? ⟨w.heap.size, 2, none⟩ = some (.slice X 1 k) := T1.out.box.cell 2
 have f0 : W1.frozen? ⟨w.heap.size, 0, none⟩ = false := T1.out.box.free 0
 have f1 : W1.frozen? ⟨w.heap.size, 1, none⟩ = false := T1.out.box.free 1
 have q3 : W1.cell? ⟨w1.heap.size, 0, none⟩ = some (.int .i64 2) := RV.out.cell 0
 have q4 : W1.cell? ⟨w1.heap.size, 1, none⟩ = some (.slice Y 1 d) := RV.out.cell 1
 have q5 : W1.cell? ⟨w1.heap.size, 2, none⟩ = some (.bool tb) := RV.out.cell 2
 clear hY hb1 x0 x1 x2 X0 B0 B1 HR
 go_wp2_with fail
 try rw [hW1]
 refine (HW.out _ ⟨#[110, 111, 116, 32]⟩ _ T1.out.has.wr (by show bs.length + 4 ≤ 1000000; simp at hl; omega)).mono ?_
 rintro e w2 ⟨rfl, hw2, hk2⟩
 have T2 := hid (T1.out.next HS.out (by omega) hw2 hk2)
 have RV := hid (RV.out.kp hk2 (by omega) (by decide))
 have LV := hid (LV.out.below hk2.bl)
 clear hw2 hk2 q0 q1 q2 q3 q4 q5 f0 f1
 obtain ⟨ad, op1, tx1, X1, n1, k1, rfl, -, hK⟩ := T2.out.kids1 HS.out
 obtain ⟨gl, rfl, hgl, hgb⟩ : ∃ gl, Y = some ⟨gl, 0, none⟩ ∧ gl < b ∧ HB w2 gl #[.int .i64 2] 147 := by
  rcases LV.out with h | ⟨gl, h1, h2, h3⟩
  ·cases h
  ·exact ⟨gl, h1, h2, h3⟩
 have K0 := hid (fun (w' : World) (hk : Kp b w2 w') => (show (w'.cell? ⟨w.heap.size, 2, none⟩ = some (.slice (some ad) 1 k) ∧ w'.cell? ad = some (.string op1) ∧ w'.cell? ⟨ad.block, ad.off + 1, none⟩ = some (.string tx1) ∧ w'.cell? ⟨ad.block, ad.off + 2, none⟩ = some (.slice X1 n1 k1) ∧ w'.cell? ⟨w1.heap.size, 1, none⟩ = some (.slice (some ⟨gl, 0, none⟩) 1 d) ∧ w'.cell? ⟨gl, 0, none⟩ = some (.int .i64 2)) ∧ Kp b w2 w' from
  ⟨⟨(T2.out.box.kp hk (by omega) (by decide)).cell 2, (hK w' hk.bl).1.1, (hK w' hk.bl).1.2.1, (hK w' hk.bl).1.2.2, (RV.out.kp hk (by omega) (by decide)).cell 1, ((hk.bl.cell (p := ⟨gl, 0, none⟩) hgl).trans (hgb.cell 0))⟩, hk⟩))
 have KN := hid (fun (w' : World) (hk : Below b w2 w') => (hK w' hk).2)
 clear hK hgb
 have HKI1 := hid (fun (w' : World) (hb : Below w2.heap.size w2 w') => show Calls Tryz.prog 149 #[.pointer (some ⟨b, 0, none⟩), .agg #[.string op1, .string tx1, .slice X1 n1 k1], .int .i64 2] w' (fun e w'' => e = .returned (.tuple #[]) ∧ Wr w'' b mb ((bs ++ [110, 111, 116, 32]) ++ s) ∧ Kp b w' w'') by
  have h := ekidE_any x ih hxt 2 S op1 tx1 X1 n1 k1 ((bs ++ [110, 111, 116, 32])) w' (T2.out.has.below hb) HS.out (KN.out _ ((Kp.refl b w2).next (Nat.le_of_lt T2.out.has.lt) hb).bl) (by rw [HKS.out]; simp at hl ⊢; omega)
  rw [HKS.out] at h
  exact h)
 go_wp2_with fail
 try rw [hW1]
 go_region_held3 (fun w' => (w'.cell? ⟨w.heap.size, 2, none⟩ = some (.slice (some ad) 1 k) ∧ w'.cell? ad = some (.string op1) ∧ w'.cell? ⟨ad.block, ad.off + 1, none⟩ = some (.string tx1) ∧ w'.cell? ⟨ad.block, ad.off + 2, none⟩ = some (.slice X1 n1 k1) ∧ w'.cell? ⟨w1.heap.size, 1, none⟩ = some (.slice (some ⟨gl, 0, none⟩) 1 d) ∧ w'.cell? ⟨gl, 0, none⟩ = some (.int .i64 2)) ∧ Kp b w2 w')
  (first | assumption | (exact K0.out _ ((Kp.refl b w2).drew.trans hk5)) | (exact K0.out _ (Kp.refl b w2).drew))
  (first | (go_at_call 149; with_reducible refine (HKI1.out _ ?cv).mono ?_; (case cv => exact Below.drew (Below.refl _ _)); rintro e w5 ⟨rfl, hw5, hk5⟩))
 have T5 := hid (T2.out.next HS.out (by omega) hw5 ((Kp.refl b w2).drew.trans hk5))
 clear hw5 hk5
 go_wp2
 go_end0
 exact ⟨rfl, by have h := T5.out.has.wr; simpa using h, T5.out.kp⟩
theorem enodeE_isn {b mb : Nat} {m : Int} (x : Nod) (ih : NdE b mb m x) : NdE b mb m (.mk sIsNull [] [x]) := by
 intro S op tx X n k bs w h hS hn ht hl
 have hbl := h.lt
 have hxt : x.tot ≤ 100000 := by simp only [Nod.tot, Nod.totL] at ht; omega
 have hsh : showE (.mk sIsNull [] [x]) = kdE 4 (showE x, lvE x) ++ [32, 105, 115, 32, 110, 117, 108, 108] := rfl
 rw [hsh] at hl ⊢
 clear hsh
 obtain ⟨s, hs⟩ : ∃ s, kdE 4 (showE x, lvE x) = s := ⟨_, rfl⟩
 have HKS := hid hs
 rw [hs] at hl ⊢
 clear hs
 have hr : rE sIsNull [] 1 = some (3, [4], false) := by decide
 have hR := fun (w' : World) (hb : Below w.heap.size w w') => (show Calls Tryz.prog 147 #[.pointer (some ⟨b, 0, none⟩), .agg #[.string op, .string tx, .slice X n k]] w' (FRule w' b (rE sIsNull [] 1)) from ruleN (h.below hb) ht (hn.kp hS (hb.mono (Nat.le_of_lt hbl))))
 rw [hr] at hR
 unfold FRule at hR
 dsimp only [List.length_cons, List.length_nil] at hR
 rw [show (0 : Nat) + 1 = 1 from rfl] at hR
 obtain ⟨e1, e2, e3, -⟩ := hn.texts
 dsimp only at e1 e2 e3
 obtain rfl : op = ⟨#[105, 115, 32, 110, 117, 108, 108]⟩ := e1
 obtain rfl : tx = ⟨#[]⟩ := e2
 obtain rfl : n = 1 := e3
 obtain ⟨tb, htb⟩ : ∃ q, false = q := ⟨_, rfl⟩
 rw [htb] at hR
 clear htb
 have HR := hid hR
 have HH := hid h
 have HN := hid hn
 have HS := hid hS
 have HT := hid ht
 clear hR h hn hS hr ht
 have hW := fun (bs' : List UInt8) (s : ByteArray) (w' : World) (h' : Wr w' b mb bs') (hl' : bs'.length + s.size ≤ 1000000) => ewrite_any b mb bs' s w' h' hl'
 have HW := hid hW
 clear hW
 go_enter Tryz.func135, Tryz.ntmps135
 obtain ⟨w0, hw0⟩ : ∃ w0, w.alloc (.cells #[.string ⟨#[105, 115, 32, 110, 117, 108, 108]⟩, .string ⟨#[]⟩, .slice X 1 k] 25) = w0 := ⟨_, rfl⟩
 have B0 := hid (show Below w.heap.size w w0 by rw [← hw0]; exact below_alloc w _)
 have X0 := hid (show HB w0 w.heap.size #[.string ⟨#[105, 115, 32, 110, 117, 108, 108]⟩, .string ⟨#[]⟩, .slice X 1 k] 25 by rw [← hw0]; exact HB.fresh w _ _)
 have x0 : w0.cell? ⟨w.heap.size, 0, none⟩ = some (.string ⟨#[105, 115, 32, 110, 117, 108, 108]⟩) := X0.out.cell 0
 have x1 : w0.cell? ⟨w.heap.size, 1, none⟩ = some (.string ⟨#[]⟩) := X0.out.cell 1
 have x2 : w0.cell? ⟨w.heap.size, 2, none⟩ = some (.slice X 1 k) := X0.out.cell 2
 go_wp2_with fail
 try rw [hw0]
 refine (HR.out _ B0.out).mono ?_
 rintro e w1 ⟨Y, d, rfl, hY, hb1⟩
 have hz0 : w.heap.size < w0.heap.size := by rw [← hw0]; simp
 have z1 := hb1.size
 have hbz : b < w1.heap.size := by omega
 obtain ⟨W1, hW1⟩ : ∃ W1, w1.alloc (.cells #[.int .i64 3, .slice Y 1 d, .bool tb] 150) = W1 := ⟨_, rfl⟩
 have B1 := hid (show Below w.heap.size w W1 by rw [← hW1]; exact (bnext B0.out B0.out.size hb1).alloc (by omega) _)
 have RV := hid (show HB W1 w1.heap.size #[.int .i64 3, .slice Y 1 d, .bool tb] 150 by rw [← hW1]; exact HB.fresh w1 _ _)
 have LV := hid (show LvAt W1 b [4] Y by rw [← hW1]; exact hY.below ((bnext (Below.refl _ _) (Nat.le_refl _) hb1).mono (by omega) |>.trans ((below_alloc w1 _).mono (by omega))))
 have T1 := hid (show ESt b mb m w S (.mk sIsNull [] [x]) ⟨#[105, 115, 32, 110, 117, 108, 108]⟩ ⟨#[105, 115, 32, 110, 117, 108, 108]⟩ ⟨#[]⟩ X 1 k w.heap.size bs W1 from
  ⟨HH.out.below B1.out, by rw [← hW1]; exact (X0.out.below hb1).alloc _, HN.out.kp HS.out (B1.out.mono (by omega)), (Kp.refl b w).next (by omega) B1.out⟩)
 have q0 : W1.cell? ⟨w.heap.size, 0, none⟩ = some (.string ⟨#[105, 115, 32, 110, 117, 108, 108]⟩) := T1.out.box.cell 0
 have q1 : W1.cell? ⟨w.heap.size, 1, none⟩ = some (.string ⟨#[]⟩) := T1.out.box.cell 1
 have q2 : W1.cell? ⟨w.heap.size, 2, none⟩ = some (.slice X 1 k) := T1.out.box.cell 2
 have f0 : W1.frozen? ⟨w.heap.size, 0, none⟩ = false := T1.out.box.free 0
 have f1 : W1.frozen? ⟨w.heap.size, 1, none⟩ = false := T1.out.box.free 1
 have q3 : W1.cell? ⟨w1.heap.size, 0, none⟩ = some (.int .i64 3) := RV.out.cell 0
 have q4 : W1.cell? ⟨w1.heap.size, 1, none⟩ = some (.slice Y 1 d) := RV.out.cell 1
 have q5 : W1.cell? ⟨w1.heap.size, 2, none⟩ = some (.bool tb) := RV.out.cell 2
 clear hY hb1 x0 x1 x2 X0 B0 B1 HR
 clear q1
 obtain ⟨ad, op1, tx1, X1, n1, k1, rfl, -, hK⟩ := T1.out.kids1 HS.out
 obtain ⟨gl, rfl, hgl, hgb⟩ : ∃ gl, Y = some ⟨gl, 0, none⟩ ∧ gl < b ∧ HB W1 gl #[.int .i64 4] 147 := by
  rcases LV.out with h | ⟨gl, h1, h2, h3⟩
  ·cases h
  ·exact ⟨gl, h1, h2, h3⟩
 have K0 := hid (fun (w' : World) (hk : Kp b W1 w') => (show (w'.cell? ⟨w.heap.size, 2, none⟩ = some (.slice (some ad) 1 k) ∧ w'.cell? ad = some (.string op1) ∧ w'.cell? ⟨ad.block, ad.off + 1, none⟩ = some (.string tx1) ∧ w'.cell? ⟨ad.block, ad.off + 2, none⟩ = some (.slice X1 n1 k1) ∧ w'.cell? ⟨w1.heap.size, 1, none⟩ = some (.slice (some ⟨gl, 0, none⟩) 1 d) ∧ w'.cell? ⟨gl, 0, none⟩ = some (.int .i64 4)) ∧ Kp b W1 w' from
  ⟨⟨(T1.out.box.kp hk (by omega) (by decide)).cell 2, (hK w' hk.bl).1.1, (hK w' hk.bl).1.2.1, (hK w' hk.bl).1.2.2, (RV.out.kp hk (by omega) (by decide)).cell 1, ((hk.bl.cell (p := ⟨gl, 0, none⟩) hgl).trans (hgb.cell 0))⟩, hk⟩))
 have KN := hid (fun (w' : World) (hk : Below b W1 w') => (hK w' hk).2)
 clear hK hgb
 have HKI1 := hid (fun (w' : World) (hb : Below W1.heap.size W1 w') => show Calls Tryz.prog 149 #[.pointer (some ⟨b, 0, none⟩), .agg #[.string op1, .string tx1, .slice X1 n1 k1], .int .i64 4] w' (fun e w'' => e = .returned (.tuple #[]) ∧ Wr w'' b mb (bs ++ s) ∧ Kp b w' w'') by
  have h := ekidE_any x ih hxt 4 S op1 tx1 X1 n1 k1 (bs) w' (T1.out.has.below hb) HS.out (KN.out _ ((Kp.refl b W1).next (Nat.le_of_lt T1.out.has.lt) hb).bl) (by rw [HKS.out]; simp at hl ⊢; omega)
  rw [HKS.out] at h
  exact h)
 go_wp2_with fail
 try rw [hW1]
 go_region_held3 (fun w' => (w'.cell? ⟨w.heap.size, 2, none⟩ = some (.slice (some ad) 1 k) ∧ w'.cell? ad = some (.string op1) ∧ w'.cell? ⟨ad.block, ad.off + 1, none⟩ = some (.string tx1) ∧ w'.cell? ⟨ad.block, ad.off + 2, none⟩ = some (.slice X1 n1 k1) ∧ w'.cell? ⟨w1.heap.size, 1, none⟩ = some (.slice (some ⟨gl, 0, none⟩) 1 d) ∧ w'.cell? ⟨gl, 0, none⟩ = some (.int .i64 4)) ∧ Kp b W1 w')
  (first | assumption | (exact K0.out _ ((Kp.refl b W1).drew.trans hk5)) | (exact K0.out _ (Kp.refl b W1).drew))
  (first | (go_at_call 149; with_reducible refine (HKI1.out _ ?cv).mono ?_; (case cv => exact Below.drew (Below.refl _ _)); rintro e w5 ⟨rfl, hw5, hk5⟩))
 have T5 := hid (T1.out.next HS.out (by omega) hw5 ((Kp.refl b W1).drew.trans hk5))
 clear hw5 hk5
 go_wp2_with fail
 refine (HW.out _ ⟨#[32, 105, 115, 32, 110, 117, 108, 108]⟩ _ T5.out.has.wr (by show (bs ++ s).length + 8 ≤ 1000000; simp at hl ⊢; omega)).mono ?_
 rintro e w6 ⟨rfl, hw6, hk6⟩
 have T6 := hid (T5.out.next HS.out (by omega) hw6 hk6)
 clear hw6 hk6
 go_wp2
 go_end0
 exact ⟨rfl, by have h := T6.out.has.wr; simpa using h, T6.out.kp⟩
theorem lit_no {op : ByteArray} {s : List UInt8} (h : op.data.toList ≠ s) : (op.toList == s) = false := by
 rw [ByteArray.toList_eq]
 simpa using h
theorem enodeE_two {b mb : Nat} {m : Int} (ot : List UInt8) (lv l0 l1 : Int) (hr : rE ot [] 2 = some (lv, [l0, l1], false)) (hol : ot.length ≤ 10) (hx : ot ∉ [sText, sNum, sCol, sTrue, sFalse, sNull, sNeg, sNot, sIsNull]) (x y : Nod) (ih : NdE b mb m x) (ih2 : NdE b mb m y) : NdE b mb m (.mk ot [] [x, y]) := by
 intro S op tx X n k bs w h hS hn ht hl
 have hbl := h.lt
 have hxt : x.tot ≤ 100000 := by simp only [Nod.tot, Nod.totL] at ht; omega
 have hyt : y.tot ≤ 100000 := by simp only [Nod.tot, Nod.totL] at ht; omega
 have hsh : showE (.mk ot [] [x, y]) = kdE l0 (showE x, lvE x) ++ (32 :: (ot ++ [32])) ++ kdE l1 (showE y, lvE y) := by rw [showE_good hr]; rfl
 rw [hsh] at hl ⊢
 clear hsh
 obtain ⟨s, hs⟩ : ∃ s, kdE l0 (showE x, lvE x) = s := ⟨_, rfl⟩
 have HKS := hid hs
 rw [hs] at hl ⊢
 clear hs
 obtain ⟨s', hs⟩ : ∃ s, kdE l1 (showE y, lvE y) = s := ⟨_, rfl⟩
 have HKT := hid hs
 rw [hs] at hl ⊢
 clear hs
 have hR := fun (w' : World) (hb : Below w.heap.size w w') => (show Calls Tryz.prog 147 #[.pointer (some ⟨b, 0, none⟩), .agg #[.string op, .string tx, .slice X n k]] w' (FRule w' b (rE ot [] 2)) from ruleN (h.below hb) ht (hn.kp hS (hb.mono (Nat.le_of_lt hbl))))
 rw [hr] at hR
 unfold FRule at hR
 dsimp only [List.length_cons, List.length_nil] at hR
 rw [show (0 : Nat) + 1 + 1 = 2 from rfl] at hR
 obtain ⟨e1, e2, e3, -⟩ := hn.texts
 dsimp only at e1 e2 e3
 have hop : op.data.toList = ot := by rw [e1]; rfl
 simp only [List.mem_cons, List.not_mem_nil, or_false, not_or] at hx
 obtain ⟨n1, n2, n3, n4, n5, n6, n7, n8, n9⟩ := hx
 rw [← hop] at n1 n2 n3 n4 n5 n6 n7 n8 n9
 have g1 := lit_no n1
 have g2 := lit_no n2
 have g3 := lit_no n3
 have g4 := lit_no n4
 have g5 := lit_no n5
 have g6 := lit_no n6
 have g7 := lit_no n7
 have g8 := lit_no n8
 have g9 := lit_no n9
 unfold sText at g1
 unfold sNum at g2
 unfold sCol at g3
 unfold sTrue at g4
 unfold sFalse at g5
 unfold sNull at g6
 unfold sNeg at g7
 unfold sNot at g8
 unfold sIsNull at g9
 have hos : op.size = ot.length := by rw [← hop, Array.length_toList]; rfl
 have HOP := hid hop
 have HOS := hid hos
 have hadd1 : ∀ w, (Op.stringOp .add ⟨#[32]⟩ op).run Tryz.prog w = .ok (.string (⟨#[32]⟩ ++ op)) w := fun w => run_string_add_sum w _ _ (by show 1 + op.size ≤ _; omega)
 have hadd2 : ∀ w, (Op.stringOp .add (⟨#[32]⟩ ++ op) ⟨#[32]⟩).run Tryz.prog w = .ok (.string (⟨#[32]⟩ ++ op ++ ⟨#[32]⟩)) w := fun w => run_string_add_sum w _ _ (by rw [ByteArray.size_append]; show 1 + op.size + 1 ≤ _; omega)
 clear e1 hop n1 n2 n3 n4 n5 n6 n7 n8 n9 hos
 obtain rfl : tx = ⟨#[]⟩ := e2
 obtain rfl : n = 2 := e3
 obtain ⟨tb, htb⟩ : ∃ q, false = q := ⟨_, rfl⟩
 rw [htb] at hR
 clear htb
 have HR := hid hR
 have HH := hid h
 have HN := hid hn
 have HS := hid hS
 have HT := hid ht
 clear hR h hn hS hr ht
 have hW := fun (bs' : List UInt8) (s : ByteArray) (w' : World) (h' : Wr w' b mb bs') (hl' : bs'.length + s.size ≤ 1000000) => ewrite_any b mb bs' s w' h' hl'
 have HW := hid hW
 clear hW
 go_enter Tryz.func135, Tryz.ntmps135
 obtain ⟨w0, hw0⟩ : ∃ w0, w.alloc (.cells #[.string op, .string ⟨#[]⟩, .slice X 2 k] 25) = w0 := ⟨_, rfl⟩
 have B0 := hid (show Below w.heap.size w w0 by rw [← hw0]; exact below_alloc w _)
 have X0 := hid (show HB w0 w.heap.size #[.string op, .string ⟨#[]⟩, .slice X 2 k] 25 by rw [← hw0]; exact HB.fresh w _ _)
 have x0 : w0.cell? ⟨w.heap.size, 0, none⟩ = some (.string op) := X0.out.cell 0
 have x1 : w0.cell? ⟨w.heap.size, 1, none⟩ = some (.string ⟨#[]⟩) := X0.out.cell 1
 have x2 : w0.cell? ⟨w.heap.size, 2, none⟩ = some (.slice X 2 k) := X0.out.cell 2
 go_wp2_with fail
 try rw [hw0]
 refine (HR.out _ B0.out).mono ?_
 rintro e w1 ⟨Y, d, rfl, hY, hb1⟩
 have hz0 : w.heap.size < w0.heap.size := by rw [← hw0]; simp
 have z1 := hb1.size
 have hbz : b < w1.heap.size := by omega
 obtain ⟨W1, hW1⟩ : ∃ W1, w1.alloc (.cells #[.int .i64 lv, .slice Y 2 d, .bool tb] 150) = W1 := ⟨_, rfl⟩
 have B1 := hid (show Below w.heap.size w W1 by rw [← hW1]; exact (bnext B0.out B0.out.size hb1).alloc (by omega) _)
 have RV := hid (show HB W1 w1.heap.size #[.int .i64 lv, .slice Y 2 d, .bool tb] 150 by rw [← hW1]; exact HB.fresh w1 _ _)
 have LV := hid (show LvAt W1 b [l0, l1] Y by rw [← hW1]; exact hY.below ((bnext (Below.refl _ _) (Nat.le_refl _) hb1).mono (by omega) |>.trans ((below_alloc w1 _).mono (by omega))))
 have T1 := hid (show ESt b mb m w S (.mk ot [] [x, y]) op op ⟨#[]⟩ X 2 k w.heap.size bs W1 from
  ⟨HH.out.below B1.out, by rw [← hW1]; exact (X0.out.below hb1).alloc _, HN.out.kp HS.out (B1.out.mono (by omega)), (Kp.refl b w).next (by omega) B1.out⟩)
 have q0 : W1.cell? ⟨w.heap.size, 0, none⟩ = some (.string op) := T1.out.box.cell 0
 have q1 : W1.cell? ⟨w.heap.size, 1, none⟩ = some (.string ⟨#[]⟩) := T1.out.box.cell 1
 have q2 : W1.cell? ⟨w.heap.size, 2, none⟩ = some (.slice X 2 k) := T1.out.box.cell 2
 have f0 : W1.frozen? ⟨w.heap.size, 0, none⟩ = false := T1.out.box.free 0
 have f1 : W1.frozen? ⟨w.heap.size, 1, none⟩ = false := T1.out.box.free 1
 have q3 : W1.cell? ⟨w1.heap.size, 0, none⟩ = some (.int .i64 lv) := RV.out.cell 0
 have q4 : W1.cell? ⟨w1.heap.size, 1, none⟩ = some (.slice Y 2 d) := RV.out.cell 1
 have q5 : W1.cell? ⟨w1.heap.size, 2, none⟩ = some (.bool tb) := RV.out.cell 2
 clear hY hb1 x0 x1 x2 X0 B0 B1 HR
 clear q1
 obtain ⟨ad, op1, tx1, X1, n1, k1, op2, tx2, X2, n2, k2, rfl, -, hK⟩ := T1.out.kids2 HS.out
 obtain ⟨gl, rfl, hgl, hgb⟩ : ∃ gl, Y = some ⟨gl, 0, none⟩ ∧ gl < b ∧ HB W1 gl #[.int .i64 l0, .int .i64 l1] 147 := by
  rcases LV.out with h | ⟨gl, h1, h2, h3⟩
  ·cases h
  ·exact ⟨gl, h1, h2, h3⟩
 have K0 := hid (fun (w' : World) (hk : Kp b W1 w') => (show (w'.cell? ⟨w.heap.size, 2, none⟩ = some (.slice (some ad) 2 k) ∧ w'.cell? ad = some (.string op1) ∧ w'.cell? ⟨ad.block, ad.off + 1, none⟩ = some (.string tx1) ∧ w'.cell? ⟨ad.block, ad.off + 2, none⟩ = some (.slice X1 n1 k1) ∧ w'.cell? ⟨ad.block, ad.off + 3, none⟩ = some (.string op2) ∧ w'.cell? ⟨ad.block, ad.off + 4, none⟩ = some (.string tx2) ∧ w'.cell? ⟨ad.block, ad.off + 5, none⟩ = some (.slice X2 n2 k2) ∧ w'.cell? ⟨w1.heap.size, 1, none⟩ = some (.slice (some ⟨gl, 0, none⟩) 2 d) ∧ w'.cell? ⟨gl, 0, none⟩ = some (.int .i64 l0) ∧ w'.cell? ⟨gl, 1, none⟩ = some (.int .i64 l1) ∧ w'.cell? ⟨w.heap.size, 0, none⟩ = some (.string op)) ∧ Kp b W1 w' from
  ⟨⟨(T1.out.box.kp hk (by omega) (by decide)).cell 2, (hK w' hk.bl).1.1, (hK w' hk.bl).1.2.1, (hK w' hk.bl).1.2.2.1, (hK w' hk.bl).1.2.2.2.1, (hK w' hk.bl).1.2.2.2.2.1, (hK w' hk.bl).1.2.2.2.2.2, (RV.out.kp hk (by omega) (by decide)).cell 1, ((hk.bl.cell (p := ⟨gl, 0, none⟩) hgl).trans (hgb.cell 0)), ((hk.bl.cell (p := ⟨gl, 1, none⟩) hgl).trans (hgb.cell 1)), (T1.out.box.kp hk (by omega) (by decide)).cell 0⟩, hk⟩))
 have KN := hid (fun (w' : World) (hk : Below b W1 w') => (hK w' hk).2)
 clear hK hgb
 have HKI1 := hid (fun (w' : World) (hb : Below W1.heap.size W1 w') => show Calls Tryz.prog 149 #[.pointer (some ⟨b, 0, none⟩), .agg #[.string op1, .string tx1, .slice X1 n1 k1], .int .i64 l0] w' (fun e w'' => e = .returned (.tuple #[]) ∧ Wr w'' b mb (bs ++ s) ∧ Kp b w' w'') by
  have h := ekidE_any x ih hxt l0 S op1 tx1 X1 n1 k1 (bs) w' (T1.out.has.below hb) HS.out (KN.out _ ((Kp.refl b W1).next (Nat.le_of_lt T1.out.has.lt) hb).bl).1 (by rw [HKS.out]; simp at hl ⊢; omega)
  rw [HKS.out] at h
  exact h)
 go_wp2_with fail
 try rw [hW1]
 go_region_held3 (fun w' => (w'.cell? ⟨w.heap.size, 2, none⟩ = some (.slice (some ad) 2 k) ∧ w'.cell? ad = some (.string op1) ∧ w'.cell? ⟨ad.block, ad.off + 1, none⟩ = some (.string tx1) ∧ w'.cell? ⟨ad.block, ad.off + 2, none⟩ = some (.slice X1 n1 k1) ∧ w'.cell? ⟨ad.block, ad.off + 3, none⟩ = some (.string op2) ∧ w'.cell? ⟨ad.block, ad.off + 4, none⟩ = some (.string tx2) ∧ w'.cell? ⟨ad.block, ad.off + 5, none⟩ = some (.slice X2 n2 k2) ∧ w'.cell? ⟨w1.heap.size, 1, none⟩ = some (.slice (some ⟨gl, 0, none⟩) 2 d) ∧ w'.cell? ⟨gl, 0, none⟩ = some (.int .i64 l0) ∧ w'.cell? ⟨gl, 1, none⟩ = some (.int .i64 l1) ∧ w'.cell? ⟨w.heap.size, 0, none⟩ = some (.string op)) ∧ Kp b W1 w')
  (first | assumption | (exact K0.out _ ((Kp.refl b W1).drew.trans hk5)) | (exact K0.out _ (Kp.refl b W1).drew))
  (first | (go_at_call 149; with_reducible refine (HKI1.out _ ?cv).mono ?_; (case cv => exact Below.drew (Below.refl _ _)); rintro e w5 ⟨rfl, hw5, hk5⟩))
 have T5 := hid (T1.out.next HS.out (by omega) hw5 ((Kp.refl b W1).drew.trans hk5))
 have K5 := hid ((Kp.refl b W1).drew.trans hk5)
 have HW5 := hid (fun (sx : ByteArray) (hsx : sx.data.toList = (32 :: (ot ++ [32]))) (w' : World) (hb : Below w5.heap.size w5 w') => show Calls Tryz.prog 66 #[.pointer (some ⟨b, 1, none⟩), .string sx] w' (fun e w'' => (∃ v, e = .returned v) ∧ Wr w'' b mb (bs ++ s ++ (32 :: (ot ++ [32]))) ∧ Kp b w' w'') by
  have hsz : sx.size = ot.length + 2 := by (have h9 : sx.size = sx.data.toList.length := (by rw [Array.length_toList]; rfl)); (rw [h9, hsx]; simp)
  have h := HW.out (bs ++ s) sx w' (T5.out.has.below hb).wr (by rw [hsz]; simp at hl ⊢; omega)
  rw [hsx] at h
  exact h.mono fun e w'' h => ⟨⟨_, h.1⟩, h.2⟩)
 clear hw5 hk5 HKI1
 go_wp2_with fail
 go_region_held3 (fun w' => (w'.cell? ⟨w.heap.size, 2, none⟩ = some (.slice (some ad) 2 k) ∧ w'.cell? ad = some (.string op1) ∧ w'.cell? ⟨ad.block, ad.off + 1, none⟩ = some (.string tx1) ∧ w'.cell? ⟨ad.block, ad.off + 2, none⟩ = some (.slice X1 n1 k1) ∧ w'.cell? ⟨ad.block, ad.off + 3, none⟩ = some (.string op2) ∧ w'.cell? ⟨ad.block, ad.off + 4, none⟩ = some (.string tx2) ∧ w'.cell? ⟨ad.block, ad.off + 5, none⟩ = some (.slice X2 n2 k2) ∧ w'.cell? ⟨w1.heap.size, 1, none⟩ = some (.slice (some ⟨gl, 0, none⟩) 2 d) ∧ w'.cell? ⟨gl, 0, none⟩ = some (.int .i64 l0) ∧ w'.cell? ⟨gl, 1, none⟩ = some (.int .i64 l1) ∧ w'.cell? ⟨w.heap.size, 0, none⟩ = some (.string op)) ∧ Kp b W1 w')
  (first | assumption | (exact K0.out _ (K5.out.drew.trans hk6)) | (exact K0.out _ K5.out.drew))
  (first | (go_at_call 66; with_reducible refine (HW5.out _ ?ce _ ?cv).mono ?_; (case ce => (rw [ByteArray.data_append, ByteArray.data_append, Array.toList_append, Array.toList_append, HOP.out]; simp)); (case cv => exact Below.drew (Below.refl _ _)); rintro e w6 ⟨⟨v6, rfl⟩, hw6, hk6⟩))
 have T6 := hid (T5.out.next HS.out (by omega) hw6 ((Kp.refl b w5).drew.trans hk6))
 have K6 := hid (K5.out.drew.trans hk6)
 clear hw6 hk6 HW5
 have HKI2 := hid (fun (w' : World) (hb : Below w6.heap.size w6 w') => show Calls Tryz.prog 149 #[.pointer (some ⟨b, 0, none⟩), .agg #[.string op2, .string tx2, .slice X2 n2 k2], .int .i64 l1] w' (fun e w'' => e = .returned (.tuple #[]) ∧ Wr w'' b mb (bs ++ s ++ (32 :: (ot ++ [32])) ++ s') ∧ Kp b w' w'') by
  have h := ekidE_any y ih2 hyt l1 S op2 tx2 X2 n2 k2 (bs ++ s ++ (32 :: (ot ++ [32]))) w' (T6.out.has.below hb) HS.out (KN.out _ (K6.out.next (Nat.le_of_lt T6.out.has.lt) hb).bl).2 (by rw [HKT.out]; simp at hl ⊢; omega)
  rw [HKT.out] at h
  exact h)
 go_wp2_with fail
 try rw [hW1]
 go_region_held3 (fun w' => (w'.cell? ⟨w.heap.size, 2, none⟩ = some (.slice (some ad) 2 k) ∧ w'.cell? ad = some (.string op1) ∧ w'.cell? ⟨ad.block, ad.off + 1, none⟩ = some (.string tx1) ∧ w'.cell? ⟨ad.block, ad.off + 2, none⟩ = some (.slice X1 n1 k1) ∧ w'.cell? ⟨ad.block, ad.off + 3, none⟩ = some (.string op2) ∧ w'.cell? ⟨ad.block, ad.off + 4, none⟩ = some (.string tx2) ∧ w'.cell? ⟨ad.block, ad.off + 5, none⟩ = some (.slice X2 n2 k2) ∧ w'.cell? ⟨w1.heap.size, 1, none⟩ = some (.slice (some ⟨gl, 0, none⟩) 2 d) ∧ w'.cell? ⟨gl, 0, none⟩ = some (.int .i64 l0) ∧ w'.cell? ⟨gl, 1, none⟩ = some (.int .i64 l1) ∧ w'.cell? ⟨w.heap.size, 0, none⟩ = some (.string op)) ∧ Kp b W1 w')
  (first | assumption | (exact K0.out _ (K6.out.drew.trans hk7)) | (exact K0.out _ K6.out.drew))
  (first | (go_at_call 149; with_reducible refine (HKI2.out _ ?cv).mono ?_; (case cv => exact Below.drew (Below.refl _ _)); rintro e w7 ⟨rfl, hw7, hk7⟩))
 have T7 := hid (T6.out.next HS.out (by omega) hw7 ((Kp.refl b w6).drew.trans hk7))
 clear hw7 hk7
 go_wp2
 go_end0
 exact ⟨rfl, by have h := T7.out.has.wr; simpa using h, T7.out.kp⟩
end Go.Proofs.YtjbpkpfmgbhlpaaGreatDoor.Code
