/-
  Nodes with one Kid and with two are written by the program's writer.
-/
import Derived.Test.YthpmgnfmeldkjaaGreatDoorSm22
import Derived.Deep.RegionHeld3
import Derived.Test.YthpmgnfmeldkjaaGreatDoorSm19
set_option maxRecDepth 100000
set_option maxHeartbeats 16000000
set_option linter.unusedVariables false
set_option linter.unusedSimpArgs false
open Go.Lib (hid)
namespace Go.Proofs.YthpmgnfmeldkjaaGreatDoor.Code
open Go.ChangeShapes Go.WideShapes Go.ChangeAt Go.RowKit Val Elems
theorem kd0 (k : Nat) (ad : Addr) : ad.add (0 * 3) = ad := by simp [Addr.add]
theorem ESt.kids2 {b mb : Nat} {m : Int} {w0 w : World} {S : Nat → Prop} {o t : List UInt8} {x y : Nod} {op0 op tx : ByteArray} {X : Option Addr} {n k : Nat} {g0 : Nat} {bs : List UInt8} (h : ESt b mb m w0 S (.mk o t [x, y]) op0 op tx X n k g0 bs w) (hS : ∀ g, S g → g < b) :
  ∃ (ad : Addr) (op1 tx1 : ByteArray) (X1 : Option Addr) (n1 k1 : Nat) (op2 tx2 : ByteArray) (X2 : Option Addr) (n2 k2 : Nat), X = some ad ∧ n = 2 ∧ ∀ w', Below b w w' → (w'.cell? ad = some (.string op1) ∧ w'.cell? ⟨ad.block, ad.off + 1, none⟩ = some (.string tx1) ∧ w'.cell? ⟨ad.block, ad.off + 2, none⟩ = some (.slice X1 n1 k1) ∧
   w'.cell? ⟨ad.block, ad.off + 3, none⟩ = some (.string op2) ∧ w'.cell? ⟨ad.block, ad.off + 4, none⟩ = some (.string tx2) ∧ w'.cell? ⟨ad.block, ad.off + 5, none⟩ = some (.slice X2 n2 k2)) ∧ RIn w' S x (op1, tx1, X1, n1, k1) ∧ RIn w' S y (op2, tx2, X2, n2, k2) := by
 have hn := h.nin.texts.2.2.1
 obtain ⟨ad, ⟨op1, tx1, X1, n1, k1⟩, e, hs, c0, c1, c2, hk⟩ := h.nin.kid 0 (by show 0 < 2; omega)
 obtain ⟨ad', ⟨op2, tx2, X2, n2, k2⟩, e', hs', d0, d1, d2, hk'⟩ := h.nin.kid 1 (by show 1 < 2; omega)
 dsimp only at hn e c0 c1 c2 e' d0 d1 d2
 obtain rfl : ad = ad' := Option.some.inj (e.symm.trans e')
 have e3 : ad.add (1 * 3) = ⟨ad.block, ad.off + 3, none⟩ := by simp [Addr.add]
 rw [kd0 0 ad] at c0 c1 c2
 rw [e3] at d0 d1 d2
 have hb := hS _ hs
 exact ⟨ad, op1, tx1, X1, n1, k1, op2, tx2, X2, n2, k2, e, hn, fun w' hw => ⟨⟨(hw.cell hb).trans c0, (hw.cell (p := ⟨ad.block, ad.off + 1, none⟩) hb).trans c1, (hw.cell (p := ⟨ad.block, ad.off + 2, none⟩) hb).trans c2, (hw.cell (p := ⟨ad.block, ad.off + 3, none⟩) hb).trans d0, (hw.cell (p := ⟨ad.block, ad.off + 4, none⟩) hb).trans d1, (hw.cell (p := ⟨ad.block, ad.off + 5, none⟩) hb).trans d2⟩, hk.kp hS hw, hk'.kp hS hw⟩⟩
theorem lit_no {op : ByteArray} {s : List UInt8} (h : op.data.toList ≠ s) : (op.toList == s) = false := by
 rw [ByteArray.toList_eq]
 simpa using h
theorem enodeE_two {b mb : Nat} {m : Int} (ot : List UInt8) (lv l0 l1 : Int) (hr : rE ot [] 2 = some (lv, [l0, l1], false)) (hol : ot.length ≤ 10) (hx : ot ∉ [sText, sNum, sCol, sTrue, sFalse, sNull, sNeg, sNot, sIsNull]) (x y : Nod) (ih : NdE b mb m x) (ih2 : NdE b mb m y) : NdE b mb m (.mk ot [] [x, y]) := by
 intro S op tx X n k bs w h hS hn ht hl
 have hbl := h.lt
 have hxt : x.tot ≤ 100000 := by simp only [Nod.tot, Nod.totL] at ht; omega
 have hyt : y.tot ≤ 100000 := by simp only [Nod.tot, Nod.totL] at ht; omega
 have hsh : showE (.mk ot [] [x, y]) = kdE l0 (showE x, lvE x) ++ (32 :: (ot ++ [32])) ++ kdE l1 (showE y, lvE y) := by rw [showE_good hr]; rfl
 rw [hsh] at hl ⊢
 clear hsh
 obtain ⟨s, hs⟩ : ∃ s, kdE l0 (showE x, lvE x) = s := ⟨_, rfl⟩
 have HKS := hid hs
 rw [hs] at hl ⊢
 clear hs
 obtain ⟨s', hs⟩ : ∃ s, kdE l1 (showE y, lvE y) = s := ⟨_, rfl⟩
 have HKT := hid hs
 rw [hs] at hl ⊢
 clear hs
 have hR := fun (w' : World) (hb : Below w.heap.size w w') => (show Calls Tryz.prog 196 #[.pointer (some ⟨b, 0, none⟩), .agg #[.string op, .string tx, .slice X n k]] w' (FRule w' b (rE ot [] 2)) from ruleN (h.below hb) ht (hn.kp hS (hb.mono (Nat.le_of_lt hbl))))
 rw [hr] at hR
 unfold FRule at hR
 dsimp only [List.length_cons, List.length_nil] at hR
 rw [show (0 : Nat) + 1 + 1 = 2 from rfl] at hR
 obtain ⟨e1, e2, e3, -⟩ := hn.texts
 dsimp only at e1 e2 e3
 have hop : op.data.toList = ot := by rw [e1]; rfl
 simp only [List.mem_cons, List.not_mem_nil, or_false, not_or] at hx
 obtain ⟨n1, n2, n3, n4, n5, n6, n7, n8, n9⟩ := hx
 rw [← hop] at n1 n2 n3 n4 n5 n6 n7 n8 n9
 have g1 := lit_no n1
 have g2 := lit_no n2
 have g3 := lit_no n3
 have g4 := lit_no n4
 have g5 := lit_no n5
 have g6 := lit_no n6
 have g7 := lit_no n7
 have g8 := lit_no n8
 have g9 := lit_no n9
 unfold sText at g1
 unfold sNum at g2
 unfold sCol at g3
 unfold sTrue at g4
 unfold sFalse at g5
 unfold sNull at g6
 unfold sNeg at g7
 unfold sNot at g8
 unfold sIsNull at g9
 have hos : op.size = ot.length := by rw [← hop, Array.length_toList]; rfl
 have HOP := hid hop
 have HOS := hid hos
 have hadd1 : ∀ w, (Op.stringOp .add ⟨#[32]⟩ op).run Tryz.prog w = .ok (.string (⟨#[32]⟩ ++ op)) w := fun w => run_string_add_sum w _ _ (by show 1 + op.size ≤ _; omega)
 have hadd2 : ∀ w, (Op.stringOp .add (⟨#[32]⟩ ++ op) ⟨#[32]⟩).run Tryz.prog w = .ok (.string (⟨#[32]⟩ ++ op ++ ⟨#[32]⟩)) w := fun w => run_string_add_sum w _ _ (by rw [ByteArray.size_append]; show 1 + op.size + 1 ≤ _; omega)
 clear e1 hop n1 n2 n3 n4 n5 n6 n7 n8 n9 hos
 obtain rfl : tx = ⟨#[]⟩ := e2
 obtain rfl : n = 2 := e3
 obtain ⟨tb, htb⟩ : ∃ q, false = q := ⟨_, rfl⟩
 rw [htb] at hR
 clear htb
 have HR := hid hR
 have HH := hid h
 have HN := hid hn
 have HS := hid hS
 have HT := hid ht
 clear hR h hn hS hr ht
 have hW := fun (bs' : List UInt8) (s : ByteArray) (w' : World) (h' : Wr w' b mb bs') (hl' : bs'.length + s.size ≤ 1000000) => ewrite_any b mb bs' s w' h' hl'
 have HW := hid hW
 clear hW
 go_enter Tryz.func168, Tryz.ntmps168
 obtain ⟨w0, hw0⟩ : ∃ w0, w.alloc (.cells #[.string op, .string ⟨#[]⟩, .slice X 2 k] 24) = w0 := ⟨_, rfl⟩
 have B0 := hid (show Below w.heap.size w w0 by rw [← hw0]; exact below_alloc w _)
 have X0 := hid (show HB w0 w.heap.size #[.string op, .string ⟨#[]⟩, .slice X 2 k] 24 by rw [← hw0]; exact HB.fresh w _ _)
 have x0 : w0.cell? ⟨w.heap.size, 0, none⟩ = some (.string op) := X0.out.cell 0
 have x1 : w0.cell? ⟨w.heap.size, 1, none⟩ = some (.string ⟨#[]⟩) := X0.out.cell 1
 have x2 : w0.cell? ⟨w.heap.size, 2, none⟩ = some (.slice X 2 k) := X0.out.cell 2
 go_wp2_with fail
 try rw [hw0]
 refine (HR.out _ B0.out).mono ?_
 rintro e w1 ⟨Y, d, rfl, hY, hb1⟩
 have hz0 : w.heap.size < w0.heap.size := by rw [← hw0]; simp
 have z1 := hb1.size
 have hbz : b < w1.heap.size := by omega
 obtain ⟨W1, hW1⟩ : ∃ W1, w1.alloc (.cells #[.int .i64 lv, .slice Y 2 d, .bool tb] 224) = W1 := ⟨_, rfl⟩
 have B1 := hid (show Below w.heap.size w W1 by rw [← hW1]; exact (bnext B0.out B0.out.size hb1).alloc (by omega) _)
 have RV := hid (show HB W1 w1.heap.size #[.int .i64 lv, .slice Y 2 d, .bool tb] 224 by rw [← hW1]; exact HB.fresh w1 _ _)
 have LV := hid (show LvAt W1 b [l0, l1] Y by rw [← hW1]; exact hY.below ((bnext (Below.refl _ _) (Nat.le_refl _) hb1).mono (by omega) |>.trans ((below_alloc w1 _).mono (by omega))))
 have T1 := hid (show ESt b mb m w S (.mk ot [] [x, y]) op op ⟨#[]⟩ X 2 k w.heap.size bs W1 from
  ⟨HH.out.below B1.out, by rw [← hW1]; exact (X0.out.below hb1).alloc _, HN.out.kp HS.out (B1.out.mono (by omega)), (Kp.refl b w).next (by omega) B1.out⟩)
 have q0 : W1.cell? ⟨w.heap.size, 0, none⟩ = some (.string op) := T1.out.box.cell 0
 have q1 : W1.cell? ⟨w.heap.size, 1, none⟩ = some (.string ⟨#[]⟩) := T1.out.box.cell 1
 have q2 : W1.cell? ⟨w.heap.size, 2, none⟩ = some (.slice X 2 k) := T1.out.box.cell 2
 have f0 : W1.frozen? ⟨w.heap.size, 0, none⟩ = false := T1.out.box.free 0
 have f1 : W1.frozen? ⟨w.heap.size, 1, none⟩ = false := T1.out.box.free 1
 have q3 : W1.cell? ⟨w1.heap.size, 0, none⟩ = some (.int .i64 lv) := RV.out.cell 0
 have q4 : W1.cell? ⟨w1.heap.size, 1, none⟩ = some (.slice Y 2 d) := RV.out.cell 1
 have q5 : W1.cell? ⟨w1.heap.size, 2, none⟩ = some (.bool tb) := RV.out.cell 2
 clear hY hb1 x0 x1 x2 X0 B0 B1 HR
 clear q1
 obtain ⟨ad, op1, tx1, X1, n1, k1, op2, tx2, X2, n2, k2, rfl, -, hK⟩ := T1.out.kids2 HS.out
 obtain ⟨gl, rfl, hgl, hgb⟩ : ∃ gl, Y = some ⟨gl, 0, none⟩ ∧ gl < b ∧ HB W1 gl #[.int .i64 l0, .int .i64 l1] 221 := by
  rcases LV.out with h | ⟨gl, h1, h2, h3⟩
  ·cases h
  ·exact ⟨gl, h1, h2, h3⟩
 have K0 := hid (fun (w' : World) (hk : Kp b W1 w') => (show (w'.cell? ⟨w.heap.size, 2, none⟩ = some (.slice (some ad) 2 k) ∧ w'.cell? ad = some (.string op1) ∧ w'.cell? ⟨ad.block, ad.off + 1, none⟩ = some (.string tx1) ∧ w'.cell? ⟨ad.block, ad.off + 2, none⟩ = some (.slice X1 n1 k1) ∧ w'.cell? ⟨ad.block, ad.off + 3, none⟩ = some (.string op2) ∧ w'.cell? ⟨ad.block, ad.off + 4, none⟩ = some (.string tx2) ∧ w'.cell? ⟨ad.block, ad.off + 5, none⟩ = some (.slice X2 n2 k2) ∧ w'.cell? ⟨w1.heap.size, 1, none⟩ = some (.slice (some ⟨gl, 0, none⟩) 2 d) ∧ w'.cell? ⟨gl, 0, none⟩ = some (.int .i64 l0) ∧ w'.cell? ⟨gl, 1, none⟩ = some (.int .i64 l1) ∧ w'.cell? ⟨w.heap.size, 0, none⟩ = some (.string op)) ∧ Kp b W1 w' from
  ⟨⟨(T1.out.box.kp hk (by omega) (by decide)).cell 2, (hK w' hk.bl).1.1, (hK w' hk.bl).1.2.1, (hK w' hk.bl).1.2.2.1, (hK w' hk.bl).1.2.2.2.1, (hK w' hk.bl).1.2.2.2.2.1, (hK w' hk.bl).1.2.2.2.2.2, (RV.out.kp hk (by omega) (by decide)).cell 1, ((hk.bl.cell (p := ⟨gl, 0, none⟩) hgl).trans (hgb.cell 0)), ((hk.bl.cell (p := ⟨gl, 1, none⟩) hgl).trans (hgb.cell 1)), (T1.out.box.kp hk (by omega) (by decide)).cell 0⟩, hk⟩))
 have KN := hid (fun (w' : World) (hk : Below b W1 w') => (hK w' hk).2)
 clear hK hgb
 have HKI1 := hid (fun (w' : World) (hb : Below W1.heap.size W1 w') => show Calls Tryz.prog 198 #[.pointer (some ⟨b, 0, none⟩), .agg #[.string op1, .string tx1, .slice X1 n1 k1], .int .i64 l0] w' (fun e w'' => e = .returned (.tuple #[]) ∧ Wr w'' b mb (bs ++ s) ∧ Kp b w' w'') by
  have h := ekidE_any x ih hxt l0 S op1 tx1 X1 n1 k1 (bs) w' (T1.out.has.below hb) HS.out (KN.out _ ((Kp.refl b W1).next (Nat.le_of_lt T1.out.has.lt) hb).bl).1 (by rw [HKS.out]; simp at hl ⊢; omega)
  rw [HKS.out] at h
  exact h)
 go_wp2_with fail
 try rw [hW1]
 go_region_held3 (fun w' => (w'.cell? ⟨w.heap.size, 2, none⟩ = some (.slice (some ad) 2 k) ∧ w'.cell? ad = some (.string op1) ∧ w'.cell? ⟨ad.block, ad.off + 1, none⟩ = some (.string tx1) ∧ w'.cell? ⟨ad.block, ad.off + 2, none⟩ = some (.slice X1 n1 k1) ∧ w'.cell? ⟨ad.block, ad.off + 3, none⟩ = some (.string op2) ∧ w'.cell? ⟨ad.block, ad.off + 4, none⟩ = some (.string tx2) ∧ w'.cell? ⟨ad.block, ad.off + 5, none⟩ = some (.slice X2 n2 k2) ∧ w'.cell? ⟨w1.heap.size, 1, none⟩ = some (.slice (some ⟨gl, 0, none⟩) 2 d) ∧ w'.cell? ⟨gl, 0, none⟩ = some (.int .i64 l0) ∧ w'.cell? ⟨gl, 1, none⟩ = some (.int .i64 l1) ∧ w'.cell? ⟨w.heap.size, 0, none⟩ = some (.string op)) ∧ Kp b W1 w')
  (first | assumption | (exact K0.out _ ((Kp.refl b W1).drew.trans hk5)) | (exact K0.out _ (Kp.refl b W1).drew))
  (first | (go_at_call 198; with_reducible refine (HKI1.out _ ?cv).mono ?_; (case cv => exact Below.drew (Below.refl _ _)); rintro e w5 ⟨rfl, hw5, hk5⟩))
 have T5 := hid (T1.out.next HS.out (by omega) hw5 ((Kp.refl b W1).drew.trans hk5))
 have K5 := hid ((Kp.refl b W1).drew.trans hk5)
 have HW5 := hid (fun (sx : ByteArray) (hsx : sx.data.toList = (32 :: (ot ++ [32]))) (w' : World) (hb : Below w5.heap.size w5 w') => show Calls Tryz.prog 72 #[.pointer (some ⟨b, 1, none⟩), .string sx] w' (fun e w'' => (∃ v, e = .returned v) ∧ Wr w'' b mb (bs ++ s ++ (32 :: (ot ++ [32]))) ∧ Kp b w' w'') by
  have hsz : sx.size = ot.length + 2 := by (have h9 : sx.size = sx.data.toList.length := (by rw [Array.length_toList]; rfl)); (rw [h9, hsx]; simp)
  have h := HW.out (bs ++ s) sx w' (T5.out.has.below hb).wr (by rw [hsz]; simp at hl ⊢; omega)
  rw [hsx] at h
  exact h.mono fun e w'' h => ⟨⟨_, h.1⟩, h.2⟩)
 clear hw5 hk5 HKI1
 go_wp2_with fail
 go_region_held3 (fun w' => (w'.cell? ⟨w.heap.size, 2, none⟩ = some (.slice (some ad) 2 k) ∧ w'.cell? ad = some (.string op1) ∧ w'.cell? ⟨ad.block, ad.off + 1, none⟩ = some (.string tx1) ∧ w'.cell? ⟨ad.block, ad.off + 2, none⟩ = some (.slice X1 n1 k1) ∧ w'.cell? ⟨ad.block, ad.off + 3, none⟩ = some (.string op2) ∧ w'.cell? ⟨ad.block, ad.off + 4, none⟩ = some (.string tx2) ∧ w'.cell? ⟨ad.block, ad.off + 5, none⟩ = some (.slice X2 n2 k2) ∧ w'.cell? ⟨w1.heap.size, 1, none⟩ = some (.slice (some ⟨gl, 0, none⟩) 2 d) ∧ w'.cell? ⟨gl, 0, none⟩ = some (.int .i64 l0) ∧ w'.cell? ⟨gl, 1, none⟩ = some (.int .i64 l1) ∧ w'.cell? ⟨w.heap.size, 0, none⟩ = some (.string op)) ∧ Kp b W1 w')
  (first | assumption | (exact K0.out _ (K5.out.drew.trans hk6)) | (exact K0.out _ K5.out.drew))
  (first | (go_at_call 72; with_reducible refine (HW5.out _ ?ce _ ?cv).mono ?_; (case ce => (rw [ByteArray.data_append, ByteArray.data_append, Array.toList_append, Array.toList_append, HOP.out]; simp)); (case cv => exact Below.drew (Below.refl _ _)); rintro e w6 ⟨⟨v6, rfl⟩, hw6, hk6⟩))
 have T6 := hid (T5.out.next HS.out (by omega) hw6 ((Kp.refl b w5).drew.trans hk6))
 have K6 := hid (K5.out.drew.trans hk6)
 clear hw6 hk6 HW5
 have HKI2 := hid (fun (w' : World) (hb : Below w6.heap.size w6 w') => show Calls Tryz.prog 198 #[.pointer (some ⟨b, 0, none⟩), .agg #[.string op2, .string tx2, .slice X2 n2 k2], .int .i64 l1] w' (fun e w'' => e = .returned (.tuple #[]) ∧ Wr w'' b mb (bs ++ s ++ (32 :: (ot ++ [32])) ++ s') ∧ Kp b w' w'') by
  have h := ekidE_any y ih2 hyt l1 S op2 tx2 X2 n2 k2 (bs ++ s ++ (32 :: (ot ++ [32]))) w' (T6.out.has.below hb) HS.out (KN.out _ (K6.out.next (Nat.le_of_lt T6.out.has.lt) hb).bl).2 (by rw [HKT.out]; simp at hl ⊢; omega)
  rw [HKT.out] at h
  exact h)
 go_wp2_with fail
 try rw [hW1]
 go_region_held3 (fun w' => (w'.cell? ⟨w.heap.size, 2, none⟩ = some (.slice (some ad) 2 k) ∧ w'.cell? ad = some (.string op1) ∧ w'.cell? ⟨ad.block, ad.off + 1, none⟩ = some (.string tx1) ∧ w'.cell? ⟨ad.block, ad.off + 2, none⟩ = some (.slice X1 n1 k1) ∧ w'.cell? ⟨ad.block, ad.off + 3, none⟩ = some (.string op2) ∧ w'.cell? ⟨ad.block, ad.off + 4, none⟩ = some (.string tx2) ∧ w'.cell? ⟨ad.block, ad.off + 5, none⟩ = some (.slice X2 n2 k2) ∧ w'.cell? ⟨w1.heap.size, 1, none⟩ = some (.slice (some ⟨gl, 0, none⟩) 2 d) ∧ w'.cell? ⟨gl, 0, none⟩ = some (.int .i64 l0) ∧ w'.cell? ⟨gl, 1, none⟩ = some (.int .i64 l1) ∧ w'.cell? ⟨w.heap.size, 0, none⟩ = some (.string op)) ∧ Kp b W1 w')
  (first | assumption | (exact K0.out _ (K6.out.drew.trans hk7)) | (exact K0.out _ K6.out.drew))
  (first | (go_at_call 198; with_reducible refine (HKI2.out _ ?cv).mono ?_; (case cv => exact Below.drew (Below.refl _ _)); rintro e w7 ⟨rfl, hw7, hk7⟩))
 have T7 := hid (T6.out.next HS.out (by omega) hw7 ((Kp.refl b w6).drew.trans hk7))
 clear hw7 hk7
 go_wp2
 go_end0
 exact ⟨rfl, by have h := T7.out.has.wr; simpa using h, T7.out.kp⟩
theorem WrAt.far {w : World} {b mb : Nat} {p : Value} {bs : List UInt8} (h : WrAt w b mb p bs) {g : Nat} {cs : Array Value} {t : TypeId} (hb : HB w g cs t) (ht : t ≠ 5) (hg : g ≠ b) (j : Nat) (u : Value) : WrAt (w.setCell ⟨g, j, none⟩ u) b mb p bs := by
 obtain ⟨v, h1, h2, h3⟩ := h
 have hne : v.ownBlock ≠ some g := by
  intro e
  obtain ⟨c, fz, hc⟩ := Lib.ownsRow_kind h2 g e
  have hb' : w.heap[g]? = some (.cells cs t (0, 0)) := hb
  rw [hb'] at hc
  injection hc with hc
  injection hc with _ hc2
  exact ht hc2
 exact ⟨v, h1.far _ hg u, h2.kept (grown_set w g j u) (.inr hne), h3⟩
theorem HasE.far {b mb : Nat} {m : Int} {bs : List UInt8} {w : World} (h : HasE b mb m bs w) {g : Nat} {cs : Array Value} {t : TypeId} (hb : HB w g cs t) (ht : t ≠ 5) (hg : b < g) (j : Nat) (u : Value) : HasE b mb m bs (w.setCell ⟨g, j, none⟩ u) := by
 have hB : Below b w (w.setCell ⟨g, j, none⟩ u) := (Below.refl b w).setCell (Nat.le_of_lt hg) u
 exact ⟨h.wr.elim (fun h => .inl (h.far hb ht (by omega) j u)) (fun h => .inr (h.far hb ht (by omega) j u)), h.ru.below hB, h.ev.below hB⟩
theorem enodeE_num {b mb : Nat} {m : Int} (tv : List UInt8) : NdE b mb m (.mk sNum tv []) := by
 intro S op tx X n k bs w h hS hn ht hl
 have hbl := h.lt
 have hsh : showE (.mk sNum tv []) = tv := showE_good (r := (7, [], true)) (by unfold rE; rw [show ruleE sNum = some (7, [], true) by decide]; dsimp only; rw [if_pos ⟨rfl, .inr rfl⟩])
 rw [hsh] at hl ⊢
 clear hsh
 have hr : rE sNum tv 0 = some (7, [], true) := by unfold rE; rw [show ruleE sNum = some (7, [], true) by decide]; dsimp only; rw [if_pos ⟨rfl, .inr rfl⟩]
 have hR := fun (w' : World) (hb : Below w.heap.size w w') => (show Calls Tryz.prog 196 #[.pointer (some ⟨b, 0, none⟩), .agg #[.string op, .string tx, .slice X n k]] w' (FRule w' b (rE sNum tv 0)) from ruleN (h.below hb) ht (hn.kp hS (hb.mono (Nat.le_of_lt hbl))))
 rw [hr] at hR
 unfold FRule at hR
 dsimp only [List.length_cons, List.length_nil] at hR
 obtain ⟨e1, e2, e3, -⟩ := hn.texts
 dsimp only at e1 e2 e3
 obtain rfl : op = ⟨#[110, 117, 109]⟩ := e1
 have HTX := hid (show tx = ⟨tv.toArray⟩ from e2)
 clear e2
 obtain rfl : n = 0 := e3
 have HR := hid hR
 have HH := hid h
 have HN := hid hn
 have HS := hid hS
 have HT := hid ht
 clear hR h hn hS hr ht
 have hW := fun (bs' : List UInt8) (s : ByteArray) (w' : World) (h' : Wr w' b mb bs') (hl' : bs'.length + s.size ≤ 1000000) => ewrite_any b mb bs' s w' h' hl'
 have HW := hid hW
 clear hW
 go_enter Tryz.func168, Tryz.ntmps168
 obtain ⟨w0, hw0⟩ : ∃ w0, w.alloc (.cells #[.string ⟨#[110, 117, 109]⟩, .string tx, .slice X 0 k] 24) = w0 := ⟨_, rfl⟩
 have B0 := hid (show Below w.heap.size w w0 by rw [← hw0]; exact below_alloc w _)
 have X0 := hid (show HB w0 w.heap.size #[.string ⟨#[110, 117, 109]⟩, .string tx, .slice X 0 k] 24 by rw [← hw0]; exact HB.fresh w _ _)
 have x0 : w0.cell? ⟨w.heap.size, 0, none⟩ = some (.string ⟨#[110, 117, 109]⟩) := X0.out.cell 0
 have x1 : w0.cell? ⟨w.heap.size, 1, none⟩ = some (.string tx) := X0.out.cell 1
 have x2 : w0.cell? ⟨w.heap.size, 2, none⟩ = some (.slice X 0 k) := X0.out.cell 2
 go_wp2_with fail
 try rw [hw0]
 refine (HR.out _ B0.out).mono ?_
 rintro e w1 ⟨Y, d, rfl, hY, hb1⟩
 have hz0 : w.heap.size < w0.heap.size := by rw [← hw0]; simp
 have z1 := hb1.size
 have hbz : b < w1.heap.size := by omega
 obtain ⟨W1, hW1⟩ : ∃ W1, w1.alloc (.cells #[.int .i64 7, .slice Y 0 d, .bool true] 224) = W1 := ⟨_, rfl⟩
 have B1 := hid (show Below w.heap.size w W1 by rw [← hW1]; exact (bnext B0.out B0.out.size hb1).alloc (by omega) _)
 have RV := hid (show HB W1 w1.heap.size #[.int .i64 7, .slice Y 0 d, .bool true] 224 by rw [← hW1]; exact HB.fresh w1 _ _)
 have LV := hid (show LvAt W1 b [] Y by rw [← hW1]; exact hY.below ((bnext (Below.refl _ _) (Nat.le_refl _) hb1).mono (by omega) |>.trans ((below_alloc w1 _).mono (by omega))))
 have T1 := hid (show ESt b mb m w S (.mk sNum tv []) ⟨#[110, 117, 109]⟩ ⟨#[110, 117, 109]⟩ tx X 0 k w.heap.size bs W1 from
  ⟨HH.out.below B1.out, by rw [← hW1]; exact (X0.out.below hb1).alloc _, HN.out.kp HS.out (B1.out.mono (by omega)), (Kp.refl b w).next (by omega) B1.out⟩)
 have q0 : W1.cell? ⟨w.heap.size, 0, none⟩ = some (.string ⟨#[110, 117, 109]⟩) := T1.out.box.cell 0
 have q1 : W1.cell? ⟨w.heap.size, 1, none⟩ = some (.string tx) := T1.out.box.cell 1
 have q2 : W1.cell? ⟨w.heap.size, 2, none⟩ = some (.slice X 0 k) := T1.out.box.cell 2
 have f0 : W1.frozen? ⟨w.heap.size, 0, none⟩ = false := T1.out.box.free 0
 have f1 : W1.frozen? ⟨w.heap.size, 1, none⟩ = false := T1.out.box.free 1
 have q3 : W1.cell? ⟨w1.heap.size, 0, none⟩ = some (.int .i64 7) := RV.out.cell 0
 have q4 : W1.cell? ⟨w1.heap.size, 1, none⟩ = some (.slice Y 0 d) := RV.out.cell 1
 have q5 : W1.cell? ⟨w1.heap.size, 2, none⟩ = some (.bool true) := RV.out.cell 2
 clear hY hb1 x0 x1 x2 X0 B0 B1 HR
 clear q2 q3 q4 q5
 obtain ⟨W3, hW3⟩ : ∃ W3, W1.setCell ⟨w.heap.size, 0, none⟩ (.string tx) = W3 := ⟨_, rfl⟩
 have A3 := hid (show HasE b mb m bs W3 by rw [← hW3]; exact T1.out.has.far T1.out.box (by decide) (by omega) 0 _)
 have B3 := hid (show HB W3 w.heap.size #[.string tx, .string tx, .slice X 0 k] 24 by rw [← hW3]; exact (T1.out.box.set 0 _))
 have K3 := hid (show Kp b w W3 by rw [← hW3]; exact T1.out.kp.new _ (Nat.le_refl _) (Nat.le_of_lt hbl) _)
 have KX := hid (fun (w' : World) (hk : Kp b W3 w') => show w'.cell? ⟨w.heap.size, 0, none⟩ = some (.string tx) from (B3.out.kp hk (by omega) (by decide)).cell 0)
 go_wp2_with fail
 try rw [hW1]
 try rw [hW3]
 go_region_held3 (fun w' => (w'.cell? ⟨w.heap.size, 0, none⟩ = some (.string tx)) ∧ Kp b W3 w')
  (first | assumption | (exact ⟨KX.out _ ((Kp.refl b W3).drew.trans hk5), (Kp.refl b W3).drew.trans hk5⟩) | (exact ⟨KX.out _ (Kp.refl b W3).drew, (Kp.refl b W3).drew⟩))
  (first | (go_at_call 72; with_reducible refine (HW.out bs tx _ ?ce ?cl).mono ?_; (case ce => exact (A3.out.below (Below.drew (Below.refl _ _))).wr); (case cl => (have h1 : tx.size = tv.length := by rw [HTX.out]; exact size_list _); (rw [h1]; simp at hl ⊢; omega)); rintro e w5 ⟨rfl, hw5, hk5⟩))
 have A5 := hid (show Wr w5 b mb (bs ++ tv) by have h := hw5; rw [HTX.out] at h; exact h)
 have K5 := hid (K3.out.trans ((Kp.refl b W3).drew.trans hk5))
 clear hw5 hk5
 go_wp2
 go_end0
 exact ⟨rfl, A5.out, K5.out⟩
theorem enodeE_col {b mb : Nat} {m : Int} (tv : List UInt8) : NdE b mb m (.mk sCol tv []) := by
 intro S op tx X n k bs w h hS hn ht hl
 have hbl := h.lt
 have hsh : showE (.mk sCol tv []) = tv := showE_good (r := (7, [], true)) (by unfold rE; rw [show ruleE sCol = some (7, [], true) by decide]; dsimp only; rw [if_pos ⟨rfl, .inr rfl⟩])
 rw [hsh] at hl ⊢
 clear hsh
 have hr : rE sCol tv 0 = some (7, [], true) := by unfold rE; rw [show ruleE sCol = some (7, [], true) by decide]; dsimp only; rw [if_pos ⟨rfl, .inr rfl⟩]
 have hR := fun (w' : World) (hb : Below w.heap.size w w') => (show Calls Tryz.prog 196 #[.pointer (some ⟨b, 0, none⟩), .agg #[.string op, .string tx, .slice X n k]] w' (FRule w' b (rE sCol tv 0)) from ruleN (h.below hb) ht (hn.kp hS (hb.mono (Nat.le_of_lt hbl))))
 rw [hr] at hR
 unfold FRule at hR
 dsimp only [List.length_cons, List.length_nil] at hR
 obtain ⟨e1, e2, e3, -⟩ := hn.texts
 dsimp only at e1 e2 e3
 obtain rfl : op = ⟨#[99, 111, 108]⟩ := e1
 have HTX := hid (show tx = ⟨tv.toArray⟩ from e2)
 clear e2
 obtain rfl : n = 0 := e3
 have HR := hid hR
 have HH := hid h
 have HN := hid hn
 have HS := hid hS
 have HT := hid ht
 clear hR h hn hS hr ht
 have hW := fun (bs' : List UInt8) (s : ByteArray) (w' : World) (h' : Wr w' b mb bs') (hl' : bs'.length + s.size ≤ 1000000) => ewrite_any b mb bs' s w' h' hl'
 have HW := hid hW
 clear hW
 go_enter Tryz.func168, Tryz.ntmps168
 obtain ⟨w0, hw0⟩ : ∃ w0, w.alloc (.cells #[.string ⟨#[99, 111, 108]⟩, .string tx, .slice X 0 k] 24) = w0 := ⟨_, rfl⟩
 have B0 := hid (show Below w.heap.size w w0 by rw [← hw0]; exact below_alloc w _)
 have X0 := hid (show HB w0 w.heap.size #[.string ⟨#[99, 111, 108]⟩, .string tx, .slice X 0 k] 24 by rw [← hw0]; exact HB.fresh w _ _)
 have x0 : w0.cell? ⟨w.heap.size, 0, none⟩ = some (.string ⟨#[99, 111, 108]⟩) := X0.out.cell 0
 have x1 : w0.cell? ⟨w.heap.size, 1, none⟩ = some (.string tx) := X0.out.cell 1
 have x2 : w0.cell? ⟨w.heap.size, 2, none⟩ = some (.slice X 0 k) := X0.out.cell 2
 go_wp2_with fail
 try rw [hw0]
 refine (HR.out _ B0.out).mono ?_
 rintro e w1 ⟨Y, d, rfl, hY, hb1⟩
 have hz0 : w.heap.size < w0.heap.size := by rw [← hw0]; simp
 have z1 := hb1.size
 have hbz : b < w1.heap.size := by omega
 obtain ⟨W1, hW1⟩ : ∃ W1, w1.alloc (.cells #[.int .i64 7, .slice Y 0 d, .bool true] 224) = W1 := ⟨_, rfl⟩
 have B1 := hid (show Below w.heap.size w W1 by rw [← hW1]; exact (bnext B0.out B0.out.size hb1).alloc (by omega) _)
 have RV := hid (show HB W1 w1.heap.size #[.int .i64 7, .slice Y 0 d, .bool true] 224 by rw [← hW1]; exact HB.fresh w1 _ _)
 have LV := hid (show LvAt W1 b [] Y by rw [← hW1]; exact hY.below ((bnext (Below.refl _ _) (Nat.le_refl _) hb1).mono (by omega) |>.trans ((below_alloc w1 _).mono (by omega))))
 have T1 := hid (show ESt b mb m w S (.mk sCol tv []) ⟨#[99, 111, 108]⟩ ⟨#[99, 111, 108]⟩ tx X 0 k w.heap.size bs W1 from
  ⟨HH.out.below B1.out, by rw [← hW1]; exact (X0.out.below hb1).alloc _, HN.out.kp HS.out (B1.out.mono (by omega)), (Kp.refl b w).next (by omega) B1.out⟩)
 have q0 : W1.cell? ⟨w.heap.size, 0, none⟩ = some (.string ⟨#[99, 111, 108]⟩) := T1.out.box.cell 0
 have q1 : W1.cell? ⟨w.heap.size, 1, none⟩ = some (.string tx) := T1.out.box.cell 1
 have q2 : W1.cell? ⟨w.heap.size, 2, none⟩ = some (.slice X 0 k) := T1.out.box.cell 2
 have f0 : W1.frozen? ⟨w.heap.size, 0, none⟩ = false := T1.out.box.free 0
 have f1 : W1.frozen? ⟨w.heap.size, 1, none⟩ = false := T1.out.box.free 1
 have q3 : W1.cell? ⟨w1.heap.size, 0, none⟩ = some (.int .i64 7) := RV.out.cell 0
 have q4 : W1.cell? ⟨w1.heap.size, 1, none⟩ = some (.slice Y 0 d) := RV.out.cell 1
 have q5 : W1.cell? ⟨w1.heap.size, 2, none⟩ = some (.bool true) := RV.out.cell 2
 clear hY hb1 x0 x1 x2 X0 B0 B1 HR
 clear q2 q3 q4 q5
 obtain ⟨W3, hW3⟩ : ∃ W3, W1.setCell ⟨w.heap.size, 0, none⟩ (.string tx) = W3 := ⟨_, rfl⟩
 have A3 := hid (show HasE b mb m bs W3 by rw [← hW3]; exact T1.out.has.far T1.out.box (by decide) (by omega) 0 _)
 have B3 := hid (show HB W3 w.heap.size #[.string tx, .string tx, .slice X 0 k] 24 by rw [← hW3]; exact (T1.out.box.set 0 _))
 have K3 := hid (show Kp b w W3 by rw [← hW3]; exact T1.out.kp.new _ (Nat.le_refl _) (Nat.le_of_lt hbl) _)
 have KX := hid (fun (w' : World) (hk : Kp b W3 w') => show w'.cell? ⟨w.heap.size, 0, none⟩ = some (.string tx) from (B3.out.kp hk (by omega) (by decide)).cell 0)
 go_wp2_with fail
 try rw [hW1]
 try rw [hW3]
 go_region_held3 (fun w' => (w'.cell? ⟨w.heap.size, 0, none⟩ = some (.string tx)) ∧ Kp b W3 w')
  (first | assumption | (exact ⟨KX.out _ ((Kp.refl b W3).drew.trans hk5), (Kp.refl b W3).drew.trans hk5⟩) | (exact ⟨KX.out _ (Kp.refl b W3).drew, (Kp.refl b W3).drew⟩))
  (first | (go_at_call 72; with_reducible refine (HW.out bs tx _ ?ce ?cl).mono ?_; (case ce => exact (A3.out.below (Below.drew (Below.refl _ _))).wr); (case cl => (have h1 : tx.size = tv.length := by rw [HTX.out]; exact size_list _); (rw [h1]; simp at hl ⊢; omega)); rintro e w5 ⟨rfl, hw5, hk5⟩))
 have A5 := hid (show Wr w5 b mb (bs ++ tv) by have h := hw5; rw [HTX.out] at h; exact h)
 have K5 := hid (K3.out.trans ((Kp.refl b W3).drew.trans hk5))
 clear hw5 hk5
 go_wp2
 go_end0
 exact ⟨rfl, A5.out, K5.out⟩
theorem kindQ_none {L : List V} {i : Nat} {b : Bool} : ∀ {l : List (List UInt8)}, (∀ s ∈ l, (isK L i b 0 && txt L i == s) = false) → kindQ L i b l = []
 | [], _ => rfl
 | s :: l, h => by rw [kindQ, if_neg (by rw [h s (List.mem_cons_self ..)]; decide)]; exact kindQ_none fun t ht => h t (List.mem_cons_of_mem _ ht)
theorem kindQ_step {L : List V} {i : Nat} {b : Bool} : ∀ (ls : List (List UInt8)) (k : Nat) (h : k < ls.length), (∀ j (hj : j < ls.length), j < k → (isK L i b 0 && txt L i == ls[j]) = false) → (isK L i b 0 && txt L i == ls[k]) = true → kindQ L i b ls = ls[k]
 | [], k, h, _, _ => absurd h (Nat.not_lt_zero _)
 | s :: ls, 0, h, _, hw => by
  rw [kindQ, if_pos (show (isK L i b 0 && txt L i == s) = true from hw)]
  rfl
 | s :: ls, k + 1, h, hb, hw => by
  have h0 := hb 0 (by simp) (by omega)
  rw [kindQ, if_neg (by rw [show (isK L i b 0 && txt L i == s) = false from h0]; decide)]
  exact kindQ_step ls k (by simpa using h) (fun j hj hjk => hb (j + 1) (by simpa using hj) (by omega)) hw
theorem nat_new (w : World) (op tx : ByteArray) (Y : Option Addr) (n k : Nat) (ty : TypeId) (S : Nat → Prop) (hS : S w.heap.size) : NAt (w.alloc (.cells #[.string op, .string tx, .slice Y n k] ty)) S (some ⟨w.heap.size, 0, none⟩) [(op, tx, Y, n, k)] := by
 have h := NBox.fresh w (.string op) (.string tx) (.slice Y n k) ty
 intro i hi
 obtain rfl : i = 0 := by simp at hi; exact hi
 exact ⟨_, rfl, hS, h.c0, h.c1, h.c2⟩
theorem leaf_made (w : World) (a b c d : ByteArray) : RIn (w.alloc (.cells #[.string a, .string b, .slice none 0 0] 24)) (fun g => w.heap.size ≤ g ∧ g < w.heap.size + 1) (.mk c.data.toList d.data.toList [.mk a.data.toList b.data.toList []]) (c, d, some ⟨w.heap.size, 0, none⟩, 1, 1) :=
 RIn.made (ks := [.mk a.data.toList b.data.toList []]) 1 c d (nat_new w a b none 0 0 _ (fun g => w.heap.size ≤ g ∧ g < w.heap.size + 1) ⟨Nat.le_refl _, by omega⟩) (RAll.one (RIn.leafN _ _ a b)) (by simp) (by simp)
theorem agg_told {r q : Nat} {A : Option Addr} {cap : Nat} {l : List W} {w w7 : World} {j : Nat} {c : Bool} (hr : r < w.heap.size) (hq : q < w.heap.size) (a b d : ByteArray) {res : Res} (hres : res = (.mk sAgg d.data.toList [.mk a.data.toList b.data.toList []], j, c)) (hb : But w w7 r) (hlt : w.heap.size < w7.heap.size) (hQ : QRd w7 r q A cap l j c) :
  GetN r q A cap l w res (.returned (.agg #[.string ⟨#[97, 103, 103]⟩, .string d, .slice (some ⟨w7.heap.size, 0, none⟩) 1 1])) (W3 (w7.alloc (.cells #[.string a, .string b, .slice none 0 0] 24)) w.heap.size (.string ⟨#[97, 103, 103]⟩) (.string d) (.slice (some ⟨w7.heap.size, 0, none⟩) 1 1)) := by
 subst hres
 exact ⟨_, _, _, _, _, rfl, ((leaf_made w7 a b ⟨#[97, 103, 103]⟩ d).w3 (g := w.heap.size) (fun h => by have := h.1; omega) _ _ _).imp (fun g hg => ⟨by have := hg.1; omega, by show g < (W3 _ w.heap.size _ _ _).heap.size; rw [W3.size]; have := hg.2; simp; omega⟩), W3.but (hb.alloc _) (Nat.le_refl _) _ _ _, (hQ.alloc _).w3 hr (by omega) _ _ _⟩
theorem QRd.at1 {w : World} {r q : Nat} {A : Option Addr} {cap : Nat} {l : List W} {i : Nat} {b : Bool} (h : QRd w r q A cap l i b) : QRd (w.setCell ⟨r, 1, none⟩ (.int .i64 ((i : Int) + 1))) r q A cap l (i + 1) b :=
 ⟨Code.at1 h.rd, (World.cell?_setCell_other _ _ _ _ (fun e => h.ne (congrArg Addr.block e).symm)).trans h.cq, h.ne⟩
theorem QRd.wrong {w : World} {r q : Nat} {A : Option Addr} {cap : Nat} {l : List W} {i : Nat} {b : Bool} (h : QRd w r q A cap l i b) : QRd (w.setCell ⟨r, 2, none⟩ (.bool true)) r q A cap l i true :=
 ⟨h.rd.wrong, (World.cell?_setCell_other _ _ _ _ (fun e => h.ne (congrArg Addr.block e).symm)).trans h.cq, h.ne⟩
theorem NBox.text {w : World} {g : Nat} {a b c : Value} (h : NBox w g a b c) (z : Value) : NBox (w.setCell ⟨g, 1, none⟩ z) g a z c :=
 ⟨(World.cell?_setCell_other _ _ _ _ (by simp)).trans h.c0, World.cell?_setCell_same _ _ _ h.c1, (World.cell?_setCell_other _ _ _ _ (by simp)).trans h.c2, fun j => by rw [World.frozen?_setCell]; exact h.fr j⟩
theorem kind_ne {s : List UInt8} (hs : s ∈ aggOps) : s ≠ [] := by
 intro e
 subst e
 revert hs
 decide
theorem qagg_any (r q : Nat) (A : Option Addr) (cap : Nat) (l : List W) (i : Nat) (b : Bool) (w : World) (h : QRd w r q A cap l i b) (hi : i ≤ l.length) (hl : l.length ≤ 4194304) :
  Calls Tryz.prog 184 #[.pointer (some ⟨q, 0, none⟩)] w (GetN r q A cap l w (aggQ (bare l) i b)) := by
 have HR := hid h
 have zr := h.lt
 have zq := h.ltq
 have E1 := nm_ends (L := bare l) (i := i) (b := b) (by rw [bare_length]; omega)
 obtain ⟨n0, hn0⟩ : ∃ n0, nmQ (bare l) i b = n0 := ⟨_, rfl⟩
 rw [hn0] at E1
 have E2 := must_ends (L := bare l) (i := n0.2.1) (b := n0.2.2) (s := [61]) E1.2.1
 obtain ⟨m0, hm0⟩ : ∃ m0, mustQ (bare l) n0.2.1 n0.2.2 [61] = m0 := ⟨_, rfl⟩
 rw [hm0] at E2
 have hres : aggQ (bare l) i b = agg2Q (bare l) n0.1 m0.1 m0.2 := by unfold aggQ; rw [hn0, hm0]
 rw [hres]
 have H1 := hid (fun (w' : World) (h' : QRd w' r q A cap l i b) => qname_any r q A cap l i b w' h' hi hl)
 have H2 := hid (fun (w' : World) (h' : QRd w' r q A cap l n0.2.1 n0.2.2) => qmust_any r q A cap l n0.2.1 n0.2.2 ⟨#[61]⟩ w' h' (by have := E1.2.1; rw [bare_length] at this; exact this) hl)
 rw [hn0] at H1
 rw [show (⟨#[61]⟩ : ByteArray).data.toList = [61] from rfl, hm0] at H2
 obtain ⟨i1, b1⟩ := m0
 have hi1 : i1 ≤ l.length := by have := E2.2.1; rw [bare_length] at this; exact this
 have HK := hid (fun (w' : World) (h' : QRd w' r q A cap l i1 b1) => rkind_any r A cap l i1 b1 0 w' h'.rd hi1 hl)
 obtain ⟨T, hT⟩ : ∃ T : ByteArray, ⟨n0.1.toArray⟩ = T := ⟨_, rfl⟩
 have HTT := hid (show n0.1 = T.data.toList by rw [← hT])
 rw [hT] at H1
 obtain ⟨kk, hkk⟩ : ∃ kk, isK (bare l) i1 b1 0 = kk := ⟨_, rfl⟩
 rw [hkk] at HK
 obtain ⟨RES, hRES⟩ : ∃ RES, agg2Q (bare l) n0.1 i1 b1 = RES := ⟨_, rfl⟩
 rw [hRES]
 have HRE := hid hRES
 have HKK := hid hkk
 dsimp only at H2
 clear h hn0 hm0 hT hres E1 E2 hRES hkk
 go_enter Tryz.func184, Tryz.ntmps184
 obtain ⟨w0, hw0, hz0, N0, B0⟩ := made0 w r
 have R0 := hid (show QRd w0 r q A cap l i b by rw [← hw0]; exact HR.out.alloc _)
 have cq := R0.out.cq
 rw [← hw0] at cq
 have HW0 := hid hw0
 clear hw0
 go_wp2_with fail
 rw [HW0.out]
 refine (H1.out _ R0.out).mono ?_
 rintro e w1 ⟨rfl, hb1, hr1⟩
 have zb1 := hb1.size
 have N1 := hid (N0.out.but (by omega) hb1)
 have B1 := hid (B0.out.trans hb1)
 have R1 := hid hr1
 clear hb1 hr1 cq HW0 H1
 have cq := R1.out.cq
 go_wp2_with fail
 refine (H2.out _ R1.out).mono ?_
 rintro e w2 ⟨rfl, hb2, hr2⟩
 have zb2 := hb2.size
 have N2 := hid (N1.out.but (by omega) hb2)
 have B2 := hid (B1.out.trans hb2)
 have R2 := hid hr2
 clear hb2 hr2 cq H2
 obtain ⟨gl, hgl⟩ : ∃ gl, w2.heap.size = gl := ⟨_, rfl⟩
 obtain ⟨w3, hw3⟩ : ∃ w3, w2.alloc (.cells #[.string ⟨#[99, 111, 117, 110, 116]⟩, .string ⟨#[115, 117, 109]⟩, .string ⟨#[109, 105, 110]⟩, .string ⟨#[109, 97, 120]⟩] 9) = w3 := ⟨_, rfl⟩
 have hz3 : w3.heap.size = gl + 1 := by rw [← hw3]; simp [hgl]
 have VS := hid (show At sc 1 w3 w3.heap.size (some ⟨gl, 0, none⟩) aggOps by rw [hz3, ← hgl, ← hw3]; exact texts_new w2 aggOps _ _ rfl)
 have R3 := hid (show QRd w3 r q A cap l i1 b1 by rw [← hw3]; exact R2.out.alloc _)
 have N3 := hid (show NBox w3 w.heap.size (.string ⟨#[]⟩) (.string ⟨#[]⟩) (.slice none 0 0) by rw [← hw3]; exact N2.out.alloc _)
 have B3 := hid (show But w w3 r by rw [← hw3]; exact B2.out.alloc _)
 have HW3 := hid hw3
 clear hw3
 go_wp2
 rw [HW3.out]
 try rw [hgl]
 clear HW3
 go_loopw [5] (fun t wr => ∃ k : Nat, k ≤ 4 ∧ t = .int .i64 k ∧ Hid (∀ j (hj : j < aggOps.length), j < k → (isK (bare l) i1 b1 0 && txt (bare l) i1 == aggOps[j]) = false) ∧ Below w3.heap.size w3 wr) (fun t _ => 4 - (intOf t).toNat)
 case atStart => exact ⟨0, by omega, rfl, hid (fun j hj hjk => absurd hjk (Nat.not_lt_zero _)), Below.refl _ _⟩
 case round =>
  obtain ⟨k, hk, rfl, HB, hbel⟩ := hrel
  have HBE := hid hbel
  have HRD := hid (R3.out.below hbel)
  have VS2 := hid (VS.out.below hbel)
  have NR := hid (N3.out.below hbel)
  have BR := hid (B3.out.next hbel)
  have hz := hbel.size
  clear hbel
  by_cases hkl : k < 4
  ·obtain ⟨ad0, e0, ha0, c0⟩ := at_text VS2.out k (show k < aggOps.length from hkl)
   obtain rfl : (⟨gl, 0, none⟩ : Addr) = ad0 := Option.some.inj e0
   obtain ⟨s, hsx⟩ : ∃ s, aggOps[k]'(show k < aggOps.length from hkl) = s := ⟨_, rfl⟩
   obtain ⟨S, hS⟩ : ∃ S : ByteArray, ⟨s.toArray⟩ = S := ⟨_, rfl⟩
   have hSs : S.data.toList = s := by rw [← hS]
   rw [hsx, hS, add_zero] at c0
   have HV := hid (fun (w' : World) (hb : Below wr.heap.size wr w') => show w'.cell? ⟨gl, k, none⟩ = some (.string S) from (hb.cell (p := ⟨gl, k, none⟩) (by show gl < _; omega)).trans c0)
   clear c0
   have cq := HRD.out.cq
   cases kk
   ·have HB2 := hid (show ∀ j (hj : j < aggOps.length), j < k + 1 → (isK (bare l) i1 b1 0 && txt (bare l) i1 == aggOps[j]) = false by
     intro j hj hjk
     rw [HKK.out]
     rfl)
    clear hsx hS hSs HV
    go_wp2_with fail
    refine (HK.out _ HRD.out).mono ?_
    rintro e w4 ⟨rfl, hb4⟩
    have HB4 := hid (bnext HBE.out hz hb4)
    have zb4 := hb4.size
    clear hb4 cq
    go_wp2
    refine wp_region_quiet_lit (by kernel_rfl) (by kernel_rfl) ?_
    repeat (with_reducible refine wpQuiet_step ?_; intro K hK; go_simp; with_reducible refine hK _ ?_; clear hK K)
    refine wpQuiet_nil ?_
    intro _ hw'
    obtain ⟨nq, hw''⟩ := hw'
    subst hw''
    go_wp2
    go_roundw
    case rel => exact ⟨k + 1, by omega, by go_num, HB2, bnext HB4.out HB4.out.size (drewN_below (Below.refl _ _) _)⟩
    case measure => simp [intOf]; omega
   ·have hil := isK_len HKK.out
    obtain ⟨ad, rfl, ha, d0, d1, d2⟩ := at_word HRD.out.rd.ws i1 hil
    obtain ⟨t, htt⟩ : ∃ t, l[i1].2.1 = t := ⟨_, rfl⟩
    rw [htt] at d1
    obtain ⟨X, hX⟩ : ∃ X : ByteArray, ⟨t.toArray⟩ = X := ⟨_, rfl⟩
    have hXt : t = X.data.toList := by rw [← hX]
    rw [hX] at d1
    have za : (ad.add (i1 * 3)).block < wr.heap.size := by rw [add_block]; omega
    have HD := hid (fun (w' : World) (hb : Below wr.heap.size wr w') => show w'.cell? ⟨(ad.add (i1 * 3)).block, (ad.add (i1 * 3)).off + 1, none⟩ = some (.string X) from (hb.cell (p := ⟨(ad.add (i1 * 3)).block, (ad.add (i1 * 3)).off + 1, none⟩) za).trans d1)
    have e3 : (i1 : Int) < (l.length : Int) := by omega
    have e4 : (k : Int) < 4 := by omega
    have htx : txt (bare l) i1 = X.data.toList := by rw [txt_at hil, htt, hXt]
    have hp : (isK (bare l) i1 b1 0 && txt (bare l) i1 == aggOps[k]'(show k < aggOps.length from hkl)) = (X.data.toList == S.data.toList) := by rw [HKK.out, htx, hsx, hSs]; rfl
    obtain ⟨g, hg⟩ : ∃ g, (X.data.toList == S.data.toList) = g := ⟨_, rfl⟩
    have f2 : (X.toList == S.toList) = g := by rw [ByteArray.toList_eq, ByteArray.toList_eq]; exact hg
    rw [hg] at hp
    have HP := hid hp
    have HSX := hid hsx
    have HSS := hid hSs
    clear d0 d1 d2 hX hXt htt htx hg hp hsx hS hSs
    go_wp2_with fail
    refine (HK.out _ HRD.out).mono ?_
    rintro e w4 ⟨rfl, hb4⟩
    have R4 := hid (HRD.out.below hb4)
    have N4 := hid (NR.out.below hb4)
    have B4 := hid (BR.out.next hb4)
    have HB4 := hid hb4
    have zb4 := hb4.size
    clear hb4 cq
    have c0 := R4.out.rd.c0
    have c1 := R4.out.rd.c1
    have cq := R4.out.cq
    have d1 := HD.out _ HB4.out
    have v1 := HV.out _ HB4.out
    cases g
    ·have HB2 := hid (show ∀ j (hj : j < aggOps.length), j < k + 1 → (isK (bare l) i1 b1 0 && txt (bare l) i1 == aggOps[j]) = false by
      intro j hj hjk
      by_cases e : j = k
      ·subst e; exact HP.out
      ·exact HB.out j hj (by omega))
     go_wp2
     go_quiet (fail)
     clear c0 c1 cq d1 v1
     go_wp2
     go_roundw
     case rel => exact ⟨k + 1, by omega, by go_num, HB2, bnext (bnext HBE.out hz HB4.out) (by omega) (drewN_below (Below.refl _ _) _)⟩
     case measure => simp [intOf]; omega
    ·have hx := kindQ_step aggOps k (show k < aggOps.length from hkl) HB.out HP.out
     rw [HSX.out] at hx
     have hlt := isK_lt HKK.out
     obtain rfl : b1 = false := hlt.2
     have hne : s ≠ [] := kind_ne (HSX.out ▸ List.getElem_mem _)
     have hE1 := must_ends (L := bare l) (i := i1 + 1) (b := false) (s := [40]) (by rw [bare_length]; omega)
     obtain ⟨a0, ha0'⟩ : ∃ a0, mustQ (bare l) (i1 + 1) false [40] = a0 := ⟨_, rfl⟩
     rw [ha0'] at hE1
     have hE2 := arg_ends (L := bare l) (i := a0.1) (b := a0.2) (o := s) hE1.2.1
     obtain ⟨d0, hd0⟩ : ∃ d0, argQ (bare l) s a0.1 a0.2 = d0 := ⟨_, rfl⟩
     rw [hd0] at hE2
     obtain ⟨z0, hz0'⟩ : ∃ z0, mustQ (bare l) d0.2.1 d0.2.2 [41] = z0 := ⟨_, rfl⟩
     have hres : RES = (.mk sAgg n0.1 [.mk s d0.1 []], z0) := by
      rw [← HRE.out]
      unfold agg2Q
      rw [if_neg (by rw [hx]; exact hne), hx]
      unfold callQ
      rw [ha0', hd0, hz0']
     have H4 := hid (fun (w' : World) (h' : QRd w' r q (some ad) cap l (i1 + 1) false) => qmust_any r q (some ad) cap l (i1 + 1) false ⟨#[40]⟩ w' h' (by omega) hl)
     have H5 := hid (fun (w' : World) (h' : QRd w' r q (some ad) cap l a0.1 a0.2) => qname_any r q (some ad) cap l a0.1 a0.2 w' h' (by have := hE1.2.1; rw [bare_length] at this; exact this) hl)
     have H6 := hid (fun (w' : World) (h' : QRd w' r q (some ad) cap l d0.2.1 d0.2.2) => qmust_any r q (some ad) cap l d0.2.1 d0.2.2 ⟨#[41]⟩ w' h' (by have := hE2.2.1; rw [bare_length] at this; exact this) hl)
     rw [show (⟨#[40]⟩ : ByteArray).data.toList = [40] from rfl, ha0'] at H4
     rw [show (⟨#[41]⟩ : ByteArray).data.toList = [41] from rfl, hz0'] at H6
     have HDD := hid hd0
     have HRS := hid hres
     clear hres hx hlt hne hE1 hE2 ha0' hd0 hz0'
     go_wp2
     go_quiet (fail)
     obtain ⟨wq, hwq⟩ : ∃ wq, w4.drewN nq = wq := ⟨_, rfl⟩
     have hbd : Below w4.heap.size w4 wq := by rw [← hwq]; exact drewN_below (Below.refl _ _) _
     have zbq : w3.heap.size ≤ wq.heap.size := by have := hbd.size; omega
     have HBQ := hid (bnext HB4.out (by omega) hbd)
     have RQ := hid (R4.out.below hbd)
     have NQ := hid (N4.out.below hbd)
     have BQ := hid (B4.out.next hbd)
     rw [hwq]
     clear hwq hbd c0 c1 cq d1 v1 R4 N4 B4 HB4 zb4
     by_cases hk0 : k = 0
     ·have hs0 : s = sCount := by rw [← HSX.out]; subst hk0; rfl
      have hd : d0 = ([], a0.1, a0.2) := by rw [← HDD.out, hs0]; rfl
      subst hd
      have HRES := hid (show RES = (.mk sAgg T.data.toList [.mk S.data.toList (⟨#[]⟩ : ByteArray).data.toList []], z0.1, z0.2) by rw [HRS.out, HTT.out, HSS.out])
      subst hk0
      clear H5 HDD hs0 HRS HP HB
      dsimp only at H6
      have c1 := RQ.out.rd.c1
      have cq := RQ.out.cq
      have f1 := RQ.out.rd.fr 1
      have e1 : IntKind.i64.wrap ((i1 : Int) + 1) = (i1 : Int) + 1 := by rw [IntKind.wrap_i64]; omega
      obtain ⟨w5, hw5⟩ : ∃ w5, wq.setCell ⟨r, 1, none⟩ (.int .i64 ((i1 : Int) + 1)) = w5 := ⟨_, rfl⟩
      have zb5 : w5.heap.size = wq.heap.size := by rw [← hw5]; simp
      have N5 := hid (show NBox w5 w.heap.size (.string ⟨#[]⟩) (.string ⟨#[]⟩) (.slice none 0 0) by rw [← hw5]; exact NQ.out.far _ (by show r ≠ _; omega) _)
      have R5 := hid (show QRd w5 r q (some ad) cap l (i1 + 1) false by rw [← hw5]; exact RQ.out.at1)
      have B5 := hid (show But w w5 r by rw [← hw5]; exact BQ.out.setCell 1 _)
      have v5 : w5.cell? ⟨gl, 0, none⟩ = some (.string S) := by
       rw [← hw5, World.cell?_setCell_other _ _ _ _ (by intro e; have h2 : r = gl := congrArg Addr.block e; omega)]
       exact HV.out _ HBQ.out
      rw [← hw5] at v5
      obtain ⟨w6, hw6⟩ : ∃ w6, w5.alloc (.cells #[.string S, .string ⟨#[]⟩, .slice none 0 0] 24) = w6 := ⟨_, rfl⟩
      have zb6 : w6.heap.size = w5.heap.size + 1 := by rw [← hw6]; simp
      obtain ⟨gn, hgn⟩ : ∃ gn, wq.heap.size = gn := ⟨_, rfl⟩
      have hgn5 : w5.heap.size = gn := by omega
      have N6 := hid (show NBox w6 w.heap.size (.string ⟨#[]⟩) (.string ⟨#[]⟩) (.slice none 0 0) by rw [← hw6]; exact N5.out.alloc _)
      have M6 := hid (show NBox w6 gn (.string S) (.string ⟨#[]⟩) (.slice none 0 0) by rw [← hw6, ← hgn5]; exact NBox.fresh _ _ _ _ _)
      have R6 := hid (show QRd w6 r q (some ad) cap l (i1 + 1) false by rw [← hw6]; exact R5.out.alloc _)
      have B6 := hid (show But w w6 r by rw [← hw6]; exact B5.out.alloc _)
      rw [← hw5] at hw6
      have d5 := R6.out.cq
      rw [← hw6] at d5
      have HW6 := hid hw6
      clear hw5 hw6 N5 R5 B5 zb5 hgn5
      go_wp2_with fail
      rw [HW6.out]
      refine (H4.out _ R6.out).mono ?_
      rintro e w7 ⟨rfl, hb7, hr7⟩
      have zb7 := hb7.size
      have N7 := hid (N6.out.but (by omega) hb7)
      have M7 := hid (M6.out.but (by omega) hb7)
      have B7 := hid (B6.out.trans hb7)
      have R7 := hid hr7
      clear hb7 hr7 d5 v5 cq c1 f1 HW6
      have cq := R7.out.cq
      go_wp2_with fail
      refine (H6.out _ R7.out).mono ?_
      rintro e w9 ⟨rfl, hb9, hr9⟩
      have zb9 := hb9.size
      have N9 := hid (N7.out.but (by omega) hb9)
      have M9 := hid (M7.out.but (by omega) hb9)
      have B9 := hid (B7.out.trans hb9)
      have R9 := hid hr9
      clear hb9 hr9 cq
      obtain ⟨y0, y1, y2, yf⟩ := M9.out
      have NX := hid (N9.out.alloc (.cells #[.string S, .string ⟨#[]⟩, .slice none 0 0] 24))
      obtain ⟨x0, x1, x2, xf⟩ := NX.out
      go_wp2
      have Y := NX.out.set (.string ⟨#[97, 103, 103]⟩) (.string T) (.slice (some ⟨w9.heap.size, 0, none⟩) 1 1)
      exact bodyPost_ret (v := .agg #[.string ⟨#[97, 103, 103]⟩, .string T, .slice (some ⟨w9.heap.size, 0, none⟩) 1 1]) (by simp [results, Tryz.results184, go_sem, Y.c0, Y.c1, Y.c2]) rfl
       (agg_told zr zq S ⟨#[]⟩ T HRES.out B9.out N9.out.lt R9.out)
     ·have hs0 : s ≠ sCount := by
       rw [← HSX.out]
       have hc : k = 1 ∨ k = 2 ∨ k = 3 := by omega
       rcases hc with rfl | rfl | rfl
       ·exact show sSum ≠ sCount by decide
       ·exact show sMin ≠ sCount by decide
       ·exact show sMax ≠ sCount by decide
      have hd : nmQ (bare l) a0.1 a0.2 = d0 := by
       rw [← HDD.out]
       unfold argQ
       rw [if_neg hs0]
      rw [hd] at H5
      obtain ⟨U, hU⟩ : ∃ U : ByteArray, ⟨d0.1.toArray⟩ = U := ⟨_, rfl⟩
      have HUU := hid (show d0.1 = U.data.toList by rw [← hU])
      rw [hU] at H5
      have HRES := hid (show RES = (.mk sAgg T.data.toList [.mk S.data.toList U.data.toList []], z0.1, z0.2) by rw [HRS.out, HTT.out, HSS.out, HUU.out])
      have k1 : decide ((0 : Int) < (k : Int)) = true := by simp; omega
      have k2 : decide (0 < k) = true := by simp; omega
      have k3 : (0 : Int) < (k : Int) := by omega
      have k4 : 0 < k := by omega
      clear hd hU hs0 HDD HRS HP HB
      have c1 := RQ.out.rd.c1
      have cq := RQ.out.cq
      have f1 := RQ.out.rd.fr 1
      have e1 : IntKind.i64.wrap ((i1 : Int) + 1) = (i1 : Int) + 1 := by rw [IntKind.wrap_i64]; omega
      obtain ⟨w5, hw5⟩ : ∃ w5, wq.setCell ⟨r, 1, none⟩ (.int .i64 ((i1 : Int) + 1)) = w5 := ⟨_, rfl⟩
      have zb5 : w5.heap.size = wq.heap.size := by rw [← hw5]; simp
      have N5 := hid (show NBox w5 w.heap.size (.string ⟨#[]⟩) (.string ⟨#[]⟩) (.slice none 0 0) by rw [← hw5]; exact NQ.out.far _ (by show r ≠ _; omega) _)
      have R5 := hid (show QRd w5 r q (some ad) cap l (i1 + 1) false by rw [← hw5]; exact RQ.out.at1)
      have B5 := hid (show But w w5 r by rw [← hw5]; exact BQ.out.setCell 1 _)
      have v5 : w5.cell? ⟨gl, k, none⟩ = some (.string S) := by
       rw [← hw5, World.cell?_setCell_other _ _ _ _ (by intro e; have h2 : r = gl := congrArg Addr.block e; omega)]
       exact HV.out _ HBQ.out
      rw [← hw5] at v5
      obtain ⟨w6, hw6⟩ : ∃ w6, w5.alloc (.cells #[.string S, .string ⟨#[]⟩, .slice none 0 0] 24) = w6 := ⟨_, rfl⟩
      have zb6 : w6.heap.size = w5.heap.size + 1 := by rw [← hw6]; simp
      obtain ⟨gn, hgn⟩ : ∃ gn, wq.heap.size = gn := ⟨_, rfl⟩
      have hgn5 : w5.heap.size = gn := by omega
      have N6 := hid (show NBox w6 w.heap.size (.string ⟨#[]⟩) (.string ⟨#[]⟩) (.slice none 0 0) by rw [← hw6]; exact N5.out.alloc _)
      have M6 := hid (show NBox w6 gn (.string S) (.string ⟨#[]⟩) (.slice none 0 0) by rw [← hw6, ← hgn5]; exact NBox.fresh _ _ _ _ _)
      have R6 := hid (show QRd w6 r q (some ad) cap l (i1 + 1) false by rw [← hw6]; exact R5.out.alloc _)
      have B6 := hid (show But w w6 r by rw [← hw6]; exact B5.out.alloc _)
      rw [← hw5] at hw6
      have d5 := R6.out.cq
      rw [← hw6] at d5
      have HW6 := hid hw6
      clear hw5 hw6 N5 R5 B5 zb5 hgn5
      go_wp2_with fail
      rw [HW6.out]
      refine (H4.out _ R6.out).mono ?_
      rintro e w7 ⟨rfl, hb7, hr7⟩
      have zb7 := hb7.size
      have N7 := hid (N6.out.but (by omega) hb7)
      have M7 := hid (M6.out.but (by omega) hb7)
      have B7 := hid (B6.out.trans hb7)
      have R7 := hid hr7
      clear hb7 hr7 d5 v5 cq c1 f1 HW6
      have cq := R7.out.cq
      go_wp2_with fail
      refine (H5.out _ R7.out).mono ?_
      rintro e w8 ⟨rfl, hb8, hr8⟩
      have zb8 := hb8.size
      have N8 := hid (N7.out.but (by omega) hb8)
      have M8 := hid (M7.out.but (by omega) hb8)
      have B8 := hid (B7.out.trans hb8)
      have R8 := hid hr8
      clear hb8 hr8 cq
      have y1 := M8.out.c1
      have yf := M8.out.fr 1
      obtain ⟨wb, hwb⟩ : ∃ wb, w8.setCell ⟨gn, 1, none⟩ (.string U) = wb := ⟨_, rfl⟩
      have zbb : wb.heap.size = w8.heap.size := by rw [← hwb]; simp
      have NB := hid (show NBox wb w.heap.size (.string ⟨#[]⟩) (.string ⟨#[]⟩) (.slice none 0 0) by rw [← hwb]; exact N8.out.far _ (by show gn ≠ w.heap.size; omega) _)
      have MB := hid (show NBox wb gn (.string S) (.string U) (.slice none 0 0) by rw [← hwb]; exact M8.out.text _)
      have BB := hid (show But w wb r by rw [← hwb]; exact B8.out.new _ (by show w.heap.size ≤ gn; omega) _)
      have RB := hid (show QRd wb r q (some ad) cap l d0.2.1 d0.2.2 by rw [← hwb]; exact R8.out.new _ (by show r < gn; omega) (by show q ≠ gn; omega) _)
      have cq := RB.out.cq
      rw [← hwb] at cq
      have HWB := hid hwb
      clear hwb
      go_wp2_with fail
      rw [HWB.out]
      refine (H6.out _ RB.out).mono ?_
      rintro e w9 ⟨rfl, hb9, hr9⟩
      have zb9 := hb9.size
      have N9 := hid (NB.out.but (by omega) hb9)
      have M9 := hid (MB.out.but (by omega) hb9)
      have B9 := hid (BB.out.trans hb9)
      have R9 := hid hr9
      clear hb9 hr9 cq HWB y1 yf
      obtain ⟨y0, y1, y2, yf⟩ := M9.out
      have NX := hid (N9.out.alloc (.cells #[.string S, .string U, .slice none 0 0] 24))
      obtain ⟨x0, x1, x2, xf⟩ := NX.out
      go_wp2
      have Y := NX.out.set (.string ⟨#[97, 103, 103]⟩) (.string T) (.slice (some ⟨w9.heap.size, 0, none⟩) 1 1)
      exact bodyPost_ret (v := .agg #[.string ⟨#[97, 103, 103]⟩, .string T, .slice (some ⟨w9.heap.size, 0, none⟩) 1 1]) (by simp [results, Tryz.results184, go_sem, Y.c0, Y.c1, Y.c2]) rfl
       (agg_told zr zq S U T HRES.out B9.out N9.out.lt R9.out)
  ·obtain rfl : k = 4 := by omega
   have hx : kindQ (bare l) i1 b1 aggOps = [] := kindQ_none fun s hs => by
    obtain ⟨j, hj, rfl⟩ := List.mem_iff_getElem.1 hs
    exact HB.out j hj (by have : j < 4 := hj; omega)
   have hres : RES = (.mk (⟨#[]⟩ : ByteArray).data.toList (⟨#[]⟩ : ByteArray).data.toList [], i1, true) := by
    rw [← HRE.out]
    unfold agg2Q
    rw [if_pos hx]
    rfl
   subst hres
   clear hx HB HRE
   have cq := HRD.out.cq
   have c2 := HRD.out.rd.c2
   have f2 := HRD.out.rd.fr 2
   have NX := hid (NR.out.far ⟨r, 2, none⟩ (by show r ≠ w.heap.size; omega) (.bool true))
   obtain ⟨x0, x1, x2, xf⟩ := NX.out
   go_wp2
   have Y := NX.out.set (.string ⟨#[]⟩) (.string ⟨#[]⟩) (.slice none 0 0)
   exact bodyPost_ret (v := .agg #[.string ⟨#[]⟩, .string ⟨#[]⟩, .slice none 0 0]) (by simp [results, Tryz.results184, go_sem, Y.c0, Y.c1, Y.c2]) rfl
    ⟨_, _, _, _, _, rfl, RIn.leafN _ _ ⟨#[]⟩ ⟨#[]⟩, W3.but (BR.out.setCell 2 _) (Nat.le_refl _) _ _ _, HRD.out.wrong.w3 zr (by omega) _ _ _⟩
end Go.Proofs.YthpmgnfmeldkjaaGreatDoor.Code
