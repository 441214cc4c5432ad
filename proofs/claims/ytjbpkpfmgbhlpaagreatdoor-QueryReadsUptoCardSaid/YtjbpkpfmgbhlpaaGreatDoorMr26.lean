/-
  A node of a binary operator is written as it should: all operators by one theorem.
-/
import Derived.Test.YtjbpkpfmgbhlpaaGreatDoorMr25
import Derived.Test.YtjbpkpfmgbhlpaaGreatDoorMr23
import Derived.Deep.RegionHeld3
import Derived.Test.YtjbpkpfmgbhlpaaGreatDoorMr24
import Derived.Test.YtjbpkpfmgbhlpaaGreatDoorMr9
import Derived.Test.YtjbpkpfmgbhlpaaGreatDoorMr3
import Derived.Test.YtjbpkpfmgbhlpaaGreatDoorMr21
import Derived.Test.YtjbpkpfmgbhlpaaGreatDoorMr13
import Derived.Test.YtjbpkpfmgbhlpaaGreatDoorMr22
import Derived.Test.YtjbpkpfmgbhlpaaGreatDoorMr10
set_option maxRecDepth 100000
set_option maxHeartbeats 16000000
open Go.Lib (hid)
namespace Go.Proofs.YtjbpkpfmgbhlpaaGreatDoor.Code
open Go.ChangeShapes Go.WideShapes Go.ChangeAt Go.RowKit Val Elems
set_option linter.unusedVariables false
set_option linter.unusedSimpArgs false
theorem lit_no {op : ByteArray} {s : List UInt8} (h : op.data.toList ≠ s) : (op.toList == s) = false := by
 rw [ByteArray.toList_eq]
 simpa using h
theorem enodeE_two {b mb : Nat} {m : Int} (ot : List UInt8) (lv l0 l1 : Int) (hr : rE ot [] 2 = some (lv, [l0, l1], false)) (hol : ot.length ≤ 10) (hx : ot ∉ [sText, sNum, sCol, sTrue, sFalse, sNull, sNeg, sNot, sIsNull]) (x y : Nod) (ih : NdE b mb m x) (ih2 : NdE b mb m y) : NdE b mb m (.mk ot [] [x, y]) := by
 intro S op tx X n k bs w h hS hn ht hl
 have hbl := h.lt
 have hxt : x.tot ≤ 100000 := by simp only [Nod.tot, Nod.totL] at ht; omega
 have hyt : y.tot ≤ 100000 := by simp only [Nod.tot, Nod.totL] at ht; omega
 have hsh : showE (.mk ot [] [x, y]) = kdE l0 (showE x, lvE x) ++ (32 :: (ot ++ [32])) ++ kdE l1 (showE y, lvE y) := by rw [showE_good hr]; rfl
 rw [hsh] at hl ⊢
 clear hsh
 obtain ⟨s, hs⟩ : ∃ s, kdE l0 (showE x, lvE x) = s := ⟨_, rfl⟩
 have HKS := hid hs
 rw [hs] at hl ⊢
 clear hs
 obtain ⟨s', hs⟩ : ∃ s, kdE l1 (showE y, lvE y) = s := ⟨_, rfl⟩
 have HKT := hid hs
 rw [hs] at hl ⊢
 clear hs
 have hR := fun (w' : World) (hb : Below w.heap.size w w') => (show Calls Tryz.prog 147 #[.pointer (some ⟨b, 0, none⟩), .agg #[.string op, .string tx, .slice X n k]] w' (FRule w' b (rE ot [] 2)) from ruleN (h.below hb) ht (hn.kp hS (hb.mono (Nat.le_of_lt hbl))))
 rw [hr] at hR
 unfold FRule at hR
 dsimp only [List.length_cons, List.length_nil] at hR
 rw [show (0 : Nat) + 1 + 1 = 2 from rfl] at hR
 obtain ⟨e1, e2, e3, -⟩ := hn.texts
 dsimp only at e1 e2 e3
 have hop : op.data.toList = ot := by rw [e1]; rfl
 simp only [List.mem_cons, List.not_mem_nil, or_false, not_or] at hx
 obtain ⟨n1, n2, n3, n4, n5, n6, n7, n8, n9⟩ := hx
 rw [← hop] at n1 n2 n3 n4 n5 n6 n7 n8 n9
 have g1 := lit_no n1
 have g2 := lit_no n2
 have g3 := lit_no n3
 have g4 := lit_no n4
 have g5 := lit_no n5
 have g6 := lit_no n6
 have g7 := lit_no n7
 have g8 := lit_no n8
 have g9 := lit_no n9
 unfold sText at g1
 unfold sNum at g2
 unfold sCol at g3
 unfold sTrue at g4
 unfold sFalse at g5
 unfold sNull at g6
 unfold sNeg at g7
 unfold sNot at g8
 unfold sIsNull at g9
 have hos : op.size = ot.length := by rw [← hop, Array.length_toList]; rfl
 have HOP := hid hop
 have HOS := hid hos
 have hadd1 : ∀ w, (Op.stringOp .add ⟨#[32]⟩ op).run Tryz.prog w = .ok (.string (⟨#[32]⟩ ++ op)) w := fun w => run_string_add_sum w _ _ (by show 1 + op.size ≤ _; omega)
 have hadd2 : ∀ w, (Op.stringOp .add (⟨#[32]⟩ ++ op) ⟨#[32]⟩).run Tryz.prog w = .ok (.string (⟨#[32]⟩ ++ op ++ ⟨#[32]⟩)) w := fun w => run_string_add_sum w _ _ (by rw [ByteArray.size_append]; show 1 + op.size + 1 ≤ _; omega)
 clear e1 hop n1 n2 n3 n4 n5 n6 n7 n8 n9 hos
 obtain rfl : tx = ⟨#[]⟩ := e2
 obtain rfl : n = 2 := e3
 obtain ⟨tb, htb⟩ : ∃ q, false = q := ⟨_, rfl⟩
 rw [htb] at hR
 clear htb
 have HR := hid hR
 have HH := hid h
 have HN := hid hn
 have HS := hid hS
 have HT := hid ht
 clear hR h hn hS hr ht
 have hW := fun (bs' : List UInt8) (s : ByteArray) (w' : World) (h' : Wr w' b mb bs') (hl' : bs'.length + s.size ≤ 1000000) => ewrite_any b mb bs' s w' h' hl'
 have HW := hid hW
 clear hW
 go_enter Tryz.func135, Tryz.ntmps135
 obtain ⟨w0, hw0⟩ : ∃ w0, w.alloc (.cells #[.string op, .string ⟨#[]⟩, .slice X 2 k] 25) = w0 := ⟨_, rfl⟩
 have B0 := hid (show Below w.heap.size w w0 by rw [← hw0]; exact below_alloc w _)
 have X0 := hid (show HB w0 w.heap.size #[.string op, .string ⟨#[]⟩, .slice X 2 k] 25 by rw [← hw0]; exact HB.fresh w _ _)
 have x0 : w0.cell? ⟨w.heap.size, 0, none⟩ = some (.string op) := X0.out.cell 0
 have x1 : w0.cell? ⟨w.heap.size, 1, none⟩ = some (.string ⟨#[]⟩) := X0.out.cell 1
 have x2 : w0.cell? ⟨w.heap.size, 2, none⟩ = some (.slice X 2 k) := X0.out.cell 2
 go_wp2_with fail
 try rw [hw0]
 refine (HR.out _ B0.out).mono ?_
 rintro e w1 ⟨Y, d, rfl, hY, hb1⟩
 have hz0 : w.heap.size < w0.heap.size := by rw [← hw0]; simp
 have z1 := hb1.size
 have hbz : b < w1.heap.size := by omega
 obtain ⟨W1, hW1⟩ : ∃ W1, w1.alloc (.cells #[.int .i64 lv, .slice Y 2 d, .bool tb] 150) = W1 := ⟨_, rfl⟩
 have B1 := hid (show Below w.heap.size w W1 by rw [← hW1]; exact (bnext B0.out B0.out.size hb1).alloc (by omega) _)
 have RV := hid (show HB W1 w1.heap.size #[.int .i64 lv, .slice Y 2 d, .bool tb] 150 by rw [← hW1]; exact HB.fresh w1 _ _)
 have LV := hid (show LvAt W1 b [l0, l1] Y by rw [← hW1]; exact hY.below ((bnext (Below.refl _ _) (Nat.le_refl _) hb1).mono (by omega) |>.trans ((below_alloc w1 _).mono (by omega))))
 have T1 := hid (show ESt b mb m w S (.mk ot [] [x, y]) op op ⟨#[]⟩ X 2 k w.heap.size bs W1 from
  ⟨HH.out.below B1.out, by rw [← hW1]; exact (X0.out.below hb1).alloc _, HN.out.kp HS.out (B1.out.mono (by omega)), (Kp.refl b w).next (by omega) B1.out⟩)
 have q0 : W1.cell? ⟨w.heap.size, 0, none⟩ = some (.string op) := T1.out.box.cell 0
 have q1 : W1.cell? ⟨w.heap.size, 1, none⟩ = some (.string ⟨#[]⟩) := T1.out.box.cell 1
 have q2 : W1.cell? ⟨w.heap.size, 2, none⟩ = some (.slice X 2 k) := T1.out.box.cell 2
 have f0 : W1.frozen? ⟨w.heap.size, 0, none⟩ = false := T1.out.box.free 0
 have f1 : W1.frozen? ⟨w.heap.size, 1, none⟩ = false := T1.out.box.free 1
 have q3 : W1.cell? ⟨w1.heap.size, 0, none⟩ = some (.int .i64 lv) := RV.out.cell 0
 have q4 : W1.cell? ⟨w1.heap.size, 1, none⟩ = some (.slice Y 2 d) := RV.out.cell 1
 have q5 : W1.cell? ⟨w1.heap.size, 2, none⟩ = some (.bool tb) := RV.out.cell 2
 clear hY hb1 x0 x1 x2 X0 B0 B1 HR
 clear q1
 obtain ⟨ad, op1, tx1, X1, n1, k1, op2, tx2, X2, n2, k2, rfl, -, hK⟩ := T1.out.kids2 HS.out
 obtain ⟨gl, rfl, hgl, hgb⟩ : ∃ gl, Y = some ⟨gl, 0, none⟩ ∧ gl < b ∧ HB W1 gl #[.int .i64 l0, .int .i64 l1] 147 := by
  rcases LV.out with h | ⟨gl, h1, h2, h3⟩
  ·cases h
  ·exact ⟨gl, h1, h2, h3⟩
 have K0 := hid (fun (w' : World) (hk : Kp b W1 w') => (show (w'.cell? ⟨w.heap.size, 2, none⟩ = some (.slice (some ad) 2 k) ∧ w'.cell? ad = some (.string op1) ∧ w'.cell? ⟨ad.block, ad.off + 1, none⟩ = some (.string tx1) ∧ w'.cell? ⟨ad.block, ad.off + 2, none⟩ = some (.slice X1 n1 k1) ∧ w'.cell? ⟨ad.block, ad.off + 3, none⟩ = some (.string op2) ∧ w'.cell? ⟨ad.block, ad.off + 4, none⟩ = some (.string tx2) ∧ w'.cell? ⟨ad.block, ad.off + 5, none⟩ = some (.slice X2 n2 k2) ∧ w'.cell? ⟨w1.heap.size, 1, none⟩ = some (.slice (some ⟨gl, 0, none⟩) 2 d) ∧ w'.cell? ⟨gl, 0, none⟩ = some (.int .i64 l0) ∧ w'.cell? ⟨gl, 1, none⟩ = some (.int .i64 l1) ∧ w'.cell? ⟨w.heap.size, 0, none⟩ = some (.string op)) ∧ Kp b W1 w' from
  ⟨⟨(T1.out.box.kp hk (by omega) (by decide)).cell 2, (hK w' hk.bl).1.1, (hK w' hk.bl).1.2.1, (hK w' hk.bl).1.2.2.1, (hK w' hk.bl).1.2.2.2.1, (hK w' hk.bl).1.2.2.2.2.1, (hK w' hk.bl).1.2.2.2.2.2, (RV.out.kp hk (by omega) (by decide)).cell 1, ((hk.bl.cell (p := ⟨gl, 0, none⟩) hgl).trans (hgb.cell 0)), ((hk.bl.cell (p := ⟨gl, 1, none⟩) hgl).trans (hgb.cell 1)), (T1.out.box.kp hk (by omega) (by decide)).cell 0⟩, hk⟩))
 have KN := hid (fun (w' : World) (hk : Below b W1 w') => (hK w' hk).2)
 clear hK hgb
 have HKI1 := hid (fun (w' : World) (hb : Below W1.heap.size W1 w') => show Calls Tryz.prog 149 #[.pointer (some ⟨b, 0, none⟩), .agg #[.string op1, .string tx1, .slice X1 n1 k1], .int .i64 l0] w' (fun e w'' => e = .returned (.tuple #[]) ∧ Wr w'' b mb (bs ++ s) ∧ Kp b w' w'') by
  have h := ekidE_any x ih hxt l0 S op1 tx1 X1 n1 k1 (bs) w' (T1.out.has.below hb) HS.out (KN.out _ ((Kp.refl b W1).next (Nat.le_of_lt T1.out.has.lt) hb).bl).1 (by rw [HKS.out]; simp at hl ⊢; omega)
  rw [HKS.out] at h
  exact h)
 go_wp2_with fail
 try rw [hW1]
 go_region_held3 (fun w' => (w'.cell? ⟨w.heap.size, 2, none⟩ = some (.slice (some ad) 2 k) ∧ w'.cell? ad = some (.string op1) ∧ w'.cell? ⟨ad.block, ad.off + 1, none⟩ = some (.string tx1) ∧ w'.cell? ⟨ad.block, ad.off + 2, none⟩ = some (.slice X1 n1 k1) ∧ w'.cell? ⟨ad.block, ad.off + 3, none⟩ = some (.string op2) ∧ w'.cell? ⟨ad.block, ad.off + 4, none⟩ = some (.string tx2) ∧ w'.cell? ⟨ad.block, ad.off + 5, none⟩ = some (.slice X2 n2 k2) ∧ w'.cell? ⟨w1.heap.size, 1, none⟩ = some (.slice (some ⟨gl, 0, none⟩) 2 d) ∧ w'.cell? ⟨gl, 0, none⟩ = some (.int .i64 l0) ∧ w'.cell? ⟨gl, 1, none⟩ = some (.int .i64 l1) ∧ w'.cell? ⟨w.heap.size, 0, none⟩ = some (.string op)) ∧ Kp b W1 w')
  (first | assumption | (exact K0.out _ ((Kp.refl b W1).drew.trans hk5)) | (exact K0.out _ (Kp.refl b W1).drew))
  (first | (go_at_call 149; with_reducible refine (HKI1.out _ ?cv).mono ?_; (case cv => exact Below.drew (Below.refl _ _)); rintro e w5 ⟨rfl, hw5, hk5⟩))
 have T5 := hid (T1.out.next HS.out (by omega) hw5 ((Kp.refl b W1).drew.trans hk5))
 have K5 := hid ((Kp.refl b W1).drew.trans hk5)
 have HW5 := hid (fun (sx : ByteArray) (hsx : sx.data.toList = (32 :: (ot ++ [32]))) (w' : World) (hb : Below w5.heap.size w5 w') => show Calls Tryz.prog 66 #[.pointer (some ⟨b, 1, none⟩), .string sx] w' (fun e w'' => (∃ v, e = .returned v) ∧ Wr w'' b mb (bs ++ s ++ (32 :: (ot ++ [32]))) ∧ Kp b w' w'') by
  have hsz : sx.size = ot.length + 2 := by (have h9 : sx.size = sx.data.toList.length := (by rw [Array.length_toList]; rfl)); (rw [h9, hsx]; simp)
  have h := HW.out (bs ++ s) sx w' (T5.out.has.below hb).wr (by rw [hsz]; simp at hl ⊢; omega)
  rw [hsx] at h
  exact h.mono fun e w'' h => ⟨⟨_, h.1⟩, h.2⟩)
 clear hw5 hk5 HKI1
 go_wp2_with fail
 go_region_held3 (fun w' => (w'.cell? ⟨w.heap.size, 2, none⟩ = some (.slice (some ad) 2 k) ∧ w'.cell? ad = some (.string op1) ∧ w'.cell? ⟨ad.block, ad.off + 1, none⟩ = some (.string tx1) ∧ w'.cell? ⟨ad.block, ad.off + 2, none⟩ = some (.slice X1 n1 k1) ∧ w'.cell? ⟨ad.block, ad.off + 3, none⟩ = some (.string op2) ∧ w'.cell? ⟨ad.block, ad.off + 4, none⟩ = some (.string tx2) ∧ w'.cell? ⟨ad.block, ad.off + 5, none⟩ = some (.slice X2 n2 k2) ∧ w'.cell? ⟨w1.heap.size, 1, none⟩ = some (.slice (some ⟨gl, 0, none⟩) 2 d) ∧ w'.cell? ⟨gl, 0, none⟩ = some (.int .i64 l0) ∧ w'.cell? ⟨gl, 1, none⟩ = some (.int .i64 l1) ∧ w'.cell? ⟨w.heap.size, 0, none⟩ = some (.string op)) ∧ Kp b W1 w')
  (first | assumption | (exact K0.out _ (K5.out.drew.trans hk6)) | (exact K0.out _ K5.out.drew))
  (first | (go_at_call 66; with_reducible refine (HW5.out _ ?ce _ ?cv).mono ?_; (case ce => (rw [ByteArray.data_append, ByteArray.data_append, Array.toList_append, Array.toList_append, HOP.out]; simp)); (case cv => exact Below.drew (Below.refl _ _)); rintro e w6 ⟨⟨v6, rfl⟩, hw6, hk6⟩))
 have T6 := hid (T5.out.next HS.out (by omega) hw6 ((Kp.refl b w5).drew.trans hk6))
 have K6 := hid (K5.out.drew.trans hk6)
 clear hw6 hk6 HW5
 have HKI2 := hid (fun (w' : World) (hb : Below w6.heap.size w6 w') => show Calls Tryz.prog 149 #[.pointer (some ⟨b, 0, none⟩), .agg #[.string op2, .string tx2, .slice X2 n2 k2], .int .i64 l1] w' (fun e w'' => e = .returned (.tuple #[]) ∧ Wr w'' b mb (bs ++ s ++ (32 :: (ot ++ [32])) ++ s') ∧ Kp b w' w'') by
  have h := ekidE_any y ih2 hyt l1 S op2 tx2 X2 n2 k2 (bs ++ s ++ (32 :: (ot ++ [32]))) w' (T6.out.has.below hb) HS.out (KN.out _ (K6.out.next (Nat.le_of_lt T6.out.has.lt) hb).bl).2 (by rw [HKT.out]; simp at hl ⊢; omega)
  rw [HKT.out] at h
  exact h)
 go_wp2_with fail
 try rw [hW1]
 go_region_held3 (fun w' => (w'.cell? ⟨w.heap.size, 2, none⟩ = some (.slice (some ad) 2 k) ∧ w'.cell? ad = some (.string op1) ∧ w'.cell? ⟨ad.block, ad.off + 1, none⟩ = some (.string tx1) ∧ w'.cell? ⟨ad.block, ad.off + 2, none⟩ = some (.slice X1 n1 k1) ∧ w'.cell? ⟨ad.block, ad.off + 3, none⟩ = some (.string op2) ∧ w'.cell? ⟨ad.block, ad.off + 4, none⟩ = some (.string tx2) ∧ w'.cell? ⟨ad.block, ad.off + 5, none⟩ = some (.slice X2 n2 k2) ∧ w'.cell? ⟨w1.heap.size, 1, none⟩ = some (.slice (some ⟨gl, 0, none⟩) 2 d) ∧ w'.cell? ⟨gl, 0, none⟩ = some (.int .i64 l0) ∧ w'.cell? ⟨gl, 1, none⟩ = some (.int .i64 l1) ∧ w'.cell? ⟨w.heap.size, 0, none⟩ = some (.string op)) ∧ Kp b W1 w')
  (first | assumption | (exact K0.out _ (K6.out.drew.trans hk7)) | (exact K0.out _ K6.out.drew))
  (first | (go_at_call 149; with_reducible refine (HKI2.out _ ?cv).mono ?_; (case cv => exact Below.drew (Below.refl _ _)); rintro e w7 ⟨rfl, hw7, hk7⟩))
 have T7 := hid (T6.out.next HS.out (by omega) hw7 ((Kp.refl b w6).drew.trans hk7))
 clear hw7 hk7
 go_wp2
 go_end0
 exact ⟨rfl, by have h := T7.out.has.wr; simpa using h, T7.out.kp⟩
theorem WrAt.far {w : World} {b mb : Nat} {p : Value} {bs : List UInt8} (h : WrAt w b mb p bs) {g : Nat} {cs : Array Value} {t : TypeId} (hb : HB w g cs t) (ht : t ≠ 5) (hg : g ≠ b) (j : Nat) (u : Value) : WrAt (w.setCell ⟨g, j, none⟩ u) b mb p bs := by
 obtain ⟨v, h1, h2, h3⟩ := h
 have hne : v.ownBlock ≠ some g := by
  intro e
  obtain ⟨c, fz, hc⟩ := Lib.ownsRow_kind h2 g e
  have hb' : w.heap[g]? = some (.cells cs t (0, 0)) := hb
  rw [hb'] at hc
  injection hc with hc
  injection hc with _ hc2
  exact ht hc2
 exact ⟨v, h1.far _ hg u, h2.kept (grown_set w g j u) (.inr hne), h3⟩
theorem HasE.far {b mb : Nat} {m : Int} {bs : List UInt8} {w : World} (h : HasE b mb m bs w) {g : Nat} {cs : Array Value} {t : TypeId} (hb : HB w g cs t) (ht : t ≠ 5) (hg : b < g) (j : Nat) (u : Value) : HasE b mb m bs (w.setCell ⟨g, j, none⟩ u) := by
 have hB : Below b w (w.setCell ⟨g, j, none⟩ u) := (Below.refl b w).setCell (Nat.le_of_lt hg) u
 exact ⟨h.wr.elim (fun h => .inl (h.far hb ht (by omega) j u)) (fun h => .inr (h.far hb ht (by omega) j u)), h.ru.below hB, h.ev.below hB⟩
theorem enodeE_num {b mb : Nat} {m : Int} (tv : List UInt8) : NdE b mb m (.mk sNum tv []) := by
 intro S op tx X n k bs w h hS hn ht hl
 have hbl := h.lt
 have hsh : showE (.mk sNum tv []) = tv := showE_good (r := (7, [], true)) (by unfold rE; rw [show ruleE sNum = some (7, [], true) by decide]; dsimp only; rw [if_pos ⟨rfl, .inr rfl⟩])
 rw [hsh] at hl ⊢
 clear hsh
 have hr : rE sNum tv 0 = some (7, [], true) := by unfold rE; rw [show ruleE sNum = some (7, [], true) by decide]; dsimp only; rw [if_pos ⟨rfl, .inr rfl⟩]
 have hR := fun (w' : World) (hb : Below w.heap.size w w') => (show Calls Tryz.prog 147 #[.pointer (some ⟨b, 0, none⟩), .agg #[.string op, .string tx, .slice X n k]] w' (FRule w' b (rE sNum tv 0)) from ruleN (h.below hb) ht (hn.kp hS (hb.mono (Nat.le_of_lt hbl))))
 rw [hr] at hR
 unfold FRule at hR
 dsimp only [List.length_cons, List.length_nil] at hR
 obtain ⟨e1, e2, e3, -⟩ := hn.texts
 dsimp only at e1 e2 e3
 obtain rfl : op = ⟨#[110, 117, 109]⟩ := e1
 have HTX := hid (show tx = ⟨tv.toArray⟩ from e2)
 clear e2
 obtain rfl : n = 0 := e3
 have HR := hid hR
 have HH := hid h
 have HN := hid hn
 have HS := hid hS
 have HT := hid ht
 clear hR h hn hS hr ht
 have hW := fun (bs' : List UInt8) (s : ByteArray) (w' : World) (h' : Wr w' b mb bs') (hl' : bs'.length + s.size ≤ 1000000) => ewrite_any b mb bs' s w' h' hl'
 have HW := hid hW
 clear hW
 go_enter Tryz.func135, Tryz.ntmps135
 obtain ⟨w0, hw0⟩ : ∃ w0, w.alloc (.cells #[.string ⟨#[110, 117, 109]⟩, .string tx, .slice X 0 k] 25) = w0 := ⟨_, rfl⟩
 have B0 := hid (show Below w.heap.size w w0 by rw [← hw0]; exact below_alloc w _)
 have X0 := hid (show HB w0 w.heap.size #[.string ⟨#[110, 117, 109]⟩, .string tx, .slice X 0 k] 25 by rw [← hw0]; exact HB.fresh w _ _)
 have x0 : w0.cell? ⟨w.heap.size, 0, none⟩ = some (.string ⟨#[110, 117, 109]⟩) := X0.out.cell 0
 have x1 : w0.cell? ⟨w.heap.size, 1, none⟩ = some (.string tx) := X0.out.cell 1
 have x2 : w0.cell? ⟨w.heap.size, 2, none⟩ = some (.slice X 0 k) := X0.out.cell 2
 go_wp2_with fail
 try rw [hw0]
 refine (HR.out _ B0.out).mono ?_
 rintro e w1 ⟨Y, d, rfl, hY, hb1⟩
 have hz0 : w.heap.size < w0.heap.size := by rw [← hw0]; simp
 have z1 := hb1.size
 have hbz : b < w1.heap.size := by omega
 obtain ⟨W1, hW1⟩ : ∃ W1, w1.alloc (.cells #[.int .i64 7, .slice Y 0 d, .bool true] 150) = W1 := ⟨_, rfl⟩
 have B1 := hid (show Below w.heap.size w W1 by rw [← hW1]; exact (bnext B0.out B0.out.size hb1).alloc (by omega) _)
 have RV := hid (show HB W1 w1.heap.size #[.int .i64 7, .slice Y 0 d, .bool true] 150 by rw [← hW1]; exact HB.fresh w1 _ _)
 have LV := hid (show LvAt W1 b [] Y by rw [← hW1]; exact hY.below ((bnext (Below.refl _ _) (Nat.le_refl _) hb1).mono (by omega) |>.trans ((below_alloc w1 _).mono (by omega))))
 have T1 := hid (show ESt b mb m w S (.mk sNum tv []) ⟨#[110, 117, 109]⟩ ⟨#[110, 117, 109]⟩ tx X 0 k w.heap.size bs W1 from
  ⟨HH.out.below B1.out, by rw [← hW1]; exact (X0.out.below hb1).alloc _, HN.out.kp HS.out (B1.out.mono (by omega)), (Kp.refl b w).next (by omega) B1.out⟩)
 have q0 : W1.cell? ⟨w.heap.size, 0, none⟩ = some (.string ⟨#[110, 117, 109]⟩) := T1.out.box.cell 0
 have q1 : W1.cell? ⟨w.heap.size, 1, none⟩ = some (.string tx) := T1.out.box.cell 1
 have q2 : W1.cell? ⟨w.heap.size, 2, none⟩ = some (.slice X 0 k) := T1.out.box.cell 2
 have f0 : W1.frozen? ⟨w.heap.size, 0, none⟩ = false := T1.out.box.free 0
 have f1 : W1.frozen? ⟨w.heap.size, 1, none⟩ = false := T1.out.box.free 1
 have q3 : W1.cell? ⟨w1.heap.size, 0, none⟩ = some (.int .i64 7) := RV.out.cell 0
 have q4 : W1.cell? ⟨w1.heap.size, 1, none⟩ = some (.slice Y 0 d) := RV.out.cell 1
 have q5 : W1.cell? ⟨w1.heap.size, 2, none⟩ = some (.bool true) := RV.out.cell 2
 clear hY hb1 x0 x1 x2 X0 B0 B1 HR
 clear q2 q3 q4 q5
 obtain ⟨W3, hW3⟩ : ∃ W3, W1.setCell ⟨w.heap.size, 0, none⟩ (.string tx) = W3 := ⟨_, rfl⟩
 have A3 := hid (show HasE b mb m bs W3 by rw [← hW3]; exact T1.out.has.far T1.out.box (by decide) (by omega) 0 _)
 have B3 := hid (show HB W3 w.heap.size #[.string tx, .string tx, .slice X 0 k] 25 by rw [← hW3]; exact (T1.out.box.set 0 _))
 have K3 := hid (show Kp b w W3 by rw [← hW3]; exact T1.out.kp.new _ (Nat.le_refl _) (Nat.le_of_lt hbl) _)
 have KX := hid (fun (w' : World) (hk : Kp b W3 w') => show w'.cell? ⟨w.heap.size, 0, none⟩ = some (.string tx) from (B3.out.kp hk (by omega) (by decide)).cell 0)
 go_wp2_with fail
 try rw [hW1]
 try rw [hW3]
 go_region_held3 (fun w' => (w'.cell? ⟨w.heap.size, 0, none⟩ = some (.string tx)) ∧ Kp b W3 w')
  (first | assumption | (exact ⟨KX.out _ ((Kp.refl b W3).drew.trans hk5), (Kp.refl b W3).drew.trans hk5⟩) | (exact ⟨KX.out _ (Kp.refl b W3).drew, (Kp.refl b W3).drew⟩))
  (first | (go_at_call 66; with_reducible refine (HW.out bs tx _ ?ce ?cl).mono ?_; (case ce => exact (A3.out.below (Below.drew (Below.refl _ _))).wr); (case cl => (have h1 : tx.size = tv.length := by rw [HTX.out]; exact size_list _); (rw [h1]; simp at hl ⊢; omega)); rintro e w5 ⟨rfl, hw5, hk5⟩))
 have A5 := hid (show Wr w5 b mb (bs ++ tv) by have h := hw5; rw [HTX.out] at h; exact h)
 have K5 := hid (K3.out.trans ((Kp.refl b W3).drew.trans hk5))
 clear hw5 hk5
 go_wp2
 go_end0
 exact ⟨rfl, A5.out, K5.out⟩
theorem enodeE_col {b mb : Nat} {m : Int} (tv : List UInt8) : NdE b mb m (.mk sCol tv []) := by
 intro S op tx X n k bs w h hS hn ht hl
 have hbl := h.lt
 have hsh : showE (.mk sCol tv []) = tv := showE_good (r := (7, [], true)) (by unfold rE; rw [show ruleE sCol = some (7, [], true) by decide]; dsimp only; rw [if_pos ⟨rfl, .inr rfl⟩])
 rw [hsh] at hl ⊢
 clear hsh
 have hr : rE sCol tv 0 = some (7, [], true) := by unfold rE; rw [show ruleE sCol = some (7, [], true) by decide]; dsimp only; rw [if_pos ⟨rfl, .inr rfl⟩]
 have hR := fun (w' : World) (hb : Below w.heap.size w w') => (show Calls Tryz.prog 147 #[.pointer (some ⟨b, 0, none⟩), .agg #[.string op, .string tx, .slice X n k]] w' (FRule w' b (rE sCol tv 0)) from ruleN (h.below hb) ht (hn.kp hS (hb.mono (Nat.le_of_lt hbl))))
 rw [hr] at hR
 unfold FRule at hR
 dsimp only [List.length_cons, List.length_nil] at hR
 obtain ⟨e1, e2, e3, -⟩ := hn.texts
 dsimp only at e1 e2 e3
 obtain rfl : op = ⟨#[99, 111, 108]⟩ := e1
 have HTX := hid (show tx = ⟨tv.toArray⟩ from e2)
 clear e2
 obtain rfl : n = 0 := e3
 have HR := hid hR
 have HH := hid h
 have HN := hid hn
 have HS := hid hS
 have HT := hid ht
 clear hR h hn hS hr ht
 have hW := fun (bs' : List UInt8) (s : ByteArray) (w' : World) (h' : Wr w' b mb bs') (hl' : bs'.length + s.size ≤ 1000000) => ewrite_any b mb bs' s w' h' hl'
 have HW := hid hW
 clear hW
 go_enter Tryz.func135, Tryz.ntmps135
 obtain ⟨w0, hw0⟩ : ∃ w0, w.alloc (.cells #[.string ⟨#[99, 111, 108]⟩, .string tx, .slice X 0 k] 25) = w0 := ⟨_, rfl⟩
 have B0 := hid (show Below w.heap.size w w0 by rw [← hw0]; exact below_alloc w _)
 have X0 := hid (show HB w0 w.heap.size #[.string ⟨#[99, 111, 108]⟩, .string tx, .slice X 0 k] 25 by rw [← hw0]; exact HB.fresh w _ _)
 have x0 : w0.cell? ⟨w.heap.size, 0, none⟩ = some (.string ⟨#[99, 111, 108]⟩) := X0.out.cell 0
 have x1 : w0.cell? ⟨w.heap.size, 1, none⟩ = some (.string tx) := X0.out.cell 1
 have x2 : w0.cell? ⟨w.heap.size, 2, none⟩ = some (.slice X 0 k) := X0.out.cell 2
 go_wp2_with fail
 try rw [hw0]
 refine (HR.out _ B0.out).mono ?_
 rintro e w1 ⟨Y, d, rfl, hY, hb1⟩
 have hz0 : w.heap.size < w0.heap.size := by rw [← hw0]; simp
 have z1 := hb1.size
 have hbz : b < w1.heap.size := by omega
 obtain ⟨W1, hW1⟩ : ∃ W1, w1.alloc (.cells #[.int .i64 7, .slice Y 0 d, .bool true] 150) = W1 := ⟨_, rfl⟩
 have B1 := hid (show Below w.heap.size w W1 by rw [← hW1]; exact (bnext B0.out B0.out.size hb1).alloc (by omega) _)
 have RV := hid (show HB W1 w1.heap.size #[.int .i64 7, .slice Y 0 d, .bool true] 150 by rw [← hW1]; exact HB.fresh w1 _ _)
 have LV := hid (show LvAt W1 b [] Y by rw [← hW1]; exact hY.below ((bnext (Below.refl _ _) (Nat.le_refl _) hb1).mono (by omega) |>.trans ((below_alloc w1 _).mono (by omega))))
 have T1 := hid (show ESt b mb m w S (.mk sCol tv []) ⟨#[99, 111, 108]⟩ ⟨#[99, 111, 108]⟩ tx X 0 k w.heap.size bs W1 from
  ⟨HH.out.below B1.out, by rw [← hW1]; exact (X0.out.below hb1).alloc _, HN.out.kp HS.out (B1.out.mono (by omega)), (Kp.refl b w).next (by omega) B1.out⟩)
 have q0 : W1.cell? ⟨w.heap.size, 0, none⟩ = some (.string ⟨#[99, 111, 108]⟩) := T1.out.box.cell 0
 have q1 : W1.cell? ⟨w.heap.size, 1, none⟩ = some (.string tx) := T1.out.box.cell 1
 have q2 : W1.cell? ⟨w.heap.size, 2, none⟩ = some (.slice X 0 k) := T1.out.box.cell 2
 have f0 : W1.frozen? ⟨w.heap.size, 0, none⟩ = false := T1.out.box.free 0
 have f1 : W1.frozen? ⟨w.heap.size, 1, none⟩ = false := T1.out.box.free 1
 have q3 : W1.cell? ⟨w1.heap.size, 0, none⟩ = some (.int .i64 7) := RV.out.cell 0
 have q4 : W1.cell? ⟨w1.heap.size, 1, none⟩ = some (.slice Y 0 d) := RV.out.cell 1
 have q5 : W1.cell? ⟨w1.heap.size, 2, none⟩ = some (.bool true) := RV.out.cell 2
 clear hY hb1 x0 x1 x2 X0 B0 B1 HR
 clear q2 q3 q4 q5
 obtain ⟨W3, hW3⟩ : ∃ W3, W1.setCell ⟨w.heap.size, 0, none⟩ (.string tx) = W3 := ⟨_, rfl⟩
 have A3 := hid (show HasE b mb m bs W3 by rw [← hW3]; exact T1.out.has.far T1.out.box (by decide) (by omega) 0 _)
 have B3 := hid (show HB W3 w.heap.size #[.string tx, .string tx, .slice X 0 k] 25 by rw [← hW3]; exact (T1.out.box.set 0 _))
 have K3 := hid (show Kp b w W3 by rw [← hW3]; exact T1.out.kp.new _ (Nat.le_refl _) (Nat.le_of_lt hbl) _)
 have KX := hid (fun (w' : World) (hk : Kp b W3 w') => show w'.cell? ⟨w.heap.size, 0, none⟩ = some (.string tx) from (B3.out.kp hk (by omega) (by decide)).cell 0)
 go_wp2_with fail
 try rw [hW1]
 try rw [hW3]
 go_region_held3 (fun w' => (w'.cell? ⟨w.heap.size, 0, none⟩ = some (.string tx)) ∧ Kp b W3 w')
  (first | assumption | (exact ⟨KX.out _ ((Kp.refl b W3).drew.trans hk5), (Kp.refl b W3).drew.trans hk5⟩) | (exact ⟨KX.out _ (Kp.refl b W3).drew, (Kp.refl b W3).drew⟩))
  (first | (go_at_call 66; with_reducible refine (HW.out bs tx _ ?ce ?cl).mono ?_; (case ce => exact (A3.out.below (Below.drew (Below.refl _ _))).wr); (case cl => (have h1 : tx.size = tv.length := by rw [HTX.out]; exact size_list _); (rw [h1]; simp at hl ⊢; omega)); rintro e w5 ⟨rfl, hw5, hk5⟩))
 have A5 := hid (show Wr w5 b mb (bs ++ tv) by have h := hw5; rw [HTX.out] at h; exact h)
 have K5 := hid (K3.out.trans ((Kp.refl b W3).drew.trans hk5))
 clear hw5 hk5
 go_wp2
 go_end0
 exact ⟨rfl, A5.out, K5.out⟩
end Go.Proofs.YtjbpkpfmgbhlpaaGreatDoor.Code
/-
  The expression in the live question of layer 10 is shown as it should.
-/
namespace Go.Proofs.YtjbpkpfmgbhlpaaGreatDoor.Code
open Go.ChangeShapes Go.WideShapes Go.ChangeAt Go.RowKit Val Elems
set_option linter.unusedVariables false
def aliveE : Nod := .mk [60] [] [.mk sCol [97] [], .mk sNum [51] []]
theorem eshow_alive : EShows aliveE := eshow_of _ fun b mb m => enodeE_two [60] _ _ _ rfl (by decide) (by decide) _ _ (enodeE_col [97]) (enodeE_num [51])
theorem alive_exprs : ∀ x ∈ exprsOf aliveQT, EShows x := by
 have h : exprsOf aliveQT = [aliveE] := by kernel_rfl
 rw [h]
 intro x hx
 obtain rfl := List.mem_singleton.1 hx
 exact eshow_alive
end Go.Proofs.YtjbpkpfmgbhlpaaGreatDoor.Code
/-
  How deep a query's node is at most. No program is named here.
-/
namespace Go.Proofs.YtjbpkpfmgbhlpaaGreatDoor.Code
open Val
set_option linter.unusedVariables false
theorem deepL_le {k : Nat} : ∀ {l : List Nod}, (∀ t ∈ l, t.deep ≤ k) → Nod.deepL l ≤ k
 | [], _ => Nat.zero_le _
 | x :: l, h => by
  rw [Nod.deepL]
  exact Nat.max_le.2 ⟨h x (List.mem_cons_self ..), deepL_le fun t ht => h t (List.mem_cons_of_mem _ ht)⟩
theorem mk_deep (o t : List UInt8) (ks : List Nod) : (Nod.mk o t ks).deep = Nod.deepL ks + 1 := by rw [Nod.deep]
theorem leaf_deep (o t : List UInt8) : (Nod.mk o t []).deep = 1 := by rw [Nod.deep, Nod.deepL]
section
variable {L : List V} {i : Nat} {b : Bool}
theorem exprQ_deep (h : i ≤ L.length) : (exprQ L i b).1.n.deep + i ≤ 1 + (exprQ L i b).2.1 := by
 rw [Tr.n_deep]
 exact P_deep L (stepsN L) (.expr 1) i b h
theorem item_deep (h : i ≤ L.length) : (itemQ L i b).1.deep + i ≤ 2 + (itemQ L i b).2.1 := by
 have h1 := nm_ends (b := b) h
 have h2 := must_ends (b := (nmQ L i b).2.2) (s := [61]) h1.2.1
 have h3 := exprQ_deep (b := (mustQ L (nmQ L i b).2.1 (nmQ L i b).2.2 [61]).2) h2.2.1
 have e1 := h1.1
 have e2 := h2.1
 unfold itemQ
 rw [mk_deep, Nod.deepL, Nod.deepL]
 dsimp only
 omega
theorem pair_deep (h : i ≤ L.length) : (pairQ L i b).1.deep + i ≤ 2 + (pairQ L i b).2.1 := by
 have h1 := (pair_ends (b := b) h).1
 have h2 : (pairQ L i b).1.deep = 2 := by unfold pairQ; rw [mk_deep, Nod.deepL, leaf_deep, Nod.deepL]; rfl
 omega
theorem agg_deep (h : i ≤ L.length) : (aggQ L i b).1.deep + i ≤ 2 + (aggQ L i b).2.1 := by
 have h1 := (agg_ends (b := b) h).1
 have h2 : (aggQ L i b).1.deep ≤ 2 := by
  unfold aggQ agg2Q
  split
  ·show zeroN.deep ≤ 2
   unfold zeroN
   rw [leaf_deep]
   decide
  ·rw [mk_deep, Nod.deepL, leaf_deep, Nod.deepL]
   decide
 omega
theorem names_deep : ∀ (f i : Nat) (b : Bool), ∀ t ∈ (namesQ L f i b).1, t.deep ≤ 1
 | 0, i, b, t, ht => by cases ht
 | f + 1, i, b, t, ht => by
  rw [namesQ] at ht
  split at ht
  ·rcases List.mem_cons.1 ht with rfl | ht
   ·rw [leaf_deep]; exact Nat.le_refl _
   ·exact names_deep f _ _ t ht
  ·obtain rfl := List.mem_singleton.1 ht
   rw [leaf_deep]; exact Nat.le_refl _
theorem by_deep : (byQ L i b).1.deep ≤ 2 := by
 unfold byQ
 split
 ·rw [mk_deep]
  have := deepL_le (fun t ht => names_deep (L := L) (L.length + 1) (i + 1) b t ht)
  omega
 ·rw [leaf_deep]; decide
theorem loop_deep {el : Nat → Bool → Res} {k : Nat} (he : ∀ j c, j ≤ L.length → Ends L.length j c (el j c).2) (hd : ∀ j c, j ≤ L.length → (el j c).1.deep + j ≤ k + (el j c).2.1) : ∀ (f : Nat) (first : Bool) (i : Nat) (b : Bool), i ≤ L.length → ∀ t ∈ (loopQ L el f first i b).1, t.deep + i ≤ k + (loopQ L el f first i b).2.1
 | 0, _, i, b, h, t, ht => by cases ht
 | f + 1, first, i, b, h, t, ht => by
  rw [loopQ] at ht ⊢
  have h1 := more_ends (b := b) (first := first) h
  by_cases hm : (moreQ L i b first).1 = false
  ·rw [if_pos hm] at ht
   cases ht
  rw [if_neg hm] at ht ⊢
  have h2 := he _ (moreQ L i b first).2.2 h1.2.1
  have h3 := loop_ends he f false _ (el (moreQ L i b first).2.1 (moreQ L i b first).2.2).2.2 h2.2.1
  have e1 := h1.1
  have e2 := h2.1
  have e3 := h3.1
  dsimp only at ht ⊢
  rcases List.mem_cons.1 ht with rfl | ht
  ·have := hd _ (moreQ L i b first).2.2 h1.2.1
   omega
  ·have := loop_deep he hd f false _ _ h2.2.1 t ht
   omega
theorem tail_deep {q : Nat → Bool → Res} (hq : ∀ j c, j ≤ L.length → Ends L.length j c (q j c).2) (hd : ∀ j c, j ≤ L.length → (q j c).1.deep + j ≤ 2 + (q j c).2.1) {o : List UInt8} (h : i ≤ L.length) : ∀ t ∈ (tailQ L q o i b).1, t.deep + i ≤ 2 + (tailQ L q o i b).2.1 := by
 have h1 := must_ends (b := b) (s := [44]) h
 have e1 := h1.1
 have hT := tail_ends (b := b) (o := o) hq h
 have eT := hT.1
 intro t ht
 unfold tailQ at ht eT ⊢
 split at ht
 ·rename_i c1
  rw [if_pos c1] at eT ⊢
  obtain rfl := List.mem_singleton.1 ht
  have h2 := exprQ_deep (b := (mustQ L i b [44]).2) h1.2.1
  have h3 := expr_ends (b := (mustQ L i b [44]).2) h1.2.1
  have h4 := (must_ends (b := (exprQ L (mustQ L i b [44]).1 (mustQ L i b [44]).2).2.2) (s := [41]) h3.2.1).1
  dsimp only
  omega
 rename_i c1
 rw [if_neg c1] at eT ⊢
 split at ht
 ·cases ht
 rename_i c2
 rw [if_neg c2] at eT ⊢
 split at ht
 ·rename_i c3
  rw [if_pos c3] at eT ⊢
  exact loop_deep (fun j c hj => item_ends hj) (fun j c hj => item_deep hj) _ _ _ _ h t ht
 rename_i c3
 rw [if_neg c3] at eT ⊢
 split at ht
 ·rename_i c4
  rw [if_pos c4] at eT ⊢
  exact loop_deep hq hd _ _ _ _ h t ht
 rename_i c4
 rw [if_neg c4] at eT ⊢
 split at ht
 ·rename_i c5
  rw [if_pos c5] at eT ⊢
  have h2 := hq _ (mustQ L i b [44]).2 h1.2.1
  have e2 := h2.1
  have h3 := loop_ends (L := L) (el := pairQ L) (fun j c hj => pair_ends hj) (L.length + 1) true _ (q (mustQ L i b [44]).1 (mustQ L i b [44]).2).2.2 h2.2.1
  have e3 := h3.1
  dsimp only at ht ⊢
  rcases List.mem_cons.1 ht with rfl | ht
  ·have := hd _ (mustQ L i b [44]).2 h1.2.1
   omega
  ·have := loop_deep (L := L) (el := pairQ L) (fun j c hj => pair_ends hj) (fun j c hj => pair_deep hj) _ _ _ _ h2.2.1 t ht
   omega
 ·rename_i c5
  rw [if_neg c5] at eT ⊢
  unfold groupQ at ht eT ⊢
  have h2 := by_ends (b := (mustQ L i b [44]).2) h1.2.1
  have h3 := agg_ends (L := L) (b := (byQ L (mustQ L i b [44]).1 (mustQ L i b [44]).2).2.2) h2.2.1
  have h4 := loop_ends (L := L) (el := aggQ L) (fun j c hj => agg_ends hj) (L.length + 1) false _ (aggQ L (byQ L (mustQ L i b [44]).1 (mustQ L i b [44]).2).2.1 (byQ L (mustQ L i b [44]).1 (mustQ L i b [44]).2).2.2).2.2 h3.2.1
  have e2 := h2.1
  have e3 := h3.1
  have e4 := h4.1
  dsimp only at ht eT ⊢
  rcases List.mem_cons.1 ht with rfl | ht
  ·have := by_deep (L := L) (i := (mustQ L i b [44]).1) (b := (mustQ L i b [44]).2)
   omega
  rcases List.mem_cons.1 ht with rfl | ht
  ·have := agg_deep (L := L) (b := (byQ L (mustQ L i b [44]).1 (mustQ L i b [44]).2).2.2) h2.2.1
   omega
  ·have := loop_deep (L := L) (el := aggQ L) (fun j c hj => agg_ends hj) (fun j c hj => agg_deep hj) _ _ _ _ h3.2.1 t ht
   omega
end
theorem qq_deep (L : List V) : ∀ (f i : Nat) (b : Bool), i ≤ L.length → (qq L f i b).1.deep + i ≤ 1 + (qq L f i b).2.1
 | 0, i, b, h => by rw [qq]; unfold zeroN; rw [leaf_deep]; exact Nat.le_refl _
 | f + 1, i, b, h => by
  rw [qq]
  by_cases ho : opQ L i b opsQ = []
  ·rw [if_pos ho]
   have := (nm_ends (b := b) h).1
   dsimp only
   rw [leaf_deep]
   omega
  ·rw [if_neg ho]
   have hs := op_lt ho
   have h1 := qq_ends L f (i + 2) b hs.1
   have d1 := qq_deep L f (i + 2) b hs.1
   have h2 := tail_ends (b := (qq L f (i + 2) b).2.2) (o := opQ L i b opsQ) (fun j c hj => qq_ends L f j c hj) h1.2.1
   have e1 := h1.1
   have e2 := h2.1
   dsimp only
   rw [mk_deep, Nod.deepL]
   have := deepL_le (k := 2 + (tailQ L (qq L f) (opQ L i b opsQ) (qq L f (i + 2) b).2.1 (qq L f (i + 2) b).2.2).2.1 - (qq L f (i + 2) b).2.1) (l := (tailQ L (qq L f) (opQ L i b opsQ) (qq L f (i + 2) b).2.1 (qq L f (i + 2) b).2.2).1) (fun t ht => by
    have := tail_deep (L := L) (fun j c hj => qq_ends L f j c hj) (fun j c hj => by have := qq_deep L f j c hj; omega) h1.2.1 t ht
    omega)
   omega
theorem topQ_deep (L : List V) : (topQ L).1.deep ≤ 1 + L.length := by
 have h := qq_deep L (L.length + 1) 0 false (Nat.zero_le _)
 have h2 := topQ_le L
 unfold topQ at h2 ⊢
 omega
end Go.Proofs.YtjbpkpfmgbhlpaaGreatDoor.Code
/-
  The document's Parse of queries: a text's node, or what is wrong, and where.
-/
namespace Go.Proofs.YtjbpkpfmgbhlpaaGreatDoor.Code
open Go.ChangeShapes Go.WideShapes Go.ChangeAt Go.RowKit Val Elems
set_option linter.unusedVariables false
set_option linter.unusedSimpArgs false
def ParseQPost (w : World) (res : Nod × Int × Int) (e : Ending) (w' : World) : Prop :=
 ∃ (op tx : ByteArray) (X : Option Addr) (n m : Nat), e = .returned (.tuple #[.agg #[.string op, .string tx, .slice X n m], .int .i64 res.2.1, .int .i64 res.2.2]) ∧ RIn w' (New w w') res.1 (op, tx, X, n, m) ∧ Below w.heap.size w w'
def ReadQE (l : List W) (m : Int) (res : Nod × Nat × Int) : Prop := ∀ A cap w, At wc 3 w w.heap.size A l → Env w.heap.size m w → Calls Tryz.prog 12 #[.slice A l.length cap, .int .i64 0] w (ReadQPost w res)
theorem pparseQ_lex (s : ByteArray) (m : Int) (w : World) (he : Env w.heap.size m w) (j : Int) (hw : WordsE s [] j 81 m) :
  Calls Tryz.prog 8 #[.string s] w (ParseQPost w (zeroN, j, 81)) := by
 have HW := hid hw
 have HE := hid he
 clear hw he
 go_enter Tryz.func8, Tryz.ntmps8
 have N0 := hid (NBox.fresh w (.string ⟨#[]⟩) (.string ⟨#[]⟩) (.slice none 0 0) 25)
 have B0 := hid ((Below.refl w.heap.size w).alloc (Nat.le_refl _) (.cells #[.string ⟨#[]⟩, .string ⟨#[]⟩, .slice none 0 0] 25))
 go_wp2_with fail
 refine (HW.out _ (HE.out.next B0.out)).mono ?_
 rintro e w1 ⟨A, cap, rfl, hat, hb1⟩
 have N1 := hid (N0.out.below hb1)
 have B1 := hid (B0.out.trans (hb1.mono (by simp)))
 have A1 := hid hat
 have H1 := hid ((hb1.block w.heap.size (by simp)).trans (heap_alloc_new w (.cells #[.string ⟨#[]⟩, .string ⟨#[]⟩, .slice none 0 0] 25)))
 have z1 := N1.out.lt
 clear hb1 hat
 obtain ⟨x0, x1, x2, xf⟩ := N1.out
 go_wp2
 have Y := N1.out.set (.string ⟨#[]⟩) (.string ⟨#[]⟩) (.slice none 0 0)
 exact bodyPost_ret (v := .tuple #[.agg #[.string ⟨#[]⟩, .string ⟨#[]⟩, .slice none 0 0], .int .i64 j, .int .i64 81]) (by simp [results, Tryz.results8, go_sem, Y.c0, Y.c1, Y.c2]) rfl
  ⟨⟨#[]⟩, ⟨#[]⟩, none, 0, 0, rfl, RIn.leafN _ _ ⟨#[]⟩ ⟨#[]⟩, ((B1.out.setCell (Nat.le_refl _) _).setCell (Nat.le_refl _) _).setCell (Nat.le_refl _) _⟩
theorem pparseQ_at (s : ByteArray) (m : Int) (w : World) (he : Env w.heap.size m w) (l : List W) (hw : WordsE s l 0 0 m) (x : Nod) (j : Nat) (ee : Int) (hr : ReadQE l m (x, j, ee)) (hj : j < l.length) :
  Calls Tryz.prog 8 #[.string s] w (ParseQPost w (zeroN, placeL s.size l j, 91)) := by
 have hp : placeL s.size l j = l[j].2.2 := by unfold placeL; rw [List.getElem?_eq_getElem hj]
 rw [hp]
 obtain ⟨v, hv⟩ : ∃ v, l[j] = v := ⟨_, rfl⟩
 have HV := hid hv
 rw [hv]
 obtain ⟨vk, vt, p⟩ := v
 dsimp only
 unfold ReadQE at hr
 have HW := hid hw
 have HR := hid hr
 have HE := hid he
 have e1 : decide ((j : Int) < (l.length : Int)) = true := by simp; omega
 have e2 : (j : Int) < (l.length : Int) := by omega
 clear hw hr hp he hv
 go_enter Tryz.func8, Tryz.ntmps8
 have N0 := hid (NBox.fresh w (.string ⟨#[]⟩) (.string ⟨#[]⟩) (.slice none 0 0) 25)
 have B0 := hid ((Below.refl w.heap.size w).alloc (Nat.le_refl _) (.cells #[.string ⟨#[]⟩, .string ⟨#[]⟩, .slice none 0 0] 25))
 go_wp2_with fail
 refine (HW.out _ (HE.out.next B0.out)).mono ?_
 rintro e w1 ⟨A, cap, rfl, hat, hb1⟩
 have N1 := hid (N0.out.below hb1)
 have B1 := hid (B0.out.trans (hb1.mono (by simp)))
 have A1 := hid hat
 have H1 := hid ((hb1.block w.heap.size (by simp)).trans (heap_alloc_new w (.cells #[.string ⟨#[]⟩, .string ⟨#[]⟩, .slice none 0 0] 25)))
 have z1 := N1.out.lt
 clear hb1 hat
 go_wp2_with fail
 refine (HR.out A cap _ A1.out (HE.out.next B1.out)).mono ?_
 rintro e w2 ⟨op, tx, X, n, k, rfl, hn2, hb2⟩
 have N2w := hid (N1.out.below hb2)
 have N2 := hid ((N1.out.below hb2).alloc (.cells #[.string op, .string tx, .slice X n k] 25))
 have B2 := hid ((B1.out.trans (hb2.mono (by omega))).alloc (by have := hb2.size; omega) (.cells #[.string op, .string tx, .slice X n k] 25))
 have A2 := hid (show At wc 3 (w2.alloc (.cells #[.string op, .string tx, .slice X n k] 25)) w2.heap.size A l from (((A1.out.below hb2).more hb2.size).below ((Below.refl _ _).alloc (Nat.le_refl _) (.cells #[.string op, .string tx, .slice X n k] 25))))
 have I2 := hid ((hn2.imp (S' := fun g => w.heap.size < g ∧ g < w2.heap.size) (fun g hg => ⟨by have := hg.1; omega, hg.2⟩)).alloc (fun g hg => hg.2) (.cells #[.string op, .string tx, .slice X n k] 25))
 have V2 := hid (NBox.fresh w2 (.string op) (.string tx) (.slice X n k) 25)
 have z2 := hb2.size
 have znw := N2w.out.lt
 clear hb2 hn2
 obtain ⟨w6, hw6⟩ : ∃ w6, w2.alloc (.cells #[.string op, .string tx, .slice X n k] 25) = w6 := ⟨_, rfl⟩
 have hz6 : w6.heap.size = w2.heap.size + 1 := by rw [← hw6]; simp
 rw [hw6] at N2 B2 A2 I2 V2
 obtain ⟨x0, x1, x2, xf⟩ := N2.out
 obtain ⟨ad, rfl, ha, d0, d1, d2⟩ := at_word A2.out j hj
 rw [HV.out] at d2
 dsimp only at d2
 obtain ⟨q, hq⟩ : ∃ q, ad.add (j * 3) = q := ⟨_, rfl⟩
 have hbn : q.block ≠ w.heap.size := by
  obtain ⟨a1, h1, h2, c0, c1, c2⟩ := at_word A1.out j hj
  obtain rfl : ad = a1 := Option.some.inj h1
  rw [← hq]
  exact node_block_ne H1.out c0
 rw [hq] at d2
 have HO := hid (Ox.refl w.heap.size w6)
 have FQ := hid (fun w' (h : Ox w.heap.size w6 w') => show w'.cell? ⟨q.block, q.off + 2, none⟩ = some (.int .i64 p) from (h.2 ⟨q.block, q.off + 2, none⟩ hbn).trans d2)
 clear d0 d1
 go_upto_region 6 with fail
 try rw [hw6]
 clear hw6
 go_region_held3 (fun w' => (w'.cell? ⟨q.block, q.off + 2, none⟩ = some (.int .i64 p)) ∧ Ox w.heap.size w6 w')
  (first | assumption | (exact ⟨FQ.out _ HO.out.drew, HO.out.drew⟩) | (exact ⟨FQ.out _ HO.out, HO.out⟩) | (refine (fun hS9 : Ox w.heap.size w6 _ => ⟨FQ.out _ hS9, hS9⟩) (((HO.out.setCell _ rfl _).setCell _ rfl _).setCell _ rfl _).drew))
  (fail)
 go_wp2
 have Y := N2.out.set (.string ⟨#[]⟩) (.string ⟨#[]⟩) (.slice none 0 0)
 exact bodyPost_ret (v := .tuple #[.agg #[.string ⟨#[]⟩, .string ⟨#[]⟩, .slice none 0 0], .int .i64 p, .int .i64 91]) (by simp [results, Tryz.results8, go_sem, Y.c0, Y.c1, Y.c2]) rfl
  ⟨⟨#[]⟩, ⟨#[]⟩, none, 0, 0, rfl, RIn.leafN _ _ ⟨#[]⟩ ⟨#[]⟩, (((B2.out.setCell (Nat.le_refl _) _).setCell (Nat.le_refl _) _).setCell (Nat.le_refl _) _).drew⟩
theorem pparseQ_end (s : ByteArray) (m : Int) (w : World) (he : Env w.heap.size m w) (l : List W) (hw : WordsE s l 0 0 m) (x : Nod) (hr : ReadQE l m (x, l.length, 91)) :
  Calls Tryz.prog 8 #[.string s] w (ParseQPost w (zeroN, s.size, 91)) := by
 unfold ReadQE at hr
 have HW := hid hw
 have HR := hid hr
 have HE := hid he
 have e1 : decide ((l.length : Int) < (l.length : Int)) = false := by simp
 clear hw hr he
 go_enter Tryz.func8, Tryz.ntmps8
 have N0 := hid (NBox.fresh w (.string ⟨#[]⟩) (.string ⟨#[]⟩) (.slice none 0 0) 25)
 have B0 := hid ((Below.refl w.heap.size w).alloc (Nat.le_refl _) (.cells #[.string ⟨#[]⟩, .string ⟨#[]⟩, .slice none 0 0] 25))
 go_wp2_with fail
 refine (HW.out _ (HE.out.next B0.out)).mono ?_
 rintro e w1 ⟨A, cap, rfl, hat, hb1⟩
 have N1 := hid (N0.out.below hb1)
 have B1 := hid (B0.out.trans (hb1.mono (by simp)))
 have A1 := hid hat
 have H1 := hid ((hb1.block w.heap.size (by simp)).trans (heap_alloc_new w (.cells #[.string ⟨#[]⟩, .string ⟨#[]⟩, .slice none 0 0] 25)))
 have z1 := N1.out.lt
 clear hb1 hat
 go_wp2_with fail
 refine (HR.out A cap _ A1.out (HE.out.next B1.out)).mono ?_
 rintro e w2 ⟨op, tx, X, n, k, rfl, hn2, hb2⟩
 have N2w := hid (N1.out.below hb2)
 have N2 := hid ((N1.out.below hb2).alloc (.cells #[.string op, .string tx, .slice X n k] 25))
 have B2 := hid ((B1.out.trans (hb2.mono (by omega))).alloc (by have := hb2.size; omega) (.cells #[.string op, .string tx, .slice X n k] 25))
 have A2 := hid (show At wc 3 (w2.alloc (.cells #[.string op, .string tx, .slice X n k] 25)) w2.heap.size A l from (((A1.out.below hb2).more hb2.size).below ((Below.refl _ _).alloc (Nat.le_refl _) (.cells #[.string op, .string tx, .slice X n k] 25))))
 have I2 := hid ((hn2.imp (S' := fun g => w.heap.size < g ∧ g < w2.heap.size) (fun g hg => ⟨by have := hg.1; omega, hg.2⟩)).alloc (fun g hg => hg.2) (.cells #[.string op, .string tx, .slice X n k] 25))
 have V2 := hid (NBox.fresh w2 (.string op) (.string tx) (.slice X n k) 25)
 have z2 := hb2.size
 have znw := N2w.out.lt
 clear hb2 hn2
 obtain ⟨w6, hw6⟩ : ∃ w6, w2.alloc (.cells #[.string op, .string tx, .slice X n k] 25) = w6 := ⟨_, rfl⟩
 have hz6 : w6.heap.size = w2.heap.size + 1 := by rw [← hw6]; simp
 rw [hw6] at N2 B2 A2 I2 V2
 obtain ⟨x0, x1, x2, xf⟩ := N2.out
 have zn := N2.out.lt
 go_upto_region 5 with fail
 try rw [hw6]
 clear hw6
 go_wp2
 have Y := N2.out.set (.string ⟨#[]⟩) (.string ⟨#[]⟩) (.slice none 0 0)
 exact bodyPost_ret (v := .tuple #[.agg #[.string ⟨#[]⟩, .string ⟨#[]⟩, .slice none 0 0], .int .i64 s.size, .int .i64 91]) (by simp [results, Tryz.results8, go_sem, Y.c0, Y.c1, Y.c2]) rfl
  ⟨⟨#[]⟩, ⟨#[]⟩, none, 0, 0, rfl, RIn.leafN _ _ ⟨#[]⟩ ⟨#[]⟩, ((B2.out.setCell (Nat.le_refl _) _).setCell (Nat.le_refl _) _).setCell (Nat.le_refl _) _⟩
theorem pparseQ_deep (s : ByteArray) (m : Int) (w : World) (he : Env w.heap.size m w) (l : List W) (hw : WordsE s l 0 0 m) (x : Nod) (hr : ReadQE l m (x, l.length, 0)) (hd : x.deep ≤ 1000000000) (h16 : 16 < x.deep) :
  Calls Tryz.prog 8 #[.string s] w (ParseQPost w (zeroN, 0, 92)) := by
 unfold ReadQE at hr
 have HW := hid hw
 have HR := hid hr
 have HE := hid he
 have HD := hid (edeepN_any 1000000000 x hd (Nat.le_refl _))
 obtain ⟨d, hdd⟩ : ∃ d, x.deep = d := ⟨_, rfl⟩
 rw [hdd] at HD h16 hd
 have e1 : decide ((l.length : Int) < (l.length : Int)) = false := by simp
 have e2 : decide ((16 : Int) < (d : Int)) = true := by simp; omega
 clear hw hr he hdd
 go_enter Tryz.func8, Tryz.ntmps8
 have N0 := hid (NBox.fresh w (.string ⟨#[]⟩) (.string ⟨#[]⟩) (.slice none 0 0) 25)
 have B0 := hid ((Below.refl w.heap.size w).alloc (Nat.le_refl _) (.cells #[.string ⟨#[]⟩, .string ⟨#[]⟩, .slice none 0 0] 25))
 go_wp2_with fail
 refine (HW.out _ (HE.out.next B0.out)).mono ?_
 rintro e w1 ⟨A, cap, rfl, hat, hb1⟩
 have N1 := hid (N0.out.below hb1)
 have B1 := hid (B0.out.trans (hb1.mono (by simp)))
 have A1 := hid hat
 have H1 := hid ((hb1.block w.heap.size (by simp)).trans (heap_alloc_new w (.cells #[.string ⟨#[]⟩, .string ⟨#[]⟩, .slice none 0 0] 25)))
 have z1 := N1.out.lt
 clear hb1 hat
 go_wp2_with fail
 refine (HR.out A cap _ A1.out (HE.out.next B1.out)).mono ?_
 rintro e w2 ⟨op, tx, X, n, k, rfl, hn2, hb2⟩
 have N2w := hid (N1.out.below hb2)
 have N2 := hid ((N1.out.below hb2).alloc (.cells #[.string op, .string tx, .slice X n k] 25))
 have B2 := hid ((B1.out.trans (hb2.mono (by omega))).alloc (by have := hb2.size; omega) (.cells #[.string op, .string tx, .slice X n k] 25))
 have A2 := hid (show At wc 3 (w2.alloc (.cells #[.string op, .string tx, .slice X n k] 25)) w2.heap.size A l from (((A1.out.below hb2).more hb2.size).below ((Below.refl _ _).alloc (Nat.le_refl _) (.cells #[.string op, .string tx, .slice X n k] 25))))
 have I2 := hid ((hn2.imp (S' := fun g => w.heap.size < g ∧ g < w2.heap.size) (fun g hg => ⟨by have := hg.1; omega, hg.2⟩)).alloc (fun g hg => hg.2) (.cells #[.string op, .string tx, .slice X n k] 25))
 have V2 := hid (NBox.fresh w2 (.string op) (.string tx) (.slice X n k) 25)
 have z2 := hb2.size
 have znw := N2w.out.lt
 clear hb2 hn2
 obtain ⟨w6, hw6⟩ : ∃ w6, w2.alloc (.cells #[.string op, .string tx, .slice X n k] 25) = w6 := ⟨_, rfl⟩
 have hz6 : w6.heap.size = w2.heap.size + 1 := by rw [← hw6]; simp
 rw [hw6] at N2 B2 A2 I2 V2
 obtain ⟨x0, x1, x2, xf⟩ := N2.out
 obtain ⟨v0, v1, v2, vf⟩ := V2.out
 go_upto_region 5 with fail
 try rw [hw6]
 clear hw6
 go_wp2_with fail
 refine (HD.out _ _ _ _ _ _ _ (fun g hg => by have := hg.2; omega) I2.out).mono ?_
 rintro e w3 ⟨rfl, hb3⟩
 have N3 := hid (N2.out.below hb3)
 have V3 := hid (V2.out.below hb3)
 have I3 := hid (I2.out.bel (fun g hg => by have := hg.2; omega) hb3)
 have B3 := hid (B2.out.trans (hb3.mono (by omega)))
 have z3 := N3.out.lt
 have z4 : w2.heap.size < w3.heap.size := V3.out.lt
 clear hb3 x0 x1 x2 xf v0 v1 v2 vf
 obtain ⟨x0, x1, x2, xf⟩ := N3.out
 obtain ⟨v0, v1, v2, vf⟩ := V3.out
 go_wp2
 have Y := N3.out.set (.string ⟨#[]⟩) (.string ⟨#[]⟩) (.slice none 0 0)
 exact bodyPost_ret (v := .tuple #[.agg #[.string ⟨#[]⟩, .string ⟨#[]⟩, .slice none 0 0], .int .i64 0, .int .i64 92]) (by simp [results, Tryz.results8, go_sem, Y.c0, Y.c1, Y.c2]) rfl
  ⟨⟨#[]⟩, ⟨#[]⟩, none, 0, 0, rfl, RIn.leafN _ _ ⟨#[]⟩ ⟨#[]⟩, ((B3.out.setCell (Nat.le_refl _) _).setCell (Nat.le_refl _) _).setCell (Nat.le_refl _) _⟩
theorem pparseQ_ok (s : ByteArray) (m : Int) (w : World) (he : Env w.heap.size m w) (l : List W) (hw : WordsE s l 0 0 m) (x : Nod) (hr : ReadQE l m (x, l.length, 0)) (hd : x.deep ≤ 1000000000) (h16 : x.deep ≤ 16) :
  Calls Tryz.prog 8 #[.string s] w (ParseQPost w (x, 0, 0)) := by
 unfold ReadQE at hr
 have HW := hid hw
 have HR := hid hr
 have HE := hid he
 have HD := hid (edeepN_any 1000000000 x hd (Nat.le_refl _))
 obtain ⟨d, hdd⟩ : ∃ d, x.deep = d := ⟨_, rfl⟩
 rw [hdd] at HD h16 hd
 have e1 : decide ((l.length : Int) < (l.length : Int)) = false := by simp
 have e2 : decide ((16 : Int) < (d : Int)) = false := by simp; omega
 clear hw hr he hdd
 go_enter Tryz.func8, Tryz.ntmps8
 have N0 := hid (NBox.fresh w (.string ⟨#[]⟩) (.string ⟨#[]⟩) (.slice none 0 0) 25)
 have B0 := hid ((Below.refl w.heap.size w).alloc (Nat.le_refl _) (.cells #[.string ⟨#[]⟩, .string ⟨#[]⟩, .slice none 0 0] 25))
 go_wp2_with fail
 refine (HW.out _ (HE.out.next B0.out)).mono ?_
 rintro e w1 ⟨A, cap, rfl, hat, hb1⟩
 have N1 := hid (N0.out.below hb1)
 have B1 := hid (B0.out.trans (hb1.mono (by simp)))
 have A1 := hid hat
 have H1 := hid ((hb1.block w.heap.size (by simp)).trans (heap_alloc_new w (.cells #[.string ⟨#[]⟩, .string ⟨#[]⟩, .slice none 0 0] 25)))
 have z1 := N1.out.lt
 clear hb1 hat
 go_wp2_with fail
 refine (HR.out A cap _ A1.out (HE.out.next B1.out)).mono ?_
 rintro e w2 ⟨op, tx, X, n, k, rfl, hn2, hb2⟩
 have N2w := hid (N1.out.below hb2)
 have N2 := hid ((N1.out.below hb2).alloc (.cells #[.string op, .string tx, .slice X n k] 25))
 have B2 := hid ((B1.out.trans (hb2.mono (by omega))).alloc (by have := hb2.size; omega) (.cells #[.string op, .string tx, .slice X n k] 25))
 have A2 := hid (show At wc 3 (w2.alloc (.cells #[.string op, .string tx, .slice X n k] 25)) w2.heap.size A l from (((A1.out.below hb2).more hb2.size).below ((Below.refl _ _).alloc (Nat.le_refl _) (.cells #[.string op, .string tx, .slice X n k] 25))))
 have I2 := hid ((hn2.imp (S' := fun g => w.heap.size < g ∧ g < w2.heap.size) (fun g hg => ⟨by have := hg.1; omega, hg.2⟩)).alloc (fun g hg => hg.2) (.cells #[.string op, .string tx, .slice X n k] 25))
 have V2 := hid (NBox.fresh w2 (.string op) (.string tx) (.slice X n k) 25)
 have z2 := hb2.size
 have znw := N2w.out.lt
 clear hb2 hn2
 obtain ⟨w6, hw6⟩ : ∃ w6, w2.alloc (.cells #[.string op, .string tx, .slice X n k] 25) = w6 := ⟨_, rfl⟩
 have hz6 : w6.heap.size = w2.heap.size + 1 := by rw [← hw6]; simp
 rw [hw6] at N2 B2 A2 I2 V2
 obtain ⟨x0, x1, x2, xf⟩ := N2.out
 obtain ⟨v0, v1, v2, vf⟩ := V2.out
 go_upto_region 5 with fail
 try rw [hw6]
 clear hw6
 go_wp2_with fail
 refine (HD.out _ _ _ _ _ _ _ (fun g hg => by have := hg.2; omega) I2.out).mono ?_
 rintro e w3 ⟨rfl, hb3⟩
 have N3 := hid (N2.out.below hb3)
 have V3 := hid (V2.out.below hb3)
 have I3 := hid (I2.out.bel (fun g hg => by have := hg.2; omega) hb3)
 have B3 := hid (B2.out.trans (hb3.mono (by omega)))
 have z3 := N3.out.lt
 have z4 : w2.heap.size < w3.heap.size := V3.out.lt
 clear hb3 x0 x1 x2 xf v0 v1 v2 vf
 obtain ⟨x0, x1, x2, xf⟩ := N3.out
 obtain ⟨v0, v1, v2, vf⟩ := V3.out
 go_wp2
 have Y := N3.out.set (.string op) (.string tx) (.slice X n k)
 exact bodyPost_ret (v := .tuple #[.agg #[.string op, .string tx, .slice X n k], .int .i64 0, .int .i64 0]) (by simp [results, Tryz.results8, go_sem, Y.c0, Y.c1, Y.c2]) rfl
  ⟨op, tx, X, n, k, rfl, (RIn.w3 (g := w.heap.size) I3.out (fun hg => Nat.lt_irrefl _ hg.1) (.string op) (.string tx) (.slice X n k)).imp (fun g hg => ⟨Nat.le_of_lt hg.1, by show g < (W3 w3 w.heap.size (.string op) (.string tx) (.slice X n k)).heap.size; rw [W3.size]; have := hg.2; omega⟩), ((B3.out.setCell (Nat.le_refl _) _).setCell (Nat.le_refl _) _).setCell (Nat.le_refl _) _⟩
theorem preadQ_none (A : Option Addr) (cap : Nat) (w : World) : Calls Tryz.prog 12 #[.slice A 0 cap, .int .i64 0] w (ReadQPost w (zeroN, 0, 91)) := by
 refine (preadQ_out A cap 0 0 w (Or.inr (Int.le_refl _))).mono fun e w' hp => ?_
 exact ⟨⟨#[]⟩, ⟨#[]⟩, none, 0, 0, hp.1, RIn.leafN _ _ ⟨#[]⟩ ⟨#[]⟩, hp.2⟩
theorem pparseQ_any (s : ByteArray) (hs : s.size ≤ 1000000) (m : Int) (w : World) (he : Env w.heap.size m w) :
  Calls Tryz.prog 8 #[.string s] w (ParseQPost w (parseQ s.data.toList)) := by
 have hw := words_e s m (by omega)
 have hL := bytes_len s
 unfold parseQ
 cases e : wordsL s.data.toList 0 with
 | error j =>
  have h1 : wL s.data.toList = [] := by unfold wL; rw [e]
  have h2 : wP s.data.toList = j := by unfold wP; rw [e]
  have h3 : wE s.data.toList = 81 := by unfold wE; rw [e]
  rw [h1, h2, h3] at hw
  exact pparseQ_lex s m w he j hw
 | ok l =>
  have h1 : wL s.data.toList = l := by unfold wL; rw [e]
  have h2 : wP s.data.toList = 0 := by unfold wP; rw [e]
  have h3 : wE s.data.toList = 0 := by unfold wE; rw [e]
  rw [h1, h2, h3] at hw
  have hlen := words_len _ _ _ e
  have hl : l.length ≤ 1000000 := by omega
  have hgood : Good l := ⟨by omega, words_came _ _ _ e, came_short (words_came _ _ _ e)⟩
  show Calls Tryz.prog 8 #[.string s] w (ParseQPost w (parseQW s.data.toList.length l))
  rw [hL]
  by_cases hl0 : l = []
  ·subst hl0
   exact pparseQ_end s m w he [] hw zeroN (fun A cap w _ _ => preadQ_none A cap w)
  ·have hpos : 0 < l.length := List.length_pos_iff.2 hl0
   obtain ⟨R, hx⟩ : ∃ R, fromQ (Code.bare l) 0 = R := ⟨_, rfl⟩
   obtain ⟨x, j, b⟩ := R
   have htop : topQ (Code.bare l) = (x, j, b) := hx
   have hrd : readQ l 0 = if b = true then (zeroN, j, 91) else (x, j, 0) := by unfold readQ; rw [hx]
   have hr : ReadQE l m (readQ l 0) := fun A cap w h he => preadQ_any A cap l 0 m w h hgood he hpos
   rw [hrd] at hr
   have hj : j ≤ l.length := by have := topQ_le (Code.bare l); rw [htop, bare_length] at this; exact this
   have hd : x.deep ≤ 1 + l.length := by have := topQ_deep (Code.bare l); rw [htop, bare_length] at this; exact this
   unfold parseQW
   rw [if_neg hl0, htop]
   by_cases hjl : j < l.length
   ·rw [if_pos (Or.inr hjl)]
    cases b
    ·exact pparseQ_at s m w he l hw x j 0 hr hjl
    ·exact pparseQ_at s m w he l hw zeroN j 91 hr hjl
   ·obtain rfl : j = l.length := by omega
    cases b
    ·rw [if_neg (by simp)]
     by_cases h16 : 16 < x.deep
     ·rw [if_pos h16]
      exact pparseQ_deep s m w he l hw x hr (by omega) h16
     ·rw [if_neg h16]
      exact pparseQ_ok s m w he l hw x hr (by omega) (by omega)
    ·rw [if_pos (Or.inl rfl)]
     have hp : placeL s.size l l.length = s.size := by unfold placeL; rw [List.getElem?_eq_none (Nat.le_refl _)]
     show Calls _ _ _ _ (ParseQPost w (zeroN, placeL s.size l l.length, 91))
     rw [hp]
     exact pparseQ_end s m w he l hw zeroN hr
theorem info_strQ : (Tryz.prog.info? 9).map (fun i => (i.zero, i.size, i.bytes)) = some (some (.string ByteArray.empty), 1, 16) := by kernel_rfl
theorem leavess_take (l : List Nod) (k : Nat) : (leavessQ (l.take k)).length ≤ (leavessQ l).length := by
 induction l generalizing k with
 | nil => simp [leavessQ]
 | cons n l ih =>
  cases k with
  | zero => simp [leavessQ]
  | succ k =>
   have := ih k
   simp only [List.take_succ_cons, leavessQ, List.length_append]
   omega
theorem leaves_is (t : Nod) : leavesQ t = (if t.op = sFrom then [t.tx] else []) ++ leavessQ t.ks := by
 cases t with
 | mk o x ks => exact leavesQ.eq_1 o x ks
theorem leavess_mem {x : Nod} : ∀ {l : List Nod}, x ∈ l → (leavesQ x).length ≤ (leavessQ l).length
 | [], h => absurd h (by simp)
 | t :: l, h => by
  simp only [leavessQ, List.length_append]
  rcases List.mem_cons.1 h with rfl | h
  ·omega
  ·have := leavess_mem h
   omega
end Go.Proofs.YtjbpkpfmgbhlpaaGreatDoor.Code
