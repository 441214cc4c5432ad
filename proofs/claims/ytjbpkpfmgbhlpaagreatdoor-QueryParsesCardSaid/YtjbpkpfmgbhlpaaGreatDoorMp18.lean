/-
  A node of a binary operator is written as it should: all operators by one theorem.
-/
import Derived.Test.YtjbpkpfmgbhlpaaGreatDoorMp17
import Derived.Test.YtjbpkpfmgbhlpaaGreatDoorMp16
import Derived.Deep.RegionHeld3
import Derived.Test.YtjbpkpfmgbhlpaaGreatDoorMp14
import Derived.Test.YtjbpkpfmgbhlpaaGreatDoorMp13
set_option maxRecDepth 100000
set_option maxHeartbeats 16000000
open Go.Lib (hid)
namespace Go.Proofs.YtjbpkpfmgbhlpaaGreatDoor.Code
open Go.ChangeShapes Go.WideShapes Go.ChangeAt Go.RowKit Val Elems
set_option linter.unusedVariables false
set_option linter.unusedSimpArgs false
theorem lit_no {op : ByteArray} {s : List UInt8} (h : op.data.toList ≠ s) : (op.toList == s) = false := by
 rw [ByteArray.toList_eq]
 simpa using h
theorem enodeE_two {b mb : Nat} {m : Int} (ot : List UInt8) (lv l0 l1 : Int) (hr : rE ot [] 2 = some (lv, [l0, l1], false)) (hol : ot.length ≤ 10) (hx : ot ∉ [sText, sNum, sCol, sTrue, sFalse, sNull, sNeg, sNot, sIsNull]) (x y : Nod) (ih : NdE b mb m x) (ih2 : NdE b mb m y) : NdE b mb m (.mk ot [] [x, y]) := by
 intro S op tx X n k bs w h hS hn ht hl
 have hbl := h.lt
 have hxt : x.tot ≤ 100000 := by simp only [Nod.tot, Nod.totL] at ht; omega
 have hyt : y.tot ≤ 100000 := by simp only [Nod.tot, Nod.totL] at ht; omega
 have hsh : showE (.mk ot [] [x, y]) = kdE l0 (showE x, lvE x) ++ (32 :: (ot ++ [32])) ++ kdE l1 (showE y, lvE y) := by rw [showE_good hr]; rfl
 rw [hsh] at hl ⊢
 clear hsh
 obtain ⟨s, hs⟩ : ∃ s, kdE l0 (showE x, lvE x) = s := ⟨_, rfl⟩
 have HKS := hid hs
 rw [hs] at hl ⊢
 clear hs
 obtain ⟨s', hs⟩ : ∃ s, kdE l1 (showE y, lvE y) = s := ⟨_, rfl⟩
 have HKT := hid hs
 rw [hs] at hl ⊢
 clear hs
 have hR := fun (w' : World) (hb : Below w.heap.size w w') => (show Calls Tryz.prog 147 #[.pointer (some ⟨b, 0, none⟩), .agg #[.string op, .string tx, .slice X n k]] w' (FRule w' b (rE ot [] 2)) from ruleN (h.below hb) ht (hn.kp hS (hb.mono (Nat.le_of_lt hbl))))
 rw [hr] at hR
 unfold FRule at hR
 dsimp only [List.length_cons, List.length_nil] at hR
 rw [show (0 : Nat) + 1 + 1 = 2 from rfl] at hR
 obtain ⟨e1, e2, e3, -⟩ := hn.texts
 dsimp only at e1 e2 e3
 have hop : op.data.toList = ot := by rw [e1]; rfl
 simp only [List.mem_cons, List.not_mem_nil, or_false, not_or] at hx
 obtain ⟨n1, n2, n3, n4, n5, n6, n7, n8, n9⟩ := hx
 rw [← hop] at n1 n2 n3 n4 n5 n6 n7 n8 n9
 have g1 := lit_no n1
 have g2 := lit_no n2
 have g3 := lit_no n3
 have g4 := lit_no n4
 have g5 := lit_no n5
 have g6 := lit_no n6
 have g7 := lit_no n7
 have g8 := lit_no n8
 have g9 := lit_no n9
 unfold sText at g1
 unfold sNum at g2
 unfold sCol at g3
 unfold sTrue at g4
 unfold sFalse at g5
 unfold sNull at g6
 unfold sNeg at g7
 unfold sNot at g8
 unfold sIsNull at g9
 have hos : op.size = ot.length := by rw [← hop, Array.length_toList]; rfl
 have HOP := hid hop
 have HOS := hid hos
 have hadd1 : ∀ w, (Op.stringOp .add ⟨#[32]⟩ op).run Tryz.prog w = .ok (.string (⟨#[32]⟩ ++ op)) w := fun w => run_string_add_sum w _ _ (by show 1 + op.size ≤ _; omega)
 have hadd2 : ∀ w, (Op.stringOp .add (⟨#[32]⟩ ++ op) ⟨#[32]⟩).run Tryz.prog w = .ok (.string (⟨#[32]⟩ ++ op ++ ⟨#[32]⟩)) w := fun w => run_string_add_sum w _ _ (by rw [ByteArray.size_append]; show 1 + op.size + 1 ≤ _; omega)
 clear e1 hop n1 n2 n3 n4 n5 n6 n7 n8 n9 hos
 obtain rfl : tx = ⟨#[]⟩ := e2
 obtain rfl : n = 2 := e3
 obtain ⟨tb, htb⟩ : ∃ q, false = q := ⟨_, rfl⟩
 rw [htb] at hR
 clear htb
 have HR := hid hR
 have HH := hid h
 have HN := hid hn
 have HS := hid hS
 have HT := hid ht
 clear hR h hn hS hr ht
 have hW := fun (bs' : List UInt8) (s : ByteArray) (w' : World) (h' : Wr w' b mb bs') (hl' : bs'.length + s.size ≤ 1000000) => ewrite_any b mb bs' s w' h' hl'
 have HW := hid hW
 clear hW
 go_enter Tryz.func135, Tryz.ntmps135
 obtain ⟨w0, hw0⟩ : ∃ w0, w.alloc (.cells #[.string op, .string ⟨#[]⟩, .slice X 2 k] 25) = w0 := ⟨_, rfl⟩
 have B0 := hid (show Below w.heap.size w w0 by rw [← hw0]; exact below_alloc w _)
 have X0 := hid (show HB w0 w.heap.size #[.string op, .string ⟨#[]⟩, .slice X 2 k] 25 by rw [← hw0]; exact HB.fresh w _ _)
 have x0 : w0.cell? ⟨w.heap.size, 0, none⟩ = some (.string op) := X0.out.cell 0
 have x1 : w0.cell? ⟨w.heap.size, 1, none⟩ = some (.string ⟨#[]⟩) := X0.out.cell 1
 have x2 : w0.cell? ⟨w.heap.size, 2, none⟩ = some (.slice X 2 k) := X0.out.cell 2
 go_wp2_with fail
 try rw [hw0]
 refine (HR.out _ B0.out).mono ?_
 rintro e w1 ⟨Y, d, rfl, hY, hb1⟩
 have hz0 : w.heap.size < w0.heap.size := by rw [← hw0]; simp
 have z1 := hb1.size
 have hbz : b < w1.heap.size := by omega
 obtain ⟨W1, hW1⟩ : ∃ W1, w1.alloc (.cells #[.int .i64 lv, .slice Y 2 d, .bool tb] 150) = W1 := ⟨_, rfl⟩
 have B1 := hid (show Below w.heap.size w W1 by rw [← hW1]; exact (bnext B0.out B0.out.size hb1).alloc (by omega) _)
 have RV := hid (show HB W1 w1.heap.size #[.int .i64 lv, .slice Y 2 d, .bool tb] 150 by rw [← hW1]; exact HB.fresh w1 _ _)
 have LV := hid (show LvAt W1 b [l0, l1] Y by rw [← hW1]; exact hY.below ((bnext (Below.refl _ _) (Nat.le_refl _) hb1).mono (by omega) |>.trans ((below_alloc w1 _).mono (by omega))))
 have T1 := hid (show ESt b mb m w S (.mk ot [] [x, y]) op op ⟨#[]⟩ X 2 k w.heap.size bs W1 from
  ⟨HH.out.below B1.out, by rw [← hW1]; exact (X0.out.below hb1).alloc _, HN.out.kp HS.out (B1.out.mono (by omega)), (Kp.refl b w).next (by omega) B1.out⟩)
 have q0 : W1.cell? ⟨w.heap.size, 0, none⟩ = some (.string op) := T1.out.box.cell 0
 have q1 : W1.cell? ⟨w.heap.size, 1, none⟩ = some (.string ⟨#[]⟩) := T1.out.box.cell 1
 have q2 : W1.cell? ⟨w.heap.size, 2, none⟩ = some (.slice X 2 k) := T1.out.box.cell 2
 have f0 : W1.frozen? ⟨w.heap.size, 0, none⟩ = false := T1.out.box.free 0
 have f1 : W1.frozen? ⟨w.heap.size, 1, none⟩ = false := T1.out.box.free 1
 have q3 : W1.cell? ⟨w1.heap.size, 0, none⟩ = some (.int .i64 lv) := RV.out.cell 0
 have q4 : W1.cell? ⟨w1.heap.size, 1, none⟩ = some (.slice Y 2 d) := RV.out.cell 1
 have q5 : W1.cell? ⟨w1.heap.size, 2, none⟩ = some (.bool tb) := RV.out.cell 2
 clear hY hb1 x0 x1 x2 X0 B0 B1 HR
 clear q1
 obtain ⟨ad, op1, tx1, X1, n1, k1, op2, tx2, X2, n2, k2, rfl, -, hK⟩ := T1.out.kids2 HS.out
 obtain ⟨gl, rfl, hgl, hgb⟩ : ∃ gl, Y = some ⟨gl, 0, none⟩ ∧ gl < b ∧ HB W1 gl #[.int .i64 l0, .int .i64 l1] 147 := by
  rcases LV.out with h | ⟨gl, h1, h2, h3⟩
  ·cases h
  ·exact ⟨gl, h1, h2, h3⟩
 have K0 := hid (fun (w' : World) (hk : Kp b W1 w') => (show (w'.cell? ⟨w.heap.size, 2, none⟩ = some (.slice (some ad) 2 k) ∧ w'.cell? ad = some (.string op1) ∧ w'.cell? ⟨ad.block, ad.off + 1, none⟩ = some (.string tx1) ∧ w'.cell? ⟨ad.block, ad.off + 2, none⟩ = some (.slice X1 n1 k1) ∧ w'.cell? ⟨ad.block, ad.off + 3, none⟩ = some (.string op2) ∧ w'.cell? ⟨ad.block, ad.off + 4, none⟩ = some (.string tx2) ∧ w'.cell? ⟨ad.block, ad.off + 5, none⟩ = some (.slice X2 n2 k2) ∧ w'.cell? ⟨w1.heap.size, 1, none⟩ = some (.slice (some ⟨gl, 0, none⟩) 2 d) ∧ w'.cell? ⟨gl, 0, none⟩ = some (.int .i64 l0) ∧ w'.cell? ⟨gl, 1, none⟩ = some (.int .i64 l1) ∧ w'.cell? ⟨w.heap.size, 0, none⟩ = some (.string op)) ∧ Kp b W1 w' from
  ⟨⟨(T1.out.box.kp hk (by omega) (by decide)).cell 2, (hK w' hk.bl).1.1, (hK w' hk.bl).1.2.1, (hK w' hk.bl).1.2.2.1, (hK w' hk.bl).1.2.2.2.1, (hK w' hk.bl).1.2.2.2.2.1, (hK w' hk.bl).1.2.2.2.2.2, (RV.out.kp hk (by omega) (by decide)).cell 1, ((hk.bl.cell (p := ⟨gl, 0, none⟩) hgl).trans (hgb.cell 0)), ((hk.bl.cell (p := ⟨gl, 1, none⟩) hgl).trans (hgb.cell 1)), (T1.out.box.kp hk (by omega) (by decide)).cell 0⟩, hk⟩))
 have KN := hid (fun (w' : World) (hk : Below b W1 w') => (hK w' hk).2)
 clear hK hgb
 have HKI1 := hid (fun (w' : World) (hb : Below W1.heap.size W1 w') => show Calls Tryz.prog 149 #[.pointer (some ⟨b, 0, none⟩), .agg #[.string op1, .string tx1, .slice X1 n1 k1], .int .i64 l0] w' (fun e w'' => e = .returned (.tuple #[]) ∧ Wr w'' b mb (bs ++ s) ∧ Kp b w' w'') by
  have h := ekidE_any x ih hxt l0 S op1 tx1 X1 n1 k1 (bs) w' (T1.out.has.below hb) HS.out (KN.out _ ((Kp.refl b W1).next (Nat.le_of_lt T1.out.has.lt) hb).bl).1 (by rw [HKS.out]; simp at hl ⊢; omega)
  rw [HKS.out] at h
  exact h)
 go_wp2_with fail
 try rw [hW1]
 go_region_held3 (fun w' => (w'.cell? ⟨w.heap.size, 2, none⟩ = some (.slice (some ad) 2 k) ∧ w'.cell? ad = some (.string op1) ∧ w'.cell? ⟨ad.block, ad.off + 1, none⟩ = some (.string tx1) ∧ w'.cell? ⟨ad.block, ad.off + 2, none⟩ = some (.slice X1 n1 k1) ∧ w'.cell? ⟨ad.block, ad.off + 3, none⟩ = some (.string op2) ∧ w'.cell? ⟨ad.block, ad.off + 4, none⟩ = some (.string tx2) ∧ w'.cell? ⟨ad.block, ad.off + 5, none⟩ = some (.slice X2 n2 k2) ∧ w'.cell? ⟨w1.heap.size, 1, none⟩ = some (.slice (some ⟨gl, 0, none⟩) 2 d) ∧ w'.cell? ⟨gl, 0, none⟩ = some (.int .i64 l0) ∧ w'.cell? ⟨gl, 1, none⟩ = some (.int .i64 l1) ∧ w'.cell? ⟨w.heap.size, 0, none⟩ = some (.string op)) ∧ Kp b W1 w')
  (first | assumption | (exact K0.out _ ((Kp.refl b W1).drew.trans hk5)) | (exact K0.out _ (Kp.refl b W1).drew))
  (first | (go_at_call 149; with_reducible refine (HKI1.out _ ?cv).mono ?_; (case cv => exact Below.drew (Below.refl _ _)); rintro e w5 ⟨rfl, hw5, hk5⟩))
 have T5 := hid (T1.out.next HS.out (by omega) hw5 ((Kp.refl b W1).drew.trans hk5))
 have K5 := hid ((Kp.refl b W1).drew.trans hk5)
 have HW5 := hid (fun (sx : ByteArray) (hsx : sx.data.toList = (32 :: (ot ++ [32]))) (w' : World) (hb : Below w5.heap.size w5 w') => show Calls Tryz.prog 66 #[.pointer (some ⟨b, 1, none⟩), .string sx] w' (fun e w'' => (∃ v, e = .returned v) ∧ Wr w'' b mb (bs ++ s ++ (32 :: (ot ++ [32]))) ∧ Kp b w' w'') by
  have hsz : sx.size = ot.length + 2 := by (have h9 : sx.size = sx.data.toList.length := (by rw [Array.length_toList]; rfl)); (rw [h9, hsx]; simp)
  have h := HW.out (bs ++ s) sx w' (T5.out.has.below hb).wr (by rw [hsz]; simp at hl ⊢; omega)
  rw [hsx] at h
  exact h.mono fun e w'' h => ⟨⟨_, h.1⟩, h.2⟩)
 clear hw5 hk5 HKI1
 go_wp2_with fail
 go_region_held3 (fun w' => (w'.cell? ⟨w.heap.size, 2, none⟩ = some (.slice (some ad) 2 k) ∧ w'.cell? ad = some (.string op1) ∧ w'.cell? ⟨ad.block, ad.off + 1, none⟩ = some (.string tx1) ∧ w'.cell? ⟨ad.block, ad.off + 2, none⟩ = some (.slice X1 n1 k1) ∧ w'.cell? ⟨ad.block, ad.off + 3, none⟩ = some (.string op2) ∧ w'.cell? ⟨ad.block, ad.off + 4, none⟩ = some (.string tx2) ∧ w'.cell? ⟨ad.block, ad.off + 5, none⟩ = some (.slice X2 n2 k2) ∧ w'.cell? ⟨w1.heap.size, 1, none⟩ = some (.slice (some ⟨gl, 0, none⟩) 2 d) ∧ w'.cell? ⟨gl, 0, none⟩ = some (.int .i64 l0) ∧ w'.cell? ⟨gl, 1, none⟩ = some (.int .i64 l1) ∧ w'.cell? ⟨w.heap.size, 0, none⟩ = some (.string op)) ∧ Kp b W1 w')
  (first | assumption | (exact K0.out _ (K5.out.drew.trans hk6)) | (exact K0.out _ K5.out.drew))
  (first | (go_at_call 66; with_reducible refine (HW5.out _ ?ce _ ?cv).mono ?_; (case ce => (rw [ByteArray.data_append, ByteArray.data_append, Array.toList_append, Array.toList_append, HOP.out]; simp)); (case cv => exact Below.drew (Below.refl _ _)); rintro e w6 ⟨⟨v6, rfl⟩, hw6, hk6⟩))
 have T6 := hid (T5.out.next HS.out (by omega) hw6 ((Kp.refl b w5).drew.trans hk6))
 have K6 := hid (K5.out.drew.trans hk6)
 clear hw6 hk6 HW5
 have HKI2 := hid (fun (w' : World) (hb : Below w6.heap.size w6 w') => show Calls Tryz.prog 149 #[.pointer (some ⟨b, 0, none⟩), .agg #[.string op2, .string tx2, .slice X2 n2 k2], .int .i64 l1] w' (fun e w'' => e = .returned (.tuple #[]) ∧ Wr w'' b mb (bs ++ s ++ (32 :: (ot ++ [32])) ++ s') ∧ Kp b w' w'') by
  have h := ekidE_any y ih2 hyt l1 S op2 tx2 X2 n2 k2 (bs ++ s ++ (32 :: (ot ++ [32]))) w' (T6.out.has.below hb) HS.out (KN.out _ (K6.out.next (Nat.le_of_lt T6.out.has.lt) hb).bl).2 (by rw [HKT.out]; simp at hl ⊢; omega)
  rw [HKT.out] at h
  exact h)
 go_wp2_with fail
 try rw [hW1]
 go_region_held3 (fun w' => (w'.cell? ⟨w.heap.size, 2, none⟩ = some (.slice (some ad) 2 k) ∧ w'.cell? ad = some (.string op1) ∧ w'.cell? ⟨ad.block, ad.off + 1, none⟩ = some (.string tx1) ∧ w'.cell? ⟨ad.block, ad.off + 2, none⟩ = some (.slice X1 n1 k1) ∧ w'.cell? ⟨ad.block, ad.off + 3, none⟩ = some (.string op2) ∧ w'.cell? ⟨ad.block, ad.off + 4, none⟩ = some (.string tx2) ∧ w'.cell? ⟨ad.block, ad.off + 5, none⟩ = some (.slice X2 n2 k2) ∧ w'.cell? ⟨w1.heap.size, 1, none⟩ = some (.slice (some ⟨gl, 0, none⟩) 2 d) ∧ w'.cell? ⟨gl, 0, none⟩ = some (.int .i64 l0) ∧ w'.cell? ⟨gl, 1, none⟩ = some (.int .i64 l1) ∧ w'.cell? ⟨w.heap.size, 0, none⟩ = some (.string op)) ∧ Kp b W1 w')
  (first | assumption | (exact K0.out _ (K6.out.drew.trans hk7)) | (exact K0.out _ K6.out.drew))
  (first | (go_at_call 149; with_reducible refine (HKI2.out _ ?cv).mono ?_; (case cv => exact Below.drew (Below.refl _ _)); rintro e w7 ⟨rfl, hw7, hk7⟩))
 have T7 := hid (T6.out.next HS.out (by omega) hw7 ((Kp.refl b w6).drew.trans hk7))
 clear hw7 hk7
 go_wp2
 go_end0
 exact ⟨rfl, by have h := T7.out.has.wr; simpa using h, T7.out.kp⟩
theorem WrAt.far {w : World} {b mb : Nat} {p : Value} {bs : List UInt8} (h : WrAt w b mb p bs) {g : Nat} {cs : Array Value} {t : TypeId} (hb : HB w g cs t) (ht : t ≠ 5) (hg : g ≠ b) (j : Nat) (u : Value) : WrAt (w.setCell ⟨g, j, none⟩ u) b mb p bs := by
 obtain ⟨v, h1, h2, h3⟩ := h
 have hne : v.ownBlock ≠ some g := by
  intro e
  obtain ⟨c, fz, hc⟩ := Lib.ownsRow_kind h2 g e
  have hb' : w.heap[g]? = some (.cells cs t (0, 0)) := hb
  rw [hb'] at hc
  injection hc with hc
  injection hc with _ hc2
  exact ht hc2
 exact ⟨v, h1.far _ hg u, h2.kept (grown_set w g j u) (.inr hne), h3⟩
theorem HasE.far {b mb : Nat} {m : Int} {bs : List UInt8} {w : World} (h : HasE b mb m bs w) {g : Nat} {cs : Array Value} {t : TypeId} (hb : HB w g cs t) (ht : t ≠ 5) (hg : b < g) (j : Nat) (u : Value) : HasE b mb m bs (w.setCell ⟨g, j, none⟩ u) := by
 have hB : Below b w (w.setCell ⟨g, j, none⟩ u) := (Below.refl b w).setCell (Nat.le_of_lt hg) u
 exact ⟨h.wr.elim (fun h => .inl (h.far hb ht (by omega) j u)) (fun h => .inr (h.far hb ht (by omega) j u)), h.ru.below hB, h.ev.below hB⟩
theorem enodeE_num {b mb : Nat} {m : Int} (tv : List UInt8) : NdE b mb m (.mk sNum tv []) := by
 intro S op tx X n k bs w h hS hn ht hl
 have hbl := h.lt
 have hsh : showE (.mk sNum tv []) = tv := showE_good (r := (7, [], true)) (by unfold rE; rw [show ruleE sNum = some (7, [], true) by decide]; dsimp only; rw [if_pos ⟨rfl, .inr rfl⟩])
 rw [hsh] at hl ⊢
 clear hsh
 have hr : rE sNum tv 0 = some (7, [], true) := by unfold rE; rw [show ruleE sNum = some (7, [], true) by decide]; dsimp only; rw [if_pos ⟨rfl, .inr rfl⟩]
 have hR := fun (w' : World) (hb : Below w.heap.size w w') => (show Calls Tryz.prog 147 #[.pointer (some ⟨b, 0, none⟩), .agg #[.string op, .string tx, .slice X n k]] w' (FRule w' b (rE sNum tv 0)) from ruleN (h.below hb) ht (hn.kp hS (hb.mono (Nat.le_of_lt hbl))))
 rw [hr] at hR
 unfold FRule at hR
 dsimp only [List.length_cons, List.length_nil] at hR
 obtain ⟨e1, e2, e3, -⟩ := hn.texts
 dsimp only at e1 e2 e3
 obtain rfl : op = ⟨#[110, 117, 109]⟩ := e1
 have HTX := hid (show tx = ⟨tv.toArray⟩ from e2)
 clear e2
 obtain rfl : n = 0 := e3
 have HR := hid hR
 have HH := hid h
 have HN := hid hn
 have HS := hid hS
 have HT := hid ht
 clear hR h hn hS hr ht
 have hW := fun (bs' : List UInt8) (s : ByteArray) (w' : World) (h' : Wr w' b mb bs') (hl' : bs'.length + s.size ≤ 1000000) => ewrite_any b mb bs' s w' h' hl'
 have HW := hid hW
 clear hW
 go_enter Tryz.func135, Tryz.ntmps135
 obtain ⟨w0, hw0⟩ : ∃ w0, w.alloc (.cells #[.string ⟨#[110, 117, 109]⟩, .string tx, .slice X 0 k] 25) = w0 := ⟨_, rfl⟩
 have B0 := hid (show Below w.heap.size w w0 by rw [← hw0]; exact below_alloc w _)
 have X0 := hid (show HB w0 w.heap.size #[.string ⟨#[110, 117, 109]⟩, .string tx, .slice X 0 k] 25 by rw [← hw0]; exact HB.fresh w _ _)
 have x0 : w0.cell? ⟨w.heap.size, 0, none⟩ = some (.string ⟨#[110, 117, 109]⟩) := X0.out.cell 0
 have x1 : w0.cell? ⟨w.heap.size, 1, none⟩ = some (.string tx) := X0.out.cell 1
 have x2 : w0.cell? ⟨w.heap.size, 2, none⟩ = some (.slice X 0 k) := X0.out.cell 2
 go_wp2_with fail
 try rw [hw0]
 refine (HR.out _ B0.out).mono ?_
 rintro e w1 ⟨Y, d, rfl, hY, hb1⟩
 have hz0 : w.heap.size < w0.heap.size := by rw [← hw0]; simp
 have z1 := hb1.size
 have hbz : b < w1.heap.size := by omega
 obtain ⟨W1, hW1⟩ : ∃ W1, w1.alloc (.cells #[.int .i64 7, .slice Y 0 d, .bool true] 150) = W1 := ⟨_, rfl⟩
 have B1 := hid (show Below w.heap.size w W1 by rw [← hW1]; exact (bnext B0.out B0.out.size hb1).alloc (by omega) _)
 have RV := hid (show HB W1 w1.heap.size #[.int .i64 7, .slice Y 0 d, .bool true] 150 by rw [← hW1]; exact HB.fresh w1 _ _)
 have LV := hid (show LvAt W1 b [] Y by rw [← hW1]; exact hY.below ((bnext (Below.refl _ _) (Nat.le_refl _) hb1).mono (by omega) |>.trans ((below_alloc w1 _).mono (by omega))))
 have T1 := hid (show ESt b mb m w S (.mk sNum tv []) ⟨#[110, 117, 109]⟩ ⟨#[110, 117, 109]⟩ tx X 0 k w.heap.size bs W1 from
  ⟨HH.out.below B1.out, by rw [← hW1]; exact (X0.out.below hb1).alloc _, HN.out.kp HS.out (B1.out.mono (by omega)), (Kp.refl b w).next (by omega) B1.out⟩)
 have q0 : W1.cell? ⟨w.heap.size, 0, none⟩ = some (.string ⟨#[110, 117, 109]⟩) := T1.out.box.cell 0
 have q1 : W1.cell? ⟨w.heap.size, 1, none⟩ = some (.string tx) := T1.out.box.cell 1
 have q2 : W1.cell? ⟨w.heap.size, 2, none⟩ = some (.slice X 0 k) := T1.out.box.cell 2
 have f0 : W1.frozen? ⟨w.heap.size, 0, none⟩ = false := T1.out.box.free 0
 have f1 : W1.frozen? ⟨w.heap.size, 1, none⟩ = false := T1.out.box.free 1
 have q3 : W1.cell? ⟨w1.heap.size, 0, none⟩ = some (.int .i64 7) := RV.out.cell 0
 have q4 : W1.cell? ⟨w1.heap.size, 1, none⟩ = some (.slice Y 0 d) := RV.out.cell 1
 have q5 : W1.cell? ⟨w1.heap.size, 2, none⟩ = some (.bool true) := RV.out.cell 2
 clear hY hb1 x0 x1 x2 X0 B0 B1 HR
 clear q2 q3 q4 q5
 obtain ⟨W3, hW3⟩ : ∃ W3, W1.setCell ⟨w.heap.size, 0, none⟩ (.string tx) = W3 := ⟨_, rfl⟩
 have A3 := hid (show HasE b mb m bs W3 by rw [← hW3]; exact T1.out.has.far T1.out.box (by decide) (by omega) 0 _)
 have B3 := hid (show HB W3 w.heap.size #[.string tx, .string tx, .slice X 0 k] 25 by rw [← hW3]; exact (T1.out.box.set 0 _))
 have K3 := hid (show Kp b w W3 by rw [← hW3]; exact T1.out.kp.new _ (Nat.le_refl _) (Nat.le_of_lt hbl) _)
 have KX := hid (fun (w' : World) (hk : Kp b W3 w') => show w'.cell? ⟨w.heap.size, 0, none⟩ = some (.string tx) from (B3.out.kp hk (by omega) (by decide)).cell 0)
 go_wp2_with fail
 try rw [hW1]
 try rw [hW3]
 go_region_held3 (fun w' => (w'.cell? ⟨w.heap.size, 0, none⟩ = some (.string tx)) ∧ Kp b W3 w')
  (first | assumption | (exact ⟨KX.out _ ((Kp.refl b W3).drew.trans hk5), (Kp.refl b W3).drew.trans hk5⟩) | (exact ⟨KX.out _ (Kp.refl b W3).drew, (Kp.refl b W3).drew⟩))
  (first | (go_at_call 66; with_reducible refine (HW.out bs tx _ ?ce ?cl).mono ?_; (case ce => exact (A3.out.below (Below.drew (Below.refl _ _))).wr); (case cl => (have h1 : tx.size = tv.length := by rw [HTX.out]; exact size_list _); (rw [h1]; simp at hl ⊢; omega)); rintro e w5 ⟨rfl, hw5, hk5⟩))
 have A5 := hid (show Wr w5 b mb (bs ++ tv) by have h := hw5; rw [HTX.out] at h; exact h)
 have K5 := hid (K3.out.trans ((Kp.refl b W3).drew.trans hk5))
 clear hw5 hk5
 go_wp2
 go_end0
 exact ⟨rfl, A5.out, K5.out⟩
theorem enodeE_col {b mb : Nat} {m : Int} (tv : List UInt8) : NdE b mb m (.mk sCol tv []) := by
 intro S op tx X n k bs w h hS hn ht hl
 have hbl := h.lt
 have hsh : showE (.mk sCol tv []) = tv := showE_good (r := (7, [], true)) (by unfold rE; rw [show ruleE sCol = some (7, [], true) by decide]; dsimp only; rw [if_pos ⟨rfl, .inr rfl⟩])
 rw [hsh] at hl ⊢
 clear hsh
 have hr : rE sCol tv 0 = some (7, [], true) := by unfold rE; rw [show ruleE sCol = some (7, [], true) by decide]; dsimp only; rw [if_pos ⟨rfl, .inr rfl⟩]
 have hR := fun (w' : World) (hb : Below w.heap.size w w') => (show Calls Tryz.prog 147 #[.pointer (some ⟨b, 0, none⟩), .agg #[.string op, .string tx, .slice X n k]] w' (FRule w' b (rE sCol tv 0)) from ruleN (h.below hb) ht (hn.kp hS (hb.mono (Nat.le_of_lt hbl))))
 rw [hr] at hR
 unfold FRule at hR
 dsimp only [List.length_cons, List.length_nil] at hR
 obtain ⟨e1, e2, e3, -⟩ := hn.texts
 dsimp only at e1 e2 e3
 obtain rfl : op = ⟨#[99, 111, 108]⟩ := e1
 have HTX := hid (show tx = ⟨tv.toArray⟩ from e2)
 clear e2
 obtain rfl : n = 0 := e3
 have HR := hid hR
 have HH := hid h
 have HN := hid hn
 have HS := hid hS
 have HT := hid ht
 clear hR h hn hS hr ht
 have hW := fun (bs' : List UInt8) (s : ByteArray) (w' : World) (h' : Wr w' b mb bs') (hl' : bs'.length + s.size ≤ 1000000) => ewrite_any b mb bs' s w' h' hl'
 have HW := hid hW
 clear hW
 go_enter Tryz.func135, Tryz.ntmps135
 obtain ⟨w0, hw0⟩ : ∃ w0, w.alloc (.cells #[.string ⟨#[99, 111, 108]⟩, .string tx, .slice X 0 k] 25) = w0 := ⟨_, rfl⟩
 have B0 := hid (show Below w.heap.size w w0 by rw [← hw0]; exact below_alloc w _)
 have X0 := hid (show HB w0 w.heap.size #[.string ⟨#[99, 111, 108]⟩, .string tx, .slice X 0 k] 25 by rw [← hw0]; exact HB.fresh w _ _)
 have x0 : w0.cell? ⟨w.heap.size, 0, none⟩ = some (.string ⟨#[99, 111, 108]⟩) := X0.out.cell 0
 have x1 : w0.cell? ⟨w.heap.size, 1, none⟩ = some (.string tx) := X0.out.cell 1
 have x2 : w0.cell? ⟨w.heap.size, 2, none⟩ = some (.slice X 0 k) := X0.out.cell 2
 go_wp2_with fail
 try rw [hw0]
 refine (HR.out _ B0.out).mono ?_
 rintro e w1 ⟨Y, d, rfl, hY, hb1⟩
 have hz0 : w.heap.size < w0.heap.size := by rw [← hw0]; simp
 have z1 := hb1.size
 have hbz : b < w1.heap.size := by omega
 obtain ⟨W1, hW1⟩ : ∃ W1, w1.alloc (.cells #[.int .i64 7, .slice Y 0 d, .bool true] 150) = W1 := ⟨_, rfl⟩
 have B1 := hid (show Below w.heap.size w W1 by rw [← hW1]; exact (bnext B0.out B0.out.size hb1).alloc (by omega) _)
 have RV := hid (show HB W1 w1.heap.size #[.int .i64 7, .slice Y 0 d, .bool true] 150 by rw [← hW1]; exact HB.fresh w1 _ _)
 have LV := hid (show LvAt W1 b [] Y by rw [← hW1]; exact hY.below ((bnext (Below.refl _ _) (Nat.le_refl _) hb1).mono (by omega) |>.trans ((below_alloc w1 _).mono (by omega))))
 have T1 := hid (show ESt b mb m w S (.mk sCol tv []) ⟨#[99, 111, 108]⟩ ⟨#[99, 111, 108]⟩ tx X 0 k w.heap.size bs W1 from
  ⟨HH.out.below B1.out, by rw [← hW1]; exact (X0.out.below hb1).alloc _, HN.out.kp HS.out (B1.out.mono (by omega)), (Kp.refl b w).next (by omega) B1.out⟩)
 have q0 : W1.cell? ⟨w.heap.size, 0, none⟩ = some (.string ⟨#[99, 111, 108]⟩) := T1.out.box.cell 0
 have q1 : W1.cell? ⟨w.heap.size, 1, none⟩ = some (.string tx) := T1.out.box.cell 1
 have q2 : W1.cell? ⟨w.heap.size, 2, none⟩ = some (.slice X 0 k) := T1.out.box.cell 2
 have f0 : W1.frozen? ⟨w.heap.size, 0, none⟩ = false := T1.out.box.free 0
 have f1 : W1.frozen? ⟨w.heap.size, 1, none⟩ = false := T1.out.box.free 1
 have q3 : W1.cell? ⟨w1.heap.size, 0, none⟩ = some (.int .i64 7) := RV.out.cell 0
 have q4 : W1.cell? ⟨w1.heap.size, 1, none⟩ = some (.slice Y 0 d) := RV.out.cell 1
 have q5 : W1.cell? ⟨w1.heap.size, 2, none⟩ = some (.bool true) := RV.out.cell 2
 clear hY hb1 x0 x1 x2 X0 B0 B1 HR
 clear q2 q3 q4 q5
 obtain ⟨W3, hW3⟩ : ∃ W3, W1.setCell ⟨w.heap.size, 0, none⟩ (.string tx) = W3 := ⟨_, rfl⟩
 have A3 := hid (show HasE b mb m bs W3 by rw [← hW3]; exact T1.out.has.far T1.out.box (by decide) (by omega) 0 _)
 have B3 := hid (show HB W3 w.heap.size #[.string tx, .string tx, .slice X 0 k] 25 by rw [← hW3]; exact (T1.out.box.set 0 _))
 have K3 := hid (show Kp b w W3 by rw [← hW3]; exact T1.out.kp.new _ (Nat.le_refl _) (Nat.le_of_lt hbl) _)
 have KX := hid (fun (w' : World) (hk : Kp b W3 w') => show w'.cell? ⟨w.heap.size, 0, none⟩ = some (.string tx) from (B3.out.kp hk (by omega) (by decide)).cell 0)
 go_wp2_with fail
 try rw [hW1]
 try rw [hW3]
 go_region_held3 (fun w' => (w'.cell? ⟨w.heap.size, 0, none⟩ = some (.string tx)) ∧ Kp b W3 w')
  (first | assumption | (exact ⟨KX.out _ ((Kp.refl b W3).drew.trans hk5), (Kp.refl b W3).drew.trans hk5⟩) | (exact ⟨KX.out _ (Kp.refl b W3).drew, (Kp.refl b W3).drew⟩))
  (first | (go_at_call 66; with_reducible refine (HW.out bs tx _ ?ce ?cl).mono ?_; (case ce => exact (A3.out.below (Below.drew (Below.refl _ _))).wr); (case cl => (have h1 : tx.size = tv.length := by rw [HTX.out]; exact size_list _); (rw [h1]; simp at hl ⊢; omega)); rintro e w5 ⟨rfl, hw5, hk5⟩))
 have A5 := hid (show Wr w5 b mb (bs ++ tv) by have h := hw5; rw [HTX.out] at h; exact h)
 have K5 := hid (K3.out.trans ((Kp.refl b W3).drew.trans hk5))
 clear hw5 hk5
 go_wp2
 go_end0
 exact ⟨rfl, A5.out, K5.out⟩
end Go.Proofs.YtjbpkpfmgbhlpaaGreatDoor.Code
/-
  The expression in the live question of layer 10 is shown as it should.
-/
namespace Go.Proofs.YtjbpkpfmgbhlpaaGreatDoor.Code
open Go.ChangeShapes Go.WideShapes Go.ChangeAt Go.RowKit Val Elems
set_option linter.unusedVariables false
def aliveE : Nod := .mk [60] [] [.mk sCol [97] [], .mk sNum [51] []]
theorem eshow_alive : EShows aliveE := eshow_of _ fun b mb m => enodeE_two [60] _ _ _ rfl (by decide) (by decide) _ _ (enodeE_col [97]) (enodeE_num [51])
theorem alive_exprs : ∀ x ∈ exprsOf aliveQT, EShows x := by
 have h : exprsOf aliveQT = [aliveE] := by kernel_rfl
 rw [h]
 intro x hx
 obtain rfl := List.mem_singleton.1 hx
 exact eshow_alive
end Go.Proofs.YtjbpkpfmgbhlpaaGreatDoor.Code
/-
  The program's isName, name, column, nothing: is a word a name, its node.
-/
namespace Go.Proofs.YtjbpkpfmgbhlpaaGreatDoor.Code
open Go.ChangeShapes Go.WideShapes Go.ChangeAt Go.RowKit Val Elems
set_option linter.unusedVariables false
set_option linter.unusedSimpArgs false
theorem pisname_kind (k p : Int) (T : ByteArray) (w : World) (hk : k ≠ 0) :
  Calls Tryz.prog 95 #[.agg #[.int .i64 k, .string T, .int .i64 p]] w fun e w' => e = .returned (.bool false) ∧ Below w.heap.size w w' := by
 have e1 : (k == 0) = false := by simpa using hk
 go_enter Tryz.func95, Tryz.ntmps95
 go_wp2
 go_ret
 exact ⟨rfl, below_alloc w _⟩
theorem pisname_own (p : Int) (T : ByteArray) (w : World) (ho : ownL T.data.toList = true) :
  Calls Tryz.prog 95 #[.agg #[.int .i64 0, .string T, .int .i64 p]] w fun e w' => e = .returned (.bool false) ∧ Below w.heap.size w w' := by
 have HO := hid (fun w => own_any T w)
 rw [show ownB T.toList = true by rw [ByteArray.toList_eq]; exact ho] at HO
 clear ho
 go_enter Tryz.func95, Tryz.ntmps95
 go_wp2_with fail
 refine (HO.out _).mono ?_
 rintro e w1 ⟨rfl, rfl⟩
 go_wp2
 go_ret
 exact ⟨rfl, below_alloc w _⟩
theorem pisname_yes (p : Int) (T : ByteArray) (m : Int) (w : World) (hf : firstL T.data.toList = some (0, T.data.toList, T.data.toList.length)) (ht : T.size ≤ 4194304) (ho : ownL T.data.toList = false) (hg : Env w.heap.size m w) :
  Calls Tryz.prog 95 #[.agg #[.int .i64 0, .string T, .int .i64 p]] w fun e w' => e = .returned (.bool true) ∧ Below w.heap.size w w' := by
 have hw := words_good (words_alone (k := 0) (t := T.data.toList) hf 0)
 rw [show showW 0 T.data.toList = T.data.toList from rfl] at hw
 have HO := hid (fun w => own_any T w)
 rw [show ownB T.toList = false by rw [ByteArray.toList_eq]; exact ho] at HO
 have HW := hid (fun w0 hm => (words_any T m w0 ht hm).mono (R' := fun e w' => ∃ (A : Option Addr) (cap : Nat), e = .returned (.tuple #[.slice A 1 cap, .int .i64 0, .int .i64 0]) ∧ At wc 3 w' w'.heap.size A [(0, T.data.toList, 0)] ∧ Below w0.heap.size w0 w') (by
  rintro e w' ⟨A, cap, he, hv, hb⟩
  rw [hw.1] at hv
  refine ⟨A, cap, ?_, hv, hb⟩
  rw [he, hw.1, hw.2.1, hw.2.2]
  rfl))
 have HG := hid hg
 clear hg hw hf ho ht
 go_enter Tryz.func95, Tryz.ntmps95
 go_wp2_with fail
 refine (HO.out _).mono ?_
 rintro e w1 ⟨rfl, rfl⟩
 obtain ⟨W0, hW0⟩ : ∃ W0, w.alloc (.cells #[.int .i64 0, .string T, .int .i64 p] 48) = W0 := ⟨_, rfl⟩
 have L0 := hid (show Below w.heap.size w W0 by rw [← hW0]; exact below_alloc w _)
 have N0 := hid (show NBox W0 w.heap.size (.int .i64 0) (.string T) (.int .i64 p) by rw [← hW0]; exact NBox.fresh w _ _ _ _)
 obtain ⟨x0, x1, x2, xf⟩ := N0.out
 try rw [hW0]
 go_wp2_with fail
 try rw [hW0]
 refine (HW.out _ (HG.out.next L0.out).gl.cell).mono ?_
 rintro e w3 ⟨A, cap', rfl, hv, hb3⟩
 have L3 := hid (bnext L0.out L0.out.size hb3)
 have N3 := hid (N0.out.below hb3)
 clear x0 x1 x2 xf
 obtain ⟨x0, x1, x2, xf⟩ := N3.out
 obtain ⟨ad, rfl, ha, d0, d1, d2⟩ := at_word hv 0 (by simp)
 rw [Nat.zero_mul] at d0 d1 d2
 have e0 : ad.add 0 = ad := by cases ad; simp [Addr.add]
 rw [e0] at d0 d1 d2
 dsimp only [List.getElem_cons_zero] at d0 d1 d2
 rw [Lib.mk_data] at d1
 clear hb3 hv d2
 go_wp2
 go_quiet (fail)
 go_wp2
 go_ret
 exact ⟨rfl, drewN_below L3.out _⟩
theorem pisname_none (m : Int) (w : World) (hg : Env w.heap.size m w) :
  Calls Tryz.prog 95 #[.agg #[.int .i64 0, .string ⟨#[]⟩, .int .i64 0]] w fun e w' => e = .returned (.bool false) ∧ Below w.heap.size w w' := by
 have hw := words_good (s := []) (l := []) rfl
 have HO := hid (fun w => own_any ⟨#[]⟩ w)
 rw [show ownB (⟨#[]⟩ : ByteArray).toList = false by rw [ByteArray.toList_eq]; rfl] at HO
 have HW := hid (fun w0 hm => (words_any ⟨#[]⟩ m w0 (by decide) hm).mono (R' := fun e w' => ∃ (A : Option Addr) (cap : Nat), e = .returned (.tuple #[.slice A 0 cap, .int .i64 0, .int .i64 0]) ∧ Below w0.heap.size w0 w') (by
  rintro e w' ⟨A, cap, he, hv, hb⟩
  refine ⟨A, cap, ?_, hb⟩
  rw [he, show (⟨#[]⟩ : ByteArray).data.toList = [] from rfl, hw.1, hw.2.1, hw.2.2]
  rfl))
 have HG := hid hg
 clear hg hw
 go_enter Tryz.func95, Tryz.ntmps95
 go_wp2_with fail
 refine (HO.out _).mono ?_
 rintro e w1 ⟨rfl, rfl⟩
 obtain ⟨W0, hW0⟩ : ∃ W0, w.alloc (.cells #[.int .i64 0, .string ⟨#[]⟩, .int .i64 0] 48) = W0 := ⟨_, rfl⟩
 have L0 := hid (show Below w.heap.size w W0 by rw [← hW0]; exact below_alloc w _)
 have N0 := hid (show NBox W0 w.heap.size (.int .i64 0) (.string ⟨#[]⟩) (.int .i64 0) by rw [← hW0]; exact NBox.fresh w _ _ _ _)
 obtain ⟨x0, x1, x2, xf⟩ := N0.out
 try rw [hW0]
 go_wp2_with fail
 try rw [hW0]
 refine (HW.out _ (HG.out.next L0.out).gl.cell).mono ?_
 rintro e w3 ⟨A, cap', rfl, hb3⟩
 have L3 := hid (bnext L0.out L0.out.size hb3)
 clear hb3 x0 x1 x2 xf
 go_wp2
 refine wp_region_quiet_lit (by kernel_rfl) (by kernel_rfl) ?_
 repeat (with_reducible refine wpQuiet_step ?_; intro K hK; go_simp; with_reducible refine hK _ ?_; clear hK K)
 refine wpQuiet_nil ?_
 intro _ hw'
 obtain ⟨nq, hw''⟩ := hw'
 subst hw''
 go_wp2
 go_ret
 exact ⟨rfl, drewN_below L3.out _⟩
section
variable {r : Nat} {m : Int} {A : Option Addr} {cap : Nat} {l : List W} {qb qa : Nat}
theorem pisname_any (hg : Good l) (i : Nat) (w : World) (he : Env w.heap.size m w) :
  Calls Tryz.prog 95 #[wv (wd l i)] w fun e w' => e = .returned (.bool (nmOk (bare l) i)) ∧ Below w.heap.size w w' := by
 unfold nmOk wv
 by_cases hil : i < l.length
 ·have hc := hg.came l[i] (List.getElem_mem hil)
  have hft := hg.fit l[i] (List.getElem_mem hil)
  rw [isK_in hil, txt_in hil, wd_in hil]
  obtain ⟨v, hv⟩ : ∃ v, l[i] = v := ⟨_, rfl⟩
  rw [hv] at hc hft ⊢
  obtain ⟨k, t, p⟩ := v
  obtain ⟨T, rfl⟩ : ∃ T : ByteArray, t = T.data.toList := ⟨⟨t.toArray⟩, rfl⟩
  have hT : (⟨T.data.toList.toArray⟩ : ByteArray) = T := Lib.mk_data T
  have hts : T.size ≤ 4194304 := hft
  dsimp only at hc ⊢
  rw [hT]
  by_cases hk : k = 0
  ·subst hk
   cases ho : ownL T.data.toList with
   | true => exact pisname_own p T w ho
   | false => exact pisname_yes p T m w hc hts ho he
  ·have e1 : (k == 0) = false := by simpa using hk
   rw [e1]
   exact pisname_kind k p T w hk
 ·rw [isK_out hil, wd_out hil]
  exact pisname_none m w he
structure But2 (w w' : World) (r g : Nat) : Prop where
 os : w'.os = w.os
 tape : w'.tape = w.tape
 output : w'.output = w.output
 size : w.heap.size ≤ w'.heap.size
 block : ∀ k, k < w.heap.size → k ≠ r → k ≠ g → w'.heap[k]? = w.heap[k]?
theorem But2.one {w w' : World} {r : Nat} (h : But2 w w' r r) : But w w' r := ⟨h.os, h.tape, h.output, h.size, fun k hk hn => h.block k hk hn hn⟩
theorem But.two {w w' : World} {r : Nat} (h : But w w' r) (g : Nat) : But2 w w' r g := ⟨h.os, h.tape, h.output, h.size, fun k hk hn _ => h.block k hk hn⟩
theorem But2.trans {w w1 w2 : World} {r g : Nat} (h : But2 w w1 r g) (k : But2 w1 w2 r g) : But2 w w2 r g :=
 ⟨k.os.trans h.os, k.tape.trans h.tape, k.output.trans h.output, Nat.le_trans h.size k.size, fun j hj hr hg => (k.block j (Nat.lt_of_lt_of_le hj h.size) hr hg).trans (h.block j hj hr hg)⟩
theorem But2.new {w w1 : World} {r g : Nat} (h : But2 w w1 r g) (p : Addr) (hp : w.heap.size ≤ p.block) (u : Value) : But2 w (w1.setCell p u) r g :=
 ⟨h.os, h.tape, h.output, by simpa using h.size, fun k hk hb hg => (Below.heap_setCell w1 p u k (by omega)).trans (h.block k hk hb hg)⟩
theorem But2.cell {w w' : World} {r g : Nat} (h : But2 w w' r g) {q : Addr} (hq : q.block < w.heap.size) (hn : q.block ≠ r) (hg : q.block ≠ g) : w'.cell? q = w.cell? q := by
 unfold World.cell?
 rw [h.block _ hq hn hg]
theorem But2.frozen {w w' : World} {r g : Nat} (h : But2 w w' r g) {q : Addr} (hq : q.block < w.heap.size) (hn : q.block ≠ r) (hg : q.block ≠ g) : w'.frozen? q = w.frozen? q := by
 unfold World.frozen?
 rw [h.block _ hq hn hg]
def GiveN (r : Nat) (m : Int) (A : Option Addr) (cap : Nat) (l : List W) (qb qa : Nat) (w : World) (res : Res) (e : Ending) (w' : World) : Prop :=
 ∃ (op tx : ByteArray) (X : Option Addr) (n k : Nat), e = .returned (.tuple #[.agg #[.string op, .string tx, .slice X n k], .bool (!res.2.2)]) ∧ (res.2.2 = false → RIn w' (New w w') res.1 (op, tx, X, n, k)) ∧ But w w' r ∧ Rq w' r m A cap l qb qa res.2.1
theorem GiveN.sim {w w' : World} {res res' : Res} {e : Ending} (h : GiveN r m A cap l qb qa w res e w') (hs : Sim res res') : GiveN r m A cap l qb qa w res' e w' := by
 obtain ⟨op, tx, X, n, k, he, hn, hb, hr⟩ := h
 obtain ⟨h1, h2⟩ := hs
 rw [h1] at he hn hr
 exact ⟨op, tx, X, n, k, he, fun e => by rw [← h2 (by rw [h1]; exact e)]; exact hn e, hb, hr⟩
theorem Rq.w3 {w : World} {i : Nat} (h : Rq w r m A cap l qb qa i) {g : Nat} (hp : r < g) (hq : g ≠ qb) (ha : g ≠ qa) (x y z : Value) : Rq (W3 w g x y z) r m A cap l qb qa i := ((h.new ⟨g, 0, none⟩ hp hq ha _).new ⟨g, 1, none⟩ hp hq ha _).new ⟨g, 2, none⟩ hp hq ha _
theorem giveN_ret {w w3 : World} {T : Nod} {j : Nat} {b : Bool} {op tx : ByteArray} {X : Option Addr} {n k : Nat} (hn : b = false → RIn w3 (fun g => w.heap.size < g ∧ g < w3.heap.size) T (op, tx, X, n, k)) (hb : But w w3 r) (hr : Rq w3 r m A cap l qb qa j) (hrl : r < w.heap.size) (hq : qb < w.heap.size) (ha : qa < w.heap.size) :
  GiveN r m A cap l qb qa w (T, j, b) (.returned (.tuple #[.agg #[.string op, .string tx, .slice X n k], .bool (!b)])) (W3 w3 w.heap.size (.string op) (.string tx) (.slice X n k)) :=
 ⟨op, tx, X, n, k, rfl, fun e => ((hn e).w3 (g := w.heap.size) (fun h => Nat.lt_irrefl _ h.1) _ _ _).imp (fun g hg => ⟨Nat.le_of_lt hg.1, by show g < (W3 w3 w.heap.size _ _ _).heap.size; rw [W3.size]; exact hg.2⟩), W3.but hb (Nat.le_refl _) _ _ _, hr.w3 hrl (by omega) (by omega) _ _ _⟩
theorem pname_any (hg : Good l) (o : ByteArray) (i : Nat) (w : World) (h : Rq w r m A cap l qb qa i) (hi : i ≤ l.length) :
  Calls Tryz.prog 56 #[.pointer (some ⟨r, 0, none⟩), .string o] w (GiveN r m A cap l qb qa w (nameP (bare l) o.data.toList i)) := by
 have HWD := hid (fun w0 h0 => pword_any i 0 w0 (h := (h0 : Rq w0 r m A cap l qb qa i)) hi hg.len (by decide))
 have HN := hid (fun w0 he => pisname_any (m := m) hg i w0 he)
 have ht : txt (bare l) i = (wd l i).2.1 := by
  by_cases hil : i < l.length
  ·rw [txt_in hil, wd_in hil]
  ·rw [wd_out hil]; unfold txt; rw [bare_out hil]
 rw [Nat.add_zero] at HWD
 unfold nameP
 obtain ⟨b, hb⟩ : ∃ b, nmOk (bare l) i = b := ⟨_, rfl⟩
 rw [hb] at HN
 rw [hb, ht]
 unfold wv at HWD HN
 obtain ⟨x, hx⟩ : ∃ x, wd l i = x := ⟨_, rfl⟩
 rw [hx] at HWD HN ⊢
 obtain ⟨k, t, p⟩ := x
 dsimp only at HWD HN ⊢
 obtain ⟨T, hT⟩ : ∃ T : ByteArray, ⟨t.toArray⟩ = T := ⟨_, rfl⟩
 obtain rfl : t = T.data.toList := by rw [← hT]
 rw [hT] at HWD HN
 have HR := hid h
 have hrl := h.lt
 have hql := h.ltq
 have hal := h.lta
 have hil : b = true → i < l.length := fun e => by rw [e] at hb; have := (isK_lt (Bool.and_eq_true _ _ ▸ hb).1).1; rw [bare_length] at this; exact this
 have hll := hg.len
 obtain ⟨res, hres⟩ : ∃ res, (if b = true then ((Nod.mk o.data.toList T.data.toList [], i + 1, false) : Res) else (zeroN, i, true)) = res := ⟨_, rfl⟩
 rw [hres]
 have HRS := hid hres
 have HIL := hid hil
 clear h hT hx hg ht hb hres hil
 go_enter Tryz.func56, Tryz.ntmps56
 obtain ⟨w0, hw0, hz0, N0, B0⟩ := made0 w r
 have R0 := hid (show Rq w0 r m A cap l qb qa i by rw [← hw0]; exact HR.out.alloc _)
 go_wp2_with fail
 try rw [hw0]
 refine (HWD.out _ R0.out).mono ?_
 rintro e w1 ⟨rfl, hb1⟩
 have z1 := hb1.size
 have N1 := hid ((N0.out.below hb1).alloc (.cells #[.int .i64 k, .string T, .int .i64 p] 48))
 have B1 := hid ((B0.out.next hb1).alloc (.cells #[.int .i64 k, .string T, .int .i64 p] 48))
 have R1 := hid ((R0.out.below hb1).alloc (.cells #[.int .i64 k, .string T, .int .i64 p] 48))
 have V1 := hid (NBox.fresh w1 (.int .i64 k) (.string T) (.int .i64 p) 48)
 clear hb1
 go_wp2_with fail
 refine (HN.out _ R1.out.rd.env).mono ?_
 rintro e w2 ⟨rfl, hb2⟩
 have z2 : w1.heap.size + 1 ≤ w2.heap.size := by have := hb2.size; simpa using this
 have N2 := hid (N1.out.below hb2)
 have B2 := hid (B1.out.next hb2)
 have R2 := hid (R1.out.below hb2)
 have V2 := hid (V1.out.below hb2)
 clear hb2
 obtain ⟨x0, x1, x2, xf⟩ := N2.out
 obtain ⟨v0, v1, v2, vf⟩ := V2.out
 have zn := N2.out.lt
 have zr := R2.out.lt
 cases b
 ·obtain rfl : res = (zeroN, i, true) := by have := HRS.out; rw [iff'] at this; exact this.symm
  go_wp2
  have Y := N2.out.set (.string ⟨#[]⟩) (.string ⟨#[]⟩) (.slice none 0 0)
  exact bodyPost_ret (v := .tuple #[.agg #[.string ⟨#[]⟩, .string ⟨#[]⟩, .slice none 0 0], .bool (!true)]) (by simp [results, Tryz.results56, go_sem, Y.c0, Y.c1, Y.c2]) rfl
   (giveN_ret (b := true) (fun h => (by cases h)) B2.out R2.out hrl hql hal)
 ·have c1 := R2.out.rd.c1
  have f1 := R2.out.rd.fr 1
  have hil := HIL.out rfl
  have e2 : IntKind.i64.wrap ((i : Int) + 1) = ((i + 1 : Nat) : Int) := by rw [IntKind.wrap_i64]; omega
  obtain ⟨j, hj⟩ : ∃ j, i + 1 = j := ⟨_, rfl⟩
  rw [hj] at e2
  obtain rfl : res = (.mk o.data.toList T.data.toList [], j, false) := by have := HRS.out; rw [ift, hj] at this; exact this.symm
  clear hj hil hi hll
  have N3 := hid (N2.out.but (r := r) (by omega) ((But.refl w2 r).setCell 1 (.int .i64 j)))
  have R3 := hid (R2.out.at j)
  have B3 := hid (B2.out.setCell 1 (.int .i64 j))
  go_wp2
  have Y := N3.out.set (.string o) (.string T) (.slice none 0 0)
  exact bodyPost_ret (v := .tuple #[.agg #[.string o, .string T, .slice none 0 0], .bool (!false)]) (by simp [results, Tryz.results56, go_sem, Y.c0, Y.c1, Y.c2]) rfl
   (giveN_ret (b := false) (fun _ => RIn.leafN _ _ o T) B3.out R3.out hrl hql hal)
end
section
variable {r : Nat} {m : Int} {A : Option Addr} {cap : Nat} {l : List W} {qb qa : Nat}
theorem giveN_pass {w w0 w3 : World} {T : Nod} {b : Bool} {v : NV} (hn : b = false → RIn w3 (New w0 w3) T v) (h0 : w.heap.size < w0.heap.size) : b = false → RIn w3 (fun g => w.heap.size < g ∧ g < w3.heap.size) T v :=
 fun hq => (hn hq).imp (fun g hg => ⟨Nat.lt_of_lt_of_le h0 hg.1, hg.2⟩)
theorem nat_box {w : World} {S : Nat → Prop} {g : Nat} {op tx : ByteArray} {Y : Option Addr} {n k : Nat} (h : NBox w g (.string op) (.string tx) (.slice Y n k)) (hS : S g) : NAt w S (some ⟨g, 0, none⟩) [(op, tx, Y, n, k)] := by
 intro i hi
 obtain rfl : i = 0 := by simp at hi; exact hi
 exact ⟨_, rfl, hS, h.c0, h.c1, h.c2⟩
theorem RIn.opped {w : World} {S : Nat → Prop} {o t : List UInt8} {ks : List Nod} {op tx : ByteArray} {X : Option Addr} {n k : Nat} (h : RIn w S (.mk o t ks) (op, tx, X, n, k)) (p : ByteArray) : RIn w S (.mk p.data.toList t ks) (p, tx, X, n, k) := by
 cases h with
 | mk op tx ks X cap l hl hb hc hat hks =>
  have := RIn.mk (w := w) (S := S) p.data.toList t ks X k l hl hb hc hat hks
  rwa [Lib.mk_data] at this
theorem nodEta (t : Nod) : t = .mk t.op t.tx t.ks := by cases t; rfl
theorem pcolumn_any (hg : Good l) (i : Nat) (w : World) (h : Rq w r m A cap l qb qa i) (hi : i ≤ l.length) :
  Calls Tryz.prog 52 #[.pointer (some ⟨r, 0, none⟩)] w (GiveN r m A cap l qb qa w (nameP (bare l) sCol i)) := by
 obtain ⟨res, hres⟩ : ∃ res, nameP (bare l) sCol i = res := ⟨_, rfl⟩
 have HC := hid (fun w0 (h0 : Rq w0 r m A cap l qb qa i) => pname_any hg ⟨#[99, 111, 108]⟩ i w0 h0 hi)
 rw [show (⟨#[99, 111, 108]⟩ : ByteArray).data.toList = sCol from rfl, hres] at HC
 rw [hres]
 obtain ⟨T, j, b⟩ := res
 have HR := hid h
 have hrl := h.lt
 have hql := h.ltq
 have hal := h.lta
 clear h hres hg
 go_enter Tryz.func52, Tryz.ntmps52
 obtain ⟨w0, hw0, hz0, N0, B0⟩ := made0 w r
 have R0 := hid (show Rq w0 r m A cap l qb qa i by rw [← hw0]; exact HR.out.alloc _)
 go_wp2_with fail
 try rw [hw0]
 refine (HC.out _ R0.out).mono ?_
 rintro e w2 ⟨o1, t1, X, n, k, rfl, hn1, hb1, hr1⟩
 dsimp only at hn1 hr1
 have I2 := hid (giveN_pass (w := w) hn1 (by omega))
 have B2 := hid (B0.out.trans hb1)
 have R2 := hid hr1
 have N2 := hid (N0.out.but (by omega) hb1)
 clear hn1 hb1 hr1
 obtain ⟨x0, x1, x2, xf⟩ := N2.out
 have zn := N2.out.lt
 obtain ⟨q, hq⟩ : ∃ q, (!b) = q := ⟨_, rfl⟩
 go_wp2
 have Y := N2.out.set (.string o1) (.string t1) (.slice X n k)
 exact bodyPost_ret (v := .tuple #[.agg #[.string o1, .string t1, .slice X n k], .bool (!b)]) (by simp [results, Tryz.results52, go_sem, Y.c0, Y.c1, Y.c2, hq]) rfl
  (giveN_ret I2.out B2.out R2.out hrl hql hal)
theorem pnothing_any (i : Nat) (w : World) (h : Rq w r m A cap l qb qa i) :
  Calls Tryz.prog 51 #[.pointer (some ⟨r, 0, none⟩)] w (GiveN r m A cap l qb qa w (noneP (bare l) i)) := by
 have HR := hid h
 have hrl := h.lt
 have hql := h.ltq
 have hal := h.lta
 clear h
 go_enter Tryz.func51, Tryz.ntmps51
 go_wp2
 have Y := NBox.fresh w (.string ⟨#[]⟩) (.string ⟨#[]⟩) (.slice none 0 0) 25
 exact bodyPost_ret (v := .tuple #[.agg #[.string ⟨#[]⟩, .string ⟨#[]⟩, .slice none 0 0], .bool (!false)]) (by simp [results, Tryz.results51, go_sem, Y.c0, Y.c1, Y.c2]) rfl
  ⟨_, _, _, _, _, rfl, fun _ => RIn.leafN _ _ ⟨#[]⟩ ⟨#[]⟩, (But.refl w r).alloc _, HR.out.alloc _⟩
end
end Go.Proofs.YtjbpkpfmgbhlpaaGreatDoor.Code
/-
  The program's reader of queries in plain words reads what the document says: a group, a query.
-/
namespace Go.Proofs.YtjbpkpfmgbhlpaaGreatDoor.Code
open Val
set_option linter.unusedVariables false
section
variable {L : List V} {q : Nat → Bool → Res} {i : Nat}
theorem shut_more {n : Nod} {R R' : Ress} (h : Sim R (shutP L R')) : Sim (n :: R.1, R.2) (shutP L (n :: R'.1, R'.2)) := by
 obtain ⟨h1, h2⟩ := h
 unfold shutP at h1 h2 ⊢
 dsimp only
 split
 ·rename_i hb
  rw [if_pos hb] at h1 h2
  exact ⟨h1, fun e => by rw [h2 e]⟩
 ·rename_i hb
  rw [if_neg hb] at h1 h2
  exact ⟨h1, fun e => by rw [h2 e]⟩
theorem shut_bad {l l' : List Nod} {j : Nat} : Sim (l, j, true) (shutP L (l', j, true)) := ⟨rfl, fun e => by cases e⟩
theorem group_sim (hq : ∀ j c, j ≤ L.length → Ends L.length j c (q j c).2) (hi : i ≤ L.length) (hL : L.length ≤ 4194304) :
  Sim ((q i false).1 :: (tailQ L q sGroup (q i false).2.1 (q i false).2.2).1, (tailQ L q sGroup (q i false).2.1 (q i false).2.2).2) (shutP L (groupP L (fun j => q j false) i)) := by
 have hE := hq i false hi
 have ht : ∀ j b, tailQ L q sGroup j b = groupQ L (mustQ L j b [44]).1 (mustQ L j b [44]).2 := fun j b => by
  unfold tailQ
  rw [if_neg (by decide), if_neg (by decide), if_neg (by decide), if_neg (by decide), if_neg (by decide)]
 unfold groupP groupsP
 rw [ls_first (L.length + 7) (by decide)]
 dsimp only
 rw [show ∀ j, (if 0 < 1 then q j false else if 0 = 1 then firstG L j else aggP L j) = q j false from fun _ => rfl]
 generalize q i false = E at hE ⊢
 obtain ⟨n, j, b⟩ := E
 have hj := hE.2.1
 dsimp only at hj ⊢
 cases b with
 | true =>
  have hw := tail_wrong hq sGroup hj
  rw [ift]
  refine ⟨hw, fun e => ?_⟩
  rw [show ∀ x : List Nod, (x, (tailQ L q sGroup j true).2).2 = (tailQ L q sGroup j true).2 from fun _ => rfl, hw] at e
  cases e
 | false =>
  rw [iff', ht, ls_must (L.length + 6) (by decide) (by decide)]
  cases c : isW L j false [44] with
  | false =>
   have hw := (group_ends (L := L) (i := j) (b := true) hj).2.2 rfl
   rw [must_no c, ifft]
   refine ⟨hw, fun e => ?_⟩
   dsimp only at e
   rw [hw] at e
   cases e
  | true =>
   rw [must_yes c, iftf]
   dsimp only
   rw [show ∀ j, (if 1 < 1 then q j false else if 1 = 1 then firstG L j else aggP L j) = firstG L j from fun _ => rfl]
   have hjl := isW_lt c
   unfold groupQ firstG
   have hs := by_sim (L := L) (j + 1)
   have hB := by_ends (L := L) (i := j + 1) (b := false) (by omega)
   generalize byP L (j + 1) = B at hs ⊢
   generalize byQ L (j + 1) false = B' at hs hB ⊢
   obtain ⟨bn, bj, bb⟩ := B
   obtain ⟨bn', bj', bb'⟩ := B'
   obtain ⟨s1, s2⟩ := hs
   dsimp only at s1 s2 hB ⊢
   cases s1
   have hbj := hB.2.1
   dsimp only at hbj
   cases bb with
   | true =>
    have hw := (agg_ends (L := L) (i := bj) (b := true) hbj).2.2 rfl
    rw [ift]
    dsimp only
    rw [ift]
    generalize aggQ L bj true = G at hw ⊢
    obtain ⟨g1, g2, g3⟩ := G
    cases hw
    rw [loop_wrong]
    exact shut_bad
   | false =>
    rw [iff']
    have hs2 := agg_sim (L := L) bj
    have hG := agg_ends (L := L) (i := bj) (b := false) hbj
    generalize aggP L bj = G at hs2 ⊢
    generalize aggQ L bj false = G' at hs2 hG ⊢
    obtain ⟨gn, gj, gb⟩ := G
    obtain ⟨gn', gj', gb'⟩ := G'
    obtain ⟨t1, t2⟩ := hs2
    dsimp only at t1 t2 hG ⊢
    cases t1
    have hgj := hG.2.1
    dsimp only at hgj
    cases gb with
    | true =>
     rw [loop_wrong, ift]
     exact shut_bad
    | false =>
     rw [iff', loop_fuel (fun j c hj => agg_ends hj) false hgj (L.length + 6) (by omega)]
     have h := ls_loop (L := L) (el := fun k j => if k < 1 then q j false else if k = 1 then firstG L j else aggP L j) (least := 2) (most := many) (fun j c hj => agg_ends hj) (fun k j h => by rw [if_neg (by omega), if_neg (by omega)]; exact agg_sim j) (L.length + 6) 2 gj (by decide) (by decide) (by unfold many; omega) hgj (by omega)
     have e1 := s2 rfl
     have e2 := t2 rfl
     subst e1 e2
     have h3 := shut_more (n := n) (shut_more (n := bn') (shut_more (n := gn') h))
     exact h3
def partG (L : List V) (q : Nat → Res) (o : List UInt8) (i : Nat) : Res := (.mk [] [] (bodyG L q o i).1, (bodyG L q o i).2)
def queryP (L : List V) (q : Nat → Res) (i : Nat) : Res :=
 if (isK L i false 0 && (isW L (i + 1) false [40] && opsQ.contains (txt L i))) = true then callP L (partG L q (txt L i)) i else nameP L sFrom i
theorem body_sim (hq : ∀ j c, j ≤ L.length → Ends L.length j c (q j c).2) (hi : i ≤ L.length) (hL : L.length ≤ 4194304) {o : List UInt8} (ho : o ∈ opsQ) :
  Sim ((q i false).1 :: (tailQ L q o (q i false).2.1 (q i false).2.2).1, (tailQ L q o (q i false).2.1 (q i false).2.2).2) (shutP L (bodyG L (fun j => q j false) o i)) := by
 unfold bodyG
 simp only [opsQ, List.mem_cons, List.not_mem_nil, or_false] at ho
 rcases ho with rfl | rfl | rfl | rfl | rfl | rfl
 ·rw [if_pos rfl]; exact filter_sim hq hi
 ·rw [if_neg (by decide), if_pos rfl]; exact project_sim hq hi hL
 ·rw [if_neg (by decide), if_neg (by decide), if_pos rfl]; exact join_sim hq hi hL
 ·rw [if_neg (by decide), if_neg (by decide), if_neg (by decide), if_pos rfl]; exact union_sim hq hi hL
 ·rw [if_neg (by decide), if_neg (by decide), if_neg (by decide), if_neg (by decide), if_pos rfl]; exact distinct_sim hq hi
 ·rw [if_neg (by decide), if_neg (by decide), if_neg (by decide), if_neg (by decide), if_neg (by decide)]; exact group_sim hq hi hL
theorem isW_mark (k : Nat) (s : List UInt8) (ho : ownL s = false) : isW L k false s = (L[k]? == some (3, s)) := by
 unfold isW
 cases hx : L[k]? with
 | none => rfl
 | some w =>
  obtain ⟨k, t⟩ := w
  rw [ho]
  rw [Bool.eq_iff_iff]
  simp
  constructor
  ·rintro ⟨h1, h2⟩; exact ⟨h2, h1⟩
  ·rintro ⟨h1, h2⟩; exact ⟨h2, h1⟩
theorem op_of : ∀ l : List (List UInt8), opQ L i false l = if (isK L i false 0 && (isW L (i + 1) false [40] && l.contains (txt L i))) = true then txt L i else []
 | [] => by simp [opQ]
 | s :: l => by
  rw [opQ, op_of l]
  unfold wordQ
  rw [isW_mark (i + 1) [40] (by decide)]
  cases hk : isK L i false 0 with
  | false => simp
  | true =>
   cases hm : L[i + 1]? == some (3, [40]) with
   | false => simp
   | true =>
    by_cases e : txt L i = s
    ·rw [e]
     simp
    ·rw [if_neg (by simp [e])]
     have : (s :: l).contains (txt L i) = l.contains (txt L i) := by simp [e]
     rw [this]
theorem call_sim {o : List UInt8} {R R' : Ress} {T : Nat → Res} (hb : isW L (i + 1) false [40] = true) (ho : txt L i = o) (hR' : T (i + 2) = (.mk [] [] R'.1, R'.2)) (h : Sim R (shutP L R')) : Sim (.mk o [] R.1, R.2) (callP L T i) := by
 unfold callP
 rw [hb, iftf, hR']
 obtain ⟨l', j', b'⟩ := R'
 obtain ⟨l, j, b⟩ := R
 obtain ⟨h1, h2⟩ := h
 unfold shutP at h1 h2
 dsimp only [Nod.tx, Nod.ks] at h1 h2 ⊢
 cases b' with
 | true =>
  rw [ift] at h1 h2 ⊢
  cases h1
  exact Sim.bad
 | false =>
  rw [iff'] at h1 h2 ⊢
  cases c : isW L j' false [41] with
  | true =>
   rw [must_yes c] at h1 h2
   cases h1
   rw [ift, ho, h2 rfl]
   exact Sim.refl _
  | false =>
   rw [must_no c] at h1 h2
   cases h1
   rw [iff']
   exact Sim.bad
theorem query_sim (f : Nat) (hi : i ≤ L.length) (hL : L.length ≤ 4194304) : Sim (qq L (f + 1) i false) (queryP L (fun j => qq L f j false) i) := by
 rw [qq]
 unfold queryP
 rw [op_of]
 cases c : (isK L i false 0 && (isW L (i + 1) false [40] && opsQ.contains (txt L i))) with
 | false =>
  rw [iff', iff', if_pos rfl]
  unfold nameP
  cases cn : nmOk L i with
  | false => rw [nm_no cn, iff']; exact Sim.bad
  | true => rw [nm_yes cn, ift]; exact Sim.refl _
 | true =>
  rw [ift, ift]
  simp only [Bool.and_eq_true] at c
  obtain ⟨c1, c2, c3⟩ := c
  have hm : txt L i ∈ opsQ := by simpa using c3
  have hne : txt L i ≠ [] := by intro e; rw [e] at hm; revert hm; decide
  rw [if_neg hne]
  have hil := isW_lt c2
  exact call_sim c2 rfl rfl (body_sim (fun j c hj => qq_ends L f j c hj) (by omega) hL hm)
end
end Go.Proofs.YtjbpkpfmgbhlpaaGreatDoor.Code
