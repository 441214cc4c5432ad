/-
  The query writer's part: an item, an on, a by, an agg.
-/
import Derived.Test.YtjbpkpfmgbhlpaaGreatDoorMs15
import Derived.Test.YtjbpkpfmgbhlpaaGreatDoorMs12
import Derived.Test.YtjbpkpfmgbhlpaaGreatDoorMs4
set_option maxRecDepth 100000
set_option maxHeartbeats 16000000
open Go.Lib (hid)
namespace Go.Proofs.YtjbpkpfmgbhlpaaGreatDoor.Code
open Go.ChangeShapes Go.WideShapes Go.ChangeAt Go.RowKit Val Elems
set_option linter.unusedVariables false
set_option linter.unusedSimpArgs false
structure HasQ (b : Nat) (m : Int) (bs : List UInt8) (w : World) : Prop where
 wr : qWr w b bs
 ev : Env b m w
theorem HasQ.lt {b : Nat} {m : Int} {bs : List UInt8} {w : World} (h : HasQ b m bs w) : b < w.heap.size := h.wr.lt
theorem HasQ.below {b : Nat} {m : Int} {bs : List UInt8} {w w' : World} (h : HasQ b m bs w) (hb : Below w.heap.size w w') : HasQ b m bs w' := ⟨h.wr.below hb, h.ev.below (hb.mono (Nat.le_of_lt h.lt))⟩
theorem HasQ.next {b : Nat} {m : Int} {bs bs' : List UInt8} {w w' : World} (h : HasQ b m bs w) (hw : qWr w' b bs') (hk : Kp b w w') : HasQ b m bs' w' := ⟨hw, h.ev.below hk.bl⟩
def QdP (b : Nat) (bs : List UInt8) (w : World) (e : Ending) (w' : World) : Prop := e = .returned (.tuple #[]) ∧ qWr w' b bs ∧ Kp b w w'
structure KidC (w : World) (S : Nat → Prop) (ad : Addr) (y : NV) (T : Nod) : Prop where
 c0 : w.cell? ad = some (.string y.1)
 c1 : w.cell? ⟨ad.block, ad.off + 1, none⟩ = some (.string y.2.1)
 c2 : w.cell? ⟨ad.block, ad.off + 2, none⟩ = some (.slice y.2.2.1 y.2.2.2.1 y.2.2.2.2)
 ri : RIn w S T y
theorem KidC.kp {w w' : World} {S : Nat → Prop} {ad : Addr} {y : NV} {T : Nod} {b : Nat} (h : KidC w S ad y T) (hS : ∀ g, S g → g < b) (ha : S ad.block) (hb : Below b w w') : KidC w' S ad y T :=
 ⟨(hb.cell (p := ad) (hS _ ha)).trans h.c0, (hb.cell (p := ⟨ad.block, ad.off + 1, none⟩) (hS _ ha)).trans h.c1, (hb.cell (p := ⟨ad.block, ad.off + 2, none⟩) (hS _ ha)).trans h.c2, h.ri.kp hS hb⟩
theorem RIn.kid0 {w : World} {S : Nat → Prop} {t : Nod} {x : NV} (h : RIn w S t x) (hk : 0 < t.ks.length) : ∃ (ad : Addr) (y : NV), x.2.2.1 = some ad ∧ S ad.block ∧ KidC w S ad y (nthN t.ks 0) := by
 obtain ⟨ad, y, e, hs, c0, c1, c2, hr⟩ := h.kid 0 hk
 rw [Nat.zero_mul, show ad.add 0 = ad by simp [Addr.add]] at c0 c1 c2
 have hz : nthN t.ks 0 = t.ks[0] := by unfold nthN; rw [List.getD_eq_getElem?_getD, List.getElem?_eq_getElem hk]; rfl
 rw [← hz] at hr
 exact ⟨ad, y, e, hs, c0, c1, c2, hr⟩
theorem size_of {s : ByteArray} {l : List UInt8} (h : s.data.toList = l) : s.size = l.length := by rw [← h, Array.length_toList]; rfl
theorem tot_ks (t : Nod) : t.tot = 1 + t.op.length + t.tx.length + Nod.totL t.ks := by cases t; rfl
theorem tot_nth (t : Nod) (h : 0 < t.ks.length) : (nthN t.ks 0).tot < t.tot := by
 have hz : nthN t.ks 0 = t.ks[0] := by unfold nthN; rw [List.getD_eq_getElem?_getD, List.getElem?_eq_getElem h]; rfl
 rw [hz, tot_ks t]
 have := tot_mem (List.getElem_mem h)
 omega
theorem qpart_item {b : Nat} {m : Int} (t : Nod) (hE : ∀ x ∈ exprsOf t, EShows x) (ht : t.op = sItem) (h1 : 0 < t.ks.length) (S : Nat → Prop) (op tx : ByteArray) (X : Option Addr) (n k : Nat) (bs : List UInt8) (w : World) (h : HasQ b m bs w) (hS : ∀ g, S g → g < b) (hn : RIn w S t (op, tx, X, n, k)) (htt : t.tot ≤ 100000) (hl : bs.length + (partW t).length ≤ 900000) :
  Calls Tryz.prog 112 #[.pointer (some ⟨b, 0, none⟩), .agg #[.string op, .string tx, .slice X n k]] w (QdP b (bs ++ partW t) w) := by
 have hbl := h.lt
 obtain ⟨eo, et, en, hkl⟩ := hn.texts
 dsimp only at eo et en
 subst en
 obtain rfl : op = ⟨#[105, 116, 101, 109]⟩ := by rw [eo, ht]; rfl
 have hpw : partW t = t.tx ++ [32, 61, 32] ++ (showE (nthN t.ks 0)) := by unfold partW; rw [ht, if_neg (show sItem ≠ sBy by decide), if_pos rfl]
 obtain ⟨T, hT⟩ : ∃ T, nthN t.ks 0 = T := ⟨_, rfl⟩
 have htT := tot_nth t h1
 obtain ⟨ad, ⟨op1, tx1, X1, n1, k1⟩, eA, hSa, hk⟩ := hn.kid0 h1
 dsimp only at eA
 subst eA
 rw [hT] at hk htT hpw
 have eto : op1.data.toList = T.op ∧ tx1.data.toList = T.tx := by
  have h9 := hk.ri.texts
  dsimp only at h9
  rw [h9.1, h9.2.1]
  exact ⟨rfl, rfl⟩
 have HET := hid eto
 obtain ⟨V, hV⟩ : ∃ V, showE T = V := ⟨_, rfl⟩
 have HVV := hid hV
 have HES := hid (show EShows T from hT ▸ hE _ (exprs_item ht))
 have htx : tx.data.toList = t.tx := by rw [et]
 have htz : tx.size = t.tx.length := by rw [et]; exact size_list _
 have HTX := hid htx
 have HTZ := hid htz
 rw [hpw, hV] at hl ⊢
 simp only [List.length_append, List.length_cons, List.length_nil] at hl
 have HTL := hid (show T.tot ≤ 100000 by omega)
 have HKC := hid hk
 have HS := hid hS
 have HHQ := hid h
 have HSA := hid hSa
 have had := hS _ hSa
 have HW := hid (fun (bs' : List UInt8) (s : ByteArray) (w' : World) (h' : qWr w' b bs') (hl' : bs'.length + s.size ≤ 1000000) => qewrite_any b bs' s w' h' hl')
 have hcat : ∀ w, (Op.stringOp .add tx ⟨#[32, 61, 32]⟩).run Tryz.prog w = .ok (.string (tx ++ ⟨#[32, 61, 32]⟩)) w := fun w => run_string_add_sum w _ _ (by show tx.size + 3 ≤ _; omega)
 clear hE hpw hT hV hk h hn hS eo et htx htz eto hSa ht htT
 go_enter Tryz.func112, Tryz.ntmps112
 obtain ⟨w0, hw0⟩ : ∃ w0, w.alloc (.cells #[.string ⟨#[105, 116, 101, 109]⟩, .string tx, .slice (some ad) t.ks.length k] 25) = w0 := ⟨_, rfl⟩
 have B0 := hid (show Below w.heap.size w w0 by rw [← hw0]; exact below_alloc w _)
 have X0 := hid (show HB w0 w.heap.size #[.string ⟨#[105, 116, 101, 109]⟩, .string tx, .slice (some ad) t.ks.length k] 25 by rw [← hw0]; exact HB.fresh w _ _)
 have A0 := hid (HHQ.out.below B0.out)
 have K0 := hid ((Kp.refl b w).next (Nat.le_of_lt hbl) B0.out)
 have KX0 := hid (fun (w' : World) (hk : Kp b w0 w') => (show (w'.cell? ⟨w.heap.size, 1, none⟩ = some (.string tx)) ∧ Kp b w0 w' from ⟨(X0.out.kp hk (by omega) (by decide)).cell 1, hk⟩))
 have x0 : w0.cell? ⟨w.heap.size, 0, none⟩ = some (.string ⟨#[105, 116, 101, 109]⟩) := X0.out.cell 0
 go_wp2_with fail
 try rw [hw0]
 go_region_held3 (fun w' => (w'.cell? ⟨w.heap.size, 1, none⟩ = some (.string tx)) ∧ Kp b w0 w')
  (first | assumption | (exact KX0.out _ ((Kp.refl b w0).drew.trans hk5)) | (exact KX0.out _ (Kp.refl b w0).drew))
  (first | (go_at_call 66; with_reducible refine (HW.out bs (tx ++ ⟨#[32, 61, 32]⟩) _ ?ce ?cl).mono ?_; (case ce => exact (A0.out.below (Below.drew (Below.refl _ _))).wr); (case cl => (have h1 := HTZ.out; simp [ByteArray.size_append]; show _ ≤ _; have h2 : (⟨#[32, 61, 32]⟩ : ByteArray).size = 3 := rfl; omega)); rintro e w5 ⟨rfl, hw5, hk5⟩))
 have A5 := hid (show HasQ b m (bs ++ (t.tx ++ [32, 61, 32])) w5 from A0.out.next (by have h := hw5; rw [ByteArray.data_append, Array.toList_append, HTX.out] at h; exact h) ((Kp.refl b w0).drew.trans hk5))
 have K5 := hid (K0.out.trans ((Kp.refl b w0).drew.trans hk5))
 have X5 := hid (X0.out.kp ((Kp.refl b w0).drew.trans hk5) (by omega) (by decide))
 have C5 := hid (HKC.out.kp HS.out HSA.out K5.out.bl)
 have zb5 : b < w5.heap.size := A5.out.lt
 have zw5 : w.heap.size < w5.heap.size := X5.out.lt
 clear hw5 hk5 x0
 obtain ⟨W6, hW6⟩ : ∃ W6, w5.alloc (.cells #[.string op1, .string tx1, .slice X1 n1 k1] 25) = W6 := ⟨_, rfl⟩
 have X6 := hid (show HB W6 w5.heap.size #[.string op1, .string tx1, .slice X1 n1 k1] 25 by rw [← hW6]; exact HB.fresh w5 _ _)
 have A6 := hid (show HasQ b m (bs ++ (t.tx ++ [32, 61, 32])) W6 by rw [← hW6]; exact A5.out.below (below_alloc w5 _))
 have K6 := hid (show Kp b w W6 by rw [← hW6]; exact K5.out.next (by omega) (below_alloc w5 _))
 have Y6 := hid (show HB W6 w.heap.size #[.string ⟨#[105, 116, 101, 109]⟩, .string tx, .slice (some ad) t.ks.length k] 25 by rw [← hW6]; exact X5.out.alloc _)
 have N6 := hid (HKC.out.ri.kp HS.out K6.out.bl)
 have z6 : b < W6.heap.size := A6.out.lt
 have q0 : w5.cell? ad = some (.string op1) := C5.out.c0
 have q1 : w5.cell? ⟨ad.block, ad.off + 1, none⟩ = some (.string tx1) := C5.out.c1
 have q2 : w5.cell? ⟨ad.block, ad.off + 2, none⟩ = some (.slice X1 n1 k1) := C5.out.c2
 have x2 : w5.cell? ⟨w.heap.size, 2, none⟩ = some (.slice (some ad) t.ks.length k) := X5.out.cell 2
 have HW6 := hid hW6
 clear hW6
 go_upto_region 10 with fail
 rw [HW6.out]
 have y0 : W6.cell? ⟨w.heap.size, 0, none⟩ = some (.string ⟨#[105, 116, 101, 109]⟩) := Y6.out.cell 0
 clear q0 q1 q2 x2
 have HSH := hid (fun (w' : World) (hb : Below W6.heap.size W6 w') => (show Calls Tryz.prog 111 #[.agg #[.string op1, .string tx1, .slice X1 n1 k1]] w' (fun e w'' => e = .returned (.string ⟨V.toArray⟩) ∧ Below w'.heap.size w' w'') by
  have h := HES.out HTL.out (by rw [HVV.out]; omega) m S op1 tx1 X1 n1 k1 w' (A6.out.below hb).ev.at (fun g hg => by have := HS.out g hg; have := hb.size; omega) (N6.out.kp (fun g hg => by have := HS.out g hg; omega) hb)
  rw [HVV.out] at h
  exact h))
 have KX6 := hid (fun (w' : World) (hk : Kp b W6 w') => (show (w'.cell? ⟨w5.heap.size, 0, none⟩ = some (.string op1) ∧ w'.cell? ⟨w5.heap.size, 1, none⟩ = some (.string tx1) ∧ w'.cell? ⟨w5.heap.size, 2, none⟩ = some (.slice X1 n1 k1)) ∧ Kp b W6 w' from ⟨⟨(X6.out.kp hk (by omega) (by decide)).cell 0, (X6.out.kp hk (by omega) (by decide)).cell 1, (X6.out.kp hk (by omega) (by decide)).cell 2⟩, hk⟩))
 go_wp2_with fail
 go_region_held3 (fun w' => (w'.cell? ⟨w5.heap.size, 0, none⟩ = some (.string op1) ∧ w'.cell? ⟨w5.heap.size, 1, none⟩ = some (.string tx1) ∧ w'.cell? ⟨w5.heap.size, 2, none⟩ = some (.slice X1 n1 k1)) ∧ Kp b W6 w')
  (first | assumption | (exact KX6.out _ (((Kp.refl b W6).drew.next (by simp; omega) hb7).trans hk8)) | (exact KX6.out _ ((Kp.refl b W6).drew.next (by simp; omega) hb7)) | (exact KX6.out _ (Kp.refl b W6).drew))
  (first | (go_at_call 111; with_reducible refine (HSH.out _ ?cv).mono ?_; (case cv => exact Below.drew (Below.refl _ _)); rintro e w7 ⟨rfl, hb7⟩) | (go_at_call 66; with_reducible refine (HW.out (bs ++ (t.tx ++ [32, 61, 32])) ⟨V.toArray⟩ _ ?ce ?cl).mono ?_; (case ce => exact ((A6.out.below (Below.drew (Below.refl _ _))).below hb7).wr); (case cl => (rw [size_list]; simp only [List.length_append, List.length_cons, List.length_nil]; omega)); rintro e w8 ⟨rfl, hw8, hk8⟩))
 have K8 := hid (K6.out.trans (((Kp.refl b W6).drew.next (by simp; omega) hb7).trans hk8))
 have A8 := hid (show qWr w8 b (bs ++ (t.tx ++ [32, 61, 32] ++ V)) by have h := hw8; rw [List.append_assoc] at h; exact h)
 clear hw8 hk8 hb7
 go_wp2
 go_end0
 exact ⟨rfl, A8.out, K8.out⟩
theorem qpart_on {b : Nat} {m : Int} (t : Nod) (ht : t.op = sOn) (h1 : 0 < t.ks.length) (S : Nat → Prop) (op tx : ByteArray) (X : Option Addr) (n k : Nat) (bs : List UInt8) (w : World) (h : HasQ b m bs w) (hS : ∀ g, S g → g < b) (hn : RIn w S t (op, tx, X, n, k)) (htt : t.tot ≤ 100000) (hl : bs.length + (partW t).length ≤ 900000) :
  Calls Tryz.prog 112 #[.pointer (some ⟨b, 0, none⟩), .agg #[.string op, .string tx, .slice X n k]] w (QdP b (bs ++ partW t) w) := by
 have hbl := h.lt
 obtain ⟨eo, et, en, hkl⟩ := hn.texts
 dsimp only at eo et en
 subst en
 obtain rfl : op = ⟨#[111, 110]⟩ := by rw [eo, ht]; rfl
 have hpw : partW t = t.tx ++ [32, 61, 32] ++ ((nthN t.ks 0).tx) := by unfold partW; rw [ht, if_neg (show sOn ≠ sBy by decide), if_neg (show sOn ≠ sItem by decide), if_pos rfl]
 obtain ⟨T, hT⟩ : ∃ T, nthN t.ks 0 = T := ⟨_, rfl⟩
 have htT := tot_nth t h1
 obtain ⟨ad, ⟨op1, tx1, X1, n1, k1⟩, eA, hSa, hk⟩ := hn.kid0 h1
 dsimp only at eA
 subst eA
 rw [hT] at hk htT hpw
 have eto : op1.data.toList = T.op ∧ tx1.data.toList = T.tx := by
  have h9 := hk.ri.texts
  dsimp only at h9
  rw [h9.1, h9.2.1]
  exact ⟨rfl, rfl⟩
 have HET := hid eto
 obtain ⟨V, hV⟩ : ∃ V, T.tx = V := ⟨_, rfl⟩
 have HVV := hid hV
 have htx : tx.data.toList = t.tx := by rw [et]
 have htz : tx.size = t.tx.length := by rw [et]; exact size_list _
 have HTX := hid htx
 have HTZ := hid htz
 rw [hpw, hV] at hl ⊢
 simp only [List.length_append, List.length_cons, List.length_nil] at hl
 have HTL := hid (show T.tot ≤ 100000 by omega)
 have HKC := hid hk
 have HS := hid hS
 have HHQ := hid h
 have HSA := hid hSa
 have had := hS _ hSa
 have HW := hid (fun (bs' : List UInt8) (s : ByteArray) (w' : World) (h' : qWr w' b bs') (hl' : bs'.length + s.size ≤ 1000000) => qewrite_any b bs' s w' h' hl')
 have hcat : ∀ w, (Op.stringOp .add tx ⟨#[32, 61, 32]⟩).run Tryz.prog w = .ok (.string (tx ++ ⟨#[32, 61, 32]⟩)) w := fun w => run_string_add_sum w _ _ (by show tx.size + 3 ≤ _; omega)
 clear hpw hT hV hk h hn hS eo et htx htz eto hSa ht htT
 go_enter Tryz.func112, Tryz.ntmps112
 obtain ⟨w0, hw0⟩ : ∃ w0, w.alloc (.cells #[.string ⟨#[111, 110]⟩, .string tx, .slice (some ad) t.ks.length k] 25) = w0 := ⟨_, rfl⟩
 have B0 := hid (show Below w.heap.size w w0 by rw [← hw0]; exact below_alloc w _)
 have X0 := hid (show HB w0 w.heap.size #[.string ⟨#[111, 110]⟩, .string tx, .slice (some ad) t.ks.length k] 25 by rw [← hw0]; exact HB.fresh w _ _)
 have A0 := hid (HHQ.out.below B0.out)
 have K0 := hid ((Kp.refl b w).next (Nat.le_of_lt hbl) B0.out)
 have KX0 := hid (fun (w' : World) (hk : Kp b w0 w') => (show (w'.cell? ⟨w.heap.size, 1, none⟩ = some (.string tx)) ∧ Kp b w0 w' from ⟨(X0.out.kp hk (by omega) (by decide)).cell 1, hk⟩))
 have x0 : w0.cell? ⟨w.heap.size, 0, none⟩ = some (.string ⟨#[111, 110]⟩) := X0.out.cell 0
 go_wp2_with fail
 try rw [hw0]
 go_region_held3 (fun w' => (w'.cell? ⟨w.heap.size, 1, none⟩ = some (.string tx)) ∧ Kp b w0 w')
  (first | assumption | (exact KX0.out _ ((Kp.refl b w0).drew.trans hk5)) | (exact KX0.out _ (Kp.refl b w0).drew))
  (first | (go_at_call 66; with_reducible refine (HW.out bs (tx ++ ⟨#[32, 61, 32]⟩) _ ?ce ?cl).mono ?_; (case ce => exact (A0.out.below (Below.drew (Below.refl _ _))).wr); (case cl => (have h1 := HTZ.out; simp [ByteArray.size_append]; show _ ≤ _; have h2 : (⟨#[32, 61, 32]⟩ : ByteArray).size = 3 := rfl; omega)); rintro e w5 ⟨rfl, hw5, hk5⟩))
 have A5 := hid (show HasQ b m (bs ++ (t.tx ++ [32, 61, 32])) w5 from A0.out.next (by have h := hw5; rw [ByteArray.data_append, Array.toList_append, HTX.out] at h; exact h) ((Kp.refl b w0).drew.trans hk5))
 have K5 := hid (K0.out.trans ((Kp.refl b w0).drew.trans hk5))
 have X5 := hid (X0.out.kp ((Kp.refl b w0).drew.trans hk5) (by omega) (by decide))
 have C5 := hid (HKC.out.kp HS.out HSA.out K5.out.bl)
 have zb5 : b < w5.heap.size := A5.out.lt
 have zw5 : w.heap.size < w5.heap.size := X5.out.lt
 clear hw5 hk5 x0
 obtain ⟨W6, hW6⟩ : ∃ W6, w5.alloc (.cells #[.string op1, .string tx1, .slice X1 n1 k1] 25) = W6 := ⟨_, rfl⟩
 have X6 := hid (show HB W6 w5.heap.size #[.string op1, .string tx1, .slice X1 n1 k1] 25 by rw [← hW6]; exact HB.fresh w5 _ _)
 have A6 := hid (show HasQ b m (bs ++ (t.tx ++ [32, 61, 32])) W6 by rw [← hW6]; exact A5.out.below (below_alloc w5 _))
 have K6 := hid (show Kp b w W6 by rw [← hW6]; exact K5.out.next (by omega) (below_alloc w5 _))
 have Y6 := hid (show HB W6 w.heap.size #[.string ⟨#[111, 110]⟩, .string tx, .slice (some ad) t.ks.length k] 25 by rw [← hW6]; exact X5.out.alloc _)
 have N6 := hid (HKC.out.ri.kp HS.out K6.out.bl)
 have z6 : b < W6.heap.size := A6.out.lt
 have q0 : w5.cell? ad = some (.string op1) := C5.out.c0
 have q1 : w5.cell? ⟨ad.block, ad.off + 1, none⟩ = some (.string tx1) := C5.out.c1
 have q2 : w5.cell? ⟨ad.block, ad.off + 2, none⟩ = some (.slice X1 n1 k1) := C5.out.c2
 have x2 : w5.cell? ⟨w.heap.size, 2, none⟩ = some (.slice (some ad) t.ks.length k) := X5.out.cell 2
 have HW6 := hid hW6
 clear hW6
 go_upto_region 10 with fail
 rw [HW6.out]
 have y0 : W6.cell? ⟨w.heap.size, 0, none⟩ = some (.string ⟨#[111, 110]⟩) := Y6.out.cell 0
 clear q0 q1 q2 x2
 have KX6 := hid (fun (w' : World) (hk : Kp b W6 w') => (show (w'.cell? ⟨w5.heap.size, 1, none⟩ = some (.string tx1)) ∧ Kp b W6 w' from ⟨(X6.out.kp hk (by omega) (by decide)).cell 1, hk⟩))
 go_wp2_with fail
 go_region_held3 (fun w' => (w'.cell? ⟨w5.heap.size, 1, none⟩ = some (.string tx1)) ∧ Kp b W6 w')
  (first | assumption | (exact KX6.out _ ((Kp.refl b W6).drew.trans hk8)) | (exact KX6.out _ (Kp.refl b W6).drew))
  (first | (go_at_call 66; with_reducible refine (HW.out (bs ++ (t.tx ++ [32, 61, 32])) (tx1) _ ?ce ?cl).mono ?_; (case ce => exact (A6.out.below (Below.drew (Below.refl _ _))).wr); (case cl => (have h1 := HET.out.2; have h2 := size_of h1; have h3 := congrArg List.length HVV.out; simp only [List.length_append, List.length_cons, List.length_nil]; omega)); rintro e w8 ⟨rfl, hw8, hk8⟩))
 have K8 := hid (K6.out.trans ((Kp.refl b W6).drew.trans hk8))
 have A8 := hid (show qWr w8 b (bs ++ (t.tx ++ [32, 61, 32] ++ V)) by have h := hw8; rw [HET.out.2, HVV.out, List.append_assoc] at h; exact h)
 clear hw8 hk8
 go_wp2
 go_end0
 exact ⟨rfl, A8.out, K8.out⟩
theorem qpart_agg {b : Nat} {m : Int} (t : Nod) (ht : t.op = sAgg) (h1 : 0 < t.ks.length) (S : Nat → Prop) (op tx : ByteArray) (X : Option Addr) (n k : Nat) (bs : List UInt8) (w : World) (h : HasQ b m bs w) (hS : ∀ g, S g → g < b) (hn : RIn w S t (op, tx, X, n, k)) (htt : t.tot ≤ 100000) (hl : bs.length + (partW t).length ≤ 900000) :
  Calls Tryz.prog 112 #[.pointer (some ⟨b, 0, none⟩), .agg #[.string op, .string tx, .slice X n k]] w (QdP b (bs ++ partW t) w) := by
 have hbl := h.lt
 obtain ⟨eo, et, en, hkl⟩ := hn.texts
 dsimp only at eo et en
 subst en
 obtain rfl : op = ⟨#[97, 103, 103]⟩ := by rw [eo, ht]; rfl
 have hpw : partW t = t.tx ++ [32, 61, 32] ++ ((nthN t.ks 0).op ++ [40] ++ (nthN t.ks 0).tx ++ [41]) := by unfold partW; rw [ht, if_neg (show sAgg ≠ sBy by decide), if_neg (show sAgg ≠ sItem by decide), if_neg (show sAgg ≠ sOn by decide), if_pos rfl]
 obtain ⟨T, hT⟩ : ∃ T, nthN t.ks 0 = T := ⟨_, rfl⟩
 have htT := tot_nth t h1
 obtain ⟨ad, ⟨op1, tx1, X1, n1, k1⟩, eA, hSa, hk⟩ := hn.kid0 h1
 dsimp only at eA
 subst eA
 rw [hT] at hk htT hpw
 have eto : op1.data.toList = T.op ∧ tx1.data.toList = T.tx := by
  have h9 := hk.ri.texts
  dsimp only at h9
  rw [h9.1, h9.2.1]
  exact ⟨rfl, rfl⟩
 have HET := hid eto
 obtain ⟨V, hV⟩ : ∃ V, T.op ++ [40] ++ T.tx ++ [41] = V := ⟨_, rfl⟩
 have HVV := hid hV
 have htx : tx.data.toList = t.tx := by rw [et]
 have htz : tx.size = t.tx.length := by rw [et]; exact size_list _
 have HTX := hid htx
 have HTZ := hid htz
 rw [hpw, hV] at hl ⊢
 simp only [List.length_append, List.length_cons, List.length_nil] at hl
 have HTL := hid (show T.tot ≤ 100000 by omega)
 have HKC := hid hk
 have HS := hid hS
 have HHQ := hid h
 have HSA := hid hSa
 have had := hS _ hSa
 have HW := hid (fun (bs' : List UInt8) (s : ByteArray) (w' : World) (h' : qWr w' b bs') (hl' : bs'.length + s.size ≤ 1000000) => qewrite_any b bs' s w' h' hl')
 have hcat : ∀ w, (Op.stringOp .add tx ⟨#[32, 61, 32]⟩).run Tryz.prog w = .ok (.string (tx ++ ⟨#[32, 61, 32]⟩)) w := fun w => run_string_add_sum w _ _ (by show tx.size + 3 ≤ _; omega)
 clear hpw hT hV hk h hn hS eo et htx htz eto hSa ht htT
 go_enter Tryz.func112, Tryz.ntmps112
 obtain ⟨w0, hw0⟩ : ∃ w0, w.alloc (.cells #[.string ⟨#[97, 103, 103]⟩, .string tx, .slice (some ad) t.ks.length k] 25) = w0 := ⟨_, rfl⟩
 have B0 := hid (show Below w.heap.size w w0 by rw [← hw0]; exact below_alloc w _)
 have X0 := hid (show HB w0 w.heap.size #[.string ⟨#[97, 103, 103]⟩, .string tx, .slice (some ad) t.ks.length k] 25 by rw [← hw0]; exact HB.fresh w _ _)
 have A0 := hid (HHQ.out.below B0.out)
 have K0 := hid ((Kp.refl b w).next (Nat.le_of_lt hbl) B0.out)
 have KX0 := hid (fun (w' : World) (hk : Kp b w0 w') => (show (w'.cell? ⟨w.heap.size, 1, none⟩ = some (.string tx)) ∧ Kp b w0 w' from ⟨(X0.out.kp hk (by omega) (by decide)).cell 1, hk⟩))
 have x0 : w0.cell? ⟨w.heap.size, 0, none⟩ = some (.string ⟨#[97, 103, 103]⟩) := X0.out.cell 0
 go_wp2_with fail
 try rw [hw0]
 go_region_held3 (fun w' => (w'.cell? ⟨w.heap.size, 1, none⟩ = some (.string tx)) ∧ Kp b w0 w')
  (first | assumption | (exact KX0.out _ ((Kp.refl b w0).drew.trans hk5)) | (exact KX0.out _ (Kp.refl b w0).drew))
  (first | (go_at_call 66; with_reducible refine (HW.out bs (tx ++ ⟨#[32, 61, 32]⟩) _ ?ce ?cl).mono ?_; (case ce => exact (A0.out.below (Below.drew (Below.refl _ _))).wr); (case cl => (have h1 := HTZ.out; simp [ByteArray.size_append]; show _ ≤ _; have h2 : (⟨#[32, 61, 32]⟩ : ByteArray).size = 3 := rfl; omega)); rintro e w5 ⟨rfl, hw5, hk5⟩))
 have A5 := hid (show HasQ b m (bs ++ (t.tx ++ [32, 61, 32])) w5 from A0.out.next (by have h := hw5; rw [ByteArray.data_append, Array.toList_append, HTX.out] at h; exact h) ((Kp.refl b w0).drew.trans hk5))
 have K5 := hid (K0.out.trans ((Kp.refl b w0).drew.trans hk5))
 have X5 := hid (X0.out.kp ((Kp.refl b w0).drew.trans hk5) (by omega) (by decide))
 have C5 := hid (HKC.out.kp HS.out HSA.out K5.out.bl)
 have zb5 : b < w5.heap.size := A5.out.lt
 have zw5 : w.heap.size < w5.heap.size := X5.out.lt
 clear hw5 hk5 x0
 obtain ⟨W6, hW6⟩ : ∃ W6, w5.alloc (.cells #[.string op1, .string tx1, .slice X1 n1 k1] 25) = W6 := ⟨_, rfl⟩
 have X6 := hid (show HB W6 w5.heap.size #[.string op1, .string tx1, .slice X1 n1 k1] 25 by rw [← hW6]; exact HB.fresh w5 _ _)
 have A6 := hid (show HasQ b m (bs ++ (t.tx ++ [32, 61, 32])) W6 by rw [← hW6]; exact A5.out.below (below_alloc w5 _))
 have K6 := hid (show Kp b w W6 by rw [← hW6]; exact K5.out.next (by omega) (below_alloc w5 _))
 have Y6 := hid (show HB W6 w.heap.size #[.string ⟨#[97, 103, 103]⟩, .string tx, .slice (some ad) t.ks.length k] 25 by rw [← hW6]; exact X5.out.alloc _)
 have N6 := hid (HKC.out.ri.kp HS.out K6.out.bl)
 have z6 : b < W6.heap.size := A6.out.lt
 have q0 : w5.cell? ad = some (.string op1) := C5.out.c0
 have q1 : w5.cell? ⟨ad.block, ad.off + 1, none⟩ = some (.string tx1) := C5.out.c1
 have q2 : w5.cell? ⟨ad.block, ad.off + 2, none⟩ = some (.slice X1 n1 k1) := C5.out.c2
 have x2 : w5.cell? ⟨w.heap.size, 2, none⟩ = some (.slice (some ad) t.ks.length k) := X5.out.cell 2
 have HW6 := hid hW6
 clear hW6
 go_upto_region 10 with fail
 rw [HW6.out]
 have y0 : W6.cell? ⟨w.heap.size, 0, none⟩ = some (.string ⟨#[97, 103, 103]⟩) := Y6.out.cell 0
 clear q0 q1 q2 x2
 have KX6 := hid (fun (w' : World) (hk : Kp b W6 w') => (show (w'.cell? ⟨w5.heap.size, 0, none⟩ = some (.string op1) ∧ w'.cell? ⟨w5.heap.size, 1, none⟩ = some (.string tx1)) ∧ Kp b W6 w' from ⟨⟨(X6.out.kp hk (by omega) (by decide)).cell 0, (X6.out.kp hk (by omega) (by decide)).cell 1⟩, hk⟩))
 have hz1 := size_of HET.out.1
 have hz2 := size_of HET.out.2
 have hz3 : T.op.length + T.tx.length ≤ 1000000 := by have h3 := congrArg List.length HVV.out; simp only [List.length_append, List.length_cons, List.length_nil] at h3; omega
 have hcat1 : ∀ w, (Op.stringOp .add op1 ⟨#[40]⟩).run Tryz.prog w = .ok (.string (op1 ++ ⟨#[40]⟩)) w := fun w => run_string_add_sum w _ _ (by show op1.size + 1 ≤ _; omega)
 have hcat2 : ∀ w, (Op.stringOp .add (op1 ++ ⟨#[40]⟩) tx1).run Tryz.prog w = .ok (.string (op1 ++ ⟨#[40]⟩ ++ tx1)) w := fun w => run_string_add_sum w _ _ (by rw [ByteArray.size_append]; show op1.size + 1 + _ ≤ _; omega)
 have hcat3 : ∀ w, (Op.stringOp .add (op1 ++ ⟨#[40]⟩ ++ tx1) ⟨#[41]⟩).run Tryz.prog w = .ok (.string (op1 ++ ⟨#[40]⟩ ++ tx1 ++ ⟨#[41]⟩)) w := fun w => run_string_add_sum w _ _ (by rw [ByteArray.size_append, ByteArray.size_append]; show op1.size + 1 + _ + 1 ≤ _; omega)
 go_wp2_with fail
 go_region_held3 (fun w' => (w'.cell? ⟨w5.heap.size, 0, none⟩ = some (.string op1) ∧ w'.cell? ⟨w5.heap.size, 1, none⟩ = some (.string tx1)) ∧ Kp b W6 w')
  (first | assumption | (exact KX6.out _ ((Kp.refl b W6).drew.trans hk8)) | (exact KX6.out _ (Kp.refl b W6).drew))
  (first | (go_at_call 66; with_reducible refine (HW.out (bs ++ (t.tx ++ [32, 61, 32])) (op1 ++ ⟨#[40]⟩ ++ tx1 ++ ⟨#[41]⟩) _ ?ce ?cl).mono ?_; (case ce => exact (A6.out.below (Below.drew (Below.refl _ _))).wr); (case cl => (have h1 := size_of HET.out.1; have h2 := size_of HET.out.2; have h3 := congrArg List.length HVV.out; simp only [List.length_append, List.length_cons, List.length_nil] at h3; simp only [List.length_append, List.length_cons, List.length_nil, ByteArray.size_append]; have h4 : (⟨#[40]⟩ : ByteArray).size = 1 := rfl; have h5 : (⟨#[41]⟩ : ByteArray).size = 1 := rfl; omega)); rintro e w8 ⟨rfl, hw8, hk8⟩))
 have K8 := hid (K6.out.trans ((Kp.refl b W6).drew.trans hk8))
 have A8 := hid (show qWr w8 b (bs ++ (t.tx ++ [32, 61, 32] ++ V)) by
  have h := hw8
  simp only [ByteArray.data_append, Array.toList_append, HET.out.1, HET.out.2] at h
  rw [← HVV.out]
  simpa using h)
 clear hw8 hk8
 go_wp2
 go_end0
 exact ⟨rfl, A8.out, K8.out⟩
theorem qpart_by {b : Nat} {m : Int} (t : Nod) (ht : t.op = sBy) (S : Nat → Prop) (op tx : ByteArray) (X : Option Addr) (n k : Nat) (bs : List UInt8) (w : World) (h : HasQ b m bs w) (hS : ∀ g, S g → g < b) (hn : RIn w S t (op, tx, X, n, k)) (hl : bs.length + (partW t).length ≤ 900000) :
  Calls Tryz.prog 112 #[.pointer (some ⟨b, 0, none⟩), .agg #[.string op, .string tx, .slice X n k]] w (QdP b (bs ++ partW t) w) := by
 have hbl := h.lt
 obtain ⟨eo, et, en, hkl⟩ := hn.texts
 dsimp only at eo et en
 subst en
 obtain rfl : op = ⟨#[98, 121]⟩ := by rw [eo, ht]; rfl
 have hpw : partW t = sBy ++ colsTx t.ks := by unfold partW; rw [ht, if_pos rfl]
 rw [hpw, List.length_append] at hl
 rw [hpw]
 have hl2 : bs.length + 2 + (colsTx t.ks).length ≤ 900000 := by rw [show sBy.length = 2 from rfl] at hl; omega
 have HS := hid hS
 have HN := hid hn
 have HHQ := hid h
 have HW := hid (fun (bs' : List UInt8) (s : ByteArray) (w' : World) (h' : qWr w' b bs') (hl' : bs'.length + s.size ≤ 1000000) => qewrite_any b bs' s w' h' hl')
 clear hpw h hn hS eo et ht hl
 go_enter Tryz.func112, Tryz.ntmps112
 obtain ⟨w0, hw0⟩ : ∃ w0, w.alloc (.cells #[.string ⟨#[98, 121]⟩, .string tx, .slice X t.ks.length k] 25) = w0 := ⟨_, rfl⟩
 have B0 := hid (show Below w.heap.size w w0 by rw [← hw0]; exact below_alloc w _)
 have X0 := hid (show HB w0 w.heap.size #[.string ⟨#[98, 121]⟩, .string tx, .slice X t.ks.length k] 25 by rw [← hw0]; exact HB.fresh w _ _)
 have A0 := hid (HHQ.out.below B0.out)
 have K0 := hid ((Kp.refl b w).next (Nat.le_of_lt hbl) B0.out)
 have x0 : w0.cell? ⟨w.heap.size, 0, none⟩ = some (.string ⟨#[98, 121]⟩) := X0.out.cell 0
 go_wp2_with fail
 try rw [hw0]
 refine (HW.out bs ⟨#[98, 121]⟩ _ A0.out.wr (by show bs.length + 2 ≤ _; omega)).mono ?_
 rintro e w1 ⟨rfl, hw1, hk1⟩
 have A1 := hid (show HasQ b m (bs ++ sBy ++ colsTx (t.ks.take 0)) w1 from A0.out.next (by rw [List.take_zero]; have h := hw1; rw [show colsTx [] = [] from rfl, List.append_nil]; exact h) hk1)
 have K1 := hid (K0.out.trans hk1)
 have x2 : w1.cell? ⟨w.heap.size, 2, none⟩ = some (.slice X t.ks.length k) := (X0.out.kp hk1 (by omega) (by decide)).cell 2
 clear hw1 hk1 x0
 go_wp2
 go_loopw [17] (fun t' wr => ∃ k9 : Nat, k9 ≤ t.ks.length ∧ t' = .int .i64 k9 ∧ Hid (HasQ b m (bs ++ sBy ++ colsTx (t.ks.take k9)) wr) ∧ Hid (Kp b w wr)) (fun t' _ => t.ks.length - (intOf t').toNat)
 case atStart => exact ⟨0, by omega, rfl, A1, K1⟩
 case round =>
  obtain ⟨k9, hk9, rfl, AR, KR⟩ := hrel
  by_cases hlt : k9 < t.ks.length
  ·obtain ⟨ad, ⟨op', tx', X', n', m'⟩, eA, hS', q0, q1, q2, hk'⟩ := (HN.out.kp HS.out KR.out.bl).kid k9 hlt
   dsimp only at eA q0 q1 q2
   subst eA
   have had := HS.out _ hS'
   have etx : tx'.data.toList = t.ks[k9].tx := by
    have h9 := hk'.texts
    dsimp only at h9
    rw [h9.2.1]
   have HCT := hid (colsTx_take t.ks k9 hlt)
   have hz9 : bs.length + 2 + (colsTx (t.ks.take k9)).length + 1 + tx'.size ≤ 900000 := by
    have h1 := colsTx_le t.ks (k9 + 1)
    rw [HCT.out, List.length_append, List.length_cons, ← size_of etx] at h1
    omega
   have HTX := hid etx
   have hcat : ∀ w, (Op.stringOp .add ⟨#[32]⟩ tx').run Tryz.prog w = .ok (.string (⟨#[32]⟩ ++ tx')) w := fun w => run_string_add_sum w _ _ (by show 1 + tx'.size ≤ _; omega)
   have hzr : b < wr.heap.size := AR.out.lt
   obtain ⟨w6, hw6⟩ : ∃ w6, wr.alloc (.cells #[.string op', .string tx', .slice X' n' m'] 25) = w6 := ⟨_, rfl⟩
   have X6 := hid (show HB w6 wr.heap.size #[.string op', .string tx', .slice X' n' m'] 25 by rw [← hw6]; exact HB.fresh wr _ _)
   have A6 := hid (show HasQ b m (bs ++ sBy ++ colsTx (t.ks.take k9)) w6 by rw [← hw6]; exact AR.out.below (below_alloc wr _))
   have K6 := hid (show Kp b w w6 by rw [← hw6]; exact KR.out.next (by omega) (below_alloc wr _))
   have KX6 := hid (fun (w' : World) (hk : Kp b w6 w') => (show (w'.cell? ⟨wr.heap.size, 1, none⟩ = some (.string tx')) ∧ Kp b w6 w' from ⟨(X6.out.kp hk (by omega) (by decide)).cell 1, hk⟩))
   have HW6 := hid hw6
   have HLT := hid hlt
   clear hk' hw6 etx
   go_upto_region 6 with fail
   rw [HW6.out]
   clear q0 q1 q2
   go_region_held3 (fun w' => (w'.cell? ⟨wr.heap.size, 1, none⟩ = some (.string tx')) ∧ Kp b w6 w')
    (first | assumption | (exact KX6.out _ ((Kp.refl b w6).drew.trans hk5)) | (exact KX6.out _ (Kp.refl b w6).drew))
    (first | (go_at_call 66; with_reducible refine (HW.out (bs ++ sBy ++ colsTx (t.ks.take k9)) (⟨#[32]⟩ ++ tx') _ ?ce ?cl).mono ?_; (case ce => exact (A6.out.below (Below.drew (Below.refl _ _))).wr); (case cl => (simp only [List.length_append, ByteArray.size_append]; have h8 : (⟨#[32]⟩ : ByteArray).size = 1 := rfl; have h9 : sBy.length = 2 := rfl; omega)); rintro e w5 ⟨rfl, hw5, hk5⟩))
   have A7 := hid (show HasQ b m (bs ++ sBy ++ colsTx (t.ks.take (k9 + 1))) w5 from A6.out.next (by rw [HCT.out]; have h := hw5; rw [ByteArray.data_append, Array.toList_append, HTX.out, List.append_assoc] at h; exact h) ((Kp.refl b w6).drew.trans hk5))
   have K7 := hid (K6.out.trans ((Kp.refl b w6).drew.trans hk5))
   clear hw5 hk5
   go_wp2
   go_roundw
   case rel => exact ⟨k9 + 1, by omega, by go_num, A7, K7⟩
   case measure => simp [intOf]; omega
  ·obtain rfl : k9 = t.ks.length := by omega
   rw [List.take_length, List.append_assoc] at AR
   go_wp2
   go_end0
   exact ⟨rfl, AR.out.wr, KR.out⟩
end Go.Proofs.YtjbpkpfmgbhlpaaGreatDoor.Code
