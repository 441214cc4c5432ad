/-
  Whether two nodes are one, as the document's reader tells it.
-/
import Derived.Test.YtpohpgahnompbaaGreatDoorM20
import Derived.Deep.RegionHeld3
import Derived.Test.YtpohpgahnompbaaGreatDoorM14
namespace Go.Proofs.YtpohpgahnompbaaGreatDoor.Code
open Go.ChangeShapes Go.WideShapes Go.ChangeAt Go.RowKit Val Elems
set_option linter.unusedVariables false
set_option linter.unusedSimpArgs false
theorem tr_eq (x y : Tr) : x = y ↔ opOf x = opOf y ∧ txOf x = txOf y ∧ kids x = kids y := by
  constructor
  · rintro rfl; exact ⟨rfl, rfl, rfl⟩
  · rintro ⟨h1, h2, h3⟩
    cases x <;> cases y <;> simp [opOf, txOf, kids] at h1 h2 h3 <;> simp_all
theorem NIn.op_eq {w : World} {S : Nat → Prop} {t : Tr} {op tx : ByteArray} {c : Value} (h : NIn w S t (.string op) (.string tx) c) : op = ⟨(opOf t).toArray⟩ ∧ tx = ⟨(txOf t).toArray⟩ := by
  obtain ⟨h1, h2⟩ := h.texts
  exact ⟨by injection h1, by injection h2⟩
theorem bytes_eq (a b : List UInt8) : (⟨a.toArray⟩ : ByteArray) = ⟨b.toArray⟩ ↔ a = b := by
  constructor
  · intro h
    have := congrArg (fun x : ByteArray => x.data.toList) h
    simpa using this
  · rintro rfl; rfl
theorem toList_inj {a b : ByteArray} (h : a.toList = b.toList) : a = b := by
  rw [ByteArray.toList_eq, ByteArray.toList_eq] at h
  have := congrArg (fun l => (⟨l.toArray⟩ : ByteArray)) h
  exact ByteArray.ext (by simpa using this)
theorem take_next {x y : List Tr} {k : Nat} (hx : k < x.length) (hy : k < y.length) (h : x.take k = y.take k) (q : Bool) (hq : decide (x[k] = y[k]) = q) : (q = false → decide (x = y) = false) ∧ (q = true → x.take (k + 1) = y.take (k + 1)) := by
  constructor
  · rintro rfl
    refine decide_eq_false fun e => ?_
    subst e
    simp at hq
  · rintro rfl
    rw [List.take_succ_eq_append_getElem hx, List.take_succ_eq_append_getElem hy, h, of_decide_eq_true hq]
def SamePost (w : World) (q : Bool) (e : Ending) (w' : World) : Prop := e = .returned (.bool q) ∧ Below w.heap.size w w'
set_option maxHeartbeats 16000000 in
set_option maxRecDepth 100000 in
theorem rsame_any : ∀ (d : Nat) (x y : Tr), x.deep ≤ d → ∀ (S : Nat → Prop) (op tx : ByteArray) (X : Option Addr) (n m : Nat) (op' tx' : ByteArray) (X' : Option Addr) (n' m' : Nat) (w : World), (∀ g, S g → g < w.heap.size) → NIn w S x (.string op) (.string tx) (.slice X n m) → NIn w S y (.string op') (.string tx') (.slice X' n' m') →
    Calls Tryz.prog 8 #[.agg #[.string op, .string tx, .slice X n m], .agg #[.string op', .string tx', .slice X' n' m']] w (SamePost w (decide (x = y)))
  | 0, x, y, h, _, _, _, _, _, _, _, _, _, _, _, _, _, _, _ => absurd h (by rw [deep_kids]; omega)
  | d + 1, x, y, h, S, op, tx, X, n, m, op', tx', X', n', m', w, hS, hx, hy => by
    have ih := Lib.hid (fun k (hk : k < (kids x).length) y => rsame_any d (kids x)[k] y (by have := dm_mem (List.getElem_mem hk); rw [deep_kids] at h; omega))
    obtain ⟨X0, c0, e0, h0⟩ := hx.node
    injection e0 with eX en em
    subst en
    clear eX em X0 c0 h0
    obtain ⟨X0, c0, e0, h0⟩ := hy.node
    injection e0 with eX en em
    subst en
    clear eX em X0 c0 h0
    have hso : op = op' ↔ opOf x = opOf y := by rw [hx.op_eq.1, hy.op_eq.1]; exact bytes_eq _ _
    have hst : tx = tx' ↔ txOf x = txOf y := by rw [hx.op_eq.2, hy.op_eq.2]; exact bytes_eq _ _
    have hkx := kids_few x
    have hky := kids_few y
    have HS := Lib.hid hS
    have HX := Lib.hid hx
    have HY := Lib.hid hy
    by_cases ho : op = op'
    case neg =>
      have hr : decide (x = y) = false := decide_eq_false (fun e => ho (hso.2 (congrArg opOf e)))
      rw [hr]
      have b2 : ¬ op.toList = op'.toList := fun e => ho (toList_inj e)
      have b1 : (op.toList == op'.toList) = false := by simpa using b2
      clear h hS hx hy hso hst hr
      go_enter Tryz.func8, Tryz.ntmps8
      go_wp2
      go_ret
      exact ⟨rfl, ((Below.refl _ _).alloc (Nat.le_refl _) _).alloc (by simp) _⟩
    case pos =>
    by_cases ht : tx = tx'
    case neg =>
      have hr : decide (x = y) = false := decide_eq_false (fun e => ht (hst.2 (congrArg txOf e)))
      rw [hr]
      subst ho
      have b2 : ¬ tx.toList = tx'.toList := fun e => ht (toList_inj e)
      have b1 : (tx.toList == tx'.toList) = false := by simpa using b2
      clear h hS hx hy hso hst hr
      go_enter Tryz.func8, Tryz.ntmps8
      go_wp2
      go_ret
      exact ⟨rfl, ((Below.refl _ _).alloc (Nat.le_refl _) _).alloc (by simp) _⟩
    case pos =>
    by_cases hl : (kids x).length = (kids y).length
    case neg =>
      have hr : decide (x = y) = false := decide_eq_false (fun e => hl (congrArg (fun t => (kids t).length) e))
      rw [hr]
      subst ho ht
      have b1 : (((kids x).length : Int) != ((kids y).length : Int)) = true := by
        simp only [bne_iff_ne, ne_eq]
        omega
      have b2 : ¬ ((kids x).length : Int) = ((kids y).length : Int) := by omega
      clear h hS hx hy hso hst hr
      go_enter Tryz.func8, Tryz.ntmps8
      go_wp2
      go_ret
      exact ⟨rfl, ((Below.refl _ _).alloc (Nat.le_refl _) _).alloc (by simp) _⟩
    case pos =>
      have hqk : decide (x = y) = decide (kids x = kids y) := by
        rw [decide_eq_decide, tr_eq]
        exact ⟨fun h => h.2.2, fun h => ⟨hso.1 ho, hst.1 ht, h⟩⟩
      rw [hqk]
      subst ho ht
      obtain ⟨N, hN⟩ : ∃ N, (kids x).length = N := ⟨_, rfl⟩
      have hM : (kids y).length = N := by rw [← hl, hN]
      rw [hN] at HX hkx
      rw [hM] at HY
      rw [hN, hM]
      clear h hS hx hy hso hst hl hqk hky
      go_enter Tryz.func8, Tryz.ntmps8
      obtain ⟨w0, hw0⟩ : ∃ w0, (w.alloc (.cells #[.string op, .string tx, .slice X N m] 25)).alloc (.cells #[.string op, .string tx, .slice X' N m'] 25) = w0 := ⟨_, rfl⟩
      have hz0 : w0.heap.size = w.heap.size + 2 := by rw [← hw0]; simp
      have B0 := Lib.hid (show Below w.heap.size w w0 by rw [← hw0]; exact ((Below.refl _ _).alloc (Nat.le_refl _) _).alloc (by simp) _)
      have N0 := Lib.hid (show NBox w0 w.heap.size (.string op) (.string tx) (.slice X N m) by rw [← hw0]; exact (NBox.fresh _ _ _ _ _).alloc _)
      have N1 := Lib.hid (show NBox w0 (w.heap.size + 1) (.string op) (.string tx) (.slice X' N m') by
        rw [← hw0, show w.heap.size + 1 = (w.alloc (.cells #[.string op, .string tx, .slice X N m] 25)).heap.size by simp]; exact NBox.fresh _ _ _ _ _)
      obtain ⟨x0, x1, x2, xf⟩ := N0.out
      obtain ⟨y0, y1, y2, yf⟩ := N1.out
      go_wp2
      clear x0 x1 x2 xf y0 y1 y2 yf
      go_loopw [5] (fun t wr => ∃ k : Nat, k ≤ N ∧ t = .int .i64 k ∧ Hid ((kids x).take k = (kids y).take k) ∧ Below w.heap.size w wr ∧ NBox wr w.heap.size (.string op) (.string tx) (.slice X N m) ∧ NBox wr (w.heap.size + 1) (.string op) (.string tx) (.slice X' N m')) (fun t _ => N - (intOf t).toNat)
      case atStart => exact ⟨0, by omega, rfl, Lib.hid rfl, B0.out, N0.out, N1.out⟩
      case round =>
        obtain ⟨k, hk, rfl, HT, hb, hn0, hn1⟩ := hrel
        have HB := Lib.hid hb
        have H0 := Lib.hid hn0
        have H1 := Lib.hid hn1
        have hz := hb.size
        have zg0 := hn0.lt
        have zg1 := hn1.lt
        have KX := Lib.hid (HX.out.below HS.out hb)
        have KY := Lib.hid (HY.out.below HS.out hb)
        obtain ⟨x0, x1, x2, xf⟩ := hn0
        obtain ⟨y0, y1, y2, yf⟩ := hn1
        clear hb
        by_cases hlt : k < N
        · obtain ⟨X0, c0, e0, hkid⟩ := KX.out.node
          obtain ⟨ad, op1, tx1, X1, n1, m1, eA, hS1, p0, p1, p2, hk1⟩ := hkid k (by omega)
          injection e0 with eX en em
          obtain rfl : X = some ad := eX.trans eA
          clear hkid eX en em eA X0 c0
          obtain ⟨X0, c0, e0, hkid⟩ := KY.out.node
          obtain ⟨bd, op2, tx2, X2, n2, m2, eA, hS2, q0, q1, q2, hk2⟩ := hkid k (by omega)
          injection e0 with eX en em
          obtain rfl : X' = some bd := eX.trans eA
          clear hkid eX en em eA X0 c0
          have za : (ad.add (k * 3)).block < wr.heap.size := by rw [add_block]; have := HS.out _ hS1; omega
          have zb : (bd.add (k * 3)).block < wr.heap.size := by rw [add_block]; have := HS.out _ hS2; omega
          have za0 : ad.block < wr.heap.size := by have := HS.out _ hS1; omega
          have zb0 : bd.block < wr.heap.size := by have := HS.out _ hS2; omega
          obtain ⟨p, hp⟩ : ∃ p, ad.add (k * 3) = p := ⟨_, rfl⟩
          obtain ⟨q, hq⟩ : ∃ q, bd.add (k * 3) = q := ⟨_, rfl⟩
          have hc := fun w' (h : Below wr.heap.size wr w') => ih.out k (by omega) ((kids y)[k]'(by omega)) S op1 tx1 X1 n1 m1 op2 tx2 X2 n2 m2 w' (fun g hg => by have := HS.out g hg; have := h.size; omega) (hk1.below (fun g hg => by have := HS.out g hg; omega) h) (hk2.below (fun g hg => by have := HS.out g hg; omega) h)
          obtain ⟨bq, hbq⟩ : ∃ bq, decide ((kids x)[k]'(by omega) = (kids y)[k]'(by omega)) = bq := ⟨_, rfl⟩
          rw [hbq] at hc
          unfold SamePost at hc
          have HC := Lib.hid hc
          have HTT := Lib.hid (take_next (x := kids x) (y := kids y) (k := k) (by omega) (by omega) HT.out bq hbq)
          clear hc hbq hk1 hk2 hS1 hS2
          cases bq
          all_goals
            go_wp2_with fail
            rw [hp] at p0 p1 p2 za
            rw [hq] at q0 q1 q2 zb
            go_region_held3 (fun w' => (w'.cell? ⟨w.heap.size, 2, none⟩ = some (.slice (some ad) N m) ∧ w'.cell? ⟨w.heap.size + 1, 2, none⟩ = some (.slice (some bd) N m') ∧ w'.cell? p = some (.string op1) ∧ w'.cell? ⟨p.block, p.off + 1, none⟩ = some (.string tx1) ∧ w'.cell? ⟨p.block, p.off + 2, none⟩ = some (.slice X1 n1 m1) ∧ w'.cell? q = some (.string op2) ∧ w'.cell? ⟨q.block, q.off + 1, none⟩ = some (.string tx2) ∧ w'.cell? ⟨q.block, q.off + 2, none⟩ = some (.slice X2 n2 m2)) ∧ Below wr.heap.size wr w')
              (first | assumption | (refine keepP hb5 (by assumption) ?_; intro kk; exact ⟨(kk ⟨w.heap.size, 2, none⟩ zg0).trans x2, (kk ⟨w.heap.size + 1, 2, none⟩ zg1).trans y2, (kk p za).trans p0, (kk ⟨p.block, p.off + 1, none⟩ za).trans p1, (kk ⟨p.block, p.off + 2, none⟩ za).trans p2, (kk q zb).trans q0, (kk ⟨q.block, q.off + 1, none⟩ zb).trans q1, (kk ⟨q.block, q.off + 2, none⟩ zb).trans q2⟩) | (exact ⟨⟨x2, y2, p0, p1, p2, q0, q1, q2⟩, Below.drew (Below.refl _ _)⟩))
              (first | (go_at_call 8; with_reducible refine (HC.out _ ?cv).mono ?_; (case cv => exact (by assumption : _ ∧ Below wr.heap.size wr _).2); rintro e w5 ⟨rfl, hb5⟩))
          · have M := Lib.hid (show Below wr.heap.size wr w5 by rename_i hS; exact hS.2)
            clear x0 x1 x2 xf y0 y1 y2 yf p0 p1 p2 q0 q1 q2 hb5
            go_wp2
            go_ret
            have hr : decide (kids x = kids y) = false := by
              have := HTT.out.1 (by first | exact trivial | rfl)
              simpa using this
            exact ⟨by rw [hr]; rfl, bnext HB.out hz M.out⟩
          · have M := Lib.hid (show Below wr.heap.size wr w5 by rename_i hS; exact hS.2)
            clear x0 x1 x2 xf y0 y1 y2 yf p0 p1 p2 q0 q1 q2 hb5
            go_wp2
            go_roundw
            case rel => exact ⟨k + 1, by omega, by go_num, Lib.hid (HTT.out.2 (by first | exact trivial | rfl)), bnext HB.out hz M.out, H0.out.below M.out, H1.out.below M.out⟩
            case measure => simp [intOf]; omega
        · have hr : decide (kids x = kids y) = true := decide_eq_true (by
            have := HT.out
            rw [List.take_of_length_le (by omega), List.take_of_length_le (by omega)] at this
            exact this)
          go_wp2
          go_ret
          exact ⟨by rw [hr]; rfl, HB.out⟩
end Go.Proofs.YtpohpgahnompbaaGreatDoor.Code

/-
  The walk of ExprParses, with the program's Parse and the live question by their contracts.
-/
namespace Go.Proofs.YtpohpgahnompbaaGreatDoor.exprParses
open Go.ChangeShapes Go.WideShapes Go.ChangeAt Go.RowKit Val Elems Go.Proofs.YtpohpgahnompbaaGreatDoor.Code
set_option linter.unusedVariables false
set_option linter.unusedSimpArgs false
set_option maxHeartbeats 4000000 in
set_option maxRecDepth 100000 in
theorem walk_of (s : ByteArray) (w : World) (hs : s.size ≤ 9223372036854775807)
    (hA : ∀ w0, Below w.heap.size w w0 → w.heap.size ≤ w0.heap.size → Calls Tryz.prog 5 #[] w0 (fun e w' => e = .returned (.bool true) ∧ Below w0.heap.size w0 w'))
    (hP : s.size ≤ 400 → ∀ w0, Below w.heap.size w w0 → Calls Tryz.prog 6 #[.string s] w0 (ParsePost w0 (parseL s.data.toList))) :
    Calls Tryz.prog 3 #[.string s] w fun e w' => e = .returned (.bool true) ∧ Below w.heap.size w w' := by
  have HA := Lib.hid hA
  clear hA
  by_cases hbig : 400 < s.size
  · clear hP
    go_enter Tryz.func3, Tryz.ntmps3
    go_wp2_with fail
    refine (HA.out _ (Below.refl _ _) (Nat.le_refl _)).mono ?_
    rintro e w1 ⟨rfl, hb1⟩
    have L1 := Lib.hid hb1
    clear hb1
    go_wp2
    go_ret
    exact ⟨rfl, L1.out⟩
  · have HP := Lib.hid (hP (by omega))
    have HR := Lib.hid (fun w0 => rparse_any s (by omega) w0)
    obtain ⟨res, hres⟩ : ∃ res, parseL s.data.toList = res := ⟨_, rfl⟩
    rw [hres] at HP HR
    obtain ⟨x, p, ee⟩ := res
    have HS := Lib.hid (rsame_any x.deep x x (Nat.le_refl _))
    rw [decide_eq_true (rfl : x = x)] at HS
    unfold ParsePost at HP HR
    unfold SamePost at HS
    clear hP hres
    go_enter Tryz.func3, Tryz.ntmps3
    go_wp2_with fail
    refine (HP.out _ (Below.refl _ _)).mono ?_
    rintro e w1 ⟨op, tx, X, n, m, rfl, hn1, hb1⟩
    have L1 := Lib.hid (hb1.alloc hb1.size (.cells #[.string op, .string tx, .slice X n m] 25))
    have I1 := Lib.hid (hn1.alloc (fun g hg => hg.2) (.cells #[.string op, .string tx, .slice X n m] 25))
    have V1 := Lib.hid (NBox.fresh w1 (.string op) (.string tx) (.slice X n m) 25)
    have z1 := hb1.size
    clear hb1 hn1
    go_wp2_with fail
    refine (HR.out _).mono ?_
    rintro e w2 ⟨op2, tx2, X2, n2, m2, rfl, hn2, hb2⟩
    have z2 : w1.heap.size < w2.heap.size := by have := hb2.size; simp at this; omega
    have L2 := Lib.hid ((L1.out.trans (hb2.mono (by simp; omega))).alloc (by omega) (.cells #[.string op2, .string tx2, .slice X2 n2 m2] 25))
    have I2 := Lib.hid (((I1.out.below (fun g hg => by have := hg.2; simp; omega) hb2).imp (S' := fun g => g < w2.heap.size) (fun g hg => by have := hg.2; omega)).alloc (fun g hg => hg) (.cells #[.string op2, .string tx2, .slice X2 n2 m2] 25))
    have J2 := Lib.hid ((hn2.imp (S' := fun g => g < w2.heap.size) (fun g hg => hg.2)).alloc (fun g hg => hg) (.cells #[.string op2, .string tx2, .slice X2 n2 m2] 25))
    have V2 := Lib.hid ((V1.out.below hb2).alloc (.cells #[.string op2, .string tx2, .slice X2 n2 m2] 25))
    have U2 := Lib.hid (NBox.fresh w2 (.string op2) (.string tx2) (.slice X2 n2 m2) 25)
    clear hb2 hn2
    obtain ⟨v0, v1, v2, vf⟩ := V2.out
    obtain ⟨u0, u1, u2, uf⟩ := U2.out
    go_wp2_with fail
    refine (HS.out _ _ _ _ _ _ _ _ _ _ _ _ (fun g hg => by have : g < w2.heap.size := hg; simp; omega) I2.out J2.out).mono ?_
    rintro e w3 ⟨rfl, hb3⟩
    have L3 := Lib.hid (L2.out.trans (hb3.mono (by simp; omega)))
    have z3 : w.heap.size ≤ w3.heap.size := by have := hb3.size; simp at this; omega
    clear hb3 v0 v1 v2 vf u0 u1 u2 uf
    go_wp2_with fail
    refine (HA.out _ L3.out z3).mono ?_
    rintro e w4 ⟨rfl, hb4⟩
    have L4 := Lib.hid (bnext L3.out z3 hb4)
    clear hb4
    go_wp2
    go_ret
    exact ⟨by simp, L4.out⟩
end Go.Proofs.YtpohpgahnompbaaGreatDoor.exprParses

/-
  A block of texts that the call made (cut out of RowShow). No function of the program is named here.
-/
namespace Go.Proofs.YtpohpgahnompbaaGreatDoor.Code
open Go.ChangeShapes Go.WideShapes Go.ChangeAt Go.RowKit Val
set_option linter.unusedVariables false
/-- a block of texts, made by the call -/
def SBlk (w : World) (g : Nat) (D : List ByteArray) : Prop := w.heap[g]? = some (.cells (D.map Value.string).toArray 9 (0, 0))
theorem SBlk.lt {w : World} {g : Nat} {D : List ByteArray} (h : SBlk w g D) : g < w.heap.size := (Array.getElem?_eq_some_iff.1 h).1
theorem SBlk.call {w w' : World} {g : Nat} {D : List ByteArray} (h : SBlk w g D) (hb : Below w.heap.size w w') : SBlk w' g D := (hb.block g h.lt).trans h
theorem SBlk.cell {w : World} {g : Nat} {D : List ByteArray} (h : SBlk w g D) (j : Nat) (x : ByteArray) (hx : D[j]? = some x) : w.cell? ⟨g, j, none⟩ = some (.string x) := by
  unfold SBlk at h
  simp [World.cell?, h, hx]
theorem SBlk.free {w : World} {g : Nat} {D : List ByteArray} (h : SBlk w g D) (j : Nat) : w.frozen? ⟨g, j, none⟩ = false := by
  unfold SBlk at h
  simp [World.frozen?, h]
theorem SBlk.set {w : World} {g : Nat} {D : List ByteArray} (h : SBlk w g D) (k : Nat) (x : ByteArray) : SBlk (w.setCell ⟨g, k, none⟩ (.string x)) g (D.set k x) := by
  unfold SBlk at *
  rw [setCell_eq_setRow w g _ _ _ _ _ h, setRow_heap w g _ _ _ _ h, List.map_set]
  simp
theorem info_str : (Tryz.prog.info? 9).map (fun i => (i.zero, i.size, i.bytes)) = some (some (.string ByteArray.empty), 1, 16) := by kernel_rfl
theorem made_strs (n : Nat) : madeCells #[Value.string ByteArray.empty] (n * 1) = Array.replicate n (Value.string ByteArray.empty) := by
  apply Array.toList_inj.1
  rw [toList_madeCells_one, Nat.mul_one]
  simp
theorem SBlk.fresh (w : World) (n : Nat) : SBlk (w.alloc (.cells (Array.replicate n (Value.string ByteArray.empty)) 9)) w.heap.size (List.replicate n ByteArray.empty) := by
  unfold SBlk
  rw [heap_alloc_new]
  simp
theorem wpList_make_strs {P : Program} (w : World) {ops : Array Oper} {rest : List Oper} {o : Oper} {a : Act} {Q : Exit → Act → World → Prop}
    (hg : o.guard = none) (l c : Operand) (t : TypeId) (hop : o.op = Op.makeSlice t l c) (e : TypeId) (i : TypeInfo) (h1 : P.underlying t = some (.slice e)) (h2 : P.info? e = some i)
    (h3 : i.zero = some (.string ByteArray.empty)) (h4 : i.size = 1) (h5 : i.bytes = 16)
    (kl kc : IntKind) (L C : Int) (n : Nat) (hl : a.eval l = .int kl L) (hc : a.eval c = .int kc C) (hL : L = (n : Int)) (hC : C = (n : Int)) (b : n ≤ 8796093022208)
    (hK : wpList P ops Q rest (a.put o.dst (.slice (some ⟨w.heap.size, 0, none⟩) n n)) (w.alloc (.cells (Array.replicate n (Value.string ByteArray.empty)) e))) :
    wpList P ops Q (o :: rest) a w := by
  refine wpList_plain hg fun K hK' => ?_
  have hr := run_make (P := P) w t e i _ h1 h2 h3 kl kc n n (by omega) (Int.le_refl _) (by rw [h5]; omega) (by omega)
  rw [Int.toNat_natCast, h4, show (Value.string ByteArray.empty).cells = #[Value.string ByteArray.empty] by rfl, made_strs] at hr
  subst hL
  subst hC
  unfold Oper.wp
  simp [execOp, hop, hl, hc, hr, Result.andThen]
  exact hK' _ _ hK
theorem sfill_set (X : List ByteArray) (n : Nat) (hn : 0 < n) (v : ByteArray) : (X ++ List.replicate n ByteArray.empty).set X.length v = (X ++ [v]) ++ List.replicate (n - 1) ByteArray.empty := by
  obtain ⟨m, rfl⟩ : ∃ m, n = m + 1 := ⟨n - 1, by omega⟩
  rw [List.set_append_right _ _ (Nat.le_refl _), Nat.sub_self, List.replicate_succ, List.set_cons_zero, Nat.add_sub_cancel, List.append_assoc]
  rfl
end Go.Proofs.YtpohpgahnompbaaGreatDoor.Code

/-
  Contracts of lex's Text and of the document's.
-/
namespace Go.Proofs.YtpohpgahnompbaaGreatDoor.Code
open Go.ChangeShapes Go.WideShapes Go.ChangeAt Go.RowKit Val Elems
set_option linter.unusedVariables false
/-- words whose texts are not too long to be shown -/
def FitW (l : List W) : Prop := ∀ w ∈ l, w.2.1.length ≤ 4194304
theorem fits0 : fits 0 := by unfold fits; omega
theorem showW_le {k : Int} {t : List UInt8} (h : t.length ≤ 4194304) : (showW k t).length ≤ 4194304 := by
  unfold showW
  split
  · have := show_length 4 0 ⟨t.toArray⟩ fits0
    omega
  · exact h
def stexts (l : List W) : List ByteArray := l.map fun w => ⟨(showW w.1 w.2.1).toArray⟩
theorem stexts_length (l : List W) : (stexts l).length = l.length := by simp [stexts]
theorem stexts_snoc (l : List W) (k : Nat) (h : k < l.length) : stexts (l.take (k + 1)) = stexts (l.take k) ++ [⟨(showW l[k].1 l[k].2.1).toArray⟩] := by
  unfold stexts
  rw [List.take_succ_eq_append_getElem h, List.map_append]
  rfl
theorem stexts_data (l : List W) : (stexts l).map (·.data.toList) = l.map fun w => showW w.1 w.2.1 := by
  unfold stexts
  rw [List.map_map]
  congr 1
theorem textL_length (l : List W) (h : FitW l) : (textL l).length ≤ 4194305 * l.length := by
  unfold textL
  cases l with
  | nil => simp [Lib.join_nil]
  | cons v l =>
    rw [List.map_cons, Lib.join_length]
    have := lens_le ((v :: l).map fun w => showW w.1 w.2.1) 4194304 (by intro x hx; obtain ⟨y, hy, rfl⟩ := List.mem_map.1 hx; exact showW_le (h y hy))
    simp only [List.map_cons, List.length_cons, List.length_map, List.length_nil] at *
    omega
/-- one word more, shown -/
theorem textL_step (l : List W) (k : Nat) (h : k < l.length) : (k = 0 → textL (l.take (k + 1)) = textL (l.take k) ++ showW l[k].1 l[k].2.1) ∧ (0 < k → textL (l.take (k + 1)) = textL (l.take k) ++ [32] ++ showW l[k].1 l[k].2.1) := by
  rw [List.take_succ_eq_append_getElem h]
  refine ⟨fun h0 => ?_, fun h0 => ?_⟩
  · subst h0
    rw [List.take_zero, List.nil_append, textL_one]
    rfl
  · rw [textL_snoc _ _ (by rw [List.length_take]; omega), List.append_assoc]
    rfl
set_option maxHeartbeats 4000000 in
set_option maxRecDepth 100000 in
theorem text_any (A : Option Addr) (cap : Nat) (l : List W) (m : Int) (w : World) (hv : At wc 3 w w.heap.size A l) (hf : FitW l) (hl : l.length ≤ 10000) (hg : Glob w.heap.size m w) :
    Calls Tryz.prog 113 #[.slice A l.length cap] w fun e w' => e = .returned (.string ⟨(textL l).toArray⟩) ∧ Below w.heap.size w w' := by
  have HV := Lib.hid hv
  have HF := Lib.hid hf
  have HG := Lib.hid hg
  have hjl := textL_length l hf
  clear hv hf hg
  obtain ⟨i0, hi0, hz0, hz1, hz2⟩ := info_parts info_str
  go_enter Tryz.func113, Tryz.ntmps113
  go_wp2_with (at_make; refine wpList_make_strs _ rfl _ _ 101 rfl 9 i0 Tryz.underlying101 hi0 hz0 hz1 hz2 _ _ _ _ l.length rfl rfl rfl rfl (by omega) ?_)
  have HB0 := Lib.hid (SBlk.fresh w l.length)
  have HL0 := Lib.hid (below_alloc w (.cells (Array.replicate l.length (Value.string ByteArray.empty)) 9))
  go_wp2
  go_loopw [11] (fun i wr => ∃ k : Nat, k ≤ l.length ∧ i = .int .i64 k ∧ SBlk wr w.heap.size (stexts (l.take k) ++ List.replicate (l.length - k) ByteArray.empty) ∧ Below w.heap.size w wr) (fun i _ => l.length - (intOf i).toNat)
  case atStart => exact ⟨0, by omega, rfl, by simpa [stexts] using HB0.out, HL0.out⟩
  case round =>
    obtain ⟨k, hk, rfl, hblk, hbel⟩ := hrel
    have hsz := hbel.size
    have hlt := hblk.lt
    have HL := Lib.hid hbel
    have HB := Lib.hid hblk
    have VA := Lib.hid (HV.out.below hbel)
    clear hbel hblk
    have HX := Lib.hid (show (stexts (l.take k)).length = k by rw [stexts_length, List.length_take_of_le hk])
    by_cases hkl : k < l.length
    · obtain ⟨ad, rfl, ha, c0, c1, c2⟩ := at_word VA.out k hkl
      have HS := Lib.hid (stexts_snoc l k hkl)
      have HE := Lib.hid (show (stexts (l.take k) ++ List.replicate (l.length - k) ByteArray.empty).set k ⟨(showW l[k].1 l[k].2.1).toArray⟩ = stexts (l.take (k + 1)) ++ List.replicate (l.length - (k + 1)) ByteArray.empty by
        have e := sfill_set (stexts (l.take k)) (l.length - k) (by omega) ⟨(showW l[k].1 l[k].2.1).toArray⟩
        rw [HX.out, Nat.sub_sub] at e
        rw [e, HS.out])
      have HY := Lib.hid (show ∀ T : ByteArray, ((stexts (l.take k) ++ List.replicate (l.length - k) ByteArray.empty).set k T).length = l.length by intro T; rw [List.length_set, List.length_append, HX.out]; simp; omega)
      have b0 : ∃ y, wr.cell? ⟨w.heap.size, k, none⟩ = some (.string y) := by
        have hlen : k < (stexts (l.take k) ++ List.replicate (l.length - k) ByteArray.empty).length := by rw [List.length_append, HX.out]; simp; omega
        exact ⟨_, HB.out.cell k _ (List.getElem?_eq_getElem hlen)⟩
      obtain ⟨y, b0⟩ := b0
      have f0 := HB.out.free k
      obtain ⟨x, hx⟩ : ∃ x, l[k] = x := ⟨_, rfl⟩
      rw [hx] at c0 c1 c2 HS HE
      clear hx
      obtain ⟨kk, t, p⟩ := x
      dsimp only at c0 c1 c2
      obtain ⟨T, hT⟩ : ∃ T : ByteArray, ⟨t.toArray⟩ = T := ⟨_, rfl⟩
      rw [hT] at c1
      have hlt2 : w.heap.size < wr.heap.size := hlt
      by_cases hk2 : kk = 2
      · subst hk2
        have hsh := fun w' hg => vshow_any 4 0 T m w' fits0 hg
        obtain ⟨S, hS⟩ : ∃ S : ByteArray, ⟨(showL 4 0 T).toArray⟩ = S := ⟨_, rfl⟩
        have hSW : (⟨(showW 2 t).toArray⟩ : ByteArray) = S := by unfold showW; rw [if_pos rfl, hT, hS]
        rw [hS] at hsh
        have HSH := Lib.hid hsh
        dsimp only at HE
        rw [hSW] at HE
        clear hsh hS hSW hT HS
        have L1 := Lib.hid ((HL.out.setCell (p := ⟨w.heap.size, k, none⟩) (Nat.le_refl _) (Value.string T)).alloc (by simpa using hsz) (.cells #[.int .i64 2, .string T, .int .i64 p] 39))
        have B1 := Lib.hid ((HB.out.set k T).call (below_alloc (wr.setCell ⟨w.heap.size, k, none⟩ (.string T)) (.cells #[.int .i64 2, .string T, .int .i64 p] 39)))
        go_wp2_with fail
        refine (HSH.out _ (HG.out.next L1.out)).mono ?_
        rintro e w1 ⟨rfl, hb1⟩
        have L2 := Lib.hid (bnext L1.out L1.out.size hb1)
        have B2 := Lib.hid (B1.out.call hb1)
        have z2 := B2.out.lt
        have b1 : ∃ y, w1.cell? ⟨w.heap.size, k, none⟩ = some (.string y) := by
          have hlen : k < ((stexts (l.take k) ++ List.replicate (l.length - k) ByteArray.empty).set k T).length := by rw [HY.out]; exact hkl
          exact ⟨_, B2.out.cell k _ (List.getElem?_eq_getElem hlen)⟩
        obtain ⟨y1, b1⟩ := b1
        have f1 := B2.out.free k
        clear hb1 c0 c1 c2 b0 f0 HSH
        go_wp2
        go_roundw
        case rel => exact ⟨k + 1, by omega, by go_num, by have h := B2.out.set k S; rw [List.set_set, HE.out] at h; exact h, L2.out.setCell (Nat.le_refl _) _⟩
        case measure => simp [intOf]; omega
      · have hSW : (⟨(showW kk t).toArray⟩ : ByteArray) = T := by unfold showW; rw [if_neg hk2, hT]
        have e2 : (kk == 2) = false := by simpa using hk2
        dsimp only at HE
        rw [hSW] at HE
        clear hSW hT HS hk2
        go_wp2
        go_roundw
        case rel => exact ⟨k + 1, by omega, by go_num, by have h := (HB.out.set k T).call (below_alloc (wr.setCell ⟨w.heap.size, k, none⟩ (.string T)) (.cells #[.int .i64 kk, .string T, .int .i64 p] 39)); rw [HE.out] at h; exact h, (HL.out.setCell (Nat.le_refl _) _).alloc (by simpa using hsz) _⟩
        case measure => simp [intOf]; omega
    · obtain rfl : k = l.length := by omega
      rw [List.take_length] at HB
      have HB2 := Lib.hid (show SBlk wr w.heap.size (stexts l) by simpa using HB.out)
      have hj := Tryz.strings_Join w.heap.size 0 l.length (stexts l) ⟨#[32]⟩ wr (fun j x hx => by rw [Nat.zero_add]; exact HB2.out.cell j x hx) hlt (by rw [stexts_length]; omega) (by rw [stexts_length]; exact Nat.le_refl _) (by rw [stexts_data]; show (textL l).length ≤ _; omega)
      rw [stexts_data, stexts_length] at hj
      obtain ⟨T, hT⟩ : ∃ T : ByteArray, T = ⟨(textL l).toArray⟩ := ⟨_, rfl⟩
      rw [show (⟨(Lib.join (l.map fun w => showW w.1 w.2.1) (⟨#[32]⟩ : ByteArray).data.toList).toArray⟩ : ByteArray) = T from hT.symm] at hj
      have HJ := Lib.hid hj
      have HT := Lib.hid hT
      clear hj hT
      go_wp2_with fail
      refine HJ.out.mono ?_
      rintro e w1 ⟨rfl, hb1⟩
      have L1 := Lib.hid (bnext HL.out hsz hb1)
      clear hb1
      go_wp2
      go_ret
      exact ⟨retS HT.out, L1.out⟩
end Go.Proofs.YtpohpgahnompbaaGreatDoor.Code
