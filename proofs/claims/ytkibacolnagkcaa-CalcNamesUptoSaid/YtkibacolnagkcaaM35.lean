/-
  Contracts of the document's reader: where a word stands; the expression that comes.
-/
import Derived.Test.YtkibacolnagkcaaM34
import Derived.Test.YtkibacolnagkcaaM13
import Derived.Deep.RegionHeld3
import Derived.Test.YtkibacolnagkcaaM16
namespace Go.Proofs.Ytkibacolnagkcaa.Code
open Go.ChangeShapes Go.WideShapes Go.ChangeAt Go.RowKit Val Elems
set_option linter.unusedVariables false
set_option linter.unusedSimpArgs false
set_option maxHeartbeats 4000000 in
set_option maxRecDepth 100000 in
theorem rplace_any (s : ByteArray) (A : Option Addr) (cap : Nat) (l : List W) (i : Nat) (w : World) (h : At wc 3 w w.heap.size A l) (hl : l.length ≤ 4194304) (hi : i ≤ l.length) :
    Calls Try.prog 27 #[.string s, .slice A l.length cap, .int .i64 i] w fun e w' => e = .returned (.int .i64 (placeL s.size l i)) ∧ Below w.heap.size w w' := by
  have e3 : decide ((0 : Int) ≤ (i : Int)) = true := by simp
  by_cases hil : i < l.length
  · obtain ⟨ad, rfl, ha, d0, d1, d2⟩ := at_word h i hil
    have hp : placeL s.size l i = l[i].2.2 := by unfold placeL; rw [List.getElem?_eq_getElem hil]
    rw [hp]
    clear hp h
    go_enter Try.func27, Try.ntmps27
    go_wp2
    go_ret
    exact ⟨rfl, Below.refl _ _⟩
  · have hp : placeL s.size l i = s.size := by unfold placeL; rw [List.getElem?_eq_none (by omega)]
    rw [hp]
    clear hp h
    go_enter Try.func27, Try.ntmps27
    go_wp2
    go_ret
    exact ⟨rfl, Below.refl _ _⟩
/-- all but one block is as it was -/
def Oth (g : Nat) (w w' : World) : Prop := ∀ p : Addr, p.block ≠ g → w'.cell? p = w.cell? p
theorem Oth.refl (g : Nat) (w : World) : Oth g w w := fun _ _ => rfl
theorem Oth.setCell {g : Nat} {w w' : World} (h : Oth g w w') (p : Addr) (hp : p.block = g) (v : Value) : Oth g w (w'.setCell p v) := fun q hq => (World.cell?_setCell_other _ _ _ _ (fun e => hq (by rw [← e]; exact hp))).trans (h q hq)
theorem Oth.drew {g : Nat} {w w' : World} (h : Oth g w w') : Oth g w w'.drew := fun q hq => h q hq
theorem Rdr.fresh (w : World) (A : Option Addr) (cap : Nat) (l : List W) (i : Nat) (t : TypeId) (h : At wc 3 w w.heap.size A l) : Rdr (w.alloc (.cells #[.slice A l.length cap, .int .i64 i, .bool false] t)) w.heap.size A cap l i false :=
  ⟨by simp [go_sem], by simp [go_sem], by simp [go_sem], fun k => by simp [go_sem], h.below ((Below.refl _ _).alloc (Nat.le_refl _) _)⟩
/-- the expression from a place on, the place behind it, or what is wrong -/
def readN (l : List W) (i : Nat) : Tr × Nat × Int := if (fromP (bare l) i).2.2 = true then (zeroT, (fromP (bare l) i).2.1, 91) else ((fromP (bare l) i).1, (fromP (bare l) i).2.1, 0)
def ReadPost (w : World) (res : Tr × Nat × Int) (e : Ending) (w' : World) : Prop :=
  ∃ (op tx : ByteArray) (X : Option Addr) (n m : Nat), e = .returned (.tuple #[.agg #[.string op, .string tx, .slice X n m], .int .i64 res.2.1, .int .i64 res.2.2]) ∧ NIn w' (New w w') res.1 (.string op) (.string tx) (.slice X n m) ∧ Below w.heap.size w w'
set_option maxHeartbeats 1000000 in
set_option maxRecDepth 100000 in
theorem rread_any (A : Option Addr) (cap : Nat) (l : List W) (i : Nat) (w : World) (h : At wc 3 w w.heap.size A l) (hl : l.length ≤ 4194304) (hfg : FigW l) (hi : i < l.length) :
    Calls Try.prog 26 #[.slice A l.length cap, .int .i64 i] w (ReadPost w (readN l i)) := by
  obtain ⟨R, hx⟩ : ∃ R, fromP (bare l) i = R := ⟨_, rfl⟩
  obtain ⟨x, j, b⟩ := R
  have hrd : readN l i = if b = true then (zeroT, j, 91) else (x, j, 0) := by unfold readN; rw [hx]
  rw [hrd]
  obtain ⟨q, hq⟩ : ∃ q, (if b = true then (zeroT, j, (91 : Int)) else (x, j, 0)) = q := ⟨_, rfl⟩
  rw [hq]
  have HQ := Lib.hid hq
  have HA := Lib.hid h
  have HX0 := Lib.hid (fun w1 hr => expr_any (r := w.heap.size + 1) (A := A) (cap := cap) hl hfg i w1 (by omega) hr)
  rw [hx] at HX0
  have e1 : (i : Int) < (l.length : Int) := by omega
  have e0 : (0 : Int) ≤ (i : Int) := by omega
  have e2 : decide ((i : Int) < 0) = false := by simp
  have e3 : decide ((l.length : Int) ≤ (i : Int)) = false := by simp; omega
  clear h hx hrd hfg hq
  go_enter Try.func26, Try.ntmps26
  obtain ⟨w1, hw1⟩ : ∃ w1, (w.alloc (.cells #[.string ⟨#[]⟩, .string ⟨#[]⟩, .slice none 0 0] 24)).alloc (.cells #[.slice A l.length cap, .int .i64 i, .bool false] 87) = w1 := ⟨_, rfl⟩
  have hz1 : w1.heap.size = w.heap.size + 2 := by rw [← hw1]; simp
  have N1 := Lib.hid (show NBox w1 w.heap.size (.string ⟨#[]⟩) (.string ⟨#[]⟩) (.slice none 0 0) by rw [← hw1]; exact (NBox.fresh _ _ _ _ _).alloc _)
  have B1 := Lib.hid (show Below w.heap.size w w1 by rw [← hw1]; exact ((Below.refl _ _).alloc (Nat.le_refl _) _).alloc (by simp) _)
  have R1 := Lib.hid (show Rdr w1 (w.heap.size + 1) A cap l i false by
    rw [← hw1, show w.heap.size + 1 = (w.alloc (.cells #[.string ⟨#[]⟩, .string ⟨#[]⟩, .slice none 0 0] 24)).heap.size by simp]
    exact Rdr.fresh _ A cap l i 87 ((HA.out.below ((Below.refl _ _).alloc (Nat.le_refl _) _)).more (by simp)))
  go_wp2_with fail
  try rw [hw1]
  refine (HX0.out _ R1.out).mono ?_
  rintro e w2 ⟨op, tx, X, n, m, rfl, hn2, hb2, hr2⟩
  have N2 := Lib.hid ((N1.out.but (by omega) hb2).alloc (.cells #[.string op, .string tx, .slice X n m] 24))
  have R2 := Lib.hid (hr2.alloc (.cells #[.string op, .string tx, .slice X n m] 24))
  have hz2 : w1.heap.size ≤ w2.heap.size := hb2.size
  have I2 := Lib.hid ((hn2.imp (S' := fun g => w.heap.size < g ∧ g < w2.heap.size) (fun g hg => by rcases hg with hg | hg; exact hg.elim; exact ⟨by have := hg.1; omega, hg.2⟩)).alloc (fun g hg => hg.2) (.cells #[.string op, .string tx, .slice X n m] 24))
  have B2 := Lib.hid ((B1.out.trans (hb2.below (B := w.heap.size) (by omega) (by omega))).alloc (by omega) (.cells #[.string op, .string tx, .slice X n m] 24))
  have V2 := Lib.hid (NBox.fresh w2 (.string op) (.string tx) (.slice X n m) 24)
  have zn := N2.out.lt
  have zr := R2.out.lt
  clear hb2 hr2 hn2
  obtain ⟨x0, x1, x2, xf⟩ := N2.out
  have c2 := R2.out.c2
  obtain ⟨w6, hw6⟩ : ∃ w6, w2.alloc (.cells #[.string op, .string tx, .slice X n m] 24) = w6 := ⟨_, rfl⟩
  rw [hw6] at N2 R2 I2 B2 V2 zn zr x0 x1 x2 xf c2
  obtain ⟨v0, v1, v2, vf⟩ := V2.out
  have c1 := R2.out.c1
  have HO := Lib.hid (Oth.refl w.heap.size w6)
  have FQ := Lib.hid (fun w' (h : Oth w.heap.size w6 w') => show w'.cell? ⟨w.heap.size + 1, 1, none⟩ = some (.int .i64 j) ∧ w'.cell? ⟨w2.heap.size, 0, none⟩ = some (.string op) ∧ w'.cell? ⟨w2.heap.size, 1, none⟩ = some (.string tx) ∧ w'.cell? ⟨w2.heap.size, 2, none⟩ = some (.slice X n m) from
    ⟨(h ⟨w.heap.size + 1, 1, none⟩ (by simp)).trans c1, (h ⟨w2.heap.size, 0, none⟩ (by simp; omega)).trans v0, (h ⟨w2.heap.size, 1, none⟩ (by simp; omega)).trans v1, (h ⟨w2.heap.size, 2, none⟩ (by simp; omega)).trans v2⟩)
  cases b
  · go_upto_region 7 with fail
    go_region_held3 (fun w' => (w'.cell? ⟨w.heap.size + 1, 1, none⟩ = some (.int .i64 j) ∧ w'.cell? ⟨w2.heap.size, 0, none⟩ = some (.string op) ∧ w'.cell? ⟨w2.heap.size, 1, none⟩ = some (.string tx) ∧ w'.cell? ⟨w2.heap.size, 2, none⟩ = some (.slice X n m)) ∧ Oth w.heap.size w6 w')
      (first | assumption | (exact ⟨FQ.out _ HO.out.drew, HO.out.drew⟩) | (exact ⟨FQ.out _ HO.out, HO.out⟩) | (refine (fun hS9 : Oth w.heap.size w6 _ => ⟨FQ.out _ hS9, hS9⟩) (((HO.out.setCell _ rfl _).setCell _ rfl _).setCell _ rfl _).drew))
      (fail)
    go_wp2
    obtain rfl : q = (x, j, 0) := by have := HQ.out; simpa using this.symm
    have Y := N2.out.set (.string op) (.string tx) (.slice X n m)
    have h6 : w6.heap.size = w2.heap.size + 1 := by rw [← hw6]; simp
    exact bodyPost_ret (v := .tuple #[.agg #[.string op, .string tx, .slice X n m], .int .i64 j, .int .i64 0]) (by simp [results, Try.results26, go_sem, Y.c0, Y.c1, Y.c2]) rfl
      ⟨op, tx, X, n, m, rfl, NIn.keep (w := W3 w6 w.heap.size (.string op) (.string tx) (.slice X n m)) (w' := (W3 w6 w.heap.size (.string op) (.string tx) (.slice X n m)).drew) (fun g hg => ⟨by have := hg.1; omega, by show g < (W3 w6 w.heap.size (.string op) (.string tx) (.slice X n m)).heap.size; rw [W3.size, h6]; have := hg.2; omega⟩) (fun _ _ _ => rfl) _ _ _ _ (W3.nin I2.out (fun hg => Nat.lt_irrefl _ hg.1) _ _ _), (((B2.out.setCell (Nat.le_refl _) _).setCell (Nat.le_refl _) _).setCell (Nat.le_refl _) _).drew⟩
  · go_upto_region 6 with fail
    go_region_held3 (fun w' => (w'.cell? ⟨w.heap.size + 1, 1, none⟩ = some (.int .i64 j) ∧ w'.cell? ⟨w2.heap.size, 0, none⟩ = some (.string op) ∧ w'.cell? ⟨w2.heap.size, 1, none⟩ = some (.string tx) ∧ w'.cell? ⟨w2.heap.size, 2, none⟩ = some (.slice X n m)) ∧ Oth w.heap.size w6 w')
      (first | assumption | (exact ⟨FQ.out _ HO.out.drew, HO.out.drew⟩) | (exact ⟨FQ.out _ HO.out, HO.out⟩) | (refine (fun hS9 : Oth w.heap.size w6 _ => ⟨FQ.out _ hS9, hS9⟩) (((HO.out.setCell _ rfl _).setCell _ rfl _).setCell _ rfl _).drew))
      (fail)
    go_wp2
    obtain rfl : q = (zeroT, j, 91) := by have := HQ.out; simpa using this.symm
    have Y := N2.out.set (.string ⟨#[]⟩) (.string ⟨#[]⟩) (.slice none 0 0)
    exact bodyPost_ret (v := .tuple #[.agg #[.string ⟨#[]⟩, .string ⟨#[]⟩, .slice none 0 0], .int .i64 j, .int .i64 91]) (by simp [results, Try.results26, go_sem, Y.c0, Y.c1, Y.c2]) rfl
      ⟨⟨#[]⟩, ⟨#[]⟩, none, 0, 0, rfl, ⟨rfl, rfl, rfl⟩, (((B2.out.setCell (Nat.le_refl _) _).setCell (Nat.le_refl _) _).setCell (Nat.le_refl _) _).drew⟩
end Go.Proofs.Ytkibacolnagkcaa.Code
/-
  The document's Parse: a text's node, or what is wrong, and where.
-/
namespace Go.Proofs.Ytkibacolnagkcaa.Code
open Go.ChangeShapes Go.WideShapes Go.ChangeAt Go.RowKit Val Elems
set_option linter.unusedVariables false
set_option linter.unusedSimpArgs false
set_option maxHeartbeats 4000000 in
set_option maxRecDepth 100000 in
theorem rread_none (A : Option Addr) (cap : Nat) (w : World) :
    Calls Try.prog 26 #[.slice A 0 cap, .int .i64 0] w (ReadPost w (zeroT, 0, 91)) := by
  go_enter Try.func26, Try.ntmps26
  go_wp2
  have Y := NBox.fresh w (.string ⟨#[]⟩) (.string ⟨#[]⟩) (.slice none 0 0) 24
  exact bodyPost_ret (v := .tuple #[.agg #[.string ⟨#[]⟩, .string ⟨#[]⟩, .slice none 0 0], .int .i64 0, .int .i64 91]) (by simp [results, Try.results26, go_sem, Y.c0, Y.c1, Y.c2]) rfl
    ⟨⟨#[]⟩, ⟨#[]⟩, none, 0, 0, rfl, ⟨rfl, rfl, rfl⟩, (Below.refl _ _).alloc (Nat.le_refl _) _⟩
def ParsePost (w : World) (res : Tr × Int × Int) (e : Ending) (w' : World) : Prop :=
  ∃ (op tx : ByteArray) (X : Option Addr) (n m : Nat), e = .returned (.tuple #[.agg #[.string op, .string tx, .slice X n m], .int .i64 res.2.1, .int .i64 res.2.2]) ∧ NIn w' (New w w') res.1 (.string op) (.string tx) (.slice X n m) ∧ Below w.heap.size w w'
/-- what Words answers, by letters -/
def WordsIs (s : ByteArray) (l : List W) (p ee : Int) : Prop := ∀ w, Calls Try.prog 25 #[.string s] w (fun e w' => ∃ (A : Option Addr) (cap : Nat), e = .returned (.tuple #[.slice A l.length cap, .int .i64 p, .int .i64 ee]) ∧ At wc 3 w' w'.heap.size A l ∧ Below w.heap.size w w')
theorem words_is (s : ByteArray) (hs : s.size ≤ 4194304) : WordsIs s (wL s.data.toList) (wP s.data.toList) (wE s.data.toList) := fun w => rwords_any s w hs
set_option maxHeartbeats 4000000 in
set_option maxRecDepth 100000 in
theorem rparse_lex (s : ByteArray) (w : World) (j : Int) (hw : WordsIs s [] j 81) :
    Calls Try.prog 16 #[.string s] w (ParsePost w (zeroT, j, 81)) := by
  have HW := Lib.hid hw
  clear hw
  go_enter Try.func16, Try.ntmps16
  have N0 := Lib.hid (NBox.fresh w (.string ⟨#[]⟩) (.string ⟨#[]⟩) (.slice none 0 0) 24)
  have B0 := Lib.hid ((Below.refl w.heap.size w).alloc (Nat.le_refl _) (.cells #[.string ⟨#[]⟩, .string ⟨#[]⟩, .slice none 0 0] 24))
  go_wp2_with fail
  refine (HW.out _).mono ?_
  rintro e w1 ⟨A, cap, rfl, hat, hb1⟩
  have N1 := Lib.hid (N0.out.below hb1)
  have B1 := Lib.hid (B0.out.trans (hb1.mono (by simp)))
  have A1 := Lib.hid hat
  have z1 := N1.out.lt
  clear hb1 hat
  obtain ⟨x0, x1, x2, xf⟩ := N1.out
  go_wp2
  have N3 := N1
  have B3 := B1
  replace N3 := Lib.hid N3.out
  have Y := N3.out.set (.string ⟨#[]⟩) (.string ⟨#[]⟩) (.slice none 0 0)
  exact bodyPost_ret (v := .tuple #[.agg #[.string ⟨#[]⟩, .string ⟨#[]⟩, .slice none 0 0], .int .i64 j, .int .i64 81]) (by simp [results, Try.results16, go_sem, Y.c0, Y.c1, Y.c2]) rfl
    ⟨⟨#[]⟩, ⟨#[]⟩, none, 0, 0, rfl, ⟨rfl, rfl, rfl⟩, ((B3.out.setCell (Nat.le_refl _) _).setCell (Nat.le_refl _) _).setCell (Nat.le_refl _) _⟩
set_option maxHeartbeats 4000000 in
set_option maxRecDepth 100000 in
theorem rparse_bad (s : ByteArray) (w : World) (l : List W) (hw : WordsIs s l 0 0) (x : Tr) (j : Nat) (hr : ∀ A cap w, At wc 3 w w.heap.size A l → Calls Try.prog 26 #[.slice A l.length cap, .int .i64 0] w (ReadPost w (x, j, 91))) (hl : l.length ≤ 4194304) (hj : j ≤ l.length) :
    Calls Try.prog 16 #[.string s] w (ParsePost w (zeroT, placeL s.size l j, 91)) := by
  have HW := Lib.hid hw
  have HR := Lib.hid hr
  have HP := Lib.hid (fun (A : Option Addr) (cap : Nat) (w : World) h => rplace_any s A cap l j w h hl hj)
  obtain ⟨p, hp⟩ : ∃ p, placeL s.size l j = p := ⟨_, rfl⟩
  rw [hp] at HP ⊢
  clear hw hr hp
  go_enter Try.func16, Try.ntmps16
  have N0 := Lib.hid (NBox.fresh w (.string ⟨#[]⟩) (.string ⟨#[]⟩) (.slice none 0 0) 24)
  have B0 := Lib.hid ((Below.refl w.heap.size w).alloc (Nat.le_refl _) (.cells #[.string ⟨#[]⟩, .string ⟨#[]⟩, .slice none 0 0] 24))
  go_wp2_with fail
  refine (HW.out _).mono ?_
  rintro e w1 ⟨A, cap, rfl, hat, hb1⟩
  have N1 := Lib.hid (N0.out.below hb1)
  have B1 := Lib.hid (B0.out.trans (hb1.mono (by simp)))
  have A1 := Lib.hid hat
  have z1 := N1.out.lt
  clear hb1 hat
  go_wp2_with fail
  refine (HR.out A cap _ A1.out).mono ?_
  rintro e w2 ⟨op, tx, X, n, m, rfl, hn2, hb2⟩
  have N2 := Lib.hid ((N1.out.below hb2).alloc (.cells #[.string op, .string tx, .slice X n m] 24))
  have B2 := Lib.hid ((B1.out.trans (hb2.mono (by omega))).alloc (by have := hb2.size; omega) (.cells #[.string op, .string tx, .slice X n m] 24))
  have A2 := Lib.hid (show At wc 3 (w2.alloc (.cells #[.string op, .string tx, .slice X n m] 24)) (w2.alloc (.cells #[.string op, .string tx, .slice X n m] 24)).heap.size A l from ((((A1.out.below hb2).more hb2.size).below ((Below.refl _ _).alloc (Nat.le_refl _) (.cells #[.string op, .string tx, .slice X n m] 24))).more (by simp)))
  have I2 := Lib.hid ((hn2.imp (S' := fun g => w.heap.size < g ∧ g < w2.heap.size) (fun g hg => ⟨by have := hg.1; omega, hg.2⟩)).alloc (fun g hg => hg.2) (.cells #[.string op, .string tx, .slice X n m] 24))
  have V2 := Lib.hid (NBox.fresh w2 (.string op) (.string tx) (.slice X n m) 24)
  have z2 := hb2.size
  have zn := N2.out.lt
  clear hb2 hn2
  obtain ⟨x0, x1, x2, xf⟩ := N2.out
  have A3 := A2
  go_wp2_with fail
  refine (HP.out A cap _ A2.out).mono ?_
  rintro e w3 ⟨rfl, hb3⟩
  have N3 := Lib.hid (N2.out.below hb3)
  have B3 := Lib.hid (B2.out.trans (hb3.mono (by omega)))
  have z3 := N3.out.lt
  clear hb3 x0 x1 x2 xf
  obtain ⟨x0, x1, x2, xf⟩ := N3.out
  go_wp2
  have Y := N3.out.set (.string ⟨#[]⟩) (.string ⟨#[]⟩) (.slice none 0 0)
  exact bodyPost_ret (v := .tuple #[.agg #[.string ⟨#[]⟩, .string ⟨#[]⟩, .slice none 0 0], .int .i64 p, .int .i64 91]) (by simp [results, Try.results16, go_sem, Y.c0, Y.c1, Y.c2]) rfl
    ⟨⟨#[]⟩, ⟨#[]⟩, none, 0, 0, rfl, ⟨rfl, rfl, rfl⟩, ((B3.out.setCell (Nat.le_refl _) _).setCell (Nat.le_refl _) _).setCell (Nat.le_refl _) _⟩
set_option maxHeartbeats 4000000 in
set_option maxRecDepth 100000 in
theorem rparse_short (s : ByteArray) (w : World) (l : List W) (hw : WordsIs s l 0 0) (x : Tr) (j : Nat) (hr : ∀ A cap w, At wc 3 w w.heap.size A l → Calls Try.prog 26 #[.slice A l.length cap, .int .i64 0] w (ReadPost w (x, j, 0))) (hl : l.length ≤ 4194304) (hj : j < l.length) :
    Calls Try.prog 16 #[.string s] w (ParsePost w (zeroT, placeL s.size l j, 91)) := by
  have HW := Lib.hid hw
  have HR := Lib.hid hr
  have HP := Lib.hid (fun (A : Option Addr) (cap : Nat) (w : World) h => rplace_any s A cap l j w h hl (Nat.le_of_lt hj))
  obtain ⟨p, hp⟩ : ∃ p, placeL s.size l j = p := ⟨_, rfl⟩
  rw [hp] at HP ⊢
  have e1 : decide ((j : Int) < (l.length : Int)) = true := by simp; omega
  clear hw hr hp
  go_enter Try.func16, Try.ntmps16
  have N0 := Lib.hid (NBox.fresh w (.string ⟨#[]⟩) (.string ⟨#[]⟩) (.slice none 0 0) 24)
  have B0 := Lib.hid ((Below.refl w.heap.size w).alloc (Nat.le_refl _) (.cells #[.string ⟨#[]⟩, .string ⟨#[]⟩, .slice none 0 0] 24))
  go_wp2_with fail
  refine (HW.out _).mono ?_
  rintro e w1 ⟨A, cap, rfl, hat, hb1⟩
  have N1 := Lib.hid (N0.out.below hb1)
  have B1 := Lib.hid (B0.out.trans (hb1.mono (by simp)))
  have A1 := Lib.hid hat
  have z1 := N1.out.lt
  clear hb1 hat
  go_wp2_with fail
  refine (HR.out A cap _ A1.out).mono ?_
  rintro e w2 ⟨op, tx, X, n, m, rfl, hn2, hb2⟩
  have N2 := Lib.hid ((N1.out.below hb2).alloc (.cells #[.string op, .string tx, .slice X n m] 24))
  have B2 := Lib.hid ((B1.out.trans (hb2.mono (by omega))).alloc (by have := hb2.size; omega) (.cells #[.string op, .string tx, .slice X n m] 24))
  have A2 := Lib.hid (show At wc 3 (w2.alloc (.cells #[.string op, .string tx, .slice X n m] 24)) (w2.alloc (.cells #[.string op, .string tx, .slice X n m] 24)).heap.size A l from ((((A1.out.below hb2).more hb2.size).below ((Below.refl _ _).alloc (Nat.le_refl _) (.cells #[.string op, .string tx, .slice X n m] 24))).more (by simp)))
  have I2 := Lib.hid ((hn2.imp (S' := fun g => w.heap.size < g ∧ g < w2.heap.size) (fun g hg => ⟨by have := hg.1; omega, hg.2⟩)).alloc (fun g hg => hg.2) (.cells #[.string op, .string tx, .slice X n m] 24))
  have V2 := Lib.hid (NBox.fresh w2 (.string op) (.string tx) (.slice X n m) 24)
  have z2 := hb2.size
  have zn := N2.out.lt
  clear hb2 hn2
  obtain ⟨x0, x1, x2, xf⟩ := N2.out
  have A3 := A2
  go_wp2_with fail
  refine (HP.out A cap _ A2.out).mono ?_
  rintro e w3 ⟨rfl, hb3⟩
  have N3 := Lib.hid (N2.out.below hb3)
  have B3 := Lib.hid (B2.out.trans (hb3.mono (by omega)))
  have z3 := N3.out.lt
  clear hb3 x0 x1 x2 xf
  obtain ⟨x0, x1, x2, xf⟩ := N3.out
  go_wp2
  have Y := N3.out.set (.string ⟨#[]⟩) (.string ⟨#[]⟩) (.slice none 0 0)
  exact bodyPost_ret (v := .tuple #[.agg #[.string ⟨#[]⟩, .string ⟨#[]⟩, .slice none 0 0], .int .i64 p, .int .i64 91]) (by simp [results, Try.results16, go_sem, Y.c0, Y.c1, Y.c2]) rfl
    ⟨⟨#[]⟩, ⟨#[]⟩, none, 0, 0, rfl, ⟨rfl, rfl, rfl⟩, ((B3.out.setCell (Nat.le_refl _) _).setCell (Nat.le_refl _) _).setCell (Nat.le_refl _) _⟩
set_option maxHeartbeats 4000000 in
set_option maxRecDepth 100000 in
theorem rparse_deep (s : ByteArray) (w : World) (l : List W) (hw : WordsIs s l 0 0) (x : Tr) (hr : ∀ A cap w, At wc 3 w w.heap.size A l → Calls Try.prog 26 #[.slice A l.length cap, .int .i64 0] w (ReadPost w (x, l.length, 0))) (hd : x.deep ≤ 1000000000) (h16 : 16 < x.deep) :
    Calls Try.prog 16 #[.string s] w (ParsePost w (zeroT, 0, 92)) := by
  have HW := Lib.hid hw
  have HR := Lib.hid hr
  have HD := Lib.hid (rdeep_any 1000000000 x hd (Nat.le_refl _))
  obtain ⟨d, hdd⟩ : ∃ d, x.deep = d := ⟨_, rfl⟩
  rw [hdd] at HD h16 hd
  clear hw hr hdd
  have e1 : decide ((16 : Int) < (d : Int)) = true := by simp; omega
  go_enter Try.func16, Try.ntmps16
  have N0 := Lib.hid (NBox.fresh w (.string ⟨#[]⟩) (.string ⟨#[]⟩) (.slice none 0 0) 24)
  have B0 := Lib.hid ((Below.refl w.heap.size w).alloc (Nat.le_refl _) (.cells #[.string ⟨#[]⟩, .string ⟨#[]⟩, .slice none 0 0] 24))
  go_wp2_with fail
  refine (HW.out _).mono ?_
  rintro e w1 ⟨A, cap, rfl, hat, hb1⟩
  have N1 := Lib.hid (N0.out.below hb1)
  have B1 := Lib.hid (B0.out.trans (hb1.mono (by simp)))
  have A1 := Lib.hid hat
  have z1 := N1.out.lt
  clear hb1 hat
  go_wp2_with fail
  refine (HR.out A cap _ A1.out).mono ?_
  rintro e w2 ⟨op, tx, X, n, m, rfl, hn2, hb2⟩
  have N2 := Lib.hid ((N1.out.below hb2).alloc (.cells #[.string op, .string tx, .slice X n m] 24))
  have B2 := Lib.hid ((B1.out.trans (hb2.mono (by omega))).alloc (by have := hb2.size; omega) (.cells #[.string op, .string tx, .slice X n m] 24))
  have A2 := Lib.hid (show At wc 3 (w2.alloc (.cells #[.string op, .string tx, .slice X n m] 24)) (w2.alloc (.cells #[.string op, .string tx, .slice X n m] 24)).heap.size A l from ((((A1.out.below hb2).more hb2.size).below ((Below.refl _ _).alloc (Nat.le_refl _) (.cells #[.string op, .string tx, .slice X n m] 24))).more (by simp)))
  have I2 := Lib.hid ((hn2.imp (S' := fun g => w.heap.size < g ∧ g < w2.heap.size) (fun g hg => ⟨by have := hg.1; omega, hg.2⟩)).alloc (fun g hg => hg.2) (.cells #[.string op, .string tx, .slice X n m] 24))
  have V2 := Lib.hid (NBox.fresh w2 (.string op) (.string tx) (.slice X n m) 24)
  have z2 := hb2.size
  have zn := N2.out.lt
  clear hb2 hn2
  obtain ⟨x0, x1, x2, xf⟩ := N2.out
  obtain ⟨v0, v1, v2, vf⟩ := V2.out
  go_wp2_with fail
  refine (HD.out _ _ _ _ _ _ _ (fun g hg => by have := hg.2; simp; omega) I2.out).mono ?_
  rintro e w3 ⟨rfl, hb3⟩
  have N3 := Lib.hid (N2.out.below hb3)
  have V3 := Lib.hid (V2.out.below hb3)
  have I3 := Lib.hid (I2.out.below (fun g hg => by have := hg.2; simp; omega) hb3)
  have B3 := Lib.hid (B2.out.trans (hb3.mono (by omega)))
  have z3 := N3.out.lt
  have z4 : w2.heap.size < w3.heap.size := V3.out.lt
  clear hb3 x0 x1 x2 xf v0 v1 v2 vf
  obtain ⟨x0, x1, x2, xf⟩ := N3.out
  obtain ⟨v0, v1, v2, vf⟩ := V3.out
  go_wp2
  have Y := N3.out.set (.string ⟨#[]⟩) (.string ⟨#[]⟩) (.slice none 0 0)
  exact bodyPost_ret (v := .tuple #[.agg #[.string ⟨#[]⟩, .string ⟨#[]⟩, .slice none 0 0], .int .i64 0, .int .i64 92]) (by simp [results, Try.results16, go_sem, Y.c0, Y.c1, Y.c2]) rfl
    ⟨⟨#[]⟩, ⟨#[]⟩, none, 0, 0, rfl, ⟨rfl, rfl, rfl⟩, ((B3.out.setCell (Nat.le_refl _) _).setCell (Nat.le_refl _) _).setCell (Nat.le_refl _) _⟩
set_option maxHeartbeats 4000000 in
set_option maxRecDepth 100000 in
theorem rparse_ok (s : ByteArray) (w : World) (l : List W) (hw : WordsIs s l 0 0) (x : Tr) (hr : ∀ A cap w, At wc 3 w w.heap.size A l → Calls Try.prog 26 #[.slice A l.length cap, .int .i64 0] w (ReadPost w (x, l.length, 0))) (hd : x.deep ≤ 1000000000) (h16 : x.deep ≤ 16) :
    Calls Try.prog 16 #[.string s] w (ParsePost w (x, 0, 0)) := by
  have HW := Lib.hid hw
  have HR := Lib.hid hr
  have HD := Lib.hid (rdeep_any 1000000000 x hd (Nat.le_refl _))
  obtain ⟨d, hdd⟩ : ∃ d, x.deep = d := ⟨_, rfl⟩
  rw [hdd] at HD h16 hd
  clear hw hr hdd
  have e1 : decide ((16 : Int) < (d : Int)) = false := by simp; omega
  go_enter Try.func16, Try.ntmps16
  have N0 := Lib.hid (NBox.fresh w (.string ⟨#[]⟩) (.string ⟨#[]⟩) (.slice none 0 0) 24)
  have B0 := Lib.hid ((Below.refl w.heap.size w).alloc (Nat.le_refl _) (.cells #[.string ⟨#[]⟩, .string ⟨#[]⟩, .slice none 0 0] 24))
  go_wp2_with fail
  refine (HW.out _).mono ?_
  rintro e w1 ⟨A, cap, rfl, hat, hb1⟩
  have N1 := Lib.hid (N0.out.below hb1)
  have B1 := Lib.hid (B0.out.trans (hb1.mono (by simp)))
  have A1 := Lib.hid hat
  have z1 := N1.out.lt
  clear hb1 hat
  go_wp2_with fail
  refine (HR.out A cap _ A1.out).mono ?_
  rintro e w2 ⟨op, tx, X, n, m, rfl, hn2, hb2⟩
  have N2 := Lib.hid ((N1.out.below hb2).alloc (.cells #[.string op, .string tx, .slice X n m] 24))
  have B2 := Lib.hid ((B1.out.trans (hb2.mono (by omega))).alloc (by have := hb2.size; omega) (.cells #[.string op, .string tx, .slice X n m] 24))
  have A2 := Lib.hid (show At wc 3 (w2.alloc (.cells #[.string op, .string tx, .slice X n m] 24)) (w2.alloc (.cells #[.string op, .string tx, .slice X n m] 24)).heap.size A l from ((((A1.out.below hb2).more hb2.size).below ((Below.refl _ _).alloc (Nat.le_refl _) (.cells #[.string op, .string tx, .slice X n m] 24))).more (by simp)))
  have I2 := Lib.hid ((hn2.imp (S' := fun g => w.heap.size < g ∧ g < w2.heap.size) (fun g hg => ⟨by have := hg.1; omega, hg.2⟩)).alloc (fun g hg => hg.2) (.cells #[.string op, .string tx, .slice X n m] 24))
  have V2 := Lib.hid (NBox.fresh w2 (.string op) (.string tx) (.slice X n m) 24)
  have z2 := hb2.size
  have zn := N2.out.lt
  clear hb2 hn2
  obtain ⟨x0, x1, x2, xf⟩ := N2.out
  obtain ⟨v0, v1, v2, vf⟩ := V2.out
  go_wp2_with fail
  refine (HD.out _ _ _ _ _ _ _ (fun g hg => by have := hg.2; simp; omega) I2.out).mono ?_
  rintro e w3 ⟨rfl, hb3⟩
  have N3 := Lib.hid (N2.out.below hb3)
  have V3 := Lib.hid (V2.out.below hb3)
  have I3 := Lib.hid (I2.out.below (fun g hg => by have := hg.2; simp; omega) hb3)
  have B3 := Lib.hid (B2.out.trans (hb3.mono (by omega)))
  have z3 := N3.out.lt
  have z4 : w2.heap.size < w3.heap.size := V3.out.lt
  clear hb3 x0 x1 x2 xf v0 v1 v2 vf
  obtain ⟨x0, x1, x2, xf⟩ := N3.out
  obtain ⟨v0, v1, v2, vf⟩ := V3.out
  go_wp2
  have Y := N3.out.set (.string op) (.string tx) (.slice X n m)
  exact bodyPost_ret (v := .tuple #[.agg #[.string op, .string tx, .slice X n m], .int .i64 0, .int .i64 0]) (by simp [results, Try.results16, go_sem, Y.c0, Y.c1, Y.c2]) rfl
    ⟨op, tx, X, n, m, rfl, (W3.nin (w := w3) I3.out (fun hg => Nat.lt_irrefl _ hg.1) (.string op) (.string tx) (.slice X n m)).imp (fun g hg => ⟨Nat.le_of_lt hg.1, by show g < (W3 w3 w.heap.size (.string op) (.string tx) (.slice X n m)).heap.size; rw [W3.size]; have := hg.2; omega⟩), ((B3.out.setCell (Nat.le_refl _) _).setCell (Nat.le_refl _) _).setCell (Nat.le_refl _) _⟩
theorem bytes_len (s : ByteArray) : s.data.toList.length = s.size := Array.length_toList
/-- the document's Parse, of any text -/
theorem rparse_any (s : ByteArray) (hs : s.size ≤ 4194304) (w : World) :
    Calls Try.prog 16 #[.string s] w (ParsePost w (parseL s.data.toList)) := by
  have hw := words_is s hs
  have hL := bytes_len s
  unfold parseL
  cases e : wordsL s.data.toList 0 with
  | error j =>
    have h1 : wL s.data.toList = [] := by unfold wL; rw [e]
    have h2 : wP s.data.toList = j := by unfold wP; rw [e]
    have h3 : wE s.data.toList = 81 := by unfold wE; rw [e]
    rw [h1, h2, h3] at hw
    exact rparse_lex s w j hw
  | ok l =>
    have h1 : wL s.data.toList = l := by unfold wL; rw [e]
    have h2 : wP s.data.toList = 0 := by unfold wP; rw [e]
    have h3 : wE s.data.toList = 0 := by unfold wE; rw [e]
    rw [h1, h2, h3] at hw
    have hlen := words_len _ _ _ e
    have hcf := came_fig (words_came _ _ _ e)
    have hfg : FigW l := fun v hv hk => ⟨(hcf v hv hk).1, by have := (hcf v hv hk).2; omega⟩
    have hl : l.length ≤ 4194304 := by omega
    show Calls Try.prog 16 #[.string s] w (ParsePost w (parseW s.data.toList.length l))
    rw [hL]
    by_cases hl0 : l = []
    · subst hl0
      have := rparse_bad s w [] hw zeroT 0 (fun A cap w _ => rread_none A cap w) hl (Nat.zero_le _)
      exact this
    · have hpos : 0 < l.length := List.length_pos_iff.2 hl0
      obtain ⟨R, hx⟩ : ∃ R, fromP (bare l) 0 = R := ⟨_, rfl⟩
      obtain ⟨x, j, b⟩ := R
      have htop : topP (bare l) = (x, j, b) := hx
      have hrd : readN l 0 = if b = true then (zeroT, j, 91) else (x, j, 0) := by unfold readN; rw [hx]
      have hr := fun (A : Option Addr) (cap : Nat) (w : World) h => rread_any A cap l 0 w h hl hfg hpos
      rw [hrd] at hr
      have hj : j ≤ l.length := by have := top_le (bare l); rw [htop, bare_length] at this; exact this
      have hd : x.deep ≤ 1 + l.length := by have := top_deep (bare l); rw [htop, bare_length] at this; exact this
      unfold parseW
      rw [if_neg hl0, htop]
      cases b
      · by_cases hjl : j < l.length
        · rw [if_pos (Or.inr hjl)]
          exact rparse_short s w l hw x j hr hl hjl
        · obtain rfl : j = l.length := by omega
          rw [if_neg (by simp)]
          by_cases h16 : 16 < x.deep
          · rw [if_pos h16]
            exact rparse_deep s w l hw x hr (by omega) h16
          · rw [if_neg h16]
            exact rparse_ok s w l hw x hr (by omega) (by omega)
      · rw [if_pos (Or.inl rfl)]
        exact rparse_bad s w l hw zeroT j hr hl hj
end Go.Proofs.Ytkibacolnagkcaa.Code
