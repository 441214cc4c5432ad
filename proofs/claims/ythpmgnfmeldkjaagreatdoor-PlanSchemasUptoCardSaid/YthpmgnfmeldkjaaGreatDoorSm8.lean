/-
  The document's reader of expressions: the other half of a test.
-/
import Derived.Test.YthpmgnfmeldkjaaGreatDoorSm4
set_option maxRecDepth 100000
set_option maxHeartbeats 16000000
set_option linter.unusedVariables false
set_option linter.unusedSimpArgs false
open Go.Lib (hid)
namespace Go.Proofs.YthpmgnfmeldkjaaGreatDoor.Code
open Go.ChangeShapes Go.WideShapes Go.ChangeAt Go.RowKit Val Elems
theorem Reads.since {r : Nat} {A : Option Addr} {cap : Nat} {l : List W} {w : World} {S : Nat → Prop} {res : Tr × Nat × Bool} {e : Ending} {w' : World} {o : Obj} (h : Reads r A cap l (w.alloc o) S res e w') : Reads r A cap l w S res e w' := by
 obtain ⟨op, tx, X, n, m, he, hn, hb, hr⟩ := h
 refine ⟨op, tx, X, n, m, he, hn.imp fun g hg => ?_, ((But.refl w r).alloc o).trans hb, hr⟩
 rcases hg with hg | hg
 ·exact .inl hg
 ·exact .inr ⟨by have := hg.1; simp at this; omega, hg.2⟩
theorem ret_one0 {r : Nat} {A : Option Addr} {cap : Nat} {l : List W} {w w2 : World} {S S2 : Nat → Prop} {x : Tr} {j : Nat} {b : Bool} {op tx : ByteArray} {X : Option Addr} {n m : Nat} (o : ByteArray) (hn : NIn w2 S2 x (.string op) (.string tx) (.slice X n m)) (hS : ∀ g, S2 g → g < w2.heap.size ∧ g ≠ w.heap.size ∧ (S g ∨ w.heap.size ≤ g)) (hb : But w w2 r) (hr : Rdr w2 r A cap l j b) (hrl : r < w.heap.size) (t : TypeId) :
  Reads r A cap l w S (.one o.data.toList x, j, b) (.returned (.agg #[.string o, .string ⟨#[]⟩, .slice (some ⟨w2.heap.size, 0, none⟩) 1 1])) ((W3 w2 w.heap.size (.string o) (.string ⟨#[]⟩) (.slice (some ⟨w2.heap.size, 0, none⟩) 1 1)).alloc (.cells #[.string op, .string tx, .slice X n m] t)) := by
 have hz := hb.size
 obtain ⟨W, hW⟩ : ∃ W, W3 w2 w.heap.size (.string o) (.string ⟨#[]⟩) (.slice (some ⟨w2.heap.size, 0, none⟩) 1 1) = W := ⟨_, rfl⟩
 have hs : W.heap.size = w2.heap.size := by rw [← hW, W3.size]
 have h1 : NIn W S2 x (.string op) (.string tx) (.slice X n m) := by rw [← hW]; exact W3.nin hn (fun h => (hS _ h).2.1 rfl) _ _ _
 have hB : But w W r := by rw [← hW]; exact W3.but hb (Nat.le_refl _) _ _ _
 have hR : Rdr W r A cap l j b := by rw [← hW]; exact W3.rdr hr hrl _ _ _
 rw [hW]
 have h2 := NIn.one o h1 (fun g hg => by have := (hS g hg).1; omega) (S' := fun g => S g ∨ New w (W.alloc (.cells #[.string op, .string tx, .slice X n m] t)) g) (fun g hg => by
  obtain ⟨a1, a2, a3⟩ := hS g hg
  rcases a3 with a3 | a3
  ·exact .inl a3
  ·exact .inr ⟨a3, by simp [hs]; omega⟩) (.inr ⟨by rw [hs]; omega, by simp⟩) t
 rw [hs] at h2
 exact ⟨o, ⟨#[]⟩, _, 1, 1, rfl, h2, hB.alloc _, hR.alloc _⟩
section
variable {r : Nat} {A : Option Addr} {cap : Nat} {l : List W} {f : Nat}
theorem test_does (D : Does r A cap l f) (S : Nat → Prop) (t : Tr) (op tx : ByteArray) (X : Option Addr) (n m : Nat) (i : Nat) (b : Bool) (w : World) (hS : ∀ g, S g → g < w.heap.size ∧ g ≠ r) (hn : NIn w S t (.string op) (.string tx) (.slice X n m)) (hi : i ≤ l.length) (hl : l.length ≤ 4194304) (hm : mu (bare l) (.test t) i < f + 1) (h : Rdr w r A cap l i b) :
  Calls Tryz.prog 203 #[.pointer (some ⟨r, 0, none⟩), .agg #[.string op, .string tx, .slice X n m]] w (Reads r A cap l w S (P (bare l) (f + 1) (.test t) i b)) := by
 obtain ⟨w0, hw0⟩ : ∃ w0, w.alloc (.cells #[.string op, .string tx, .slice X n m] 24) = w0 := ⟨_, rfl⟩
 have hz0 : w0.heap.size = w.heap.size + 1 := by rw [← hw0]; simp
 have V0 := hid (show NBox w0 w.heap.size (.string op) (.string tx) (.slice X n m) by rw [← hw0]; exact NBox.fresh _ _ _ _ _)
 have H0 := hid (show Rdr w0 r A cap l i b by rw [← hw0]; exact h.alloc _)
 have K0 := hid (show NIn w0 S t (.string op) (.string tx) (.slice X n m) by rw [← hw0]; exact hn.alloc (fun g hg => (hS g hg).1) _)
 have hrl := h.lt
 have hrl0 : r < w0.heap.size := by omega
 have HSS := hid hS
 refine Calls.mono (R := Reads r A cap l w0 S (P (bare l) (f + 1) (.test t) i b)) ?_ (fun e w' hR => by rw [← hw0] at hR; exact hR.since)
 obtain ⟨q, hq⟩ : ∃ q, oneL (bare l) i b (opsL 4) = q := ⟨_, rfl⟩
 have HOPS := hid (fun w => rops_any 4 (by omega) w)
 have HONE := hid (fun (S' : Option Addr) (c' : Nat) (w1 : World) (hr : Rdr w1 r A cap l i b) hs hne => rone_any r A cap l i b S' c' (opsL 4) w1 hr hi hl hs hne (by decide) (by decide) q hq)
 by_cases hq0 : q = []
 ·subst hq0
  rw [if_pos rfl] at HONE
  obtain ⟨q2, hq2⟩ : ∃ q2, isW (bare l) i b sIs = q2 := ⟨_, rfl⟩
  have HT := hid (fun w1 hr => rtake_any r A cap l i b ⟨#[105, 115]⟩ q2 hq2 w1 hr hi hl)
  cases q2
  ·have hP : P (bare l) (f + 1) (.test t) i b = (t, i, b) := by rw [P, if_pos hq, if_neg (by rw [hq2]; decide)]
   rw [hP]
   clear hP hq hq2 h hn hm D
   go_enter Tryz.func203, Tryz.ntmps203
   obtain ⟨w00, hw00⟩ : ∃ w00, w.alloc (.cells #[.string op, .string tx, .slice X n m] 24) = w00 := ⟨_, rfl⟩
   have N0 := hid (NBox.fresh w0 (.string ⟨#[]⟩) (.string ⟨#[]⟩) (.slice none 0 0) 24)
   have B0 := hid ((But.refl w0 r).alloc (.cells #[.string ⟨#[]⟩, .string ⟨#[]⟩, .slice none 0 0] 24))
   go_wp2_with fail
   refine (HOPS.out _).mono ?_
   rintro e w1 ⟨L1, c1, rfl, hs1, hg1, hb1⟩
   have N1 := hid (N0.out.below hb1)
   have B1 := hid (B0.out.next hb1)
   have R1 := hid ((H0.out.alloc (.cells #[.string ⟨#[]⟩, .string ⟨#[]⟩, .slice none 0 0] 24)).below hb1)
   have V1 := hid ((V0.out.alloc (.cells #[.string ⟨#[]⟩, .string ⟨#[]⟩, .slice none 0 0] 24)).below hb1)
   have K1 := hid ((K0.out.alloc (fun g hg => by have := (HSS.out g hg).1; omega) (.cells #[.string ⟨#[]⟩, .string ⟨#[]⟩, .slice none 0 0] 24)).below (fun g hg => by have := (HSS.out g hg).1; simp; omega) hb1)
   have S1 := hid hs1
   have G1 := hid (show ∀ ad, L1 = some ad → ad.block ≠ r from fun ad e => by have := hg1 ad e; simp at this; omega)
   have z1 : w0.heap.size < w1.heap.size := N1.out.lt
   clear hb1 hs1 hg1
   go_wp2_with fail
   refine (HONE.out L1 c1 _ R1.out S1.out G1.out).mono ?_
   rintro e w2 ⟨rfl, hb2, hr2⟩
   have N2 := hid (N1.out.but (by omega) hb2)
   have B2 := hid (B1.out.trans hb2)
   have R2 := hid hr2
   have V2 := hid (V1.out.but (by omega) hb2)
   have K2 := hid (K1.out.but (fun g hg => ⟨by have := (HSS.out g hg).1; omega, (HSS.out g hg).2⟩) hb2)
   have z2 : w1.heap.size ≤ w2.heap.size := hb2.size
   clear hb2 hr2 S1 G1
   go_wp2_with fail
   refine (HT.out _ R2.out).mono ?_
   rintro e w3 ⟨rfl, hb3, hr3⟩
   have N3 := hid (N2.out.but (by omega) hb3)
   have B3 := hid (B2.out.trans hb3)
   have R3 := hid hr3
   have V3 := hid (V2.out.but (by omega) hb3)
   have K3 := hid (K2.out.but (fun g hg => ⟨by have := (HSS.out g hg).1; omega, (HSS.out g hg).2⟩) hb3)
   have hs3 : w2.heap.size ≤ w3.heap.size := hb3.size
   clear hb3 hr3
   have NZ := N3.out
   rw [hz0] at NZ
   have zz := NZ.lt
   have zv := V3.out.lt
   obtain ⟨x0, x1, x2, xf⟩ := NZ
   obtain ⟨v0, v1, v2, vf⟩ := V3.out
   go_wp2
   have NZ := N3.out
   rw [hz0] at NZ
   have Y := NZ.set (.string op) (.string tx) (.slice X n m)
   exact bodyPost_ret (v := .agg #[.string op, .string tx, .slice X n m]) (by simp [results, Tryz.results203, go_sem, Y.c0, Y.c1, Y.c2]) rfl
    (by have hh := (ret_same K3.out (fun g hg => ⟨by have := (HSS.out g hg).1; omega, by have := (HSS.out g hg).1; omega, .inl hg⟩) B3.out R3.out hrl0); rw [hz0] at hh; exact hh)
  ·have hil := isW_len hq2
   obtain ⟨q3, hq3⟩ : ∃ q3, isW (bare l) (i + 1) b sNull = q3 := ⟨_, rfl⟩
   have HM := hid (fun w1 hr => rmust_any r A cap l (i + 1) b ⟨#[110, 117, 108, 108]⟩ q3 hq3 w1 hr hil hl)
   obtain ⟨j2, hj2⟩ : ∃ j2, (if q3 = true then i + 1 + 1 else i + 1) = j2 := ⟨_, rfl⟩
   obtain ⟨b2, hb2⟩ : ∃ b2, (if q3 = true then b else true) = b2 := ⟨_, rfl⟩
   have hP : P (bare l) (f + 1) (.test t) i b = (.one sIsNull t, j2, b2) := by
    rw [P, if_pos hq, if_pos hq2, hq3, ← hj2, ← hb2]
    cases q3 <;> rfl
   rw [hP]
   rw [hj2, hb2] at HM
   clear hP hq hq2 hq3 hj2 hb2 h hn hm D
   go_enter Tryz.func203, Tryz.ntmps203
   obtain ⟨w00, hw00⟩ : ∃ w00, w.alloc (.cells #[.string op, .string tx, .slice X n m] 24) = w00 := ⟨_, rfl⟩
   have N0 := hid (NBox.fresh w0 (.string ⟨#[]⟩) (.string ⟨#[]⟩) (.slice none 0 0) 24)
   have B0 := hid ((But.refl w0 r).alloc (.cells #[.string ⟨#[]⟩, .string ⟨#[]⟩, .slice none 0 0] 24))
   go_wp2_with fail
   refine (HOPS.out _).mono ?_
   rintro e w1 ⟨L1, c1, rfl, hs1, hg1, hb1⟩
   have N1 := hid (N0.out.below hb1)
   have B1 := hid (B0.out.next hb1)
   have R1 := hid ((H0.out.alloc (.cells #[.string ⟨#[]⟩, .string ⟨#[]⟩, .slice none 0 0] 24)).below hb1)
   have V1 := hid ((V0.out.alloc (.cells #[.string ⟨#[]⟩, .string ⟨#[]⟩, .slice none 0 0] 24)).below hb1)
   have K1 := hid ((K0.out.alloc (fun g hg => by have := (HSS.out g hg).1; omega) (.cells #[.string ⟨#[]⟩, .string ⟨#[]⟩, .slice none 0 0] 24)).below (fun g hg => by have := (HSS.out g hg).1; simp; omega) hb1)
   have S1 := hid hs1
   have G1 := hid (show ∀ ad, L1 = some ad → ad.block ≠ r from fun ad e => by have := hg1 ad e; simp at this; omega)
   have z1 : w0.heap.size < w1.heap.size := N1.out.lt
   clear hb1 hs1 hg1
   go_wp2_with fail
   refine (HONE.out L1 c1 _ R1.out S1.out G1.out).mono ?_
   rintro e w2 ⟨rfl, hb2, hr2⟩
   have N2 := hid (N1.out.but (by omega) hb2)
   have B2 := hid (B1.out.trans hb2)
   have R2 := hid hr2
   have V2 := hid (V1.out.but (by omega) hb2)
   have K2 := hid (K1.out.but (fun g hg => ⟨by have := (HSS.out g hg).1; omega, (HSS.out g hg).2⟩) hb2)
   have z2 : w1.heap.size ≤ w2.heap.size := hb2.size
   clear hb2 hr2 S1 G1
   go_wp2_with fail
   refine (HT.out _ R2.out).mono ?_
   rintro e w3 ⟨rfl, hb3, hr3⟩
   have N3 := hid (N2.out.but (by omega) hb3)
   have B3 := hid (B2.out.trans hb3)
   have R3 := hid hr3
   have V3 := hid (V2.out.but (by omega) hb3)
   have K3 := hid (K2.out.but (fun g hg => ⟨by have := (HSS.out g hg).1; omega, (HSS.out g hg).2⟩) hb3)
   have hs3 : w2.heap.size ≤ w3.heap.size := hb3.size
   clear hb3 hr3
   have NZ := N3.out
   rw [hz0] at NZ
   have zz := NZ.lt
   have zv := V3.out.lt
   obtain ⟨x0, x1, x2, xf⟩ := NZ
   obtain ⟨v0, v1, v2, vf⟩ := V3.out
   go_wp2_with fail
   refine (HM.out _ R3.out).mono ?_
   rintro e w4 ⟨rfl, hb4, hr4⟩
   have N4 := hid (N3.out.but (by omega) hb4)
   have B4 := hid (B3.out.trans hb4)
   have R4 := hid hr4
   have V4 := hid (V3.out.but (by omega) hb4)
   have K4 := hid (K3.out.but (fun g hg => ⟨by have := (HSS.out g hg).1; omega, (HSS.out g hg).2⟩) hb4)
   have hs4 : w3.heap.size ≤ w4.heap.size := hb4.size
   clear hb4 hr4
   have NZ := N4.out
   rw [hz0] at NZ
   have zz := NZ.lt
   have zv := V4.out.lt
   obtain ⟨x0, x1, x2, xf⟩ := NZ
   obtain ⟨v0, v1, v2, vf⟩ := V4.out
   go_wp2
   have NZ := N4.out
   rw [hz0] at NZ
   have Y := (NZ.set (.string ⟨#[105, 115, 32, 110, 117, 108, 108]⟩) (.string ⟨#[]⟩) (.slice (some ⟨w4.heap.size, 0, none⟩) 1 1)).alloc (.cells #[.string op, .string tx, .slice X n m] 24)
   exact bodyPost_ret (v := .agg #[.string ⟨#[105, 115, 32, 110, 117, 108, 108]⟩, .string ⟨#[]⟩, .slice (some ⟨w4.heap.size, 0, none⟩) 1 1]) (by simp [results, Tryz.results203, go_sem, Y.c0, Y.c1, Y.c2]) rfl
    (by have hh := (ret_one0 ⟨#[105, 115, 32, 110, 117, 108, 108]⟩ K4.out (fun g hg => ⟨by have := (HSS.out g hg).1; omega, by have := (HSS.out g hg).1; omega, .inl hg⟩) B4.out R4.out hrl0 24); rw [hz0] at hh; exact hh)
 ·rw [if_neg hq0] at HONE
  obtain ⟨hil, rfl⟩ := oneL_lt (show oneL (bare l) i b (opsL 4) ≠ [] by rw [hq]; exact hq0)
  have hmu := mu_next hil (.expr 5) (.test t) ⟨by omega, by omega⟩ (Nat.le_refl 1)
  rw [bare_length] at hil
  obtain ⟨y, j, b', hx⟩ : ∃ y j b', P (bare l) f (.expr 5) (i + 1) false = (y, j, b') := ⟨_, _, _, rfl⟩
  have HI := hid (fun w1 hr => D.expr 5 (i + 1) false w1 (by omega) (by omega) (by omega) (by omega) hr)
  rw [hx] at HI
  obtain ⟨Q, hQ⟩ : ∃ Q : ByteArray, ⟨q.toArray⟩ = Q := ⟨_, rfl⟩
  have hQq : q = Q.data.toList := by rw [← hQ]
  rw [hQ] at HONE
  have hQ1 : (Q.toList != []) = true := by
   rw [ByteArray.toList_eq, ← hQq]
   simpa using hq0
  have hQ0 : (Q.toList == []) = false := by
   rw [ByteArray.toList_eq, ← hQq]
   simpa using hq0
  have hP : P (bare l) (f + 1) (.test t) i false = (.two Q.data.toList t y, j, b') := by
   rw [P, hq, if_neg hq0, hx, hQq]
  rw [hP]
  clear hP hq hx hQ hQq hq0 hmu h hn hm D
  go_enter Tryz.func203, Tryz.ntmps203
  obtain ⟨w00, hw00⟩ : ∃ w00, w.alloc (.cells #[.string op, .string tx, .slice X n m] 24) = w00 := ⟨_, rfl⟩
  have N0 := hid (NBox.fresh w0 (.string ⟨#[]⟩) (.string ⟨#[]⟩) (.slice none 0 0) 24)
  have B0 := hid ((But.refl w0 r).alloc (.cells #[.string ⟨#[]⟩, .string ⟨#[]⟩, .slice none 0 0] 24))
  go_wp2_with fail
  refine (HOPS.out _).mono ?_
  rintro e w1 ⟨L1, c1, rfl, hs1, hg1, hb1⟩
  have N1 := hid (N0.out.below hb1)
  have B1 := hid (B0.out.next hb1)
  have R1 := hid ((H0.out.alloc (.cells #[.string ⟨#[]⟩, .string ⟨#[]⟩, .slice none 0 0] 24)).below hb1)
  have V1 := hid ((V0.out.alloc (.cells #[.string ⟨#[]⟩, .string ⟨#[]⟩, .slice none 0 0] 24)).below hb1)
  have K1 := hid ((K0.out.alloc (fun g hg => by have := (HSS.out g hg).1; omega) (.cells #[.string ⟨#[]⟩, .string ⟨#[]⟩, .slice none 0 0] 24)).below (fun g hg => by have := (HSS.out g hg).1; simp; omega) hb1)
  have S1 := hid hs1
  have G1 := hid (show ∀ ad, L1 = some ad → ad.block ≠ r from fun ad e => by have := hg1 ad e; simp at this; omega)
  have z1 : w0.heap.size < w1.heap.size := N1.out.lt
  clear hb1 hs1 hg1
  go_wp2_with fail
  refine (HONE.out L1 c1 _ R1.out S1.out G1.out).mono ?_
  rintro e w2 ⟨rfl, hb2, hr2⟩
  have N2 := hid (N1.out.but (by omega) hb2)
  have B2 := hid (B1.out.trans hb2)
  have R2 := hid hr2
  have V2 := hid (V1.out.but (by omega) hb2)
  have K2 := hid (K1.out.but (fun g hg => ⟨by have := (HSS.out g hg).1; omega, (HSS.out g hg).2⟩) hb2)
  have z2 : w1.heap.size ≤ w2.heap.size := hb2.size
  clear hb2 hr2 S1 G1
  have hlt2 : w0.heap.size < w2.heap.size := N2.out.lt
  go_wp2_with fail
  refine (HI.out _ R2.out).mono ?_
  rintro e w3 ⟨op2, tx2, X2, n2, m2, rfl, hn3, hb3, hr3⟩
  have I3 := hid (hn3.imp (S' := fun g => S g ∨ New w2 w3 g) (fun g hg => by rcases hg with hg | hg; exact hg.elim; exact .inr hg))
  clear hn3
  have J3 := hid ((K2.out.but (fun g hg => ⟨by have := (HSS.out g hg).1; omega, (HSS.out g hg).2⟩) hb3).imp (S' := fun g => S g ∨ New w2 w3 g) (fun g hg => .inl hg))
  have N3 := hid (N2.out.but (by omega) hb3)
  have B3 := hid (B2.out.trans hb3)
  have R3 := hid hr3
  have V3 := hid (V2.out.but (by omega) hb3)
  have K3 := hid (K2.out.but (fun g hg => ⟨by have := (HSS.out g hg).1; omega, (HSS.out g hg).2⟩) hb3)
  have hs3 : w2.heap.size ≤ w3.heap.size := hb3.size
  clear hb3 hr3
  have NZ := N3.out
  rw [hz0] at NZ
  have zz := NZ.lt
  have zv := V3.out.lt
  obtain ⟨x0, x1, x2, xf⟩ := NZ
  obtain ⟨v0, v1, v2, vf⟩ := V3.out
  have hlt3 := hs3
  go_wp2
  have NZ := N3.out
  rw [hz0] at NZ
  have Y := ((NZ.set (.string Q) (.string ⟨#[]⟩) (.slice (some ⟨w3.heap.size + 1, 0, none⟩) 2 2)).alloc (.cells #[.string op2, .string tx2, .slice X2 n2 m2] 24)).alloc (.cells #[.string op, .string tx, .slice X n m, .string op2, .string tx2, .slice X2 n2 m2] 24)
  exact bodyPost_ret (v := .agg #[.string Q, .string ⟨#[]⟩, .slice (some ⟨w3.heap.size + 1, 0, none⟩) 2 2]) (by simp [results, Tryz.results203, go_sem, Y.c0, Y.c1, Y.c2]) rfl
   (by have hh := (ret_two Q J3.out I3.out (fun g hg => by
    rcases hg with hg | hg
    ·exact ⟨by have := (HSS.out g hg).1; omega, by have := (HSS.out g hg).1; omega, .inl hg⟩
    ·exact ⟨hg.2, by have := hg.1; omega, .inr (by have := hg.1; omega)⟩) B3.out R3.out hrl0 (.cells #[.string op2, .string tx2, .slice X2 n2 m2] 24) 24 w0.heap.size (Nat.le_refl _) (fun hg => by
    rcases hg with hg | hg
    ·have := (HSS.out _ hg).1; omega
    ·have := hg.1; omega)); rw [hz0] at hh; exact hh)
end
def atOf (w : World) (r : Nat) : Nat := match w.cell? ⟨r, 1, none⟩ with | some (.int _ n) => n.toNat | _ => 0
theorem Rdr.atOf {w : World} {r : Nat} {A : Option Addr} {cap : Nat} {l : List W} {i : Nat} {b : Bool} (h : Rdr w r A cap l i b) : atOf w r = i := by
 unfold Code.atOf
 rw [h.c1]
 simp
section
variable {r : Nat} {A : Option Addr} {cap : Nat} {l : List W} {f : Nat}
theorem var_two {w w2 : World} {S2 S' : Nat → Prop} {x y : Tr} {j : Nat} {b : Bool} {op tx op2 tx2 : ByteArray} {X X2 : Option Addr} {n m n2 m2 : Nat} (o : ByteArray) (hn : NIn w2 S2 x (.string op) (.string tx) (.slice X n m)) (hn2 : NIn w2 S2 y (.string op2) (.string tx2) (.slice X2 n2 m2)) (hS : ∀ g, S2 g → g < w2.heap.size) (hS' : ∀ g, S2 g → S' g) (hnew : S' (w2.heap.size + 1)) (hb : But w w2 r) (hr : Rdr w2 r A cap l j b) (g2 : Nat) (hg2 : w.heap.size ≤ g2) (hrg : r < g2) (hg3 : ¬ S2 g2) (o1 : Obj) (t : TypeId) (V : NBox w2 g2 (.string op) (.string tx) (.slice X n m)) {g0 : Nat} {a0 b0 c0 : Value} (N : NBox w2 g0 a0 b0 c0) (hg0 : g0 ≠ g2) (Wf : World) (hW : (((W3 w2 g2 (.string o) (.string ⟨#[]⟩) (.slice (some ⟨w2.heap.size + 1, 0, none⟩) 2 2)).alloc o1).alloc (.cells #[.string op, .string tx, .slice X n m, .string op2, .string tx2, .slice X2 n2 m2] t)) = Wf) :
  NBox Wf g2 (.string o) (.string ⟨#[]⟩) (.slice (some ⟨w2.heap.size + 1, 0, none⟩) 2 2) ∧ NIn Wf S' (.two o.data.toList x y) (.string o) (.string ⟨#[]⟩) (.slice (some ⟨w2.heap.size + 1, 0, none⟩) 2 2) ∧ But w Wf r ∧ Rdr Wf r A cap l j b ∧ NBox Wf g0 a0 b0 c0 ∧ Wf.heap.size = w2.heap.size + 2 := by
 subst hW
 obtain ⟨W, hW⟩ : ∃ W, W3 w2 g2 (.string o) (.string ⟨#[]⟩) (.slice (some ⟨w2.heap.size + 1, 0, none⟩) 2 2) = W := ⟨_, rfl⟩
 have hs : W.heap.size = w2.heap.size := by rw [← hW, W3.size]
 have h1 : NIn W S2 x (.string op) (.string tx) (.slice X n m) := by rw [← hW]; exact W3.nin hn hg3 _ _ _
 have h1b : NIn W S2 y (.string op2) (.string tx2) (.slice X2 n2 m2) := by rw [← hW]; exact W3.nin hn2 hg3 _ _ _
 have hB : But w W r := by rw [← hW]; exact W3.but hb hg2 _ _ _
 have hR : Rdr W r A cap l j b := by rw [← hW]; exact W3.rdr hr hrg _ _ _
 have hV : NBox W g2 (.string o) (.string ⟨#[]⟩) (.slice (some ⟨w2.heap.size + 1, 0, none⟩) 2 2) := by rw [← hW]; exact W3.box V _ _ _
 have hN : NBox W g0 a0 b0 c0 := by
  rw [← hW]
  have hne : ∀ j k : Nat, (⟨g0, j, none⟩ : Addr) ≠ ⟨g2, k, none⟩ := fun j k e => hg0 (congrArg Addr.block e)
  unfold W3
  exact ⟨by rw [World.cell?_setCell_other _ _ _ _ (fun e => hne _ _ e.symm), World.cell?_setCell_other _ _ _ _ (fun e => hne _ _ e.symm), World.cell?_setCell_other _ _ _ _ (fun e => hne _ _ e.symm)]; exact N.c0, by rw [World.cell?_setCell_other _ _ _ _ (fun e => hne _ _ e.symm), World.cell?_setCell_other _ _ _ _ (fun e => hne _ _ e.symm), World.cell?_setCell_other _ _ _ _ (fun e => hne _ _ e.symm)]; exact N.c1, by rw [World.cell?_setCell_other _ _ _ _ (fun e => hne _ _ e.symm), World.cell?_setCell_other _ _ _ _ (fun e => hne _ _ e.symm), World.cell?_setCell_other _ _ _ _ (fun e => hne _ _ e.symm)]; exact N.c2, fun k => by rw [World.frozen?_setCell, World.frozen?_setCell, World.frozen?_setCell]; exact N.fr k⟩
 rw [hW]
 have hs1 : (W.alloc o1).heap.size = w2.heap.size + 1 := by simp [hs]
 have h2 := NIn.two o (h1.alloc (fun g hg => by have := hS g hg; omega) o1) (h1b.alloc (fun g hg => by have := hS g hg; omega) o1) (fun g hg => by have := hS g hg; omega) (S' := S') hS' (by rw [hs1]; exact hnew) t
 rw [hs1] at h2
 exact ⟨(hV.alloc _).alloc _, h2, (hB.alloc _).alloc _, (hR.alloc _).alloc _, (hN.alloc _).alloc _, by simp [hs]⟩
theorem expr_sign (D : Does r A cap l f) (i : Nat) (b : Bool) (w : World) (hi : i ≤ l.length) (hm : mu (bare l) (.expr 7) i < f + 1) (h : Rdr w r A cap l i b) :
  Calls Tryz.prog 181 #[.pointer (some ⟨r, 0, none⟩), .int .i64 7] w (Reads r A cap l w NoB (P (bare l) (f + 1) (.expr 7) i b)) := by
 obtain ⟨x, j, b', hx⟩ : ∃ x j b', P (bare l) f .sign i b = (x, j, b') := ⟨_, _, _, rfl⟩
 have hP : P (bare l) (f + 1) (.expr 7) i b = (x, j, b') := by rw [P, if_pos rfl, hx]
 have e1 : mu (bare l) .sign i = 16 * ((bare l).length - i) + 1 := rfl
 have e2 : mu (bare l) (.expr 7) i = 16 * ((bare l).length - i) + 3 := rfl
 rw [hP]
 have HI := hid (fun w1 hr => D.sign i b w1 hi (by omega) hr)
 rw [hx] at HI
 have HR := hid h
 have hrl := h.lt
 clear h hP hx hm D e1 e2
 go_enter Tryz.func181, Tryz.ntmps181
 obtain ⟨w0, hw0⟩ : ∃ w0, w.alloc (.cells #[.string ⟨#[]⟩, .string ⟨#[]⟩, .slice none 0 0] 24) = w0 := ⟨_, rfl⟩
 have hz0 : w.heap.size < w0.heap.size := by rw [← hw0]; simp
 have N0 := hid (show NBox w0 w.heap.size (.string ⟨#[]⟩) (.string ⟨#[]⟩) (.slice none 0 0) by rw [← hw0]; exact NBox.fresh _ _ _ _ _)
 have B0 := hid (show But w w0 r by rw [← hw0]; exact (But.refl w r).alloc _)
 have R0 := hid (show Rdr w0 r A cap l i b by rw [← hw0]; exact HR.out.alloc _)
 go_wp2_with fail
 try rw [hw0]
 refine (HI.out _ R0.out).mono ?_
 rintro e w1 ⟨op, tx, X, n, m, rfl, hn1, hb1, hr1⟩
 have N1 := hid (N0.out.but (by omega) hb1)
 have B1 := hid (B0.out.trans hb1)
 have R1 := hid hr1
 have I1 := hid (hn1.imp (S' := New w0 w1) (fun g hg => by rcases hg with hg | hg; exact hg.elim; exact hg))
 have hz1 : w0.heap.size ≤ w1.heap.size := hb1.size
 clear hb1 hr1 hn1
 have zz1 := N1.out.lt
 obtain ⟨x0, x1, x2, xf⟩ := N1.out
 go_wp2
 have Y := N1.out.set (.string op) (.string tx) (.slice X n m)
 exact bodyPost_ret (v := .agg #[.string op, .string tx, .slice X n m]) (by simp [results, Tryz.results181, go_sem, Y.c0, Y.c1, Y.c2]) rfl
  (ret_same I1.out (fun g hg => ⟨hg.2, by have := hg.1; omega, .inr (by have := hg.1; omega)⟩) B1.out R1.out hrl)
theorem expr_not (D : Does r A cap l f) (i : Nat) (b : Bool) (w : World) (hi : i ≤ l.length) (hl : l.length ≤ 4194304) (hm : mu (bare l) (.expr 3) i < f + 1) (h : Rdr w r A cap l i b) :
  Calls Tryz.prog 181 #[.pointer (some ⟨r, 0, none⟩), .int .i64 3] w (Reads r A cap l w NoB (P (bare l) (f + 1) (.expr 3) i b)) := by
 obtain ⟨q, hq⟩ : ∃ q, isW (bare l) i b sNot = q := ⟨_, rfl⟩
 have HT := hid (fun w1 hr => rtake_any r A cap l i b ⟨#[110, 111, 116]⟩ q hq w1 hr hi hl)
 have HR := hid h
 have hrl := h.lt
 cases q
 ·obtain ⟨x, j, b', hx⟩ : ∃ x j b', P (bare l) f (.expr 4) i b = (x, j, b') := ⟨_, _, _, rfl⟩
  have hP : P (bare l) (f + 1) (.expr 3) i b = (x, j, b') := by rw [P, if_neg (by decide), if_pos rfl, if_neg (by rw [hq]; decide), hx]
  have e1 : mu (bare l) (.expr 4) i = 16 * ((bare l).length - i) + 9 := rfl
  have e2 : mu (bare l) (.expr 3) i = 16 * ((bare l).length - i) + 11 := rfl
  rw [hP]
  have HI := hid (fun w1 hr => D.expr 4 i b w1 (by omega) (by omega) hi (by omega) hr)
  rw [hx] at HI
  clear h hP hx hm D e1 e2 hq
  go_enter Tryz.func181, Tryz.ntmps181
  obtain ⟨w0, hw0⟩ : ∃ w0, w.alloc (.cells #[.string ⟨#[]⟩, .string ⟨#[]⟩, .slice none 0 0] 24) = w0 := ⟨_, rfl⟩
  have hz0 : w.heap.size < w0.heap.size := by rw [← hw0]; simp
  have N0 := hid (show NBox w0 w.heap.size (.string ⟨#[]⟩) (.string ⟨#[]⟩) (.slice none 0 0) by rw [← hw0]; exact NBox.fresh _ _ _ _ _)
  have B0 := hid (show But w w0 r by rw [← hw0]; exact (But.refl w r).alloc _)
  have R0 := hid (show Rdr w0 r A cap l i b by rw [← hw0]; exact HR.out.alloc _)
  go_wp2_with fail
  try rw [hw0]
  refine (HT.out _ R0.out).mono ?_
  rintro e w00 ⟨rfl, hb0, hr0⟩
  replace N0 := hid (N0.out.but (by omega) hb0)
  replace B0 := hid (B0.out.trans hb0)
  replace R0 := hid hr0
  have hz00 : w0.heap.size ≤ w00.heap.size := hb0.size
  clear hb0 hr0
  go_wp2_with fail
  refine (HI.out _ R0.out).mono ?_
  rintro e w1 ⟨op, tx, X, n, m, rfl, hn1, hb1, hr1⟩
  have N1 := hid (N0.out.but (by omega) hb1)
  have B1 := hid (B0.out.trans hb1)
  have R1 := hid hr1
  have I1 := hid (hn1.imp (S' := New w00 w1) (fun g hg => by rcases hg with hg | hg; exact hg.elim; exact hg))
  have hz1 : w00.heap.size ≤ w1.heap.size := hb1.size
  clear hb1 hr1 hn1
  have zz1 := N1.out.lt
  obtain ⟨x0, x1, x2, xf⟩ := N1.out
  go_wp2
  have Y := N1.out.set (.string op) (.string tx) (.slice X n m)
  exact bodyPost_ret (v := .agg #[.string op, .string tx, .slice X n m]) (by simp [results, Tryz.results181, go_sem, Y.c0, Y.c1, Y.c2]) rfl
   (ret_same I1.out (fun g hg => ⟨hg.2, by have := hg.1; omega, .inr (by have := hg.1; omega)⟩) B1.out R1.out hrl)
 ·have hil := isW_len hq
  obtain ⟨x, j, b', hx⟩ : ∃ x j b', P (bare l) f (.expr 3) (i + 1) b = (x, j, b') := ⟨_, _, _, rfl⟩
  have hP : P (bare l) (f + 1) (.expr 3) i b = (.one sNot x, j, b') := by rw [P, if_neg (by decide), if_pos rfl, if_pos hq, hx]
  have hmu := mu_next (L := bare l) (by rw [bare_length]; exact hil) (.expr 3) (.expr 3) ⟨by omega, by omega⟩ (by decide)
  rw [hP]
  have HI := hid (fun w1 hr => D.expr 3 (i + 1) b w1 (by omega) (by omega) (by omega) (by omega) hr)
  rw [hx] at HI
  clear h hP hx hm D hq hmu
  go_enter Tryz.func181, Tryz.ntmps181
  obtain ⟨w0, hw0⟩ : ∃ w0, w.alloc (.cells #[.string ⟨#[]⟩, .string ⟨#[]⟩, .slice none 0 0] 24) = w0 := ⟨_, rfl⟩
  have hz0 : w.heap.size < w0.heap.size := by rw [← hw0]; simp
  have N0 := hid (show NBox w0 w.heap.size (.string ⟨#[]⟩) (.string ⟨#[]⟩) (.slice none 0 0) by rw [← hw0]; exact NBox.fresh _ _ _ _ _)
  have B0 := hid (show But w w0 r by rw [← hw0]; exact (But.refl w r).alloc _)
  have R0 := hid (show Rdr w0 r A cap l i b by rw [← hw0]; exact HR.out.alloc _)
  go_wp2_with fail
  try rw [hw0]
  refine (HT.out _ R0.out).mono ?_
  rintro e w00 ⟨rfl, hb0, hr0⟩
  replace N0 := hid (N0.out.but (by omega) hb0)
  replace B0 := hid (B0.out.trans hb0)
  replace R0 := hid hr0
  have hz00 : w0.heap.size ≤ w00.heap.size := hb0.size
  clear hb0 hr0
  go_wp2_with fail
  refine (HI.out _ R0.out).mono ?_
  rintro e w1 ⟨op, tx, X, n, m, rfl, hn1, hb1, hr1⟩
  have N1 := hid (N0.out.but (by omega) hb1)
  have B1 := hid (B0.out.trans hb1)
  have R1 := hid hr1
  have I1 := hid (hn1.imp (S' := New w00 w1) (fun g hg => by rcases hg with hg | hg; exact hg.elim; exact hg))
  have hz1 : w00.heap.size ≤ w1.heap.size := hb1.size
  clear hb1 hr1 hn1
  have zz1 := N1.out.lt
  obtain ⟨x0, x1, x2, xf⟩ := N1.out
  go_wp2
  have Y := ((N1.out.set (.string ⟨#[110, 111, 116]⟩) (.string ⟨#[]⟩) (.slice (some ⟨w1.heap.size + 1, 0, none⟩) 1 1)).alloc (.cells #[.string op, .string tx, .slice X n m] 24)).alloc (.cells #[.string op, .string tx, .slice X n m] 24)
  exact bodyPost_ret (v := .agg #[.string ⟨#[110, 111, 116]⟩, .string ⟨#[]⟩, .slice (some ⟨w1.heap.size + 1, 0, none⟩) 1 1]) (by simp [results, Tryz.results181, go_sem, Y.c0, Y.c1, Y.c2]) rfl
   (ret_one ⟨#[110, 111, 116]⟩ I1.out (fun g hg => ⟨hg.2, by have := hg.1; omega, .inr (by have := hg.1; omega)⟩) B1.out R1.out hrl _ _)
theorem expr_test (D : Does r A cap l f) (i : Nat) (b : Bool) (w : World) (hi : i ≤ l.length) (hm : mu (bare l) (.expr 4) i < f + 1) (h : Rdr w r A cap l i b) :
  Calls Tryz.prog 181 #[.pointer (some ⟨r, 0, none⟩), .int .i64 4] w (Reads r A cap l w NoB (P (bare l) (f + 1) (.expr 4) i b)) := by
 obtain ⟨x, j, b', hx⟩ : ∃ x j b', P (bare l) f (.expr 5) i b = (x, j, b') := ⟨_, _, _, rfl⟩
 obtain ⟨y, j2, b2, hy⟩ : ∃ y j2 b2, P (bare l) f (.test x) j b' = (y, j2, b2) := ⟨_, _, _, rfl⟩
 have hP : P (bare l) (f + 1) (.expr 4) i b = (y, j2, b2) := by
  rw [P, if_neg (by decide), if_neg (by decide), if_pos rfl, hx]
  exact hy
 have he := P_ends (bare l) f (.expr 5) i b (by rw [bare_length]; exact hi)
 rw [hx, bare_length] at he
 have hj : i ≤ j ∧ j ≤ l.length := ⟨he.1, he.2.1⟩
 have e1 : mu (bare l) (.expr 5) i = 16 * ((bare l).length - i) + 7 := rfl
 have e2 : mu (bare l) (.expr 4) i = 16 * ((bare l).length - i) + 9 := rfl
 have e3 : mu (bare l) (.test x) j = 16 * ((bare l).length - j) + 1 := rfl
 rw [hP]
 have HI := hid (fun w1 hr => D.expr 5 i b w1 (by omega) (by omega) hi (by omega) hr)
 rw [hx] at HI
 have HTS := hid (fun S op tx X n m w1 hS hn hr => D.test S x op tx X n m j b' w1 hS hn hj.2 (by omega) hr)
 rw [hy] at HTS
 have HR := hid h
 have hrl := h.lt
 clear h hP hx hy hm D e1 e2 e3 he
 go_enter Tryz.func181, Tryz.ntmps181
 obtain ⟨w0, hw0⟩ : ∃ w0, w.alloc (.cells #[.string ⟨#[]⟩, .string ⟨#[]⟩, .slice none 0 0] 24) = w0 := ⟨_, rfl⟩
 have hz0 : w.heap.size < w0.heap.size := by rw [← hw0]; simp
 have N0 := hid (show NBox w0 w.heap.size (.string ⟨#[]⟩) (.string ⟨#[]⟩) (.slice none 0 0) by rw [← hw0]; exact NBox.fresh _ _ _ _ _)
 have B0 := hid (show But w w0 r by rw [← hw0]; exact (But.refl w r).alloc _)
 have R0 := hid (show Rdr w0 r A cap l i b by rw [← hw0]; exact HR.out.alloc _)
 go_wp2_with fail
 try rw [hw0]
 refine (HI.out _ R0.out).mono ?_
 rintro e w1 ⟨op, tx, X, n, m, rfl, hn1, hb1, hr1⟩
 have N1 := hid (N0.out.but (by omega) hb1)
 have B1 := hid (B0.out.trans hb1)
 have R1 := hid hr1
 have I1 := hid (hn1.imp (S' := New w0 w1) (fun g hg => by rcases hg with hg | hg; exact hg.elim; exact hg))
 have hz1 : w0.heap.size ≤ w1.heap.size := hb1.size
 clear hb1 hr1 hn1
 go_wp2_with fail
 refine (HTS.out (New w0 w1) op tx X n m _ (fun g hg => ⟨by have := hg.2; simp; omega, by have := hg.1; omega⟩) (I1.out.alloc (fun g hg => hg.2) _) (R1.out.alloc _)).mono ?_
 rintro e w2 ⟨op2, tx2, X2, n2, m2, rfl, hn2, hb2, hr2⟩
 have N2 := hid ((N1.out.alloc (.cells #[.string op, .string tx, .slice X n m] 24)).but (by omega) hb2)
 have B2 := hid ((B1.out.alloc (.cells #[.string op, .string tx, .slice X n m] 24)).trans hb2)
 have R2 := hid hr2
 have I2 := hid hn2
 have hz2 : w1.heap.size < w2.heap.size := by have := hb2.size; simp at this; omega
 clear hb2 hr2 hn2
 obtain ⟨x0, x1, x2, xf⟩ := N2.out
 go_wp2
 have Y := N2.out.set (.string op2) (.string tx2) (.slice X2 n2 m2)
 exact bodyPost_ret (v := .agg #[.string op2, .string tx2, .slice X2 n2 m2]) (by simp [results, Tryz.results181, go_sem, Y.c0, Y.c1, Y.c2]) rfl
  (ret_same I2.out (fun g hg => by
   rcases hg with hg | hg
   ·exact ⟨by have := hg.2; omega, by have := hg.1; omega, .inr (by have := hg.1; omega)⟩
   ·exact ⟨hg.2, by have := hg.1; simp at this; omega, .inr (by have := hg.1; simp at this; omega)⟩) B2.out R2.out hrl)
end
def LoopI (r : Nat) (A : Option Addr) (cap : Nat) (l : List W) (w : World) (lv i0 : Nat) (res : Tr × Nat × Bool) (g7 : Nat) (wr : World) : Prop :=
 ∃ (t : Tr) (op tx : ByteArray) (X : Option Addr) (n m j : Nat) (b : Bool), P (bare l) (16 * (l.length - j) + 2) (.loop lv t) j b = res ∧ i0 ≤ j ∧ j ≤ l.length ∧ NBox wr g7 (.string op) (.string tx) (.slice X n m) ∧ NIn wr (fun g => w.heap.size < g ∧ g < wr.heap.size ∧ g ≠ g7) t (.string op) (.string tx) (.slice X n m) ∧ But w wr r ∧ Rdr wr r A cap l j b ∧ NBox wr w.heap.size (.string ⟨#[]⟩) (.string ⟨#[]⟩) (.slice none 0 0)
section
variable {r : Nat} {A : Option Addr} {cap : Nat} {l : List W} {f : Nat}
theorem loop_end {lv : Nat} {t : Tr} {j : Nat} {b : Bool} (n : Nat) (hq : oneL (bare l) j b (opsL lv) = []) : P (bare l) (n + 2) (.loop lv t) j b = (t, j, b) := by rw [P, if_pos hq]
theorem loop_next {lv : Nat} (hlv : 1 ≤ lv ∧ lv ≤ 6) {t y : Tr} {j j2 : Nat} {b b2 : Bool} {q : List UInt8} (hj : j < l.length) (hq : oneL (bare l) j b (opsL lv) = q) (hq0 : q ≠ []) (hf : mu (bare l) (.expr (lv + 1)) (j + 1) < f) (hx : P (bare l) f (.expr (lv + 1)) (j + 1) b = (y, j2, b2)) :
  P (bare l) (16 * (l.length - j) + 2) (.loop lv t) j b = P (bare l) (16 * (l.length - j2) + 2) (.loop lv (.two q t y)) j2 b2 ∧ j + 1 ≤ j2 ∧ j2 ≤ l.length := by
 have he := P_ends (bare l) f (.expr (lv + 1)) (j + 1) b (by rw [bare_length]; omega)
 rw [hx, bare_length] at he
 have hm := mu_next (L := bare l) (by rw [bare_length]; exact hj) (.expr (lv + 1)) (.loop lv t) ⟨by omega, by omega⟩ (Nat.le_refl 1)
 have e1 : mu (bare l) (.loop lv t) j = 16 * ((bare l).length - j) + 1 := rfl
 have e2 : mu (bare l) (.loop lv (.two q t y)) j2 = 16 * ((bare l).length - j2) + 1 := rfl
 rw [bare_length] at e1 e2
 have hs := P_steps (bare l) (16 * (l.length - j) + 1) f (.expr (lv + 1)) (j + 1) b (by rw [bare_length]; omega) ⟨by omega, by omega⟩ (by omega) hf
 rw [hx] at hs
 refine ⟨?_, he.1, he.2.1⟩
 rw [show 16 * (l.length - j) + 2 = (16 * (l.length - j) + 1) + 1 from rfl, P, hq, if_neg hq0, hs]
 have h1 : j + 1 ≤ j2 := he.1
 have h2 : j2 ≤ l.length := he.2.1
 exact P_steps _ _ _ _ _ _ (by rw [bare_length]; exact he.2.1) ⟨by omega, by omega⟩ (by rw [e2]; omega) (by rw [e2]; omega)
theorem loop_begin {lv : Nat} (hlv : lv = 1 ∨ lv = 2 ∨ lv = 5 ∨ lv = 6) {x : Tr} {i j : Nat} {b b2 : Bool} (hi : i ≤ l.length) (hm : mu (bare l) (.expr lv) i < f + 1) (hx : P (bare l) f (.expr (lv + 1)) i b = (x, j, b2)) : P (bare l) (16 * (l.length - j) + 2) (.loop lv x) j b2 = P (bare l) (f + 1) (.expr lv) i b ∧ j ≤ l.length := by
 have he := P_ends (bare l) f (.expr (lv + 1)) i b (by rw [bare_length]; exact hi)
 rw [hx, bare_length] at he
 have h1 : i ≤ j := he.1
 have h2 : j ≤ l.length := he.2.1
 have e0 : mu (bare l) (.expr lv) i = 16 * ((bare l).length - i) + (17 - 2 * lv) := rfl
 have e1 : mu (bare l) (.loop lv x) j = 16 * ((bare l).length - j) + 1 := rfl
 rw [bare_length] at e0 e1
 refine ⟨?_, h2⟩
 rw [P, if_neg (by omega), if_neg (by omega), if_neg (by omega), hx]
 exact P_steps _ _ _ _ _ _ (by rw [bare_length]; exact h2) ⟨by omega, by omega⟩ (by rw [e1]; omega) (by rw [e1]; omega)
theorem opsL_few {lv : Nat} (hlv : lv = 1 ∨ lv = 2 ∨ lv = 5 ∨ lv = 6) : (opsL lv).length ≤ 100 ∧ [] ∉ opsL lv := by
 rcases hlv with rfl | rfl | rfl | rfl <;> exact ⟨by decide, by decide⟩
theorem expr_loop (D : Does r A cap l f) (lv : Nat) (hlv : lv = 1 ∨ lv = 2 ∨ lv = 5 ∨ lv = 6) (i : Nat) (b : Bool) (w : World) (hi : i ≤ l.length) (hl : l.length ≤ 4194304) (hm : mu (bare l) (.expr lv) i < f + 1) (h : Rdr w r A cap l i b) :
  Calls Tryz.prog 181 #[.pointer (some ⟨r, 0, none⟩), .int .i64 lv] w (Reads r A cap l w NoB (P (bare l) (f + 1) (.expr lv) i b)) := by
 obtain ⟨x, j, b', hx⟩ : ∃ x j b', P (bare l) f (.expr (lv + 1)) i b = (x, j, b') := ⟨_, _, _, rfl⟩
 obtain ⟨res, hres⟩ : ∃ res, P (bare l) (f + 1) (.expr lv) i b = res := ⟨_, rfl⟩
 have hbg := loop_begin hlv hi hm hx
 rw [hres] at hbg
 rw [hres]
 have e0 : mu (bare l) (.expr lv) i = 16 * ((bare l).length - i) + (17 - 2 * lv) := rfl
 have e1 : mu (bare l) (.expr (lv + 1)) i = 16 * ((bare l).length - i) + (17 - 2 * (lv + 1)) := rfl
 have HI := hid (fun w1 hr => D.expr (lv + 1) i b w1 (by omega) (by omega) hi (by omega) hr)
 rw [hx] at HI
 have HD := hid (fun j b w1 hj hm hr => D.expr (lv + 1) j b w1 (by omega) (by omega) hj hm hr)
 have hmf : 16 * (l.length - i) + (17 - 2 * lv) < f + 1 := by rw [e0, bare_length] at hm; exact hm
 have HMF := hid hmf
 have hij : i ≤ j := by
  have he := P_ends (bare l) f (.expr (lv + 1)) i b (by rw [bare_length]; exact hi)
  rw [hx] at he
  exact he.1
 have HIJ := hid hij
 have HBG := hid hbg
 have HR := hid h
 have hrl := h.lt
 have HOPS := hid (fun w => rops_any lv (by omega) w)
 have HF := hid (opsL_few hlv)
 have HONE := hid (fun (j : Nat) (hj : j ≤ l.length) (b : Bool) (S' : Option Addr) (c' : Nat) (w1 : World) (hr : Rdr w1 r A cap l j b) hs hne q hq => rone_any r A cap l j b S' c' (opsL lv) w1 hr hj hl hs hne HF.out.1 HF.out.2 q hq)
 have hl1 : (1 : Int) ≤ (lv : Int) := by omega
 have hl2 : (lv : Int) ≤ 6 := by omega
 have hl3 : ¬ (lv : Int) = 3 := by omega
 have hl4 : ¬ (lv : Int) = 4 := by omega
 have hl7 : ¬ (lv : Int) = 7 := by omega
 have k3 : ((lv : Int) == 3) = false := by simpa using hl3
 have k4 : ((lv : Int) == 4) = false := by simpa using hl4
 have k7 : ((lv : Int) == 7) = false := by simpa using hl7
 have kw : IntKind.i64.wrap ((lv : Int) + 1) = (lv : Int) + 1 := by
  rw [IntKind.wrap_i64]
  omega
 have HLV := hid hlv
 clear h hx hm D e0 e1 hres hbg hmf hij hlv
 go_enter Tryz.func181, Tryz.ntmps181
 obtain ⟨w0, hw0⟩ : ∃ w0, w.alloc (.cells #[.string ⟨#[]⟩, .string ⟨#[]⟩, .slice none 0 0] 24) = w0 := ⟨_, rfl⟩
 have hz0 : w.heap.size < w0.heap.size := by rw [← hw0]; simp
 have N0 := hid (show NBox w0 w.heap.size (.string ⟨#[]⟩) (.string ⟨#[]⟩) (.slice none 0 0) by rw [← hw0]; exact NBox.fresh _ _ _ _ _)
 have B0 := hid (show But w w0 r by rw [← hw0]; exact (But.refl w r).alloc _)
 have R0 := hid (show Rdr w0 r A cap l i b by rw [← hw0]; exact HR.out.alloc _)
 go_wp2_with fail
 refine (HI.out _ R0.out).mono ?_
 rintro e w1 ⟨op, tx, X, n, m, rfl, hn1, hb1, hr1⟩
 have N1 := hid (N0.out.but (by omega) hb1)
 have B1 := hid (B0.out.trans hb1)
 have R1 := hid hr1
 have I1 := hid (hn1.imp (S' := New w0 w1) (fun g hg => by rcases hg with hg | hg; exact hg.elim; exact hg))
 have hz1 : w0.heap.size ≤ w1.heap.size := hb1.size
 have zz1 := N1.out.lt
 clear hb1 hr1 hn1
 obtain ⟨x0, x1, x2, xf⟩ := N1.out
 go_wp2
 go_loopw [8] (fun _ wr => LoopI r A cap l w lv i res w1.heap.size wr) (fun _ wr => l.length - atOf wr r)
 case atStart => exact ⟨x, op, tx, X, n, m, j, b', HBG.out.1, HIJ.out, HBG.out.2, NBox.fresh _ _ _ _ _, (I1.out.alloc (fun g hg => hg.2) _).imp (fun g hg => ⟨by have := hg.1; omega, by have := hg.2; simp; omega, by have := hg.2; omega⟩), B1.out.alloc _, R1.out.alloc _, N1.out.alloc _⟩
 case round =>
  obtain ⟨t1, op1, tx1, X1, n1, m1, k, b1, hP, hik, hk, V, K, hB, hR, Z⟩ := hrel
  have hz2 := hB.size
  have hgw := V.lt
  have V0 := hid V
  have K0 := hid K
  have B2 := hid hB
  have R2 := hid hR
  have Z0 := hid Z
  have HPP := hid hP
  clear V K hB hR Z hP x0 x1 x2 xf
  obtain ⟨q, hq⟩ : ∃ q, oneL (bare l) k b1 (opsL lv) = q := ⟨_, rfl⟩
  have HQ := hid hq
  clear hq
  go_wp2_with fail
  refine (HOPS.out _).mono ?_
  rintro e wa ⟨L1, c1, rfl, hs1, hg1, hb1⟩
  have Va := hid (V0.out.below hb1)
  have Ka := hid (K0.out.below (fun g hg => hg.2.1) hb1)
  have Za := hid (Z0.out.below hb1)
  have Ba := hid (B2.out.next hb1)
  have Ra := hid (R2.out.below hb1)
  have S1 := hid hs1
  have G1 := hid (show ∀ ad, L1 = some ad → ad.block ≠ r from fun ad e => by have := hg1 ad e; omega)
  have za := hb1.size
  clear hb1 hs1 hg1
  go_wp2_with fail
  refine (HONE.out k hk b1 L1 c1 _ Ra.out S1.out G1.out q HQ.out).mono ?_
  rintro e wb ⟨rfl, hb2, hr2⟩
  have Vb := hid (Va.out.but (by omega) hb2)
  have Kb := hid (Ka.out.but (fun g hg => ⟨by have := hg.2.1; omega, by have := hg.1; omega⟩) hb2)
  have Zb := hid (Za.out.but (by omega) hb2)
  have Bb := hid (Ba.out.trans hb2)
  have Rb := hid hr2
  have zb := hb2.size
  clear hb2 hr2 S1 G1
  by_cases hq0 : q = []
  ·subst hq0
   have Rc := hid (show Rdr wb r A cap l k b1 by have := Rb.out; rw [if_pos rfl] at this; exact this)
   have hre : res = (t1, k, b1) := HPP.out.symm.trans (loop_end _ HQ.out)
   subst hre
   have zv := Vb.out.lt
   have zz := Zb.out.lt
   obtain ⟨x0, x1, x2, xf⟩ := Zb.out
   obtain ⟨v0, v1, v2, vf⟩ := Vb.out
   go_wp2
   have Y := Zb.out.set (.string op1) (.string tx1) (.slice X1 n1 m1)
   exact bodyPost_ret (v := .agg #[.string op1, .string tx1, .slice X1 n1 m1]) (by simp [results, Tryz.results181, go_sem, Y.c0, Y.c1, Y.c2]) rfl
    (ret_same Kb.out (fun g hg => ⟨by have := hg.2.1; omega, by have := hg.1; omega, .inr (by have := hg.1; omega)⟩) Bb.out Rc.out hrl)
  ·have Rc := hid (show Rdr wb r A cap l (k + 1) b1 by have := Rb.out; rw [if_neg hq0] at this; exact this)
   obtain ⟨hkl, rfl⟩ := oneL_lt (show oneL (bare l) k b1 (opsL lv) ≠ [] by rw [HQ.out]; exact hq0)
   rw [bare_length] at hkl
   obtain ⟨y, j2, b2, hy⟩ : ∃ y j2 b2, P (bare l) f (.expr (lv + 1)) (k + 1) false = (y, j2, b2) := ⟨_, _, _, rfl⟩
   have hmu : mu (bare l) (.expr (lv + 1)) (k + 1) < f := by
    have e1 : mu (bare l) (.expr (lv + 1)) (k + 1) = 16 * ((bare l).length - (k + 1)) + (17 - 2 * (lv + 1)) := rfl
    rw [bare_length] at e1
    have := HMF.out
    have := HLV.out
    omega
   have hnx := loop_next (t := t1) (by have := HLV.out; omega) hkl HQ.out hq0 hmu hy
   have HNX := hid (hnx.1.symm.trans HPP.out)
   have hj2 := hnx.2
   have HY := hid (fun w1 hr => HD.out (k + 1) false w1 (by omega) hmu hr)
   rw [hy] at HY
   obtain ⟨Q, hQ⟩ : ∃ Q : ByteArray, ⟨q.toArray⟩ = Q := ⟨_, rfl⟩
   have hQq : q = Q.data.toList := by rw [← hQ]
   have hQ1 : (Q.toList != []) = true := by
    rw [ByteArray.toList_eq, ← hQq]
    simpa using hq0
   have hQ0 : (Q.toList == []) = false := by
    rw [ByteArray.toList_eq, ← hQq]
    simpa using hq0
   rw [hQq] at HNX
   rw [hQ]
   clear hQ hQq hq0 hnx hy hmu HQ
   have zz := Zb.out.lt
   have zv := Vb.out.lt
   go_wp2_with fail
   refine (HY.out _ Rc.out).mono ?_
   rintro e wc ⟨op2, tx2, X2, n2, m2, rfl, hn3, hb3, hr3⟩
   have I3 := hid (hn3.imp (S' := fun g => (w.heap.size < g ∧ g < wr.heap.size ∧ g ≠ w1.heap.size) ∨ New wb wc g) (fun g hg => by rcases hg with hg | hg; exact hg.elim; exact .inr hg))
   have K3 := hid ((Kb.out.but (fun g hg => ⟨by have := hg.2.1; omega, by have := hg.1; omega⟩) hb3).imp (S' := fun g => (w.heap.size < g ∧ g < wr.heap.size ∧ g ≠ w1.heap.size) ∨ New wb wc g) (fun g hg => .inl hg))
   have V3 := hid (Vb.out.but (by omega) hb3)
   have Z3 := hid (Zb.out.but (by omega) hb3)
   have B3 := hid (Bb.out.trans hb3)
   have R3 := hid hr3
   have zc := hb3.size
   clear hn3 hb3 hr3
   have zv3 := V3.out.lt
   have zz3 := Z3.out.lt
   obtain ⟨x0, x1, x2, xf⟩ := Z3.out
   obtain ⟨v0, v1, v2, vf⟩ := V3.out
   have Y := hid (var_two (S' := fun g => w.heap.size < g ∧ g < wc.heap.size + 2 ∧ g ≠ w1.heap.size) Q K3.out I3.out (fun g hg => by
    rcases hg with hg | hg
    ·have := hg.2.1; omega
    ·exact hg.2) (fun g hg => by
    rcases hg with hg | hg
    ·exact ⟨hg.1, by have := hg.2.1; omega, hg.2.2⟩
    ·exact ⟨by have := hg.1; omega, by have := hg.2; omega, by have := hg.1; omega⟩) ⟨by omega, by omega, by omega⟩ B3.out R3.out w1.heap.size (by omega) (by omega) (fun hg => by
    rcases hg with hg | hg
    ·exact hg.2.2 rfl
    ·have := hg.1; omega) (.cells #[.string op2, .string tx2, .slice X2 n2 m2] 24) 24 V3.out Z3.out (by omega) _ rfl)
   go_wp2
   go_roundw
   case rel =>
    obtain ⟨y1, y2, y3, y4, y5, y6⟩ := Y.out
    exact ⟨.two Q.data.toList t1 y, Q, ⟨#[]⟩, _, 2, 2, j2, b2, HNX.out, by omega, hj2.2, y1, y2.imp (fun g hg => ⟨hg.1, Nat.lt_of_lt_of_eq hg.2.1 y6.symm, hg.2.2⟩), y3, y4, y5⟩
   case measure =>
    obtain ⟨y1, y2, y3, y4, y5, y6⟩ := Y.out
    refine Nat.lt_of_le_of_lt (Nat.le_of_eq (congrArg (fun a => l.length - a) (Rdr.atOf y4))) ?_
    rw [Rdr.atOf R2.out]
    omega
end
theorem sign_open {r : Nat} {A : Option Addr} {cap : Nat} {l : List W} {f : Nat} (D : Does r A cap l f) (i : Nat) (b : Bool) (w : World) (hi : i ≤ l.length) (hl : l.length ≤ 4194304) (hm : mu (bare l) .sign i < f + 1) (h : Rdr w r A cap l i b) (hq1 : isW (bare l) i b [45] = false) (hq : isW (bare l) i b [40] = true) :
  Calls Tryz.prog 202 #[.pointer (some ⟨r, 0, none⟩)] w (Reads r A cap l w NoB (P (bare l) (f + 1) .sign i b)) := by
 have hil := isW_len hq
 obtain ⟨x, j, b', hx⟩ : ∃ x j b', P (bare l) f (.expr 1) (i + 1) b = (x, j, b') := ⟨_, _, _, rfl⟩
 obtain ⟨q3, hq3⟩ : ∃ q3, isW (bare l) j b' [41] = q3 := ⟨_, rfl⟩
 have hP : P (bare l) (f + 1) .sign i b = (x, (if q3 = true then j + 1 else j), (if q3 = true then b' else true)) := by
  rw [P, if_neg (by rw [hq1]; decide), if_pos hq, hx]
  dsimp only
  rw [hq3]
  cases q3 <;> rfl
 have hmu := mu_next (L := bare l) (by rw [bare_length]; exact hil) (.expr 1) .sign ⟨by omega, by omega⟩ (Nat.le_refl 1)
 have hj := (P_ends (bare l) f (.expr 1) (i + 1) b (by rw [bare_length]; exact hil)).2.1
 rw [hx, bare_length] at hj
 rw [hP]
 have HI := hid (fun w1 hr => D.expr 1 (i + 1) b w1 (by omega) (by omega) (by omega) (by omega) hr)
 rw [hx] at HI
 have HR := hid h
 have hrl := h.lt
 have HT1 := hid (fun w1 hr => rtake_any r A cap l i b ⟨#[45]⟩ false hq1 w1 hr hi hl)
 have HT2 := hid (fun w1 hr => rtake_any r A cap l i b ⟨#[40]⟩ true hq w1 hr hi hl)
 have HM3 := hid (fun w1 hr => rmust_any r A cap l j b' ⟨#[41]⟩ q3 hq3 w1 hr hj hl)
 obtain ⟨j2, hj2⟩ : ∃ j2, (if q3 = true then j + 1 else j) = j2 := ⟨_, rfl⟩
 obtain ⟨b2, hb2⟩ : ∃ b2, (if q3 = true then b' else true) = b2 := ⟨_, rfl⟩
 rw [hj2, hb2] at HM3
 rw [hj2, hb2]
 clear hj2 hb2
 clear h hP hmu hx hq hq1 hq3 hm D
 go_enter Tryz.func202, Tryz.ntmps202
 have N0 := hid (NBox.fresh w (.string ⟨#[]⟩) (.string ⟨#[]⟩) (.slice none 0 0) 24)
 have B0 := hid ((But.refl w r).alloc (.cells #[.string ⟨#[]⟩, .string ⟨#[]⟩, .slice none 0 0] 24))
 go_wp2_with fail
 refine (HT1.out _ (HR.out.alloc _)).mono ?_
 rintro e w1 ⟨rfl, hb1, hr1⟩
 have N1 := hid (N0.out.but (by omega) hb1)
 have B1 := hid (B0.out.trans hb1)
 have R1 := hid hr1
 clear hb1 hr1
 go_wp2_with fail
 refine (HT2.out _ R1.out).mono ?_
 rintro e w2 ⟨rfl, hb2, hr2⟩
 have N2 := hid (N1.out.but (by omega) hb2)
 have B2 := hid (B1.out.trans hb2)
 have R2 := hid hr2
 clear hb2 hr2
 have hlt1 : w.heap.size < w2.heap.size := N2.out.lt
 go_wp2_with fail
 refine (HI.out _ R2.out).mono ?_
 rintro e w3 ⟨op, tx, X, n, m, rfl, hn3, hb3, hr3⟩
 have N3 := hid (N2.out.but (by omega) hb3)
 have B3 := hid (B2.out.trans hb3)
 have R3 := hid hr3
 have I3 := hid (hn3.alloc (fun g hg => by rcases hg with hg | hg; exact hg.elim; exact hg.2) (.cells #[.string op, .string tx, .slice X n m] 24))
 have V3 := hid (NBox.fresh w3 (.string op) (.string tx) (.slice X n m) 24)
 have hlt3 : w2.heap.size ≤ w3.heap.size := hb3.size
 have hrl3 := R3.out.lt
 clear hb3 hr3 hn3
 go_wp2_with fail
 refine (HM3.out _ (R3.out.alloc _)).mono ?_
 rintro e w4 ⟨rfl, hb4, hr4⟩
 have N4 := hid ((N3.out.alloc _).but (by omega) hb4)
 have B4 := hid ((B3.out.alloc _).trans hb4)
 have R4 := hid hr4
 have V4 := hid (V3.out.but (by omega) hb4)
 have I4 := hid (I3.out.but (fun g hg => by rcases hg with hg | hg; exact hg.elim; exact ⟨by have := hg.2; simp; omega, by have := hg.1; omega⟩) hb4)
 have hlt4 : w3.heap.size < w4.heap.size := by have := hb4.size; simp at this; omega
 clear hb4 hr4
 obtain ⟨x0, x1, x2, xf⟩ := N4.out
 obtain ⟨v0, v1, v2, vf⟩ := V4.out
 go_wp2
 have Y := N4.out.set (.string op) (.string tx) (.slice X n m)
 exact bodyPost_ret (v := .agg #[.string op, .string tx, .slice X n m]) (by simp [results, Tryz.results202, go_sem, Y.c0, Y.c1, Y.c2]) rfl
  (ret_same I4.out (fun g hg => by rcases hg with hg | hg; exact hg.elim; exact ⟨by have := hg.2; omega, by have := hg.1; omega, .inr (by have := hg.1; omega)⟩) B4.out R4.out hrl)
theorem sign_word {r : Nat} {A : Option Addr} {cap : Nat} {l : List W} {f : Nat} (i : Nat) (b : Bool) (w : World) (hi : i ≤ l.length) (hl : l.length ≤ 4194304) (h : Rdr w r A cap l i b) (hq1 : isW (bare l) i b [45] = false) (hq2 : isW (bare l) i b [40] = false) (q : List UInt8) (hq : oneL (bare l) i b [sTrue, sFalse, sNull] = q) (hq0 : q ≠ []) :
  Calls Tryz.prog 202 #[.pointer (some ⟨r, 0, none⟩)] w (Reads r A cap l w NoB (P (bare l) (f + 1) .sign i b)) := by
 have hP : P (bare l) (f + 1) .sign i b = (.leaf q [], i + 1, b) := by
  rw [P, if_neg (by rw [hq1]; decide), if_neg (by rw [hq2]; decide), hq, if_neg hq0]
 rw [hP]
 have HR := hid h
 have hrl := h.lt
 have HT1 := hid (fun w1 hr => rtake_any r A cap l i b ⟨#[45]⟩ false hq1 w1 hr hi hl)
 have HT2 := hid (fun w1 hr => rtake_any r A cap l i b ⟨#[40]⟩ false hq2 w1 hr hi hl)
 have HT3 := hid (fun (w1 : World) (t : TypeId) (hr : Rdr w1 r A cap l i b) => (show Calls Tryz.prog 204 #[.pointer (some ⟨r, 0, none⟩), .slice (some ⟨w1.heap.size, 0, none⟩) 3 3] (w1.alloc (.cells #[.string ⟨#[116, 114, 117, 101]⟩, .string ⟨#[102, 97, 108, 115, 101]⟩, .string ⟨#[110, 117, 108, 108]⟩] t)) _ from
  rone_any r A cap l i b (some ⟨w1.heap.size, 0, none⟩) 3 [sTrue, sFalse, sNull] (w1.alloc (.cells #[.string ⟨#[116, 114, 117, 101]⟩, .string ⟨#[102, 97, 108, 115, 101]⟩, .string ⟨#[110, 117, 108, 108]⟩] t)) (hr.alloc _) hi hl
   (by rw [show ∀ o, (w1.alloc o).heap.size = w1.heap.size + 1 from fun o => by simp]; exact texts_new w1 [sTrue, sFalse, sNull] t _ rfl) (fun ad e => by cases e; have := hr.lt; show w1.heap.size ≠ r; omega) (by decide) (by decide) q hq))
 rw [if_neg hq0] at HT3
 obtain ⟨T, hT⟩ : ∃ T : ByteArray, ⟨q.toArray⟩ = T := ⟨_, rfl⟩
 have hTq : q = T.data.toList := by rw [← hT]
 rw [hT] at HT3
 have hT0 : (T.toList == []) = false := by
  rw [ByteArray.toList_eq, ← hTq]
  simpa using hq0
 have hT1 : (T.toList != []) = true := by
  rw [ByteArray.toList_eq, ← hTq]
  simpa using hq0
 rw [hTq]
 clear h hP hq hq1 hq2 hT hTq hq0
 go_enter Tryz.func202, Tryz.ntmps202
 have N0 := hid (NBox.fresh w (.string ⟨#[]⟩) (.string ⟨#[]⟩) (.slice none 0 0) 24)
 have B0 := hid ((But.refl w r).alloc (.cells #[.string ⟨#[]⟩, .string ⟨#[]⟩, .slice none 0 0] 24))
 go_wp2_with fail
 refine (HT1.out _ (HR.out.alloc _)).mono ?_
 rintro e w1 ⟨rfl, hb1, hr1⟩
 have N1 := hid (N0.out.but (by omega) hb1)
 have B1 := hid (B0.out.trans hb1)
 have R1 := hid hr1
 clear hb1 hr1
 go_wp2_with fail
 refine (HT2.out _ R1.out).mono ?_
 rintro e w2 ⟨rfl, hb2, hr2⟩
 have N2 := hid (N1.out.but (by omega) hb2)
 have B2 := hid (B1.out.trans hb2)
 have R2 := hid hr2
 clear hb2 hr2
 go_wp2_with fail
 refine (HT3.out w2 _ R2.out).mono ?_
 rintro e w3 ⟨rfl, hb3, hr3⟩
 have N3 := hid ((N2.out.alloc _).but (by omega) hb3)
 have B3 := hid ((B2.out.alloc _).trans hb3)
 have R3 := hid hr3
 have hlt3 : w.heap.size < w3.heap.size := N3.out.lt
 clear hb3 hr3
 obtain ⟨x0, x1, x2, xf⟩ := N3.out
 go_wp2
 have Y := N3.out.set (.string T) (.string ⟨#[]⟩) (.slice none 0 0)
 exact bodyPost_ret (v := .agg #[.string T, .string ⟨#[]⟩, .slice none 0 0]) (by simp [results, Tryz.results202, go_sem, Y.c0, Y.c1, Y.c2]) rfl
  (ret_same (S2 := NoB) (NIn.leaf w3 NoB T ⟨#[]⟩) (fun g hg => hg.elim) B3.out R3.out hrl)
theorem sign_name {r : Nat} {A : Option Addr} {cap : Nat} {l : List W} {f : Nat} (i : Nat) (b : Bool) (w : World) (hi : i ≤ l.length) (hl : l.length ≤ 4194304) (h : Rdr w r A cap l i b) (hq1 : isW (bare l) i b [45] = false) (hq2 : isW (bare l) i b [40] = false) (q : List UInt8) (hq : oneL (bare l) i b [sTrue, sFalse, sNull] = q) (hq0 : q = []) (k1 : isK (bare l) i b 1 = false) (k2 : isK (bare l) i b 2 = false) :
  Calls Tryz.prog 202 #[.pointer (some ⟨r, 0, none⟩)] w (Reads r A cap l w NoB (P (bare l) (f + 1) .sign i b)) := by
 obtain ⟨g, hg⟩ : ∃ g, (isK (bare l) i b 0 && !ownL (txt (bare l) i)) = g := ⟨_, rfl⟩
 have hP : P (bare l) (f + 1) .sign i b = (.leaf sCol (if g = true then txt (bare l) i else []), (if g = true then i + 1 else i), (if g = true then b else true)) := by
  rw [P, if_neg (by rw [hq1]; decide), if_neg (by rw [hq2]; decide), hq, if_pos hq0, if_neg (by rw [k1]; decide), if_neg (by rw [k2]; decide), hg]
  cases g <;> rfl
 rw [hP]
 have HR := hid h
 have hrl := h.lt
 have HN := hid (fun w1 hr => rname_any r A cap l i b w1 hr hi hl g hg)
 have HT1 := hid (fun w1 hr => rtake_any r A cap l i b ⟨#[45]⟩ false hq1 w1 hr hi hl)
 have HT2 := hid (fun w1 hr => rtake_any r A cap l i b ⟨#[40]⟩ false hq2 w1 hr hi hl)
 have HT3 := hid (fun (w1 : World) (t : TypeId) (hr : Rdr w1 r A cap l i b) => (show Calls Tryz.prog 204 #[.pointer (some ⟨r, 0, none⟩), .slice (some ⟨w1.heap.size, 0, none⟩) 3 3] (w1.alloc (.cells #[.string ⟨#[116, 114, 117, 101]⟩, .string ⟨#[102, 97, 108, 115, 101]⟩, .string ⟨#[110, 117, 108, 108]⟩] t)) _ from
  rone_any r A cap l i b (some ⟨w1.heap.size, 0, none⟩) 3 [sTrue, sFalse, sNull] (w1.alloc (.cells #[.string ⟨#[116, 114, 117, 101]⟩, .string ⟨#[102, 97, 108, 115, 101]⟩, .string ⟨#[110, 117, 108, 108]⟩] t)) (hr.alloc _) hi hl
   (by rw [show ∀ o, (w1.alloc o).heap.size = w1.heap.size + 1 from fun o => by simp]; exact texts_new w1 [sTrue, sFalse, sNull] t _ rfl) (fun ad e => by cases e; have := hr.lt; show w1.heap.size ≠ r; omega) (by decide) (by decide) q hq))
 have HK1 := hid (fun w1 hr => rkind_any r A cap l i b 1 w1 hr hi hl)
 rw [k1] at HK1
 have HK2 := hid (fun w1 hr => rkind_any r A cap l i b 2 w1 hr hi hl)
 rw [k2] at HK2
 subst hq
 rw [if_pos hq0] at HT3
 rw [hq0] at HT3
 obtain ⟨T, hT⟩ : ∃ T : ByteArray, ⟨(if g = true then txt (bare l) i else []).toArray⟩ = T := ⟨_, rfl⟩
 have hTq : (if g = true then txt (bare l) i else []) = T.data.toList := by rw [← hT]
 rw [hT] at HN
 rw [hTq]
 obtain ⟨j2, hj2⟩ : ∃ j2, (if g = true then i + 1 else i) = j2 := ⟨_, rfl⟩
 obtain ⟨b2, hb2⟩ : ∃ b2, (if g = true then b else true) = b2 := ⟨_, rfl⟩
 rw [hj2, hb2] at HN
 rw [hj2, hb2]
 clear h hP hq1 hq2 hT hTq k1 k2 hg hj2 hb2
 go_enter Tryz.func202, Tryz.ntmps202
 have N0 := hid (NBox.fresh w (.string ⟨#[]⟩) (.string ⟨#[]⟩) (.slice none 0 0) 24)
 have B0 := hid ((But.refl w r).alloc (.cells #[.string ⟨#[]⟩, .string ⟨#[]⟩, .slice none 0 0] 24))
 go_wp2_with fail
 refine (HT1.out _ (HR.out.alloc _)).mono ?_
 rintro e w1 ⟨rfl, hb1, hr1⟩
 have N1 := hid (N0.out.but (by omega) hb1)
 have B1 := hid (B0.out.trans hb1)
 have R1 := hid hr1
 clear hb1 hr1
 go_wp2_with fail
 refine (HT2.out _ R1.out).mono ?_
 rintro e w2 ⟨rfl, hb2, hr2⟩
 have N2 := hid (N1.out.but (by omega) hb2)
 have B2 := hid (B1.out.trans hb2)
 have R2 := hid hr2
 clear hb2 hr2
 go_wp2_with fail
 refine (HT3.out w2 _ R2.out).mono ?_
 rintro e w3 ⟨rfl, hb3, hr3⟩
 have N3 := hid ((N2.out.alloc _).but (by omega) hb3)
 have B3 := hid ((B2.out.alloc _).trans hb3)
 have R3 := hid hr3
 have hlt3 : w.heap.size < w3.heap.size := N3.out.lt
 clear hb3 hr3
 go_wp2_with fail
 refine (HK1.out _ R3.out).mono ?_
 rintro e w4 ⟨rfl, hb4⟩
 have N4 := hid (N3.out.below hb4)
 have B4 := hid (B3.out.next hb4)
 have R4 := hid (R3.out.below hb4)
 clear hb4
 go_wp2_with fail
 refine (HK2.out _ R4.out).mono ?_
 rintro e w5 ⟨rfl, hb5⟩
 have N5 := hid (N4.out.below hb5)
 have B5 := hid (B4.out.next hb5)
 have R5 := hid (R4.out.below hb5)
 clear hb5
 go_wp2_with fail
 refine (HN.out _ R5.out).mono ?_
 rintro e w6 ⟨rfl, hb6, hr6⟩
 have N6 := hid (N5.out.but (by omega) hb6)
 have B6 := hid (B5.out.trans hb6)
 have R6 := hid hr6
 clear hb6 hr6
 obtain ⟨x0, x1, x2, xf⟩ := N6.out
 go_wp2
 have Y := N6.out.set (.string ⟨#[99, 111, 108]⟩) (.string T) (.slice none 0 0)
 exact bodyPost_ret (v := .agg #[.string ⟨#[99, 111, 108]⟩, .string T, .slice none 0 0]) (by simp [results, Tryz.results202, go_sem, Y.c0, Y.c1, Y.c2]) rfl
  (ret_same (S2 := NoB) (NIn.leaf w6 NoB ⟨#[99, 111, 108]⟩ T) (fun g hg => hg.elim) B6.out R6.out hrl)
end Go.Proofs.YthpmgnfmeldkjaaGreatDoor.Code
