/-
  The document's reader of expressions: the other half of a test.
-/
import Derived.Test.YtkibacolnagkcaaM15
namespace Go.Proofs.Ytkibacolnagkcaa.Code
open Go.ChangeShapes Go.WideShapes Go.ChangeAt Go.RowKit Val Elems
set_option linter.unusedVariables false
set_option linter.unusedSimpArgs false
theorem Reads.since {r : Nat} {A : Option Addr} {cap : Nat} {l : List W} {w : World} {S : Nat → Prop} {res : Tr × Nat × Bool} {e : Ending} {w' : World} {o : Obj} (h : Reads r A cap l (w.alloc o) S res e w') : Reads r A cap l w S res e w' := by
  obtain ⟨op, tx, X, n, m, he, hn, hb, hr⟩ := h
  refine ⟨op, tx, X, n, m, he, hn.imp fun g hg => ?_, ((But.refl w r).alloc o).trans hb, hr⟩
  rcases hg with hg | hg
  · exact .inl hg
  · exact .inr ⟨by have := hg.1; simp at this; omega, hg.2⟩
/-- a node with one Kid, of no variable, is told -/
theorem ret_one0 {r : Nat} {A : Option Addr} {cap : Nat} {l : List W} {w w2 : World} {S S2 : Nat → Prop} {x : Tr} {j : Nat} {b : Bool} {op tx : ByteArray} {X : Option Addr} {n m : Nat} (o : ByteArray) (hn : NIn w2 S2 x (.string op) (.string tx) (.slice X n m)) (hS : ∀ g, S2 g → g < w2.heap.size ∧ g ≠ w.heap.size ∧ (S g ∨ w.heap.size ≤ g)) (hb : But w w2 r) (hr : Rdr w2 r A cap l j b) (hrl : r < w.heap.size) (t : TypeId) :
    Reads r A cap l w S (.one o.data.toList x, j, b) (.returned (.agg #[.string o, .string ⟨#[]⟩, .slice (some ⟨w2.heap.size, 0, none⟩) 1 1])) ((W3 w2 w.heap.size (.string o) (.string ⟨#[]⟩) (.slice (some ⟨w2.heap.size, 0, none⟩) 1 1)).alloc (.cells #[.string op, .string tx, .slice X n m] t)) := by
  have hz := hb.size
  obtain ⟨W, hW⟩ : ∃ W, W3 w2 w.heap.size (.string o) (.string ⟨#[]⟩) (.slice (some ⟨w2.heap.size, 0, none⟩) 1 1) = W := ⟨_, rfl⟩
  have hs : W.heap.size = w2.heap.size := by rw [← hW, W3.size]
  have h1 : NIn W S2 x (.string op) (.string tx) (.slice X n m) := by rw [← hW]; exact W3.nin hn (fun h => (hS _ h).2.1 rfl) _ _ _
  have hB : But w W r := by rw [← hW]; exact W3.but hb (Nat.le_refl _) _ _ _
  have hR : Rdr W r A cap l j b := by rw [← hW]; exact W3.rdr hr hrl _ _ _
  rw [hW]
  have h2 := NIn.one o h1 (fun g hg => by have := (hS g hg).1; omega) (S' := fun g => S g ∨ New w (W.alloc (.cells #[.string op, .string tx, .slice X n m] t)) g) (fun g hg => by
    obtain ⟨a1, a2, a3⟩ := hS g hg
    rcases a3 with a3 | a3
    · exact .inl a3
    · exact .inr ⟨a3, by simp [hs]; omega⟩) (.inr ⟨by rw [hs]; omega, by simp⟩) t
  rw [hs] at h2
  exact ⟨o, ⟨#[]⟩, _, 1, 1, rfl, h2, hB.alloc _, hR.alloc _⟩
section
variable {r : Nat} {A : Option Addr} {cap : Nat} {l : List W} {f : Nat}
set_option maxHeartbeats 8000000 in
set_option maxRecDepth 100000 in
theorem test_does (D : Does r A cap l f) (S : Nat → Prop) (t : Tr) (op tx : ByteArray) (X : Option Addr) (n m : Nat) (i : Nat) (b : Bool) (w : World) (hS : ∀ g, S g → g < w.heap.size ∧ g ≠ r) (hn : NIn w S t (.string op) (.string tx) (.slice X n m)) (hi : i ≤ l.length) (hl : l.length ≤ 4194304) (hm : mu (bare l) (.test t) i < f + 1) (h : Rdr w r A cap l i b) :
    Calls Try.prog 69 #[.pointer (some ⟨r, 0, none⟩), .agg #[.string op, .string tx, .slice X n m]] w (Reads r A cap l w S (P (bare l) (f + 1) (.test t) i b)) := by
  obtain ⟨w0, hw0⟩ : ∃ w0, w.alloc (.cells #[.string op, .string tx, .slice X n m] 24) = w0 := ⟨_, rfl⟩
  have hz0 : w0.heap.size = w.heap.size + 1 := by rw [← hw0]; simp
  have V0 := Lib.hid (show NBox w0 w.heap.size (.string op) (.string tx) (.slice X n m) by rw [← hw0]; exact NBox.fresh _ _ _ _ _)
  have H0 := Lib.hid (show Rdr w0 r A cap l i b by rw [← hw0]; exact h.alloc _)
  have K0 := Lib.hid (show NIn w0 S t (.string op) (.string tx) (.slice X n m) by rw [← hw0]; exact hn.alloc (fun g hg => (hS g hg).1) _)
  have hrl := h.lt
  have hrl0 : r < w0.heap.size := by omega
  have HSS := Lib.hid hS
  refine Calls.mono (R := Reads r A cap l w0 S (P (bare l) (f + 1) (.test t) i b)) ?_ (fun e w' hR => by rw [← hw0] at hR; exact hR.since)
  obtain ⟨q, hq⟩ : ∃ q, oneL (bare l) i b (opsL 4) = q := ⟨_, rfl⟩
  have HOPS := Lib.hid (fun w => rops_any 4 (by omega) w)
  have HONE := Lib.hid (fun (S' : Option Addr) (c' : Nat) (w1 : World) (hr : Rdr w1 r A cap l i b) hs hne => rone_any r A cap l i b S' c' (opsL 4) w1 hr hi hl hs hne (by decide) (by decide) q hq)
  by_cases hq0 : q = []
  · subst hq0
    rw [if_pos rfl] at HONE
    obtain ⟨q2, hq2⟩ : ∃ q2, isW (bare l) i b sIs = q2 := ⟨_, rfl⟩
    have HT := Lib.hid (fun w1 hr => rtake_any r A cap l i b ⟨#[105, 115]⟩ q2 hq2 w1 hr hi hl)
    cases q2
    · have hP : P (bare l) (f + 1) (.test t) i b = (t, i, b) := by rw [P, if_pos hq, if_neg (by rw [hq2]; decide)]
      rw [hP]
      clear hP hq hq2 h hn hm D
      go_enter Try.func69, Try.ntmps69
      obtain ⟨w00, hw00⟩ : ∃ w00, w.alloc (.cells #[.string op, .string tx, .slice X n m] 24) = w00 := ⟨_, rfl⟩
      have N0 := Lib.hid (NBox.fresh w0 (.string ⟨#[]⟩) (.string ⟨#[]⟩) (.slice none 0 0) 24)
      have B0 := Lib.hid ((But.refl w0 r).alloc (.cells #[.string ⟨#[]⟩, .string ⟨#[]⟩, .slice none 0 0] 24))
      go_wp2_with fail
      refine (HOPS.out _).mono ?_
      rintro e w1 ⟨L1, c1, rfl, hs1, hg1, hb1⟩
      have N1 := Lib.hid (N0.out.below hb1)
      have B1 := Lib.hid (B0.out.next hb1)
      have R1 := Lib.hid ((H0.out.alloc (.cells #[.string ⟨#[]⟩, .string ⟨#[]⟩, .slice none 0 0] 24)).below hb1)
      have V1 := Lib.hid ((V0.out.alloc (.cells #[.string ⟨#[]⟩, .string ⟨#[]⟩, .slice none 0 0] 24)).below hb1)
      have K1 := Lib.hid ((K0.out.alloc (fun g hg => by have := (HSS.out g hg).1; omega) (.cells #[.string ⟨#[]⟩, .string ⟨#[]⟩, .slice none 0 0] 24)).below (fun g hg => by have := (HSS.out g hg).1; simp; omega) hb1)
      have S1 := Lib.hid hs1
      have G1 := Lib.hid (show ∀ ad, L1 = some ad → ad.block ≠ r from fun ad e => by have := hg1 ad e; simp at this; omega)
      have z1 : w0.heap.size < w1.heap.size := N1.out.lt
      clear hb1 hs1 hg1
      go_wp2_with fail
      refine (HONE.out L1 c1 _ R1.out S1.out G1.out).mono ?_
      rintro e w2 ⟨rfl, hb2, hr2⟩
      have N2 := Lib.hid (N1.out.but (by omega) hb2)
      have B2 := Lib.hid (B1.out.trans hb2)
      have R2 := Lib.hid hr2
      have V2 := Lib.hid (V1.out.but (by omega) hb2)
      have K2 := Lib.hid (K1.out.but (fun g hg => ⟨by have := (HSS.out g hg).1; omega, (HSS.out g hg).2⟩) hb2)
      have z2 : w1.heap.size ≤ w2.heap.size := hb2.size
      clear hb2 hr2 S1 G1
      go_wp2_with fail
      refine (HT.out _ R2.out).mono ?_
      rintro e w3 ⟨rfl, hb3, hr3⟩
      have N3 := Lib.hid (N2.out.but (by omega) hb3)
      have B3 := Lib.hid (B2.out.trans hb3)
      have R3 := Lib.hid hr3
      have V3 := Lib.hid (V2.out.but (by omega) hb3)
      have K3 := Lib.hid (K2.out.but (fun g hg => ⟨by have := (HSS.out g hg).1; omega, (HSS.out g hg).2⟩) hb3)
      have hs3 : w2.heap.size ≤ w3.heap.size := hb3.size
      clear hb3 hr3
      have NZ := N3.out
      rw [hz0] at NZ
      have zz := NZ.lt
      have zv := V3.out.lt
      obtain ⟨x0, x1, x2, xf⟩ := NZ
      obtain ⟨v0, v1, v2, vf⟩ := V3.out
      go_wp2
      have NZ := N3.out
      rw [hz0] at NZ
      have Y := NZ.set (.string op) (.string tx) (.slice X n m)
      exact bodyPost_ret (v := .agg #[.string op, .string tx, .slice X n m]) (by simp [results, Try.results69, go_sem, Y.c0, Y.c1, Y.c2]) rfl
        (by have hh := (ret_same K3.out (fun g hg => ⟨by have := (HSS.out g hg).1; omega, by have := (HSS.out g hg).1; omega, .inl hg⟩) B3.out R3.out hrl0); rw [hz0] at hh; exact hh)
    · have hil := isW_len hq2
      obtain ⟨q3, hq3⟩ : ∃ q3, isW (bare l) (i + 1) b sNull = q3 := ⟨_, rfl⟩
      have HM := Lib.hid (fun w1 hr => rmust_any r A cap l (i + 1) b ⟨#[110, 117, 108, 108]⟩ q3 hq3 w1 hr hil hl)
      obtain ⟨j2, hj2⟩ : ∃ j2, (if q3 = true then i + 1 + 1 else i + 1) = j2 := ⟨_, rfl⟩
      obtain ⟨b2, hb2⟩ : ∃ b2, (if q3 = true then b else true) = b2 := ⟨_, rfl⟩
      have hP : P (bare l) (f + 1) (.test t) i b = (.one sIsNull t, j2, b2) := by
        rw [P, if_pos hq, if_pos hq2, hq3, ← hj2, ← hb2]
        cases q3 <;> rfl
      rw [hP]
      rw [hj2, hb2] at HM
      clear hP hq hq2 hq3 hj2 hb2 h hn hm D
      go_enter Try.func69, Try.ntmps69
      obtain ⟨w00, hw00⟩ : ∃ w00, w.alloc (.cells #[.string op, .string tx, .slice X n m] 24) = w00 := ⟨_, rfl⟩
      have N0 := Lib.hid (NBox.fresh w0 (.string ⟨#[]⟩) (.string ⟨#[]⟩) (.slice none 0 0) 24)
      have B0 := Lib.hid ((But.refl w0 r).alloc (.cells #[.string ⟨#[]⟩, .string ⟨#[]⟩, .slice none 0 0] 24))
      go_wp2_with fail
      refine (HOPS.out _).mono ?_
      rintro e w1 ⟨L1, c1, rfl, hs1, hg1, hb1⟩
      have N1 := Lib.hid (N0.out.below hb1)
      have B1 := Lib.hid (B0.out.next hb1)
      have R1 := Lib.hid ((H0.out.alloc (.cells #[.string ⟨#[]⟩, .string ⟨#[]⟩, .slice none 0 0] 24)).below hb1)
      have V1 := Lib.hid ((V0.out.alloc (.cells #[.string ⟨#[]⟩, .string ⟨#[]⟩, .slice none 0 0] 24)).below hb1)
      have K1 := Lib.hid ((K0.out.alloc (fun g hg => by have := (HSS.out g hg).1; omega) (.cells #[.string ⟨#[]⟩, .string ⟨#[]⟩, .slice none 0 0] 24)).below (fun g hg => by have := (HSS.out g hg).1; simp; omega) hb1)
      have S1 := Lib.hid hs1
      have G1 := Lib.hid (show ∀ ad, L1 = some ad → ad.block ≠ r from fun ad e => by have := hg1 ad e; simp at this; omega)
      have z1 : w0.heap.size < w1.heap.size := N1.out.lt
      clear hb1 hs1 hg1
      go_wp2_with fail
      refine (HONE.out L1 c1 _ R1.out S1.out G1.out).mono ?_
      rintro e w2 ⟨rfl, hb2, hr2⟩
      have N2 := Lib.hid (N1.out.but (by omega) hb2)
      have B2 := Lib.hid (B1.out.trans hb2)
      have R2 := Lib.hid hr2
      have V2 := Lib.hid (V1.out.but (by omega) hb2)
      have K2 := Lib.hid (K1.out.but (fun g hg => ⟨by have := (HSS.out g hg).1; omega, (HSS.out g hg).2⟩) hb2)
      have z2 : w1.heap.size ≤ w2.heap.size := hb2.size
      clear hb2 hr2 S1 G1
      go_wp2_with fail
      refine (HT.out _ R2.out).mono ?_
      rintro e w3 ⟨rfl, hb3, hr3⟩
      have N3 := Lib.hid (N2.out.but (by omega) hb3)
      have B3 := Lib.hid (B2.out.trans hb3)
      have R3 := Lib.hid hr3
      have V3 := Lib.hid (V2.out.but (by omega) hb3)
      have K3 := Lib.hid (K2.out.but (fun g hg => ⟨by have := (HSS.out g hg).1; omega, (HSS.out g hg).2⟩) hb3)
      have hs3 : w2.heap.size ≤ w3.heap.size := hb3.size
      clear hb3 hr3
      have NZ := N3.out
      rw [hz0] at NZ
      have zz := NZ.lt
      have zv := V3.out.lt
      obtain ⟨x0, x1, x2, xf⟩ := NZ
      obtain ⟨v0, v1, v2, vf⟩ := V3.out
      go_wp2_with fail
      refine (HM.out _ R3.out).mono ?_
      rintro e w4 ⟨rfl, hb4, hr4⟩
      have N4 := Lib.hid (N3.out.but (by omega) hb4)
      have B4 := Lib.hid (B3.out.trans hb4)
      have R4 := Lib.hid hr4
      have V4 := Lib.hid (V3.out.but (by omega) hb4)
      have K4 := Lib.hid (K3.out.but (fun g hg => ⟨by have := (HSS.out g hg).1; omega, (HSS.out g hg).2⟩) hb4)
      have hs4 : w3.heap.size ≤ w4.heap.size := hb4.size
      clear hb4 hr4
      have NZ := N4.out
      rw [hz0] at NZ
      have zz := NZ.lt
      have zv := V4.out.lt
      obtain ⟨x0, x1, x2, xf⟩ := NZ
      obtain ⟨v0, v1, v2, vf⟩ := V4.out
      go_wp2
      have NZ := N4.out
      rw [hz0] at NZ
      have Y := (NZ.set (.string ⟨#[105, 115, 32, 110, 117, 108, 108]⟩) (.string ⟨#[]⟩) (.slice (some ⟨w4.heap.size, 0, none⟩) 1 1)).alloc (.cells #[.string op, .string tx, .slice X n m] 24)
      exact bodyPost_ret (v := .agg #[.string ⟨#[105, 115, 32, 110, 117, 108, 108]⟩, .string ⟨#[]⟩, .slice (some ⟨w4.heap.size, 0, none⟩) 1 1]) (by simp [results, Try.results69, go_sem, Y.c0, Y.c1, Y.c2]) rfl
        (by have hh := (ret_one0 ⟨#[105, 115, 32, 110, 117, 108, 108]⟩ K4.out (fun g hg => ⟨by have := (HSS.out g hg).1; omega, by have := (HSS.out g hg).1; omega, .inl hg⟩) B4.out R4.out hrl0 24); rw [hz0] at hh; exact hh)
  · rw [if_neg hq0] at HONE
    obtain ⟨hil, rfl⟩ := oneL_lt (show oneL (bare l) i b (opsL 4) ≠ [] by rw [hq]; exact hq0)
    have hmu := mu_next hil (.expr 5) (.test t) ⟨by omega, by omega⟩ (Nat.le_refl 1)
    rw [bare_length] at hil
    obtain ⟨y, j, b', hx⟩ : ∃ y j b', P (bare l) f (.expr 5) (i + 1) false = (y, j, b') := ⟨_, _, _, rfl⟩
    have HI := Lib.hid (fun w1 hr => D.expr 5 (i + 1) false w1 (by omega) (by omega) (by omega) (by omega) hr)
    rw [hx] at HI
    obtain ⟨Q, hQ⟩ : ∃ Q : ByteArray, ⟨q.toArray⟩ = Q := ⟨_, rfl⟩
    have hQq : q = Q.data.toList := by rw [← hQ]
    rw [hQ] at HONE
    have hQ1 : (Q.toList != []) = true := by
      rw [ByteArray.toList_eq, ← hQq]
      simpa using hq0
    have hQ0 : (Q.toList == []) = false := by
      rw [ByteArray.toList_eq, ← hQq]
      simpa using hq0
    have hP : P (bare l) (f + 1) (.test t) i false = (.two Q.data.toList t y, j, b') := by
      rw [P, hq, if_neg hq0, hx, hQq]
    rw [hP]
    clear hP hq hx hQ hQq hq0 hmu h hn hm D
    go_enter Try.func69, Try.ntmps69
    obtain ⟨w00, hw00⟩ : ∃ w00, w.alloc (.cells #[.string op, .string tx, .slice X n m] 24) = w00 := ⟨_, rfl⟩
    have N0 := Lib.hid (NBox.fresh w0 (.string ⟨#[]⟩) (.string ⟨#[]⟩) (.slice none 0 0) 24)
    have B0 := Lib.hid ((But.refl w0 r).alloc (.cells #[.string ⟨#[]⟩, .string ⟨#[]⟩, .slice none 0 0] 24))
    go_wp2_with fail
    refine (HOPS.out _).mono ?_
    rintro e w1 ⟨L1, c1, rfl, hs1, hg1, hb1⟩
    have N1 := Lib.hid (N0.out.below hb1)
    have B1 := Lib.hid (B0.out.next hb1)
    have R1 := Lib.hid ((H0.out.alloc (.cells #[.string ⟨#[]⟩, .string ⟨#[]⟩, .slice none 0 0] 24)).below hb1)
    have V1 := Lib.hid ((V0.out.alloc (.cells #[.string ⟨#[]⟩, .string ⟨#[]⟩, .slice none 0 0] 24)).below hb1)
    have K1 := Lib.hid ((K0.out.alloc (fun g hg => by have := (HSS.out g hg).1; omega) (.cells #[.string ⟨#[]⟩, .string ⟨#[]⟩, .slice none 0 0] 24)).below (fun g hg => by have := (HSS.out g hg).1; simp; omega) hb1)
    have S1 := Lib.hid hs1
    have G1 := Lib.hid (show ∀ ad, L1 = some ad → ad.block ≠ r from fun ad e => by have := hg1 ad e; simp at this; omega)
    have z1 : w0.heap.size < w1.heap.size := N1.out.lt
    clear hb1 hs1 hg1
    go_wp2_with fail
    refine (HONE.out L1 c1 _ R1.out S1.out G1.out).mono ?_
    rintro e w2 ⟨rfl, hb2, hr2⟩
    have N2 := Lib.hid (N1.out.but (by omega) hb2)
    have B2 := Lib.hid (B1.out.trans hb2)
    have R2 := Lib.hid hr2
    have V2 := Lib.hid (V1.out.but (by omega) hb2)
    have K2 := Lib.hid (K1.out.but (fun g hg => ⟨by have := (HSS.out g hg).1; omega, (HSS.out g hg).2⟩) hb2)
    have z2 : w1.heap.size ≤ w2.heap.size := hb2.size
    clear hb2 hr2 S1 G1
    have hlt2 : w0.heap.size < w2.heap.size := N2.out.lt
    go_wp2_with fail
    refine (HI.out _ R2.out).mono ?_
    rintro e w3 ⟨op2, tx2, X2, n2, m2, rfl, hn3, hb3, hr3⟩
    have I3 := Lib.hid (hn3.imp (S' := fun g => S g ∨ New w2 w3 g) (fun g hg => by rcases hg with hg | hg; exact hg.elim; exact .inr hg))
    clear hn3
    have J3 := Lib.hid ((K2.out.but (fun g hg => ⟨by have := (HSS.out g hg).1; omega, (HSS.out g hg).2⟩) hb3).imp (S' := fun g => S g ∨ New w2 w3 g) (fun g hg => .inl hg))
    have N3 := Lib.hid (N2.out.but (by omega) hb3)
    have B3 := Lib.hid (B2.out.trans hb3)
    have R3 := Lib.hid hr3
    have V3 := Lib.hid (V2.out.but (by omega) hb3)
    have K3 := Lib.hid (K2.out.but (fun g hg => ⟨by have := (HSS.out g hg).1; omega, (HSS.out g hg).2⟩) hb3)
    have hs3 : w2.heap.size ≤ w3.heap.size := hb3.size
    clear hb3 hr3
    have NZ := N3.out
    rw [hz0] at NZ
    have zz := NZ.lt
    have zv := V3.out.lt
    obtain ⟨x0, x1, x2, xf⟩ := NZ
    obtain ⟨v0, v1, v2, vf⟩ := V3.out
    have hlt3 := hs3
    go_wp2
    have NZ := N3.out
    rw [hz0] at NZ
    have Y := ((NZ.set (.string Q) (.string ⟨#[]⟩) (.slice (some ⟨w3.heap.size + 1, 0, none⟩) 2 2)).alloc (.cells #[.string op2, .string tx2, .slice X2 n2 m2] 24)).alloc (.cells #[.string op, .string tx, .slice X n m, .string op2, .string tx2, .slice X2 n2 m2] 24)
    exact bodyPost_ret (v := .agg #[.string Q, .string ⟨#[]⟩, .slice (some ⟨w3.heap.size + 1, 0, none⟩) 2 2]) (by simp [results, Try.results69, go_sem, Y.c0, Y.c1, Y.c2]) rfl
      (by have hh := (ret_two Q J3.out I3.out (fun g hg => by
        rcases hg with hg | hg
        · exact ⟨by have := (HSS.out g hg).1; omega, by have := (HSS.out g hg).1; omega, .inl hg⟩
        · exact ⟨hg.2, by have := hg.1; omega, .inr (by have := hg.1; omega)⟩) B3.out R3.out hrl0 (.cells #[.string op2, .string tx2, .slice X2 n2 m2] 24) 24 w0.heap.size (Nat.le_refl _) (fun hg => by
        rcases hg with hg | hg
        · have := (HSS.out _ hg).1; omega
        · have := hg.1; omega)); rw [hz0] at hh; exact hh)
end
end Go.Proofs.Ytkibacolnagkcaa.Code
/-
  The document's reader of expressions: an expression of a level.
-/
namespace Go.Proofs.Ytkibacolnagkcaa.Code
open Go.ChangeShapes Go.WideShapes Go.ChangeAt Go.RowKit Val Elems
set_option linter.unusedVariables false
set_option linter.unusedSimpArgs false
def atOf (w : World) (r : Nat) : Nat := match w.cell? ⟨r, 1, none⟩ with | some (.int _ n) => n.toNat | _ => 0
theorem Rdr.atOf {w : World} {r : Nat} {A : Option Addr} {cap : Nat} {l : List W} {i : Nat} {b : Bool} (h : Rdr w r A cap l i b) : atOf w r = i := by
  unfold Code.atOf
  rw [h.c1]
  simp
section
variable {r : Nat} {A : Option Addr} {cap : Nat} {l : List W} {f : Nat}
/-- a variable is given a node of two, of itself and another variable -/
theorem var_two {w w2 : World} {S2 S' : Nat → Prop} {x y : Tr} {j : Nat} {b : Bool} {op tx op2 tx2 : ByteArray} {X X2 : Option Addr} {n m n2 m2 : Nat} (o : ByteArray) (hn : NIn w2 S2 x (.string op) (.string tx) (.slice X n m)) (hn2 : NIn w2 S2 y (.string op2) (.string tx2) (.slice X2 n2 m2)) (hS : ∀ g, S2 g → g < w2.heap.size) (hS' : ∀ g, S2 g → S' g) (hnew : S' (w2.heap.size + 1)) (hb : But w w2 r) (hr : Rdr w2 r A cap l j b) (g2 : Nat) (hg2 : w.heap.size ≤ g2) (hrg : r < g2) (hg3 : ¬ S2 g2) (o1 : Obj) (t : TypeId) (V : NBox w2 g2 (.string op) (.string tx) (.slice X n m)) {g0 : Nat} {a0 b0 c0 : Value} (N : NBox w2 g0 a0 b0 c0) (hg0 : g0 ≠ g2) (Wf : World) (hW : (((W3 w2 g2 (.string o) (.string ⟨#[]⟩) (.slice (some ⟨w2.heap.size + 1, 0, none⟩) 2 2)).alloc o1).alloc (.cells #[.string op, .string tx, .slice X n m, .string op2, .string tx2, .slice X2 n2 m2] t)) = Wf) :
    NBox Wf g2 (.string o) (.string ⟨#[]⟩) (.slice (some ⟨w2.heap.size + 1, 0, none⟩) 2 2) ∧ NIn Wf S' (.two o.data.toList x y) (.string o) (.string ⟨#[]⟩) (.slice (some ⟨w2.heap.size + 1, 0, none⟩) 2 2) ∧ But w Wf r ∧ Rdr Wf r A cap l j b ∧ NBox Wf g0 a0 b0 c0 ∧ Wf.heap.size = w2.heap.size + 2 := by
  subst hW
  obtain ⟨W, hW⟩ : ∃ W, W3 w2 g2 (.string o) (.string ⟨#[]⟩) (.slice (some ⟨w2.heap.size + 1, 0, none⟩) 2 2) = W := ⟨_, rfl⟩
  have hs : W.heap.size = w2.heap.size := by rw [← hW, W3.size]
  have h1 : NIn W S2 x (.string op) (.string tx) (.slice X n m) := by rw [← hW]; exact W3.nin hn hg3 _ _ _
  have h1b : NIn W S2 y (.string op2) (.string tx2) (.slice X2 n2 m2) := by rw [← hW]; exact W3.nin hn2 hg3 _ _ _
  have hB : But w W r := by rw [← hW]; exact W3.but hb hg2 _ _ _
  have hR : Rdr W r A cap l j b := by rw [← hW]; exact W3.rdr hr hrg _ _ _
  have hV : NBox W g2 (.string o) (.string ⟨#[]⟩) (.slice (some ⟨w2.heap.size + 1, 0, none⟩) 2 2) := by rw [← hW]; exact W3.box V _ _ _
  have hN : NBox W g0 a0 b0 c0 := by
    rw [← hW]
    have hne : ∀ j k : Nat, (⟨g0, j, none⟩ : Addr) ≠ ⟨g2, k, none⟩ := fun j k e => hg0 (congrArg Addr.block e)
    unfold W3
    exact ⟨by rw [World.cell?_setCell_other _ _ _ _ (fun e => hne _ _ e.symm), World.cell?_setCell_other _ _ _ _ (fun e => hne _ _ e.symm), World.cell?_setCell_other _ _ _ _ (fun e => hne _ _ e.symm)]; exact N.c0, by rw [World.cell?_setCell_other _ _ _ _ (fun e => hne _ _ e.symm), World.cell?_setCell_other _ _ _ _ (fun e => hne _ _ e.symm), World.cell?_setCell_other _ _ _ _ (fun e => hne _ _ e.symm)]; exact N.c1, by rw [World.cell?_setCell_other _ _ _ _ (fun e => hne _ _ e.symm), World.cell?_setCell_other _ _ _ _ (fun e => hne _ _ e.symm), World.cell?_setCell_other _ _ _ _ (fun e => hne _ _ e.symm)]; exact N.c2, fun k => by rw [World.frozen?_setCell, World.frozen?_setCell, World.frozen?_setCell]; exact N.fr k⟩
  rw [hW]
  have hs1 : (W.alloc o1).heap.size = w2.heap.size + 1 := by simp [hs]
  have h2 := NIn.two o (h1.alloc (fun g hg => by have := hS g hg; omega) o1) (h1b.alloc (fun g hg => by have := hS g hg; omega) o1) (fun g hg => by have := hS g hg; omega) (S' := S') hS' (by rw [hs1]; exact hnew) t
  rw [hs1] at h2
  exact ⟨(hV.alloc _).alloc _, h2, (hB.alloc _).alloc _, (hR.alloc _).alloc _, (hN.alloc _).alloc _, by simp [hs]⟩
set_option maxHeartbeats 8000000 in
set_option maxRecDepth 100000 in
theorem expr_sign (D : Does r A cap l f) (i : Nat) (b : Bool) (w : World) (hi : i ≤ l.length) (hm : mu (bare l) (.expr 7) i < f + 1) (h : Rdr w r A cap l i b) :
    Calls Try.prog 42 #[.pointer (some ⟨r, 0, none⟩), .int .i64 7] w (Reads r A cap l w NoB (P (bare l) (f + 1) (.expr 7) i b)) := by
  obtain ⟨x, j, b', hx⟩ : ∃ x j b', P (bare l) f .sign i b = (x, j, b') := ⟨_, _, _, rfl⟩
  have hP : P (bare l) (f + 1) (.expr 7) i b = (x, j, b') := by rw [P, if_pos rfl, hx]
  have e1 : mu (bare l) .sign i = 16 * ((bare l).length - i) + 1 := rfl
  have e2 : mu (bare l) (.expr 7) i = 16 * ((bare l).length - i) + 3 := rfl
  rw [hP]
  have HI := Lib.hid (fun w1 hr => D.sign i b w1 hi (by omega) hr)
  rw [hx] at HI
  have HR := Lib.hid h
  have hrl := h.lt
  clear h hP hx hm D e1 e2
  go_enter Try.func42, Try.ntmps42
  obtain ⟨w0, hw0⟩ : ∃ w0, w.alloc (.cells #[.string ⟨#[]⟩, .string ⟨#[]⟩, .slice none 0 0] 24) = w0 := ⟨_, rfl⟩
  have hz0 : w.heap.size < w0.heap.size := by rw [← hw0]; simp
  have N0 := Lib.hid (show NBox w0 w.heap.size (.string ⟨#[]⟩) (.string ⟨#[]⟩) (.slice none 0 0) by rw [← hw0]; exact NBox.fresh _ _ _ _ _)
  have B0 := Lib.hid (show But w w0 r by rw [← hw0]; exact (But.refl w r).alloc _)
  have R0 := Lib.hid (show Rdr w0 r A cap l i b by rw [← hw0]; exact HR.out.alloc _)
  go_wp2_with fail
  try rw [hw0]
  refine (HI.out _ R0.out).mono ?_
  rintro e w1 ⟨op, tx, X, n, m, rfl, hn1, hb1, hr1⟩
  have N1 := Lib.hid (N0.out.but (by omega) hb1)
  have B1 := Lib.hid (B0.out.trans hb1)
  have R1 := Lib.hid hr1
  have I1 := Lib.hid (hn1.imp (S' := New w0 w1) (fun g hg => by rcases hg with hg | hg; exact hg.elim; exact hg))
  have hz1 : w0.heap.size ≤ w1.heap.size := hb1.size
  clear hb1 hr1 hn1
  have zz1 := N1.out.lt
  obtain ⟨x0, x1, x2, xf⟩ := N1.out
  go_wp2
  have Y := N1.out.set (.string op) (.string tx) (.slice X n m)
  exact bodyPost_ret (v := .agg #[.string op, .string tx, .slice X n m]) (by simp [results, Try.results42, go_sem, Y.c0, Y.c1, Y.c2]) rfl
    (ret_same I1.out (fun g hg => ⟨hg.2, by have := hg.1; omega, .inr (by have := hg.1; omega)⟩) B1.out R1.out hrl)
set_option maxHeartbeats 8000000 in
set_option maxRecDepth 100000 in
theorem expr_not (D : Does r A cap l f) (i : Nat) (b : Bool) (w : World) (hi : i ≤ l.length) (hl : l.length ≤ 4194304) (hm : mu (bare l) (.expr 3) i < f + 1) (h : Rdr w r A cap l i b) :
    Calls Try.prog 42 #[.pointer (some ⟨r, 0, none⟩), .int .i64 3] w (Reads r A cap l w NoB (P (bare l) (f + 1) (.expr 3) i b)) := by
  obtain ⟨q, hq⟩ : ∃ q, isW (bare l) i b sNot = q := ⟨_, rfl⟩
  have HT := Lib.hid (fun w1 hr => rtake_any r A cap l i b ⟨#[110, 111, 116]⟩ q hq w1 hr hi hl)
  have HR := Lib.hid h
  have hrl := h.lt
  cases q
  · obtain ⟨x, j, b', hx⟩ : ∃ x j b', P (bare l) f (.expr 4) i b = (x, j, b') := ⟨_, _, _, rfl⟩
    have hP : P (bare l) (f + 1) (.expr 3) i b = (x, j, b') := by rw [P, if_neg (by decide), if_pos rfl, if_neg (by rw [hq]; decide), hx]
    have e1 : mu (bare l) (.expr 4) i = 16 * ((bare l).length - i) + 9 := rfl
    have e2 : mu (bare l) (.expr 3) i = 16 * ((bare l).length - i) + 11 := rfl
    rw [hP]
    have HI := Lib.hid (fun w1 hr => D.expr 4 i b w1 (by omega) (by omega) hi (by omega) hr)
    rw [hx] at HI
    clear h hP hx hm D e1 e2 hq
    go_enter Try.func42, Try.ntmps42
    obtain ⟨w0, hw0⟩ : ∃ w0, w.alloc (.cells #[.string ⟨#[]⟩, .string ⟨#[]⟩, .slice none 0 0] 24) = w0 := ⟨_, rfl⟩
    have hz0 : w.heap.size < w0.heap.size := by rw [← hw0]; simp
    have N0 := Lib.hid (show NBox w0 w.heap.size (.string ⟨#[]⟩) (.string ⟨#[]⟩) (.slice none 0 0) by rw [← hw0]; exact NBox.fresh _ _ _ _ _)
    have B0 := Lib.hid (show But w w0 r by rw [← hw0]; exact (But.refl w r).alloc _)
    have R0 := Lib.hid (show Rdr w0 r A cap l i b by rw [← hw0]; exact HR.out.alloc _)
    go_wp2_with fail
    try rw [hw0]
    refine (HT.out _ R0.out).mono ?_
    rintro e w00 ⟨rfl, hb0, hr0⟩
    replace N0 := Lib.hid (N0.out.but (by omega) hb0)
    replace B0 := Lib.hid (B0.out.trans hb0)
    replace R0 := Lib.hid hr0
    have hz00 : w0.heap.size ≤ w00.heap.size := hb0.size
    clear hb0 hr0
    go_wp2_with fail
    refine (HI.out _ R0.out).mono ?_
    rintro e w1 ⟨op, tx, X, n, m, rfl, hn1, hb1, hr1⟩
    have N1 := Lib.hid (N0.out.but (by omega) hb1)
    have B1 := Lib.hid (B0.out.trans hb1)
    have R1 := Lib.hid hr1
    have I1 := Lib.hid (hn1.imp (S' := New w00 w1) (fun g hg => by rcases hg with hg | hg; exact hg.elim; exact hg))
    have hz1 : w00.heap.size ≤ w1.heap.size := hb1.size
    clear hb1 hr1 hn1
    have zz1 := N1.out.lt
    obtain ⟨x0, x1, x2, xf⟩ := N1.out
    go_wp2
    have Y := N1.out.set (.string op) (.string tx) (.slice X n m)
    exact bodyPost_ret (v := .agg #[.string op, .string tx, .slice X n m]) (by simp [results, Try.results42, go_sem, Y.c0, Y.c1, Y.c2]) rfl
      (ret_same I1.out (fun g hg => ⟨hg.2, by have := hg.1; omega, .inr (by have := hg.1; omega)⟩) B1.out R1.out hrl)
  · have hil := isW_len hq
    obtain ⟨x, j, b', hx⟩ : ∃ x j b', P (bare l) f (.expr 3) (i + 1) b = (x, j, b') := ⟨_, _, _, rfl⟩
    have hP : P (bare l) (f + 1) (.expr 3) i b = (.one sNot x, j, b') := by rw [P, if_neg (by decide), if_pos rfl, if_pos hq, hx]
    have hmu := mu_next (L := bare l) (by rw [bare_length]; exact hil) (.expr 3) (.expr 3) ⟨by omega, by omega⟩ (by decide)
    rw [hP]
    have HI := Lib.hid (fun w1 hr => D.expr 3 (i + 1) b w1 (by omega) (by omega) (by omega) (by omega) hr)
    rw [hx] at HI
    clear h hP hx hm D hq hmu
    go_enter Try.func42, Try.ntmps42
    obtain ⟨w0, hw0⟩ : ∃ w0, w.alloc (.cells #[.string ⟨#[]⟩, .string ⟨#[]⟩, .slice none 0 0] 24) = w0 := ⟨_, rfl⟩
    have hz0 : w.heap.size < w0.heap.size := by rw [← hw0]; simp
    have N0 := Lib.hid (show NBox w0 w.heap.size (.string ⟨#[]⟩) (.string ⟨#[]⟩) (.slice none 0 0) by rw [← hw0]; exact NBox.fresh _ _ _ _ _)
    have B0 := Lib.hid (show But w w0 r by rw [← hw0]; exact (But.refl w r).alloc _)
    have R0 := Lib.hid (show Rdr w0 r A cap l i b by rw [← hw0]; exact HR.out.alloc _)
    go_wp2_with fail
    try rw [hw0]
    refine (HT.out _ R0.out).mono ?_
    rintro e w00 ⟨rfl, hb0, hr0⟩
    replace N0 := Lib.hid (N0.out.but (by omega) hb0)
    replace B0 := Lib.hid (B0.out.trans hb0)
    replace R0 := Lib.hid hr0
    have hz00 : w0.heap.size ≤ w00.heap.size := hb0.size
    clear hb0 hr0
    go_wp2_with fail
    refine (HI.out _ R0.out).mono ?_
    rintro e w1 ⟨op, tx, X, n, m, rfl, hn1, hb1, hr1⟩
    have N1 := Lib.hid (N0.out.but (by omega) hb1)
    have B1 := Lib.hid (B0.out.trans hb1)
    have R1 := Lib.hid hr1
    have I1 := Lib.hid (hn1.imp (S' := New w00 w1) (fun g hg => by rcases hg with hg | hg; exact hg.elim; exact hg))
    have hz1 : w00.heap.size ≤ w1.heap.size := hb1.size
    clear hb1 hr1 hn1
    have zz1 := N1.out.lt
    obtain ⟨x0, x1, x2, xf⟩ := N1.out
    go_wp2
    have Y := ((N1.out.set (.string ⟨#[110, 111, 116]⟩) (.string ⟨#[]⟩) (.slice (some ⟨w1.heap.size + 1, 0, none⟩) 1 1)).alloc (.cells #[.string op, .string tx, .slice X n m] 24)).alloc (.cells #[.string op, .string tx, .slice X n m] 24)
    exact bodyPost_ret (v := .agg #[.string ⟨#[110, 111, 116]⟩, .string ⟨#[]⟩, .slice (some ⟨w1.heap.size + 1, 0, none⟩) 1 1]) (by simp [results, Try.results42, go_sem, Y.c0, Y.c1, Y.c2]) rfl
      (ret_one ⟨#[110, 111, 116]⟩ I1.out (fun g hg => ⟨hg.2, by have := hg.1; omega, .inr (by have := hg.1; omega)⟩) B1.out R1.out hrl _ _)
set_option maxHeartbeats 8000000 in
set_option maxRecDepth 100000 in
theorem expr_test (D : Does r A cap l f) (i : Nat) (b : Bool) (w : World) (hi : i ≤ l.length) (hm : mu (bare l) (.expr 4) i < f + 1) (h : Rdr w r A cap l i b) :
    Calls Try.prog 42 #[.pointer (some ⟨r, 0, none⟩), .int .i64 4] w (Reads r A cap l w NoB (P (bare l) (f + 1) (.expr 4) i b)) := by
  obtain ⟨x, j, b', hx⟩ : ∃ x j b', P (bare l) f (.expr 5) i b = (x, j, b') := ⟨_, _, _, rfl⟩
  obtain ⟨y, j2, b2, hy⟩ : ∃ y j2 b2, P (bare l) f (.test x) j b' = (y, j2, b2) := ⟨_, _, _, rfl⟩
  have hP : P (bare l) (f + 1) (.expr 4) i b = (y, j2, b2) := by
    rw [P, if_neg (by decide), if_neg (by decide), if_pos rfl, hx]
    exact hy
  have he := P_ends (bare l) f (.expr 5) i b (by rw [bare_length]; exact hi)
  rw [hx, bare_length] at he
  have hj : i ≤ j ∧ j ≤ l.length := ⟨he.1, he.2.1⟩
  have e1 : mu (bare l) (.expr 5) i = 16 * ((bare l).length - i) + 7 := rfl
  have e2 : mu (bare l) (.expr 4) i = 16 * ((bare l).length - i) + 9 := rfl
  have e3 : mu (bare l) (.test x) j = 16 * ((bare l).length - j) + 1 := rfl
  rw [hP]
  have HI := Lib.hid (fun w1 hr => D.expr 5 i b w1 (by omega) (by omega) hi (by omega) hr)
  rw [hx] at HI
  have HTS := Lib.hid (fun S op tx X n m w1 hS hn hr => D.test S x op tx X n m j b' w1 hS hn hj.2 (by omega) hr)
  rw [hy] at HTS
  have HR := Lib.hid h
  have hrl := h.lt
  clear h hP hx hy hm D e1 e2 e3 he
  go_enter Try.func42, Try.ntmps42
  obtain ⟨w0, hw0⟩ : ∃ w0, w.alloc (.cells #[.string ⟨#[]⟩, .string ⟨#[]⟩, .slice none 0 0] 24) = w0 := ⟨_, rfl⟩
  have hz0 : w.heap.size < w0.heap.size := by rw [← hw0]; simp
  have N0 := Lib.hid (show NBox w0 w.heap.size (.string ⟨#[]⟩) (.string ⟨#[]⟩) (.slice none 0 0) by rw [← hw0]; exact NBox.fresh _ _ _ _ _)
  have B0 := Lib.hid (show But w w0 r by rw [← hw0]; exact (But.refl w r).alloc _)
  have R0 := Lib.hid (show Rdr w0 r A cap l i b by rw [← hw0]; exact HR.out.alloc _)
  go_wp2_with fail
  try rw [hw0]
  refine (HI.out _ R0.out).mono ?_
  rintro e w1 ⟨op, tx, X, n, m, rfl, hn1, hb1, hr1⟩
  have N1 := Lib.hid (N0.out.but (by omega) hb1)
  have B1 := Lib.hid (B0.out.trans hb1)
  have R1 := Lib.hid hr1
  have I1 := Lib.hid (hn1.imp (S' := New w0 w1) (fun g hg => by rcases hg with hg | hg; exact hg.elim; exact hg))
  have hz1 : w0.heap.size ≤ w1.heap.size := hb1.size
  clear hb1 hr1 hn1
  go_wp2_with fail
  refine (HTS.out (New w0 w1) op tx X n m _ (fun g hg => ⟨by have := hg.2; simp; omega, by have := hg.1; omega⟩) (I1.out.alloc (fun g hg => hg.2) _) (R1.out.alloc _)).mono ?_
  rintro e w2 ⟨op2, tx2, X2, n2, m2, rfl, hn2, hb2, hr2⟩
  have N2 := Lib.hid ((N1.out.alloc (.cells #[.string op, .string tx, .slice X n m] 24)).but (by omega) hb2)
  have B2 := Lib.hid ((B1.out.alloc (.cells #[.string op, .string tx, .slice X n m] 24)).trans hb2)
  have R2 := Lib.hid hr2
  have I2 := Lib.hid hn2
  have hz2 : w1.heap.size < w2.heap.size := by have := hb2.size; simp at this; omega
  clear hb2 hr2 hn2
  obtain ⟨x0, x1, x2, xf⟩ := N2.out
  go_wp2
  have Y := N2.out.set (.string op2) (.string tx2) (.slice X2 n2 m2)
  exact bodyPost_ret (v := .agg #[.string op2, .string tx2, .slice X2 n2 m2]) (by simp [results, Try.results42, go_sem, Y.c0, Y.c1, Y.c2]) rfl
    (ret_same I2.out (fun g hg => by
      rcases hg with hg | hg
      · exact ⟨by have := hg.2; omega, by have := hg.1; omega, .inr (by have := hg.1; omega)⟩
      · exact ⟨hg.2, by have := hg.1; simp at this; omega, .inr (by have := hg.1; simp at this; omega)⟩) B2.out R2.out hrl)
end
end Go.Proofs.Ytkibacolnagkcaa.Code
