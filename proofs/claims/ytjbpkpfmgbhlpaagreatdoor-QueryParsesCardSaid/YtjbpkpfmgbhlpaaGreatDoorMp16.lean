/-
  A Kid of any node is written by the program's writer: with brackets, where it is weaker than its place allows.
-/
import Derived.Test.YtjbpkpfmgbhlpaaGreatDoorMp15
import Derived.Test.YtjbpkpfmgbhlpaaGreatDoorMp5
import Derived.Test.YtjbpkpfmgbhlpaaGreatDoorMp11
import Derived.Test.YtjbpkpfmgbhlpaaGreatDoorMp12
set_option maxRecDepth 100000
set_option maxHeartbeats 16000000
open Go.Lib (hid)
namespace Go.Proofs.YtjbpkpfmgbhlpaaGreatDoor.Code
open Go.ChangeShapes Go.WideShapes Go.ChangeAt Go.RowKit Val Elems
set_option linter.unusedVariables false
set_option linter.unusedSimpArgs false
structure HasE (b mb : Nat) (m : Int) (bs : List UInt8) (w : World) : Prop where
 wr : Wr w b mb bs
 ru : Tbl w b mb
 ev : Env b m w
theorem HasE.lt {b mb : Nat} {m : Int} {bs : List UInt8} {w : World} (h : HasE b mb m bs w) : b < w.heap.size := h.wr.lt
theorem HasE.below {b mb : Nat} {m : Int} {bs : List UInt8} {w w' : World} (h : HasE b mb m bs w) (hb : Below w.heap.size w w') : HasE b mb m bs w' :=
 ⟨h.wr.below hb, h.ru.below (hb.mono (Nat.le_of_lt h.lt)), h.ev.below (hb.mono (Nat.le_of_lt h.lt))⟩
theorem HasE.next {b mb : Nat} {m : Int} {bs bs' : List UInt8} {w w' : World} (h : HasE b mb m bs w) (hw : Wr w' b mb bs') (hk : Kp b w w') : HasE b mb m bs' w' := ⟨hw, h.ru.below hk.bl, h.ev.below hk.bl⟩
theorem RIn.kp {w w' : World} {S : Nat → Prop} {t : Nod} {x : NV} {b : Nat} (h : RIn w S t x) (hS : ∀ g, S g → g < b) (hb : Below b w w') : RIn w' S t x := h.keep (fun _ h => h) (fun p hp => hb.cell (hS _ hp))
def NdP (b mb : Nat) (bs : List UInt8) (w : World) (e : Ending) (w' : World) : Prop := e = .returned (.tuple #[]) ∧ Wr w' b mb bs ∧ Kp b w w'
def NdE (b mb : Nat) (m : Int) (t : Nod) : Prop := ∀ (S : Nat → Prop) (op tx : ByteArray) (X : Option Addr) (n k : Nat) (bs : List UInt8) (w : World), HasE b mb m bs w → (∀ g, S g → g < b) → RIn w S t (op, tx, X, n, k) → t.tot ≤ 100000 → bs.length + (showE t).length ≤ 900000 →
 Calls Tryz.prog 135 #[.pointer (some ⟨b, 0, none⟩), .agg #[.string op, .string tx, .slice X n k]] w (NdP b mb (bs ++ showE t) w)
theorem ruleN {b mb : Nat} {m : Int} {bs : List UInt8} {w : World} (h : HasE b mb m bs w) {t : Nod} (ht : t.tot ≤ 100000) {S : Nat → Prop} {op tx : ByteArray} {X : Option Addr} {n k : Nat} (hn : RIn w S t (op, tx, X, n, k)) :
  Calls Tryz.prog 147 #[.pointer (some ⟨b, 0, none⟩), .agg #[.string op, .string tx, .slice X n k]] w (FRule w b (rE t.op t.tx t.ks.length)) := by
 obtain ⟨e1, e2, e3, e4⟩ := hn.texts
 dsimp only at e1 e2 e3
 have hop : op.size ≤ 9223372036854775807 := by
  have h1 : op.size = t.op.length := by rw [e1]; exact size_list _
  have h2 : t.op.length ≤ t.tot := by cases t; simp only [Nod.tot, Nod.op]; omega
  omega
 have h1 := frule_any b mb bs op tx X n k (by omega) w h.wr h.ru hop
 rw [e1, e2, e3] at h1
 rw [e1, e2, e3]
 exact h1
theorem levelN {b mb : Nat} {m : Int} {bs : List UInt8} {w : World} (h : HasE b mb m bs w) {t : Nod} (ht : t.tot ≤ 100000) {S : Nat → Prop} {op tx : ByteArray} {X : Option Addr} {n k : Nat} (hn : RIn w S t (op, tx, X, n, k)) :
  Calls Tryz.prog 147 #[.pointer (some ⟨b, 0, none⟩), .agg #[.string op, .string tx, .slice X n k]] w (fun e w' => ∃ Y N d tb ok, e = .returned (.tuple #[.agg #[.int .i64 (lvE t), .slice Y N d, .bool tb], .bool ok]) ∧ Below w.heap.size w w') := by
 refine (ruleN h ht hn).mono fun e w' hp => ?_
 unfold FRule at hp
 unfold lvE
 cases hr : rE t.op t.tx t.ks.length with
 | none => rw [hr] at hp; exact ⟨_, _, _, _, _, hp.1, hp.2⟩
 | some r => rw [hr] at hp; obtain ⟨Y, d, he, _, hb⟩ := hp; exact ⟨_, _, _, _, _, he, hb⟩
structure ESt (b mb : Nat) (m : Int) (w0 : World) (S : Nat → Prop) (t : Nod) (op0 op tx : ByteArray) (X : Option Addr) (n k : Nat) (g0 : Nat) (bs : List UInt8) (w : World) : Prop where
 has : HasE b mb m bs w
 box : HB w g0 #[.string op0, .string tx, .slice X n k] 25
 nin : RIn w S t (op, tx, X, n, k)
 kp : Kp b w0 w
theorem ESt.next {b mb : Nat} {m : Int} {w0 : World} {S : Nat → Prop} {t : Nod} {op0 op tx : ByteArray} {X : Option Addr} {n k : Nat} {g0 : Nat} {bs bs' : List UInt8} {w w' : World}
  (h : ESt b mb m w0 S t op0 op tx X n k g0 bs w) (hS : ∀ g, S g → g < b) (h0 : b < g0) (hw : Wr w' b mb bs') (hk : Kp b w w') : ESt b mb m w0 S t op0 op tx X n k g0 bs' w' :=
 ⟨h.has.next hw hk, h.box.kp hk (by omega) (by decide), h.nin.kp hS hk.bl, h.kp.trans hk⟩
theorem ekidE_any {b mb : Nat} {m : Int} (t : Nod) (ih : NdE b mb m t) (ht : t.tot ≤ 100000) (al : Int) (S : Nat → Prop) (op tx : ByteArray) (X : Option Addr) (n k : Nat) (bs : List UInt8) (w : World) (h : HasE b mb m bs w) (hS : ∀ g, S g → g < b) (hn : RIn w S t (op, tx, X, n, k)) (hl : bs.length + (kdE al (showE t, lvE t)).length ≤ 900000) :
  Calls Tryz.prog 149 #[.pointer (some ⟨b, 0, none⟩), .agg #[.string op, .string tx, .slice X n k], .int .i64 al] w (NdP b mb (bs ++ kdE al (showE t, lvE t)) w) := by
 have hR := fun (w' : World) (hb : Below w.heap.size w w') => levelN (h.below hb) ht (hn.kp hS (hb.mono (Nat.le_of_lt h.lt)))
 obtain ⟨lv, hlv⟩ : ∃ lv, lvE t = lv := ⟨_, rfl⟩
 rw [hlv] at hR hl ⊢
 have HR := hid hR
 have HI := hid ih
 have HH := hid h
 have HN := hid hn
 have HS := hid hS
 have hbl := h.lt
 obtain ⟨s, hs⟩ : ∃ s, showE t = s := ⟨_, rfl⟩
 have HSH := hid hs
 rw [hs] at hl ⊢
 unfold kdE at hl ⊢
 dsimp only at hl ⊢
 have HT := hid ht
 clear hR ih h hn hS hs hlv ht
 have hge : ∀ q, decide (al ≤ lv) = q → Calls Tryz.prog 149 #[.pointer (some ⟨b, 0, none⟩), .agg #[.string op, .string tx, .slice X n k], .int .i64 al] w (NdP b mb (bs ++ if al ≤ lv then s else 40 :: (s ++ [41])) w) := by
  intro q hq
  obtain ⟨Z, hZ⟩ : ∃ Z, (if al ≤ lv then s else 40 :: (s ++ [41])) = Z := ⟨_, rfl⟩
  have HZ := hid hZ
  rw [hZ] at hl ⊢
  clear hZ
  go_enter Tryz.func149, Tryz.ntmps149
  obtain ⟨w0, hw0⟩ : ∃ w0, w.alloc (.cells #[.string op, .string tx, .slice X n k] 25) = w0 := ⟨_, rfl⟩
  have B0 := hid (show Below w.heap.size w w0 by rw [← hw0]; exact below_alloc w _)
  have X0 := hid (show HB w0 w.heap.size #[.string op, .string tx, .slice X n k] 25 by rw [← hw0]; exact HB.fresh w _ _)
  have x0 : w0.cell? ⟨w.heap.size, 0, none⟩ = some (.string op) := X0.out.cell 0
  have x1 : w0.cell? ⟨w.heap.size, 1, none⟩ = some (.string tx) := X0.out.cell 1
  have x2 : w0.cell? ⟨w.heap.size, 2, none⟩ = some (.slice X n k) := X0.out.cell 2
  go_wp2_with fail
  try rw [hw0]
  refine (HR.out _ B0.out).mono ?_
  rintro e w1 ⟨Y, N, d, tb, ok, rfl, hb1⟩
  have hz0 : w.heap.size < w0.heap.size := by rw [← hw0]; simp
  have z1 := hb1.size
  obtain ⟨W1, hW1⟩ : ∃ W1, w1.alloc (.cells #[.int .i64 lv, .slice Y N d, .bool tb] 150) = W1 := ⟨_, rfl⟩
  have B1 := hid (show Below w.heap.size w W1 by rw [← hW1]; exact (bnext B0.out B0.out.size hb1).alloc (by omega) _)
  have T1 := hid (show ESt b mb m w S t op op tx X n k w.heap.size bs W1 from
   ⟨HH.out.below B1.out, by rw [← hW1]; exact (X0.out.below hb1).alloc _, HN.out.kp HS.out (B1.out.mono (by omega)), (Kp.refl b w).next (by omega) B1.out⟩)
  have RV := hid (show HB W1 w1.heap.size #[.int .i64 lv, .slice Y N d, .bool tb] 150 by rw [← hW1]; exact HB.fresh w1 _ _)
  have q0 : W1.cell? ⟨w.heap.size, 0, none⟩ = some (.string op) := T1.out.box.cell 0
  have q1 : W1.cell? ⟨w.heap.size, 1, none⟩ = some (.string tx) := T1.out.box.cell 1
  have q2 : W1.cell? ⟨w.heap.size, 2, none⟩ = some (.slice X n k) := T1.out.box.cell 2
  have q3 : W1.cell? ⟨w1.heap.size, 0, none⟩ = some (.int .i64 lv) := RV.out.cell 0
  clear hb1 x0 x1 x2 X0 B0 B1 HR
  cases q with
  | true =>
   have hle : al ≤ lv := by simpa using hq
   have hZ := HZ.out
   rw [if_pos hle] at hZ
   subst hZ
   have HN1 := hid (HI.out S op tx X n k bs W1 T1.out.has HS.out T1.out.nin HT.out (by rw [HSH.out]; exact hl))
   unfold NdP at HN1
   rw [HSH.out] at HN1
   clear hle HZ
   go_wp2_with fail
   try rw [hW1]
   refine HN1.out.mono ?_
   rintro e w2 ⟨rfl, hw2, hk2⟩
   have T2 := hid (T1.out.next HS.out (by omega) hw2 hk2)
   clear hw2 hk2 q0 q1 q2 q3
   go_wp2
   go_end0
   exact ⟨rfl, T2.out.has.wr, T2.out.kp⟩
  | false =>
   have hle : ¬ al ≤ lv := by simpa using hq
   have hZ := HZ.out
   rw [if_neg hle] at hZ
   subst hZ
   have HW := hid (fun (bs' : List UInt8) (s : ByteArray) (w' : World) (h' : Wr w' b mb bs') (hl' : bs'.length + s.size ≤ 1000000) => ewrite_any b mb bs' s w' h' hl')
   clear hle HZ
   go_wp2_with fail
   try rw [hW1]
   refine (HW.out bs ⟨#[40]⟩ _ T1.out.has.wr (by show bs.length + 1 ≤ 1000000; simp at hl; omega)).mono ?_
   rintro e w2 ⟨rfl, hw2, hk2⟩
   have T2 := hid (T1.out.next HS.out (by omega) hw2 hk2)
   have HN2 := hid (HI.out S op tx X n k (bs ++ [40]) w2 T2.out.has HS.out T2.out.nin HT.out (by rw [HSH.out]; simp at hl ⊢; omega))
   unfold NdP at HN2
   rw [HSH.out] at HN2
   have r0 : w2.cell? ⟨w.heap.size, 0, none⟩ = some (.string op) := T2.out.box.cell 0
   have r1 : w2.cell? ⟨w.heap.size, 1, none⟩ = some (.string tx) := T2.out.box.cell 1
   have r2 : w2.cell? ⟨w.heap.size, 2, none⟩ = some (.slice X n k) := T2.out.box.cell 2
   clear hw2 hk2 q0 q1 q2 q3
   go_wp2_with fail
   refine HN2.out.mono ?_
   rintro e w3 ⟨rfl, hw3, hk3⟩
   have T3 := hid (T2.out.next HS.out (by omega) hw3 hk3)
   clear hw3 hk3 r0 r1 r2
   go_wp2_with fail
   refine (HW.out (bs ++ [40] ++ s) ⟨#[41]⟩ _ T3.out.has.wr (by show (bs ++ [40] ++ s).length + 1 ≤ 1000000; simp at hl ⊢; omega)).mono ?_
   rintro e w4 ⟨rfl, hw4, hk4⟩
   have T4 := hid (T3.out.next HS.out (by omega) hw4 hk4)
   clear hw4 hk4
   go_wp2
   go_end0
   exact ⟨rfl, by have h := T4.out.has.wr; simpa using h, T4.out.kp⟩
 exact hge _ rfl
theorem estring_of (b : Nat) (w : World) (v : Value) (n : Nat) (T : ByteArray) (hlt : b < w.heap.size) (c1 : w.drew.cell? ⟨b, 2, none⟩ = some v) (p : Value) (wS : World) (hSD : (Builtin.unsafeSliceData_ #[71] 106 #[v]).run Tryz.prog w.drew = .ok p wS) (hcS : wS.cell? ⟨b, 2, none⟩ = some v)
  (hv : ∃ a c, v = .slice a n c) (w2 : World) (hUS : (Builtin.unsafeString_ #[106, 3] 9 #[p, .int .i64 n]).run Tryz.prog wS = .ok (.string T) w2) (hb : Below b w w2) :
  Calls Tryz.prog 33 #[.pointer (some ⟨b, 1, none⟩)] w fun e w' => e = .returned (.string T) ∧ Below b w w' := by
 obtain ⟨a, c, rfl⟩ := hv
 have HF := hid hb
 have mixed : Tryz.prog.follows .mixedOrders = true := by kernel_rfl
 clear hb hlt
 go_enter Tryz.func33, Tryz.ntmps33
 go_wp2
 go_region_o
 all_goals (go_wp2; go_ret; exact ⟨rfl, HF.out⟩)
theorem estring_nil (b mb : Nat) (w : World) (h : Wr w b mb []) :
  Calls Tryz.prog 33 #[.pointer (some ⟨b, 1, none⟩)] w fun e w' => e = .returned (.string ⟨#[]⟩) ∧ Below b w w' := by
 have hlt := h.lt
 obtain ⟨p, v, hbk, hown, hne⟩ : ∃ p, WrAt w b mb p [] := by
  rcases h with h | h
  ·exact ⟨_, h⟩
  ·exact ⟨_, h⟩
 have c1 : w.drew.cell? ⟨b, 2, none⟩ = some v := hbk.cell 2
 have hB : Below b w w.drew := (Below.refl b w).drew
 rcases hown.2 with ⟨hv, _⟩ | ⟨g, cap, cur, hv, hg, hhp, _⟩
 ·subst hv
  exact estring_of b w _ 0 ⟨#[]⟩ hlt c1 (.pointer none) w.drew (Lib.run_unsafeSliceData_nil _ _ _ _ _) c1 ⟨_, _, rfl⟩ w.drew (Lib.run_unsafeString_none _ _ _ _ _) hB
 ·subst hv
  by_cases hc : cap = 0
  ·subst hc
   exact estring_of b w _ 0 ⟨#[]⟩ hlt c1 (.pointer (some ⟨w.drew.heap.size, 0, none⟩)) (w.drew.alloc (.view ⟨g, 0, none⟩ 5)) (Lib.run_unsafeSliceData_zero _ _ _ 5 Tryz.underlying106 ⟨g, 0, none⟩ 0 (5, cur.size) (by have hg' : w.drew.heap[g]? = some (.cells cur 5 (0, 0)) := hhp; simp [World.shape?, hg'])) ((World.cell?_alloc_some _ _ _ (by rw [c1]; rfl)).trans c1) ⟨_, _, rfl⟩ (w.drew.alloc (.view ⟨g, 0, none⟩ 5)) (Lib.run_unsafeString_none _ _ _ _ _) (hB.alloc (Nat.le_of_lt hlt) _)
  ·exact estring_of b w _ 0 ⟨#[]⟩ hlt c1 (.pointer (some ⟨g, 0, none⟩)) w.drew (Lib.run_unsafeSliceData_row _ _ _ _ _ _ hc) c1 ⟨_, _, rfl⟩ w.drew (Lib.run_unsafeString_none _ _ _ _ _) hB
theorem estringE (b mb : Nat) (l : List UInt8) (w : World) (h : Wr w b mb l) :
  Calls Tryz.prog 33 #[.pointer (some ⟨b, 1, none⟩)] w fun e w' => e = .returned (.string ⟨l.toArray⟩) ∧ Below b w w' := by
 by_cases h0 : l = []
 ·subst h0
  exact estring_nil b mb w h
 ·exact estring_any b mb l w h h0
theorem wr_freshE (w : World) (mb : Nat) : Wr (w.alloc (.cells #[.map (some mb), .pointer none, .slice none 0 0] 142)) w.heap.size mb [] :=
 .inl ⟨_, HB.fresh w _ _, by show World.ownsRow _ _ _ _ _ 0 _; exact World.ownsRow_nil _ _ _ _, by simp [Value.ownBlock]⟩
mutual
def exprsOf : Nod → List Nod
 | .mk o _ ks => (if o = sFilter then ks.drop 1 else []) ++ (if o = sItem then [nthN ks 0] else []) ++ exprsOfL ks
def exprsOfL : List Nod → List Nod
 | [] => []
 | n :: l => exprsOf n ++ exprsOfL l
end
theorem exprs_is (t : Nod) : exprsOf t = (if t.op = sFilter then t.ks.drop 1 else []) ++ (if t.op = sItem then [nthN t.ks 0] else []) ++ exprsOfL t.ks := by
 cases t with
 | mk o x ks => exact exprsOf.eq_1 o x ks
theorem exprs_mem {x : Nod} : ∀ {l : List Nod} (i : Nat) (hi : i < l.length), x ∈ exprsOf l[i] → x ∈ exprsOfL l
 | n :: l, 0, _, h => by rw [exprsOfL]; exact List.mem_append_left _ h
 | n :: l, i + 1, hi, h => by rw [exprsOfL]; exact List.mem_append_right _ (exprs_mem i (by simpa using hi) h)
theorem exprs_kid {t x : Nod} (i : Nat) (hi : i < t.ks.length) (h : x ∈ exprsOf t.ks[i]) : x ∈ exprsOf t := by
 rw [exprs_is]
 exact List.mem_append_right _ (exprs_mem i hi h)
theorem exprs_filter {t : Nod} (ht : t.op = sFilter) (i : Nat) (hi : i < t.ks.length) (h0 : 0 < i) : t.ks[i] ∈ exprsOf t := by
 rw [exprs_is, if_pos ht]
 refine List.mem_append_left _ (List.mem_append_left _ ?_)
 rw [List.mem_iff_getElem]
 refine ⟨i - 1, by rw [List.length_drop]; omega, ?_⟩
 rw [List.getElem_drop]
 congr 1
 omega
theorem exprs_item {t : Nod} (ht : t.op = sItem) : nthN t.ks 0 ∈ exprsOf t := by
 rw [exprs_is, if_pos ht]
 exact List.mem_append_left _ (List.mem_append_right _ (List.mem_singleton.2 rfl))
def EShows (t : Nod) : Prop := t.tot ≤ 100000 → (showE t).length ≤ 900000 → ∀ (m : Int) (S : Nat → Prop) (op tx : ByteArray) (X : Option Addr) (n k : Nat) (w : World), Env w.heap.size m w → (∀ g, S g → g < w.heap.size) → RIn w S t (op, tx, X, n, k) →
  Calls Tryz.prog 111 #[.agg #[.string op, .string tx, .slice X n k]] w fun e w' => e = .returned (.string ⟨(showE t).toArray⟩) ∧ Below w.heap.size w w'
theorem eshow_of (t : Nod) (hND : ∀ (b mb : Nat) (m : Int), NdE b mb m t) : EShows t := by
 intro ht hl m S op tx X n k w he hS hn
 have HE := hid he
 have HS := hid hS
 have HN := hid hn
 have HRU := hid (fun w' => etable_any w')
 obtain ⟨s, hs⟩ : ∃ s, showE t = s := ⟨_, rfl⟩
 have HSH := hid hs
 rw [hs] at hl ⊢
 have HL := hid hl
 have HT := hid ht
 clear he hS hn hs hl ht
 go_enter Tryz.func111, Tryz.ntmps111
 obtain ⟨w0, hw0⟩ : ∃ w0, w.alloc (.cells #[.string op, .string tx, .slice X n k] 25) = w0 := ⟨_, rfl⟩
 have B0 := hid (show Below w.heap.size w w0 by rw [← hw0]; exact below_alloc w _)
 have X0 := hid (show HB w0 w.heap.size #[.string op, .string tx, .slice X n k] 25 by rw [← hw0]; exact HB.fresh w _ _)
 have hz0 : w.heap.size < w0.heap.size := by rw [← hw0]; simp
 go_wp2_with fail
 try rw [hw0]
 refine (HRU.out _).mono ?_
 rintro e w1 ⟨mb, rfl, hru, hb1⟩
 have z1 := hb1.size
 obtain ⟨W1, hW1⟩ : ∃ W1, w1.alloc (.cells #[.map (some mb), .pointer none, .slice none 0 0] 142) = W1 := ⟨_, rfl⟩
 have B1 := hid (show Below w.heap.size w W1 by rw [← hW1]; exact (bnext B0.out B0.out.size hb1).alloc (by omega) _)
 have A1 := hid (show HasE w1.heap.size mb m [] W1 from ⟨by rw [← hW1]; exact wr_freshE w1 mb, by rw [← hW1]; exact hru.below (below_alloc w1 _), (HE.out.below B1.out).more (by omega)⟩)
 have X1 := hid (show HB W1 w.heap.size #[.string op, .string tx, .slice X n k] 25 by rw [← hW1]; exact (X0.out.below hb1).alloc _)
 have N1 := hid (HN.out.bel HS.out B1.out)
 have X2 := X0.out.below hb1
 have q0 : ∀ o, (w1.alloc o).cell? ⟨w.heap.size, 0, none⟩ = some (.string op) := fun o => (X2.alloc o).cell 0
 have q1 : ∀ o, (w1.alloc o).cell? ⟨w.heap.size, 1, none⟩ = some (.string tx) := fun o => (X2.alloc o).cell 1
 have q2 : ∀ o, (w1.alloc o).cell? ⟨w.heap.size, 2, none⟩ = some (.slice X n k) := fun o => (X2.alloc o).cell 2
 have HW1 := hid hW1
 have HND := hid (show Calls Tryz.prog 135 #[.pointer (some ⟨w1.heap.size, 0, none⟩), .agg #[.string op, .string tx, .slice X n k]] W1 (fun e w' => e = .returned (.tuple #[]) ∧ Wr w' w1.heap.size mb s ∧ Kp w1.heap.size W1 w') by
  have h := hND _ _ _ S op tx X n k [] W1 A1.out (fun g hg => by have := HS.out g hg; omega) N1.out HT.out (by rw [HSH.out]; simpa using HL.out)
  rw [HSH.out] at h
  exact h)
 clear hru hb1 X0 B0 HRU hW1 X2
 go_wp2_with fail
 rw [HW1.out]
 refine HND.out.mono ?_
 rintro e w2 ⟨rfl, hw2, hk2⟩
 have B2 := hid (B1.out.trans (hk2.bl.mono (by omega)))
 have HST := hid (estringE w1.heap.size mb s w2 hw2)
 clear hw2 hk2 q0 q1 q2
 go_wp2_with fail
 refine HST.out.mono ?_
 rintro e w3 ⟨rfl, hb3⟩
 have B3 := hid (B2.out.trans (hb3.mono (by omega)))
 clear hb3
 go_wp2
 go_ret
 exact ⟨rfl, B3.out⟩
structure qWrAt (w : World) (b : Nat) (p : Value) (bs : List UInt8) : Prop where
 ex : ∃ v, HB w b #[p, v] 75 ∧ w.ownsRow b 5 1 v bs.length (Lib.byteCells bs) ∧ v.ownBlock ≠ some b
def qWr (w : World) (b : Nat) (bs : List UInt8) : Prop := qWrAt w b (.pointer none) bs ∨ qWrAt w b (.pointer (some ⟨b, 0, none⟩)) bs
theorem qWr.lt {w : World} {b : Nat} {bs : List UInt8} (h : qWr w b bs) : b < w.heap.size := by rcases h with ⟨_, h, _⟩ | ⟨_, h, _⟩ <;> exact h.lt
theorem qWrAt.below {w w' : World} {b : Nat} {p : Value} {bs : List UInt8} (h : qWrAt w b p bs) (hb : Below w.heap.size w w') : qWrAt w' b p bs := by
 obtain ⟨v, h1, h2, h3⟩ := h
 exact ⟨v, h1.below hb, h2.kept (row := none) ⟨hb.os, hb.tape, hb.output, hb.size, fun k hk _ => hb.block k hk⟩ (by cases v.ownBlock <;> simp), h3⟩
theorem qWr.below {w w' : World} {b : Nat} {bs : List UInt8} (h : qWr w b bs) (hb : Below w.heap.size w w') : qWr w' b bs := h.elim (fun h => .inl (h.below hb)) (fun h => .inr (h.below hb))
theorem qlies_at : liesAt Tryz.prog Tryz.prog.depth 75 (2 / Tryz.prog.cellsOf 75) 0 73 1 = true := by kernel_rfl
theorem qecopy_fresh (b : Nat) (bs : List UInt8) (w : World) (h : qWrAt w b (.pointer none) bs) :
  Calls Tryz.prog 109 #[.pointer (some ⟨b, 0, none⟩)] w fun e w' => e = .returned (.tuple #[]) ∧ w' = w.setCell ⟨b, 0, none⟩ (.pointer (some ⟨b, 0, none⟩)) := by
 obtain ⟨v, h1, h2, h3⟩ := h
 obtain ⟨j, hj, hjs⟩ := Option.map_eq_some_iff.1 info_builder
 have c1 : w.cell? ⟨b, 0, none⟩ = some (.pointer none) := h1.cell 0
 have f1 : w.frozen? ⟨b, 0, none⟩ = false := h1.free 0
 have hsh : w.shape? b = some (75, 2) := by
  have : w.heap[b]? = some (.cells #[.pointer none, v] 75 (0, 0)) := h1
  simp [World.shape?, this]
 clear h1 h2 h3
 go_enter Tryz.func109, Tryz.ntmps109
 go_wp2
 rw [Lib.run_to_unsafe w ⟨b, 0, none⟩ Tryz.underlying70 Tryz.underlying137 hj (by rw [hjs]; decide) hsh (by show 0 < 2; decide)]
 simp only [Result.andThen]
 rw [Oper.upon_value]
 go_wp2
 rw [run_callFunc_extern Tryz.func133 (by kernel_rfl) (by kernel_rfl) (by kernel_rfl) (e := Extern.AbiNoEscape.same) (by kernel_rfl)]
 rw [Lib.run_noEscape]
 simp only [Result.andThen]
 rw [Oper.upon_value]
 go_wp2
 rw [Lib.run_from_unsafe w ⟨b, 0, none⟩ Tryz.underlying137 Tryz.underlying70 hj hsh qlies_at]
 simp only [Result.andThen]
 rw [Oper.upon_value]
 go_wp2
 go_end0
 exact ⟨rfl, rfl⟩
theorem qecopy_used (b : Nat) (bs : List UInt8) (w : World) (h : qWrAt w b (.pointer (some ⟨b, 0, none⟩)) bs) :
  Calls Tryz.prog 109 #[.pointer (some ⟨b, 0, none⟩)] w fun e w' => e = .returned (.tuple #[]) ∧ w' = w := by
 obtain ⟨v, h1, h2, h3⟩ := h
 obtain ⟨j, hj, hjs⟩ := Option.map_eq_some_iff.1 info_builder
 have c1 : w.cell? ⟨b, 0, none⟩ = some (.pointer (some ⟨b, 0, none⟩)) := h1.cell 0
 have hneq := Lib.run_neq_ptr_same w (P := Tryz.prog) ⟨b, 0, none⟩ Tryz.underlying70 hj
 clear h1 h2 h3
 go_enter Tryz.func109, Tryz.ntmps109
 go_wp2
 go_end0
 exact ⟨rfl, rfl⟩
theorem qecopy_any (b : Nat) (bs : List UInt8) (w : World) (h : qWr w b bs) :
  Calls Tryz.prog 109 #[.pointer (some ⟨b, 0, none⟩)] w fun e w' => e = .returned (.tuple #[]) ∧ qWrAt w' b (.pointer (some ⟨b, 0, none⟩)) bs ∧ Kp b w w' ∧ w'.heap.size = w.heap.size := by
 rcases h with h | h
 ·refine (qecopy_fresh b bs w h).mono ?_
  rintro e w' ⟨rfl, rfl⟩
  obtain ⟨v, h1, h2, h3⟩ := h
  refine ⟨rfl, ⟨v, h1.set 0 _, ?_, h3⟩, ⟨(Below.refl b w).setCell (Nat.le_refl _) _, (Lib.OthersKept.refl _ _ w).setCell ⟨b, 0, none⟩ rfl _⟩, World.size_setCell _ _ _⟩
  exact h2.kept (grown_set w b 0 _) (.inr h3)
 ·refine (qecopy_used b bs w h).mono ?_
  rintro e w' ⟨rfl, rfl⟩
  exact ⟨rfl, h, Kp.refl _ _, rfl⟩
theorem qewrite_any (b : Nat) (bs : List UInt8) (s : ByteArray) (w : World) (h : qWr w b bs) (hl : bs.length + s.size ≤ 1000000) :
  Calls Tryz.prog 66 #[.pointer (some ⟨b, 0, none⟩), .string s] w fun e w' => e = .returned (.tuple #[.int .i64 s.size, .nilIface]) ∧ qWr w' b (bs ++ s.data.toList) ∧ Kp b w w' := by
 obtain ⟨i0, hi, hz0, hz1, hz2⟩ := info_parts info_byte
 have HC := hid (qecopy_any b bs w h)
 have hbl := h.lt
 clear h
 go_enter Tryz.func66, Tryz.ntmps66
 go_wp2_with fail
 refine HC.out.mono ?_
 rintro e w1 ⟨rfl, ⟨v, h1, h2, h3⟩, hk1, hs1⟩
 have c1 : w1.cell? ⟨b, 0, none⟩ = some (.pointer (some ⟨b, 0, none⟩)) := h1.cell 0
 have c2 : w1.cell? ⟨b, 1, none⟩ = some v := h1.cell 1
 go_wp2_with (at_builtin; refine Lib.wpList_append_own_string _ rfl _ _ 71 9 rfl b 5 i0 Tryz.underlying71 Tryz.underlying9 hi hz0 hz1 hz2 _ _ _ rfl h2 s rfl ?c3 ?c4 ?c5 ?_)
 case c3 => unfold maxLen; omega
 case c4 => omega
 case c5 => omega
 intro v' w2 hown' hgrow _
 have h4 : HB w2 b #[.pointer (some ⟨b, 0, none⟩), v] 75 := (hgrow.block b h1.lt (fun e => h3 e.symm)).trans h1
 have d2 : w2.cell? ⟨b, 1, none⟩ = some v := h4.cell 1
 have f2 : w2.frozen? ⟨b, 1, none⟩ = false := h4.free 1
 obtain ⟨ao, n', cap, rfl⟩ : ∃ ao n' cap, v' = .slice ao n' cap := by
  rcases hown'.2 with ⟨hv, _⟩ | ⟨g, cap, cur, hv, _⟩
  ·exact ⟨_, _, _, hv⟩
  ·exact ⟨_, _, _, hv⟩
 have hne' : (Value.slice ao n' cap).ownBlock ≠ some b := by
  intro e
  obtain ⟨c, fz, hc⟩ := Lib.ownsRow_kind hown' b e
  have h4' : w2.heap[b]? = some (.cells #[.pointer (some ⟨b, 0, none⟩), v] 75 (0, 0)) := h4
  rw [h4'] at hc
  injection hc with hc
  injection hc with _ hc2
  exact absurd hc2 (by decide)
 go_wp2
 go_ret2
 refine ⟨rfl, .inr ⟨_, h4.set 1 _, ?_, hne'⟩, hk1.trans ⟨((Below.refl b w1).grown hgrow (by omega) (fun k hk => (h2.lt k hk).1)).setCell (p := ⟨b, 1, none⟩) (Nat.le_refl _) _, ((Lib.OthersKept.refl _ _ w1).grown hgrow (Lib.ownsRow_kind h2)).setCell ⟨b, 1, none⟩ rfl _⟩⟩
 have := hown'.kept (grown_set w2 b 1 (.slice ao n' cap)) (.inr hne')
 rw [List.length_append, Array.length_toList]
 rw [show Lib.byteCells (bs ++ s.data.toList) = Lib.byteCells bs ++ Lib.strCells s by rw [Lib.strCells_eq]; unfold Lib.byteCells; rw [List.map_append]]
 exact this
theorem qestring_any (b : Nat) (l : List UInt8) (w : World) (h : qWr w b l) (h0 : l ≠ []) :
  Calls Tryz.prog 33 #[.pointer (some ⟨b, 0, none⟩)] w fun e w' => e = .returned (.string ⟨l.toArray⟩) ∧ Below b w w' := by
 obtain ⟨p, v, hbk, hown, hne⟩ : ∃ p, qWrAt w b p l := by
  rcases h with h | h
  ·exact ⟨_, h⟩
  ·exact ⟨_, h⟩
 have hl0 : l.length ≠ 0 := by simpa using h0
 obtain ⟨g, cap, cur, rfl, hbg, hg, hnc, hcm, hcs, htake⟩ : ∃ g cap cur, v = .slice (some ⟨g, 0, none⟩) l.length cap ∧ b ≤ g ∧ w.heap[g]? = some (.cells cur 5 (0, 0)) ∧ l.length ≤ cap ∧ cap ≤ maxLen ∧ cur.size = cap * 1 ∧ cur.toList.take (l.length * 1) = Lib.byteCells l := by
  rcases hown.2 with ⟨_, hz⟩ | ⟨g, cap, cur, hv, r⟩
  ·exact absurd hz hl0
  ·exact ⟨g, cap, cur, hv, r⟩
 have c1 : w.drew.cell? ⟨b, 1, none⟩ = some (.slice (some ⟨g, 0, none⟩) l.length cap) := hbk.cell 1
 have hSD : (Builtin.unsafeSliceData_ #[71] 106 #[.slice (some ⟨g, 0, none⟩) l.length cap]).run Tryz.prog w.drew = .ok (.pointer (some ⟨g, 0, none⟩)) w.drew :=
  Lib.run_unsafeSliceData_row _ _ _ _ _ _ (by omega)
 have hUS : (Builtin.unsafeString_ #[106, 3] 9 #[.pointer (some ⟨g, 0, none⟩), .int .i64 l.length]).run Tryz.prog w.drew = .ok (.string ⟨l.toArray⟩) (w.drew.freeze ⟨g, 0, none⟩ l.length) := by
  refine Lib.run_unsafeString_row w.drew 106 3 9 5 Tryz.underlying106 cells_byte g cur.size (by have hg' : w.drew.heap[g]? = some (.cells cur 5 (0, 0)) := hg; simp [World.shape?, hg']) l h0 (by omega) (by unfold maxLen at hcm; omega) ?_
  intro j x hx
  have := hown.cells (g := g) rfl j (.int .u8 x.toNat) (by simp [Lib.byteCells, hx])
  exact this
 have HF := hid (show Below b w (w.drew.freeze ⟨g, 0, none⟩ l.length) from Lib.below_freeze (Below.drew (Below.refl b w)) (p := ⟨g, 0, none⟩) hbg _)
 have mixed : Tryz.prog.follows .mixedOrders = true := by kernel_rfl
 clear hbk hown hne htake hcs hcm hg h
 go_enter Tryz.func33, Tryz.ntmps33
 go_wp2
 go_region_o
 all_goals (go_wp2; go_ret; exact ⟨rfl, HF.out⟩)
theorem qestring_of (b : Nat) (w : World) (v : Value) (n : Nat) (T : ByteArray) (hlt : b < w.heap.size) (c1 : w.drew.cell? ⟨b, 1, none⟩ = some v) (p : Value) (wS : World) (hSD : (Builtin.unsafeSliceData_ #[71] 106 #[v]).run Tryz.prog w.drew = .ok p wS) (hcS : wS.cell? ⟨b, 1, none⟩ = some v)
  (hv : ∃ a c, v = .slice a n c) (w2 : World) (hUS : (Builtin.unsafeString_ #[106, 3] 9 #[p, .int .i64 n]).run Tryz.prog wS = .ok (.string T) w2) (hb : Below b w w2) :
  Calls Tryz.prog 33 #[.pointer (some ⟨b, 0, none⟩)] w fun e w' => e = .returned (.string T) ∧ Below b w w' := by
 obtain ⟨a, c, rfl⟩ := hv
 have HF := hid hb
 have mixed : Tryz.prog.follows .mixedOrders = true := by kernel_rfl
 clear hb hlt
 go_enter Tryz.func33, Tryz.ntmps33
 go_wp2
 go_region_o
 all_goals (go_wp2; go_ret; exact ⟨rfl, HF.out⟩)
theorem qestring_nil (b : Nat) (w : World) (h : qWr w b []) :
  Calls Tryz.prog 33 #[.pointer (some ⟨b, 0, none⟩)] w fun e w' => e = .returned (.string ⟨#[]⟩) ∧ Below b w w' := by
 have hlt := h.lt
 obtain ⟨p, v, hbk, hown, hne⟩ : ∃ p, qWrAt w b p [] := by
  rcases h with h | h
  ·exact ⟨_, h⟩
  ·exact ⟨_, h⟩
 have c1 : w.drew.cell? ⟨b, 1, none⟩ = some v := hbk.cell 1
 have hB : Below b w w.drew := (Below.refl b w).drew
 rcases hown.2 with ⟨hv, _⟩ | ⟨g, cap, cur, hv, hg, hhp, _⟩
 ·subst hv
  exact qestring_of b w _ 0 ⟨#[]⟩ hlt c1 (.pointer none) w.drew (Lib.run_unsafeSliceData_nil _ _ _ _ _) c1 ⟨_, _, rfl⟩ w.drew (Lib.run_unsafeString_none _ _ _ _ _) hB
 ·subst hv
  by_cases hc : cap = 0
  ·subst hc
   exact qestring_of b w _ 0 ⟨#[]⟩ hlt c1 (.pointer (some ⟨w.drew.heap.size, 0, none⟩)) (w.drew.alloc (.view ⟨g, 0, none⟩ 5)) (Lib.run_unsafeSliceData_zero _ _ _ 5 Tryz.underlying106 ⟨g, 0, none⟩ 0 (5, cur.size) (by have hg' : w.drew.heap[g]? = some (.cells cur 5 (0, 0)) := hhp; simp [World.shape?, hg'])) ((World.cell?_alloc_some _ _ _ (by rw [c1]; rfl)).trans c1) ⟨_, _, rfl⟩ (w.drew.alloc (.view ⟨g, 0, none⟩ 5)) (Lib.run_unsafeString_none _ _ _ _ _) (hB.alloc (Nat.le_of_lt hlt) _)
  ·exact qestring_of b w _ 0 ⟨#[]⟩ hlt c1 (.pointer (some ⟨g, 0, none⟩)) w.drew (Lib.run_unsafeSliceData_row _ _ _ _ _ _ hc) c1 ⟨_, _, rfl⟩ w.drew (Lib.run_unsafeString_none _ _ _ _ _) hB
theorem qestringE (b : Nat) (l : List UInt8) (w : World) (h : qWr w b l) :
  Calls Tryz.prog 33 #[.pointer (some ⟨b, 0, none⟩)] w fun e w' => e = .returned (.string ⟨l.toArray⟩) ∧ Below b w w' := by
 by_cases h0 : l = []
 ·subst h0
  exact qestring_nil b w h
 ·exact qestring_any b l w h h0
theorem qwr_freshE (w : World) : qWr (w.alloc (.cells #[.pointer none, .slice none 0 0] 75)) w.heap.size [] :=
 .inl ⟨_, HB.fresh w _ _, by show World.ownsRow _ _ _ _ _ 0 _; exact World.ownsRow_nil _ _ _ _, by simp [Value.ownBlock]⟩
structure HasQ (b : Nat) (m : Int) (bs : List UInt8) (w : World) : Prop where
 wr : qWr w b bs
 ev : Env b m w
theorem HasQ.lt {b : Nat} {m : Int} {bs : List UInt8} {w : World} (h : HasQ b m bs w) : b < w.heap.size := h.wr.lt
theorem HasQ.below {b : Nat} {m : Int} {bs : List UInt8} {w w' : World} (h : HasQ b m bs w) (hb : Below w.heap.size w w') : HasQ b m bs w' := ⟨h.wr.below hb, h.ev.below (hb.mono (Nat.le_of_lt h.lt))⟩
theorem HasQ.next {b : Nat} {m : Int} {bs bs' : List UInt8} {w w' : World} (h : HasQ b m bs w) (hw : qWr w' b bs') (hk : Kp b w w') : HasQ b m bs' w' := ⟨hw, h.ev.below hk.bl⟩
def QdP (b : Nat) (bs : List UInt8) (w : World) (e : Ending) (w' : World) : Prop := e = .returned (.tuple #[]) ∧ qWr w' b bs ∧ Kp b w w'
structure KidC (w : World) (S : Nat → Prop) (ad : Addr) (y : NV) (T : Nod) : Prop where
 c0 : w.cell? ad = some (.string y.1)
 c1 : w.cell? ⟨ad.block, ad.off + 1, none⟩ = some (.string y.2.1)
 c2 : w.cell? ⟨ad.block, ad.off + 2, none⟩ = some (.slice y.2.2.1 y.2.2.2.1 y.2.2.2.2)
 ri : RIn w S T y
theorem KidC.kp {w w' : World} {S : Nat → Prop} {ad : Addr} {y : NV} {T : Nod} {b : Nat} (h : KidC w S ad y T) (hS : ∀ g, S g → g < b) (ha : S ad.block) (hb : Below b w w') : KidC w' S ad y T :=
 ⟨(hb.cell (p := ad) (hS _ ha)).trans h.c0, (hb.cell (p := ⟨ad.block, ad.off + 1, none⟩) (hS _ ha)).trans h.c1, (hb.cell (p := ⟨ad.block, ad.off + 2, none⟩) (hS _ ha)).trans h.c2, h.ri.kp hS hb⟩
theorem RIn.kid0 {w : World} {S : Nat → Prop} {t : Nod} {x : NV} (h : RIn w S t x) (hk : 0 < t.ks.length) : ∃ (ad : Addr) (y : NV), x.2.2.1 = some ad ∧ S ad.block ∧ KidC w S ad y (nthN t.ks 0) := by
 obtain ⟨ad, y, e, hs, c0, c1, c2, hr⟩ := h.kid 0 hk
 rw [Nat.zero_mul, show ad.add 0 = ad by simp [Addr.add]] at c0 c1 c2
 have hz : nthN t.ks 0 = t.ks[0] := by unfold nthN; rw [List.getD_eq_getElem?_getD, List.getElem?_eq_getElem hk]; rfl
 rw [← hz] at hr
 exact ⟨ad, y, e, hs, c0, c1, c2, hr⟩
theorem size_of {s : ByteArray} {l : List UInt8} (h : s.data.toList = l) : s.size = l.length := by rw [← h, Array.length_toList]; rfl
theorem tot_ks (t : Nod) : t.tot = 1 + t.op.length + t.tx.length + Nod.totL t.ks := by cases t; rfl
theorem tot_nth (t : Nod) (h : 0 < t.ks.length) : (nthN t.ks 0).tot < t.tot := by
 have hz : nthN t.ks 0 = t.ks[0] := by unfold nthN; rw [List.getD_eq_getElem?_getD, List.getElem?_eq_getElem h]; rfl
 rw [hz, tot_ks t]
 have := tot_mem (List.getElem_mem h)
 omega
theorem qpart_item {b : Nat} {m : Int} (t : Nod) (hE : ∀ x ∈ exprsOf t, EShows x) (ht : t.op = sItem) (h1 : 0 < t.ks.length) (S : Nat → Prop) (op tx : ByteArray) (X : Option Addr) (n k : Nat) (bs : List UInt8) (w : World) (h : HasQ b m bs w) (hS : ∀ g, S g → g < b) (hn : RIn w S t (op, tx, X, n, k)) (htt : t.tot ≤ 100000) (hl : bs.length + (partW t).length ≤ 900000) :
  Calls Tryz.prog 112 #[.pointer (some ⟨b, 0, none⟩), .agg #[.string op, .string tx, .slice X n k]] w (QdP b (bs ++ partW t) w) := by
 have hbl := h.lt
 obtain ⟨eo, et, en, hkl⟩ := hn.texts
 dsimp only at eo et en
 subst en
 obtain rfl : op = ⟨#[105, 116, 101, 109]⟩ := by rw [eo, ht]; rfl
 have hpw : partW t = t.tx ++ [32, 61, 32] ++ (showE (nthN t.ks 0)) := by unfold partW; rw [ht, if_neg (show sItem ≠ sBy by decide), if_pos rfl]
 obtain ⟨T, hT⟩ : ∃ T, nthN t.ks 0 = T := ⟨_, rfl⟩
 have htT := tot_nth t h1
 obtain ⟨ad, ⟨op1, tx1, X1, n1, k1⟩, eA, hSa, hk⟩ := hn.kid0 h1
 dsimp only at eA
 subst eA
 rw [hT] at hk htT hpw
 have eto : op1.data.toList = T.op ∧ tx1.data.toList = T.tx := by
  have h9 := hk.ri.texts
  dsimp only at h9
  rw [h9.1, h9.2.1]
  exact ⟨rfl, rfl⟩
 have HET := hid eto
 obtain ⟨V, hV⟩ : ∃ V, showE T = V := ⟨_, rfl⟩
 have HVV := hid hV
 have HES := hid (show EShows T from hT ▸ hE _ (exprs_item ht))
 have htx : tx.data.toList = t.tx := by rw [et]
 have htz : tx.size = t.tx.length := by rw [et]; exact size_list _
 have HTX := hid htx
 have HTZ := hid htz
 rw [hpw, hV] at hl ⊢
 simp only [List.length_append, List.length_cons, List.length_nil] at hl
 have HTL := hid (show T.tot ≤ 100000 by omega)
 have HKC := hid hk
 have HS := hid hS
 have HHQ := hid h
 have HSA := hid hSa
 have had := hS _ hSa
 have HW := hid (fun (bs' : List UInt8) (s : ByteArray) (w' : World) (h' : qWr w' b bs') (hl' : bs'.length + s.size ≤ 1000000) => qewrite_any b bs' s w' h' hl')
 have hcat : ∀ w, (Op.stringOp .add tx ⟨#[32, 61, 32]⟩).run Tryz.prog w = .ok (.string (tx ++ ⟨#[32, 61, 32]⟩)) w := fun w => run_string_add_sum w _ _ (by show tx.size + 3 ≤ _; omega)
 clear hE hpw hT hV hk h hn hS eo et htx htz eto hSa ht htT
 go_enter Tryz.func112, Tryz.ntmps112
 obtain ⟨w0, hw0⟩ : ∃ w0, w.alloc (.cells #[.string ⟨#[105, 116, 101, 109]⟩, .string tx, .slice (some ad) t.ks.length k] 25) = w0 := ⟨_, rfl⟩
 have B0 := hid (show Below w.heap.size w w0 by rw [← hw0]; exact below_alloc w _)
 have X0 := hid (show HB w0 w.heap.size #[.string ⟨#[105, 116, 101, 109]⟩, .string tx, .slice (some ad) t.ks.length k] 25 by rw [← hw0]; exact HB.fresh w _ _)
 have A0 := hid (HHQ.out.below B0.out)
 have K0 := hid ((Kp.refl b w).next (Nat.le_of_lt hbl) B0.out)
 have KX0 := hid (fun (w' : World) (hk : Kp b w0 w') => (show (w'.cell? ⟨w.heap.size, 1, none⟩ = some (.string tx)) ∧ Kp b w0 w' from ⟨(X0.out.kp hk (by omega) (by decide)).cell 1, hk⟩))
 have x0 : w0.cell? ⟨w.heap.size, 0, none⟩ = some (.string ⟨#[105, 116, 101, 109]⟩) := X0.out.cell 0
 go_wp2_with fail
 try rw [hw0]
 go_region_held3 (fun w' => (w'.cell? ⟨w.heap.size, 1, none⟩ = some (.string tx)) ∧ Kp b w0 w')
  (first | assumption | (exact KX0.out _ ((Kp.refl b w0).drew.trans hk5)) | (exact KX0.out _ (Kp.refl b w0).drew))
  (first | (go_at_call 66; with_reducible refine (HW.out bs (tx ++ ⟨#[32, 61, 32]⟩) _ ?ce ?cl).mono ?_; (case ce => exact (A0.out.below (Below.drew (Below.refl _ _))).wr); (case cl => (have h1 := HTZ.out; simp [ByteArray.size_append]; show _ ≤ _; have h2 : (⟨#[32, 61, 32]⟩ : ByteArray).size = 3 := rfl; omega)); rintro e w5 ⟨rfl, hw5, hk5⟩))
 have A5 := hid (show HasQ b m (bs ++ (t.tx ++ [32, 61, 32])) w5 from A0.out.next (by have h := hw5; rw [ByteArray.data_append, Array.toList_append, HTX.out] at h; exact h) ((Kp.refl b w0).drew.trans hk5))
 have K5 := hid (K0.out.trans ((Kp.refl b w0).drew.trans hk5))
 have X5 := hid (X0.out.kp ((Kp.refl b w0).drew.trans hk5) (by omega) (by decide))
 have C5 := hid (HKC.out.kp HS.out HSA.out K5.out.bl)
 have zb5 : b < w5.heap.size := A5.out.lt
 have zw5 : w.heap.size < w5.heap.size := X5.out.lt
 clear hw5 hk5 x0
 obtain ⟨W6, hW6⟩ : ∃ W6, w5.alloc (.cells #[.string op1, .string tx1, .slice X1 n1 k1] 25) = W6 := ⟨_, rfl⟩
 have X6 := hid (show HB W6 w5.heap.size #[.string op1, .string tx1, .slice X1 n1 k1] 25 by rw [← hW6]; exact HB.fresh w5 _ _)
 have A6 := hid (show HasQ b m (bs ++ (t.tx ++ [32, 61, 32])) W6 by rw [← hW6]; exact A5.out.below (below_alloc w5 _))
 have K6 := hid (show Kp b w W6 by rw [← hW6]; exact K5.out.next (by omega) (below_alloc w5 _))
 have Y6 := hid (show HB W6 w.heap.size #[.string ⟨#[105, 116, 101, 109]⟩, .string tx, .slice (some ad) t.ks.length k] 25 by rw [← hW6]; exact X5.out.alloc _)
 have N6 := hid (HKC.out.ri.kp HS.out K6.out.bl)
 have z6 : b < W6.heap.size := A6.out.lt
 have q0 : w5.cell? ad = some (.string op1) := C5.out.c0
 have q1 : w5.cell? ⟨ad.block, ad.off + 1, none⟩ = some (.string tx1) := C5.out.c1
 have q2 : w5.cell? ⟨ad.block, ad.off + 2, none⟩ = some (.slice X1 n1 k1) := C5.out.c2
 have x2 : w5.cell? ⟨w.heap.size, 2, none⟩ = some (.slice (some ad) t.ks.length k) := X5.out.cell 2
 have HW6 := hid hW6
 clear hW6
 go_upto_region 10 with fail
 rw [HW6.out]
 have y0 : W6.cell? ⟨w.heap.size, 0, none⟩ = some (.string ⟨#[105, 116, 101, 109]⟩) := Y6.out.cell 0
 clear q0 q1 q2 x2
 have HSH := hid (fun (w' : World) (hb : Below W6.heap.size W6 w') => (show Calls Tryz.prog 111 #[.agg #[.string op1, .string tx1, .slice X1 n1 k1]] w' (fun e w'' => e = .returned (.string ⟨V.toArray⟩) ∧ Below w'.heap.size w' w'') by
  have h := HES.out HTL.out (by rw [HVV.out]; omega) m S op1 tx1 X1 n1 k1 w' (A6.out.below hb).ev.at (fun g hg => by have := HS.out g hg; have := hb.size; omega) (N6.out.kp (fun g hg => by have := HS.out g hg; omega) hb)
  rw [HVV.out] at h
  exact h))
 have KX6 := hid (fun (w' : World) (hk : Kp b W6 w') => (show (w'.cell? ⟨w5.heap.size, 0, none⟩ = some (.string op1) ∧ w'.cell? ⟨w5.heap.size, 1, none⟩ = some (.string tx1) ∧ w'.cell? ⟨w5.heap.size, 2, none⟩ = some (.slice X1 n1 k1)) ∧ Kp b W6 w' from ⟨⟨(X6.out.kp hk (by omega) (by decide)).cell 0, (X6.out.kp hk (by omega) (by decide)).cell 1, (X6.out.kp hk (by omega) (by decide)).cell 2⟩, hk⟩))
 go_wp2_with fail
 go_region_held3 (fun w' => (w'.cell? ⟨w5.heap.size, 0, none⟩ = some (.string op1) ∧ w'.cell? ⟨w5.heap.size, 1, none⟩ = some (.string tx1) ∧ w'.cell? ⟨w5.heap.size, 2, none⟩ = some (.slice X1 n1 k1)) ∧ Kp b W6 w')
  (first | assumption | (exact KX6.out _ (((Kp.refl b W6).drew.next (by simp; omega) hb7).trans hk8)) | (exact KX6.out _ ((Kp.refl b W6).drew.next (by simp; omega) hb7)) | (exact KX6.out _ (Kp.refl b W6).drew))
  (first | (go_at_call 111; with_reducible refine (HSH.out _ ?cv).mono ?_; (case cv => exact Below.drew (Below.refl _ _)); rintro e w7 ⟨rfl, hb7⟩) | (go_at_call 66; with_reducible refine (HW.out (bs ++ (t.tx ++ [32, 61, 32])) ⟨V.toArray⟩ _ ?ce ?cl).mono ?_; (case ce => exact ((A6.out.below (Below.drew (Below.refl _ _))).below hb7).wr); (case cl => (rw [size_list]; simp only [List.length_append, List.length_cons, List.length_nil]; omega)); rintro e w8 ⟨rfl, hw8, hk8⟩))
 have K8 := hid (K6.out.trans (((Kp.refl b W6).drew.next (by simp; omega) hb7).trans hk8))
 have A8 := hid (show qWr w8 b (bs ++ (t.tx ++ [32, 61, 32] ++ V)) by have h := hw8; rw [List.append_assoc] at h; exact h)
 clear hw8 hk8 hb7
 go_wp2
 go_end0
 exact ⟨rfl, A8.out, K8.out⟩
theorem qpart_on {b : Nat} {m : Int} (t : Nod) (ht : t.op = sOn) (h1 : 0 < t.ks.length) (S : Nat → Prop) (op tx : ByteArray) (X : Option Addr) (n k : Nat) (bs : List UInt8) (w : World) (h : HasQ b m bs w) (hS : ∀ g, S g → g < b) (hn : RIn w S t (op, tx, X, n, k)) (htt : t.tot ≤ 100000) (hl : bs.length + (partW t).length ≤ 900000) :
  Calls Tryz.prog 112 #[.pointer (some ⟨b, 0, none⟩), .agg #[.string op, .string tx, .slice X n k]] w (QdP b (bs ++ partW t) w) := by
 have hbl := h.lt
 obtain ⟨eo, et, en, hkl⟩ := hn.texts
 dsimp only at eo et en
 subst en
 obtain rfl : op = ⟨#[111, 110]⟩ := by rw [eo, ht]; rfl
 have hpw : partW t = t.tx ++ [32, 61, 32] ++ ((nthN t.ks 0).tx) := by unfold partW; rw [ht, if_neg (show sOn ≠ sBy by decide), if_neg (show sOn ≠ sItem by decide), if_pos rfl]
 obtain ⟨T, hT⟩ : ∃ T, nthN t.ks 0 = T := ⟨_, rfl⟩
 have htT := tot_nth t h1
 obtain ⟨ad, ⟨op1, tx1, X1, n1, k1⟩, eA, hSa, hk⟩ := hn.kid0 h1
 dsimp only at eA
 subst eA
 rw [hT] at hk htT hpw
 have eto : op1.data.toList = T.op ∧ tx1.data.toList = T.tx := by
  have h9 := hk.ri.texts
  dsimp only at h9
  rw [h9.1, h9.2.1]
  exact ⟨rfl, rfl⟩
 have HET := hid eto
 obtain ⟨V, hV⟩ : ∃ V, T.tx = V := ⟨_, rfl⟩
 have HVV := hid hV
 have htx : tx.data.toList = t.tx := by rw [et]
 have htz : tx.size = t.tx.length := by rw [et]; exact size_list _
 have HTX := hid htx
 have HTZ := hid htz
 rw [hpw, hV] at hl ⊢
 simp only [List.length_append, List.length_cons, List.length_nil] at hl
 have HTL := hid (show T.tot ≤ 100000 by omega)
 have HKC := hid hk
 have HS := hid hS
 have HHQ := hid h
 have HSA := hid hSa
 have had := hS _ hSa
 have HW := hid (fun (bs' : List UInt8) (s : ByteArray) (w' : World) (h' : qWr w' b bs') (hl' : bs'.length + s.size ≤ 1000000) => qewrite_any b bs' s w' h' hl')
 have hcat : ∀ w, (Op.stringOp .add tx ⟨#[32, 61, 32]⟩).run Tryz.prog w = .ok (.string (tx ++ ⟨#[32, 61, 32]⟩)) w := fun w => run_string_add_sum w _ _ (by show tx.size + 3 ≤ _; omega)
 clear hpw hT hV hk h hn hS eo et htx htz eto hSa ht htT
 go_enter Tryz.func112, Tryz.ntmps112
 obtain ⟨w0, hw0⟩ : ∃ w0, w.alloc (.cells #[.string ⟨#[111, 110]⟩, .string tx, .slice (some ad) t.ks.length k] 25) = w0 := ⟨_, rfl⟩
 have B0 := hid (show Below w.heap.size w w0 by rw [← hw0]; exact below_alloc w _)
 have X0 := hid (show HB w0 w.heap.size #[.string ⟨#[111, 110]⟩, .string tx, .slice (some ad) t.ks.length k] 25 by rw [← hw0]; exact HB.fresh w _ _)
 have A0 := hid (HHQ.out.below B0.out)
 have K0 := hid ((Kp.refl b w).next (Nat.le_of_lt hbl) B0.out)
 have KX0 := hid (fun (w' : World) (hk : Kp b w0 w') => (show (w'.cell? ⟨w.heap.size, 1, none⟩ = some (.string tx)) ∧ Kp b w0 w' from ⟨(X0.out.kp hk (by omega) (by decide)).cell 1, hk⟩))
 have x0 : w0.cell? ⟨w.heap.size, 0, none⟩ = some (.string ⟨#[111, 110]⟩) := X0.out.cell 0
 go_wp2_with fail
 try rw [hw0]
 go_region_held3 (fun w' => (w'.cell? ⟨w.heap.size, 1, none⟩ = some (.string tx)) ∧ Kp b w0 w')
  (first | assumption | (exact KX0.out _ ((Kp.refl b w0).drew.trans hk5)) | (exact KX0.out _ (Kp.refl b w0).drew))
  (first | (go_at_call 66; with_reducible refine (HW.out bs (tx ++ ⟨#[32, 61, 32]⟩) _ ?ce ?cl).mono ?_; (case ce => exact (A0.out.below (Below.drew (Below.refl _ _))).wr); (case cl => (have h1 := HTZ.out; simp [ByteArray.size_append]; show _ ≤ _; have h2 : (⟨#[32, 61, 32]⟩ : ByteArray).size = 3 := rfl; omega)); rintro e w5 ⟨rfl, hw5, hk5⟩))
 have A5 := hid (show HasQ b m (bs ++ (t.tx ++ [32, 61, 32])) w5 from A0.out.next (by have h := hw5; rw [ByteArray.data_append, Array.toList_append, HTX.out] at h; exact h) ((Kp.refl b w0).drew.trans hk5))
 have K5 := hid (K0.out.trans ((Kp.refl b w0).drew.trans hk5))
 have X5 := hid (X0.out.kp ((Kp.refl b w0).drew.trans hk5) (by omega) (by decide))
 have C5 := hid (HKC.out.kp HS.out HSA.out K5.out.bl)
 have zb5 : b < w5.heap.size := A5.out.lt
 have zw5 : w.heap.size < w5.heap.size := X5.out.lt
 clear hw5 hk5 x0
 obtain ⟨W6, hW6⟩ : ∃ W6, w5.alloc (.cells #[.string op1, .string tx1, .slice X1 n1 k1] 25) = W6 := ⟨_, rfl⟩
 have X6 := hid (show HB W6 w5.heap.size #[.string op1, .string tx1, .slice X1 n1 k1] 25 by rw [← hW6]; exact HB.fresh w5 _ _)
 have A6 := hid (show HasQ b m (bs ++ (t.tx ++ [32, 61, 32])) W6 by rw [← hW6]; exact A5.out.below (below_alloc w5 _))
 have K6 := hid (show Kp b w W6 by rw [← hW6]; exact K5.out.next (by omega) (below_alloc w5 _))
 have Y6 := hid (show HB W6 w.heap.size #[.string ⟨#[111, 110]⟩, .string tx, .slice (some ad) t.ks.length k] 25 by rw [← hW6]; exact X5.out.alloc _)
 have N6 := hid (HKC.out.ri.kp HS.out K6.out.bl)
 have z6 : b < W6.heap.size := A6.out.lt
 have q0 : w5.cell? ad = some (.string op1) := C5.out.c0
 have q1 : w5.cell? ⟨ad.block, ad.off + 1, none⟩ = some (.string tx1) := C5.out.c1
 have q2 : w5.cell? ⟨ad.block, ad.off + 2, none⟩ = some (.slice X1 n1 k1) := C5.out.c2
 have x2 : w5.cell? ⟨w.heap.size, 2, none⟩ = some (.slice (some ad) t.ks.length k) := X5.out.cell 2
 have HW6 := hid hW6
 clear hW6
 go_upto_region 10 with fail
 rw [HW6.out]
 have y0 : W6.cell? ⟨w.heap.size, 0, none⟩ = some (.string ⟨#[111, 110]⟩) := Y6.out.cell 0
 clear q0 q1 q2 x2
 have KX6 := hid (fun (w' : World) (hk : Kp b W6 w') => (show (w'.cell? ⟨w5.heap.size, 1, none⟩ = some (.string tx1)) ∧ Kp b W6 w' from ⟨(X6.out.kp hk (by omega) (by decide)).cell 1, hk⟩))
 go_wp2_with fail
 go_region_held3 (fun w' => (w'.cell? ⟨w5.heap.size, 1, none⟩ = some (.string tx1)) ∧ Kp b W6 w')
  (first | assumption | (exact KX6.out _ ((Kp.refl b W6).drew.trans hk8)) | (exact KX6.out _ (Kp.refl b W6).drew))
  (first | (go_at_call 66; with_reducible refine (HW.out (bs ++ (t.tx ++ [32, 61, 32])) (tx1) _ ?ce ?cl).mono ?_; (case ce => exact (A6.out.below (Below.drew (Below.refl _ _))).wr); (case cl => (have h1 := HET.out.2; have h2 := size_of h1; have h3 := congrArg List.length HVV.out; simp only [List.length_append, List.length_cons, List.length_nil]; omega)); rintro e w8 ⟨rfl, hw8, hk8⟩))
 have K8 := hid (K6.out.trans ((Kp.refl b W6).drew.trans hk8))
 have A8 := hid (show qWr w8 b (bs ++ (t.tx ++ [32, 61, 32] ++ V)) by have h := hw8; rw [HET.out.2, HVV.out, List.append_assoc] at h; exact h)
 clear hw8 hk8
 go_wp2
 go_end0
 exact ⟨rfl, A8.out, K8.out⟩
theorem qpart_agg {b : Nat} {m : Int} (t : Nod) (ht : t.op = sAgg) (h1 : 0 < t.ks.length) (S : Nat → Prop) (op tx : ByteArray) (X : Option Addr) (n k : Nat) (bs : List UInt8) (w : World) (h : HasQ b m bs w) (hS : ∀ g, S g → g < b) (hn : RIn w S t (op, tx, X, n, k)) (htt : t.tot ≤ 100000) (hl : bs.length + (partW t).length ≤ 900000) :
  Calls Tryz.prog 112 #[.pointer (some ⟨b, 0, none⟩), .agg #[.string op, .string tx, .slice X n k]] w (QdP b (bs ++ partW t) w) := by
 have hbl := h.lt
 obtain ⟨eo, et, en, hkl⟩ := hn.texts
 dsimp only at eo et en
 subst en
 obtain rfl : op = ⟨#[97, 103, 103]⟩ := by rw [eo, ht]; rfl
 have hpw : partW t = t.tx ++ [32, 61, 32] ++ ((nthN t.ks 0).op ++ [40] ++ (nthN t.ks 0).tx ++ [41]) := by unfold partW; rw [ht, if_neg (show sAgg ≠ sBy by decide), if_neg (show sAgg ≠ sItem by decide), if_neg (show sAgg ≠ sOn by decide), if_pos rfl]
 obtain ⟨T, hT⟩ : ∃ T, nthN t.ks 0 = T := ⟨_, rfl⟩
 have htT := tot_nth t h1
 obtain ⟨ad, ⟨op1, tx1, X1, n1, k1⟩, eA, hSa, hk⟩ := hn.kid0 h1
 dsimp only at eA
 subst eA
 rw [hT] at hk htT hpw
 have eto : op1.data.toList = T.op ∧ tx1.data.toList = T.tx := by
  have h9 := hk.ri.texts
  dsimp only at h9
  rw [h9.1, h9.2.1]
  exact ⟨rfl, rfl⟩
 have HET := hid eto
 obtain ⟨V, hV⟩ : ∃ V, T.op ++ [40] ++ T.tx ++ [41] = V := ⟨_, rfl⟩
 have HVV := hid hV
 have htx : tx.data.toList = t.tx := by rw [et]
 have htz : tx.size = t.tx.length := by rw [et]; exact size_list _
 have HTX := hid htx
 have HTZ := hid htz
 rw [hpw, hV] at hl ⊢
 simp only [List.length_append, List.length_cons, List.length_nil] at hl
 have HTL := hid (show T.tot ≤ 100000 by omega)
 have HKC := hid hk
 have HS := hid hS
 have HHQ := hid h
 have HSA := hid hSa
 have had := hS _ hSa
 have HW := hid (fun (bs' : List UInt8) (s : ByteArray) (w' : World) (h' : qWr w' b bs') (hl' : bs'.length + s.size ≤ 1000000) => qewrite_any b bs' s w' h' hl')
 have hcat : ∀ w, (Op.stringOp .add tx ⟨#[32, 61, 32]⟩).run Tryz.prog w = .ok (.string (tx ++ ⟨#[32, 61, 32]⟩)) w := fun w => run_string_add_sum w _ _ (by show tx.size + 3 ≤ _; omega)
 clear hpw hT hV hk h hn hS eo et htx htz eto hSa ht htT
 go_enter Tryz.func112, Tryz.ntmps112
 obtain ⟨w0, hw0⟩ : ∃ w0, w.alloc (.cells #[.string ⟨#[97, 103, 103]⟩, .string tx, .slice (some ad) t.ks.length k] 25) = w0 := ⟨_, rfl⟩
 have B0 := hid (show Below w.heap.size w w0 by rw [← hw0]; exact below_alloc w _)
 have X0 := hid (show HB w0 w.heap.size #[.string ⟨#[97, 103, 103]⟩, .string tx, .slice (some ad) t.ks.length k] 25 by rw [← hw0]; exact HB.fresh w _ _)
 have A0 := hid (HHQ.out.below B0.out)
 have K0 := hid ((Kp.refl b w).next (Nat.le_of_lt hbl) B0.out)
 have KX0 := hid (fun (w' : World) (hk : Kp b w0 w') => (show (w'.cell? ⟨w.heap.size, 1, none⟩ = some (.string tx)) ∧ Kp b w0 w' from ⟨(X0.out.kp hk (by omega) (by decide)).cell 1, hk⟩))
 have x0 : w0.cell? ⟨w.heap.size, 0, none⟩ = some (.string ⟨#[97, 103, 103]⟩) := X0.out.cell 0
 go_wp2_with fail
 try rw [hw0]
 go_region_held3 (fun w' => (w'.cell? ⟨w.heap.size, 1, none⟩ = some (.string tx)) ∧ Kp b w0 w')
  (first | assumption | (exact KX0.out _ ((Kp.refl b w0).drew.trans hk5)) | (exact KX0.out _ (Kp.refl b w0).drew))
  (first | (go_at_call 66; with_reducible refine (HW.out bs (tx ++ ⟨#[32, 61, 32]⟩) _ ?ce ?cl).mono ?_; (case ce => exact (A0.out.below (Below.drew (Below.refl _ _))).wr); (case cl => (have h1 := HTZ.out; simp [ByteArray.size_append]; show _ ≤ _; have h2 : (⟨#[32, 61, 32]⟩ : ByteArray).size = 3 := rfl; omega)); rintro e w5 ⟨rfl, hw5, hk5⟩))
 have A5 := hid (show HasQ b m (bs ++ (t.tx ++ [32, 61, 32])) w5 from A0.out.next (by have h := hw5; rw [ByteArray.data_append, Array.toList_append, HTX.out] at h; exact h) ((Kp.refl b w0).drew.trans hk5))
 have K5 := hid (K0.out.trans ((Kp.refl b w0).drew.trans hk5))
 have X5 := hid (X0.out.kp ((Kp.refl b w0).drew.trans hk5) (by omega) (by decide))
 have C5 := hid (HKC.out.kp HS.out HSA.out K5.out.bl)
 have zb5 : b < w5.heap.size := A5.out.lt
 have zw5 : w.heap.size < w5.heap.size := X5.out.lt
 clear hw5 hk5 x0
 obtain ⟨W6, hW6⟩ : ∃ W6, w5.alloc (.cells #[.string op1, .string tx1, .slice X1 n1 k1] 25) = W6 := ⟨_, rfl⟩
 have X6 := hid (show HB W6 w5.heap.size #[.string op1, .string tx1, .slice X1 n1 k1] 25 by rw [← hW6]; exact HB.fresh w5 _ _)
 have A6 := hid (show HasQ b m (bs ++ (t.tx ++ [32, 61, 32])) W6 by rw [← hW6]; exact A5.out.below (below_alloc w5 _))
 have K6 := hid (show Kp b w W6 by rw [← hW6]; exact K5.out.next (by omega) (below_alloc w5 _))
 have Y6 := hid (show HB W6 w.heap.size #[.string ⟨#[97, 103, 103]⟩, .string tx, .slice (some ad) t.ks.length k] 25 by rw [← hW6]; exact X5.out.alloc _)
 have N6 := hid (HKC.out.ri.kp HS.out K6.out.bl)
 have z6 : b < W6.heap.size := A6.out.lt
 have q0 : w5.cell? ad = some (.string op1) := C5.out.c0
 have q1 : w5.cell? ⟨ad.block, ad.off + 1, none⟩ = some (.string tx1) := C5.out.c1
 have q2 : w5.cell? ⟨ad.block, ad.off + 2, none⟩ = some (.slice X1 n1 k1) := C5.out.c2
 have x2 : w5.cell? ⟨w.heap.size, 2, none⟩ = some (.slice (some ad) t.ks.length k) := X5.out.cell 2
 have HW6 := hid hW6
 clear hW6
 go_upto_region 10 with fail
 rw [HW6.out]
 have y0 : W6.cell? ⟨w.heap.size, 0, none⟩ = some (.string ⟨#[97, 103, 103]⟩) := Y6.out.cell 0
 clear q0 q1 q2 x2
 have KX6 := hid (fun (w' : World) (hk : Kp b W6 w') => (show (w'.cell? ⟨w5.heap.size, 0, none⟩ = some (.string op1) ∧ w'.cell? ⟨w5.heap.size, 1, none⟩ = some (.string tx1)) ∧ Kp b W6 w' from ⟨⟨(X6.out.kp hk (by omega) (by decide)).cell 0, (X6.out.kp hk (by omega) (by decide)).cell 1⟩, hk⟩))
 have hz1 := size_of HET.out.1
 have hz2 := size_of HET.out.2
 have hz3 : T.op.length + T.tx.length ≤ 1000000 := by have h3 := congrArg List.length HVV.out; simp only [List.length_append, List.length_cons, List.length_nil] at h3; omega
 have hcat1 : ∀ w, (Op.stringOp .add op1 ⟨#[40]⟩).run Tryz.prog w = .ok (.string (op1 ++ ⟨#[40]⟩)) w := fun w => run_string_add_sum w _ _ (by show op1.size + 1 ≤ _; omega)
 have hcat2 : ∀ w, (Op.stringOp .add (op1 ++ ⟨#[40]⟩) tx1).run Tryz.prog w = .ok (.string (op1 ++ ⟨#[40]⟩ ++ tx1)) w := fun w => run_string_add_sum w _ _ (by rw [ByteArray.size_append]; show op1.size + 1 + _ ≤ _; omega)
 have hcat3 : ∀ w, (Op.stringOp .add (op1 ++ ⟨#[40]⟩ ++ tx1) ⟨#[41]⟩).run Tryz.prog w = .ok (.string (op1 ++ ⟨#[40]⟩ ++ tx1 ++ ⟨#[41]⟩)) w := fun w => run_string_add_sum w _ _ (by rw [ByteArray.size_append, ByteArray.size_append]; show op1.size + 1 + _ + 1 ≤ _; omega)
 go_wp2_with fail
 go_region_held3 (fun w' => (w'.cell? ⟨w5.heap.size, 0, none⟩ = some (.string op1) ∧ w'.cell? ⟨w5.heap.size, 1, none⟩ = some (.string tx1)) ∧ Kp b W6 w')
  (first | assumption | (exact KX6.out _ ((Kp.refl b W6).drew.trans hk8)) | (exact KX6.out _ (Kp.refl b W6).drew))
  (first | (go_at_call 66; with_reducible refine (HW.out (bs ++ (t.tx ++ [32, 61, 32])) (op1 ++ ⟨#[40]⟩ ++ tx1 ++ ⟨#[41]⟩) _ ?ce ?cl).mono ?_; (case ce => exact (A6.out.below (Below.drew (Below.refl _ _))).wr); (case cl => (have h1 := size_of HET.out.1; have h2 := size_of HET.out.2; have h3 := congrArg List.length HVV.out; simp only [List.length_append, List.length_cons, List.length_nil] at h3; simp only [List.length_append, List.length_cons, List.length_nil, ByteArray.size_append]; have h4 : (⟨#[40]⟩ : ByteArray).size = 1 := rfl; have h5 : (⟨#[41]⟩ : ByteArray).size = 1 := rfl; omega)); rintro e w8 ⟨rfl, hw8, hk8⟩))
 have K8 := hid (K6.out.trans ((Kp.refl b W6).drew.trans hk8))
 have A8 := hid (show qWr w8 b (bs ++ (t.tx ++ [32, 61, 32] ++ V)) by
  have h := hw8
  simp only [ByteArray.data_append, Array.toList_append, HET.out.1, HET.out.2] at h
  rw [← HVV.out]
  simpa using h)
 clear hw8 hk8
 go_wp2
 go_end0
 exact ⟨rfl, A8.out, K8.out⟩
end Go.Proofs.YtjbpkpfmgbhlpaaGreatDoor.Code
