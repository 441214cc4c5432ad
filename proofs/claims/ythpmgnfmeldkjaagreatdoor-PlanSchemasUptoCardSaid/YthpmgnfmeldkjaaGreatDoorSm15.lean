/-
  What a union's plan gets; a table's, by way of the closure.
-/
import Derived.Test.YthpmgnfmeldkjaaGreatDoorSm14
import Derived.Test.YthpmgnfmeldkjaaGreatDoorSm6
import Derived.Deep.QuietTactic
import Derived.BigQuiet
import Derived.Test.YthpmgnfmeldkjaaGreatDoorSm10
import Derived.Test.YthpmgnfmeldkjaaGreatDoorSm5
set_option maxRecDepth 100000
set_option maxHeartbeats 16000000
set_option linter.unusedVariables false
set_option linter.unusedSimpArgs false
open Go.Lib (hid)
namespace Go.Proofs.YthpmgnfmeldkjaaGreatDoor.Code
open Go.ChangeShapes Go.WideShapes Go.ChangeAt Go.RowKit Val Elems
theorem ints_ne {a b : List Int} {i : Nat} (ha : i < a.length) (hb : i < b.length) (h : a[i] ≠ b[i]) : (a == b) = false := by
 rw [beq_eq_false_iff_ne]
 intro e
 subst e
 exact h rfl
theorem ints_eq {a b : List Int} (hl : a.length = b.length) (h : ∀ j (ha : j < a.length) (hb : j < b.length), a[j] = b[j]) : (a == b) = true := by
 rw [beq_iff_eq]
 exact List.ext_getElem hl h
theorem pequal_any (A B : Option Addr) (ca cb : Nat) (a b : List Int) (w : World) (ha : At kc 1 w w.heap.size A a) (hb : At kc 1 w w.heap.size B b) (hla : a.length ≤ 4194304) (hlb : b.length ≤ 4194304) :
  Calls Tryz.prog 93 #[.slice A a.length ca, .slice B b.length cb] w fun e w' => e = .returned (.bool (a == b)) ∧ Below w.heap.size w w' := by
 have HA := hid ha
 have HB := hid hb
 clear ha hb
 by_cases hlm : a.length = b.length
 case neg =>
  have hr : (a == b) = false := by
   rw [beq_eq_false_iff_ne]
   intro e
   exact hlm (congrArg List.length e)
  rw [hr]
  obtain ⟨n1, hn1⟩ : ∃ n, a.length = n := ⟨_, rfl⟩
  obtain ⟨n2, hn2⟩ : ∃ n, b.length = n := ⟨_, rfl⟩
  rw [hn1, hn2] at hlm
  rw [hn1, hn2]
  have e1 : ((n1 : Int) != (n2 : Int)) = true := by simp; omega
  clear hla hlb hn1 hn2 hlm HA HB hr
  go_enter Tryz.func93, Tryz.ntmps93
  go_wp2
  go_ret
  exact ⟨rfl, Below.refl _ _⟩
 have HLM := hid hlm
 have e1 : ((a.length : Int) != (b.length : Int)) = false := by simp [hlm]
 clear hlm
 obtain ⟨R, hR⟩ : ∃ R, (a == b) = R := ⟨_, rfl⟩
 rw [hR]
 have HR := hid hR
 clear hR
 go_enter Tryz.func93, Tryz.ntmps93
 go_wp2
 go_loopw [13] (fun t wr => ∃ i : Nat, i ≤ a.length ∧ t = .int .i64 i ∧ (∀ j (hj : j < a.length) (hj' : j < b.length), j < i → a[j] = b[j]) ∧ Below w.heap.size w wr) (fun t _ => a.length - (intOf t).toNat)
 case atStart => exact ⟨0, by omega, rfl, fun j _ _ h => absurd h (by omega), Below.refl _ _⟩
 case round =>
  obtain ⟨i, hi, rfl, hyes, hbel⟩ := hrel
  have HY := hid hyes
  have HL := hid hbel
  have VA := hid (HA.out.below hbel)
  have VB := hid (HB.out.below hbel)
  clear hyes hbel
  by_cases hil : i < a.length
  ·have him : i < b.length := by have := HLM.out; omega
   obtain ⟨ad, rfl, ga, c0⟩ := at_kind VA.out i hil
   obtain ⟨bd, rfl, gb, d0⟩ := at_kind VB.out i him
   rw [Nat.mul_one] at c0 d0
   have bi0 : (0 : Int) ≤ (i : Int) := by omega
   have bi1 : (i : Int) < (a.length : Int) := by omega
   have bi2 : (i : Int) < (b.length : Int) := by omega
   have HS := hid (fun (h : a[i] = b[i]) => show ∀ j (hj : j < a.length) (hj' : j < b.length), j < i + 1 → a[j] = b[j] from fun j hj hj' h2 => if e : j = i then by subst e; exact h else HY.out j hj hj' (by omega))
   have HN := hid (fun (h : ¬ a[i] = b[i]) => show R = false from HR.out ▸ ints_ne hil him h)
   obtain ⟨x, hx⟩ : ∃ x, a[i] = x := ⟨_, rfl⟩
   obtain ⟨y, hy⟩ : ∃ y, b[i] = y := ⟨_, rfl⟩
   rw [hx] at c0 HS HN
   rw [hy] at d0 HS HN
   clear hx hy
   by_cases hxy : x = y
   ·have HS2 := hid (HS.out hxy)
    subst hxy
    clear HN HS
    go_wp2
    go_quiet (fail)
    go_wp2
    go_roundw
    case rel => exact ⟨i + 1, by omega, by go_num, HS2.out, drewN_below HL.out _⟩
    case measure => simp [intOf]; omega
   ·obtain rfl := HN.out hxy
    have e2 : (x != y) = true := by simpa using hxy
    clear hxy HS HN
    go_wp2
    go_quiet (fail)
    go_wp2
    go_ret
    exact ⟨rfl, drewN_below HL.out _⟩
  ·obtain rfl : i = a.length := by omega
   obtain rfl : R = true := HR.out ▸ ints_eq HLM.out (fun j hj hj' => HY.out j hj hj' hj)
   go_wp2
   go_ret
   exact ⟨rfl, HL.out⟩
theorem over1_any (B : Nat) (S Sn : Nat → Prop) (g gt : Nat) (co ki : Sl) (c0 : List W) (ps : List Pl) (t : Nod) (op tx : ByteArray) (X : Option Addr) (n k : Nat) (A : Option Addr) (cap : Nat) (l : List Tab) (w : World) (hB : B ≤ w.heap.size) (hn : RIn w Sn t (op, tx, X, n, k)) (hp : FPre B S w g ⟨sFrom.toArray⟩ co ki c0) (hv : TabsAt w w.heap.size A l) (hl : l.length ≤ 4194304) (hcl : ∀ t ∈ l, t.2.length ≤ 4194304)
  (hg : w.cell? ⟨gt, 0, none⟩ = some (.slice A l.length cap)) :
  Calls Tryz.prog 45 #[.pointer (some ⟨g, 0, none⟩), .agg #[.string op, .string tx, .slice X n k], .pointer (some ⟨gt, 0, none⟩)] w (FPost B S g ki w (fromR l t.tx ps)) := by
 obtain ⟨eo, et, en, hkl⟩ := hn.texts
 dsimp only at eo et en
 obtain ⟨w0, hw0⟩ : ∃ w0, w.alloc (.cells #[.string op, .string tx, .slice X n k] 24) = w0 := ⟨_, rfl⟩
 have B0 := hid (show Below w.heap.size w w0 by rw [← hw0]; exact below_alloc w _)
 have N0 := hid (show NBox w0 w.heap.size (.string op) (.string tx) (.slice X n k) by rw [← hw0]; exact NBox.fresh _ _ _ _ _)
 have g0 := (B0.out.cell (p := ⟨gt, 0, none⟩) (World.block_lt_of_cell? _ _ hg)).trans hg
 have HF := hid (from_any B S g co ki c0 ps tx A cap l w0 (Nat.le_trans hB B0.out.size) (hp.below B0.out) (hv.next B0.out) hl hcl)
 have htx : tx.data.toList = t.tx := by rw [et]
 rw [htx] at HF
 unfold FPost at HF ⊢
 have HS := hid hp.sl
 have HG := hid hp.box.lt
 obtain ⟨R, hR⟩ : ∃ R, fromR l t.tx ps = R := ⟨_, rfl⟩
 rw [hR] at HF ⊢
 have HW0 := hid hw0
 clear hn hp hv hcl hg et eo en htx hR hw0
 go_enter Tryz.func45, Tryz.ntmps45
 go_upto_region 1 with fail
 rw [HW0.out]
 obtain ⟨x0, x1, x2, xf⟩ := N0.out
 go_wp2_with fail
 refine HF.out.mono ?_
 rintro e w1 ⟨rfl, hb, hk, ho⟩
 have HE := hid (show Below B w w1 ∧ (∀ p : Addr, S p.block → w1.cell? p = w.cell? p) ∧ (R.2 = 0 → FOk B S w1 g ki R.1 ∧ w1.cell? ⟨g, 8, none⟩ = w.cell? ⟨g, 8, none⟩) from
  ⟨(B0.out.mono hB).trans hb, fun p hp => (hk p hp).trans (B0.out.cell (HS.out _ hp).1), fun h => ⟨(ho h).1, (ho h).2.trans (B0.out.cell (p := ⟨g, 8, none⟩) HG.out)⟩⟩)
 clear hb hk ho x0 x1 x2 xf g0 HF
 go_wp2
 go_ret
 exact ⟨rfl, HE.out⟩
structure KIn (w : World) (S : Nat → Prop) (ki : Sl) (ps : List Pl) : Prop where
 len : ki.2.1 = ps.length
 all : ∃ l, PAll w S ps l ∧ AtS pc 8 w S ki.1 l
theorem KIn.keep {w w' : World} {S : Nat → Prop} {ki : Sl} {ps : List Pl} (h : KIn w S ki ps) (hk : ∀ p : Addr, S p.block → w'.cell? p = w.cell? p) : KIn w' S ki ps := by
 obtain ⟨l, h1, h2⟩ := h.all
 exact ⟨h.len, l, h1.keep (fun _ h => h) hk, h2.keep (fun _ h => h) hk⟩
def plcs (x : PV) : Array Value := #[.string x.op, .string x.tab, .slice x.co.1 x.co.2.1 x.co.2.2, .slice x.ki.1 x.ki.2.1 x.ki.2.2, .slice x.ex.1 x.ex.2.1 x.ex.2.2, .slice x.on.1 x.on.2.1 x.on.2.2, .slice x.bk.1 x.bk.2.1 x.bk.2.2, .slice x.ag.1 x.ag.2.1 x.ag.2.2]
theorem PBox.fresh (w : World) (x : PV) (t : TypeId) : PBox (w.alloc (.cells (plcs x) t)) w.heap.size x := by
 unfold plcs
 exact ⟨by simp [go_sem], by simp [go_sem], by simp [go_sem], by simp [go_sem], by simp [go_sem], by simp [go_sem], by simp [go_sem], by simp [go_sem], fun j => by simp [go_sem]⟩
structure PCell (w : World) (a : Addr) (x : PV) : Prop where
 c0 : w.cell? a = some (.string x.op)
 c1 : w.cell? ⟨a.block, a.off + 1, none⟩ = some (.string x.tab)
 c2 : w.cell? ⟨a.block, a.off + 2, none⟩ = some (.slice x.co.1 x.co.2.1 x.co.2.2)
 c3 : w.cell? ⟨a.block, a.off + 3, none⟩ = some (.slice x.ki.1 x.ki.2.1 x.ki.2.2)
 c4 : w.cell? ⟨a.block, a.off + 4, none⟩ = some (.slice x.ex.1 x.ex.2.1 x.ex.2.2)
 c5 : w.cell? ⟨a.block, a.off + 5, none⟩ = some (.slice x.on.1 x.on.2.1 x.on.2.2)
 c6 : w.cell? ⟨a.block, a.off + 6, none⟩ = some (.slice x.bk.1 x.bk.2.1 x.bk.2.2)
 c7 : w.cell? ⟨a.block, a.off + 7, none⟩ = some (.slice x.ag.1 x.ag.2.1 x.ag.2.2)
theorem KIn.kid {w : World} {S : Nat → Prop} {ki : Sl} {ps : List Pl} (h : KIn w S ki ps) (k : Nat) (hk : k < ps.length) : ∃ (ad : Addr) (y : PV), ki.1 = some ad ∧ S ad.block ∧ PCell w (ad.add (k * 8)) y ∧ PIn w S ps[k] y := by
 obtain ⟨l, h1, h2⟩ := h.all
 obtain ⟨ad, y, e, hs, c0, c, hp⟩ := pl_at h1 h2 k hk
 exact ⟨ad, y, e, hs, ⟨c0, c 0 _ rfl, c 1 _ rfl, c 2 _ rfl, c 3 _ rfl, c 4 _ rfl, c 5 _ rfl, c 6 _ rfl⟩, hp⟩
def unionR (c0 : List W) (ps : List Pl) : Pl × Int := (.mk sUnion [] [] [] [] [] c0 ps, if (ps.all fun p => kindsC p.cols == kindsC c0) = true then 0 else 131)
theorem kinds_len (l : List W) : (kindsC l).length = l.length := by unfold kindsC; simp
theorem union_any (B : Nat) (S : Nat → Prop) (g : Nat) (co ki : Sl) (c0 : List W) (ps : List Pl) (op tx : ByteArray) (X : Option Addr) (n k : Nat) (w : World) (hB : B ≤ w.heap.size) (hp : FPre B S w g ⟨sUnion.toArray⟩ co ki c0) (hk : KIn w S ki ps) (hcl : c0.length ≤ 4194304) (hpl : ps.length ≤ 4194304) (hpc : ∀ p ∈ ps, p.cols.length ≤ 4194304) :
  Calls Tryz.prog 54 #[.pointer (some ⟨g, 0, none⟩), .agg #[.string op, .string tx, .slice X n k]] w (FPost B S g ki w (unionR c0 ps)) := by
 have B0 := hid (below_alloc w (.cells #[.string op, .string tx, .slice X n k] 24))
 have HP := hid (fun (w' : World) (hb : Below w.heap.size w w') => hp.below hb)
 have HK := hid (fun (w' : World) (hb : Below w.heap.size w w') => hk.keep (fun p h => hb.cell (hp.sl _ h).1))
 have HS := hid (fun (w' : World) (hb : Below w.heap.size w w') (b : Nat) (h : S b) => Nat.lt_of_lt_of_le (hp.sl b h).1 hb.size)
 have HSP := hid hp.sl
 have HG0 := hid hp.box.lt
 have HPC := hid hpc
 have hkl := hk.len
 have hc0 := hp.cl
 have HKI := hid (fun (w' : World) (hb : Below w.heap.size w w') => skinds_any co.1 co.2.2 c0 w' ((HP.out w' hb).cols) hcl)
 rw [← hc0] at HKI
 have HEND := hid (show ∀ w' (hb : Below w.heap.size w w'), Below B w w' ∧ (∀ p : Addr, S p.block → w'.cell? p = w.cell? p) ∧ FOk B S w' g ki (.mk sUnion [] [] [] [] [] c0 ps) ∧ w'.cell? ⟨g, 8, none⟩ = w.cell? ⟨g, 8, none⟩ from fun w' hb => by
  have h := HP.out w' hb
  have hz : ∀ {α : Type} (c : α → List Value) (m : Nat) (w : World), AtS c m w (fun b => False) zSl.1 ([] : List α) := fun c m w => AtS.nil _ _ _
  exact ⟨hb.mono hB, fun p hp => hb.cell (HSP.out _ hp).1, ⟨_, fun _ => False, h.box, rfl, h.cl, h.own, fun k hk => ⟨(h.ob k hk).1, fun h => h, (h.ob k hk).2⟩, fun k hk => hk.elim, ⟨rfl, rfl, rfl, rfl, rfl, rfl, NLs.nil _ _ _, hz _ _ _, hz _ _ _, hz _ _ _⟩⟩, hb.cell (p := ⟨g, 8, none⟩) HG0.out⟩)
 unfold FPost unionR
 obtain ⟨R, hR⟩ : ∃ R : Int, (if (ps.all fun p => kindsC p.cols == kindsC c0) = true then 0 else 131) = R := ⟨_, rfl⟩
 rw [hR]
 have HR := hid hR
 obtain ⟨w0, hw0⟩ : ∃ w0, w.alloc (.cells #[.string op, .string tx, .slice X n k] 24) = w0 := ⟨_, rfl⟩
 rw [hw0] at B0
 have p2 := (HP.out w0 B0.out).box.c2
 dsimp only at p2
 have HW0 := hid hw0
 dsimp only
 have HC0 := hid hc0
 clear hp hk hpc hR hw0 hc0
 go_enter Tryz.func54, Tryz.ntmps54
 go_upto_region 1 with fail
 rw [HW0.out]
 go_wp2_with fail
 refine (HKI.out w0 B0.out).mono ?_
 rintro e w1 ⟨A1, cp1, rfl, hk1, hb1⟩
 have L1 := hid (B0.out.trans (hb1.mono B0.out.size))
 have HK1 := hid hk1
 have p3 := (HP.out w1 L1.out).box.c3
 dsimp only at p3
 rw [hkl] at p3
 clear hb1 hk1 p2
 go_wp2
 go_loopw [18] (fun t wr => ∃ i : Nat, i ≤ ps.length ∧ t = .int .i64 i ∧ (∀ j (hj : j < ps.length), j < i → (kindsC ps[j].cols == kindsC c0) = true) ∧ Below w1.heap.size w1 wr) (fun t _ => ps.length - (intOf t).toNat)
 case atStart => exact ⟨0, by omega, rfl, fun j _ h => absurd h (by omega), Below.refl _ _⟩
 case round =>
  obtain ⟨i, hi, rfl, hyes, hbel⟩ := hrel
  have HY := hid hyes
  have HL := hid hbel
  have LW := hid (L1.out.trans (hbel.mono L1.out.size))
  clear hyes hbel
  by_cases hil : i < ps.length
  ·obtain ⟨ad, y, eA, hS9, hpc, hpi⟩ := (HK.out wr LW.out).kid i hil
   obtain ⟨k1, k2, k3⟩ := ki
   dsimp only at eA
   subst eA
   obtain ⟨q0, q1, q2, q3, q4, q5, q6, q7⟩ := hpc
   have HS1 := hid (fun (h : (kindsC ps[i].cols == kindsC c0) = true) => show ∀ j (hj : j < ps.length), j < i + 1 → (kindsC ps[j].cols == kindsC c0) = true from fun j hj h2 => if e : j = i then by subst e; exact h else HY.out j hj (by omega))
   have HN1 := hid (fun (h : (kindsC ps[i].cols == kindsC c0) = false) => show R = 131 from by
    rw [← HR.out, if_neg]
    intro h2
    rw [List.all_eq_true.1 h2 _ (List.getElem_mem hil)] at h
    cases h)
   have hyl := hpi.cols.1
   have hpcl := HPC.out ps[i] (List.getElem_mem hil)
   obtain ⟨w6, hw6⟩ : ∃ w6, wr.alloc (.cells (plcs y) 35) = w6 := ⟨_, rfl⟩
   have B6 := hid (show Below wr.heap.size wr w6 by rw [← hw6]; exact below_alloc wr _)
   have V6 := hid (show PBox w6 wr.heap.size y by rw [← hw6]; exact PBox.fresh _ _ _)
   have L6 := hid (HL.out.trans (B6.out.mono HL.out.size))
   have HC := hid (fun (w' : World) (hb : Below wr.heap.size wr w') => skinds_any y.co.1 y.co.2.2 ps[i].cols w' ((hpi.bel (HS.out wr LW.out) hb).cols.2.at (fun b h => Nat.lt_of_lt_of_le (HS.out wr LW.out b h) hb.size)) hpcl)
   rw [← hyl] at HC
   have HQ := hid (fun (w' : World) (hb : Below w1.heap.size w1 w') (A2 : Option Addr) (cp2 : Nat) (h2 : At kc 1 w' w'.heap.size A2 (kindsC ps[i].cols)) => pequal_any A2 A1 cp2 cp1 (kindsC ps[i].cols) (kindsC c0) w' h2 ((HK1.out.below hb).more hb.size) (by rw [kinds_len]; omega) (by rw [kinds_len]; omega))
   simp only [kinds_len] at HQ
   rw [← hyl, ← HC0.out] at HQ
   obtain ⟨b, hb⟩ : ∃ b, (kindsC ps[i].cols == kindsC c0) = b := ⟨_, rfl⟩
   rw [hb] at HQ HS1 HN1
   have HW6 := hid hw6
   unfold plcs at HW6
   clear hpi hb hyl hw6
   go_upto_region 5 with fail
   rw [HW6.out]
   clear q0 q1 q2 q3 q4 q5 q6 q7
   have v2 := V6.out.c2
   go_wp2_with fail
   refine (HC.out w6 B6.out).mono ?_
   rintro e w7 ⟨A2, cp2, rfl, hk2, hb7⟩
   have L7 := hid (L6.out.trans (hb7.mono L6.out.size))
   have HQ7 := hid (HQ.out w7 L7.out A2 cp2 hk2)
   clear hk2 hb7 v2 HC HQ
   go_wp2_with fail
   refine HQ7.out.mono ?_
   rintro e w8 ⟨rfl, hb8⟩
   have L8 := hid (L7.out.trans (hb8.mono L7.out.size))
   clear hb8 HQ7
   cases b
   ·obtain rfl := HN1.out (by first | exact rfl | exact trivial)
    have HE := hid (HEND.out w8 (L1.out.trans (L8.out.mono L1.out.size)))
    go_wp2
    go_ret
    exact ⟨rfl, HE.out.1, HE.out.2.1, fun h => absurd h (by decide)⟩
   ·have HS2 := hid (HS1.out (by first | exact rfl | exact trivial))
    go_wp2
    go_roundw
    case rel => exact ⟨i + 1, by omega, by go_num, HS2.out, L8.out⟩
    case measure => simp [intOf]; omega
  ·obtain rfl : i = ps.length := by omega
   obtain rfl : R = 0 := by
    rw [← HR.out, if_pos]
    rw [List.all_eq_true]
    intro p hp
    obtain ⟨j, hj, rfl⟩ := List.getElem_of_mem hp
    exact HY.out j hj hj
   have HE := hid (HEND.out wr LW.out)
   go_wp2
   go_ret
   exact ⟨rfl, HE.out.1, HE.out.2.1, by first | exact HE.out.2.2 | exact fun _ => HE.out.2.2⟩
end Go.Proofs.YthpmgnfmeldkjaaGreatDoor.Code
/-
  Items, pairs, names, aggregates one by one, in plain words. No program is named here.
-/
namespace Go.Proofs.YthpmgnfmeldkjaaGreatDoor.Code
open Val
def joinOne (a b : List W) (t : Nod) : (Int × Int) × Int := match findC a t.tx, findC b (nthN t.ks 0).tx with
 | some x, some y => if (a.getD x (0, [], 0)).2.2 ≠ (b.getD y (0, [], 0)).2.2 then ((0, 0), 131) else (((x : Int), (y : Int)), 0)
 | _, _ => ((0, 0), 121)
theorem join_none (a b : List W) (t : Nod) (h : findC a t.tx = none ∨ findC b (nthN t.ks 0).tx = none) : joinOne a b t = ((0, 0), 121) := by
 unfold joinOne
 cases hx : findC a t.tx with
 | none => rfl
 | some x =>
  cases hy : findC b (nthN t.ks 0).tx with
  | none => rfl
  | some y => rcases h with h | h <;> simp_all
theorem join_each (a b : List W) : ∀ l : List Nod, joinP a b l = eachL (joinOne a b) l
 | [] => rfl
 | t :: l => by
  rw [joinP, eachL, join_each a b l]
  cases hx : findC a t.tx with
  | none =>
   rw [join_none a b t (.inl hx), if_neg (by decide)]
  | some x =>
   cases hy : findC b (nthN t.ks 0).tx with
   | none =>
    rw [join_none a b t (.inr hy), if_neg (by decide)]
   | some y =>
    dsimp only
    by_cases h : (a.getD x (0, [], 0)).2.2 ≠ (b.getD y (0, [], 0)).2.2
    ·have e : joinOne a b t = ((0, 0), 131) := by unfold joinOne; rw [hx, hy]; dsimp only; rw [if_pos h]
     rw [if_pos h, e, if_neg (by decide)]
    ·have e : joinOne a b t = (((x : Int), (y : Int)), 0) := by unfold joinOne; rw [hx, hy]; dsimp only; rw [if_neg h]
     rw [if_neg h, e, if_pos rfl]
     by_cases h3 : (eachL (joinOne a b) l).2 = 0
     ·rw [if_neg (by simpa using h3), if_pos h3]
     ·rw [if_pos h3, if_neg h3]
def projOne (cols : List W) (t : Nod) : W × Int := if (typeE cols (nthN t.ks 0)).2 ≠ 0 then ((0, [], 0), (typeE cols (nthN t.ks 0)).2) else if (typeE cols (nthN t.ks 0)).1 = 0 then ((0, [], 0), 131) else ((0, t.tx, (typeE cols (nthN t.ks 0)).1), 0)
theorem proj_each (cols : List W) : ∀ l : List Nod, projectP cols l = eachL (projOne cols) l
 | [] => rfl
 | t :: l => by
  rw [projectP, eachL, proj_each cols l]
  by_cases h1 : (typeE cols (nthN t.ks 0)).2 ≠ 0
  ·have e : projOne cols t = ((0, [], 0), (typeE cols (nthN t.ks 0)).2) := by unfold projOne; rw [if_pos h1]
   rw [if_pos h1, e, if_neg h1]
  ·by_cases h2 : (typeE cols (nthN t.ks 0)).1 = 0
   ·have e : projOne cols t = ((0, [], 0), 131) := by unfold projOne; rw [if_neg h1, if_pos h2]
    rw [if_neg h1, if_pos h2, e, if_neg (by decide)]
   ·have e : projOne cols t = ((0, t.tx, (typeE cols (nthN t.ks 0)).1), 0) := by unfold projOne; rw [if_neg h1, if_neg h2]
    rw [if_neg h1, if_neg h2, e, if_pos rfl]
    by_cases h3 : (eachL (projOne cols) l).2 = 0
    ·rw [if_neg (by simpa using h3), if_pos h3]
    ·rw [if_pos h3, if_neg h3]
def byOne (cols : List W) (t : Nod) : (Int × W) × Int := match findC cols t.tx with | none => ((0, (0, [], 0)), 121) | some k => (((k : Int), cols.getD k (0, [], 0)), 0)
theorem by_each (cols : List W) : ∀ l : List Nod, byP cols l = (((eachL (byOne cols) l).1.map (fun x => x.1)), ((eachL (byOne cols) l).1.map (fun x => x.2)), (eachL (byOne cols) l).2)
 | [] => rfl
 | t :: l => by
  rw [byP, eachL, by_each cols l]
  cases h : findC cols t.tx with
  | none =>
   have e : byOne cols t = ((0, (0, [], 0)), 121) := by unfold byOne; rw [h]
   rw [e, if_neg (by decide)]
   rfl
  | some k =>
   have e : byOne cols t = (((k : Int), cols.getD k (0, [], 0)), 0) := by unfold byOne; rw [h]
   rw [e, if_pos rfl]
   dsimp only
   by_cases h3 : (eachL (byOne cols) l).2 = 0
   ·rw [if_neg (by simpa using h3), if_pos h3]
    rfl
   ·rw [if_pos h3, if_neg h3]
    rfl
def aggOne (cols : List W) (t : Nod) : ((List UInt8 × Int) × W) × Int := if (aggP cols (nthN t.ks 0)).2.2 ≠ 0 then ((([], 0), (0, [], 0)), (aggP cols (nthN t.ks 0)).2.2) else ((((nthN t.ks 0).op, (aggP cols (nthN t.ks 0)).1), (0, t.tx, (aggP cols (nthN t.ks 0)).2.1)), 0)
theorem agg_each (cols : List W) : ∀ l : List Nod, aggsP cols l = (((eachL (aggOne cols) l).1.map (fun x => x.1)), ((eachL (aggOne cols) l).1.map (fun x => x.2)), (eachL (aggOne cols) l).2)
 | [] => rfl
 | t :: l => by
  rw [aggsP, eachL, agg_each cols l]
  by_cases h1 : (aggP cols (nthN t.ks 0)).2.2 ≠ 0
  ·have e : aggOne cols t = ((([], 0), (0, [], 0)), (aggP cols (nthN t.ks 0)).2.2) := by unfold aggOne; rw [if_pos h1]
   rw [if_pos h1, e, if_neg h1]
   rfl
  ·have e : aggOne cols t = ((((nthN t.ks 0).op, (aggP cols (nthN t.ks 0)).1), (0, t.tx, (aggP cols (nthN t.ks 0)).2.1)), 0) := by unfold aggOne; rw [if_neg h1]
   rw [if_neg h1, e, if_pos rfl]
   dsimp only
   by_cases h3 : (eachL (aggOne cols) l).2 = 0
   ·rw [if_neg (by simpa using h3), if_pos h3]
    rfl
   ·rw [if_pos h3, if_neg h3]
    rfl
open Go.ChangeShapes Go.WideShapes Go.ChangeAt Go.RowKit Elems
theorem info_pair : (Tryz.prog.info? 80).map (fun i => (i.zero, i.size, i.bytes)) = some (some (.agg #[.int .i64 0, .int .i64 0]), 2, 16) := by kernel_rfl
def plJoinR (c0 cb : List W) (ks : List Nod) (ps : List Pl) : Pl × Int := (.mk sJoin [] [] (joinP c0 cb (ks.drop 2)).1 [] [] (c0 ++ cb) ps, (joinP c0 cb (ks.drop 2)).2)
theorem PIn.at {w : World} {S : Nat → Prop} {p : Pl} {x : PV} (h : PIn w S p x) {B : Nat} (hS : ∀ g, S g → g < B) : At wc 3 w B x.co.1 p.cols := h.cols.2.at hS
theorem join_any (B : Nat) (S Sn : Nat → Prop) (g : Nat) (co ki : Sl) (pa pb : Pl) (t : Nod) (op tx : ByteArray) (X : Option Addr) (n k : Nat) (w : World) (hB : B ≤ w.heap.size) (hSn : ∀ b, Sn b → b < B) (hn : RIn w Sn t (op, tx, X, n, k)) (hlen : 3 ≤ t.ks.length) (hon : ∀ x ∈ t.ks.drop 2, x.ks.length = 1)
  (hp : FPre B S w g ⟨sJoin.toArray⟩ co ki pa.cols) (hk : KIn w S ki [pa, pb]) (hla : pa.cols.length ≤ 100000) (hlb : pb.cols.length ≤ 100000) (hkl9 : t.ks.length ≤ 4194304) :
  Calls Tryz.prog 52 #[.pointer (some ⟨g, 0, none⟩), .agg #[.string op, .string tx, .slice X n k]] w (FPost B S g ki w (plJoinR pa.cols pb.cols t.ks [pa, pb])) := by
 obtain ⟨eo, et, en, hkl⟩ := hn.texts
 dsimp only at eo et en
 have hcap := hn.cap
 dsimp only at hcap
 subst en
 obtain ⟨w0, hw0⟩ : ∃ w0, w.alloc (.cells #[.string op, .string tx, .slice X t.ks.length k] 24) = w0 := ⟨_, rfl⟩
 have B0 := hid (show Below w.heap.size w w0 by rw [← hw0]; exact below_alloc w _)
 have N0 := hid (show NBox w0 w.heap.size (.string op) (.string tx) (.slice X t.ks.length k) by rw [← hw0]; exact NBox.fresh _ _ _ _ _)
 have hSw : ∀ b, Sn b → b < w.heap.size := fun b hb => Nat.lt_of_lt_of_le (hSn b hb) hB
 -- all that lies below stays: but for the plan's own block
 have HBOX := hid hp.box
 have hgw := hp.box.lt
 have HSP := hid hp.sl
 have HOB := hid hp.ob
 have hlo := hp.lo
 have HCL := hid hp.cl
 have HOWN := hid hp.own
 have HOLT := hid (fun j hj => (hp.own.lt j hj).2)
 obtain ⟨ad, ya, eA, hSa, hca, hpa⟩ := hk.kid 0 (by simp)
 obtain ⟨ad2, yb, eA2, hSb, hcb, hpb⟩ := hk.kid 1 (by simp)
 rw [eA] at eA2
 obtain rfl := Option.some.inj eA2
 have hpa : PIn w S pa ya := hpa
 have hpb : PIn w S pb yb := hpb
 obtain ⟨ao, at9, ⟨A1, A2, A3⟩, aki, aex, aon, abk, aag⟩ := ya
 obtain ⟨bo, bt9, ⟨B1', B2', B3'⟩, bki, bex, bon, bbk, bag⟩ := yb
 have hcla := hpa.cols.1
 have hclb := hpb.cols.1
 dsimp only at hcla hclb
 subst hcla hclb
 obtain ⟨k1, k2, k3⟩ := ki
 dsimp only at eA
 subst eA
 have hk2 : k2 = 2 := hk.len
 subst hk2
 have HKB := hid (fun (w' : World) (hb : But w w' g) (p : Addr) (h : S p.block) => hb.cell (q := p) (HSP.out _ h).1 (HSP.out _ h).2)
 have HAA := hid (fun (w' : World) (hb : But w w' g) => (hpa.keep (fun _ h => h) (HKB.out w' hb)).at (B := w'.heap.size) (fun b h => Nat.lt_of_lt_of_le (HSP.out b h).1 hb.size))
 have HBB := hid (fun (w' : World) (hb : But w w' g) => (hpb.keep (fun _ h => h) (HKB.out w' hb)).at (B := w'.heap.size) (fun b h => Nat.lt_of_lt_of_le (HSP.out b h).1 hb.size))
 have q2 := hca.c2
 have r2 := hcb.c2
 dsimp only at q2 r2
 rw [show ad.add (0 * 8) = ad from rfl] at q2
 rw [show ad.add (1 * 8) = (⟨ad.block, ad.off + 8, none⟩ : Addr) from rfl] at r2
 try dsimp only at r2
 have had := (HSP.out _ hSa).1
 have hadg := (HSP.out _ hSa).2
 -- the pairs' nodes
 have HNL := hid (fun (w' : World) (hb : But w w' g) => hn.nls.keep (fun _ h => h) (fun p h => hb.cell (q := p) (hSw _ h) (by have := hSn _ h; omega)))
 obtain ⟨ad9, y9, eX, -⟩ := hn.nls 0 (by omega)
 dsimp only at eX
 subst eX
 obtain ⟨L, hL⟩ : ∃ L, t.ks.drop 2 = L := ⟨_, rfl⟩
 have hLl : t.ks.length - 2 = L.length := by rw [← hL, List.length_drop]
 have HNL2 := hid (fun (w' : World) (hb : But w w' g) => hL ▸ (HNL.out w' hb).drop 2)
 obtain ⟨a6, ha6⟩ : ∃ a6, ad9.add (2 * 3) = a6 := ⟨_, rfl⟩
 rw [ha6] at HNL2
 have HSL : ∀ w, (Instr.slice 22 (.slice (some ad9) t.ks.length k) (some (.int .i64 2)) none none).run Tryz.prog w = .ok (.slice (some a6) L.length (k - 2)) w := fun w => by rw [← hLl, ← ha6]; exact cut_nodes ad9 t.ks.length k 2 (by omega) hcap w
 have HSW := hid (fun (b : Nat) (h : Sn b) => (show b < w.heap.size ∧ b ≠ g from ⟨hSw b h, by have := hSn b h; omega⟩))
 rw [hL] at hon
 have HON := hid hon
 have hLb : L.length ≤ 4194304 := by omega
 unfold FPost plJoinR
 rw [hL, join_each]
 dsimp only
 obtain ⟨R, hR⟩ : ∃ R, eachL (joinOne pa.cols pb.cols) L = R := ⟨_, rfl⟩
 rw [hR]
 have HR := hid hR
 obtain ⟨RL, RC⟩ := R
 dsimp only
 obtain ⟨CA, hCA⟩ : ∃ CA, pa.cols = CA := ⟨_, rfl⟩
 obtain ⟨CB, hCB⟩ : ∃ CB, pb.cols = CB := ⟨_, rfl⟩
 rw [hCA] at HAA hla HR HCL HOWN q2
 rw [hCB] at HBB hlb HR r2
 dsimp only at HAA HBB
 rw [hCA, hCB]
 have HW0 := hid hw0
 clear hn hp hk hR hw0 hSw hSn hpa hpb hca hcb hL hLl ha6 hcap hon eo et hkl hlen hkl9 hCA hCB y9 hSb HNL
 have q2' := (B0.out.cell (p := ⟨ad.block, ad.off + 2, none⟩) had).trans q2
 have r2' := (B0.out.cell (p := ⟨ad.block, ad.off + 8 + 2, none⟩) had).trans r2
 have p3 := (HBOX.out.below B0.out).c3
 dsimp only at p3
 clear q2 r2
 go_enter Tryz.func52, Tryz.ntmps52
 go_upto_region 1 with fail
 rw [HW0.out]
 go_wp2
 go_quiet (fail)
 rename Nat => nq
 obtain ⟨w1, hw1⟩ : ∃ w1, w0.drewN nq = w1 := ⟨_, rfl⟩
 have B1 := hid (show Below w.heap.size w w1 by rw [← hw1]; exact drewN_below B0.out nq)
 have N1 := hid (show NBox w1 w.heap.size (.string op) (.string tx) (.slice (some ad9) t.ks.length k) by rw [← hw1]; exact ⟨N0.out.c0, N0.out.c1, N0.out.c2, N0.out.fr⟩)
 rw [hw1]
 clear hw1 q2' r2' p3
 obtain ⟨x0, x1, x2, xf⟩ := N1.out
 have HBAD := hid (show ∀ w', But w w' g → Below B w w' ∧ ∀ p : Addr, S p.block → w'.cell? p = w.cell? p from fun w' hb => ⟨hb.below hB hlo, HKB.out w' hb⟩)
 have J1 := hid (But.of B1.out g)
 have PB1 := hid (HBOX.out.below B1.out)
 obtain ⟨i1, hi1, hy0, hy1, hy2⟩ := info_parts info_pair
 go_wp2
 clear x0 x1 x2 xf
 go_loopw [31] (fun v wr => ∃ (i : Nat) (sO : Sl), i ≤ L.length ∧ v = .int .i64 i ∧ But w wr g ∧ (∀ j (hj : j < L.length), j < i → (joinOne CA CB L[j]).2 = 0) ∧ PBox wr g ⟨⟨sJoin.toArray⟩, ⟨#[]⟩, co, (some ad, 2, k3), zSl, sO, zSl, zSl⟩ ∧
   wr.ownsRow w.heap.size 80 2 (.slice sO.1 sO.2.1 sO.2.2) i (flatC oc ((L.take i).map fun t => (joinOne CA CB t).1)) ∧ sO.2.1 = i ∧ wr.cell? ⟨g, 8, none⟩ = w.cell? ⟨g, 8, none⟩) (fun v _ => L.length - (intOf v).toNat)
 case atStart => exact ⟨0, zSl, by omega, rfl, J1.out, fun j _ h => absurd h (by omega), PB1.out, World.ownsRow_nil _ _ _ _, rfl, B1.out.cell (p := ⟨g, 8, none⟩) hgw⟩
 case round =>
  obtain ⟨i, sO, hi, rfl, hbut, hno, hbox, hown, hsl, h8⟩ := hrel
  obtain ⟨O1, O2, O3⟩ := sO
  dsimp only at hsl hown hbox
  replace hsl := hsl.symm
  subst hsl
  have HBT := hid hbut
  have HNO := hid hno
  have HOW := hid hown
  have H8 := hid h8
  have hzw := hbut.size
  by_cases hil : i < L.length
  ·obtain ⟨a7, ⟨yo, yt, yX, yn, ym⟩, e7, hS7, q0, q1, q2, hry⟩ := (HNL2.out wr hbut) i hil
   obtain rfl := Option.some.inj e7
   dsimp only at q0 q1 q2
   obtain ⟨z9, ⟨zo, zt, zX, zn, zm⟩, eZ, hS8, s0, s1, s2, hrz⟩ := hry.kid 0 (by rw [HON.out L[i] (List.getElem_mem hil)]; omega)
   have hyt := hry.texts.2.1
   have hzt := hrz.texts.2.1
   have hyn := hry.texts.2.2.1
   dsimp only at eZ s0 s1 s2 hyt hzt hyn
   subst eZ
   rw [show z9.add (0 * 3) = z9 from rfl] at s0 s1 s2
   rw [HON.out L[i] (List.getElem_mem hil)] at hyn
   subst hyn
   have hnth : nthN L[i].ks 0 = L[i].ks[0]'(by rw [HON.out L[i] (List.getElem_mem hil)]; omega) := by unfold nthN; rw [List.getD_eq_getElem?_getD, List.getElem?_eq_getElem (by rw [HON.out L[i] (List.getElem_mem hil)]; omega), Option.getD_some]
   have hw7 := (HSW.out _ hS7).1
   have hw8 := (HSW.out _ hS8).1
   obtain ⟨w6, hw6⟩ : ∃ w6, wr.alloc (.cells #[.string yo, .string yt, .slice (some z9) 1 ym] 24) = w6 := ⟨_, rfl⟩
   have B6 := hid (show Below wr.heap.size wr w6 by rw [← hw6]; exact below_alloc wr _)
   have V6 := hid (show NBox w6 wr.heap.size (.string yo) (.string yt) (.slice (some z9) 1 ym) by rw [← hw6]; exact NBox.fresh _ _ _ _ _)
   have J6 := hid (HBT.out.next B6.out)
   have htl : yt.data.toList = L[i].tx := by rw [hyt]
   have htz : zt.data.toList = (nthN L[i].ks 0).tx := by rw [hzt, hnth]
   have HF1 := hid (sfind_any A1 A3 CA yt w6 (HAA.out w6 J6.out) (by omega))
   have HF2 := hid (fun (w' : World) (hb : But w w' g) => sfind_any B1' B3' CB zt w' (HBB.out w' hb) (by omega))
   unfold FindPost at HF1 HF2
   rw [htl] at HF1
   rw [htz] at HF2
   obtain ⟨za, hza⟩ : ∃ z, findZ CA L[i].tx = z := ⟨_, rfl⟩
   obtain ⟨zb, hzb⟩ : ∃ z, findZ CB (nthN L[i].ks 0).tx = z := ⟨_, rfl⟩
   obtain ⟨ma, hma⟩ : ∃ m, max za 0 = m := ⟨_, rfl⟩
   obtain ⟨mb, hmb⟩ : ∃ m, max zb 0 = m := ⟨_, rfl⟩
   obtain ⟨ba, hba⟩ : ∃ b, decide (0 ≤ za) = b := ⟨_, rfl⟩
   obtain ⟨bb, hbb⟩ : ∃ b, decide (0 ≤ zb) = b := ⟨_, rfl⟩
   rw [hza, hma, hba] at HF1
   rw [hzb, hmb, hbb] at HF2
   have HZA := hid hza
   have HZB := hid hzb
   have HMA := hid hma
   have HMB := hid hmb
   have HBA := hid hba
   have HBB2 := hid hbb
   clear hza hzb hma hmb hba hbb
   have HW6 := hid hw6
   clear hry hrz hyt hzt hnth hw6 htl htz hbut hno hown h8
   go_upto_region 5 with fail
   rw [HW6.out]
   clear q0 q1 q2
   have v1 := V6.out.c1
   go_wp2_with fail
   refine HF1.out.mono ?_
   rintro e w7 ⟨rfl, hb7⟩
   have J7 := hid (J6.out.next hb7)
   have V7 := hid (V6.out.below hb7)
   have z6 := B6.out.size
   have z7 := hb7.size
   have s1' := ((hb7.cell (p := ⟨z9.block, z9.off + 1, none⟩) (by show z9.block < _; omega)).trans (B6.out.cell (p := ⟨z9.block, z9.off + 1, none⟩) (by show z9.block < _; omega))).trans s1
   have L7 := hid (B6.out.trans (hb7.mono B6.out.size))
   clear v1 HF1 hb7 s0 s1 s2
   obtain ⟨v0, v1, v2, vf⟩ := V7.out
   go_wp2_with fail
   refine (HF2.out w7 J7.out).mono ?_
   rintro e w8 ⟨rfl, hb8⟩
   have J8 := hid (J7.out.next hb8)
   have z8 := hb8.size
   have L8 := hid (L7.out.trans (hb8.mono L7.out.size))
   clear HF2 hb8 v0 v1 v2 vf s1'
   cases hfa : findC CA L[i].tx with
   | none =>
    have hb : ba = false := by rw [← HBA.out, ← HZA.out, findZ_neg hfa]; rfl
    have hc : RC = 121 := by
     have hb := each_bad (joinOne CA CB) L i hil HNO.out (by rw [join_none _ _ _ (.inl hfa)]; decide)
     rw [HR.out, join_none _ _ _ (.inl hfa)] at hb
     exact congrArg Prod.snd hb
    subst hb hc
    have HE := hid (HBAD.out w8 J8.out)
    clear hfa
    go_wp2
    go_ret
    exact ⟨rfl, HE.out.1, HE.out.2, fun h => absurd h (by decide)⟩
   | some x =>
    cases hfb : findC CB (nthN L[i].ks 0).tx with
    | none =>
     have hb : ba = true := by rw [← HBA.out, ← HZA.out, findZ_pos hfa]; simp
     have hb' : bb = false := by rw [← HBB2.out, ← HZB.out, findZ_neg hfb]; rfl
     have hc : RC = 121 := by
      have hb := each_bad (joinOne CA CB) L i hil HNO.out (by rw [join_none _ _ _ (.inr hfb)]; decide)
      rw [HR.out, join_none _ _ _ (.inr hfb)] at hb
      exact congrArg Prod.snd hb
     subst hb hb' hc
     have HE := hid (HBAD.out w8 J8.out)
     clear hfa hfb
     go_wp2
     go_ret
     exact ⟨rfl, HE.out.1, HE.out.2, fun h => absurd h (by decide)⟩
    | some y =>
     have hb : ba = true := by rw [← HBA.out, ← HZA.out, findZ_pos hfa]; simp
     have hb' : bb = true := by rw [← HBB2.out, ← HZB.out, findZ_pos hfb]; simp
     have hm : ma = (x : Int) := by rw [← HMA.out, ← HZA.out, findZ_pos hfa]; omega
     have hm' : mb = (y : Int) := by rw [← HMB.out, ← HZB.out, findZ_pos hfb]; omega
     subst hb hb' hm hm'
     obtain ⟨hx, -, -⟩ := find_some hfa
     obtain ⟨hy, -, -⟩ := find_some hfb
     obtain ⟨pa9, eA1, hpa1, -, -, c2⟩ := at_word (HAA.out w8 J8.out) x hx
     obtain ⟨pb9, eB1, hpb1, -, -, d2⟩ := at_word (HBB.out w8 J8.out) y hy
     subst eA1 eB1
     have bx0 : (0 : Int) ≤ (x : Int) := by omega
     have bx1 : (x : Int) < (CA.length : Int) := by omega
     have by0 : (0 : Int) ≤ (y : Int) := by omega
     have by1 : (y : Int) < (CB.length : Int) := by omega
     have HJO := hid (show joinOne CA CB L[i] = if CA[x].2.2 ≠ CB[y].2.2 then ((0, 0), 131) else (((x : Int), (y : Int)), 0) by
      unfold joinOne
      rw [hfa, hfb]
      simp only [List.getD_eq_getElem?_getD, List.getElem?_eq_getElem hx, List.getElem?_eq_getElem hy, Option.getD_some])
     obtain ⟨ka, hka⟩ : ∃ k, CA[x].2.2 = k := ⟨_, rfl⟩
     obtain ⟨kb, hkb⟩ : ∃ k, CB[y].2.2 = k := ⟨_, rfl⟩
     rw [hka] at c2 HJO
     rw [hkb] at d2 HJO
     clear hka hkb hfa hfb
     by_cases hkk : ka = kb
     ·subst hkk
      rw [if_neg (by simp)] at HJO
      go_wp2
      go_quiet (fail)
      rename Nat => nq
      obtain ⟨w9, hw9⟩ : ∃ w9, w8.drewN nq = w9 := ⟨_, rfl⟩
      have L9 := hid (show Below wr.heap.size wr w9 by rw [← hw9]; exact drewN_below L8.out nq)
      rw [hw9]
      have PB9 := hid (hbox.below L9.out)
      have OW9 := hid (own_call HOW.out L9.out)
      obtain ⟨p0, p1, p2, p3, p4, p5, p6, p7, pf⟩ := PB9.out
      dsimp only at p5
      clear hw9 c2 d2 p0 p1 p2 p3 p4 p6 p7
      have JE := hid (show (joinOne CA CB L[i]).2 = 0 ∧ (joinOne CA CB L[i]).1 = ((x : Int), (y : Int)) by rw [HJO.out]; exact ⟨rfl, rfl⟩)
      have hmt := map_take (fun t => (joinOne CA CB t).1) L i hil
      obtain ⟨XS, hXS⟩ : ∃ XS, (L.take i).map (fun t => (joinOne CA CB t).1) = XS := ⟨_, rfl⟩
      rw [hXS, JE.out.2] at hmt
      rw [hXS] at OW9
      have HMT := hid hmt
      have HN2 := hid (show ∀ j (hj : j < L.length), j < i + 1 → (joinOne CA CB L[j]).2 = 0 from fun j hj h2 => if e : j = i then by subst e; exact JE.out.1 else HNO.out j hj (by omega))
      have hg9 := PB9.out.lt
      clear hmt hXS hbox HJO
      go_wp2_with (at_builtin; refine wpList_append_lies _ rfl _ _ _ rfl w.heap.size 80 i1 _ 2 16 Tryz.underlying31 hi1 hy0 hy1 hy2 rfl (by omega) _ i (flatC oc XS) rfl ?ca ⟨w9.heap.size, 0, none⟩ 1 1 [.int .i64 (x : Int), .int .i64 (y : Int)] rfl rfl ?cn ?co (by omega) ?cm ?cb ?cz9 (w9.heap.size + 1) ?ch ?_)
      case ca => exact own_call OW9.out (below_alloc _ _)
      case cn => exact World.news_of_block (cs := #[.int .i64 (x : Int), .int .i64 (y : Int)]) (t := 80) (fr := (0, 0)) (heap_alloc_new w9 _)
      case co =>
       intro u hu
       simp at hu
       rcases hu with rfl | rfl <;> rfl
      case cm => unfold maxLen; omega
      case cb => omega
      case cz9 => have := L9.out.size; simp; omega
      case ch => simp
      intro gg cap9 w10 hown10 hgrow hat hlt10
      have hrow : ∀ j, (Value.slice O1 i O3).ownBlock = some j → w.heap.size ≤ j := fun j e => (OW9.out.lt j e).1
      have J10 := hid ((HBT.out.next (L9.out.alloc L9.out.size (.cells #[.int .i64 (x : Int), .int .i64 (y : Int)] 80))).grownR hgrow hrow)
      have PB10 := hid ((PB9.out.alloc (.cells #[.int .i64 (x : Int), .int .i64 (y : Int)] 80)).grown hgrow (fun e => by have := hrow g e.symm; omega))
      have hgg : w.heap.size ≤ gg := (hown10.lt gg rfl).1
      have HO10 := hid (show w10.ownsRow w.heap.size 80 2 (.slice (some ⟨gg, 0, none⟩) (i + 1) cap9) (i + 1) (flatC oc ((L.take (i + 1)).map fun t => (joinOne CA CB t).1)) by
       rw [HMT.out, flatC_snoc]
       exact hown10)
      have H810 := hid (show w10.cell? ⟨g, 8, none⟩ = w.cell? ⟨g, 8, none⟩ from (grown_cell hgrow ⟨g, 8, none⟩ (by show g < _; simp; omega) (fun e => by have := hrow g e.symm; omega)).trans (((below_alloc w9 _).cell (p := ⟨g, 8, none⟩) hg9).trans ((L9.out.cell (p := ⟨g, 8, none⟩) (Nat.lt_of_lt_of_le hgw hzw)).trans H8.out)))
      clear hown10 hgrow hat hlt10 p5 pf OW9
      obtain ⟨p0, p1, p2, p3, p4, p5, p6, p7, pf⟩ := PB10.out
      dsimp only at p5
      clear p0 p1 p2 p3 p4 p6 p7
      go_wp2
      go_roundw
      case rel => exact ⟨i + 1, (some ⟨gg, 0, none⟩, i + 1, cap9), by omega, by go_num, J10.out.setCell 5 _, HN2.out, PB10.out.set5 (some ⟨gg, 0, none⟩, i + 1, cap9), pown_set HO10.out _ _ (by simp [Value.ownBlock]; omega), rfl, (World.cell?_setCell_other _ _ _ _ (by simp)).trans H810.out⟩
      case measure => simp [intOf]; omega
     ·have hc : RC = 131 := by
       have hb := each_bad (joinOne CA CB) L i hil HNO.out (by rw [HJO.out, if_pos hkk]; decide)
       rw [HR.out, HJO.out, if_pos hkk] at hb
       exact congrArg Prod.snd hb
      subst hc
      have e1 : (ka != kb) = true := by simpa using hkk
      have HE := hid (fun nq => HBAD.out (w8.drewN nq) (HBT.out.next (drewN_below L8.out nq)))
      clear hkk HJO
      go_wp2
      go_quiet (fail)
      go_wp2
      go_ret
      exact ⟨rfl, (HE.out _).1, (HE.out _).2, fun h => absurd h (by decide)⟩
  ·obtain rfl : i = L.length := by omega
   have hRe := each_ok (joinOne CA CB) L (fun j hj => HNO.out j hj hj)
   rw [HR.out] at hRe
   have hc : RC = 0 := congrArg Prod.snd hRe
   have hc2 : RL = L.map fun t => (joinOne CA CB t).1 := congrArg Prod.fst hRe
   subst hc hc2
   rw [List.take_length] at HOW
   obtain ⟨i2, hi2, hc0, hc1, hc2⟩ := info_parts info_col
   have OC := hid (own_butR HOWN.out hbut (fun e => (HOB.out _ e).2 rfl))
   have hcl := HCL.out
   obtain ⟨c1, c2, c3⟩ := co
   dsimp only at hcl
   subst hcl
   have HB3 := hid (HBB.out wr hbut)
   have p2 := hbox.c2
   have pf := hbox.fr
   have hgr := hbox.lt
   dsimp only at p2 OC
   have HBX := hid hbox
   clear hbut hno hown h8 hbox HCL hRe
   go_wp2_with (at_builtin; refine wpList_append_two (c := wc) wc_length (by omega) wc_one rfl _ _ 29 131 rfl B 54 54 i2 _ 32 Tryz.underlying29 Tryz.underlying131 hi2 hc0 hc1 hc2 rfl _ CA.length (flatC wc CA) rfl OC.out wr.heap.size B1' B3' CB rfl HB3.out ?cm ?cb ?cz ?_)
   case cm => unfold maxLen; omega
   case cb => omega
   case cz => omega
   intro v' w10 hown10 hgrow hat
   have hown11 : w10.ownsRow B 54 3 v' (CA ++ CB).length (flatC wc (CA ++ CB)) := by
    rw [List.length_append, flatC_append]
    exact hown10
   obtain ⟨A', cap', hv', -⟩ := own_at wc_length hown11
   subst hv'
   have hcb : ∀ j, (Value.slice c1 CA.length c3).ownBlock = some j → j < w.heap.size ∧ ¬ S j ∧ j ≠ g := fun j hj => ⟨HOLT.out j hj, HOB.out j hj⟩
   have hnb : ∀ j, (Value.slice A' (CA ++ CB).length cap').ownBlock = some j → (j < w.heap.size ∧ ¬ S j ∧ j ≠ g) ∨ j = wr.heap.size := fun j hj => by
    rcases hat with h | h
    ·exact .inl (hcb j (h ▸ hj))
    ·rw [hj] at h
     exact .inr (Option.some.inj h)
   have PB10 := (HBX.out.grown hgrow (fun e => (hcb g e.symm).2.2 rfl))
   have hz10 := hgrow.size
   have OW10 := (HOW.out.kept hgrow (by
    cases ho : (Value.slice O1 L.length O3).ownBlock with
    | none => exact .inl rfl
    | some j =>
     refine .inr fun e => ?_
     have h1 := (HOW.out.lt j ho).1
     have h2 := (hcb j e.symm).1
     omega))
   have RES : Below B w (w10.setCell ⟨g, 2, none⟩ (.slice A' (CA ++ CB).length cap')) ∧ (∀ p : Addr, S p.block → (w10.setCell ⟨g, 2, none⟩ (.slice A' (CA ++ CB).length cap')).cell? p = w.cell? p) ∧
     FOk B S (w10.setCell ⟨g, 2, none⟩ (.slice A' (CA ++ CB).length cap')) g (some ad, 2, k3) (.mk sJoin [] [] (L.map fun t => (joinOne CA CB t).1) [] [] (CA ++ CB) [pa, pb]) ∧ (w10.setCell ⟨g, 2, none⟩ (.slice A' (CA ++ CB).length cap')).cell? ⟨g, 8, none⟩ = w.cell? ⟨g, 8, none⟩ := by
    have hBB : Below B w w10 := ((HBT.out.below hB hlo).grown hgrow (by have := HBT.out.size; omega) (fun j hj => (OC.out.lt j hj).1))
    refine ⟨hBB.setCell (p := ⟨g, 2, none⟩) hlo _, fun p hp => ?_, ⟨_, fun b => w.heap.size ≤ b ∧ b < wr.heap.size, PB10.set2 (A', (CA ++ CB).length, cap'), rfl, rfl, pown_set hown11 _ _ (fun e => ?_), fun j hj => ?_, fun j hj => ⟨by have := hj.1; omega, by have := hj.2; simp; omega, by have := hj.1; omega⟩, ?_⟩, ?_⟩
    ·have h1 := HSP.out _ hp
     rw [World.cell?_setCell_other _ _ _ _ (fun e => h1.2 (by rw [← e]))]
     exact (grown_cell hgrow p (by have := HBT.out.size; omega) (fun e => (hcb _ e.symm).2.1 hp)).trans (HKB.out wr HBT.out p hp)
    ·rcases hnb _ e with h | h
     ·exact h.2.2 rfl
     ·have h : g = wr.heap.size := h
      omega
    ·rcases hnb j hj with h | h
     ·exact ⟨h.2.1, fun h2 => by have := h2.1; omega, h.2.2⟩
     ·exact ⟨fun h2 => by have := (HSP.out j h2).1; have := HBT.out.size; omega, fun h2 => by have := h2.2; omega, by omega⟩
    ·have hno : ∀ {α : Type} (c : α → List Value) (m : Nat) (w' : World), AtS c m w' (fun b => w.heap.size ≤ b ∧ b < wr.heap.size) zSl.1 ([] : List α) := fun c m w' => AtS.nil _ _ _
     have hol : L.length = (L.map fun t => (joinOne CA CB t).1).length := (List.length_map ..).symm
     have h9 : wr.ownsRow w.heap.size 80 2 (.slice O1 L.length O3) (L.map fun t => (joinOne CA CB t).1).length (flatC oc (L.map fun t => (joinOne CA CB t).1)) := by rw [← hol]; exact HOW.out
     obtain ⟨A9, cap9, e9, hat9, -⟩ := own_ats oc_length h9
     injection e9 with e9
     subst e9
     refine PRest.set ⟨rfl, rfl, rfl, hol, rfl, rfl, NLs.nil _ _ _, hat9.keep (fun _ h => h) (fun p hp => grown_cell hgrow p hp.2 (fun e => by have := (hcb _ e.symm).1; have := hp.1; omega)), hno _ _ _, hno _ _ _⟩ _ (by show ¬ (w.heap.size ≤ g ∧ g < wr.heap.size); omega) _
    ·rw [World.cell?_setCell_other _ _ _ _ (by simp)]
     exact (grown_cell hgrow ⟨g, 8, none⟩ hgr (fun e => (hcb _ e.symm).2.2 rfl)).trans H8.out
   have HE := hid RES
   obtain ⟨p0, p1, p2', p3, p4, p5, p6, p7, pf'⟩ := PB10
   dsimp only at p2'
   clear RES hown10 hown11 hgrow hat hcb hnb OW10 p0 p1 p3 p4 p5 p6 p7 pf p2
   go_wp2
   go_ret
   rw [← List.length_append]
   exact ⟨rfl, HE.out.1, HE.out.2.1, by first | exact HE.out.2.2 | exact fun _ => HE.out.2.2⟩
end Go.Proofs.YthpmgnfmeldkjaaGreatDoor.Code
