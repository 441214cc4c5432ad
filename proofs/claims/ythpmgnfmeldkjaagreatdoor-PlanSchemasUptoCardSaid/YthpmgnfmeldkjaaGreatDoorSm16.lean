/-
  What a project's plan gets.
-/
import Derived.Test.YthpmgnfmeldkjaaGreatDoorSm15
set_option maxRecDepth 100000
set_option maxHeartbeats 16000000
set_option linter.unusedVariables false
set_option linter.unusedSimpArgs false
open Go.Lib (hid)
namespace Go.Proofs.YthpmgnfmeldkjaaGreatDoor.Code
open Go.ChangeShapes Go.WideShapes Go.ChangeAt Go.RowKit Val Elems
def plProjR (c0 : List W) (ks : List Nod) (ps : List Pl) : Pl × Int := (.mk sProject [] ((ks.drop 1).map fun t => nthN t.ks 0) [] [] [] (projectP c0 (ks.drop 1)).1 ps, (projectP c0 (ks.drop 1)).2)
structure PjI (w wr : World) (g : Nat) (ki : Sl) (c0 : List W) (L : List Nod) (i j : Nat) (sE sC : Sl) (Sd : Nat → Prop) (lv : List NV) : Prop where
 but : But w wr g
 box : PBox wr g ⟨⟨sProject.toArray⟩, ⟨#[]⟩, sC, ki, sE, zSl, zSl, zSl⟩
 ownE : wr.ownsRow w.heap.size 24 3 (.slice sE.1 sE.2.1 sE.2.2) i (flatC nc lv)
 all : RAll wr Sd ((L.take i).map fun t => nthN t.ks 0) lv
 ownC : wr.ownsRow w.heap.size 54 3 (.slice sC.1 sC.2.1 sC.2.2) j (flatC wc ((L.take j).map fun t => (projOne c0 t).1))
 deep : ∀ k, Sd k → w.heap.size ≤ k ∧ k < wr.heap.size ∧ (Value.slice sE.1 sE.2.1 sE.2.2).ownBlock ≠ some k ∧ (Value.slice sC.1 sC.2.1 sC.2.2).ownBlock ≠ some k
 le : sE.2.1 = i
 lc : sC.2.1 = j
 c8 : wr.cell? ⟨g, 8, none⟩ = w.cell? ⟨g, 8, none⟩
theorem PjI.expr {w wr w8 w10 : World} {g : Nat} {ki : Sl} {c0 : List W} {L : List Nod} {i j : Nat} {sE sC : Sl} {Sd : Nat → Prop} {lv : List NV} (h : PjI w wr g ki c0 L i j sE sC Sd lv) (hg : g < w.heap.size) (hi : i < L.length)
  {w7 : World} (h7 : Below wr.heap.size wr w7) (h8 : Below w7.heap.size w7 w8) {x : NV} (hx : RIn w8 (fun b => w7.heap.size ≤ b ∧ b < w8.heap.size) (nthN L[i].ks 0) x)
  {gg cap : Nat} (hown : w10.ownsRow w.heap.size 24 3 (.slice (some ⟨gg, 0, none⟩) (i + 1) cap) (i + 1) (flatC nc lv ++ nc x)) (hgr : w8.grownBy w10 (Value.slice sE.1 sE.2.1 sE.2.2).ownBlock) (hat : (Value.slice sE.1 sE.2.1 sE.2.2).ownBlock = some gg ∨ gg = w8.heap.size) :
  PjI w (w10.setCell ⟨g, 4, none⟩ (.slice (some ⟨gg, 0, none⟩) (i + 1) cap)) g ki c0 L (i + 1) j (some ⟨gg, 0, none⟩, i + 1, cap) sC (fun k => Sd k ∨ (w7.heap.size ≤ k ∧ k < w8.heap.size)) (lv ++ [x]) := by
 have hz7 := h7.size
 have hz8 := h8.size
 have hz10 := hgr.size
 have hzw := h.but.size
 have hlE : ∀ j, (Value.slice sE.1 sE.2.1 sE.2.2).ownBlock = some j → w.heap.size ≤ j ∧ j < wr.heap.size := h.ownE.lt
 have hlC : ∀ j, (Value.slice sC.1 sC.2.1 sC.2.2).ownBlock = some j → w.heap.size ≤ j ∧ j < wr.heap.size := h.ownC.lt
 have hgg : w.heap.size ≤ gg := (hown.lt gg rfl).1
 have L8 : Below wr.heap.size wr w8 := h7.trans (h8.mono hz7)
 have hCE := own_ne h.ownC h.ownE (by decide)
 have hsz : (w10.setCell ⟨g, 4, none⟩ (.slice (some ⟨gg, 0, none⟩) (i + 1) cap)).heap.size = w10.heap.size := by simp
 have kp : ∀ p : Addr, w.heap.size ≤ p.block → p.block < w8.heap.size → (Value.slice sE.1 sE.2.1 sE.2.2).ownBlock ≠ some p.block → (w10.setCell ⟨g, 4, none⟩ (.slice (some ⟨gg, 0, none⟩) (i + 1) cap)).cell? p = w8.cell? p := fun p hp1 hp2 hp3 =>
  (World.cell?_setCell_other _ _ _ _ (fun e => by rw [← e] at hp1; simp at hp1; omega)).trans (grown_cell hgr p hp2 (fun e => hp3 e.symm))
 refine ⟨((h.but.next L8).grownR hgr (fun k hk => (hlE k hk).1)).setCell 4 _, ?_, ?_, ?_, ?_, ?_, rfl, h.lc, ?_⟩
 ·exact ((h.box.below L8).grown hgr (fun e => by have := (hlE g e.symm).1; omega)).set4 (some ⟨gg, 0, none⟩, i + 1, cap)
 ·rw [flatC_snoc]
  exact pown_set hown _ _ (by simp [Value.ownBlock]; omega)
 ·rw [map_take _ _ _ hi]
  refine RAll.snoc (h.all.keep (fun _ h => .inl h) (fun p hp => ?_)) (hx.keep (fun _ h => .inr h) (fun p hp => kp p (by have := hp.1; omega) hp.2 (fun e => by have := (hlE _ e).2; have := hp.1; omega)))
  have hd := h.deep _ hp
  exact (kp p hd.1 (by have := hd.2.1; omega) hd.2.2.1).trans (L8.cell hd.2.1)
 ·refine pown_set ((own_call h.ownC L8).kept hgr hCE) _ _ (fun e => by have := (hlC _ e).1; simp at this; omega)
 ·intro k hk
  rw [hsz]
  rcases hk with hk | hk
  ·have hd := h.deep k hk
   refine ⟨hd.1, by have := hd.2.1; omega, fun e => ?_, hd.2.2.2⟩
   simp only [Value.ownBlock, Option.some.injEq] at e
   rcases hat with h9 | h9
   ·exact hd.2.2.1 (h9.trans (by rw [e]))
   ·have := hd.2.1
    omega
  ·refine ⟨by omega, by omega, fun e => ?_, fun e => ?_⟩
   ·simp only [Value.ownBlock, Option.some.injEq] at e
    rcases hat with h9 | h9
    ·have := (hlE _ h9).2
     omega
    ·omega
   ·have := (hlC _ e).2
    omega
 ·rw [World.cell?_setCell_other _ _ _ _ (by simp)]
  exact (grown_cell hgr ⟨g, 8, none⟩ (by show g < _; omega) (fun e => by have := (hlE g e.symm).1; omega)).trans ((L8.cell (p := ⟨g, 8, none⟩) (by show g < _; omega)).trans h.c8)
theorem PjI.col {w wr w10 : World} {g : Nat} {ki : Sl} {c0 : List W} {L : List Nod} {i j : Nat} {sE sC : Sl} {Sd : Nat → Prop} {lv : List NV} (h : PjI w wr g ki c0 L i j sE sC Sd lv) (hg : g < w.heap.size) (hj : j < L.length)
  {w8 : World} (L8 : Below wr.heap.size wr w8) {gg cap : Nat} (hown : w10.ownsRow w.heap.size 54 3 (.slice (some ⟨gg, 0, none⟩) (j + 1) cap) (j + 1) (flatC wc ((L.take j).map fun t => (projOne c0 t).1) ++ wc (projOne c0 L[j]).1)) (hgr : w8.grownBy w10 (Value.slice sC.1 sC.2.1 sC.2.2).ownBlock) (hat : (Value.slice sC.1 sC.2.1 sC.2.2).ownBlock = some gg ∨ gg = w8.heap.size) :
  PjI w (w10.setCell ⟨g, 2, none⟩ (.slice (some ⟨gg, 0, none⟩) (j + 1) cap)) g ki c0 L i (j + 1) sE (some ⟨gg, 0, none⟩, j + 1, cap) Sd lv := by
 have hz8 := L8.size
 have hz10 := hgr.size
 have hzw := h.but.size
 have hlE : ∀ j, (Value.slice sE.1 sE.2.1 sE.2.2).ownBlock = some j → w.heap.size ≤ j ∧ j < wr.heap.size := h.ownE.lt
 have hlC : ∀ j, (Value.slice sC.1 sC.2.1 sC.2.2).ownBlock = some j → w.heap.size ≤ j ∧ j < wr.heap.size := h.ownC.lt
 have hgg : w.heap.size ≤ gg := (hown.lt gg rfl).1
 have hEC := own_ne h.ownE h.ownC (by decide)
 have hsz : (w10.setCell ⟨g, 2, none⟩ (.slice (some ⟨gg, 0, none⟩) (j + 1) cap)).heap.size = w10.heap.size := by simp
 have kp : ∀ p : Addr, w.heap.size ≤ p.block → p.block < w8.heap.size → (Value.slice sC.1 sC.2.1 sC.2.2).ownBlock ≠ some p.block → (w10.setCell ⟨g, 2, none⟩ (.slice (some ⟨gg, 0, none⟩) (j + 1) cap)).cell? p = w8.cell? p := fun p hp1 hp2 hp3 =>
  (World.cell?_setCell_other _ _ _ _ (fun e => by rw [← e] at hp1; simp at hp1; omega)).trans (grown_cell hgr p hp2 (fun e => hp3 e.symm))
 refine ⟨((h.but.next L8).grownR hgr (fun k hk => (hlC k hk).1)).setCell 2 _, ?_, ?_, ?_, ?_, ?_, h.le, rfl, ?_⟩
 ·exact ((h.box.below L8).grown hgr (fun e => by have := (hlC g e.symm).1; omega)).set2 (some ⟨gg, 0, none⟩, j + 1, cap)
 ·refine pown_set ((own_call h.ownE L8).kept hgr hEC) _ _ (fun e => by have := (hlE _ e).1; simp at this; omega)
 ·refine h.all.keep (fun _ h => h) (fun p hp => ?_)
  have hd := h.deep _ hp
  exact (kp p hd.1 (by have := hd.2.1; omega) hd.2.2.2).trans (L8.cell hd.2.1)
 ·rw [map_take _ _ _ hj, flatC_snoc]
  exact pown_set hown _ _ (by simp [Value.ownBlock]; omega)
 ·intro k hk
  rw [hsz]
  have hd := h.deep k hk
  refine ⟨hd.1, by have := hd.2.1; omega, hd.2.2.1, fun e => ?_⟩
  simp only [Value.ownBlock, Option.some.injEq] at e
  rcases hat with h9 | h9
  ·exact hd.2.2.2 (h9.trans (by rw [e]))
  ·have := hd.2.1
   omega
 ·rw [World.cell?_setCell_other _ _ _ _ (by simp)]
  exact (grown_cell hgr ⟨g, 8, none⟩ (by show g < _; omega) (fun e => by have := (hlC g e.symm).1; omega)).trans ((L8.cell (p := ⟨g, 8, none⟩) (by show g < _; omega)).trans h.c8)
theorem PjI.ok {B : Nat} {S : Nat → Prop} {w wr : World} {g : Nat} {ki : Sl} {c0 : List W} {L : List Nod} {sE sC : Sl} {Sd : Nat → Prop} {lv : List NV} (h : PjI w wr g ki c0 L L.length L.length sE sC Sd lv) (hB : B ≤ w.heap.size) (hg : g < w.heap.size) (hS : ∀ k, S k → k < w.heap.size) (ps : List Pl) :
  FOk B S wr g ki (.mk sProject [] (L.map fun t => nthN t.ks 0) [] [] [] (L.map fun t => (projOne c0 t).1) ps) := by
 have hE := h.ownE
 have hC := h.ownC
 have hA := h.all
 rw [List.take_length] at hC hA
 have hlv : lv.length = L.length := by rw [hA.1]; simp
 have hEl : wr.ownsRow w.heap.size 24 3 (.slice sE.1 sE.2.1 sE.2.2) lv.length (flatC nc lv) := by rw [hlv]; exact hE
 obtain ⟨A9, cap9, e9, hat9, -⟩ := own_ats nc_length hEl
 injection e9 with e9 e9b
 obtain rfl : A9 = sE.1 := e9.symm
 have hlE := h.ownE.lt
 have hlC := h.ownC.lt
 have hCE := own_ne h.ownC h.ownE (by decide)
 have hsE : ∀ ad, sE.1 = some ad → (Value.slice sE.1 sE.2.1 sE.2.2).ownBlock = some ad.block := fun ad e => by rw [e]; rfl
 refine ⟨_, fun k => Sd k ∨ (Value.slice sE.1 sE.2.1 sE.2.2).ownBlock = some k, h.box, rfl, ?_, ?_, fun k hk => ⟨fun hs => ?_, fun hs => ?_, fun e => ?_⟩, fun k hk => ?_, ⟨rfl, rfl, ?_, rfl, rfl, rfl, ?_, AtS.nil _ _ _, AtS.nil _ _ _, AtS.nil _ _ _⟩⟩
 ·show sC.2.1 = (L.map fun t => (projOne c0 t).1).length
  rw [h.lc, List.length_map]
 ·show wr.ownsRow B _ 3 _ (L.map fun t => (projOne c0 t).1).length _
  rw [List.length_map]
  exact own_le hC hB
 ·have := (hlC k hk).1
  have := hS k hs
  omega
 ·rcases hs with hs | hs
  ·exact (h.deep k hs).2.2.2 hk
  ·rcases hCE with h9 | h9
   ·rw [hk] at h9
    cases h9
   ·exact h9 (hk.trans hs.symm)
 ·have := (hlC k hk).1
  omega
 ·rcases hk with hk | hk
  ·have hd := h.deep k hk
   exact ⟨by omega, hd.2.1, by omega⟩
  ·have hd := hlE k hk
   exact ⟨by omega, hd.2, by omega⟩
 ·show sE.2.1 = (L.map fun t => nthN t.ks 0).length
  rw [h.le, List.length_map]
 ·show NLs wr _ sE.1 (L.map fun t => nthN t.ks 0)
  refine nls_of (l := lv) (hA.keep (fun _ h => .inl h) (fun _ _ => rfl)) ?_
  intro k hk
  obtain ⟨ad, ea, hs, c⟩ := hat9 k hk
  refine ⟨ad, ea, .inr (hsE ad ea), c 0 _ rfl, ?_, ?_⟩
  ·rw [← add_next]; exact c 1 _ rfl
  ·rw [← add_next]; exact c 2 _ rfl
theorem one_node {w : World} {S : Nat → Prop} {A : Option Addr} {ks : List Nod} (h : NLs w S A ks) (h1 : ks.length = 1) : ∃ (ad : Addr) (x : NV), A = some ad ∧ RIn w S (nthN ks 0) x ∧ ∀ j u, (nc x)[j]? = some u → w.cell? (ad.add j) = some u := by
 obtain ⟨ad, y, e, hs, c0, c1, c2, hr⟩ := h 0 (by omega)
 have hnth : nthN ks 0 = ks[0]'(by omega) := by unfold nthN; rw [List.getD_eq_getElem?_getD, List.getElem?_eq_getElem (by omega), Option.getD_some]
 refine ⟨ad, y, e, by rw [hnth]; exact hr, fun j u hu => ?_⟩
 have hj : j = 0 ∨ j = 1 ∨ j = 2 := by
  have := (List.getElem?_eq_some_iff.1 hu).1
  rw [nc_length] at this
  omega
 rw [show ad.add (0 * 3) = ad from rfl] at c0 c1 c2
 rcases hj with rfl | rfl | rfl
 ·cases hu; exact c0
 ·cases hu; exact c1
 ·cases hu; exact c2
theorem drew_below {w w' : World} (h : Below w.drew.heap.size w.drew w') : Below w.heap.size w w' := ⟨h.os, h.tape, h.output, h.size, h.block⟩
theorem project_any (B : Nat) (S Sn : Nat → Prop) (g : Nat) (co ki : Sl) (c0 : List W) (ps : List Pl) (t : Nod) (op tx : ByteArray) (X : Option Addr) (n k : Nat) (w : World) (hB : B ≤ w.heap.size) (hSn : ∀ b, Sn b → b < B) (hn : RIn w Sn t (op, tx, X, n, k)) (hlen : 2 ≤ t.ks.length) (hon : ∀ x ∈ t.ks.drop 1, x.ks.length = 1)
  (hp : FPre B S w g ⟨sProject.toArray⟩ co ki c0) (hla : c0.length ≤ 100000) (htot : t.tot ≤ 4194304) :
  Calls Tryz.prog 50 #[.pointer (some ⟨g, 0, none⟩), .agg #[.string op, .string tx, .slice X n k]] w (FPost B S g ki w (plProjR c0 t.ks ps)) := by
 obtain ⟨eo, et, en, hkl⟩ := hn.texts
 dsimp only at eo et en
 have hcap := hn.cap
 dsimp only at hcap
 subst en
 obtain ⟨w0, hw0⟩ : ∃ w0, w.alloc (.cells #[.string op, .string tx, .slice X t.ks.length k] 24) = w0 := ⟨_, rfl⟩
 have B0 := hid (show Below w.heap.size w w0 by rw [← hw0]; exact below_alloc w _)
 have N0 := hid (show NBox w0 w.heap.size (.string op) (.string tx) (.slice X t.ks.length k) by rw [← hw0]; exact NBox.fresh _ _ _ _ _)
 have hSw : ∀ b, Sn b → b < w.heap.size := fun b hb => Nat.lt_of_lt_of_le (hSn b hb) hB
 obtain ⟨c1, c2, c3⟩ := co
 have hc2 := hp.cl
 dsimp only at hc2
 subst hc2
 have HBOX := hid hp.box
 have hgw := hp.box.lt
 have HSP := hid hp.sl
 have hlo := hp.lo
 have HKB := hid (fun (w' : World) (hb : But w w' g) (p : Addr) (h : S p.block) => hb.cell (q := p) (HSP.out _ h).1 (HSP.out _ h).2)
 have HAA := hid (fun (w' : World) (hb : But w w' g) => show At wc 3 w' w'.heap.size c1 c0 by
  have h1 := own_butR hp.own hb (fun e => (hp.ob g e).2 rfl)
  obtain ⟨A, cap, e, hat⟩ := own_at wc_length h1
  injection e with e
  have e' : A = c1 := e.symm
  subst e'
  exact hat)
 have HNL := hid (fun (w' : World) (hb : But w w' g) => hn.nls.keep (fun _ h => h) (fun p h => hb.cell (q := p) (hSw _ h) (by have := hSn _ h; omega)))
 have HSS := hid (fun (w' : World) (hb : But w w' g) (b : Nat) (h : Sn b) => Nat.lt_of_lt_of_le (hSw b h) hb.size)
 obtain ⟨ad9, y9, eX, -⟩ := hn.nls 0 (by omega)
 dsimp only at eX
 subst eX
 obtain ⟨L, hL⟩ : ∃ L, t.ks.drop 1 = L := ⟨_, rfl⟩
 have hLl : t.ks.length - 1 = L.length := by rw [← hL, List.length_drop]
 have HNL2 := hid (fun (w' : World) (hb : But w w' g) => hL ▸ (HNL.out w' hb).drop 1)
 obtain ⟨a6, ha6⟩ : ∃ a6, ad9.add (1 * 3) = a6 := ⟨_, rfl⟩
 rw [ha6] at HNL2
 have HSL : ∀ w, (Instr.slice 22 (.slice (some ad9) t.ks.length k) (some (.int .i64 1)) none none).run Tryz.prog w = .ok (.slice (some a6) L.length (k - 1)) w := fun w => by rw [← hLl, ← ha6]; exact cut_nodes ad9 t.ks.length k 1 (by omega) hcap w
 have HSW := hid (fun (b : Nat) (h : Sn b) => (show b < w.heap.size ∧ b ≠ g from ⟨hSw b h, by have := hSn b h; omega⟩))
 rw [hL] at hon
 have HON := hid hon
 have htl : Nod.totL L ≤ 4194304 := by rw [← hL]; exact Nat.le_trans (totL_drop _ _) (Nat.le_trans (totL_ks t) htot)
 have hLb : L.length ≤ 4194304 := Nat.le_trans (nodtot_len L) htl
 have HTL := hid htl
 unfold FPost plProjR
 rw [hL, proj_each]
 dsimp only
 obtain ⟨R, hR⟩ : ∃ R, eachL (projOne c0) L = R := ⟨_, rfl⟩
 rw [hR]
 have HR := hid hR
 obtain ⟨RL, RC⟩ := R
 dsimp only
 have HW0 := hid hw0
 have OFK := hid hp.own
 clear hn hp hR hw0 hSw hSn hL hLl ha6 hcap hon eo et hkl hlen y9 HNL htl htot
 have p2 := (HBOX.out.below B0.out).c2
 have pf := (HBOX.out.below B0.out).fr
 have hg0 := (HBOX.out.below B0.out).lt
 dsimp only at p2
 go_enter Tryz.func50, Tryz.ntmps50
 go_upto_region 1 with fail
 rw [HW0.out]
 obtain ⟨w1, hw1⟩ : ∃ w1, w0.setCell ⟨g, 2, none⟩ (.slice none 0 0) = w1 := ⟨_, rfl⟩
 have J1 := hid (show But w w1 g by rw [← hw1]; exact (But.of B0.out g).setCell 2 _)
 have PB1 := hid (show PBox w1 g ⟨⟨sProject.toArray⟩, ⟨#[]⟩, zSl, ki, zSl, zSl, zSl, zSl⟩ by rw [← hw1]; exact (HBOX.out.below B0.out).set2 zSl)
 have N1 := hid (show NBox w1 w.heap.size (.string op) (.string tx) (.slice (some ad9) t.ks.length k) by
  rw [← hw1]
  have hne : ∀ j, (⟨w.heap.size, j, none⟩ : Addr) ≠ ⟨g, 2, none⟩ := fun j e => by injection e with e; omega
  exact ⟨(World.cell?_setCell_other _ _ _ _ (fun e => hne 0 e.symm)).trans N0.out.c0, (World.cell?_setCell_other _ _ _ _ (fun e => hne 1 e.symm)).trans N0.out.c1, (World.cell?_setCell_other _ _ _ _ (fun e => hne 2 e.symm)).trans N0.out.c2, fun j => by rw [World.frozen?_setCell]; exact N0.out.fr j⟩)
 have C81 := hid (show w1.cell? ⟨g, 8, none⟩ = w.cell? ⟨g, 8, none⟩ by rw [← hw1, World.cell?_setCell_other _ _ _ _ (by simp)]; exact B0.out.cell (p := ⟨g, 8, none⟩) hgw)
 have HW1 := hid hw1
 clear hw1
 go_upto_region 3 with fail
 rw [HW1.out]
 clear p2 pf hg0
 obtain ⟨x0, x1, x2, xf⟩ := N1.out
 have HBAD := hid (show ∀ w', But w w' g → Below B w w' ∧ ∀ p : Addr, S p.block → w'.cell? p = w.cell? p from fun w' hb => ⟨hb.below hB hlo, HKB.out w' hb⟩)
 have ST1 := hid (show PjI w w1 g ki c0 L 0 0 zSl zSl (fun _ => False) [] from ⟨J1.out, PB1.out, World.ownsRow_nil _ _ _ _, by rw [List.take_zero]; exact RAll.nil _ _, World.ownsRow_nil _ _ _ _, fun k h => h.elim, rfl, rfl, C81.out⟩)
 obtain ⟨i1, hi1, hy0, hy1, hy2⟩ := info_parts info_node
 obtain ⟨i2, hi2, hq0, hq1, hq2⟩ := info_parts info_col
 go_wp2
 clear x0 x1 x2 xf
 go_loopw [21] (fun v wr => ∃ (i : Nat) (sE sC : Sl) (Sd : Nat → Prop) (lv : List NV), i ≤ L.length ∧ v = .int .i64 i ∧ (∀ j (hj : j < L.length), j < i → (projOne c0 L[j]).2 = 0) ∧ PjI w wr g ki c0 L i i sE sC Sd lv) (fun v _ => L.length - (intOf v).toNat)
 case atStart => exact ⟨0, zSl, zSl, fun _ => False, [], by omega, rfl, fun j _ h => absurd h (by omega), ST1.out⟩
 case round =>
  obtain ⟨i, sE, sC, Sd, lv, hi, rfl, hno, hpj⟩ := hrel
  obtain ⟨e1, e2, e3⟩ := sE
  obtain ⟨d1, d2, d3⟩ := sC
  obtain rfl : i = e2 := hpj.le.symm
  obtain rfl : i = d2 := hpj.lc.symm
  have HNO := hid hno
  have HPJ := hid hpj
  have hbut := hpj.but
  have HBT := hid hbut
  by_cases hil : i < L.length
  ·have hon1 := HON.out L[i] (List.getElem_mem hil)
   obtain ⟨a7, ⟨yo, yt, yX, yn, ym⟩, e7, hS7, q0, q1, q2, hry⟩ := (HNL2.out wr hbut) i hil
   obtain rfl := Option.some.inj e7
   dsimp only at q0 q1 q2
   obtain ⟨z9, ⟨zo, zt, zX, zn, zm⟩, eZ, hS8, s0, s1, s2, hrz⟩ := hry.kid 0 (by rw [hon1]; omega)
   have hyt := hry.texts.2.1
   have hyn := hry.texts.2.2.1
   dsimp only at eZ s0 s1 s2 hyt hyn
   subst eZ
   rw [show z9.add (0 * 3) = z9 from rfl] at s0 s1 s2
   rw [hon1] at hyn
   subst hyn
   have hnth : nthN L[i].ks 0 = L[i].ks[0]'(by rw [hon1]; omega) := by unfold nthN; rw [List.getD_eq_getElem?_getD, List.getElem?_eq_getElem (by rw [hon1]; omega), Option.getD_some]
   rw [← hnth] at hrz
   have hw7 := (HSW.out _ hS7).1
   have hw8 := (HSW.out _ hS8).1
   have hzw := hbut.size
   obtain ⟨w6, hw6⟩ : ∃ w6, wr.alloc (.cells #[.string yo, .string yt, .slice (some z9) 1 ym] 24) = w6 := ⟨_, rfl⟩
   have B6 := hid (show Below wr.heap.size wr w6 by rw [← hw6]; exact below_alloc wr _)
   have V6 := hid (show NBox w6 wr.heap.size (.string yo) (.string yt) (.slice (some z9) 1 ym) by rw [← hw6]; exact NBox.fresh _ _ _ _ _)
   have J6 := hid (HBT.out.next B6.out)
   have htl : yt.data.toList = L[i].tx := by rw [hyt]
   have hytt : yt = ⟨L[i].tx.toArray⟩ := hyt
   have HT := hid (type_any c1 c3 c0 (by omega) (nthN L[i].ks 0).deep (nthN L[i].ks 0) (Nat.le_refl _) Sn zo zt zX zn zm w6 (HSS.out w6 J6.out) (hrz.bel (HSS.out wr hbut) B6.out) (HAA.out w6 J6.out))
   unfold KindPost at HT
   have htk : Nod.totL L[i].ks ≤ 4194304 := Nat.le_trans (totL_ks _) (Nat.le_trans (tot_mem (List.getElem_mem hil)) HTL.out)
   have HC := hid (fun (w' : World) (hb : Below wr.heap.size wr w') => copied_any (Nod.deepL L[i].ks + 1) L[i].ks (by omega) htk Sn (some z9) ym w' (fun b h => Nat.lt_of_lt_of_le (HSS.out wr hbut b h) hb.size) (hry.nls.bel (HSS.out wr hbut) hb))
   unfold OwnN at HC
   rw [hon1] at HC
   have HPO := hid (show projOne c0 L[i] = if (typeE c0 (nthN L[i].ks 0)).2 ≠ 0 then ((0, [], 0), (typeE c0 (nthN L[i].ks 0)).2) else if (typeE c0 (nthN L[i].ks 0)).1 = 0 then ((0, [], 0), 131) else ((0, L[i].tx, (typeE c0 (nthN L[i].ks 0)).1), 0) from rfl)
   obtain ⟨K, hK⟩ : ∃ K, typeE c0 (nthN L[i].ks 0) = K := ⟨_, rfl⟩
   rw [hK] at HT HPO
   obtain ⟨kk, ke⟩ := K
   dsimp only at HT HPO
   have HYT := hid hytt
   have HON1 := hid hon1
   have HW6 := hid hw6
   have s0' := (B6.out.cell (p := z9) (by omega)).trans s0
   have s1' := (B6.out.cell (p := ⟨z9.block, z9.off + 1, none⟩) (by show z9.block < _; omega)).trans s1
   have s2' := (B6.out.cell (p := ⟨z9.block, z9.off + 2, none⟩) (by show z9.block < _; omega)).trans s2
   clear hry hrz hyt hnth hw6 htl hbut hno hpj hon1 hK hytt htk s0 s1 s2
   go_upto_region 6 with fail
   rw [HW6.out]
   clear q0 q1 q2
   obtain ⟨v0, v1, v2, vf⟩ := V6.out
   go_wp2_with fail
   refine HT.out.mono ?_
   rintro e w7 ⟨rfl, hb7⟩
   have L7 := hid (B6.out.trans (hb7.mono B6.out.size))
   have J7 := hid (HBT.out.next L7.out)
   have V7 := hid (V6.out.below hb7)
   clear HT hb7 v0 v1 v2 vf s0' s1' s2'
   have hbad : ∀ c, c ≠ 0 → (projOne c0 L[i]).2 = c → RC = c := fun c hc0 he => by
    have hb := each_bad (projOne c0) L i hil HNO.out (by rw [he]; exact hc0)
    rw [HR.out, he] at hb
    exact congrArg Prod.snd hb
   by_cases hke : ke = 0
   case neg =>
    have hr : RC = ke := hbad ke hke (by rw [HPO.out, if_pos hke])
    have f1 : (ke != 0) = true := by simpa using hke
    subst hr
    have HNE := hid hke
    have HE := hid (HBAD.out w7 J7.out)
    clear hke hbad
    go_wp2
    go_ret
    exact ⟨rfl, HE.out.1, HE.out.2, fun h => absurd h HNE.out⟩
   subst hke
   by_cases hkk : kk = 0
   case pos =>
    have hr : RC = 131 := hbad 131 (by decide) (by rw [HPO.out, if_neg (by simp), if_pos hkk])
    subst hr hkk
    have HE := hid (HBAD.out w7 J7.out)
    clear hbad
    go_wp2
    go_ret
    exact ⟨rfl, HE.out.1, HE.out.2, fun h => absurd h (by decide)⟩
   have f1 : (kk == 0) = false := by simpa using hkk
   have HPO2 := hid (show projOne c0 L[i] = ((0, L[i].tx, kk), 0) by rw [HPO.out, if_neg (by simp), if_neg hkk])
   clear hbad hkk HPO
   obtain ⟨v0, v1, v2, vf⟩ := V7.out
   have PB7 := hid (HPJ.out.box.below L7.out)
   obtain ⟨p0, p1, p2, p3, p4, p5, p6, p7, pf⟩ := PB7.out
   dsimp only at p4 p2
   have HC7 := hid (HC.out w7.drew (Below.drew L7.out))
   have hz7 := L7.out.size
   have hg7 := PB7.out.lt
   have OW7 := hid (own_call HPJ.out.ownE L7.out)
   clear p0 p1 p3 p5 p6 p7 HC
   go_wp2_with fail
   go_region_law (first
    | (refine step_append_lies _ (by rfl) _ _ _ (by rfl) w.heap.size 24 i1 _ 3 56 Tryz.underlying22 hi1 hy0 hy1 hy2 rfl (by omega) (.slice e1 i e3) i (flatC nc lv) (by rfl) OW8.out ad2 1 cap2 (nc x2) (by rfl) (by rfl) NW8.out (nc_one x2) (by omega) (by unfold maxLen; omega) (by omega) (by omega) w8.heap.size rfl ?_; intro gg cap9 w10 hown10 hgrow hat hlt10; have PJ10 := hid (HPJ.out.expr hgw hil L7.out L8.out X8.out hown10 hgrow hat); have y9 := (grown_cell hgrow ⟨g, 4, none⟩ hg8 (fun e => by have h9 := (OW8.out.lt g e.symm).1; omega)).trans y8; have f9 : ∀ j, w10.frozen? ⟨g, j, none⟩ = false := fun j => (World.frozen?_of_block (a := ⟨g, j, none⟩) (hgrow.block g hg8 (fun e => by have h9 := (OW8.out.lt g e.symm).1; omega))).trans (f8 j))
    | (go_simp; refine HC7.out.mono ?_; rintro e w8 ⟨A2, cap2, rfl, hn2, hb8, hcp8⟩; obtain ⟨ad2, x2, rfl, hx2, hnw2⟩ := one_node hn2 HON1.out; have L8 := hid (drew_below hb8); have X8 := hid hx2; have NW8 := hid hnw2; have OW8 := hid (own_call OW7.out L8.out); have y8 := (L8.out.cell (p := ⟨g, 4, none⟩) hg7).trans p4; have f8 : ∀ j, w8.frozen? ⟨g, j, none⟩ = false := fun j => (L8.out.frozen (p := ⟨g, j, none⟩) hg7).trans (pf j); have hg8 : g < w8.heap.size := Nat.lt_of_lt_of_le hg7 L8.out.size; have hz8 := L8.out.size; clear hn2 hb8 hcp8 hx2 hnw2))
   all_goals
    have hbE : ∀ j, (Value.slice e1 i e3).ownBlock = some j → j < wr.heap.size := fun j e => (HPJ.out.ownE.lt j e).2
    obtain ⟨w11, hw11⟩ : ∃ w11, w10.setCell ⟨g, 4, none⟩ (.slice (some ⟨gg, 0, none⟩) (i + 1) cap9) = w11 := ⟨_, rfl⟩
    have hz6 := B6.out.size
    have hzr : wr.heap.size < w7.heap.size := V7.out.lt
    have V11 := hid (show NBox w11 wr.heap.size (.string yo) (.string yt) (.slice (some z9) 1 ym) by
     rw [← hw11]
     have hb8 : w8.heap[wr.heap.size]? = w7.heap[wr.heap.size]? := L8.out.block _ hzr
     have hb10 : w10.heap[wr.heap.size]? = w8.heap[wr.heap.size]? := hgrow.block _ (by omega) (fun e => by have := hbE _ e.symm; omega)
     have hb11 : (w10.setCell ⟨g, 4, none⟩ (.slice (some ⟨gg, 0, none⟩) (i + 1) cap9)).heap[wr.heap.size]? = w10.heap[wr.heap.size]? := Below.heap_setCell w10 ⟨g, 4, none⟩ _ _ (by show wr.heap.size ≠ g; omega)
     have hbb := hb11.trans (hb10.trans hb8)
     have hc : ∀ j, (w10.setCell ⟨g, 4, none⟩ (.slice (some ⟨gg, 0, none⟩) (i + 1) cap9)).cell? ⟨wr.heap.size, j, none⟩ = w7.cell? ⟨wr.heap.size, j, none⟩ := fun j => by unfold World.cell?; simp only [hbb]
     have hf : ∀ j, (w10.setCell ⟨g, 4, none⟩ (.slice (some ⟨gg, 0, none⟩) (i + 1) cap9)).frozen? ⟨wr.heap.size, j, none⟩ = w7.frozen? ⟨wr.heap.size, j, none⟩ := fun j => by unfold World.frozen?; simp only [hbb]
     exact ⟨(hc 0).trans V7.out.c0, (hc 1).trans V7.out.c1, (hc 2).trans V7.out.c2, fun j => (hf j).trans (V7.out.fr j)⟩)
    rw [hw11] at PJ10
    rw [hw11]
    have PB11 := hid PJ10.out.box
    clear hown10 hgrow hat hlt10 y8 f8 p4 p2 pf v0 v1 v2 vf y9 f9 hw11 hbE
    obtain ⟨p0, p1, p2, p3, p4, p5, p6, p7, pf⟩ := PB11.out
    obtain ⟨v0, v1, v2, vf⟩ := V11.out
    dsimp only at p2
    clear p0 p1 p3 p4 p5 p6 p7
    have L12 := hid (show Below w11.heap.size w11 (w11.drew.alloc (.cells #[.int .i64 0, .string yt, .int .i64 kk] 54)) from (Below.drew (Below.refl _ _)).alloc (Nat.le_refl _) _)
    have O12 := hid (own_call PJ10.out.ownC L12.out)
    have N12 := hid (show ∀ (j : Nat) (u : Value), [Value.int .i64 0, Value.string yt, Value.int .i64 kk][j]? = some u → (w11.drew.alloc (.cells #[.int .i64 0, .string yt, .int .i64 kk] 54)).cell? ((⟨w11.heap.size, 0, none⟩ : Addr).add j) = some u from
     World.news_of_block (cs := #[.int .i64 0, .string yt, .int .i64 kk]) (t := 54) (fr := (0, 0)) (heap_alloc_new w11.drew _))
    have E12 := hid (show ∀ (gg2 cap12 : Nat) (w12 : World), w12.ownsRow w.heap.size 54 3 (.slice (some ⟨gg2, 0, none⟩) (i + 1) cap12) (i + 1) (flatC wc ((L.take i).map fun t => (projOne c0 t).1) ++ [.int .i64 0, .string yt, .int .i64 kk]) → (w11.drew.alloc (.cells #[.int .i64 0, .string yt, .int .i64 kk] 54)).grownBy w12 (Value.slice d1 i d3).ownBlock → ((Value.slice d1 i d3).ownBlock = some gg2 ∨ gg2 = w11.heap.size + 1) →
      PjI w (w12.setCell ⟨g, 2, none⟩ (.slice (some ⟨gg2, 0, none⟩) (i + 1) cap12)) g ki c0 L (i + 1) (i + 1) (some ⟨gg, 0, none⟩, i + 1, cap9) (some ⟨gg2, 0, none⟩, i + 1, cap12) (fun k => Sd k ∨ (w7.heap.size ≤ k ∧ k < w8.heap.size)) (lv ++ [x2]) from fun gg2 cap12 w12 h1 h2 h3 =>
     PJ10.out.col hgw hil L12.out (by rw [HPO2.out]; have h := h1; rw [HYT.out] at h; exact h) h2 (h3.imp id (fun e => by rw [e]; simp)))
    have hg11 := PB11.out.lt
    have hz11 : w.heap.size ≤ w11.heap.size := PJ10.out.but.size
    have HNO2 := hid (show ∀ j (hj : j < L.length), j < i + 1 → (projOne c0 L[j]).2 = 0 from fun j hj h2 => if e : j = i then by subst e; rw [HPO2.out] else HNO.out j hj (by omega))
    obtain ⟨XS, hXS⟩ : ∃ XS, flatC wc ((L.take i).map fun t => (projOne c0 t).1) = XS := ⟨_, rfl⟩
    rw [hXS] at O12 E12
    clear hXS
    go_wp2_with fail
    go_region_law (first
     | (refine step_append_lies _ (by rfl) _ _ _ (by rfl) w.heap.size 54 i2 _ 3 32 Tryz.underlying29 hi2 hq0 hq1 hq2 rfl (by omega) (.slice d1 i d3) i XS (by rfl) O12.out ⟨w11.heap.size, 0, none⟩ 1 1 [.int .i64 0, .string yt, .int .i64 kk] (by rfl) (by rfl) N12.out (by intro u hu; simp at hu; rcases hu with rfl | rfl | rfl <;> rfl) (by omega) (by unfold maxLen; omega) (by omega) (by simp; omega) (w11.heap.size + 1) (by simp) ?_; intro gg2 cap12 w12 hown12 hgrow12 hat12 hlt12; have PJ12 := hid (E12.out gg2 cap12 w12 hown12 hgrow12 hat12); have hr12 := (fun j e => (O12.out.lt j e).1 : ∀ j, (Value.slice d1 i d3).ownBlock = some j → w.heap.size ≤ j); have y12 := (grown_cell hgrow12 ⟨g, 2, none⟩ (by show g < _; simp; omega) (fun e => by have := hr12 g e.symm; omega)).trans ((L12.out.cell (p := ⟨g, 2, none⟩) hg11).trans p2); have f12 : ∀ j, w12.frozen? ⟨g, j, none⟩ = false := fun j => (World.frozen?_of_block (a := ⟨g, j, none⟩) (hgrow12.block g (by simp; omega) (fun e => by have := hr12 g e.symm; omega))).trans ((L12.out.frozen (p := ⟨g, j, none⟩) hg11).trans (pf j))))
    all_goals
     clear hown12 hgrow12 hat12 hlt12 y12 f12 hr12 p2 pf v0 v1 v2 vf
     go_wp2
     go_roundw
     case rel => exact ⟨i + 1, _, _, _, _, by omega, by go_num, HNO2.out, PJ12.out⟩
     case measure => simp [intOf]; omega
  ·obtain rfl : i = L.length := by omega
   have hRe := each_ok (projOne c0) L (fun j hj => HNO.out j hj hj)
   rw [HR.out] at hRe
   have hc : RC = 0 := congrArg Prod.snd hRe
   have hc2 : RL = L.map fun t => (projOne c0 t).1 := congrArg Prod.fst hRe
   subst hc hc2
   have HE := hid (show (Below B w wr ∧ ∀ p : Addr, S p.block → wr.cell? p = w.cell? p) ∧ FOk B S wr g ki (.mk sProject [] (L.map fun t => nthN t.ks 0) [] [] [] (L.map fun t => (projOne c0 t).1) ps) ∧ wr.cell? ⟨g, 8, none⟩ = w.cell? ⟨g, 8, none⟩ from
    ⟨HBAD.out wr hbut, hpj.ok hB hgw (fun k h => (HSP.out k h).1) ps, hpj.c8⟩)
   clear hbut hno hpj hRe
   go_wp2
   go_ret
   exact ⟨rfl, HE.out.1.1, HE.out.1.2, by first | exact HE.out.2 | exact fun _ => HE.out.2⟩
def AggPost (w : World) (op : ByteArray) (r : Int × Int × Int) (e : Ending) (w' : World) : Prop :=
 e = .returned (.tuple #[.agg #[.string (if r.2.2 = 0 then op else ⟨#[]⟩), .int .i64 r.1], .int .i64 r.2.1, .int .i64 r.2.2]) ∧ Below w.heap.size w w'
theorem agg_count (c0 : List W) (t : Nod) (h : t.op = sCount) : aggP c0 t = (0, 3, 0) := by unfold aggP; rw [if_pos h]
theorem agg_none (c0 : List W) (t : Nod) (h : t.op ≠ sCount) (hf : findC c0 t.tx = none) : aggP c0 t = (0, 0, 121) := by unfold aggP; rw [if_neg h, hf]
theorem agg_some (c0 : List W) (t : Nod) (h : t.op ≠ sCount) {x : Nat} (hf : findC c0 t.tx = some x) (hx : x < c0.length) : aggP c0 t = if t.op = sSum then (if c0[x].2.2 ≠ 2 ∧ c0[x].2.2 ≠ 3 then (0, 0, 131) else ((x : Int), 3, 0)) else ((x : Int), c0[x].2.2, 0) := by
 unfold aggP
 rw [if_neg h, hf]
 simp only [List.getD_eq_getElem?_getD, List.getElem?_eq_getElem hx, Option.getD_some]
def aggW (w : World) (g : Nat) (T : ByteArray) (a : Int) : World := (w.setCell ⟨g, 0, none⟩ (.string T)).setCell ⟨g, 1, none⟩ (.int .i64 a)
theorem aggW_ok {w : World} {g : Nat} {T : ByteArray} {a : Int} {v0 v1 : Value} (h0 : w.cell? ⟨g, 0, none⟩ = some v0) (h1 : w.cell? ⟨g, 1, none⟩ = some v1) : (aggW w g T a).cell? ⟨g, 0, none⟩ = some (.string T) ∧ (aggW w g T a).cell? ⟨g, 1, none⟩ = some (.int .i64 a) := by
 have h1' : (w.setCell ⟨g, 0, none⟩ (.string T)).cell? ⟨g, 1, none⟩ = some v1 := by rw [World.cell?_setCell_other _ _ _ _ (by simp)]; exact h1
 exact ⟨by unfold aggW; rw [World.cell?_setCell_other _ _ _ _ (by simp)]; exact World.cell?_setCell_same _ _ _ h0, World.cell?_setCell_same _ _ _ h1'⟩
theorem aggW_below {B g : Nat} {w0 w : World} (h : Below B w0 w) (hg : B ≤ g) (T : ByteArray) (a : Int) : Below B w0 (aggW w g T a) := (h.setCell (p := ⟨g, 0, none⟩) hg _).setCell (p := ⟨g, 1, none⟩) hg _
theorem agg_any (t : Nod) (S : Nat → Prop) (op tx : ByteArray) (X : Option Addr) (n k : Nat) (A : Option Addr) (cap : Nat) (c0 : List W) (w : World) (hn : RIn w S t (op, tx, X, n, k)) (hv : At wc 3 w w.heap.size A c0) (hl : c0.length ≤ 100000) :
  Calls Tryz.prog 97 #[.agg #[.string op, .string tx, .slice X n k], .slice A c0.length cap] w (AggPost w op (aggP c0 t)) := by
 obtain ⟨eo, et, -, -⟩ := hn.texts
 dsimp only at eo et
 have heo : t.op = op.data.toList := by rw [eo]
 have het : t.tx = tx.data.toList := by rw [et]
 obtain ⟨w1, hw1⟩ : ∃ w1, (w.alloc (.cells #[.string op, .string tx, .slice X n k] 24)).alloc (.cells #[.string ⟨#[]⟩, .int .i64 0] 82) = w1 := ⟨_, rfl⟩
 have B1 := hid (show Below w.heap.size w w1 by rw [← hw1]; exact (below_alloc w _).alloc (by simp) _)
 have N1 := hid (show NBox w1 w.heap.size (.string op) (.string tx) (.slice X n k) by rw [← hw1]; exact (NBox.fresh _ _ _ _ _).alloc _)
 have b0 : w1.cell? ⟨w.heap.size + 1, 0, none⟩ = some (.string ⟨#[]⟩) := by rw [← hw1]; simp [go_sem]
 have b1 : w1.cell? ⟨w.heap.size + 1, 1, none⟩ = some (.int .i64 0) := by rw [← hw1]; simp [go_sem]
 have bf : ∀ j, w1.frozen? ⟨w.heap.size + 1, j, none⟩ = false := fun j => by rw [← hw1]; simp [go_sem]
 have z1 : w1.heap.size = w.heap.size + 2 := by rw [← hw1]; simp
 have HV := hid (fun (w' : World) (hb : Below w.heap.size w w') => (hv.below hb).more hb.size)
 have HF := hid (sfind_any A cap c0 tx w1 (HV.out w1 B1.out) (by omega))
 unfold FindPost at HF
 have HW1 := hid hw1
 obtain ⟨R, hR⟩ : ∃ R, aggP c0 t = R := ⟨_, rfl⟩
 rw [hR]
 obtain ⟨ra, rk, re⟩ := R
 unfold AggPost
 dsimp only
 clear hn hv eo et hw1
 by_cases h0 : op.data.toList = sCount
 ·have hr := hR.symm.trans (agg_count c0 t (heo.trans h0))
  obtain ⟨rfl, rfl, rfl⟩ : ra = 0 ∧ rk = 3 ∧ re = 0 := by simpa using hr
  obtain rfl : op = ⟨#[99, 111, 117, 110, 116]⟩ := by rw [← Lib.mk_data op, h0]; rfl
  rw [if_pos rfl]
  clear h0 HF hR hr heo het
  go_enter Tryz.func97, Tryz.ntmps97
  go_upto_region 1 with fail
  rw [HW1.out]
  obtain ⟨x0, x1, x2, xf⟩ := N1.out
  have HE := hid (aggW_below B1.out (show w.heap.size ≤ w.heap.size + 1 by omega) ⟨#[99, 111, 117, 110, 116]⟩ (0))
  have HO := hid (aggW_ok (T := ⟨#[99, 111, 117, 110, 116]⟩) (a := 0) b0 b1)
  go_wp2
  obtain ⟨o0, o1⟩ := HO.out
  unfold aggW at o0 o1 HE
  exact bodyPost_ret (v := .tuple #[.agg #[.string ⟨#[99, 111, 117, 110, 116]⟩, .int .i64 (0)], .int .i64 (3), .int .i64 (0)]) (by simp [results, Tryz.results97, go_sem, o0, o1]) rfl ⟨rfl, HE.out⟩
 have f0 := plit_ne h0
 unfold sCount at f0
 obtain ⟨zf, hzf⟩ : ∃ z, findZ c0 tx.data.toList = z := ⟨_, rfl⟩
 obtain ⟨mf, hmf⟩ : ∃ m, max zf 0 = m := ⟨_, rfl⟩
 obtain ⟨bf9, hbf⟩ : ∃ b, decide (0 ≤ zf) = b := ⟨_, rfl⟩
 rw [hzf, hmf, hbf] at HF
 cases hfi : findC c0 tx.data.toList with
 | none =>
  have hr := hR.symm.trans (agg_none c0 t (by rw [heo]; exact h0) (by rw [het]; exact hfi))
  obtain ⟨rfl, rfl, rfl⟩ : ra = 0 ∧ rk = 0 ∧ re = 121 := by simpa using hr
  have hb : bf9 = false := by rw [← hbf, ← hzf, findZ_neg hfi]; rfl
  subst hb
  rw [if_neg (by decide)]
  clear h0 hzf hmf hbf hfi hR hr heo het
  go_enter Tryz.func97, Tryz.ntmps97
  go_upto_region 1 with fail
  rw [HW1.out]
  obtain ⟨x0, x1, x2, xf⟩ := N1.out
  go_wp2_with fail
  refine HF.out.mono ?_
  rintro e w2 ⟨rfl, hb2⟩
  have c0' := (hb2.cell (p := ⟨w.heap.size + 1, 0, none⟩) (by show w.heap.size + 1 < _; omega)).trans b0
  have c1' := (hb2.cell (p := ⟨w.heap.size + 1, 1, none⟩) (by show w.heap.size + 1 < _; omega)).trans b1
  have cf' : ∀ j, w2.frozen? ⟨w.heap.size + 1, j, none⟩ = false := fun j => (hb2.frozen (p := ⟨w.heap.size + 1, j, none⟩) (by show w.heap.size + 1 < _; omega)).trans (bf j)
  have B2 := hid (B1.out.trans (hb2.mono B1.out.size))
  clear x0 x1 x2 xf
  obtain ⟨x0, x1, x2, xf⟩ := N1.out.below hb2
  clear hb2 b0 b1 bf HF
  have HE := hid (aggW_below B2.out (show w.heap.size ≤ w.heap.size + 1 by omega) ⟨#[]⟩ (0))
  have HO := hid (aggW_ok (T := ⟨#[]⟩) (a := 0) c0' c1')
  go_wp2
  obtain ⟨o0, o1⟩ := HO.out
  unfold aggW at o0 o1 HE
  exact bodyPost_ret (v := .tuple #[.agg #[.string ⟨#[]⟩, .int .i64 (0)], .int .i64 (0), .int .i64 (121)]) (by simp [results, Tryz.results97, go_sem, o0, o1]) rfl ⟨rfl, HE.out⟩
 | some x =>
  have hb : bf9 = true := by rw [← hbf, ← hzf, findZ_pos hfi]; simp
  have hm : mf = (x : Int) := by rw [← hmf, ← hzf, findZ_pos hfi]; omega
  subst hb hm
  obtain ⟨hx, -, -⟩ := find_some hfi
  have hr := hR.symm.trans (agg_some c0 t (by rw [heo]; exact h0) (by rw [het]; exact hfi) hx)
  have HCX := hid (fun (w' : World) (hb : Below w.heap.size w w') => at_word (HV.out w' hb) x hx)
  obtain ⟨kx, hkx⟩ : ∃ k, c0[x].2.2 = k := ⟨_, rfl⟩
  rw [hkx, heo] at hr
  have bi0 : (0 : Int) ≤ (x : Int) := by omega
  have bi1 : (x : Int) < (c0.length : Int) := by omega
  have HKX := hid hkx
  clear hzf hmf hbf hfi hkx hR heo het
  by_cases h1 : op.data.toList = sSum
  ·rw [if_pos h1] at hr
   obtain rfl : op = ⟨#[115, 117, 109]⟩ := by rw [← Lib.mk_data op, h1]; rfl
   clear h1 h0
   by_cases hk : kx ≠ 2 ∧ kx ≠ 3
   ·rw [if_pos hk] at hr
    obtain ⟨rfl, rfl, rfl⟩ : ra = 0 ∧ rk = 0 ∧ re = 131 := by simpa using hr
    rw [if_neg (by decide)]
    have e1 : (kx != 2) = true := by simpa using hk.1
    have e2 : (kx != 3) = true := by simpa using hk.2
    clear hk hr
    go_enter Tryz.func97, Tryz.ntmps97
    go_upto_region 1 with fail
    rw [HW1.out]
    obtain ⟨x0, x1, x2, xf⟩ := N1.out
    go_wp2_with fail
    refine HF.out.mono ?_
    rintro e w2 ⟨rfl, hb2⟩
    have c0' := (hb2.cell (p := ⟨w.heap.size + 1, 0, none⟩) (by show w.heap.size + 1 < _; omega)).trans b0
    have c1' := (hb2.cell (p := ⟨w.heap.size + 1, 1, none⟩) (by show w.heap.size + 1 < _; omega)).trans b1
    have cf' : ∀ j, w2.frozen? ⟨w.heap.size + 1, j, none⟩ = false := fun j => (hb2.frozen (p := ⟨w.heap.size + 1, j, none⟩) (by show w.heap.size + 1 < _; omega)).trans (bf j)
    have B2 := hid (B1.out.trans (hb2.mono B1.out.size))
    obtain ⟨ax, eAx, hax, -, -, kc⟩ := HCX.out w2 B2.out
    subst eAx
    rw [HKX.out] at kc
    clear x0 x1 x2 xf
    obtain ⟨x0, x1, x2, xf⟩ := N1.out.below hb2
    clear hb2 b0 b1 bf HF
    have HE := hid (aggW_below B2.out (show w.heap.size ≤ w.heap.size + 1 by omega) ⟨#[]⟩ (0))
    have HO := hid (aggW_ok (T := ⟨#[]⟩) (a := 0) c0' c1')
    go_wp2
    obtain ⟨o0, o1⟩ := HO.out
    unfold aggW at o0 o1 HE
    exact bodyPost_ret (v := .tuple #[.agg #[.string ⟨#[]⟩, .int .i64 (0)], .int .i64 (0), .int .i64 (131)]) (by simp [results, Tryz.results97, go_sem, o0, o1]) rfl ⟨rfl, HE.out⟩
   ·rw [if_neg hk] at hr
    obtain ⟨rfl, rfl, rfl⟩ : ra = (x : Int) ∧ rk = 3 ∧ re = 0 := by simpa using hr
    rw [if_pos rfl]
    have hk2 : kx = 2 ∨ kx = 3 := by omega
    clear hk hr
    rcases hk2 with rfl | rfl
    ·skip
     go_enter Tryz.func97, Tryz.ntmps97
     go_upto_region 1 with fail
     rw [HW1.out]
     obtain ⟨x0, x1, x2, xf⟩ := N1.out
     go_wp2_with fail
     refine HF.out.mono ?_
     rintro e w2 ⟨rfl, hb2⟩
     have c0' := (hb2.cell (p := ⟨w.heap.size + 1, 0, none⟩) (by show w.heap.size + 1 < _; omega)).trans b0
     have c1' := (hb2.cell (p := ⟨w.heap.size + 1, 1, none⟩) (by show w.heap.size + 1 < _; omega)).trans b1
     have cf' : ∀ j, w2.frozen? ⟨w.heap.size + 1, j, none⟩ = false := fun j => (hb2.frozen (p := ⟨w.heap.size + 1, j, none⟩) (by show w.heap.size + 1 < _; omega)).trans (bf j)
     have B2 := hid (B1.out.trans (hb2.mono B1.out.size))
     obtain ⟨ax, eAx, hax, -, -, kc⟩ := HCX.out w2 B2.out
     subst eAx
     rw [HKX.out] at kc
     clear x0 x1 x2 xf
     obtain ⟨x0, x1, x2, xf⟩ := N1.out.below hb2
     clear hb2 b0 b1 bf HF
     have HE := hid (aggW_below B2.out (show w.heap.size ≤ w.heap.size + 1 by omega) ⟨#[115, 117, 109]⟩ ((x : Int)))
     have HO := hid (aggW_ok (T := ⟨#[115, 117, 109]⟩) (a := (x : Int)) c0' c1')
     go_wp2
     obtain ⟨o0, o1⟩ := HO.out
     unfold aggW at o0 o1 HE
     exact bodyPost_ret (v := .tuple #[.agg #[.string ⟨#[115, 117, 109]⟩, .int .i64 ((x : Int))], .int .i64 (3), .int .i64 (0)]) (by simp [results, Tryz.results97, go_sem, o0, o1]) rfl ⟨rfl, HE.out⟩
    ·skip
     go_enter Tryz.func97, Tryz.ntmps97
     go_upto_region 1 with fail
     rw [HW1.out]
     obtain ⟨x0, x1, x2, xf⟩ := N1.out
     go_wp2_with fail
     refine HF.out.mono ?_
     rintro e w2 ⟨rfl, hb2⟩
     have c0' := (hb2.cell (p := ⟨w.heap.size + 1, 0, none⟩) (by show w.heap.size + 1 < _; omega)).trans b0
     have c1' := (hb2.cell (p := ⟨w.heap.size + 1, 1, none⟩) (by show w.heap.size + 1 < _; omega)).trans b1
     have cf' : ∀ j, w2.frozen? ⟨w.heap.size + 1, j, none⟩ = false := fun j => (hb2.frozen (p := ⟨w.heap.size + 1, j, none⟩) (by show w.heap.size + 1 < _; omega)).trans (bf j)
     have B2 := hid (B1.out.trans (hb2.mono B1.out.size))
     obtain ⟨ax, eAx, hax, -, -, kc⟩ := HCX.out w2 B2.out
     subst eAx
     rw [HKX.out] at kc
     clear x0 x1 x2 xf
     obtain ⟨x0, x1, x2, xf⟩ := N1.out.below hb2
     clear hb2 b0 b1 bf HF
     have HE := hid (aggW_below B2.out (show w.heap.size ≤ w.heap.size + 1 by omega) ⟨#[115, 117, 109]⟩ ((x : Int)))
     have HO := hid (aggW_ok (T := ⟨#[115, 117, 109]⟩) (a := (x : Int)) c0' c1')
     go_wp2
     obtain ⟨o0, o1⟩ := HO.out
     unfold aggW at o0 o1 HE
     exact bodyPost_ret (v := .tuple #[.agg #[.string ⟨#[115, 117, 109]⟩, .int .i64 ((x : Int))], .int .i64 (3), .int .i64 (0)]) (by simp [results, Tryz.results97, go_sem, o0, o1]) rfl ⟨rfl, HE.out⟩
  ·rw [if_neg h1] at hr
   obtain ⟨rfl, rfl, rfl⟩ : ra = (x : Int) ∧ rk = kx ∧ re = 0 := by simpa using hr
   rw [if_pos rfl]
   have f1 := plit_ne h1
   unfold sSum at f1
   clear h0 h1 hr
   go_enter Tryz.func97, Tryz.ntmps97
   go_upto_region 1 with fail
   rw [HW1.out]
   obtain ⟨x0, x1, x2, xf⟩ := N1.out
   go_wp2_with fail
   refine HF.out.mono ?_
   rintro e w2 ⟨rfl, hb2⟩
   have c0' := (hb2.cell (p := ⟨w.heap.size + 1, 0, none⟩) (by show w.heap.size + 1 < _; omega)).trans b0
   have c1' := (hb2.cell (p := ⟨w.heap.size + 1, 1, none⟩) (by show w.heap.size + 1 < _; omega)).trans b1
   have cf' : ∀ j, w2.frozen? ⟨w.heap.size + 1, j, none⟩ = false := fun j => (hb2.frozen (p := ⟨w.heap.size + 1, j, none⟩) (by show w.heap.size + 1 < _; omega)).trans (bf j)
   have B2 := hid (B1.out.trans (hb2.mono B1.out.size))
   obtain ⟨ax, eAx, hax, -, -, kc⟩ := HCX.out w2 B2.out
   subst eAx
   rw [HKX.out] at kc
   clear x0 x1 x2 xf
   obtain ⟨x0, x1, x2, xf⟩ := N1.out.below hb2
   clear hb2 b0 b1 bf HF
   have HE := hid (aggW_below B2.out (show w.heap.size ≤ w.heap.size + 1 by omega) op ((x : Int)))
   have HO := hid (aggW_ok (T := op) (a := (x : Int)) c0' c1')
   go_wp2
   obtain ⟨o0, o1⟩ := HO.out
   unfold aggW at o0 o1 HE
   exact bodyPost_ret (v := .tuple #[.agg #[.string op, .int .i64 ((x : Int))], .int .i64 (rk), .int .i64 (0)]) (by simp [results, Tryz.results97, go_sem, o0, o1]) rfl ⟨rfl, HE.out⟩
structure PgI (w wr : World) (g : Nat) (ki : Sl) (XB : List Int) (XA : List (List UInt8 × Int)) (XC : List W) (sB sA sC : Sl) : Prop where
 but : But w wr g
 box : PBox wr g ⟨⟨sGroup.toArray⟩, ⟨#[]⟩, sC, ki, zSl, zSl, sB, sA⟩
 ownB : wr.ownsRow w.heap.size 3 1 (.slice sB.1 sB.2.1 sB.2.2) XB.length (flatC kc XB)
 ownA : wr.ownsRow w.heap.size 82 2 (.slice sA.1 sA.2.1 sA.2.2) XA.length (flatC ac XA)
 ownC : wr.ownsRow w.heap.size 54 3 (.slice sC.1 sC.2.1 sC.2.2) XC.length (flatC wc XC)
 lb : sB.2.1 = XB.length
 la : sA.2.1 = XA.length
 lc : sC.2.1 = XC.length
 c8 : wr.cell? ⟨g, 8, none⟩ = w.cell? ⟨g, 8, none⟩
theorem PgI.appB {w wr w10 : World} {g : Nat} {ki : Sl} {XB : List Int} {XA : List (List UInt8 × Int)} {XC : List W} {sB sA sC : Sl} (h : PgI w wr g ki XB XA XC sB sA sC) (hg : g < w.heap.size) {w8 : World} (L8 : Below wr.heap.size wr w8) (y : Int)
  {gg cap : Nat} (hown : w10.ownsRow w.heap.size 3 1 (.slice (some ⟨gg, 0, none⟩) (XB.length + 1) cap) (XB.length + 1) (flatC kc XB ++ kc y)) (hgr : w8.grownBy w10 (Value.slice sB.1 sB.2.1 sB.2.2).ownBlock) :
  PgI w (w10.setCell ⟨g, 6, none⟩ (.slice (some ⟨gg, 0, none⟩) (XB.length + 1) cap)) g ki (XB ++ [y]) XA XC (some ⟨gg, 0, none⟩, XB.length + 1, cap) sA sC := by
 have hz8 := L8.size
 have hzw := h.but.size
 have hl : ∀ j, (Value.slice sB.1 sB.2.1 sB.2.2).ownBlock = some j → w.heap.size ≤ j ∧ j < wr.heap.size := h.ownB.lt
 have hgg : w.heap.size ≤ gg := (hown.lt gg rfl).1
 have hne : (Value.slice (some (⟨gg, 0, none⟩ : Addr)) (XB.length + 1) cap).ownBlock ≠ some g := by simp [Value.ownBlock]; omega
 refine ⟨((h.but.next L8).grownR hgr (fun k hk => (hl k hk).1)).setCell 6 _, ((h.box.below L8).grown hgr (fun e => by have := (hl g e.symm).1; omega)).set6 (some ⟨gg, 0, none⟩, XB.length + 1, cap), ?_, pown_set ((own_call h.ownA L8).kept hgr (own_ne h.ownA h.ownB (by decide))) _ _ (fun e => by have := (h.ownA.lt _ e).1; simp at this; omega), pown_set ((own_call h.ownC L8).kept hgr (own_ne h.ownC h.ownB (by decide))) _ _ (fun e => by have := (h.ownC.lt _ e).1; simp at this; omega), by simp, h.la, h.lc, ?_⟩
 ·rw [flatC_snoc, List.length_append]
  exact pown_set hown _ _ hne
 ·rw [World.cell?_setCell_other _ _ _ _ (by simp)]
  exact (grown_cell hgr ⟨g, 8, none⟩ (by show g < _; omega) (fun e => by have := (hl g e.symm).1; omega)).trans ((L8.cell (p := ⟨g, 8, none⟩) (by show g < _; omega)).trans h.c8)
theorem PgI.appA {w wr w10 : World} {g : Nat} {ki : Sl} {XB : List Int} {XA : List (List UInt8 × Int)} {XC : List W} {sB sA sC : Sl} (h : PgI w wr g ki XB XA XC sB sA sC) (hg : g < w.heap.size) {w8 : World} (L8 : Below wr.heap.size wr w8) (y : List UInt8 × Int)
  {gg cap : Nat} (hown : w10.ownsRow w.heap.size 82 2 (.slice (some ⟨gg, 0, none⟩) (XA.length + 1) cap) (XA.length + 1) (flatC ac XA ++ ac y)) (hgr : w8.grownBy w10 (Value.slice sA.1 sA.2.1 sA.2.2).ownBlock) :
  PgI w (w10.setCell ⟨g, 7, none⟩ (.slice (some ⟨gg, 0, none⟩) (XA.length + 1) cap)) g ki XB (XA ++ [y]) XC sB (some ⟨gg, 0, none⟩, XA.length + 1, cap) sC := by
 have hz8 := L8.size
 have hzw := h.but.size
 have hl : ∀ j, (Value.slice sA.1 sA.2.1 sA.2.2).ownBlock = some j → w.heap.size ≤ j ∧ j < wr.heap.size := h.ownA.lt
 have hgg : w.heap.size ≤ gg := (hown.lt gg rfl).1
 have hne : (Value.slice (some (⟨gg, 0, none⟩ : Addr)) (XA.length + 1) cap).ownBlock ≠ some g := by simp [Value.ownBlock]; omega
 refine ⟨((h.but.next L8).grownR hgr (fun k hk => (hl k hk).1)).setCell 7 _, ((h.box.below L8).grown hgr (fun e => by have := (hl g e.symm).1; omega)).set7 (some ⟨gg, 0, none⟩, XA.length + 1, cap), pown_set ((own_call h.ownB L8).kept hgr (own_ne h.ownB h.ownA (by decide))) _ _ (fun e => by have := (h.ownB.lt _ e).1; simp at this; omega), ?_, pown_set ((own_call h.ownC L8).kept hgr (own_ne h.ownC h.ownA (by decide))) _ _ (fun e => by have := (h.ownC.lt _ e).1; simp at this; omega), h.lb, by simp, h.lc, ?_⟩
 ·rw [flatC_snoc, List.length_append]
  exact pown_set hown _ _ hne
 ·rw [World.cell?_setCell_other _ _ _ _ (by simp)]
  exact (grown_cell hgr ⟨g, 8, none⟩ (by show g < _; omega) (fun e => by have := (hl g e.symm).1; omega)).trans ((L8.cell (p := ⟨g, 8, none⟩) (by show g < _; omega)).trans h.c8)
theorem PgI.appC {w wr w10 : World} {g : Nat} {ki : Sl} {XB : List Int} {XA : List (List UInt8 × Int)} {XC : List W} {sB sA sC : Sl} (h : PgI w wr g ki XB XA XC sB sA sC) (hg : g < w.heap.size) {w8 : World} (L8 : Below wr.heap.size wr w8) (y : W)
  {gg cap : Nat} (hown : w10.ownsRow w.heap.size 54 3 (.slice (some ⟨gg, 0, none⟩) (XC.length + 1) cap) (XC.length + 1) (flatC wc XC ++ wc y)) (hgr : w8.grownBy w10 (Value.slice sC.1 sC.2.1 sC.2.2).ownBlock) :
  PgI w (w10.setCell ⟨g, 2, none⟩ (.slice (some ⟨gg, 0, none⟩) (XC.length + 1) cap)) g ki XB XA (XC ++ [y]) sB sA (some ⟨gg, 0, none⟩, XC.length + 1, cap) := by
 have hz8 := L8.size
 have hzw := h.but.size
 have hl : ∀ j, (Value.slice sC.1 sC.2.1 sC.2.2).ownBlock = some j → w.heap.size ≤ j ∧ j < wr.heap.size := h.ownC.lt
 have hgg : w.heap.size ≤ gg := (hown.lt gg rfl).1
 have hne : (Value.slice (some (⟨gg, 0, none⟩ : Addr)) (XC.length + 1) cap).ownBlock ≠ some g := by simp [Value.ownBlock]; omega
 refine ⟨((h.but.next L8).grownR hgr (fun k hk => (hl k hk).1)).setCell 2 _, ((h.box.below L8).grown hgr (fun e => by have := (hl g e.symm).1; omega)).set2 (some ⟨gg, 0, none⟩, XC.length + 1, cap), pown_set ((own_call h.ownB L8).kept hgr (own_ne h.ownB h.ownC (by decide))) _ _ (fun e => by have := (h.ownB.lt _ e).1; simp at this; omega), pown_set ((own_call h.ownA L8).kept hgr (own_ne h.ownA h.ownC (by decide))) _ _ (fun e => by have := (h.ownA.lt _ e).1; simp at this; omega), ?_, h.lb, h.la, by simp, ?_⟩
 ·rw [flatC_snoc, List.length_append]
  exact pown_set hown _ _ hne
 ·rw [World.cell?_setCell_other _ _ _ _ (by simp)]
  exact (grown_cell hgr ⟨g, 8, none⟩ (by show g < _; omega) (fun e => by have := (hl g e.symm).1; omega)).trans ((L8.cell (p := ⟨g, 8, none⟩) (by show g < _; omega)).trans h.c8)
theorem PgI.ok {B : Nat} {S : Nat → Prop} {w wr : World} {g : Nat} {ki : Sl} {XB : List Int} {XA : List (List UInt8 × Int)} {XC : List W} {sB sA sC : Sl} (h : PgI w wr g ki XB XA XC sB sA sC) (hB : B ≤ w.heap.size) (hg : g < w.heap.size) (hS : ∀ k, S k → k < w.heap.size) (ps : List Pl) :
  FOk B S wr g ki (.mk sGroup [] [] [] XB XA XC ps) := by
 obtain ⟨A1, cap1, e1, hat1, -⟩ := own_ats kc_length h.ownB
 obtain ⟨A2, cap2, e2, hat2, -⟩ := own_ats ac_length h.ownA
 injection e1 with e1 _
 injection e2 with e2 _
 obtain rfl : A1 = sB.1 := e1.symm
 obtain rfl : A2 = sA.1 := e2.symm
 have hCB := own_ne h.ownC h.ownB (by decide)
 have hCA := own_ne h.ownC h.ownA (by decide)
 have hsB : ∀ ad, sB.1 = some ad → (Value.slice sB.1 sB.2.1 sB.2.2).ownBlock = some ad.block := fun ad e => by rw [e]; rfl
 have hsA : ∀ ad, sA.1 = some ad → (Value.slice sA.1 sA.2.1 sA.2.2).ownBlock = some ad.block := fun ad e => by rw [e]; rfl
 refine ⟨_, fun k => (Value.slice sB.1 sB.2.1 sB.2.2).ownBlock = some k ∨ (Value.slice sA.1 sA.2.1 sA.2.2).ownBlock = some k, h.box, rfl, h.lc, own_le h.ownC hB, fun k hk => ⟨fun hs => ?_, fun hs => ?_, fun e => ?_⟩, fun k hk => ?_, ⟨rfl, rfl, rfl, rfl, h.lb, h.la, NLs.nil _ _ _, AtS.nil _ _ _, ?_, ?_⟩⟩
 ·have := (h.ownC.lt k hk).1
  have := hS k hs
  omega
 ·rcases hs with hs | hs
  ·rcases hCB with h9 | h9
   ·rw [hk] at h9; cases h9
   ·exact h9 (hk.trans hs.symm)
  ·rcases hCA with h9 | h9
   ·rw [hk] at h9; cases h9
   ·exact h9 (hk.trans hs.symm)
 ·have := (h.ownC.lt k hk).1
  omega
 ·rcases hk with hk | hk
  ·have hd := h.ownB.lt k hk
   exact ⟨by omega, hd.2, by omega⟩
  ·have hd := h.ownA.lt k hk
   exact ⟨by omega, hd.2, by omega⟩
 ·intro i hi
  obtain ⟨ad, ea, hs, c⟩ := hat1 i hi
  exact ⟨ad, ea, .inl (hsB ad ea), c⟩
 ·intro i hi
  obtain ⟨ad, ea, hs, c⟩ := hat2 i hi
  exact ⟨ad, ea, .inr (hsA ad ea), c⟩
end Go.Proofs.YthpmgnfmeldkjaaGreatDoor.Code
