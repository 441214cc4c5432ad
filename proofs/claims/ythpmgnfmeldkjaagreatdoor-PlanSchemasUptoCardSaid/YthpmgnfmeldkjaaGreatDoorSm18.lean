/-
  The plans of a list of queries.
-/
import Derived.Test.YthpmgnfmeldkjaaGreatDoorSm17
import Derived.Test.YthpmgnfmeldkjaaGreatDoorSm10
set_option maxRecDepth 100000
set_option maxHeartbeats 16000000
set_option linter.unusedVariables false
set_option linter.unusedSimpArgs false
open Go.Lib (hid)
namespace Go.Proofs.YthpmgnfmeldkjaaGreatDoor.Code
open Go.ChangeShapes Go.WideShapes Go.ChangeAt Go.RowKit Val Elems
theorem qs_end {w w3 : World} {RP : List Pl} {RF : Nat} {s sK : Sl} {S : Nat → Prop} (hb : Below w.heap.size w w3) (hM : MBox w3 w.heap.size zPV 0) (hown : w3.ownsRow w.heap.size 54 3 (.slice s.1 s.2.1 s.2.2) (RP.headD zeroP).cols.length (flatC wc (RP.headD zeroP).cols)) (hne : (Value.slice s.1 s.2.1 s.2.2).ownBlock ≠ some w.heap.size)
  (hl : s.2.1 = (RP.headD zeroP).cols.length) (hk : KIn w3 S sK RP) (hS : ∀ b, S b → w.heap.size < b ∧ b < w3.heap.size) (hd : ∀ b, (Value.slice s.1 s.2.1 s.2.2).ownBlock = some b → ¬ S b) :
  QsPost w ((RP, RF), 0) (.returned (.tuple #[.agg (mcs ⟨⟨#[]⟩, ⟨#[]⟩, s, sK, zSl, zSl, zSl, zSl⟩ RF), .int .i64 0])) (mset w3 w.heap.size ⟨⟨#[]⟩, ⟨#[]⟩, s, sK, zSl, zSl, zSl, zSl⟩ RF) := by
 have hbt := mset_but w3 w.heap.size ⟨⟨#[]⟩, ⟨#[]⟩, s, sK, zSl, zSl, zSl, zSl⟩ RF
 exact ⟨_, _, rfl, mset_below hb (Nat.le_refl _) _ _, fun _ => ⟨rfl, rfl, hl, own_butR hown hbt hne, S, hk.keep (fun p hp => hbt.cell (q := p) (hS _ hp).2 (by have := (hS _ hp).1; omega)), fun b h => ⟨Nat.le_of_lt (hS b h).1, Nat.lt_of_lt_of_le (hS b h).2 hbt.size⟩, hd⟩, fun h => absurd rfl h⟩
theorem queries_any (tabs : List Tab) (mb : Nat) (L : List Nod) (Sn : Nat → Prop) (A : Option Addr) (cap : Nat) (w : World) (hSn : ∀ b, Sn b → b < w.heap.size) (hnl : NLs w Sn A L) (hL : L.length ≤ 4194304) (hcols : ∀ t ∈ L, ((planP tabs t).1.1).cols.length ≤ 4194304)
  (hq : ∀ (i : Nat) (hi : i < L.length) (op tx : ByteArray) (X : Option Addr) (n k : Nat) (w' : World), Below w.heap.size w w' → RIn w' Sn L[i] (op, tx, X, n, k) → Calls Tryz.prog 25 #[.map (some mb), .agg #[.string op, .string tx, .slice X n k]] w' (QPost w' (planP tabs L[i]))) :
  Calls Tryz.prog 59 #[.map (some mb), .slice A L.length cap] w (QsPost w (plansP tabs L)) := by
 obtain ⟨w1, hw1⟩ : ∃ w1, (w.alloc (.cells (mcs zPV 0) 58)).alloc (.cells (mcs zPV 0) 58) = w1 := ⟨_, rfl⟩
 have B1 := hid (show Below w.heap.size w w1 by rw [← hw1]; exact (below_alloc w _).alloc (by simp) _)
 have M0 := hid (show MBox w1 w.heap.size zPV 0 by rw [← hw1]; exact (MBox.fresh w zPV 0 _).below (below_alloc _ _))
 have M1 := hid (show MBox w1 (w.heap.size + 1) zPV 0 by
  rw [← hw1]
  have h := MBox.fresh (w.alloc (.cells (mcs zPV 0) 58)) zPV 0 58
  rw [show (w.alloc (.cells (mcs zPV 0) 58)).heap.size = w.heap.size + 1 by simp] at h
  exact h)
 have hz1 : w.heap.size + 1 < w1.heap.size := by rw [← hw1]; simp
 have HNL := hid (fun (w' : World) (hb : But w1 w' (w.heap.size + 1)) => hnl.keep (fun _ h => h) (fun p h => (hb.cell (q := p) (by have := hSn _ h; omega) (by have := hSn _ h; omega)).trans (B1.out.cell (hSn _ h))))
 have HBW := hid (fun (w' : World) (hb : But w1 w' (w.heap.size + 1)) => B1.out.trans (hb.below (Nat.le_of_lt (Nat.lt_of_succ_lt hz1)) (Nat.le_succ _)))
 have HQ := hid hq
 have HSN := hid hSn
 have HCO := hid hcols
 have HW1 := hid hw1
 obtain ⟨R, hR⟩ : ∃ R, plansP tabs L = R := ⟨_, rfl⟩
 rw [hR]
 have HR := hid hR
 obtain ⟨⟨RP, RF⟩, RC⟩ := R
 obtain ⟨QQ, hQQ⟩ : ∃ Q, QsPost w ((RP, RF), RC) = Q := ⟨_, rfl⟩
 rw [hQQ]
 have HQQ := hid hQQ
 clear hq hSn hcols hw1 hR hnl hQQ
 go_enter Tryz.func59, Tryz.ntmps59
 go_upto_region 2 with fail
 have HW2 := hid HW1.out
 unfold mcs zPV zSl at HW2
 dsimp only at HW2
 rw [HW2.out]
 clear HW1 HW2
 have ST := hid (show QsI tabs w1 w1 (w.heap.size + 1) L 0 zSl (fun _ => False) [] 0 from ⟨But.refl _ _, M1.out.box, World.ownsRow_nil _ _ _ _, by rw [List.take_zero]; exact PAll.nil _ _, fun k h => h.elim, rfl, M1.out.c8⟩)
 obtain ⟨i1, hi1, hy0, hy1, hy2⟩ := info_parts info_plan
 go_wp2
 go_loopw [13] (fun v wr => ∃ (i : Nat) (sK : Sl) (Sd : Nat → Prop) (lv : List PV) (f : Nat), i ≤ L.length ∧ v = .int .i64 i ∧ (∀ j (hj : j < L.length), j < i → (planP tabs L[j]).2 = 0) ∧ f = ((L.take i).map fun t => (planP tabs t).1.2).sum ∧ f ≤ 4 * i ∧ QsI tabs w1 wr (w.heap.size + 1) L i sK Sd lv f) (fun v _ => L.length - (intOf v).toNat)
 case atStart => exact ⟨0, zSl, fun _ => False, [], 0, by omega, rfl, fun j _ h => absurd h (by omega), by rw [List.take_zero]; rfl, by omega, ST.out⟩
 case round =>
  clear ST
  obtain ⟨i, sK, Sd, lv, f, hi, rfl, hno, hf, hf4, hqs⟩ := hrel
  obtain ⟨e1, e2, e3⟩ := sK
  obtain rfl : i = e2 := hqs.le.symm
  have HNO := hid hno
  have HF := hid hf
  have HQS := hid hqs
  have hbut := hqs.but
  by_cases hil : i < L.length
  ·obtain ⟨a7, ⟨yo, yt, yX, yn, ym⟩, e7, hS7, q0, q1, q2, hry⟩ := (HNL.out wr hbut) i hil
   dsimp only at e7 q0 q1 q2
   subst e7
   have hw7 := HSN.out _ hS7
   have hzw := hbut.size
   obtain ⟨w6, hw6⟩ : ∃ w6, wr.alloc (.cells #[.string yo, .string yt, .slice yX yn ym] 24) = w6 := ⟨_, rfl⟩
   have B6 := hid (show Below wr.heap.size wr w6 by rw [← hw6]; exact below_alloc wr _)
   have V6 := hid (show NBox w6 wr.heap.size (.string yo) (.string yt) (.slice yX yn ym) by rw [← hw6]; exact NBox.fresh _ _ _ _ _)
   have J6 := hid (hbut.next B6.out)
   have HC := hid (HQ.out i hil yo yt yX yn ym w6 (HBW.out w6 J6.out) (hry.bel (fun b h => by have := HSN.out b h; omega) B6.out))
   unfold QPost mcs at HC
   have HW6 := hid hw6
   obtain ⟨K, hK⟩ : ∃ K, planP tabs L[i] = K := ⟨_, rfl⟩
   rw [hK] at HC
   obtain ⟨⟨kp, kf⟩, ke⟩ := K
   dsimp only at HC
   have HK := hid hK
   clear hry hw6 hno hf hqs hbut hK
   go_upto_region 5 with fail
   rw [HW6.out]
   clear q0 q1 q2
   obtain ⟨v0, v1, v2, vf⟩ := V6.out
   go_wp2_with fail
   refine HC.out.mono ?_
   rintro e w7 ⟨x, f7, rfl, hb7, hok, hbd⟩
   have L7 := hid (B6.out.trans (hb7.mono B6.out.size))
   have HB7 := hid hb7
   have HOK := hid hok
   have HBD := hid hbd
   clear HC hb7 hok hbd v0 v1 v2 vf
   go_upto_region 6 with fail
   obtain ⟨w8, hw8⟩ : ∃ w8, w7.alloc (.cells (mcs x f7) 58) = w8 := ⟨_, rfl⟩
   have B8 := hid (show Below w7.heap.size w7 w8 by rw [← hw8]; exact below_alloc w7 _)
   have M8 := hid (show MBox w8 w7.heap.size x f7 by rw [← hw8]; exact MBox.fresh w7 x f7 _)
   have L8 := hid (L7.out.trans (B8.out.mono L7.out.size))
   unfold mcs at hw8
   rw [hw8]
   clear hw8
   have hb1 := HQS.out.but.next L8.out
   by_cases hke : ke = 0
   case neg =>
    have hr : RC = ke := by
     have h := plansP_bad tabs L i hil HNO.out (by rw [HK.out]; exact hke)
     rw [HR.out, HK.out] at h
     exact congrArg Prod.snd h
    have f1 : (ke != 0) = true := by simpa using hke
    subst hr
    have HNE := hid hke
    have HE := hid (HBW.out w8 hb1)
    have N0 := hid (M0.out.but hb1 (by omega))
    have NE := hid (mset_ok N0.out zPV 0)
    have HE2 := hid (mset_below HE.out (Nat.le_refl _) zPV 0)
    obtain ⟨⟨o0, o1, o2, o3, o4, o5, o6, o7, of⟩, o8⟩ := N0.out
    unfold zPV zSl at o0 o1 o2 o3 o4 o5 o6 o7
    dsimp only at o0 o1 o2 o3 o4 o5 o6 o7
    clear hke hb1 HE
    go_wp2
    clear o0 o1 o2 o3 o4 o5 o6 o7 of o8
    obtain ⟨⟨o0, o1, o2, o3, o4, o5, o6, o7, of⟩, o8⟩ := NE.out
    unfold mset at HE2 o0 o1 o2 o3 o4 o5 o6 o7 o8
    clear of
    unfold zPV zSl at o0 o1 o2 o3 o4 o5 o6 o7 o8 HE2
    dsimp only at o0 o1 o2 o3 o4 o5 o6 o7 o8 HE2
    exact bodyPost_ret (v := .tuple #[.agg (mcs zPV 0), .int .i64 RC]) (by simp [results, Tryz.results59, go_sem, o0, o1, o2, o3, o4, o5, o6, o7, o8, mcs, zPV, zSl]) rfl (by rw [← HQQ.out]; exact ⟨zPV, 0, rfl, HE2.out, fun h => absurd h HNE.out, fun _ => ⟨rfl, rfl⟩⟩)
   subst hke
   obtain ⟨hfx, hpx⟩ := HOK.out rfl
   have hkf := planP_fr tabs L[i] (by rw [HK.out])
   rw [HK.out] at hkf
   dsimp only at hkf hpx hfx
   have HPX := hid (show PIn w7 (fun b => w6.heap.size ≤ b ∧ b < w7.heap.size) (planP tabs L[i]).1.1 x by rw [HK.out]; exact hpx)
   subst hfx
   clear hpx
   have PB8 := hid (HQS.out.box.below L8.out)
   obtain ⟨p0, p1, p2, p3, p4, p5, p6, p7, pf⟩ := PB8.out
   obtain ⟨⟨m0, m1, m2, m3, m4, m5, m6, m7, mf⟩, m8⟩ := M8.out
   dsimp only at p3
   clear p0 p1 p2 p4 p5 p6 p7 mf m8
   have hg8 := PB8.out.lt
   have hz8 : w1.heap.size ≤ w8.heap.size := hb1.size
   have hlt8 : w7.heap.size < w8.heap.size := M8.out.box.lt
   have hzr8 : wr.heap.size ≤ w7.heap.size := L7.out.size
   have L9 := hid (show Below w8.heap.size w8 (w8.alloc (.cells (plcs x) 35)) from below_alloc w8 _)
   have O9 := hid (own_call (own_call HQS.out.own L8.out) L9.out)
   have N9 := hid (show ∀ (j : Nat) (u : Value), (pc x)[j]? = some u → (w8.alloc (.cells (plcs x) 35)).cell? ((⟨w8.heap.size, 0, none⟩ : Addr).add j) = some u from
    World.news_of_block (cs := plcs x) (t := 35) (fr := (0, 0)) (heap_alloc_new w8 _))
   have E9 := hid (fun (gg cap9 : Nat) (w10 : World) h1 h2 h3 => HQS.out.add (x := x) (w7 := w6) (w8 := w7) (w9 := w8.alloc (.cells (plcs x) 35)) (w10 := w10) (gg := gg) (cap := cap9) hz1 hil B6.out HB7.out (B8.out.trans (L9.out.mono B8.out.size)) HPX.out h1 h2 h3)
   unfold plcs at L9 O9 N9 E9
   have hpl := pc_length x
   have HPC := hid (pc_one x)
   obtain ⟨PX, hPX⟩ : ∃ PX, pc x = PX := ⟨_, rfl⟩
   rw [hPX] at N9 E9 HPC hpl
   obtain ⟨XS, hXS⟩ : ∃ XS, flatC pc lv = XS := ⟨_, rfl⟩
   rw [hXS] at O9 E9
   have HPX2 := hid hPX
   have HPL := hid hpl
   clear hXS hPX hb1 hpl
   go_wp2_with (at_builtin; refine wpList_append_lies _ rfl _ _ _ rfl w1.heap.size 35 i1 _ 8 176 Tryz.underlying30 hi1 hy0 hy1 hy2 rfl (by omega) _ i XS rfl ?ca ⟨w8.heap.size, 0, none⟩ 1 1 PX rfl ?cl ?cn HPC.out (by omega) ?cm ?cb ?cz9 (w8.heap.size + 1) ?ch ?_)
   case ca => exact O9.out
   case cl => exact HPL.out
   case cn => first | exact N9.out | (intro j u hu; rw [← HPX2.out] at hu; exact hu)
   case cm => unfold maxLen; omega
   case cb => omega
   case cz9 => first | omega | (simp; omega)
   try (case ch => simp)
   intro gg cap9 w10 hown10 hgrow10 hat10 hlt10
   have hr10 := (fun j e => (O9.out.lt j e) : ∀ j, (Value.slice e1 i e3).ownBlock = some j → w1.heap.size ≤ j ∧ _)
   have hrw := (fun j e => (HQS.out.own.lt j e).2 : ∀ j, (Value.slice e1 i e3).ownBlock = some j → j < wr.heap.size)
   have PJ10 := hid (E9.out gg cap9 w10 hown10 hgrow10 (hat10.imp id (fun e => by omega)))
   have y10 := (grown_cell hgrow10 ⟨w.heap.size + 1, 3, none⟩ (by show w.heap.size + 1 < _; simp; omega) (fun e => by have := (hr10 (w.heap.size + 1) e.symm).1; omega)).trans ((L9.out.cell (p := ⟨w.heap.size + 1, 3, none⟩) hg8).trans p3)
   have f10 : ∀ j, w10.frozen? ⟨w.heap.size + 1, j, none⟩ = false := fun j => (World.frozen?_of_block (a := ⟨w.heap.size + 1, j, none⟩) (hgrow10.block (w.heap.size + 1) (by simp; omega) (fun e => by have := (hr10 (w.heap.size + 1) e.symm).1; omega))).trans ((L9.out.frozen (p := ⟨w.heap.size + 1, j, none⟩) hg8).trans (pf j))
   have y8 := (grown_cell hgrow10 ⟨w7.heap.size, 8, none⟩ (by show w7.heap.size < _; simp; omega) (fun e => by have := hrw w7.heap.size e.symm; omega)).trans ((L9.out.cell (p := ⟨w7.heap.size, 8, none⟩) hlt8).trans M8.out.c8)
   clear p3 pf m0 m1 m2 m3 m4 m5 m6 m7 hown10 hgrow10 hat10 hlt10 hr10 hrw
   go_upto_region 9 with fail
   obtain ⟨w11, hw11⟩ : ∃ w11, w10.setCell ⟨w.heap.size + 1, 3, none⟩ (.slice (some ⟨gg, 0, none⟩) (i + 1) cap9) = w11 := ⟨_, rfl⟩
   have y82 : w11.cell? ⟨w7.heap.size, 8, none⟩ = some (.int .i64 (kf : Int)) := by
    rw [← hw11]
    exact (World.cell?_setCell_other _ _ _ _ (by intro e; injection e with e; omega)).trans y8
   rw [hw11] at PJ10
   rw [hw11]
   clear y8 y10 f10 hw11
   have PB11 := hid PJ10.out.box
   have p8 := PJ10.out.c8
   have pf := PB11.out.fr
   have hwr : IntKind.i64.wrap ((f : Int) + (kf : Int)) = ((f + kf : Nat) : Int) := by rw [IntKind.wrap_i64]; omega
   have HNO2 := hid (show ∀ j (hj : j < L.length), j < i + 1 → (planP tabs L[j]).2 = 0 from fun j hj h2 => if e : j = i then by subst e; rw [HK.out] else HNO.out j hj (by omega))
   have HF2 := hid (show f + kf = ((L.take (i + 1)).map fun t => (planP tabs t).1.2).sum by rw [map_take _ _ _ hil, List.sum_append, ← HF.out, HK.out]; simp)
   have PJ11 := hid (PJ10.out.sum hz1 ((f + kf : Nat) : Int))
   go_wp2
   go_roundw
   case rel => exact ⟨i + 1, (some ⟨gg, 0, none⟩, i + 1, cap9), _, lv ++ [x], f + kf, by omega, by go_num, HNO2.out, HF2.out, by omega, PJ11.out⟩
   case measure => simp [intOf]; omega
  ·obtain rfl : i = L.length := by omega
   have hok := plansP_ok tabs L (fun j hj => HNO.out j hj hj)
   rw [HR.out] at hok
   have hRC : RC = 0 := congrArg Prod.snd hok
   have hRP : RP = L.map fun t => (planP tabs t).1.1 := congrArg (fun r => r.1.1) hok
   have hRF : RF = f := by rw [HF.out, List.take_length]; exact congrArg (fun r => r.1.2) hok
   subst hRC hRF
   have hkin := hqs.kin
   rw [← hRP] at hkin
   have hN0 := M0.out.but hbut (by omega)
   have HBR := hid (HBW.out wr hbut)
   have hlo := hqs.own.lt
   have hSd : ∀ k, (Sd k ∨ (Value.slice e1 L.length e3).ownBlock = some k) → w.heap.size + 1 < k ∧ k < wr.heap.size := fun k hk => by
    rcases hk with hk | hk
    ·have := hqs.deep k hk
     exact ⟨by omega, this.2.1⟩
    ·have := hlo k hk
     exact ⟨by omega, this.2⟩
   have HKI := hid hkin
   have HN0 := hid hN0
   have HSD := hid hSd
   have HPB := hid hqs.box
   have p8 := hqs.c8
   obtain ⟨p0, p1, p2, p3, p4, p5, p6, p7, pf⟩ := HPB.out
   unfold zSl at p2 p4 p5 p6 p7
   dsimp only at p0 p1 p2 p3 p4 p5 p6 p7
   have hzw := hbut.size
   have hlr : w.heap.size + 1 < wr.heap.size := HPB.out.lt
   have HQS2 := hid hqs
   clear hkin hN0 hSd hqs hok hbut hno hf hlo
   by_cases h0 : L.length = 0
   ·obtain rfl : L = [] := List.length_eq_zero_iff.1 h0
    have hRP0 : RP = [] := hRP
    subst hRP0
    clear hRP h0
    have HE := hid (qs_end (w := w) (w3 := wr) (RP := []) (RF := RF) (s := zSl) (sK := (e1, 0, e3)) HBR.out HN0.out (World.ownsRow_nil _ _ _ _) (by simp [zSl, Value.ownBlock]) rfl HKI.out (fun b h => ⟨Nat.lt_of_succ_lt (HSD.out b h).1, (HSD.out b h).2⟩) (by simp [zSl, Value.ownBlock]))
    have NE := hid (mset_ok HN0.out ⟨⟨#[]⟩, ⟨#[]⟩, zSl, (e1, 0, e3), zSl, zSl, zSl, zSl⟩ RF)
    obtain ⟨⟨o0, o1, o2, o3, o4, o5, o6, o7, of⟩, o8⟩ := HN0.out
    unfold zPV zSl at o0 o1 o2 o3 o4 o5 o6 o7
    dsimp only at o0 o1 o2 o3 o4 o5 o6 o7
    go_wp2
    clear o0 o1 o2 o3 o4 o5 o6 o7 of o8
    obtain ⟨⟨o0, o1, o2, o3, o4, o5, o6, o7, of⟩, o8⟩ := NE.out
    unfold mset at HE o0 o1 o2 o3 o4 o5 o6 o7 o8
    clear of
    unfold zSl at o0 o1 o2 o3 o4 o5 o6 o7 o8 HE
    dsimp only at o0 o1 o2 o3 o4 o5 o6 o7 o8 HE
    exact bodyPost_ret (v := .tuple #[.agg (mcs ⟨⟨#[]⟩, ⟨#[]⟩, zSl, (e1, 0, e3), zSl, zSl, zSl, zSl⟩ RF), .int .i64 0]) (by simp [results, Tryz.results59, go_sem, o0, o1, o2, o3, o4, o5, o6, o7, o8, mcs, zSl]) rfl (by rw [← HQQ.out]; exact HE.out)
   ·have hl0 : 0 < L.length := by omega
    have hRl : 0 < RP.length := by rw [hRP, List.length_map]; exact hl0
    obtain ⟨ad, y, eA, hS9, hpc, hpi⟩ := HKI.out.kid 0 hRl
    have hhd : RP.headD zeroP = RP[0] := by
     cases RP with
     | nil => exact absurd hRl (by simp)
     | cons a l => rfl
    have hcl : RP[0].cols.length ≤ 4194304 := by
     have h := HCO.out L[0] (List.getElem_mem hl0)
     have e : RP[0] = (planP tabs L[0]).1.1 := by simp only [hRP, List.getElem_map]
     rw [e]
     exact h
    obtain ⟨c0, hc0⟩ : ∃ c, RP[0].cols = c := ⟨_, rfl⟩
    have hcols := hpi.cols
    rw [hc0] at hcols hcl
    have HC0 := hid (show (RP.headD zeroP).cols = c0 by rw [hhd, hc0])
    dsimp only at eA
    subst eA
    obtain ⟨q0, q1, q2, q3, q4, q5, q6, q7⟩ := hpc
    rw [show ad.add (0 * 8) = ad from rfl] at q2
    have hyl := hcols.1
    have HAT := hid (hcols.2.at (B := wr.heap.size) (fun b h => (HSD.out b h).2))
    have HC := hid (pclone_any y.co.1 y.co.2.2 c0 wr HAT.out hcl)
    rw [← hyl] at HC
    have HYL := hid hyl
    have bi0 : (0 : Int) < (L.length : Int) := by omega
    clear hRP q0 q1 q3 q4 q5 q6 q7 hpi hcols hyl hc0 hhd hRl h0
    go_wp2_with fail
    refine HC.out.mono ?_
    rintro e w2 ⟨⟨s1, s2, s3⟩, rfl, hsl, hso, hb2⟩
    dsimp only at hsl hso
    rw [HYL.out] at hsl hso
    subst hsl
    have L2 := hid hb2
    have PB2 := hid (HPB.out.below L2.out)
    have HN2 := hid (HN0.out.below L2.out)
    have hsz2 := L2.out.size
    have p82 := (L2.out.cell (p := ⟨w.heap.size + 1, 8, none⟩) hlr).trans p8
    have HSO := hid (own_le hso (Nat.le_of_lt (Nat.lt_of_succ_lt hlr)))
    have HSL := hid hso.lt
    clear p0 p1 p2 p3 p4 p5 p6 p7 pf p8 q2 hb2 hso
    obtain ⟨w3, hw3⟩ : ∃ w3, w2.setCell ⟨w.heap.size + 1, 2, none⟩ (.slice s1 c0.length s3) = w3 := ⟨_, rfl⟩
    have B3 := hid (show But w2 w3 (w.heap.size + 1) by rw [← hw3]; exact (But.refl _ _).setCell 2 _)
    have PB3 := hid (show MBox w3 (w.heap.size + 1) ⟨⟨#[]⟩, ⟨#[]⟩, (s1, c0.length, s3), (some ad, L.length, e3), zSl, zSl, zSl, zSl⟩ RF by
     rw [← hw3]
     exact ⟨PB2.out.set2 (s1, c0.length, s3), (World.cell?_setCell_other _ _ _ _ (by simp)).trans p82⟩)
    have HN3 := hid (HN2.out.but B3.out (by omega))
    have HBL3 := hid (show Below w.heap.size w w3 by rw [← hw3]; exact (HBR.out.trans (L2.out.mono HBR.out.size)).setCell (p := ⟨w.heap.size + 1, 2, none⟩) (Nat.le_succ _) _)
    have HO3 := hid (show w3.ownsRow w.heap.size 54 3 (.slice s1 c0.length s3) c0.length (flatC wc c0) by
     rw [← hw3]
     exact pown_set HSO.out _ _ (fun e => by have := (HSL.out _ e).1; simp at this; omega))
    have HE := hid (qs_end (w := w) (w3 := w3) (RP := RP) (RF := RF) (s := (s1, c0.length, s3)) (sK := (some ad, L.length, e3)) HBL3.out HN3.out (by rw [HC0.out]; exact HO3.out) (fun e => by have := (HSL.out _ e).1; omega) (by rw [HC0.out])
     (HKI.out.keep (fun p hp => (B3.out.cell (q := p) (Nat.lt_of_lt_of_le (HSD.out _ hp).2 hsz2) (by have := (HSD.out _ hp).1; omega)).trans (L2.out.cell (HSD.out _ hp).2)))
     (fun b h => ⟨Nat.lt_of_succ_lt (HSD.out b h).1, Nat.lt_of_lt_of_le (HSD.out b h).2 (Nat.le_trans hsz2 B3.out.size)⟩) (fun b e h => by have h1 := (HSL.out _ e).1; have h2 := (HSD.out b h).2; omega))
    have NE := hid (mset_ok HN3.out ⟨⟨#[]⟩, ⟨#[]⟩, (s1, c0.length, s3), (some ad, L.length, e3), zSl, zSl, zSl, zSl⟩ RF)
    obtain ⟨p0, p1, p2, p3, p4, p5, p6, p7, pf⟩ := PB2.out
    unfold zSl at p2 p4 p5 p6 p7
    dsimp only at p0 p1 p2 p3 p4 p5 p6 p7
    have HW3 := hid hw3
    clear hw3
    go_upto_region 13 with fail
    rw [HW3.out]
    clear p0 p1 p2 p3 p4 p5 p6 p7 pf p82
    obtain ⟨⟨p0, p1, p2, p3, p4, p5, p6, p7, pf⟩, p8⟩ := PB3.out
    unfold zSl at p4 p5 p6 p7
    dsimp only at p0 p1 p2 p3 p4 p5 p6 p7
    obtain ⟨⟨o0, o1, o2, o3, o4, o5, o6, o7, of⟩, o8⟩ := HN3.out
    unfold zPV zSl at o0 o1 o2 o3 o4 o5 o6 o7
    dsimp only at o0 o1 o2 o3 o4 o5 o6 o7
    go_wp2
    clear o0 o1 o2 o3 o4 o5 o6 o7 of o8 p0 p1 p2 p3 p4 p5 p6 p7 pf p8
    obtain ⟨⟨o0, o1, o2, o3, o4, o5, o6, o7, of⟩, o8⟩ := NE.out
    unfold mset at HE o0 o1 o2 o3 o4 o5 o6 o7 o8
    clear of
    unfold zSl at o0 o1 o2 o3 o4 o5 o6 o7 o8 HE
    dsimp only at o0 o1 o2 o3 o4 o5 o6 o7 o8 HE
    exact bodyPost_ret (v := .tuple #[.agg (mcs ⟨⟨#[]⟩, ⟨#[]⟩, (s1, c0.length, s3), (some ad, L.length, e3), zSl, zSl, zSl, zSl⟩ RF), .int .i64 0]) (by simp [results, Tryz.results59, go_sem, o0, o1, o2, o3, o4, o5, o6, o7, o8, mcs, zSl]) rfl (by rw [← HQQ.out]; exact HE.out)
structure PEnv (w : World) (mb gt : Nat) (TA : Option Addr) (tcap : Nat) (tabs : List Tab) (m : Int) : Prop where
 map : MapR w mb 7 (formF gt)
 tab : w.cell? ⟨gt, 0, none⟩ = some (.slice TA tabs.length tcap)
 gl : gt < w.heap.size
 tabs : TabsAt w w.heap.size TA tabs
 glob : MGlob m w
theorem PEnv.below {w w' : World} {mb gt : Nat} {TA : Option Addr} {tcap : Nat} {tabs : List Tab} {m : Int} (h : PEnv w mb gt TA tcap tabs m) (hb : Below w.heap.size w w') : PEnv w' mb gt TA tcap tabs m :=
 ⟨h.map.below hb, (hb.cell (p := ⟨gt, 0, none⟩) h.gl).trans h.tab, Nat.lt_of_lt_of_le h.gl hb.size, h.tabs.next hb, h.glob.next hb⟩
def cutA (X : Option Addr) (q k : Nat) : Option Addr := if k = q then X else X.map (·.add (q * 3))
theorem cut_any (X : Option Addr) (n k c : Nat) (h : c ≤ n) (w : World) :
  (Instr.slice 22 (.slice X n k) (some (.int .i64 (c : Nat))) none none).run Tryz.prog w = .ok (.slice (cutA X c k) (n - c) (k - c)) w := by
 have hu : Tryz.prog.underlying 22 = some (.slice (Tryz.prog.elem 22)) := by kernel_rfl
 have hz : ∀ w, (sizeOf (Tryz.prog.elem 22)).run Tryz.prog w = .ok 3 w := fun w => by kernel_rfl
 rw [run_slice_l w 22 X n k hu .i64 c (by omega) (by omega), hz]
 simp only [Result.andThen, sliced, Int.toNat_natCast]
 rfl
theorem take_any (X : Option Addr) (n k c : Nat) (h : c ≤ n) (hk : n ≤ k) (w : World) :
  (Instr.slice 22 (.slice X n k) none (some (.int .i64 (c : Nat))) none).run Tryz.prog w = .ok (.slice X c k) w := by
 have hu : Tryz.prog.underlying 22 = some (.slice (Tryz.prog.elem 22)) := by kernel_rfl
 have hz : ∀ w, (sizeOf (Tryz.prog.elem 22)).run Tryz.prog w = .ok 3 w := fun w => by kernel_rfl
 rw [run_slice_h w 22 X n k hu .i64 c (by omega) (by omega), hz]
 simp only [Result.andThen, sliced, Int.toNat_natCast]
 cases X <;> simp [Addr.add]
theorem NLs.take {w : World} {S : Nat → Prop} {A : Option Addr} {ks : List Nod} (h : NLs w S A ks) (c : Nat) : NLs w S A (ks.take c) := by
 intro k hk
 rw [List.length_take] at hk
 obtain ⟨ad, y, e, hs, c0, c1, c2, hr⟩ := h k (by omega)
 exact ⟨ad, y, e, hs, c0, c1, c2, by rw [List.getElem_take]; exact hr⟩
theorem NLs.cut {w : World} {S : Nat → Prop} {X : Option Addr} {ks : List Nod} (h : NLs w S X ks) (q k : Nat) (hk : ks.length ≤ k) : NLs w S (cutA X q k) (ks.drop q) := by
 by_cases hq : q < ks.length
 ·obtain ⟨ad, y, e, -⟩ := h 0 (by omega)
  subst e
  unfold cutA
  rw [if_neg (by omega)]
  exact h.drop q
 ·intro i hi
  rw [List.length_drop] at hi
  omega
mutual
theorem leaves_tot : ∀ t : Nod, (leavesQ t).length ≤ t.tot
 | .mk o x ks => by
  have h := leavess_tot ks
  rw [leavesQ, Nod.tot, List.length_append]
  split <;> simp <;> omega
theorem leavess_tot : ∀ l : List Nod, (leavessQ l).length ≤ Nod.totL l
 | [] => by simp [leavessQ]
 | t :: l => by
  have h1 := leaves_tot t
  have h2 := leavess_tot l
  rw [leavessQ, Nod.totL, List.length_append]
  omega
end
theorem fin_pin {B : Nat} {S : Nat → Prop} {w1 w2 : World} {g : Nat} {ki : Sl} {p : Pl} {ps : List Pl} (hp : p.ks = ps) (h : FOk B S w1 g ki p) (hk : KIn w1 S ki ps) (hS : ∀ b, S b → B ≤ b ∧ b < w1.heap.size) (x : PV) (hx : PBox w1 g x)
  (g0 : Nat) (hb : But w1 w2 g0) (hg0 : 0 < p.cols.length → (Value.slice x.co.1 x.co.2.1 x.co.2.2).ownBlock = some g0) (hg9 : p.cols.length = 0 → ∀ b, B ≤ b → b < w1.heap.size → b ≠ g0) (hcl : 0 < p.cols.length → CellsG wc w2 g0 (numberedP p.cols)) :
  PIn w2 (fun b => B ≤ b ∧ b < w2.heap.size) (.mk p.op p.tab p.ex p.on p.bk p.ag (numberedP p.cols) ps) x := by
 obtain ⟨x', S', hbx, hki, hcol, hown, hob, hS', hr⟩ := h
 obtain rfl : x' = x := by
  obtain ⟨a1, a2, a3, a4, a5, a6, a7, a8⟩ := x'
  obtain ⟨b1, b2, b3, b4, b5, b6, b7, b8⟩ := x
  have e : ∀ {j : Nat} {u v : Value}, w1.cell? ⟨g, j, none⟩ = some u → w1.cell? ⟨g, j, none⟩ = some v → u = v := fun h1 h2 => Option.some.inj (h1.symm.trans h2)
  have f : ∀ {a b : Sl}, Value.slice a.1 a.2.1 a.2.2 = Value.slice b.1 b.2.1 b.2.2 → a = b := fun {a b} h => by
   obtain ⟨p1, p2, p3⟩ := a
   obtain ⟨q1, q2, q3⟩ := b
   injection h with h1 h2 h3
   dsimp only at h1 h2 h3
   rw [h1, h2, h3]
  have e0 := e hbx.c0 hx.c0
  have e1 := e hbx.c1 hx.c1
  injection e0 with e0
  injection e1 with e1
  dsimp only at e0 e1
  have d2 : a3 = b3 := f (e hbx.c2 hx.c2)
  have d3 : a4 = b4 := f (e hbx.c3 hx.c3)
  have d4 : a5 = b5 := f (e hbx.c4 hx.c4)
  have d5 : a6 = b6 := f (e hbx.c5 hx.c5)
  have d6 : a7 = b7 := f (e hbx.c6 hx.c6)
  have d7 : a8 = b8 := f (e hbx.c7 hx.c7)
  rw [e0, e1, d2, d3, d4, d5, d6, d7]
 have hne : ∀ b, S b ∨ S' b → b ≠ g0 := fun b hs e => by
  by_cases h0 : 0 < p.cols.length
  ·have h1 := hob g0 (hg0 h0)
   rw [e] at hs
   rcases hs with hs | hs
   ·exact h1.1 hs
   ·exact h1.2.1 hs
  ·rcases hs with hs | hs
   ·exact hg9 (by omega) b (hS b hs).1 (hS b hs).2 e
   ·exact hg9 (by omega) b (hS' b hs).1 (hS' b hs).2.1 e
 have hsz := hb.size
 have k1 : ∀ q : Addr, S q.block → w2.cell? q = w1.cell? q := fun q hq => hb.cell (hS _ hq).2 (hne _ (.inl hq))
 have k2 : ∀ q : Addr, S' q.block → w2.cell? q = w1.cell? q := fun q hq => hb.cell (hS' _ hq).2.1 (hne _ (.inr hq))
 have hr2 := hr.keep (S' := fun b => B ≤ b ∧ b < w2.heap.size) (fun b h => ⟨(hS' b h).1, Nat.lt_of_lt_of_le (hS' b h).2.1 hsz⟩) k2
 have hk2 := hk.keep k1
 obtain ⟨l, ha, hat⟩ := hk2.all
 have hTS : ∀ b, S b → B ≤ b ∧ b < w2.heap.size := fun b h => ⟨(hS b h).1, Nat.lt_of_lt_of_le (hS b h).2 hsz⟩
 have hlen : (numberedP p.cols).length = p.cols.length := by unfold numberedP; simp
 cases p with
 | mk op tab ex on bk ag cols ks =>
  refine .mk op tab ex on bk ag (numberedP cols) ps x' l ⟨hr2.op, hr2.tab, hr2.lex, hr2.lon, hr2.lbk, hr2.lag, hr2.ex, hr2.on, hr2.bk, hr2.ag⟩ (by rw [hcol]; exact hlen.symm) ?_ (by rw [hki]; exact hk2.len) ha.1 (by rw [hki]; exact hat.keep hTS (fun _ _ => rfl)) (fun i hi => (ha.2 i hi _).imp hTS)
  by_cases h0 : 0 < cols.length
  ·obtain ⟨g1, cap1, hv, hg1, hlt, -, -⟩ := own_cellsG hown h0
   have he : g1 = g0 := by
    have h9 := hg0 h0
    rw [hv] at h9
    simpa [Value.ownBlock] using h9
   subst he
   injection hv with hv1
   rw [hv1]
   exact (hcl h0).ats wc_length ⟨hg1, Nat.lt_of_lt_of_le hlt hsz⟩
  ·have hc : numberedP cols = [] := List.length_eq_zero_iff.1 (by rw [show (numberedP cols).length = cols.length from hlen]; omega)
   rw [hc]
   exact AtS.nil _ _ _
def QFrom (r q : Nat) (A : Option Addr) (cap : Nat) (l : List W) (el : Nat → Bool → Res) (i : Nat) : Prop :=
 ∀ (j : Nat) (c : Bool) (w' : World), i ≤ j → j ≤ l.length → QRd w' r q A cap l j c → Calls Tryz.prog 81 #[.pointer (some ⟨q, 0, none⟩)] w' (GetN r q A cap l w' (el j c))
theorem qqueries_any (r q : Nat) (A : Option Addr) (cap : Nat) (l : List W) (i : Nat) (b : Bool) (w : World) (h : QRd w r q A cap l i b) (hi : i ≤ l.length) (hl : l.length ≤ 4194304) (el : Nat → Bool → Res) (he : ∀ j c, j ≤ (bare l).length → Ends (bare l).length j c (el j c).2) (hq : QFrom r q A cap l el i) :
  Calls Tryz.prog 148 #[.pointer (some ⟨q, 0, none⟩)] w (GetL r q A cap l w (loopQ (bare l) (el) ((bare l).length + 1) true i b)) := by
 have HR := hid h
 have zr := h.lt
 have zq := h.ltq
 have HEN := hid he
 have HQQ := hid hq
 obtain ⟨R, hR⟩ : ∃ R, loopQ (bare l) (el) ((bare l).length + 1) true i b = R := ⟨_, rfl⟩
 have HRR := hid hR
 rw [hR]
 obtain ⟨i0, hi0, hz0, hz1, hz2⟩ := info_parts info_node
 clear h he hq hR
 go_enter Tryz.func148, Tryz.ntmps148
 go_wp2
 go_loopw [3] (fun v wr => LInv r q A cap l w R el v wr ∧ i ≤ atOf wr r) (fun _ wr => l.length - atOf wr r)
 case atStart =>
  refine ⟨⟨(bare l).length + 1, i, b, [], [], none, 0, rfl, World.ownsRow_nil _ _ _ _, RAll.nil _ _, hi, by rw [bare_length]; omega, by simp, hid ?_, But.refl _ _, HR.out⟩, by rw [atq HR.out]; exact Nat.le_refl _⟩
  rw [← HRR.out]
  rfl
 case round =>
  obtain ⟨⟨f, j, c, ks, xs, X, cp, rfl, hown, hall, hj, hf, hkj, HE, hbut, hqr⟩, hij⟩ := hrel
  rw [atq hqr] at hij
  have HO := hid hown
  have HA := hid hall
  have HB := hid hbut
  have HQ := hid hqr
  have hz := hbut.size
  have hks := hall.1
  have HAT := hid (atq hqr)
  obtain ⟨N, hN⟩ : ∃ N, xs.length = N := ⟨_, rfl⟩
  obtain ⟨fb, hfb⟩ : ∃ fb, (ks.length == 0) = fb := ⟨_, rfl⟩
  have e1 : ((N : Int) == 0) = fb := by
   rw [← hfb, ← hN, hks, Bool.eq_iff_iff]
   simp
  rw [hfb] at HE
  rw [hN] at HO ⊢
  have hNj : N ≤ j + 2 := by omega
  have HKS := hid (show ks.length = N by omega)
  have HN := hid hN
  have HM := hid (qmore_any r q A cap l j c fb wr hqr hj hl)
  obtain ⟨M, hM⟩ : ∃ M, moreQ (bare l) j c fb = M := ⟨_, rfl⟩
  rw [hM] at HM
  clear hown hall hbut hqr hks hN hfb
  cases hm1 : M.1 with
  | false =>
   have hst := loop_stop (el := el) (f := f) (by omega) (by rw [hM]; exact hm1)
   rw [hst, hM] at HE
   rw [hm1] at HM
   have HEE := hid (show R = (ks, M.2) by rw [HE.out]; simp)
   clear hst HE hm1 hM
   go_wp2_with fail
   refine HM.out.mono ?_
   rintro e w1 ⟨rfl, hb1, hr1⟩
   have O1 := hid (own_but HO.out hb1 (by omega))
   have A1 := hid (HA.out.apart zr hb1)
   have B1 := hid (HB.out.trans hb1)
   have R1 := hid hr1
   clear hb1 hr1
   go_wp2
   go_ret
   have hg := getL_own (xs := xs) (by rw [HN.out]; exact O1.out) A1.out B1.out R1.out
   rw [HN.out] at hg
   rw [HEE.out]
   exact hg
  | true =>
   obtain ⟨f', rfl, hf', hjl, rfl, hM2, hgo⟩ := loop_go (el := el) (by rw [bare_length]; exact hf) (by rw [hM]; exact hm1)
   rw [bare_length] at hf' hjl
   rw [hM] at hM2
   rw [hM2, hm1] at HM
   have HE2 := hid (show R = (ks ++ [(el (j + 1) false).1] ++ (loopQ (bare l) (el) f' false (el (j + 1) false).2.1 (el (j + 1) false).2.2).1, (loopQ (bare l) (el) f' false (el (j + 1) false).2.1 (el (j + 1) false).2.2).2) by
    rw [HE.out, hgo]
    simp)
   have E1 := HEN.out (j + 1) false (by rw [bare_length]; omega)
   obtain ⟨p0, hp0⟩ : ∃ p0, el (j + 1) false = p0 := ⟨_, rfl⟩
   rw [hp0] at HE2 E1
   have H1 := hid (fun (w' : World) (h' : QRd w' r q A cap l (j + 1) false) => HQQ.out (j + 1) false w' (by omega) (by omega) h')
   rw [hp0] at H1
   unfold GetN at H1
   have hp1 : j + 1 ≤ p0.2.1 := E1.1
   have hp2 : p0.2.1 ≤ l.length := by have := E1.2.1; rw [bare_length] at this; exact this
   have HP := hid (And.intro hp1 hp2)
   clear hgo HE hm1 hM hM2 hp0 E1 hp1 hp2
   go_wp2_with fail
   refine HM.out.mono ?_
   rintro e w1 ⟨rfl, hb1, hr1⟩
   have O1 := hid (own_but HO.out hb1 (by omega))
   have A1 := hid (HA.out.apart zr hb1)
   have B1 := hid (HB.out.trans hb1)
   have R1 := hid (show QRd w1 r q A cap l (j + 1) false from hr1)
   clear hb1 hr1 HM
   go_wp2_with fail
   refine (H1.out _ R1.out).mono ?_
   rintro e w4 ⟨op, tx, Y, n, k, rfl, hI, hb4, hr4⟩
   have hz4 := hb4.size
   have hz3 := B1.out.size
   have O4 := hid (own_but O1.out hb4 (by omega))
   have A4 := hid (A1.out.apart zr hb4)
   have B4 := hid (B1.out.trans hb4)
   have R4 := hid hr4
   have OB := hid (own_block O1.out)
   have I4 := hid hI
   clear hb4 hr4 hI H1
   go_wp2_with (at_builtin; refine wpList_append_lies _ rfl _ _ _ rfl w.heap.size 24 i0 _ 3 56 Tryz.underlying22 hi0 hz0 hz1 hz2 rfl (by omega) _ N (flatC nc xs) rfl ?ca ⟨w4.heap.size, 0, none⟩ 1 1 [.string op, .string tx, .slice Y n k] rfl rfl ?cn ?co (by omega) ?cm ?cb ?cs (w4.heap.size + 1) ?ch ?_)
   case ca => exact own_call O4.out (below_alloc _ _)
   case cn => exact World.news_of_block (heap_alloc_new w4 _)
   case co => exact nc_one (op, tx, Y, n, k)
   case cm => unfold maxLen; omega
   case cb => omega
   case cs => simp; omega
   case ch => simp
   intro gg cap9 w9 hown9 hgrow hat hlt9
   obtain ⟨W8, hW8⟩ : ∃ W8, w4.alloc (.cells #[.string op, .string tx, .slice Y n k] 24) = W8 := ⟨_, rfl⟩
   have hz8 : W8.heap.size = w4.heap.size + 1 := by rw [← hW8]; simp
   have BA := hid (show Below w4.heap.size w4 W8 by rw [← hW8]; exact (Below.refl _ _).alloc (Nat.le_refl _) _)
   rw [hW8] at hgrow
   have L9 := hid (linv_next (l := l) (A := A) (cap := cap) (R := R) (el := el) (f := f') (j := p0.2.1) (c := p0.2.2) (y := (op, tx, Y, n, k)) zr zq HN.out (own_call O4.out BA.out) hown9 hgrow (by rw [hz8]; exact hat) (A4.out.apart zr (But.of BA.out r)) (I4.out.bel (fun g hg => hg.2) BA.out) (fun g hg => ⟨by have := hg.1; omega, by have := hg.2; omega, fun ad e => by have := (OB.out ad e).2; have := hg.1; omega⟩) HP.out.2 (by have := HP.out.1; omega) (by have := HP.out.1; have := HKS.out; omega) HE2.out (B4.out.next BA.out) (R4.out.below BA.out))
   clear hown9 hgrow hat hlt9 hW8
   have hat9 := atq L9.out.2
   have hat0 := HAT.out
   have hp1 := HP.out.1
   go_wp2
   go_roundw
   case rel => exact ⟨L9.out.1, by rw [hat9]; omega⟩
   case measure => omega
end Go.Proofs.YthpmgnfmeldkjaaGreatDoor.Code
