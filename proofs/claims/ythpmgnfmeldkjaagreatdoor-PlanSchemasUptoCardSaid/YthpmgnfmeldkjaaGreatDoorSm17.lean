/-
  What a group's plan gets.
-/
import Derived.Test.YthpmgnfmeldkjaaGreatDoorSm16
import Derived.Maps.OwnOps
import Derived.Maps.OwnSet
set_option maxRecDepth 100000
set_option maxHeartbeats 16000000
set_option linter.unusedVariables false
set_option linter.unusedSimpArgs false
open Go.Lib (hid)
namespace Go.Proofs.YthpmgnfmeldkjaaGreatDoor.Code
open Go.ChangeShapes Go.WideShapes Go.ChangeAt Go.RowKit Val Elems
theorem info_intG : (Tryz.prog.info? 3).map (fun i => (i.zero, i.size, i.bytes)) = some (some (.int .i64 0), 1, 8) := by kernel_rfl
theorem info_aggG : (Tryz.prog.info? 82).map (fun i => (i.zero, i.size, i.bytes)) = some (some (.agg #[.string ByteArray.empty, .int .i64 0]), 2, 24) := by kernel_rfl
def plGroupR (c0 : List W) (ks : List Nod) (ps : List Pl) : Pl × Int :=
 (.mk sGroup [] [] [] (byP c0 (nthN ks 1).ks).1 (aggsP c0 (ks.drop 2)).1 ((byP c0 (nthN ks 1).ks).2.1 ++ (aggsP c0 (ks.drop 2)).2.1) ps, if (byP c0 (nthN ks 1).ks).2.2 ≠ 0 then (byP c0 (nthN ks 1).ks).2.2 else (aggsP c0 (ks.drop 2)).2.2)
theorem by_some {c0 : List W} {t : Nod} {x : Nat} (h : findC c0 t.tx = some x) (hx : x < c0.length) : byOne c0 t = (((x : Int), c0[x]), 0) := by
 unfold byOne
 rw [h]
 simp only [List.getD_eq_getElem?_getD, List.getElem?_eq_getElem hx, Option.getD_some]
theorem by_no {c0 : List W} {t : Nod} (h : findC c0 t.tx = none) : (byOne c0 t).2 = 121 := by
 unfold byOne
 rw [h]
theorem take_len {α β : Type} (f : α → β) (l : List α) (i : Nat) (h : i ≤ l.length) : ((l.take i).map f).length = i := by rw [List.length_map, List.length_take]; omega
theorem group_any (B : Nat) (S Sn : Nat → Prop) (g : Nat) (co ki : Sl) (c0 : List W) (ps : List Pl) (t : Nod) (op tx : ByteArray) (X : Option Addr) (n k : Nat) (w : World) (hB : B ≤ w.heap.size) (hSn : ∀ b, Sn b → b < B) (hn : RIn w Sn t (op, tx, X, n, k)) (hlen : 3 ≤ t.ks.length) (hon : ∀ x ∈ t.ks.drop 2, x.ks.length = 1)
  (hp : FPre B S w g ⟨sGroup.toArray⟩ co ki c0) (hla : c0.length ≤ 100000) (htot : t.tot ≤ 4194304) :
  Calls Tryz.prog 58 #[.pointer (some ⟨g, 0, none⟩), .agg #[.string op, .string tx, .slice X n k]] w (FPost B S g ki w (plGroupR c0 t.ks ps)) := by
 obtain ⟨eo, et, en, hkl⟩ := hn.texts
 dsimp only at eo et en
 have hcap := hn.cap
 dsimp only at hcap
 subst en
 obtain ⟨w0, hw0⟩ : ∃ w0, w.alloc (.cells #[.string op, .string tx, .slice X t.ks.length k] 24) = w0 := ⟨_, rfl⟩
 have B0 := hid (show Below w.heap.size w w0 by rw [← hw0]; exact below_alloc w _)
 have N0 := hid (show NBox w0 w.heap.size (.string op) (.string tx) (.slice X t.ks.length k) by rw [← hw0]; exact NBox.fresh _ _ _ _ _)
 have hSw : ∀ b, Sn b → b < w.heap.size := fun b hb => Nat.lt_of_lt_of_le (hSn b hb) hB
 obtain ⟨c1, c2, c3⟩ := co
 have hc2 := hp.cl
 dsimp only at hc2
 subst hc2
 have HBOX := hid hp.box
 have hgw := hp.box.lt
 have HSP := hid hp.sl
 have hlo := hp.lo
 have HKB := hid (fun (w' : World) (hb : But w w' g) (p : Addr) (h : S p.block) => hb.cell (q := p) (HSP.out _ h).1 (HSP.out _ h).2)
 have HAA := hid (fun (w' : World) (hb : But w w' g) => show At wc 3 w' w'.heap.size c1 c0 by
  have h1 := own_butR hp.own hb (fun e => (hp.ob g e).2 rfl)
  obtain ⟨A, cap, e, hat⟩ := own_at wc_length h1
  injection e with e
  have e' : A = c1 := e.symm
  subst e'
  exact hat)
 have HNL := hid (fun (w' : World) (hb : But w w' g) => hn.nls.keep (fun _ h => h) (fun p h => hb.cell (q := p) (hSw _ h) (by have := hSn _ h; omega)))
 have HSS := hid (fun (w' : World) (hb : But w w' g) (b : Nat) (h : Sn b) => Nat.lt_of_lt_of_le (hSw b h) hb.size)
 obtain ⟨ad9, ⟨ko, kt, kX, kn, km⟩, eX, hSX, -, -, k2, hk1⟩ := hn.nls 1 (by omega)
 dsimp only at eX k2
 rw [show ad9.add (1 * 3) = (⟨ad9.block, ad9.off + 3, none⟩ : Addr) from rfl] at k2
 dsimp only at k2
 subst eX
 have hnth1 : nthN t.ks 1 = t.ks[1] := by unfold nthN; rw [List.getD_eq_getElem?_getD, List.getElem?_eq_getElem (by omega), Option.getD_some]
 rw [← hnth1] at hk1
 have hkn := hk1.texts.2.2.1
 dsimp only at hkn
 subst hkn
 have HN1 := hid (fun (w' : World) (hb : But w w' g) => hk1.nls.keep (fun _ h => h) (fun p h => hb.cell (q := p) (hSw _ h) (by have := hSn _ h; omega)))
 dsimp only at HN1
 obtain ⟨L1, hL1⟩ : ∃ L, (nthN t.ks 1).ks = L := ⟨_, rfl⟩
 rw [hL1] at HN1 k2
 obtain ⟨L2, hL⟩ : ∃ L, t.ks.drop 2 = L := ⟨_, rfl⟩
 have hLl : t.ks.length - 2 = L2.length := by rw [← hL, List.length_drop]
 have HNL2 := hid (fun (w' : World) (hb : But w w' g) => hL ▸ (HNL.out w' hb).drop 2)
 obtain ⟨a6, ha6⟩ : ∃ a6, ad9.add (2 * 3) = a6 := ⟨_, rfl⟩
 rw [ha6] at HNL2
 have HSL : ∀ w, (Instr.slice 22 (.slice (some ad9) t.ks.length k) (some (.int .i64 2)) none none).run Tryz.prog w = .ok (.slice (some a6) L2.length (k - 2)) w := fun w => by rw [← hLl, ← ha6]; exact cut_nodes ad9 t.ks.length k 2 (by omega) hcap w
 have HSW := hid (fun (b : Nat) (h : Sn b) => (show b < w.heap.size ∧ b ≠ g from ⟨hSw b h, by have := hSn b h; omega⟩))
 rw [hL] at hon
 have HON := hid hon
 have htk : Nod.totL t.ks ≤ 4194304 := Nat.le_trans (totL_ks t) htot
 have htl : Nod.totL L2 ≤ 4194304 := by rw [← hL]; exact Nat.le_trans (totL_drop _ _) htk
 have hLb2 : L2.length ≤ 4194304 := Nat.le_trans (nodtot_len L2) htl
 have hLb1 : L1.length ≤ 4194304 := by
  rw [← hL1, hnth1]
  exact Nat.le_trans (nodtot_len _) (Nat.le_trans (totL_ks _) (Nat.le_trans (tot_mem (List.getElem_mem (by omega : 1 < t.ks.length))) htk))
 unfold FPost plGroupR
 rw [hL, hL1, by_each, agg_each]
 dsimp only
 obtain ⟨R1, hR1⟩ : ∃ R, eachL (byOne c0) L1 = R := ⟨_, rfl⟩
 rw [hR1]
 have HR1 := hid hR1
 obtain ⟨R2, hR2⟩ : ∃ R, eachL (aggOne c0) L2 = R := ⟨_, rfl⟩
 rw [hR2]
 have HR2 := hid hR2
 obtain ⟨RL1, RC1⟩ := R1
 obtain ⟨RL2, RC2⟩ := R2
 dsimp only
 obtain ⟨RC, hRC⟩ : ∃ R, (if RC1 ≠ 0 then RC1 else RC2) = R := ⟨_, rfl⟩
 rw [hRC]
 have HRC := hid hRC
 have HW0 := hid hw0
 have bi1 : 1 < t.ks.length := by omega
 have bi2 : (1 : Int) < (t.ks.length : Int) := by omega
 have hadw := HSW.out _ hSX
 clear hn hp hR1 hR2 hRC hw0 hSw hSn hL hL1 hLl ha6 hcap hon eo et hkl hlen HNL htl htk htot hk1 hnth1 hSX
 have p2 := (HBOX.out.below B0.out).c2
 have pf := (HBOX.out.below B0.out).fr
 have hg0 := (HBOX.out.below B0.out).lt
 dsimp only at p2
 go_enter Tryz.func58, Tryz.ntmps58
 go_upto_region 1 with fail
 rw [HW0.out]
 obtain ⟨w1, hw1⟩ : ∃ w1, w0.setCell ⟨g, 2, none⟩ (.slice none 0 0) = w1 := ⟨_, rfl⟩
 have J1 := hid (show But w w1 g by rw [← hw1]; exact (But.of B0.out g).setCell 2 _)
 have PB1 := hid (show PBox w1 g ⟨⟨sGroup.toArray⟩, ⟨#[]⟩, zSl, ki, zSl, zSl, zSl, zSl⟩ by rw [← hw1]; exact (HBOX.out.below B0.out).set2 zSl)
 have N1 := hid (show NBox w1 w.heap.size (.string op) (.string tx) (.slice (some ad9) t.ks.length k) by
  rw [← hw1]
  have hne : ∀ j, (⟨w.heap.size, j, none⟩ : Addr) ≠ ⟨g, 2, none⟩ := fun j e => by injection e with e; omega
  exact ⟨(World.cell?_setCell_other _ _ _ _ (fun e => hne 0 e.symm)).trans N0.out.c0, (World.cell?_setCell_other _ _ _ _ (fun e => hne 1 e.symm)).trans N0.out.c1, (World.cell?_setCell_other _ _ _ _ (fun e => hne 2 e.symm)).trans N0.out.c2, fun j => by rw [World.frozen?_setCell]; exact N0.out.fr j⟩)
 have C81 := hid (show w1.cell? ⟨g, 8, none⟩ = w.cell? ⟨g, 8, none⟩ by rw [← hw1, World.cell?_setCell_other _ _ _ _ (by simp)]; exact B0.out.cell (p := ⟨g, 8, none⟩) hgw)
 have HW1 := hid hw1
 clear hw1
 go_upto_region 3 with fail
 rw [HW1.out]
 clear p2 pf hg0
 obtain ⟨x0, x1, x2, xf⟩ := N1.out
 have k2' := (J1.out.cell (q := ⟨ad9.block, ad9.off + 3 + 2, none⟩) hadw.1 hadw.2).trans k2
 have HBAD := hid (show ∀ w', But w w' g → Below B w w' ∧ ∀ p : Addr, S p.block → w'.cell? p = w.cell? p from fun w' hb => ⟨hb.below hB hlo, HKB.out w' hb⟩)
 have ST1 := hid (show PgI w1 w1 g ki [] [] [] zSl zSl zSl from ⟨But.refl _ _, PB1.out, World.ownsRow_nil _ _ _ _, World.ownsRow_nil _ _ _ _, World.ownsRow_nil _ _ _ _, rfl, rfl, rfl, rfl⟩)
 have hz1 : w.heap.size < w1.heap.size := N1.out.lt
 have NK := hid (show ∀ w', But w1 w' g → w'.cell? ⟨w.heap.size, 2, none⟩ = some (.slice (some ad9) t.ks.length k) from fun w' hb => (hb.cell (q := ⟨w.heap.size, 2, none⟩) hz1 (by show w.heap.size ≠ g; omega)).trans N1.out.c2)
 obtain ⟨i1, hi1, hy0, hy1, hy2⟩ := info_parts info_intG
 obtain ⟨i2, hi2, hq0, hq1, hq2⟩ := info_parts info_col
 obtain ⟨i3, hi3, hr0, hr1, hr2⟩ := info_parts info_aggG
 go_wp2
 clear x0 x1 x2 xf k2 k2'
 go_loopw [28] (fun v wr => ∃ (i : Nat) (sB sC : Sl), i ≤ L1.length ∧ v = .int .i64 i ∧ (∀ j (hj : j < L1.length), j < i → (byOne c0 L1[j]).2 = 0) ∧ PgI w1 wr g ki ((L1.take i).map fun t => (byOne c0 t).1.1) [] ((L1.take i).map fun t => (byOne c0 t).1.2) sB zSl sC) (fun v _ => L1.length - (intOf v).toNat)
 case atStart => exact ⟨0, zSl, zSl, by omega, rfl, fun j _ h => absurd h (by omega), by rw [List.take_zero]; exact ST1.out⟩
 case round =>
  obtain ⟨i, sB, sC, hi, rfl, hno, hpg⟩ := hrel
  obtain ⟨e1, e2, e3⟩ := sB
  obtain ⟨d1, d2, d3⟩ := sC
  obtain rfl : i = e2 := by have h := hpg.lb; rw [take_len _ _ _ hi] at h; exact h.symm
  obtain rfl : i = d2 := by have h := hpg.lc; rw [take_len _ _ _ hi] at h; exact h.symm
  have HNO := hid hno
  have HPG := hid hpg
  have hbut := J1.out.trans hpg.but
  have HBT := hid hbut
  by_cases hil : i < L1.length
  ·obtain ⟨a7, ⟨yo, yt, yX, yn, ym⟩, e7, hS7, q0, q1, q2, hry⟩ := (HN1.out wr hbut) i hil
   dsimp only at e7 q0 q1 q2
   subst e7
   have hyt := hry.texts.2.1
   dsimp only at hyt
   have hw7 := (HSW.out _ hS7).1
   have hzw := hbut.size
   have hz1r := hpg.but.size
   obtain ⟨w6, hw6⟩ : ∃ w6, wr.alloc (.cells #[.string yo, .string yt, .slice yX yn ym] 24) = w6 := ⟨_, rfl⟩
   have B6 := hid (show Below wr.heap.size wr w6 by rw [← hw6]; exact below_alloc wr _)
   have V6 := hid (show NBox w6 wr.heap.size (.string yo) (.string yt) (.slice yX yn ym) by rw [← hw6]; exact NBox.fresh _ _ _ _ _)
   have J6 := hid (HBT.out.next B6.out)
   have HTX := hid (show L1[i].tx = yt.data.toList by rw [hyt])
   have HF := hid (sfind_any c1 c3 c0 yt w6 (HAA.out w6 J6.out) (by omega))
   unfold FindPost at HF
   have HW6 := hid hw6
   obtain ⟨zf, hzf⟩ : ∃ z, findZ c0 yt.data.toList = z := ⟨_, rfl⟩
   obtain ⟨mf, hmf⟩ : ∃ m, max zf 0 = m := ⟨_, rfl⟩
   obtain ⟨bf9, hbf⟩ : ∃ b, decide (0 ≤ zf) = b := ⟨_, rfl⟩
   rw [hzf, hmf, hbf] at HF
   have HZF := hid hzf
   have HMF := hid hmf
   have HBF := hid hbf
   clear hry hyt hno hpg hbut hw6 hzf hmf hbf
   go_upto_region 6 with fail
   rw [HW6.out]
   clear q0 q1 q2
   obtain ⟨v0, v1, v2, vf⟩ := V6.out
   go_wp2_with fail
   refine HF.out.mono ?_
   rintro e w7 ⟨rfl, hb7⟩
   have L7 := hid (B6.out.trans (hb7.mono B6.out.size))
   have J7 := hid (HBT.out.next L7.out)
   clear HF hb7 v0 v1 v2 vf
   cases hfi : findC c0 yt.data.toList with
   | none =>
    have hb : bf9 = false := by rw [← HBF.out, ← HZF.out, findZ_neg hfi]; rfl
    subst hb
    have hr : RC = 121 := by
     have h2 := by_no (t := L1[i]) (c0 := c0) (by rw [HTX.out]; exact hfi)
     have hb := each_bad (byOne c0) L1 i hil HNO.out (by rw [h2]; decide)
     rw [HR1.out, h2] at hb
     have h3 : RC1 = 121 := congrArg Prod.snd hb
     rw [← HRC.out, h3, if_pos (by decide)]
    subst hr
    have HE := hid (HBAD.out w7 J7.out)
    clear hfi
    go_wp2
    go_ret
    exact ⟨rfl, HE.out.1, HE.out.2, fun h => absurd h (by decide)⟩
   | some x =>
    obtain ⟨hx, -, -⟩ := find_some hfi
    have hb : bf9 = true := by rw [← HBF.out, ← HZF.out, findZ_pos hfi]; simp
    have hm : mf = (x : Int) := by rw [← HMF.out, ← HZF.out, findZ_pos hfi]; omega
    subst hb hm
    have HBY := hid (by_some (t := L1[i]) (c0 := c0) (by rw [HTX.out]; exact hfi) hx)
    have PB7 := hid (HPG.out.box.below L7.out)
    obtain ⟨p0, p1, p2, p3, p4, p5, p6, p7, pf⟩ := PB7.out
    dsimp only at p6
    clear p0 p1 p2 p3 p4 p5 p7 hfi
    have hg7 := PB7.out.lt
    have hz11 : w1.heap.size ≤ w7.heap.size := Nat.le_trans hz1r L7.out.size
    have L8 := hid (show Below w7.heap.size w7 (w7.alloc (.cells #[.int .i64 (x : Int)] 3)) from below_alloc w7 _)
    have O8 := hid (show (w7.alloc (.cells #[.int .i64 (x : Int)] 3)).ownsRow w1.heap.size 3 1 (.slice e1 i e3) i (flatC kc ((L1.take i).map fun t => (byOne c0 t).1.1)) by
     have h := own_call (own_call HPG.out.ownB L7.out) L8.out
     rw [take_len _ _ _ hi] at h
     exact h)
    have N8 := hid (show ∀ (j : Nat) (u : Value), [Value.int .i64 (x : Int)][j]? = some u → (w7.alloc (.cells #[.int .i64 (x : Int)] 3)).cell? ((⟨w7.heap.size, 0, none⟩ : Addr).add j) = some u from
     World.news_of_block (cs := #[.int .i64 (x : Int)]) (t := 3) (fr := (0, 0)) (heap_alloc_new w7 _))
    have E8 := hid (show ∀ (gg2 cap12 : Nat) (w12 : World), w12.ownsRow w1.heap.size 3 1 (.slice (some ⟨gg2, 0, none⟩) (i + 1) cap12) (i + 1) (flatC kc ((L1.take i).map fun t => (byOne c0 t).1.1) ++ [.int .i64 (x : Int)]) → (w7.alloc (.cells #[.int .i64 (x : Int)] 3)).grownBy w12 (Value.slice e1 i e3).ownBlock →
      PgI w1 (w12.setCell ⟨g, 6, none⟩ (.slice (some ⟨gg2, 0, none⟩) (i + 1) cap12)) g ki ((L1.take (i + 1)).map fun t => (byOne c0 t).1.1) [] ((L1.take i).map fun t => (byOne c0 t).1.2) (some ⟨gg2, 0, none⟩, i + 1, cap12) zSl (d1, i, d3) from fun gg2 cap12 w12 h1 h2 => by
     have hh := HPG.out.appB (Nat.lt_of_lt_of_le hgw J1.out.size) (L7.out.trans (L8.out.mono L7.out.size)) (x : Int) (gg := gg2) (cap := cap12) (w10 := w12) (by rw [take_len _ _ _ hi]; exact h1) h2
     rw [take_len _ _ _ hi] at hh
     rw [map_take _ _ _ hil, HBY.out]
     exact hh)
    obtain ⟨XS, hXS⟩ : ∃ XS, flatC kc ((L1.take i).map fun t => (byOne c0 t).1.1) = XS := ⟨_, rfl⟩
    rw [hXS] at O8 E8
    clear hXS
    go_wp2_with (at_builtin; refine wpList_append_lies _ rfl _ _ _ rfl w1.heap.size 3 i1 _ 1 8 Tryz.underlying32 hi1 hy0 hy1 hy2 rfl (by omega) _ i XS rfl ?ca ⟨w7.heap.size, 0, none⟩ 1 1 [.int .i64 (x : Int)] rfl rfl ?cn ?co (by omega) ?cm ?cb ?cz9 (w7.heap.size + 1) ?ch ?_)
    case ca => exact O8.out
    case cn => exact N8.out
    case co =>
     intro u hu
     simp at hu
     subst hu
     rfl
    case cm => unfold maxLen; omega
    case cb => omega
    case cz9 => simp; omega
    case ch => simp
    intro gg cap9 w10 hown10 hgrow10 hat10 hlt10
    have hr10 := (fun j e => (O8.out.lt j e).1 : ∀ j, (Value.slice e1 i e3).ownBlock = some j → w1.heap.size ≤ j)
    have PJ10 := hid (E8.out gg cap9 w10 hown10 hgrow10)
    have y10 := (grown_cell hgrow10 ⟨g, 6, none⟩ (by show g < _; simp; omega) (fun e => by have := hr10 g e.symm; omega)).trans ((L8.out.cell (p := ⟨g, 6, none⟩) hg7).trans p6)
    have f10 : ∀ j, w10.frozen? ⟨g, j, none⟩ = false := fun j => (World.frozen?_of_block (a := ⟨g, j, none⟩) (hgrow10.block g (by simp; omega) (fun e => by have := hr10 g e.symm; omega))).trans ((L8.out.frozen (p := ⟨g, j, none⟩) hg7).trans (pf j))
    clear p6 pf hown10 hgrow10 hat10 hlt10 hr10
    obtain ⟨ax, eAx, hax, m0, m1, m2⟩ := at_word (HAA.out _ (J1.out.trans PJ10.out.but)) x hx
    subst eAx
    obtain ⟨cy, hcy⟩ : ∃ c, c0[x] = c := ⟨_, rfl⟩
    rw [hcy] at m0 m1 m2 HBY
    obtain ⟨y1, y2, y3⟩ := cy
    dsimp only at m0 m1 m2
    clear hcy
    have bi3 : (0 : Int) ≤ (x : Int) := by omega
    have bi4 : (x : Int) < (c0.length : Int) := by omega
    go_upto_region 10 with fail
    obtain ⟨w11, hw11⟩ : ∃ w11, w10.setCell ⟨g, 6, none⟩ (.slice (some ⟨gg, 0, none⟩) (i + 1) cap9) = w11 := ⟨_, rfl⟩
    rw [hw11] at PJ10 m0 m1 m2
    rw [hw11]
    clear y10 f10 hw11
    have PB11 := hid PJ10.out.box
    have hg11 := PB11.out.lt
    have hz12 : w1.heap.size ≤ w11.heap.size := PJ10.out.but.size
    obtain ⟨p0, p1, p2, p3, p4, p5, p6, p7, pf⟩ := PB11.out
    dsimp only at p2
    clear p0 p1 p3 p4 p5 p6 p7
    have L12 := hid (show Below w11.heap.size w11 (w11.drew.alloc (.cells #[.int .i64 y1, .string ⟨y2.toArray⟩, .int .i64 y3] 54)) from (Below.drew (Below.refl _ _)).alloc (Nat.le_refl _) _)
    have O12 := hid (show (w11.drew.alloc (.cells #[.int .i64 y1, .string ⟨y2.toArray⟩, .int .i64 y3] 54)).ownsRow w1.heap.size 54 3 (.slice d1 i d3) i (flatC wc ((L1.take i).map fun t => (byOne c0 t).1.2)) by
     have h := own_call PJ10.out.ownC L12.out
     rw [take_len _ _ _ hi] at h
     exact h)
    have N12 := hid (show ∀ (j : Nat) (u : Value), [Value.int .i64 y1, Value.string ⟨y2.toArray⟩, Value.int .i64 y3][j]? = some u → (w11.drew.alloc (.cells #[.int .i64 y1, .string ⟨y2.toArray⟩, .int .i64 y3] 54)).cell? ((⟨w11.heap.size, 0, none⟩ : Addr).add j) = some u from
     World.news_of_block (cs := #[.int .i64 y1, .string ⟨y2.toArray⟩, .int .i64 y3]) (t := 54) (fr := (0, 0)) (heap_alloc_new w11.drew _))
    have E12 := hid (show ∀ (gg2 cap12 : Nat) (w12 : World), w12.ownsRow w1.heap.size 54 3 (.slice (some ⟨gg2, 0, none⟩) (i + 1) cap12) (i + 1) (flatC wc ((L1.take i).map fun t => (byOne c0 t).1.2) ++ [.int .i64 y1, .string ⟨y2.toArray⟩, .int .i64 y3]) → (w11.drew.alloc (.cells #[.int .i64 y1, .string ⟨y2.toArray⟩, .int .i64 y3] 54)).grownBy w12 (Value.slice d1 i d3).ownBlock →
      PgI w1 (w12.setCell ⟨g, 2, none⟩ (.slice (some ⟨gg2, 0, none⟩) (i + 1) cap12)) g ki ((L1.take (i + 1)).map fun t => (byOne c0 t).1.1) [] ((L1.take (i + 1)).map fun t => (byOne c0 t).1.2) (some ⟨gg, 0, none⟩, i + 1, cap9) zSl (some ⟨gg2, 0, none⟩, i + 1, cap12) from fun gg2 cap12 w12 h1 h2 => by
     have hh := PJ10.out.appC (Nat.lt_of_lt_of_le hgw J1.out.size) L12.out (y1, y2, y3) (gg := gg2) (cap := cap12) (w10 := w12) (by rw [take_len _ _ _ hi]; exact h1) h2
     rw [take_len _ _ _ hi] at hh
     rw [map_take (fun t => (byOne c0 t).1.2) _ _ hil, HBY.out]
     exact hh)
    obtain ⟨XT, hXT⟩ : ∃ XT, flatC wc ((L1.take i).map fun t => (byOne c0 t).1.2) = XT := ⟨_, rfl⟩
    rw [hXT] at O12 E12
    clear hXT
    have HNO2 := hid (show ∀ j (hj : j < L1.length), j < i + 1 → (byOne c0 L1[j]).2 = 0 from fun j hj h2 => if e : j = i then by subst e; rw [HBY.out] else HNO.out j hj (by omega))
    go_region_law (first
     | (refine step_append_lies _ (by rfl) _ _ _ (by rfl) w1.heap.size 54 i2 _ 3 32 Tryz.underlying29 hi2 hq0 hq1 hq2 rfl (by omega) (.slice d1 i d3) i XT (by rfl) O12.out ⟨w11.heap.size, 0, none⟩ 1 1 [.int .i64 y1, .string ⟨y2.toArray⟩, .int .i64 y3] (by rfl) (by rfl) N12.out (by intro u hu; simp at hu; rcases hu with rfl | rfl | rfl <;> rfl) (by omega) (by unfold maxLen; omega) (by omega) (by simp; omega) (w11.heap.size + 1) (by simp) ?_; intro gg2 cap12 w12 hown12 hgrow12 hat12 hlt12; have PJ12 := hid (E12.out gg2 cap12 w12 hown12 hgrow12); have hr12 := (fun j e => (O12.out.lt j e).1 : ∀ j, (Value.slice d1 i d3).ownBlock = some j → w1.heap.size ≤ j); have y12 := (grown_cell hgrow12 ⟨g, 2, none⟩ (by show g < _; simp; omega) (fun e => by have := hr12 g e.symm; omega)).trans ((L12.out.cell (p := ⟨g, 2, none⟩) hg11).trans p2); have f12 : ∀ j, w12.frozen? ⟨g, j, none⟩ = false := fun j => (World.frozen?_of_block (a := ⟨g, j, none⟩) (hgrow12.block g (by simp; omega) (fun e => by have := hr12 g e.symm; omega))).trans ((L12.out.frozen (p := ⟨g, j, none⟩) hg11).trans (pf j))))
    all_goals
     clear hown12 hgrow12 hat12 hlt12 y12 f12 hr12 p2 pf m0 m1 m2
     go_wp2
     go_roundw
     case rel => exact ⟨i + 1, _, _, by omega, by go_num, HNO2.out, PJ12.out⟩
     case measure => simp [intOf]; omega
  ·obtain rfl : i = L1.length := by omega
   have hRe := each_ok (byOne c0) L1 (fun j hj => HNO.out j hj hj)
   rw [HR1.out] at hRe
   have hc : RC1 = 0 := congrArg Prod.snd hRe
   have hc2 : RL1 = L1.map fun t => (byOne c0 t).1 := congrArg Prod.fst hRe
   have hrc : RC = RC2 := by rw [← HRC.out, if_neg (by simp [hc])]
   subst hrc
   rw [List.take_length] at hpg
   obtain ⟨XB, hXB⟩ : ∃ X, (L1.map fun t => (byOne c0 t).1.1) = X := ⟨_, rfl⟩
   obtain ⟨XC, hXC⟩ : ∃ X, (L1.map fun t => (byOne c0 t).1.2) = X := ⟨_, rfl⟩
   have HX1 := hid (show RL1.map (fun x => x.1) = XB by rw [hc2, List.map_map, ← hXB]; rfl)
   have HX2 := hid (show RL1.map (fun x => x.2) = XC by rw [hc2, List.map_map, ← hXC]; rfl)
   have HXL := hid (show XC.length = L1.length by rw [← hXC, List.length_map])
   rw [hXB, hXC] at hpg
   have ST2 := hid hpg
   have x2 := NK.out wr hpg.but
   clear hc hc2 hRe hno hbut hpg hXB hXC HNO HPG HBT HR1 HRC HN1
   go_wp2
   clear x2
   go_loopw [69] (fun v wr => ∃ (i : Nat) (sA sC : Sl), i ≤ L2.length ∧ v = .int .i64 i ∧ (∀ j (hj : j < L2.length), j < i → (aggOne c0 L2[j]).2 = 0) ∧ PgI w1 wr g ki XB ((L2.take i).map fun t => (aggOne c0 t).1.1) (XC ++ (L2.take i).map fun t => (aggOne c0 t).1.2) (e1, L1.length, e3) sA sC) (fun v _ => L2.length - (intOf v).toNat)
   case atStart => exact ⟨0, zSl, (d1, L1.length, d3), by omega, rfl, fun j _ h => absurd h (by omega), by rw [List.take_zero, List.map_nil, List.map_nil, List.append_nil]; exact ST2.out⟩
   case round =>
    clear ST2
    obtain ⟨i, sA, sC, hi, rfl, hno, hpg⟩ := hrel
    obtain ⟨b1, b2, b3⟩ := sA
    obtain ⟨f1, f2, f3⟩ := sC
    obtain rfl : i = b2 := by have h := hpg.la; rw [take_len _ _ _ hi] at h; exact h.symm
    have HLC := hid (show (XC ++ (L2.take i).map fun t => (aggOne c0 t).1.2).length = L1.length + i by rw [List.length_append, take_len _ _ _ hi, HXL.out])
    obtain rfl : L1.length + i = f2 := by have h := hpg.lc; rw [HLC.out] at h; exact h.symm
    have HNO := hid hno
    have HPG := hid hpg
    have hbut := J1.out.trans hpg.but
    have HBT := hid hbut
    by_cases hil : i < L2.length
    ·have hon1 := HON.out L2[i] (List.getElem_mem hil)
     obtain ⟨a7, ⟨yo, yt, yX, yn, ym⟩, e7, hS7, q0, q1, q2, hry⟩ := (HNL2.out wr hbut) i hil
     obtain rfl := Option.some.inj e7
     dsimp only at q0 q1 q2
     obtain ⟨z9, ⟨zo, zt, zX, zn, zm⟩, eZ, hS8, s0, s1, s2, hrz⟩ := hry.kid 0 (by rw [hon1]; omega)
     have hyt := hry.texts.2.1
     have hyn := hry.texts.2.2.1
     have hzo := hrz.texts.1
     dsimp only at eZ s0 s1 s2 hyt hyn hzo
     subst eZ
     rw [show z9.add (0 * 3) = z9 from rfl] at s0 s1 s2
     rw [hon1] at hyn
     subst hyn
     have hnth : nthN L2[i].ks 0 = L2[i].ks[0]'(by rw [hon1]; omega) := by unfold nthN; rw [List.getD_eq_getElem?_getD, List.getElem?_eq_getElem (by rw [hon1]; omega), Option.getD_some]
     rw [← hnth] at hrz hzo
     have hw7 := (HSW.out _ hS7).1
     have hw8 := (HSW.out _ hS8).1
     have hzw := hbut.size
     have hz1r := hpg.but.size
     obtain ⟨w6, hw6⟩ : ∃ w6, wr.alloc (.cells #[.string yo, .string yt, .slice (some z9) 1 ym] 24) = w6 := ⟨_, rfl⟩
     have B6 := hid (show Below wr.heap.size wr w6 by rw [← hw6]; exact below_alloc wr _)
     have V6 := hid (show NBox w6 wr.heap.size (.string yo) (.string yt) (.slice (some z9) 1 ym) by rw [← hw6]; exact NBox.fresh _ _ _ _ _)
     have J6 := hid (HBT.out.next B6.out)
     have HT := hid (agg_any (nthN L2[i].ks 0) Sn zo zt zX zn zm c1 c3 c0 w6 (hrz.bel (HSS.out wr hbut) B6.out) (HAA.out w6 J6.out) hla)
     unfold AggPost at HT
     have HPO := hid (show aggOne c0 L2[i] = if (aggP c0 (nthN L2[i].ks 0)).2.2 ≠ 0 then ((([], 0), (0, [], 0)), (aggP c0 (nthN L2[i].ks 0)).2.2) else ((((nthN L2[i].ks 0).op, (aggP c0 (nthN L2[i].ks 0)).1), (0, L2[i].tx, (aggP c0 (nthN L2[i].ks 0)).2.1)), 0) from rfl)
     obtain ⟨K, hK⟩ : ∃ K, aggP c0 (nthN L2[i].ks 0) = K := ⟨_, rfl⟩
     rw [hK] at HT HPO
     obtain ⟨ka, kk, ke⟩ := K
     dsimp only at HT HPO
     obtain ⟨zz, hzz⟩ : ∃ z, (if ke = 0 then zo else ⟨#[]⟩) = z := ⟨_, rfl⟩
     rw [hzz] at HT
     have HZZ := hid hzz
     have HYT := hid hyt
     have HZO := hid hzo
     have HW6 := hid hw6
     have s0' := (B6.out.cell (p := z9) (by omega)).trans s0
     have s1' := (B6.out.cell (p := ⟨z9.block, z9.off + 1, none⟩) (by show z9.block < _; omega)).trans s1
     have s2' := (B6.out.cell (p := ⟨z9.block, z9.off + 2, none⟩) (by show z9.block < _; omega)).trans s2
     clear hry hrz hyt hnth hw6 hbut hno hpg hon1 hK hzz hzo s0 s1 s2
     go_upto_region 15 with fail
     rw [HW6.out]
     clear q0 q1 q2
     obtain ⟨v0, v1, v2, vf⟩ := V6.out
     go_wp2_with fail
     refine HT.out.mono ?_
     rintro e w7 ⟨rfl, hb7⟩
     have L7 := hid (B6.out.trans (hb7.mono B6.out.size))
     have J7 := hid (HBT.out.next L7.out)
     have V7 := hid (V6.out.below hb7)
     clear HT hb7 v0 v1 v2 vf s0' s1' s2'
     go_upto_region 16 with fail
     obtain ⟨w8, hw8e⟩ : ∃ w8, w7.alloc (.cells #[.string zz, .int .i64 ka] 82) = w8 := ⟨_, rfl⟩
     have B8 := hid (show Below w7.heap.size w7 w8 by rw [← hw8e]; exact below_alloc w7 _)
     have L8 := hid (L7.out.trans (B8.out.mono L7.out.size))
     have J8 := hid (HBT.out.next L8.out)
     have V8 := hid (V7.out.below B8.out)
     have u0 : w8.cell? ⟨w7.heap.size, 0, none⟩ = some (.string zz) := by rw [← hw8e]; simp [go_sem]
     have u1 : w8.cell? ⟨w7.heap.size, 1, none⟩ = some (.int .i64 ka) := by rw [← hw8e]; simp [go_sem]
     have hlt8 : w7.heap.size < w8.heap.size := by rw [← hw8e]; simp
     rw [hw8e]
     clear hw8e
     have hbad : ∀ c, c ≠ 0 → (aggOne c0 L2[i]).2 = c → RC = c := fun c hc0 he => by
      have hb := each_bad (aggOne c0) L2 i hil HNO.out (by rw [he]; exact hc0)
      rw [HR2.out, he] at hb
      exact congrArg Prod.snd hb
     by_cases hke : ke = 0
     case neg =>
      have hr : RC = ke := hbad ke hke (by rw [HPO.out, if_pos hke])
      have f1 : (ke != 0) = true := by simpa using hke
      subst hr
      have HNE := hid hke
      have HE := hid (HBAD.out w8 J8.out)
      clear hke hbad u0 u1
      go_wp2
      go_ret
      exact ⟨rfl, HE.out.1, HE.out.2, fun h => absurd h HNE.out⟩
     subst hke
     have hzz : zz = zo := by rw [← HZZ.out, if_pos rfl]
     subst hzz
     have HPO2 := hid (show aggOne c0 L2[i] = ((((nthN L2[i].ks 0).op, ka), (0, L2[i].tx, kk)), 0) by rw [HPO.out, if_neg (by simp)])
     clear hbad HPO HZZ
     have PB8 := hid (HPG.out.box.below L8.out)
     have hg8 := PB8.out.lt
     have hz18 : w1.heap.size ≤ w8.heap.size := Nat.le_trans hz1r L8.out.size
     obtain ⟨p0, p1, p2, p3, p4, p5, p6, p7, pf⟩ := PB8.out
     dsimp only at p7
     clear p0 p1 p2 p3 p4 p5 p6
     have L9 := hid (show Below w8.heap.size w8 (w8.drew.alloc (.cells #[.string zz, .int .i64 ka] 82)) from (Below.drew (Below.refl _ _)).alloc (Nat.le_refl _) _)
     have O9 := hid (show (w8.drew.alloc (.cells #[.string zz, .int .i64 ka] 82)).ownsRow w1.heap.size 82 2 (.slice b1 i b3) i (flatC ac ((L2.take i).map fun t => (aggOne c0 t).1.1)) by
      have h := own_call (own_call HPG.out.ownA L8.out) L9.out
      rw [take_len _ _ _ hi] at h
      exact h)
     have N9 := hid (show ∀ (j : Nat) (u : Value), [Value.string zz, Value.int .i64 ka][j]? = some u → (w8.drew.alloc (.cells #[.string zz, .int .i64 ka] 82)).cell? ((⟨w8.heap.size, 0, none⟩ : Addr).add j) = some u from
      World.news_of_block (cs := #[.string zz, .int .i64 ka]) (t := 82) (fr := (0, 0)) (heap_alloc_new w8.drew _))
     have HA1 := hid (show [Value.string zz, Value.int .i64 ka] = ac ((nthN L2[i].ks 0).op, ka) by unfold ac; rw [HZO.out])
     have E9 := hid (show ∀ (gg2 cap12 : Nat) (w12 : World), w12.ownsRow w1.heap.size 82 2 (.slice (some ⟨gg2, 0, none⟩) (i + 1) cap12) (i + 1) (flatC ac ((L2.take i).map fun t => (aggOne c0 t).1.1) ++ [Value.string zz, Value.int .i64 ka]) → (w8.drew.alloc (.cells #[.string zz, .int .i64 ka] 82)).grownBy w12 (Value.slice b1 i b3).ownBlock →
       PgI w1 (w12.setCell ⟨g, 7, none⟩ (.slice (some ⟨gg2, 0, none⟩) (i + 1) cap12)) g ki XB ((L2.take (i + 1)).map fun t => (aggOne c0 t).1.1) (XC ++ (L2.take i).map fun t => (aggOne c0 t).1.2) (e1, L1.length, e3) (some ⟨gg2, 0, none⟩, i + 1, cap12) (f1, L1.length + i, f3) from fun gg2 cap12 w12 h1 h2 => by
      rw [HA1.out] at h1
      have hh := HPG.out.appA (Nat.lt_of_lt_of_le hgw J1.out.size) (L8.out.trans (L9.out.mono L8.out.size)) ((nthN L2[i].ks 0).op, ka) (gg := gg2) (cap := cap12) (w10 := w12) (by rw [take_len _ _ _ hi]; exact h1) h2
      rw [take_len _ _ _ hi] at hh
      rw [map_take (fun t => (aggOne c0 t).1.1) _ _ hil, HPO2.out]
      exact hh)
     obtain ⟨XS, hXS⟩ : ∃ XS, flatC ac ((L2.take i).map fun t => (aggOne c0 t).1.1) = XS := ⟨_, rfl⟩
     rw [hXS] at O9 E9
     clear hXS
     go_upto_region 18 with fail
     go_region_law (first
      | (refine step_append_lies _ (by rfl) _ _ _ (by rfl) w1.heap.size 82 i3 _ 2 24 Tryz.underlying33 hi3 hr0 hr1 hr2 rfl (by omega) (.slice b1 i b3) i XS (by rfl) O9.out ⟨w8.heap.size, 0, none⟩ 1 1 [.string zz, .int .i64 ka] (by rfl) (by rfl) N9.out (by intro u hu; simp at hu; rcases hu with rfl | rfl <;> rfl) (by omega) (by unfold maxLen; omega) (by omega) (by simp; omega) (w8.heap.size + 1) (by simp) ?_; intro gg cap9 w10 hown10 hgrow10 hat10 hlt10; have PJ10 := hid (E9.out gg cap9 w10 hown10 hgrow10); have hr10 := (fun j e => (O9.out.lt j e).1 : ∀ j, (Value.slice b1 i b3).ownBlock = some j → w1.heap.size ≤ j); have y10 := (grown_cell hgrow10 ⟨g, 7, none⟩ (by show g < _; simp; omega) (fun e => by have := hr10 g e.symm; omega)).trans ((L9.out.cell (p := ⟨g, 7, none⟩) hg8).trans p7); have f10 : ∀ j, w10.frozen? ⟨g, j, none⟩ = false := fun j => (World.frozen?_of_block (a := ⟨g, j, none⟩) (hgrow10.block g (by simp; omega) (fun e => by have := hr10 g e.symm; omega))).trans ((L9.out.frozen (p := ⟨g, j, none⟩) hg8).trans (pf j))))
     all_goals
      have hbE : ∀ j, (Value.slice b1 i b3).ownBlock = some j → j < wr.heap.size := fun j e => (HPG.out.ownA.lt j e).2
      obtain ⟨w11, hw11⟩ : ∃ w11, w10.setCell ⟨g, 7, none⟩ (.slice (some ⟨gg, 0, none⟩) (i + 1) cap9) = w11 := ⟨_, rfl⟩
      have V9 := hid (V8.out.below L9.out)
      have hlt9 : wr.heap.size < (w8.drew.alloc (.cells #[.string zz, .int .i64 ka] 82)).heap.size := V9.out.lt
      have V11 := hid (show NBox w11 wr.heap.size (.string yo) (.string yt) (.slice (some z9) 1 ym) by
       rw [← hw11]
       have hb10 : w10.heap[wr.heap.size]? = (w8.drew.alloc (.cells #[.string zz, .int .i64 ka] 82)).heap[wr.heap.size]? := hgrow10.block _ hlt9 (fun e => by have := hbE _ e.symm; omega)
       have hb11 : (w10.setCell ⟨g, 7, none⟩ (.slice (some ⟨gg, 0, none⟩) (i + 1) cap9)).heap[wr.heap.size]? = w10.heap[wr.heap.size]? := Below.heap_setCell w10 ⟨g, 7, none⟩ _ _ (by show wr.heap.size ≠ g; omega)
       have hbb := hb11.trans hb10
       have hc : ∀ j, (w10.setCell ⟨g, 7, none⟩ (.slice (some ⟨gg, 0, none⟩) (i + 1) cap9)).cell? ⟨wr.heap.size, j, none⟩ = (w8.drew.alloc (.cells #[.string zz, .int .i64 ka] 82)).cell? ⟨wr.heap.size, j, none⟩ := fun j => by unfold World.cell?; simp only [hbb]
       have hf : ∀ j, (w10.setCell ⟨g, 7, none⟩ (.slice (some ⟨gg, 0, none⟩) (i + 1) cap9)).frozen? ⟨wr.heap.size, j, none⟩ = (w8.drew.alloc (.cells #[.string zz, .int .i64 ka] 82)).frozen? ⟨wr.heap.size, j, none⟩ := fun j => by unfold World.frozen?; simp only [hbb]
       exact ⟨(hc 0).trans V9.out.c0, (hc 1).trans V9.out.c1, (hc 2).trans V9.out.c2, fun j => (hf j).trans (V9.out.fr j)⟩)
      rw [hw11] at PJ10
      rw [hw11]
      have PB11 := hid PJ10.out.box
      clear hown10 hgrow10 hat10 hlt10 y10 f10 hw11 hbE hlt9 V9 hr10 p7 pf u0 u1
      obtain ⟨p0, p1, p2, p3, p4, p5, p6, p7, pf⟩ := PB11.out
      obtain ⟨v0, v1, v2, vf⟩ := V11.out
      dsimp only at p2
      clear p0 p1 p3 p4 p5 p6 p7
      have hg11 := PB11.out.lt
      have hz12 : w1.heap.size ≤ w11.heap.size := PJ10.out.but.size
      have L12 := hid (show Below w11.heap.size w11 (w11.drew.alloc (.cells #[.int .i64 0, .string yt, .int .i64 kk] 54)) from (Below.drew (Below.refl _ _)).alloc (Nat.le_refl _) _)
      have O12 := hid (show (w11.drew.alloc (.cells #[.int .i64 0, .string yt, .int .i64 kk] 54)).ownsRow w1.heap.size 54 3 (.slice f1 (L1.length + i) f3) (L1.length + i) (flatC wc (XC ++ (L2.take i).map fun t => (aggOne c0 t).1.2)) by
       have h := own_call PJ10.out.ownC L12.out
       rw [HLC.out] at h
       exact h)
      have N12 := hid (show ∀ (j : Nat) (u : Value), [Value.int .i64 0, Value.string yt, Value.int .i64 kk][j]? = some u → (w11.drew.alloc (.cells #[.int .i64 0, .string yt, .int .i64 kk] 54)).cell? ((⟨w11.heap.size, 0, none⟩ : Addr).add j) = some u from
       World.news_of_block (cs := #[.int .i64 0, .string yt, .int .i64 kk]) (t := 54) (fr := (0, 0)) (heap_alloc_new w11.drew _))
      have HC1 := hid (show [Value.int .i64 0, Value.string yt, Value.int .i64 kk] = wc (0, L2[i].tx, kk) by unfold wc; rw [HYT.out])
      have E12 := hid (show ∀ (gg2 cap12 : Nat) (w12 : World), w12.ownsRow w1.heap.size 54 3 (.slice (some ⟨gg2, 0, none⟩) (L1.length + i + 1) cap12) (L1.length + i + 1) (flatC wc (XC ++ (L2.take i).map fun t => (aggOne c0 t).1.2) ++ [Value.int .i64 0, Value.string yt, Value.int .i64 kk]) → (w11.drew.alloc (.cells #[.int .i64 0, .string yt, .int .i64 kk] 54)).grownBy w12 (Value.slice f1 (L1.length + i) f3).ownBlock →
        PgI w1 (w12.setCell ⟨g, 2, none⟩ (.slice (some ⟨gg2, 0, none⟩) (L1.length + i + 1) cap12)) g ki XB ((L2.take (i + 1)).map fun t => (aggOne c0 t).1.1) (XC ++ (L2.take (i + 1)).map fun t => (aggOne c0 t).1.2) (e1, L1.length, e3) (some ⟨gg, 0, none⟩, i + 1, cap9) (some ⟨gg2, 0, none⟩, L1.length + i + 1, cap12) from fun gg2 cap12 w12 h1 h2 => by
       rw [HC1.out] at h1
       have hh := PJ10.out.appC (Nat.lt_of_lt_of_le hgw J1.out.size) L12.out (0, L2[i].tx, kk) (gg := gg2) (cap := cap12) (w10 := w12) (by rw [HLC.out]; exact h1) h2
       rw [HLC.out, List.append_assoc] at hh
       rw [map_take (fun t => (aggOne c0 t).1.2) _ _ hil, HPO2.out]
       exact hh)
      obtain ⟨XT, hXT⟩ : ∃ XT, flatC wc (XC ++ (L2.take i).map fun t => (aggOne c0 t).1.2) = XT := ⟨_, rfl⟩
      rw [hXT] at O12 E12
      clear hXT
      have HNO2 := hid (show ∀ j (hj : j < L2.length), j < i + 1 → (aggOne c0 L2[j]).2 = 0 from fun j hj h2 => if e : j = i then by subst e; rw [HPO2.out] else HNO.out j hj (by omega))
      go_upto_region 19 with fail
      go_region_law (first
       | (refine step_append_lies _ (by rfl) _ _ _ (by rfl) w1.heap.size 54 i2 _ 3 32 Tryz.underlying29 hi2 hq0 hq1 hq2 rfl (by omega) (.slice f1 (L1.length + i) f3) (L1.length + i) XT (by rfl) O12.out ⟨w11.heap.size, 0, none⟩ 1 1 [.int .i64 0, .string yt, .int .i64 kk] (by rfl) (by rfl) N12.out (by intro u hu; simp at hu; rcases hu with rfl | rfl | rfl <;> rfl) (by omega) (by unfold maxLen; omega) (by omega) (by simp; omega) (w11.heap.size + 1) (by simp) ?_; intro gg2 cap12 w12 hown12 hgrow12 hat12 hlt12; have PJ12 := hid (E12.out gg2 cap12 w12 hown12 hgrow12); have hr12 := (fun j e => (O12.out.lt j e).1 : ∀ j, (Value.slice f1 (L1.length + i) f3).ownBlock = some j → w1.heap.size ≤ j); have y12 := (grown_cell hgrow12 ⟨g, 2, none⟩ (by show g < _; simp; omega) (fun e => by have := hr12 g e.symm; omega)).trans ((L12.out.cell (p := ⟨g, 2, none⟩) hg11).trans p2); have f12 : ∀ j, w12.frozen? ⟨g, j, none⟩ = false := fun j => (World.frozen?_of_block (a := ⟨g, j, none⟩) (hgrow12.block g (by simp; omega) (fun e => by have := hr12 g e.symm; omega))).trans ((L12.out.frozen (p := ⟨g, j, none⟩) hg11).trans (pf j))))
      all_goals
       clear hown12 hgrow12 hat12 hlt12 y12 f12 hr12 p2 pf v0 v1 v2 vf
       go_wp2
       go_roundw
       case rel => exact ⟨i + 1, _, _, by omega, by go_num, HNO2.out, PJ12.out⟩
       case measure => simp [intOf]; omega
    ·obtain rfl : i = L2.length := by omega
     have hRe := each_ok (aggOne c0) L2 (fun j hj => HNO.out j hj hj)
     rw [HR2.out] at hRe
     have hc : RC = 0 := congrArg Prod.snd hRe
     have hc2 : RL2 = L2.map fun t => (aggOne c0 t).1 := congrArg Prod.fst hRe
     rw [List.take_length] at hpg
     have HE := hid (show (Below B w wr ∧ ∀ p : Addr, S p.block → wr.cell? p = w.cell? p) ∧ FOk B S wr g ki (.mk sGroup [] [] [] (RL1.map fun x => x.1) (RL2.map fun x => x.1) ((RL1.map fun x => x.2) ++ (RL2.map fun x => x.2)) ps) ∧ wr.cell? ⟨g, 8, none⟩ = w.cell? ⟨g, 8, none⟩ from by
      refine ⟨HBAD.out wr hbut, ?_, hpg.c8.trans C81.out⟩
      have hh := hpg.ok (B := B) (S := S) (Nat.le_trans hB J1.out.size) (Nat.lt_of_lt_of_le hgw J1.out.size) (fun k h => Nat.lt_of_lt_of_le (HSP.out k h).1 J1.out.size) ps
      rw [HX1.out, HX2.out, hc2, List.map_map, List.map_map]
      exact hh)
     subst hc
     clear hbut hno hpg hRe hc2
     go_wp2
     go_ret
     exact ⟨rfl, HE.out.1.1, HE.out.1.2, by first | exact HE.out.2 | exact fun _ => HE.out.2⟩
open Go.ChangeMaps Go.MapKept
open Go.WideElems (Fit rd rg pl rd_key rd_val rg_of)
open Go.Maps (Keyed)
set_option maxRecDepth 100000
section
variable (w : World) {ops : Array Oper} {rest : List Oper} {o : Oper} {a : Act} {Q : Exit → Act → World → Prop}
theorem wpList_insf (hg : o.guard = none) (m x v : Operand) (hop : o.op = Op.insert 61 m x v) (b n : Nat) (f : ByteArray → Option Value) (hm : a.eval m = .map (some b)) (h : MapR w b n f) (hn : n < maxLen) (k : ByteArray) (hx : a.eval x = .string k) (hk : k.size ≤ maxLen)
  (s : Value) (hv : a.eval v = s) (hK : ∀ w', MapR w' b (n + 1) (mput f k s) → w.grownBy w' (some b) → w'.heap.size = w.heap.size → wpList Tryz.prog ops Q rest (a.put o.dst undef) w') : wpList Tryz.prog ops Q (o :: rest) a w := by
 refine wpList_plain hg fun K' hK' => ?_
 obtain ⟨D, h1, h2⟩ := h
 obtain ⟨w', hrun, r1, r2⟩ := h1.store mk_law Tryz.underlying61 hn (mk_is hk) (show hR s = some (.held s, []) from rfl)
 have hsz : w'.heap.size = w.heap.size := by
  obtain ⟨es, clock, es', clock', hb, rfl⟩ := r2
  simp [setBlock]
 unfold Oper.wp
 simp [execOp, hop, hm, hx, hv, hrun, Result.andThen]
 exact hK' _ _ (hK w' ⟨_, r1, msees_put h1.isMap h2 k s⟩ r2.grown hsz)
end
theorem run_lookf (w : World) (b n : Nat) (f : ByteArray → Option Value) (h : MapR w b n f) (k : ByteArray) (hk : k.size ≤ maxLen) (s : Value) (hs : f k = some s) : (Instr.lookup 61 (.map (some b)) (.string k) false).run Tryz.prog w = .ok s w := by
 have hz : (zeroValue 92).run Tryz.prog w = .ok (.agg #[.int .i64 0, .nilFunc, .nilFunc]) w := rfl
 obtain ⟨D, ⟨es, clock, hb, F, hsz, rfl⟩, h2⟩ := h
 have h3 := h2 k hk
 rw [hs] at h3
 rcases Maps.fit_look false mk_law Tryz.underlying61 hz hb F (mk_is hk) with ⟨hrun, _, hat⟩ | ⟨e0, y, _, _, hrun, hRv, hat, _⟩
 ·have hf := Maps.has_false_of_atKey hat
  rw [h3.1] at hf
  cases hf
 ·have h4 := (h3.2 s rfl (.held undef)).symm.trans (hat _)
  unfold hR at hRv
  simp only [Option.some.injEq] at hRv
  subst hRv
  injection h4 with h4
  rw [hrun, h4]
  rfl
theorem run_lookn (w : World) (b n : Nat) (f : ByteArray → Option Value) (h : MapR w b n f) (k : ByteArray) (hk : k.size ≤ maxLen) (hs : f k = none) : (Instr.lookup 61 (.map (some b)) (.string k) false).run Tryz.prog w = .ok (.agg #[.int .i64 0, .nilFunc, .nilFunc]) w := by
 have hz : (zeroValue 92).run Tryz.prog w = .ok (.agg #[.int .i64 0, .nilFunc, .nilFunc]) w := rfl
 obtain ⟨D, ⟨es, clock, hb, F, hsz, rfl⟩, h2⟩ := h
 have h3 := (h2 k hk).1
 rw [hs] at h3
 rcases Maps.fit_look false mk_law Tryz.underlying61 hz hb F (mk_is hk) with ⟨hrun, _, hat⟩ | ⟨e0, y, _, _, hrun, hRv, hat, _⟩
 ·rw [hrun]
  rfl
 ·have hf := Maps.has_true_of_atKey hat
  rw [h3] at hf
  cases hf
def formF (gt : Nat) : ByteArray → Option Value :=
 mput (mput (mput (mput (mput (mput (mput (fun _ => none)
  ⟨sFrom.toArray⟩ (.agg #[.int .i64 0, .func (.func 44) #[] #[], .func (.func 45) #[] #[.pointer (some ⟨gt, 0, none⟩)]]))
  ⟨sFilter.toArray⟩ (.agg #[.int .i64 1, .func (.func 47) #[] #[], .func (.func 48) #[] #[]]))
  ⟨sProject.toArray⟩ (.agg #[.int .i64 1, .func (.func 49) #[] #[], .func (.func 50) #[] #[]]))
  ⟨sJoin.toArray⟩ (.agg #[.int .i64 2, .func (.func 51) #[] #[], .func (.func 52) #[] #[]]))
  ⟨sUnion.toArray⟩ (.agg #[.int .i64 9223372036854775807, .func (.func 53) #[] #[], .func (.func 54) #[] #[]]))
  ⟨sDistinct.toArray⟩ (.agg #[.int .i64 1, .func (.func 55) #[] #[], .func (.func 56) #[] #[]]))
  ⟨sGroup.toArray⟩ (.agg #[.int .i64 1, .func (.func 57) #[] #[], .func (.func 58) #[] #[]])
theorem over_any (A : Option Addr) (n cap : Nat) (w : World) : Calls Tryz.prog 24 #[.slice A n cap] w fun e w' => ∃ mb gt, e = .returned (.map (some mb)) ∧ MapR w' mb 7 (formF gt) ∧ w.heap.size ≤ mb ∧ w.heap.size ≤ gt ∧ gt < w'.heap.size ∧ w'.cell? ⟨gt, 0, none⟩ = some (.slice A n cap) ∧ Below w.heap.size w w' := by
 have hmm := @run_makeMap Tryz.prog
 obtain ⟨w0, hw0⟩ : ∃ w0, w.alloc (.cells #[.slice A n cap] 25) = w0 := ⟨_, rfl⟩
 have B0 := hid (show Below w.heap.size w w0 by rw [← hw0]; exact below_alloc w _)
 have k0 : w0.cell? ⟨w.heap.size, 0, none⟩ = some (.slice A n cap) := by rw [← hw0]; simp
 have z0 : w.heap.size < w0.heap.size := by rw [← hw0]; simp
 have M0 := hid (mapR_made w0)
 have L0 := hid (below_alloc w0 (.map #[] 0))
 have HW0 := hid hw0
 clear hw0
 go_enter Tryz.func24, Tryz.ntmps24
 go_upto_region 1 with fail
 rw [HW0.out]
 go_wp2_with (refine wpList_insf _ rfl _ _ _ rfl w0.heap.size 0 _ rfl M0.out (by decide) ⟨#[102, 114, 111, 109]⟩ rfl (by decide) _ rfl ?_)
 intro w1 m1 g1 s1
 have M1 := hid m1
 have L1 := hid (L0.out.grown g1 L0.out.size (fun k hk => by cases hk; exact Nat.le_refl _))
 clear m1 g1 s1
 go_wp2_with (refine wpList_insf _ rfl _ _ _ rfl w0.heap.size 1 _ rfl M1.out (by decide) ⟨#[102, 105, 108, 116, 101, 114]⟩ rfl (by decide) _ rfl ?_)
 intro w2 m2 g2 s2
 have M2 := hid m2
 have L2 := hid (L1.out.grown g2 L1.out.size (fun k hk => by cases hk; exact Nat.le_refl _))
 clear m2 g2 s2
 go_wp2_with (refine wpList_insf _ rfl _ _ _ rfl w0.heap.size 2 _ rfl M2.out (by decide) ⟨#[112, 114, 111, 106, 101, 99, 116]⟩ rfl (by decide) _ rfl ?_)
 intro w3 m3 g3 s3
 have M3 := hid m3
 have L3 := hid (L2.out.grown g3 L2.out.size (fun k hk => by cases hk; exact Nat.le_refl _))
 clear m3 g3 s3
 go_wp2_with (refine wpList_insf _ rfl _ _ _ rfl w0.heap.size 3 _ rfl M3.out (by decide) ⟨#[106, 111, 105, 110]⟩ rfl (by decide) _ rfl ?_)
 intro w4 m4 g4 s4
 have M4 := hid m4
 have L4 := hid (L3.out.grown g4 L3.out.size (fun k hk => by cases hk; exact Nat.le_refl _))
 clear m4 g4 s4
 go_wp2_with (refine wpList_insf _ rfl _ _ _ rfl w0.heap.size 4 _ rfl M4.out (by decide) ⟨#[117, 110, 105, 111, 110]⟩ rfl (by decide) _ rfl ?_)
 intro w5 m5 g5 s5
 have M5 := hid m5
 have L5 := hid (L4.out.grown g5 L4.out.size (fun k hk => by cases hk; exact Nat.le_refl _))
 clear m5 g5 s5
 go_wp2_with (refine wpList_insf _ rfl _ _ _ rfl w0.heap.size 5 _ rfl M5.out (by decide) ⟨#[100, 105, 115, 116, 105, 110, 99, 116]⟩ rfl (by decide) _ rfl ?_)
 intro w6 m6 g6 s6
 have M6 := hid m6
 have L6 := hid (L5.out.grown g6 L5.out.size (fun k hk => by cases hk; exact Nat.le_refl _))
 clear m6 g6 s6
 go_wp2_with (refine wpList_insf _ rfl _ _ _ rfl w0.heap.size 6 _ rfl M6.out (by decide) ⟨#[103, 114, 111, 117, 112]⟩ rfl (by decide) _ rfl ?_)
 intro w7 m7 g7 s7
 have M7 := hid m7
 have L7 := hid (L6.out.grown g7 L6.out.size (fun k hk => by cases hk; exact Nat.le_refl _))
 clear m7 g7 s7
 go_wp2
 go_ret
 exact ⟨w0.heap.size, w.heap.size, rfl, M7.out, Nat.le_of_lt z0, Nat.le_refl _, Nat.lt_of_lt_of_le z0 L7.out.size, (L7.out.cell (p := ⟨w.heap.size, 0, none⟩) z0).trans k0, B0.out.trans (L7.out.mono B0.out.size)⟩
end Go.Proofs.YthpmgnfmeldkjaaGreatDoor.Code
/-
  What is made of queries: plans of a list of queries, under way.
-/
namespace Go.Proofs.YthpmgnfmeldkjaaGreatDoor.Code
open Go.ChangeShapes Go.WideShapes Go.ChangeAt Go.RowKit Val Elems
theorem info_plan : (Tryz.prog.info? 35).map (fun i => (i.zero, i.size, i.bytes)) = some (some (.agg #[.string ByteArray.empty, .string ByteArray.empty, .slice none 0 0, .slice none 0 0, .slice none 0 0, .slice none 0 0, .slice none 0 0, .slice none 0 0]), 8, 176) := by kernel_rfl
def mcs (x : PV) (f : Int) : Array Value := #[.string x.op, .string x.tab, .slice x.co.1 x.co.2.1 x.co.2.2, .slice x.ki.1 x.ki.2.1 x.ki.2.2, .slice x.ex.1 x.ex.2.1 x.ex.2.2, .slice x.on.1 x.on.2.1 x.on.2.2, .slice x.bk.1 x.bk.2.1 x.bk.2.2, .slice x.ag.1 x.ag.2.1 x.ag.2.2, .int .i64 f]
def QPost (w : World) (r : (Pl × Nat) × Int) (e : Ending) (w' : World) : Prop :=
 ∃ (x : PV) (f : Int), e = .returned (.tuple #[.agg (mcs x f), .int .i64 r.2]) ∧ Below w.heap.size w w' ∧ (r.2 = 0 → f = (r.1.2 : Int) ∧ PIn w' (fun b => w.heap.size ≤ b ∧ b < w'.heap.size) r.1.1 x) ∧ (r.2 ≠ 0 → x = zPV ∧ f = 0)
def QsPost (w : World) (r : (List Pl × Nat) × Int) (e : Ending) (w' : World) : Prop :=
 ∃ (x : PV) (f : Int), e = .returned (.tuple #[.agg (mcs x f), .int .i64 r.2]) ∧ Below w.heap.size w w' ∧
  (r.2 = 0 → f = (r.1.2 : Int) ∧ x = ⟨⟨#[]⟩, ⟨#[]⟩, x.co, x.ki, zSl, zSl, zSl, zSl⟩ ∧ x.co.2.1 = (r.1.1.headD zeroP).cols.length ∧ w'.ownsRow w.heap.size 54 3 (.slice x.co.1 x.co.2.1 x.co.2.2) (r.1.1.headD zeroP).cols.length (flatC wc (r.1.1.headD zeroP).cols) ∧
   ∃ S : Nat → Prop, KIn w' S x.ki r.1.1 ∧ (∀ b, S b → w.heap.size ≤ b ∧ b < w'.heap.size) ∧ ∀ b, (Value.slice x.co.1 x.co.2.1 x.co.2.2).ownBlock = some b → ¬ S b) ∧
  (r.2 ≠ 0 → x = zPV ∧ f = 0)
structure MBox (w : World) (g : Nat) (x : PV) (f : Int) : Prop where
 box : PBox w g x
 c8 : w.cell? ⟨g, 8, none⟩ = some (.int .i64 f)
theorem MBox.below {w w' : World} {g : Nat} {x : PV} {f : Int} (h : MBox w g x f) (hb : Below w.heap.size w w') : MBox w' g x f := ⟨h.box.below hb, (hb.cell (p := ⟨g, 8, none⟩) h.box.lt).trans h.c8⟩
theorem MBox.fresh (w : World) (x : PV) (f : Int) (t : TypeId) : MBox (w.alloc (.cells (mcs x f) t)) w.heap.size x f := by
 unfold mcs
 exact ⟨⟨by simp [go_sem], by simp [go_sem], by simp [go_sem], by simp [go_sem], by simp [go_sem], by simp [go_sem], by simp [go_sem], by simp [go_sem], fun j => by simp [go_sem]⟩, by simp [go_sem]⟩
theorem MBox.but {w w' : World} {g r : Nat} {x : PV} {f : Int} (h : MBox w g x f) (hb : But w w' r) (hr : g ≠ r) : MBox w' g x f := by
 have hg := h.box.lt
 have e : w'.heap[g]? = w.heap[g]? := hb.block g hg hr
 have hc : ∀ j, w'.cell? ⟨g, j, none⟩ = w.cell? ⟨g, j, none⟩ := fun j => by unfold World.cell?; simp only [e]
 have hf : ∀ j, w'.frozen? ⟨g, j, none⟩ = w.frozen? ⟨g, j, none⟩ := fun j => by unfold World.frozen?; simp only [e]
 exact ⟨⟨(hc 0).trans h.box.c0, (hc 1).trans h.box.c1, (hc 2).trans h.box.c2, (hc 3).trans h.box.c3, (hc 4).trans h.box.c4, (hc 5).trans h.box.c5, (hc 6).trans h.box.c6, (hc 7).trans h.box.c7, fun j => (hf j).trans (h.box.fr j)⟩, (hc 8).trans h.c8⟩
theorem PBox.set8 {w : World} {g : Nat} {x : PV} (h : PBox w g x) (v : Value) : PBox (w.setCell ⟨g, 8, none⟩ v) g x :=
 ⟨(World.cell?_setCell_other _ _ _ _ (by simp)).trans h.c0, (World.cell?_setCell_other _ _ _ _ (by simp)).trans h.c1, (World.cell?_setCell_other _ _ _ _ (by simp)).trans h.c2, (World.cell?_setCell_other _ _ _ _ (by simp)).trans h.c3, (World.cell?_setCell_other _ _ _ _ (by simp)).trans h.c4, (World.cell?_setCell_other _ _ _ _ (by simp)).trans h.c5, (World.cell?_setCell_other _ _ _ _ (by simp)).trans h.c6, (World.cell?_setCell_other _ _ _ _ (by simp)).trans h.c7, fun j => by rw [World.frozen?_setCell]; exact h.fr j⟩
structure QsI (tabs : List Tab) (w wr : World) (g : Nat) (L : List Nod) (i : Nat) (sK : Sl) (Sd : Nat → Prop) (lv : List PV) (f : Int) : Prop where
 but : But w wr g
 box : PBox wr g ⟨⟨#[]⟩, ⟨#[]⟩, zSl, sK, zSl, zSl, zSl, zSl⟩
 own : wr.ownsRow w.heap.size 35 8 (.slice sK.1 sK.2.1 sK.2.2) i (flatC pc lv)
 all : PAll wr Sd ((L.take i).map fun t => (planP tabs t).1.1) lv
 deep : ∀ k, Sd k → w.heap.size ≤ k ∧ k < wr.heap.size ∧ (Value.slice sK.1 sK.2.1 sK.2.2).ownBlock ≠ some k
 le : sK.2.1 = i
 c8 : wr.cell? ⟨g, 8, none⟩ = some (.int .i64 f)
theorem QsI.add {tabs : List Tab} {w wr w8 w9 w10 : World} {g : Nat} {L : List Nod} {i : Nat} {sK : Sl} {Sd : Nat → Prop} {lv : List PV} {f : Int} (h : QsI tabs w wr g L i sK Sd lv f) (hg : g < w.heap.size) (hi : i < L.length)
  {w7 : World} (h7 : Below wr.heap.size wr w7) (h8 : Below w7.heap.size w7 w8) (h9 : Below w8.heap.size w8 w9) {x : PV} (hx : PIn w8 (fun b => w7.heap.size ≤ b ∧ b < w8.heap.size) (planP tabs L[i]).1.1 x)
  {gg cap : Nat} (hown : w10.ownsRow w.heap.size 35 8 (.slice (some ⟨gg, 0, none⟩) (i + 1) cap) (i + 1) (flatC pc lv ++ pc x)) (hgr : w9.grownBy w10 (Value.slice sK.1 sK.2.1 sK.2.2).ownBlock) (hat : (Value.slice sK.1 sK.2.1 sK.2.2).ownBlock = some gg ∨ w8.heap.size ≤ gg) :
  QsI tabs w (w10.setCell ⟨g, 3, none⟩ (.slice (some ⟨gg, 0, none⟩) (i + 1) cap)) g L (i + 1) (some ⟨gg, 0, none⟩, i + 1, cap) (fun k => Sd k ∨ (w7.heap.size ≤ k ∧ k < w8.heap.size)) (lv ++ [x]) f := by
 have hz7 := h7.size
 have hz8 := h8.size
 have hz9 := h9.size
 have hz10 := hgr.size
 have hzw := h.but.size
 have hlE : ∀ j, (Value.slice sK.1 sK.2.1 sK.2.2).ownBlock = some j → w.heap.size ≤ j ∧ j < wr.heap.size := h.own.lt
 have hgg : w.heap.size ≤ gg := (hown.lt gg rfl).1
 have L8 : Below wr.heap.size wr w8 := h7.trans (h8.mono hz7)
 have L9 : Below wr.heap.size wr w9 := L8.trans (h9.mono (by omega))
 have hsz : (w10.setCell ⟨g, 3, none⟩ (.slice (some ⟨gg, 0, none⟩) (i + 1) cap)).heap.size = w10.heap.size := by simp
 have kp : ∀ p : Addr, w.heap.size ≤ p.block → p.block < w8.heap.size → (Value.slice sK.1 sK.2.1 sK.2.2).ownBlock ≠ some p.block → (w10.setCell ⟨g, 3, none⟩ (.slice (some ⟨gg, 0, none⟩) (i + 1) cap)).cell? p = w8.cell? p := fun p hp1 hp2 hp3 =>
  (World.cell?_setCell_other _ _ _ _ (fun e => by rw [← e] at hp1; simp at hp1; omega)).trans ((grown_cell hgr p (by omega) (fun e => hp3 e.symm)).trans (h9.cell hp2))
 refine ⟨((h.but.next L9).grownR hgr (fun k hk => (hlE k hk).1)).setCell 3 _, ?_, ?_, ?_, ?_, rfl, ?_⟩
 ·exact ((h.box.below L9).grown hgr (fun e => by have := (hlE g e.symm).1; omega)).set3 (some ⟨gg, 0, none⟩, i + 1, cap)
 ·rw [flatC_snoc]
  exact pown_set hown _ _ (by simp [Value.ownBlock]; omega)
 ·rw [map_take _ _ _ hi]
  refine PAll.snoc (h.all.keep (fun _ h => .inl h) (fun p hp => ?_)) (hx.keep (fun _ h => .inr h) (fun p hp => kp p (by have := hp.1; omega) hp.2 (fun e => by have := (hlE _ e).2; have := hp.1; omega)))
  have hd := h.deep _ hp
  exact (kp p hd.1 (by have := hd.2.1; omega) hd.2.2).trans (L8.cell hd.2.1)
 ·intro k hk
  rw [hsz]
  rcases hk with hk | hk
  ·have hd := h.deep k hk
   refine ⟨hd.1, by have := hd.2.1; omega, fun e => ?_⟩
   simp only [Value.ownBlock, Option.some.injEq] at e
   rcases hat with h9 | h9
   ·exact hd.2.2 (h9.trans (by rw [e]))
   ·have := hd.2.1
    omega
  ·refine ⟨by omega, by omega, fun e => ?_⟩
   simp only [Value.ownBlock, Option.some.injEq] at e
   rcases hat with h9 | h9
   ·have := (hlE _ h9).2
    omega
   ·omega
 ·rw [World.cell?_setCell_other _ _ _ _ (by simp)]
  exact (grown_cell hgr ⟨g, 8, none⟩ (by show g < _; omega) (fun e => by have := (hlE g e.symm).1; omega)).trans ((L9.cell (p := ⟨g, 8, none⟩) (by show g < _; omega)).trans h.c8)
theorem QsI.sum {tabs : List Tab} {w wr : World} {g : Nat} {L : List Nod} {i : Nat} {sK : Sl} {Sd : Nat → Prop} {lv : List PV} {f : Int} (h : QsI tabs w wr g L i sK Sd lv f) (hg : g < w.heap.size) (f2 : Int) :
  QsI tabs w (wr.setCell ⟨g, 8, none⟩ (.int .i64 f2)) g L i sK Sd lv f2 := by
 have hlE : ∀ j, (Value.slice sK.1 sK.2.1 sK.2.2).ownBlock = some j → w.heap.size ≤ j ∧ j < wr.heap.size := h.own.lt
 refine ⟨h.but.setCell 8 _, h.box.set8 _, pown_set h.own _ _ (fun e => by have := (hlE _ e).1; simp at this; omega), h.all.keep (fun _ h => h) (fun p hp => World.cell?_setCell_other _ _ _ _ (fun e => by have := (h.deep _ hp).1; rw [← e] at this; simp at this; omega)), fun k hk => by have := h.deep k hk; simp; exact this, h.le, World.cell?_setCell_same _ _ _ h.c8⟩
theorem QsI.kin {tabs : List Tab} {w wr : World} {g : Nat} {L : List Nod} {sK : Sl} {Sd : Nat → Prop} {lv : List PV} {f : Int} (h : QsI tabs w wr g L L.length sK Sd lv f) :
  KIn wr (fun k => Sd k ∨ (Value.slice sK.1 sK.2.1 sK.2.2).ownBlock = some k) sK (L.map fun t => (planP tabs t).1.1) := by
 have hall := h.all
 rw [List.take_length] at hall
 have hlv : lv.length = L.length := by rw [hall.1, List.length_map]
 obtain ⟨A, cap, e, hat, -⟩ := own_ats pc_length (l := lv) (by rw [hlv]; exact h.own)
 injection e with e _
 obtain rfl : A = sK.1 := e.symm
 refine ⟨by rw [h.le, List.length_map], lv, hall.keep (fun _ h => .inl h) (fun _ _ => rfl), fun i hi => ?_⟩
 obtain ⟨ad, ea, hs, c⟩ := hat i hi
 exact ⟨ad, ea, .inr (by rw [ea]; rfl), c⟩
def mset (w : World) (g : Nat) (x : PV) (f : Int) : World := ((((((((w.setCell ⟨g, 0, none⟩ (.string x.op)).setCell ⟨g, 1, none⟩ (.string x.tab)).setCell ⟨g, 2, none⟩ (.slice x.co.1 x.co.2.1 x.co.2.2)).setCell ⟨g, 3, none⟩ (.slice x.ki.1 x.ki.2.1 x.ki.2.2)).setCell ⟨g, 4, none⟩ (.slice x.ex.1 x.ex.2.1 x.ex.2.2)).setCell ⟨g, 5, none⟩ (.slice x.on.1 x.on.2.1 x.on.2.2)).setCell ⟨g, 6, none⟩ (.slice x.bk.1 x.bk.2.1 x.bk.2.2)).setCell ⟨g, 7, none⟩ (.slice x.ag.1 x.ag.2.1 x.ag.2.2)).setCell ⟨g, 8, none⟩ (.int .i64 f)
theorem mset_ok {w : World} {g : Nat} {y : PV} {f0 : Int} (h : MBox w g y f0) (x : PV) (f : Int) : MBox (mset w g x f) g x f := by
 unfold mset
 exact ⟨((((((((h.box.set0 x.op).set1 x.tab).set2 x.co).set3 x.ki).set4 x.ex).set5 x.on).set6 x.bk).set7 x.ag).set8 _, World.cell?_setCell_same _ _ _ ((World.cell?_setCell_other _ _ _ _ (by simp)).trans ((World.cell?_setCell_other _ _ _ _ (by simp)).trans ((World.cell?_setCell_other _ _ _ _ (by simp)).trans ((World.cell?_setCell_other _ _ _ _ (by simp)).trans ((World.cell?_setCell_other _ _ _ _ (by simp)).trans ((World.cell?_setCell_other _ _ _ _ (by simp)).trans ((World.cell?_setCell_other _ _ _ _ (by simp)).trans ((World.cell?_setCell_other _ _ _ _ (by simp)).trans h.c8))))))))⟩
theorem mset_but (w : World) (g : Nat) (x : PV) (f : Int) : But w (mset w g x f) g := (((((((((But.refl w g).setCell 0 _).setCell 1 _).setCell 2 _).setCell 3 _).setCell 4 _).setCell 5 _).setCell 6 _).setCell 7 _).setCell 8 _
theorem mset_below {B g : Nat} {w0 w : World} (h : Below B w0 w) (hg : B ≤ g) (x : PV) (f : Int) : Below B w0 (mset w g x f) := ((((((((h.setCell (p := ⟨g, 0, none⟩) hg _).setCell (p := ⟨g, 1, none⟩) hg _).setCell (p := ⟨g, 2, none⟩) hg _).setCell (p := ⟨g, 3, none⟩) hg _).setCell (p := ⟨g, 4, none⟩) hg _).setCell (p := ⟨g, 5, none⟩) hg _).setCell (p := ⟨g, 6, none⟩) hg _).setCell (p := ⟨g, 7, none⟩) hg _).setCell (p := ⟨g, 8, none⟩) hg _
theorem planP_fr (tabs : List Tab) (t : Nod) (h : (planP tabs t).2 = 0) : (planP tabs t).1.2 ≤ 4 := by
 cases t with
 | mk op tx ks =>
  rw [planP_mk] at h ⊢
  split at h
  ·rename_i h1
   rw [if_pos h1]
   exact Nat.zero_le _
  ·rename_i h1
   rw [if_neg h1]
   unfold nodeP at h ⊢
   dsimp only at h ⊢
   split at h
   ·simp at h
   ·rename_i h2
    rw [if_neg h2]
    split at h
    ·simp at h
    ·rename_i h3
     rw [if_neg h3]
     split at h
     ·rename_i h4
      rw [if_pos h4]
      exact Nat.zero_le _
     ·rename_i h4
      rw [if_neg h4]
      unfold sealP at h ⊢
      split
      rename_i heq
      rw [heq] at h
      dsimp only at h
      split at h
      ·rename_i h5
       rw [if_pos h5]
       exact Nat.zero_le _
      ·rename_i h5
       rw [if_neg h5]
       dsimp only
       omega
end Go.Proofs.YthpmgnfmeldkjaaGreatDoor.Code
