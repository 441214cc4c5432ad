/-
  The document's reader of queries: the items of a project.
-/
import Derived.Test.YtjbpkpfmgbhlpaaGreatDoorMr9
import Derived.Test.YtjbpkpfmgbhlpaaGreatDoorMr19
import Derived.Deep.RegionLaw
set_option maxRecDepth 100000
set_option maxHeartbeats 16000000
open Go.Lib (hid)
namespace Go.Proofs.YtjbpkpfmgbhlpaaGreatDoor.Code
open Go.ChangeShapes Go.WideShapes Go.ChangeAt Go.RowKit Val Elems
set_option linter.unusedVariables false
set_option linter.unusedSimpArgs false
theorem qitems_any (r q : Nat) (A : Option Addr) (cap : Nat) (l : List W) (i : Nat) (b : Bool) (w : World) (h : QRd w r q A cap l i b) (hi : i ≤ l.length) (hl : l.length ≤ 4194304) (hfg : FigW l) :
  Calls Tryz.prog 61 #[.pointer (some ⟨q, 0, none⟩)] w (GetL r q A cap l w (loopQ (bare l) (itemQ (bare l)) ((bare l).length + 1) true i b)) := by
 have HR := hid h
 have zr := h.lt
 have zq := h.ltq
 have HFG := hid hfg
 obtain ⟨R, hR⟩ : ∃ R, loopQ (bare l) (itemQ (bare l)) ((bare l).length + 1) true i b = R := ⟨_, rfl⟩
 have HRR := hid hR
 rw [hR]
 obtain ⟨i0, hi0, hz0, hz1, hz2⟩ := info_parts info_node
 clear h hfg hR
 go_enter Tryz.func61, Tryz.ntmps61
 go_wp2
 go_loopw [3] (fun v wr => LInv r q A cap l w R (itemQ (bare l)) v wr) (fun _ wr => l.length - atOf wr r)
 case atStart =>
  refine ⟨(bare l).length + 1, i, b, [], [], none, 0, rfl, World.ownsRow_nil _ _ _ _, RAll.nil _ _, hi, by rw [bare_length]; omega, by simp, hid ?_, But.refl _ _, HR.out⟩
  rw [← HRR.out]
  rfl
 case round =>
  obtain ⟨f, j, c, ks, xs, X, cp, rfl, hown, hall, hj, hf, hkj, HE, hbut, hqr⟩ := hrel
  have HO := hid hown
  have HA := hid hall
  have HB := hid hbut
  have HQ := hid hqr
  have hz := hbut.size
  have hks := hall.1
  have HAT := hid (atq hqr)
  obtain ⟨N, hN⟩ : ∃ N, xs.length = N := ⟨_, rfl⟩
  obtain ⟨fb, hfb⟩ : ∃ fb, (ks.length == 0) = fb := ⟨_, rfl⟩
  have e1 : ((N : Int) == 0) = fb := by
   rw [← hfb, ← hN, hks, Bool.eq_iff_iff]
   simp
  rw [hfb] at HE
  rw [hN] at HO ⊢
  have hNj : N ≤ j + 2 := by omega
  have HKS := hid (show ks.length = N by omega)
  have HN := hid hN
  have HM := hid (qmore_any r q A cap l j c fb wr hqr hj hl)
  obtain ⟨M, hM⟩ : ∃ M, moreQ (bare l) j c fb = M := ⟨_, rfl⟩
  rw [hM] at HM
  clear hown hall hbut hqr hks hN hfb
  cases hm1 : M.1 with
  | false =>
   have hst := loop_stop (el := itemQ (bare l)) (f := f) (by omega) (by rw [hM]; exact hm1)
   rw [hst, hM] at HE
   rw [hm1] at HM
   have HEE := hid (show R = (ks, M.2) by rw [HE.out]; simp)
   clear hst HE hm1 hM
   go_wp2_with fail
   refine HM.out.mono ?_
   rintro e w1 ⟨rfl, hb1, hr1⟩
   have O1 := hid (own_but HO.out hb1 (by omega))
   have A1 := hid (HA.out.apart zr hb1)
   have B1 := hid (HB.out.trans hb1)
   have R1 := hid hr1
   clear hb1 hr1
   go_wp2
   go_ret
   have hg := getL_own (xs := xs) (by rw [HN.out]; exact O1.out) A1.out B1.out R1.out
   rw [HN.out] at hg
   rw [HEE.out]
   exact hg
  | true =>
   obtain ⟨f', rfl, hf', hjl, rfl, hM2, hgo⟩ := loop_go (el := itemQ (bare l)) (by rw [bare_length]; exact hf) (by rw [hM]; exact hm1)
   rw [bare_length] at hf' hjl
   rw [hM] at hM2
   rw [hM2, hm1] at HM
   have HE2 := hid (show R = (ks ++ [(itemQ (bare l) (j + 1) false).1] ++ (loopQ (bare l) (itemQ (bare l)) f' false (itemQ (bare l) (j + 1) false).2.1 (itemQ (bare l) (j + 1) false).2.2).1, (loopQ (bare l) (itemQ (bare l)) f' false (itemQ (bare l) (j + 1) false).2.1 (itemQ (bare l) (j + 1) false).2.2).2) by
    rw [HE.out, hgo]
    simp)
   have E1 := nm_ends (L := bare l) (i := j + 1) (b := false) (by rw [bare_length]; omega)
   obtain ⟨n0, hn0⟩ : ∃ n0, nmQ (bare l) (j + 1) false = n0 := ⟨_, rfl⟩
   rw [hn0] at E1
   have E2 := must_ends (L := bare l) (i := n0.2.1) (b := n0.2.2) (s := [61]) E1.2.1
   obtain ⟨m0, hm0⟩ : ∃ m0, mustQ (bare l) n0.2.1 n0.2.2 [61] = m0 := ⟨_, rfl⟩
   rw [hm0] at E2
   have E3 := expr_ends (L := bare l) (i := m0.1) (b := m0.2) E2.2.1
   obtain ⟨p0, hp0⟩ : ∃ p0, exprQ (bare l) m0.1 m0.2 = p0 := ⟨_, rfl⟩
   rw [hp0] at E3
   have hit : itemQ (bare l) (j + 1) false = (.mk sItem n0.1 [p0.1.n], p0.2) := by unfold itemQ; rw [hn0, hm0, hp0]
   rw [hit] at HE2
   dsimp only at HE2
   have H1 := hid (fun (w' : World) (h' : QRd w' r q A cap l (j + 1) false) => qname_any r q A cap l (j + 1) false w' h' (by omega) hl)
   have H2 := hid (fun (w' : World) (h' : QRd w' r q A cap l n0.2.1 n0.2.2) => qmust_any r q A cap l n0.2.1 n0.2.2 ⟨#[61]⟩ w' h' (by have := E1.2.1; rw [bare_length] at this; exact this) hl)
   have H3 := hid (fun (w' : World) (h' : QRd w' r q A cap l m0.1 m0.2) => qexpr_any r q A cap l m0.1 m0.2 w' h' (by have := E2.2.1; rw [bare_length] at this; exact this) hl HFG.out)
   rw [hn0] at H1
   rw [show (⟨#[61]⟩ : ByteArray).data.toList = [61] from rfl, hm0] at H2
   rw [hp0] at H3
   unfold GetN at H3
   have hp1 : j + 1 ≤ p0.2.1 := Nat.le_trans E1.1 (Nat.le_trans E2.1 E3.1)
   have hp2 : p0.2.1 ≤ l.length := by have := E3.2.1; rw [bare_length] at this; exact this
   obtain ⟨T, hT⟩ : ∃ T : ByteArray, ⟨n0.1.toArray⟩ = T := ⟨_, rfl⟩
   have HTT := hid (show n0.1 = T.data.toList by rw [← hT])
   rw [hT] at H1
   have HP := hid (And.intro hp1 hp2)
   clear hgo HE hm1 hM hM2 hit hn0 hm0 hp0 E1 E2 E3 hp1 hp2 hT
   go_wp2_with fail
   refine HM.out.mono ?_
   rintro e w1 ⟨rfl, hb1, hr1⟩
   have O1 := hid (own_but HO.out hb1 (by omega))
   have A1 := hid (HA.out.apart zr hb1)
   have B1 := hid (HB.out.trans hb1)
   have R1 := hid (show QRd w1 r q A cap l (j + 1) false from hr1)
   have c1 := R1.out.cq
   clear hb1 hr1 HM
   go_wp2_with fail
   refine (H1.out _ R1.out).mono ?_
   rintro e w2 ⟨rfl, hb2, hr2⟩
   have O2 := hid (own_but O1.out hb2 (by omega))
   have A2 := hid (A1.out.apart zr hb2)
   have B2 := hid (B1.out.trans hb2)
   have R2 := hid hr2
   have c2 := R2.out.cq
   clear hb2 hr2 H1 c1
   go_wp2_with fail
   refine (H2.out _ R2.out).mono ?_
   rintro e w3 ⟨rfl, hb3, hr3⟩
   have O3 := hid (own_but O2.out hb3 (by omega))
   have A3 := hid (A2.out.apart zr hb3)
   have B3 := hid (B2.out.trans hb3)
   have R3 := hid hr3
   clear hb3 hr3 H2 c2
   go_wp2_with fail
   refine (H3.out _ R3.out).mono ?_
   rintro e w4 ⟨op, tx, Y, n, k, rfl, hI, hb4, hr4⟩
   have hz4 := hb4.size
   have hz3 := B3.out.size
   have O4 := hid (own_but O3.out hb4 (by omega))
   have A4 := hid (A3.out.apart zr hb4)
   have B4 := hid (B3.out.trans hb4)
   have R4 := hid hr4
   have OB := hid (own_block O3.out)
   have I4 := hid hI
   clear hb4 hr4 hI H3
   have MK := hid (fun (o1 o3 : Obj) => kid_made I4.out hz4 o1 o3 25 ⟨#[105, 116, 101, 109]⟩ T)
   rw [← HTT.out] at MK
   go_wp2_with (at_builtin; refine wpList_append_lies _ rfl _ _ _ rfl w.heap.size 25 i0 _ 3 56 Tryz.underlying23 hi0 hz0 hz1 hz2 rfl (by omega) _ N (flatC nc xs) rfl ?ca ⟨w4.heap.size + 1 + 1, 0, none⟩ 1 1 [.string ⟨#[105, 116, 101, 109]⟩, .string T, .slice (some ⟨w4.heap.size + 1, 0, none⟩) 1 1] rfl rfl ?cn ?co (by omega) ?cm ?cb ?cs (w4.heap.size + 1 + 1 + 1) ?ch ?_)
   case ca => exact own_call (own_call (own_call O4.out (below_alloc _ _)) (below_alloc _ _)) (below_alloc _ _)
   case cn => exact World.news_of_block (alloc3_new w4 _ _ _ _)
   case co => exact nc_one (⟨#[105, 116, 101, 109]⟩, T, some ⟨w4.heap.size + 1, 0, none⟩, 1, 1)
   case cm => unfold maxLen; omega
   case cb => omega
   case cs => simp; omega
   case ch => simp
   intro gg cap9 w9 hown9 hgrow hat hlt9
   obtain ⟨W8, hW8⟩ : ∃ W8, ((w4.alloc (.cells #[.string op, .string tx, .slice Y n k] 25)).alloc (.cells #[.string op, .string tx, .slice Y n k] 25)).alloc (.cells #[.string ⟨#[105, 116, 101, 109]⟩, .string T, .slice (some ⟨w4.heap.size + 1, 0, none⟩) 1 1] 25) = W8 := ⟨_, rfl⟩
   have hz8 : W8.heap.size = w4.heap.size + 1 + 1 + 1 := by rw [← hW8]; simp
   have BA := hid (show Below w4.heap.size w4 W8 by rw [← hW8]; exact (((Below.refl _ _).alloc (Nat.le_refl _) _).alloc (by simp) _).alloc (by simp; omega) _)
   rw [hW8] at hgrow
   have L9 := hid (linv_next (l := l) (A := A) (cap := cap) (R := R) (el := itemQ (bare l)) (f := f') (j := p0.2.1) (c := p0.2.2) (y := (⟨#[105, 116, 101, 109]⟩, T, some ⟨w4.heap.size + 1, 0, none⟩, 1, 1)) zr zq HN.out (own_call O4.out BA.out) hown9 hgrow (by rw [hz8]; exact hat) (A4.out.apart zr (But.of BA.out r)) (by
    have h := MK.out (.cells #[.string op, .string tx, .slice Y n k] 25) (.cells #[.string ⟨#[105, 116, 101, 109]⟩, .string T, .slice (some ⟨w4.heap.size + 1, 0, none⟩) 1 1] 25)
    rw [hW8] at h
    exact h) (fun g hg => ⟨by have := hg.1; omega, by have := hg.2; omega, fun ad e => by have := (OB.out ad e).2; have := hg.1; omega⟩) HP.out.2 (by have := HP.out.1; omega) (by have := HP.out.1; have := HKS.out; omega) HE2.out (B4.out.next BA.out) (R4.out.below BA.out))
   clear hown9 hgrow hat hlt9 hW8
   have hat9 := atq L9.out.2
   have hat0 := HAT.out
   have hp1 := HP.out.1
   go_wp2
   go_roundw
   case rel => exact L9.out.1
   case measure => omega
theorem pair_made (w : World) (o3 : Obj) (a b c d : ByteArray) :
  RIn ((w.alloc (.cells #[.string a, .string b, .slice none 0 0] 25)).alloc o3) (fun g => w.heap.size ≤ g ∧ g < w.heap.size + 2) (.mk c.data.toList d.data.toList [.mk a.data.toList b.data.toList []]) (c, d, some ⟨w.heap.size, 0, none⟩, 1, 1) :=
 RIn.made (ks := [.mk a.data.toList b.data.toList []]) 1 c d (nat_one w o3 a b none 0 0 _ (fun g => w.heap.size ≤ g ∧ g < w.heap.size + 2) ⟨Nat.le_refl _, by omega⟩) (RAll.one (RIn.leafN _ _ a b)) (by simp) (by simp)
theorem alloc2_new (w : World) (o1 : Obj) (cs : Array Value) (t : TypeId) : ((w.alloc o1).alloc (.cells cs t)).heap[w.heap.size + 1]? = some (.cells cs t (0, 0)) := by
 have h := heap_alloc_new (w.alloc o1) (.cells cs t)
 rw [show (w.alloc o1).heap.size = w.heap.size + 1 by simp] at h
 exact h
theorem qpairs_any (r q : Nat) (A : Option Addr) (cap : Nat) (l : List W) (i : Nat) (b : Bool) (w : World) (h : QRd w r q A cap l i b) (hi : i ≤ l.length) (hl : l.length ≤ 4194304) :
  Calls Tryz.prog 63 #[.pointer (some ⟨q, 0, none⟩)] w (GetL r q A cap l w (loopQ (bare l) (pairQ (bare l)) ((bare l).length + 1) true i b)) := by
 have HR := hid h
 have zr := h.lt
 have zq := h.ltq
 obtain ⟨R, hR⟩ : ∃ R, loopQ (bare l) (pairQ (bare l)) ((bare l).length + 1) true i b = R := ⟨_, rfl⟩
 have HRR := hid hR
 rw [hR]
 obtain ⟨i0, hi0, hz0, hz1, hz2⟩ := info_parts info_node
 clear h hR
 go_enter Tryz.func63, Tryz.ntmps63
 go_wp2
 go_loopw [3] (fun v wr => LInv r q A cap l w R (pairQ (bare l)) v wr) (fun _ wr => l.length - atOf wr r)
 case atStart =>
  refine ⟨(bare l).length + 1, i, b, [], [], none, 0, rfl, World.ownsRow_nil _ _ _ _, RAll.nil _ _, hi, by rw [bare_length]; omega, by simp, hid ?_, But.refl _ _, HR.out⟩
  rw [← HRR.out]
  rfl
 case round =>
  obtain ⟨f, j, c, ks, xs, X, cp, rfl, hown, hall, hj, hf, hkj, HE, hbut, hqr⟩ := hrel
  have HO := hid hown
  have HA := hid hall
  have HB := hid hbut
  have HQ := hid hqr
  have hz := hbut.size
  have hks := hall.1
  have HAT := hid (atq hqr)
  obtain ⟨N, hN⟩ : ∃ N, xs.length = N := ⟨_, rfl⟩
  obtain ⟨fb, hfb⟩ : ∃ fb, (ks.length == 0) = fb := ⟨_, rfl⟩
  have e1 : ((N : Int) == 0) = fb := by
   rw [← hfb, ← hN, hks, Bool.eq_iff_iff]
   simp
  rw [hfb] at HE
  rw [hN] at HO ⊢
  have hNj : N ≤ j + 2 := by omega
  have HKS := hid (show ks.length = N by omega)
  have HN := hid hN
  have HM := hid (qmore_any r q A cap l j c fb wr hqr hj hl)
  obtain ⟨M, hM⟩ : ∃ M, moreQ (bare l) j c fb = M := ⟨_, rfl⟩
  rw [hM] at HM
  clear hown hall hbut hqr hks hN hfb
  cases hm1 : M.1 with
  | false =>
   have hst := loop_stop (el := pairQ (bare l)) (f := f) (by omega) (by rw [hM]; exact hm1)
   rw [hst, hM] at HE
   rw [hm1] at HM
   have HEE := hid (show R = (ks, M.2) by rw [HE.out]; simp)
   clear hst HE hm1 hM
   go_wp2_with fail
   refine HM.out.mono ?_
   rintro e w1 ⟨rfl, hb1, hr1⟩
   have O1 := hid (own_but HO.out hb1 (by omega))
   have A1 := hid (HA.out.apart zr hb1)
   have B1 := hid (HB.out.trans hb1)
   have R1 := hid hr1
   clear hb1 hr1
   go_wp2
   go_ret
   have hg := getL_own (xs := xs) (by rw [HN.out]; exact O1.out) A1.out B1.out R1.out
   rw [HN.out] at hg
   rw [HEE.out]
   exact hg
  | true =>
   obtain ⟨f', rfl, hf', hjl, rfl, hM2, hgo⟩ := loop_go (el := pairQ (bare l)) (by rw [bare_length]; exact hf) (by rw [hM]; exact hm1)
   rw [bare_length] at hf' hjl
   rw [hM] at hM2
   rw [hM2, hm1] at HM
   have HE2 := hid (show R = (ks ++ [(pairQ (bare l) (j + 1) false).1] ++ (loopQ (bare l) (pairQ (bare l)) f' false (pairQ (bare l) (j + 1) false).2.1 (pairQ (bare l) (j + 1) false).2.2).1, (loopQ (bare l) (pairQ (bare l)) f' false (pairQ (bare l) (j + 1) false).2.1 (pairQ (bare l) (j + 1) false).2.2).2) by
    rw [HE.out, hgo]
    simp)
   have E1 := nm_ends (L := bare l) (i := j + 1) (b := false) (by rw [bare_length]; omega)
   obtain ⟨n0, hn0⟩ : ∃ n0, nmQ (bare l) (j + 1) false = n0 := ⟨_, rfl⟩
   rw [hn0] at E1
   have E2 := must_ends (L := bare l) (i := n0.2.1) (b := n0.2.2) (s := [61]) E1.2.1
   obtain ⟨m0, hm0⟩ : ∃ m0, mustQ (bare l) n0.2.1 n0.2.2 [61] = m0 := ⟨_, rfl⟩
   rw [hm0] at E2
   have E3 := nm_ends (L := bare l) (i := m0.1) (b := m0.2) E2.2.1
   obtain ⟨p0, hp0⟩ : ∃ p0, nmQ (bare l) m0.1 m0.2 = p0 := ⟨_, rfl⟩
   rw [hp0] at E3
   have hit : pairQ (bare l) (j + 1) false = (.mk sOn n0.1 [.mk sCol p0.1 []], p0.2) := by unfold pairQ; rw [hn0, hm0, hp0]
   rw [hit] at HE2
   dsimp only at HE2
   have H1 := hid (fun (w' : World) (h' : QRd w' r q A cap l (j + 1) false) => qname_any r q A cap l (j + 1) false w' h' (by omega) hl)
   have H2 := hid (fun (w' : World) (h' : QRd w' r q A cap l n0.2.1 n0.2.2) => qmust_any r q A cap l n0.2.1 n0.2.2 ⟨#[61]⟩ w' h' (by have := E1.2.1; rw [bare_length] at this; exact this) hl)
   have H3 := hid (fun (w' : World) (h' : QRd w' r q A cap l m0.1 m0.2) => qname_any r q A cap l m0.1 m0.2 w' h' (by have := E2.2.1; rw [bare_length] at this; exact this) hl)
   rw [hn0] at H1
   rw [show (⟨#[61]⟩ : ByteArray).data.toList = [61] from rfl, hm0] at H2
   rw [hp0] at H3
   have hp1 : j + 1 ≤ p0.2.1 := Nat.le_trans E1.1 (Nat.le_trans E2.1 E3.1)
   have hp2 : p0.2.1 ≤ l.length := by have := E3.2.1; rw [bare_length] at this; exact this
   obtain ⟨U, hU⟩ : ∃ U : ByteArray, ⟨p0.1.toArray⟩ = U := ⟨_, rfl⟩
   have HUU := hid (show p0.1 = U.data.toList by rw [← hU])
   rw [hU] at H3
   obtain ⟨T, hT⟩ : ∃ T : ByteArray, ⟨n0.1.toArray⟩ = T := ⟨_, rfl⟩
   have HTT := hid (show n0.1 = T.data.toList by rw [← hT])
   rw [hT] at H1
   have HP := hid (And.intro hp1 hp2)
   clear hgo HE hm1 hM hM2 hit hn0 hm0 hp0 E1 E2 E3 hp1 hp2 hT hU
   go_wp2_with fail
   refine HM.out.mono ?_
   rintro e w1 ⟨rfl, hb1, hr1⟩
   have O1 := hid (own_but HO.out hb1 (by omega))
   have A1 := hid (HA.out.apart zr hb1)
   have B1 := hid (HB.out.trans hb1)
   have R1 := hid (show QRd w1 r q A cap l (j + 1) false from hr1)
   have c1 := R1.out.cq
   clear hb1 hr1 HM
   go_wp2_with fail
   refine (H1.out _ R1.out).mono ?_
   rintro e w2 ⟨rfl, hb2, hr2⟩
   have O2 := hid (own_but O1.out hb2 (by omega))
   have A2 := hid (A1.out.apart zr hb2)
   have B2 := hid (B1.out.trans hb2)
   have R2 := hid hr2
   have c2 := R2.out.cq
   clear hb2 hr2 H1 c1
   go_wp2_with fail
   refine (H2.out _ R2.out).mono ?_
   rintro e w3 ⟨rfl, hb3, hr3⟩
   have O3 := hid (own_but O2.out hb3 (by omega))
   have A3 := hid (A2.out.apart zr hb3)
   have B3 := hid (B2.out.trans hb3)
   have R3 := hid hr3
   have c3 := R3.out.cq
   clear hb3 hr3 H2 c2
   go_wp2_with fail
   refine (H3.out _ R3.out).mono ?_
   rintro e w4 ⟨rfl, hb4, hr4⟩
   have hz4 := hb4.size
   have hz3 := B3.out.size
   have O4 := hid (own_but O3.out hb4 (by omega))
   have A4 := hid (A3.out.apart zr hb4)
   have B4 := hid (B3.out.trans hb4)
   have R4 := hid hr4
   have OB := hid (own_block O4.out)
   clear hb4 hr4 H3 c3
   have MK := hid (fun (o3 : Obj) => pair_made w4 o3 ⟨#[99, 111, 108]⟩ U ⟨#[111, 110]⟩ T)
   rw [← HTT.out, ← HUU.out] at MK
   go_wp2_with (at_builtin; refine wpList_append_lies _ rfl _ _ _ rfl w.heap.size 25 i0 _ 3 56 Tryz.underlying23 hi0 hz0 hz1 hz2 rfl (by omega) _ N (flatC nc xs) rfl ?ca ⟨w4.heap.size + 1, 0, none⟩ 1 1 [.string ⟨#[111, 110]⟩, .string T, .slice (some ⟨w4.heap.size, 0, none⟩) 1 1] rfl rfl ?cn ?co (by omega) ?cm ?cb ?cs (w4.heap.size + 1 + 1) ?ch ?_)
   case ca => exact own_call (own_call O4.out (below_alloc _ _)) (below_alloc _ _)
   case cn => exact World.news_of_block (alloc2_new w4 _ _ _)
   case co => exact nc_one (⟨#[111, 110]⟩, T, some ⟨w4.heap.size, 0, none⟩, 1, 1)
   case cm => unfold maxLen; omega
   case cb => omega
   case cs => simp; omega
   case ch => simp
   intro gg cap9 w9 hown9 hgrow hat hlt9
   obtain ⟨W8, hW8⟩ : ∃ W8, (w4.alloc (.cells #[.string ⟨#[99, 111, 108]⟩, .string U, .slice none 0 0] 25)).alloc (.cells #[.string ⟨#[111, 110]⟩, .string T, .slice (some ⟨w4.heap.size, 0, none⟩) 1 1] 25) = W8 := ⟨_, rfl⟩
   have hz8 : W8.heap.size = w4.heap.size + 1 + 1 := by rw [← hW8]; simp
   have BA := hid (show Below w4.heap.size w4 W8 by rw [← hW8]; exact ((Below.refl _ _).alloc (Nat.le_refl _) _).alloc (by simp) _)
   rw [hW8] at hgrow
   have L9 := hid (linv_next (l := l) (A := A) (cap := cap) (R := R) (el := pairQ (bare l)) (f := f') (j := p0.2.1) (c := p0.2.2) (y := (⟨#[111, 110]⟩, T, some ⟨w4.heap.size, 0, none⟩, 1, 1)) zr zq HN.out (own_call O4.out BA.out) hown9 hgrow (by rw [hz8]; exact hat) (A4.out.apart zr (But.of BA.out r)) (by
    have h := MK.out (.cells #[.string ⟨#[111, 110]⟩, .string T, .slice (some ⟨w4.heap.size, 0, none⟩) 1 1] 25)
    rw [hW8] at h
    exact h) (fun g hg => ⟨by have := hg.1; omega, by have := hg.2; omega, fun ad e => by have := (OB.out ad e).2; have := hg.1; omega⟩) HP.out.2 (by have := HP.out.1; omega) (by have := HP.out.1; have := HKS.out; omega) HE2.out (B4.out.next BA.out) (R4.out.below BA.out))
   clear hown9 hgrow hat hlt9 hW8
   have hat9 := atq L9.out.2
   have hat0 := HAT.out
   have hp1 := HP.out.1
   go_wp2
   go_roundw
   case rel => exact L9.out.1
   case measure => omega
theorem qquery_distinct (r q : Nat) (A : Option Addr) (cap : Nat) (l : List W) (f i : Nat) (b : Bool) (w : World) (h : QRd w r q A cap l i b) (hi : i ≤ l.length) (hf : l.length - i < f + 1) (hl : l.length ≤ 4194304) (hfg : FigW l) (IH : QIH r q A cap l f) (ho : opQ (bare l) i b opsQ = sDistinct) :
  Calls Tryz.prog 31 #[.pointer (some ⟨q, 0, none⟩)] w (GetN r q A cap l w (qq (bare l) (f + 1) i b)) := by
 have HR := hid h
 have HFG := hid hfg
 have HIH := hid IH
 have zr := h.lt
 have zq := h.ltq
 have H0 := hid (fun (w' : World) (h' : QRd w' r q A cap l i b) => qop_any r q A cap l i b w' h' hi hl sDistinct ho)
 rw [if_neg (by decide), show (⟨(sDistinct).toArray⟩ : ByteArray) = ⟨#[100, 105, 115, 116, 105, 110, 99, 116]⟩ from rfl] at H0
 have hlt := op_lt (l := opsQ) (L := bare l) (i := i) (b := b) (by rw [ho]; decide)
 have hi2 : i + 2 ≤ l.length := by have := hlt.1; rw [bare_length] at this; exact this
 have H1 := hid (fun (w' : World) (h' : QRd w' r q A cap l (i + 2) b) => HIH.out (i + 2) b w' h' hi2 (by omega))
 have E1 := qq_ends (bare l) f (i + 2) b (by rw [bare_length]; omega)
 obtain ⟨q0, hq0⟩ : ∃ q0, qq (bare l) f (i + 2) b = q0 := ⟨_, rfl⟩
 rw [hq0] at H1 E1
 unfold GetN at H1
 have hj : i + 2 ≤ q0.2.1 := E1.1
 have hjl : q0.2.1 ≤ l.length := by have := E1.2.1; rw [bare_length] at this; exact this
 obtain ⟨t0, ht0⟩ : ∃ t0, tailQ (bare l) (qq (bare l) f) sDistinct q0.2.1 q0.2.2 = t0 := ⟨_, rfl⟩
 rw [qq_op ho (by decide) hq0 ht0]
 have HT := hid ht0
 obtain ⟨i0, hi0, hz0, hz1, hz2⟩ := info_parts info_node
 have H2 := hid (fun (w' : World) (h' : QRd w' r q A cap l q0.2.1 q0.2.2) => qmust_any r q A cap l q0.2.1 q0.2.2 ⟨#[41]⟩ w' h' hjl hl)
 obtain ⟨a0, ha0⟩ : ∃ a0, mustQ (bare l) q0.2.1 q0.2.2 [41] = a0 := ⟨_, rfl⟩
 rw [show (⟨#[41]⟩ : ByteArray).data.toList = [41] from rfl, ha0] at H2
 have Ea0 := must_ends (L := bare l) (i := q0.2.1) (b := q0.2.2) (s := [41]) (by rw [bare_length]; exact hjl)
 rw [ha0, bare_length] at Ea0
 have ja0 : a0.1 ≤ l.length := Ea0.2.1
 have ia0 : q0.2.1 ≤ a0.1 := Ea0.1
 have ht : t0 = ([], a0) := by rw [← HT.out]; unfold tailQ; rw [if_neg (by decide), if_pos rfl, ha0]
 clear HT
 obtain ⟨RES, hRES⟩ : ∃ RES : Res, (Nod.mk sDistinct [] (q0.1 :: t0.1), t0.2) = RES := ⟨_, rfl⟩
 rw [hRES]
 have HRES := hid (show RES = (Nod.mk (⟨#[100, 105, 115, 116, 105, 110, 99, 116]⟩ : ByteArray).data.toList [] ([q0.1]), a0.1, a0.2) by rw [← hRES, ht]; rfl)
 clear h ho hfg IH hq0 ht0 E1 hlt ha0 Ea0 hRES ht
 go_enter Tryz.func31, Tryz.ntmps31
 obtain ⟨w0, hw0, hzw, N0, B0⟩ := made0 w r
 have R0 := hid (show QRd w0 r q A cap l i b by rw [← hw0]; exact HR.out.alloc _)
 have HW0 := hid hw0
 clear hw0
 go_wp2_with fail
 rw [HW0.out]
 refine (H0.out _ R0.out).mono ?_
 rintro e w1 ⟨rfl, hb1, hr1⟩
 have zb1 := hb1.size
 have N1 := hid (N0.out.but (by omega) hb1)
 have B1 := hid (B0.out.trans hb1)
 have R1 := hid hr1
 clear hb1 hr1 H0 HW0
 go_wp2_with fail
 refine (H1.out _ R1.out).mono ?_
 rintro e w2 ⟨op, tx, X, n, k, rfl, hI, hb2, hr2⟩
 have zb2 := hb2.size
 obtain ⟨gb, hgb⟩ : ∃ gb, w2.heap.size = gb := ⟨_, rfl⟩
 obtain ⟨w5, hw5⟩ : ∃ w5, ((w2.alloc (.cells #[.string op, .string tx, .slice X n k] 25)).alloc (.cells #[.string op, .string tx, .slice X n k] 25)).alloc (.cells #[.string ⟨#[100, 105, 115, 116, 105, 110, 99, 116]⟩, .string ⟨#[]⟩, .slice (some ⟨gb + 1, 0, none⟩) 1 1] 25) = w5 := ⟨_, rfl⟩
 have K5 := hid (show KInv r q A cap l w (gb + 1 + 1) ⟨#[100, 105, 115, 116, 105, 110, 99, 116]⟩ [q0.1] [(op, tx, X, n, k)] (gb + 1) 1 q0.2.1 q0.2.2 w5 by
  rw [← hw5]
  exact kinv_start zr hgb (by omega) zb2 (N1.out.but (by omega) hb2) hI (B1.out.trans hb2) hr2)
 have hgl : w.heap.size + 1 ≤ gb := by omega
 have HW5 := hid hw5
 clear hb2 hr2 hI H1 N1 B1 R1 hw5
 have cq := K5.out.rd.cq
 rw [← HW5.out] at cq
 go_wp2_with fail
 rw [HW5.out]
 refine (H2.out _ K5.out.rd).mono ?_
 rintro e w6 ⟨rfl, hb6, hr6⟩
 have K6 := hid (K5.out.next zr hb6 hr6)
 clear hb6 hr6 cq HW5
 have hN : ([(op, tx, X, n, k)]).length = 1 := rfl
 obtain ⟨x0, x1, x2, xf⟩ := K6.out.nb
 obtain ⟨z0, z1, z2, zf⟩ := K6.out.mb
 rw [hN] at z2
 have hg := K6.out.tell hN zr zq (by simp) (res := RES) HRES.out
 clear hN
 go_wp2
 have Y := K6.out.nb.set (.string ⟨#[100, 105, 115, 116, 105, 110, 99, 116]⟩) (.string ⟨#[]⟩) (.slice (some ⟨gb + 1, 0, none⟩) (1) 1)
 exact bodyPost_ret (v := .agg #[.string ⟨#[100, 105, 115, 116, 105, 110, 99, 116]⟩, .string ⟨#[]⟩, .slice (some ⟨gb + 1, 0, none⟩) (1) 1]) (by simp [results, Tryz.results31, go_sem, Y.c0, Y.c1, Y.c2]) rfl hg
theorem qquery_filter (r q : Nat) (A : Option Addr) (cap : Nat) (l : List W) (f i : Nat) (b : Bool) (w : World) (h : QRd w r q A cap l i b) (hi : i ≤ l.length) (hf : l.length - i < f + 1) (hl : l.length ≤ 4194304) (hfg : FigW l) (IH : QIH r q A cap l f) (ho : opQ (bare l) i b opsQ = sFilter) :
  Calls Tryz.prog 31 #[.pointer (some ⟨q, 0, none⟩)] w (GetN r q A cap l w (qq (bare l) (f + 1) i b)) := by
 have HR := hid h
 have HFG := hid hfg
 have HIH := hid IH
 have zr := h.lt
 have zq := h.ltq
 have H0 := hid (fun (w' : World) (h' : QRd w' r q A cap l i b) => qop_any r q A cap l i b w' h' hi hl sFilter ho)
 rw [if_neg (by decide), show (⟨(sFilter).toArray⟩ : ByteArray) = ⟨#[102, 105, 108, 116, 101, 114]⟩ from rfl] at H0
 have hlt := op_lt (l := opsQ) (L := bare l) (i := i) (b := b) (by rw [ho]; decide)
 have hi2 : i + 2 ≤ l.length := by have := hlt.1; rw [bare_length] at this; exact this
 have H1 := hid (fun (w' : World) (h' : QRd w' r q A cap l (i + 2) b) => HIH.out (i + 2) b w' h' hi2 (by omega))
 have E1 := qq_ends (bare l) f (i + 2) b (by rw [bare_length]; omega)
 obtain ⟨q0, hq0⟩ : ∃ q0, qq (bare l) f (i + 2) b = q0 := ⟨_, rfl⟩
 rw [hq0] at H1 E1
 unfold GetN at H1
 have hj : i + 2 ≤ q0.2.1 := E1.1
 have hjl : q0.2.1 ≤ l.length := by have := E1.2.1; rw [bare_length] at this; exact this
 obtain ⟨t0, ht0⟩ : ∃ t0, tailQ (bare l) (qq (bare l) f) sFilter q0.2.1 q0.2.2 = t0 := ⟨_, rfl⟩
 rw [qq_op ho (by decide) hq0 ht0]
 have HT := hid ht0
 obtain ⟨i0, hi0, hz0, hz1, hz2⟩ := info_parts info_node
 have H2 := hid (fun (w' : World) (h' : QRd w' r q A cap l q0.2.1 q0.2.2) => qmust_any r q A cap l q0.2.1 q0.2.2 ⟨#[44]⟩ w' h' hjl hl)
 obtain ⟨a0, ha0⟩ : ∃ a0, mustQ (bare l) q0.2.1 q0.2.2 [44] = a0 := ⟨_, rfl⟩
 rw [show (⟨#[44]⟩ : ByteArray).data.toList = [44] from rfl, ha0] at H2
 have Ea0 := must_ends (L := bare l) (i := q0.2.1) (b := q0.2.2) (s := [44]) (by rw [bare_length]; exact hjl)
 rw [ha0, bare_length] at Ea0
 have ja0 : a0.1 ≤ l.length := Ea0.2.1
 have ia0 : q0.2.1 ≤ a0.1 := Ea0.1
 have H3 := hid (fun (w' : World) (h' : QRd w' r q A cap l a0.1 a0.2) => qexpr_any r q A cap l a0.1 a0.2 w' h' ja0 hl HFG.out)
 have Ee := expr_ends (L := bare l) (i := a0.1) (b := a0.2) (by rw [bare_length]; exact ja0)
 obtain ⟨e0, he0⟩ : ∃ e0, exprQ (bare l) a0.1 a0.2 = e0 := ⟨_, rfl⟩
 rw [he0] at H3 Ee
 rw [bare_length] at Ee
 have je : e0.2.1 ≤ l.length := Ee.2.1
 obtain ⟨p0, hp0⟩ : ∃ p0 : Res, (e0.1.n, e0.2) = p0 := ⟨_, rfl⟩
 have hp1 : e0.2 = p0.2 := by rw [← hp0]
 have hp2 : e0.1.n = p0.1 := by rw [← hp0]
 rw [hp0] at H3
 unfold GetN at H3
 rw [hp1] at je
 have H4 := hid (fun (w' : World) (h' : QRd w' r q A cap l p0.2.1 p0.2.2) => qmust_any r q A cap l p0.2.1 p0.2.2 ⟨#[41]⟩ w' h' je hl)
 obtain ⟨v0, hv0⟩ : ∃ v0, mustQ (bare l) p0.2.1 p0.2.2 [41] = v0 := ⟨_, rfl⟩
 rw [show (⟨#[41]⟩ : ByteArray).data.toList = [41] from rfl, hv0] at H4
 have Ev0 := must_ends (L := bare l) (i := p0.2.1) (b := p0.2.2) (s := [41]) (by rw [bare_length]; exact je)
 rw [hv0, bare_length] at Ev0
 have jv0 : v0.1 ≤ l.length := Ev0.2.1
 have iv0 : p0.2.1 ≤ v0.1 := Ev0.1
 have ht : t0 = ([p0.1], v0) := by rw [← HT.out]; unfold tailQ; rw [if_pos rfl, ha0, he0, hp1, hp2, hv0]
 clear HT
 obtain ⟨RES, hRES⟩ : ∃ RES : Res, (Nod.mk sFilter [] (q0.1 :: t0.1), t0.2) = RES := ⟨_, rfl⟩
 rw [hRES]
 have HRES := hid (show RES = (Nod.mk (⟨#[102, 105, 108, 116, 101, 114]⟩ : ByteArray).data.toList [] ([q0.1] ++ [p0.1]), v0.1, v0.2) by rw [← hRES, ht]; rfl)
 clear h ho hfg IH hq0 ht0 E1 hlt ha0 Ea0 he0 Ee hp0 hp1 hp2 hv0 Ev0 hRES ht
 go_enter Tryz.func31, Tryz.ntmps31
 obtain ⟨w0, hw0, hzw, N0, B0⟩ := made0 w r
 have R0 := hid (show QRd w0 r q A cap l i b by rw [← hw0]; exact HR.out.alloc _)
 have HW0 := hid hw0
 clear hw0
 go_wp2_with fail
 rw [HW0.out]
 refine (H0.out _ R0.out).mono ?_
 rintro e w1 ⟨rfl, hb1, hr1⟩
 have zb1 := hb1.size
 have N1 := hid (N0.out.but (by omega) hb1)
 have B1 := hid (B0.out.trans hb1)
 have R1 := hid hr1
 clear hb1 hr1 H0 HW0
 go_wp2_with fail
 refine (H1.out _ R1.out).mono ?_
 rintro e w2 ⟨op, tx, X, n, k, rfl, hI, hb2, hr2⟩
 have zb2 := hb2.size
 obtain ⟨gb, hgb⟩ : ∃ gb, w2.heap.size = gb := ⟨_, rfl⟩
 obtain ⟨w5, hw5⟩ : ∃ w5, ((w2.alloc (.cells #[.string op, .string tx, .slice X n k] 25)).alloc (.cells #[.string op, .string tx, .slice X n k] 25)).alloc (.cells #[.string ⟨#[102, 105, 108, 116, 101, 114]⟩, .string ⟨#[]⟩, .slice (some ⟨gb + 1, 0, none⟩) 1 1] 25) = w5 := ⟨_, rfl⟩
 have K5 := hid (show KInv r q A cap l w (gb + 1 + 1) ⟨#[102, 105, 108, 116, 101, 114]⟩ [q0.1] [(op, tx, X, n, k)] (gb + 1) 1 q0.2.1 q0.2.2 w5 by
  rw [← hw5]
  exact kinv_start zr hgb (by omega) zb2 (N1.out.but (by omega) hb2) hI (B1.out.trans hb2) hr2)
 have hgl : w.heap.size + 1 ≤ gb := by omega
 have HW5 := hid hw5
 clear hb2 hr2 hI H1 N1 B1 R1 hw5
 have cq := K5.out.rd.cq
 rw [← HW5.out] at cq
 go_wp2_with fail
 rw [HW5.out]
 refine (H2.out _ K5.out.rd).mono ?_
 rintro e w6 ⟨rfl, hb6, hr6⟩
 have K6 := hid (K5.out.next zr hb6 hr6)
 clear hb6 hr6 cq HW5
 have y6 : w6.cell? ⟨gb + 1 + 1, 2, none⟩ = some (.slice (some ⟨gb + 1, 0, none⟩) 1 1) := K6.out.mb.c2
 have l6 := K6.out.mb.lt
 go_wp2_with fail
 go_region_law (first
   | (refine step_append_kids (by rfl) _ _ _ (by rfl) (w.heap.size + 1) 25 i0 _ 56 Tryz.underlying23 hi0 hz0 hz1 hz2 rfl (gb + 1) 1 1 (by omega) (flatC nc ([(op, tx, X, n, k)])) (by rfl) K8.out.own (w7.heap.size + 1) (some ⟨w7.heap.size, 0, none⟩) 1 1 [(op7, tx7, X7, n7, k7)] (by rfl) rfl ((nat_new w7 op7 tx7 X7 n7 k7 25 (fun g => g < w7.heap.size + 1) (Nat.lt_succ_self _)).at (fun g hg => hg)) (by unfold maxLen; omega) (by omega) (by simp; omega) ?_; intro gg cap9 w9 hown9 hgrow hat hlt9; have M9 := hid (K8.out.mb.grown hgrow (fun e => K8.out.ne (Option.some.inj e))); have y9 := M9.out.c2; have f9 := M9.out.fr 2)
   | (go_simp; refine (H3.out _ (K6.out.drew zr).rd).mono ?_; rintro e w7 ⟨op7, tx7, X7, n7, k7, rfl, hI7, hb7, hr7⟩; have zb7 : w6.heap.size ≤ w7.heap.size := hb7.size; have K7 := hid ((K6.out.drew zr).next zr hb7 hr7); have I7 := hid hI7; clear hb7 hr7 hI7; have K8 := hid (K7.out.alloc zr (.cells #[.string op7, .string tx7, .slice X7 n7 k7] 25)); have y7 : w7.cell? ⟨gb + 1 + 1, 2, none⟩ = some (.slice (some ⟨gb + 1, 0, none⟩) 1 1) := K7.out.mb.c2; have y8 : (w7.alloc (.cells #[.string op7, .string tx7, .slice X7 n7 k7] 25)).cell? ⟨gb + 1 + 1, 2, none⟩ = some (.slice (some ⟨gb + 1, 0, none⟩) 1 1) := K8.out.mb.c2))
 all_goals
  obtain ⟨wb, hwb⟩ : ∃ wb, w9.setCell ⟨gb + 1 + 1, 2, none⟩ (.slice (some ⟨gg, 0, none⟩) (1 + 1) cap9) = wb := ⟨_, rfl⟩
  have KB := hid (show KInv r q A cap l w (gb + 1 + 1) ⟨#[102, 105, 108, 116, 101, 114]⟩ (([q0.1]) ++ [p0.1]) (([(op, tx, X, n, k)]) ++ [(op7, tx7, X7, n7, k7)]) gg cap9 p0.2.1 p0.2.2 wb by
   rw [← hwb]
   exact K8.out.add zr zq (N := 1) (m := 1) rfl rfl (RAll.one ((I7.out.alloc (fun g hg => hg.2) _).imp (fun g hg => by
    have h1 : w6.heap.size ≤ g := hg.1
    have h2 := hg.2
    have h3 : w.heap.size + 1 ≤ gb + 1 := (K8.out.own.lt (gb + 1) rfl).1
    have h4 : gb + 1 < w6.heap.size := (K6.out.own.lt (gb + 1) rfl).2
    exact ⟨by omega, by simp; omega, by omega, by omega⟩))) hown9 hgrow hat)
  have HWB := hid hwb
  clear hwb hown9 hgrow hat hlt9 y6 y7 y8
  have cq := KB.out.rd.cq
  rw [← HWB.out] at cq
  go_wp2_with fail
  rw [HWB.out]
  refine (H4.out _ KB.out.rd).mono ?_
  rintro e w10 ⟨rfl, hb10, hr10⟩
  have K10 := hid (KB.out.next zr hb10 hr10)
  clear hb10 hr10 cq HWB
  have hN : ([(op, tx, X, n, k)] ++ [(op7, tx7, X7, n7, k7)]).length = 1 + 1 := rfl
  obtain ⟨x0, x1, x2, xf⟩ := K10.out.nb
  obtain ⟨z0, z1, z2, zf⟩ := K10.out.mb
  rw [hN] at z2
  have hg := K10.out.tell hN zr zq (by simp) (res := RES) HRES.out
  clear hN
  go_wp2
  have Y := K10.out.nb.set (.string ⟨#[102, 105, 108, 116, 101, 114]⟩) (.string ⟨#[]⟩) (.slice (some ⟨gg, 0, none⟩) (1 + 1) cap9)
  exact bodyPost_ret (v := .agg #[.string ⟨#[102, 105, 108, 116, 101, 114]⟩, .string ⟨#[]⟩, .slice (some ⟨gg, 0, none⟩) (1 + 1) cap9]) (by simp [results, Tryz.results31, go_sem, Y.c0, Y.c1, Y.c2]) rfl hg
theorem qquery_project (r q : Nat) (A : Option Addr) (cap : Nat) (l : List W) (f i : Nat) (b : Bool) (w : World) (h : QRd w r q A cap l i b) (hi : i ≤ l.length) (hf : l.length - i < f + 1) (hl : l.length ≤ 4194304) (hfg : FigW l) (IH : QIH r q A cap l f) (ho : opQ (bare l) i b opsQ = sProject) :
  Calls Tryz.prog 31 #[.pointer (some ⟨q, 0, none⟩)] w (GetN r q A cap l w (qq (bare l) (f + 1) i b)) := by
 have HR := hid h
 have HFG := hid hfg
 have HIH := hid IH
 have zr := h.lt
 have zq := h.ltq
 have H0 := hid (fun (w' : World) (h' : QRd w' r q A cap l i b) => qop_any r q A cap l i b w' h' hi hl sProject ho)
 rw [if_neg (by decide), show (⟨(sProject).toArray⟩ : ByteArray) = ⟨#[112, 114, 111, 106, 101, 99, 116]⟩ from rfl] at H0
 have hlt := op_lt (l := opsQ) (L := bare l) (i := i) (b := b) (by rw [ho]; decide)
 have hi2 : i + 2 ≤ l.length := by have := hlt.1; rw [bare_length] at this; exact this
 have H1 := hid (fun (w' : World) (h' : QRd w' r q A cap l (i + 2) b) => HIH.out (i + 2) b w' h' hi2 (by omega))
 have E1 := qq_ends (bare l) f (i + 2) b (by rw [bare_length]; omega)
 obtain ⟨q0, hq0⟩ : ∃ q0, qq (bare l) f (i + 2) b = q0 := ⟨_, rfl⟩
 rw [hq0] at H1 E1
 unfold GetN at H1
 have hj : i + 2 ≤ q0.2.1 := E1.1
 have hjl : q0.2.1 ≤ l.length := by have := E1.2.1; rw [bare_length] at this; exact this
 obtain ⟨t0, ht0⟩ : ∃ t0, tailQ (bare l) (qq (bare l) f) sProject q0.2.1 q0.2.2 = t0 := ⟨_, rfl⟩
 rw [qq_op ho (by decide) hq0 ht0]
 have HT := hid ht0
 obtain ⟨i0, hi0, hz0, hz1, hz2⟩ := info_parts info_node
 have H3 := hid (fun (w' : World) (h' : QRd w' r q A cap l q0.2.1 q0.2.2) => qitems_any r q A cap l q0.2.1 q0.2.2 w' h' hjl hl HFG.out)
 have hlen := loop_len (fun j c hj => item_ends (L := bare l) (i := j) (b := c) hj) ((bare l).length + 1) true q0.2.1 q0.2.2 (by rw [bare_length]; exact hjl)
 obtain ⟨p0, hp0⟩ : ∃ p0, loopQ (bare l) (itemQ (bare l)) ((bare l).length + 1) true q0.2.1 q0.2.2 = p0 := ⟨_, rfl⟩
 rw [hp0] at H3 hlen
 rw [bare_length] at hlen
 unfold GetL at H3
 have HLEN := hid (show p0.1.length ≤ 4194310 by omega)
 have ht : t0 = p0 := by rw [← HT.out, ← hp0]; unfold tailQ; rw [if_neg (by decide), if_neg (by decide), if_pos rfl]
 clear HT
 obtain ⟨RES, hRES⟩ : ∃ RES : Res, (Nod.mk sProject [] (q0.1 :: t0.1), t0.2) = RES := ⟨_, rfl⟩
 rw [hRES]
 have HRES := hid (show RES = (Nod.mk (⟨#[112, 114, 111, 106, 101, 99, 116]⟩ : ByteArray).data.toList [] ([q0.1] ++ p0.1), p0.2.1, p0.2.2) by rw [← hRES, ht]; rfl)
 clear h ho hfg IH hq0 ht0 E1 hlt hp0 hlen hRES ht
 go_enter Tryz.func31, Tryz.ntmps31
 obtain ⟨w0, hw0, hzw, N0, B0⟩ := made0 w r
 have R0 := hid (show QRd w0 r q A cap l i b by rw [← hw0]; exact HR.out.alloc _)
 have HW0 := hid hw0
 clear hw0
 go_wp2_with fail
 rw [HW0.out]
 refine (H0.out _ R0.out).mono ?_
 rintro e w1 ⟨rfl, hb1, hr1⟩
 have zb1 := hb1.size
 have N1 := hid (N0.out.but (by omega) hb1)
 have B1 := hid (B0.out.trans hb1)
 have R1 := hid hr1
 clear hb1 hr1 H0 HW0
 go_wp2_with fail
 refine (H1.out _ R1.out).mono ?_
 rintro e w2 ⟨op, tx, X, n, k, rfl, hI, hb2, hr2⟩
 have zb2 := hb2.size
 obtain ⟨gb, hgb⟩ : ∃ gb, w2.heap.size = gb := ⟨_, rfl⟩
 obtain ⟨w5, hw5⟩ : ∃ w5, ((w2.alloc (.cells #[.string op, .string tx, .slice X n k] 25)).alloc (.cells #[.string op, .string tx, .slice X n k] 25)).alloc (.cells #[.string ⟨#[112, 114, 111, 106, 101, 99, 116]⟩, .string ⟨#[]⟩, .slice (some ⟨gb + 1, 0, none⟩) 1 1] 25) = w5 := ⟨_, rfl⟩
 have K5 := hid (show KInv r q A cap l w (gb + 1 + 1) ⟨#[112, 114, 111, 106, 101, 99, 116]⟩ [q0.1] [(op, tx, X, n, k)] (gb + 1) 1 q0.2.1 q0.2.2 w5 by
  rw [← hw5]
  exact kinv_start zr hgb (by omega) zb2 (N1.out.but (by omega) hb2) hI (B1.out.trans hb2) hr2)
 have hgl : w.heap.size + 1 ≤ gb := by omega
 have HW5 := hid hw5
 clear hb2 hr2 hI H1 N1 B1 R1 hw5
 have y5 : w5.cell? ⟨gb + 1 + 1, 2, none⟩ = some (.slice (some ⟨gb + 1, 0, none⟩) 1 1) := K5.out.mb.c2
 have l5 := K5.out.mb.lt
 go_wp2_with fail
 rw [HW5.out]
 go_region_law (first
   | (refine step_append_kids (by rfl) _ _ _ (by rfl) (w.heap.size + 1) 25 i0 _ 56 Tryz.underlying23 hi0 hz0 hz1 hz2 rfl (gb + 1) 1 1 (by omega) (flatC nc ([(op, tx, X, n, k)])) (by rfl) K8.out.own w7.heap.size X7 m k7 ys (by rfl) HM7.out (T7.out.at (fun g hg => hg.2)) (by unfold maxLen; omega) (by omega) (by have := K8.out.nb.lt; omega) ?_; intro gg cap9 w9 hown9 hgrow hat hlt9; have M9 := hid (K8.out.mb.grown hgrow (fun e => K8.out.ne (Option.some.inj e))); have y9 := M9.out.c2; have f9 := M9.out.fr 2)
   | (go_simp; refine (H3.out _ (K5.out.drew zr).rd).mono ?_; rintro e w7 ⟨X7, k7, ys, rfl, hat7, hall7, hb7, hr7⟩; have zb7 : w5.heap.size ≤ w7.heap.size := hb7.size; have hl7 := hall7.1; obtain ⟨m, hm⟩ : ∃ m, ys.length = m := ⟨_, rfl⟩; rw [hm]; have hmm : m ≤ 4194310 := Nat.le_trans (Nat.le_of_eq (hm.symm.trans hl7)) HLEN.out; have HM7 := hid hm; have K8 := hid ((K5.out.drew zr).next zr hb7 hr7); have A7 := hid hall7; have T7 := hid hat7; clear hb7 hr7 hall7 hat7 hl7 hm; have y7 : w7.cell? ⟨gb + 1 + 1, 2, none⟩ = some (.slice (some ⟨gb + 1, 0, none⟩) 1 1) := K8.out.mb.c2))
 all_goals
  obtain ⟨wb, hwb⟩ : ∃ wb, w9.setCell ⟨gb + 1 + 1, 2, none⟩ (.slice (some ⟨gg, 0, none⟩) (1 + m) cap9) = wb := ⟨_, rfl⟩
  have KB := hid (show KInv r q A cap l w (gb + 1 + 1) ⟨#[112, 114, 111, 106, 101, 99, 116]⟩ (([q0.1]) ++ p0.1) (([(op, tx, X, n, k)]) ++ ys) gg cap9 p0.2.1 p0.2.2 wb by
   rw [← hwb]
   exact K8.out.add zr zq (N := 1) (m := m) rfl HM7.out (A7.out.keep (fun g hg => by
    have h1 : w5.heap.size ≤ g := hg.1
    have h2 := hg.2
    have h3 : w.heap.size + 1 ≤ gb + 1 := (K8.out.own.lt (gb + 1) rfl).1
    have h4 : gb + 1 < w5.heap.size := (K5.out.own.lt (gb + 1) rfl).2
    exact ⟨by omega, by omega, by omega, by omega⟩) (fun _ _ => rfl)) hown9 hgrow hat)
  have HWB := hid hwb
  rw [HWB.out]
  clear HWB
  clear hwb hown9 hgrow hat hlt9 y5 y7
  have hN : ([(op, tx, X, n, k)] ++ ys).length = 1 + m := (by simp [HM7.out]; omega)
  obtain ⟨x0, x1, x2, xf⟩ := KB.out.nb
  obtain ⟨z0, z1, z2, zf⟩ := KB.out.mb
  rw [hN] at z2
  have hg := KB.out.tell hN zr zq (by have := HLEN.out; simp; omega) (res := RES) HRES.out
  clear hN
  go_wp2
  have Y := KB.out.nb.set (.string ⟨#[112, 114, 111, 106, 101, 99, 116]⟩) (.string ⟨#[]⟩) (.slice (some ⟨gg, 0, none⟩) (1 + m) cap9)
  exact bodyPost_ret (v := .agg #[.string ⟨#[112, 114, 111, 106, 101, 99, 116]⟩, .string ⟨#[]⟩, .slice (some ⟨gg, 0, none⟩) (1 + m) cap9]) (by simp [results, Tryz.results31, go_sem, Y.c0, Y.c1, Y.c2]) rfl hg
theorem qquery_union (r q : Nat) (A : Option Addr) (cap : Nat) (l : List W) (f i : Nat) (b : Bool) (w : World) (h : QRd w r q A cap l i b) (hi : i ≤ l.length) (hf : l.length - i < f + 1) (hl : l.length ≤ 4194304) (hfg : FigW l) (IH : QIH r q A cap l f) (ho : opQ (bare l) i b opsQ = sUnion) :
  Calls Tryz.prog 31 #[.pointer (some ⟨q, 0, none⟩)] w (GetN r q A cap l w (qq (bare l) (f + 1) i b)) := by
 have HR := hid h
 have HFG := hid hfg
 have HIH := hid IH
 have zr := h.lt
 have zq := h.ltq
 have H0 := hid (fun (w' : World) (h' : QRd w' r q A cap l i b) => qop_any r q A cap l i b w' h' hi hl sUnion ho)
 rw [if_neg (by decide), show (⟨(sUnion).toArray⟩ : ByteArray) = ⟨#[117, 110, 105, 111, 110]⟩ from rfl] at H0
 have hlt := op_lt (l := opsQ) (L := bare l) (i := i) (b := b) (by rw [ho]; decide)
 have hi2 : i + 2 ≤ l.length := by have := hlt.1; rw [bare_length] at this; exact this
 have H1 := hid (fun (w' : World) (h' : QRd w' r q A cap l (i + 2) b) => HIH.out (i + 2) b w' h' hi2 (by omega))
 have E1 := qq_ends (bare l) f (i + 2) b (by rw [bare_length]; omega)
 obtain ⟨q0, hq0⟩ : ∃ q0, qq (bare l) f (i + 2) b = q0 := ⟨_, rfl⟩
 rw [hq0] at H1 E1
 unfold GetN at H1
 have hj : i + 2 ≤ q0.2.1 := E1.1
 have hjl : q0.2.1 ≤ l.length := by have := E1.2.1; rw [bare_length] at this; exact this
 obtain ⟨t0, ht0⟩ : ∃ t0, tailQ (bare l) (qq (bare l) f) sUnion q0.2.1 q0.2.2 = t0 := ⟨_, rfl⟩
 rw [qq_op ho (by decide) hq0 ht0]
 have HT := hid ht0
 obtain ⟨i0, hi0, hz0, hz1, hz2⟩ := info_parts info_node
 have HQF : QFrom r q A cap l (qq (bare l) f) q0.2.1 := fun j c w' hij hj h' => HIH.out j c w' h' hj (by omega)
 have H3 := hid (fun (w' : World) (h' : QRd w' r q A cap l q0.2.1 q0.2.2) => qqueries_any r q A cap l q0.2.1 q0.2.2 w' h' hjl hl (qq (bare l) f) (fun j c hj => qq_ends (bare l) f j c hj) HQF)
 have hlen := loop_len (fun j c hj => qq_ends (bare l) f j c hj) ((bare l).length + 1) true q0.2.1 q0.2.2 (by rw [bare_length]; exact hjl)
 obtain ⟨p0, hp0⟩ : ∃ p0, loopQ (bare l) (qq (bare l) f) ((bare l).length + 1) true q0.2.1 q0.2.2 = p0 := ⟨_, rfl⟩
 rw [hp0] at H3 hlen
 rw [bare_length] at hlen
 unfold GetL at H3
 have HLEN := hid (show p0.1.length ≤ 4194310 by omega)
 have ht : t0 = p0 := by rw [← HT.out, ← hp0]; unfold tailQ; rw [if_neg (by decide), if_neg (by decide), if_neg (by decide), if_pos rfl]
 clear HT
 obtain ⟨RES, hRES⟩ : ∃ RES : Res, (Nod.mk sUnion [] (q0.1 :: t0.1), t0.2) = RES := ⟨_, rfl⟩
 rw [hRES]
 have HRES := hid (show RES = (Nod.mk (⟨#[117, 110, 105, 111, 110]⟩ : ByteArray).data.toList [] ([q0.1] ++ p0.1), p0.2.1, p0.2.2) by rw [← hRES, ht]; rfl)
 clear h ho hfg IH hq0 ht0 E1 hlt hp0 hlen HQF hRES ht
 go_enter Tryz.func31, Tryz.ntmps31
 obtain ⟨w0, hw0, hzw, N0, B0⟩ := made0 w r
 have R0 := hid (show QRd w0 r q A cap l i b by rw [← hw0]; exact HR.out.alloc _)
 have HW0 := hid hw0
 clear hw0
 go_wp2_with fail
 rw [HW0.out]
 refine (H0.out _ R0.out).mono ?_
 rintro e w1 ⟨rfl, hb1, hr1⟩
 have zb1 := hb1.size
 have N1 := hid (N0.out.but (by omega) hb1)
 have B1 := hid (B0.out.trans hb1)
 have R1 := hid hr1
 clear hb1 hr1 H0 HW0
 go_wp2_with fail
 refine (H1.out _ R1.out).mono ?_
 rintro e w2 ⟨op, tx, X, n, k, rfl, hI, hb2, hr2⟩
 have zb2 := hb2.size
 obtain ⟨gb, hgb⟩ : ∃ gb, w2.heap.size = gb := ⟨_, rfl⟩
 obtain ⟨w5, hw5⟩ : ∃ w5, ((w2.alloc (.cells #[.string op, .string tx, .slice X n k] 25)).alloc (.cells #[.string op, .string tx, .slice X n k] 25)).alloc (.cells #[.string ⟨#[117, 110, 105, 111, 110]⟩, .string ⟨#[]⟩, .slice (some ⟨gb + 1, 0, none⟩) 1 1] 25) = w5 := ⟨_, rfl⟩
 have K5 := hid (show KInv r q A cap l w (gb + 1 + 1) ⟨#[117, 110, 105, 111, 110]⟩ [q0.1] [(op, tx, X, n, k)] (gb + 1) 1 q0.2.1 q0.2.2 w5 by
  rw [← hw5]
  exact kinv_start zr hgb (by omega) zb2 (N1.out.but (by omega) hb2) hI (B1.out.trans hb2) hr2)
 have hgl : w.heap.size + 1 ≤ gb := by omega
 have HW5 := hid hw5
 clear hb2 hr2 hI H1 N1 B1 R1 hw5
 have y5 : w5.cell? ⟨gb + 1 + 1, 2, none⟩ = some (.slice (some ⟨gb + 1, 0, none⟩) 1 1) := K5.out.mb.c2
 have l5 := K5.out.mb.lt
 go_wp2_with fail
 rw [HW5.out]
 go_region_law (first
   | (refine step_append_kids (by rfl) _ _ _ (by rfl) (w.heap.size + 1) 25 i0 _ 56 Tryz.underlying23 hi0 hz0 hz1 hz2 rfl (gb + 1) 1 1 (by omega) (flatC nc ([(op, tx, X, n, k)])) (by rfl) K8.out.own w7.heap.size X7 m k7 ys (by rfl) HM7.out (T7.out.at (fun g hg => hg.2)) (by unfold maxLen; omega) (by omega) (by have := K8.out.nb.lt; omega) ?_; intro gg cap9 w9 hown9 hgrow hat hlt9; have M9 := hid (K8.out.mb.grown hgrow (fun e => K8.out.ne (Option.some.inj e))); have y9 := M9.out.c2; have f9 := M9.out.fr 2)
   | (go_simp; refine (H3.out _ (K5.out.drew zr).rd).mono ?_; rintro e w7 ⟨X7, k7, ys, rfl, hat7, hall7, hb7, hr7⟩; have zb7 : w5.heap.size ≤ w7.heap.size := hb7.size; have hl7 := hall7.1; obtain ⟨m, hm⟩ : ∃ m, ys.length = m := ⟨_, rfl⟩; rw [hm]; have hmm : m ≤ 4194310 := Nat.le_trans (Nat.le_of_eq (hm.symm.trans hl7)) HLEN.out; have HM7 := hid hm; have K8 := hid ((K5.out.drew zr).next zr hb7 hr7); have A7 := hid hall7; have T7 := hid hat7; clear hb7 hr7 hall7 hat7 hl7 hm; have y7 : w7.cell? ⟨gb + 1 + 1, 2, none⟩ = some (.slice (some ⟨gb + 1, 0, none⟩) 1 1) := K8.out.mb.c2))
 all_goals
  obtain ⟨wb, hwb⟩ : ∃ wb, w9.setCell ⟨gb + 1 + 1, 2, none⟩ (.slice (some ⟨gg, 0, none⟩) (1 + m) cap9) = wb := ⟨_, rfl⟩
  have KB := hid (show KInv r q A cap l w (gb + 1 + 1) ⟨#[117, 110, 105, 111, 110]⟩ (([q0.1]) ++ p0.1) (([(op, tx, X, n, k)]) ++ ys) gg cap9 p0.2.1 p0.2.2 wb by
   rw [← hwb]
   exact K8.out.add zr zq (N := 1) (m := m) rfl HM7.out (A7.out.keep (fun g hg => by
    have h1 : w5.heap.size ≤ g := hg.1
    have h2 := hg.2
    have h3 : w.heap.size + 1 ≤ gb + 1 := (K8.out.own.lt (gb + 1) rfl).1
    have h4 : gb + 1 < w5.heap.size := (K5.out.own.lt (gb + 1) rfl).2
    exact ⟨by omega, by omega, by omega, by omega⟩) (fun _ _ => rfl)) hown9 hgrow hat)
  have HWB := hid hwb
  rw [HWB.out]
  clear HWB
  clear hwb hown9 hgrow hat hlt9 y5 y7
  have hN : ([(op, tx, X, n, k)] ++ ys).length = 1 + m := (by simp [HM7.out]; omega)
  obtain ⟨x0, x1, x2, xf⟩ := KB.out.nb
  obtain ⟨z0, z1, z2, zf⟩ := KB.out.mb
  rw [hN] at z2
  have hg := KB.out.tell hN zr zq (by have := HLEN.out; simp; omega) (res := RES) HRES.out
  clear hN
  go_wp2
  have Y := KB.out.nb.set (.string ⟨#[117, 110, 105, 111, 110]⟩) (.string ⟨#[]⟩) (.slice (some ⟨gg, 0, none⟩) (1 + m) cap9)
  exact bodyPost_ret (v := .agg #[.string ⟨#[117, 110, 105, 111, 110]⟩, .string ⟨#[]⟩, .slice (some ⟨gg, 0, none⟩) (1 + m) cap9]) (by simp [results, Tryz.results31, go_sem, Y.c0, Y.c1, Y.c2]) rfl hg
end Go.Proofs.YtjbpkpfmgbhlpaaGreatDoor.Code
