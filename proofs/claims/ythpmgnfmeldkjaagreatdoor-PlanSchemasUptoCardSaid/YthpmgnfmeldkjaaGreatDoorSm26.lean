/-
  The document's query: distinct, filter.
-/
import Derived.Test.YthpmgnfmeldkjaaGreatDoorSm25
import Derived.Deep.RegionLaw
import Derived.Test.YthpmgnfmeldkjaaGreatDoorSm9
import Derived.Test.YthpmgnfmeldkjaaGreatDoorSm6
import Derived.Test.YthpmgnfmeldkjaaGreatDoorSm4
import Derived.Deep.RegionHeld3
set_option maxRecDepth 100000
set_option maxHeartbeats 16000000
set_option linter.unusedVariables false
set_option linter.unusedSimpArgs false
open Go.Lib (hid)
namespace Go.Proofs.YthpmgnfmeldkjaaGreatDoor.Code
open Go.ChangeShapes Go.WideShapes Go.ChangeAt Go.RowKit Val Elems
theorem qquery_distinct (r q : Nat) (A : Option Addr) (cap : Nat) (l : List W) (f i : Nat) (b : Bool) (w : World) (h : QRd w r q A cap l i b) (hi : i ≤ l.length) (hf : l.length - i < f + 1) (hl : l.length ≤ 4194304) (hfg : FigW l) (IH : QIH r q A cap l f) (ho : opQ (bare l) i b opsQ = sDistinct) :
  Calls Tryz.prog 81 #[.pointer (some ⟨q, 0, none⟩)] w (GetN r q A cap l w (qq (bare l) (f + 1) i b)) := by
 have HR := hid h
 have HFG := hid hfg
 have HIH := hid IH
 have zr := h.lt
 have zq := h.ltq
 have H0 := hid (fun (w' : World) (h' : QRd w' r q A cap l i b) => qop_any r q A cap l i b w' h' hi hl sDistinct ho)
 rw [if_neg (by decide), show (⟨(sDistinct).toArray⟩ : ByteArray) = ⟨#[100, 105, 115, 116, 105, 110, 99, 116]⟩ from rfl] at H0
 have hlt := op_lt (l := opsQ) (L := bare l) (i := i) (b := b) (by rw [ho]; decide)
 have hi2 : i + 2 ≤ l.length := by have := hlt.1; rw [bare_length] at this; exact this
 have H1 := hid (fun (w' : World) (h' : QRd w' r q A cap l (i + 2) b) => HIH.out (i + 2) b w' h' hi2 (by omega))
 have E1 := qq_ends (bare l) f (i + 2) b (by rw [bare_length]; omega)
 obtain ⟨q0, hq0⟩ : ∃ q0, qq (bare l) f (i + 2) b = q0 := ⟨_, rfl⟩
 rw [hq0] at H1 E1
 unfold GetN at H1
 have hj : i + 2 ≤ q0.2.1 := E1.1
 have hjl : q0.2.1 ≤ l.length := by have := E1.2.1; rw [bare_length] at this; exact this
 obtain ⟨t0, ht0⟩ : ∃ t0, tailQ (bare l) (qq (bare l) f) sDistinct q0.2.1 q0.2.2 = t0 := ⟨_, rfl⟩
 rw [qq_op ho (by decide) hq0 ht0]
 have HT := hid ht0
 obtain ⟨i0, hi0, hz0, hz1, hz2⟩ := info_parts info_node
 have H2 := hid (fun (w' : World) (h' : QRd w' r q A cap l q0.2.1 q0.2.2) => qmust_any r q A cap l q0.2.1 q0.2.2 ⟨#[41]⟩ w' h' hjl hl)
 obtain ⟨a0, ha0⟩ : ∃ a0, mustQ (bare l) q0.2.1 q0.2.2 [41] = a0 := ⟨_, rfl⟩
 rw [show (⟨#[41]⟩ : ByteArray).data.toList = [41] from rfl, ha0] at H2
 have Ea0 := must_ends (L := bare l) (i := q0.2.1) (b := q0.2.2) (s := [41]) (by rw [bare_length]; exact hjl)
 rw [ha0, bare_length] at Ea0
 have ja0 : a0.1 ≤ l.length := Ea0.2.1
 have ia0 : q0.2.1 ≤ a0.1 := Ea0.1
 have ht : t0 = ([], a0) := by rw [← HT.out]; unfold tailQ; rw [if_neg (by decide), if_pos rfl, ha0]
 clear HT
 obtain ⟨RES, hRES⟩ : ∃ RES : Res, (Nod.mk sDistinct [] (q0.1 :: t0.1), t0.2) = RES := ⟨_, rfl⟩
 rw [hRES]
 have HRES := hid (show RES = (Nod.mk (⟨#[100, 105, 115, 116, 105, 110, 99, 116]⟩ : ByteArray).data.toList [] ([q0.1]), a0.1, a0.2) by rw [← hRES, ht]; rfl)
 clear h ho hfg IH hq0 ht0 E1 hlt ha0 Ea0 hRES ht
 go_enter Tryz.func81, Tryz.ntmps81
 obtain ⟨w0, hw0, hzw, N0, B0⟩ := made0 w r
 have R0 := hid (show QRd w0 r q A cap l i b by rw [← hw0]; exact HR.out.alloc _)
 have HW0 := hid hw0
 clear hw0
 go_wp2_with fail
 rw [HW0.out]
 refine (H0.out _ R0.out).mono ?_
 rintro e w1 ⟨rfl, hb1, hr1⟩
 have zb1 := hb1.size
 have N1 := hid (N0.out.but (by omega) hb1)
 have B1 := hid (B0.out.trans hb1)
 have R1 := hid hr1
 clear hb1 hr1 H0 HW0
 go_wp2_with fail
 refine (H1.out _ R1.out).mono ?_
 rintro e w2 ⟨op, tx, X, n, k, rfl, hI, hb2, hr2⟩
 have zb2 := hb2.size
 obtain ⟨gb, hgb⟩ : ∃ gb, w2.heap.size = gb := ⟨_, rfl⟩
 obtain ⟨w5, hw5⟩ : ∃ w5, ((w2.alloc (.cells #[.string op, .string tx, .slice X n k] 24)).alloc (.cells #[.string op, .string tx, .slice X n k] 24)).alloc (.cells #[.string ⟨#[100, 105, 115, 116, 105, 110, 99, 116]⟩, .string ⟨#[]⟩, .slice (some ⟨gb + 1, 0, none⟩) 1 1] 24) = w5 := ⟨_, rfl⟩
 have K5 := hid (show KInv r q A cap l w (gb + 1 + 1) ⟨#[100, 105, 115, 116, 105, 110, 99, 116]⟩ [q0.1] [(op, tx, X, n, k)] (gb + 1) 1 q0.2.1 q0.2.2 w5 by
  rw [← hw5]
  exact kinv_start zr hgb (by omega) zb2 (N1.out.but (by omega) hb2) hI (B1.out.trans hb2) hr2)
 have hgl : w.heap.size + 1 ≤ gb := by omega
 have HW5 := hid hw5
 clear hb2 hr2 hI H1 N1 B1 R1 hw5
 have cq := K5.out.rd.cq
 rw [← HW5.out] at cq
 go_wp2_with fail
 rw [HW5.out]
 refine (H2.out _ K5.out.rd).mono ?_
 rintro e w6 ⟨rfl, hb6, hr6⟩
 have K6 := hid (K5.out.next zr hb6 hr6)
 clear hb6 hr6 cq HW5
 have hN : ([(op, tx, X, n, k)]).length = 1 := rfl
 obtain ⟨x0, x1, x2, xf⟩ := K6.out.nb
 obtain ⟨z0, z1, z2, zf⟩ := K6.out.mb
 rw [hN] at z2
 have hg := K6.out.tell hN zr zq (by simp) (res := RES) HRES.out
 clear hN
 go_wp2
 have Y := K6.out.nb.set (.string ⟨#[100, 105, 115, 116, 105, 110, 99, 116]⟩) (.string ⟨#[]⟩) (.slice (some ⟨gb + 1, 0, none⟩) (1) 1)
 exact bodyPost_ret (v := .agg #[.string ⟨#[100, 105, 115, 116, 105, 110, 99, 116]⟩, .string ⟨#[]⟩, .slice (some ⟨gb + 1, 0, none⟩) (1) 1]) (by simp [results, Tryz.results81, go_sem, Y.c0, Y.c1, Y.c2]) rfl hg
theorem qquery_filter (r q : Nat) (A : Option Addr) (cap : Nat) (l : List W) (f i : Nat) (b : Bool) (w : World) (h : QRd w r q A cap l i b) (hi : i ≤ l.length) (hf : l.length - i < f + 1) (hl : l.length ≤ 4194304) (hfg : FigW l) (IH : QIH r q A cap l f) (ho : opQ (bare l) i b opsQ = sFilter) :
  Calls Tryz.prog 81 #[.pointer (some ⟨q, 0, none⟩)] w (GetN r q A cap l w (qq (bare l) (f + 1) i b)) := by
 have HR := hid h
 have HFG := hid hfg
 have HIH := hid IH
 have zr := h.lt
 have zq := h.ltq
 have H0 := hid (fun (w' : World) (h' : QRd w' r q A cap l i b) => qop_any r q A cap l i b w' h' hi hl sFilter ho)
 rw [if_neg (by decide), show (⟨(sFilter).toArray⟩ : ByteArray) = ⟨#[102, 105, 108, 116, 101, 114]⟩ from rfl] at H0
 have hlt := op_lt (l := opsQ) (L := bare l) (i := i) (b := b) (by rw [ho]; decide)
 have hi2 : i + 2 ≤ l.length := by have := hlt.1; rw [bare_length] at this; exact this
 have H1 := hid (fun (w' : World) (h' : QRd w' r q A cap l (i + 2) b) => HIH.out (i + 2) b w' h' hi2 (by omega))
 have E1 := qq_ends (bare l) f (i + 2) b (by rw [bare_length]; omega)
 obtain ⟨q0, hq0⟩ : ∃ q0, qq (bare l) f (i + 2) b = q0 := ⟨_, rfl⟩
 rw [hq0] at H1 E1
 unfold GetN at H1
 have hj : i + 2 ≤ q0.2.1 := E1.1
 have hjl : q0.2.1 ≤ l.length := by have := E1.2.1; rw [bare_length] at this; exact this
 obtain ⟨t0, ht0⟩ : ∃ t0, tailQ (bare l) (qq (bare l) f) sFilter q0.2.1 q0.2.2 = t0 := ⟨_, rfl⟩
 rw [qq_op ho (by decide) hq0 ht0]
 have HT := hid ht0
 obtain ⟨i0, hi0, hz0, hz1, hz2⟩ := info_parts info_node
 have H2 := hid (fun (w' : World) (h' : QRd w' r q A cap l q0.2.1 q0.2.2) => qmust_any r q A cap l q0.2.1 q0.2.2 ⟨#[44]⟩ w' h' hjl hl)
 obtain ⟨a0, ha0⟩ : ∃ a0, mustQ (bare l) q0.2.1 q0.2.2 [44] = a0 := ⟨_, rfl⟩
 rw [show (⟨#[44]⟩ : ByteArray).data.toList = [44] from rfl, ha0] at H2
 have Ea0 := must_ends (L := bare l) (i := q0.2.1) (b := q0.2.2) (s := [44]) (by rw [bare_length]; exact hjl)
 rw [ha0, bare_length] at Ea0
 have ja0 : a0.1 ≤ l.length := Ea0.2.1
 have ia0 : q0.2.1 ≤ a0.1 := Ea0.1
 have H3 := hid (fun (w' : World) (h' : QRd w' r q A cap l a0.1 a0.2) => qexpr_any r q A cap l a0.1 a0.2 w' h' ja0 hl HFG.out)
 have Ee := expr_ends (L := bare l) (i := a0.1) (b := a0.2) (by rw [bare_length]; exact ja0)
 obtain ⟨e0, he0⟩ : ∃ e0, exprQ (bare l) a0.1 a0.2 = e0 := ⟨_, rfl⟩
 rw [he0] at H3 Ee
 rw [bare_length] at Ee
 have je : e0.2.1 ≤ l.length := Ee.2.1
 obtain ⟨p0, hp0⟩ : ∃ p0 : Res, (e0.1.n, e0.2) = p0 := ⟨_, rfl⟩
 have hp1 : e0.2 = p0.2 := by rw [← hp0]
 have hp2 : e0.1.n = p0.1 := by rw [← hp0]
 rw [hp0] at H3
 unfold GetN at H3
 rw [hp1] at je
 have H4 := hid (fun (w' : World) (h' : QRd w' r q A cap l p0.2.1 p0.2.2) => qmust_any r q A cap l p0.2.1 p0.2.2 ⟨#[41]⟩ w' h' je hl)
 obtain ⟨v0, hv0⟩ : ∃ v0, mustQ (bare l) p0.2.1 p0.2.2 [41] = v0 := ⟨_, rfl⟩
 rw [show (⟨#[41]⟩ : ByteArray).data.toList = [41] from rfl, hv0] at H4
 have Ev0 := must_ends (L := bare l) (i := p0.2.1) (b := p0.2.2) (s := [41]) (by rw [bare_length]; exact je)
 rw [hv0, bare_length] at Ev0
 have jv0 : v0.1 ≤ l.length := Ev0.2.1
 have iv0 : p0.2.1 ≤ v0.1 := Ev0.1
 have ht : t0 = ([p0.1], v0) := by rw [← HT.out]; unfold tailQ; rw [if_pos rfl, ha0, he0, hp1, hp2, hv0]
 clear HT
 obtain ⟨RES, hRES⟩ : ∃ RES : Res, (Nod.mk sFilter [] (q0.1 :: t0.1), t0.2) = RES := ⟨_, rfl⟩
 rw [hRES]
 have HRES := hid (show RES = (Nod.mk (⟨#[102, 105, 108, 116, 101, 114]⟩ : ByteArray).data.toList [] ([q0.1] ++ [p0.1]), v0.1, v0.2) by rw [← hRES, ht]; rfl)
 clear h ho hfg IH hq0 ht0 E1 hlt ha0 Ea0 he0 Ee hp0 hp1 hp2 hv0 Ev0 hRES ht
 go_enter Tryz.func81, Tryz.ntmps81
 obtain ⟨w0, hw0, hzw, N0, B0⟩ := made0 w r
 have R0 := hid (show QRd w0 r q A cap l i b by rw [← hw0]; exact HR.out.alloc _)
 have HW0 := hid hw0
 clear hw0
 go_wp2_with fail
 rw [HW0.out]
 refine (H0.out _ R0.out).mono ?_
 rintro e w1 ⟨rfl, hb1, hr1⟩
 have zb1 := hb1.size
 have N1 := hid (N0.out.but (by omega) hb1)
 have B1 := hid (B0.out.trans hb1)
 have R1 := hid hr1
 clear hb1 hr1 H0 HW0
 go_wp2_with fail
 refine (H1.out _ R1.out).mono ?_
 rintro e w2 ⟨op, tx, X, n, k, rfl, hI, hb2, hr2⟩
 have zb2 := hb2.size
 obtain ⟨gb, hgb⟩ : ∃ gb, w2.heap.size = gb := ⟨_, rfl⟩
 obtain ⟨w5, hw5⟩ : ∃ w5, ((w2.alloc (.cells #[.string op, .string tx, .slice X n k] 24)).alloc (.cells #[.string op, .string tx, .slice X n k] 24)).alloc (.cells #[.string ⟨#[102, 105, 108, 116, 101, 114]⟩, .string ⟨#[]⟩, .slice (some ⟨gb + 1, 0, none⟩) 1 1] 24) = w5 := ⟨_, rfl⟩
 have K5 := hid (show KInv r q A cap l w (gb + 1 + 1) ⟨#[102, 105, 108, 116, 101, 114]⟩ [q0.1] [(op, tx, X, n, k)] (gb + 1) 1 q0.2.1 q0.2.2 w5 by
  rw [← hw5]
  exact kinv_start zr hgb (by omega) zb2 (N1.out.but (by omega) hb2) hI (B1.out.trans hb2) hr2)
 have hgl : w.heap.size + 1 ≤ gb := by omega
 have HW5 := hid hw5
 clear hb2 hr2 hI H1 N1 B1 R1 hw5
 have cq := K5.out.rd.cq
 rw [← HW5.out] at cq
 go_wp2_with fail
 rw [HW5.out]
 refine (H2.out _ K5.out.rd).mono ?_
 rintro e w6 ⟨rfl, hb6, hr6⟩
 have K6 := hid (K5.out.next zr hb6 hr6)
 clear hb6 hr6 cq HW5
 have y6 : w6.cell? ⟨gb + 1 + 1, 2, none⟩ = some (.slice (some ⟨gb + 1, 0, none⟩) 1 1) := K6.out.mb.c2
 have l6 := K6.out.mb.lt
 go_wp2_with fail
 go_region_law (first
   | (refine step_append_kids (by rfl) _ _ _ (by rfl) (w.heap.size + 1) 24 i0 _ 56 Tryz.underlying22 hi0 hz0 hz1 hz2 rfl (gb + 1) 1 1 (by omega) (flatC nc ([(op, tx, X, n, k)])) (by rfl) K8.out.own (w7.heap.size + 1) (some ⟨w7.heap.size, 0, none⟩) 1 1 [(op7, tx7, X7, n7, k7)] (by rfl) rfl ((nat_new w7 op7 tx7 X7 n7 k7 24 (fun g => g < w7.heap.size + 1) (Nat.lt_succ_self _)).at (fun g hg => hg)) (by unfold maxLen; omega) (by omega) (by simp; omega) ?_; intro gg cap9 w9 hown9 hgrow hat hlt9; have M9 := hid (K8.out.mb.grown hgrow (fun e => K8.out.ne (Option.some.inj e))); have y9 := M9.out.c2; have f9 := M9.out.fr 2)
   | (go_simp; refine (H3.out _ (K6.out.drew zr).rd).mono ?_; rintro e w7 ⟨op7, tx7, X7, n7, k7, rfl, hI7, hb7, hr7⟩; have zb7 : w6.heap.size ≤ w7.heap.size := hb7.size; have K7 := hid ((K6.out.drew zr).next zr hb7 hr7); have I7 := hid hI7; clear hb7 hr7 hI7; have K8 := hid (K7.out.alloc zr (.cells #[.string op7, .string tx7, .slice X7 n7 k7] 24)); have y7 : w7.cell? ⟨gb + 1 + 1, 2, none⟩ = some (.slice (some ⟨gb + 1, 0, none⟩) 1 1) := K7.out.mb.c2; have y8 : (w7.alloc (.cells #[.string op7, .string tx7, .slice X7 n7 k7] 24)).cell? ⟨gb + 1 + 1, 2, none⟩ = some (.slice (some ⟨gb + 1, 0, none⟩) 1 1) := K8.out.mb.c2))
 all_goals
  obtain ⟨wb, hwb⟩ : ∃ wb, w9.setCell ⟨gb + 1 + 1, 2, none⟩ (.slice (some ⟨gg, 0, none⟩) (1 + 1) cap9) = wb := ⟨_, rfl⟩
  have KB := hid (show KInv r q A cap l w (gb + 1 + 1) ⟨#[102, 105, 108, 116, 101, 114]⟩ (([q0.1]) ++ [p0.1]) (([(op, tx, X, n, k)]) ++ [(op7, tx7, X7, n7, k7)]) gg cap9 p0.2.1 p0.2.2 wb by
   rw [← hwb]
   exact K8.out.add zr zq (N := 1) (m := 1) rfl rfl (RAll.one ((I7.out.alloc (fun g hg => hg.2) _).imp (fun g hg => by
    have h1 : w6.heap.size ≤ g := hg.1
    have h2 := hg.2
    have h3 : w.heap.size + 1 ≤ gb + 1 := (K8.out.own.lt (gb + 1) rfl).1
    have h4 : gb + 1 < w6.heap.size := (K6.out.own.lt (gb + 1) rfl).2
    exact ⟨by omega, by simp; omega, by omega, by omega⟩))) hown9 hgrow hat)
  have HWB := hid hwb
  clear hwb hown9 hgrow hat hlt9 y6 y7 y8
  have cq := KB.out.rd.cq
  rw [← HWB.out] at cq
  go_wp2_with fail
  rw [HWB.out]
  refine (H4.out _ KB.out.rd).mono ?_
  rintro e w10 ⟨rfl, hb10, hr10⟩
  have K10 := hid (KB.out.next zr hb10 hr10)
  clear hb10 hr10 cq HWB
  have hN : ([(op, tx, X, n, k)] ++ [(op7, tx7, X7, n7, k7)]).length = 1 + 1 := rfl
  obtain ⟨x0, x1, x2, xf⟩ := K10.out.nb
  obtain ⟨z0, z1, z2, zf⟩ := K10.out.mb
  rw [hN] at z2
  have hg := K10.out.tell hN zr zq (by simp) (res := RES) HRES.out
  clear hN
  go_wp2
  have Y := K10.out.nb.set (.string ⟨#[102, 105, 108, 116, 101, 114]⟩) (.string ⟨#[]⟩) (.slice (some ⟨gg, 0, none⟩) (1 + 1) cap9)
  exact bodyPost_ret (v := .agg #[.string ⟨#[102, 105, 108, 116, 101, 114]⟩, .string ⟨#[]⟩, .slice (some ⟨gg, 0, none⟩) (1 + 1) cap9]) (by simp [results, Tryz.results81, go_sem, Y.c0, Y.c1, Y.c2]) rfl hg
theorem qquery_project (r q : Nat) (A : Option Addr) (cap : Nat) (l : List W) (f i : Nat) (b : Bool) (w : World) (h : QRd w r q A cap l i b) (hi : i ≤ l.length) (hf : l.length - i < f + 1) (hl : l.length ≤ 4194304) (hfg : FigW l) (IH : QIH r q A cap l f) (ho : opQ (bare l) i b opsQ = sProject) :
  Calls Tryz.prog 81 #[.pointer (some ⟨q, 0, none⟩)] w (GetN r q A cap l w (qq (bare l) (f + 1) i b)) := by
 have HR := hid h
 have HFG := hid hfg
 have HIH := hid IH
 have zr := h.lt
 have zq := h.ltq
 have H0 := hid (fun (w' : World) (h' : QRd w' r q A cap l i b) => qop_any r q A cap l i b w' h' hi hl sProject ho)
 rw [if_neg (by decide), show (⟨(sProject).toArray⟩ : ByteArray) = ⟨#[112, 114, 111, 106, 101, 99, 116]⟩ from rfl] at H0
 have hlt := op_lt (l := opsQ) (L := bare l) (i := i) (b := b) (by rw [ho]; decide)
 have hi2 : i + 2 ≤ l.length := by have := hlt.1; rw [bare_length] at this; exact this
 have H1 := hid (fun (w' : World) (h' : QRd w' r q A cap l (i + 2) b) => HIH.out (i + 2) b w' h' hi2 (by omega))
 have E1 := qq_ends (bare l) f (i + 2) b (by rw [bare_length]; omega)
 obtain ⟨q0, hq0⟩ : ∃ q0, qq (bare l) f (i + 2) b = q0 := ⟨_, rfl⟩
 rw [hq0] at H1 E1
 unfold GetN at H1
 have hj : i + 2 ≤ q0.2.1 := E1.1
 have hjl : q0.2.1 ≤ l.length := by have := E1.2.1; rw [bare_length] at this; exact this
 obtain ⟨t0, ht0⟩ : ∃ t0, tailQ (bare l) (qq (bare l) f) sProject q0.2.1 q0.2.2 = t0 := ⟨_, rfl⟩
 rw [qq_op ho (by decide) hq0 ht0]
 have HT := hid ht0
 obtain ⟨i0, hi0, hz0, hz1, hz2⟩ := info_parts info_node
 have H3 := hid (fun (w' : World) (h' : QRd w' r q A cap l q0.2.1 q0.2.2) => qitems_any r q A cap l q0.2.1 q0.2.2 w' h' hjl hl HFG.out)
 have hlen := loop_len (fun j c hj => item_ends (L := bare l) (i := j) (b := c) hj) ((bare l).length + 1) true q0.2.1 q0.2.2 (by rw [bare_length]; exact hjl)
 obtain ⟨p0, hp0⟩ : ∃ p0, loopQ (bare l) (itemQ (bare l)) ((bare l).length + 1) true q0.2.1 q0.2.2 = p0 := ⟨_, rfl⟩
 rw [hp0] at H3 hlen
 rw [bare_length] at hlen
 unfold GetL at H3
 have HLEN := hid (show p0.1.length ≤ 4194310 by omega)
 have ht : t0 = p0 := by rw [← HT.out, ← hp0]; unfold tailQ; rw [if_neg (by decide), if_neg (by decide), if_pos rfl]
 clear HT
 obtain ⟨RES, hRES⟩ : ∃ RES : Res, (Nod.mk sProject [] (q0.1 :: t0.1), t0.2) = RES := ⟨_, rfl⟩
 rw [hRES]
 have HRES := hid (show RES = (Nod.mk (⟨#[112, 114, 111, 106, 101, 99, 116]⟩ : ByteArray).data.toList [] ([q0.1] ++ p0.1), p0.2.1, p0.2.2) by rw [← hRES, ht]; rfl)
 clear h ho hfg IH hq0 ht0 E1 hlt hp0 hlen hRES ht
 go_enter Tryz.func81, Tryz.ntmps81
 obtain ⟨w0, hw0, hzw, N0, B0⟩ := made0 w r
 have R0 := hid (show QRd w0 r q A cap l i b by rw [← hw0]; exact HR.out.alloc _)
 have HW0 := hid hw0
 clear hw0
 go_wp2_with fail
 rw [HW0.out]
 refine (H0.out _ R0.out).mono ?_
 rintro e w1 ⟨rfl, hb1, hr1⟩
 have zb1 := hb1.size
 have N1 := hid (N0.out.but (by omega) hb1)
 have B1 := hid (B0.out.trans hb1)
 have R1 := hid hr1
 clear hb1 hr1 H0 HW0
 go_wp2_with fail
 refine (H1.out _ R1.out).mono ?_
 rintro e w2 ⟨op, tx, X, n, k, rfl, hI, hb2, hr2⟩
 have zb2 := hb2.size
 obtain ⟨gb, hgb⟩ : ∃ gb, w2.heap.size = gb := ⟨_, rfl⟩
 obtain ⟨w5, hw5⟩ : ∃ w5, ((w2.alloc (.cells #[.string op, .string tx, .slice X n k] 24)).alloc (.cells #[.string op, .string tx, .slice X n k] 24)).alloc (.cells #[.string ⟨#[112, 114, 111, 106, 101, 99, 116]⟩, .string ⟨#[]⟩, .slice (some ⟨gb + 1, 0, none⟩) 1 1] 24) = w5 := ⟨_, rfl⟩
 have K5 := hid (show KInv r q A cap l w (gb + 1 + 1) ⟨#[112, 114, 111, 106, 101, 99, 116]⟩ [q0.1] [(op, tx, X, n, k)] (gb + 1) 1 q0.2.1 q0.2.2 w5 by
  rw [← hw5]
  exact kinv_start zr hgb (by omega) zb2 (N1.out.but (by omega) hb2) hI (B1.out.trans hb2) hr2)
 have hgl : w.heap.size + 1 ≤ gb := by omega
 have HW5 := hid hw5
 clear hb2 hr2 hI H1 N1 B1 R1 hw5
 have y5 : w5.cell? ⟨gb + 1 + 1, 2, none⟩ = some (.slice (some ⟨gb + 1, 0, none⟩) 1 1) := K5.out.mb.c2
 have l5 := K5.out.mb.lt
 go_wp2_with fail
 rw [HW5.out]
 go_region_law (first
   | (refine step_append_kids (by rfl) _ _ _ (by rfl) (w.heap.size + 1) 24 i0 _ 56 Tryz.underlying22 hi0 hz0 hz1 hz2 rfl (gb + 1) 1 1 (by omega) (flatC nc ([(op, tx, X, n, k)])) (by rfl) K8.out.own w7.heap.size X7 m k7 ys (by rfl) HM7.out (T7.out.at (fun g hg => hg.2)) (by unfold maxLen; omega) (by omega) (by have := K8.out.nb.lt; omega) ?_; intro gg cap9 w9 hown9 hgrow hat hlt9; have M9 := hid (K8.out.mb.grown hgrow (fun e => K8.out.ne (Option.some.inj e))); have y9 := M9.out.c2; have f9 := M9.out.fr 2)
   | (go_simp; refine (H3.out _ (K5.out.drew zr).rd).mono ?_; rintro e w7 ⟨X7, k7, ys, rfl, hat7, hall7, hb7, hr7⟩; have zb7 : w5.heap.size ≤ w7.heap.size := hb7.size; have hl7 := hall7.1; obtain ⟨m, hm⟩ : ∃ m, ys.length = m := ⟨_, rfl⟩; rw [hm]; have hmm : m ≤ 4194310 := Nat.le_trans (Nat.le_of_eq (hm.symm.trans hl7)) HLEN.out; have HM7 := hid hm; have K8 := hid ((K5.out.drew zr).next zr hb7 hr7); have A7 := hid hall7; have T7 := hid hat7; clear hb7 hr7 hall7 hat7 hl7 hm; have y7 : w7.cell? ⟨gb + 1 + 1, 2, none⟩ = some (.slice (some ⟨gb + 1, 0, none⟩) 1 1) := K8.out.mb.c2))
 all_goals
  obtain ⟨wb, hwb⟩ : ∃ wb, w9.setCell ⟨gb + 1 + 1, 2, none⟩ (.slice (some ⟨gg, 0, none⟩) (1 + m) cap9) = wb := ⟨_, rfl⟩
  have KB := hid (show KInv r q A cap l w (gb + 1 + 1) ⟨#[112, 114, 111, 106, 101, 99, 116]⟩ (([q0.1]) ++ p0.1) (([(op, tx, X, n, k)]) ++ ys) gg cap9 p0.2.1 p0.2.2 wb by
   rw [← hwb]
   exact K8.out.add zr zq (N := 1) (m := m) rfl HM7.out (A7.out.keep (fun g hg => by
    have h1 : w5.heap.size ≤ g := hg.1
    have h2 := hg.2
    have h3 : w.heap.size + 1 ≤ gb + 1 := (K8.out.own.lt (gb + 1) rfl).1
    have h4 : gb + 1 < w5.heap.size := (K5.out.own.lt (gb + 1) rfl).2
    exact ⟨by omega, by omega, by omega, by omega⟩) (fun _ _ => rfl)) hown9 hgrow hat)
  have HWB := hid hwb
  rw [HWB.out]
  clear HWB
  clear hwb hown9 hgrow hat hlt9 y5 y7
  have hN : ([(op, tx, X, n, k)] ++ ys).length = 1 + m := (by simp [HM7.out]; omega)
  obtain ⟨x0, x1, x2, xf⟩ := KB.out.nb
  obtain ⟨z0, z1, z2, zf⟩ := KB.out.mb
  rw [hN] at z2
  have hg := KB.out.tell hN zr zq (by have := HLEN.out; simp; omega) (res := RES) HRES.out
  clear hN
  go_wp2
  have Y := KB.out.nb.set (.string ⟨#[112, 114, 111, 106, 101, 99, 116]⟩) (.string ⟨#[]⟩) (.slice (some ⟨gg, 0, none⟩) (1 + m) cap9)
  exact bodyPost_ret (v := .agg #[.string ⟨#[112, 114, 111, 106, 101, 99, 116]⟩, .string ⟨#[]⟩, .slice (some ⟨gg, 0, none⟩) (1 + m) cap9]) (by simp [results, Tryz.results81, go_sem, Y.c0, Y.c1, Y.c2]) rfl hg
theorem qquery_union (r q : Nat) (A : Option Addr) (cap : Nat) (l : List W) (f i : Nat) (b : Bool) (w : World) (h : QRd w r q A cap l i b) (hi : i ≤ l.length) (hf : l.length - i < f + 1) (hl : l.length ≤ 4194304) (hfg : FigW l) (IH : QIH r q A cap l f) (ho : opQ (bare l) i b opsQ = sUnion) :
  Calls Tryz.prog 81 #[.pointer (some ⟨q, 0, none⟩)] w (GetN r q A cap l w (qq (bare l) (f + 1) i b)) := by
 have HR := hid h
 have HFG := hid hfg
 have HIH := hid IH
 have zr := h.lt
 have zq := h.ltq
 have H0 := hid (fun (w' : World) (h' : QRd w' r q A cap l i b) => qop_any r q A cap l i b w' h' hi hl sUnion ho)
 rw [if_neg (by decide), show (⟨(sUnion).toArray⟩ : ByteArray) = ⟨#[117, 110, 105, 111, 110]⟩ from rfl] at H0
 have hlt := op_lt (l := opsQ) (L := bare l) (i := i) (b := b) (by rw [ho]; decide)
 have hi2 : i + 2 ≤ l.length := by have := hlt.1; rw [bare_length] at this; exact this
 have H1 := hid (fun (w' : World) (h' : QRd w' r q A cap l (i + 2) b) => HIH.out (i + 2) b w' h' hi2 (by omega))
 have E1 := qq_ends (bare l) f (i + 2) b (by rw [bare_length]; omega)
 obtain ⟨q0, hq0⟩ : ∃ q0, qq (bare l) f (i + 2) b = q0 := ⟨_, rfl⟩
 rw [hq0] at H1 E1
 unfold GetN at H1
 have hj : i + 2 ≤ q0.2.1 := E1.1
 have hjl : q0.2.1 ≤ l.length := by have := E1.2.1; rw [bare_length] at this; exact this
 obtain ⟨t0, ht0⟩ : ∃ t0, tailQ (bare l) (qq (bare l) f) sUnion q0.2.1 q0.2.2 = t0 := ⟨_, rfl⟩
 rw [qq_op ho (by decide) hq0 ht0]
 have HT := hid ht0
 obtain ⟨i0, hi0, hz0, hz1, hz2⟩ := info_parts info_node
 have HQF : QFrom r q A cap l (qq (bare l) f) q0.2.1 := fun j c w' hij hj h' => HIH.out j c w' h' hj (by omega)
 have H3 := hid (fun (w' : World) (h' : QRd w' r q A cap l q0.2.1 q0.2.2) => qqueries_any r q A cap l q0.2.1 q0.2.2 w' h' hjl hl (qq (bare l) f) (fun j c hj => qq_ends (bare l) f j c hj) HQF)
 have hlen := loop_len (fun j c hj => qq_ends (bare l) f j c hj) ((bare l).length + 1) true q0.2.1 q0.2.2 (by rw [bare_length]; exact hjl)
 obtain ⟨p0, hp0⟩ : ∃ p0, loopQ (bare l) (qq (bare l) f) ((bare l).length + 1) true q0.2.1 q0.2.2 = p0 := ⟨_, rfl⟩
 rw [hp0] at H3 hlen
 rw [bare_length] at hlen
 unfold GetL at H3
 have HLEN := hid (show p0.1.length ≤ 4194310 by omega)
 have ht : t0 = p0 := by rw [← HT.out, ← hp0]; unfold tailQ; rw [if_neg (by decide), if_neg (by decide), if_neg (by decide), if_pos rfl]
 clear HT
 obtain ⟨RES, hRES⟩ : ∃ RES : Res, (Nod.mk sUnion [] (q0.1 :: t0.1), t0.2) = RES := ⟨_, rfl⟩
 rw [hRES]
 have HRES := hid (show RES = (Nod.mk (⟨#[117, 110, 105, 111, 110]⟩ : ByteArray).data.toList [] ([q0.1] ++ p0.1), p0.2.1, p0.2.2) by rw [← hRES, ht]; rfl)
 clear h ho hfg IH hq0 ht0 E1 hlt hp0 hlen HQF hRES ht
 go_enter Tryz.func81, Tryz.ntmps81
 obtain ⟨w0, hw0, hzw, N0, B0⟩ := made0 w r
 have R0 := hid (show QRd w0 r q A cap l i b by rw [← hw0]; exact HR.out.alloc _)
 have HW0 := hid hw0
 clear hw0
 go_wp2_with fail
 rw [HW0.out]
 refine (H0.out _ R0.out).mono ?_
 rintro e w1 ⟨rfl, hb1, hr1⟩
 have zb1 := hb1.size
 have N1 := hid (N0.out.but (by omega) hb1)
 have B1 := hid (B0.out.trans hb1)
 have R1 := hid hr1
 clear hb1 hr1 H0 HW0
 go_wp2_with fail
 refine (H1.out _ R1.out).mono ?_
 rintro e w2 ⟨op, tx, X, n, k, rfl, hI, hb2, hr2⟩
 have zb2 := hb2.size
 obtain ⟨gb, hgb⟩ : ∃ gb, w2.heap.size = gb := ⟨_, rfl⟩
 obtain ⟨w5, hw5⟩ : ∃ w5, ((w2.alloc (.cells #[.string op, .string tx, .slice X n k] 24)).alloc (.cells #[.string op, .string tx, .slice X n k] 24)).alloc (.cells #[.string ⟨#[117, 110, 105, 111, 110]⟩, .string ⟨#[]⟩, .slice (some ⟨gb + 1, 0, none⟩) 1 1] 24) = w5 := ⟨_, rfl⟩
 have K5 := hid (show KInv r q A cap l w (gb + 1 + 1) ⟨#[117, 110, 105, 111, 110]⟩ [q0.1] [(op, tx, X, n, k)] (gb + 1) 1 q0.2.1 q0.2.2 w5 by
  rw [← hw5]
  exact kinv_start zr hgb (by omega) zb2 (N1.out.but (by omega) hb2) hI (B1.out.trans hb2) hr2)
 have hgl : w.heap.size + 1 ≤ gb := by omega
 have HW5 := hid hw5
 clear hb2 hr2 hI H1 N1 B1 R1 hw5
 have y5 : w5.cell? ⟨gb + 1 + 1, 2, none⟩ = some (.slice (some ⟨gb + 1, 0, none⟩) 1 1) := K5.out.mb.c2
 have l5 := K5.out.mb.lt
 go_wp2_with fail
 rw [HW5.out]
 go_region_law (first
   | (refine step_append_kids (by rfl) _ _ _ (by rfl) (w.heap.size + 1) 24 i0 _ 56 Tryz.underlying22 hi0 hz0 hz1 hz2 rfl (gb + 1) 1 1 (by omega) (flatC nc ([(op, tx, X, n, k)])) (by rfl) K8.out.own w7.heap.size X7 m k7 ys (by rfl) HM7.out (T7.out.at (fun g hg => hg.2)) (by unfold maxLen; omega) (by omega) (by have := K8.out.nb.lt; omega) ?_; intro gg cap9 w9 hown9 hgrow hat hlt9; have M9 := hid (K8.out.mb.grown hgrow (fun e => K8.out.ne (Option.some.inj e))); have y9 := M9.out.c2; have f9 := M9.out.fr 2)
   | (go_simp; refine (H3.out _ (K5.out.drew zr).rd).mono ?_; rintro e w7 ⟨X7, k7, ys, rfl, hat7, hall7, hb7, hr7⟩; have zb7 : w5.heap.size ≤ w7.heap.size := hb7.size; have hl7 := hall7.1; obtain ⟨m, hm⟩ : ∃ m, ys.length = m := ⟨_, rfl⟩; rw [hm]; have hmm : m ≤ 4194310 := Nat.le_trans (Nat.le_of_eq (hm.symm.trans hl7)) HLEN.out; have HM7 := hid hm; have K8 := hid ((K5.out.drew zr).next zr hb7 hr7); have A7 := hid hall7; have T7 := hid hat7; clear hb7 hr7 hall7 hat7 hl7 hm; have y7 : w7.cell? ⟨gb + 1 + 1, 2, none⟩ = some (.slice (some ⟨gb + 1, 0, none⟩) 1 1) := K8.out.mb.c2))
 all_goals
  obtain ⟨wb, hwb⟩ : ∃ wb, w9.setCell ⟨gb + 1 + 1, 2, none⟩ (.slice (some ⟨gg, 0, none⟩) (1 + m) cap9) = wb := ⟨_, rfl⟩
  have KB := hid (show KInv r q A cap l w (gb + 1 + 1) ⟨#[117, 110, 105, 111, 110]⟩ (([q0.1]) ++ p0.1) (([(op, tx, X, n, k)]) ++ ys) gg cap9 p0.2.1 p0.2.2 wb by
   rw [← hwb]
   exact K8.out.add zr zq (N := 1) (m := m) rfl HM7.out (A7.out.keep (fun g hg => by
    have h1 : w5.heap.size ≤ g := hg.1
    have h2 := hg.2
    have h3 : w.heap.size + 1 ≤ gb + 1 := (K8.out.own.lt (gb + 1) rfl).1
    have h4 : gb + 1 < w5.heap.size := (K5.out.own.lt (gb + 1) rfl).2
    exact ⟨by omega, by omega, by omega, by omega⟩) (fun _ _ => rfl)) hown9 hgrow hat)
  have HWB := hid hwb
  rw [HWB.out]
  clear HWB
  clear hwb hown9 hgrow hat hlt9 y5 y7
  have hN : ([(op, tx, X, n, k)] ++ ys).length = 1 + m := (by simp [HM7.out]; omega)
  obtain ⟨x0, x1, x2, xf⟩ := KB.out.nb
  obtain ⟨z0, z1, z2, zf⟩ := KB.out.mb
  rw [hN] at z2
  have hg := KB.out.tell hN zr zq (by have := HLEN.out; simp; omega) (res := RES) HRES.out
  clear hN
  go_wp2
  have Y := KB.out.nb.set (.string ⟨#[117, 110, 105, 111, 110]⟩) (.string ⟨#[]⟩) (.slice (some ⟨gg, 0, none⟩) (1 + m) cap9)
  exact bodyPost_ret (v := .agg #[.string ⟨#[117, 110, 105, 111, 110]⟩, .string ⟨#[]⟩, .slice (some ⟨gg, 0, none⟩) (1 + m) cap9]) (by simp [results, Tryz.results81, go_sem, Y.c0, Y.c1, Y.c2]) rfl hg
theorem qquery_group (r q : Nat) (A : Option Addr) (cap : Nat) (l : List W) (f i : Nat) (b : Bool) (w : World) (h : QRd w r q A cap l i b) (hi : i ≤ l.length) (hf : l.length - i < f + 1) (hl : l.length ≤ 4194304) (hfg : FigW l) (IH : QIH r q A cap l f) (ho : opQ (bare l) i b opsQ = sGroup) :
  Calls Tryz.prog 81 #[.pointer (some ⟨q, 0, none⟩)] w (GetN r q A cap l w (qq (bare l) (f + 1) i b)) := by
 have HR := hid h
 have HFG := hid hfg
 have HIH := hid IH
 have zr := h.lt
 have zq := h.ltq
 have H0 := hid (fun (w' : World) (h' : QRd w' r q A cap l i b) => qop_any r q A cap l i b w' h' hi hl sGroup ho)
 rw [if_neg (by decide), show (⟨(sGroup).toArray⟩ : ByteArray) = ⟨#[103, 114, 111, 117, 112]⟩ from rfl] at H0
 have hlt := op_lt (l := opsQ) (L := bare l) (i := i) (b := b) (by rw [ho]; decide)
 have hi2 : i + 2 ≤ l.length := by have := hlt.1; rw [bare_length] at this; exact this
 have H1 := hid (fun (w' : World) (h' : QRd w' r q A cap l (i + 2) b) => HIH.out (i + 2) b w' h' hi2 (by omega))
 have E1 := qq_ends (bare l) f (i + 2) b (by rw [bare_length]; omega)
 obtain ⟨q0, hq0⟩ : ∃ q0, qq (bare l) f (i + 2) b = q0 := ⟨_, rfl⟩
 rw [hq0] at H1 E1
 unfold GetN at H1
 have hj : i + 2 ≤ q0.2.1 := E1.1
 have hjl : q0.2.1 ≤ l.length := by have := E1.2.1; rw [bare_length] at this; exact this
 obtain ⟨t0, ht0⟩ : ∃ t0, tailQ (bare l) (qq (bare l) f) sGroup q0.2.1 q0.2.2 = t0 := ⟨_, rfl⟩
 rw [qq_op ho (by decide) hq0 ht0]
 have HT := hid ht0
 obtain ⟨i0, hi0, hz0, hz1, hz2⟩ := info_parts info_node
 have H3 := hid (fun (w' : World) (h' : QRd w' r q A cap l q0.2.1 q0.2.2) => qgrouped_any r q A cap l q0.2.1 q0.2.2 w' h' hjl hl)
 have hlen : (groupQ (bare l) (mustQ (bare l) q0.2.1 q0.2.2 [44]).1 (mustQ (bare l) q0.2.1 q0.2.2 [44]).2).1.length ≤ 4194310 := by
  have e1 := must_ends (L := bare l) (i := q0.2.1) (b := q0.2.2) (s := [44]) (by rw [bare_length]; exact hjl)
  have e2 := by_ends (L := bare l) (i := (mustQ (bare l) q0.2.1 q0.2.2 [44]).1) (b := (mustQ (bare l) q0.2.1 q0.2.2 [44]).2) e1.2.1
  have e3 := agg_ends (L := bare l) (i := (byQ (bare l) (mustQ (bare l) q0.2.1 q0.2.2 [44]).1 (mustQ (bare l) q0.2.1 q0.2.2 [44]).2).2.1) (b := (byQ (bare l) (mustQ (bare l) q0.2.1 q0.2.2 [44]).1 (mustQ (bare l) q0.2.1 q0.2.2 [44]).2).2.2) e2.2.1
  have e4 := loop_len (fun j c hj => agg_ends (L := bare l) (i := j) (b := c) hj) ((bare l).length + 1) false _ (aggQ (bare l) (byQ (bare l) (mustQ (bare l) q0.2.1 q0.2.2 [44]).1 (mustQ (bare l) q0.2.1 q0.2.2 [44]).2).2.1 (byQ (bare l) (mustQ (bare l) q0.2.1 q0.2.2 [44]).1 (mustQ (bare l) q0.2.1 q0.2.2 [44]).2).2.2).2.2 e3.2.1
  unfold groupQ
  rw [bare_length] at e4 ⊢
  simp only [List.length_cons]
  omega
 obtain ⟨p0, hp0⟩ : ∃ p0, groupQ (bare l) (mustQ (bare l) q0.2.1 q0.2.2 [44]).1 (mustQ (bare l) q0.2.1 q0.2.2 [44]).2 = p0 := ⟨_, rfl⟩
 rw [hp0] at H3 hlen
 unfold GetL at H3
 have HLEN := hid (show p0.1.length ≤ 4194310 by omega)
 have ht : t0 = p0 := by rw [← HT.out, ← hp0]; unfold tailQ; rw [if_neg (by decide), if_neg (by decide), if_neg (by decide), if_neg (by decide), if_neg (by decide)]
 clear HT
 obtain ⟨RES, hRES⟩ : ∃ RES : Res, (Nod.mk sGroup [] (q0.1 :: t0.1), t0.2) = RES := ⟨_, rfl⟩
 rw [hRES]
 have HRES := hid (show RES = (Nod.mk (⟨#[103, 114, 111, 117, 112]⟩ : ByteArray).data.toList [] ([q0.1] ++ p0.1), p0.2.1, p0.2.2) by rw [← hRES, ht]; rfl)
 clear h ho hfg IH hq0 ht0 E1 hlt hp0 hlen hRES ht
 go_enter Tryz.func81, Tryz.ntmps81
 obtain ⟨w0, hw0, hzw, N0, B0⟩ := made0 w r
 have R0 := hid (show QRd w0 r q A cap l i b by rw [← hw0]; exact HR.out.alloc _)
 have HW0 := hid hw0
 clear hw0
 go_wp2_with fail
 rw [HW0.out]
 refine (H0.out _ R0.out).mono ?_
 rintro e w1 ⟨rfl, hb1, hr1⟩
 have zb1 := hb1.size
 have N1 := hid (N0.out.but (by omega) hb1)
 have B1 := hid (B0.out.trans hb1)
 have R1 := hid hr1
 clear hb1 hr1 H0 HW0
 go_wp2_with fail
 refine (H1.out _ R1.out).mono ?_
 rintro e w2 ⟨op, tx, X, n, k, rfl, hI, hb2, hr2⟩
 have zb2 := hb2.size
 obtain ⟨gb, hgb⟩ : ∃ gb, w2.heap.size = gb := ⟨_, rfl⟩
 obtain ⟨w5, hw5⟩ : ∃ w5, ((w2.alloc (.cells #[.string op, .string tx, .slice X n k] 24)).alloc (.cells #[.string op, .string tx, .slice X n k] 24)).alloc (.cells #[.string ⟨#[103, 114, 111, 117, 112]⟩, .string ⟨#[]⟩, .slice (some ⟨gb + 1, 0, none⟩) 1 1] 24) = w5 := ⟨_, rfl⟩
 have K5 := hid (show KInv r q A cap l w (gb + 1 + 1) ⟨#[103, 114, 111, 117, 112]⟩ [q0.1] [(op, tx, X, n, k)] (gb + 1) 1 q0.2.1 q0.2.2 w5 by
  rw [← hw5]
  exact kinv_start zr hgb (by omega) zb2 (N1.out.but (by omega) hb2) hI (B1.out.trans hb2) hr2)
 have hgl : w.heap.size + 1 ≤ gb := by omega
 have HW5 := hid hw5
 clear hb2 hr2 hI H1 N1 B1 R1 hw5
 have y5 : w5.cell? ⟨gb + 1 + 1, 2, none⟩ = some (.slice (some ⟨gb + 1, 0, none⟩) 1 1) := K5.out.mb.c2
 have l5 := K5.out.mb.lt
 go_wp2_with fail
 rw [HW5.out]
 go_region_law (first
   | (refine step_append_kids (by rfl) _ _ _ (by rfl) (w.heap.size + 1) 24 i0 _ 56 Tryz.underlying22 hi0 hz0 hz1 hz2 rfl (gb + 1) 1 1 (by omega) (flatC nc ([(op, tx, X, n, k)])) (by rfl) K8.out.own w7.heap.size X7 m k7 ys (by rfl) HM7.out (T7.out.at (fun g hg => hg.2)) (by unfold maxLen; omega) (by omega) (by have := K8.out.nb.lt; omega) ?_; intro gg cap9 w9 hown9 hgrow hat hlt9; have M9 := hid (K8.out.mb.grown hgrow (fun e => K8.out.ne (Option.some.inj e))); have y9 := M9.out.c2; have f9 := M9.out.fr 2)
   | (go_simp; refine (H3.out _ (K5.out.drew zr).rd).mono ?_; rintro e w7 ⟨X7, k7, ys, rfl, hat7, hall7, hb7, hr7⟩; have zb7 : w5.heap.size ≤ w7.heap.size := hb7.size; have hl7 := hall7.1; obtain ⟨m, hm⟩ : ∃ m, ys.length = m := ⟨_, rfl⟩; rw [hm]; have hmm : m ≤ 4194310 := Nat.le_trans (Nat.le_of_eq (hm.symm.trans hl7)) HLEN.out; have HM7 := hid hm; have K8 := hid ((K5.out.drew zr).next zr hb7 hr7); have A7 := hid hall7; have T7 := hid hat7; clear hb7 hr7 hall7 hat7 hl7 hm; have y7 : w7.cell? ⟨gb + 1 + 1, 2, none⟩ = some (.slice (some ⟨gb + 1, 0, none⟩) 1 1) := K8.out.mb.c2))
 all_goals
  obtain ⟨wb, hwb⟩ : ∃ wb, w9.setCell ⟨gb + 1 + 1, 2, none⟩ (.slice (some ⟨gg, 0, none⟩) (1 + m) cap9) = wb := ⟨_, rfl⟩
  have KB := hid (show KInv r q A cap l w (gb + 1 + 1) ⟨#[103, 114, 111, 117, 112]⟩ (([q0.1]) ++ p0.1) (([(op, tx, X, n, k)]) ++ ys) gg cap9 p0.2.1 p0.2.2 wb by
   rw [← hwb]
   exact K8.out.add zr zq (N := 1) (m := m) rfl HM7.out (A7.out.keep (fun g hg => by
    have h1 : w5.heap.size ≤ g := hg.1
    have h2 := hg.2
    have h3 : w.heap.size + 1 ≤ gb + 1 := (K8.out.own.lt (gb + 1) rfl).1
    have h4 : gb + 1 < w5.heap.size := (K5.out.own.lt (gb + 1) rfl).2
    exact ⟨by omega, by omega, by omega, by omega⟩) (fun _ _ => rfl)) hown9 hgrow hat)
  have HWB := hid hwb
  rw [HWB.out]
  clear HWB
  clear hwb hown9 hgrow hat hlt9 y5 y7
  have hN : ([(op, tx, X, n, k)] ++ ys).length = 1 + m := (by simp [HM7.out]; omega)
  obtain ⟨x0, x1, x2, xf⟩ := KB.out.nb
  obtain ⟨z0, z1, z2, zf⟩ := KB.out.mb
  rw [hN] at z2
  have hg := KB.out.tell hN zr zq (by have := HLEN.out; simp; omega) (res := RES) HRES.out
  clear hN
  go_wp2
  have Y := KB.out.nb.set (.string ⟨#[103, 114, 111, 117, 112]⟩) (.string ⟨#[]⟩) (.slice (some ⟨gg, 0, none⟩) (1 + m) cap9)
  exact bodyPost_ret (v := .agg #[.string ⟨#[103, 114, 111, 117, 112]⟩, .string ⟨#[]⟩, .slice (some ⟨gg, 0, none⟩) (1 + m) cap9]) (by simp [results, Tryz.results81, go_sem, Y.c0, Y.c1, Y.c2]) rfl hg
theorem qquery_join (r q : Nat) (A : Option Addr) (cap : Nat) (l : List W) (f i : Nat) (b : Bool) (w : World) (h : QRd w r q A cap l i b) (hi : i ≤ l.length) (hf : l.length - i < f + 1) (hl : l.length ≤ 4194304) (hfg : FigW l) (IH : QIH r q A cap l f) (ho : opQ (bare l) i b opsQ = sJoin) :
  Calls Tryz.prog 81 #[.pointer (some ⟨q, 0, none⟩)] w (GetN r q A cap l w (qq (bare l) (f + 1) i b)) := by
 have HR := hid h
 have HFG := hid hfg
 have HIH := hid IH
 have zr := h.lt
 have zq := h.ltq
 have H0 := hid (fun (w' : World) (h' : QRd w' r q A cap l i b) => qop_any r q A cap l i b w' h' hi hl sJoin ho)
 rw [if_neg (by decide), show (⟨(sJoin).toArray⟩ : ByteArray) = ⟨#[106, 111, 105, 110]⟩ from rfl] at H0
 have hlt := op_lt (l := opsQ) (L := bare l) (i := i) (b := b) (by rw [ho]; decide)
 have hi2 : i + 2 ≤ l.length := by have := hlt.1; rw [bare_length] at this; exact this
 have H1 := hid (fun (w' : World) (h' : QRd w' r q A cap l (i + 2) b) => HIH.out (i + 2) b w' h' hi2 (by omega))
 have E1 := qq_ends (bare l) f (i + 2) b (by rw [bare_length]; omega)
 obtain ⟨q0, hq0⟩ : ∃ q0, qq (bare l) f (i + 2) b = q0 := ⟨_, rfl⟩
 rw [hq0] at H1 E1
 unfold GetN at H1
 have hj : i + 2 ≤ q0.2.1 := E1.1
 have hjl : q0.2.1 ≤ l.length := by have := E1.2.1; rw [bare_length] at this; exact this
 obtain ⟨t0, ht0⟩ : ∃ t0, tailQ (bare l) (qq (bare l) f) sJoin q0.2.1 q0.2.2 = t0 := ⟨_, rfl⟩
 rw [qq_op ho (by decide) hq0 ht0]
 have HT := hid ht0
 obtain ⟨i0, hi0, hz0, hz1, hz2⟩ := info_parts info_node
 have H2 := hid (fun (w' : World) (h' : QRd w' r q A cap l q0.2.1 q0.2.2) => qmust_any r q A cap l q0.2.1 q0.2.2 ⟨#[44]⟩ w' h' hjl hl)
 obtain ⟨a0, ha0⟩ : ∃ a0, mustQ (bare l) q0.2.1 q0.2.2 [44] = a0 := ⟨_, rfl⟩
 rw [show (⟨#[44]⟩ : ByteArray).data.toList = [44] from rfl, ha0] at H2
 have Ea0 := must_ends (L := bare l) (i := q0.2.1) (b := q0.2.2) (s := [44]) (by rw [bare_length]; exact hjl)
 rw [ha0, bare_length] at Ea0
 have ja0 : a0.1 ≤ l.length := Ea0.2.1
 have ia0 : q0.2.1 ≤ a0.1 := Ea0.1
 have H3 := hid (fun (w' : World) (h' : QRd w' r q A cap l a0.1 a0.2) => HIH.out a0.1 a0.2 w' h' ja0 (by omega))
 have Ee := qq_ends (bare l) f a0.1 a0.2 (by rw [bare_length]; exact ja0)
 obtain ⟨p0, hp0⟩ : ∃ p0, qq (bare l) f a0.1 a0.2 = p0 := ⟨_, rfl⟩
 rw [hp0] at H3 Ee
 rw [bare_length] at Ee
 have je : p0.2.1 ≤ l.length := Ee.2.1
 unfold GetN at H3
 have H4 := hid (fun (w' : World) (h' : QRd w' r q A cap l p0.2.1 p0.2.2) => qpairs_any r q A cap l p0.2.1 p0.2.2 w' h' je hl)
 have hlen := loop_len (fun j c hj => pair_ends (L := bare l) (i := j) (b := c) hj) ((bare l).length + 1) true p0.2.1 p0.2.2 (by rw [bare_length]; exact je)
 obtain ⟨s0, hs0⟩ : ∃ s0, loopQ (bare l) (pairQ (bare l)) ((bare l).length + 1) true p0.2.1 p0.2.2 = s0 := ⟨_, rfl⟩
 rw [hs0] at H4 hlen
 rw [bare_length] at hlen
 unfold GetL at H4
 have HLEN := hid (show s0.1.length ≤ 4194310 by omega)
 have ht : t0 = (p0.1 :: s0.1, s0.2) := by rw [← HT.out]; unfold tailQ; rw [if_neg (by decide), if_neg (by decide), if_neg (by decide), if_neg (by decide), if_pos rfl, ha0, hp0, hs0]
 clear HT
 obtain ⟨RES, hRES⟩ : ∃ RES : Res, (Nod.mk sJoin [] (q0.1 :: t0.1), t0.2) = RES := ⟨_, rfl⟩
 rw [hRES]
 have HRES := hid (show RES = (Nod.mk (⟨#[106, 111, 105, 110]⟩ : ByteArray).data.toList [] ([q0.1] ++ [p0.1] ++ s0.1), s0.2.1, s0.2.2) by rw [← hRES, ht]; rfl)
 clear h ho hfg IH hq0 ht0 E1 hlt ha0 Ea0 hp0 Ee hs0 hlen hRES ht
 go_enter Tryz.func81, Tryz.ntmps81
 obtain ⟨w0, hw0, hzw, N0, B0⟩ := made0 w r
 have R0 := hid (show QRd w0 r q A cap l i b by rw [← hw0]; exact HR.out.alloc _)
 have HW0 := hid hw0
 clear hw0
 go_wp2_with fail
 rw [HW0.out]
 refine (H0.out _ R0.out).mono ?_
 rintro e w1 ⟨rfl, hb1, hr1⟩
 have zb1 := hb1.size
 have N1 := hid (N0.out.but (by omega) hb1)
 have B1 := hid (B0.out.trans hb1)
 have R1 := hid hr1
 clear hb1 hr1 H0 HW0
 go_wp2_with fail
 refine (H1.out _ R1.out).mono ?_
 rintro e w2 ⟨op, tx, X, n, k, rfl, hI, hb2, hr2⟩
 have zb2 := hb2.size
 obtain ⟨gb, hgb⟩ : ∃ gb, w2.heap.size = gb := ⟨_, rfl⟩
 obtain ⟨w5, hw5⟩ : ∃ w5, ((w2.alloc (.cells #[.string op, .string tx, .slice X n k] 24)).alloc (.cells #[.string op, .string tx, .slice X n k] 24)).alloc (.cells #[.string ⟨#[106, 111, 105, 110]⟩, .string ⟨#[]⟩, .slice (some ⟨gb + 1, 0, none⟩) 1 1] 24) = w5 := ⟨_, rfl⟩
 have K5 := hid (show KInv r q A cap l w (gb + 1 + 1) ⟨#[106, 111, 105, 110]⟩ [q0.1] [(op, tx, X, n, k)] (gb + 1) 1 q0.2.1 q0.2.2 w5 by
  rw [← hw5]
  exact kinv_start zr hgb (by omega) zb2 (N1.out.but (by omega) hb2) hI (B1.out.trans hb2) hr2)
 have hgl : w.heap.size + 1 ≤ gb := by omega
 have HW5 := hid hw5
 clear hb2 hr2 hI H1 N1 B1 R1 hw5
 have cq := K5.out.rd.cq
 rw [← HW5.out] at cq
 go_wp2_with fail
 rw [HW5.out]
 refine (H2.out _ K5.out.rd).mono ?_
 rintro e w6 ⟨rfl, hb6, hr6⟩
 have K6 := hid (K5.out.next zr hb6 hr6)
 clear hb6 hr6 cq HW5
 have y6 : w6.cell? ⟨gb + 1 + 1, 2, none⟩ = some (.slice (some ⟨gb + 1, 0, none⟩) 1 1) := K6.out.mb.c2
 have l6 := K6.out.mb.lt
 go_wp2_with fail
 go_region_law (first
   | (refine step_append_kids (by rfl) _ _ _ (by rfl) (w.heap.size + 1) 24 i0 _ 56 Tryz.underlying22 hi0 hz0 hz1 hz2 rfl (gb + 1) 1 1 (by omega) (flatC nc ([(op, tx, X, n, k)])) (by rfl) K8.out.own (w7.heap.size + 1) (some ⟨w7.heap.size, 0, none⟩) 1 1 [(op7, tx7, X7, n7, k7)] (by rfl) rfl ((nat_new w7 op7 tx7 X7 n7 k7 24 (fun g => g < w7.heap.size + 1) (Nat.lt_succ_self _)).at (fun g hg => hg)) (by unfold maxLen; omega) (by omega) (by simp; omega) ?_; intro gg cap9 w9 hown9 hgrow hat hlt9; have M9 := hid (K8.out.mb.grown hgrow (fun e => K8.out.ne (Option.some.inj e))); have y9 := M9.out.c2; have f9 := M9.out.fr 2)
   | (go_simp; refine (H3.out _ (K6.out.drew zr).rd).mono ?_; rintro e w7 ⟨op7, tx7, X7, n7, k7, rfl, hI7, hb7, hr7⟩; have zb7 : w6.heap.size ≤ w7.heap.size := hb7.size; have K7 := hid ((K6.out.drew zr).next zr hb7 hr7); have I7 := hid hI7; clear hb7 hr7 hI7; have K8 := hid (K7.out.alloc zr (.cells #[.string op7, .string tx7, .slice X7 n7 k7] 24)); have y7 : w7.cell? ⟨gb + 1 + 1, 2, none⟩ = some (.slice (some ⟨gb + 1, 0, none⟩) 1 1) := K7.out.mb.c2; have y8 : (w7.alloc (.cells #[.string op7, .string tx7, .slice X7 n7 k7] 24)).cell? ⟨gb + 1 + 1, 2, none⟩ = some (.slice (some ⟨gb + 1, 0, none⟩) 1 1) := K8.out.mb.c2))
 all_goals
  obtain ⟨wb, hwb⟩ : ∃ wb, w9.setCell ⟨gb + 1 + 1, 2, none⟩ (.slice (some ⟨gg, 0, none⟩) (1 + 1) cap9) = wb := ⟨_, rfl⟩
  have KB := hid (show KInv r q A cap l w (gb + 1 + 1) ⟨#[106, 111, 105, 110]⟩ (([q0.1]) ++ [p0.1]) (([(op, tx, X, n, k)]) ++ [(op7, tx7, X7, n7, k7)]) gg cap9 p0.2.1 p0.2.2 wb by
   rw [← hwb]
   exact K8.out.add zr zq (N := 1) (m := 1) rfl rfl (RAll.one ((I7.out.alloc (fun g hg => hg.2) _).imp (fun g hg => by
    have h1 : w6.heap.size ≤ g := hg.1
    have h2 := hg.2
    have h3 : w.heap.size + 1 ≤ gb + 1 := (K8.out.own.lt (gb + 1) rfl).1
    have h4 : gb + 1 < w6.heap.size := (K6.out.own.lt (gb + 1) rfl).2
    exact ⟨by omega, by simp; omega, by omega, by omega⟩))) hown9 hgrow hat)
  have HWB := hid hwb
  clear hwb hown9 hgrow hat hlt9 y6 y7 y8
  have yB : wb.cell? ⟨gb + 1 + 1, 2, none⟩ = some (.slice (some ⟨gg, 0, none⟩) 2 cap9) := KB.out.mb.c2
  have lB := KB.out.mb.lt
  go_wp2_with fail
  rw [HWB.out]
  go_region_law (first
    | (refine step_append_kids (by rfl) _ _ _ (by rfl) (w.heap.size + 1) 24 i0 _ 56 Tryz.underlying22 hi0 hz0 hz1 hz2 rfl (gg) 2 cap9 (by omega) (flatC nc ([(op, tx, X, n, k)] ++ [(op7, tx7, X7, n7, k7)])) (by rfl) K18.out.own u7.heap.size X17 m k17 ys (by rfl) HM7.out (T7.out.at (fun g hg => hg.2)) (by unfold maxLen; omega) (by omega) (by have := K18.out.nb.lt; omega) ?_; intro gh cap8 u9 hown19 hgrow2 hat2 hlt19; have M19 := hid (K18.out.mb.grown hgrow2 (fun e => K18.out.ne (Option.some.inj e))); have y19 := M19.out.c2; have f19 := M19.out.fr 2)
    | (go_simp; refine (H4.out _ (KB.out.drew zr).rd).mono ?_; rintro e u7 ⟨X17, k17, ys, rfl, hat7, hall7, hb17, hr17⟩; have zb17 : wb.heap.size ≤ u7.heap.size := hb17.size; have hl7 := hall7.1; obtain ⟨m, hm⟩ : ∃ m, ys.length = m := ⟨_, rfl⟩; rw [hm]; have hmm : m ≤ 4194310 := Nat.le_trans (Nat.le_of_eq (hm.symm.trans hl7)) HLEN.out; have HM7 := hid hm; have K18 := hid ((KB.out.drew zr).next zr hb17 hr17); have A7 := hid hall7; have T7 := hid hat7; clear hb17 hr17 hall7 hat7 hl7 hm; have y17 : u7.cell? ⟨gb + 1 + 1, 2, none⟩ = some (.slice (some ⟨gg, 0, none⟩) 2 cap9) := K18.out.mb.c2))
  all_goals
   obtain ⟨wc, hwc⟩ : ∃ wc, u9.setCell ⟨gb + 1 + 1, 2, none⟩ (.slice (some ⟨gh, 0, none⟩) (2 + m) cap8) = wc := ⟨_, rfl⟩
   have KC := hid (show KInv r q A cap l w (gb + 1 + 1) ⟨#[106, 111, 105, 110]⟩ (([q0.1] ++ [p0.1]) ++ s0.1) (([(op, tx, X, n, k)] ++ [(op7, tx7, X7, n7, k7)]) ++ ys) gh cap8 s0.2.1 s0.2.2 wc by
    rw [← hwc]
    exact K18.out.add zr zq (N := 2) (m := m) rfl HM7.out (A7.out.keep (fun g hg => by
     have h1 : wb.heap.size ≤ g := hg.1
     have h2 := hg.2
     have h3 : w.heap.size + 1 ≤ gg := (K18.out.own.lt (gg) rfl).1
     have h4 : gg < wb.heap.size := (KB.out.own.lt (gg) rfl).2
     exact ⟨by omega, by omega, by omega, by omega⟩) (fun _ _ => rfl)) hown19 hgrow2 hat2)
   have HWC := hid hwc
   rw [HWC.out]
   clear HWC
   clear hwc hown19 hgrow2 hat2 hlt19 yB y17
   have hN : ([(op, tx, X, n, k)] ++ [(op7, tx7, X7, n7, k7)] ++ ys).length = 2 + m := (by simp [HM7.out]; omega)
   obtain ⟨x0, x1, x2, xf⟩ := KC.out.nb
   obtain ⟨z0, z1, z2, zf⟩ := KC.out.mb
   rw [hN] at z2
   have hg := KC.out.tell hN zr zq (by have := HLEN.out; simp; omega) (res := RES) HRES.out
   clear hN
   go_wp2
   have Y := KC.out.nb.set (.string ⟨#[106, 111, 105, 110]⟩) (.string ⟨#[]⟩) (.slice (some ⟨gh, 0, none⟩) (2 + m) cap8)
   exact bodyPost_ret (v := .agg #[.string ⟨#[106, 111, 105, 110]⟩, .string ⟨#[]⟩, .slice (some ⟨gh, 0, none⟩) (2 + m) cap8]) (by simp [results, Tryz.results81, go_sem, Y.c0, Y.c1, Y.c2]) rfl hg
theorem qquery_all {r q : Nat} {A : Option Addr} {cap : Nat} {l : List W} (hl : l.length ≤ 4194304) (hfg : FigW l) : ∀ f, QIH r q A cap l f
 | 0 => fun i b w h hi hf => absurd hf (Nat.not_lt_zero _)
 | f + 1 => fun i b w h hi hf => by
  have IH := qquery_all (r := r) (q := q) (A := A) (cap := cap) hl hfg f
  by_cases ho : opQ (bare l) i b opsQ = []
  ·exact qquery_from r q A cap l f i b w h hi hl ho
  ·have hm := (op_some ho).2
   obtain ⟨o, hoo⟩ : ∃ o, opQ (bare l) i b opsQ = o := ⟨_, rfl⟩
   rw [hoo] at hm
   have hc : o = sFilter ∨ o = sProject ∨ o = sJoin ∨ o = sUnion ∨ o = sDistinct ∨ o = sGroup := by simpa [opsQ] using hm
   rcases hc with rfl | rfl | rfl | rfl | rfl | rfl
   ·exact qquery_filter r q A cap l f i b w h hi hf hl hfg IH hoo
   ·exact qquery_project r q A cap l f i b w h hi hf hl hfg IH hoo
   ·exact qquery_join r q A cap l f i b w h hi hf hl hfg IH hoo
   ·exact qquery_union r q A cap l f i b w h hi hf hl hfg IH hoo
   ·exact qquery_distinct r q A cap l f i b w h hi hf hl hfg IH hoo
   ·exact qquery_group r q A cap l f i b w h hi hf hl hfg IH hoo
theorem rplace_any (s : ByteArray) (A : Option Addr) (cap : Nat) (l : List W) (i : Nat) (w : World) (h : At wc 3 w w.heap.size A l) (hl : l.length ≤ 4194304) (hi : i ≤ l.length) :
  Calls Tryz.prog 42 #[.string s, .slice A l.length cap, .int .i64 i] w fun e w' => e = .returned (.int .i64 (placeL s.size l i)) ∧ Below w.heap.size w w' := by
 have e3 : decide ((0 : Int) ≤ (i : Int)) = true := by simp
 by_cases hil : i < l.length
 ·obtain ⟨ad, rfl, ha, d0, d1, d2⟩ := at_word h i hil
  have hp : placeL s.size l i = l[i].2.2 := by unfold placeL; rw [List.getElem?_eq_getElem hil]
  rw [hp]
  clear hp h
  go_enter Tryz.func42, Tryz.ntmps42
  go_wp2
  go_ret
  exact ⟨rfl, Below.refl _ _⟩
 ·have hp : placeL s.size l i = s.size := by unfold placeL; rw [List.getElem?_eq_none (by omega)]
  rw [hp]
  clear hp h
  go_enter Tryz.func42, Tryz.ntmps42
  go_wp2
  go_ret
  exact ⟨rfl, Below.refl _ _⟩
def Oth (g : Nat) (w w' : World) : Prop := ∀ p : Addr, p.block ≠ g → w'.cell? p = w.cell? p
theorem Oth.refl (g : Nat) (w : World) : Oth g w w := fun _ _ => rfl
theorem Oth.setCell {g : Nat} {w w' : World} (h : Oth g w w') (p : Addr) (hp : p.block = g) (v : Value) : Oth g w (w'.setCell p v) := fun q hq => (World.cell?_setCell_other _ _ _ _ (fun e => hq (by rw [← e]; exact hp))).trans (h q hq)
theorem Oth.drew {g : Nat} {w w' : World} (h : Oth g w w') : Oth g w w'.drew := fun q hq => h q hq
theorem Rdr.fresh (w : World) (A : Option Addr) (cap : Nat) (l : List W) (i : Nat) (t : TypeId) (h : At wc 3 w w.heap.size A l) : Rdr (w.alloc (.cells #[.slice A l.length cap, .int .i64 i, .bool false] t)) w.heap.size A cap l i false :=
 ⟨by simp [go_sem], by simp [go_sem], by simp [go_sem], fun k => by simp [go_sem], h.below ((Below.refl _ _).alloc (Nat.le_refl _) _)⟩
def fromQ (L : List V) (i : Nat) : Res := qq L (L.length + 1) i false
def readQ (l : List W) (i : Nat) : Nod × Nat × Int := if (fromQ (bare l) i).2.2 = true then (zeroN, (fromQ (bare l) i).2.1, 91) else ((fromQ (bare l) i).1, (fromQ (bare l) i).2.1, 0)
def ReadQPost (w : World) (res : Nod × Nat × Int) (e : Ending) (w' : World) : Prop :=
 ∃ (op tx : ByteArray) (X : Option Addr) (n m : Nat), e = .returned (.tuple #[.agg #[.string op, .string tx, .slice X n m], .int .i64 res.2.1, .int .i64 res.2.2]) ∧ RIn w' (New w w') res.1 (op, tx, X, n, m) ∧ Below w.heap.size w w'
theorem rreadQ_any (A : Option Addr) (cap : Nat) (l : List W) (i : Nat) (w : World) (h : At wc 3 w w.heap.size A l) (hl : l.length ≤ 4194304) (hfg : FigW l) (hi : i < l.length) :
  Calls Tryz.prog 41 #[.slice A l.length cap, .int .i64 i] w (ReadQPost w (readQ l i)) := by
 obtain ⟨R, hx⟩ : ∃ R, fromQ (bare l) i = R := ⟨_, rfl⟩
 obtain ⟨x, j, b⟩ := R
 have hrd : readQ l i = if b = true then (zeroN, j, 91) else (x, j, 0) := by unfold readQ; rw [hx]
 rw [hrd]
 obtain ⟨q, hq⟩ : ∃ q, (if b = true then (zeroN, j, (91 : Int)) else (x, j, 0)) = q := ⟨_, rfl⟩
 rw [hq]
 have HQ := hid hq
 have HA := hid h
 have HX0 := hid (fun w1 hr => qquery_all (r := w.heap.size + 1) (q := w.heap.size + 2) (A := A) (cap := cap) hl hfg ((bare l).length + 1) i false w1 hr (by omega) (by rw [bare_length]; omega))
 rw [show qq (bare l) ((bare l).length + 1) i false = (x, j, b) from hx] at HX0
 unfold GetN at HX0
 have e1 : (i : Int) < (l.length : Int) := by omega
 have e0 : (0 : Int) ≤ (i : Int) := by omega
 have e2 : decide ((i : Int) < 0) = false := by simp
 have e3 : decide ((l.length : Int) ≤ (i : Int)) = false := by simp; omega
 clear h hx hrd hfg hq
 go_enter Tryz.func41, Tryz.ntmps41
 obtain ⟨w1, hw1⟩ : ∃ w1, ((w.alloc (.cells #[.string ⟨#[]⟩, .string ⟨#[]⟩, .slice none 0 0] 24)).alloc (.cells #[.slice A l.length cap, .int .i64 i, .bool false] 122)).alloc (.cells #[.pointer (some ⟨w.heap.size + 1, 0, none⟩)] 124) = w1 := ⟨_, rfl⟩
 have hz1 : w1.heap.size = w.heap.size + 3 := by rw [← hw1]; simp
 have N1 := hid (show NBox w1 w.heap.size (.string ⟨#[]⟩) (.string ⟨#[]⟩) (.slice none 0 0) by rw [← hw1]; exact ((NBox.fresh _ _ _ _ _).alloc _).alloc _)
 have B1 := hid (show Below w.heap.size w w1 by rw [← hw1]; exact (((Below.refl _ _).alloc (Nat.le_refl _) _).alloc (by simp) _).alloc (by simp; omega) _)
 have R1 := hid (show QRd w1 (w.heap.size + 1) (w.heap.size + 2) A cap l i false by
  refine ⟨?_, ?_, by omega⟩
  ·rw [← hw1, show w.heap.size + 1 = (w.alloc (.cells #[.string ⟨#[]⟩, .string ⟨#[]⟩, .slice none 0 0] 24)).heap.size by simp]
   exact (Rdr.fresh _ A cap l i 122 ((HA.out.below ((Below.refl _ _).alloc (Nat.le_refl _) _)).more (by simp))).alloc _
  ·rw [← hw1]
   simp [go_sem])
 have HW1 := hid hw1
 clear hw1
 go_wp2_with fail
 rw [HW1.out]
 refine (HX0.out _ R1.out).mono ?_
 rintro e w2 ⟨op, tx, X, n, m, rfl, hn2, hb2, hr2⟩
 have N2 := hid ((N1.out.but (by omega) hb2).alloc (.cells #[.string op, .string tx, .slice X n m] 24))
 have R2 := hid (hr2.alloc (.cells #[.string op, .string tx, .slice X n m] 24))
 have hz2 : w1.heap.size ≤ w2.heap.size := hb2.size
 have I2 := hid ((hn2.imp (S' := fun g => w.heap.size < g ∧ g < w2.heap.size) (fun g hg => ⟨by have := hg.1; omega, hg.2⟩)).alloc (fun g hg => hg.2) (.cells #[.string op, .string tx, .slice X n m] 24))
 have B2 := hid ((B1.out.trans (hb2.below (B := w.heap.size) (by omega) (by omega))).alloc (by omega) (.cells #[.string op, .string tx, .slice X n m] 24))
 have V2 := hid (NBox.fresh w2 (.string op) (.string tx) (.slice X n m) 24)
 have zn := N2.out.lt
 have zr := R2.out.lt
 clear hb2 hr2 hn2
 obtain ⟨x0, x1, x2, xf⟩ := N2.out
 have c2 := R2.out.rd.c2
 have cq := R2.out.cq
 obtain ⟨w6, hw6⟩ : ∃ w6, w2.alloc (.cells #[.string op, .string tx, .slice X n m] 24) = w6 := ⟨_, rfl⟩
 rw [hw6] at N2 R2 I2 B2 V2 zn zr x0 x1 x2 xf c2 cq
 obtain ⟨v0, v1, v2, vf⟩ := V2.out
 have c1 := R2.out.rd.c1
 have HO := hid (Oth.refl w.heap.size w6)
 have FQ := hid (fun w' (h : Oth w.heap.size w6 w') => show w'.cell? ⟨w.heap.size + 2, 0, none⟩ = some (.pointer (some ⟨w.heap.size + 1, 0, none⟩)) ∧ w'.cell? ⟨w.heap.size + 1, 1, none⟩ = some (.int .i64 j) ∧ w'.cell? ⟨w2.heap.size, 0, none⟩ = some (.string op) ∧ w'.cell? ⟨w2.heap.size, 1, none⟩ = some (.string tx) ∧ w'.cell? ⟨w2.heap.size, 2, none⟩ = some (.slice X n m) from
  ⟨(h ⟨w.heap.size + 2, 0, none⟩ (by simp)).trans cq, (h ⟨w.heap.size + 1, 1, none⟩ (by simp)).trans c1, (h ⟨w2.heap.size, 0, none⟩ (by simp; omega)).trans v0, (h ⟨w2.heap.size, 1, none⟩ (by simp; omega)).trans v1, (h ⟨w2.heap.size, 2, none⟩ (by simp; omega)).trans v2⟩)
 cases b
 ·go_upto_region 7 with fail
  go_region_held3 (fun w' => (w'.cell? ⟨w.heap.size + 2, 0, none⟩ = some (.pointer (some ⟨w.heap.size + 1, 0, none⟩)) ∧ w'.cell? ⟨w.heap.size + 1, 1, none⟩ = some (.int .i64 j) ∧ w'.cell? ⟨w2.heap.size, 0, none⟩ = some (.string op) ∧ w'.cell? ⟨w2.heap.size, 1, none⟩ = some (.string tx) ∧ w'.cell? ⟨w2.heap.size, 2, none⟩ = some (.slice X n m)) ∧ Oth w.heap.size w6 w')
   (first | assumption | (exact ⟨FQ.out _ HO.out.drew, HO.out.drew⟩) | (exact ⟨FQ.out _ HO.out, HO.out⟩) | (refine (fun hS9 : Oth w.heap.size w6 _ => ⟨FQ.out _ hS9, hS9⟩) (((HO.out.setCell _ rfl _).setCell _ rfl _).setCell _ rfl _).drew))
   (fail)
  go_wp2
  obtain rfl : q = (x, j, 0) := by have := HQ.out; simpa using this.symm
  have Y := N2.out.set (.string op) (.string tx) (.slice X n m)
  have h6 : w6.heap.size = w2.heap.size + 1 := by rw [← hw6]; simp
  exact bodyPost_ret (v := .tuple #[.agg #[.string op, .string tx, .slice X n m], .int .i64 j, .int .i64 0]) (by simp [results, Tryz.results41, go_sem, Y.c0, Y.c1, Y.c2]) rfl
   ⟨op, tx, X, n, m, rfl, RIn.keep (w := W3 w6 w.heap.size (.string op) (.string tx) (.slice X n m)) (w' := (W3 w6 w.heap.size (.string op) (.string tx) (.slice X n m)).drew) (fun g hg => ⟨by have := hg.1; omega, by show g < (W3 w6 w.heap.size (.string op) (.string tx) (.slice X n m)).heap.size; rw [W3.size, h6]; have := hg.2; omega⟩) (fun _ _ => rfl) (RIn.w3 I2.out (fun hg => Nat.lt_irrefl _ hg.1) _ _ _), (((B2.out.setCell (Nat.le_refl _) _).setCell (Nat.le_refl _) _).setCell (Nat.le_refl _) _).drew⟩
 ·go_upto_region 6 with fail
  go_region_held3 (fun w' => (w'.cell? ⟨w.heap.size + 2, 0, none⟩ = some (.pointer (some ⟨w.heap.size + 1, 0, none⟩)) ∧ w'.cell? ⟨w.heap.size + 1, 1, none⟩ = some (.int .i64 j) ∧ w'.cell? ⟨w2.heap.size, 0, none⟩ = some (.string op) ∧ w'.cell? ⟨w2.heap.size, 1, none⟩ = some (.string tx) ∧ w'.cell? ⟨w2.heap.size, 2, none⟩ = some (.slice X n m)) ∧ Oth w.heap.size w6 w')
   (first | assumption | (exact ⟨FQ.out _ HO.out.drew, HO.out.drew⟩) | (exact ⟨FQ.out _ HO.out, HO.out⟩) | (refine (fun hS9 : Oth w.heap.size w6 _ => ⟨FQ.out _ hS9, hS9⟩) (((HO.out.setCell _ rfl _).setCell _ rfl _).setCell _ rfl _).drew))
   (fail)
  go_wp2
  obtain rfl : q = (zeroN, j, 91) := by have := HQ.out; simpa using this.symm
  have Y := N2.out.set (.string ⟨#[]⟩) (.string ⟨#[]⟩) (.slice none 0 0)
  exact bodyPost_ret (v := .tuple #[.agg #[.string ⟨#[]⟩, .string ⟨#[]⟩, .slice none 0 0], .int .i64 j, .int .i64 91]) (by simp [results, Tryz.results41, go_sem, Y.c0, Y.c1, Y.c2]) rfl
   ⟨⟨#[]⟩, ⟨#[]⟩, none, 0, 0, rfl, RIn.leafN _ _ ⟨#[]⟩ ⟨#[]⟩, (((B2.out.setCell (Nat.le_refl _) _).setCell (Nat.le_refl _) _).setCell (Nat.le_refl _) _).drew⟩
end Go.Proofs.YthpmgnfmeldkjaaGreatDoor.Code
