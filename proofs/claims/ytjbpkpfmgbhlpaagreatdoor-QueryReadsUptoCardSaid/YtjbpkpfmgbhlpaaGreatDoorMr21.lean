/-
  The document's query: group, join.
-/
import Derived.Test.YtjbpkpfmgbhlpaaGreatDoorMr19
import Derived.Test.YtjbpkpfmgbhlpaaGreatDoorMr20
import Derived.Deep.RegionLaw
import Derived.Test.YtjbpkpfmgbhlpaaGreatDoorMr13
import Derived.Test.YtjbpkpfmgbhlpaaGreatDoorMr18
import Derived.Test.YtjbpkpfmgbhlpaaGreatDoorMr3
import Derived.Deep.RegionHeld3
import Derived.Test.YtjbpkpfmgbhlpaaGreatDoorMr6
set_option maxRecDepth 100000
set_option maxHeartbeats 16000000
open Go.Lib (hid)
namespace Go.Proofs.YtjbpkpfmgbhlpaaGreatDoor.Code
open Go.ChangeShapes Go.WideShapes Go.ChangeAt Go.RowKit Val Elems
set_option linter.unusedVariables false
set_option linter.unusedSimpArgs false
theorem qquery_group (r q : Nat) (A : Option Addr) (cap : Nat) (l : List W) (f i : Nat) (b : Bool) (w : World) (h : QRd w r q A cap l i b) (hi : i ≤ l.length) (hf : l.length - i < f + 1) (hl : l.length ≤ 4194304) (hfg : FigW l) (IH : QIH r q A cap l f) (ho : opQ (bare l) i b opsQ = sGroup) :
  Calls Tryz.prog 31 #[.pointer (some ⟨q, 0, none⟩)] w (GetN r q A cap l w (qq (bare l) (f + 1) i b)) := by
 have HR := hid h
 have HFG := hid hfg
 have HIH := hid IH
 have zr := h.lt
 have zq := h.ltq
 have H0 := hid (fun (w' : World) (h' : QRd w' r q A cap l i b) => qop_any r q A cap l i b w' h' hi hl sGroup ho)
 rw [if_neg (by decide), show (⟨(sGroup).toArray⟩ : ByteArray) = ⟨#[103, 114, 111, 117, 112]⟩ from rfl] at H0
 have hlt := op_lt (l := opsQ) (L := bare l) (i := i) (b := b) (by rw [ho]; decide)
 have hi2 : i + 2 ≤ l.length := by have := hlt.1; rw [bare_length] at this; exact this
 have H1 := hid (fun (w' : World) (h' : QRd w' r q A cap l (i + 2) b) => HIH.out (i + 2) b w' h' hi2 (by omega))
 have E1 := qq_ends (bare l) f (i + 2) b (by rw [bare_length]; omega)
 obtain ⟨q0, hq0⟩ : ∃ q0, qq (bare l) f (i + 2) b = q0 := ⟨_, rfl⟩
 rw [hq0] at H1 E1
 unfold GetN at H1
 have hj : i + 2 ≤ q0.2.1 := E1.1
 have hjl : q0.2.1 ≤ l.length := by have := E1.2.1; rw [bare_length] at this; exact this
 obtain ⟨t0, ht0⟩ : ∃ t0, tailQ (bare l) (qq (bare l) f) sGroup q0.2.1 q0.2.2 = t0 := ⟨_, rfl⟩
 rw [qq_op ho (by decide) hq0 ht0]
 have HT := hid ht0
 obtain ⟨i0, hi0, hz0, hz1, hz2⟩ := info_parts info_node
 have H3 := hid (fun (w' : World) (h' : QRd w' r q A cap l q0.2.1 q0.2.2) => qgrouped_any r q A cap l q0.2.1 q0.2.2 w' h' hjl hl)
 have hlen : (groupQ (bare l) (mustQ (bare l) q0.2.1 q0.2.2 [44]).1 (mustQ (bare l) q0.2.1 q0.2.2 [44]).2).1.length ≤ 4194310 := by
  have e1 := must_ends (L := bare l) (i := q0.2.1) (b := q0.2.2) (s := [44]) (by rw [bare_length]; exact hjl)
  have e2 := by_ends (L := bare l) (i := (mustQ (bare l) q0.2.1 q0.2.2 [44]).1) (b := (mustQ (bare l) q0.2.1 q0.2.2 [44]).2) e1.2.1
  have e3 := agg_ends (L := bare l) (i := (byQ (bare l) (mustQ (bare l) q0.2.1 q0.2.2 [44]).1 (mustQ (bare l) q0.2.1 q0.2.2 [44]).2).2.1) (b := (byQ (bare l) (mustQ (bare l) q0.2.1 q0.2.2 [44]).1 (mustQ (bare l) q0.2.1 q0.2.2 [44]).2).2.2) e2.2.1
  have e4 := loop_len (fun j c hj => agg_ends (L := bare l) (i := j) (b := c) hj) ((bare l).length + 1) false _ (aggQ (bare l) (byQ (bare l) (mustQ (bare l) q0.2.1 q0.2.2 [44]).1 (mustQ (bare l) q0.2.1 q0.2.2 [44]).2).2.1 (byQ (bare l) (mustQ (bare l) q0.2.1 q0.2.2 [44]).1 (mustQ (bare l) q0.2.1 q0.2.2 [44]).2).2.2).2.2 e3.2.1
  unfold groupQ
  rw [bare_length] at e4 ⊢
  simp only [List.length_cons]
  omega
 obtain ⟨p0, hp0⟩ : ∃ p0, groupQ (bare l) (mustQ (bare l) q0.2.1 q0.2.2 [44]).1 (mustQ (bare l) q0.2.1 q0.2.2 [44]).2 = p0 := ⟨_, rfl⟩
 rw [hp0] at H3 hlen
 unfold GetL at H3
 have HLEN := hid (show p0.1.length ≤ 4194310 by omega)
 have ht : t0 = p0 := by rw [← HT.out, ← hp0]; unfold tailQ; rw [if_neg (by decide), if_neg (by decide), if_neg (by decide), if_neg (by decide), if_neg (by decide)]
 clear HT
 obtain ⟨RES, hRES⟩ : ∃ RES : Res, (Nod.mk sGroup [] (q0.1 :: t0.1), t0.2) = RES := ⟨_, rfl⟩
 rw [hRES]
 have HRES := hid (show RES = (Nod.mk (⟨#[103, 114, 111, 117, 112]⟩ : ByteArray).data.toList [] ([q0.1] ++ p0.1), p0.2.1, p0.2.2) by rw [← hRES, ht]; rfl)
 clear h ho hfg IH hq0 ht0 E1 hlt hp0 hlen hRES ht
 go_enter Tryz.func31, Tryz.ntmps31
 obtain ⟨w0, hw0, hzw, N0, B0⟩ := made0 w r
 have R0 := hid (show QRd w0 r q A cap l i b by rw [← hw0]; exact HR.out.alloc _)
 have HW0 := hid hw0
 clear hw0
 go_wp2_with fail
 rw [HW0.out]
 refine (H0.out _ R0.out).mono ?_
 rintro e w1 ⟨rfl, hb1, hr1⟩
 have zb1 := hb1.size
 have N1 := hid (N0.out.but (by omega) hb1)
 have B1 := hid (B0.out.trans hb1)
 have R1 := hid hr1
 clear hb1 hr1 H0 HW0
 go_wp2_with fail
 refine (H1.out _ R1.out).mono ?_
 rintro e w2 ⟨op, tx, X, n, k, rfl, hI, hb2, hr2⟩
 have zb2 := hb2.size
 obtain ⟨gb, hgb⟩ : ∃ gb, w2.heap.size = gb := ⟨_, rfl⟩
 obtain ⟨w5, hw5⟩ : ∃ w5, ((w2.alloc (.cells #[.string op, .string tx, .slice X n k] 25)).alloc (.cells #[.string op, .string tx, .slice X n k] 25)).alloc (.cells #[.string ⟨#[103, 114, 111, 117, 112]⟩, .string ⟨#[]⟩, .slice (some ⟨gb + 1, 0, none⟩) 1 1] 25) = w5 := ⟨_, rfl⟩
 have K5 := hid (show KInv r q A cap l w (gb + 1 + 1) ⟨#[103, 114, 111, 117, 112]⟩ [q0.1] [(op, tx, X, n, k)] (gb + 1) 1 q0.2.1 q0.2.2 w5 by
  rw [← hw5]
  exact kinv_start zr hgb (by omega) zb2 (N1.out.but (by omega) hb2) hI (B1.out.trans hb2) hr2)
 have hgl : w.heap.size + 1 ≤ gb := by omega
 have HW5 := hid hw5
 clear hb2 hr2 hI H1 N1 B1 R1 hw5
 have y5 : w5.cell? ⟨gb + 1 + 1, 2, none⟩ = some (.slice (some ⟨gb + 1, 0, none⟩) 1 1) := K5.out.mb.c2
 have l5 := K5.out.mb.lt
 go_wp2_with fail
 rw [HW5.out]
 go_region_law (first
   | (refine step_append_kids (by rfl) _ _ _ (by rfl) (w.heap.size + 1) 25 i0 _ 56 Tryz.underlying23 hi0 hz0 hz1 hz2 rfl (gb + 1) 1 1 (by omega) (flatC nc ([(op, tx, X, n, k)])) (by rfl) K8.out.own w7.heap.size X7 m k7 ys (by rfl) HM7.out (T7.out.at (fun g hg => hg.2)) (by unfold maxLen; omega) (by omega) (by have := K8.out.nb.lt; omega) ?_; intro gg cap9 w9 hown9 hgrow hat hlt9; have M9 := hid (K8.out.mb.grown hgrow (fun e => K8.out.ne (Option.some.inj e))); have y9 := M9.out.c2; have f9 := M9.out.fr 2)
   | (go_simp; refine (H3.out _ (K5.out.drew zr).rd).mono ?_; rintro e w7 ⟨X7, k7, ys, rfl, hat7, hall7, hb7, hr7⟩; have zb7 : w5.heap.size ≤ w7.heap.size := hb7.size; have hl7 := hall7.1; obtain ⟨m, hm⟩ : ∃ m, ys.length = m := ⟨_, rfl⟩; rw [hm]; have hmm : m ≤ 4194310 := Nat.le_trans (Nat.le_of_eq (hm.symm.trans hl7)) HLEN.out; have HM7 := hid hm; have K8 := hid ((K5.out.drew zr).next zr hb7 hr7); have A7 := hid hall7; have T7 := hid hat7; clear hb7 hr7 hall7 hat7 hl7 hm; have y7 : w7.cell? ⟨gb + 1 + 1, 2, none⟩ = some (.slice (some ⟨gb + 1, 0, none⟩) 1 1) := K8.out.mb.c2))
 all_goals
  obtain ⟨wb, hwb⟩ : ∃ wb, w9.setCell ⟨gb + 1 + 1, 2, none⟩ (.slice (some ⟨gg, 0, none⟩) (1 + m) cap9) = wb := ⟨_, rfl⟩
  have KB := hid (show KInv r q A cap l w (gb + 1 + 1) ⟨#[103, 114, 111, 117, 112]⟩ (([q0.1]) ++ p0.1) (([(op, tx, X, n, k)]) ++ ys) gg cap9 p0.2.1 p0.2.2 wb by
   rw [← hwb]
   exact K8.out.add zr zq (N := 1) (m := m) rfl HM7.out (A7.out.keep (fun g hg => by
    have h1 : w5.heap.size ≤ g := hg.1
    have h2 := hg.2
    have h3 : w.heap.size + 1 ≤ gb + 1 := (K8.out.own.lt (gb + 1) rfl).1
    have h4 : gb + 1 < w5.heap.size := (K5.out.own.lt (gb + 1) rfl).2
    exact ⟨by omega, by omega, by omega, by omega⟩) (fun _ _ => rfl)) hown9 hgrow hat)
  have HWB := hid hwb
  rw [HWB.out]
  clear HWB
  clear hwb hown9 hgrow hat hlt9 y5 y7
  have hN : ([(op, tx, X, n, k)] ++ ys).length = 1 + m := (by simp [HM7.out]; omega)
  obtain ⟨x0, x1, x2, xf⟩ := KB.out.nb
  obtain ⟨z0, z1, z2, zf⟩ := KB.out.mb
  rw [hN] at z2
  have hg := KB.out.tell hN zr zq (by have := HLEN.out; simp; omega) (res := RES) HRES.out
  clear hN
  go_wp2
  have Y := KB.out.nb.set (.string ⟨#[103, 114, 111, 117, 112]⟩) (.string ⟨#[]⟩) (.slice (some ⟨gg, 0, none⟩) (1 + m) cap9)
  exact bodyPost_ret (v := .agg #[.string ⟨#[103, 114, 111, 117, 112]⟩, .string ⟨#[]⟩, .slice (some ⟨gg, 0, none⟩) (1 + m) cap9]) (by simp [results, Tryz.results31, go_sem, Y.c0, Y.c1, Y.c2]) rfl hg
theorem qquery_join (r q : Nat) (A : Option Addr) (cap : Nat) (l : List W) (f i : Nat) (b : Bool) (w : World) (h : QRd w r q A cap l i b) (hi : i ≤ l.length) (hf : l.length - i < f + 1) (hl : l.length ≤ 4194304) (hfg : FigW l) (IH : QIH r q A cap l f) (ho : opQ (bare l) i b opsQ = sJoin) :
  Calls Tryz.prog 31 #[.pointer (some ⟨q, 0, none⟩)] w (GetN r q A cap l w (qq (bare l) (f + 1) i b)) := by
 have HR := hid h
 have HFG := hid hfg
 have HIH := hid IH
 have zr := h.lt
 have zq := h.ltq
 have H0 := hid (fun (w' : World) (h' : QRd w' r q A cap l i b) => qop_any r q A cap l i b w' h' hi hl sJoin ho)
 rw [if_neg (by decide), show (⟨(sJoin).toArray⟩ : ByteArray) = ⟨#[106, 111, 105, 110]⟩ from rfl] at H0
 have hlt := op_lt (l := opsQ) (L := bare l) (i := i) (b := b) (by rw [ho]; decide)
 have hi2 : i + 2 ≤ l.length := by have := hlt.1; rw [bare_length] at this; exact this
 have H1 := hid (fun (w' : World) (h' : QRd w' r q A cap l (i + 2) b) => HIH.out (i + 2) b w' h' hi2 (by omega))
 have E1 := qq_ends (bare l) f (i + 2) b (by rw [bare_length]; omega)
 obtain ⟨q0, hq0⟩ : ∃ q0, qq (bare l) f (i + 2) b = q0 := ⟨_, rfl⟩
 rw [hq0] at H1 E1
 unfold GetN at H1
 have hj : i + 2 ≤ q0.2.1 := E1.1
 have hjl : q0.2.1 ≤ l.length := by have := E1.2.1; rw [bare_length] at this; exact this
 obtain ⟨t0, ht0⟩ : ∃ t0, tailQ (bare l) (qq (bare l) f) sJoin q0.2.1 q0.2.2 = t0 := ⟨_, rfl⟩
 rw [qq_op ho (by decide) hq0 ht0]
 have HT := hid ht0
 obtain ⟨i0, hi0, hz0, hz1, hz2⟩ := info_parts info_node
 have H2 := hid (fun (w' : World) (h' : QRd w' r q A cap l q0.2.1 q0.2.2) => qmust_any r q A cap l q0.2.1 q0.2.2 ⟨#[44]⟩ w' h' hjl hl)
 obtain ⟨a0, ha0⟩ : ∃ a0, mustQ (bare l) q0.2.1 q0.2.2 [44] = a0 := ⟨_, rfl⟩
 rw [show (⟨#[44]⟩ : ByteArray).data.toList = [44] from rfl, ha0] at H2
 have Ea0 := must_ends (L := bare l) (i := q0.2.1) (b := q0.2.2) (s := [44]) (by rw [bare_length]; exact hjl)
 rw [ha0, bare_length] at Ea0
 have ja0 : a0.1 ≤ l.length := Ea0.2.1
 have ia0 : q0.2.1 ≤ a0.1 := Ea0.1
 have H3 := hid (fun (w' : World) (h' : QRd w' r q A cap l a0.1 a0.2) => HIH.out a0.1 a0.2 w' h' ja0 (by omega))
 have Ee := qq_ends (bare l) f a0.1 a0.2 (by rw [bare_length]; exact ja0)
 obtain ⟨p0, hp0⟩ : ∃ p0, qq (bare l) f a0.1 a0.2 = p0 := ⟨_, rfl⟩
 rw [hp0] at H3 Ee
 rw [bare_length] at Ee
 have je : p0.2.1 ≤ l.length := Ee.2.1
 unfold GetN at H3
 have H4 := hid (fun (w' : World) (h' : QRd w' r q A cap l p0.2.1 p0.2.2) => qpairs_any r q A cap l p0.2.1 p0.2.2 w' h' je hl)
 have hlen := loop_len (fun j c hj => pair_ends (L := bare l) (i := j) (b := c) hj) ((bare l).length + 1) true p0.2.1 p0.2.2 (by rw [bare_length]; exact je)
 obtain ⟨s0, hs0⟩ : ∃ s0, loopQ (bare l) (pairQ (bare l)) ((bare l).length + 1) true p0.2.1 p0.2.2 = s0 := ⟨_, rfl⟩
 rw [hs0] at H4 hlen
 rw [bare_length] at hlen
 unfold GetL at H4
 have HLEN := hid (show s0.1.length ≤ 4194310 by omega)
 have ht : t0 = (p0.1 :: s0.1, s0.2) := by rw [← HT.out]; unfold tailQ; rw [if_neg (by decide), if_neg (by decide), if_neg (by decide), if_neg (by decide), if_pos rfl, ha0, hp0, hs0]
 clear HT
 obtain ⟨RES, hRES⟩ : ∃ RES : Res, (Nod.mk sJoin [] (q0.1 :: t0.1), t0.2) = RES := ⟨_, rfl⟩
 rw [hRES]
 have HRES := hid (show RES = (Nod.mk (⟨#[106, 111, 105, 110]⟩ : ByteArray).data.toList [] ([q0.1] ++ [p0.1] ++ s0.1), s0.2.1, s0.2.2) by rw [← hRES, ht]; rfl)
 clear h ho hfg IH hq0 ht0 E1 hlt ha0 Ea0 hp0 Ee hs0 hlen hRES ht
 go_enter Tryz.func31, Tryz.ntmps31
 obtain ⟨w0, hw0, hzw, N0, B0⟩ := made0 w r
 have R0 := hid (show QRd w0 r q A cap l i b by rw [← hw0]; exact HR.out.alloc _)
 have HW0 := hid hw0
 clear hw0
 go_wp2_with fail
 rw [HW0.out]
 refine (H0.out _ R0.out).mono ?_
 rintro e w1 ⟨rfl, hb1, hr1⟩
 have zb1 := hb1.size
 have N1 := hid (N0.out.but (by omega) hb1)
 have B1 := hid (B0.out.trans hb1)
 have R1 := hid hr1
 clear hb1 hr1 H0 HW0
 go_wp2_with fail
 refine (H1.out _ R1.out).mono ?_
 rintro e w2 ⟨op, tx, X, n, k, rfl, hI, hb2, hr2⟩
 have zb2 := hb2.size
 obtain ⟨gb, hgb⟩ : ∃ gb, w2.heap.size = gb := ⟨_, rfl⟩
 obtain ⟨w5, hw5⟩ : ∃ w5, ((w2.alloc (.cells #[.string op, .string tx, .slice X n k] 25)).alloc (.cells #[.string op, .string tx, .slice X n k] 25)).alloc (.cells #[.string ⟨#[106, 111, 105, 110]⟩, .string ⟨#[]⟩, .slice (some ⟨gb + 1, 0, none⟩) 1 1] 25) = w5 := ⟨_, rfl⟩
 have K5 := hid (show KInv r q A cap l w (gb + 1 + 1) ⟨#[106, 111, 105, 110]⟩ [q0.1] [(op, tx, X, n, k)] (gb + 1) 1 q0.2.1 q0.2.2 w5 by
  rw [← hw5]
  exact kinv_start zr hgb (by omega) zb2 (N1.out.but (by omega) hb2) hI (B1.out.trans hb2) hr2)
 have hgl : w.heap.size + 1 ≤ gb := by omega
 have HW5 := hid hw5
 clear hb2 hr2 hI H1 N1 B1 R1 hw5
 have cq := K5.out.rd.cq
 rw [← HW5.out] at cq
 go_wp2_with fail
 rw [HW5.out]
 refine (H2.out _ K5.out.rd).mono ?_
 rintro e w6 ⟨rfl, hb6, hr6⟩
 have K6 := hid (K5.out.next zr hb6 hr6)
 clear hb6 hr6 cq HW5
 have y6 : w6.cell? ⟨gb + 1 + 1, 2, none⟩ = some (.slice (some ⟨gb + 1, 0, none⟩) 1 1) := K6.out.mb.c2
 have l6 := K6.out.mb.lt
 go_wp2_with fail
 go_region_law (first
   | (refine step_append_kids (by rfl) _ _ _ (by rfl) (w.heap.size + 1) 25 i0 _ 56 Tryz.underlying23 hi0 hz0 hz1 hz2 rfl (gb + 1) 1 1 (by omega) (flatC nc ([(op, tx, X, n, k)])) (by rfl) K8.out.own (w7.heap.size + 1) (some ⟨w7.heap.size, 0, none⟩) 1 1 [(op7, tx7, X7, n7, k7)] (by rfl) rfl ((nat_new w7 op7 tx7 X7 n7 k7 25 (fun g => g < w7.heap.size + 1) (Nat.lt_succ_self _)).at (fun g hg => hg)) (by unfold maxLen; omega) (by omega) (by simp; omega) ?_; intro gg cap9 w9 hown9 hgrow hat hlt9; have M9 := hid (K8.out.mb.grown hgrow (fun e => K8.out.ne (Option.some.inj e))); have y9 := M9.out.c2; have f9 := M9.out.fr 2)
   | (go_simp; refine (H3.out _ (K6.out.drew zr).rd).mono ?_; rintro e w7 ⟨op7, tx7, X7, n7, k7, rfl, hI7, hb7, hr7⟩; have zb7 : w6.heap.size ≤ w7.heap.size := hb7.size; have K7 := hid ((K6.out.drew zr).next zr hb7 hr7); have I7 := hid hI7; clear hb7 hr7 hI7; have K8 := hid (K7.out.alloc zr (.cells #[.string op7, .string tx7, .slice X7 n7 k7] 25)); have y7 : w7.cell? ⟨gb + 1 + 1, 2, none⟩ = some (.slice (some ⟨gb + 1, 0, none⟩) 1 1) := K7.out.mb.c2; have y8 : (w7.alloc (.cells #[.string op7, .string tx7, .slice X7 n7 k7] 25)).cell? ⟨gb + 1 + 1, 2, none⟩ = some (.slice (some ⟨gb + 1, 0, none⟩) 1 1) := K8.out.mb.c2))
 all_goals
  obtain ⟨wb, hwb⟩ : ∃ wb, w9.setCell ⟨gb + 1 + 1, 2, none⟩ (.slice (some ⟨gg, 0, none⟩) (1 + 1) cap9) = wb := ⟨_, rfl⟩
  have KB := hid (show KInv r q A cap l w (gb + 1 + 1) ⟨#[106, 111, 105, 110]⟩ (([q0.1]) ++ [p0.1]) (([(op, tx, X, n, k)]) ++ [(op7, tx7, X7, n7, k7)]) gg cap9 p0.2.1 p0.2.2 wb by
   rw [← hwb]
   exact K8.out.add zr zq (N := 1) (m := 1) rfl rfl (RAll.one ((I7.out.alloc (fun g hg => hg.2) _).imp (fun g hg => by
    have h1 : w6.heap.size ≤ g := hg.1
    have h2 := hg.2
    have h3 : w.heap.size + 1 ≤ gb + 1 := (K8.out.own.lt (gb + 1) rfl).1
    have h4 : gb + 1 < w6.heap.size := (K6.out.own.lt (gb + 1) rfl).2
    exact ⟨by omega, by simp; omega, by omega, by omega⟩))) hown9 hgrow hat)
  have HWB := hid hwb
  clear hwb hown9 hgrow hat hlt9 y6 y7 y8
  have yB : wb.cell? ⟨gb + 1 + 1, 2, none⟩ = some (.slice (some ⟨gg, 0, none⟩) 2 cap9) := KB.out.mb.c2
  have lB := KB.out.mb.lt
  go_wp2_with fail
  rw [HWB.out]
  go_region_law (first
    | (refine step_append_kids (by rfl) _ _ _ (by rfl) (w.heap.size + 1) 25 i0 _ 56 Tryz.underlying23 hi0 hz0 hz1 hz2 rfl (gg) 2 cap9 (by omega) (flatC nc ([(op, tx, X, n, k)] ++ [(op7, tx7, X7, n7, k7)])) (by rfl) K18.out.own u7.heap.size X17 m k17 ys (by rfl) HM7.out (T7.out.at (fun g hg => hg.2)) (by unfold maxLen; omega) (by omega) (by have := K18.out.nb.lt; omega) ?_; intro gh cap8 u9 hown19 hgrow2 hat2 hlt19; have M19 := hid (K18.out.mb.grown hgrow2 (fun e => K18.out.ne (Option.some.inj e))); have y19 := M19.out.c2; have f19 := M19.out.fr 2)
    | (go_simp; refine (H4.out _ (KB.out.drew zr).rd).mono ?_; rintro e u7 ⟨X17, k17, ys, rfl, hat7, hall7, hb17, hr17⟩; have zb17 : wb.heap.size ≤ u7.heap.size := hb17.size; have hl7 := hall7.1; obtain ⟨m, hm⟩ : ∃ m, ys.length = m := ⟨_, rfl⟩; rw [hm]; have hmm : m ≤ 4194310 := Nat.le_trans (Nat.le_of_eq (hm.symm.trans hl7)) HLEN.out; have HM7 := hid hm; have K18 := hid ((KB.out.drew zr).next zr hb17 hr17); have A7 := hid hall7; have T7 := hid hat7; clear hb17 hr17 hall7 hat7 hl7 hm; have y17 : u7.cell? ⟨gb + 1 + 1, 2, none⟩ = some (.slice (some ⟨gg, 0, none⟩) 2 cap9) := K18.out.mb.c2))
  all_goals
   obtain ⟨wc, hwc⟩ : ∃ wc, u9.setCell ⟨gb + 1 + 1, 2, none⟩ (.slice (some ⟨gh, 0, none⟩) (2 + m) cap8) = wc := ⟨_, rfl⟩
   have KC := hid (show KInv r q A cap l w (gb + 1 + 1) ⟨#[106, 111, 105, 110]⟩ (([q0.1] ++ [p0.1]) ++ s0.1) (([(op, tx, X, n, k)] ++ [(op7, tx7, X7, n7, k7)]) ++ ys) gh cap8 s0.2.1 s0.2.2 wc by
    rw [← hwc]
    exact K18.out.add zr zq (N := 2) (m := m) rfl HM7.out (A7.out.keep (fun g hg => by
     have h1 : wb.heap.size ≤ g := hg.1
     have h2 := hg.2
     have h3 : w.heap.size + 1 ≤ gg := (K18.out.own.lt (gg) rfl).1
     have h4 : gg < wb.heap.size := (KB.out.own.lt (gg) rfl).2
     exact ⟨by omega, by omega, by omega, by omega⟩) (fun _ _ => rfl)) hown19 hgrow2 hat2)
   have HWC := hid hwc
   rw [HWC.out]
   clear HWC
   clear hwc hown19 hgrow2 hat2 hlt19 yB y17
   have hN : ([(op, tx, X, n, k)] ++ [(op7, tx7, X7, n7, k7)] ++ ys).length = 2 + m := (by simp [HM7.out]; omega)
   obtain ⟨x0, x1, x2, xf⟩ := KC.out.nb
   obtain ⟨z0, z1, z2, zf⟩ := KC.out.mb
   rw [hN] at z2
   have hg := KC.out.tell hN zr zq (by have := HLEN.out; simp; omega) (res := RES) HRES.out
   clear hN
   go_wp2
   have Y := KC.out.nb.set (.string ⟨#[106, 111, 105, 110]⟩) (.string ⟨#[]⟩) (.slice (some ⟨gh, 0, none⟩) (2 + m) cap8)
   exact bodyPost_ret (v := .agg #[.string ⟨#[106, 111, 105, 110]⟩, .string ⟨#[]⟩, .slice (some ⟨gh, 0, none⟩) (2 + m) cap8]) (by simp [results, Tryz.results31, go_sem, Y.c0, Y.c1, Y.c2]) rfl hg
end Go.Proofs.YtjbpkpfmgbhlpaaGreatDoor.Code
/-
  The document's query, whatever comes.
-/
namespace Go.Proofs.YtjbpkpfmgbhlpaaGreatDoor.Code
open Go.ChangeShapes Go.WideShapes Go.ChangeAt Go.RowKit Val Elems
set_option linter.unusedVariables false
theorem qquery_all {r q : Nat} {A : Option Addr} {cap : Nat} {l : List W} (hl : l.length ≤ 4194304) (hfg : FigW l) : ∀ f, QIH r q A cap l f
 | 0 => fun i b w h hi hf => absurd hf (Nat.not_lt_zero _)
 | f + 1 => fun i b w h hi hf => by
  have IH := qquery_all (r := r) (q := q) (A := A) (cap := cap) hl hfg f
  by_cases ho : opQ (bare l) i b opsQ = []
  ·exact qquery_from r q A cap l f i b w h hi hl ho
  ·have hm := (op_some ho).2
   obtain ⟨o, hoo⟩ : ∃ o, opQ (bare l) i b opsQ = o := ⟨_, rfl⟩
   rw [hoo] at hm
   have hc : o = sFilter ∨ o = sProject ∨ o = sJoin ∨ o = sUnion ∨ o = sDistinct ∨ o = sGroup := by simpa [opsQ] using hm
   rcases hc with rfl | rfl | rfl | rfl | rfl | rfl
   ·exact qquery_filter r q A cap l f i b w h hi hf hl hfg IH hoo
   ·exact qquery_project r q A cap l f i b w h hi hf hl hfg IH hoo
   ·exact qquery_join r q A cap l f i b w h hi hf hl hfg IH hoo
   ·exact qquery_union r q A cap l f i b w h hi hf hl hfg IH hoo
   ·exact qquery_distinct r q A cap l f i b w h hi hf hl hfg IH hoo
   ·exact qquery_group r q A cap l f i b w h hi hf hl hfg IH hoo
end Go.Proofs.YtjbpkpfmgbhlpaaGreatDoor.Code
/-
  The document's reader: the query from a place on.
-/
namespace Go.Proofs.YtjbpkpfmgbhlpaaGreatDoor.Code
open Go.ChangeShapes Go.WideShapes Go.ChangeAt Go.RowKit Val Elems
set_option linter.unusedVariables false
set_option linter.unusedSimpArgs false
def fromQ (L : List V) (i : Nat) : Res := qq L (L.length + 1) i false
def readQ (l : List W) (i : Nat) : Nod × Nat × Int := if (fromQ (bare l) i).2.2 = true then (zeroN, (fromQ (bare l) i).2.1, 91) else ((fromQ (bare l) i).1, (fromQ (bare l) i).2.1, 0)
def ReadQPost (w : World) (res : Nod × Nat × Int) (e : Ending) (w' : World) : Prop :=
 ∃ (op tx : ByteArray) (X : Option Addr) (n m : Nat), e = .returned (.tuple #[.agg #[.string op, .string tx, .slice X n m], .int .i64 res.2.1, .int .i64 res.2.2]) ∧ RIn w' (New w w') res.1 (op, tx, X, n, m) ∧ Below w.heap.size w w'
theorem rreadQ_any (A : Option Addr) (cap : Nat) (l : List W) (i : Nat) (w : World) (h : At wc 3 w w.heap.size A l) (hl : l.length ≤ 4194304) (hfg : FigW l) (hi : i < l.length) :
  Calls Tryz.prog 13 #[.slice A l.length cap, .int .i64 i] w (ReadQPost w (readQ l i)) := by
 obtain ⟨R, hx⟩ : ∃ R, fromQ (bare l) i = R := ⟨_, rfl⟩
 obtain ⟨x, j, b⟩ := R
 have hrd : readQ l i = if b = true then (zeroN, j, 91) else (x, j, 0) := by unfold readQ; rw [hx]
 rw [hrd]
 obtain ⟨q, hq⟩ : ∃ q, (if b = true then (zeroN, j, (91 : Int)) else (x, j, 0)) = q := ⟨_, rfl⟩
 rw [hq]
 have HQ := hid hq
 have HA := hid h
 have HX0 := hid (fun w1 hr => qquery_all (r := w.heap.size + 1) (q := w.heap.size + 2) (A := A) (cap := cap) hl hfg ((bare l).length + 1) i false w1 hr (by omega) (by rw [bare_length]; omega))
 rw [show qq (bare l) ((bare l).length + 1) i false = (x, j, b) from hx] at HX0
 unfold GetN at HX0
 have e1 : (i : Int) < (l.length : Int) := by omega
 have e0 : (0 : Int) ≤ (i : Int) := by omega
 have e2 : decide ((i : Int) < 0) = false := by simp
 have e3 : decide ((l.length : Int) ≤ (i : Int)) = false := by simp; omega
 clear h hx hrd hfg hq
 go_enter Tryz.func13, Tryz.ntmps13
 obtain ⟨w1, hw1⟩ : ∃ w1, ((w.alloc (.cells #[.string ⟨#[]⟩, .string ⟨#[]⟩, .slice none 0 0] 25)).alloc (.cells #[.slice A l.length cap, .int .i64 i, .bool false] 64)).alloc (.cells #[.pointer (some ⟨w.heap.size + 1, 0, none⟩)] 66) = w1 := ⟨_, rfl⟩
 have hz1 : w1.heap.size = w.heap.size + 3 := by rw [← hw1]; simp
 have N1 := hid (show NBox w1 w.heap.size (.string ⟨#[]⟩) (.string ⟨#[]⟩) (.slice none 0 0) by rw [← hw1]; exact ((NBox.fresh _ _ _ _ _).alloc _).alloc _)
 have B1 := hid (show Below w.heap.size w w1 by rw [← hw1]; exact (((Below.refl _ _).alloc (Nat.le_refl _) _).alloc (by simp) _).alloc (by simp; omega) _)
 have R1 := hid (show QRd w1 (w.heap.size + 1) (w.heap.size + 2) A cap l i false by
  refine ⟨?_, ?_, by omega⟩
  ·rw [← hw1, show w.heap.size + 1 = (w.alloc (.cells #[.string ⟨#[]⟩, .string ⟨#[]⟩, .slice none 0 0] 25)).heap.size by simp]
   exact (Rdr.fresh _ A cap l i 64 ((HA.out.below ((Below.refl _ _).alloc (Nat.le_refl _) _)).more (by simp))).alloc _
  ·rw [← hw1]
   simp [go_sem])
 have HW1 := hid hw1
 clear hw1
 go_wp2_with fail
 rw [HW1.out]
 refine (HX0.out _ R1.out).mono ?_
 rintro e w2 ⟨op, tx, X, n, m, rfl, hn2, hb2, hr2⟩
 have N2 := hid ((N1.out.but (by omega) hb2).alloc (.cells #[.string op, .string tx, .slice X n m] 25))
 have R2 := hid (hr2.alloc (.cells #[.string op, .string tx, .slice X n m] 25))
 have hz2 : w1.heap.size ≤ w2.heap.size := hb2.size
 have I2 := hid ((hn2.imp (S' := fun g => w.heap.size < g ∧ g < w2.heap.size) (fun g hg => ⟨by have := hg.1; omega, hg.2⟩)).alloc (fun g hg => hg.2) (.cells #[.string op, .string tx, .slice X n m] 25))
 have B2 := hid ((B1.out.trans (hb2.below (B := w.heap.size) (by omega) (by omega))).alloc (by omega) (.cells #[.string op, .string tx, .slice X n m] 25))
 have V2 := hid (NBox.fresh w2 (.string op) (.string tx) (.slice X n m) 25)
 have zn := N2.out.lt
 have zr := R2.out.lt
 clear hb2 hr2 hn2
 obtain ⟨x0, x1, x2, xf⟩ := N2.out
 have c2 := R2.out.rd.c2
 have cq := R2.out.cq
 obtain ⟨w6, hw6⟩ : ∃ w6, w2.alloc (.cells #[.string op, .string tx, .slice X n m] 25) = w6 := ⟨_, rfl⟩
 rw [hw6] at N2 R2 I2 B2 V2 zn zr x0 x1 x2 xf c2 cq
 obtain ⟨v0, v1, v2, vf⟩ := V2.out
 have c1 := R2.out.rd.c1
 have HO := hid (Oth.refl w.heap.size w6)
 have FQ := hid (fun w' (h : Oth w.heap.size w6 w') => show w'.cell? ⟨w.heap.size + 2, 0, none⟩ = some (.pointer (some ⟨w.heap.size + 1, 0, none⟩)) ∧ w'.cell? ⟨w.heap.size + 1, 1, none⟩ = some (.int .i64 j) ∧ w'.cell? ⟨w2.heap.size, 0, none⟩ = some (.string op) ∧ w'.cell? ⟨w2.heap.size, 1, none⟩ = some (.string tx) ∧ w'.cell? ⟨w2.heap.size, 2, none⟩ = some (.slice X n m) from
  ⟨(h ⟨w.heap.size + 2, 0, none⟩ (by simp)).trans cq, (h ⟨w.heap.size + 1, 1, none⟩ (by simp)).trans c1, (h ⟨w2.heap.size, 0, none⟩ (by simp; omega)).trans v0, (h ⟨w2.heap.size, 1, none⟩ (by simp; omega)).trans v1, (h ⟨w2.heap.size, 2, none⟩ (by simp; omega)).trans v2⟩)
 cases b
 ·go_upto_region 7 with fail
  go_region_held3 (fun w' => (w'.cell? ⟨w.heap.size + 2, 0, none⟩ = some (.pointer (some ⟨w.heap.size + 1, 0, none⟩)) ∧ w'.cell? ⟨w.heap.size + 1, 1, none⟩ = some (.int .i64 j) ∧ w'.cell? ⟨w2.heap.size, 0, none⟩ = some (.string op) ∧ w'.cell? ⟨w2.heap.size, 1, none⟩ = some (.string tx) ∧ w'.cell? ⟨w2.heap.size, 2, none⟩ = some (.slice X n m)) ∧ Oth w.heap.size w6 w')
   (first | assumption | (exact ⟨FQ.out _ HO.out.drew, HO.out.drew⟩) | (exact ⟨FQ.out _ HO.out, HO.out⟩) | (refine (fun hS9 : Oth w.heap.size w6 _ => ⟨FQ.out _ hS9, hS9⟩) (((HO.out.setCell _ rfl _).setCell _ rfl _).setCell _ rfl _).drew))
   (fail)
  go_wp2
  obtain rfl : q = (x, j, 0) := by have := HQ.out; simpa using this.symm
  have Y := N2.out.set (.string op) (.string tx) (.slice X n m)
  have h6 : w6.heap.size = w2.heap.size + 1 := by rw [← hw6]; simp
  exact bodyPost_ret (v := .tuple #[.agg #[.string op, .string tx, .slice X n m], .int .i64 j, .int .i64 0]) (by simp [results, Tryz.results13, go_sem, Y.c0, Y.c1, Y.c2]) rfl
   ⟨op, tx, X, n, m, rfl, RIn.keep (w := W3 w6 w.heap.size (.string op) (.string tx) (.slice X n m)) (w' := (W3 w6 w.heap.size (.string op) (.string tx) (.slice X n m)).drew) (fun g hg => ⟨by have := hg.1; omega, by show g < (W3 w6 w.heap.size (.string op) (.string tx) (.slice X n m)).heap.size; rw [W3.size, h6]; have := hg.2; omega⟩) (fun _ _ => rfl) (RIn.w3 I2.out (fun hg => Nat.lt_irrefl _ hg.1) _ _ _), (((B2.out.setCell (Nat.le_refl _) _).setCell (Nat.le_refl _) _).setCell (Nat.le_refl _) _).drew⟩
 ·go_upto_region 6 with fail
  go_region_held3 (fun w' => (w'.cell? ⟨w.heap.size + 2, 0, none⟩ = some (.pointer (some ⟨w.heap.size + 1, 0, none⟩)) ∧ w'.cell? ⟨w.heap.size + 1, 1, none⟩ = some (.int .i64 j) ∧ w'.cell? ⟨w2.heap.size, 0, none⟩ = some (.string op) ∧ w'.cell? ⟨w2.heap.size, 1, none⟩ = some (.string tx) ∧ w'.cell? ⟨w2.heap.size, 2, none⟩ = some (.slice X n m)) ∧ Oth w.heap.size w6 w')
   (first | assumption | (exact ⟨FQ.out _ HO.out.drew, HO.out.drew⟩) | (exact ⟨FQ.out _ HO.out, HO.out⟩) | (refine (fun hS9 : Oth w.heap.size w6 _ => ⟨FQ.out _ hS9, hS9⟩) (((HO.out.setCell _ rfl _).setCell _ rfl _).setCell _ rfl _).drew))
   (fail)
  go_wp2
  obtain rfl : q = (zeroN, j, 91) := by have := HQ.out; simpa using this.symm
  have Y := N2.out.set (.string ⟨#[]⟩) (.string ⟨#[]⟩) (.slice none 0 0)
  exact bodyPost_ret (v := .tuple #[.agg #[.string ⟨#[]⟩, .string ⟨#[]⟩, .slice none 0 0], .int .i64 j, .int .i64 91]) (by simp [results, Tryz.results13, go_sem, Y.c0, Y.c1, Y.c2]) rfl
   ⟨⟨#[]⟩, ⟨#[]⟩, none, 0, 0, rfl, RIn.leafN _ _ ⟨#[]⟩ ⟨#[]⟩, (((B2.out.setCell (Nat.le_refl _) _).setCell (Nat.le_refl _) _).setCell (Nat.le_refl _) _).drew⟩
theorem preadQ_out (A : Option Addr) (cap n : Nat) (at9 : Int) (w : World) (h : at9 < 0 ∨ (n : Int) ≤ at9) :
  Calls Tryz.prog 12 #[.slice A n cap, .int .i64 at9] w fun e w' => e = .returned (.tuple #[.agg #[.string ⟨#[]⟩, .string ⟨#[]⟩, .slice none 0 0], .int .i64 at9, .int .i64 91]) ∧ Below w.heap.size w w' := by
 have Y := NBox.fresh w (.string ⟨#[]⟩) (.string ⟨#[]⟩) (.slice none 0 0) 25
 by_cases h1 : at9 < 0
 ·have e1 : decide (at9 < 0) = true := by simpa using h1
  clear h h1
  go_enter Tryz.func12, Tryz.ntmps12
  go_wp2
  exact bodyPost_ret (v := .tuple #[.agg #[.string ⟨#[]⟩, .string ⟨#[]⟩, .slice none 0 0], .int .i64 at9, .int .i64 91]) (by simp [results, Tryz.results12, go_sem, Y.c0, Y.c1, Y.c2]) rfl
   ⟨rfl, (Below.refl _ _).alloc (Nat.le_refl _) _⟩
 ·have e1 : decide (at9 < 0) = false := by simpa using h1
  have e2 : decide ((n : Int) ≤ at9) = true := by simp; omega
  clear h h1
  go_enter Tryz.func12, Tryz.ntmps12
  go_wp2
  exact bodyPost_ret (v := .tuple #[.agg #[.string ⟨#[]⟩, .string ⟨#[]⟩, .slice none 0 0], .int .i64 at9, .int .i64 91]) (by simp [results, Tryz.results12, go_sem, Y.c0, Y.c1, Y.c2]) rfl
   ⟨rfl, (Below.refl _ _).alloc (Nat.le_refl _) _⟩
theorem preadQ_any (A : Option Addr) (cap : Nat) (l : List W) (i : Nat) (m : Int) (w : World) (h : At wc 3 w w.heap.size A l) (hg : Good l) (he : Env w.heap.size m w) (hi : i < l.length) :
  Calls Tryz.prog 12 #[.slice A l.length cap, .int .i64 i] w (ReadQPost w (readQ l i)) := by
 obtain ⟨R, hx⟩ : ∃ R, fromQ (Code.bare l) i = R := ⟨_, rfl⟩
 obtain ⟨x, j, b⟩ := R
 have hrd : readQ l i = if b = true then (zeroN, j, 91) else (x, j, 0) := by unfold readQ; rw [hx]
 rw [hrd]
 obtain ⟨q, hq⟩ : ∃ q, (if b = true then (zeroN, j, (91 : Int)) else (x, j, 0)) = q := ⟨_, rfl⟩
 rw [hq]
 have HQ := hid hq
 have HA := hid h
 have HE := hid he
 have HTQ := hid (fun w0 => pqueries_any w0)
 have HTA := hid (fun w0 => paggs_any w0)
 have HX0 := hid (fun (r qb qa : Nat) w1 (hr : Rq w1 r m A cap l qb qa i) => pquery_all hg ((Code.bare l).length + 1) i w1 hr (by omega) (by rw [bare_length]; omega))
 rw [show qq (Code.bare l) ((Code.bare l).length + 1) i false = (x, j, b) from hx] at HX0
 have e1 : (i : Int) < (l.length : Int) := by omega
 have e0 : (0 : Int) ≤ (i : Int) := by omega
 have e2 : decide ((i : Int) < 0) = false := by simp
 have e3 : decide ((l.length : Int) ≤ (i : Int)) = false := by simp; omega
 clear h hx hrd hg hq he
 go_enter Tryz.func12, Tryz.ntmps12
 obtain ⟨w0, hw0⟩ : ∃ w0, w.alloc (.cells #[.string ⟨#[]⟩, .string ⟨#[]⟩, .slice none 0 0] 25) = w0 := ⟨_, rfl⟩
 have hz0 : w0.heap.size = w.heap.size + 1 := by rw [← hw0]; simp
 have N0 := hid (show NBox w0 w.heap.size (.string ⟨#[]⟩) (.string ⟨#[]⟩) (.slice none 0 0) by rw [← hw0]; exact NBox.fresh _ _ _ _ _)
 have B0 := hid (show Below w.heap.size w w0 by rw [← hw0]; exact below_alloc _ _)
 have HW0 := hid hw0
 clear hw0
 go_wp2_with fail
 try rw [HW0.out]
 refine (HTQ.out _).mono ?_
 rintro e wq ⟨qb, rfl, hmq, hqb, hbq⟩
 have zq := hbq.size
 have Nq := hid (N0.out.below hbq)
 have Bq := hid (bnext B0.out B0.out.size hbq)
 have MQ := hid hmq
 clear hmq hbq
 go_wp2_with fail
 refine (HTA.out _).mono ?_
 rintro e wa ⟨qa, rfl, hma, hqa, hba⟩
 have za := hba.size
 have Na := hid (Nq.out.below hba)
 have Ba := hid (bnext Bq.out Bq.out.size hba)
 have MQ2 := hid (MQ.out.below hba)
 have MA2 := hid hma
 have hlq := MQ2.out.lt
 have hla := hma.lt
 clear hma hba MQ
 obtain ⟨w1, hw1⟩ : ∃ w1, wa.alloc (.cells #[.slice A l.length cap, .int .i64 i, .map (some qb), .map (some qa)] 58) = w1 := ⟨_, rfl⟩
 have z1 : w1.heap.size = wa.heap.size + 1 := by rw [← hw1]; simp
 have N1 := hid (show NBox w1 w.heap.size (.string ⟨#[]⟩) (.string ⟨#[]⟩) (.slice none 0 0) by rw [← hw1]; exact Na.out.alloc _)
 have B1 := hid (show Below w.heap.size w w1 by rw [← hw1]; exact Ba.out.alloc Ba.out.size _)
 have R1 := hid (show Rq w1 wa.heap.size m A cap l qb qa i from by
  have hbw := below_alloc wa (.cells #[.slice A l.length cap, .int .i64 i, .map (some qb), .map (some qa)] 58)
  rw [hw1] at hbw
  refine ⟨⟨by rw [← hw1]; simp [go_sem], by rw [← hw1]; simp [go_sem], fun k => by rw [← hw1]; simp [go_sem], ?_, ?_⟩, by rw [← hw1]; simp [go_sem], by rw [← hw1]; simp [go_sem], MQ2.out.below hbw, MA2.out.below hbw, by omega, by omega⟩
  ·exact (HA.out.below B1.out).more (by have := Ba.out.size; omega)
  ·have h1 : Env wa.heap.size m wa := HE.out.next Ba.out
   exact h1.below hbw)
 have HW1 := hid hw1
 clear hw1
 go_upto_region 4 with fail
 rw [HW1.out]
 go_wp2_with fail
 refine (HX0.out _ _ _ _ R1.out).mono ?_
 rintro e w2 ⟨op, tx, X, n, k, rfl, hn2, hb2, hr2⟩
 dsimp only at hn2 hr2
 have N2 := hid ((N1.out.but (by have := Ba.out.size; omega) hb2).alloc (.cells #[.string op, .string tx, .slice X n k] 25))
 have R2 := hid (hr2.alloc (.cells #[.string op, .string tx, .slice X n k] 25))
 have hz2 : w1.heap.size ≤ w2.heap.size := hb2.size
 have zwa : w.heap.size < wa.heap.size := by omega
 have I2 := hid (fun hq : b = false => ((hn2 hq).imp (S' := fun g => w.heap.size < g ∧ g < w2.heap.size) (fun g hg => ⟨by have := hg.1; omega, hg.2⟩)).alloc (fun g hg => hg.2) (.cells #[.string op, .string tx, .slice X n k] 25))
 have B2 := hid ((B1.out.trans (hb2.below (B := w.heap.size) (by omega) (by omega))).alloc (by omega) (.cells #[.string op, .string tx, .slice X n k] 25))
 have V2 := hid (NBox.fresh w2 (.string op) (.string tx) (.slice X n k) 25)
 have zn := N2.out.lt
 have zr := R2.out.lt
 clear hb2 hr2 hn2
 obtain ⟨x0, x1, x2, xf⟩ := N2.out
 obtain ⟨w6, hw6⟩ : ∃ w6, w2.alloc (.cells #[.string op, .string tx, .slice X n k] 25) = w6 := ⟨_, rfl⟩
 rw [hw6] at N2 R2 I2 B2 V2 zn zr x0 x1 x2 xf
 obtain ⟨v0, v1, v2, vf⟩ := V2.out
 have c1 := R2.out.rd.c1
 have HO := hid (Ox.refl w.heap.size w6)
 have FQ := hid (fun w' (h : Ox w.heap.size w6 w') => show w'.cell? ⟨wa.heap.size, 1, none⟩ = some (.int .i64 j) ∧ w'.cell? ⟨w2.heap.size, 0, none⟩ = some (.string op) ∧ w'.cell? ⟨w2.heap.size, 1, none⟩ = some (.string tx) ∧ w'.cell? ⟨w2.heap.size, 2, none⟩ = some (.slice X n k) from
  ⟨(h.2 ⟨wa.heap.size, 1, none⟩ (by simp; omega)).trans c1, (h.2 ⟨w2.heap.size, 0, none⟩ (by simp; omega)).trans v0, (h.2 ⟨w2.heap.size, 1, none⟩ (by simp; omega)).trans v1, (h.2 ⟨w2.heap.size, 2, none⟩ (by simp; omega)).trans v2⟩)
 cases b
 ·go_upto_region 7 with fail
  go_region_held3 (fun w' => (w'.cell? ⟨wa.heap.size, 1, none⟩ = some (.int .i64 j) ∧ w'.cell? ⟨w2.heap.size, 0, none⟩ = some (.string op) ∧ w'.cell? ⟨w2.heap.size, 1, none⟩ = some (.string tx) ∧ w'.cell? ⟨w2.heap.size, 2, none⟩ = some (.slice X n k)) ∧ Ox w.heap.size w6 w')
   (first | assumption | (exact ⟨FQ.out _ HO.out.drew, HO.out.drew⟩) | (exact ⟨FQ.out _ HO.out, HO.out⟩) | (refine (fun hS9 : Ox w.heap.size w6 _ => ⟨FQ.out _ hS9, hS9⟩) (((HO.out.setCell _ rfl _).setCell _ rfl _).setCell _ rfl _).drew))
   (fail)
  go_wp2
  obtain rfl : q = (x, j, 0) := by have := HQ.out; simpa using this.symm
  have Y := N2.out.set (.string op) (.string tx) (.slice X n k)
  have h6 : w6.heap.size = w2.heap.size + 1 := by rw [← hw6]; simp
  exact bodyPost_ret (v := .tuple #[.agg #[.string op, .string tx, .slice X n k], .int .i64 j, .int .i64 0]) (by simp [results, Tryz.results12, go_sem, Y.c0, Y.c1, Y.c2]) rfl
   ⟨op, tx, X, n, k, rfl, RIn.keep (w := W3 w6 w.heap.size (.string op) (.string tx) (.slice X n k)) (w' := (W3 w6 w.heap.size (.string op) (.string tx) (.slice X n k)).drew) (fun g hg => ⟨by have := hg.1; omega, by show g < (W3 w6 w.heap.size (.string op) (.string tx) (.slice X n k)).heap.size; rw [W3.size, h6]; have := hg.2; omega⟩) (fun _ _ => rfl) ((I2.out (by first | exact trivial | rfl)).w3 (g := w.heap.size) (fun hg => Nat.lt_irrefl _ hg.1) _ _ _), (((B2.out.setCell (Nat.le_refl _) _).setCell (Nat.le_refl _) _).setCell (Nat.le_refl _) _).drew⟩
 ·go_upto_region 6 with fail
  go_region_held3 (fun w' => (w'.cell? ⟨wa.heap.size, 1, none⟩ = some (.int .i64 j) ∧ w'.cell? ⟨w2.heap.size, 0, none⟩ = some (.string op) ∧ w'.cell? ⟨w2.heap.size, 1, none⟩ = some (.string tx) ∧ w'.cell? ⟨w2.heap.size, 2, none⟩ = some (.slice X n k)) ∧ Ox w.heap.size w6 w')
   (first | assumption | (exact ⟨FQ.out _ HO.out.drew, HO.out.drew⟩) | (exact ⟨FQ.out _ HO.out, HO.out⟩) | (refine (fun hS9 : Ox w.heap.size w6 _ => ⟨FQ.out _ hS9, hS9⟩) (((HO.out.setCell _ rfl _).setCell _ rfl _).setCell _ rfl _).drew))
   (fail)
  go_wp2
  obtain rfl : q = (zeroN, j, 91) := by have := HQ.out; simpa using this.symm
  have Y := N2.out.set (.string ⟨#[]⟩) (.string ⟨#[]⟩) (.slice none 0 0)
  exact bodyPost_ret (v := .tuple #[.agg #[.string ⟨#[]⟩, .string ⟨#[]⟩, .slice none 0 0], .int .i64 j, .int .i64 91]) (by simp [results, Tryz.results12, go_sem, Y.c0, Y.c1, Y.c2]) rfl
   ⟨⟨#[]⟩, ⟨#[]⟩, none, 0, 0, rfl, RIn.leafN _ _ ⟨#[]⟩ ⟨#[]⟩, (((B2.out.setCell (Nat.le_refl _) _).setCell (Nat.le_refl _) _).setCell (Nat.le_refl _) _).drew⟩
theorem rreadQ_out (A : Option Addr) (cap n : Nat) (at9 : Int) (w : World) (h : at9 < 0 ∨ (n : Int) ≤ at9) :
  Calls Tryz.prog 13 #[.slice A n cap, .int .i64 at9] w fun e w' => e = .returned (.tuple #[.agg #[.string ⟨#[]⟩, .string ⟨#[]⟩, .slice none 0 0], .int .i64 at9, .int .i64 91]) ∧ Below w.heap.size w w' := by
 have Y := NBox.fresh w (.string ⟨#[]⟩) (.string ⟨#[]⟩) (.slice none 0 0) 25
 by_cases h1 : at9 < 0
 ·have e1 : decide (at9 < 0) = true := by simpa using h1
  clear h h1
  go_enter Tryz.func13, Tryz.ntmps13
  go_wp2
  exact bodyPost_ret (v := .tuple #[.agg #[.string ⟨#[]⟩, .string ⟨#[]⟩, .slice none 0 0], .int .i64 at9, .int .i64 91]) (by simp [results, Tryz.results13, go_sem, Y.c0, Y.c1, Y.c2]) rfl
   ⟨rfl, (Below.refl _ _).alloc (Nat.le_refl _) _⟩
 ·have e1 : decide (at9 < 0) = false := by simpa using h1
  have e2 : decide ((n : Int) ≤ at9) = true := by simp; omega
  clear h h1
  go_enter Tryz.func13, Tryz.ntmps13
  go_wp2
  exact bodyPost_ret (v := .tuple #[.agg #[.string ⟨#[]⟩, .string ⟨#[]⟩, .slice none 0 0], .int .i64 at9, .int .i64 91]) (by simp [results, Tryz.results13, go_sem, Y.c0, Y.c1, Y.c2]) rfl
   ⟨rfl, (Below.refl _ _).alloc (Nat.le_refl _) _⟩
def readZ (l : List W) (p : Int) : Nod × Int × Int := if 0 ≤ p ∧ p < l.length then ((readQ l p.toNat).1, ((readQ l p.toNat).2.1 : Int), (readQ l p.toNat).2.2) else (zeroN, p, 91)
def ReadZPost (w : World) (res : Nod × Int × Int) (e : Ending) (w' : World) : Prop :=
 ∃ (op tx : ByteArray) (X : Option Addr) (n m : Nat), e = .returned (.tuple #[.agg #[.string op, .string tx, .slice X n m], .int .i64 res.2.1, .int .i64 res.2.2]) ∧ RIn w' (New w w') res.1 (op, tx, X, n, m) ∧ Below w.heap.size w w'
theorem rreadZ_any (A : Option Addr) (cap : Nat) (l : List W) (p : Int) (w : World) (h : At wc 3 w w.heap.size A l) (hl : l.length ≤ 4194304) (hfg : FigW l) :
  Calls Tryz.prog 13 #[.slice A l.length cap, .int .i64 p] w (ReadZPost w (readZ l p)) := by
 unfold readZ
 by_cases hp : 0 ≤ p ∧ p < l.length
 ·rw [if_pos hp]
  obtain ⟨i, rfl⟩ := Int.eq_ofNat_of_zero_le hp.1
  exact rreadQ_any A cap l i w h hl hfg (by omega)
 ·rw [if_neg hp]
  refine (rreadQ_out A cap l.length p w (by omega)).mono ?_
  rintro e w' ⟨rfl, hb⟩
  exact ⟨⟨#[]⟩, ⟨#[]⟩, none, 0, 0, rfl, RIn.leafN _ _ ⟨#[]⟩ ⟨#[]⟩, hb⟩
theorem preadZ_any (A : Option Addr) (cap : Nat) (l : List W) (p : Int) (m : Int) (w : World) (h : At wc 3 w w.heap.size A l) (hg : Good l) (he : Env w.heap.size m w) :
  Calls Tryz.prog 12 #[.slice A l.length cap, .int .i64 p] w (ReadZPost w (readZ l p)) := by
 unfold readZ
 by_cases hp : 0 ≤ p ∧ p < l.length
 ·rw [if_pos hp]
  obtain ⟨i, rfl⟩ := Int.eq_ofNat_of_zero_le hp.1
  exact preadQ_any A cap l i m w h hg he (by omega)
 ·rw [if_neg hp]
  refine (preadQ_out A cap l.length p w (by omega)).mono ?_
  rintro e w' ⟨rfl, hb⟩
  exact ⟨⟨#[]⟩, ⟨#[]⟩, none, 0, 0, rfl, RIn.leafN _ _ ⟨#[]⟩ ⟨#[]⟩, hb⟩
def SamePost (w : World) (q : Bool) (e : Ending) (w' : World) : Prop := e = .returned (.bool q) ∧ Below w.heap.size w w'
theorem deepL_snoc (x : Nod) : ∀ l : List Nod, Nod.deepL (l ++ [x]) = max (Nod.deepL l) x.deep
 | [] => by simp [Nod.deepL]
 | t :: l => by
  show max t.deep (Nod.deepL (l ++ [x])) = max (max t.deep (Nod.deepL l)) x.deep
  rw [deepL_snoc x l, Nat.max_assoc]
theorem deepL_take : ∀ (l : List Nod) (k : Nat), Nod.deepL (l.take k) ≤ Nod.deepL l
 | [], k => by simp
 | t :: l, 0 => Nat.zero_le _
 | t :: l, k + 1 => by
  show max t.deep (Nod.deepL (l.take k)) ≤ max t.deep (Nod.deepL l)
  have := deepL_take l k
  omega
theorem deepL_mem {x : Nod} : ∀ {l : List Nod}, x ∈ l → x.deep ≤ Nod.deepL l
 | [], h => absurd h (by simp)
 | t :: l, h => by
  show _ ≤ max t.deep (Nod.deepL l)
  rcases List.mem_cons.1 h with rfl | h
  ·exact Nat.le_max_left _ _
  ·exact Nat.le_trans (deepL_mem h) (Nat.le_max_right _ _)
theorem deep_ks (t : Nod) : t.deep = Nod.deepL t.ks + 1 := by cases t; rfl
theorem edeepN_any : ∀ (d : Nat) (t : Nod), t.deep ≤ d → d ≤ 1000000000 → ∀ (S : Nat → Prop) (op tx : ByteArray) (X : Option Addr) (n m : Nat) (w : World), (∀ g, S g → g < w.heap.size) → RIn w S t (op, tx, X, n, m) →
  Calls Tryz.prog 22 #[.agg #[.string op, .string tx, .slice X n m]] w fun e w' => e = .returned (.int .i64 t.deep) ∧ Below w.heap.size w w'
 | 0, t, h, _, _, _, _, _, _, _, _, _, _ => absurd h (by rw [deep_ks]; omega)
 | d + 1, t, h, hd, S, op, tx, X, n, m, w, hS, hn => by
  have ih := hid (fun k (hk : k < t.ks.length) => edeepN_any d t.ks[k] (by have := deepL_mem (List.getElem_mem hk); rw [deep_ks] at h; omega) (by omega))
  rw [deep_ks] at h ⊢
  have hNod.deepL : Nod.deepL t.ks ≤ d := by omega
  obtain ⟨-, -, en, hkl⟩ := hn.texts
  dsimp only at en
  have HS := hid hS
  subst en
  have HN := hid hn
  clear h hS hn
  go_enter Tryz.func22, Tryz.ntmps22
  go_wp2
  go_loopw [3, 9] (fun v t' wr => ∃ k : Nat, k ≤ t.ks.length ∧ t' = .int .i64 k ∧ v = .int .i64 (Nod.deepL (t.ks.take k)) ∧ Below w.heap.size w wr) (fun _ t' _ => t.ks.length - (intOf t').toNat)
  case atStart => exact ⟨0, by omega, rfl, rfl, (Below.refl _ _).alloc (Nat.le_refl _) _⟩
  case round =>
   obtain ⟨k, hk, rfl, rfl, hb⟩ := hrel
   have HB := hid hb
   have hz := hb.size
   have HK := hid (HN.out.bel HS.out hb)
   clear hb
   by_cases hlt : k < t.ks.length
   ·obtain ⟨ad, ⟨op', tx', X', n', m'⟩, eA, hS', q0, q1, q2, hk'⟩ := HK.out.kid k hlt
    dsimp only at eA q0 q1 q2
    subst eA
    have hKK := hid hk'
    have had := HS.out _ hS'
    have hdk : Nod.deepL (t.ks.take k) ≤ Nod.deepL t.ks := deepL_take _ _
    have hdx : t.ks[k].deep ≤ Nod.deepL t.ks := deepL_mem (List.getElem_mem hlt)
    have hdt : Nod.deepL (t.ks.take (k + 1)) = max (Nod.deepL (t.ks.take k)) t.ks[k].deep := by rw [List.take_succ_eq_append_getElem hlt, deepL_snoc]
    have HDT := hid hdt
    clear hk' hdt
    go_wp2_with fail
    refine (ih.out k hlt S op' tx' X' n' m' _ (fun g hg => by have := HS.out g hg; simp; omega) (hKK.out.alloc (fun g hg => Nat.lt_of_lt_of_le (HS.out g hg) hz) _)).mono ?_
    rintro e w1 ⟨rfl, hb1⟩
    have HB1 := hid ((HB.out.alloc hz _).trans (hb1.mono (by simp; omega)))
    clear hb1 q0 q1 q2
    go_wp2
    go_roundw
    case rel => exact ⟨k + 1, by omega, by go_num, by rw [HDT.out]; simp; omega, HB1.out⟩
    case measure => simp [intOf]; omega
   ·obtain rfl : k = t.ks.length := by omega
    rw [List.take_length]
    go_wp2
    go_ret
    exact ⟨by simp, HB.out⟩
def SaysSameN (fn : Nat) (x : Nod) : Prop := ∀ (S : Nat → Prop) (op tx : ByteArray) (X : Option Addr) (n m : Nat) (op' tx' : ByteArray) (X' : Option Addr) (n' m' : Nat) (w : World), (∀ g, S g → g < w.heap.size) → RIn w S x (op, tx, X, n, m) → RIn w S x (op', tx', X', n', m') →
  Calls Tryz.prog fn #[.agg #[.string op, .string tx, .slice X n m], .agg #[.string op', .string tx', .slice X' n' m']] w (SamePost w true)
theorem rsameN_any : ∀ (d : Nat) (x : Nod), x.deep ≤ d → SaysSameN 10 x
 | 0, x, h => absurd h (by rw [deep_ks]; omega)
 | d + 1, x, h => by
  intro S op tx X n m op' tx' X' n' m' w hS hx hy
  have ih := hid (fun k (hk : k < x.ks.length) => rsameN_any d x.ks[k] (by have := deepL_mem (List.getElem_mem hk); rw [deep_ks] at h; omega))
  obtain ⟨a1, a2, a3, hkx⟩ := hx.texts
  obtain ⟨b1, b2, b3, b4⟩ := hy.texts
  dsimp only at a1 a2 a3 b1 b2 b3
  have ho : op = op' := by rw [a1, b1]
  have ht : tx = tx' := by rw [a2, b2]
  subst ho ht a3 b3
  clear a1 a2 b1 b2 b4
  have HS := hid hS
  have HX := hid hx
  have HY := hid hy
  obtain ⟨N, hN⟩ : ∃ N, x.ks.length = N := ⟨_, rfl⟩
  rw [hN] at HX HY hkx
  rw [hN]
  clear h hS hx hy
  go_enter Tryz.func10, Tryz.ntmps10
  obtain ⟨w0, hw0⟩ : ∃ w0, (w.alloc (.cells #[.string op, .string tx, .slice X N m] 25)).alloc (.cells #[.string op, .string tx, .slice X' N m'] 25) = w0 := ⟨_, rfl⟩
  have hz0 : w0.heap.size = w.heap.size + 2 := by rw [← hw0]; simp
  have B0 := hid (show Below w.heap.size w w0 by rw [← hw0]; exact ((Below.refl _ _).alloc (Nat.le_refl _) _).alloc (by simp) _)
  have N0 := hid (show NBox w0 w.heap.size (.string op) (.string tx) (.slice X N m) by rw [← hw0]; exact (NBox.fresh _ _ _ _ _).alloc _)
  have N1 := hid (show NBox w0 (w.heap.size + 1) (.string op) (.string tx) (.slice X' N m') by
   rw [← hw0, show w.heap.size + 1 = (w.alloc (.cells #[.string op, .string tx, .slice X N m] 25)).heap.size by simp]; exact NBox.fresh _ _ _ _ _)
  obtain ⟨x0, x1, x2, xf⟩ := N0.out
  obtain ⟨y0, y1, y2, yf⟩ := N1.out
  go_wp2
  clear x0 x1 x2 xf y0 y1 y2 yf
  go_loopw [5] (fun t wr => ∃ k : Nat, k ≤ N ∧ t = .int .i64 k ∧ Below w.heap.size w wr ∧ NBox wr w.heap.size (.string op) (.string tx) (.slice X N m) ∧ NBox wr (w.heap.size + 1) (.string op) (.string tx) (.slice X' N m')) (fun t _ => N - (intOf t).toNat)
  case atStart => exact ⟨0, by omega, rfl, B0.out, N0.out, N1.out⟩
  case round =>
   obtain ⟨k, hk, rfl, hb, hn0, hn1⟩ := hrel
   have HB := hid hb
   have H0 := hid hn0
   have H1 := hid hn1
   have hz := hb.size
   have zg0 := hn0.lt
   have zg1 := hn1.lt
   have KX := hid (HX.out.bel HS.out hb)
   have KY := hid (HY.out.bel HS.out hb)
   obtain ⟨x0, x1, x2, xf⟩ := hn0
   obtain ⟨y0, y1, y2, yf⟩ := hn1
   clear hb
   by_cases hlt : k < N
   ·obtain ⟨ad, ⟨op1, tx1, X1, n1, m1⟩, eA, hS1, p0, p1, p2, hk1⟩ := KX.out.kid k (by omega)
    dsimp only at eA p0 p1 p2
    subst eA
    obtain ⟨bd, ⟨op2, tx2, X2, n2, m2⟩, eA, hS2, q0, q1, q2, hk2⟩ := KY.out.kid k (by omega)
    dsimp only at eA q0 q1 q2
    subst eA
    have za : (ad.add (k * 3)).block < wr.heap.size := by rw [add_block]; have := HS.out _ hS1; omega
    have zb : (bd.add (k * 3)).block < wr.heap.size := by rw [add_block]; have := HS.out _ hS2; omega
    have za0 : ad.block < wr.heap.size := by have := HS.out _ hS1; omega
    have zb0 : bd.block < wr.heap.size := by have := HS.out _ hS2; omega
    obtain ⟨p, hp⟩ : ∃ p, ad.add (k * 3) = p := ⟨_, rfl⟩
    obtain ⟨q, hq⟩ : ∃ q, bd.add (k * 3) = q := ⟨_, rfl⟩
    have hc := fun w' (h : Below wr.heap.size wr w') => ih.out k (by omega) S op1 tx1 X1 n1 m1 op2 tx2 X2 n2 m2 w' (fun g hg => by have := HS.out g hg; have := h.size; omega) (hk1.bel (fun g hg => by have := HS.out g hg; omega) h) (hk2.bel (fun g hg => by have := HS.out g hg; omega) h)
    unfold SamePost at hc
    have HC := hid hc
    clear hc hk1 hk2 hS1 hS2
    go_wp2_with fail
    rw [hp] at p0 p1 p2 za
    rw [hq] at q0 q1 q2 zb
    go_region_held3 (fun w' => (w'.cell? ⟨w.heap.size, 2, none⟩ = some (.slice (some ad) N m) ∧ w'.cell? ⟨w.heap.size + 1, 2, none⟩ = some (.slice (some bd) N m') ∧ w'.cell? p = some (.string op1) ∧ w'.cell? ⟨p.block, p.off + 1, none⟩ = some (.string tx1) ∧ w'.cell? ⟨p.block, p.off + 2, none⟩ = some (.slice X1 n1 m1) ∧ w'.cell? q = some (.string op2) ∧ w'.cell? ⟨q.block, q.off + 1, none⟩ = some (.string tx2) ∧ w'.cell? ⟨q.block, q.off + 2, none⟩ = some (.slice X2 n2 m2)) ∧ Below wr.heap.size wr w')
     (first | assumption | (refine keepP hb5 (by assumption) ?_; intro kk; exact ⟨(kk ⟨w.heap.size, 2, none⟩ zg0).trans x2, (kk ⟨w.heap.size + 1, 2, none⟩ zg1).trans y2, (kk p za).trans p0, (kk ⟨p.block, p.off + 1, none⟩ za).trans p1, (kk ⟨p.block, p.off + 2, none⟩ za).trans p2, (kk q zb).trans q0, (kk ⟨q.block, q.off + 1, none⟩ zb).trans q1, (kk ⟨q.block, q.off + 2, none⟩ zb).trans q2⟩) | (exact ⟨⟨x2, y2, p0, p1, p2, q0, q1, q2⟩, Below.drew (Below.refl _ _)⟩))
     (first | (go_at_call 10; with_reducible refine (HC.out _ ?cv).mono ?_; (case cv => exact (by assumption : _ ∧ Below wr.heap.size wr _).2); rintro e w5 ⟨rfl, hb5⟩))
    have M := hid (show Below wr.heap.size wr w5 by rename_i hS; exact hS.2)
    clear x0 x1 x2 xf y0 y1 y2 yf p0 p1 p2 q0 q1 q2 hb5
    go_wp2
    go_roundw
    case rel => exact ⟨k + 1, by omega, by go_num, bnext HB.out hz M.out, H0.out.below M.out, H1.out.below M.out⟩
    case measure => simp [intOf]; omega
   ·obtain rfl : k = N := by omega
    go_wp2
    go_ret
    exact ⟨rfl, HB.out⟩
end Go.Proofs.YtjbpkpfmgbhlpaaGreatDoor.Code
/-
  The walk of QueryReads, with Words, Read and the live question by their contracts.
-/
namespace Go.Proofs.YtjbpkpfmgbhlpaaGreatDoor.queryReads
open Go.ChangeShapes Go.WideShapes Go.ChangeAt Go.RowKit Val Elems Go.Proofs.YtjbpkpfmgbhlpaaGreatDoor.Code
set_option linter.unusedVariables false
set_option linter.unusedSimpArgs false
theorem walk_of (s : ByteArray) (p : Int) (w : World) (hs : s.size ≤ 4194304)
  (hA : ∀ w0, Below w.heap.size w w0 → w.heap.size ≤ w0.heap.size → Calls Tryz.prog 7 #[] w0 (fun e w' => e = .returned (.bool true) ∧ Below w0.heap.size w0 w'))
  (hW : Calls Tryz.prog 11 #[.string s] w (WordsPost w s.data.toList))
  (hR : ∀ l, wordsL s.data.toList 0 = .ok l → s.size ≤ 400 → ∀ (A : Option Addr) (cap : Nat) w0, Below w.heap.size w w0 → At wc 3 w0 w0.heap.size A l → Calls Tryz.prog 12 #[.slice A l.length cap, .int .i64 p] w0 (ReadZPost w0 (readZ l p))) :
  Calls Tryz.prog 4 #[.string s, .int .i64 p] w fun e w' => e = .returned (.bool true) ∧ Below w.heap.size w w' := by
 have HA := hid hA
 have HW := hid hW
 unfold WordsPost at HW
 have hL : s.data.toList.length = s.size := rfl
 clear hA hW
 by_cases hbig : 400 < s.size
 ·clear hR hL
  go_enter Tryz.func4, Tryz.ntmps4
  go_wp2_with fail
  refine HW.out.mono ?_
  rintro e w1 ⟨A, cap, rfl, hat, hb1⟩
  have L1 := hid hb1
  clear hat hb1
  go_wp2_with fail
  refine (HA.out _ L1.out L1.out.size).mono ?_
  rintro e w2 ⟨rfl, hb2⟩
  have L2 := hid (bnext L1.out L1.out.size hb2)
  clear hb2
  go_wp2
  go_ret
  exact ⟨rfl, L2.out⟩
 cases hw : wordsL s.data.toList 0 with
 | error j =>
  have h1 : wL s.data.toList = [] := by unfold wL; rw [hw]
  have h2 : wP s.data.toList = j := by unfold wP; rw [hw]
  have h3 : wE s.data.toList = 81 := by unfold wE; rw [hw]
  rw [h1, h2, h3] at HW
  clear hR hL h1 h2 h3 hw
  go_enter Tryz.func4, Tryz.ntmps4
  go_wp2_with fail
  refine HW.out.mono ?_
  rintro e w1 ⟨A, cap, rfl, hat, hb1⟩
  have L1 := hid hb1
  clear hat hb1
  go_wp2_with fail
  refine (HA.out _ L1.out L1.out.size).mono ?_
  rintro e w2 ⟨rfl, hb2⟩
  have L2 := hid (bnext L1.out L1.out.size hb2)
  clear hb2
  go_wp2
  go_ret
  exact ⟨rfl, L2.out⟩
 | ok l =>
  have h1 : wL s.data.toList = l := by unfold wL; rw [hw]
  have h2 : wP s.data.toList = 0 := by unfold wP; rw [hw]
  have h3 : wE s.data.toList = 0 := by unfold wE; rw [hw]
  rw [h1, h2, h3] at HW
  have hlen := words_len _ 0 l hw
  have hcf := came_fig (words_came _ _ _ hw)
  have hfg : FigW l := fun v hv hk => ⟨(hcf v hv hk).1, by have := (hcf v hv hk).2; omega⟩
  have hll : l.length ≤ 400 := by omega
  have HR := hid (hR l hw (by omega))
  have HR2 := hid (fun (A : Option Addr) (cap : Nat) (w0 : World) (h : At wc 3 w0 w0.heap.size A l) => rreadZ_any A cap l p w0 h (by omega) hfg)
  have HT := hid (fun (A : Option Addr) (cap : Nat) (w0 : World) (h : At wc 3 w0 w0.heap.size A l) => to_any A cap l w0 h (by omega))
  obtain ⟨res, hres⟩ : ∃ res, readZ l p = res := ⟨_, rfl⟩
  rw [hres] at HR HR2
  obtain ⟨x, q, ee⟩ := res
  obtain ⟨N, hN⟩ : ∃ N, l.length = N := ⟨_, rfl⟩
  rw [hN] at HW HR HR2 HT
  have HS := hid (rsameN_any x.deep x (Nat.le_refl _))
  unfold SaysSameN at HS
  unfold ReadZPost at HR HR2
  unfold SamePost at HS
  clear hR hL h1 h2 h3 hw hres hlen hcf hfg hll hN
  go_enter Tryz.func4, Tryz.ntmps4
  go_wp2_with fail
  refine HW.out.mono ?_
  rintro e w1 ⟨A, cap, rfl, hat, hb1⟩
  have L1 := hid hb1
  have AT1 := hid hat
  have z1 := hb1.size
  clear hat hb1
  go_wp2_with fail
  refine (HR.out _ _ _ L1.out AT1.out).mono ?_
  rintro e w2 ⟨op, tx, X, n, m, rfl, hn2, hb2⟩
  have z2 := hb2.size
  have L2 := hid ((L1.out.trans (hb2.mono z1)).alloc (by omega) (.cells #[.string op, .string tx, .slice X n m] 25))
  have I2 := hid (hn2.alloc (fun g hg => hg.2) (.cells #[.string op, .string tx, .slice X n m] 25))
  have V2 := hid (NBox.fresh w2 (.string op) (.string tx) (.slice X n m) 25)
  have AT2 := hid (((AT1.out.below hb2).more z2).below ((Below.refl _ w2).alloc (Nat.le_refl _) (.cells #[.string op, .string tx, .slice X n m] 25)))
  clear hb2 hn2
  have z3 : w2.heap.size < (w2.alloc (.cells #[.string op, .string tx, .slice X n m] 25)).heap.size := by simp
  go_wp2_with fail
  refine (HT.out _ _ _ (AT2.out.more (by simp))).mono ?_
  rintro e w3 ⟨A3, cap3, rfl, hat3, hb3⟩
  have z4 : w2.heap.size < w3.heap.size := by have := hb3.size; omega
  have L3 := hid (L2.out.trans (hb3.mono (by simp; omega)))
  have I3 := hid ((I2.out.bel (fun g hg => by have := hg.2; simp; omega) hb3).imp (S' := fun g => g < w3.heap.size) (fun g hg => by have := hg.2; omega))
  have V3 := hid (V2.out.below hb3)
  have AT3 := hid hat3
  clear hb3 hat3 AT2 AT1
  go_wp2_with fail
  refine (HR2.out _ _ _ AT3.out).mono ?_
  rintro e w4 ⟨op4, tx4, X4, n4, m4, rfl, hn4, hb4⟩
  have z5 : w2.heap.size < w4.heap.size := by have := hb4.size; omega
  have L4 := hid ((L3.out.trans (hb4.mono (by omega))).alloc (by omega) (.cells #[.string op4, .string tx4, .slice X4 n4 m4] 25))
  have I4 := hid (((I3.out.bel (fun g hg => hg) hb4).imp (S' := fun g => g < w4.heap.size) (fun g hg => Nat.lt_of_lt_of_le hg hb4.size)).alloc (fun g hg => hg) (.cells #[.string op4, .string tx4, .slice X4 n4 m4] 25))
  have J4 := hid ((hn4.imp (S' := fun g => g < w4.heap.size) (fun g hg => hg.2)).alloc (fun g hg => hg) (.cells #[.string op4, .string tx4, .slice X4 n4 m4] 25))
  have V4 := hid ((V3.out.below hb4).alloc (.cells #[.string op4, .string tx4, .slice X4 n4 m4] 25))
  have U4 := hid (NBox.fresh w4 (.string op4) (.string tx4) (.slice X4 n4 m4) 25)
  clear hb4 hn4
  obtain ⟨v0, v1, v2, vf⟩ := V4.out
  obtain ⟨u0, u1, u2, uf⟩ := U4.out
  go_wp2_with fail
  refine (HS.out _ _ _ _ _ _ _ _ _ _ _ _ (fun g hg => by have : g < w4.heap.size := hg; simp; omega) I4.out J4.out).mono ?_
  rintro e w5 ⟨rfl, hb5⟩
  have L5 := hid (L4.out.trans (hb5.mono (by simp; omega)))
  have z6 : w.heap.size ≤ w5.heap.size := L5.out.size
  clear hb5 v0 v1 v2 vf u0 u1 u2 uf
  go_wp2_with fail
  refine (HA.out _ L5.out z6).mono ?_
  rintro e w6 ⟨rfl, hb6⟩
  have L6 := hid (bnext L5.out z6 hb6)
  clear hb6
  go_wp2
  go_ret
  exact ⟨by simp, L6.out⟩
end Go.Proofs.YtjbpkpfmgbhlpaaGreatDoor.queryReads
