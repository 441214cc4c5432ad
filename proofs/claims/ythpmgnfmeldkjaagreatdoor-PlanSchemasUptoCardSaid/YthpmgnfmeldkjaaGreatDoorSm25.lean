/-
  The document's reader of queries: what a group has.
-/
import Derived.Test.YthpmgnfmeldkjaaGreatDoorSm24
import Derived.Deep.AppendLies
import Derived.Test.YthpmgnfmeldkjaaGreatDoorSm10
set_option maxRecDepth 100000
set_option maxHeartbeats 16000000
set_option linter.unusedVariables false
set_option linter.unusedSimpArgs false
open Go.Lib (hid)
namespace Go.Proofs.YthpmgnfmeldkjaaGreatDoor.Code
open Go.ChangeShapes Go.WideShapes Go.ChangeAt Go.RowKit Val Elems
theorem own_lit (w w' : World) (x : NV) (B : Nat) (hB : B ≤ w.heap.size) (hw : w.alloc (.cells #[.string x.1, .string x.2.1, .slice x.2.2.1 x.2.2.2.1 x.2.2.2.2] 24) = w') : w'.ownsRow B 24 3 (.slice (some ⟨w.heap.size, 0, none⟩) 1 1) 1 (flatC nc [x]) := by
 subst hw
 exact World.ownsRow_lit w #[.string x.1, .string x.2.1, .slice x.2.2.1 x.2.2.2.1 x.2.2.2.2] 1 hB (by unfold maxLen; omega) rfl
theorem qgrouped_any (r q : Nat) (A : Option Addr) (cap : Nat) (l : List W) (i : Nat) (b : Bool) (w : World) (h : QRd w r q A cap l i b) (hi : i ≤ l.length) (hl : l.length ≤ 4194304) :
  Calls Tryz.prog 150 #[.pointer (some ⟨q, 0, none⟩)] w (GetL r q A cap l w (groupQ (bare l) (mustQ (bare l) i b [44]).1 (mustQ (bare l) i b [44]).2)) := by
 have HR := hid h
 have zr := h.lt
 have zq := h.ltq
 have E1 := must_ends (L := bare l) (i := i) (b := b) (s := [44]) (by rw [bare_length]; omega)
 have H1 := hid (fun (w' : World) (h' : QRd w' r q A cap l i b) => qmust_any r q A cap l i b ⟨#[44]⟩ w' h' hi hl)
 obtain ⟨m0, hm0⟩ : ∃ m0, mustQ (bare l) i b [44] = m0 := ⟨_, rfl⟩
 rw [show (⟨#[44]⟩ : ByteArray).data.toList = [44] from rfl, hm0] at H1
 rw [hm0] at E1 ⊢
 obtain ⟨i1, b1⟩ := m0
 dsimp only at H1 ⊢
 have hi1 : i1 ≤ l.length := by have := E1.2.1; rw [bare_length] at this; exact this
 have E2 := by_ends (L := bare l) (i := i1) (b := b1) (by rw [bare_length]; omega)
 have H2 := hid (fun (w' : World) (h' : QRd w' r q A cap l i1 b1) => qby_any r q A cap l i1 b1 w' h' hi1 hl)
 have hby := by_is (bare l) i1 b1
 obtain ⟨p0, hp0⟩ : ∃ p0, byQ (bare l) i1 b1 = p0 := ⟨_, rfl⟩
 obtain ⟨o0, ho0⟩ : ∃ o0, by0Q (bare l) i1 b1 = o0 := ⟨_, rfl⟩
 obtain ⟨has, hhas⟩ : ∃ has, hasQ (bare l) i1 b1 = has := ⟨_, rfl⟩
 rw [hp0, ho0, hhas] at hby
 rw [ho0, hhas] at H2
 rw [hp0] at E2
 obtain ⟨R, hR⟩ : ∃ R, groupQ (bare l) i1 b1 = R := ⟨_, rfl⟩
 rw [hR]
 have hi2 : p0.2.1 ≤ l.length := by have := E2.2.1; rw [bare_length] at this; exact this
 have E3 := agg_ends (L := bare l) (i := p0.2.1) (b := p0.2.2) E2.2.1
 have hio : o0.2.1 ≤ l.length := by
  have h3 := E2.2.1
  rw [bare_length, hby] at h3
  cases has
  ·exact h3
  ·have h4 : o0.2.1 ≤ (mustQ (bare l) o0.2.1 o0.2.2 [44]).1 := by unfold mustQ; split <;> simp
   exact Nat.le_trans h4 h3
 have H3 := hid (fun (w' : World) (h' : QRd w' r q A cap l p0.2.1 p0.2.2) => qagg_any r q A cap l p0.2.1 p0.2.2 w' h' hi2 hl)
 obtain ⟨g0, hg0⟩ : ∃ g0, aggQ (bare l) p0.2.1 p0.2.2 = g0 := ⟨_, rfl⟩
 rw [hg0] at H3 E3
 have HRR := hid (show R = ([p0.1] ++ [g0.1] ++ (loopQ (bare l) (aggQ (bare l)) (l.length + 1) false g0.2.1 g0.2.2).1, (loopQ (bare l) (aggQ (bare l)) (l.length + 1) false g0.2.1 g0.2.2).2) by
  rw [← hR]
  unfold groupQ
  rw [hp0, hg0, bare_length]
  rfl)
 have hi3 : g0.2.1 ≤ l.length := by have := E3.2.1; rw [bare_length] at this; exact this
 have HBY := hid hby
 obtain ⟨i0, hi0, hz0, hz1, hz2⟩ := info_parts info_node
 unfold GetB at H2
 unfold GetN at H3
 clear h hm0 hp0 ho0 hhas hby hR hg0 E1 E2 E3
 go_enter Tryz.func150, Tryz.ntmps150
 have cq := HR.out.cq
 go_wp2_with fail
 refine (H1.out _ HR.out).mono ?_
 rintro e w1 ⟨rfl, hb1, hr1⟩
 have zb1 := hb1.size
 have B1 := hid hb1
 have R1 := hid hr1
 clear hb1 hr1 cq H1
 go_wp2_with fail
 refine (H2.out _ R1.out).mono ?_
 rintro e w2 ⟨op, tx, Y, n, k, rfl, hI, hb2, hr2⟩
 have zb2 := hb2.size
 have B2 := hid (B1.out.trans hb2)
 have R2 := hid hr2
 have I2 := hid hI
 clear hb2 hr2 hI H2
 obtain ⟨gb, hgb⟩ : ∃ gb, w2.heap.size = gb := ⟨_, rfl⟩
 obtain ⟨w3, hw3⟩ : ∃ w3, w2.alloc (.cells #[.string op, .string tx, .slice Y n k] 24) = w3 := ⟨_, rfl⟩
 have zb3 : w3.heap.size = gb + 1 := by rw [← hw3]; simp [hgb]
 obtain ⟨w4, hw4⟩ : ∃ w4, w3.alloc (.cells #[.string op, .string tx, .slice Y n k] 24) = w4 := ⟨_, rfl⟩
 have zb4 : gb + 2 ≤ w4.heap.size := by rw [← hw4]; simp [zb3]
 have B4 := hid (show But w w4 r by rw [← hw4, ← hw3]; exact (B2.out.alloc _).alloc _)
 have R4 := hid (show QRd w4 r q A cap l o0.2.1 o0.2.2 by rw [← hw4, ← hw3]; exact (R2.out.alloc _).alloc _)
 have O4 := hid (show w4.ownsRow w.heap.size 24 3 (.slice (some ⟨gb + 1, 0, none⟩) 1 1) 1 (flatC nc [(op, tx, Y, n, k)]) by rw [← zb3]; exact own_lit w3 w4 (op, tx, Y, n, k) w.heap.size (by omega) hw4)
 have A4 := hid (show RAll w4 (Apart w w4 (some ⟨gb + 1, 0, none⟩)) [o0.1] [(op, tx, Y, n, k)] by
  refine RAll.one ?_
  rw [← hw4, ← hw3]
  exact ((I2.out.alloc (fun g hg => hg.2) _).alloc (fun g hg => by have := hg.2; simp; omega) _).imp (fun g hg => ⟨by have := hg.1; omega, by have := hg.2; simp; omega, fun ad e => by cases e; have := hg.2; show gb + 1 ≠ g; omega⟩))
 rw [← hw3] at hw4
 have HW4 := hid hw4
 clear hw3 hw4 B2 R2 I2
 have H4 := hid (fun (w' : World) (h' : QRd w' r q A cap l o0.2.1 o0.2.2) => qmust_any r q A cap l o0.2.1 o0.2.2 ⟨#[44]⟩ w' h' hio hl)
 rw [show (⟨#[44]⟩ : ByteArray).data.toList = [44] from rfl] at H4
 cases has
 case' false =>
  have hbe : p0 = o0 := by rw [HBY.out]; rfl
  subst hbe
  clear H4 HBY
  go_wp2_with fail
  rw [HW4.out]
  clear HW4
 case' true =>
  have hbe : p0 = (o0.1, mustQ (bare l) o0.2.1 o0.2.2 [44]) := by rw [HBY.out]; rfl
  have cq := R4.out.cq
  rw [← HW4.out] at cq
  go_wp2_with fail
  rw [HW4.out]
  refine (H4.out _ R4.out).mono ?_
  rintro e w5 ⟨rfl, hb5, hr5⟩
  have A5 := hid (A4.out.apart zr hb5)
  have B5 := hid (B4.out.trans hb5)
  have O5 := hid (own_but O4.out hb5 (by omega))
  have R5 := hid (show QRd w5 r q A cap l p0.2.1 p0.2.2 by rw [hbe]; exact hr5)
  have zb5 : gb + 2 ≤ w5.heap.size := Nat.le_trans zb4 hb5.size
  have ht : p0.1 = o0.1 := by rw [hbe]
  rw [← ht] at A5
  clear hb5 hr5 cq A4 B4 O4 R4 zb4 HW4 H4 HBY hbe ht
  rename World => w4
  rename_i zb4
  have A4 := hid A5.out
  have B4 := hid B5.out
  have O4 := hid O5.out
  have R4 := hid R5.out
  have zb4 := zb5
  clear A5 B5 O5 R5 zb5
  go_wp2_with fail
 all_goals
  refine (H3.out _ R4.out).mono ?_
  rintro e w6 ⟨op6, tx6, Y6, n6, k6, rfl, hI, hb6, hr6⟩
  have zb6 := hb6.size
  have A6 := hid (A4.out.apart zr hb6)
  have B6 := hid (B4.out.trans hb6)
  have O6 := hid (own_but O4.out hb6 (by omega))
  have R6 := hid hr6
  have I6 := hid hI
  clear hb6 hr6 hI H3
  go_wp2_with (at_builtin; refine wpList_append_lies _ rfl _ _ _ rfl w.heap.size 24 i0 _ 3 56 Tryz.underlying22 hi0 hz0 hz1 hz2 rfl (by omega) _ 1 (flatC nc [(op, tx, Y, n, k)]) rfl ?ca ⟨w6.heap.size, 0, none⟩ 1 1 [.string op6, .string tx6, .slice Y6 n6 k6] rfl rfl ?cn ?co (by omega) ?cm ?cb ?cs (w6.heap.size + 1) ?ch ?_)
  case ca => exact own_call O6.out (below_alloc _ _)
  case cn => exact World.news_of_block (heap_alloc_new w6 _)
  case co => exact nc_one (op6, tx6, Y6, n6, k6)
  case cm => unfold maxLen; omega
  case cb => omega
  case cs => simp; omega
  case ch => simp
  intro gg cap9 w9 hown9 hgrow hat hlt9
  obtain ⟨W8, hW8⟩ : ∃ W8, w6.alloc (.cells #[.string op6, .string tx6, .slice Y6 n6 k6] 24) = W8 := ⟨_, rfl⟩
  have hz8 : W8.heap.size = w6.heap.size + 1 := by rw [← hW8]; simp
  have BA := hid (show Below w6.heap.size w6 W8 by rw [← hW8]; exact (Below.refl _ _).alloc (Nat.le_refl _) _)
  rw [hW8] at hgrow
  have L9 := hid (linv_next (l := l) (A := A) (cap := cap) (R := R) (el := aggQ (bare l)) (f := l.length + 1) (j := g0.2.1) (c := g0.2.2) (ks := [p0.1]) (xs := [(op, tx, Y, n, k)]) (N := 1) (t := g0.1) (y := (op6, tx6, Y6, n6, k6)) zr zq rfl (own_call O6.out BA.out) hown9 hgrow (by rw [hz8]; exact hat) (A6.out.apart zr (But.of BA.out r)) (I6.out.bel (fun g hg => hg.2) BA.out) (fun g hg => ⟨by have := hg.1; omega, by have := hg.2; omega, fun ad e => by cases e; have := hg.1; show gb + 1 ≠ g; omega⟩) hi3 (by omega) (by simp) HRR.out (B6.out.next BA.out) (R6.out.below BA.out))
  clear hown9 hgrow hat hlt9 hW8 I6 O6 A6 B6 R6 BA A4 B4 O4 R4
  go_wp2
  go_loopw [5] (fun v wr => LInv r q A cap l w R (aggQ (bare l)) v wr ∧ ∃ X n cp, v = .slice X (n + 1) cp) (fun _ wr => l.length - atOf wr r)
  case atStart => exact ⟨L9.out.1, some ⟨gg, 0, none⟩, 1, cap9, rfl⟩
  clear L9
  case round =>
   obtain ⟨⟨f, j, c, ks, xs, X, cp, rfl, hown, hall, hj, hf, hkj, HE, hbut, hqr⟩, X', n', cp', hv'⟩ := hrel
   have hxn : xs.length = n' + 1 := by injection hv'
   clear hv'
   have HO := hid hown
   have HA := hid hall
   have HB := hid hbut
   have HQ := hid hqr
   have hz := hbut.size
   have hks := hall.1
   have HAT := hid (atq hqr)
   obtain ⟨N, hN⟩ : ∃ N, xs.length = N := ⟨_, rfl⟩
   have hfb : (ks.length == 0) = false := by rw [← hks, hxn]; rfl
   rw [hfb] at HE
   rw [hN] at HO ⊢
   have hNj : N ≤ j + 2 := by omega
   have HKS := hid (show ks.length = N by omega)
   have HN := hid hN
   have HM := hid (qmore_any r q A cap l j c false wr hqr hj hl)
   obtain ⟨M, hM⟩ : ∃ M, moreQ (bare l) j c false = M := ⟨_, rfl⟩
   rw [hM] at HM
   clear hown hall hbut hqr hks hN hfb hxn
   cases hm1 : M.1 with
   | false =>
    have hst := loop_stop (el := aggQ (bare l)) (f := f) (by omega) (by rw [hM]; exact hm1)
    rw [hst, hM] at HE
    rw [hm1] at HM
    have HEE := hid (show R = (ks, M.2) by rw [HE.out]; simp)
    clear hst HE hm1 hM
    go_wp2_with fail
    refine HM.out.mono ?_
    rintro e w1 ⟨rfl, hb1, hr1⟩
    have O1 := hid (own_but HO.out hb1 (by omega))
    have A1 := hid (HA.out.apart zr hb1)
    have B1 := hid (HB.out.trans hb1)
    have R1 := hid hr1
    clear hb1 hr1
    go_wp2
    go_ret
    have hg := getL_own (xs := xs) (by rw [HN.out]; exact O1.out) A1.out B1.out R1.out
    rw [HN.out] at hg
    rw [HEE.out]
    exact hg
   | true =>
    obtain ⟨f', rfl, hf', hjl, rfl, hM2, hgo⟩ := loop_go (el := aggQ (bare l)) (by rw [bare_length]; exact hf) (by rw [hM]; exact hm1)
    rw [bare_length] at hf' hjl
    rw [hM] at hM2
    rw [hM2, hm1] at HM
    have HE2 := hid (show R = (ks ++ [(aggQ (bare l) (j + 1) false).1] ++ (loopQ (bare l) (aggQ (bare l)) f' false (aggQ (bare l) (j + 1) false).2.1 (aggQ (bare l) (j + 1) false).2.2).1, (loopQ (bare l) (aggQ (bare l)) f' false (aggQ (bare l) (j + 1) false).2.1 (aggQ (bare l) (j + 1) false).2.2).2) by
     rw [HE.out, hgo]
     simp)
    have E1 := agg_ends (L := bare l) (i := j + 1) (b := false) (by rw [bare_length]; omega)
    obtain ⟨p0, hp0⟩ : ∃ p0, aggQ (bare l) (j + 1) false = p0 := ⟨_, rfl⟩
    rw [hp0] at HE2 E1
    have H1 := hid (fun (w' : World) (h' : QRd w' r q A cap l (j + 1) false) => qagg_any r q A cap l (j + 1) false w' h' (by omega) hl)
    rw [hp0] at H1
    unfold GetN at H1
    have hp1 : j + 1 ≤ p0.2.1 := E1.1
    have hp2 : p0.2.1 ≤ l.length := by have := E1.2.1; rw [bare_length] at this; exact this
    have HP := hid (And.intro hp1 hp2)
    clear hgo HE hm1 hM hM2 hp0 E1 hp1 hp2
    go_wp2_with fail
    refine HM.out.mono ?_
    rintro e w1 ⟨rfl, hb1, hr1⟩
    have O1 := hid (own_but HO.out hb1 (by omega))
    have A1 := hid (HA.out.apart zr hb1)
    have B1 := hid (HB.out.trans hb1)
    have R1 := hid (show QRd w1 r q A cap l (j + 1) false from hr1)
    clear hb1 hr1 HM
    go_wp2_with fail
    refine (H1.out _ R1.out).mono ?_
    rintro e w4 ⟨op, tx, Y, n, k, rfl, hI, hb4, hr4⟩
    have hz4 := hb4.size
    have hz3 := B1.out.size
    have O4 := hid (own_but O1.out hb4 (by omega))
    have A4 := hid (A1.out.apart zr hb4)
    have B4 := hid (B1.out.trans hb4)
    have R4 := hid hr4
    have OB := hid (own_block O1.out)
    have I4 := hid hI
    clear hb4 hr4 hI H1
    go_wp2_with (at_builtin; refine wpList_append_lies _ rfl _ _ _ rfl w.heap.size 24 i0 _ 3 56 Tryz.underlying22 hi0 hz0 hz1 hz2 rfl (by omega) _ N (flatC nc xs) rfl ?ca ⟨w4.heap.size, 0, none⟩ 1 1 [.string op, .string tx, .slice Y n k] rfl rfl ?cn ?co (by omega) ?cm ?cb ?cs (w4.heap.size + 1) ?ch ?_)
    case ca => exact own_call O4.out (below_alloc _ _)
    case cn => exact World.news_of_block (heap_alloc_new w4 _)
    case co => exact nc_one (op, tx, Y, n, k)
    case cm => unfold maxLen; omega
    case cb => omega
    case cs => simp; omega
    case ch => simp
    intro gg cap9 w9 hown9 hgrow hat hlt9
    obtain ⟨W8, hW8⟩ : ∃ W8, w4.alloc (.cells #[.string op, .string tx, .slice Y n k] 24) = W8 := ⟨_, rfl⟩
    have hz8 : W8.heap.size = w4.heap.size + 1 := by rw [← hW8]; simp
    have BA := hid (show Below w4.heap.size w4 W8 by rw [← hW8]; exact (Below.refl _ _).alloc (Nat.le_refl _) _)
    rw [hW8] at hgrow
    have L9 := hid (linv_next (l := l) (A := A) (cap := cap) (R := R) (el := aggQ (bare l)) (f := f') (j := p0.2.1) (c := p0.2.2) (y := (op, tx, Y, n, k)) zr zq HN.out (own_call O4.out BA.out) hown9 hgrow (by rw [hz8]; exact hat) (A4.out.apart zr (But.of BA.out r)) (I4.out.bel (fun g hg => hg.2) BA.out) (fun g hg => ⟨by have := hg.1; omega, by have := hg.2; omega, fun ad e => by have := (OB.out ad e).2; have := hg.1; omega⟩) HP.out.2 (by have := HP.out.1; omega) (by have := HP.out.1; have := HKS.out; omega) HE2.out (B4.out.next BA.out) (R4.out.below BA.out))
    clear hown9 hgrow hat hlt9 hW8
    have hat9 := atq L9.out.2
    have hat0 := HAT.out
    have hp1 := HP.out.1
    go_wp2
    go_roundw
    case rel => exact ⟨L9.out.1, _, _, _, rfl⟩
    case measure => omega
theorem step_append_kids {P : Program} {w : World} {ops : Array Oper} {o : Oper} {a : Act} {K : Act → World → Prop} {Q : Exit → Act → World → Prop} {E : Prop} (hgd : o.guard = none) (s x : Operand) (t : TypeId)
  (ho : o.op = .call { callee := .builtin .append, args := #[s, x], argTypes := #[t, t] })
  (base : Nat) (e : TypeId) (i : TypeInfo) (z : Value) (bytes : Nat) (ht : P.underlying t = some (.slice e)) (hi : P.info? e = some i) (hz : i.zero = some z)
  (hsize : i.size = 3) (hby : i.bytes = bytes) (hzs : z.cells.size = 3) (g0 n cp0 : Nat) (hn : 0 < n) (xs : List Value) (hs : a.eval s = .slice (some ⟨g0, 0, none⟩) n cp0) (hown : w.ownsRow base e 3 (.slice (some ⟨g0, 0, none⟩) n cp0) n xs)
  (B : Nat) (A : Option Addr) (m cp : Nat) (l : List NV) (hx : a.eval x = .slice A m cp) (hm : l.length = m) (hv : At nc 3 w B A l)
  (h63 : n + m ≤ maxLen) (hbytes : (n + m) * bytes ≤ 140737488355328) (hbase : base ≤ w.heap.size)
  (h : ∀ g cap w', w'.ownsRow base e 3 (.slice (some ⟨g, 0, none⟩) (n + m) cap) (n + m) (xs ++ flatC nc l) → w.grownBy w' (some g0) → (g0 = g ∨ g = w.heap.size) → g < w'.heap.size → K (a.put o.dst (.slice (some ⟨g, 0, none⟩) (n + m) cap)) w') :
  if Region.wanted o (yielded ops a.tmps) = true then Oper.wp P o a w K Q else E := by
 have hw : Region.wanted o (yielded ops a.tmps) = true := by simp [Region.wanted, hgd]
 rw [if_pos hw]
 rcases A with _ | ad
 ·have h0 : l = [] := by
   cases l with
   | nil => rfl
   | cons y l =>
    obtain ⟨ad, e, _⟩ := hv 0 (by simp)
    cases e
  subst h0
  subst hm
  have hrun := run_append_nothing (P := P) w base t o.type e i 3 ht hi _ n xs hown cp
  unfold Oper.wp
  simp only [ho, execOp, resolve, invoke, builtin, Sem.run_bind, Sem.run_pure, Result.andThen_ok, List.map_toArray, List.map_cons, List.map_nil, hs, hx, List.length_nil, hrun]
  obtain ⟨g, c, e1, _, hlt⟩ := hown.form hn
  injection e1 with e1 _ e2
  injection e1 with e1
  injection e1 with e1
  subst e1 e2
  exact h g0 cp0 w (by simpa [flatC] using hown) (World.grownBy.refl w _) (.inl rfl) hlt
 ·subst hm
  obtain ⟨v', w', hr, h2, h3, _, h5⟩ := run_append_own_at (P := P) w base t o.type e i z 3 bytes ht hi hz hsize hby hzs (by omega) _ n xs hown ad l.length cp (flatC nc l) (flatC_length nc_length l) (at_news nc_length (by omega) hv) (flatC_one nc_one l) h63 hbytes hbase
  obtain ⟨g, cap, rfl, _, hlt⟩ := h2.form (by omega)
  unfold Oper.wp execOp
  simp only [ho, resolve, invoke, builtin, Sem.run_bind, Sem.run_pure, Result.andThen_ok, List.map_toArray, List.map_cons, List.map_nil, hs, hx, hr]
  refine h g cap w' h2 h3 ?_ hlt
  rcases h5 with h5 | h5
  ·exact .inl (by simpa [Value.ownBlock] using h5.symm)
  ·exact .inr (by simpa [Value.ownBlock] using h5)
def KS (w w' : World) (g gn : Nat) (k : Nat) : Prop := w.heap.size < k ∧ k < w'.heap.size ∧ k ≠ g ∧ k ≠ gn
structure KInv (r q : Nat) (A : Option Addr) (cap : Nat) (l : List W) (w : World) (gn : Nat) (o : ByteArray) (ks : List Nod) (xs : List NV) (g cp : Nat) (j : Nat) (c : Bool) (w' : World) : Prop where
 ne : g ≠ gn
 nb : NBox w' w.heap.size (.string ⟨#[]⟩) (.string ⟨#[]⟩) (.slice none 0 0)
 mb : NBox w' gn (.string o) (.string ⟨#[]⟩) (.slice (some ⟨g, 0, none⟩) xs.length cp)
 own : w'.ownsRow (w.heap.size + 1) 24 3 (.slice (some ⟨g, 0, none⟩) xs.length cp) xs.length (flatC nc xs)
 all : RAll w' (KS w w' g gn) ks xs
 pos : 0 < xs.length
 but : But w w' r
 rd : QRd w' r q A cap l j c
 gt : w.heap.size < gn
section
variable {r q : Nat} {A : Option Addr} {cap : Nat} {l : List W} {w w' w8 : World} {gn : Nat} {o : ByteArray} {ks : List Nod} {xs : List NV} {g cp j : Nat} {c : Bool}
theorem KInv.next (h : KInv r q A cap l w gn o ks xs g cp j c w') (hr : r < w.heap.size) (hb : But w' w8 r) {j' : Nat} {c' : Bool} (hQ : QRd w8 r q A cap l j' c') : KInv r q A cap l w gn o ks xs g cp j' c' w8 :=
 have h1 := h.gt
 ⟨h.ne, h.nb.but (by omega) hb, h.mb.but (by omega) hb, own_but h.own hb (by omega), h.all.keep (fun k hk => ⟨hk.1, Nat.lt_of_lt_of_le hk.2.1 hb.size, hk.2.2⟩) (fun p hp => hb.cell hp.2.1 (by have := hp.1; omega)), h.pos, h.but.trans hb, hQ, h.gt⟩
theorem KInv.drew (h : KInv r q A cap l w gn o ks xs g cp j c w') (hr : r < w.heap.size) : KInv r q A cap l w gn o ks xs g cp j c w'.drew :=
 h.next hr (But.of (Below.drew (Below.refl _ _)) r) (h.rd.below (Below.drew (Below.refl _ _)))
theorem KInv.alloc (h : KInv r q A cap l w gn o ks xs g cp j c w') (hr : r < w.heap.size) (ob : Obj) : KInv r q A cap l w gn o ks xs g cp j c (w'.alloc ob) :=
 h.next hr (But.of (below_alloc _ _) r) (h.rd.alloc ob)
theorem KInv.add {w9 : World} {ks' : List Nod} {ys : List NV} {N m gg cap9 : Nat} (h : KInv r q A cap l w gn o ks xs g cp j c w8) (hr : r < w.heap.size) (hq : q < w.heap.size) (hN : xs.length = N) (hm : ys.length = m) (ha : RAll w8 (KS w w8 g gn) ks' ys)
  (hown9 : w9.ownsRow (w.heap.size + 1) 24 3 (.slice (some ⟨gg, 0, none⟩) (N + m) cap9) (N + m) (flatC nc xs ++ flatC nc ys)) (hg : w8.grownBy w9 (some g)) (hat : g = gg ∨ gg = w8.heap.size) :
  KInv r q A cap l w gn o (ks ++ ks') (xs ++ ys) gg cap9 j c (w9.setCell ⟨gn, 2, none⟩ (.slice (some ⟨gg, 0, none⟩) (N + m) cap9)) := by
 have hl : (xs ++ ys).length = N + m := by simp [hN, hm]
 have hfl : flatC nc (xs ++ ys) = flatC nc xs ++ flatC nc ys := flatC_append xs ys
 have hgl : w.heap.size + 1 ≤ g := (h.own.lt g rfl).1
 have hgt := h.gt
 have hgn := h.mb.lt
 have hz := hg.size
 have h0 := h.but.size
 have hne : gg ≠ gn := by
  rcases hat with e | e
  ·rw [← e]; exact h.ne
  ·omega
 have hB : Below (w.heap.size) w8 w9 := ⟨hg.os, hg.tape, hg.output, hg.size, fun k hk => hg.block k (by omega) (fun e => by have := Option.some.inj e; omega)⟩
 have hk : ∀ p : Addr, KS w w8 g gn p.block → (w9.setCell ⟨gn, 2, none⟩ (.slice (some ⟨gg, 0, none⟩) (N + m) cap9)).cell? p = w8.cell? p := by
  intro p hp
  rw [World.cell?_setCell_other _ _ _ _ (fun e => hp.2.2.2 (by rw [← e]))]
  unfold World.cell?
  rw [hg.block p.block hp.2.1 (fun e => hp.2.2.1 (Option.some.inj e))]
 have hs : ∀ k, KS w w8 g gn k → KS w (w9.setCell ⟨gn, 2, none⟩ (.slice (some ⟨gg, 0, none⟩) (N + m) cap9)) gg gn k := fun k hk => by
  have h1 := hk.1
  have h2 := hk.2.1
  refine ⟨hk.1, by simp; omega, ?_, hk.2.2.2⟩
  rcases hat with e | e
  ·rw [← e]; exact hk.2.2.1
  ·omega
 refine ⟨hne, (h.nb.grown hg (fun e => by have := Option.some.inj e; omega)).far _ (by show gn ≠ _; omega) _, ?_, ?_, ?_, by rw [hl]; have := h.pos; omega, ?_, ?_, h.gt⟩
 ·rw [hl]
  exact (h.mb.grown hg (fun e => h.ne (Option.some.inj e))).kid _
 ·rw [hl, hfl]
  refine hown9.kept (row := some gn) ⟨rfl, rfl, rfl, by simp, fun k hk hn => Below.heap_setCell w9 ⟨gn, 2, none⟩ _ k (fun e => hn (by rw [e]))⟩ (.inr (fun e => hne (Option.some.inj e)))
 ·exact (h.all.keep hs hk).append (ha.keep hs hk)
 ·exact ((h.but.grown hg (fun k e => by have := Option.some.inj e; omega))).new _ (by show w.heap.size ≤ gn; omega) _
 ·exact (h.rd.under hB hr hq).new _ (by show r < gn; omega) (by show q ≠ gn; omega) _
theorem KInv.told {res : Res} (h : KInv r q A cap l w gn o ks xs g cp j c w') (hr : r < w.heap.size) (hq : q < w.heap.size) (hk : ks.length ≤ 1000000000) (hres : res = (.mk o.data.toList [] ks, j, c)) :
  GetN r q A cap l w res (.returned (.agg #[.string o, .string ⟨#[]⟩, .slice (some ⟨g, 0, none⟩) xs.length cp])) (W3 w' w.heap.size (.string o) (.string ⟨#[]⟩) (.slice (some ⟨g, 0, none⟩) xs.length cp)) := by
 subst hres
 obtain ⟨A', cap', e, hat, hcp⟩ := own_nat h.own
 injection e with e _ e2
 subst e e2
 refine ⟨o, ⟨#[]⟩, _, xs.length, cp, rfl, ?_, W3.but h.but (Nat.le_refl _) _ _ _, h.rd.w3 hr (by omega) _ _ _⟩
 rw [h.all.1]
 have h1 := RIn.made cp o ⟨#[]⟩ (hat.keep (S' := fun k => w.heap.size < k ∧ k < w'.heap.size) (fun k hk => ⟨by have := hk.1; omega, hk.2⟩) (fun _ _ => rfl)) (h.all.keep (S' := fun k => w.heap.size < k ∧ k < w'.heap.size) (fun k hk => ⟨hk.1, hk.2.1⟩) (fun _ _ => rfl)) (Nat.le_trans hk (by decide)) (by rw [← h.all.1]; exact hcp)
 exact (h1.w3 (g := w.heap.size) (fun h => Nat.lt_irrefl _ h.1) _ _ _).imp (fun k hk => ⟨Nat.le_of_lt hk.1, by show k < (W3 w' w.heap.size _ _ _).heap.size; rw [W3.size]; exact hk.2⟩)
end
theorem loop_len {L : List V} {el : Nat → Bool → Res} (he : ∀ j c, j ≤ L.length → Ends L.length j c (el j c).2) : ∀ (f : Nat) (first : Bool) (i : Nat) (b : Bool), i ≤ L.length → (loopQ L el f first i b).1.length ≤ L.length - i
 | 0, _, i, b, h => Nat.zero_le _
 | f + 1, first, i, b, h => by
  rw [loopQ]
  split
  ·exact Nat.zero_le _
  ·rename_i hm
   have hm : (moreQ L i b first).1 = true := by simpa using hm
   have h1 := more_lt hm
   rw [h1.2.2]
   have h2 := he (i + 1) false (by omega)
   have h3 := loop_len he f false (el (i + 1) false).2.1 (el (i + 1) false).2.2 h2.2.1
   have h4 := h2.1
   have h5 := h2.2.1
   simp only [List.length_cons]
   omega
def QIH (r q : Nat) (A : Option Addr) (cap : Nat) (l : List W) (f : Nat) : Prop :=
 ∀ (i : Nat) (b : Bool) (w : World), QRd w r q A cap l i b → i ≤ l.length → l.length - i < f → Calls Tryz.prog 81 #[.pointer (some ⟨q, 0, none⟩)] w (GetN r q A cap l w (qq (bare l) f i b))
theorem kinv_start {r q : Nat} {A : Option Addr} {cap : Nat} {l : List W} {w w1 w2 : World} {gb : Nat} {o op tx : ByteArray} {X : Option Addr} {n k : Nat} {t : Nod} {j : Nat} {c : Bool} (hr : r < w.heap.size) (hgb : w2.heap.size = gb) (hlt : w.heap.size < w1.heap.size) (hz : w1.heap.size ≤ w2.heap.size)
  (hN : NBox w2 w.heap.size (.string ⟨#[]⟩) (.string ⟨#[]⟩) (.slice none 0 0)) (hI : RIn w2 (New w1 w2) t (op, tx, X, n, k)) (hb : But w w2 r) (hQ : QRd w2 r q A cap l j c) :
  KInv r q A cap l w (gb + 2) o [t] [(op, tx, X, n, k)] (gb + 1) 1 j c (((w2.alloc (.cells #[.string op, .string tx, .slice X n k] 24)).alloc (.cells #[.string op, .string tx, .slice X n k] 24)).alloc (.cells #[.string o, .string ⟨#[]⟩, .slice (some ⟨gb + 1, 0, none⟩) 1 1] 24)) := by
 obtain ⟨w3, hw3⟩ : ∃ w3, w2.alloc (.cells #[.string op, .string tx, .slice X n k] 24) = w3 := ⟨_, rfl⟩
 have z3 : w3.heap.size = gb + 1 := by rw [← hw3]; simp [hgb]
 obtain ⟨w4, hw4⟩ : ∃ w4, w3.alloc (.cells #[.string op, .string tx, .slice X n k] 24) = w4 := ⟨_, rfl⟩
 have z4 : w4.heap.size = gb + 2 := by rw [← hw4]; simp [z3]
 have O4 : w4.ownsRow (w.heap.size + 1) 24 3 (.slice (some ⟨gb + 1, 0, none⟩) 1 1) 1 (flatC nc [(op, tx, X, n, k)]) := by rw [← z3]; exact own_lit w3 w4 (op, tx, X, n, k) (w.heap.size + 1) (by omega) hw4
 have I4 : RIn w4 (New w1 w2) t (op, tx, X, n, k) := by rw [← hw4, ← hw3]; exact (hI.alloc (fun g hg => hg.2) _).alloc (fun g hg => by have := hg.2; simp; omega) _
 have N4 : NBox w4 w.heap.size (.string ⟨#[]⟩) (.string ⟨#[]⟩) (.slice none 0 0) := by rw [← hw4, ← hw3]; exact (hN.alloc _).alloc _
 have B4 : But w w4 r := by rw [← hw4, ← hw3]; exact (hb.alloc _).alloc _
 have Q4 : QRd w4 r q A cap l j c := by rw [← hw4, ← hw3]; exact (hQ.alloc _).alloc _
 rw [hw3, hw4]
 have M5 := NBox.fresh w4 (.string o) (.string ⟨#[]⟩) (.slice (some ⟨gb + 1, 0, none⟩) 1 1) 24
 rw [z4] at M5
 exact ⟨by omega, N4.alloc _, M5, own_call O4 (below_alloc _ _), RAll.one ((I4.alloc (fun g hg => by have := hg.2; omega) _).imp (fun g hg => ⟨by have := hg.1; omega, by have := hg.2; simp; omega, by have := hg.2; omega, by have := hg.2; omega⟩)), by simp, B4.alloc _, Q4.alloc _, by omega⟩
theorem qq_op {L : List V} {f i : Nat} {b : Bool} {o : List UInt8} (ho : opQ L i b opsQ = o) (hne : o ≠ []) {q0 : Res} (hq : qq L f (i + 2) b = q0) {t0 : Ress} (ht : tailQ L (qq L f) o q0.2.1 q0.2.2 = t0) : qq L (f + 1) i b = (.mk o [] (q0.1 :: t0.1), t0.2) := by
 rw [qq, ho, if_neg hne, hq, ht]
theorem qquery_from (r q : Nat) (A : Option Addr) (cap : Nat) (l : List W) (f i : Nat) (b : Bool) (w : World) (h : QRd w r q A cap l i b) (hi : i ≤ l.length) (hl : l.length ≤ 4194304) (ho : opQ (bare l) i b opsQ = []) :
  Calls Tryz.prog 81 #[.pointer (some ⟨q, 0, none⟩)] w (GetN r q A cap l w (qq (bare l) (f + 1) i b)) := by
 have HR := hid h
 have zr := h.lt
 have zq := h.ltq
 have H0 := hid (fun (w' : World) (h' : QRd w' r q A cap l i b) => qop_any r q A cap l i b w' h' hi hl [] ho)
 rw [if_pos rfl] at H0
 have H1 := hid (fun (w' : World) (h' : QRd w' r q A cap l i b) => qname_any r q A cap l i b w' h' hi hl)
 obtain ⟨n0, hn0⟩ : ∃ n0, nmQ (bare l) i b = n0 := ⟨_, rfl⟩
 have hres : qq (bare l) (f + 1) i b = (.mk sFrom n0.1 [], n0.2) := by rw [qq, if_pos ho, hn0]
 rw [hres]
 rw [hn0] at H1
 obtain ⟨T, hT⟩ : ∃ T : ByteArray, ⟨n0.1.toArray⟩ = T := ⟨_, rfl⟩
 have HTT := hid (show n0.1 = T.data.toList by rw [← hT])
 rw [hT] at H1
 clear h ho hn0 hres hT
 go_enter Tryz.func81, Tryz.ntmps81
 obtain ⟨w0, hw0, hz0, N0, B0⟩ := made0 w r
 have R0 := hid (show QRd w0 r q A cap l i b by rw [← hw0]; exact HR.out.alloc _)
 have HW0 := hid hw0
 clear hw0
 go_wp2_with fail
 rw [HW0.out]
 refine (H0.out _ R0.out).mono ?_
 rintro e w1 ⟨rfl, hb1, hr1⟩
 have zb1 := hb1.size
 have N1 := hid (N0.out.but (by omega) hb1)
 have B1 := hid (B0.out.trans hb1)
 have R1 := hid hr1
 clear hb1 hr1 H0 HW0
 have cq := R1.out.cq
 go_wp2_with fail
 refine (H1.out _ R1.out).mono ?_
 rintro e w2 ⟨rfl, hb2, hr2⟩
 have zb2 := hb2.size
 have N2 := hid (N1.out.but (by omega) hb2)
 have B2 := hid (B1.out.trans hb2)
 have R2 := hid hr2
 clear hb2 hr2 cq H1
 obtain ⟨x0, x1, x2, xf⟩ := N2.out
 go_wp2
 have Y := N2.out.set (.string ⟨#[102, 114, 111, 109]⟩) (.string T) (.slice none 0 0)
 exact bodyPost_ret (v := .agg #[.string ⟨#[102, 114, 111, 109]⟩, .string T, .slice none 0 0]) (by simp [results, Tryz.results81, go_sem, Y.c0, Y.c1, Y.c2]) rfl
  ⟨_, _, _, _, _, rfl, by rw [HTT.out]; exact RIn.leafN _ _ ⟨#[102, 114, 111, 109]⟩ T, W3.but B2.out (Nat.le_refl _) _ _ _, R2.out.w3 zr (by omega) _ _ _⟩
theorem KInv.tell {r q : Nat} {A : Option Addr} {cap : Nat} {l : List W} {w w' : World} {gn : Nat} {o : ByteArray} {ks : List Nod} {xs : List NV} {g cp j N : Nat} {c : Bool} {res : Res} (h : KInv r q A cap l w gn o ks xs g cp j c w') (hN : xs.length = N) (hr : r < w.heap.size) (hq : q < w.heap.size) (hk : ks.length ≤ 1000000000) (hres : res = (.mk o.data.toList [] ks, j, c)) :
  GetN r q A cap l w res (.returned (.agg #[.string o, .string ⟨#[]⟩, .slice (some ⟨g, 0, none⟩) N cp])) (W3 w' w.heap.size (.string o) (.string ⟨#[]⟩) (.slice (some ⟨g, 0, none⟩) N cp)) := by
 subst hN
 exact h.told hr hq hk hres
theorem qitems_any (r q : Nat) (A : Option Addr) (cap : Nat) (l : List W) (i : Nat) (b : Bool) (w : World) (h : QRd w r q A cap l i b) (hi : i ≤ l.length) (hl : l.length ≤ 4194304) (hfg : FigW l) :
  Calls Tryz.prog 147 #[.pointer (some ⟨q, 0, none⟩)] w (GetL r q A cap l w (loopQ (bare l) (itemQ (bare l)) ((bare l).length + 1) true i b)) := by
 have HR := hid h
 have zr := h.lt
 have zq := h.ltq
 have HFG := hid hfg
 obtain ⟨R, hR⟩ : ∃ R, loopQ (bare l) (itemQ (bare l)) ((bare l).length + 1) true i b = R := ⟨_, rfl⟩
 have HRR := hid hR
 rw [hR]
 obtain ⟨i0, hi0, hz0, hz1, hz2⟩ := info_parts info_node
 clear h hfg hR
 go_enter Tryz.func147, Tryz.ntmps147
 go_wp2
 go_loopw [3] (fun v wr => LInv r q A cap l w R (itemQ (bare l)) v wr) (fun _ wr => l.length - atOf wr r)
 case atStart =>
  refine ⟨(bare l).length + 1, i, b, [], [], none, 0, rfl, World.ownsRow_nil _ _ _ _, RAll.nil _ _, hi, by rw [bare_length]; omega, by simp, hid ?_, But.refl _ _, HR.out⟩
  rw [← HRR.out]
  rfl
 case round =>
  obtain ⟨f, j, c, ks, xs, X, cp, rfl, hown, hall, hj, hf, hkj, HE, hbut, hqr⟩ := hrel
  have HO := hid hown
  have HA := hid hall
  have HB := hid hbut
  have HQ := hid hqr
  have hz := hbut.size
  have hks := hall.1
  have HAT := hid (atq hqr)
  obtain ⟨N, hN⟩ : ∃ N, xs.length = N := ⟨_, rfl⟩
  obtain ⟨fb, hfb⟩ : ∃ fb, (ks.length == 0) = fb := ⟨_, rfl⟩
  have e1 : ((N : Int) == 0) = fb := by
   rw [← hfb, ← hN, hks, Bool.eq_iff_iff]
   simp
  rw [hfb] at HE
  rw [hN] at HO ⊢
  have hNj : N ≤ j + 2 := by omega
  have HKS := hid (show ks.length = N by omega)
  have HN := hid hN
  have HM := hid (qmore_any r q A cap l j c fb wr hqr hj hl)
  obtain ⟨M, hM⟩ : ∃ M, moreQ (bare l) j c fb = M := ⟨_, rfl⟩
  rw [hM] at HM
  clear hown hall hbut hqr hks hN hfb
  cases hm1 : M.1 with
  | false =>
   have hst := loop_stop (el := itemQ (bare l)) (f := f) (by omega) (by rw [hM]; exact hm1)
   rw [hst, hM] at HE
   rw [hm1] at HM
   have HEE := hid (show R = (ks, M.2) by rw [HE.out]; simp)
   clear hst HE hm1 hM
   go_wp2_with fail
   refine HM.out.mono ?_
   rintro e w1 ⟨rfl, hb1, hr1⟩
   have O1 := hid (own_but HO.out hb1 (by omega))
   have A1 := hid (HA.out.apart zr hb1)
   have B1 := hid (HB.out.trans hb1)
   have R1 := hid hr1
   clear hb1 hr1
   go_wp2
   go_ret
   have hg := getL_own (xs := xs) (by rw [HN.out]; exact O1.out) A1.out B1.out R1.out
   rw [HN.out] at hg
   rw [HEE.out]
   exact hg
  | true =>
   obtain ⟨f', rfl, hf', hjl, rfl, hM2, hgo⟩ := loop_go (el := itemQ (bare l)) (by rw [bare_length]; exact hf) (by rw [hM]; exact hm1)
   rw [bare_length] at hf' hjl
   rw [hM] at hM2
   rw [hM2, hm1] at HM
   have HE2 := hid (show R = (ks ++ [(itemQ (bare l) (j + 1) false).1] ++ (loopQ (bare l) (itemQ (bare l)) f' false (itemQ (bare l) (j + 1) false).2.1 (itemQ (bare l) (j + 1) false).2.2).1, (loopQ (bare l) (itemQ (bare l)) f' false (itemQ (bare l) (j + 1) false).2.1 (itemQ (bare l) (j + 1) false).2.2).2) by
    rw [HE.out, hgo]
    simp)
   have E1 := nm_ends (L := bare l) (i := j + 1) (b := false) (by rw [bare_length]; omega)
   obtain ⟨n0, hn0⟩ : ∃ n0, nmQ (bare l) (j + 1) false = n0 := ⟨_, rfl⟩
   rw [hn0] at E1
   have E2 := must_ends (L := bare l) (i := n0.2.1) (b := n0.2.2) (s := [61]) E1.2.1
   obtain ⟨m0, hm0⟩ : ∃ m0, mustQ (bare l) n0.2.1 n0.2.2 [61] = m0 := ⟨_, rfl⟩
   rw [hm0] at E2
   have E3 := expr_ends (L := bare l) (i := m0.1) (b := m0.2) E2.2.1
   obtain ⟨p0, hp0⟩ : ∃ p0, exprQ (bare l) m0.1 m0.2 = p0 := ⟨_, rfl⟩
   rw [hp0] at E3
   have hit : itemQ (bare l) (j + 1) false = (.mk sItem n0.1 [p0.1.n], p0.2) := by unfold itemQ; rw [hn0, hm0, hp0]
   rw [hit] at HE2
   dsimp only at HE2
   have H1 := hid (fun (w' : World) (h' : QRd w' r q A cap l (j + 1) false) => qname_any r q A cap l (j + 1) false w' h' (by omega) hl)
   have H2 := hid (fun (w' : World) (h' : QRd w' r q A cap l n0.2.1 n0.2.2) => qmust_any r q A cap l n0.2.1 n0.2.2 ⟨#[61]⟩ w' h' (by have := E1.2.1; rw [bare_length] at this; exact this) hl)
   have H3 := hid (fun (w' : World) (h' : QRd w' r q A cap l m0.1 m0.2) => qexpr_any r q A cap l m0.1 m0.2 w' h' (by have := E2.2.1; rw [bare_length] at this; exact this) hl HFG.out)
   rw [hn0] at H1
   rw [show (⟨#[61]⟩ : ByteArray).data.toList = [61] from rfl, hm0] at H2
   rw [hp0] at H3
   unfold GetN at H3
   have hp1 : j + 1 ≤ p0.2.1 := Nat.le_trans E1.1 (Nat.le_trans E2.1 E3.1)
   have hp2 : p0.2.1 ≤ l.length := by have := E3.2.1; rw [bare_length] at this; exact this
   obtain ⟨T, hT⟩ : ∃ T : ByteArray, ⟨n0.1.toArray⟩ = T := ⟨_, rfl⟩
   have HTT := hid (show n0.1 = T.data.toList by rw [← hT])
   rw [hT] at H1
   have HP := hid (And.intro hp1 hp2)
   clear hgo HE hm1 hM hM2 hit hn0 hm0 hp0 E1 E2 E3 hp1 hp2 hT
   go_wp2_with fail
   refine HM.out.mono ?_
   rintro e w1 ⟨rfl, hb1, hr1⟩
   have O1 := hid (own_but HO.out hb1 (by omega))
   have A1 := hid (HA.out.apart zr hb1)
   have B1 := hid (HB.out.trans hb1)
   have R1 := hid (show QRd w1 r q A cap l (j + 1) false from hr1)
   have c1 := R1.out.cq
   clear hb1 hr1 HM
   go_wp2_with fail
   refine (H1.out _ R1.out).mono ?_
   rintro e w2 ⟨rfl, hb2, hr2⟩
   have O2 := hid (own_but O1.out hb2 (by omega))
   have A2 := hid (A1.out.apart zr hb2)
   have B2 := hid (B1.out.trans hb2)
   have R2 := hid hr2
   have c2 := R2.out.cq
   clear hb2 hr2 H1 c1
   go_wp2_with fail
   refine (H2.out _ R2.out).mono ?_
   rintro e w3 ⟨rfl, hb3, hr3⟩
   have O3 := hid (own_but O2.out hb3 (by omega))
   have A3 := hid (A2.out.apart zr hb3)
   have B3 := hid (B2.out.trans hb3)
   have R3 := hid hr3
   clear hb3 hr3 H2 c2
   go_wp2_with fail
   refine (H3.out _ R3.out).mono ?_
   rintro e w4 ⟨op, tx, Y, n, k, rfl, hI, hb4, hr4⟩
   have hz4 := hb4.size
   have hz3 := B3.out.size
   have O4 := hid (own_but O3.out hb4 (by omega))
   have A4 := hid (A3.out.apart zr hb4)
   have B4 := hid (B3.out.trans hb4)
   have R4 := hid hr4
   have OB := hid (own_block O3.out)
   have I4 := hid hI
   clear hb4 hr4 hI H3
   have MK := hid (fun (o1 o3 : Obj) => kid_made I4.out hz4 o1 o3 24 ⟨#[105, 116, 101, 109]⟩ T)
   rw [← HTT.out] at MK
   go_wp2_with (at_builtin; refine wpList_append_lies _ rfl _ _ _ rfl w.heap.size 24 i0 _ 3 56 Tryz.underlying22 hi0 hz0 hz1 hz2 rfl (by omega) _ N (flatC nc xs) rfl ?ca ⟨w4.heap.size + 1 + 1, 0, none⟩ 1 1 [.string ⟨#[105, 116, 101, 109]⟩, .string T, .slice (some ⟨w4.heap.size + 1, 0, none⟩) 1 1] rfl rfl ?cn ?co (by omega) ?cm ?cb ?cs (w4.heap.size + 1 + 1 + 1) ?ch ?_)
   case ca => exact own_call (own_call (own_call O4.out (below_alloc _ _)) (below_alloc _ _)) (below_alloc _ _)
   case cn => exact World.news_of_block (alloc3_new w4 _ _ _ _)
   case co => exact nc_one (⟨#[105, 116, 101, 109]⟩, T, some ⟨w4.heap.size + 1, 0, none⟩, 1, 1)
   case cm => unfold maxLen; omega
   case cb => omega
   case cs => simp; omega
   case ch => simp
   intro gg cap9 w9 hown9 hgrow hat hlt9
   obtain ⟨W8, hW8⟩ : ∃ W8, ((w4.alloc (.cells #[.string op, .string tx, .slice Y n k] 24)).alloc (.cells #[.string op, .string tx, .slice Y n k] 24)).alloc (.cells #[.string ⟨#[105, 116, 101, 109]⟩, .string T, .slice (some ⟨w4.heap.size + 1, 0, none⟩) 1 1] 24) = W8 := ⟨_, rfl⟩
   have hz8 : W8.heap.size = w4.heap.size + 1 + 1 + 1 := by rw [← hW8]; simp
   have BA := hid (show Below w4.heap.size w4 W8 by rw [← hW8]; exact (((Below.refl _ _).alloc (Nat.le_refl _) _).alloc (by simp) _).alloc (by simp; omega) _)
   rw [hW8] at hgrow
   have L9 := hid (linv_next (l := l) (A := A) (cap := cap) (R := R) (el := itemQ (bare l)) (f := f') (j := p0.2.1) (c := p0.2.2) (y := (⟨#[105, 116, 101, 109]⟩, T, some ⟨w4.heap.size + 1, 0, none⟩, 1, 1)) zr zq HN.out (own_call O4.out BA.out) hown9 hgrow (by rw [hz8]; exact hat) (A4.out.apart zr (But.of BA.out r)) (by
    have h := MK.out (.cells #[.string op, .string tx, .slice Y n k] 24) (.cells #[.string ⟨#[105, 116, 101, 109]⟩, .string T, .slice (some ⟨w4.heap.size + 1, 0, none⟩) 1 1] 24)
    rw [hW8] at h
    exact h) (fun g hg => ⟨by have := hg.1; omega, by have := hg.2; omega, fun ad e => by have := (OB.out ad e).2; have := hg.1; omega⟩) HP.out.2 (by have := HP.out.1; omega) (by have := HP.out.1; have := HKS.out; omega) HE2.out (B4.out.next BA.out) (R4.out.below BA.out))
   clear hown9 hgrow hat hlt9 hW8
   have hat9 := atq L9.out.2
   have hat0 := HAT.out
   have hp1 := HP.out.1
   go_wp2
   go_roundw
   case rel => exact L9.out.1
   case measure => omega
theorem pair_made (w : World) (o3 : Obj) (a b c d : ByteArray) :
  RIn ((w.alloc (.cells #[.string a, .string b, .slice none 0 0] 24)).alloc o3) (fun g => w.heap.size ≤ g ∧ g < w.heap.size + 2) (.mk c.data.toList d.data.toList [.mk a.data.toList b.data.toList []]) (c, d, some ⟨w.heap.size, 0, none⟩, 1, 1) :=
 RIn.made (ks := [.mk a.data.toList b.data.toList []]) 1 c d (nat_one w o3 a b none 0 0 _ (fun g => w.heap.size ≤ g ∧ g < w.heap.size + 2) ⟨Nat.le_refl _, by omega⟩) (RAll.one (RIn.leafN _ _ a b)) (by simp) (by simp)
theorem alloc2_new (w : World) (o1 : Obj) (cs : Array Value) (t : TypeId) : ((w.alloc o1).alloc (.cells cs t)).heap[w.heap.size + 1]? = some (.cells cs t (0, 0)) := by
 have h := heap_alloc_new (w.alloc o1) (.cells cs t)
 rw [show (w.alloc o1).heap.size = w.heap.size + 1 by simp] at h
 exact h
theorem qpairs_any (r q : Nat) (A : Option Addr) (cap : Nat) (l : List W) (i : Nat) (b : Bool) (w : World) (h : QRd w r q A cap l i b) (hi : i ≤ l.length) (hl : l.length ≤ 4194304) :
  Calls Tryz.prog 149 #[.pointer (some ⟨q, 0, none⟩)] w (GetL r q A cap l w (loopQ (bare l) (pairQ (bare l)) ((bare l).length + 1) true i b)) := by
 have HR := hid h
 have zr := h.lt
 have zq := h.ltq
 obtain ⟨R, hR⟩ : ∃ R, loopQ (bare l) (pairQ (bare l)) ((bare l).length + 1) true i b = R := ⟨_, rfl⟩
 have HRR := hid hR
 rw [hR]
 obtain ⟨i0, hi0, hz0, hz1, hz2⟩ := info_parts info_node
 clear h hR
 go_enter Tryz.func149, Tryz.ntmps149
 go_wp2
 go_loopw [3] (fun v wr => LInv r q A cap l w R (pairQ (bare l)) v wr) (fun _ wr => l.length - atOf wr r)
 case atStart =>
  refine ⟨(bare l).length + 1, i, b, [], [], none, 0, rfl, World.ownsRow_nil _ _ _ _, RAll.nil _ _, hi, by rw [bare_length]; omega, by simp, hid ?_, But.refl _ _, HR.out⟩
  rw [← HRR.out]
  rfl
 case round =>
  obtain ⟨f, j, c, ks, xs, X, cp, rfl, hown, hall, hj, hf, hkj, HE, hbut, hqr⟩ := hrel
  have HO := hid hown
  have HA := hid hall
  have HB := hid hbut
  have HQ := hid hqr
  have hz := hbut.size
  have hks := hall.1
  have HAT := hid (atq hqr)
  obtain ⟨N, hN⟩ : ∃ N, xs.length = N := ⟨_, rfl⟩
  obtain ⟨fb, hfb⟩ : ∃ fb, (ks.length == 0) = fb := ⟨_, rfl⟩
  have e1 : ((N : Int) == 0) = fb := by
   rw [← hfb, ← hN, hks, Bool.eq_iff_iff]
   simp
  rw [hfb] at HE
  rw [hN] at HO ⊢
  have hNj : N ≤ j + 2 := by omega
  have HKS := hid (show ks.length = N by omega)
  have HN := hid hN
  have HM := hid (qmore_any r q A cap l j c fb wr hqr hj hl)
  obtain ⟨M, hM⟩ : ∃ M, moreQ (bare l) j c fb = M := ⟨_, rfl⟩
  rw [hM] at HM
  clear hown hall hbut hqr hks hN hfb
  cases hm1 : M.1 with
  | false =>
   have hst := loop_stop (el := pairQ (bare l)) (f := f) (by omega) (by rw [hM]; exact hm1)
   rw [hst, hM] at HE
   rw [hm1] at HM
   have HEE := hid (show R = (ks, M.2) by rw [HE.out]; simp)
   clear hst HE hm1 hM
   go_wp2_with fail
   refine HM.out.mono ?_
   rintro e w1 ⟨rfl, hb1, hr1⟩
   have O1 := hid (own_but HO.out hb1 (by omega))
   have A1 := hid (HA.out.apart zr hb1)
   have B1 := hid (HB.out.trans hb1)
   have R1 := hid hr1
   clear hb1 hr1
   go_wp2
   go_ret
   have hg := getL_own (xs := xs) (by rw [HN.out]; exact O1.out) A1.out B1.out R1.out
   rw [HN.out] at hg
   rw [HEE.out]
   exact hg
  | true =>
   obtain ⟨f', rfl, hf', hjl, rfl, hM2, hgo⟩ := loop_go (el := pairQ (bare l)) (by rw [bare_length]; exact hf) (by rw [hM]; exact hm1)
   rw [bare_length] at hf' hjl
   rw [hM] at hM2
   rw [hM2, hm1] at HM
   have HE2 := hid (show R = (ks ++ [(pairQ (bare l) (j + 1) false).1] ++ (loopQ (bare l) (pairQ (bare l)) f' false (pairQ (bare l) (j + 1) false).2.1 (pairQ (bare l) (j + 1) false).2.2).1, (loopQ (bare l) (pairQ (bare l)) f' false (pairQ (bare l) (j + 1) false).2.1 (pairQ (bare l) (j + 1) false).2.2).2) by
    rw [HE.out, hgo]
    simp)
   have E1 := nm_ends (L := bare l) (i := j + 1) (b := false) (by rw [bare_length]; omega)
   obtain ⟨n0, hn0⟩ : ∃ n0, nmQ (bare l) (j + 1) false = n0 := ⟨_, rfl⟩
   rw [hn0] at E1
   have E2 := must_ends (L := bare l) (i := n0.2.1) (b := n0.2.2) (s := [61]) E1.2.1
   obtain ⟨m0, hm0⟩ : ∃ m0, mustQ (bare l) n0.2.1 n0.2.2 [61] = m0 := ⟨_, rfl⟩
   rw [hm0] at E2
   have E3 := nm_ends (L := bare l) (i := m0.1) (b := m0.2) E2.2.1
   obtain ⟨p0, hp0⟩ : ∃ p0, nmQ (bare l) m0.1 m0.2 = p0 := ⟨_, rfl⟩
   rw [hp0] at E3
   have hit : pairQ (bare l) (j + 1) false = (.mk sOn n0.1 [.mk sCol p0.1 []], p0.2) := by unfold pairQ; rw [hn0, hm0, hp0]
   rw [hit] at HE2
   dsimp only at HE2
   have H1 := hid (fun (w' : World) (h' : QRd w' r q A cap l (j + 1) false) => qname_any r q A cap l (j + 1) false w' h' (by omega) hl)
   have H2 := hid (fun (w' : World) (h' : QRd w' r q A cap l n0.2.1 n0.2.2) => qmust_any r q A cap l n0.2.1 n0.2.2 ⟨#[61]⟩ w' h' (by have := E1.2.1; rw [bare_length] at this; exact this) hl)
   have H3 := hid (fun (w' : World) (h' : QRd w' r q A cap l m0.1 m0.2) => qname_any r q A cap l m0.1 m0.2 w' h' (by have := E2.2.1; rw [bare_length] at this; exact this) hl)
   rw [hn0] at H1
   rw [show (⟨#[61]⟩ : ByteArray).data.toList = [61] from rfl, hm0] at H2
   rw [hp0] at H3
   have hp1 : j + 1 ≤ p0.2.1 := Nat.le_trans E1.1 (Nat.le_trans E2.1 E3.1)
   have hp2 : p0.2.1 ≤ l.length := by have := E3.2.1; rw [bare_length] at this; exact this
   obtain ⟨U, hU⟩ : ∃ U : ByteArray, ⟨p0.1.toArray⟩ = U := ⟨_, rfl⟩
   have HUU := hid (show p0.1 = U.data.toList by rw [← hU])
   rw [hU] at H3
   obtain ⟨T, hT⟩ : ∃ T : ByteArray, ⟨n0.1.toArray⟩ = T := ⟨_, rfl⟩
   have HTT := hid (show n0.1 = T.data.toList by rw [← hT])
   rw [hT] at H1
   have HP := hid (And.intro hp1 hp2)
   clear hgo HE hm1 hM hM2 hit hn0 hm0 hp0 E1 E2 E3 hp1 hp2 hT hU
   go_wp2_with fail
   refine HM.out.mono ?_
   rintro e w1 ⟨rfl, hb1, hr1⟩
   have O1 := hid (own_but HO.out hb1 (by omega))
   have A1 := hid (HA.out.apart zr hb1)
   have B1 := hid (HB.out.trans hb1)
   have R1 := hid (show QRd w1 r q A cap l (j + 1) false from hr1)
   have c1 := R1.out.cq
   clear hb1 hr1 HM
   go_wp2_with fail
   refine (H1.out _ R1.out).mono ?_
   rintro e w2 ⟨rfl, hb2, hr2⟩
   have O2 := hid (own_but O1.out hb2 (by omega))
   have A2 := hid (A1.out.apart zr hb2)
   have B2 := hid (B1.out.trans hb2)
   have R2 := hid hr2
   have c2 := R2.out.cq
   clear hb2 hr2 H1 c1
   go_wp2_with fail
   refine (H2.out _ R2.out).mono ?_
   rintro e w3 ⟨rfl, hb3, hr3⟩
   have O3 := hid (own_but O2.out hb3 (by omega))
   have A3 := hid (A2.out.apart zr hb3)
   have B3 := hid (B2.out.trans hb3)
   have R3 := hid hr3
   have c3 := R3.out.cq
   clear hb3 hr3 H2 c2
   go_wp2_with fail
   refine (H3.out _ R3.out).mono ?_
   rintro e w4 ⟨rfl, hb4, hr4⟩
   have hz4 := hb4.size
   have hz3 := B3.out.size
   have O4 := hid (own_but O3.out hb4 (by omega))
   have A4 := hid (A3.out.apart zr hb4)
   have B4 := hid (B3.out.trans hb4)
   have R4 := hid hr4
   have OB := hid (own_block O4.out)
   clear hb4 hr4 H3 c3
   have MK := hid (fun (o3 : Obj) => pair_made w4 o3 ⟨#[99, 111, 108]⟩ U ⟨#[111, 110]⟩ T)
   rw [← HTT.out, ← HUU.out] at MK
   go_wp2_with (at_builtin; refine wpList_append_lies _ rfl _ _ _ rfl w.heap.size 24 i0 _ 3 56 Tryz.underlying22 hi0 hz0 hz1 hz2 rfl (by omega) _ N (flatC nc xs) rfl ?ca ⟨w4.heap.size + 1, 0, none⟩ 1 1 [.string ⟨#[111, 110]⟩, .string T, .slice (some ⟨w4.heap.size, 0, none⟩) 1 1] rfl rfl ?cn ?co (by omega) ?cm ?cb ?cs (w4.heap.size + 1 + 1) ?ch ?_)
   case ca => exact own_call (own_call O4.out (below_alloc _ _)) (below_alloc _ _)
   case cn => exact World.news_of_block (alloc2_new w4 _ _ _)
   case co => exact nc_one (⟨#[111, 110]⟩, T, some ⟨w4.heap.size, 0, none⟩, 1, 1)
   case cm => unfold maxLen; omega
   case cb => omega
   case cs => simp; omega
   case ch => simp
   intro gg cap9 w9 hown9 hgrow hat hlt9
   obtain ⟨W8, hW8⟩ : ∃ W8, (w4.alloc (.cells #[.string ⟨#[99, 111, 108]⟩, .string U, .slice none 0 0] 24)).alloc (.cells #[.string ⟨#[111, 110]⟩, .string T, .slice (some ⟨w4.heap.size, 0, none⟩) 1 1] 24) = W8 := ⟨_, rfl⟩
   have hz8 : W8.heap.size = w4.heap.size + 1 + 1 := by rw [← hW8]; simp
   have BA := hid (show Below w4.heap.size w4 W8 by rw [← hW8]; exact ((Below.refl _ _).alloc (Nat.le_refl _) _).alloc (by simp) _)
   rw [hW8] at hgrow
   have L9 := hid (linv_next (l := l) (A := A) (cap := cap) (R := R) (el := pairQ (bare l)) (f := f') (j := p0.2.1) (c := p0.2.2) (y := (⟨#[111, 110]⟩, T, some ⟨w4.heap.size, 0, none⟩, 1, 1)) zr zq HN.out (own_call O4.out BA.out) hown9 hgrow (by rw [hz8]; exact hat) (A4.out.apart zr (But.of BA.out r)) (by
    have h := MK.out (.cells #[.string ⟨#[111, 110]⟩, .string T, .slice (some ⟨w4.heap.size, 0, none⟩) 1 1] 24)
    rw [hW8] at h
    exact h) (fun g hg => ⟨by have := hg.1; omega, by have := hg.2; omega, fun ad e => by have := (OB.out ad e).2; have := hg.1; omega⟩) HP.out.2 (by have := HP.out.1; omega) (by have := HP.out.1; have := HKS.out; omega) HE2.out (B4.out.next BA.out) (R4.out.below BA.out))
   clear hown9 hgrow hat hlt9 hW8
   have hat9 := atq L9.out.2
   have hat0 := HAT.out
   have hp1 := HP.out.1
   go_wp2
   go_roundw
   case rel => exact L9.out.1
   case measure => omega
end Go.Proofs.YthpmgnfmeldkjaaGreatDoor.Code
