/-
  The program's number, whole.
-/
import Derived.Test.YthpmgnfmeldkjaaGreatDoorSm10
import Derived.Test.YthpmgnfmeldkjaaGreatDoorSm6
import Derived.Test.YthpmgnfmeldkjaaGreatDoorSm5
import Derived.Deep.QuietTactic
import Derived.Maps.OwnOps
import Derived.Maps.OwnSet
import Derived.Test.YthpmgnfmeldkjaaGreatDoorChecked
import Derived.Test.YthpmgnfmeldkjaaGreatDoorSm2
import Derived.WalkKit
import Derived.ProofKit
import Derived.Lib.Hide
set_option maxRecDepth 100000
set_option maxHeartbeats 16000000
set_option linter.unusedVariables false
set_option linter.unusedSimpArgs false
open Go.Lib (hid)
namespace Go.Proofs.YthpmgnfmeldkjaaGreatDoor.Code
open Go.ChangeShapes Go.WideShapes Go.ChangeAt Go.RowKit Val Elems
def numTo (k : Nat) (l : List W) : List W := l.mapIdx fun i c => if i < k then ((i : Int) + 1, c.2.1, c.2.2) else c
theorem numTo_len (k : Nat) (l : List W) : (numTo k l).length = l.length := by unfold numTo; simp
theorem numTo_zero (l : List W) : numTo 0 l = l := by
 unfold numTo
 apply List.ext_getElem
 ·simp
 ·intro i h1 h2
  simp
theorem numTo_all (l : List W) : numTo l.length l = numberedP l := by
 unfold numTo numberedP
 apply List.ext_getElem
 ·simp
 ·intro i h1 h2
  have : i < l.length := by simpa using h1
  simp [this]
theorem numTo_at (l : List W) (k : Nat) (h : k < l.length) (h' : k < (numTo k l).length) : (numTo k l)[k] = l[k] := by
 simp only [numTo, List.getElem_mapIdx, Nat.lt_irrefl, if_false]
theorem numTo_step (l : List W) (k : Nat) (h : k < l.length) : (numTo k l).set k ((k : Int) + 1, l[k].2.1, l[k].2.2) = numTo (k + 1) l := by
 unfold numTo
 apply List.ext_getElem
 ·simp
 ·intro i h1 h2
  have hi : i < l.length := by simpa using h2
  rw [List.getElem_set]
  by_cases e : k = i
  ·subst e
   simp
  ·rw [if_neg e]
   simp only [List.getElem_mapIdx]
   by_cases hik : i < k
   ·rw [if_pos hik, if_pos (by omega)]
   ·rw [if_neg hik, if_neg (by omega)]
def nmC (l : List W) : List (List UInt8) := l.map fun c => c.2.1
theorem nmC_len (l : List W) : (nmC l).length = l.length := List.length_map ..
theorem odd_all (l : List W) : ((nmC l).any fun s => !nameC s) = !(l.all fun c => nameC c.2.1) := by
 induction l with
 | nil => rfl
 | cons c l ih =>
  unfold nmC at *
  rw [List.map_cons, List.any_cons, List.all_cons, ih]
  cases nameC c.2.1 <;> simp
theorem last_is (l : List W) : lastP l 0 = if ((nmC l).any fun s => !nameC s) = true then 1 else if twiceC l = true then 122 else if 12 < l.length then 62 else 0 := by
 unfold lastP
 rw [if_neg (by omega), odd_all]
 cases (l.all fun c => nameC c.2.1) <;> rfl
def NumPost (w : World) (g0 : Nat) (l : List W) (e : Ending) (w' : World) : Prop := e = .returned (.int .i64 (wrongC l)) ∧ But w w' g0 ∧ (0 < l.length → CellsG wc w' g0 (numberedP l))
theorem number_any (g0 cap : Nat) (A : Option Addr) (l : List W) (m : Int) (w : World) (hA : 0 < l.length → A = some ⟨g0, 0, none⟩) (hcl : 0 < l.length → CellsG wc w g0 l) (hfr : 0 < l.length → ∀ j, w.frozen? ⟨g0, j, none⟩ = false) (hgl : 0 < l.length → g0 < w.heap.size) (hl : l.length ≤ 100000) (hcap : l.length ≤ cap)
  (hn : ∀ c ∈ l, c.2.1.length ≤ 1000) (hg : MGlob m w) (hgm : 0 ≠ g0) :
  Calls Tryz.prog 61 #[.slice A l.length cap] w (NumPost w g0 l) := by
 have HA := hid hA
 have HC0 := hid hcl
 have HF0 := hid hfr
 have HG0 := hid hgl
 have HN := hid hn
 have hM0 := World.block_lt_of_cell? _ _ hg
 have HM := hid (fun (w' : World) (hb : But w w' g0) => show MGlob m w' from (hb.cell (q := ⟨0, 0, none⟩) hM0 hgm).trans hg)
 clear hA hcl hfr hgl hn hg hgm hM0
 unfold NumPost
 obtain ⟨R, hR⟩ : ∃ R, wrongC l = R := ⟨_, rfl⟩
 rw [hR]
 have HWR := hid hR
 clear hR
 go_enter Tryz.func61, Tryz.ntmps61
 go_wp2
 go_loopw [8] (fun t wr => ∃ i : Nat, i ≤ l.length ∧ t = .int .i64 i ∧ But w wr g0 ∧ (0 < l.length → CellsG wc wr g0 (numTo i l)) ∧ (0 < l.length → ∀ j, wr.frozen? ⟨g0, j, none⟩ = false) ∧ (0 < l.length → g0 < wr.heap.size)) (fun t _ => l.length - (intOf t).toNat)
 case atStart => exact ⟨0, by omega, rfl, But.refl _ _, by rw [numTo_zero]; exact HC0.out, HF0.out, HG0.out⟩
 case round =>
  obtain ⟨i, hi, rfl, hbut, hcl, hfr, hlt⟩ := hrel
  by_cases hil : i < l.length
  ·have hp : 0 < l.length := by omega
   obtain rfl := HA.out hp
   have hcl := hcl hp
   have f0 := hfr hp
   have hlt := hlt hp
   have hil' : i < (numTo i l).length := by rw [numTo_len]; exact hil
   have c0 := hcl.at wc_length i hil' 0 (by omega) (.int .i64 (numTo i l)[i].1) rfl
   rw [numTo_at l i hil, Nat.add_zero] at c0
   have HS := hid (show CellsG wc (wr.setCell ⟨g0, i * 3, none⟩ (.int .i64 ((i : Int) + 1))) g0 (numTo (i + 1) l) by
    have h := CellsG.set wc_length hcl i hil' ((i : Int) + 1, l[i].2.1, l[i].2.2) 0 (by omega) (.int .i64 ((i : Int) + 1)) (by rw [numTo_at l i hil]; rfl)
    rw [numTo_step l i hil, Nat.add_zero] at h
    exact h)
   have HB := hid (hbut.setCell (i * 3) (.int .i64 ((i : Int) + 1)))
   have HF := hid (show ∀ j, (wr.setCell ⟨g0, i * 3, none⟩ (.int .i64 ((i : Int) + 1))).frozen? ⟨g0, j, none⟩ = false from fun j => by rw [World.frozen?_setCell]; exact f0 j)
   clear hcl hbut hfr hp
   go_wp2
   go_roundw
   case rel => exact ⟨i + 1, by omega, by go_num, HB.out, fun _ => HS.out, fun _ => HF.out, fun _ => by simpa using hlt⟩
   case measure => simp [intOf]; omega
  ·obtain rfl : i = l.length := by omega
   rw [numTo_all] at hcl
   have HB := hid hbut
   have HCL := hid hcl
   have HF := hid hfr
   have HLT := hid hlt
   have nlen : (numberedP l).length = l.length := by unfold numberedP; simp
   have HV := hid (show ∀ w', Below wr.heap.size wr w' → At wc 3 w' w'.heap.size A (numberedP l) from fun w' hb => by
    by_cases hp : 0 < l.length
    ·rw [HA.out hp]
     exact cells_at wc_length (Nat.lt_of_lt_of_le (HLT.out hp) hb.size) ((HCL.out hp).below (HLT.out hp) hb)
    ·intro i hi
     exact absurd hi (by rw [nlen]; omega))
   have HEND := hid (show ∀ w', Below wr.heap.size wr w' → But w w' g0 ∧ (0 < l.length → CellsG wc w' g0 (numberedP l)) from fun w' hb => ⟨HB.out.next hb, fun hp => (HCL.out hp).below (HLT.out hp) hb⟩)
   have HNN := hid (show ∀ s ∈ nmC l, s.length ≤ 1000 from fun s hs => by obtain ⟨c, hc, rfl⟩ := List.mem_map.1 hs; exact HN.out c hc)
   have HT := hid (textsC_any 100 (enters_of Tryz.func100 (by kernel_rfl) rfl) #[] (bsL (nmC l)) A cap (numberedP l) wr (HV.out wr (Below.refl _ _)) (by omega) (by rw [bsL_len, nmC_len, nlen]) (fun i hi hi' w' hb => by
    refine (number1_any _ _ _ w').mono ?_
    rintro e w'' ⟨rfl, hb2⟩
    refine ⟨?_, hb2⟩
    have e1 : (bsL (nmC l))[i] = ⟨(numberedP l)[i].2.1.toArray⟩ := by simp [bsL, nmC, numberedP]
    rw [e1]))
   unfold TxPost at HT
   rw [bsL_len, nmC_len, nlen] at HT
   have HLA := hid (last_is l)
   have HCN := hid (comp_names l)
   have h12 : decide ((12 : Int) < (l.length : Int)) = decide (12 < l.length) := by rw [decide_eq_decide]; omega
   clear hbut hcl hfr hlt
   go_wp2_with fail
   refine HT.out.mono ?_
   rintro e w2 ⟨rfl, hs2, hb2⟩
   have L2 := hid hb2
   have HC2 := hid (contS_any wr.heap.size l.length (nmC l) m w2 hs2 (by rw [nmC_len]; omega) HNN.out (HM.out w2 (HB.out.next hb2)))
   have HS2 := hid hs2
   rw [nmC_len] at HC2
   obtain ⟨b1, hb1⟩ : ∃ b, ((nmC l).any fun s => !nameC s) = b := ⟨_, rfl⟩
   rw [hb1] at HC2 HLA
   clear hs2 hb2 hb1 HT
   go_wp2_with fail
   refine HC2.out.mono ?_
   rintro e w3 ⟨rfl, hb3⟩
   have L3 := hid (L2.out.trans (hb3.mono L2.out.size))
   have HS3 := hid (HS2.out.call hb3)
   have HSO := hid (psort_any wr.heap.size l.length (nmC l) w3 (sblk_holds HS3.out) HS3.out.lt (by rw [nmC_len]; omega))
   rw [nmC_len] at HSO
   clear hb3 HC2
   go_wp2_with fail
   refine HSO.out.mono ?_
   rintro e w4 ⟨rfl, hso⟩
   have L4 := hid (L3.out.trans (hso.bel wr.heap.size (Nat.le_refl _) HS3.out.lt))
   have HP4 := hid (pcompact_any wr.heap.size l.length (sortL (nmC l)) w4 hso.hold hso.lt (by rw [sort_len, nmC_len]; omega) (by rw [sort_len, nmC_len]; exact Nat.le_refl _))
   rw [sort_len, nmC_len] at HP4
   have hz4 := hso.lt
   clear HSO hso
   have hR := HWR.out
   unfold wrongC at hR
   rw [HLA.out] at hR
   have HRR := hid hR
   clear hR
   cases b1
   case true =>
    have hr : R = 1 := by rw [← HRR.out]; rfl
    subst hr
    go_wp2
    go_ret
    exact ⟨rfl, HEND.out _ L4.out⟩
   case false =>
   obtain ⟨C, hC⟩ : ∃ C, (Lib.compact (sortL (nmC l))).length = C := ⟨_, rfl⟩
   unfold nmC at hC
   rw [hC] at HCN
   have hC' : (Lib.compact (sortL (nmC l))).length = C := hC
   rw [hC'] at HP4
   have hci : decide ((C : Int) < (l.length : Int)) = decide (C < l.length) := by rw [decide_eq_decide]; omega
   rw [HCN.out] at hci
   have hcn := HCN.out
   obtain ⟨b2, hb2⟩ : ∃ b, twiceC l = b := ⟨_, rfl⟩
   rw [hb2] at hci HRR hcn
   clear hC hC' hb2 HCN
   go_wp2_with fail
   refine HP4.out.mono ?_
   rintro e w5 ⟨rfl, hco⟩
   have L5 := hid (L4.out.trans (hco.bel wr.heap.size (Nat.le_refl _) hz4))
   clear HP4 hco
   cases b2
   case true =>
    have hr : R = 122 := by rw [← HRR.out]; rfl
    subst hr
    go_wp2
    go_ret
    exact ⟨rfl, HEND.out _ L5.out⟩
   case false =>
   obtain ⟨b3, hb3⟩ : ∃ b, decide (12 < l.length) = b := ⟨_, rfl⟩
   rw [hb3] at h12
   have hb3' := hb3
   cases b3
   case true =>
    have hr : R = 62 := by have h := HRR.out; simp [of_decide_eq_true hb3] at h; exact h.symm
    subst hr
    go_wp2
    go_ret
    exact ⟨rfl, HEND.out _ L5.out⟩
   case false =>
   have hr : R = 0 := by have h := HRR.out; simp [of_decide_eq_false hb3] at h; exact h.symm
   subst hr
   clear HRR
   go_wp2
   go_ret
   exact ⟨rfl, HEND.out _ L5.out⟩
theorem cut_nodes (ad : Addr) (n k c : Nat) (h : c < n) (hk : n ≤ k) (w : World) :
  (Instr.slice 22 (.slice (some ad) n k) (some (.int .i64 (c : Nat))) none none).run Tryz.prog w = .ok (.slice (some (ad.add (c * 3))) (n - c) (k - c)) w := by
 have hu : Tryz.prog.underlying 22 = some (.slice (Tryz.prog.elem 22)) := by kernel_rfl
 have hz : ∀ w, (sizeOf (Tryz.prog.elem 22)).run Tryz.prog w = .ok 3 w := fun w => by kernel_rfl
 rw [run_slice_l w 22 _ _ _ hu .i64 c (by omega) (by omega), hz]
 simp only [Result.andThen, sliced, Int.toNat_natCast]
 rw [if_neg (by omega)]
 rfl
def leafB (t : Nod) : Bool := t.ks.length == 0
theorem ask_pre {t : Nod} {S : Nat → Prop} {op tx : ByteArray} {X : Option Addr} {n k : Nat} {w1 : World} (hS : ∀ g, S g → g < w1.heap.size) (hn : RIn w1 S t (op, tx, X, n, k)) :
  n = t.ks.length ∧ t.op = op.toList ∧ t.tx = tx.toList ∧ t.ks.length ≤ k ∧ t.ks.length ≤ 2600000000000 ∧ ∃ w2, w1.alloc (.cells #[.string op, .string tx, .slice X t.ks.length k] 24) = w2 ∧ Hid (Below w1.heap.size w1 w2) ∧ Hid (NBox w2 w1.heap.size (.string op) (.string tx) (.slice X t.ks.length k)) ∧ Hid (∀ g, S g → g < w2.heap.size) ∧ Hid (RIn w2 S t (op, tx, X, t.ks.length, k)) := by
 obtain ⟨eo, et, en, hkl⟩ := hn.texts
 dsimp only at eo et en
 subst en
 have hb := below_alloc w1 (.cells #[.string op, .string tx, .slice X t.ks.length k] 24)
 exact ⟨rfl, by rw [eo, ByteArray.toList_eq], by rw [et, ByteArray.toList_eq], hn.cap, hkl, _, rfl, hid hb, hid (NBox.fresh _ _ _ _ _), hid fun g h => Nat.lt_of_lt_of_le (hS g h) hb.size, hid (hn.bel hS hb)⟩
theorem pltx_nil (tx : ByteArray) : tx.toList.isEmpty = (tx.toList == []) := by cases tx.toList <;> rfl
theorem pltx_data (tx : ByteArray) : tx.data.isEmpty = (tx.toList == []) := by
 rw [ByteArray.toList_eq]
 obtain ⟨⟨l⟩⟩ := tx
 cases l <;> rfl
theorem is_leaf (w : World) : AskN 44 #[] leafB w := by
 intro t S op tx X n k w1 hb hS hn
 obtain ⟨rfl, eo', et', hcap, hkl, w2, hw2, B2, N2, HS2, HN⟩ := ask_pre hS hn
 have HW2 := hid hw2
 try dsimp only
 rw [show leafB t = (t.ks.length == 0) from rfl]
 clear hn hS hb hw2
 obtain ⟨b0, h0⟩ : ∃ b, (t.ks.length == 0) = b := ⟨_, rfl⟩
 have h0z : ((t.ks.length : Int) == 0) = b0 := by rw [← h0, Bool.eq_iff_iff]; simp <;> omega
 rw [h0]
 clear eo' et'
 go_enter Tryz.func44, Tryz.ntmps44
 go_upto_region 1 with fail
 try rw [HW2.out]
 obtain ⟨x0, x1, x2, xf⟩ := N2.out
 go_wp2
 go_ret
 exact ⟨by first | rfl | (exact retB (by simp [*])), B2.out⟩
theorem is_col (w : World) : AskN 90 #[] isColP w := by
 intro t S op tx X n k w1 hb hS hn
 obtain ⟨rfl, eo', et', hcap, hkl, w2, hw2, B2, N2, HS2, HN⟩ := ask_pre hS hn
 have HW2 := hid hw2
 try dsimp only
 rw [show isColP t = ((op.toList == [99, 111, 108]) && leafB t) by unfold isColP; first | rfl | (rw [eo']; rfl) | (rw [eo', et']; rfl) | (rw [et']; rfl)]
 clear hn hS hb hw2
 obtain ⟨b0, h0⟩ : ∃ b, (op.toList == [99, 111, 108]) = b := ⟨_, rfl⟩
 rw [h0]
 clear eo' et'
 cases b0
 ·go_enter Tryz.func90, Tryz.ntmps90
  go_upto_region 1 with fail
  try rw [HW2.out]
  obtain ⟨x0, x1, x2, xf⟩ := N2.out
  go_wp2
  go_ret
  exact ⟨by first | rfl | (exact retB (by simp [*])), B2.out⟩
 ·skip
  have HC1 := hid (fun (w3 : World) (hb : Below w2.heap.size w2 w3) => is_leaf w3 t S op tx X t.ks.length k w3 (Below.refl _ _) (fun g h => Nat.lt_of_lt_of_le (HS2.out g h) hb.size) (HN.out.bel HS2.out hb))
  obtain ⟨b1, h1⟩ : ∃ b, leafB t = b := ⟨_, rfl⟩
  rw [h1] at HC1
  rw [h1]
  go_enter Tryz.func90, Tryz.ntmps90
  go_upto_region 1 with fail
  try rw [HW2.out]
  obtain ⟨x0, x1, x2, xf⟩ := N2.out
  go_wp2_with fail
  refine (HC1.out w2 (Below.refl _ _)).mono ?_
  rintro e w5 ⟨rfl, hb50⟩
  have L0 := hid (show Below w2.heap.size w2 w5 from hb50)
  clear x0 x1 x2 xf
  go_wp2
  go_ret
  exact ⟨by first | rfl | (exact retB (by simp)), B2.out.trans (L0.out.mono B2.out.size)⟩
theorem is_item (w : World) : AskN 88 #[] isItemP w := by
 intro t S op tx X n k w1 hb hS hn
 obtain ⟨rfl, eo', et', hcap, hkl, w2, hw2, B2, N2, HS2, HN⟩ := ask_pre hS hn
 have HW2 := hid hw2
 try dsimp only
 rw [show isItemP t = ((op.toList == [105, 116, 101, 109]) && t.ks.length == 1) by unfold isItemP; first | rfl | (rw [eo']; rfl) | (rw [eo', et']; rfl) | (rw [et']; rfl)]
 clear hn hS hb hw2
 obtain ⟨b0, h0⟩ : ∃ b, (op.toList == [105, 116, 101, 109]) = b := ⟨_, rfl⟩
 rw [h0]
 obtain ⟨b1, h1⟩ : ∃ b, (t.ks.length == 1) = b := ⟨_, rfl⟩
 have h1z : ((t.ks.length : Int) == 1) = b1 := by rw [← h1, Bool.eq_iff_iff]; simp <;> omega
 rw [h1]
 clear eo' et'
 cases b0
 ·go_enter Tryz.func88, Tryz.ntmps88
  go_upto_region 1 with fail
  try rw [HW2.out]
  obtain ⟨x0, x1, x2, xf⟩ := N2.out
  go_wp2
  go_ret
  exact ⟨by first | rfl | (exact retB (by simp [*])), B2.out⟩
 ·skip
  go_enter Tryz.func88, Tryz.ntmps88
  go_upto_region 1 with fail
  try rw [HW2.out]
  obtain ⟨x0, x1, x2, xf⟩ := N2.out
  go_wp2
  go_ret
  exact ⟨by first | rfl | (exact retB (by simp [*])), B2.out⟩
theorem is_on (w : World) : AskN 89 #[] isOnP w := by
 intro t S op tx X n k w1 hb hS hn
 obtain ⟨rfl, eo', et', hcap, hkl, w2, hw2, B2, N2, HS2, HN⟩ := ask_pre hS hn
 have HW2 := hid hw2
 try dsimp only
 rw [show isOnP t = ((op.toList == [111, 110]) && t.ks.length == 1 && t.ks.all isColP) by unfold isOnP; first | rfl | (rw [eo']; rfl) | (rw [eo', et']; rfl) | (rw [et']; rfl)]
 clear hn hS hb hw2
 obtain ⟨b0, h0⟩ : ∃ b, (op.toList == [111, 110]) = b := ⟨_, rfl⟩
 rw [h0]
 obtain ⟨b1, h1⟩ : ∃ b, (t.ks.length == 1) = b := ⟨_, rfl⟩
 have h1z : ((t.ks.length : Int) == 1) = b1 := by rw [← h1, Bool.eq_iff_iff]; simp <;> omega
 rw [h1]
 clear eo' et'
 cases b0
 ·go_enter Tryz.func89, Tryz.ntmps89
  go_upto_region 1 with fail
  try rw [HW2.out]
  obtain ⟨x0, x1, x2, xf⟩ := N2.out
  go_wp2
  go_ret
  exact ⟨by first | rfl | (exact retB (by simp [*])), B2.out⟩
 ·skip
  cases b1
  ·go_enter Tryz.func89, Tryz.ntmps89
   go_upto_region 1 with fail
   try rw [HW2.out]
   obtain ⟨x0, x1, x2, xf⟩ := N2.out
   go_wp2
   go_ret
   exact ⟨by first | rfl | (exact retB (by simp [*])), B2.out⟩
  ·skip
   have HC2 := hid (fun (w3 : World) (hb : Below w2.heap.size w2 w3) => allN_any 90 (enters_of Tryz.func90 (by kernel_rfl) rfl) #[] isColP X k t.ks S w3 (fun g h => Nat.lt_of_lt_of_le (HS2.out g h) hb.size) (HN.out.nls.bel HS2.out hb) hkl (is_col w3))
   obtain ⟨b2, h2⟩ : ∃ b, t.ks.all isColP = b := ⟨_, rfl⟩
   rw [h2] at HC2
   rw [h2]
   go_enter Tryz.func89, Tryz.ntmps89
   go_upto_region 1 with fail
   try rw [HW2.out]
   obtain ⟨x0, x1, x2, xf⟩ := N2.out
   go_wp2_with fail
   refine (HC2.out w2 (Below.refl _ _)).mono ?_
   rintro e w5 ⟨rfl, hb50⟩
   have L0 := hid (show Below w2.heap.size w2 w5 from hb50)
   clear x0 x1 x2 xf
   go_wp2
   go_ret
   exact ⟨by first | rfl | (exact retB (by simp)), B2.out.trans (L0.out.mono B2.out.size)⟩
theorem is_by (w : World) : AskN 94 #[] isByP w := by
 intro t S op tx X n k w1 hb hS hn
 obtain ⟨rfl, eo', et', hcap, hkl, w2, hw2, B2, N2, HS2, HN⟩ := ask_pre hS hn
 have HW2 := hid hw2
 try dsimp only
 rw [show isByP t = ((op.toList == [98, 121]) && (tx.toList == []) && t.ks.all isColP) by unfold isByP; first | rfl | (rw [eo']; rfl) | (rw [eo', et']; rfl) | (rw [et']; rfl)]
 clear hn hS hb hw2
 obtain ⟨b0, h0⟩ : ∃ b, (op.toList == [98, 121]) = b := ⟨_, rfl⟩
 rw [h0]
 obtain ⟨b1, h1⟩ : ∃ b, (tx.toList == []) = b := ⟨_, rfl⟩
 have h1x := (pltx_nil tx).trans h1
 have h1y := (pltx_data tx).trans h1
 rw [h1]
 clear eo' et'
 cases b0
 ·go_enter Tryz.func94, Tryz.ntmps94
  go_upto_region 1 with fail
  try rw [HW2.out]
  obtain ⟨x0, x1, x2, xf⟩ := N2.out
  go_wp2
  go_ret
  exact ⟨by first | rfl | (exact retB (by simp [*])), B2.out⟩
 ·skip
  cases b1
  ·go_enter Tryz.func94, Tryz.ntmps94
   go_upto_region 1 with fail
   try rw [HW2.out]
   obtain ⟨x0, x1, x2, xf⟩ := N2.out
   go_wp2
   go_ret
   exact ⟨by first | rfl | (exact retB (by simp [*])), B2.out⟩
  ·skip
   have HC2 := hid (fun (w3 : World) (hb : Below w2.heap.size w2 w3) => allN_any 90 (enters_of Tryz.func90 (by kernel_rfl) rfl) #[] isColP X k t.ks S w3 (fun g h => Nat.lt_of_lt_of_le (HS2.out g h) hb.size) (HN.out.nls.bel HS2.out hb) hkl (is_col w3))
   obtain ⟨b2, h2⟩ : ∃ b, t.ks.all isColP = b := ⟨_, rfl⟩
   rw [h2] at HC2
   rw [h2]
   go_enter Tryz.func94, Tryz.ntmps94
   go_upto_region 1 with fail
   try rw [HW2.out]
   obtain ⟨x0, x1, x2, xf⟩ := N2.out
   go_wp2_with fail
   refine (HC2.out w2 (Below.refl _ _)).mono ?_
   rintro e w5 ⟨rfl, hb50⟩
   have L0 := hid (show Below w2.heap.size w2 w5 from hb50)
   clear x0 x1 x2 xf
   go_wp2
   go_ret
   exact ⟨by first | rfl | (exact retB (by simp)), B2.out.trans (L0.out.mono B2.out.size)⟩
theorem plit_ne {op : ByteArray} {s : List UInt8} (h : op.data.toList ≠ s) : (op.toList == s) = false := by
 rw [ByteArray.toList_eq]
 simpa using h
theorem is_call (w : World) : AskN 96 #[] isCallP w := by
 intro t S op tx X n k w1 hb hS hn
 obtain ⟨rfl, eo0, et', hcap, hkl, w2, hw2, B2, N2, HS2, HN⟩ := ask_pre hS hn
 have eo' : t.op = op.data.toList := by rw [eo0, ByteArray.toList_eq]
 have HC := hid (fun (w3 : World) (hb : Below w2.heap.size w2 w3) => is_leaf w3 t S op tx X t.ks.length k w3 (Below.refl _ _) (fun g h => Nat.lt_of_lt_of_le (HS2.out g h) hb.size) (HN.out.bel HS2.out hb))
 have HW2 := hid hw2
 try dsimp only at HC ⊢
 have hP : isCallP t = if op.data.toList = sCount then tx.toList == [] && leafB t else if op.data.toList ∈ [sSum, sMin, sMax] then leafB t else false := by unfold isCallP; rw [eo', et']; rfl
 rw [hP]
 obtain ⟨b2, h2⟩ : ∃ b, leafB t = b := ⟨_, rfl⟩
 rw [h2] at HC ⊢
 clear hn hS hb hw2 eo' eo0 et' hP h2
 by_cases h0 : op.data.toList = sCount
 ·obtain rfl : op = ⟨#[99, 111, 117, 110, 116]⟩ := by rw [← Lib.mk_data op, h0]; rfl
  rw [if_pos h0]
  obtain ⟨b1, h1⟩ : ∃ b, (tx.toList == []) = b := ⟨_, rfl⟩
  have h1x := (pltx_nil tx).trans h1
  have h1y := (pltx_data tx).trans h1
  rw [h1]
  clear h0
  cases b1
  ·go_enter Tryz.func96, Tryz.ntmps96
   go_upto_region 1 with fail
   try rw [HW2.out]
   obtain ⟨x0, x1, x2, xf⟩ := N2.out
   go_wp2
   go_ret
   exact ⟨by first | rfl | (exact retB (by simp)), B2.out⟩
  ·go_enter Tryz.func96, Tryz.ntmps96
   go_upto_region 1 with fail
   try rw [HW2.out]
   obtain ⟨x0, x1, x2, xf⟩ := N2.out
   go_wp2_with fail
   refine (HC.out w2 (Below.refl _ _)).mono ?_
   rintro e w5 ⟨rfl, hb5⟩
   have L0 := hid hb5
   clear x0 x1 x2 xf hb5
   go_wp2
   go_ret
   exact ⟨by first | rfl | (exact retB (by simp)), B2.out.trans (L0.out.mono B2.out.size)⟩
 rw [if_neg h0]
 by_cases h5 : op.data.toList ∈ [sSum, sMin, sMax]
 ·rw [if_pos h5]
  simp only [List.mem_cons, List.not_mem_nil, or_false] at h5
  rcases h5 with h5 | h5 | h5
  ·obtain rfl : op = ⟨#[115, 117, 109]⟩ := by rw [← Lib.mk_data op, h5]; rfl
   clear h5 h0
   go_enter Tryz.func96, Tryz.ntmps96
   go_upto_region 1 with fail
   try rw [HW2.out]
   obtain ⟨x0, x1, x2, xf⟩ := N2.out
   go_wp2_with fail
   refine (HC.out w2 (Below.refl _ _)).mono ?_
   rintro e w5 ⟨rfl, hb5⟩
   have L0 := hid hb5
   clear x0 x1 x2 xf hb5
   go_wp2
   go_ret
   exact ⟨rfl, B2.out.trans (L0.out.mono B2.out.size)⟩
  ·obtain rfl : op = ⟨#[109, 105, 110]⟩ := by rw [← Lib.mk_data op, h5]; rfl
   clear h5 h0
   go_enter Tryz.func96, Tryz.ntmps96
   go_upto_region 1 with fail
   try rw [HW2.out]
   obtain ⟨x0, x1, x2, xf⟩ := N2.out
   go_wp2_with fail
   refine (HC.out w2 (Below.refl _ _)).mono ?_
   rintro e w5 ⟨rfl, hb5⟩
   have L0 := hid hb5
   clear x0 x1 x2 xf hb5
   go_wp2
   go_ret
   exact ⟨rfl, B2.out.trans (L0.out.mono B2.out.size)⟩
  ·obtain rfl : op = ⟨#[109, 97, 120]⟩ := by rw [← Lib.mk_data op, h5]; rfl
   clear h5 h0
   go_enter Tryz.func96, Tryz.ntmps96
   go_upto_region 1 with fail
   try rw [HW2.out]
   obtain ⟨x0, x1, x2, xf⟩ := N2.out
   go_wp2_with fail
   refine (HC.out w2 (Below.refl _ _)).mono ?_
   rintro e w5 ⟨rfl, hb5⟩
   have L0 := hid hb5
   clear x0 x1 x2 xf hb5
   go_wp2
   go_ret
   exact ⟨rfl, B2.out.trans (L0.out.mono B2.out.size)⟩
 rw [if_neg h5]
 simp only [List.mem_cons, List.not_mem_nil, or_false, not_or] at h5
 have f0 := plit_ne h0
 have f1 := plit_ne h5.1
 have f2 := plit_ne h5.2.1
 have f3 := plit_ne h5.2.2
 unfold sCount at f0
 unfold sSum at f1
 unfold sMin at f2
 unfold sMax at f3
 clear h0 h5
 go_enter Tryz.func96, Tryz.ntmps96
 go_upto_region 1 with fail
 try rw [HW2.out]
 obtain ⟨x0, x1, x2, xf⟩ := N2.out
 go_wp2
 go_ret
 exact ⟨rfl, B2.out⟩
theorem is_agg (w : World) : AskN 95 #[] isAggP w := by
 intro t S op tx X n k w1 hb hS hn
 obtain ⟨rfl, eo', et', hcap, hkl, w2, hw2, B2, N2, HS2, HN⟩ := ask_pre hS hn
 have HW2 := hid hw2
 try dsimp only
 rw [show isAggP t = ((op.toList == [97, 103, 103]) && t.ks.length == 1 && t.ks.all isCallP) by unfold isAggP; first | rfl | (rw [eo']; rfl) | (rw [eo', et']; rfl) | (rw [et']; rfl)]
 clear hn hS hb hw2
 obtain ⟨b0, h0⟩ : ∃ b, (op.toList == [97, 103, 103]) = b := ⟨_, rfl⟩
 rw [h0]
 obtain ⟨b1, h1⟩ : ∃ b, (t.ks.length == 1) = b := ⟨_, rfl⟩
 have h1z : ((t.ks.length : Int) == 1) = b1 := by rw [← h1, Bool.eq_iff_iff]; simp <;> omega
 rw [h1]
 clear eo' et'
 cases b0
 ·go_enter Tryz.func95, Tryz.ntmps95
  go_upto_region 1 with fail
  try rw [HW2.out]
  obtain ⟨x0, x1, x2, xf⟩ := N2.out
  go_wp2
  go_ret
  exact ⟨by first | rfl | (exact retB (by simp [*])), B2.out⟩
 ·skip
  cases b1
  ·go_enter Tryz.func95, Tryz.ntmps95
   go_upto_region 1 with fail
   try rw [HW2.out]
   obtain ⟨x0, x1, x2, xf⟩ := N2.out
   go_wp2
   go_ret
   exact ⟨by first | rfl | (exact retB (by simp [*])), B2.out⟩
  ·skip
   have HC2 := hid (fun (w3 : World) (hb : Below w2.heap.size w2 w3) => allN_any 96 (enters_of Tryz.func96 (by kernel_rfl) rfl) #[] isCallP X k t.ks S w3 (fun g h => Nat.lt_of_lt_of_le (HS2.out g h) hb.size) (HN.out.nls.bel HS2.out hb) hkl (is_call w3))
   obtain ⟨b2, h2⟩ : ∃ b, t.ks.all isCallP = b := ⟨_, rfl⟩
   rw [h2] at HC2
   rw [h2]
   go_enter Tryz.func95, Tryz.ntmps95
   go_upto_region 1 with fail
   try rw [HW2.out]
   obtain ⟨x0, x1, x2, xf⟩ := N2.out
   go_wp2_with fail
   refine (HC2.out w2 (Below.refl _ _)).mono ?_
   rintro e w5 ⟨rfl, hb50⟩
   have L0 := hid (show Below w2.heap.size w2 w5 from hb50)
   clear x0 x1 x2 xf
   go_wp2
   go_ret
   exact ⟨by first | rfl | (exact retB (by simp)), B2.out.trans (L0.out.mono B2.out.size)⟩
theorem is_filter (w : World) : AskN 47 #[] (fun t => formP sFilter t.tx t.ks) w := by
 intro t S op tx X n k w1 hb hS hn
 obtain ⟨rfl, eo', et', hcap, hkl, w2, hw2, B2, N2, HS2, HN⟩ := ask_pre hS hn
 have HW2 := hid hw2
 try dsimp only
 rw [show formP sFilter t.tx t.ks = ((tx.toList == []) && t.ks.length == 2) by unfold formP; first | rfl | (rw [et']; rfl)]
 clear hn hS hb hw2
 obtain ⟨b0, h0⟩ : ∃ b, (tx.toList == []) = b := ⟨_, rfl⟩
 have h0x := (pltx_nil tx).trans h0
 have h0y := (pltx_data tx).trans h0
 rw [h0]
 obtain ⟨b1, h1⟩ : ∃ b, (t.ks.length == 2) = b := ⟨_, rfl⟩
 have h1z : ((t.ks.length : Int) == 2) = b1 := by rw [← h1, Bool.eq_iff_iff]; simp <;> omega
 rw [h1]
 clear eo' et'
 cases b0
 ·go_enter Tryz.func47, Tryz.ntmps47
  go_upto_region 1 with fail
  try rw [HW2.out]
  obtain ⟨x0, x1, x2, xf⟩ := N2.out
  go_wp2
  go_ret
  exact ⟨by first | rfl | (exact retB (by simp [*])), B2.out⟩
 ·skip
  go_enter Tryz.func47, Tryz.ntmps47
  go_upto_region 1 with fail
  try rw [HW2.out]
  obtain ⟨x0, x1, x2, xf⟩ := N2.out
  go_wp2
  go_ret
  exact ⟨by first | rfl | (exact retB (by simp [*])), B2.out⟩
theorem is_project (w : World) : AskN 49 #[] (fun t => formP sProject t.tx t.ks) w := by
 intro t S op tx X n k w1 hb hS hn
 obtain ⟨rfl, eo', et', hcap, hkl, w2, hw2, B2, N2, HS2, HN⟩ := ask_pre hS hn
 have HW2 := hid hw2
 try dsimp only
 rw [show formP sProject t.tx t.ks = ((tx.toList == []) && decide (2 ≤ t.ks.length) && (t.ks.drop 1).all isItemP) by unfold formP; first | rfl | (rw [et']; rfl)]
 clear hn hS hb hw2
 obtain ⟨b0, h0⟩ : ∃ b, (tx.toList == []) = b := ⟨_, rfl⟩
 have h0x := (pltx_nil tx).trans h0
 have h0y := (pltx_data tx).trans h0
 rw [h0]
 obtain ⟨b1, h1⟩ : ∃ b, decide (2 ≤ t.ks.length) = b := ⟨_, rfl⟩
 have h1z : decide ((2 : Int) ≤ (t.ks.length : Int)) = b1 := by rw [← h1, decide_eq_decide]; omega
 rw [h1]
 clear eo' et'
 cases b0
 ·go_enter Tryz.func49, Tryz.ntmps49
  go_upto_region 1 with fail
  try rw [HW2.out]
  obtain ⟨x0, x1, x2, xf⟩ := N2.out
  go_wp2
  go_ret
  exact ⟨by first | rfl | (exact retB (by simp [*])), B2.out⟩
 ·skip
  cases b1
  ·go_enter Tryz.func49, Tryz.ntmps49
   go_upto_region 1 with fail
   try rw [HW2.out]
   obtain ⟨x0, x1, x2, xf⟩ := N2.out
   go_wp2
   go_ret
   exact ⟨by first | rfl | (exact retB (by simp [*])), B2.out⟩
  ·skip
   have hge : 2 ≤ t.ks.length := of_decide_eq_true h1
   obtain ⟨ad, y0, eA, -⟩ := HN.out.kid 0 (by omega)
   dsimp only at eA
   subst eA
   clear y0
   have HSL : ∀ w, (Instr.slice 22 (.slice (some ad) t.ks.length k) (some (.int .i64 1)) none none).run Tryz.prog w = .ok (.slice (some (ad.add 3)) (t.ks.length - 1) (k - 1)) w := fun w => cut_nodes ad t.ks.length k 1 (by omega) hcap w
   have HC2 := hid (fun (w3 : World) (hb : Below w2.heap.size w2 w3) => allN_any 88 (enters_of Tryz.func88 (by kernel_rfl) rfl) #[] isItemP (some (ad.add (1 * 3))) (k - 1) (t.ks.drop 1) S w3 (fun g h => Nat.lt_of_lt_of_le (HS2.out g h) hb.size) ((HN.out.nls.drop 1).bel HS2.out hb) (by rw [List.length_drop]; omega) (is_item w3))
   rw [List.length_drop] at HC2
   obtain ⟨b2, h2⟩ : ∃ b, (t.ks.drop 1).all isItemP = b := ⟨_, rfl⟩
   rw [h2] at HC2
   rw [h2]
   go_enter Tryz.func49, Tryz.ntmps49
   go_upto_region 1 with fail
   try rw [HW2.out]
   obtain ⟨x0, x1, x2, xf⟩ := N2.out
   go_wp2_with fail
   refine (HC2.out w2 (Below.refl _ _)).mono ?_
   rintro e w5 ⟨rfl, hb50⟩
   have L0 := hid (show Below w2.heap.size w2 w5 from hb50)
   clear x0 x1 x2 xf
   go_wp2
   go_ret
   exact ⟨by first | rfl | (exact retB (by simp)), B2.out.trans (L0.out.mono B2.out.size)⟩
theorem is_join (w : World) : AskN 51 #[] (fun t => formP sJoin t.tx t.ks) w := by
 intro t S op tx X n k w1 hb hS hn
 obtain ⟨rfl, eo', et', hcap, hkl, w2, hw2, B2, N2, HS2, HN⟩ := ask_pre hS hn
 have HW2 := hid hw2
 try dsimp only
 rw [show formP sJoin t.tx t.ks = ((tx.toList == []) && decide (3 ≤ t.ks.length) && (t.ks.drop 2).all isOnP) by unfold formP; first | rfl | (rw [et']; rfl)]
 clear hn hS hb hw2
 obtain ⟨b0, h0⟩ : ∃ b, (tx.toList == []) = b := ⟨_, rfl⟩
 have h0x := (pltx_nil tx).trans h0
 have h0y := (pltx_data tx).trans h0
 rw [h0]
 obtain ⟨b1, h1⟩ : ∃ b, decide (3 ≤ t.ks.length) = b := ⟨_, rfl⟩
 have h1z : decide ((3 : Int) ≤ (t.ks.length : Int)) = b1 := by rw [← h1, decide_eq_decide]; omega
 rw [h1]
 clear eo' et'
 cases b0
 ·go_enter Tryz.func51, Tryz.ntmps51
  go_upto_region 1 with fail
  try rw [HW2.out]
  obtain ⟨x0, x1, x2, xf⟩ := N2.out
  go_wp2
  go_ret
  exact ⟨by first | rfl | (exact retB (by simp [*])), B2.out⟩
 ·skip
  cases b1
  ·go_enter Tryz.func51, Tryz.ntmps51
   go_upto_region 1 with fail
   try rw [HW2.out]
   obtain ⟨x0, x1, x2, xf⟩ := N2.out
   go_wp2
   go_ret
   exact ⟨by first | rfl | (exact retB (by simp [*])), B2.out⟩
  ·skip
   have hge : 3 ≤ t.ks.length := of_decide_eq_true h1
   obtain ⟨ad, y0, eA, -⟩ := HN.out.kid 0 (by omega)
   dsimp only at eA
   subst eA
   clear y0
   have HSL : ∀ w, (Instr.slice 22 (.slice (some ad) t.ks.length k) (some (.int .i64 2)) none none).run Tryz.prog w = .ok (.slice (some (ad.add 6)) (t.ks.length - 2) (k - 2)) w := fun w => cut_nodes ad t.ks.length k 2 (by omega) hcap w
   have HC2 := hid (fun (w3 : World) (hb : Below w2.heap.size w2 w3) => allN_any 89 (enters_of Tryz.func89 (by kernel_rfl) rfl) #[] isOnP (some (ad.add (2 * 3))) (k - 2) (t.ks.drop 2) S w3 (fun g h => Nat.lt_of_lt_of_le (HS2.out g h) hb.size) ((HN.out.nls.drop 2).bel HS2.out hb) (by rw [List.length_drop]; omega) (is_on w3))
   rw [List.length_drop] at HC2
   obtain ⟨b2, h2⟩ : ∃ b, (t.ks.drop 2).all isOnP = b := ⟨_, rfl⟩
   rw [h2] at HC2
   rw [h2]
   go_enter Tryz.func51, Tryz.ntmps51
   go_upto_region 1 with fail
   try rw [HW2.out]
   obtain ⟨x0, x1, x2, xf⟩ := N2.out
   go_wp2_with fail
   refine (HC2.out w2 (Below.refl _ _)).mono ?_
   rintro e w5 ⟨rfl, hb50⟩
   have L0 := hid (show Below w2.heap.size w2 w5 from hb50)
   clear x0 x1 x2 xf
   go_wp2
   go_ret
   exact ⟨by first | rfl | (exact retB (by simp)), B2.out.trans (L0.out.mono B2.out.size)⟩
theorem is_union (w : World) : AskN 53 #[] (fun t => formP sUnion t.tx t.ks) w := by
 intro t S op tx X n k w1 hb hS hn
 obtain ⟨rfl, eo', et', hcap, hkl, w2, hw2, B2, N2, HS2, HN⟩ := ask_pre hS hn
 have HW2 := hid hw2
 try dsimp only
 rw [show formP sUnion t.tx t.ks = ((tx.toList == []) && decide (2 ≤ t.ks.length)) by unfold formP; first | rfl | (rw [et']; rfl)]
 clear hn hS hb hw2
 obtain ⟨b0, h0⟩ : ∃ b, (tx.toList == []) = b := ⟨_, rfl⟩
 have h0x := (pltx_nil tx).trans h0
 have h0y := (pltx_data tx).trans h0
 rw [h0]
 obtain ⟨b1, h1⟩ : ∃ b, decide (2 ≤ t.ks.length) = b := ⟨_, rfl⟩
 have h1z : decide ((2 : Int) ≤ (t.ks.length : Int)) = b1 := by rw [← h1, decide_eq_decide]; omega
 rw [h1]
 clear eo' et'
 cases b0
 ·go_enter Tryz.func53, Tryz.ntmps53
  go_upto_region 1 with fail
  try rw [HW2.out]
  obtain ⟨x0, x1, x2, xf⟩ := N2.out
  go_wp2
  go_ret
  exact ⟨by first | rfl | (exact retB (by simp [*])), B2.out⟩
 ·skip
  go_enter Tryz.func53, Tryz.ntmps53
  go_upto_region 1 with fail
  try rw [HW2.out]
  obtain ⟨x0, x1, x2, xf⟩ := N2.out
  go_wp2
  go_ret
  exact ⟨by first | rfl | (exact retB (by simp [*])), B2.out⟩
theorem is_distinct (w : World) : AskN 55 #[] (fun t => formP sDistinct t.tx t.ks) w := by
 intro t S op tx X n k w1 hb hS hn
 obtain ⟨rfl, eo', et', hcap, hkl, w2, hw2, B2, N2, HS2, HN⟩ := ask_pre hS hn
 have HW2 := hid hw2
 try dsimp only
 rw [show formP sDistinct t.tx t.ks = ((tx.toList == []) && t.ks.length == 1) by unfold formP; first | rfl | (rw [et']; rfl)]
 clear hn hS hb hw2
 obtain ⟨b0, h0⟩ : ∃ b, (tx.toList == []) = b := ⟨_, rfl⟩
 have h0x := (pltx_nil tx).trans h0
 have h0y := (pltx_data tx).trans h0
 rw [h0]
 obtain ⟨b1, h1⟩ : ∃ b, (t.ks.length == 1) = b := ⟨_, rfl⟩
 have h1z : ((t.ks.length : Int) == 1) = b1 := by rw [← h1, Bool.eq_iff_iff]; simp <;> omega
 rw [h1]
 clear eo' et'
 cases b0
 ·go_enter Tryz.func55, Tryz.ntmps55
  go_upto_region 1 with fail
  try rw [HW2.out]
  obtain ⟨x0, x1, x2, xf⟩ := N2.out
  go_wp2
  go_ret
  exact ⟨by first | rfl | (exact retB (by simp [*])), B2.out⟩
 ·skip
  go_enter Tryz.func55, Tryz.ntmps55
  go_upto_region 1 with fail
  try rw [HW2.out]
  obtain ⟨x0, x1, x2, xf⟩ := N2.out
  go_wp2
  go_ret
  exact ⟨by first | rfl | (exact retB (by simp [*])), B2.out⟩
theorem is_group (w : World) : AskN 57 #[] (fun t => formP sGroup t.tx t.ks) w := by
 intro t S op tx X n k w1 hb hS hn
 obtain ⟨rfl, eo', et', hcap, hkl, w2, hw2, B2, N2, HS2, HN⟩ := ask_pre hS hn
 have HW2 := hid hw2
 try dsimp only
 rw [show formP sGroup t.tx t.ks = ((tx.toList == []) && decide (3 ≤ t.ks.length) && isByP (nthN t.ks 1) && (t.ks.drop 2).all isAggP) by unfold formP; first | rfl | (rw [et']; rfl)]
 clear hn hS hb hw2
 obtain ⟨b0, h0⟩ : ∃ b, (tx.toList == []) = b := ⟨_, rfl⟩
 have h0x := (pltx_nil tx).trans h0
 have h0y := (pltx_data tx).trans h0
 rw [h0]
 obtain ⟨b1, h1⟩ : ∃ b, decide (3 ≤ t.ks.length) = b := ⟨_, rfl⟩
 have h1z : decide ((3 : Int) ≤ (t.ks.length : Int)) = b1 := by rw [← h1, decide_eq_decide]; omega
 rw [h1]
 clear eo' et'
 cases b0
 ·go_enter Tryz.func57, Tryz.ntmps57
  go_upto_region 1 with fail
  try rw [HW2.out]
  obtain ⟨x0, x1, x2, xf⟩ := N2.out
  go_wp2
  go_ret
  exact ⟨by first | rfl | (exact retB (by simp [*])), B2.out⟩
 ·skip
  cases b1
  ·go_enter Tryz.func57, Tryz.ntmps57
   go_upto_region 1 with fail
   try rw [HW2.out]
   obtain ⟨x0, x1, x2, xf⟩ := N2.out
   go_wp2
   go_ret
   exact ⟨by first | rfl | (exact retB (by simp [*])), B2.out⟩
  ·skip
   have hge : 3 ≤ t.ks.length := of_decide_eq_true h1
   obtain ⟨ad, y0, eA, -⟩ := HN.out.kid 0 (by omega)
   dsimp only at eA
   subst eA
   clear y0
   obtain ⟨ad9, ⟨op', tx', X', n', m'⟩, eA9, hS9, q0, q1, q2, hk9⟩ := HN.out.kid 1 (by omega)
   dsimp only at eA9 q0 q1 q2
   cases eA9
   rw [show ad.add (1 * 3) = (⟨ad.block, ad.off + 3, none⟩ : Addr) from rfl] at q0 q1 q2
   dsimp only at q1 q2
   have HC2 := hid (fun (w3 : World) (hb : Below w2.heap.size w2 w3) => is_by w3 t.ks[1] S op' tx' X' n' m' w3 (Below.refl _ _) (fun g h => Nat.lt_of_lt_of_le (HS2.out g h) hb.size) (hk9.bel HS2.out hb))
   have hnth : nthN t.ks 1 = t.ks[1] := by unfold nthN; rw [List.getD_eq_getElem?_getD, List.getElem?_eq_getElem (by omega), Option.getD_some]
   rw [hnth]
   clear hk9 hnth
   obtain ⟨b2, h2⟩ : ∃ b, isByP t.ks[1] = b := ⟨_, rfl⟩
   rw [h2] at HC2
   rw [h2]
   have HSL : ∀ w, (Instr.slice 22 (.slice (some ad) t.ks.length k) (some (.int .i64 2)) none none).run Tryz.prog w = .ok (.slice (some (ad.add 6)) (t.ks.length - 2) (k - 2)) w := fun w => cut_nodes ad t.ks.length k 2 (by omega) hcap w
   have HC3 := hid (fun (w3 : World) (hb : Below w2.heap.size w2 w3) => allN_any 95 (enters_of Tryz.func95 (by kernel_rfl) rfl) #[] isAggP (some (ad.add (2 * 3))) (k - 2) (t.ks.drop 2) S w3 (fun g h => Nat.lt_of_lt_of_le (HS2.out g h) hb.size) ((HN.out.nls.drop 2).bel HS2.out hb) (by rw [List.length_drop]; omega) (is_agg w3))
   rw [List.length_drop] at HC3
   obtain ⟨b3, h3⟩ : ∃ b, (t.ks.drop 2).all isAggP = b := ⟨_, rfl⟩
   rw [h3] at HC3
   rw [h3]
   go_enter Tryz.func57, Tryz.ntmps57
   go_upto_region 1 with fail
   try rw [HW2.out]
   obtain ⟨x0, x1, x2, xf⟩ := N2.out
   go_wp2_with fail
   refine (HC2.out w2 (Below.refl _ _)).mono ?_
   rintro e w5 ⟨rfl, hb50⟩
   have L0 := hid (show Below w2.heap.size w2 w5 from hb50)
   clear x0 x1 x2 xf q0 q1 q2
   cases b2
   ·go_wp2
    go_ret
    exact ⟨rfl, B2.out.trans (L0.out.mono B2.out.size)⟩
   ·skip
    obtain ⟨x0, x1, x2, xf⟩ := N2.out.below L0.out
    go_wp2_with fail
    refine (HC3.out w5 L0.out).mono ?_
    rintro e w6 ⟨rfl, hb51⟩
    have L1 := hid (show Below w2.heap.size w2 w6 from L0.out.trans (hb51.mono L0.out.size))
    clear x0 x1 x2 xf
    go_wp2
    go_ret
    exact ⟨by first | rfl | (exact retB (by simp)), B2.out.trans (L1.out.mono B2.out.size)⟩
end Go.Proofs.YthpmgnfmeldkjaaGreatDoor.Code
/-
  The number that figures are, one by one. No program is named here.
-/
namespace Go.Proofs.YthpmgnfmeldkjaaGreatDoor.Code
open Val
def digI (n : Int) (c : UInt8) : Int := n * 10 + (c.toNat - 48 : Nat)
def foldI (l : List UInt8) (n : Int) : Int := l.foldl digI n
theorem amount_fold (tx : List UInt8) : amountL tx = if decide (1 ≤ tx.length ∧ tx.length ≤ 19) && tx.all figB then (if foldI tx 0 ≤ 9223372036854775807 then some (foldI tx 0) else none) else none := rfl
theorem foldI_le : ∀ (l : List UInt8) (n : Int), 0 ≤ n → n ≤ foldI l n
 | [], n, _ => Int.le_refl _
 | c :: l, n, h => by
  have h1 : n ≤ digI n c ∧ 0 ≤ digI n c := by
   have : (0 : Int) ≤ ((c.toNat - 48 : Nat) : Int) := Int.natCast_nonneg _
   unfold digI
   omega
  have := foldI_le l (digI n c) h1.2
  show n ≤ foldI l (digI n c)
  omega
theorem foldI_take (l : List UInt8) (k : Nat) (h : k < l.length) : foldI (l.take (k + 1)) 0 = digI (foldI (l.take k) 0) l[k] := by
 unfold foldI
 rw [List.take_succ_eq_append_getElem h, List.foldl_append]
 rfl
theorem foldI_pos (l : List UInt8) : 0 ≤ foldI l 0 := foldI_le l 0 (Int.le_refl _)
theorem amount_len {tx : List UInt8} (h : ¬ (1 ≤ tx.length ∧ tx.length ≤ 19)) : amountL tx = none := by
 rw [amount_fold, decide_eq_false h]
 rfl
theorem amount_no {tx : List UInt8} {k : Nat} (hk : k < tx.length) (h : figB tx[k] = false) : amountL tx = none := by
 rw [amount_fold]
 have : tx.all figB = false := by
  rw [List.all_eq_false]
  exact ⟨_, List.getElem_mem hk, by rw [h]; decide⟩
 rw [this, Bool.and_false]
 rfl
theorem amount_over {tx : List UInt8} {k : Nat} (hk : k < tx.length) (h : 9223372036854775807 < digI (foldI (tx.take k) 0) tx[k]) : amountL tx = none := by
 rw [amount_fold]
 split
 ·rw [if_neg]
  have h1 := foldI_take tx k hk
  have h2 : foldI (tx.take (k + 1)) 0 ≤ foldI tx 0 := by
   have h3 : foldI tx 0 = foldI (tx.drop (k + 1)) (foldI (tx.take (k + 1)) 0) := by
    unfold foldI
    rw [← List.foldl_append, List.take_append_drop]
   rw [h3]
   exact foldI_le _ _ (foldI_pos _)
  omega
 ·rfl
theorem amount_yes {tx : List UInt8} (h1 : 1 ≤ tx.length ∧ tx.length ≤ 19) (h2 : ∀ k (hk : k < tx.length), figB tx[k] = true) (h3 : foldI tx 0 ≤ 9223372036854775807) : amountL tx = some (foldI tx 0) := by
 rw [amount_fold, decide_eq_true h1, Bool.true_and, if_pos, if_pos h3]
 rw [List.all_eq_true]
 intro c hc
 obtain ⟨k, hk, rfl⟩ := List.getElem_of_mem hc
 exact h2 k hk
theorem fig_num {c : UInt8} (h : figB c = true) : 48 ≤ c.toNat ∧ c.toNat ≤ 57 := by
 unfold figB at h
 simpa using h
open Go.ChangeShapes Go.WideShapes Go.ChangeAt Go.RowKit Elems
open Go.ChangeMaps Go.MapKept
open Go.WideElems (Fit rd rg pl rd_key rd_val rg_of)
open Go.Maps (Keyed)
set_option maxRecDepth 100000
def hR (v : Value) : Option (DataW Value × List MemPlace) := some (.held v, [])
def mk (k : ByteArray) : Lit := .string k.data.toList
theorem mk_inj {a b : ByteArray} (h : mk a = mk b) : a = b := by
 unfold mk at h
 injection h with h
 rw [← Lib.mk_data a, h, Lib.mk_data]
theorem mk_law : Keyed Tryz.prog 9 := Maps.string_keyed Tryz.underlying9
theorem mk_is {k : ByteArray} (h : k.size ≤ maxLen) : keyOf Tryz.prog 9 (.string k) = some (mk k) := Go.WideMaps.keyOf_string_mk Tryz.underlying9 h
def MSees (D : DataW Value) (f : ByteArray → Option Value) : Prop := ∀ k : ByteArray, k.size ≤ maxLen → Maps.has D (mk k) = (f k).isSome ∧ ∀ s, f k = some s → ∀ z, D.atKey (mk k) z = .held s
def MapR (w : World) (b n : Nat) (f : ByteArray → Option Value) : Prop := ∃ D, w.ownsMap Tryz.prog 9 hR b n D ∧ MSees D f
def mput (f : ByteArray → Option Value) (k : ByteArray) (s : Value) : ByteArray → Option Value := fun x => if x = k then some s else f x
theorem mput_same (f : ByteArray → Option Value) (k : ByteArray) (s : Value) : mput f k s k = some s := by simp [mput]
theorem mput_other (f : ByteArray → Option Value) {k x : ByteArray} (s : Value) (h : x ≠ k) : mput f k s x = f x := by simp [mput, h]
theorem MapR.lt {w : World} {b n : Nat} {f : ByteArray → Option Value} (h : MapR w b n f) : b < w.heap.size := by obtain ⟨D, h1, _⟩ := h; exact h1.lt
theorem MapR.heap {w w' : World} {b n : Nat} {f : ByteArray → Option Value} (h : MapR w b n f) (e : w'.heap[b]? = w.heap[b]?) : MapR w' b n f := by
 obtain ⟨D, ⟨es, clock, hb, r⟩, h2⟩ := h
 exact ⟨D, ⟨es, clock, e.trans hb, r⟩, h2⟩
theorem MapR.below {w w' : World} {b n : Nat} {f : ByteArray → Option Value} (h : MapR w b n f) (hb : Below w.heap.size w w') : MapR w' b n f := h.heap (hb.block _ h.lt)
theorem MapR.alloc {w : World} {b n : Nat} {f : ByteArray → Option Value} (h : MapR w b n f) (o : Obj) : MapR (w.alloc o) b n f := h.below (below_alloc w o)
theorem mapR_made (w : World) : MapR (w.alloc (.map #[] 0)) w.heap.size 0 fun _ => none :=
 ⟨_, World.ownsMap_made w Tryz.prog 9 hR, fun k _ => ⟨rfl, fun s h => by cases h⟩⟩
theorem msees_put {D : DataW Value} {f : ByteArray → Option Value} (hD : Maps.IsMap D) (h : MSees D f) (k : ByteArray) (s : Value) : MSees (D.put (mk k) (.held s)) (mput f k s) := by
 intro x hx
 by_cases e : x = k
 ·subst e
  rw [mput_same]
  refine ⟨Maps.has_put_same hD (by simp [mk, WideAt.IsKeyLit]) _, fun s2 h2 z => ?_⟩
  cases h2
  exact Maps.atKey_put_same hD (by simp [mk, WideAt.IsKeyLit]) _ _
 ·have hne : mk x ≠ mk k := fun h => e (mk_inj h)
  rw [mput_other f _ e, Maps.has_put_other hne]
  exact ⟨(h x hx).1, fun s2 h2 z => by rw [Maps.atKey_put_other hne]; exact (h x hx).2 s2 h2 z⟩
section
variable (w : World) {ops : Array Oper} {rest : List Oper} {o : Oper} {a : Act} {Q : Exit → Act → World → Prop}
end
end Go.Proofs.YthpmgnfmeldkjaaGreatDoor.Code
/-
  Contracts of package num and of the document's answer, for every argument: sums, products, narrowing, zigzags, flips. Each leaves the world as it was.
-/
namespace Go.Proofs.YthpmgnfmeldkjaaGreatDoor.Num
open Go.ChangeShapes Go.WideShapes Go.ChangeAt Go.RowKit
theorem add_any (a b : Int) (w : World) (ha : fits a) (hb : fits b) :
  Calls Tryz.prog 268 #[.int .i64 a, .int .i64 b] w fun e w' => e = .returned (.tuple #[.int .i64 (fitV (a + b)), .int .i64 (fitE (a + b))]) ∧ w = w' := by
 unfold fits at ha hb
 go_enter Tryz.func268, Tryz.ntmps268
 go_wp2
 all_goals go_ret2
 all_goals refine ⟨ret2 ?_ ?_, rfl⟩
 all_goals (try unfold wrap64 at *)
 all_goals (first | unfold fitV | unfold fitE)
 all_goals ((try simp at *) <;> omega)
theorem sub_any (a b : Int) (w : World) (ha : fits a) (hb : fits b) :
  Calls Tryz.prog 274 #[.int .i64 a, .int .i64 b] w fun e w' => e = .returned (.tuple #[.int .i64 (fitV (a - b)), .int .i64 (fitE (a - b))]) ∧ w = w' := by
 unfold fits at ha hb
 go_enter Tryz.func274, Tryz.ntmps274
 go_wp2
 all_goals go_ret2
 all_goals refine ⟨ret2 ?_ ?_, rfl⟩
 all_goals (try unfold wrap64 at *)
 all_goals (first | unfold fitV | unfold fitE)
 all_goals ((try simp at *) <;> omega)
theorem neg_any (a : Int) (w : World) (ha : fits a) :
  Calls Tryz.prog 272 #[.int .i64 a] w fun e w' => e = .returned (.tuple #[.int .i64 (fitV (-a)), .int .i64 (fitE (-a))]) ∧ w = w' := by
 go_enter Tryz.func272, Tryz.ntmps272
 go_wp2_with (go_at_call 274; refine (sub_any _ _ _ (by unfold fits; omega) ha).mono ?_; rintro e w' ⟨rfl, rfl⟩)
 go_ret2
 exact ⟨rfl, rfl⟩
theorem mul_any (a b : Int) (w : World) (ha : fits a) (hb : fits b) :
  Calls Tryz.prog 267 #[.int .i64 a, .int .i64 b] w fun e w' => e = .returned (.tuple #[.int .i64 (fitV (a * b)), .int .i64 (fitE (a * b))]) ∧ w = w' := by
 by_cases h0 : a = 0
 ·subst h0
  go_enter Tryz.func267, Tryz.ntmps267
  go_wp2
  go_ret2
  exact ⟨ret2 (by simp [fitV]) (by simp [fitE]), rfl⟩
 by_cases h1 : a = -1
 ·subst h1
  go_enter Tryz.func267, Tryz.ntmps267
  go_wp2_with (go_at_call 272; refine (neg_any _ _ hb).mono ?_; rintro e w' ⟨rfl, rfl⟩)
  go_ret2
  exact ⟨ret2 (by simp) (by simp), rfl⟩
 have ht := mul_test (b := b) ha h0 h1
 have g0 : (a == 0) = false := beq_eq_false_iff_ne.2 h0
 have g1 : (a == -1) = false := beq_eq_false_iff_ne.2 h1
 by_cases hf : fits (a * b)
 ·have g2 : (wrap64 ((wrap64 (a * b)).tdiv a) != b) = false := by simp [ht.2 hf]
  have HF := hid hf
  clear ht hf h1
  go_enter Tryz.func267, Tryz.ntmps267
  go_wp2
  go_ret2
  exact ⟨ret2 (by rw [fitV_in HF.out, wrap_in HF.out]) (by rw [fitE_in HF.out]), rfl⟩
 ·have g2 : (wrap64 ((wrap64 (a * b)).tdiv a) != b) = true := by simp; exact fun h => hf (ht.1 h)
  have HF := hid hf
  clear ht hf h1
  go_enter Tryz.func267, Tryz.ntmps267
  go_wp2
  go_ret2
  exact ⟨ret2 (by rw [fitV_out HF.out]) (by rw [fitE_out HF.out]), rfl⟩
end Go.Proofs.YthpmgnfmeldkjaaGreatDoor.Num
