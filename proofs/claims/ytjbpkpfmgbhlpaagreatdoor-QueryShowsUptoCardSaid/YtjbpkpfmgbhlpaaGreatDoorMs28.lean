/-
  The program's Leaves, of any node.
-/
import Derived.Test.YtjbpkpfmgbhlpaaGreatDoorMs27
import Derived.Test.YtjbpkpfmgbhlpaaGreatDoorMs17
import Derived.Carry
import Derived.ChangeOld
import Derived.ChangeSame
import Derived.OpenShut
import Derived.ProofKit
import Derived.Lib.SmallJoins
import Derived.LaidMore
import Derived.Lay
import Derived.Stop.Joined
import Derived.Shelf.Vars
import Derived.Test.YtjbpkpfmgbhlpaaGreatDoorMs2
import Derived.Deep.Slices
import Derived.Deep.Fields
import Derived.Test.YtjbpkpfmgbhlpaaGreatDoorMs3
import Derived.LaidSub
import Derived.MakeChecks
import Derived.Lib.LaidTab
import Derived.Test.YtjbpkpfmgbhlpaaGreatDoorMs9
import Derived.Stop.LaidErr
import Derived.Test.YtjbpkpfmgbhlpaaGreatDoorRows
import Derived.Test.YtjbpkpfmgbhlpaaGreatDoorMs4
set_option maxRecDepth 100000
set_option maxHeartbeats 16000000
open Go.Lib (hid)
namespace Go.Proofs.YtjbpkpfmgbhlpaaGreatDoor.Code
open Go.ChangeShapes Go.WideShapes Go.ChangeAt Go.RowKit Val Elems
set_option linter.unusedVariables false
set_option linter.unusedSimpArgs false
theorem pleaves_any : ∀ (d : Nat) (t : Nod), t.deep ≤ d → ∀ (S : Nat → Prop) (op tx : ByteArray) (X : Option Addr) (n m : Nat) (w : World) (B : Nat), B ≤ w.heap.size → ∀ (Q : List (List UInt8)) (v : Value), w.ownsRow B 9 1 v Q.length (flatC sc Q) → (∀ g, S g → g < B) → RIn w S t (op, tx, X, n, m) → Q.length + (leavesQ t).length ≤ 100000000 →
  Calls Tryz.prog 38 #[v, .agg #[.string op, .string tx, .slice X n m]] w fun e w' => ∃ v', e = .returned v' ∧ w'.ownsRow B 9 1 v' (Q ++ leavesQ t).length (flatC sc (Q ++ leavesQ t)) ∧ Below B w w'
 | 0, t, h, _, _, _, _, _, _, _, _, _, _, _, _, _, _, _ => absurd h (by rw [deep_ks]; omega)
 | d + 1, t, h, S, op, tx, X, n, m, w, B, hBw, Q, v, hv, hS, hn, hln => by
  have hlv := leaves_is t
  have ih := hid (fun k (hk : k < t.ks.length) => pleaves_any d t.ks[k] (by have := deepL_mem (List.getElem_mem hk); rw [deep_ks] at h; omega))
  have ihl := hid (fun k (hk : k < t.ks.length) => (leavess_mem (List.getElem_mem hk) : (leavesQ t.ks[k]).length ≤ (leavessQ t.ks).length))
  obtain ⟨eo, et, en, hkl⟩ := hn.texts
  dsimp only at eo et en
  obtain ⟨i0, hi0, hz0, hz1, hz2⟩ := info_parts info_strQ
  obtain ⟨P0, hP0⟩ : ∃ P0, Q ++ (if t.op = sFrom then [t.tx] else []) = P0 := ⟨_, rfl⟩
  have hlv2 : Q ++ leavesQ t = P0 ++ leavessQ t.ks := by rw [hlv, ← List.append_assoc, hP0]
  have HS := hid hS
  have HLV := hid hlv2
  have HLN := hid (show P0.length + (leavessQ t.ks).length ≤ 100000000 by rw [← List.length_append, ← hlv2, List.length_append]; exact hln)
  subst en
  have HN := hid hn
  have HV := hid hv
  obtain ⟨w0, hw0⟩ : ∃ w0, w.alloc (.cells #[.string op, .string tx, .slice X t.ks.length m] 25) = w0 := ⟨_, rfl⟩
  have N0 := hid (show NBox w0 w.heap.size (.string op) (.string tx) (.slice X t.ks.length m) by rw [← hw0]; exact NBox.fresh _ _ _ _ _)
  have B0 := hid (show Below B w w0 by rw [← hw0]; exact (Below.refl _ _).alloc hBw _)
  have O0 := hid (show w0.ownsRow B 9 1 v Q.length (flatC sc Q) by rw [← hw0]; exact own_call hv (below_alloc _ _))
  have zw0 : w0.heap.size = w.heap.size + 1 := by rw [← hw0]; simp
  have HW0 := hid hw0
  by_cases hf : t.op = sFrom
  ·rw [if_pos hf] at hP0
   have ho : op = ⟨#[102, 114, 111, 109]⟩ := by rw [eo, hf]; rfl
   subst ho
   have HP0 := hid (show P0.length = Q.length + 1 by rw [← hP0]; simp)
   have HPQ := hid hP0
   have HT := hid et
   have hqs : Q.length ≤ 100000000 := by omega
   clear h hln hS hn hlv hlv2 hP0 eo et hf hw0 hv
   go_enter Tryz.func38, Tryz.ntmps38
   go_wp2_with (at_builtin; rw [HW0.out]; refine wpList_append_lies _ rfl _ _ _ rfl B 9 i0 _ 1 16 Tryz.underlying42 hi0 hz0 hz1 hz2 rfl (by omega) _ Q.length (flatC sc Q) rfl ?ca ⟨w.heap.size + 1, 0, none⟩ 1 1 [.string tx] rfl rfl ?cn ?co (by omega) ?cm ?cb ?cz9 (w.heap.size + 1 + 1) ?ch ?_)
   case ca => exact own_call O0.out (below_alloc _ _)
   case cn => exact World.news_of_block (cs := #[.string tx]) (t := 9) (fr := (0, 0)) (by rw [← zw0]; exact heap_alloc_new w0 _)
   case co =>
    intro u hu
    simp at hu
    subst hu
    rfl
   case cm => unfold maxLen; omega
   case cb => omega
   case cz9 => simp; omega
   case ch => simp [zw0]
   intro gg cap9 w9 hown9 hgrow hat hlt9
   have hrow : ∀ k, v.ownBlock = some k → B ≤ k := fun k e => (O0.out.lt k e).1
   have B1 := hid (show Below B w w9 from B0.out.trans (((Below.refl B w0).alloc (by omega) _).trans ⟨hgrow.os, hgrow.tape, hgrow.output, hgrow.size, fun j hj => hgrow.block j (by simp; omega) (fun e => by have := hrow j e.symm; omega)⟩))
   have Z1 : w.heap.size < w9.heap.size := by have := hgrow.size; simp at this; omega
   have N1 := hid ((N0.out.alloc (.cells #[.string tx] 9)).grown hgrow (fun e => by have := (HV.out.lt _ e).2; omega))
   have O1 := hid (show w9.ownsRow B 9 1 (.slice (some ⟨gg, 0, none⟩) (Q.length + 1) cap9) (P0 ++ leavessQ (t.ks.take 0)).length (flatC sc (P0 ++ leavessQ (t.ks.take 0))) by
    have e : P0 ++ leavessQ (t.ks.take 0) = Q ++ [t.tx] := by simp [leavessQ, HPQ.out]
    rw [e, flatC_append]
    have e2 : flatC sc [t.tx] = [.string tx] := by simp [flatC, sc, ← HT.out]
    rw [e2, List.length_append]
    exact hown9)
   clear hown9 hgrow hat hlt9 HW0 hrow
   obtain ⟨x0, x1, x2, xf⟩ := N1.out
   go_wp2
   go_loopw [0, 18] (fun v t' wr => ∃ (k : Nat), k ≤ t.ks.length ∧ t' = .int .i64 k ∧ wr.ownsRow B 9 1 v (P0 ++ leavessQ (t.ks.take k)).length (flatC sc (P0 ++ leavessQ (t.ks.take k))) ∧ Below B w wr ∧ w.heap.size < wr.heap.size) (fun _ t' _ => t.ks.length - (intOf t').toNat)
   case atStart => exact ⟨0, by omega, rfl, O1.out, B1.out, Z1⟩
   case round =>
    obtain ⟨k, hk, rfl, hown, hb, hz⟩ := hrel
    have HB := hid hb
    have HO := hid hown
    have HK := hid (HN.out.keep (w' := wr) (fun _ h => h) (fun p hp => hb.cell (HS.out _ hp)))
    clear hb hown
    by_cases hlt : k < t.ks.length
    ·obtain ⟨ad, ⟨op', tx', X', n', m'⟩, eA, hS', q0, q1, q2, hk'⟩ := HK.out.kid k hlt
     dsimp only at eA q0 q1 q2
     subst eA
     have had := HS.out _ hS'
     have HDT := hid (leavessQ_take t.ks k hlt)
     have hb1 : (P0 ++ leavessQ (t.ks.take k)).length + (leavesQ t.ks[k]).length ≤ 100000000 := by
      have h1 := leavess_take t.ks (k + 1)
      rw [leavessQ_take t.ks k hlt, List.length_append] at h1
      have := HLN.out
      rw [List.length_append]
      omega
     obtain ⟨Q0, hQ0⟩ : ∃ Q0, P0 ++ leavessQ (t.ks.take k) = Q0 := ⟨_, rfl⟩
     rw [hQ0] at hb1 HO
     have HQ0 := hid hQ0
     obtain ⟨Y, hY⟩ : ∃ Y, leavesQ t.ks[k] = Y := ⟨_, rfl⟩
     obtain ⟨w6, hw6⟩ : ∃ w6, wr.alloc (.cells #[.string op', .string tx', .slice X' n' m'] 25) = w6 := ⟨_, rfl⟩
     have z6 : w6.heap.size = wr.heap.size + 1 := by rw [← hw6]; simp
     have HI := hid (fun v (hv : w6.ownsRow B 9 1 v Q0.length (flatC sc Q0)) => ih.out k hlt S op' tx' X' n' m' w6 B (by omega) Q0 v hv HS.out (hk'.keep (w' := w6) (fun _ h => h) (fun p hp => by rw [← hw6]; exact (below_alloc wr _).cell (by have := HS.out _ hp; omega))) hb1)
     rw [hY] at hb1 HI HDT
     have O6 := hid (show w6.ownsRow B 9 1 _ Q0.length (flatC sc Q0) by rw [← hw6]; exact own_call HO.out (below_alloc _ _))
     have B6 := hid (show Below B w w6 by rw [← hw6]; exact HB.out.alloc (by omega) _)
     have V6 := hid (NBox.fresh wr (.string op') (.string tx') (.slice X' n' m') 25)
     rw [hw6] at V6
     have HW6 := hid hw6
     clear hk' hQ0 hY hw6
     go_upto_region 6 with fail
     rw [HW6.out]
     clear q0 q1 q2
     obtain ⟨v0, v1, v2, vf⟩ := V6.out
     go_wp2_with fail
     refine (HI.out _ O6.out).mono ?_
     rintro e w7 ⟨v7, rfl, ho7, hb7⟩
     have O7 := hid (show w7.ownsRow B 9 1 v7 (P0 ++ leavessQ (t.ks.take (k + 1))).length (flatC sc (P0 ++ leavessQ (t.ks.take (k + 1)))) by
      rw [HDT.out, ← List.append_assoc, HQ0.out]
      exact ho7)
     have B7 := hid (B6.out.trans hb7)
     have z7 : w.heap.size < w7.heap.size := by have := hb7.size; omega
     clear ho7 hb7 v0 v1 v2 vf HI
     go_wp2
     go_roundw
     case rel => exact ⟨k + 1, by omega, by go_num, O7.out, B7.out, z7⟩
     case measure => simp [intOf]; omega
    ·obtain rfl : k = t.ks.length := by omega
     rw [List.take_length] at HO
     go_wp2
     go_ret
     exact ⟨_, rfl, by rw [HLV.out]; exact HO.out, HB.out⟩
  ·rw [if_neg hf, List.append_nil] at hP0
   have hne : op ≠ ⟨#[102, 114, 111, 109]⟩ := fun e => hf (by have h9 := eo; rw [e] at h9; have := congrArg (fun b => b.data.toList) h9; exact this.symm)
   have f2 : (op.toList == [102, 114, 111, 109]) = false := by
    have h := toList_ne hne
    rw [ByteArray.toList_eq ⟨#[102, 114, 111, 109]⟩] at h
    exact h
   have HP0 := hid (show Q.length ≤ P0.length by rw [← hP0]; exact Nat.le_refl _)
   have B1 := B0
   have Z1 : w.heap.size < w0.heap.size := by omega
   have O1 := hid (show w0.ownsRow B 9 1 v (P0 ++ leavessQ (t.ks.take 0)).length (flatC sc (P0 ++ leavessQ (t.ks.take 0))) by
    have e : P0 ++ leavessQ (t.ks.take 0) = Q := by simp [leavessQ, ← hP0]
    rw [e]
    exact O0.out)
   clear h hln hS hn hlv hlv2 hP0 eo et hf hw0 hv hne
   go_enter Tryz.func38, Tryz.ntmps38
   go_upto_region 3 with fail
   try rw [HW0.out]
   obtain ⟨x0, x1, x2, xf⟩ := N0.out
   go_wp2
   go_loopw [0, 18] (fun v t' wr => ∃ (k : Nat), k ≤ t.ks.length ∧ t' = .int .i64 k ∧ wr.ownsRow B 9 1 v (P0 ++ leavessQ (t.ks.take k)).length (flatC sc (P0 ++ leavessQ (t.ks.take k))) ∧ Below B w wr ∧ w.heap.size < wr.heap.size) (fun _ t' _ => t.ks.length - (intOf t').toNat)
   case atStart => exact ⟨0, by omega, rfl, O1.out, B1.out, Z1⟩
   case round =>
    obtain ⟨k, hk, rfl, hown, hb, hz⟩ := hrel
    have HB := hid hb
    have HO := hid hown
    have HK := hid (HN.out.keep (w' := wr) (fun _ h => h) (fun p hp => hb.cell (HS.out _ hp)))
    clear hb hown
    by_cases hlt : k < t.ks.length
    ·obtain ⟨ad, ⟨op', tx', X', n', m'⟩, eA, hS', q0, q1, q2, hk'⟩ := HK.out.kid k hlt
     dsimp only at eA q0 q1 q2
     subst eA
     have had := HS.out _ hS'
     have HDT := hid (leavessQ_take t.ks k hlt)
     have hb1 : (P0 ++ leavessQ (t.ks.take k)).length + (leavesQ t.ks[k]).length ≤ 100000000 := by
      have h1 := leavess_take t.ks (k + 1)
      rw [leavessQ_take t.ks k hlt, List.length_append] at h1
      have := HLN.out
      rw [List.length_append]
      omega
     obtain ⟨Q0, hQ0⟩ : ∃ Q0, P0 ++ leavessQ (t.ks.take k) = Q0 := ⟨_, rfl⟩
     rw [hQ0] at hb1 HO
     have HQ0 := hid hQ0
     obtain ⟨Y, hY⟩ : ∃ Y, leavesQ t.ks[k] = Y := ⟨_, rfl⟩
     obtain ⟨w6, hw6⟩ : ∃ w6, wr.alloc (.cells #[.string op', .string tx', .slice X' n' m'] 25) = w6 := ⟨_, rfl⟩
     have z6 : w6.heap.size = wr.heap.size + 1 := by rw [← hw6]; simp
     have HI := hid (fun v (hv : w6.ownsRow B 9 1 v Q0.length (flatC sc Q0)) => ih.out k hlt S op' tx' X' n' m' w6 B (by omega) Q0 v hv HS.out (hk'.keep (w' := w6) (fun _ h => h) (fun p hp => by rw [← hw6]; exact (below_alloc wr _).cell (by have := HS.out _ hp; omega))) hb1)
     rw [hY] at hb1 HI HDT
     have O6 := hid (show w6.ownsRow B 9 1 _ Q0.length (flatC sc Q0) by rw [← hw6]; exact own_call HO.out (below_alloc _ _))
     have B6 := hid (show Below B w w6 by rw [← hw6]; exact HB.out.alloc (by omega) _)
     have V6 := hid (NBox.fresh wr (.string op') (.string tx') (.slice X' n' m') 25)
     rw [hw6] at V6
     have HW6 := hid hw6
     clear hk' hQ0 hY hw6
     go_upto_region 6 with fail
     rw [HW6.out]
     clear q0 q1 q2
     obtain ⟨v0, v1, v2, vf⟩ := V6.out
     go_wp2_with fail
     refine (HI.out _ O6.out).mono ?_
     rintro e w7 ⟨v7, rfl, ho7, hb7⟩
     have O7 := hid (show w7.ownsRow B 9 1 v7 (P0 ++ leavessQ (t.ks.take (k + 1))).length (flatC sc (P0 ++ leavessQ (t.ks.take (k + 1)))) by
      rw [HDT.out, ← List.append_assoc, HQ0.out]
      exact ho7)
     have B7 := hid (B6.out.trans hb7)
     have z7 : w.heap.size < w7.heap.size := by have := hb7.size; omega
     clear ho7 hb7 v0 v1 v2 vf HI
     go_wp2
     go_roundw
     case rel => exact ⟨k + 1, by omega, by go_num, O7.out, B7.out, z7⟩
     case measure => simp [intOf]; omega
    ·obtain rfl : k = t.ks.length := by omega
     rw [List.take_length] at HO
     go_wp2
     go_ret
     exact ⟨_, rfl, by rw [HLV.out]; exact HO.out, HB.out⟩
theorem pLeaves_any (t : Nod) (S : Nat → Prop) (op tx : ByteArray) (X : Option Addr) (n m : Nat) (w : World) (hS : ∀ g, S g → g < w.heap.size) (hn : RIn w S t (op, tx, X, n, m)) (hln : (leavesQ t).length ≤ 100000000) :
  Calls Tryz.prog 19 #[.agg #[.string op, .string tx, .slice X n m]] w fun e w' => ∃ (A : Option Addr) (cap : Nat), e = .returned (.slice A (leavesQ t).length cap) ∧ At sc 1 w' w'.heap.size A (leavesQ t) ∧ Below w.heap.size w w' := by
 have HL := hid (fun w0 (hb : Below w.heap.size w w0) (hw : w.heap.size ≤ w0.heap.size) => pleaves_any t.deep t (Nat.le_refl _) S op tx X n m w0 w.heap.size hw [] (.slice none 0 0) (World.ownsRow_nil _ _ _ _) hS (hn.bel hS hb) (by simpa using hln))
 clear hn hS
 go_enter Tryz.func19, Tryz.ntmps19
 obtain ⟨w0, hw0⟩ : ∃ w0, w.alloc (.cells #[.string op, .string tx, .slice X n m] 25) = w0 := ⟨_, rfl⟩
 have N0 := hid (show NBox w0 w.heap.size (.string op) (.string tx) (.slice X n m) by rw [← hw0]; exact NBox.fresh _ _ _ _ _)
 have B0 := hid (show Below w.heap.size w w0 by rw [← hw0]; exact below_alloc _ _)
 have HW0 := hid hw0
 clear hw0
 obtain ⟨x0, x1, x2, xf⟩ := N0.out
 go_wp2_with fail
 try rw [HW0.out]
 refine (HL.out _ B0.out B0.out.size).mono ?_
 rintro e w1 ⟨v', rfl, ho, hb⟩
 rw [List.nil_append] at ho
 obtain ⟨A', cap', rfl, hv'⟩ := own_at sc_length ho
 have L1 := hid (B0.out.trans hb)
 have HV := hid hv'
 clear ho hb hv' x0 x1 x2 xf
 obtain ⟨N, hN⟩ : ∃ N, (leavesQ t).length = N := ⟨_, rfl⟩
 have HNN := hid hN
 rw [hN]
 go_wp2
 go_ret
 exact ⟨A', cap', congrArg (fun n9 => Ending.returned (.slice A' n9 cap')) HNN.out.symm, HV.out, L1.out⟩
theorem aliveQ_tot : aliveQT.tot ≤ 100000 := by decide +kernel
theorem aliveQ_bytes : (⟨aliveQS.toArray⟩ : ByteArray) = ⟨#[103, 114, 111, 117, 112, 40, 106, 111, 105, 110, 40, 116, 44, 32, 102, 105, 108, 116, 101, 114, 40, 117, 44, 32, 97, 32, 60, 32, 51, 41, 44, 32, 97, 32, 61, 32, 98, 41, 44, 32, 98, 121, 32, 97, 32, 98, 44, 32, 110, 32, 61, 32, 99, 111, 117, 110, 116, 40, 41, 44, 32, 109, 32, 61, 32, 109, 97, 120, 40, 99, 41, 41]⟩ := rfl
theorem qalive_any (m : Int) (w : World) (he : Env w.heap.size m w) : Calls Tryz.prog 7 #[] w fun e w' => e = .returned (.bool true) ∧ Below w.heap.size w w' := by
 have H1 := hid (fun (w0 : World) (hb : Below w.heap.size w w0) => (show Calls Tryz.prog 8 #[.string ⟨#[103, 114, 111, 117, 112, 40, 106, 111, 105, 110, 40, 116, 44, 32, 102, 105, 108, 116, 101, 114, 40, 117, 44, 32, 97, 32, 60, 32, 51, 41, 44, 32, 97, 32, 61, 32, 98, 41, 44, 32, 98, 121, 32, 97, 32, 98, 44, 32, 110, 32, 61, 32, 99, 111, 117, 110, 116, 40, 41, 44, 32, 109, 32, 61, 32, 109, 97, 120, 40, 99, 41, 41]⟩] w0 (ParseQPost w0 (aliveQT, 0, 0)) by
  have h := pparseQ_any ⟨aliveQS.toArray⟩ (by decide) m w0 (he.next hb)
  rw [show (⟨aliveQS.toArray⟩ : ByteArray).data.toList = aliveQS from rfl, aliveQ_1, aliveQ_bytes] at h
  exact h))
 have H2 := hid (fun (w0 : World) (hb : Below w.heap.size w w0) => (show Calls Tryz.prog 8 #[.string ⟨#[112, 114, 111, 106, 101, 99, 116, 40, 116, 41]⟩] w0 (ParseQPost w0 (zeroN, 9, 91)) by
  have h := pparseQ_any ⟨#[112, 114, 111, 106, 101, 99, 116, 40, 116, 41]⟩ (by decide) m w0 (he.next hb)
  rw [show (⟨#[112, 114, 111, 106, 101, 99, 116, 40, 116, 41]⟩ : ByteArray).data.toList = [112, 114, 111, 106, 101, 99, 116, 40, 116, 41] from rfl, aliveQ_2] at h
  exact h))
 have HL := hid (fun (S : Nat → Prop) (op tx : ByteArray) (X : Option Addr) (n k : Nat) (w0 : World) (hS : ∀ g, S g → g < w0.heap.size) (hn : RIn w0 S aliveQT (op, tx, X, n, k)) => (show Calls Tryz.prog 19 #[.agg #[.string op, .string tx, .slice X n k]] w0 (fun e w' => ∃ (A : Option Addr) (cap : Nat), e = .returned (.slice A 2 cap) ∧ At sc 1 w' w'.heap.size A [[116], [117]] ∧ Below w0.heap.size w0 w') by
  have h := pLeaves_any aliveQT S op tx X n k w0 hS hn (by rw [aliveQ_leaves]; decide)
  rw [aliveQ_leaves] at h
  exact h))
 have HSH := hid (fun (S : Nat → Prop) (op tx : ByteArray) (X : Option Addr) (n k : Nat) (w0 : World) (hb : Below w.heap.size w w0) (hS : ∀ g, S g → g < w0.heap.size) (hn : RIn w0 S aliveQT (op, tx, X, n, k)) => (show Calls Tryz.prog 16 #[.agg #[.string op, .string tx, .slice X n k]] w0 (fun e w' => e = .returned (.string ⟨#[103, 114, 111, 117, 112, 40, 106, 111, 105, 110, 40, 116, 44, 32, 102, 105, 108, 116, 101, 114, 40, 117, 44, 32, 97, 32, 60, 32, 51, 41, 44, 32, 97, 32, 61, 32, 98, 41, 44, 32, 98, 121, 32, 97, 32, 98, 44, 32, 110, 32, 61, 32, 99, 111, 117, 110, 116, 40, 41, 44, 32, 109, 32, 61, 32, 109, 97, 120, 40, 99, 41, 41]⟩) ∧ Below w0.heap.size w0 w') by
  have h := pShow_of aliveQT alive_exprs aliveQ_tot (by rw [aliveQ_show]; decide) m S op tx X n k w0 (he.next hb) hS hn
  rw [aliveQ_show, aliveQ_bytes] at h
  exact h))
 clear he
 go_enter Tryz.func7, Tryz.ntmps7
 go_wp2_with fail
 refine (H1.out _ (Below.refl _ _)).mono ?_
 rintro e w1 ⟨op, tx, X, n, k, rfl, hn1, hb1⟩
 have z1 := hb1.size
 obtain ⟨W1, hW1⟩ : ∃ W1, w1.alloc (.cells #[.string op, .string tx, .slice X n k] 25) = W1 := ⟨_, rfl⟩
 have zW1 : W1.heap.size = w1.heap.size + 1 := by rw [← hW1]; simp
 have L1 := hid (show Below w.heap.size w W1 by rw [← hW1]; exact hb1.alloc z1 _)
 have I1 := hid (show RIn W1 (fun g => g < w1.heap.size) aliveQT (op, tx, X, n, k) by rw [← hW1]; exact (hn1.imp (S' := fun g => g < w1.heap.size) (fun g hg => hg.2)).alloc (fun g hg => hg) _)
 have V1 := hid (show NBox W1 w1.heap.size (.string op) (.string tx) (.slice X n k) by rw [← hW1]; exact NBox.fresh _ _ _ _ _)
 have ZW1 := hid zW1
 have HW1 := hid hW1
 clear hb1 hn1 hW1 zW1
 go_upto_region 3 with fail
 rw [HW1.out]
 go_wp2_with fail
 refine (H2.out _ L1.out).mono ?_
 rintro e w2 ⟨op2, tx2, X2, n2, k2, rfl, hn2, hb2⟩
 have z2 : w1.heap.size < w2.heap.size := by have := hb2.size; have := ZW1.out; omega
 obtain ⟨W2, hW2⟩ : ∃ W2, w2.alloc (.cells #[.string op2, .string tx2, .slice X2 n2 k2] 25) = W2 := ⟨_, rfl⟩
 have zW2 : w1.heap.size < W2.heap.size := by rw [← hW2]; simp; omega
 have zw2 : w.heap.size ≤ W2.heap.size := by omega
 have L2 := hid (show Below w.heap.size w W2 by rw [← hW2]; exact (L1.out.trans (hb2.mono (by have := ZW1.out; omega))).alloc (by omega) _)
 have G2 := hid (show Below W1.heap.size W1 W2 by rw [← hW2]; exact hb2.alloc hb2.size _)
 have I2 := hid (I1.out.bel (fun g hg => by have h9 : g < w1.heap.size := hg; have := ZW1.out; omega) G2.out)
 have V2 := hid (V1.out.below G2.out)
 have HW2 := hid hW2
 clear hb2 hn2 hW2
 go_upto_region 4 with fail
 rw [HW2.out]
 obtain ⟨v0, v1, v2, vf⟩ := V2.out
 go_wp2_with fail
 refine (HL.out _ _ _ _ _ _ _ (fun g hg => by have h9 : g < w1.heap.size := hg; omega) I2.out).mono ?_
 rintro e w3 ⟨A, cap, rfl, hA, hb3⟩
 have z3 : w1.heap.size < w3.heap.size := by have := hb3.size; omega
 have L3 := hid (L2.out.trans (hb3.mono zw2))
 have I3 := hid (I2.out.bel (fun g hg => by have h9 : g < w1.heap.size := hg; omega) hb3)
 have V3 := hid (V2.out.below hb3)
 obtain ⟨ad, eA, hab, hc⟩ := hA 1 (by decide)
 have hcell := hc 0 _ rfl
 subst eA
 have HA := hid hab
 have HCC := hid hcell
 clear hb3 hA hc hab hcell v0 v1 v2 vf
 obtain ⟨v0, v1, v2, vf⟩ := V3.out
 go_wp2_with fail
 refine (HSH.out _ _ _ _ _ _ _ L3.out (fun g hg => by have h9 : g < w1.heap.size := hg; omega) I3.out).mono ?_
 rintro e w4 ⟨rfl, hb4⟩
 have L4 := hid (L3.out.trans (hb4.mono (by omega)))
 have c1 : w4.cell? ⟨ad.block, ad.off + 1, none⟩ = some (.string ⟨#[117]⟩) := by
  have h9 : w3.cell? ⟨ad.block, ad.off + 1, none⟩ = some (.string ⟨#[117]⟩) := by
   have h8 := HCC.out
   simpa [Addr.add] using h8
  exact (hb4.cell (p := ⟨ad.block, ad.off + 1, none⟩) HA.out).trans h9
 clear hb4 v0 v1 v2 vf
 go_wp2
 go_ret
 exact ⟨by simp, L4.out⟩
end Go.Proofs.YtjbpkpfmgbhlpaaGreatDoor.Code
/-
  How a law's row is shut, whatever its arguments are: where a law returns true and nothing that was there has changed ('Below'), each argument reads behind the call as it read before.
-/
namespace Go.Proofs.YtjbpkpfmgbhlpaaGreatDoor.Law
open Go.ChangeShapes Go.WideShapes Go.WideElems Go.RowKit
section
variable {H : Type} {enc : TypeId × Value → H} {P : Program}
def rowed (P : Program) (ts : List TypeId) : Bool := ts.all fun t => P.readableRec t && decide (t < P.types.size)
theorem stays (hl : laidOutB P = true) {W W' : World} (hb : Below W.heap.size W W') : ∀ {ts : List TypeId} {vs : List Value} {ds : List (DataW H)} {ps : List MemPlace},
  rowed P ts = true → DataW.TrodAll enc P W 0 (fun _ => true) true ts vs ds ps → (∀ p ∈ ps, p.block < W.heap.size) →
  DataW.TrodAll enc P W' 0 (fun b => decide (b < W.heap.size)) true ts vs ds ps
 | [], _, _, _, _, h, _ => by
  obtain ⟨rfl, rfl, rfl⟩ := trodAll_nil h
  exact rfl
 | t :: ts, _, _, _, hr, h, hlt => by
  obtain ⟨v, vs, d, ds, p, q, rfl, rfl, rfl, ⟨fuel, h1⟩, h2⟩ := trodAll_cons h
  simp only [rowed, List.all_cons, Bool.and_eq_true, decide_eq_true_eq] at hr
  have hp : ∀ x ∈ p, x.block < W.heap.size := fun x hx => hlt x (List.mem_append_left _ hx)
  refine ⟨p, q, ⟨fuel, ?_⟩, stays hl hb (by simpa [rowed] using hr.2) h2 (fun x hx => hlt x (List.mem_append_right _ hx)), rfl⟩
  exact DataW.trod_stays (kids_book hl hr.1.1) (book_sized hr.1.1) (fun h => by cases h) ⟨hr.1.2, book_self t⟩ h1 (fun x hx => hb.same (hp x hx)) (fun x hx => by simpa using hp x hx)
theorem post_true (hl : laidOutB P = true) {f : Func} (hr : rowed P f.params.toList = true) {s : ChangeSpec} (hs : s.vars = []) {tb : TypeId} (hres : f.resultTypes = #[tb]) (hbool : P.underlying tb = some .bool)
  {W W' : World} {args : Array Value} {ds gs : List (DataW H)} {before : List MemPlace} (hW : DataW.Whole enc P f.params.toList s.vars false W args.toList ds gs before)
  (hfn : s.fn H (ds ++ gs) = { results := [.lit (.bool true)], args := ds }) (hb : Below W.heap.size W W') :
  s.post enc P f false true false false W args (.bool true) W' := by
 have hlt : ∀ p ∈ before, p.block < W.heap.size := fun p hp => hW.lt p hp
 have hW2 := hW
 obtain ⟨p, q, hA, hV, rfl, _, _⟩ := hW2
 refine ⟨ds, gs, p ++ q, [], p, [], hW, ?_, ?_, ?_, ?_, ?_⟩
 ·rw [hfn, hres]
  exact trodAll_cons_mk (shut_bool hbool true) trodAll_mk0
 ·rw [hfn]
  exact stays hl hb hr hA (fun x hx => hlt x (List.mem_append_left _ hx))
 ·rw [hfn, hs]
  exact rfl
 ·exact hb.frame _
 ·intro h
  cases h
end
end Go.Proofs.YtjbpkpfmgbhlpaaGreatDoor.Law
/-
  A law whose row lists package-level variables: how it is lifted, the world's shape kept beside what is listed; and a value's three parts opened.
-/
namespace Go.Proofs.YtjbpkpfmgbhlpaaGreatDoor.Law
open Go.Joins Go.ChangeShapes Go.WideShapes Go.WideElems Go.RowKit Go.Deep
section
variable {H : Type} {enc : TypeId × Value → H}
end
section
variable {H : Type} {enc : TypeId × Value → H} {P : Program} {w : World} {base : Nat} {spare : Nat → Bool} {held : Bool}
end
end Go.Proofs.YtjbpkpfmgbhlpaaGreatDoor.Law
/-
  Arguments that came in, opened: a list of values (a row), of numbers, of rows. No function is named.
-/
namespace Go.Proofs.YtjbpkpfmgbhlpaaGreatDoor.RowOpen
open Go.ChangeShapes Go.WideShapes Go.ChangeAt Go.RowKit Go.Deep Val Go.Proofs.YtjbpkpfmgbhlpaaGreatDoor.Code
set_option linter.unusedVariables false
section
variable {H : Type} {enc : TypeId × Value → H} {P : Program} {w : World} {base : Nat} {spare : Nat → Bool} {held : Bool}
theorem cell_add {a : Addr} {i j : Nat} : a.add (i * 3 + (j + 1)) = ⟨(a.add (i * 3)).block, (a.add (i * 3)).off + (j + 1), none⟩ := add_next a (i * 3) j
end
theorem glob_of {laid : List (String × DataW Unit)} {d : DataW Unit} {m : Int} {W : World} (hL : laidMetH Tryz.prog laid W) (hp : (laid.all fun x => x.2.handleName?.isNone) = true) (hf : laid.filter (fun x => x.1 == "internal/strconv.uint64pow10") = [("internal/strconv.uint64pow10", d)]) (hd : d = Lib.tabData .u64 Lib.pow10Tab)
  (hm : W.cell? ⟨0, 0, none⟩ = some (.int .i64 m)) : Glob W.heap.size m W := by
 rw [Go.MakeChecks.laidMetH_plain _ _ _ hp] at hL
 have h := hL.filter (fun x => x.1 == "internal/strconv.uint64pow10")
 rw [hf, hd] at h
 have tab : Lib.TabIs Tryz.prog W "internal/strconv.uint64pow10" .u64 Lib.pow10Tab := by
  obtain ⟨n, t, e, h1, h2, h3, h4, h5⟩ : ∃ (n : Nat) (t e : TypeId), (Tryz.prog.globals[3]?).map (·.type) = some t ∧ Tryz.prog.underlying t = some (.array n e) ∧ Tryz.prog.underlying e = some (.int .u64) ∧ Tryz.prog.cellsOf e = 1 ∧ Tryz.prog.cellsOf t = n :=
   ⟨20, 187, 177, by kernel_rfl, by kernel_rfl, by kernel_rfl, by kernel_rfl, by kernel_rfl⟩
  exact Lib.tabIs_of_head glob_pow h1 h2 h3 h4 h5 h
 refine ⟨World.block_lt_of_cell? _ _ hm, ?_, hm, tab⟩
 unfold Lib.TabIs at tab
 simp only [World.var?, glob_pow, Option.bind_some] at tab
 by_cases hlt : 3 < W.heap.size
 ·exact hlt
 ·rw [Array.getElem?_eq_none (by omega)] at tab
  cases tab
theorem star_err : "*" ++ "errors.errorString" = "*errors.errorString" := by decide
theorem row_err (u : TypeId) (h : Tryz.prog.typeName? 3 u = some "*errors.errorString") : u = 209 :=
 typeName_ptr_named (nm := "errors.errorString") (by rw [star_err]; kernel_rfl) (by kernel_rfl) (by decide) u (by rw [star_err]; exact h)
theorem err_of {laid : List (String × DataW Unit)} {tx : List UInt8} {W : World} (hL : laidMetH Tryz.prog laid W) (hp : (laid.all fun x => x.2.handleName?.isNone) = true)
  (he : laid.filter (fun x => x.1 == "strconv.ErrRange") = [("strconv.ErrRange", .iface "*errors.errorString" (.ptr (.agg [.lit (.string tx)])))]) : ∃ te pe, W.cell? ⟨7, 0, none⟩ = some (.iface te pe) := by
 rw [Go.MakeChecks.laidMetH_plain _ _ _ hp] at hL
 have h := hL.filter (fun x => x.1 == "strconv.ErrRange")
 rw [he] at h
 have hg : Tryz.prog.globalNamed "strconv.ErrRange" = some 7 := by kernel_rfl
 obtain ⟨a, s, hv, _⟩ := laid_sentinel h hg (ti := 103) (by kernel_rfl) Tryz.underlying103 (tp := 209) (te := 211) (ts := 9)
  row_err Tryz.underlying209 Tryz.underlying211 rfl rfl Tryz.underlying9 (by kernel_rfl) (by kernel_rfl)
 exact ⟨_, _, by have := World.var?_cell hg hv 0; simpa using this⟩
theorem env_of {laid : List (String × DataW Unit)} {d : DataW Unit} {tx : List UInt8} {m : Int} {W : World} (hL : laidMetH Tryz.prog laid W) (hp : (laid.all fun x => x.2.handleName?.isNone) = true) (hf : laid.filter (fun x => x.1 == "internal/strconv.uint64pow10") = [("internal/strconv.uint64pow10", d)]) (hd : d = Lib.tabData .u64 Lib.pow10Tab)
  (he : laid.filter (fun x => x.1 == "strconv.ErrRange") = [("strconv.ErrRange", .iface "*errors.errorString" (.ptr (.agg [.lit (.string tx)])))])
  (hm : W.cell? ⟨0, 0, none⟩ = some (.int .i64 m)) : Env W.heap.size m W := by
 obtain ⟨te, pe, hc⟩ := err_of hL hp he
 exact ⟨glob_of hL hp hf hd hm, World.block_lt_of_cell? _ _ hc, te, pe, hc⟩
end Go.Proofs.YtjbpkpfmgbhlpaaGreatDoor.RowOpen
/-
  What the second form's bound gives: lists and texts that came in are no longer than it says.
-/
namespace Go.Proofs.YtjbpkpfmgbhlpaaGreatDoor.Bulk
theorem one_le {H : Type} (d : DataW H) : 1 ≤ Rows.uptoBulk d := by
 cases d with
 | lit l => cases l <;> simp [Rows.uptoBulk]
 | nil => simp [Rows.uptoBulk]
 | ptr d => simp [Rows.uptoBulk]
 | slice elems spare => simp [Rows.uptoBulk]
 | agg parts => simp [Rows.uptoBulk]
 | iface t d => simp [Rows.uptoBulk]
 | map entries => simp [Rows.uptoBulk]
 | held h => simp [Rows.uptoBulk]
theorem length_le {H : Type} : ∀ l : List (DataW H), l.length ≤ Rows.uptoBulkAll l
 | [] => by simp [Rows.uptoBulkAll]
 | x :: r => by
  have := one_le x
  have := length_le r
  simp only [Rows.uptoBulkAll, List.length_cons]
  omega
theorem string_le {H : Type} (s : ByteArray) : s.size + 1 = Rows.uptoBulk (DataW.lit (H := H) (.string s.data.toList)) := by
 simp only [Rows.uptoBulk]
 rfl
theorem bound {H : Type} {l : List (DataW H)} (hk : Rows.uptoSmall H l = true) : Rows.uptoBulkAll l ≤ 1048576 := of_decide_eq_true hk
end Go.Proofs.YtjbpkpfmgbhlpaaGreatDoor.Bulk
/-
  A node that came in, opened: what lies where, how much there is. No function is named.
-/
namespace Go.Proofs.YtjbpkpfmgbhlpaaGreatDoor.RowOpen
open Go.ChangeShapes Go.WideShapes Go.ChangeAt Go.RowKit Go.Deep Val Elems Go.Proofs.YtjbpkpfmgbhlpaaGreatDoor.Code
set_option linter.unusedVariables false
section
variable {H : Type} {enc : TypeId × Value → H} {P : Program} {w : World} {base : Nat} {spare : Nat → Bool} {held : Bool}
instance nod0 : Inhabited Nod := ⟨.mk [] [] []⟩
theorem bulk_mem {d : DataW H} : ∀ {l : List (DataW H)}, d ∈ l → Rows.uptoBulk d ≤ Rows.uptoBulkAll l
 | x :: l, h => by
  rw [Rows.uptoBulkAll]
  rcases List.mem_cons.1 h with rfl | h
  ·omega
  ·have := bulk_mem h
   omega
theorem open_node {e : TypeId} {f0 f1 f2 : Field} (he : P.underlying e = some (.struct #[f0, f1, f2])) (hone : oneCellFields P #[f0, f1, f2] = true) (hC : P.cellsOf e = 3)
  (e0 : P.underlying f0.type = some .string) (e1 : P.underlying f1.type = some .string) (e2 : P.underlying f2.type = some (.slice e)) :
  ∀ (fuel : Nat) (cs : List Value) (x : DataW H × List MemPlace), cs.length = 3 → DataW.trod enc P w base spare held fuel e cs = some x → Rows.uptoBulk x.1 ≤ 1048576 →
   ∃ (t : Nod) (v : NV), cs = nc v ∧ RIn w (fun g => g < w.heap.size) t v ∧ t.tot ≤ Rows.uptoBulk x.1 := by
 intro fuel
 induction fuel using Nat.strongRecOn with
 | ind fuel ih =>
  intro cs x hlen h hbk
  obtain ⟨ys, n, hn, hy, hl3, hyl, hf⟩ := DataW.trod_struct he h
  match cs, hlen with
  | [c0, c1, c2], _ =>
   have o := fun j f (hj : (#[f0, f1, f2] : Array Field)[j]? = some f) => hone_of hone j f hj
   obtain ⟨o0, k0⟩ := o 0 f0 rfl
   obtain ⟨o1, k1⟩ := o 1 f1 rfl
   obtain ⟨o2, k2⟩ := o 2 f2 rfl
   match ys, hyl with
   | [y0, y1, y2], _ =>
    have g0 := hf 0 f0 rfl
    have g1 := hf 1 f1 rfl
    have g2 := hf 2 f2 rfl
    rw [o0, k0] at g0
    rw [o1, k1] at g1
    rw [o2, k2] at g2
    obtain ⟨a, ea, xa, wa⟩ := DataW.trod_string e0 (show DataW.trod enc P w base spare held n f0.type [c0] = some y0 from g0)
    obtain ⟨b, eb, xb, wb⟩ := DataW.trod_string e1 (show DataW.trod enc P w base spare held n f1.type [c1] = some y1 from g1)
    have hx : x.1 = .agg [y0.1, y1.1, y2.1] := by rw [hy]; rfl
    have hbx : Rows.uptoBulk x.1 = (a.size + 1) + ((b.size + 1) + (Rows.uptoBulk y2.1 + 0)) + 1 := by
     rw [hx, Rows.uptoBulk, Rows.uptoBulkAll, Rows.uptoBulkAll, Rows.uptoBulkAll, Rows.uptoBulkAll, xa, xb, ← Bulk.string_le, ← Bulk.string_le]
    have hsa : a.data.toList.length = a.size := rfl
    have hsb : b.data.toList.length = b.size := rfl
    simp only [List.cons.injEq, and_true] at ea eb
    subst ea eb
    rcases DataW.trod_slice e2 (show DataW.trod enc P w base spare held n f2.type [c2] = some y2 from g2) with ⟨h0, hx2⟩ | ⟨ad, len, cap, elems, rest, m, hm, hcs, hx2, hb, hl, hmx, hel, hat, _⟩
    ·simp only [List.cons.injEq, and_true] at h0
     subst h0
     refine ⟨.mk a.data.toList b.data.toList [], (a, b, none, 0, 0), rfl, RIn.leafN w _ a b, ?_⟩
     rw [Nod.tot, Nod.totL]
     omega
    ·simp only [List.cons.injEq, and_true] at hcs
     subst hcs
     have hy2 : y2.1 = .slice (elems.map (·.1)) (rest.map (·.1)) := by rw [hx2]
     have hb2 : Rows.uptoBulk y2.1 = Rows.uptoBulkAll (elems.map (·.1)) + Rows.uptoBulkAll (rest.map (·.1)) + 1 := by rw [hy2, Rows.uptoBulk]
     have hlb := Bulk.length_le (elems.map (·.1))
     rw [List.length_map] at hlb
     have hkid : ∀ i, i < len → ∃ (q : Nod × NV), w.cell? (ad.add (i * 3)) = some (.string q.2.1) ∧ w.cell? ⟨(ad.add (i * 3)).block, (ad.add (i * 3)).off + 1, none⟩ = some (.string q.2.2.1) ∧ w.cell? ⟨(ad.add (i * 3)).block, (ad.add (i * 3)).off + 2, none⟩ = some (.slice q.2.2.2.1 q.2.2.2.2.1 q.2.2.2.2.2) ∧ RIn w (fun g => g < w.heap.size) q.1 q.2 ∧ q.1.tot ≤ Rows.uptoBulk ((elems.map (·.1)).getD i .nil) := by
      intro i hi
      have h1 := hat i hi
      rw [hC] at h1
      have hie : i < elems.length := by omega
      rw [List.getElem?_eq_getElem hie] at h1
      obtain ⟨cs', hc, ht'⟩ := Option.bind_eq_some_iff.1 h1
      obtain ⟨_, hcl, hca⟩ := World.cells?_some hc
      have hmem : Rows.uptoBulk (elems[i]).1 ≤ Rows.uptoBulkAll (elems.map (·.1)) := bulk_mem (List.mem_map.2 ⟨elems[i], List.getElem_mem hie, rfl⟩)
      obtain ⟨t, v, hcv, hr, ht⟩ := ih m (by omega) cs' elems[i] hcl ht' (by omega)
      have d0 := hca 0 (by omega)
      have d1 := hca 1 (by omega)
      have d2 := hca 2 (by omega)
      rw [Go.Deep.add_add, hcv] at d0 d1 d2
      refine ⟨(t, v), d0, ?_, ?_, hr, ?_⟩
      ·rw [← cell_add (j := 0)]; exact d1
      ·rw [← cell_add (j := 1)]; exact d2
      ·have e : (elems.map (·.1)).getD i .nil = (elems[i]).1 := by simp [List.getD, hie]
       rw [e]; exact ht
     obtain ⟨V, hV⟩ := choose_lt (α := Nod × NV) (n := len) (p := fun i q => w.cell? (ad.add (i * 3)) = some (.string q.2.1) ∧ w.cell? ⟨(ad.add (i * 3)).block, (ad.add (i * 3)).off + 1, none⟩ = some (.string q.2.2.1) ∧ w.cell? ⟨(ad.add (i * 3)).block, (ad.add (i * 3)).off + 2, none⟩ = some (.slice q.2.2.2.1 q.2.2.2.2.1 q.2.2.2.2.2) ∧ RIn w (fun g => g < w.heap.size) q.1 q.2 ∧ q.1.tot ≤ Rows.uptoBulk ((elems.map (·.1)).getD i .nil)) hkid
     obtain ⟨K, hK⟩ : ∃ K, (List.range len).map (fun i => (V i).1) = K := ⟨_, rfl⟩
     obtain ⟨L, hL⟩ : ∃ L, (List.range len).map (fun i => (V i).2) = L := ⟨_, rfl⟩
     have hKl : K.length = len := by rw [← hK]; simp
     have hLl : L.length = len := by rw [← hL]; simp
     have hKi : ∀ (i : Nat) (h : i < K.length), K[i] = (V i).1 := fun i h => by subst hK; simp
     have hLi : ∀ (i : Nat) (h : i < L.length), L[i] = (V i).2 := fun i h => by subst hL; simp
     have hNA : NAt w (fun g => g < w.heap.size) (some ad) L := by
      intro i hi
      rw [hLi i hi]
      obtain ⟨c0, c1, c2, _⟩ := hV i (by omega)
      have hblk := World.block_lt_of_cell? _ _ c0
      rw [add_block] at hblk
      exact ⟨ad, rfl, hblk, c0, c1, c2⟩
     have htot : Nod.totL K ≤ Rows.uptoBulkAll (elems.map (·.1)) := by
      have hlist : ∀ (n : Nat) (l : List (DataW H)), n ≤ l.length → (∀ i, i < n → (V i).1.tot ≤ Rows.uptoBulk (l.getD i .nil)) → Nod.totL ((List.range n).map fun i => (V i).1) ≤ Rows.uptoBulkAll (l.take n) := by
       intro n
       induction n with
       | zero => intro l _ _; exact Nat.zero_le _
       | succ n ihn =>
        intro l hn hh
        have h1 := ihn l (by omega) (fun i hi => hh i (by omega))
        have h2 := hh n (by omega)
        have hT : ∀ (a : List Nod) (b : Nod), Nod.totL (a ++ [b]) = Nod.totL a + b.tot := by
         intro a b
         induction a with
         | nil => simp [Nod.totL]
         | cons x a iha => rw [List.cons_append, Nod.totL, Nod.totL, iha]; omega
        have hB : ∀ (a : List (DataW H)) (b : DataW H), Rows.uptoBulkAll (a ++ [b]) = Rows.uptoBulkAll a + Rows.uptoBulk b := by
         intro a b
         induction a with
         | nil => simp [Rows.uptoBulkAll]
         | cons x a iha => rw [List.cons_append, Rows.uptoBulkAll, Rows.uptoBulkAll, iha]; omega
        have e : l.getD n .nil = l[n]'(by omega) := by simp [List.getD, show n < l.length by omega]
        rw [List.range_succ, List.map_append, List.map_cons, List.map_nil, hT, List.take_succ_eq_append_getElem (show n < l.length by omega), hB]
        rw [e] at h2
        omega
      have h9 := hlist len (elems.map (·.1)) (by rw [List.length_map]; omega) (fun i hi => (hV i hi).2.2.2.2)
      rw [List.take_of_length_le (by rw [List.length_map]; omega), hK] at h9
      exact h9
     have hr : RIn w (fun g => g < w.heap.size) (.mk a.data.toList b.data.toList K) (a, b, some ad, K.length, cap) := by
      have h9 := RIn.mk (w := w) (S := fun g => g < w.heap.size) a.data.toList b.data.toList K (some ad) cap L (by omega) (by omega) (by omega) hNA (fun i hi => by
       rw [hKi i hi, hLi i (by omega)]
       exact (hV i (by omega)).2.2.2.1)
      exact h9
     refine ⟨.mk a.data.toList b.data.toList K, (a, b, some ad, len, cap), rfl, by rw [hKl] at hr; exact hr, ?_⟩
     rw [Nod.tot]
     omega
theorem open_nodev {r : Reach} {b0 : Nat} {e : TypeId} {f0 f1 f2 : Field} {v : Value} {d : DataW H} {p : List MemPlace} (he : P.underlying e = some (.struct #[f0, f1, f2])) (hone : oneCellFields P #[f0, f1, f2] = true) (hC : P.cellsOf e = 3)
  (e0 : P.underlying f0.type = some .string) (e1 : P.underlying f1.type = some .string) (e2 : P.underlying f2.type = some (.slice e)) (hv : Value.okWide P w r b0 e v) (h : DataW.Trod enc P w base spare held e v d p) (hb : Rows.uptoBulk d ≤ 1048576) :
  ∃ (t : Nod) (op tx : ByteArray) (X : Option Addr) (n k : Nat), v = .agg #[.string op, .string tx, .slice X n k] ∧ RIn w (fun g => g < w.heap.size) t (op, tx, X, n, k) ∧ t.tot ≤ 1048576 := by
 obtain ⟨cs, rfl, hsz⟩ := okWide_struct he hv
 obtain ⟨fuel, hf⟩ := h
 obtain ⟨t, x, hc, hr, ht⟩ := open_node (w := w) (spare := spare) he hone hC e0 e1 e2 fuel cs.toList (d, p) (by rw [Array.length_toList, hsz, hC]) hf hb
 obtain ⟨op, tx, X, n, k⟩ := x
 refine ⟨t, op, tx, X, n, k, ?_, hr, Nat.le_trans ht hb⟩
 have : cs = (nc (op, tx, X, n, k)).toArray := by rw [← hc]
 rw [this]
 rfl
end
end Go.Proofs.YtjbpkpfmgbhlpaaGreatDoor.RowOpen
