/-
  The query writer's kids.
-/
import Derived.Test.YtjbpkpfmgbhlpaaGreatDoorMs16
import Derived.Test.YtjbpkpfmgbhlpaaGreatDoorMs4
import Derived.Test.YtjbpkpfmgbhlpaaGreatDoorMs11
import Derived.Test.YtjbpkpfmgbhlpaaGreatDoorMs12
set_option maxRecDepth 100000
set_option maxHeartbeats 16000000
open Go.Lib (hid)
namespace Go.Proofs.YtjbpkpfmgbhlpaaGreatDoor.Code
open Go.ChangeShapes Go.WideShapes Go.ChangeAt Go.RowKit Val Elems
set_option linter.unusedVariables false
set_option linter.unusedSimpArgs false
def NdQ (b : Nat) (m : Int) (t : Nod) : Prop := ∀ (S : Nat → Prop) (op tx : ByteArray) (X : Option Addr) (n k : Nat) (bs : List UInt8) (w : World), HasQ b m bs w → (∀ g, S g → g < b) → RIn w S t (op, tx, X, n, k) → t.tot ≤ 100000 → bs.length + (showQ t).length ≤ 900000 →
 Calls Tryz.prog 32 #[.pointer (some ⟨b, 0, none⟩), .agg #[.string op, .string tx, .slice X n k]] w (QdP b (bs ++ showQ t) w)
def goodP (T : Nod) : Prop := isItemB T = true ∨ isOnB T = true ∨ isAggB T = true ∨ isByB T = true
theorem qpart_any {b : Nat} {m : Int} (t : Nod) (hE : ∀ x ∈ exprsOf t, EShows x) (hg : goodP t) (S : Nat → Prop) (op tx : ByteArray) (X : Option Addr) (n k : Nat) (bs : List UInt8) (w : World) (h : HasQ b m bs w) (hS : ∀ g, S g → g < b) (hn : RIn w S t (op, tx, X, n, k)) (htt : t.tot ≤ 100000) (hl : bs.length + (partW t).length ≤ 900000) :
  Calls Tryz.prog 112 #[.pointer (some ⟨b, 0, none⟩), .agg #[.string op, .string tx, .slice X n k]] w (QdP b (bs ++ partW t) w) := by
 rcases hg with hg | hg | hg | hg
 ·simp [isItemB, isE] at hg
  exact qpart_item t hE hg.1 (by omega) S op tx X n k bs w h hS hn htt hl
 ·simp [isOnB, isE] at hg
  exact qpart_on t hg.1.1 (by omega) S op tx X n k bs w h hS hn htt hl
 ·simp [isAggB, isE] at hg
  exact qpart_agg t hg.1.1 (by omega) S op tx X n k bs w h hS hn htt hl
 ·simp [isByB] at hg
  exact qpart_by t hg.1.1 S op tx X n k bs w h hS hn hl
theorem all_get {p : Nod → Bool} {l : List Nod} {c i : Nat} (h : (l.drop c).all p = true) (hi : i < l.length) (hc : c ≤ i) : p l[i] = true := by
 rw [List.all_eq_true] at h
 refine h _ ?_
 rw [List.mem_iff_getElem]
 exact ⟨i - c, by rw [List.length_drop]; omega, by rw [List.getElem_drop]; congr 1; omega⟩
theorem right_kid {t : Nod} (h : rightQ t = true) {i : Nat} (hi : i < t.ks.length) (hn : ¬ i < innerQ t) (hf : t.op ≠ sFilter) : goodP t.ks[i] := by
 unfold rightQ at h
 unfold innerQ at hn
 split at h
 ·exact absurd h (by decide)
 split at h
 ·rename_i _ hx
  simp at h
  rw [h] at hi
  exact absurd hi (Nat.not_lt_zero _)
 rename_i hfr
 try rw [if_neg hf] at h
 split at h
 ·rename_i hx
  rw [hx, if_neg (by decide), if_neg (by decide)] at hn
  rw [Bool.and_eq_true] at h
  exact .inl (all_get h.2 hi (by omega))
 split at h
 ·rename_i _ hx
  rw [hx, if_neg (by decide), if_pos rfl] at hn
  rw [Bool.and_eq_true] at h
  exact .inr (.inl (all_get h.2 hi (by omega)))
 split at h
 ·rename_i _ _ hx
  rw [hx, if_pos rfl] at hn
  exact absurd hi hn
 split at h
 ·rename_i _ _ _ hx
  rw [hx, if_neg (by decide), if_neg (by decide)] at hn
  simp at h
  omega
 split at h
 ·rename_i _ _ _ _ hx
  rw [hx, if_neg (by decide), if_neg (by decide)] at hn
  rw [Bool.and_eq_true, Bool.and_eq_true] at h
  by_cases h1 : i = 1
  ·subst h1
   have hz : nthN t.ks 1 = t.ks[1] := by unfold nthN; rw [List.getD_eq_getElem?_getD, List.getElem?_eq_getElem hi]; rfl
   rw [← hz]
   exact .inr (.inr (.inr h.1.2))
  ·exact .inr (.inr (.inl (all_get h.2 hi (by omega))))
 ·exact absurd h (by decide)
theorem qkids_any {b : Nat} {m : Int} (t : Nod) (hE : ∀ x ∈ exprsOf t, EShows x) (hr : rightQ t = true) (ih : ∀ (i : Nat) (hi : i < t.ks.length), NdQ b m t.ks[i]) (S : Nat → Prop) (op tx : ByteArray) (X : Option Addr) (n k : Nat) (bs : List UInt8) (w : World) (h : HasQ b m bs w) (hS : ∀ g, S g → g < b) (hn : RIn w S t (op, tx, X, n, k)) (htt : t.tot ≤ 100000) (hl : bs.length + (kidsTx t 0 t.ks).length ≤ 900000) :
  Calls Tryz.prog 67 #[.pointer (some ⟨b, 0, none⟩), .agg #[.string op, .string tx, .slice X n k]] w (QdP b (bs ++ kidsTx t 0 t.ks) w) := by
 have hbl := h.lt
 obtain ⟨eo, et, en, hkl⟩ := hn.texts
 dsimp only at eo et en
 subst en
 have eo' : op.data.toList = t.op := by rw [eo]
 have HOP := hid eo'
 have HS := hid hS
 have HN := hid hn
 have HHQ := hid h
 have HRT := hid hr
 have HEE := hid hE
 have HIH := hid ih
 have HTT := hid htt
 have HL := hid hl
 have HW := hid (fun (bs' : List UInt8) (s : ByteArray) (w' : World) (h' : qWr w' b bs') (hl' : bs'.length + s.size ≤ 1000000) => qewrite_any b bs' s w' h' hl')
 obtain ⟨Z, hZ⟩ : ∃ Z, bs ++ kidsTx t 0 t.ks = Z := ⟨_, rfl⟩
 have HZ := hid hZ
 rw [hZ]
 obtain ⟨J, hJ⟩ : ∃ J, innerQ t = J := ⟨_, rfl⟩
 have HJ := hid hJ
 clear hE h hn hS eo et hl hr ih htt hZ eo' hJ
 go_enter Tryz.func67, Tryz.ntmps67
 obtain ⟨w0, hw0⟩ : ∃ w0, w.alloc (.cells #[.string op, .string tx, .slice X t.ks.length k] 25) = w0 := ⟨_, rfl⟩
 have B0 := hid (show Below w.heap.size w w0 by rw [← hw0]; exact below_alloc w _)
 have X0 := hid (show HB w0 w.heap.size #[.string op, .string tx, .slice X t.ks.length k] 25 by rw [← hw0]; exact HB.fresh w _ _)
 have A0 := hid (show HasQ b m (bs ++ kidsTx t 0 (t.ks.take 0)) w0 by rw [List.take_zero, show kidsTx t 0 [] = [] from rfl, List.append_nil]; exact HHQ.out.below B0.out)
 have K0 := hid ((Kp.refl b w).next (Nat.le_of_lt hbl) B0.out)
 have KR0 := hid (Kp.refl b w0)
 have HW0 := hid hw0
 clear hw0
 go_upto_region 1 with fail
 rw [HW0.out]
 have x2 : w0.cell? ⟨w.heap.size, 2, none⟩ = some (.slice X t.ks.length k) := X0.out.cell 2
 go_wp2
 go_loopw [9] (fun t' wr => ∃ k9 : Nat, k9 ≤ t.ks.length ∧ t' = .int .i64 k9 ∧ Hid (HasQ b m (bs ++ kidsTx t 0 (t.ks.take k9)) wr) ∧ Hid (Kp b w0 wr)) (fun t' _ => t.ks.length - (intOf t').toNat)
 case atStart => exact ⟨0, by omega, rfl, A0, KR0⟩
 case round =>
  obtain ⟨k9, hk9, rfl, AR, KR⟩ := hrel
  by_cases hlt : k9 < t.ks.length
  ·have HKK := hid (HN.out.kp HS.out (K0.out.trans KR.out).bl)
   obtain ⟨ad, ⟨op', tx', X', n', m'⟩, eA, hS', q0, q1, q2, hk'⟩ := HKK.out.kid k9 hlt
   dsimp only at eA q0 q1 q2
   subst eA
   have had := HS.out _ hS'
   have hzr : b < wr.heap.size := AR.out.lt
   have hzw : w.heap.size < wr.heap.size := (X0.out.kp KR.out (by omega) (by decide)).lt
   obtain ⟨hkn, hkn9⟩ := hk'.texts.2.2
   dsimp only at hkn
   obtain ⟨D, hD⟩ : ∃ D, kidsTx t 0 (t.ks.take k9) = D := ⟨_, rfl⟩
   have hTK : kidsTx t 0 (t.ks.take (k9 + 1)) = D ++ kidTx t k9 t.ks[k9] := by rw [kidsTx_take t t.ks k9 hlt, hD]
   have hLL : bs.length + (D ++ kidTx t k9 t.ks[k9]).length ≤ 900000 := by
    have h1 := kidsTx_le t t.ks (k9 + 1) 0
    have h2 := HL.out
    rw [hTK] at h1
    omega
   rw [List.length_append] at hLL
   rw [hD] at AR
   obtain ⟨T, hT⟩ : ∃ T, t.ks[k9] = T := ⟨_, rfl⟩
   have HIT := hid (show NdQ b m T by rw [← hT]; exact HIH.out k9 hlt)
   have HET := hid (show ∀ x ∈ exprsOf T, EShows x by rw [← hT]; exact fun x hx => HEE.out x (exprs_kid k9 hlt hx))
   have HEF := hid (fun (h1 : t.op = sFilter) (h2 : 0 < k9) => (show EShows T by rw [← hT]; exact HEE.out _ (exprs_filter h1 k9 hlt h2)))
   have HTOT := hid (show T.tot ≤ 100000 by have h1 := tot_mem (List.getElem_mem hlt); have h2 := HTT.out; rw [tot_ks] at h2; rw [← hT]; omega)
   have HGP := hid (fun (h1 : ¬ k9 < J) (h2 : t.op ≠ sFilter) => (show goodP T by rw [← hT]; exact right_kid HRT.out hlt (by rw [HJ.out]; exact h1) h2))
   have HFZ := hid (show bs ++ kidsTx t 0 (t.ks.take t.ks.length) = Z by rw [List.take_length]; exact HZ.out)
   rw [hT] at hTK hLL hk' hkn
   have HKN := hid hkn
   have HTK := hid hTK
   obtain ⟨w6, hw6⟩ : ∃ w6, wr.alloc (.cells #[.string op', .string tx', .slice X' n' m'] 25) = w6 := ⟨_, rfl⟩
   have X6 := hid (show HB w6 wr.heap.size #[.string op', .string tx', .slice X' n' m'] 25 by rw [← hw6]; exact HB.fresh wr _ _)
   have A6 := hid (show HasQ b m (bs ++ D) w6 by rw [← hw6]; exact AR.out.below (below_alloc wr _))
   have K6 := hid (show Kp b w0 w6 by rw [← hw6]; exact KR.out.next (by omega) (below_alloc wr _))
   have Y6 := hid (X0.out.kp K6.out (by omega) (by decide))
   have N6 := hid (show RIn w6 S T (op', tx', X', n', m') by rw [← hw6]; exact hk'.kp HS.out ((Kp.refl b wr).next (by omega) (below_alloc wr _)).bl)
   have M6 := hid (HN.out.kp HS.out (K0.out.trans K6.out).bl)
   have HW6 := hid hw6
   have HLT := hid hlt
   have hz6 : b < w6.heap.size := A6.out.lt
   have HJ0 : 0 < J := by rw [← HJ.out]; unfold innerQ; split; omega; split <;> omega
   clear hk' hw6 hTK hD hT hkn9 hkn
   go_upto_region 4 with fail
   rw [HW6.out]
   have y0 : w6.cell? ⟨w.heap.size, 0, none⟩ = some (.string op) := Y6.out.cell 0
   have z2 : w6.cell? ⟨wr.heap.size, 2, none⟩ = some (.slice X' n' m') := X6.out.cell 2
   clear q0 q1 q2
   by_cases hop : op.data.toList = sGroup
   ·obtain rfl : op = ⟨#[103, 114, 111, 117, 112]⟩ := by rw [← Lib.mk_data op, hop]; rfl
    have hnf : t.op ≠ sFilter := by rw [← HOP.out, hop]; decide
    have hJ1 : J = 1 := by rw [← HJ.out]; unfold innerQ; rw [← HOP.out, hop, if_neg (by decide), if_neg (by decide)]
    have htg : (t.op == sGroup) = true := by rw [← HOP.out, hop]; decide
    by_cases h1 : k9 = 1
    ·by_cases h0 : T.ks.length = 0
     ·have hi1 : ((k9 : Int) == 1) = true := by simp; omega
      have hn0 : ((n' : Int) == 0) = true := by rw [HKN.out, h0]; rfl
      have A9 := hid (show HasQ b m (bs ++ kidsTx t 0 (t.ks.take (k9 + 1))) w6 by
       rw [HTK.out, kidTx, if_pos (by unfold skipQ; rw [htg, h1, h0]; decide), List.append_nil]
       exact A6.out)
      have K9 := K6
      clear h1 h0 hJ1 htg hop hnf
      go_wp2
      go_roundw
      case rel => exact ⟨k9 + 1, by omega, by go_num, A9, K9⟩
      case measure => simp [intOf]; omega
     ·have hi1 : ((k9 : Int) == 1) = true := by simp; omega
      have hn0 : ((n' : Int) == 0) = false := by rw [HKN.out, Bool.eq_false_iff]; intro h9; have := eq_of_beq h9; omega
      have HKT : kidTx t k9 T = [44, 32] ++ partW T := by
       have hs : skipQ t k9 T = false := by (unfold skipQ; have h9 : (T.ks.length == 0) = false := (by simpa using h0); rw [h9, Bool.and_false])
       rw [kidTx, if_neg (by rw [hs]; decide), if_pos (by omega), if_neg (by rw [HJ.out]; omega), if_neg hnf]
      have hin : decide ((k9 : Int) < (J : Int)) = false := by simp; omega
      have hgt : decide ((0 : Int) < (k9 : Int)) = true := by simp; omega
      have hin2 : decide (k9 < J) = false := by simp; omega
      have hgt2 : decide (0 < k9) = true := by simp; omega
      rw [HKT, List.length_append] at hLL
      simp only [List.length_cons, List.length_nil] at hLL
      have HKT := hid HKT
      have hlc : ([44, 32] : List UInt8).length = 2 := rfl
      have HGG := hid (HGP.out (by omega) hnf)
      try clear h1
      try clear h0
      try clear hj
      try clear hJ1
      try clear htg
      try clear hop
      try clear hnf
      go_wp2_with fail
      refine (HW.out (bs ++ D) ⟨#[44, 32]⟩ _ A6.out.wr (by rw [List.length_append]; have h8 : (⟨#[44, 32]⟩ : ByteArray).size = 2 := rfl; omega)).mono ?_
      rintro e w7 ⟨rfl, hw7, hk7⟩
      have A7 := hid (show HasQ b m (bs ++ D ++ [44, 32]) w7 from A6.out.next hw7 hk7)
      have K7 := hid (K6.out.trans hk7)
      have X7 := hid (X6.out.kp hk7 (by omega) (by decide))
      have Y7 := hid (Y6.out.kp hk7 (by omega) (by decide))
      have N7 := hid (N6.out.kp HS.out hk7.bl)
      have M7 := hid (M6.out.kp HS.out hk7.bl)
      clear hw7 hk7 y0 z2
      have y0 : w7.cell? ⟨w.heap.size, 0, none⟩ = some (.string ⟨#[103, 114, 111, 117, 112]⟩) := Y7.out.cell 0
      have y1 : w7.cell? ⟨w.heap.size, 1, none⟩ = some (.string tx) := Y7.out.cell 1
      have y2 : w7.cell? ⟨w.heap.size, 2, none⟩ = some (.slice (some ad) t.ks.length k) := Y7.out.cell 2
      have hz7 : b < w7.heap.size := A7.out.lt
      have HI := hid (pinner_any t S ⟨#[103, 114, 111, 117, 112]⟩ tx (some ad) t.ks.length k w7 M7.out)
      rw [HJ.out] at HI
      go_wp2_with fail
      refine HI.out.mono ?_
      rintro e w8 ⟨rfl, hb8⟩
      have A8 := hid (A7.out.below hb8)
      have K8 := hid (K7.out.next (by omega) hb8)
      have X8 := hid (X7.out.below hb8)
      have N8 := hid (N7.out.kp HS.out (hb8.mono (by omega)))
      have Y8 := hid (Y7.out.below hb8)
      have hz8 : b < w8.heap.size := A8.out.lt
      clear hb8 y0 y1 y2
      have y0 : w8.cell? ⟨w.heap.size, 0, none⟩ = some (.string ⟨#[103, 114, 111, 117, 112]⟩) := Y8.out.cell 0
      have z0 : w8.cell? ⟨wr.heap.size, 0, none⟩ = some (.string op') := X8.out.cell 0
      have z1 : w8.cell? ⟨wr.heap.size, 1, none⟩ = some (.string tx') := X8.out.cell 1
      have z2 : w8.cell? ⟨wr.heap.size, 2, none⟩ = some (.slice X' n' m') := X8.out.cell 2
      have HQ := hid (qpart_any T HET.out HGG.out S op' tx' X' n' m' (bs ++ D ++ [44, 32]) w8 A8.out HS.out N8.out HTOT.out (by simp only [List.length_append, List.length_cons, List.length_nil]; omega))
      go_wp2_with fail
      refine HQ.out.mono ?_
      rintro e w9 ⟨rfl, hw9, hkk⟩
      have A9 := hid (show HasQ b m (bs ++ kidsTx t 0 (t.ks.take (k9 + 1))) w9 from A8.out.next (by have h := hw9; rw [HTK.out, HKT.out]; simpa using h) hkk)
      have K9 := hid (K8.out.trans hkk)
      clear hw9 hkk y0 z0 z1 z2
      go_wp2
      go_roundw
      case rel => exact ⟨k9 + 1, by omega, by go_num, A9, K9⟩
      case measure => simp [intOf]; omega
    ·have hi1 : ((k9 : Int) == 1) = false := by simp; omega
     by_cases h0 : k9 = 0
     ·have HKT : kidTx t k9 T = [] ++ showQ T := by
       have hs : skipQ t k9 T = false := by (unfold skipQ; have h9 : (k9 == 1) = false := (by simpa using h1); rw [h9, Bool.and_false, Bool.false_and])
       rw [kidTx, if_neg (by rw [hs]; decide), if_neg (by omega), if_pos (by rw [HJ.out]; omega)]
      have hin : decide ((k9 : Int) < (J : Int)) = true := by simp; omega
      have hgt : decide ((0 : Int) < (k9 : Int)) = false := by simp; omega
      have hin2 : decide (k9 < J) = true := by simp; omega
      have hgt2 : decide (0 < k9) = false := by simp; omega
      rw [HKT, List.length_append] at hLL
      simp only [List.length_cons, List.length_nil] at hLL
      have HKT := hid HKT
      try clear h1
      try clear h0
      try clear hj
      try clear hJ1
      try clear htg
      try clear hop
      try clear hnf
      have y1 : w6.cell? ⟨w.heap.size, 1, none⟩ = some (.string tx) := Y6.out.cell 1
      have y2 : w6.cell? ⟨w.heap.size, 2, none⟩ = some (.slice (some ad) t.ks.length k) := Y6.out.cell 2
      have A7 := A6
      have K7 := K6
      have X7 := X6
      have Y7 := Y6
      have N7 := N6
      have hz7 := hz6
      have HI := hid (pinner_any t S ⟨#[103, 114, 111, 117, 112]⟩ tx (some ad) t.ks.length k w6 M6.out)
      rw [HJ.out] at HI
      go_wp2_with fail
      refine HI.out.mono ?_
      rintro e w8 ⟨rfl, hb8⟩
      have A8 := hid (A7.out.below hb8)
      have K8 := hid (K7.out.next (by omega) hb8)
      have X8 := hid (X7.out.below hb8)
      have N8 := hid (N7.out.kp HS.out (hb8.mono (by omega)))
      have Y8 := hid (Y7.out.below hb8)
      have hz8 : b < w8.heap.size := A8.out.lt
      clear hb8 y0 y1 y2 z2
      have y0 : w8.cell? ⟨w.heap.size, 0, none⟩ = some (.string ⟨#[103, 114, 111, 117, 112]⟩) := Y8.out.cell 0
      have z0 : w8.cell? ⟨wr.heap.size, 0, none⟩ = some (.string op') := X8.out.cell 0
      have z1 : w8.cell? ⟨wr.heap.size, 1, none⟩ = some (.string tx') := X8.out.cell 1
      have z2 : w8.cell? ⟨wr.heap.size, 2, none⟩ = some (.slice X' n' m') := X8.out.cell 2
      have HQ := hid (HIT.out S op' tx' X' n' m' (bs ++ D) w8 A8.out HS.out N8.out HTOT.out (by simp only [List.length_append, List.length_cons, List.length_nil]; omega))
      go_wp2_with fail
      refine HQ.out.mono ?_
      rintro e w9 ⟨rfl, hw9, hkk⟩
      have A9 := hid (show HasQ b m (bs ++ kidsTx t 0 (t.ks.take (k9 + 1))) w9 from A8.out.next (by have h := hw9; rw [HTK.out, HKT.out]; simpa using h) hkk)
      have K9 := hid (K8.out.trans hkk)
      clear hw9 hkk y0 z0 z1 z2
      go_wp2
      go_roundw
      case rel => exact ⟨k9 + 1, by omega, by go_num, A9, K9⟩
      case measure => simp [intOf]; omega
     ·have HKT : kidTx t k9 T = [44, 32] ++ partW T := by
       have hs : skipQ t k9 T = false := by (unfold skipQ; have h9 : (k9 == 1) = false := (by simpa using h1); rw [h9, Bool.and_false, Bool.false_and])
       rw [kidTx, if_neg (by rw [hs]; decide), if_pos (by omega), if_neg (by rw [HJ.out]; omega), if_neg hnf]
      have hin : decide ((k9 : Int) < (J : Int)) = false := by simp; omega
      have hgt : decide ((0 : Int) < (k9 : Int)) = true := by simp; omega
      have hin2 : decide (k9 < J) = false := by simp; omega
      have hgt2 : decide (0 < k9) = true := by simp; omega
      rw [HKT, List.length_append] at hLL
      simp only [List.length_cons, List.length_nil] at hLL
      have HKT := hid HKT
      have hlc : ([44, 32] : List UInt8).length = 2 := rfl
      have HGG := hid (HGP.out (by omega) hnf)
      try clear h1
      try clear h0
      try clear hj
      try clear hJ1
      try clear htg
      try clear hop
      try clear hnf
      go_wp2_with fail
      refine (HW.out (bs ++ D) ⟨#[44, 32]⟩ _ A6.out.wr (by rw [List.length_append]; have h8 : (⟨#[44, 32]⟩ : ByteArray).size = 2 := rfl; omega)).mono ?_
      rintro e w7 ⟨rfl, hw7, hk7⟩
      have A7 := hid (show HasQ b m (bs ++ D ++ [44, 32]) w7 from A6.out.next hw7 hk7)
      have K7 := hid (K6.out.trans hk7)
      have X7 := hid (X6.out.kp hk7 (by omega) (by decide))
      have Y7 := hid (Y6.out.kp hk7 (by omega) (by decide))
      have N7 := hid (N6.out.kp HS.out hk7.bl)
      have M7 := hid (M6.out.kp HS.out hk7.bl)
      clear hw7 hk7 y0 z2
      have y0 : w7.cell? ⟨w.heap.size, 0, none⟩ = some (.string ⟨#[103, 114, 111, 117, 112]⟩) := Y7.out.cell 0
      have y1 : w7.cell? ⟨w.heap.size, 1, none⟩ = some (.string tx) := Y7.out.cell 1
      have y2 : w7.cell? ⟨w.heap.size, 2, none⟩ = some (.slice (some ad) t.ks.length k) := Y7.out.cell 2
      have hz7 : b < w7.heap.size := A7.out.lt
      have HI := hid (pinner_any t S ⟨#[103, 114, 111, 117, 112]⟩ tx (some ad) t.ks.length k w7 M7.out)
      rw [HJ.out] at HI
      go_wp2_with fail
      refine HI.out.mono ?_
      rintro e w8 ⟨rfl, hb8⟩
      have A8 := hid (A7.out.below hb8)
      have K8 := hid (K7.out.next (by omega) hb8)
      have X8 := hid (X7.out.below hb8)
      have N8 := hid (N7.out.kp HS.out (hb8.mono (by omega)))
      have Y8 := hid (Y7.out.below hb8)
      have hz8 : b < w8.heap.size := A8.out.lt
      clear hb8 y0 y1 y2
      have y0 : w8.cell? ⟨w.heap.size, 0, none⟩ = some (.string ⟨#[103, 114, 111, 117, 112]⟩) := Y8.out.cell 0
      have z0 : w8.cell? ⟨wr.heap.size, 0, none⟩ = some (.string op') := X8.out.cell 0
      have z1 : w8.cell? ⟨wr.heap.size, 1, none⟩ = some (.string tx') := X8.out.cell 1
      have z2 : w8.cell? ⟨wr.heap.size, 2, none⟩ = some (.slice X' n' m') := X8.out.cell 2
      have HQ := hid (qpart_any T HET.out HGG.out S op' tx' X' n' m' (bs ++ D ++ [44, 32]) w8 A8.out HS.out N8.out HTOT.out (by simp only [List.length_append, List.length_cons, List.length_nil]; omega))
      go_wp2_with fail
      refine HQ.out.mono ?_
      rintro e w9 ⟨rfl, hw9, hkk⟩
      have A9 := hid (show HasQ b m (bs ++ kidsTx t 0 (t.ks.take (k9 + 1))) w9 from A8.out.next (by have h := hw9; rw [HTK.out, HKT.out]; simpa using h) hkk)
      have K9 := hid (K8.out.trans hkk)
      clear hw9 hkk y0 z0 z1 z2
      go_wp2
      go_roundw
      case rel => exact ⟨k9 + 1, by omega, by go_num, A9, K9⟩
      case measure => simp [intOf]; omega
   ·have hg : (op.toList == [103, 114, 111, 117, 112]) = false := lit_ne hop
    have htg : (t.op == sGroup) = false := by rw [← HOP.out]; simpa using hop
    by_cases h0 : k9 = 0
    ·have HKT : kidTx t k9 T = [] ++ showQ T := by
      have hs : skipQ t k9 T = false := by (unfold skipQ; rw [htg, Bool.false_and, Bool.false_and])
      rw [kidTx, if_neg (by rw [hs]; decide), if_neg (by omega), if_pos (by rw [HJ.out]; omega)]
     have hin : decide ((k9 : Int) < (J : Int)) = true := by simp; omega
     have hgt : decide ((0 : Int) < (k9 : Int)) = false := by simp; omega
     have hin2 : decide (k9 < J) = true := by simp; omega
     have hgt2 : decide (0 < k9) = false := by simp; omega
     rw [HKT, List.length_append] at hLL
     simp only [List.length_cons, List.length_nil] at hLL
     have HKT := hid HKT
     try clear h1
     try clear h0
     try clear hj
     try clear hJ1
     try clear htg
     try clear hop
     try clear hnf
     have y1 : w6.cell? ⟨w.heap.size, 1, none⟩ = some (.string tx) := Y6.out.cell 1
     have y2 : w6.cell? ⟨w.heap.size, 2, none⟩ = some (.slice (some ad) t.ks.length k) := Y6.out.cell 2
     have A7 := A6
     have K7 := K6
     have X7 := X6
     have Y7 := Y6
     have N7 := N6
     have hz7 := hz6
     have HI := hid (pinner_any t S op tx (some ad) t.ks.length k w6 M6.out)
     rw [HJ.out] at HI
     go_wp2_with fail
     refine HI.out.mono ?_
     rintro e w8 ⟨rfl, hb8⟩
     have A8 := hid (A7.out.below hb8)
     have K8 := hid (K7.out.next (by omega) hb8)
     have X8 := hid (X7.out.below hb8)
     have N8 := hid (N7.out.kp HS.out (hb8.mono (by omega)))
     have Y8 := hid (Y7.out.below hb8)
     have hz8 : b < w8.heap.size := A8.out.lt
     clear hb8 y0 y1 y2 z2
     have y0 : w8.cell? ⟨w.heap.size, 0, none⟩ = some (.string op) := Y8.out.cell 0
     have z0 : w8.cell? ⟨wr.heap.size, 0, none⟩ = some (.string op') := X8.out.cell 0
     have z1 : w8.cell? ⟨wr.heap.size, 1, none⟩ = some (.string tx') := X8.out.cell 1
     have z2 : w8.cell? ⟨wr.heap.size, 2, none⟩ = some (.slice X' n' m') := X8.out.cell 2
     have HQ := hid (HIT.out S op' tx' X' n' m' (bs ++ D) w8 A8.out HS.out N8.out HTOT.out (by simp only [List.length_append, List.length_cons, List.length_nil]; omega))
     go_wp2_with fail
     refine HQ.out.mono ?_
     rintro e w9 ⟨rfl, hw9, hkk⟩
     have A9 := hid (show HasQ b m (bs ++ kidsTx t 0 (t.ks.take (k9 + 1))) w9 from A8.out.next (by have h := hw9; rw [HTK.out, HKT.out]; simpa using h) hkk)
     have K9 := hid (K8.out.trans hkk)
     clear hw9 hkk y0 z0 z1 z2
     go_wp2
     go_roundw
     case rel => exact ⟨k9 + 1, by omega, by go_num, A9, K9⟩
     case measure => simp [intOf]; omega
    ·by_cases hj : k9 < J
     ·have HKT : kidTx t k9 T = [44, 32] ++ showQ T := by
       have hs : skipQ t k9 T = false := by (unfold skipQ; rw [htg, Bool.false_and, Bool.false_and])
       rw [kidTx, if_neg (by rw [hs]; decide), if_pos (by omega), if_pos (by rw [HJ.out]; omega)]
      have hin : decide ((k9 : Int) < (J : Int)) = true := by simp; omega
      have hgt : decide ((0 : Int) < (k9 : Int)) = true := by simp; omega
      have hin2 : decide (k9 < J) = true := by simp; omega
      have hgt2 : decide (0 < k9) = true := by simp; omega
      rw [HKT, List.length_append] at hLL
      simp only [List.length_cons, List.length_nil] at hLL
      have HKT := hid HKT
      have hlc : ([44, 32] : List UInt8).length = 2 := rfl
      try clear h1
      try clear h0
      try clear hj
      try clear hJ1
      try clear htg
      try clear hop
      try clear hnf
      go_wp2_with fail
      refine (HW.out (bs ++ D) ⟨#[44, 32]⟩ _ A6.out.wr (by rw [List.length_append]; have h8 : (⟨#[44, 32]⟩ : ByteArray).size = 2 := rfl; omega)).mono ?_
      rintro e w7 ⟨rfl, hw7, hk7⟩
      have A7 := hid (show HasQ b m (bs ++ D ++ [44, 32]) w7 from A6.out.next hw7 hk7)
      have K7 := hid (K6.out.trans hk7)
      have X7 := hid (X6.out.kp hk7 (by omega) (by decide))
      have Y7 := hid (Y6.out.kp hk7 (by omega) (by decide))
      have N7 := hid (N6.out.kp HS.out hk7.bl)
      have M7 := hid (M6.out.kp HS.out hk7.bl)
      clear hw7 hk7 y0 z2
      have y0 : w7.cell? ⟨w.heap.size, 0, none⟩ = some (.string op) := Y7.out.cell 0
      have y1 : w7.cell? ⟨w.heap.size, 1, none⟩ = some (.string tx) := Y7.out.cell 1
      have y2 : w7.cell? ⟨w.heap.size, 2, none⟩ = some (.slice (some ad) t.ks.length k) := Y7.out.cell 2
      have hz7 : b < w7.heap.size := A7.out.lt
      have HI := hid (pinner_any t S op tx (some ad) t.ks.length k w7 M7.out)
      rw [HJ.out] at HI
      go_wp2_with fail
      refine HI.out.mono ?_
      rintro e w8 ⟨rfl, hb8⟩
      have A8 := hid (A7.out.below hb8)
      have K8 := hid (K7.out.next (by omega) hb8)
      have X8 := hid (X7.out.below hb8)
      have N8 := hid (N7.out.kp HS.out (hb8.mono (by omega)))
      have Y8 := hid (Y7.out.below hb8)
      have hz8 : b < w8.heap.size := A8.out.lt
      clear hb8 y0 y1 y2
      have y0 : w8.cell? ⟨w.heap.size, 0, none⟩ = some (.string op) := Y8.out.cell 0
      have z0 : w8.cell? ⟨wr.heap.size, 0, none⟩ = some (.string op') := X8.out.cell 0
      have z1 : w8.cell? ⟨wr.heap.size, 1, none⟩ = some (.string tx') := X8.out.cell 1
      have z2 : w8.cell? ⟨wr.heap.size, 2, none⟩ = some (.slice X' n' m') := X8.out.cell 2
      have HQ := hid (HIT.out S op' tx' X' n' m' (bs ++ D ++ [44, 32]) w8 A8.out HS.out N8.out HTOT.out (by simp only [List.length_append, List.length_cons, List.length_nil]; omega))
      go_wp2_with fail
      refine HQ.out.mono ?_
      rintro e w9 ⟨rfl, hw9, hkk⟩
      have A9 := hid (show HasQ b m (bs ++ kidsTx t 0 (t.ks.take (k9 + 1))) w9 from A8.out.next (by have h := hw9; rw [HTK.out, HKT.out]; simpa using h) hkk)
      have K9 := hid (K8.out.trans hkk)
      clear hw9 hkk y0 z0 z1 z2
      go_wp2
      go_roundw
      case rel => exact ⟨k9 + 1, by omega, by go_num, A9, K9⟩
      case measure => simp [intOf]; omega
     ·by_cases hnf : t.op = sFilter
      ·have hf9 : (op.toList == [102, 105, 108, 116, 101, 114]) = true := by rw [ByteArray.toList_eq, HOP.out, hnf]; decide
       have HSE := hid (HEF.out hnf (by omega))
       have HKT : kidTx t k9 T = [44, 32] ++ showE T := by
        have hs : skipQ t k9 T = false := by (unfold skipQ; rw [htg, Bool.false_and, Bool.false_and])
        rw [kidTx, if_neg (by rw [hs]; decide), if_pos (by omega), if_neg (by rw [HJ.out]; omega), if_pos hnf]
       have hin : decide ((k9 : Int) < (J : Int)) = false := by simp; omega
       have hgt : decide ((0 : Int) < (k9 : Int)) = true := by simp; omega
       have hin2 : decide (k9 < J) = false := by simp; omega
       have hgt2 : decide (0 < k9) = true := by simp; omega
       rw [HKT, List.length_append] at hLL
       simp only [List.length_cons, List.length_nil] at hLL
       have HKT := hid HKT
       have hlc : ([44, 32] : List UInt8).length = 2 := rfl
       try clear h1
       try clear h0
       try clear hj
       try clear hJ1
       try clear htg
       try clear hop
       try clear hnf
       go_wp2_with fail
       refine (HW.out (bs ++ D) ⟨#[44, 32]⟩ _ A6.out.wr (by rw [List.length_append]; have h8 : (⟨#[44, 32]⟩ : ByteArray).size = 2 := rfl; omega)).mono ?_
       rintro e w7 ⟨rfl, hw7, hk7⟩
       have A7 := hid (show HasQ b m (bs ++ D ++ [44, 32]) w7 from A6.out.next hw7 hk7)
       have K7 := hid (K6.out.trans hk7)
       have X7 := hid (X6.out.kp hk7 (by omega) (by decide))
       have Y7 := hid (Y6.out.kp hk7 (by omega) (by decide))
       have N7 := hid (N6.out.kp HS.out hk7.bl)
       have M7 := hid (M6.out.kp HS.out hk7.bl)
       clear hw7 hk7 y0 z2
       have y0 : w7.cell? ⟨w.heap.size, 0, none⟩ = some (.string op) := Y7.out.cell 0
       have y1 : w7.cell? ⟨w.heap.size, 1, none⟩ = some (.string tx) := Y7.out.cell 1
       have y2 : w7.cell? ⟨w.heap.size, 2, none⟩ = some (.slice (some ad) t.ks.length k) := Y7.out.cell 2
       have hz7 : b < w7.heap.size := A7.out.lt
       have HI := hid (pinner_any t S op tx (some ad) t.ks.length k w7 M7.out)
       rw [HJ.out] at HI
       go_wp2_with fail
       refine HI.out.mono ?_
       rintro e w8 ⟨rfl, hb8⟩
       have A8 := hid (A7.out.below hb8)
       have K8 := hid (K7.out.next (by omega) hb8)
       have X8 := hid (X7.out.below hb8)
       have N8 := hid (N7.out.kp HS.out (hb8.mono (by omega)))
       have Y8 := hid (Y7.out.below hb8)
       have hz8 : b < w8.heap.size := A8.out.lt
       clear hb8 y0 y1 y2
       have y0 : w8.cell? ⟨w.heap.size, 0, none⟩ = some (.string op) := Y8.out.cell 0
       have KX8 := hid (fun (w' : World) (hk : Kp b w8 w') => (show (w'.cell? ⟨wr.heap.size, 0, none⟩ = some (.string op') ∧ w'.cell? ⟨wr.heap.size, 1, none⟩ = some (.string tx') ∧ w'.cell? ⟨wr.heap.size, 2, none⟩ = some (.slice X' n' m')) ∧ Kp b w8 w' from ⟨⟨(X8.out.kp hk (by omega) (by decide)).cell 0, (X8.out.kp hk (by omega) (by decide)).cell 1, (X8.out.kp hk (by omega) (by decide)).cell 2⟩, hk⟩))
       obtain ⟨V, hV⟩ : ∃ V, showE T = V := ⟨_, rfl⟩
       rw [hV] at hLL
       have HVV := hid hV
       have HSH := hid (fun (w' : World) (hb : Below w8.heap.size w8 w') => (show Calls Tryz.prog 111 #[.agg #[.string op', .string tx', .slice X' n' m']] w' (fun e w'' => e = .returned (.string ⟨V.toArray⟩) ∧ Below w'.heap.size w' w'') by
        have h := HSE.out HTOT.out (by rw [HVV.out]; omega) m S op' tx' X' n' m' w' (A8.out.below hb).ev.at (fun g hg => by have := HS.out g hg; have := hb.size; omega) (N8.out.kp (fun g hg => by have := HS.out g hg; omega) hb)
        rw [HVV.out] at h
        exact h))
       clear hV
       go_wp2_with fail
       go_region_held3 (fun w' => (w'.cell? ⟨wr.heap.size, 0, none⟩ = some (.string op') ∧ w'.cell? ⟨wr.heap.size, 1, none⟩ = some (.string tx') ∧ w'.cell? ⟨wr.heap.size, 2, none⟩ = some (.slice X' n' m')) ∧ Kp b w8 w')
        (first | assumption | (exact KX8.out _ (((Kp.refl b w8).drew.next (by simp; omega) hb10).trans hk11)) | (exact KX8.out _ ((Kp.refl b w8).drew.next (by simp; omega) hb10)) | (exact KX8.out _ (Kp.refl b w8).drew))
        (first | (go_at_call 111; with_reducible refine (HSH.out _ ?cv).mono ?_; (case cv => exact Below.drew (Below.refl _ _)); rintro e w10 ⟨rfl, hb10⟩) | (go_at_call 66; with_reducible refine (HW.out (bs ++ D ++ [44, 32]) ⟨V.toArray⟩ _ ?ce ?cl).mono ?_; (case ce => exact ((A8.out.below (Below.drew (Below.refl _ _))).below hb10).wr); (case cl => (rw [size_list]; simp only [List.length_append, List.length_cons, List.length_nil]; omega)); rintro e w11 ⟨rfl, hw11, hk11⟩))
       have A9 := hid (show HasQ b m (bs ++ kidsTx t 0 (t.ks.take (k9 + 1))) w11 from A8.out.next (by have h := hw11; rw [HTK.out, HKT.out, HVV.out]; simpa using h) (((Kp.refl b w8).drew.next (by simp; omega) hb10).trans hk11))
       have K9 := hid (K8.out.trans (((Kp.refl b w8).drew.next (by simp; omega) hb10).trans hk11))
       clear hw11 hk11 hb10 y0
       go_wp2
       go_roundw
       case rel => exact ⟨k9 + 1, by omega, by go_num, A9, K9⟩
       case measure => simp [intOf]; omega
      ·have hf9 : (op.toList == [102, 105, 108, 116, 101, 114]) = false := lit_ne (by rw [HOP.out]; exact hnf)
       have HKT : kidTx t k9 T = [44, 32] ++ partW T := by
        have hs : skipQ t k9 T = false := by (unfold skipQ; rw [htg, Bool.false_and, Bool.false_and])
        rw [kidTx, if_neg (by rw [hs]; decide), if_pos (by omega), if_neg (by rw [HJ.out]; omega), if_neg hnf]
       have hin : decide ((k9 : Int) < (J : Int)) = false := by simp; omega
       have hgt : decide ((0 : Int) < (k9 : Int)) = true := by simp; omega
       have hin2 : decide (k9 < J) = false := by simp; omega
       have hgt2 : decide (0 < k9) = true := by simp; omega
       rw [HKT, List.length_append] at hLL
       simp only [List.length_cons, List.length_nil] at hLL
       have HKT := hid HKT
       have hlc : ([44, 32] : List UInt8).length = 2 := rfl
       have HGG := hid (HGP.out (by omega) hnf)
       try clear h1
       try clear h0
       try clear hj
       try clear hJ1
       try clear htg
       try clear hop
       try clear hnf
       go_wp2_with fail
       refine (HW.out (bs ++ D) ⟨#[44, 32]⟩ _ A6.out.wr (by rw [List.length_append]; have h8 : (⟨#[44, 32]⟩ : ByteArray).size = 2 := rfl; omega)).mono ?_
       rintro e w7 ⟨rfl, hw7, hk7⟩
       have A7 := hid (show HasQ b m (bs ++ D ++ [44, 32]) w7 from A6.out.next hw7 hk7)
       have K7 := hid (K6.out.trans hk7)
       have X7 := hid (X6.out.kp hk7 (by omega) (by decide))
       have Y7 := hid (Y6.out.kp hk7 (by omega) (by decide))
       have N7 := hid (N6.out.kp HS.out hk7.bl)
       have M7 := hid (M6.out.kp HS.out hk7.bl)
       clear hw7 hk7 y0 z2
       have y0 : w7.cell? ⟨w.heap.size, 0, none⟩ = some (.string op) := Y7.out.cell 0
       have y1 : w7.cell? ⟨w.heap.size, 1, none⟩ = some (.string tx) := Y7.out.cell 1
       have y2 : w7.cell? ⟨w.heap.size, 2, none⟩ = some (.slice (some ad) t.ks.length k) := Y7.out.cell 2
       have hz7 : b < w7.heap.size := A7.out.lt
       have HI := hid (pinner_any t S op tx (some ad) t.ks.length k w7 M7.out)
       rw [HJ.out] at HI
       go_wp2_with fail
       refine HI.out.mono ?_
       rintro e w8 ⟨rfl, hb8⟩
       have A8 := hid (A7.out.below hb8)
       have K8 := hid (K7.out.next (by omega) hb8)
       have X8 := hid (X7.out.below hb8)
       have N8 := hid (N7.out.kp HS.out (hb8.mono (by omega)))
       have Y8 := hid (Y7.out.below hb8)
       have hz8 : b < w8.heap.size := A8.out.lt
       clear hb8 y0 y1 y2
       have y0 : w8.cell? ⟨w.heap.size, 0, none⟩ = some (.string op) := Y8.out.cell 0
       have z0 : w8.cell? ⟨wr.heap.size, 0, none⟩ = some (.string op') := X8.out.cell 0
       have z1 : w8.cell? ⟨wr.heap.size, 1, none⟩ = some (.string tx') := X8.out.cell 1
       have z2 : w8.cell? ⟨wr.heap.size, 2, none⟩ = some (.slice X' n' m') := X8.out.cell 2
       have HQ := hid (qpart_any T HET.out HGG.out S op' tx' X' n' m' (bs ++ D ++ [44, 32]) w8 A8.out HS.out N8.out HTOT.out (by simp only [List.length_append, List.length_cons, List.length_nil]; omega))
       go_wp2_with fail
       refine HQ.out.mono ?_
       rintro e w9 ⟨rfl, hw9, hkk⟩
       have A9 := hid (show HasQ b m (bs ++ kidsTx t 0 (t.ks.take (k9 + 1))) w9 from A8.out.next (by have h := hw9; rw [HTK.out, HKT.out]; simpa using h) hkk)
       have K9 := hid (K8.out.trans hkk)
       clear hw9 hkk y0 z0 z1 z2
       go_wp2
       go_roundw
       case rel => exact ⟨k9 + 1, by omega, by go_num, A9, K9⟩
       case measure => simp [intOf]; omega
  ·obtain rfl : k9 = t.ks.length := by omega
   rw [List.take_length, HZ.out] at AR
   go_wp2
   go_end0
   exact ⟨rfl, AR.out.wr, K0.out.trans KR.out⟩
theorem qquery_node {b : Nat} {m : Int} : ∀ (d : Nat) (t : Nod), (∀ x ∈ exprsOf t, EShows x) → t.deep ≤ d → NdQ b m t
 | 0, t, _, h => absurd h (by rw [deep_ks]; omega)
 | d + 1, t, hE, h => by
  have ih := hid (fun (i : Nat) (hi : i < t.ks.length) => qquery_node (b := b) (m := m) d t.ks[i] (fun x hx => hE x (exprs_kid i hi hx)) (by have := deepL_mem (List.getElem_mem hi); rw [deep_ks] at h; omega))
  have HEE := hid hE
  clear hE
  intro S op tx X n k bs w h9 hS hn htt hl
  have hbl := h9.lt
  obtain ⟨eo, et, en, hkl⟩ := hn.texts
  dsimp only at eo et en
  subst en
  have eo' : op.data.toList = t.op := by rw [eo]
  have et' : tx.data.toList = t.tx := by rw [et]
  have HOP := hid eo'
  have HTX := hid et'
  have HS := hid hS
  have HN := hid hn
  have HHQ := hid h9
  have HTT := hid htt
  have HW := hid (fun (bs' : List UInt8) (s : ByteArray) (w' : World) (h' : qWr w' b bs') (hl' : bs'.length + s.size ≤ 1000000) => qewrite_any b bs' s w' h' hl')
  have hsh := showQ_is t
  rw [hsh] at hl ⊢
  obtain ⟨rr, hrr⟩ : ∃ rr, rightQ t = rr := ⟨_, rfl⟩
  have HRT := hid hrr
  rw [hrr] at hl ⊢
  clear h hsh eo et eo' et' hn hS h9 hrr htt
  cases rr with
  | false =>
   rw [if_pos rfl] at hl ⊢
   simp only [List.length_cons, List.length_nil] at hl
   go_enter Tryz.func32, Tryz.ntmps32
   obtain ⟨w0, hw0⟩ : ∃ w0, w.alloc (.cells #[.string op, .string tx, .slice X t.ks.length k] 25) = w0 := ⟨_, rfl⟩
   have B0 := hid (show Below w.heap.size w w0 by rw [← hw0]; exact below_alloc w _)
   have X0 := hid (show HB w0 w.heap.size #[.string op, .string tx, .slice X t.ks.length k] 25 by rw [← hw0]; exact HB.fresh w _ _)
   have A0 := hid (HHQ.out.below B0.out)
   have K0 := hid ((Kp.refl b w).next (Nat.le_of_lt hbl) B0.out)
   have hz0 : b < w0.heap.size := A0.out.lt
   have x0 : w0.cell? ⟨w.heap.size, 0, none⟩ = some (.string op) := X0.out.cell 0
   have x1 : w0.cell? ⟨w.heap.size, 1, none⟩ = some (.string tx) := X0.out.cell 1
   have x2 : w0.cell? ⟨w.heap.size, 2, none⟩ = some (.slice X t.ks.length k) := X0.out.cell 2
   have HRG := hid (pright_any t S op tx X t.ks.length k w0 (fun g hg => by have := HS.out g hg; omega) (HN.out.kp HS.out K0.out.bl))
   rw [HRT.out] at HRG
   go_wp2_with fail
   try rw [hw0]
   refine HRG.out.mono ?_
   rintro e w1 ⟨rfl, hb1⟩
   have A1 := hid (A0.out.below hb1)
   have K1 := hid (K0.out.next (by omega) hb1)
   have X1 := hid (X0.out.below hb1)
   have hz1 : b < w1.heap.size := A1.out.lt
   clear hb1 x0 x1 x2
   have x0 : w1.cell? ⟨w.heap.size, 0, none⟩ = some (.string op) := X1.out.cell 0
   go_wp2_with fail
   refine (HW.out bs ⟨#[63]⟩ _ A1.out.wr (by have h8 : (⟨#[63]⟩ : ByteArray).size = 1 := rfl; omega)).mono ?_
   rintro e w2 ⟨rfl, hw2, hk2⟩
   have A2 := hid hw2
   have K2 := hid (K1.out.trans hk2)
   clear hw2 hk2
   go_wp2
   go_end0
   exact ⟨rfl, A2.out, K2.out⟩
  | true =>
   rw [if_neg (by decide)] at hl ⊢
   by_cases hf : t.op = sFrom
   ·rw [if_pos hf] at hl ⊢
    have hfl : (op.toList == [102, 114, 111, 109]) = true := by rw [ByteArray.toList_eq, HOP.out, hf]; decide
    have hsz : bs.length + tx.size ≤ 900000 := by rw [size_of HTX.out]; exact hl
    clear hf
    go_enter Tryz.func32, Tryz.ntmps32
    obtain ⟨w0, hw0⟩ : ∃ w0, w.alloc (.cells #[.string op, .string tx, .slice X t.ks.length k] 25) = w0 := ⟨_, rfl⟩
    have B0 := hid (show Below w.heap.size w w0 by rw [← hw0]; exact below_alloc w _)
    have X0 := hid (show HB w0 w.heap.size #[.string op, .string tx, .slice X t.ks.length k] 25 by rw [← hw0]; exact HB.fresh w _ _)
    have A0 := hid (HHQ.out.below B0.out)
    have K0 := hid ((Kp.refl b w).next (Nat.le_of_lt hbl) B0.out)
    have hz0 : b < w0.heap.size := A0.out.lt
    have x0 : w0.cell? ⟨w.heap.size, 0, none⟩ = some (.string op) := X0.out.cell 0
    have x1 : w0.cell? ⟨w.heap.size, 1, none⟩ = some (.string tx) := X0.out.cell 1
    have x2 : w0.cell? ⟨w.heap.size, 2, none⟩ = some (.slice X t.ks.length k) := X0.out.cell 2
    have HRG := hid (pright_any t S op tx X t.ks.length k w0 (fun g hg => by have := HS.out g hg; omega) (HN.out.kp HS.out K0.out.bl))
    rw [HRT.out] at HRG
    go_wp2_with fail
    try rw [hw0]
    refine HRG.out.mono ?_
    rintro e w1 ⟨rfl, hb1⟩
    have A1 := hid (A0.out.below hb1)
    have K1 := hid (K0.out.next (by omega) hb1)
    have X1 := hid (X0.out.below hb1)
    have hz1 : b < w1.heap.size := A1.out.lt
    clear hb1 x0 x1 x2
    have x0 : w1.cell? ⟨w.heap.size, 0, none⟩ = some (.string op) := X1.out.cell 0
    have KX1 := hid (fun (w' : World) (hk : Kp b w1 w') => (show (w'.cell? ⟨w.heap.size, 1, none⟩ = some (.string tx)) ∧ Kp b w1 w' from ⟨(X1.out.kp hk (by omega) (by decide)).cell 1, hk⟩))
    go_wp2_with fail
    go_region_held3 (fun w' => (w'.cell? ⟨w.heap.size, 1, none⟩ = some (.string tx)) ∧ Kp b w1 w')
     (first | assumption | (exact KX1.out _ ((Kp.refl b w1).drew.trans hk5)) | (exact KX1.out _ (Kp.refl b w1).drew))
     (first | (go_at_call 66; with_reducible refine (HW.out bs (tx) _ ?ce ?cl).mono ?_; (case ce => exact (A1.out.below (Below.drew (Below.refl _ _))).wr); (case cl => omega); rintro e w5 ⟨rfl, hw5, hk5⟩))
    have A5 := hid (show qWr w5 b (bs ++ t.tx) by have h := hw5; rw [HTX.out] at h; exact h)
    have K5 := hid (K1.out.trans ((Kp.refl b w1).drew.trans hk5))
    clear hw5 hk5
    go_wp2
    go_end0
    exact ⟨rfl, A5.out, K5.out⟩
   ·rw [if_neg hf] at hl ⊢
    have hfl : (op.toList == [102, 114, 111, 109]) = false := lit_ne (by rw [HOP.out]; exact hf)
    simp only [List.length_append, List.length_cons, List.length_nil] at hl
    have hos : op.size = t.op.length := size_of HOP.out
    have hcat : ∀ w, (Op.stringOp .add op ⟨#[40]⟩).run Tryz.prog w = .ok (.string (op ++ ⟨#[40]⟩)) w := fun w => run_string_add_sum w _ _ (by show op.size + 1 ≤ _; omega)
    have HOS := hid hos
    clear hf hos
    go_enter Tryz.func32, Tryz.ntmps32
    obtain ⟨w0, hw0⟩ : ∃ w0, w.alloc (.cells #[.string op, .string tx, .slice X t.ks.length k] 25) = w0 := ⟨_, rfl⟩
    have B0 := hid (show Below w.heap.size w w0 by rw [← hw0]; exact below_alloc w _)
    have X0 := hid (show HB w0 w.heap.size #[.string op, .string tx, .slice X t.ks.length k] 25 by rw [← hw0]; exact HB.fresh w _ _)
    have A0 := hid (HHQ.out.below B0.out)
    have K0 := hid ((Kp.refl b w).next (Nat.le_of_lt hbl) B0.out)
    have hz0 : b < w0.heap.size := A0.out.lt
    have x0 : w0.cell? ⟨w.heap.size, 0, none⟩ = some (.string op) := X0.out.cell 0
    have x1 : w0.cell? ⟨w.heap.size, 1, none⟩ = some (.string tx) := X0.out.cell 1
    have x2 : w0.cell? ⟨w.heap.size, 2, none⟩ = some (.slice X t.ks.length k) := X0.out.cell 2
    have HRG := hid (pright_any t S op tx X t.ks.length k w0 (fun g hg => by have := HS.out g hg; omega) (HN.out.kp HS.out K0.out.bl))
    rw [HRT.out] at HRG
    go_wp2_with fail
    try rw [hw0]
    refine HRG.out.mono ?_
    rintro e w1 ⟨rfl, hb1⟩
    have A1 := hid (A0.out.below hb1)
    have K1 := hid (K0.out.next (by omega) hb1)
    have X1 := hid (X0.out.below hb1)
    have hz1 : b < w1.heap.size := A1.out.lt
    clear hb1 x0 x1 x2
    have x0 : w1.cell? ⟨w.heap.size, 0, none⟩ = some (.string op) := X1.out.cell 0
    have KX1 := hid (fun (w' : World) (hk : Kp b w1 w') => (show (w'.cell? ⟨w.heap.size, 0, none⟩ = some (.string op)) ∧ Kp b w1 w' from ⟨(X1.out.kp hk (by omega) (by decide)).cell 0, hk⟩))
    go_wp2_with fail
    go_region_held3 (fun w' => (w'.cell? ⟨w.heap.size, 0, none⟩ = some (.string op)) ∧ Kp b w1 w')
     (first | assumption | (exact KX1.out _ ((Kp.refl b w1).drew.trans hk5)) | (exact KX1.out _ (Kp.refl b w1).drew))
     (first | (go_at_call 66; with_reducible refine (HW.out bs (op ++ ⟨#[40]⟩) _ ?ce ?cl).mono ?_; (case ce => exact (A1.out.below (Below.drew (Below.refl _ _))).wr); (case cl => (rw [ByteArray.size_append, HOS.out]; have h8 : (⟨#[40]⟩ : ByteArray).size = 1 := rfl; omega)); rintro e w5 ⟨rfl, hw5, hk5⟩))
    have A5 := hid (show HasQ b m (bs ++ (t.op ++ [40])) w5 from A1.out.next (by have h := hw5; rw [ByteArray.data_append, Array.toList_append, HOP.out] at h; exact h) ((Kp.refl b w1).drew.trans hk5))
    have K5 := hid (K1.out.trans ((Kp.refl b w1).drew.trans hk5))
    have X5 := hid (X1.out.kp ((Kp.refl b w1).drew.trans hk5) (by omega) (by decide))
    have HKI := hid (qkids_any t HEE.out HRT.out ih.out S op tx X t.ks.length k (bs ++ (t.op ++ [40])) w5 A5.out HS.out (HN.out.kp HS.out K5.out.bl) HTT.out (by simp only [List.length_append, List.length_cons, List.length_nil]; omega))
    clear hw5 hk5 x0
    have x0 : w5.cell? ⟨w.heap.size, 0, none⟩ = some (.string op) := X5.out.cell 0
    have x1 : w5.cell? ⟨w.heap.size, 1, none⟩ = some (.string tx) := X5.out.cell 1
    have x2 : w5.cell? ⟨w.heap.size, 2, none⟩ = some (.slice X t.ks.length k) := X5.out.cell 2
    go_wp2_with fail
    refine HKI.out.mono ?_
    rintro e w6 ⟨rfl, hw6, hk6⟩
    have A6 := hid hw6
    have K6 := hid (K5.out.trans hk6)
    clear hw6 hk6 x0 x1 x2
    go_wp2_with fail
    refine (HW.out (bs ++ (t.op ++ [40]) ++ kidsTx t 0 t.ks) ⟨#[41]⟩ _ A6.out (by have h8 : (⟨#[41]⟩ : ByteArray).size = 1 := rfl; simp only [List.length_append, List.length_cons, List.length_nil]; omega)).mono ?_
    rintro e w7 ⟨rfl, hw7, hk7⟩
    have A7 := hid (show qWr w7 b (bs ++ (t.op ++ [40] ++ kidsTx t 0 t.ks ++ [41])) by have h := hw7; simpa using h)
    have K7 := hid (K6.out.trans hk7)
    clear hw7 hk7
    go_wp2
    go_end0
    exact ⟨rfl, A7.out, K7.out⟩
theorem pShow_of (t : Nod) (hE : ∀ x ∈ exprsOf t, EShows x) (ht : t.tot ≤ 100000) (hl : (showQ t).length ≤ 900000) (m : Int) (S : Nat → Prop) (op tx : ByteArray) (X : Option Addr) (n k : Nat) (w : World) (he : Env w.heap.size m w) (hS : ∀ g, S g → g < w.heap.size) (hn : RIn w S t (op, tx, X, n, k)) :
  Calls Tryz.prog 16 #[.agg #[.string op, .string tx, .slice X n k]] w fun e w' => e = .returned (.string ⟨(showQ t).toArray⟩) ∧ Below w.heap.size w w' := by
 have HEE := hid hE
 have HE := hid he
 have HS := hid hS
 have HN := hid hn
 obtain ⟨s, hs⟩ : ∃ s, showQ t = s := ⟨_, rfl⟩
 have HSH := hid hs
 rw [hs] at hl ⊢
 have HL := hid hl
 have HT := hid ht
 clear hE he hS hn hs hl ht
 go_enter Tryz.func16, Tryz.ntmps16
 obtain ⟨w0, hw0⟩ : ∃ w0, w.alloc (.cells #[.string op, .string tx, .slice X n k] 25) = w0 := ⟨_, rfl⟩
 have B0 := hid (show Below w.heap.size w w0 by rw [← hw0]; exact below_alloc w _)
 have X0 := hid (show HB w0 w.heap.size #[.string op, .string tx, .slice X n k] 25 by rw [← hw0]; exact HB.fresh w _ _)
 have hz0 : w.heap.size < w0.heap.size := by rw [← hw0]; simp
 obtain ⟨W1, hW1⟩ : ∃ W1, w0.alloc (.cells #[.pointer none, .slice none 0 0] 75) = W1 := ⟨_, rfl⟩
 have B1 := hid (show Below w.heap.size w W1 by rw [← hW1]; exact B0.out.alloc (by omega) _)
 have A1 := hid (show HasQ w0.heap.size m [] W1 from ⟨by rw [← hW1]; exact qwr_freshE w0, (HE.out.below B1.out).more (by omega)⟩)
 have X1 := hid (show HB W1 w.heap.size #[.string op, .string tx, .slice X n k] 25 by rw [← hW1]; exact X0.out.alloc _)
 have N1 := hid (HN.out.bel HS.out B1.out)
 have HND := hid (show Calls Tryz.prog 32 #[.pointer (some ⟨w0.heap.size, 0, none⟩), .agg #[.string op, .string tx, .slice X n k]] W1 (QdP w0.heap.size s W1) by
  have h := qquery_node (b := w0.heap.size) (m := m) t.deep t HEE.out (Nat.le_refl _) S op tx X n k [] W1 A1.out (fun g hg => by have := HS.out g hg; omega) N1.out HT.out (by rw [HSH.out]; simpa using HL.out)
  rw [HSH.out] at h
  exact h)
 have hzq : w0.heap.size = w.heap.size + 1 := by rw [← hw0]; simp
 rw [hzq] at HND
 clear hzq
 have HW0 := hid hw0
 have HW1 := hid hW1
 clear hw0 hW1
 go_upto_region 2 with fail
 rw [HW0.out, HW1.out]
 have x0 : W1.cell? ⟨w.heap.size, 0, none⟩ = some (.string op) := X1.out.cell 0
 have x1 : W1.cell? ⟨w.heap.size, 1, none⟩ = some (.string tx) := X1.out.cell 1
 have x2 : W1.cell? ⟨w.heap.size, 2, none⟩ = some (.slice X n k) := X1.out.cell 2
 go_wp2_with fail
 refine HND.out.mono ?_
 rintro e w2 ⟨rfl, hw2, hk2⟩
 have B2 := hid (B1.out.trans (hk2.bl.mono (by omega)))
 have HST := hid (qestringE (w.heap.size + 1) s w2 hw2)
 clear hw2 hk2 x0 x1 x2
 go_wp2_with fail
 refine HST.out.mono ?_
 rintro e w3 ⟨rfl, hb3⟩
 have B3 := hid (B2.out.trans (hb3.mono (by omega)))
 clear hb3
 go_wp2
 go_ret
 exact ⟨rfl, B3.out⟩
end Go.Proofs.YtjbpkpfmgbhlpaaGreatDoor.Code
/-
  The expression in the live question of layer 10 is shown as it should.
-/
namespace Go.Proofs.YtjbpkpfmgbhlpaaGreatDoor.Code
open Go.ChangeShapes Go.WideShapes Go.ChangeAt Go.RowKit Val Elems
set_option linter.unusedVariables false
def aliveE : Nod := .mk [60] [] [.mk sCol [97] [], .mk sNum [51] []]
theorem eshow_alive : EShows aliveE := eshow_of _ fun b mb m => enodeE_two [60] _ _ _ rfl (by decide) (by decide) _ _ (enodeE_col [97]) (enodeE_num [51])
theorem alive_exprs : ∀ x ∈ exprsOf aliveQT, EShows x := by
 have h : exprsOf aliveQT = [aliveE] := by kernel_rfl
 rw [h]
 intro x hx
 obtain rfl := List.mem_singleton.1 hx
 exact eshow_alive
end Go.Proofs.YtjbpkpfmgbhlpaaGreatDoor.Code
