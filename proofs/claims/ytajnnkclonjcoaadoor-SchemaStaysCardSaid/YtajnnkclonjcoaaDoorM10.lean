/-
  The program's first, Find, refuses, Right of columns: a list is gone through with a function that is handed in.
-/
import Derived.Test.YtajnnkclonjcoaaDoorM9
import Derived.Deep.DeepCutAuto
import Derived.Deep.RegionHeld3
import Derived.Laws.AppendOwnNone
namespace Go.Proofs.YtajnnkclonjcoaaDoor.Code
open Go.ChangeShapes Go.WideShapes Go.ChangeAt Go.RowKit Val Elems
set_option linter.unusedVariables false
set_option linter.unusedSimpArgs false
/-- what a function that is handed in tells of any column -/
def AskC (fn : Nat) (cps : Array Value) (p : W → Bool) (Pre : World → Prop) : Prop :=
  ∀ (n k : Int) (s : ByteArray) (w : World), Pre w → Calls Tryd.prog fn (#[.agg #[.int .i64 n, .string s, .int .i64 k]] ++ cps) w fun e w' => e = .returned (.bool (p (n, s.data.toList, k))) ∧ Below w.heap.size w w'
set_option maxHeartbeats 4000000 in
set_option maxRecDepth 100000 in
theorem sfirst_any (fn : Nat) (en : ∀ args w, (callFunc fn args).run Tryd.prog w = .ok (.enter fn args) w) (cps : Array Value) (p : W → Bool) (A : Option Addr) (cap : Nat) (l : List W) (w : World) (hv : At wc 3 w w.heap.size A l) (hl : l.length ≤ 4194304) (ha : AskC fn cps p (fun w' => Below w.heap.size w w')) :
    Calls Tryd.prog 30 #[.slice A l.length cap, .func (.func fn) #[] cps] w fun e w' => e = .returned (.tuple #[.int .i64 (firstI p l), .bool (firstB p l)]) ∧ Below w.heap.size w w' := by
  have HV := Lib.hid hv
  have HA := Lib.hid ha
  clear hv ha
  go_enter Tryd.func30, Tryd.ntmps30
  go_wp2
  go_loopw [9] (fun t wr => ∃ i : Nat, i ≤ l.length ∧ t = .int .i64 i ∧ (∀ j (hj : j < l.length), j < i → p l[j] = false) ∧ Below w.heap.size w wr) (fun t _ => l.length - (intOf t).toNat)
  case atStart => exact ⟨0, by omega, rfl, fun j _ h => absurd h (by omega), Below.refl _ _⟩
  case round =>
    obtain ⟨i, hi, rfl, hno, hbel⟩ := hrel
    have HL := Lib.hid hbel
    have HNO := Lib.hid hno
    have VA := Lib.hid (HV.out.below hbel)
    clear hbel hno
    by_cases hil : i < l.length
    · obtain ⟨ad, rfl, ga, c0, c1, c2⟩ := at_word VA.out i hil
      have HF := Lib.hid (first_at (p := p) hil)
      have HN2 := Lib.hid (fun (h : p l[i] = false) => show ∀ j (hj : j < l.length), j < i + 1 → p l[j] = false from fun j hj h2 => if e : j = i then by subst e; exact h else HNO.out j hj (by omega))
      obtain ⟨x, hx⟩ : ∃ x, l[i] = x := ⟨_, rfl⟩
      rw [hx] at c0 c1 c2 HF HN2
      clear hx
      obtain ⟨n, t, k⟩ := x
      dsimp only at c0 c1 c2
      obtain ⟨T, hT⟩ : ∃ T : ByteArray, ⟨t.toArray⟩ = T := ⟨_, rfl⟩
      have hTl : T.data.toList = t := by rw [← hT]
      rw [hT] at c1
      have HC := Lib.hid (HA.out n k T wr HL.out)
      rw [hTl] at HC
      obtain ⟨b, hb⟩ : ∃ b, p (n, t, k) = b := ⟨_, rfl⟩
      rw [hb] at HC HF HN2
      clear hT hTl hb
      go_wp2_with fail
      refine HC.out.mono ?_
      rintro e w1 ⟨rfl, hb1⟩
      have L1 := Lib.hid (HL.out.trans (hb1.mono HL.out.size))
      clear hb1 HC c0 c1 c2
      cases b
      · go_wp2
        go_roundw
        case rel => exact ⟨i + 1, by omega, by go_num, HN2.out (by first | exact rfl | exact trivial), L1.out⟩
        case measure => simp [intOf]; omega
      · have HI := Lib.hid (HF.out (by first | exact rfl | exact trivial) (fun j hj h => HNO.out j hj h))
        go_wp2
        go_ret2
        exact ⟨by rw [HI.out.1, HI.out.2]; rfl, L1.out⟩
    · obtain rfl : i = l.length := by omega
      have HI := Lib.hid (first_no (p := p) (fun j hj => HNO.out j hj hj))
      go_wp2
      go_ret2
      exact ⟨by rw [HI.out.1, HI.out.2]; rfl, HL.out⟩
set_option maxHeartbeats 4000000 in
set_option maxRecDepth 100000 in
theorem findAsk_any (q : ByteArray) (g : Nat) (w0 : World) (hq : w0.cell? ⟨g, 0, none⟩ = some (.string q)) (hg : g < w0.heap.size) : AskC 31 #[.pointer (some ⟨g, 0, none⟩)] (fun c => c.2.1 == q.data.toList) (fun w' => Below w0.heap.size w0 w') := by
  intro n k s w hb
  have c0 := (hb.cell (p := ⟨g, 0, none⟩) hg).trans hq
  have hgw : g < w.heap.size := Nat.lt_of_lt_of_le hg hb.size
  have HB := Lib.hid (below_alloc w (.cells #[.int .i64 n, .string s, .int .i64 k] 41))
  obtain ⟨b, hbe⟩ : ∃ b, (s.toList == q.toList) = b := ⟨_, rfl⟩
  have HE := Lib.hid (show (s.data.toList == q.data.toList) = b by rw [← hbe, ByteArray.toList_eq, ByteArray.toList_eq])
  dsimp only
  rw [HE.out]
  have e0 : ∀ o, (w.alloc o).cell? ⟨g, 0, none⟩ = some (.string q) := fun o => (World.cell?_alloc_old w _ _ (Nat.ne_of_lt hgw)).trans c0
  clear hb hq c0
  go_enter Tryd.func31, Tryd.ntmps31
  go_wp2
  go_ret
  exact ⟨by simp, HB.out⟩
set_option maxHeartbeats 4000000 in
set_option maxRecDepth 100000 in
theorem knownAsk_any (q : Int) (g : Nat) (w0 : World) (hq : w0.cell? ⟨g, 0, none⟩ = some (.int .i64 q)) (hg : g < w0.heap.size) : AskC 52 #[.pointer (some ⟨g, 0, none⟩)] (fun c => c.1 == q) (fun w' => Below w0.heap.size w0 w') := by
  intro n k s w hb
  have c0 := (hb.cell (p := ⟨g, 0, none⟩) hg).trans hq
  have hgw : g < w.heap.size := Nat.lt_of_lt_of_le hg hb.size
  have HB := Lib.hid (below_alloc w (.cells #[.int .i64 n, .string s, .int .i64 k] 41))
  obtain ⟨b, hbe⟩ : ∃ b, (n == q) = b := ⟨_, rfl⟩
  dsimp only
  rw [hbe]
  have e0 : ∀ o, (w.alloc o).cell? ⟨g, 0, none⟩ = some (.int .i64 q) := fun o => (World.cell?_alloc_old w _ _ (Nat.ne_of_lt hgw)).trans c0
  clear hb hq c0
  go_enter Tryd.func52, Tryd.ntmps52
  go_wp2
  go_ret
  exact ⟨by simp, HB.out⟩
/-- where a name is, and whether it is there -/
def FindPost (w : World) (z : Int) (e : Ending) (w' : World) : Prop := e = .returned (.tuple #[.int .i64 (max z 0), .bool (decide (0 ≤ z))]) ∧ Below w.heap.size w w'
set_option maxHeartbeats 4000000 in
set_option maxRecDepth 100000 in
theorem sfind_any (A : Option Addr) (cap : Nat) (l : List W) (s : ByteArray) (w : World) (hv : At wc 3 w w.heap.size A l) (hl : l.length ≤ 4194304) :
    Calls Tryd.prog 8 #[.slice A l.length cap, .string s] w (FindPost w (findZ l s.data.toList)) := by
  unfold FindPost
  rw [(findZ_first l s.data.toList).1, (findZ_first l s.data.toList).2]
  obtain ⟨o, ho⟩ : ∃ o, Obj.cells #[Value.string s] 9 = o := ⟨_, rfl⟩
  have c0 : (w.alloc o).cell? ⟨w.heap.size, 0, none⟩ = some (.string s) := by rw [← ho]; simp
  have HB := Lib.hid (below_alloc w o)
  have HF := Lib.hid (sfirst_any 31 (enters_of Tryd.func31 (by kernel_rfl) rfl) #[.pointer (some ⟨w.heap.size, 0, none⟩)] (fun c => c.2.1 == s.data.toList) A cap l (w.alloc o) ((hv.below HB.out).more HB.out.size) hl (findAsk_any s w.heap.size (w.alloc o) c0 (by simp)))
  obtain ⟨i, hi⟩ : ∃ i, firstI (fun c => c.2.1 == s.data.toList) l = i := ⟨_, rfl⟩
  obtain ⟨b, hb⟩ : ∃ b, firstB (fun c => c.2.1 == s.data.toList) l = b := ⟨_, rfl⟩
  rw [hi, hb] at HF
  rw [hi, hb]
  rw [← ho] at HF HB
  clear hi hb c0 hv ho o
  go_enter Tryd.func8, Tryd.ntmps8
  go_wp2_with fail
  refine HF.out.mono ?_
  rintro e w1 ⟨rfl, hb1⟩
  have L1 := Lib.hid (HB.out.trans (hb1.mono HB.out.size))
  clear hb1
  go_wp2
  go_ret2
  exact ⟨rfl, L1.out⟩
end Go.Proofs.YtajnnkclonjcoaaDoor.Code
/-
  The program's refuses and Right of columns.
-/
namespace Go.Proofs.YtajnnkclonjcoaaDoor.Code
open Go.ChangeShapes Go.WideShapes Go.ChangeAt Go.RowKit Val Elems
set_option linter.unusedVariables false
set_option linter.unusedSimpArgs false
theorem ref_is (l : List W) (n k : Int) (s : List UInt8) : refC l (n, s, k) = if (nameC s && (columnB k && (decide (1 ≤ n) && !firstB (fun x => x.1 == n) l))) = false then 1 else if decide (0 ≤ findZ l s) = true then 122 else if 12 ≤ l.length then 62 else 0 := by
  rw [known_first]
  unfold refC
  have : (findC l s).isSome = decide (0 ≤ findZ l s) := by
    unfold findZ
    cases findC l s with
    | none => rfl
    | some k => simp
  rw [← this]
set_option maxHeartbeats 8000000 in
set_option maxRecDepth 100000 in
theorem refuses_any (A : Option Addr) (cap : Nat) (l : List W) (n k : Int) (s : ByteArray) (m : Int) (w : World) (hv : At wc 3 w w.heap.size A l) (hl : l.length ≤ 4194304) (hs : s.size ≤ 1000) (hg : MGlob m w) :
    Calls Tryd.prog 32 #[.slice A l.length cap, .agg #[.int .i64 n, .string s, .int .i64 k]] w fun e w' => e = .returned (.int .i64 (refC l (n, s.data.toList, k))) ∧ Below w.heap.size w w' := by
  have HB := Lib.hid (below_alloc w (.cells #[.int .i64 n, .string s, .int .i64 k] 41))
  have c0 : (w.alloc (.cells #[.int .i64 n, .string s, .int .i64 k] 41)).cell? ⟨w.heap.size, 0, none⟩ = some (.int .i64 n) := by simp
  have c1 : (w.alloc (.cells #[.int .i64 n, .string s, .int .i64 k] 41)).cell? ⟨w.heap.size, 1, none⟩ = some (.string s) := by simp
  have c2 : (w.alloc (.cells #[.int .i64 n, .string s, .int .i64 k] 41)).cell? ⟨w.heap.size, 2, none⟩ = some (.int .i64 k) := by simp
  have hlt : w.heap.size < (w.alloc (.cells #[.int .i64 n, .string s, .int .i64 k] 41)).heap.size := by simp
  have V0 := Lib.hid ((hv.below HB.out).more HB.out.size)
  have G0 := Lib.hid (hg.next HB.out)
  have HF := Lib.hid (sfirst_any 52 (enters_of Tryd.func52 (by kernel_rfl) rfl) #[.pointer (some ⟨w.heap.size, 0, none⟩)] (fun c => c.1 == n) A cap l _ V0.out hl (knownAsk_any n w.heap.size _ c0 (by simp)))
  obtain ⟨R, hR⟩ : ∃ R, refC l (n, s.data.toList, k) = R := ⟨_, rfl⟩
  rw [hR]
  rw [ref_is] at hR
  obtain ⟨kn, hkn⟩ : ∃ b, firstB (fun c : W => c.1 == n) l = b := ⟨_, rfl⟩
  obtain ⟨ki, hki⟩ : ∃ b, firstI (fun c : W => c.1 == n) l = b := ⟨_, rfl⟩
  rw [hkn] at hR HF
  rw [hki] at HF
  have FF := Lib.hid (fun w' (h : At wc 3 w' w'.heap.size A l) => sfind_any A cap l s w' h hl)
  unfold FindPost at FF
  obtain ⟨fz, hfz⟩ : ∃ z, max (findZ l s.data.toList) 0 = z := ⟨_, rfl⟩
  obtain ⟨fb, hfb⟩ : ∃ z, decide (0 ≤ findZ l s.data.toList) = z := ⟨_, rfl⟩
  rw [hfz, hfb] at FF
  rw [hfb] at hR
  have HN := Lib.hid (fun w' h => sname_any s m w' hs h)
  obtain ⟨nb, hnb⟩ : ∃ b, nameC s.data.toList = b := ⟨_, rfl⟩
  rw [hnb] at HN hR
  have HC := Lib.hid (fun w' => scolumn_any k w')
  obtain ⟨cb, hcb⟩ : ∃ b, columnB k = b := ⟨_, rfl⟩
  rw [hcb] at HC hR
  obtain ⟨w0, hw0⟩ : ∃ w0, w.alloc (.cells #[.int .i64 n, .string s, .int .i64 k] 41) = w0 := ⟨_, rfl⟩
  rw [hw0] at HB c0 c1 c2 V0 G0 HF hlt
  have HR := Lib.hid hR
  have HW0 := Lib.hid hw0
  have HE := Lib.hid (fun (w' : World) (h : Below w0.heap.size w0 w') => show w'.cell? ⟨w.heap.size, 0, none⟩ = some (.int .i64 n) ∧ w'.cell? ⟨w.heap.size, 1, none⟩ = some (.string s) ∧ w'.cell? ⟨w.heap.size, 2, none⟩ = some (.int .i64 k) from
    ⟨(h.cell (p := ⟨w.heap.size, 0, none⟩) hlt).trans c0, (h.cell (p := ⟨w.heap.size, 1, none⟩) hlt).trans c1, (h.cell (p := ⟨w.heap.size, 2, none⟩) hlt).trans c2⟩)
  clear hv hg hR hkn hki hfz hfb hnb hcb c0 c1 c2 hw0
  go_enter Tryd.func32, Tryd.ntmps32
  go_upto_region 1 with fail
  rw [HW0.out]
  go_wp2_with fail
  refine HF.out.mono ?_
  rintro e w1 ⟨rfl, hb⟩
  have D1 := Lib.hid hb
  have V1 := Lib.hid ((V0.out.below hb).more hb.size)
  obtain ⟨c0, c1, c2⟩ := HE.out _ hb
  clear hb HF
  go_wp2_with fail
  refine (FF.out _ V1.out).mono ?_
  rintro e w2 ⟨rfl, hb⟩
  have D2 := Lib.hid (D1.out.trans (hb.mono D1.out.size))
  have G2 := Lib.hid (G0.out.next D2.out)
  clear hb V1 FF c0 c1 c2 D1
  obtain ⟨c0, c1, c2⟩ := HE.out _ D2.out
  go_wp2_with fail
  refine (HN.out _ G2.out).mono ?_
  rintro e w3 ⟨rfl, hb⟩
  have D3 := Lib.hid (D2.out.trans (hb.mono D2.out.size))
  clear hb HN c0 c1 c2 G2 D2
  obtain ⟨c0, c1, c2⟩ := HE.out _ D3.out
  cases nb
  · have hr : R = 1 := by rw [← HR.out]; rfl
    subst hr
    go_wp2
    go_ret
    exact ⟨by rfl, HB.out.trans (D3.out.mono HB.out.size)⟩
  go_wp2_with fail
  refine (HC.out _).mono ?_
  rintro e w4 ⟨rfl, hb⟩
  have D4 := Lib.hid (D3.out.trans (hb.mono D3.out.size))
  have L4 := Lib.hid (HB.out.trans (D4.out.mono HB.out.size))
  clear hb HC c0 c1 c2 D3
  obtain ⟨c0, c1, c2⟩ := HE.out _ D4.out
  cases cb
  · have hr : R = 1 := by rw [← HR.out]; rfl
    subst hr
    go_wp2
    go_ret
    exact ⟨by rfl, L4.out⟩
  by_cases hn : n < 1
  · have hr : R = 1 := by rw [← HR.out, show decide (1 ≤ n) = false by simp; omega]; rfl
    subst hr
    go_wp2
    go_ret
    exact ⟨by rfl, L4.out⟩
  have HR2 := Lib.hid (show (if (!kn) = false then 1 else if fb = true then 122 else if 12 ≤ l.length then 62 else 0) = R by rw [← HR.out, show decide (1 ≤ n) = true by simp; omega]; simp)
  clear HR
  cases kn
  case true =>
    have hr : R = 1 := by rw [← HR2.out]; rfl
    subst hr
    go_wp2
    go_ret
    exact ⟨by rfl, L4.out⟩
  cases fb
  case true =>
    have hr : R = 122 := by rw [← HR2.out]; rfl
    subst hr
    go_wp2
    go_ret
    exact ⟨by rfl, L4.out⟩
  by_cases h12 : 12 ≤ l.length
  · have hr : R = 62 := by rw [← HR2.out]; simp [h12]
    subst hr
    go_wp2
    go_ret
    exact ⟨by rfl, L4.out⟩
  · have hr : R = 0 := by rw [← HR2.out]; simp [h12]
    subst hr
    go_wp2
    go_ret
    exact ⟨by rfl, L4.out⟩
end Go.Proofs.YtajnnkclonjcoaaDoor.Code
/-
  The program's Right of columns, and parts of lists of columns.
-/
namespace Go.Proofs.YtajnnkclonjcoaaDoor.Code
open Go.ChangeShapes Go.WideShapes Go.ChangeAt Go.RowKit Val Elems
set_option linter.unusedVariables false
set_option linter.unusedSimpArgs false
/-- the first ones of a list -/
theorem run_cutH (ad : Addr) (n c h : Nat) (hc : h ≤ c) (w : World) :
    (Instr.slice 25 (.slice (some ad) n c) none (some (.int .i64 (h : Nat))) none).run Tryd.prog w = .ok (.slice (some ad) h c) w := by
  have hu : Tryd.prog.underlying 25 = some (.slice (Tryd.prog.elem 25)) := by kernel_rfl
  have hz : ∀ w, (sizeOf (Tryd.prog.elem 25)).run Tryd.prog w = .ok 3 w := fun w => by kernel_rfl
  rw [run_slice_h w 25 _ _ _ hu .i64 h (by omega) (by omega), hz]
  simp only [Result.andThen, sliced, Int.toNat_natCast, Nat.zero_mul, Nat.sub_zero]
  split
  · rfl
  · simp [Addr.add]
/-- those behind a place -/
theorem run_cutL (ad : Addr) (n c h : Nat) (hc : h ≤ n) (w : World) :
    (Instr.slice 25 (.slice (some ad) n c) (some (.int .i64 (h : Nat))) none none).run Tryd.prog w = .ok (.slice (if c = h then some ad else some (ad.add (h * 3))) (n - h) (c - h)) w := by
  have hu : Tryd.prog.underlying 25 = some (.slice (Tryd.prog.elem 25)) := by kernel_rfl
  have hz : ∀ w, (sizeOf (Tryd.prog.elem 25)).run Tryd.prog w = .ok 3 w := fun w => by kernel_rfl
  rw [run_slice_l w 25 _ _ _ hu .i64 h (by omega) (by omega), hz]
  simp only [Result.andThen, sliced, Int.toNat_natCast]
  rfl
theorem at_behind {w : World} {B : Nat} {ad : Addr} {l : List W} {c : Nat} (h : At wc 3 w B (some ad) l) (hc : l.length ≤ c) (n : Nat) : At wc 3 w B (if c = n then some ad else some (ad.add (n * 3))) (l.drop n) := by
  intro i hi
  rw [List.length_drop] at hi
  rw [if_neg (by omega)]
  obtain ⟨ad', e, hb, h0⟩ := h (n + i) (by omega)
  cases e
  refine ⟨_, rfl, by rw [add_block]; exact hb, fun j u hu => ?_⟩
  rw [Go.Deep.add_add, show n * 3 + (i * 3 + j) = (n + i) * 3 + j by omega]
  rw [List.getElem_drop] at hu
  exact h0 j u hu
set_option maxHeartbeats 8000000 in
set_option maxRecDepth 100000 in
theorem sright_any (A : Option Addr) (cap : Nat) (l : List W) (m : Int) (w : World) (hv : At wc 3 w w.heap.size A l) (hl : l.length ≤ 4194304) (hc : l.length ≤ cap) (hn : ∀ c ∈ l, c.2.1.length ≤ 1000) (hg : MGlob m w) :
    Calls Tryd.prog 10 #[.slice A l.length cap] w fun e w' => e = .returned (.bool (schC l)) ∧ Below w.heap.size w w' := by
  have HV := Lib.hid hv
  have HG := Lib.hid hg
  have HS := Lib.hid hn
  clear hv hg hn
  go_enter Tryd.func10, Tryd.ntmps10
  go_wp2
  go_loopw [6] (fun t wr => ∃ i : Nat, i ≤ l.length ∧ t = .int .i64 i ∧ stoodC l i ∧ Below w.heap.size w wr) (fun t _ => l.length - (intOf t).toNat)
  case atStart => exact ⟨0, by omega, rfl, fun j _ h => absurd h (by omega), Below.refl _ _⟩
  case round =>
    obtain ⟨i, hi, rfl, hst, hbel⟩ := hrel
    have HL := Lib.hid hbel
    have hsz := hbel.size
    have HST := Lib.hid hst
    have VA := Lib.hid (HV.out.below hbel)
    have GA := Lib.hid (HG.out.next hbel)
    clear hbel hst
    by_cases hil : i < l.length
    · obtain ⟨ad, rfl, ga, c0, c1, c2⟩ := at_word VA.out i hil
      have HX := Lib.hid (HS.out l[i] (List.getElem_mem hil))
      have HF := Lib.hid (fun h => sch_fell (l := l) hil h)
      have HN := Lib.hid (fun (h : refC (l.take i) l[i] = 0) => show stoodC l (i + 1) from fun j hj h2 => if e : j = i then by subst e; exact h else HST.out j hj (by omega))
      have za : (ad.add (i * 3)).block < wr.heap.size := by rw [add_block]; omega
      obtain ⟨x, hx⟩ : ∃ x, l[i] = x := ⟨_, rfl⟩
      rw [hx] at c0 c1 c2 HF HN HX
      clear hx
      obtain ⟨n, t, k⟩ := x
      dsimp only at c0 c1 c2 HX
      obtain ⟨T, hT⟩ : ∃ T : ByteArray, ⟨t.toArray⟩ = T := ⟨_, rfl⟩
      have hTl : T.data.toList = t := by rw [← hT]
      have hTs : T.size ≤ 1000 := by rw [← hT, size_list]; exact HX.out
      rw [hT] at c1
      have hti : (l.take i).length = i := List.length_take_of_le (by omega)
      have HC := Lib.hid (fun w' (hb : Below wr.heap.size wr w') => refuses_any (some ad) cap (l.take i) n k T m w' (((VA.out.more hsz).below hb).more hb.size |>.take i) (by rw [hti]; omega) hTs (GA.out.next hb))
      rw [hTl, hti] at HC
      obtain ⟨r, hr⟩ : ∃ r, refC (l.take i) (n, t, k) = r := ⟨_, rfl⟩
      rw [hr] at HC HF HN
      have hcut := run_cutH ad l.length cap i (by omega)
      clear hT hTl hr hTs hti HX
      go_wp2_with fail
      go_region_held3 (fun w' => (w'.cell? (ad.add (i * 3)) = some (.int .i64 n) ∧ w'.cell? ⟨(ad.add (i * 3)).block, (ad.add (i * 3)).off + 1, none⟩ = some (.string T) ∧ w'.cell? ⟨(ad.add (i * 3)).block, (ad.add (i * 3)).off + 2, none⟩ = some (.int .i64 k)) ∧ Below wr.heap.size wr w')
        (first | assumption | (refine keepP hb5 (by assumption) ?_; intro kk; exact ⟨(kk (ad.add (i * 3)) za).trans c0, (kk ⟨(ad.add (i * 3)).block, (ad.add (i * 3)).off + 1, none⟩ za).trans c1, (kk ⟨(ad.add (i * 3)).block, (ad.add (i * 3)).off + 2, none⟩ za).trans c2⟩) | (exact ⟨⟨c0, c1, c2⟩, Below.drew (Below.refl _ _)⟩))
        (first | (go_at_call 32; with_reducible refine (HC.out _ ?cv).mono ?_; (case cv => exact (by assumption : _ ∧ Below wr.heap.size wr _).2); rintro e w5 ⟨rfl, hb5⟩))
      all_goals
        have M1 := Lib.hid (show Below wr.heap.size wr _ by rename_i hS; exact hS.2)
        by_cases hr0 : r = 0
        · have HN2 := Lib.hid (HN.out hr0)
          subst hr0
          go_wp2
          go_roundw
          case rel => exact ⟨i + 1, by omega, by go_num, HN2.out, bnext HL.out hsz M1.out⟩
          case measure => simp [intOf]; omega
        · have HN2 := Lib.hid (HF.out hr0)
          have e5 : (r != 0) = true := by simpa using hr0
          clear hr0
          go_wp2
          go_ret
          exact ⟨retB HN2.out.symm, bnext HL.out hsz M1.out⟩
    · obtain rfl : i = l.length := by omega
      have HI := Lib.hid (sch_stood l HST.out)
      obtain ⟨N, hN⟩ : ∃ N, l.length = N := ⟨_, rfl⟩
      rw [hN] at HI
      rw [hN]
      clear hN
      go_wp2
      go_ret
      exact ⟨retB (by rw [HI.out]), HL.out⟩
end Go.Proofs.YtajnnkclonjcoaaDoor.Code
/-
  The program's with, Rename, Widen, Add of columns.
-/
namespace Go.Proofs.YtajnnkclonjcoaaDoor.Code
open Go.ChangeShapes Go.WideShapes Go.ChangeAt Go.RowKit Val Elems
set_option linter.unusedVariables false
set_option linter.unusedSimpArgs false
/-- columns that the program tells, with an error: their list has room for what is in it -/
def SColsPost (w : World) (r : List W × Int) (e : Ending) (w' : World) : Prop := ∃ (A : Option Addr) (cap : Nat), e = .returned (.tuple #[.slice A r.1.length cap, .int .i64 r.2]) ∧ r.1.length ≤ cap ∧ At wc 3 w' w'.heap.size A r.1 ∧ Below w.heap.size w w'
theorem SColsPost.cols {w : World} {r : List W × Int} {e : Ending} {w' : World} (h : SColsPost w r e w') : ColsPost w r e w' := by
  obtain ⟨A, cap, h1, _, h2, h3⟩ := h
  exact ⟨A, cap, h1, h2, h3⟩
theorem SColsPost.no {w w' : World} (j : Int) (h : Below w.heap.size w w') : SColsPost w ([], j) (.returned (.tuple #[.slice none 0 0, .int .i64 j])) w' := ⟨none, 0, rfl, Nat.le_refl _, At.nil _ _ _, h⟩
theorem own_room {w : World} {B : Nat} {e : TypeId} {A : Option Addr} {n cap : Nat} {xs : List Value} (h : w.ownsRow B e 3 (.slice A n cap) n xs) : n ≤ cap := by
  rcases h.2 with ⟨e1, e2⟩ | ⟨g, cap', cur, e1, _, _, h4, _⟩
  · cases e1
    exact Nat.le_refl _
  · cases e1
    exact h4
set_option maxHeartbeats 2000000 in
set_option maxRecDepth 100000 in
theorem cclone_any (A : Option Addr) (cap : Nat) (l : List W) (w : World) (h : At wc 3 w w.heap.size A l) (hl : l.length ≤ 4194304) :
    Calls Tryd.prog 43 #[.slice A l.length cap] w fun e w' => ∃ v, e = .returned v ∧ w'.ownsRow w.heap.size 41 3 v l.length (flatC wc l) ∧ Below w.heap.size w w' := by
  obtain ⟨i0, hi0, hz0, hz1, hz2⟩ := info_parts info_col
  rcases A with _ | ad
  · have h0 : l = [] := by
      cases l with
      | nil => rfl
      | cons y l =>
        obtain ⟨ad, e, _⟩ := h 0 (by simp)
        cases e
    subst h0
    show Calls Tryd.prog 43 #[.slice none 0 cap] w _
    have hq := fun w => Lib.run_eql_slice_nil (P := Tryd.prog) w 25 41 none 0 cap 0 0 Tryd.underlying25
    go_enter Tryd.func43, Tryd.ntmps43
    go_wp2
    go_ret
    exact ⟨_, rfl, World.ownsRow_nil _ _ _ _, Below.refl _ _⟩
  · have HA := Lib.hid h
    clear h
    have hq := fun w => Lib.run_eql_slice_nil (P := Tryd.prog) w 25 41 (some ad) l.length cap 0 0 Tryd.underlying25
    go_enter Tryd.func43, Tryd.ntmps43
    go_wp2_with (at_builtin; refine wpList_append_at (k := 3) (c := wc) wc_length (by decide) wc_one rfl _ _ 25 rfl w.heap.size 41 i0 _ 32 Tryd.underlying25 hi0 hz0 hz1 hz2 rfl (.slice (some ⟨w.heap.size, 0, none⟩) 0 0) 0 [] rfl ?c0 (w.heap.size + 1) (some ad) cap l rfl ?c2 ?c3 ?c4 ?c5 ?_)
    case c0 => exact ⟨rfl, .inr ⟨w.heap.size, 0, #[], rfl, Nat.le_refl _, heap_alloc_new w _, Nat.le_refl _, Nat.zero_le _, rfl, rfl⟩⟩
    case c2 => exact (HA.out.below (below_alloc w _)).more (by omega)
    case c3 => unfold maxLen; omega
    case c4 => omega
    case c5 => simp
    intro v' w1 hown' hgrow
    have H1 := Lib.hid (show w1.ownsRow w.heap.size 41 3 v' l.length (flatC wc l) by simpa using hown')
    have L1 := Lib.hid ((below_alloc w (.cells #[] 41)).grown hgrow (by simp) (fun j hj => by cases hj; exact Nat.le_refl _))
    clear hown' hgrow
    go_wp2
    go_ret
    exact ⟨_, rfl, H1.out, L1.out⟩
/-- what a change that is handed in does to a column, whose error is r -/
def SetP (w : World) (r : Int) (g k : Nat) (c d : W) (e : Ending) (w' : World) : Prop :=
  e = .returned (.int .i64 r) ∧ ∃ w1, Below w.heap.size w w1 ∧ (r ≠ 0 → w' = w1) ∧ (r = 0 → ∃ j v, j < 3 ∧ w' = w1.setCell ⟨g, k * 3 + j, none⟩ v ∧ wc d = (wc c).set j v)
def SetC (fn : Nat) (cps : Array Value) (q : W → Int) (f : W → W) (Pre : World → Prop) : Prop :=
  ∀ (n kk : Int) (s : ByteArray) (g k : Nat) (w : World), Pre w → w.cell? ⟨g, k * 3, none⟩ = some (.int .i64 n) → w.cell? ⟨g, k * 3 + 1, none⟩ = some (.string s) → w.cell? ⟨g, k * 3 + 2, none⟩ = some (.int .i64 kk) → (∀ j, w.frozen? ⟨g, j, none⟩ = false) →
    Calls Tryd.prog fn (#[.pointer (some ⟨g, k * 3, none⟩)] ++ cps) w (SetP w (q (n, s.data.toList, kk)) g k (n, s.data.toList, kk) (f (n, s.data.toList, kk)))
def withC (q : W → Int) (f : W → W) (l : List W) (s : List UInt8) : List W × Int := match findC l s with
  | none => ([], 121)
  | some k => if q (l.getD k (0, [], 0)) = 0 then (l.modify k f, 0) else ([], q (l.getD k (0, [], 0)))
set_option maxHeartbeats 8000000 in
set_option maxRecDepth 100000 in
theorem with_any (fn : Nat) (en : ∀ args w, (callFunc fn args).run Tryd.prog w = .ok (.enter fn args) w) (cps : Array Value) (q : W → Int) (f : W → W) (A : Option Addr) (cap : Nat) (l : List W) (s : ByteArray) (w : World) (hv : At wc 3 w w.heap.size A l) (hl : l.length ≤ 4194304) (ha : SetC fn cps q f (fun w' => Below w.heap.size w w')) :
    Calls Tryd.prog 45 #[.slice A l.length cap, .string s, .func (.func fn) #[] cps] w (SColsPost w (withC q f l s.data.toList)) := by
  have HV := Lib.hid hv
  have HA := Lib.hid ha
  have HF := Lib.hid (sfind_any A cap l s w hv hl)
  unfold FindPost at HF
  obtain ⟨R, hR⟩ : ∃ R, withC q f l s.data.toList = R := ⟨_, rfl⟩
  rw [hR]
  unfold withC at hR
  have HR := Lib.hid hR
  clear hv ha hR
  go_enter Tryd.func45, Tryd.ntmps45
  go_wp2_with fail
  refine HF.out.mono ?_
  rintro e w1 ⟨rfl, hb⟩
  have L1 := Lib.hid hb
  have V1 := Lib.hid ((HV.out.below hb).more hb.size)
  clear hb HF HV
  cases hf : findC l s.data.toList with
  | none =>
    have hr : R = ([], 121) := by rw [← HR.out, hf]
    rw [findZ_neg hf]
    have e1 : max (-1 : Int) 0 = 0 := rfl
    have e2 : decide ((0 : Int) ≤ -1) = false := rfl
    rw [e1, e2]
    subst hr
    clear hf e1 e2
    go_wp2
    go_ret2
    exact SColsPost.no _ L1.out
  | some k =>
    obtain ⟨hk, _, _⟩ := find_some hf
    have hz := findZ_pos hf
    rw [hz]
    have e1 : max (k : Int) 0 = k := by omega
    have e2 : decide ((0 : Int) ≤ (k : Int)) = true := by simp
    rw [e1, e2]
    have HC := Lib.hid (cclone_any A cap l w1 V1.out hl)
    have HR2 := Lib.hid (show (if q l[k] = 0 then (l.modify k f, 0) else ([], q l[k])) = R by rw [← HR.out, hf]; simp only [List.getD_eq_getElem?_getD, List.getElem?_eq_getElem hk, Option.getD_some])
    clear hf hz e1 e2 HR V1
    go_wp2_with fail
    refine HC.out.mono ?_
    rintro e w2 ⟨v, rfl, hown, hb⟩
    obtain ⟨g, cp, rfl, hg1, hg2, hfr, hcells⟩ := own_cols hown (by omega)
    have hroom := own_room hown
    have L2 := Lib.hid (L1.out.trans (hb.mono L1.out.size))
    have HCC := Lib.hid hcells
    have hgw : w.heap.size ≤ g := Nat.le_trans L1.out.size hg1
    have hx0 : (flatC wc l)[k * 3 + 0]? = some (.int .i64 l[k].1) := by rw [flatC_at wc_length l k hk 0 (by omega)]; rfl
    have hx1 : (flatC wc l)[k * 3 + 1]? = some (.string ⟨l[k].2.1.toArray⟩) := by rw [flatC_at wc_length l k hk 1 (by omega)]; rfl
    have hx2 : (flatC wc l)[k * 3 + 2]? = some (.int .i64 l[k].2.2) := by rw [flatC_at wc_length l k hk 2 (by omega)]; rfl
    have c0 := hcells _ _ hx0
    have c1 := hcells _ _ hx1
    have c2 := hcells _ _ hx2
    rw [Nat.add_zero] at c0
    have HQ := Lib.hid (HA.out l[k].1 l[k].2.2 ⟨l[k].2.1.toArray⟩ g k w2 L2.out c0 c1 c2 hfr)
    have HK := Lib.hid (fun w' (hb : Below w2.heap.size w2 w') j v (hj : j < 3) (hwc : wc (f l[k]) = (wc l[k]).set j v) => show At wc 3 (w'.setCell ⟨g, k * 3 + j, none⟩ v) (w'.setCell ⟨g, k * 3 + j, none⟩ v).heap.size (some ⟨g, 0, none⟩) (l.modify k f) from
      cols_at (by have := hb.size; simp; omega) (cols_set (fun j u hu => (hb.cell (p := ⟨g, j, none⟩) hg2).trans (HCC.out j u hu)) k hk f j hj v hwc))
    have hlm : (l.modify k f).length = l.length := List.length_modify ..
    have HLM := Lib.hid hlm
    clear hown hb hcells hx0 hx1 hx2 c0 c1 c2 HC hlm
    obtain ⟨x, hx⟩ : ∃ x, l[k] = x := ⟨_, rfl⟩
    rw [hx] at HQ HR2 HK
    rw [show (x.1, (⟨x.2.1.toArray⟩ : ByteArray).data.toList, x.2.2) = x from rfl] at HQ
    obtain ⟨r, hr⟩ : ∃ r, q x = r := ⟨_, rfl⟩
    rw [hr] at HQ HR2
    unfold SetP at HQ
    have hki : (k : Int) < (l.length : Int) := by omega
    clear hx hr
    go_wp2_with fail
    refine HQ.out.mono ?_
    rintro e w3 ⟨rfl, w4, hb4, hn4, hy4⟩
    by_cases hr0 : r = 0
    · obtain ⟨j, v, hj, rfl, hwc⟩ := hy4 hr0
      have hr : R = (l.modify k f, 0) := by rw [← HR2.out, if_pos hr0]
      have AT := Lib.hid (HK.out w4 hb4 j v hj hwc)
      have L5 := Lib.hid ((L2.out.trans (hb4.mono L2.out.size)).setCell (p := ⟨g, k * 3 + j, none⟩) hgw v)
      subst hr0 hr
      clear hn4 hy4 hwc hb4
      go_wp2
      go_ret2
      exact ⟨some ⟨g, 0, none⟩, cp, by rw [HLM.out]; rfl, by rw [HLM.out]; exact hroom, AT.out, L5.out⟩
    · obtain rfl := hn4 hr0
      have hr : R = ([], r) := by rw [← HR2.out, if_neg hr0]
      have e5 : (r != 0) = true := by simpa using hr0
      have L5 := Lib.hid (L2.out.trans (hb4.mono L2.out.size))
      subst hr
      clear hn4 hy4 hb4 hr0
      go_wp2
      go_ret2
      exact SColsPost.no _ L5.out
end Go.Proofs.YtajnnkclonjcoaaDoor.Code
