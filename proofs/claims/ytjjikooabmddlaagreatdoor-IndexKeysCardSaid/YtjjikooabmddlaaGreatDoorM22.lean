/-
  The iterator groups of package zset: the rows of items in order, each once, with its weights taken together.
-/
import Derived.Test.YtjjikooabmddlaaGreatDoorM20
import Derived.Test.YtjjikooabmddlaaGreatDoorM21
import Derived.Test.YtjjikooabmddlaaGreatDoorM19
import Derived.Test.YtjjikooabmddlaaGreatDoorM16
namespace Go.Proofs.YtjjikooabmddlaaGreatDoor.Items
open Go.ChangeShapes Go.WideShapes Go.ChangeAt Go.RowKit Val Go.Proofs.YtjjikooabmddlaaGreatDoor.Code Go.Proofs.YtjjikooabmddlaaGreatDoor.Elems Go.Proofs.YtjjikooabmddlaaGreatDoor.ZP Go.Proofs.YtjjikooabmddlaaGreatDoor.Bits Go.Proofs.YtjjikooabmddlaaGreatDoor.Range
set_option linter.unusedVariables false
set_option maxRecDepth 100000
attribute [local go_sem] Oper.semAt_some

/-- is it the same row? -/
def sameR (r : List (Int × Int × ByteArray)) (y : It) : Bool := cmpL y.2.2.1 r == 0
/-- runs of the same row, each with its weights taken together -/
def groupsI : Nat → List It → List It
  | 0, _ => []
  | _ + 1, [] => []
  | n + 1, x :: l => (x.1, x.2.1, x.2.2.1, totalP (pl (List.takeWhile (sameR x.2.2.1) (x :: l)))) :: groupsI n (List.dropWhile (sameR x.2.2.1) (x :: l))
theorem sameR_self (x : It) : sameR x.2.2.1 x = true := by simp [sameR, cmpL_self]
theorem drop_shorter (x : It) (l : List It) : (List.dropWhile (sameR x.2.2.1) (x :: l)).length < (x :: l).length := by
  rw [List.dropWhile_cons_of_pos (sameR_self x)]
  have := (List.dropWhile_suffix (sameR x.2.2.1) (l := l)).length_le
  simp
  omega
/-- what a round of groups is handed -/
def encG (x : It) : Array Value := #[.slice x.1 x.2.2.1.length x.2.1, .agg #[.int .i64 (Wide.hi x.2.2.2), .int .u64 (Wide.lo x.2.2.2)]]
/-- a list's rest from its second element on -/
def tailP (P : Option Addr) (c : Nat) : Option Addr := if c = 1 then P else P.map fun ad => ad.add 2
theorem run_tail (ad : Addr) (m c : Nat) (h : m + 1 ≤ c) (hc : c ≤ 9223372036854775807) (w : World) :
    (Instr.slice 40 (.slice (some ad) ((m + 1 : Nat) : Nat) c) (some (.int .i64 1)) none none).run Tryz.prog w = .ok (.slice (tailP (some ad) c) m (c - 1)) w := by
  have hu : Tryz.prog.underlying 40 = some (.slice (Tryz.prog.elem 40)) := by kernel_rfl
  have hz : ∀ w, (sizeOf (Tryz.prog.elem 40)).run Tryz.prog w = .ok 2 w := fun w => by kernel_rfl
  rw [run_slice_l w 40 _ _ _ hu .i64 1 (by omega) (by omega), hz]
  simp only [Result.andThen, sliced, tailP]
  by_cases e : c = 1
  · subst e
    have : m = 0 := by omega
    subst this
    simp
  · simp [e]
theorem add_add (a : Addr) (m n : Nat) : (a.add m).add n = a.add (m + n) := by
  by_cases hn : n = 0
  · subst hn
    simp [Addr.add]
  · by_cases hm : m = 0
    · subst hm
      simp [Addr.add, hn]
    · simp [Addr.add, hn, hm, Nat.add_assoc]
theorem items_tail {w : World} {B : Nat} {ad : Addr} {x : It} {R : List It} (h : Items w B (some ad) (x :: R)) (c : Nat) (hc : R.length + 1 ≤ c) : Items w B (tailP (some ad) c) R := by
  refine ⟨fun i hi => ?_, fun y hy => h.2 y (by simp [hy])⟩
  obtain ⟨ad', e, hb, h0⟩ := h.1 (i + 1) (by simp; omega)
  obtain rfl : ad = ad' := Option.some.inj e
  have hc1 : c ≠ 1 := by omega
  refine ⟨ad.add 2, by simp [tailP, hc1], by rw [add_block]; exact hb, fun j u hu => ?_⟩
  have := h0 j u (by simpa using hu)
  rw [show (i + 1) * 2 + j = 2 + (i * 2 + j) by omega] at this
  rw [add_add]
  exact this

/-- the box of a sum in the making, since the round began -/
def GBox (W : World) (g : Nat) (n : Int) (wr : World) : Prop := WBox W g n wr ∧ W.heap.size ≤ g
/-- the box was made ahead of the call -/
theorem alloc_of {wr w2 : World} (hb2 : Below (wr.alloc (.cells #[.int .i64 0, .int .u64 0] 90)).drew.heap.size (wr.alloc (.cells #[.int .i64 0, .int .u64 0] 90)).drew w2) : WBox wr wr.heap.size 0 w2 :=
  ⟨(hb2.block _ (by show wr.heap.size < (wr.alloc _).heap.size; simp)).trans (heap_alloc_new wr (.cells #[.int .i64 0, .int .u64 0] 90)), (below_alloc wr _).trans ((Below.drew (Below.refl _ _)).trans (hb2.mono (by show wr.heap.size ≤ (wr.alloc _).heap.size; simp)))⟩
/-- the box was made behind the call -/
theorem alloc_after {wr w2 : World} (hb2 : Below wr.drew.heap.size wr.drew w2) : WBox wr w2.heap.size 0 (w2.alloc (.cells #[.int .i64 (Wide.hi 0), .int .u64 (Wide.lo 0)] 90)) :=
  ⟨heap_alloc_new w2 _, ((Below.drew (Below.refl _ wr)).trans hb2).alloc hb2.size _⟩
theorem below_keep {w w' : World} (h : Below w.heap.size w w') : w.grownBy w' none := ⟨h.os, h.tape, h.output, h.size, fun k hk _ => h.block k hk⟩
/-- where a run ends -/
theorem tw_end {r : List (Int × Int × ByteArray)} {l pre R2 : List It} (he : l = pre ++ R2) (hs : ∀ y ∈ pre, sameR r y = true) (hend : ∀ y R', R2 = y :: R' → sameR r y = false) : l.takeWhile (sameR r) = pre ∧ l.dropWhile (sameR r) = R2 := by
  subst he
  induction pre with
  | nil =>
    cases R2 with
    | nil => simp
    | cons y R' =>
      have := hend y R' rfl
      simp [this]
  | cons z pre ih =>
    have hz := hs z (by simp)
    obtain ⟨h1, h2⟩ := ih (fun y hy => hs y (by simp [hy]))
    simp [hz, h1, h2]
theorem below_of_round {w W w2 w3 : World} {g : Nat} {n x : Int} {o : Obj} (h : WBox w g n W) (hb2 : Below W.drew.heap.size W.drew w2) (hb3 : Below (w2.alloc o).heap.size (w2.alloc o) w3) (hg : w.heap.size ≤ g) :
    Below w.heap.size W ((w3.setCell ⟨g, 0, none⟩ (.int .i64 (Wide.hi (n + x)))).setCell ⟨g, 1, none⟩ (.int .u64 (Wide.lo (n + x)))) :=
  (total_round (B := 0) (x := x) h hb2 hb3 hg rfl).2.1
set_option maxHeartbeats 4000000 in
theorem groups_seq (A : Option Addr) (cap n₀ : Nat) (L : List It) (w : World) (hn : n₀ ≤ w.heap.size) (hI : Items w n₀ A L) (hF : FitI L) (hs : ∀ x ∈ L, x.2.2.1.length ≤ 140737488355328) (hl : L.length ≤ cap) (hc : cap ≤ 9223372036854775807) :
    SeqM Tryz.prog 64 #[.slice A L.length cap] encG n₀ (groupsI L.length L) w := by
  intro l J Jx W hW hJ hY h0
  have HI := Lib.hid (hI.below (hW.mono hn))
  have HY := Lib.hid hY
  clear hI hY
  refine callsIn_of_wp Tryz.func64 rfl trivial ?_ rfl
  simp only [Tryz.ntmps64, List.size_toArray, List.length_cons, List.length_nil, Nat.reduceAdd, Nat.reduceSub, Array.replicate_succ, Array.replicate_zero, List.push_toArray, List.append_toArray, List.nil_append, List.cons_append]
  gi_wp2
  gi_loopw [0] (fun s wr => ∃ (R done : List It) (P : Option Addr) (c n : Nat), s = .slice P R.length c ∧ R.length ≤ c ∧ c ≤ 9223372036854775807 ∧ R.length ≤ n ∧ groupsI L.length L = done ++ groupsI n R ∧ Hid (∀ x ∈ R, x ∈ L) ∧ Hid (J done wr) ∧ Hid (Items wr n₀ P R) ∧ n₀ ≤ wr.heap.size) (fun s _ => match s with | .slice _ n _ => n | _ => 0)
  case atStart => exact ⟨L, [], A, cap, L.length, rfl, hl, hc, Nat.le_refl _, rfl, Lib.hid fun _ h => h, Lib.hid h0, HI, Nat.le_trans hn hW.size⟩
  case round =>
    obtain ⟨R, done, P, c, n, rfl, hRc, hc2, hRn, hG, HR, HJ, H1, hz⟩ := hrel
    cases R with
    | nil =>
      gi_wp2
      go_end0
      refine ⟨⟨_, rfl⟩, .inl ?_⟩
      have : groupsI L.length L = done := by rw [hG]; cases n <;> simp [groupsI]
      rw [this]
      exact HJ.out
    | cons x R =>
      obtain ⟨n, rfl⟩ : ∃ m, n = m + 1 := ⟨n - 1, by simp at hRn; omega⟩
      obtain ⟨ad, rfl, hb, c0, c1, v0⟩ := H1.out.at 0 (by simp)
      have ha0 : ad.add (0 * 2) = ad := by simp [Addr.add]
      rw [ha0] at c0 c1
      simp only [List.getElem_cons_zero] at c0 c1 v0
      have hbw : ad.block < wr.heap.size := by omega
      have hbw2 : ad.block < (wr.alloc (.cells #[.int .i64 0, .int .u64 0] 90)).drew.heap.size := by show ad.block < (wr.alloc _).heap.size; simp; omega
      have hmx : Tryz.prog.follows .mixedOrders = true := by kernel_rfl
      have K1 : ∀ w2, Below wr.drew.heap.size wr.drew w2 → w2.cell? ad = some (.slice x.1 x.2.2.1.length x.2.1) := fun w2 hb2 => (hb2.cell (p := ad) hbw).trans c0
      have K2 : ∀ w2, Below (wr.alloc (.cells #[.int .i64 0, .int .u64 0] 90)).drew.heap.size (wr.alloc (.cells #[.int .i64 0, .int .u64 0] 90)).drew w2 → w2.cell? ad = some (.slice x.1 x.2.2.1.length x.2.1) := fun w2 hb2 => (hb2.cell (p := ad) hbw2).trans ((World.cell?_alloc_old wr _ ad (Nat.ne_of_lt hbw)).trans c0)
      have HK1 := Lib.hid K1
      have HK2 := Lib.hid K2
      have VX := Lib.hid v0
      have hxL := HR.out x (by simp)
      have HSX := Lib.hid (hs x hxL)
      clear K1 K2 c1 v0
      gi_wp2
      rename_i K hK
      have rest : ∀ (g : Nat) (W2 : World), WBox wr g 0 W2 → wr.heap.size ≤ g → K { tmps := #[.slice (some ad) (R.length + 1) c, .func (.yield l) #[] #[], undef, undef, .slice x.1 x.2.2.1.length x.2.1, .pointer (some ⟨g, 0, none⟩), .slice (some ad) (R.length + 1) c, .int .i64 (R.length + 1), .bool true, .slice (some ad) (R.length + 1) c, .pointer (some ad), .pointer (some ad), .slice x.1 x.2.2.1.length x.2.1, Wide.wv 0, u14, u15, u16, u17, u18, u19, u20, u21, u22, u23, u24, u25, u26, u27, u28, u29, u30, u31, u32, u33, u34, u35, u36, u37, u38, u39], defers := [] } W2 := by
        intro g W2 hw hg
        refine hK _ _ ?_
        have HW2 := Lib.hid hw
        have HI2 := Lib.hid ((H1.out.below (hw.2.mono hz)))
        clear hw hK
        gi_wp2
        gi_loopw [0] (fun s wr2 => ∃ (pre R2 : List It) (P2 : Option Addr) (c2 : Nat), s = .slice P2 R2.length c2 ∧ R2.length ≤ c2 ∧ c2 ≤ 9223372036854775807 ∧ Hid (x :: R = pre ++ R2) ∧ Hid (∀ y ∈ pre, sameR x.2.2.1 y = true) ∧ Hid (WBox wr g (totalP (pl pre)) wr2) ∧ Hid (Items wr2 n₀ P2 R2)) (fun s _ => match s with | .slice _ n _ => n | _ => 0)
        case atStart => exact ⟨[], x :: R, some ad, c, rfl, hRc, hc2, Lib.hid rfl, Lib.hid (fun y hy => by cases hy), HW2, HI2⟩
        case round =>
          rename World => wr2
          obtain ⟨pre, R2, P2, c2, rfl, h2c, h2m, HE, HS, HW, HI2⟩ := hrel
          cases R2 with
          | nil =>
            have hend : ∀ y R', ([] : List It) = y :: R' → sameR x.2.2.1 y = false := fun y R' e => by cases e
            have HB3 := Lib.hid HW.out.2
            have hnew := hJ _ _ _ HJ.out (below_keep HB3.out)
            have htw := tw_end HE.out HS.out hend
            have HG2 := Lib.hid (show groupsI L.length L = (done ++ [(x.1, x.2.1, x.2.2.1, totalP (pl pre))]) ++ groupsI n ([] : List It) by rw [hG, groupsI, htw.1, htw.2, List.append_assoc]; rfl)
            have HPr := Lib.hid (show done ++ [(x.1, x.2.1, x.2.2.1, totalP (pl pre))] <+: groupsI L.length L by rw [HG2.out]; exact List.prefix_append _ _)
            have R2s : ([] : List It).length < (x :: R).length := by rw [← htw.2]; exact drop_shorter x R
            have R2n : ([] : List It).length ≤ n := by have := hRn; omega
            obtain ⟨fn, tmps, assign, body, hy, hRd⟩ := HY.out done (x.1, x.2.1, x.2.2.1, totalP (pl pre)) wr2 hnew HPr.out
            have HRd := Lib.hid hRd
            have I3 := Lib.hid HI2.out
            have Z3 := Lib.hid (Nat.le_trans hz HB3.out.size)
            obtain ⟨c0, c1, f0, f1⟩ := HW.out.cells
            clear hRd hnew htw
            dsimp only [encG] at hy
            have t43 : Fence.wide.fn 86 := trivial
            gi_wp2
            refine ⟨rfl, HRd.out.mono ?_⟩
            clear HRd hy
            rintro e w4 (⟨rfl, hj4, hb4⟩ | ⟨rfl, hjx⟩)
            · have J4 := Lib.hid hj4
              have I4 := Lib.hid (I3.out.below hb4)
              have z4 : n₀ ≤ w4.heap.size := Nat.le_trans Z3.out hb4.size
              clear hj4 hb4
              gi_wp2
              go_roundw
              case rel => exact ⟨[], done ++ [(x.1, x.2.1, x.2.2.1, totalP (pl pre))], P2, c2, n, rfl, h2c, h2m, R2n, HG2.out, Lib.hid (fun y hy => HR.out y (by rw [HE.out]; exact List.mem_append_right _ hy)), J4, I4, z4⟩
              case measure => exact R2s
            · have JX := Lib.hid hjx
              clear hjx
              gi_wp2
              refine bodyPost_ret (results_none rfl _ _ _) rfl ?_
              exact ⟨⟨_, rfl⟩, .inr ⟨_, HPr.out, JX.out⟩⟩
          | cons y R2 =>
            obtain ⟨ad2, rfl, hbb, d0, d1, vy⟩ := HI2.out.at 0 (by simp)
            have ha2 : ad2.add (0 * 2) = ad2 := by simp [Addr.add]
            rw [ha2] at d0 d1
            simp only [List.getElem_cons_zero] at d0 d1 vy
            have zw : wr.heap.size ≤ wr2.heap.size := HW.out.2.size
            have hyR : y ∈ x :: R := by rw [HE.out]; simp
            have hyL := HR.out y hyR
            have hsy := hs y hyL
            have HFY := Lib.hid (hF y hyL).2
            have VY := Lib.hid (vy.more (show n₀ ≤ wr2.heap.size by omega))
            have VX2 := Lib.hid (((VX.out.more hz).below HW.out.2).more zw)
            obtain ⟨b, hbq⟩ : ∃ b, (cmpL y.2.2.1 x.2.2.1 == 0) = b := ⟨_, rfl⟩
            have HBQ := Lib.hid hbq
            have hcall := rowSame_any y.1 x.1 y.2.1 x.2.1 y.2.2.1 x.2.2.1 wr2 VY.out VX2.out hsy HSX.out
            rw [hbq] at hcall
            have HC := Lib.hid hcall
            clear hcall hbq vy
            gi_wp2_with fail
            refine in_wide HC.out ?_
            rintro e w5 ⟨rfl, hb5⟩
            have W5 := Lib.hid (HW.out.keep hb5)
            have I5 := Lib.hid (HI2.out.below (hb5.mono (show n₀ ≤ wr2.heap.size by omega)))
            have e1 : w5.cell? ⟨ad2.block, ad2.off + 1, none⟩ = some (.int .i64 y.2.2.2) := (hb5.cell (p := ⟨ad2.block, ad2.off + 1, none⟩) (show ad2.block < wr2.heap.size by omega)).trans d1
            have z5 := hb5.size
            clear hb5 d0 d1 HC HW HI2
            cases b with
            | false =>
              have HW := W5
              have HI2 := I5
              have hend : ∀ z R', y :: R2 = z :: R' → sameR x.2.2.1 z = false := fun z R' e => by cases e; exact HBQ.out
              have HB3 := Lib.hid HW.out.2
              have hnew := hJ _ _ _ HJ.out (below_keep HB3.out)
              have htw := tw_end HE.out HS.out hend
              have HG2 := Lib.hid (show groupsI L.length L = (done ++ [(x.1, x.2.1, x.2.2.1, totalP (pl pre))]) ++ groupsI n (y :: R2) by rw [hG, groupsI, htw.1, htw.2, List.append_assoc]; rfl)
              have HPr := Lib.hid (show done ++ [(x.1, x.2.1, x.2.2.1, totalP (pl pre))] <+: groupsI L.length L by rw [HG2.out]; exact List.prefix_append _ _)
              have R2s : (y :: R2).length < (x :: R).length := by rw [← htw.2]; exact drop_shorter x R
              have R2n : (y :: R2).length ≤ n := by have := hRn; omega
              obtain ⟨fn, tmps, assign, body, hy, hRd⟩ := HY.out done (x.1, x.2.1, x.2.2.1, totalP (pl pre)) w5 hnew HPr.out
              have HRd := Lib.hid hRd
              have I3 := Lib.hid HI2.out
              have Z3 := Lib.hid (Nat.le_trans hz HB3.out.size)
              obtain ⟨c0, c1, f0, f1⟩ := HW.out.cells
              clear hRd hnew htw
              dsimp only [encG] at hy
              gi_wp2
              refine ⟨rfl, HRd.out.mono ?_⟩
              clear HRd hy
              rintro e w4 (⟨rfl, hj4, hb4⟩ | ⟨rfl, hjx⟩)
              · have J4 := Lib.hid hj4
                have I4 := Lib.hid (I3.out.below hb4)
                have z4 : n₀ ≤ w4.heap.size := Nat.le_trans Z3.out hb4.size
                clear hj4 hb4
                gi_wp2
                go_roundw
                case rel => exact ⟨y :: R2, done ++ [(x.1, x.2.1, x.2.2.1, totalP (pl pre))], some ad2, c2, n, rfl, h2c, h2m, R2n, HG2.out, Lib.hid (fun y hy => HR.out y (by rw [HE.out]; exact List.mem_append_right _ hy)), J4, I4, z4⟩
                case measure => exact R2s
              · have JX := Lib.hid hjx
                clear hjx
                gi_wp2
                refine bodyPost_ret (results_none rfl _ _ _) rfl ?_
                exact ⟨⟨_, rfl⟩, .inr ⟨_, HPr.out, JX.out⟩⟩
            | true =>
              have hg5 : g < w5.drew.heap.size := by show g < w5.heap.size; exact (Array.getElem?_eq_some_iff.1 W5.out.1).1
              obtain ⟨m, hm⟩ : ∃ m, totalP (pl pre) = m := ⟨_, rfl⟩
              rw [hm] at W5
              obtain ⟨c0, c1, f0, f1⟩ := W5.out.cells
              have HT := Lib.hid (fun w => run_tail ad2 R2.length c2 h2c h2m w)
              have HM := Lib.hid hm
              clear hm
              gi_wp2
              gi_region_with_o (first
                | (refine in_wide (Wide.of_any y.2.2.2 _ HFY.out) ?_; rintro e w6 ⟨rfl, hb6⟩; have k0 := (hb6.cell (p := ⟨g, 0, none⟩) hg5).trans c0; have k1 := (hb6.cell (p := ⟨g, 1, none⟩) hg5).trans c1; have z6 := hb6.size; have j0 : ∀ o, (w6.alloc o).cell? ⟨g, 0, none⟩ = some (.int .i64 (Wide.hi m)) := fun o => (World.cell?_alloc_old _ _ _ (Nat.ne_of_lt (Nat.lt_of_lt_of_le hg5 z6))).trans k0; have j1 : ∀ o, (w6.alloc o).cell? ⟨g, 1, none⟩ = some (.int .u64 (Wide.lo m)) := fun o => (World.cell?_alloc_old _ _ _ (Nat.ne_of_lt (Nat.lt_of_lt_of_le hg5 z6))).trans k1)
                | (refine in_wide (Wide.add1_any m y.2.2.2 w6.heap.size 1 _ (by simp) (by simp [go_sem]) (by simp [go_sem])) ?_; rintro e w7 ⟨rfl, hb7⟩; obtain ⟨m0, m1, q0, q1⟩ := (wbox_next W5.out hb6 hb7).cells))
              all_goals
                have hR := Lib.hid (total_round (B := 0) W5.out hb6 hb7 hg (show totalP (pl (pre ++ [y])) = m + y.2.2.2 by rw [total_add, HM.out]))
                have ht := HT.out
                gi_wp2
                go_roundw
                case rel => exact ⟨pre ++ [y], R2, tailP (some ad2) c2, c2 - 1, rfl, by simp at h2c; omega, by omega, Lib.hid (by rw [HE.out]; simp), Lib.hid (fun z hz => by rcases List.mem_append.1 hz with h | h; exact HS.out z h; rw [List.mem_singleton.1 h]; exact HBQ.out), Lib.hid hR.out.2.2, Lib.hid ((items_tail I5.out c2 h2c).below ((below_of_round W5.out hb6 hb7 hg).mono hz))⟩
                case measure => simp
      have HRest := Lib.hid rest
      clear rest hK
      gi_region_with_o (first
        | (refine in_wide (Wide.of_any 0 _ (by unfold Wide.fits; omega)) ?_; rintro e w2 ⟨rfl, hb2⟩; have k0 := HK1.out w2 hb2; have j0 : ∀ o, (w2.alloc o).cell? ad = some (.slice x.1 x.2.2.1.length x.2.1) := fun o => (World.cell?_alloc_old w2 _ ad (Nat.ne_of_lt (Nat.lt_of_lt_of_le hbw hb2.size))).trans k0)
        | (refine in_wide (Wide.of_any 0 _ (by unfold Wide.fits; omega)) ?_; rintro e w2 ⟨rfl, hb2⟩; have k0 := HK2.out w2 hb2; obtain ⟨m0, m1, q0, q1⟩ := (alloc_of hb2).cells))
      all_goals first
        | exact HRest.out _ _ ((alloc_of hb2).set (Nat.le_refl _) 0) (Nat.le_refl _)
        | exact HRest.out _ _ (alloc_after hb2) hb2.size
end Go.Proofs.YtjjikooabmddlaaGreatDoor.Items

/-
  The contract of Distinct of package zset: rows with a weight above 0, each a copy, with 1.
-/
namespace Go.Proofs.YtjjikooabmddlaaGreatDoor.Items
open Go.ChangeShapes Go.WideShapes Go.ChangeAt Go.RowKit Val Go.Proofs.YtjjikooabmddlaaGreatDoor.Code Go.Proofs.YtjjikooabmddlaaGreatDoor.Elems Go.Proofs.YtjjikooabmddlaaGreatDoor.ZP Go.Proofs.YtjjikooabmddlaaGreatDoor.Bits Go.Proofs.YtjjikooabmddlaaGreatDoor.Range
set_option linter.unusedVariables false
set_option maxRecDepth 100000
attribute [local go_sem] Oper.semAt_some

theorem OwnRows.turn {W W' : World} {row : Option Nat} {B base : Nat} {M : List It} (hg : W.grownBy W' row) (hr : ∀ r, row = some r → B ≤ r ∧ ∃ o : Obj, W.heap[r]? = some o ∧ o.isCells = false) (h : OwnRows W base M) : OwnRows W' base M :=
  h.keep fun g D _ hB => hB.keep (turn_block hg hr hB)
/-- a box at g holds a list of the call's own that says Q, with rows in blocks of its own -/
def Holds (w : World) (g : Nat) (Q : List (List (Int × Int × ByteArray) × Int)) (W : World) : Prop :=
  ∃ (v : Value) (M : List It), W.heap[g]? = some (.cells #[v] 40 (0, 0)) ∧ W.ownsRow w.heap.size 48 2 v M.length (flatC cellsI M) ∧ OwnRows W w.heap.size M ∧ pl M = Q ∧ Below w.heap.size w W
theorem Holds.turn {w W W' : World} {g : Nat} {Q : List (List (Int × Int × ByteArray) × Int)} {row : Option Nat} {B : Nat} (hg : W.grownBy W' row) (hr : ∀ r, row = some r → B ≤ r ∧ ∃ o : Obj, W.heap[r]? = some o ∧ o.isCells = false) (hB : w.heap.size ≤ B) (h : Holds w g Q W) : Holds w g Q W' := by
  obtain ⟨v, M, h1, h2, h3, h4, h5⟩ := h
  exact ⟨v, M, (turn_block hg hr h1).trans h1, turn_own hg hr h2, h3.turn hg hr, h4, turn_below hg hr (Nat.le_refl _) hB h5⟩
theorem own_box {W : World} {g base n : Nat} {v u : Value} {xs : List Value} (h : W.heap[g]? = some (.cells #[u] 40 (0, 0))) (ho : W.ownsRow base 48 2 v n xs) : some g ≠ v.ownBlock :=
  Boxed.not_row (t := 40) h (by decide) ho

/-- a list that grows keeps whatever is no cells -/
theorem keeps_own {W W' : World} {base n : Nat} {v : Value} {xs : List Value} (ho : W.ownsRow base 48 2 v n xs) (hg : W.grownBy W' v.ownBlock) : KeepsOthers W W' := by
  refine ⟨hg.size, fun k o hk hc => (hg.block k (Array.getElem?_eq_some_iff.1 hk).1 fun e => ?_).trans hk⟩
  rcases ho.2 with ⟨rfl, _⟩ | ⟨h, cap, cur, rfl, _, hgb, _⟩
  · simp [Value.ownBlock] at e
  · have e' : k = h := by simpa [Value.ownBlock] using e
    subst e'
    rw [hgb] at hk
    cases hk
    simp [Obj.isCells] at hc
/-- the box is written: the list in it is the longer one -/
theorem Holds.stored {w w2 : World} {g : Nat} {v v2 : Value} {M : List It} {Q : List (List (Int × Int × ByteArray) × Int)} (hb : w2.heap[g]? = some (.cells #[v] 40 (0, 0))) (ho : w2.ownsRow w.heap.size 48 2 v2 M.length (flatC cellsI M)) (hr : OwnRows w2 w.heap.size M) (hq : pl M = Q) (hl : Below w.heap.size w w2) (hg : w.heap.size ≤ g) :
    Holds w g Q (w2.setCell ⟨g, 0, none⟩ v2) := by
  have hs := Boxed.set (t := 40) v2 hb
  have hgb := grownBy_setCell' w2 g v2
  refine ⟨v2, M, hs, ho.kept hgb ?_, hr.keep fun k D hk hB => hB.keep (hgb.block k hB.lt fun e => ?_), hq, hl.setCell (p := ⟨g, 0, none⟩) hg _⟩
  · refine (Decidable.em (v2.ownBlock = none)).imp id fun hn e => ?_
    exact own_box hb ho e.symm
  · have e' : k = g := by simpa using e
    subst e'
    have h1 := (show w2.heap[k]? = _ from hB).symm.trans hb
    simp at h1

end Go.Proofs.YtjjikooabmddlaaGreatDoor.Items
