/-
  The law's places: each place of a plan is one of its Kids' columns, and its columns are a schema.
-/
import Derived.Test.YthpmgnfmeldkjaaGreatDoorSm23
import Derived.Test.YthpmgnfmeldkjaaGreatDoorSm5
import Derived.Deep.QuietTactic
import Derived.BigQuiet
import Derived.Test.YthpmgnfmeldkjaaGreatDoorSm14
import Derived.Test.YthpmgnfmeldkjaaGreatDoorSm10
import Derived.Carry
import Derived.ChangeOld
import Derived.ChangeSame
import Derived.OpenShut
import Derived.ProofKit
import Derived.Lib.SmallJoins
import Derived.LaidMore
import Derived.Lay
import Derived.Stop.Joined
import Derived.Shelf.Vars
import Derived.Test.YthpmgnfmeldkjaaGreatDoorSm2
import Derived.Deep.Slices
import Derived.Deep.Fields
import Derived.Test.YthpmgnfmeldkjaaGreatDoorSm3
import Derived.LaidSub
import Derived.MakeChecks
import Derived.Lib.LaidTab
import Derived.Test.YthpmgnfmeldkjaaGreatDoorRows
set_option maxRecDepth 100000
set_option maxHeartbeats 16000000
set_option linter.unusedVariables false
set_option linter.unusedSimpArgs false
open Go.Lib (hid)
namespace Go.Proofs.YthpmgnfmeldkjaaGreatDoor.Code
open Go.ChangeShapes Go.WideShapes Go.ChangeAt Go.RowKit Val Elems
theorem places_mk {p : Pl} (h : placesP p) : (∀ k ∈ p.ks, placesP k) ∧ (∀ x ∈ p.on, (0 ≤ x.1 ∧ x.1 < (p.ks.getD 0 zeroP).cols.length) ∧ (0 ≤ x.2 ∧ x.2 < (p.ks.getD 1 zeroP).cols.length) ∧ 2 ≤ p.ks.length) ∧ (∀ x ∈ p.bk, 0 ≤ x ∧ x < (p.ks.getD 0 zeroP).cols.length ∧ 1 ≤ p.ks.length) ∧ (∀ x ∈ p.ag, 0 ≤ x.2 ∧ x.2 < (p.ks.getD 0 zeroP).cols.length ∧ 1 ≤ p.ks.length) ∧ schC p.cols = true := by
 cases p
 rw [placesP] at h
 exact ⟨(placesPL_iff _).1 h.1, h.2⟩
theorem getD_at {α : Type} (l : List α) (d : α) (i : Nat) (h : i < l.length) : l.getD i d = l[i] := by
 rw [List.getD_eq_getElem?_getD, List.getElem?_eq_getElem h, Option.getD_some]
theorem places_any : ∀ (d : Nat) (p : Pl), p.deep ≤ d → fitP p → placesP p → ∀ (S : Nat → Prop) (x : PV) (w : World), (∀ b, S b → b < w.heap.size) → PIn w S p x →
  Calls Tryz.prog 19 #[.agg (plcs x)] w fun e w' => e = .returned (.bool true) ∧ Below w.heap.size w w'
 | 0, p, h, _, _, _, _, _, _, _ => absurd h (by rw [pdeep_ks]; omega)
 | d + 1, p, h, hfit, hpl, S, x, w, hS, hn => by
  obtain ⟨hk, hon, hbk, hag, hsch⟩ := places_mk hpl
  have ih := hid (fun k (hk9 : k < p.ks.length) => places_any d p.ks[k] (by have := pdeepL_mem (List.getElem_mem hk9); rw [pdeep_ks] at h; omega) (hfit.kid _ (List.getElem_mem hk9)) (hk _ (List.getElem_mem hk9)))
  have hkn := hfit.rest.ks
  have honn := hfit.rest.on
  have hbkn := hfit.rest.bk
  have hagn := hfit.rest.ag
  have hcn := hfit.cols
  have hki := hn.kids
  have hlo := hn.rest.lon
  have hlb := hn.rest.lbk
  have hla := hn.rest.lag
  have hlc := hn.cols.1
  obtain ⟨op, tab, ⟨c1, c2, c3⟩, ⟨k1, k2, k3⟩, ex, ⟨o1, o2, o3⟩, ⟨b1, b2, b3⟩, ⟨a1, a2, a3⟩⟩ := x
  dsimp only at hki hlo hlb hla hlc
  subst hki hlo hlb hla hlc
  have HS := hid hS
  have HN := hid (fun (w' : World) (hb : Below w.heap.size w w') => hn.bel hS hb)
  have HON := hid hon
  have HBK := hid hbk
  have HAG := hid hag
  -- the first two Kids' columns
  have HK0 := hid (fun (w' : World) (hb : Below w.heap.size w w') (h0 : 0 < p.ks.length) => show ∃ (ad : Addr) (c : Sl), k1 = some ad ∧ ad.block < w'.heap.size ∧ w'.cell? ⟨ad.block, ad.off + 2, none⟩ = some (.slice c.1 (p.ks.getD 0 zeroP).cols.length c.2.2) ∧ (1 < p.ks.length → ∃ c : Sl, w'.cell? ⟨ad.block, ad.off + 8 + 2, none⟩ = some (.slice c.1 (p.ks.getD 1 zeroP).cols.length c.2.2)) from by
   have hkin : KIn w' S (k1, p.ks.length, k3) p.ks := ⟨rfl, (HN.out w' hb).all⟩
   obtain ⟨ad, ya, eA, hSa, hca, hpa⟩ := hkin.kid 0 h0
   have q2 := hca.c2
   rw [show ad.add (0 * 8) = ad from rfl] at q2
   rw [hpa.cols.1] at q2
   refine ⟨ad, ya.co, eA, Nat.lt_of_lt_of_le (HS.out _ hSa) hb.size, by rw [getD_at _ _ _ h0]; exact q2, fun h1 => ?_⟩
   obtain ⟨ad2, yb, eA2, hSb, hcb, hpb⟩ := hkin.kid 1 h1
   rw [eA] at eA2
   obtain rfl := Option.some.inj eA2
   have r2 := hcb.c2
   rw [show ad.add (1 * 8) = (⟨ad.block, ad.off + 8, none⟩ : Addr) from rfl] at r2
   rw [hpb.cols.1] at r2
   exact ⟨yb.co, by rw [getD_at _ _ _ h1]; exact r2⟩)
  obtain ⟨n0, hn0⟩ : ∃ n, (p.ks.getD 0 zeroP).cols.length = n := ⟨_, rfl⟩
  obtain ⟨n1, hn1⟩ : ∃ n, (p.ks.getD 1 zeroP).cols.length = n := ⟨_, rfl⟩
  rw [hn0, hn1] at HK0 HON
  rw [hn0] at HBK HAG
  have HRI := hid (fun (w' : World) (hb : Below w.heap.size w w') => rright12_any c1 c3 p.cols w' ((HN.out w' hb).cols.2.at (fun b h => Nat.lt_of_lt_of_le (HS.out b h) hb.size)) (by omega) (fun c hc => by have := hcn.2 c hc; omega))
  rw [hsch] at HRI
  obtain ⟨w0, hw0⟩ : ∃ w0, w.alloc (.cells (plcs ⟨op, tab, (c1, p.cols.length, c3), (k1, p.ks.length, k3), ex, (o1, p.on.length, o3), (b1, p.bk.length, b3), (a1, p.ag.length, a3)⟩) 35) = w0 := ⟨_, rfl⟩
  have N0 := hid (show PBox w0 w.heap.size ⟨op, tab, (c1, p.cols.length, c3), (k1, p.ks.length, k3), ex, (o1, p.on.length, o3), (b1, p.bk.length, b3), (a1, p.ag.length, a3)⟩ by rw [← hw0]; exact PBox.fresh _ _ _)
  have B0 := hid (show Below w.heap.size w w0 by rw [← hw0]; exact below_alloc w _)
  unfold plcs at hw0 ⊢
  have HW0 := hid hw0
  clear h hS hn hk hon hbk hag hsch hfit hpl hn0 hn1 hw0 hcn
  go_enter Tryz.func19, Tryz.ntmps19
  go_upto_region 1 with fail
  rw [HW0.out]
  go_wp2
  go_loopw [3] (fun t' wr => ∃ (k : Nat), k ≤ p.ks.length ∧ t' = .int .i64 k ∧ Below w0.heap.size w0 wr) (fun t' _ => p.ks.length - (intOf t').toNat)
  case atStart => exact ⟨0, by omega, rfl, Below.refl _ _⟩
  case round =>
   obtain ⟨k, hk, rfl, hb⟩ := hrel
   have HB := hid hb
   have LW := hid (B0.out.trans (hb.mono B0.out.size))
   have N1 := hid (N0.out.below hb)
   have HK := hid (HN.out wr LW.out)
   obtain ⟨x0, x1, x2, x3, x4, x5, x6, x7, xf⟩ := N1.out
   dsimp only at x0 x1 x2 x3 x4 x5 x6 x7
   clear hb
   by_cases hlt : k < p.ks.length
   ·obtain ⟨ad, y, eA, hS', q0, qs, hk'⟩ := HK.out.kid k hlt
    dsimp only at eA
    subst eA
    have q1 := qs 0 _ rfl
    have q2 := qs 1 _ rfl
    have q3 := qs 2 _ rfl
    have q4 := qs 3 _ rfl
    have q5 := qs 4 _ rfl
    have q6 := qs 5 _ rfl
    have q7 := qs 6 _ rfl
    unfold sv at q2 q3 q4 q5 q6 q7
    clear qs
    have HI := hid (ih.out k hlt S y wr (fun b h => Nat.lt_of_lt_of_le (HS.out b h) LW.out.size) hk')
    unfold plcs at HI
    clear hk' x0 x1 x2 x4 x5 x6 x7 xf
    go_wp2_with fail
    refine HI.out.mono ?_
    rintro e w7 ⟨rfl, hb7⟩
    have B7 := hid (HB.out.trans (hb7.mono HB.out.size))
    clear hb7 q0 q1 q2 q3 q4 q5 q6 q7 x3 HI
    go_wp2
    go_roundw
    case rel => exact ⟨k + 1, by omega, by go_num, B7.out⟩
    case measure => simp [intOf]; omega
   ·obtain rfl : k = p.ks.length := by omega
    clear x0 x1 x2 x4 x5 x6 x7 xf ih
    go_wp2
    go_loopw [5] (fun t' wr => ∃ (k : Nat), k ≤ p.on.length ∧ t' = .int .i64 k ∧ Below w0.heap.size w0 wr) (fun t' _ => p.on.length - (intOf t').toNat)
    case atStart => exact ⟨0, by omega, rfl, HB.out⟩
    case round =>
     obtain ⟨k, hk, rfl, hb⟩ := hrel
     rename World => wr2
     have HB := hid hb
     have LW := hid (B0.out.trans (hb.mono B0.out.size))
     have N1 := hid (N0.out.below hb)
     have HK := hid (HN.out _ LW.out)
     obtain ⟨x0, x1, x2, x3, x4, x5, x6, x7, xf⟩ := N1.out
     dsimp only at x0 x1 x2 x3 x4 x5 x6 x7
     clear hb
     by_cases hlt : k < p.on.length
     ·obtain ⟨ado, eo, hso, ho⟩ := HK.out.rest.on k hlt
      dsimp only at eo
      subst eo
      have q0 := ho 0 _ rfl
      have q1 := ho 1 _ rfl
      rw [Nat.add_zero] at q0
      rw [add_next ado (k * 2) 0] at q1
      obtain ⟨⟨u1, u2⟩, ⟨v1, v2⟩, hk2⟩ := HON.out _ (List.getElem_mem hlt)
      obtain ⟨X1, hX1⟩ : ∃ z, (p.on[k]).1 = z := ⟨_, rfl⟩
      obtain ⟨X2, hX2⟩ : ∃ z, (p.on[k]).2 = z := ⟨_, rfl⟩
      rw [hX1] at u1 u2 q0
      rw [hX2] at v1 v2 q1
      obtain ⟨adk, ck, ek, hadk, r2, hr⟩ := HK0.out _ LW.out (by omega)
      obtain ⟨ck2, s2⟩ := hr (by omega)
      subst ek
      have g0 : 0 < p.ks.length := by omega
      have g1 : 1 < p.ks.length := by omega
      have f1 : decide (X1 < 0) = false := decide_eq_false (by omega)
      have f2 : decide ((n0 : Int) ≤ X1) = false := decide_eq_false (by omega)
      have f3 : decide (X2 < 0) = false := decide_eq_false (by omega)
      have f4 : decide ((n1 : Int) ≤ X2) = false := decide_eq_false (by omega)
      clear ho hX1 hX2 hr x0 x1 x2 x4 x6 x7 xf u1 u2 v1 v2 hk2
      go_wp2
      go_quiet (fail)
      go_wp2
      go_roundw
      case rel => exact ⟨k + 1, by omega, by go_num, drewN_below HB.out _⟩
      case measure => simp [intOf]; omega
     ·obtain rfl : k = p.on.length := by omega
      clear x0 x1 x2 x3 x4 x6 x7 xf
      go_wp2
      go_loopw [6] (fun t' wr => ∃ (k : Nat), k ≤ p.bk.length ∧ t' = .int .i64 k ∧ Below w0.heap.size w0 wr) (fun t' _ => p.bk.length - (intOf t').toNat)
      case atStart => exact ⟨0, by omega, rfl, HB.out⟩
      case round =>
       obtain ⟨k, hk, rfl, hb⟩ := hrel
       rename World => wr3
       have HB := hid hb
       have LW := hid (B0.out.trans (hb.mono B0.out.size))
       have N1 := hid (N0.out.below hb)
       have HK := hid (HN.out _ LW.out)
       obtain ⟨x0, x1, x2, x3, x4, x5, x6, x7, xf⟩ := N1.out
       dsimp only at x0 x1 x2 x3 x4 x5 x6 x7
       clear hb
       by_cases hlt : k < p.bk.length
       ·obtain ⟨ado, eo, hso, ho⟩ := HK.out.rest.bk k hlt
        dsimp only at eo
        subst eo
        have q0 := ho 0 _ rfl
        rw [Nat.add_zero, Nat.mul_one] at q0
        obtain ⟨u1, u2, hk2⟩ := HBK.out _ (List.getElem_mem hlt)
        obtain ⟨X1, hX1⟩ : ∃ z, p.bk[k] = z := ⟨_, rfl⟩
        rw [hX1] at u1 u2 q0
        obtain ⟨adk, ck, ek, hadk, r2, hr⟩ := HK0.out _ LW.out (by omega)
        subst ek
        have g0 : 0 < p.ks.length := by omega
        have f1 : decide (X1 < 0) = false := decide_eq_false (by omega)
        have f2 : decide ((n0 : Int) ≤ X1) = false := decide_eq_false (by omega)
        clear ho hX1 hr x0 x1 x2 x4 x5 x7 xf u1 u2 hk2
        go_wp2
        go_quiet (fail)
        go_wp2
        go_roundw
        case rel => exact ⟨k + 1, by omega, by go_num, drewN_below HB.out _⟩
        case measure => simp [intOf]; omega
       ·obtain rfl : k = p.bk.length := by omega
        clear x0 x1 x2 x3 x4 x5 x7 xf
        go_wp2
        go_loopw [7] (fun t' wr => ∃ (k : Nat), k ≤ p.ag.length ∧ t' = .int .i64 k ∧ Below w0.heap.size w0 wr) (fun t' _ => p.ag.length - (intOf t').toNat)
        case atStart => exact ⟨0, by omega, rfl, HB.out⟩
        case round =>
         obtain ⟨k, hk, rfl, hb⟩ := hrel
         rename World => wr4
         have HB := hid hb
         have LW := hid (B0.out.trans (hb.mono B0.out.size))
         have N1 := hid (N0.out.below hb)
         have HK := hid (HN.out _ LW.out)
         obtain ⟨x0, x1, x2, x3, x4, x5, x6, x7, xf⟩ := N1.out
         dsimp only at x0 x1 x2 x3 x4 x5 x6 x7
         clear hb
         by_cases hlt : k < p.ag.length
         ·obtain ⟨ado, eo, hso, ho⟩ := HK.out.rest.ag k hlt
          dsimp only at eo
          subst eo
          have q1 := ho 1 _ rfl
          rw [add_next ado (k * 2) 0] at q1
          obtain ⟨u1, u2, hk2⟩ := HAG.out _ (List.getElem_mem hlt)
          obtain ⟨X1, hX1⟩ : ∃ z, (p.ag[k]).2 = z := ⟨_, rfl⟩
          rw [hX1] at u1 u2 q1
          obtain ⟨adk, ck, ek, hadk, r2, hr⟩ := HK0.out _ LW.out (by omega)
          subst ek
          have g0 : 0 < p.ks.length := by omega
          have f1 : decide (X1 < 0) = false := decide_eq_false (by omega)
          have f2 : decide ((n0 : Int) ≤ X1) = false := decide_eq_false (by omega)
          clear ho hX1 hr x0 x1 x2 x4 x5 x6 xf u1 u2 hk2
          go_wp2
          go_quiet (fail)
          go_wp2
          go_roundw
          case rel => exact ⟨k + 1, by omega, by go_num, drewN_below HB.out _⟩
          case measure => simp [intOf]; omega
         ·obtain rfl : k = p.ag.length := by omega
          have HR2 := hid (HRI.out _ LW.out)
          clear x0 x1 x3 x4 x5 x6 xf
          go_wp2_with fail
          refine HR2.out.mono ?_
          rintro e w9 ⟨rfl, hb9⟩
          have L9 := hid (LW.out.trans (hb9.mono LW.out.size))
          clear hb9 HR2 x2 x7
          go_wp2
          go_ret
          exact ⟨rfl, L9.out⟩
def tabOk (t : Tab) : Bool := smallC t.2 && decide (t.1.length ≤ 100)
def tabsOk (l : List Tab) : Bool := decide (l.length ≤ 10) && l.all tabOk
theorem tabs_no {l : List Tab} {i : Nat} (hi : i < l.length) (h : tabOk l[i] = false) : tabsOk l = false := by
 cases e : tabsOk l
 ·rfl
 ·unfold tabsOk at e
  rw [Bool.and_eq_true, List.all_eq_true] at e
  have := e.2 l[i] (List.getElem_mem hi)
  rw [h] at this
  cases this
theorem tabs_yes {l : List Tab} (hl : l.length ≤ 10) (h : ∀ j (hj : j < l.length), tabOk l[j] = true) : tabsOk l = true := by
 unfold tabsOk
 rw [Bool.and_eq_true, List.all_eq_true]
 refine ⟨by simpa using hl, fun c hc => ?_⟩
 obtain ⟨j, hj, rfl⟩ := List.getElem_of_mem hc
 exact h j hj
theorem tabs_long {l : List Tab} (hl : 10 < l.length) : tabsOk l = false := by
 unfold tabsOk
 have : decide (l.length ≤ 10) = false := by simp; omega
 rw [this, Bool.false_and]
theorem ltabs_any (A : Option Addr) (cap : Nat) (l : List Tab) (w : World) (hv : TabsAt w w.heap.size A l) (hl : l.length ≤ 1048576) (hc : ∀ t ∈ l, t.2.length ≤ 1048576) :
  Calls Tryz.prog 7 #[.slice A l.length cap] w fun e w' => e = .returned (.bool (tabsOk l)) ∧ Below w.heap.size w w' := by
 have HV := hid hv
 have HC := hid hc
 clear hv hc
 go_enter Tryz.func7, Tryz.ntmps7
 go_wp2
 go_loopw [3] (fun t wr => ∃ i : Nat, i ≤ l.length ∧ i ≤ 11 ∧ t = .int .i64 i ∧ (∀ j (hj : j < l.length), j < i → tabOk l[j] = true) ∧ Below w.heap.size w wr) (fun t _ => l.length - (intOf t).toNat)
 case atStart => exact ⟨0, by omega, by omega, rfl, fun j _ h => absurd h (by omega), Below.refl _ _⟩
 case round =>
  obtain ⟨i, hi, hi2, rfl, hyes, hbel⟩ := hrel
  have HL := hid hbel
  have HY := hid hyes
  have VA := hid (HV.out.next hbel)
  clear hbel hyes
  by_cases hil : i < l.length
  ·by_cases h10 : i ≤ 10
   ·obtain ⟨ad, ⟨s1, s2, s3⟩, rfl, ga, c0, c1, hs2, hs3, hs4⟩ := VA.out i hil
    dsimp only at c0 c1 hs2 hs3 hs4
    obtain ⟨T, hT⟩ : ∃ T : ByteArray, ⟨l[i].1.toArray⟩ = T := ⟨_, rfl⟩
    have hsz : T.size = l[i].1.length := by rw [← hT]; simp [ByteArray.size]
    rw [hT] at c0
    have HS := hid (fun (w' : World) (hb : Below wr.heap.size wr w') => smallc_any s1 s3 l[i].2 w' ((hs3.below hb).more hb.size) (by have := HC.out _ (List.getElem_mem hil); unfold maxLen; omega))
    rw [← hs2] at HS
    have ga2 : (ad.add (i * 2)).block < wr.heap.size := by rw [add_block]; exact ga
    obtain ⟨b, hb⟩ : ∃ b, smallC l[i].2 = b := ⟨_, rfl⟩
    rw [hb] at HS
    have HB := hid hb
    have HSZ := hid hsz
    clear hT hs2 hs3 hs4 hb hsz ga
    go_wp2_with fail
    refine (HS.out wr (Below.refl _ _)).mono ?_
    rintro e w1 ⟨rfl, hb1⟩
    have L1 := hid (HL.out.trans (hb1.mono HL.out.size))
    have d0 := (hb1.cell (p := ad.add (i * 2)) ga2).trans c0
    clear hb1 c0 c1 HS
    cases b
    case false =>
     have HN := hid (show tabsOk l = false from tabs_no hil (by unfold tabOk; rw [HB.out, Bool.false_and]))
     go_wp2
     go_ret
     exact ⟨by rw [HN.out]; rfl, L1.out⟩
    case true =>
    by_cases h1 : T.size ≤ 100
    ·have HH := hid h1
     go_wp2
     go_roundw
     case rel => exact ⟨i + 1, by omega, by omega, by go_num, fun j hj h => if e : j = i then by subst e; unfold tabOk; rw [HB.out, Bool.true_and]; exact decide_eq_true (by have := HSZ.out; have := HH.out; omega) else HY.out j hj (by omega), L1.out⟩
     case measure => simp [intOf]; omega
    ·have HN := hid (show tabsOk l = false from tabs_no hil (by unfold tabOk; rw [HB.out, Bool.true_and]; exact decide_eq_false (by have := HSZ.out; omega)))
     go_wp2
     go_ret
     exact ⟨by rw [HN.out]; rfl, L1.out⟩
   ·have HN := hid (show tabsOk l = false from tabs_long (by omega))
    go_wp2
    go_ret
    refine ⟨?_, HL.out⟩
    rw [HN.out]
    show Ending.returned (.bool (decide ((l.length : Int) ≤ 10))) = _
    rw [decide_eq_false (by omega)]
  ·obtain rfl : i = l.length := by omega
   by_cases h10 : l.length ≤ 10
   ·have HN := hid (show tabsOk l = true from tabs_yes h10 fun j h => HY.out j h h)
    go_wp2
    go_ret
    refine ⟨?_, HL.out⟩
    rw [HN.out]
    show Ending.returned (.bool (decide ((l.length : Int) ≤ 10))) = _
    rw [decide_eq_true (by omega)]
   ·have HN := hid (show tabsOk l = false from tabs_long (by omega))
    go_wp2
    go_ret
    refine ⟨?_, HL.out⟩
    rw [HN.out]
    show Ending.returned (.bool (decide ((l.length : Int) ≤ 10))) = _
    rw [decide_eq_false (by omega)]
theorem totL_app (x : Nod) : ∀ l : List Nod, Nod.totL (l ++ [x]) = Nod.totL l + x.tot
 | [] => by simp [Nod.totL]
 | t :: l => by rw [List.cons_append, Nod.totL, Nod.totL, totL_app x l]; omega
theorem totL_step (l : List Nod) (k : Nat) (h : k < l.length) : Nod.totL (l.take (k + 1)) = Nod.totL (l.take k) + l[k].tot := by
 rw [List.take_succ_eq_append_getElem h, totL_app]
theorem totL_le : ∀ (l : List Nod) (k : Nat), Nod.totL (l.take k) ≤ Nod.totL l
 | [], k => by simp
 | t :: l, 0 => Nat.zero_le _
 | t :: l, k + 1 => by
  have := totL_le l k
  rw [List.take_succ_cons, Nod.totL, Nod.totL]
  omega
theorem size_any : ∀ (d : Nat) (t : Nod), t.deep ≤ d → t.tot ≤ 1048576 → ∀ (S : Nat → Prop) (op tx : ByteArray) (X : Option Addr) (n m : Nat) (w : World), (∀ g, S g → g < w.heap.size) → RIn w S t (op, tx, X, n, m) →
  Calls Tryz.prog 8 #[.agg #[.string op, .string tx, .slice X n m]] w fun e w' => ∃ K : Nat, e = .returned (.int .i64 (K : Int)) ∧ K ≤ t.tot ∧ (K ≤ 1600 → K = t.tot) ∧ Below w.heap.size w w'
 | 0, t, h, _, _, _, _, _, _, _, _, _, _ => absurd h (by rw [deep_ks]; omega)
 | d + 1, t, h, htot, S, op, tx, X, n, m, w, hS, hn => by
  have hks : t.tot = 1 + t.op.length + t.tx.length + Nod.totL t.ks := by cases t; rfl
  have ih := hid (fun k (hk : k < t.ks.length) => size_any d t.ks[k] (by have := deepL_mem (List.getElem_mem hk); rw [deep_ks] at h; omega) (by have := tot_mem (List.getElem_mem hk); omega))
  obtain ⟨eo, et, en, hkl⟩ := hn.texts
  dsimp only at eo et en
  have so : op.size = t.op.length := by rw [eo]; rfl
  have st : tx.size = t.tx.length := by rw [et]; rfl
  have HS := hid hS
  subst en
  have HN := hid hn
  obtain ⟨B0, hB0⟩ : ∃ B0 : Nat, 1 + op.size + tx.size = B0 := ⟨_, rfl⟩
  have htt : t.tot = B0 + Nod.totL t.ks := by omega
  have k1 : IntKind.i64.wrap (1 + (op.size : Int)) = 1 + (op.size : Int) := by rw [IntKind.wrap_i64]; omega
  have k2 : IntKind.i64.wrap (1 + (op.size : Int) + (tx.size : Int)) = (B0 : Int) := by rw [IntKind.wrap_i64]; omega
  have HTT := hid htt
  have HTO := hid htot
  clear h hS hn eo et so st hks hB0 htt htot
  go_enter Tryz.func8, Tryz.ntmps8
  go_wp2
  go_loopw [3, 4] (fun v t' wr => ∃ k K : Nat, k ≤ t.ks.length ∧ t' = .int .i64 (k : Int) ∧ v = .int .i64 (K : Int) ∧ K ≤ B0 + Nod.totL (t.ks.take k) ∧ (K ≤ 1600 → K = B0 + Nod.totL (t.ks.take k)) ∧ Below w.heap.size w wr ∧ NBox wr w.heap.size (.string op) (.string tx) (.slice X t.ks.length m)) (fun _ t' _ => t.ks.length - (intOf t').toNat)
  case atStart => exact ⟨0, B0, by omega, rfl, rfl, by simp [Nod.totL], by simp [Nod.totL], (Below.refl _ _).alloc (Nat.le_refl _) _, NBox.fresh _ _ _ _ _⟩
  case round =>
   obtain ⟨k, K, hk, rfl, rfl, hK, hK2, hb, hv⟩ := hrel
   have HB := hid hb
   have HV := hid hv
   have hz := hb.size
   have hvl := hv.lt
   have HK := hid (HN.out.bel HS.out hb)
   have HKK := hid hK
   have HK2 := hid hK2
   have hKb : K ≤ 1048576 := by have := totL_le t.ks k; have := HTT.out; have := HTO.out; omega
   obtain ⟨x0, x1, x2, xf⟩ := hv
   clear hb hK hK2
   by_cases hlt : k < t.ks.length
   ·by_cases hbig : K ≤ 1600
    ·obtain ⟨ad, ⟨op', tx', X', n', m'⟩, eA, hS', q0, q1, q2, hk'⟩ := HK.out.kid k hlt
     dsimp only at eA q0 q1 q2
     subst eA
     have hKK := hid hk'
     have had := HS.out _ hS'
     have HDT := hid (totL_step t.ks k hlt)
     have HDM := hid (tot_mem (List.getElem_mem hlt))
     have hbg : decide ((K : Int) ≤ 1600) = true := by simp; omega
     clear hk'
     go_wp2_with fail
     refine (ih.out k hlt S op' tx' X' n' m' _ (fun g hg => Nat.lt_of_lt_of_le (HS.out g hg) hz) hKK.out).mono ?_
     rintro e w1 ⟨K1, rfl, hK1, hK12, hb1⟩
     have hK1b : K1 ≤ 1048576 := by have := HDM.out; have := HTT.out; have := HTO.out; omega
     have HB1 := hid (HB.out.trans (hb1.mono hz))
     have HV1 := hid (HV.out.below hb1)
     have k3 : IntKind.i64.wrap ((K : Int) + (K1 : Int)) = ((K + K1 : Nat) : Int) := by rw [IntKind.wrap_i64]; omega
     have HK1 := hid hK1
     have HK12 := hid hK12
     clear hb1 q0 q1 q2 x0 x1 x2 xf hK1 hK12
     go_wp2
     go_roundw
     case rel => exact ⟨k + 1, K + K1, by omega, by go_num, by first | rfl | simp, by have := HDT.out; have := HK1.out; have := HKK.out; omega, fun h9 => by have := HDT.out; have := HK12.out (by omega); have := HK2.out (by omega); omega, HB1.out, HV1.out⟩
     case measure => simp [intOf]; omega
    ·have hbg : decide ((K : Int) ≤ 1600) = false := by simp; omega
     go_wp2
     go_ret
     exact ⟨K, rfl, by have := HKK.out; have := totL_le t.ks k; have := HTT.out; omega, fun h9 => absurd h9 hbig, HB.out⟩
   ·obtain rfl : k = t.ks.length := by omega
    have hKK := HKK.out
    have hK2 := HK2.out
    rw [List.take_length] at hKK hK2
    have HK3 := hid hKK
    have HK4 := hid hK2
    clear hKK hK2
    go_wp2
    go_ret
    exact ⟨K, rfl, by have := HK3.out; have := HTT.out; omega, fun h9 => by have := HK4.out h9; have := HTT.out; omega, HB.out⟩
end Go.Proofs.YthpmgnfmeldkjaaGreatDoor.Code
/-
  How a law's row is shut, whatever its arguments are: where a law returns true and nothing that was there has changed ('Below'), each argument reads behind the call as it read before.
-/
namespace Go.Proofs.YthpmgnfmeldkjaaGreatDoor.Law
open Go.ChangeShapes Go.WideShapes Go.WideElems Go.RowKit
section
variable {H : Type} {enc : TypeId × Value → H} {P : Program}
def rowed (P : Program) (ts : List TypeId) : Bool := ts.all fun t => P.readableRec t && decide (t < P.types.size)
theorem stays (hl : laidOutB P = true) {W W' : World} (hb : Below W.heap.size W W') : ∀ {ts : List TypeId} {vs : List Value} {ds : List (DataW H)} {ps : List MemPlace},
  rowed P ts = true → DataW.TrodAll enc P W 0 (fun _ => true) true ts vs ds ps → (∀ p ∈ ps, p.block < W.heap.size) →
  DataW.TrodAll enc P W' 0 (fun b => decide (b < W.heap.size)) true ts vs ds ps
 | [], _, _, _, _, h, _ => by
  obtain ⟨rfl, rfl, rfl⟩ := trodAll_nil h
  exact rfl
 | t :: ts, _, _, _, hr, h, hlt => by
  obtain ⟨v, vs, d, ds, p, q, rfl, rfl, rfl, ⟨fuel, h1⟩, h2⟩ := trodAll_cons h
  simp only [rowed, List.all_cons, Bool.and_eq_true, decide_eq_true_eq] at hr
  have hp : ∀ x ∈ p, x.block < W.heap.size := fun x hx => hlt x (List.mem_append_left _ hx)
  refine ⟨p, q, ⟨fuel, ?_⟩, stays hl hb (by simpa [rowed] using hr.2) h2 (fun x hx => hlt x (List.mem_append_right _ hx)), rfl⟩
  exact DataW.trod_stays (kids_book hl hr.1.1) (book_sized hr.1.1) (fun h => by cases h) ⟨hr.1.2, book_self t⟩ h1 (fun x hx => hb.same (hp x hx)) (fun x hx => by simpa using hp x hx)
theorem post_true (hl : laidOutB P = true) {f : Func} (hr : rowed P f.params.toList = true) {s : ChangeSpec} (hs : s.vars = []) {tb : TypeId} (hres : f.resultTypes = #[tb]) (hbool : P.underlying tb = some .bool)
  {W W' : World} {args : Array Value} {ds gs : List (DataW H)} {before : List MemPlace} (hW : DataW.Whole enc P f.params.toList s.vars false W args.toList ds gs before)
  (hfn : s.fn H (ds ++ gs) = { results := [.lit (.bool true)], args := ds }) (hb : Below W.heap.size W W') :
  s.post enc P f false true false false W args (.bool true) W' := by
 have hlt : ∀ p ∈ before, p.block < W.heap.size := fun p hp => hW.lt p hp
 have hW2 := hW
 obtain ⟨p, q, hA, hV, rfl, _, _⟩ := hW2
 refine ⟨ds, gs, p ++ q, [], p, [], hW, ?_, ?_, ?_, ?_, ?_⟩
 ·rw [hfn, hres]
  exact trodAll_cons_mk (shut_bool hbool true) trodAll_mk0
 ·rw [hfn]
  exact stays hl hb hr hA (fun x hx => hlt x (List.mem_append_left _ hx))
 ·rw [hfn, hs]
  exact rfl
 ·exact hb.frame _
 ·intro h
  cases h
end
open Go.Joins Go.Deep
section
variable {H : Type} {enc : TypeId × Value → H}
end
section
variable {H : Type} {enc : TypeId × Value → H} {P : Program} {w : World} {base : Nat} {spare : Nat → Bool} {held : Bool}
end
end Go.Proofs.YthpmgnfmeldkjaaGreatDoor.Law
/-
  Arguments that came in, opened: a list of values (a row), of numbers, of rows. No function is named.
-/
namespace Go.Proofs.YthpmgnfmeldkjaaGreatDoor.RowOpen
open Go.ChangeShapes Go.WideShapes Go.ChangeAt Go.RowKit Go.Deep Val Go.Proofs.YthpmgnfmeldkjaaGreatDoor.Code
section
variable {H : Type} {enc : TypeId × Value → H} {P : Program} {w : World} {base : Nat} {spare : Nat → Bool} {held : Bool}
theorem cell_add {a : Addr} {i j : Nat} : a.add (i * 3 + (j + 1)) = ⟨(a.add (i * 3)).block, (a.add (i * 3)).off + (j + 1), none⟩ := add_next a (i * 3) j
end
theorem glob_of {laid : List (String × DataW Unit)} {d : DataW Unit} {m : Int} {W : World} (hL : laidMetH Tryz.prog laid W) (hp : (laid.all fun x => x.2.handleName?.isNone) = true) (hf : laid.filter (fun x => x.1 == "internal/strconv.uint64pow10") = [("internal/strconv.uint64pow10", d)]) (hd : d = Lib.tabData .u64 Lib.pow10Tab)
  (hm : W.cell? ⟨0, 0, none⟩ = some (.int .i64 m)) : Glob W.heap.size m W := by
 rw [Go.MakeChecks.laidMetH_plain _ _ _ hp] at hL
 have h := hL.filter (fun x => x.1 == "internal/strconv.uint64pow10")
 rw [hf, hd] at h
 have tab : Lib.TabIs Tryz.prog W "internal/strconv.uint64pow10" .u64 Lib.pow10Tab := by
  obtain ⟨n, t, e, h1, h2, h3, h4, h5⟩ : ∃ (n : Nat) (t e : TypeId), (Tryz.prog.globals[1]?).map (·.type) = some t ∧ Tryz.prog.underlying t = some (.array n e) ∧ Tryz.prog.underlying e = some (.int .u64) ∧ Tryz.prog.cellsOf e = 1 ∧ Tryz.prog.cellsOf t = n :=
   ⟨20, 262, 172, by kernel_rfl, by kernel_rfl, by kernel_rfl, by kernel_rfl, by kernel_rfl⟩
  exact Lib.tabIs_of_head glob_pow h1 h2 h3 h4 h5 h
 refine ⟨World.block_lt_of_cell? _ _ hm, ?_, hm, tab⟩
 unfold Lib.TabIs at tab
 simp only [World.var?, glob_pow, Option.bind_some] at tab
 by_cases hlt : 1 < W.heap.size
 ·exact hlt
 ·rw [Array.getElem?_eq_none (by omega)] at tab
  cases tab
end Go.Proofs.YthpmgnfmeldkjaaGreatDoor.RowOpen
/-
  What the second form's bound gives: lists and texts that came in are no longer than it says.
-/
namespace Go.Proofs.YthpmgnfmeldkjaaGreatDoor.Bulk
theorem one_le {H : Type} (d : DataW H) : 1 ≤ Rows.uptoBulk d := by
 cases d with
 | lit l => cases l <;> simp [Rows.uptoBulk]
 | nil => simp [Rows.uptoBulk]
 | ptr d => simp [Rows.uptoBulk]
 | slice elems spare => simp [Rows.uptoBulk]
 | agg parts => simp [Rows.uptoBulk]
 | iface t d => simp [Rows.uptoBulk]
 | map entries => simp [Rows.uptoBulk]
 | held h => simp [Rows.uptoBulk]
theorem length_le {H : Type} : ∀ l : List (DataW H), l.length ≤ Rows.uptoBulkAll l
 | [] => by simp [Rows.uptoBulkAll]
 | x :: r => by
  have := one_le x
  have := length_le r
  simp only [Rows.uptoBulkAll, List.length_cons]
  omega
theorem string_le {H : Type} (s : ByteArray) : s.size + 1 = Rows.uptoBulk (DataW.lit (H := H) (.string s.data.toList)) := by
 simp only [Rows.uptoBulk]
 rfl
theorem bound {H : Type} {l : List (DataW H)} (hk : Rows.uptoSmall H l = true) : Rows.uptoBulkAll l ≤ 1048576 := of_decide_eq_true hk
end Go.Proofs.YthpmgnfmeldkjaaGreatDoor.Bulk
/-
  A node that came in, opened: what lies where, how much there is. No function is named.
-/
namespace Go.Proofs.YthpmgnfmeldkjaaGreatDoor.RowOpen
open Go.ChangeShapes Go.WideShapes Go.ChangeAt Go.RowKit Go.Deep Val Elems Go.Proofs.YthpmgnfmeldkjaaGreatDoor.Code
section
variable {H : Type} {enc : TypeId × Value → H} {P : Program} {w : World} {base : Nat} {spare : Nat → Bool} {held : Bool}
instance nod0 : Inhabited Nod := ⟨.mk [] [] []⟩
theorem bulk_mem {d : DataW H} : ∀ {l : List (DataW H)}, d ∈ l → Rows.uptoBulk d ≤ Rows.uptoBulkAll l
 | x :: l, h => by
  rw [Rows.uptoBulkAll]
  rcases List.mem_cons.1 h with rfl | h
  ·omega
  ·have := bulk_mem h
   omega
theorem open_node {e : TypeId} {f0 f1 f2 : Field} (he : P.underlying e = some (.struct #[f0, f1, f2])) (hone : oneCellFields P #[f0, f1, f2] = true) (hC : P.cellsOf e = 3)
  (e0 : P.underlying f0.type = some .string) (e1 : P.underlying f1.type = some .string) (e2 : P.underlying f2.type = some (.slice e)) :
  ∀ (fuel : Nat) (cs : List Value) (x : DataW H × List MemPlace), cs.length = 3 → DataW.trod enc P w base spare held fuel e cs = some x → Rows.uptoBulk x.1 ≤ 1048576 →
   ∃ (t : Nod) (v : NV), cs = nc v ∧ RIn w (fun g => g < w.heap.size) t v ∧ t.tot ≤ Rows.uptoBulk x.1 := by
 intro fuel
 induction fuel using Nat.strongRecOn with
 | ind fuel ih =>
  intro cs x hlen h hbk
  obtain ⟨ys, n, hn, hy, hl3, hyl, hf⟩ := DataW.trod_struct he h
  match cs, hlen with
  | [c0, c1, c2], _ =>
   have o := fun j f (hj : (#[f0, f1, f2] : Array Field)[j]? = some f) => hone_of hone j f hj
   obtain ⟨o0, k0⟩ := o 0 f0 rfl
   obtain ⟨o1, k1⟩ := o 1 f1 rfl
   obtain ⟨o2, k2⟩ := o 2 f2 rfl
   match ys, hyl with
   | [y0, y1, y2], _ =>
    have g0 := hf 0 f0 rfl
    have g1 := hf 1 f1 rfl
    have g2 := hf 2 f2 rfl
    rw [o0, k0] at g0
    rw [o1, k1] at g1
    rw [o2, k2] at g2
    obtain ⟨a, ea, xa, wa⟩ := DataW.trod_string e0 (show DataW.trod enc P w base spare held n f0.type [c0] = some y0 from g0)
    obtain ⟨b, eb, xb, wb⟩ := DataW.trod_string e1 (show DataW.trod enc P w base spare held n f1.type [c1] = some y1 from g1)
    have hx : x.1 = .agg [y0.1, y1.1, y2.1] := by rw [hy]; rfl
    have hbx : Rows.uptoBulk x.1 = (a.size + 1) + ((b.size + 1) + (Rows.uptoBulk y2.1 + 0)) + 1 := by
     rw [hx, Rows.uptoBulk, Rows.uptoBulkAll, Rows.uptoBulkAll, Rows.uptoBulkAll, Rows.uptoBulkAll, xa, xb, ← Bulk.string_le, ← Bulk.string_le]
    have hsa : a.data.toList.length = a.size := rfl
    have hsb : b.data.toList.length = b.size := rfl
    simp only [List.cons.injEq, and_true] at ea eb
    subst ea eb
    rcases DataW.trod_slice e2 (show DataW.trod enc P w base spare held n f2.type [c2] = some y2 from g2) with ⟨h0, hx2⟩ | ⟨ad, len, cap, elems, rest, m, hm, hcs, hx2, hb, hl, hmx, hel, hat, _⟩
    ·simp only [List.cons.injEq, and_true] at h0
     subst h0
     refine ⟨.mk a.data.toList b.data.toList [], (a, b, none, 0, 0), rfl, RIn.leafN w _ a b, ?_⟩
     rw [Nod.tot, Nod.totL]
     omega
    ·simp only [List.cons.injEq, and_true] at hcs
     subst hcs
     have hy2 : y2.1 = .slice (elems.map (·.1)) (rest.map (·.1)) := by rw [hx2]
     have hb2 : Rows.uptoBulk y2.1 = Rows.uptoBulkAll (elems.map (·.1)) + Rows.uptoBulkAll (rest.map (·.1)) + 1 := by rw [hy2, Rows.uptoBulk]
     have hlb := Bulk.length_le (elems.map (·.1))
     rw [List.length_map] at hlb
     have hkid : ∀ i, i < len → ∃ (q : Nod × NV), w.cell? (ad.add (i * 3)) = some (.string q.2.1) ∧ w.cell? ⟨(ad.add (i * 3)).block, (ad.add (i * 3)).off + 1, none⟩ = some (.string q.2.2.1) ∧ w.cell? ⟨(ad.add (i * 3)).block, (ad.add (i * 3)).off + 2, none⟩ = some (.slice q.2.2.2.1 q.2.2.2.2.1 q.2.2.2.2.2) ∧ RIn w (fun g => g < w.heap.size) q.1 q.2 ∧ q.1.tot ≤ Rows.uptoBulk ((elems.map (·.1)).getD i .nil) := by
      intro i hi
      have h1 := hat i hi
      rw [hC] at h1
      have hie : i < elems.length := by omega
      rw [List.getElem?_eq_getElem hie] at h1
      obtain ⟨cs', hc, ht'⟩ := Option.bind_eq_some_iff.1 h1
      obtain ⟨_, hcl, hca⟩ := World.cells?_some hc
      have hmem : Rows.uptoBulk (elems[i]).1 ≤ Rows.uptoBulkAll (elems.map (·.1)) := bulk_mem (List.mem_map.2 ⟨elems[i], List.getElem_mem hie, rfl⟩)
      obtain ⟨t, v, hcv, hr, ht⟩ := ih m (by omega) cs' elems[i] hcl ht' (by omega)
      have d0 := hca 0 (by omega)
      have d1 := hca 1 (by omega)
      have d2 := hca 2 (by omega)
      rw [Go.Deep.add_add, hcv] at d0 d1 d2
      refine ⟨(t, v), d0, ?_, ?_, hr, ?_⟩
      ·rw [← cell_add (j := 0)]; exact d1
      ·rw [← cell_add (j := 1)]; exact d2
      ·have e : (elems.map (·.1)).getD i .nil = (elems[i]).1 := by simp [List.getD, hie]
       rw [e]; exact ht
     obtain ⟨V, hV⟩ := choose_lt (α := Nod × NV) (n := len) (p := fun i q => w.cell? (ad.add (i * 3)) = some (.string q.2.1) ∧ w.cell? ⟨(ad.add (i * 3)).block, (ad.add (i * 3)).off + 1, none⟩ = some (.string q.2.2.1) ∧ w.cell? ⟨(ad.add (i * 3)).block, (ad.add (i * 3)).off + 2, none⟩ = some (.slice q.2.2.2.1 q.2.2.2.2.1 q.2.2.2.2.2) ∧ RIn w (fun g => g < w.heap.size) q.1 q.2 ∧ q.1.tot ≤ Rows.uptoBulk ((elems.map (·.1)).getD i .nil)) hkid
     obtain ⟨K, hK⟩ : ∃ K, (List.range len).map (fun i => (V i).1) = K := ⟨_, rfl⟩
     obtain ⟨L, hL⟩ : ∃ L, (List.range len).map (fun i => (V i).2) = L := ⟨_, rfl⟩
     have hKl : K.length = len := by rw [← hK]; simp
     have hLl : L.length = len := by rw [← hL]; simp
     have hKi : ∀ (i : Nat) (h : i < K.length), K[i] = (V i).1 := fun i h => by subst hK; simp
     have hLi : ∀ (i : Nat) (h : i < L.length), L[i] = (V i).2 := fun i h => by subst hL; simp
     have hNA : NAt w (fun g => g < w.heap.size) (some ad) L := by
      intro i hi
      rw [hLi i hi]
      obtain ⟨c0, c1, c2, _⟩ := hV i (by omega)
      have hblk := World.block_lt_of_cell? _ _ c0
      rw [add_block] at hblk
      exact ⟨ad, rfl, hblk, c0, c1, c2⟩
     have htot : Nod.totL K ≤ Rows.uptoBulkAll (elems.map (·.1)) := by
      have hlist : ∀ (n : Nat) (l : List (DataW H)), n ≤ l.length → (∀ i, i < n → (V i).1.tot ≤ Rows.uptoBulk (l.getD i .nil)) → Nod.totL ((List.range n).map fun i => (V i).1) ≤ Rows.uptoBulkAll (l.take n) := by
       intro n
       induction n with
       | zero => intro l _ _; exact Nat.zero_le _
       | succ n ihn =>
        intro l hn hh
        have h1 := ihn l (by omega) (fun i hi => hh i (by omega))
        have h2 := hh n (by omega)
        have hT : ∀ (a : List Nod) (b : Nod), Nod.totL (a ++ [b]) = Nod.totL a + b.tot := by
         intro a b
         induction a with
         | nil => simp [Nod.totL]
         | cons x a iha => rw [List.cons_append, Nod.totL, Nod.totL, iha]; omega
        have hB : ∀ (a : List (DataW H)) (b : DataW H), Rows.uptoBulkAll (a ++ [b]) = Rows.uptoBulkAll a + Rows.uptoBulk b := by
         intro a b
         induction a with
         | nil => simp [Rows.uptoBulkAll]
         | cons x a iha => rw [List.cons_append, Rows.uptoBulkAll, Rows.uptoBulkAll, iha]; omega
        have e : l.getD n .nil = l[n]'(by omega) := by simp [List.getD, show n < l.length by omega]
        rw [List.range_succ, List.map_append, List.map_cons, List.map_nil, hT, List.take_succ_eq_append_getElem (show n < l.length by omega), hB]
        rw [e] at h2
        omega
      have h9 := hlist len (elems.map (·.1)) (by rw [List.length_map]; omega) (fun i hi => (hV i hi).2.2.2.2)
      rw [List.take_of_length_le (by rw [List.length_map]; omega), hK] at h9
      exact h9
     have hr : RIn w (fun g => g < w.heap.size) (.mk a.data.toList b.data.toList K) (a, b, some ad, K.length, cap) := by
      have h9 := RIn.mk (w := w) (S := fun g => g < w.heap.size) a.data.toList b.data.toList K (some ad) cap L (by omega) (by omega) (by omega) hNA (fun i hi => by
       rw [hKi i hi, hLi i (by omega)]
       exact (hV i (by omega)).2.2.2.1)
      exact h9
     refine ⟨.mk a.data.toList b.data.toList K, (a, b, some ad, len, cap), rfl, by rw [hKl] at hr; exact hr, ?_⟩
     rw [Nod.tot]
     omega
theorem open_nodev {r : Reach} {b0 : Nat} {e : TypeId} {f0 f1 f2 : Field} {v : Value} {d : DataW H} {p : List MemPlace} (he : P.underlying e = some (.struct #[f0, f1, f2])) (hone : oneCellFields P #[f0, f1, f2] = true) (hC : P.cellsOf e = 3)
  (e0 : P.underlying f0.type = some .string) (e1 : P.underlying f1.type = some .string) (e2 : P.underlying f2.type = some (.slice e)) (hv : Value.okWide P w r b0 e v) (h : DataW.Trod enc P w base spare held e v d p) (hb : Rows.uptoBulk d ≤ 1048576) :
  ∃ (t : Nod) (op tx : ByteArray) (X : Option Addr) (n k : Nat), v = .agg #[.string op, .string tx, .slice X n k] ∧ RIn w (fun g => g < w.heap.size) t (op, tx, X, n, k) ∧ t.tot ≤ 1048576 := by
 obtain ⟨cs, rfl, hsz⟩ := okWide_struct he hv
 obtain ⟨fuel, hf⟩ := h
 obtain ⟨t, x, hc, hr, ht⟩ := open_node (w := w) (spare := spare) he hone hC e0 e1 e2 fuel cs.toList (d, p) (by rw [Array.length_toList, hsz, hC]) hf hb
 obtain ⟨op, tx, X, n, k⟩ := x
 refine ⟨t, op, tx, X, n, k, ?_, hr, Nat.le_trans ht hb⟩
 have : cs = (nc (op, tx, X, n, k)).toArray := by rw [← hc]
 rw [this]
 rfl
end
section
variable {H : Type} {enc : TypeId × Value → H} {P : Program} {w : World} {base : Nat} {spare : Nat → Bool} {held : Bool}
theorem open_wpart {e : TypeId} {f0 f1 f2 : Field} {n : Nat} {cs : List Value} {x : DataW H × List MemPlace} (he : P.underlying e = some (.struct #[f0, f1, f2])) (hone : oneCellFields P #[f0, f1, f2] = true)
  (e0 : P.underlying f0.type = some (.int .i64)) (e1 : P.underlying f1.type = some .string) (e2 : P.underlying f2.type = some (.int .i64)) (hlen : cs.length = 3) (h : DataW.trod enc P w base spare held n e cs = some x) :
  ∃ (v : Int × ByteArray × Int), cs = [.int .i64 v.1, .string v.2.1, .int .i64 v.2.2] ∧ x.1 = .agg [.lit (.int .i64 v.1), .lit (.string v.2.1.data.toList), .lit (.int .i64 v.2.2)] := by
 obtain ⟨ys, n', hn', hy, hl3, hyl, hf⟩ := DataW.trod_struct he h
 match cs, hlen with
 | [c0, c1, c2], _ =>
  have o := fun j f (hj : (#[f0, f1, f2] : Array Field)[j]? = some f) => hone_of hone j f hj
  obtain ⟨o0, k0⟩ := o 0 f0 rfl
  obtain ⟨o1, k1⟩ := o 1 f1 rfl
  obtain ⟨o2, k2⟩ := o 2 f2 rfl
  match ys, hyl with
  | [y0, y1, y2], _ =>
   have g0 := hf 0 f0 rfl
   have g1 := hf 1 f1 rfl
   have g2 := hf 2 f2 rfl
   rw [o0, k0] at g0
   rw [o1, k1] at g1
   rw [o2, k2] at g2
   obtain ⟨a, ea, xa, wa⟩ := DataW.trod_int e0 (show DataW.trod enc P w base spare held n' f0.type [c0] = some y0 from g0)
   obtain ⟨s, es, xs, ws⟩ := DataW.trod_string e1 (show DataW.trod enc P w base spare held n' f1.type [c1] = some y1 from g1)
   obtain ⟨b, eb, xb, wb⟩ := DataW.trod_int e2 (show DataW.trod enc P w base spare held n' f2.type [c2] = some y2 from g2)
   simp only [List.cons.injEq, and_true] at ea eb es
   refine ⟨(a, s, b), by rw [ea, eb, es], ?_⟩
   rw [hy]
   show DataW.agg [y0.1, y1.1, y2.1] = _
   rw [xa, xb, xs]
end
section
variable {H : Type} {enc : TypeId × Value → H} {P : Program} {w : World} {base : Nat} {spare : Nat → Bool} {held : Bool}
theorem open_wordsUR {t e : TypeId} {f0 f1 f2 : Field} {fuel : Nat} {cs0 : List Value} {d : DataW H} {p : List MemPlace} (ht : P.underlying t = some (.slice e)) (he : P.underlying e = some (.struct #[f0, f1, f2])) (hone : oneCellFields P #[f0, f1, f2] = true) (hC : P.cellsOf e = 3)
  (e0 : P.underlying f0.type = some (.int .i64)) (e1 : P.underlying f1.type = some .string) (e2 : P.underlying f2.type = some (.int .i64)) (hf : DataW.trod enc P w base spare held fuel t cs0 = some (d, p)) (hw : Rows.uptoBulk d ≤ 1048576) :
  ∃ (A : Option Addr) (cap : Nat) (l : List W), cs0 = [.slice A l.length cap] ∧ At wc 3 w w.heap.size A l ∧ (∀ x ∈ l, x.2.1.length ≤ 1048576) ∧ l.length ≤ 1048576 ∧ l.length ≤ cap := by
 rcases open_slice ht hf with ⟨h0, hx⟩ | ⟨a, len, cap, m, n, D, Pl, hcs, hb, hl, hm, hmm, hx, hi⟩
 ·exact ⟨none, 0, [], h0, At.nil _ _ _, fun x hx => (by cases hx), Nat.zero_le _, Nat.zero_le _⟩
 ·have hlm : len ≤ m := by rw [hmm]; split <;> omega
  rw [hC] at hi
  obtain ⟨V, hV⟩ := choose_lt (α := W) (n := len) (p := fun i x => w.cell? (a.add (i * 3)) = some (.int .i64 x.1) ∧ w.cell? (a.add (i * 3 + 1)) = some (.string ⟨x.2.1.toArray⟩) ∧ w.cell? (a.add (i * 3 + 2)) = some (.int .i64 x.2.2) ∧ D i = .agg [.lit (.int .i64 x.1), .lit (.string x.2.1), .lit (.int .i64 x.2.2)]) (fun i hil => by
   obtain ⟨cs', hc, ht'⟩ := hi i (by omega)
   obtain ⟨_, hcl, hat⟩ := World.cells?_some hc
   obtain ⟨x, hx1, hx2⟩ := open_wpart he hone e0 e1 e2 hcl ht'
   have c0 := hat 0 (by omega)
   have c1 := hat 1 (by omega)
   have c2 := hat 2 (by omega)
   rw [Go.Deep.add_add, hx1] at c0 c1 c2
   exact ⟨(x.1, x.2.1.data.toList, x.2.2), c0, by rw [Lib.mk_data]; exact c1, c2, hx2⟩)
  have hd : d = .slice ((List.range len).map D) ((List.range (m - len)).map fun j => D (len + j)) := congrArg Prod.fst hx
  have hl2 : ((List.range len).map V).length = len := by simp
  have hat : ∀ (i : Nat) (hi : i < ((List.range len).map V).length), ((List.range len).map V)[i] = V i := fun i hi => by simp
  refine ⟨some a, cap, (List.range len).map V, by rw [hl2]; exact hcs, ?_, ?_, ?_, by rw [hl2]; exact hl⟩
  ·intro i hil
   rw [hat i hil]
   rw [hl2] at hil
   obtain ⟨c0, c1, c2, _⟩ := hV i hil
   have hblk := World.block_lt_of_cell? _ _ c0
   rw [add_block] at hblk
   refine ⟨a, rfl, hblk, fun j u hu => ?_⟩
   rcases j with _ | _ | _ | j
   ·cases hu; exact c0
   ·cases hu; exact c1
   ·cases hu; exact c2
   ·exact absurd (List.getElem?_eq_some_iff.1 hu).1 (by show ¬ j + 3 < 3; omega)
  ·intro x hx
   obtain ⟨i, hil, rfl⟩ := List.mem_map.1 hx
   have h5 := (hV i (List.mem_range.1 hil)).2.2.2
   have hm := bulk_mem (List.mem_map.2 ⟨i, hil, rfl⟩ : D i ∈ (List.range len).map D)
   rw [h5] at hm
   rw [hd] at hw
   simp only [Rows.uptoBulk, Rows.uptoBulkAll] at hm hw
   omega
  ·have := Bulk.length_le ((List.range len).map D)
   rw [hd] at hw
   simp only [Rows.uptoBulk] at hw
   simp only [List.length_map, List.length_range] at this
   rw [hl2]
   omega
end
section
variable {H : Type} {enc : TypeId × Value → H} {P : Program} {w : World} {base : Nat} {spare : Nat → Bool} {held : Bool}
theorem open_tab {tc c e : TypeId} {f0 f1 g0 g1 g2 : Field} {n : Nat} {cs : List Value} {x : DataW H × List MemPlace} (he : P.underlying e = some (.struct #[f0, f1])) (hone : oneCellFields P #[f0, f1] = true) (e0 : P.underlying f0.type = some .string) (e1 : P.underlying f1.type = some (.slice c))
  (hc : P.underlying c = some (.struct #[g0, g1, g2])) (hconeC : oneCellFields P #[g0, g1, g2] = true) (hCC : P.cellsOf c = 3) (k0 : P.underlying g0.type = some (.int .i64)) (k1 : P.underlying g1.type = some .string) (k2 : P.underlying g2.type = some (.int .i64))
  (hlen : cs.length = 2) (h : DataW.trod enc P w base spare held n e cs = some x) (hbk : Rows.uptoBulk x.1 ≤ 1048576) :
  ∃ (s : ByteArray) (A : Option Addr) (cap : Nat) (l : List W), cs = [.string s, .slice A l.length cap] ∧ At wc 3 w w.heap.size A l ∧ (∀ x ∈ l, x.2.1.length ≤ 1048576) ∧ l.length ≤ 1048576 ∧ l.length ≤ cap ∧ s.size ≤ 1048576 := by
 obtain ⟨ys, n', hn', hy, hl3, hyl, hf⟩ := DataW.trod_struct he h
 match cs, hlen with
 | [c0, c1], _ =>
  have o := fun j f (hj : (#[f0, f1] : Array Field)[j]? = some f) => hone_of hone j f hj
  obtain ⟨o0, q0⟩ := o 0 f0 rfl
  obtain ⟨o1, q1⟩ := o 1 f1 rfl
  match ys, hyl with
  | [y0, y1], _ =>
   have p0 := hf 0 f0 rfl
   have p1 := hf 1 f1 rfl
   rw [o0, q0] at p0
   rw [o1, q1] at p1
   obtain ⟨a, ea, xa, wa⟩ := DataW.trod_string e0 (show DataW.trod enc P w base spare held n' f0.type [c0] = some y0 from p0)
   have hx : x.1 = .agg [y0.1, y1.1] := by rw [hy]; rfl
   have hbx : Rows.uptoBulk x.1 = (a.size + 1) + (Rows.uptoBulk y1.1 + 0) + 1 := by
    rw [hx, Rows.uptoBulk, Rows.uptoBulkAll, Rows.uptoBulkAll, Rows.uptoBulkAll, xa, ← Bulk.string_le]
   simp only [List.cons.injEq, and_true] at ea
   subst ea
   obtain ⟨d, p⟩ := y1
   obtain ⟨A, cap, l, h1, h2, h3, h4, h6⟩ := open_wordsUR e1 hc hconeC hCC k0 k1 k2 (show DataW.trod enc P w base spare held n' f1.type [c1] = some (d, p) from p1) (by dsimp only at hbx; omega)
   simp only [List.cons.injEq, and_true] at h1
   subst h1
   exact ⟨a, A, cap, l, rfl, h2, h3, h4, h6, by omega⟩
theorem open_tabsT {t e c : TypeId} {f0 f1 g0 g1 g2 : Field} {fuel : Nat} {cs0 : List Value} {d : DataW H} {p : List MemPlace} (ht : P.underlying t = some (.slice e)) (he : P.underlying e = some (.struct #[f0, f1])) (hone : oneCellFields P #[f0, f1] = true) (hC : P.cellsOf e = 2) (e0 : P.underlying f0.type = some .string) (e1 : P.underlying f1.type = some (.slice c))
  (hc : P.underlying c = some (.struct #[g0, g1, g2])) (hconeC : oneCellFields P #[g0, g1, g2] = true) (hCC : P.cellsOf c = 3) (k0 : P.underlying g0.type = some (.int .i64)) (k1 : P.underlying g1.type = some .string) (k2 : P.underlying g2.type = some (.int .i64))
  (hf : DataW.trod enc P w base spare held fuel t cs0 = some (d, p)) (hw : Rows.uptoBulk d ≤ 1048576) :
  ∃ (A : Option Addr) (cap : Nat) (l : List Tab), cs0 = [.slice A l.length cap] ∧ TabsAt w w.heap.size A l ∧ l.length ≤ 1048576 ∧ ∀ x ∈ l, x.1.length ≤ 1048576 ∧ x.2.length ≤ 1048576 ∧ ∀ c ∈ x.2, c.2.1.length ≤ 1048576 := by
 rcases open_slice ht hf with ⟨h0, hx⟩ | ⟨a, len, cap, m, n, D, Pl, hcs, hb, hl, hm, hmm, hx, hi⟩
 ·exact ⟨none, 0, [], h0, fun i hi => absurd hi (Nat.not_lt_zero _), Nat.zero_le _, fun x hx => by cases hx⟩
 ·have hlm : len ≤ m := by rw [hmm]; split <;> omega
  rw [hC] at hi
  have hd : d = .slice ((List.range len).map D) ((List.range (m - len)).map fun j => D (len + j)) := congrArg Prod.fst hx
  have hbd : ∀ i, i < len → Rows.uptoBulk (D i) ≤ 1048576 := fun i hil => by
   have h1 := bulk_mem (List.mem_map.2 ⟨i, List.mem_range.2 hil, rfl⟩ : D i ∈ (List.range len).map D)
   rw [hd] at hw
   simp only [Rows.uptoBulk] at hw
   omega
  obtain ⟨V, hV⟩ := choose_lt (α := ByteArray × Option Addr × Nat × List W) (n := len) (p := fun i x => w.cell? (a.add (i * 2)) = some (.string x.1) ∧ w.cell? (a.add (i * 2 + 1)) = some (.slice x.2.1 x.2.2.2.length x.2.2.1) ∧ At wc 3 w w.heap.size x.2.1 x.2.2.2 ∧ (∀ c ∈ x.2.2.2, c.2.1.length ≤ 1048576) ∧ x.2.2.2.length ≤ 1048576 ∧ x.2.2.2.length ≤ x.2.2.1 ∧ x.1.size ≤ 1048576) (fun i hil => by
   obtain ⟨cs', hc', ht'⟩ := hi i (by omega)
   obtain ⟨_, hcl, hat⟩ := World.cells?_some hc'
   obtain ⟨s, A, cap, l, h1, h2, h3, h4, h6, h5⟩ := open_tab (tc := t) he hone e0 e1 hc hconeC hCC k0 k1 k2 hcl ht' (hbd i hil)
   have c0 := hat 0 (by omega)
   have c1 := hat 1 (by omega)
   rw [Go.Deep.add_add, h1] at c0 c1
   exact ⟨(s, A, cap, l), c0, c1, h2, h3, h4, h6, h5⟩)
  have hl2 : ((List.range len).map fun i => (((V i).1.data.toList, (V i).2.2.2) : Tab)).length = len := by simp
  have hat : ∀ (i : Nat) (hi : i < ((List.range len).map fun i => (((V i).1.data.toList, (V i).2.2.2) : Tab)).length), ((List.range len).map fun i => (((V i).1.data.toList, (V i).2.2.2) : Tab))[i] = ((V i).1.data.toList, (V i).2.2.2) := fun i hi => by simp
  refine ⟨some a, cap, (List.range len).map fun i => ((V i).1.data.toList, (V i).2.2.2), by rw [hl2]; exact hcs, ?_, ?_, ?_⟩
  ·intro i hil
   rw [hat i hil]
   rw [hl2] at hil
   obtain ⟨c0, c1, c2, c3, c4, c6, c5⟩ := hV i hil
   have hblk := World.block_lt_of_cell? _ _ c0
   rw [add_block] at hblk
   exact ⟨a, ((V i).2.1, (V i).2.2.2.length, (V i).2.2.1), rfl, hblk, by rw [Lib.mk_data]; exact c0, by rw [show (⟨(a.add (i * 2)).block, (a.add (i * 2)).off + 1, none⟩ : Addr) = a.add (i * 2 + 1) from (add_next a (i * 2) 0).symm]; exact c1, rfl, c2, c6⟩
  ·have := Bulk.length_le ((List.range len).map D)
   rw [hd] at hw
   simp only [Rows.uptoBulk] at hw
   simp only [List.length_map, List.length_range] at this
   rw [hl2]
   omega
  ·intro x hx
   obtain ⟨i, hil, rfl⟩ := List.mem_map.1 hx
   obtain ⟨c0, c1, c2, c3, c4, c6, c5⟩ := hV i (List.mem_range.1 hil)
   exact ⟨c5, c4, c3⟩
theorem open_tabs {r : Reach} {b0 : Nat} {t e c : TypeId} {f0 f1 g0 g1 g2 : Field} {v : Value} {d : DataW H} {p : List MemPlace} (ht : P.underlying t = some (.slice e)) (he : P.underlying e = some (.struct #[f0, f1])) (hone : oneCellFields P #[f0, f1] = true) (hC : P.cellsOf e = 2) (e0 : P.underlying f0.type = some .string) (e1 : P.underlying f1.type = some (.slice c))
  (hc : P.underlying c = some (.struct #[g0, g1, g2])) (hconeC : oneCellFields P #[g0, g1, g2] = true) (hCC : P.cellsOf c = 3) (k0 : P.underlying g0.type = some (.int .i64)) (k1 : P.underlying g1.type = some .string) (k2 : P.underlying g2.type = some (.int .i64))
  (hv : Value.okWide P w r b0 t v) (h : DataW.Trod enc P w base spare held t v d p) (hw : Rows.uptoBulk d ≤ 1048576) :
  ∃ (A : Option Addr) (cap : Nat) (l : List Tab), v = .slice A l.length cap ∧ TabsAt w w.heap.size A l ∧ l.length ≤ 1048576 ∧ ∀ x ∈ l, x.1.length ≤ 1048576 ∧ x.2.length ≤ 1048576 ∧ ∀ c ∈ x.2, c.2.1.length ≤ 1048576 := by
 obtain ⟨a', len', cap', rfl⟩ := okWide_slice ht hv
 obtain ⟨fuel, hf⟩ := h
 obtain ⟨A, cap, l, h1, h2⟩ := open_tabsT ht he hone hC e0 e1 hc hconeC hCC k0 k1 k2 hf hw
 exact ⟨A, cap, l, by simpa [Value.cells] using h1, h2⟩
end
end Go.Proofs.YthpmgnfmeldkjaaGreatDoor.RowOpen
