/-
  A query's plan, of any node.
-/
import Derived.Test.YthpmgnfmeldkjaaGreatDoorSm20
import Derived.Test.YthpmgnfmeldkjaaGreatDoorSm7
import Derived.Test.YthpmgnfmeldkjaaGreatDoorSm4
import Derived.Test.YthpmgnfmeldkjaaGreatDoorSm6
import Derived.Lib.ParseIntBCases
import Derived.Test.YthpmgnfmeldkjaaGreatDoorSm2
import Derived.Lib.OthersKept
import Derived.Lib.OwnKind
import Derived.Lib.AppendStr
import Derived.Lib.UnsafeStr
import Derived.Lib.Builder
set_option maxRecDepth 100000
set_option maxHeartbeats 16000000
set_option linter.unusedVariables false
set_option linter.unusedSimpArgs false
open Go.Lib (hid)
namespace Go.Proofs.YthpmgnfmeldkjaaGreatDoor.Code
open Go.ChangeShapes Go.WideShapes Go.ChangeAt Go.RowKit Val Elems
theorem take_least {α : Type} (l : List α) (a : Nat) : l.take (min a l.length) = l.take a := by
 by_cases h : a ≤ l.length
 ·rw [Nat.min_eq_left h]
 ·rw [Nat.min_eq_right (by omega), List.take_length, List.take_of_length_le (by omega)]
theorem drop_least {α : Type} (l : List α) (a : Nat) : l.drop (min a l.length) = l.drop a := by
 by_cases h : a ≤ l.length
 ·rw [Nat.min_eq_left h]
 ·rw [Nat.min_eq_right (by omega), List.drop_length, List.drop_of_length_le (by omega)]
theorem planP_take (tabs : List Tab) (op tx : List UInt8) (ks : List Nod) : planP tabs (.mk op tx ks) = if (plansP tabs (ks.take (min (queriesN op ks.length) ks.length))).2 ≠ 0 then ((zeroP, 0), (plansP tabs (ks.take (min (queriesN op ks.length) ks.length))).2) else nodeP tabs op tx ks (plansP tabs (ks.take (min (queriesN op ks.length) ks.length))).1.1 (plansP tabs (ks.take (min (queriesN op ks.length) ks.length))).1.2 := by
 rw [planP_mk, planPL_take, take_least]
theorem own_from (tabs : List Tab) (tx : List UInt8) (ks : List Nod) (ps : List Pl) : ownP tabs sFrom tx ks ps = fromR tabs tx ps := by
 unfold ownP fromR
 dsimp only
 rw [if_pos rfl]
 cases tabs.find? fun t => t.1 == tx <;> rfl
theorem own_filter (tabs : List Tab) (tx : List UInt8) (ks : List Nod) (ps : List Pl) : ownP tabs sFilter tx ks ps = filterR ks (ps.headD zeroP).cols ps := by
 unfold ownP filterR
 dsimp only
 rw [if_neg (by decide), if_pos rfl]
theorem own_project (tabs : List Tab) (tx : List UInt8) (ks : List Nod) (ps : List Pl) : ownP tabs sProject tx ks ps = plProjR (ps.headD zeroP).cols ks ps := by
 unfold ownP plProjR
 dsimp only
 rw [if_neg (by decide), if_neg (by decide), if_pos rfl]
theorem own_join (tabs : List Tab) (tx : List UInt8) (ks : List Nod) (pa pb : Pl) : ownP tabs sJoin tx ks [pa, pb] = plJoinR pa.cols pb.cols ks [pa, pb] := by
 unfold ownP plJoinR
 dsimp only
 rw [if_neg (by decide), if_neg (by decide), if_neg (by decide), if_pos rfl]
 rfl
theorem own_union (tabs : List Tab) (tx : List UInt8) (ks : List Nod) (ps : List Pl) : ownP tabs sUnion tx ks ps = unionR (ps.headD zeroP).cols ps := by
 unfold ownP unionR
 dsimp only
 rw [if_neg (by decide), if_neg (by decide), if_neg (by decide), if_neg (by decide), if_pos rfl]
theorem own_distinct (tabs : List Tab) (tx : List UInt8) (ks : List Nod) (ps : List Pl) : ownP tabs sDistinct tx ks ps = (.mk sDistinct [] [] [] [] [] (ps.headD zeroP).cols ps, 0) := by
 unfold ownP
 dsimp only
 rw [if_neg (by decide), if_neg (by decide), if_neg (by decide), if_neg (by decide), if_neg (by decide), if_neg (by decide)]
theorem own_group (tabs : List Tab) (tx : List UInt8) (ks : List Nod) (ps : List Pl) : ownP tabs sGroup tx ks ps = plGroupR (ps.headD zeroP).cols ks ps := by
 unfold ownP plGroupR
 dsimp only
 rw [if_neg (by decide), if_neg (by decide), if_neg (by decide), if_neg (by decide), if_neg (by decide), if_pos rfl]
theorem form_two {tx : List UInt8} {ks : List Nod} (h : formP sFilter tx ks = true) : ks.length = 2 := by
 unfold formP at h
 rw [if_neg (by decide), if_pos rfl, Bool.and_eq_true] at h
 simpa using h.2
theorem form_items {tx : List UInt8} {ks : List Nod} (h : formP sProject tx ks = true) : 2 ≤ ks.length ∧ ∀ x ∈ ks.drop 1, x.ks.length = 1 := by
 unfold formP at h
 rw [if_neg (by decide), if_neg (by decide), if_pos rfl, Bool.and_eq_true, Bool.and_eq_true] at h
 refine ⟨of_decide_eq_true h.1.2, fun x hx => ?_⟩
 have h2 := List.all_eq_true.1 h.2 x hx
 unfold isItemP at h2
 rw [Bool.and_eq_true] at h2
 simpa using h2.2
theorem form_ons {tx : List UInt8} {ks : List Nod} (h : formP sJoin tx ks = true) : 3 ≤ ks.length ∧ ∀ x ∈ ks.drop 2, x.ks.length = 1 := by
 unfold formP at h
 rw [if_neg (by decide), if_neg (by decide), if_neg (by decide), if_pos rfl, Bool.and_eq_true, Bool.and_eq_true] at h
 refine ⟨of_decide_eq_true h.1.2, fun x hx => ?_⟩
 have h2 := List.all_eq_true.1 h.2 x hx
 unfold isOnP at h2
 rw [Bool.and_eq_true, Bool.and_eq_true] at h2
 simpa using h2.1.2
theorem form_aggs {tx : List UInt8} {ks : List Nod} (h : formP sGroup tx ks = true) : 3 ≤ ks.length ∧ ∀ x ∈ ks.drop 2, x.ks.length = 1 := by
 unfold formP at h
 rw [if_neg (by decide), if_neg (by decide), if_neg (by decide), if_neg (by decide), if_neg (by decide), if_neg (by decide), if_pos rfl, Bool.and_eq_true, Bool.and_eq_true, Bool.and_eq_true] at h
 refine ⟨of_decide_eq_true h.1.1.2, fun x hx => ?_⟩
 have h2 := List.all_eq_true.1 h.2 x hx
 unfold isAggP at h2
 rw [Bool.and_eq_true, Bool.and_eq_true] at h2
 simpa using h2.1.2
theorem form_leaf (t : Nod) : leafB t = formP sFrom t.tx t.ks := by
 unfold formP
 rw [if_pos rfl]
 rfl
theorem ba_ne {a b : List UInt8} (h : a ≠ b) : (⟨a.toArray⟩ : ByteArray) ≠ ⟨b.toArray⟩ := by
 intro e
 injection e with e
 exact h (by simpa using e)
theorem lookf_from (gt : Nat) : formF gt ⟨sFrom.toArray⟩ = some (.agg #[.int .i64 0, .func (.func 44) #[] #[], .func (.func 45) #[] #[.pointer (some ⟨gt, 0, none⟩)]]) := by
 unfold formF
 rw [mput_other _ _ (ba_ne (by decide)), mput_other _ _ (ba_ne (by decide)), mput_other _ _ (ba_ne (by decide)), mput_other _ _ (ba_ne (by decide)), mput_other _ _ (ba_ne (by decide)), mput_other _ _ (ba_ne (by decide)), mput_same]
theorem lookf_filter (gt : Nat) : formF gt ⟨sFilter.toArray⟩ = some (.agg #[.int .i64 1, .func (.func 47) #[] #[], .func (.func 48) #[] #[]]) := by
 unfold formF
 rw [mput_other _ _ (ba_ne (by decide)), mput_other _ _ (ba_ne (by decide)), mput_other _ _ (ba_ne (by decide)), mput_other _ _ (ba_ne (by decide)), mput_other _ _ (ba_ne (by decide)), mput_same]
theorem lookf_project (gt : Nat) : formF gt ⟨sProject.toArray⟩ = some (.agg #[.int .i64 1, .func (.func 49) #[] #[], .func (.func 50) #[] #[]]) := by
 unfold formF
 rw [mput_other _ _ (ba_ne (by decide)), mput_other _ _ (ba_ne (by decide)), mput_other _ _ (ba_ne (by decide)), mput_other _ _ (ba_ne (by decide)), mput_same]
theorem lookf_join (gt : Nat) : formF gt ⟨sJoin.toArray⟩ = some (.agg #[.int .i64 2, .func (.func 51) #[] #[], .func (.func 52) #[] #[]]) := by
 unfold formF
 rw [mput_other _ _ (ba_ne (by decide)), mput_other _ _ (ba_ne (by decide)), mput_other _ _ (ba_ne (by decide)), mput_same]
theorem lookf_union (gt : Nat) : formF gt ⟨sUnion.toArray⟩ = some (.agg #[.int .i64 9223372036854775807, .func (.func 53) #[] #[], .func (.func 54) #[] #[]]) := by
 unfold formF
 rw [mput_other _ _ (ba_ne (by decide)), mput_other _ _ (ba_ne (by decide)), mput_same]
theorem lookf_distinct (gt : Nat) : formF gt ⟨sDistinct.toArray⟩ = some (.agg #[.int .i64 1, .func (.func 55) #[] #[], .func (.func 56) #[] #[]]) := by
 unfold formF
 rw [mput_other _ _ (ba_ne (by decide)), mput_same]
theorem lookf_group (gt : Nat) : formF gt ⟨sGroup.toArray⟩ = some (.agg #[.int .i64 1, .func (.func 57) #[] #[], .func (.func 58) #[] #[]]) := by
 unfold formF
 rw [mput_same]
theorem lookf_none (gt : Nat) {o : List UInt8} (h : o ∉ [sFrom, sFilter, sProject, sJoin, sUnion, sDistinct, sGroup]) : formF gt ⟨o.toArray⟩ = none := by
 simp only [List.mem_cons, List.not_mem_nil, or_false, not_or] at h
 obtain ⟨h1, h2, h3, h4, h5, h6, h7⟩ := h
 unfold formF
 rw [mput_other _ _ (ba_ne h7), mput_other _ _ (ba_ne h6), mput_other _ _ (ba_ne h5), mput_other _ _ (ba_ne h4), mput_other _ _ (ba_ne h3), mput_other _ _ (ba_ne h2), mput_other _ _ (ba_ne h1)]
theorem none_form {o : List UInt8} (h : o ∉ [sFrom, sFilter, sProject, sJoin, sUnion, sDistinct, sGroup]) (tx : List UInt8) (ks : List Nod) : formP o tx ks = false ∧ ∀ n, queriesN o n = 0 := by
 simp only [List.mem_cons, List.not_mem_nil, or_false, not_or] at h
 obtain ⟨h1, h2, h3, h4, h5, h6, h7⟩ := h
 refine ⟨?_, fun n => ?_⟩
 ·unfold formP
  rw [if_neg h1, if_neg h2, if_neg h3, if_neg h4, if_neg h5, if_neg h6, if_neg h7]
 ·unfold queriesN
  rw [if_neg h4, if_neg h5, if_neg (by simp [h2, h3, h6, h7])]
theorem ask_at {fn : Nat} {p : Nod → Bool} {w : World} (h : AskN fn #[] p w) (t : Nod) (S : Nat → Prop) (op tx : ByteArray) (X : Option Addr) (n k : Nat) (w' : World) (hb : Below w.heap.size w w') (hS : ∀ g, S g → g < w'.heap.size) (hn : RIn w' S t (op, tx, X, n, k)) :
  Calls Tryz.prog fn #[.agg #[.string op, .string tx, .slice X n k]] w' fun e w'' => e = .returned (.bool (p t)) ∧ Below w'.heap.size w' w'' := h t S op tx X n k w' hb hS hn
theorem query_any (tabs : List Tab) (hTB : TabB tabs) (mb gt : Nat) (TA : Option Addr) (tcap : Nat) (m : Int) : ∀ (d : Nat) (t : Nod), t.deep ≤ d → ∀ (Sn : Nat → Prop) (op tx : ByteArray) (X : Option Addr) (n k : Nat) (w : World), (∀ b, Sn b → b < w.heap.size) → RIn w Sn t (op, tx, X, n, k) → PEnv w mb gt TA tcap tabs m → t.tot ≤ 1000 →
  Calls Tryz.prog 25 #[.map (some mb), .agg #[.string op, .string tx, .slice X n k]] w (QPost w (planP tabs t))
 | 0, t, h, _, _, _, _, _, _, _, _, _, _, _ => absurd h (by rw [deep_ks]; omega)
 | d + 1, .mk o x ks, hd, Sn, op, tx, X, n, k, w, hS, hn, he, htot => by
  have hkd : ∀ u ∈ ks, u.deep ≤ d ∧ u.tot ≤ 1000 := fun u hu => by
   have h1 := deepL_mem hu
   have h2 := tot_mem hu
   have h3 : Nod.deepL ks + 1 ≤ d + 1 := by rw [deep_ks] at hd; exact hd
   rw [Nod.tot] at htot
   omega
  have hkl : ks.length ≤ 1000 := by
   have := nodtot_ks (.mk o x ks)
   show (Nod.mk o x ks).ks.length ≤ 1000
   omega
  obtain ⟨eo, et, en, hkl9⟩ := hn.texts
  dsimp only at eo et en
  have hq : ∀ q, q ≤ ks.length → ∀ w', Below w.heap.size w w' → Calls Tryz.prog 59 #[.map (some mb), .slice X q k] w' (QsPost w' (plansP tabs (ks.take q))) := fun q hqk w' hb => by
   have h := queries_any tabs mb (ks.take q) Sn X k w' (fun b h => Nat.lt_of_lt_of_le (hS b h) hb.size) ((hn.nls.bel hS hb).take q) (by rw [List.length_take]; omega) (fun t ht => by have := (plan_bound hTB t (hkd t (List.mem_of_mem_take ht)).2).1; omega)
    (fun i hi op' tx' X' n' k' w2 hb2 hr => by
     have hm := List.mem_of_mem_take (List.getElem_mem hi)
     exact query_any tabs hTB mb gt TA tcap m d _ (hkd _ hm).1 Sn op' tx' X' n' k' w2 (fun b h => Nat.lt_of_lt_of_le (hS b h) (Nat.le_trans hb.size hb2.size)) hr ((he.below hb).below hb2) (hkd _ hm).2)
   rw [List.length_take, Nat.min_eq_left hqk] at h
   exact h
  have hbd : ∀ q, ∀ ps, ps = (ks.take q).map (fun x => (planP tabs x).1.1) → (∀ p ∈ ps, p.cols.length ≤ 12 ∧ NmB p.cols) := fun q ps hps p hp => by
   rw [hps] at hp
   obtain ⟨u, hu, rfl⟩ := List.mem_map.1 hp
   exact plan_bound hTB u (hkd u (List.mem_of_mem_take hu)).2
  have hhd : ∀ ps : List Pl, (∀ p ∈ ps, p.cols.length ≤ 12 ∧ NmB p.cols) → (ps.headD zeroP).cols.length ≤ 12 := fun ps h => by
   cases ps with
   | nil => exact Nat.zero_le _
   | cons p l => exact (h p (by simp)).1
  rw [planP_take]
  have hop : op = ⟨o.toArray⟩ := eo
  have hSn : ∀ {B : Nat}, w.heap.size ≤ B → ∀ b, Sn b → b < B := fun hB b h => Nat.lt_of_lt_of_le (hS b h) hB
  have hSw : ∀ {w' : World}, Below w.heap.size w w' → ∀ b, Sn b → b < w'.heap.size := fun hb b h => Nat.lt_of_lt_of_le (hS b h) hb.size
  by_cases h1 : o ∈ [sFrom, sFilter, sProject, sJoin, sUnion, sDistinct, sGroup]
  case neg =>
   have hnf := none_form h1 x ks
   rw [hnf.2, Nat.zero_min]
   exact query_of .nilFunc .nilFunc (fun w' a => run_store _ w' a _ .plain rfl) (fun w' a => run_store _ w' a _ .plain rfl) 0 0 tabs mb gt TA tcap m (.mk o x ks) Sn op tx X n k w hS hn he htot (fun w' hb ho => run_lookn w' mb 7 (formF gt) (he.below hb).map op ho (by rw [hop]; exact lookf_none gt h1)) (by omega) (by omega) (Nat.zero_le _) (hq 0 (Nat.zero_le _)) (.inl ⟨hnf.1, rfl⟩) _ rfl (by show ks.drop (queriesN o ks.length) = ks.drop 0; rw [hnf.2])
  obtain ⟨qn, hqn⟩ : ∃ q, min (queriesN o ks.length) ks.length = q := ⟨_, rfl⟩
  have hdr : ks.drop (queriesN o ks.length) = ks.drop qn := by rw [← hqn, drop_least]
  rw [hqn]
  have hqk : qn ≤ ks.length := by omega
  simp only [List.mem_cons, List.not_mem_nil, or_false] at h1
  rcases h1 with rfl | rfl | rfl | rfl | rfl | rfl | rfl
  ·have hq0 : qn = 0 := by rw [← hqn, show queriesN sFrom ks.length = 0 by unfold queriesN; rw [if_neg (by decide), if_neg (by decide), if_neg (by decide)]]; omega
   refine query_of (.func (.func 44) #[] #[]) (.func (.func 45) #[] #[.pointer (some ⟨gt, 0, none⟩)]) (fun w' a => run_store _ w' a _ .plain rfl) (fun w' a => run_store _ w' a _ .plain rfl) 0 qn tabs mb gt TA tcap m (.mk sFrom x ks) Sn op tx X n k w hS hn he htot (fun w' hb ho => run_lookf w' mb 7 (formF gt) (he.below hb).map op ho _ (by rw [hop]; exact lookf_from gt)) (by show min 0 (ks.length : Int) = _; omega) (by omega) hqk (hq qn hqk) (.inr ⟨_, _, _, rfl, rfl, (enters_of Tryz.func44 (by kernel_rfl) rfl), (enters_of Tryz.func45 (by kernel_rfl) rfl), fun w' hb => ?_, fun B S g co ki c0 ps w' hb hwB hBw hne hps hc0 hpre hk hf => ?_, fun ps hps => own_bound hTB (hbd qn ps hps) htot⟩) _ rfl hdr
   ·have h := ask_at (is_leaf w) (.mk sFrom x ks) Sn op tx X n k w' hb (hSw hb) (hn.bel hS hb)
    rw [form_leaf] at h
    exact h
   ·rw [show ownP tabs (Nod.mk sFrom x ks).op (Nod.mk sFrom x ks).tx (Nod.mk sFrom x ks).ks ps = fromR tabs x ps from own_from tabs x ks ps]
    exact over1_any B S Sn g gt co ki c0 ps (.mk sFrom x ks) op tx X n k TA tcap tabs w' hBw (hn.bel hS hb) hpre (he.below hb).tabs (by have := hTB.1; omega) (fun t ht => by have := (hTB.2 t ht).1; omega) (he.below hb).tab
  ·have hq0 : qn = min 1 ks.length := by rw [← hqn, show queriesN sFilter ks.length = 1 by unfold queriesN; rw [if_neg (by decide), if_neg (by decide), if_pos (by decide)]]
   refine query_of (.func (.func 47) #[] #[]) (.func (.func 48) #[] #[]) (fun w' a => run_store _ w' a _ .plain rfl) (fun w' a => run_store _ w' a _ .plain rfl) 1 qn tabs mb gt TA tcap m (.mk sFilter x ks) Sn op tx X n k w hS hn he htot (fun w' hb ho => run_lookf w' mb 7 (formF gt) (he.below hb).map op ho _ (by rw [hop]; exact lookf_filter gt)) (by show min 1 (ks.length : Int) = _; omega) (by omega) hqk (hq qn hqk) (.inr ⟨_, _, _, rfl, rfl, (enters_of Tryz.func47 (by kernel_rfl) rfl), (enters_of Tryz.func48 (by kernel_rfl) rfl), fun w' hb => ?_, fun B S g co ki c0 ps w' hb hwB hBw hne hps hc0 hpre hk hf => ?_, fun ps hps => own_bound hTB (hbd qn ps hps) htot⟩) _ rfl hdr
   ·exact ask_at (is_filter w) (.mk sFilter x ks) Sn op tx X n k w' hb (hSw hb) (hn.bel hS hb)
   ·rw [show ownP tabs (Nod.mk sFilter x ks).op (Nod.mk sFilter x ks).tx (Nod.mk sFilter x ks).ks ps = filterR ks c0 ps by rw [hc0]; exact own_filter tabs x ks ps]
    exact filter_any B S Sn g co ki c0 ps (.mk sFilter x ks) op tx X n k w' hBw (hSn hwB) (hn.bel hS hb) (form_two hf) (by omega) hpre (by rw [hc0]; have := hhd ps (hbd qn ps hps); omega)
  ·have hq0 : qn = min 1 ks.length := by rw [← hqn, show queriesN sProject ks.length = 1 by unfold queriesN; rw [if_neg (by decide), if_neg (by decide), if_pos (by decide)]]
   refine query_of (.func (.func 49) #[] #[]) (.func (.func 50) #[] #[]) (fun w' a => run_store _ w' a _ .plain rfl) (fun w' a => run_store _ w' a _ .plain rfl) 1 qn tabs mb gt TA tcap m (.mk sProject x ks) Sn op tx X n k w hS hn he htot (fun w' hb ho => run_lookf w' mb 7 (formF gt) (he.below hb).map op ho _ (by rw [hop]; exact lookf_project gt)) (by show min 1 (ks.length : Int) = _; omega) (by omega) hqk (hq qn hqk) (.inr ⟨_, _, _, rfl, rfl, (enters_of Tryz.func49 (by kernel_rfl) rfl), (enters_of Tryz.func50 (by kernel_rfl) rfl), fun w' hb => ?_, fun B S g co ki c0 ps w' hb hwB hBw hne hps hc0 hpre hk hf => ?_, fun ps hps => own_bound hTB (hbd qn ps hps) htot⟩) _ rfl hdr
   ·exact ask_at (is_project w) (.mk sProject x ks) Sn op tx X n k w' hb (hSw hb) (hn.bel hS hb)
   ·rw [show ownP tabs (Nod.mk sProject x ks).op (Nod.mk sProject x ks).tx (Nod.mk sProject x ks).ks ps = plProjR c0 ks ps by rw [hc0]; exact own_project tabs x ks ps]
    exact project_any B S Sn g co ki c0 ps (.mk sProject x ks) op tx X n k w' hBw (hSn hwB) (hn.bel hS hb) (form_items hf).1 (form_items hf).2 hpre (by rw [hc0]; have := hhd ps (hbd qn ps hps); omega) (by omega)
  ·have hq0 : qn = min 2 ks.length := by rw [← hqn, show queriesN sJoin ks.length = 2 by unfold queriesN; rw [if_pos rfl]]
   refine query_of (.func (.func 51) #[] #[]) (.func (.func 52) #[] #[]) (fun w' a => run_store _ w' a _ .plain rfl) (fun w' a => run_store _ w' a _ .plain rfl) 2 qn tabs mb gt TA tcap m (.mk sJoin x ks) Sn op tx X n k w hS hn he htot (fun w' hb ho => run_lookf w' mb 7 (formF gt) (he.below hb).map op ho _ (by rw [hop]; exact lookf_join gt)) (by show min 2 (ks.length : Int) = _; omega) (by omega) hqk (hq qn hqk) (.inr ⟨_, _, _, rfl, rfl, (enters_of Tryz.func51 (by kernel_rfl) rfl), (enters_of Tryz.func52 (by kernel_rfl) rfl), fun w' hb => ?_, fun B S g co ki c0 ps w' hb hwB hBw hne hps hc0 hpre hk hf => ?_, fun ps hps => own_bound hTB (hbd qn ps hps) htot⟩) _ rfl hdr
   ·exact ask_at (is_join w) (.mk sJoin x ks) Sn op tx X n k w' hb (hSw hb) (hn.bel hS hb)
   ·have h3 := (form_ons hf).1
    have h3' : 3 ≤ ks.length := h3
    have hpl : ps.length = 2 := by rw [hps]; show ((ks.take qn).map _).length = 2; rw [List.length_map, List.length_take]; omega
    have hb9 := hbd qn ps hps
    match ps, hpl with
    | [pa, pb], _ =>
     have hc : c0 = pa.cols := hc0
     subst hc
     rw [show ownP tabs (Nod.mk sJoin x ks).op (Nod.mk sJoin x ks).tx (Nod.mk sJoin x ks).ks [pa, pb] = plJoinR pa.cols pb.cols ks [pa, pb] from own_join tabs x ks pa pb]
     have ha := (hb9 pa (by simp)).1
     have hb2 := (hb9 pb (by simp)).1
     exact join_any B S Sn g co ki pa pb (.mk sJoin x ks) op tx X n k w' hBw (hSn hwB) (hn.bel hS hb) h3 (form_ons hf).2 hpre hk (by omega) (by omega) (by show ks.length ≤ _; omega)
  ·have hq0 : qn = ks.length := by rw [← hqn, show queriesN sUnion ks.length = ks.length by unfold queriesN; rw [if_neg (by decide), if_pos rfl]]; omega
   refine query_of (.func (.func 53) #[] #[]) (.func (.func 54) #[] #[]) (fun w' a => run_store _ w' a _ .plain rfl) (fun w' a => run_store _ w' a _ .plain rfl) 9223372036854775807 qn tabs mb gt TA tcap m (.mk sUnion x ks) Sn op tx X n k w hS hn he htot (fun w' hb ho => run_lookf w' mb 7 (formF gt) (he.below hb).map op ho _ (by rw [hop]; exact lookf_union gt)) (by show min 9223372036854775807 (ks.length : Int) = _; omega) (by omega) hqk (hq qn hqk) (.inr ⟨_, _, _, rfl, rfl, (enters_of Tryz.func53 (by kernel_rfl) rfl), (enters_of Tryz.func54 (by kernel_rfl) rfl), fun w' hb => ?_, fun B S g co ki c0 ps w' hb hwB hBw hne hps hc0 hpre hk hf => ?_, fun ps hps => own_bound hTB (hbd qn ps hps) htot⟩) _ rfl hdr
   ·exact ask_at (is_union w) (.mk sUnion x ks) Sn op tx X n k w' hb (hSw hb) (hn.bel hS hb)
   ·rw [show ownP tabs (Nod.mk sUnion x ks).op (Nod.mk sUnion x ks).tx (Nod.mk sUnion x ks).ks ps = unionR c0 ps by rw [hc0]; exact own_union tabs x ks ps]
    exact union_any B S g co ki c0 ps op tx X n k w' hBw hpre hk (by rw [hc0]; have := hhd ps (hbd qn ps hps); omega) (by rw [hps]; show ((ks.take qn).map _).length ≤ _; rw [List.length_map, List.length_take]; omega) (fun p hp => by have := (hbd qn ps hps p hp).1; omega)
  ·have hq0 : qn = min 1 ks.length := by rw [← hqn, show queriesN sDistinct ks.length = 1 by unfold queriesN; rw [if_neg (by decide), if_neg (by decide), if_pos (by decide)]]
   refine query_of (.func (.func 55) #[] #[]) (.func (.func 56) #[] #[]) (fun w' a => run_store _ w' a _ .plain rfl) (fun w' a => run_store _ w' a _ .plain rfl) 1 qn tabs mb gt TA tcap m (.mk sDistinct x ks) Sn op tx X n k w hS hn he htot (fun w' hb ho => run_lookf w' mb 7 (formF gt) (he.below hb).map op ho _ (by rw [hop]; exact lookf_distinct gt)) (by show min 1 (ks.length : Int) = _; omega) (by omega) hqk (hq qn hqk) (.inr ⟨_, _, _, rfl, rfl, (enters_of Tryz.func55 (by kernel_rfl) rfl), (enters_of Tryz.func56 (by kernel_rfl) rfl), fun w' hb => ?_, fun B S g co ki c0 ps w' hb hwB hBw hne hps hc0 hpre hk hf => ?_, fun ps hps => own_bound hTB (hbd qn ps hps) htot⟩) _ rfl hdr
   ·exact ask_at (is_distinct w) (.mk sDistinct x ks) Sn op tx X n k w' hb (hSw hb) (hn.bel hS hb)
   ·rw [show ownP tabs (Nod.mk sDistinct x ks).op (Nod.mk sDistinct x ks).tx (Nod.mk sDistinct x ks).ks ps = (.mk sDistinct [] [] [] [] [] c0 ps, 0) by rw [hc0]; exact own_distinct tabs x ks ps]
    exact over2_any B S g co ki c0 ps op tx X n k w' hBw sDistinct hpre
  ·have hq0 : qn = min 1 ks.length := by rw [← hqn, show queriesN sGroup ks.length = 1 by unfold queriesN; rw [if_neg (by decide), if_neg (by decide), if_pos (by decide)]]
   refine query_of (.func (.func 57) #[] #[]) (.func (.func 58) #[] #[]) (fun w' a => run_store _ w' a _ .plain rfl) (fun w' a => run_store _ w' a _ .plain rfl) 1 qn tabs mb gt TA tcap m (.mk sGroup x ks) Sn op tx X n k w hS hn he htot (fun w' hb ho => run_lookf w' mb 7 (formF gt) (he.below hb).map op ho _ (by rw [hop]; exact lookf_group gt)) (by show min 1 (ks.length : Int) = _; omega) (by omega) hqk (hq qn hqk) (.inr ⟨_, _, _, rfl, rfl, (enters_of Tryz.func57 (by kernel_rfl) rfl), (enters_of Tryz.func58 (by kernel_rfl) rfl), fun w' hb => ?_, fun B S g co ki c0 ps w' hb hwB hBw hne hps hc0 hpre hk hf => ?_, fun ps hps => own_bound hTB (hbd qn ps hps) htot⟩) _ rfl hdr
   ·exact ask_at (is_group w) (.mk sGroup x ks) Sn op tx X n k w' hb (hSw hb) (hn.bel hS hb)
   ·rw [show ownP tabs (Nod.mk sGroup x ks).op (Nod.mk sGroup x ks).tx (Nod.mk sGroup x ks).ks ps = plGroupR c0 ks ps by rw [hc0]; exact own_group tabs x ks ps]
    exact group_any B S Sn g co ki c0 ps (.mk sGroup x ks) op tx X n k w' hBw (hSn hwB) (hn.bel hS hb) (form_aggs hf).1 (form_aggs hf).2 hpre (by rw [hc0]; have := hhd ps (hbd qn ps hps); omega) (by omega)
def pset (w : World) (g : Nat) (x : PV) : World := (((((((w.setCell ⟨g, 0, none⟩ (.string x.op)).setCell ⟨g, 1, none⟩ (.string x.tab)).setCell ⟨g, 2, none⟩ (.slice x.co.1 x.co.2.1 x.co.2.2)).setCell ⟨g, 3, none⟩ (.slice x.ki.1 x.ki.2.1 x.ki.2.2)).setCell ⟨g, 4, none⟩ (.slice x.ex.1 x.ex.2.1 x.ex.2.2)).setCell ⟨g, 5, none⟩ (.slice x.on.1 x.on.2.1 x.on.2.2)).setCell ⟨g, 6, none⟩ (.slice x.bk.1 x.bk.2.1 x.bk.2.2)).setCell ⟨g, 7, none⟩ (.slice x.ag.1 x.ag.2.1 x.ag.2.2)
theorem pset_ok {w : World} {g : Nat} {y : PV} (h : PBox w g y) (x : PV) : PBox (pset w g x) g x := by
 unfold pset
 exact ((((((((h.set0 x.op).set1 x.tab).set2 x.co).set3 x.ki).set4 x.ex).set5 x.on).set6 x.bk).set7 x.ag)
theorem pset_but (w : World) (g : Nat) (x : PV) : But w (pset w g x) g := ((((((((But.refl w g).setCell 0 _).setCell 1 _).setCell 2 _).setCell 3 _).setCell 4 _).setCell 5 _).setCell 6 _).setCell 7 _
def OfPost (w : World) (r : (Pl × Nat) × Int) (e : Ending) (w' : World) : Prop :=
 ∃ x : PV, e = .returned (.tuple #[.agg (plcs x), .int .i64 r.2]) ∧ Below w.heap.size w w' ∧ (r.2 = 0 → PIn w' (fun b => w.heap.size ≤ b ∧ b < w'.heap.size) r.1.1 x) ∧ (r.2 ≠ 0 → x = zPV)
theorem of_pin {w1 w0 w6 wx : World} {rp : Pl} {x : PV} {rc f rf : Int} (h : rc = 0 → f = rf ∧ PIn w6 (fun b => w0.heap.size ≤ b ∧ b < w6.heap.size) rp x) (h1 : w1.heap.size ≤ w0.heap.size) (hk : ∀ b, w0.heap.size ≤ b → b < w6.heap.size → wx.heap[b]? = w6.heap[b]?) (hz : w6.heap.size ≤ wx.heap.size) :
  rc = 0 → PIn wx (fun b => w1.heap.size ≤ b ∧ b < wx.heap.size) rp x := fun e =>
 (h e).2.keep (fun b hb => ⟨Nat.le_trans h1 hb.1, Nat.lt_of_lt_of_le hb.2 hz⟩) (fun p hp => World.cell?_of_block (hk p.block hp.1 hp.2))
theorem of_endC {w1 w0 w6 : World} {rp : Pl} {x : PV} {rc f rf : Int} (L6 : Below w1.heap.size w1 w6) (h : rc = 0 → f = rf ∧ PIn w6 (fun b => w0.heap.size ≤ b ∧ b < w6.heap.size) rp x) (h1 : w1.heap.size ≤ w0.heap.size) (hz : rc ≠ 0 → x = zPV) :
  w1.heap.size ≤ w6.heap.size ∧ MBox (w6.alloc (.cells #[.string x.op, .string x.tab, .slice x.co.1 x.co.2.1 x.co.2.2, .slice x.ki.1 x.ki.2.1 x.ki.2.2, .slice x.ex.1 x.ex.2.1 x.ex.2.2, .slice x.on.1 x.on.2.1 x.on.2.2, .slice x.bk.1 x.bk.2.1 x.bk.2.2, .slice x.ag.1 x.ag.2.1 x.ag.2.2, .int .i64 f] 58)) w6.heap.size x f ∧ Below w1.heap.size w1 (w6.alloc (.cells #[.string x.op, .string x.tab, .slice x.co.1 x.co.2.1 x.co.2.2, .slice x.ki.1 x.ki.2.1 x.ki.2.2, .slice x.ex.1 x.ex.2.1 x.ex.2.2, .slice x.on.1 x.on.2.1 x.on.2.2, .slice x.bk.1 x.bk.2.1 x.bk.2.2, .slice x.ag.1 x.ag.2.1 x.ag.2.2, .int .i64 f] 58)) ∧ (rc = 0 → PIn (w6.alloc (.cells #[.string x.op, .string x.tab, .slice x.co.1 x.co.2.1 x.co.2.2, .slice x.ki.1 x.ki.2.1 x.ki.2.2, .slice x.ex.1 x.ex.2.1 x.ex.2.2, .slice x.on.1 x.on.2.1 x.on.2.2, .slice x.bk.1 x.bk.2.1 x.bk.2.2, .slice x.ag.1 x.ag.2.1 x.ag.2.2, .int .i64 f] 58)) (fun b => w1.heap.size ≤ b ∧ b < (w6.alloc (.cells #[.string x.op, .string x.tab, .slice x.co.1 x.co.2.1 x.co.2.2, .slice x.ki.1 x.ki.2.1 x.ki.2.2, .slice x.ex.1 x.ex.2.1 x.ex.2.2, .slice x.on.1 x.on.2.1 x.on.2.2, .slice x.bk.1 x.bk.2.1 x.bk.2.2, .slice x.ag.1 x.ag.2.1 x.ag.2.2, .int .i64 f] 58)).heap.size) rp x) ∧ (rc ≠ 0 → x = zPV) := by
 have hm := MBox.fresh w6 x f 58
 unfold mcs at hm
 exact ⟨L6.size, hm, L6.alloc L6.size _, of_pin h h1 (fun b _ hb => (below_alloc w6 _).block b hb) (below_alloc w6 _).size, hz⟩
theorem of_endB {w1 w0 w6 : World} {rp : Pl} {x : PV} {rc f rf f0 : Int} {g : Nat} {y : PV} (L6 : Below w1.heap.size w1 w6) (hm : MBox w6 g y f0) (h : rc = 0 → f = rf ∧ PIn w6 (fun b => w0.heap.size ≤ b ∧ b < w6.heap.size) rp x) (h1 : w1.heap.size ≤ w0.heap.size) (hg : w1.heap.size ≤ g) (hlt : g < w0.heap.size) (hz : rc ≠ 0 → x = zPV) :
  w1.heap.size ≤ g ∧ MBox (((((((((w6.setCell ⟨g, 0, none⟩ (.string x.op)).setCell ⟨g, 1, none⟩ (.string x.tab)).setCell ⟨g, 2, none⟩ (.slice x.co.1 x.co.2.1 x.co.2.2)).setCell ⟨g, 3, none⟩ (.slice x.ki.1 x.ki.2.1 x.ki.2.2)).setCell ⟨g, 4, none⟩ (.slice x.ex.1 x.ex.2.1 x.ex.2.2)).setCell ⟨g, 5, none⟩ (.slice x.on.1 x.on.2.1 x.on.2.2)).setCell ⟨g, 6, none⟩ (.slice x.bk.1 x.bk.2.1 x.bk.2.2)).setCell ⟨g, 7, none⟩ (.slice x.ag.1 x.ag.2.1 x.ag.2.2)).setCell ⟨g, 8, none⟩ (.int .i64 f)) g x f ∧ Below w1.heap.size w1 (((((((((w6.setCell ⟨g, 0, none⟩ (.string x.op)).setCell ⟨g, 1, none⟩ (.string x.tab)).setCell ⟨g, 2, none⟩ (.slice x.co.1 x.co.2.1 x.co.2.2)).setCell ⟨g, 3, none⟩ (.slice x.ki.1 x.ki.2.1 x.ki.2.2)).setCell ⟨g, 4, none⟩ (.slice x.ex.1 x.ex.2.1 x.ex.2.2)).setCell ⟨g, 5, none⟩ (.slice x.on.1 x.on.2.1 x.on.2.2)).setCell ⟨g, 6, none⟩ (.slice x.bk.1 x.bk.2.1 x.bk.2.2)).setCell ⟨g, 7, none⟩ (.slice x.ag.1 x.ag.2.1 x.ag.2.2)).setCell ⟨g, 8, none⟩ (.int .i64 f)) ∧ (rc = 0 → PIn (((((((((w6.setCell ⟨g, 0, none⟩ (.string x.op)).setCell ⟨g, 1, none⟩ (.string x.tab)).setCell ⟨g, 2, none⟩ (.slice x.co.1 x.co.2.1 x.co.2.2)).setCell ⟨g, 3, none⟩ (.slice x.ki.1 x.ki.2.1 x.ki.2.2)).setCell ⟨g, 4, none⟩ (.slice x.ex.1 x.ex.2.1 x.ex.2.2)).setCell ⟨g, 5, none⟩ (.slice x.on.1 x.on.2.1 x.on.2.2)).setCell ⟨g, 6, none⟩ (.slice x.bk.1 x.bk.2.1 x.bk.2.2)).setCell ⟨g, 7, none⟩ (.slice x.ag.1 x.ag.2.1 x.ag.2.2)).setCell ⟨g, 8, none⟩ (.int .i64 f)) (fun b => w1.heap.size ≤ b ∧ b < (((((((((w6.setCell ⟨g, 0, none⟩ (.string x.op)).setCell ⟨g, 1, none⟩ (.string x.tab)).setCell ⟨g, 2, none⟩ (.slice x.co.1 x.co.2.1 x.co.2.2)).setCell ⟨g, 3, none⟩ (.slice x.ki.1 x.ki.2.1 x.ki.2.2)).setCell ⟨g, 4, none⟩ (.slice x.ex.1 x.ex.2.1 x.ex.2.2)).setCell ⟨g, 5, none⟩ (.slice x.on.1 x.on.2.1 x.on.2.2)).setCell ⟨g, 6, none⟩ (.slice x.bk.1 x.bk.2.1 x.bk.2.2)).setCell ⟨g, 7, none⟩ (.slice x.ag.1 x.ag.2.1 x.ag.2.2)).setCell ⟨g, 8, none⟩ (.int .i64 f)).heap.size) rp x) ∧ (rc ≠ 0 → x = zPV) := by
 have h2 := mset_ok hm x f
 have h3 := mset_below L6 hg x f
 have h4 := mset_but w6 g x f
 have h5 := of_pin (wx := mset w6 g x f) h h1 (fun b hb1 hb2 => h4.block b hb2 (fun e => by omega)) h4.size
 unfold mset at h2 h3 h5
 exact ⟨hg, h2, h3, h5, hz⟩
theorem pof_any (tabs : List Tab) (hTB : TabB tabs) (t : Nod) (Sn : Nat → Prop) (op tx : ByteArray) (X : Option Addr) (n k : Nat) (TA : Option Addr) (tcap : Nat) (m : Int) (w : World) (hS : ∀ b, Sn b → b < w.heap.size) (hn : RIn w Sn t (op, tx, X, n, k)) (hT : TabsAt w w.heap.size TA tabs) (hg : MGlob m w) (htot : t.tot ≤ 1000) :
  Calls Tryz.prog 10 #[.agg #[.string op, .string tx, .slice X n k], .slice TA tabs.length tcap] w (OfPost w (planP tabs t)) := by
 obtain ⟨w1, hw1⟩ : ∃ w1, (w.alloc (.cells #[.string op, .string tx, .slice X n k] 24)).alloc (.cells (plcs zPV) 35) = w1 := ⟨_, rfl⟩
 have B1 := hid (show Below w.heap.size w w1 by rw [← hw1]; exact (below_alloc w _).alloc (by simp) _)
 have N1 := hid (show NBox w1 w.heap.size (.string op) (.string tx) (.slice X n k) by rw [← hw1]; exact (NBox.fresh _ _ _ _ _).alloc _)
 have P1 := hid (show PBox w1 (w.heap.size + 1) zPV by
  rw [← hw1]
  have h := PBox.fresh (w.alloc (.cells #[.string op, .string tx, .slice X n k] 24)) zPV 35
  rw [show (w.alloc (.cells #[.string op, .string tx, .slice X n k] 24)).heap.size = w.heap.size + 1 by simp] at h
  exact h)
 have hz1 : w1.heap.size = w.heap.size + 2 := by rw [← hw1]; simp
 have HQ := hid (fun (mb gt : Nat) (w0 : World) (hb0 : Below w.heap.size w w0) (hm : MapR w0 mb 7 (formF gt)) (hgl : gt < w0.heap.size) (hct : w0.cell? ⟨gt, 0, none⟩ = some (.slice TA tabs.length tcap)) => query_any tabs hTB mb gt TA tcap m t.deep t (Nat.le_refl _) Sn op tx X n k w0 (fun b h => Nat.lt_of_lt_of_le (hS b h) hb0.size) (hn.bel hS hb0) ⟨hm, hct, hgl, hT.next hb0, hg.next hb0⟩ htot)
 obtain ⟨R, hR⟩ : ∃ R, planP tabs t = R := ⟨_, rfl⟩
 rw [hR] at HQ ⊢
 obtain ⟨⟨rp, rf⟩, rc⟩ := R
 unfold QPost mcs at HQ
 dsimp only at HQ
 have HW1 := hid hw1
 have HZ1 := hid hz1
 obtain ⟨QQ, hQQ⟩ : ∃ Q, OfPost w ((rp, rf), rc) = Q := ⟨_, rfl⟩
 rw [hQQ]
 have HQQ := hid hQQ
 have hlt0 : w.heap.size < w1.heap.size := by omega
 clear hS hn hT hg htot hR hw1 hz1 hQQ
 go_enter Tryz.func10, Tryz.ntmps10
 go_upto_region 1 with fail
 have HW2 := hid HW1.out
 unfold plcs zPV zSl at HW2
 dsimp only at HW2
 rw [HW2.out]
 clear HW1 HW2
 obtain ⟨x0, x1, x2, xf⟩ := N1.out
 clear xf
 have HD0 := hid (show Below w1.heap.size w1 w1.drew from Below.drew (Below.refl _ _))
 have HD1 := hid (fun o => show Below w1.heap.size w1 (w1.drew.alloc o) from HD0.out.alloc (Nat.le_refl _) o)
 have HO := hid (fun (w' : World) (hb : Below w1.heap.size w1 w') => show Calls Tryz.prog 24 #[.slice TA tabs.length tcap] w' (fun e w'' => ∃ mb gt, e = .returned (.map (some mb)) ∧ MapR w'' mb 7 (formF gt) ∧ gt < w''.heap.size ∧ w''.cell? ⟨gt, 0, none⟩ = some (.slice TA tabs.length tcap) ∧ Below w1.heap.size w1 w'' ∧ Below w'.heap.size w' w'') from
  (over_any TA tabs.length tcap w').mono (by rintro e w'' ⟨mb, gt, he, hm, -, -, hg, hc, hb2⟩; exact ⟨mb, gt, he, hm, hg, hc, hb.trans (hb2.mono hb.size), hb2⟩))
 have HQ2 := hid (fun (mb gt : Nat) (w5 : World) (hb5 : Below w1.heap.size w1 w5) (hm : MapR w5 mb 7 (formF gt)) (hg : gt < w5.heap.size) (hc : w5.cell? ⟨gt, 0, none⟩ = some (.slice TA tabs.length tcap)) (w' : World) (hb : Below w5.heap.size w5 w') =>
  show Calls Tryz.prog 25 #[.map (some mb), .agg #[.string op, .string tx, .slice X n k]] w' (fun e w'' => ∃ (x : PV) (f : Int), e = .returned (.tuple #[.agg #[.string x.op, .string x.tab, .slice x.co.1 x.co.2.1 x.co.2.2, .slice x.ki.1 x.ki.2.1 x.ki.2.2, .slice x.ex.1 x.ex.2.1 x.ex.2.2, .slice x.on.1 x.on.2.1 x.on.2.2, .slice x.bk.1 x.bk.2.1 x.bk.2.2, .slice x.ag.1 x.ag.2.1 x.ag.2.2, .int .i64 f], .int .i64 rc]) ∧ Below w'.heap.size w' w'' ∧ Below w1.heap.size w1 w'' ∧ w1.heap.size ≤ w'.heap.size ∧ (rc = 0 → f = (rf : Int) ∧ PIn w'' (fun b => w'.heap.size ≤ b ∧ b < w''.heap.size) rp x) ∧ (rc ≠ 0 → x = zPV)) from
   (HQ.out mb gt w' (B1.out.trans ((hb5.trans (hb.mono hb5.size)).mono B1.out.size)) (hm.below hb) (Nat.lt_of_lt_of_le hg hb.size) ((hb.cell (p := ⟨gt, 0, none⟩) hg).trans hc)).mono (by
    rintro e w'' ⟨x, f, he, hb2, hok, hbd⟩
    have hw := hb5.trans (hb.mono hb5.size)
    exact ⟨x, f, he, hb2, hw.trans (hb2.mono hw.size), hw.size, hok, fun h => (hbd h).1⟩))
 have HXA := hid (fun (w' : World) (hb : Below (w1.drew.alloc (.cells (mcs zPV 0) 58)).heap.size (w1.drew.alloc (.cells (mcs zPV 0) 58)) w') => show MBox w' w1.heap.size zPV 0 from (MBox.fresh w1.drew zPV 0 _).below hb)
 have HXB := hid (fun (w5 w' : World) (hb : Below (w5.alloc (.cells (mcs zPV 0) 58)).heap.size (w5.alloc (.cells (mcs zPV 0) 58)) w') => show MBox w' w5.heap.size zPV 0 from (MBox.fresh w5 zPV 0 _).below hb)
 unfold mcs zPV zSl at HXA HXB
 dsimp only at HXA HXB
 clear HQ
 go_cut [6, 7] (fun s6 s7 wx => ∃ (g : Nat) (x : PV) (f : Int), s6 = .pointer (some ⟨g, 0, none⟩) ∧ s7 = .int .i64 rc ∧ w1.heap.size ≤ g ∧ MBox wx g x f ∧ Below w1.heap.size w1 wx ∧ (rc = 0 → PIn wx (fun b => w1.heap.size ≤ b ∧ b < wx.heap.size) rp x) ∧ (rc ≠ 0 → x = zPV))
 case first =>
  go_region_law (first
   | (go_simp; refine (HO.out _ ?_).mono ?_; (first | exact HD0.out | exact HD1.out _); rintro e w5 ⟨mb, gt, rfl, hm5, hgl5, hct5, hL5, hb5⟩; have L5 := hid hL5; have M5 := hid hm5; have G5 := hid hgl5; have C5 := hid hct5; (try have XA := hid (HXA.out _ hb5)); (try have hA5 := (HXA.out _ hb5).box.lt); have h5 := Nat.lt_of_lt_of_le hlt0 L5.out.size; have y0 := (L5.out.cell (p := ⟨w.heap.size, 0, none⟩) hlt0).trans x0; have y1 := (L5.out.cell (p := ⟨w.heap.size, 1, none⟩) hlt0).trans x1; have y2 := (L5.out.cell (p := ⟨w.heap.size, 2, none⟩) hlt0).trans x2; clear hm5 hgl5 hct5 hb5 hL5)
   | (go_simp; refine (HQ2.out mb gt w5 L5.out M5.out G5.out C5.out _ ?_).mono ?_; (first | exact Below.refl _ _ | exact below_alloc _ _); rintro e w6 ⟨x, f, rfl, hb6, hL6, hz6, hok, hzz⟩; have L6 := hid hL6; have B6 := hid hb6; have HOK := hid hok; have HZZ := hid hzz; have Z6 := hid hz6; (try have XA := hid (XA.out.below hb6)); (try have XA := hid (HXB.out w5 _ hb6)); (try obtain ⟨⟨z0, z1, z2, z3, z4, z5, z6, z7, zf⟩, z8⟩ := XA.out); (try dsimp only at z0 z1 z2 z3 z4 z5 z6 z7); clear hb6 hL6 hz6 hok hzz))
  all_goals go_wp2_with fail
  all_goals go_meet
  all_goals first
   | (refine ⟨w6.heap.size, x, f, rfl, rfl, ?_⟩; exact of_endC (L6 := L6.out) (h := HOK.out) (h1 := Z6.out) (hz := HZZ.out))
   | (refine ⟨w5.heap.size, x, f, rfl, rfl, ?_⟩; exact of_endB (L6 := L6.out) (hm := XA.out) (h := HOK.out) (h1 := Z6.out) (hg := L5.out.size) (hlt := by simp) (hz := HZZ.out))
   | (refine ⟨w1.heap.size, x, f, rfl, rfl, ?_⟩; exact of_endB (L6 := L6.out) (hm := XA.out) (h := HOK.out) (h1 := Z6.out) (hg := Nat.le_refl _) (hlt := hA5) (hz := HZZ.out))
 case rest =>
  obtain ⟨g, x, f, rfl, rfl, hge, hM7, hB7, hpin, hze⟩ := hcut
  rename World => w7
  have L7 := hid hB7
  have M7 := hid hM7
  have HPI := hid hpin
  have HZE := hid hze
  clear hB7 hM7 hpin hze x0 x1 x2
  have P7 := hid (P1.out.below L7.out)
  have HE := hid (show OfPost w ((rp, rf), rc) (.returned (.tuple #[.agg (plcs x), .int .i64 rc])) (pset w7 (w.heap.size + 1) x) from
   ⟨x, rfl, (B1.out.trans (L7.out.mono B1.out.size)).trans ((pset_but w7 (w.heap.size + 1) x).below (by have := L7.out.size; have := B1.out.size; omega) (Nat.le_succ _)), fun h => by
    have hz := HZ1.out
    have hbt := pset_but w7 (w.heap.size + 1) x
    exact (HPI.out h).keep (fun b hb => ⟨by omega, by have := hbt.size; omega⟩) (fun p hp => hbt.cell (q := p) hp.2 (by have := hp.1; omega)), HZE.out⟩)
  have NE := hid (pset_ok P7.out x)
  obtain ⟨o0, o1, o2, o3, o4, o5, o6, o7, of⟩ := P7.out
  unfold zPV zSl at o0 o1 o2 o3 o4 o5 o6 o7
  dsimp only at o0 o1 o2 o3 o4 o5 o6 o7
  obtain ⟨⟨p0, p1, p2, p3, p4, p5, p6, p7, pf⟩, p8⟩ := M7.out
  clear p8 pf
  go_wp2
  clear o0 o1 o2 o3 o4 o5 o6 o7 of p0 p1 p2 p3 p4 p5 p6 p7
  obtain ⟨o0, o1, o2, o3, o4, o5, o6, o7, of⟩ := NE.out
  unfold pset at HE o0 o1 o2 o3 o4 o5 o6 o7
  clear of
  try dsimp only at o0 o1 o2 o3 o4 o5 o6 o7 HE
  exact bodyPost_ret (v := .tuple #[.agg (plcs x), .int .i64 rc]) (by simp [results, Tryz.results10, go_sem, o0, o1, o2, o3, o4, o5, o6, o7, plcs]) rfl (by rw [← HQQ.out]; exact HE.out)
end Go.Proofs.YthpmgnfmeldkjaaGreatDoor.Code
/-
  How much there is in a plan that the program makes, in plain words. No program is named here.
-/
namespace Go.Proofs.YthpmgnfmeldkjaaGreatDoor.Code
open Val
structure FitR (p : Pl) : Prop where
 ks : p.ks.length ≤ 1000
 ex : p.ex.length ≤ 1000
 on : p.on.length ≤ 1000
 bk : p.bk.length ≤ 1000
 ag : p.ag.length ≤ 1000
 op : p.op.length ≤ 1000
 tab : p.tab.length ≤ 1000
 exs : ∀ x ∈ p.ex, x.tot ≤ 1000
 ags : ∀ x ∈ p.ag, x.1.length ≤ 1000
mutual
def fitP : Pl → Prop
 | .mk o t e n b a c k => FitR (.mk o t e n b a c k) ∧ (c.length ≤ 12 ∧ NmB c) ∧ fitPL k
def fitPL : List Pl → Prop
 | [] => True
 | p :: l => fitP p ∧ fitPL l
end
theorem fitPL_iff : ∀ l : List Pl, fitPL l ↔ ∀ p ∈ l, fitP p
 | [] => by rw [fitPL]; simp
 | p :: l => by rw [fitPL, fitPL_iff l]; simp
theorem fitP.rest {p : Pl} (h : fitP p) : FitR p := by
 cases p
 rw [fitP] at h
 exact h.1
theorem fitP.kid {p : Pl} (h : fitP p) : ∀ q ∈ p.ks, fitP q := by
 cases p
 rw [fitP] at h
 exact (fitPL_iff _).1 h.2.2
theorem fitP.cols {p : Pl} (h : fitP p) : p.cols.length ≤ 12 ∧ NmB p.cols := by
 cases p
 rw [fitP] at h
 exact h.2.1
theorem nth_tot (l : List Nod) (i : Nat) : (nthN l i).tot ≤ 1 + Nod.totL l := by
 unfold nthN
 rw [List.getD_eq_getElem?_getD]
 cases hi : l[i]? with
 | none => show Nod.tot zeroN ≤ _; unfold zeroN; rw [Nod.tot, Nod.totL]; simp
 | some p => have := tot_mem (List.mem_of_getElem? hi); simp only [Option.getD_some]; omega
theorem join_few (a b : List W) : ∀ l : List Nod, (joinP a b l).1.length ≤ l.length
 | [] => by rw [joinP]; exact Nat.le_refl _
 | t :: l => by
  have ih := join_few a b l
  rw [joinP]
  cases findC a t.tx with
  | none => exact Nat.zero_le _
  | some i =>
   cases findC b (nthN t.ks 0).tx with
   | none => exact Nat.zero_le _
   | some j =>
    dsimp only
    split
    ·exact Nat.zero_le _
    ·split
     ·exact Nat.zero_le _
     ·simp only [List.length_cons]; omega
theorem by_few (a : List W) : ∀ l : List Nod, (byP a l).1.length ≤ l.length
 | [] => by rw [byP]; exact Nat.le_refl _
 | t :: l => by
  have ih := by_few a l
  rw [byP]
  cases findC a t.tx with
  | none => exact Nat.zero_le _
  | some i =>
   dsimp only
   split
   ·exact Nat.zero_le _
   ·simp only [List.length_cons]; omega
theorem aggs_few (a : List W) : ∀ l : List Nod, (aggsP a l).1.length ≤ l.length ∧ ∀ x ∈ (aggsP a l).1, ∃ t ∈ l, x.1 = (nthN t.ks 0).op
 | [] => by rw [aggsP]; exact ⟨Nat.le_refl _, fun x h => by cases h⟩
 | t :: l => by
  have ih := aggs_few a l
  rw [aggsP]
  split
  ·exact ⟨Nat.zero_le _, fun x h => by cases h⟩
  ·split
   ·exact ⟨Nat.zero_le _, fun x h => by cases h⟩
   ·refine ⟨by simp only [List.length_cons]; omega, fun x h => ?_⟩
    rcases List.mem_cons.1 h with rfl | h
    ·exact ⟨t, by simp, rfl⟩
    ·obtain ⟨u, hu, e⟩ := ih.2 x h
     exact ⟨u, List.mem_cons_of_mem _ hu, e⟩
theorem own_fit {tabs : List Tab} {op tx : List UInt8} {ks : List Nod} {ps : List Pl} (htot : Nod.tot (.mk op tx ks) ≤ 1000) (hp : ps.length ≤ 1000) (hx : (ownP tabs op tx ks ps).2 = 0) : FitR (ownP tabs op tx ks ps).1 := by
 rw [Nod.tot] at htot
 have hkl := nodtot_len ks
 have ho : op.length ≤ 1000 := by omega
 have ht : tx.length ≤ 1000 := by omega
 have hk : ∀ i, (ks.drop i).length ≤ 1000 := fun i => by rw [List.length_drop]; omega
 have hn : ∀ i, (nthN ks i).tot ≤ 1000 := fun i => by have := nth_tot ks i; omega
 have hnn : ∀ u ∈ ks, (nthN u.ks 0).tot ≤ 1000 := fun u hu => by
  have h1 := nth_tot u.ks 0
  have h2 := tot_mem hu
  have h3 : u.tot = 1 + u.op.length + u.tx.length + Nod.totL u.ks := by cases u; rfl
  omega
 have hlen0 : ([] : List UInt8).length ≤ 1000 := Nat.zero_le _
 unfold ownP at hx ⊢
 dsimp only at hx ⊢
 split at hx
 ·rename_i h0
  rw [if_pos h0]
  cases hf : tabs.find? fun t => t.1 == tx with
  | none => rw [hf] at hx; cases hx
  | some t => exact ⟨hp, Nat.zero_le _, Nat.zero_le _, Nat.zero_le _, Nat.zero_le _, ho, ht, (fun x h => by cases h), (fun x h => by cases h)⟩
 ·rename_i h0
  rw [if_neg h0]
  split
  ·refine ⟨hp, by show 1 ≤ 1000; omega, Nat.zero_le _, Nat.zero_le _, Nat.zero_le _, ho, hlen0, fun x h => ?_, (fun x h => by cases h)⟩
   have h : x = nthN ks 1 := by simpa [Pl.ex] using h
   rw [h]
   exact hn 1
  ·split
   ·refine ⟨hp, by show ((ks.drop 1).map _).length ≤ 1000; rw [List.length_map]; exact hk 1, Nat.zero_le _, Nat.zero_le _, Nat.zero_le _, ho, hlen0, fun x h => ?_, (fun x h => by cases h)⟩
    obtain ⟨u, hu, rfl⟩ := List.mem_map.1 (show x ∈ (ks.drop 1).map fun t => nthN t.ks 0 from h)
    exact hnn u (List.mem_of_mem_drop hu)
   ·split
    ·exact ⟨hp, Nat.zero_le _, Nat.le_trans (join_few _ _ _) (hk 2), Nat.zero_le _, Nat.zero_le _, ho, hlen0, (fun x h => by cases h), (fun x h => by cases h)⟩
    ·split
     ·exact ⟨hp, Nat.zero_le _, Nat.zero_le _, Nat.zero_le _, Nat.zero_le _, ho, hlen0, (fun x h => by cases h), (fun x h => by cases h)⟩
     ·split
      ·have hb := by_few (ps.headD zeroP).cols (nthN ks 1).ks
       have ha := aggs_few (ps.headD zeroP).cols (ks.drop 2)
       have h1 := nodtot_ks (nthN ks 1)
       have h2 := hn 1
       refine ⟨hp, Nat.zero_le _, Nat.zero_le _, by show (byP _ _).1.length ≤ _; omega, Nat.le_trans ha.1 (hk 2), ho, hlen0, fun x h => (by cases h), fun x h => ?_⟩
       obtain ⟨u, hu, e⟩ := ha.2 x h
       rw [e]
       have h3 := hnn u (List.mem_of_mem_drop hu)
       have h4 : (nthN u.ks 0).tot = 1 + (nthN u.ks 0).op.length + (nthN u.ks 0).tx.length + Nod.totL (nthN u.ks 0).ks := by cases nthN u.ks 0; rfl
       omega
      ·exact ⟨hp, Nat.zero_le _, Nat.zero_le _, Nat.zero_le _, Nat.zero_le _, ho, hlen0, (fun x h => by cases h), (fun x h => by cases h)⟩
theorem plan_fit {tabs : List Tab} (ht : TabB tabs) : ∀ t, (planP tabs t).2 = 0 → t.tot ≤ 1000 → fitP (planP tabs t).1.1 :=
 planP_ind (Q := fun t p _ => t.tot ≤ 1000 → fitP p) (by
  intro op tx ks hf hk h4 hx hw htot
  have hkt : ∀ t ∈ ks.take (queriesN op ks.length), t.tot ≤ 1000 := fun t h => by
   have h2 := tot_mem (List.mem_of_mem_take h)
   rw [Nod.tot] at htot
   omega
  have hlen : (kidsP tabs op ks).length ≤ 1000 := by
   unfold kidsP
   rw [List.length_map, List.length_take]
   have h1 := nodtot_len ks
   rw [Nod.tot] at htot
   omega
  have hfit := own_fit htot hlen hx
  have hbd := own_bound ht (ps := kidsP tabs op ks) (op := op) (tx := tx) (ks := ks) (fun p hp => by
   unfold kidsP at hp
   obtain ⟨t, ht', rfl⟩ := List.mem_map.1 hp
   exact plan_bound ht t (hkt t ht')) htot
  have hks := (own_mk hx).2.1
  obtain ⟨r, hr⟩ : ∃ r, (ownP tabs op tx ks (kidsP tabs op ks)).1 = r := ⟨_, rfl⟩
  rw [hr] at hfit hbd hks hw ⊢
  obtain ⟨o, t, e, n, b, a, c, k⟩ := r
  have hks : k = kidsP tabs op ks := hks
  subst hks
  rw [numP, fitP]
  refine ⟨⟨hfit.ks, hfit.ex, hfit.on, hfit.bk, hfit.ag, hfit.op, hfit.tab, hfit.exs, hfit.ags⟩, ⟨by rw [numbered_len]; exact wrong_len hw, hbd.2.numbered⟩, (fitPL_iff _).2 fun p hp => ?_⟩
  unfold kidsP at hp
  obtain ⟨t, ht', rfl⟩ := List.mem_map.1 hp
  exact (hk t ht').2 (hkt t ht'))
open Go.ChangeShapes Go.WideShapes Go.ChangeAt Go.RowKit Elems
end Go.Proofs.YthpmgnfmeldkjaaGreatDoor.Code
/-
  Words as an expression's reader sees them: a mark is none of the language's own names; a figure's number as Go's library reads it. No program is named here.
-/
namespace Go.Proofs.YthpmgnfmeldkjaaGreatDoor.Code
open Val
open Go.ChangeShapes Go.WideShapes Go.ChangeAt Go.RowKit Elems
structure Env (B : Nat) (m : Int) (w : World) : Prop where
 gl : Glob B m w
theorem Env.below {B : Nat} {m : Int} {w w' : World} (h : Env B m w) (hb : Below B w w') : Env B m w' := ⟨h.gl.below hb⟩
theorem Env.more {B B' : Nat} {m : Int} {w : World} (h : Env B m w) (hB : B ≤ B') : Env B' m w := ⟨h.gl.more hB⟩
structure Kp (b : Nat) (w w' : World) : Prop where
 bl : Below b w w'
 ot : Lib.OthersKept 5 (some b) w w'
theorem Kp.refl (b : Nat) (w : World) : Kp b w w := ⟨Below.refl _ _, Lib.OthersKept.refl _ _ _⟩
theorem Kp.trans {b : Nat} {w w1 w2 : World} (h : Kp b w w1) (g : Kp b w1 w2) : Kp b w w2 := ⟨h.bl.trans g.bl, h.ot.trans g.ot⟩
theorem Kp.drew {b : Nat} {w w1 : World} (h : Kp b w w1) : Kp b w w1.drew := ⟨h.bl.drew, h.ot.drew⟩
theorem Kp.next {b : Nat} {w w1 w2 : World} (h : Kp b w w1) (hb : b ≤ w1.heap.size) (g : Below w1.heap.size w1 w2) : Kp b w w2 :=
 ⟨h.bl.trans (g.mono hb), fun k o hk hn ho => by
  have h1 := h.ot k o hk hn ho
  exact (g.block k (Array.getElem?_eq_some_iff.1 h1).1).trans h1⟩
theorem Kp.new {b : Nat} {w w1 : World} (h : Kp b w w1) (p : Addr) (hp : w.heap.size ≤ p.block) (hb : b ≤ p.block) (u : Value) : Kp b w (w1.setCell p u) :=
 ⟨h.bl.setCell hb u, fun k o hk hn ho => by
  have h1 := h.ot k o hk hn ho
  have hlt : k < w.heap.size := (Array.getElem?_eq_some_iff.1 hk).1
  rw [Below.heap_setCell _ _ _ _ (by omega)]
  exact h1⟩
theorem grown_set (w : World) (b i : Nat) (v : Value) : w.grownBy (w.setCell ⟨b, i, none⟩ v) (some b) :=
 ⟨rfl, rfl, rfl, by simp, fun k hk hr => Below.heap_setCell _ _ _ _ (fun e => hr (by rw [e]))⟩
def HB (w : World) (g : Nat) (cs : Array Value) (t : TypeId) : Prop := w.heap[g]? = some (.cells cs t (0, 0))
theorem HB.lt {w : World} {g : Nat} {cs : Array Value} {t : TypeId} (h : HB w g cs t) : g < w.heap.size := (Array.getElem?_eq_some_iff.1 h).1
theorem HB.kp {w w' : World} {g b : Nat} {cs : Array Value} {t : TypeId} (h : HB w g cs t) (hk : Kp b w w') (hg : g ≠ b) (ht : t ≠ 5) : HB w' g cs t :=
 hk.ot g _ h (fun e => hg (Option.some.inj e)) (fun c fz e => by injection e with _ e2; exact ht e2)
theorem HB.below {w w' : World} {g : Nat} {cs : Array Value} {t : TypeId} (h : HB w g cs t) (hb : Below w.heap.size w w') : HB w' g cs t := (hb.block g h.lt).trans h
theorem HB.alloc {w : World} {g : Nat} {cs : Array Value} {t : TypeId} (h : HB w g cs t) (o : Obj) : HB (w.alloc o) g cs t := h.below (below_alloc w o)
theorem HB.fresh (w : World) (cs : Array Value) (t : TypeId) : HB (w.alloc (.cells cs t)) w.heap.size cs t := heap_alloc_new w _
theorem HB.cell {w : World} {g : Nat} {cs : Array Value} {t : TypeId} (h : HB w g cs t) (j : Nat) : w.cell? ⟨g, j, none⟩ = cs[j]? := by
 unfold World.cell?
 rw [h]
 rfl
theorem HB.free {w : World} {g : Nat} {cs : Array Value} {t : TypeId} (h : HB w g cs t) (j : Nat) : w.frozen? ⟨g, j, none⟩ = false := Lib.frozen_of_heap h j
theorem HB.set {w : World} {g : Nat} {cs : Array Value} {t : TypeId} (h : HB w g cs t) (j : Nat) (u : Value) : HB (w.setCell ⟨g, j, none⟩ u) g (cs.setIfInBounds j u) t := by
 unfold HB at h ⊢
 obtain ⟨hlt, hx⟩ := Array.getElem?_eq_some_iff.1 h
 simp [World.setCell, hlt, Array.getElem_modify, hx]
theorem HB.far {w : World} {g : Nat} {cs : Array Value} {t : TypeId} (h : HB w g cs t) (p : Addr) (hp : p.block ≠ g) (u : Value) : HB (w.setCell p u) g cs t := by
 unfold HB at h ⊢
 rw [Below.heap_setCell _ _ _ _ (fun e => hp e.symm)]
 exact h
structure WrAt (w : World) (b mb : Nat) (p : Value) (bs : List UInt8) : Prop where
 ex : ∃ v, HB w b #[.map (some mb), p, v] 198 ∧ w.ownsRow b 5 1 v bs.length (Lib.byteCells bs) ∧ v.ownBlock ≠ some b
def Wr (w : World) (b mb : Nat) (bs : List UInt8) : Prop := WrAt w b mb (.pointer none) bs ∨ WrAt w b mb (.pointer (some ⟨b, 1, none⟩)) bs
theorem Wr.lt {w : World} {b mb : Nat} {bs : List UInt8} (h : Wr w b mb bs) : b < w.heap.size := by rcases h with ⟨_, h, _⟩ | ⟨_, h, _⟩ <;> exact h.lt
theorem WrAt.below {w w' : World} {b mb : Nat} {p : Value} {bs : List UInt8} (h : WrAt w b mb p bs) (hb : Below w.heap.size w w') : WrAt w' b mb p bs := by
 obtain ⟨v, h1, h2, h3⟩ := h
 exact ⟨v, h1.below hb, h2.kept (row := none) ⟨hb.os, hb.tape, hb.output, hb.size, fun k hk _ => hb.block k hk⟩ (by cases v.ownBlock <;> simp), h3⟩
theorem Wr.below {w w' : World} {b mb : Nat} {bs : List UInt8} (h : Wr w b mb bs) (hb : Below w.heap.size w w') : Wr w' b mb bs := h.elim (fun h => .inl (h.below hb)) (fun h => .inr (h.below hb))
theorem lies_at : liesAt Tryz.prog Tryz.prog.depth 198 (3 / Tryz.prog.cellsOf 198) 1 71 1 = true := by kernel_rfl
theorem info_builder : (Tryz.prog.info? 71).map (·.size) = some 2 := by kernel_rfl
theorem info_byte : (Tryz.prog.info? 5).map (fun i => (i.zero, i.size, i.bytes)) = some (some (.int .u8 0), 1, 1) := by kernel_rfl
theorem ecopy_fresh (b mb : Nat) (bs : List UInt8) (w : World) (h : WrAt w b mb (.pointer none) bs) :
  Calls Tryz.prog 114 #[.pointer (some ⟨b, 1, none⟩)] w fun e w' => e = .returned (.tuple #[]) ∧ w' = w.setCell ⟨b, 1, none⟩ (.pointer (some ⟨b, 1, none⟩)) := by
 obtain ⟨v, h1, h2, h3⟩ := h
 obtain ⟨j, hj, hjs⟩ := Option.map_eq_some_iff.1 info_builder
 have c1 : w.cell? ⟨b, 1, none⟩ = some (.pointer none) := h1.cell 1
 have f1 : w.frozen? ⟨b, 1, none⟩ = false := h1.free 1
 have hsh : w.shape? b = some (198, 3) := by
  have : w.heap[b]? = some (.cells #[.map (some mb), .pointer none, v] 198 (0, 0)) := h1
  simp [World.shape?, this]
 clear h1 h2 h3
 go_enter Tryz.func114, Tryz.ntmps114
 go_wp2
 rw [Lib.run_to_unsafe w ⟨b, 1, none⟩ Tryz.underlying68 Tryz.underlying193 hj (by rw [hjs]; decide) hsh (by show 1 < 3; decide)]
 simp only [Result.andThen]
 rw [Oper.upon_value]
 go_wp2
 rw [run_callFunc_extern Tryz.func165 (by kernel_rfl) (by kernel_rfl) (by kernel_rfl) (e := Extern.AbiNoEscape.same) (by kernel_rfl)]
 rw [Lib.run_noEscape]
 simp only [Result.andThen]
 rw [Oper.upon_value]
 go_wp2
 rw [Lib.run_from_unsafe w ⟨b, 1, none⟩ Tryz.underlying193 Tryz.underlying68 hj hsh lies_at]
 simp only [Result.andThen]
 rw [Oper.upon_value]
 go_wp2
 go_end0
 exact ⟨rfl, rfl⟩
theorem ecopy_used (b mb : Nat) (bs : List UInt8) (w : World) (h : WrAt w b mb (.pointer (some ⟨b, 1, none⟩)) bs) :
  Calls Tryz.prog 114 #[.pointer (some ⟨b, 1, none⟩)] w fun e w' => e = .returned (.tuple #[]) ∧ w' = w := by
 obtain ⟨v, h1, h2, h3⟩ := h
 obtain ⟨j, hj, hjs⟩ := Option.map_eq_some_iff.1 info_builder
 have c1 : w.cell? ⟨b, 1, none⟩ = some (.pointer (some ⟨b, 1, none⟩)) := h1.cell 1
 have hneq := Lib.run_neq_ptr_same w (P := Tryz.prog) ⟨b, 1, none⟩ Tryz.underlying68 hj
 clear h1 h2 h3
 go_enter Tryz.func114, Tryz.ntmps114
 go_wp2
 go_end0
 exact ⟨rfl, rfl⟩
theorem ecopy_any (b mb : Nat) (bs : List UInt8) (w : World) (h : Wr w b mb bs) :
  Calls Tryz.prog 114 #[.pointer (some ⟨b, 1, none⟩)] w fun e w' => e = .returned (.tuple #[]) ∧ WrAt w' b mb (.pointer (some ⟨b, 1, none⟩)) bs ∧ Kp b w w' ∧ w'.heap.size = w.heap.size := by
 rcases h with h | h
 ·refine (ecopy_fresh b mb bs w h).mono ?_
  rintro e w' ⟨rfl, rfl⟩
  obtain ⟨v, h1, h2, h3⟩ := h
  refine ⟨rfl, ⟨v, h1.set 1 _, ?_, h3⟩, ⟨(Below.refl b w).setCell (Nat.le_refl _) _, (Lib.OthersKept.refl _ _ w).setCell ⟨b, 1, none⟩ rfl _⟩, World.size_setCell _ _ _⟩
  exact h2.kept (grown_set w b 1 _) (.inr h3)
 ·refine (ecopy_used b mb bs w h).mono ?_
  rintro e w' ⟨rfl, rfl⟩
  exact ⟨rfl, h, Kp.refl _ _, rfl⟩
theorem ewrite_any (b mb : Nat) (bs : List UInt8) (s : ByteArray) (w : World) (h : Wr w b mb bs) (hl : bs.length + s.size ≤ 1000000) :
  Calls Tryz.prog 72 #[.pointer (some ⟨b, 1, none⟩), .string s] w fun e w' => e = .returned (.tuple #[.int .i64 s.size, .nilIface]) ∧ Wr w' b mb (bs ++ s.data.toList) ∧ Kp b w w' := by
 obtain ⟨i0, hi, hz0, hz1, hz2⟩ := info_parts info_byte
 have HC := hid (ecopy_any b mb bs w h)
 have hbl := h.lt
 clear h
 go_enter Tryz.func72, Tryz.ntmps72
 go_wp2_with fail
 refine HC.out.mono ?_
 rintro e w1 ⟨rfl, ⟨v, h1, h2, h3⟩, hk1, hs1⟩
 have c1 : w1.cell? ⟨b, 1, none⟩ = some (.pointer (some ⟨b, 1, none⟩)) := h1.cell 1
 have c2 : w1.cell? ⟨b, 2, none⟩ = some v := h1.cell 2
 go_wp2_with (at_builtin; refine Lib.wpList_append_own_string _ rfl _ _ 69 9 rfl b 5 i0 Tryz.underlying69 Tryz.underlying9 hi hz0 hz1 hz2 _ _ _ rfl h2 s rfl ?c3 ?c4 ?c5 ?_)
 case c3 => unfold maxLen; omega
 case c4 => omega
 case c5 => omega
 intro v' w2 hown' hgrow _
 have h4 : HB w2 b #[.map (some mb), .pointer (some ⟨b, 1, none⟩), v] 198 := (hgrow.block b h1.lt (fun e => h3 e.symm)).trans h1
 have d2 : w2.cell? ⟨b, 2, none⟩ = some v := h4.cell 2
 have f2 : w2.frozen? ⟨b, 2, none⟩ = false := h4.free 2
 obtain ⟨ao, n', cap, rfl⟩ : ∃ ao n' cap, v' = .slice ao n' cap := by
  rcases hown'.2 with ⟨hv, _⟩ | ⟨g, cap, cur, hv, _⟩
  ·exact ⟨_, _, _, hv⟩
  ·exact ⟨_, _, _, hv⟩
 have hne' : (Value.slice ao n' cap).ownBlock ≠ some b := by
  intro e
  obtain ⟨c, fz, hc⟩ := Lib.ownsRow_kind hown' b e
  have h4' : w2.heap[b]? = some (.cells #[.map (some mb), .pointer (some ⟨b, 1, none⟩), v] 198 (0, 0)) := h4
  rw [h4'] at hc
  injection hc with hc
  injection hc with _ hc2
  exact absurd hc2 (by decide)
 go_wp2
 go_ret2
 refine ⟨rfl, .inr ⟨_, h4.set 2 _, ?_, hne'⟩, hk1.trans ⟨((Below.refl b w1).grown hgrow (by omega) (fun k hk => (h2.lt k hk).1)).setCell (p := ⟨b, 2, none⟩) (Nat.le_refl _) _, ((Lib.OthersKept.refl _ _ w1).grown hgrow (Lib.ownsRow_kind h2)).setCell ⟨b, 2, none⟩ rfl _⟩⟩
 have := hown'.kept (grown_set w2 b 2 (.slice ao n' cap)) (.inr hne')
 rw [List.length_append, Array.length_toList]
 rw [show Lib.byteCells (bs ++ s.data.toList) = Lib.byteCells bs ++ Lib.strCells s by rw [Lib.strCells_eq]; unfold Lib.byteCells; rw [List.map_append]]
 exact this
theorem cells_byte : Tryz.prog.cellsOf 5 = 1 := by kernel_rfl
theorem estring_any (b mb : Nat) (l : List UInt8) (w : World) (h : Wr w b mb l) (h0 : l ≠ []) :
  Calls Tryz.prog 32 #[.pointer (some ⟨b, 1, none⟩)] w fun e w' => e = .returned (.string ⟨l.toArray⟩) ∧ Below b w w' := by
 obtain ⟨p, v, hbk, hown, hne⟩ : ∃ p, WrAt w b mb p l := by
  rcases h with h | h
  ·exact ⟨_, h⟩
  ·exact ⟨_, h⟩
 have hl0 : l.length ≠ 0 := by simpa using h0
 obtain ⟨g, cap, cur, rfl, hbg, hg, hnc, hcm, hcs, htake⟩ : ∃ g cap cur, v = .slice (some ⟨g, 0, none⟩) l.length cap ∧ b ≤ g ∧ w.heap[g]? = some (.cells cur 5 (0, 0)) ∧ l.length ≤ cap ∧ cap ≤ maxLen ∧ cur.size = cap * 1 ∧ cur.toList.take (l.length * 1) = Lib.byteCells l := by
  rcases hown.2 with ⟨_, hz⟩ | ⟨g, cap, cur, hv, r⟩
  ·exact absurd hz hl0
  ·exact ⟨g, cap, cur, hv, r⟩
 have c1 : w.drew.cell? ⟨b, 2, none⟩ = some (.slice (some ⟨g, 0, none⟩) l.length cap) := hbk.cell 2
 have hSD : (Builtin.unsafeSliceData_ #[69] 109 #[.slice (some ⟨g, 0, none⟩) l.length cap]).run Tryz.prog w.drew = .ok (.pointer (some ⟨g, 0, none⟩)) w.drew :=
  Lib.run_unsafeSliceData_row _ _ _ _ _ _ (by omega)
 have hUS : (Builtin.unsafeString_ #[109, 3] 9 #[.pointer (some ⟨g, 0, none⟩), .int .i64 l.length]).run Tryz.prog w.drew = .ok (.string ⟨l.toArray⟩) (w.drew.freeze ⟨g, 0, none⟩ l.length) := by
  refine Lib.run_unsafeString_row w.drew 109 3 9 5 Tryz.underlying109 cells_byte g cur.size (by have hg' : w.drew.heap[g]? = some (.cells cur 5 (0, 0)) := hg; simp [World.shape?, hg']) l h0 (by omega) (by unfold maxLen at hcm; omega) ?_
  intro j x hx
  have := hown.cells (g := g) rfl j (.int .u8 x.toNat) (by simp [Lib.byteCells, hx])
  exact this
 have HF := hid (show Below b w (w.drew.freeze ⟨g, 0, none⟩ l.length) from Lib.below_freeze (Below.drew (Below.refl b w)) (p := ⟨g, 0, none⟩) hbg _)
 have mixed : Tryz.prog.follows .mixedOrders = true := by kernel_rfl
 clear hbk hown hne htake hcs hcm hg h
 go_enter Tryz.func32, Tryz.ntmps32
 go_wp2
 go_region_o
 all_goals (go_wp2; go_ret; exact ⟨rfl, HF.out⟩)
end Go.Proofs.YthpmgnfmeldkjaaGreatDoor.Code
