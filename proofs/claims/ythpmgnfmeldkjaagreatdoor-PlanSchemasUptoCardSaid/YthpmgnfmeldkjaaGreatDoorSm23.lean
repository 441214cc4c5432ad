/-
  What a plan has besides its Kids, as texts: the program's, of a plan without pairs.
-/
import Derived.Test.YthpmgnfmeldkjaaGreatDoorSm21
import Derived.Test.YthpmgnfmeldkjaaGreatDoorSm19
import Derived.Lib.ItoaLen
import Derived.Test.YthpmgnfmeldkjaaGreatDoorSm22
import Derived.Test.YthpmgnfmeldkjaaGreatDoorSm18
import Derived.Deep.DeepCutAuto
import Derived.Test.YthpmgnfmeldkjaaGreatDoorSm7
set_option maxRecDepth 100000
set_option maxHeartbeats 16000000
set_option linter.unusedVariables false
set_option linter.unusedSimpArgs false
open Go.Lib (hid)
namespace Go.Proofs.YthpmgnfmeldkjaaGreatDoor.Code
open Go.ChangeShapes Go.WideShapes Go.ChangeAt Go.RowKit Val Elems
def agT (x : List UInt8 × Int) : List UInt8 := x.1 ++ [32] ++ Lib.itoa x.2
def byT (l : List Int) : List (List UInt8) := if l = [] then [] else [Lib.join (l.map Lib.itoa) [32]]
def besP (p : Pl) : List (List UInt8) := p.ex.map showE ++ (byT p.bk ++ p.ag.map agT)
def fits64 (n : Int) : Prop := -9223372036854775808 ≤ n ∧ n ≤ 9223372036854775807
theorem pitoa_any (n : Int) (hn : fits64 n) (B : Nat) (m : Int) (w : World) (hg : Glob B m w) : Calls Tryz.prog 120 #[.int .i64 n] w fun e w' => e = .returned (.string ⟨(Lib.itoa n).toArray⟩) ∧ Below w.heap.size w w' := by
 refine (Tryz.strconv_Itoa n hn.1 hn.2 w hg.tab).mono ?_
 rintro e w' ⟨he, k, os, rfl⟩
 exact ⟨he, Lib.below_grow _ w (Nat.le_refl _) k os⟩
theorem sblk_own {w : World} {g B : Nat} {L : List (List UInt8)} (h : SBlk w g (bsL L)) (hB : B ≤ g) (hl : L.length ≤ maxLen) : w.ownsRow B 9 1 (.slice (some ⟨g, 0, none⟩) L.length L.length) L.length (flatC sc L) := by
 have e : flatC sc L = (bsL L).map Value.string := by
  unfold bsL
  rw [List.map_map]
  clear h hl
  induction L with
  | nil => rfl
  | cons x l ih =>
   show sc x ++ flatC sc l = _
   rw [ih]
   rfl
 refine ⟨by rw [e, List.length_map, bsL_len, Nat.mul_one], .inr ⟨g, L.length, _, rfl, hB, h, Nat.le_refl _, hl, by simp [bsL], ?_⟩⟩
 rw [e, Nat.mul_one]
 refine List.take_of_length_le ?_
 simp [bsL]
theorem sblk_at {w : World} {g : Nat} {L : List (List UInt8)} (h : SBlk w g (bsL L)) (hg : g < w.heap.size) : At sc 1 w w.heap.size (some ⟨g, 0, none⟩) L := by
 intro i hi
 refine ⟨⟨g, 0, none⟩, rfl, hg, fun j u hu => ?_⟩
 have hj : j = 0 := by
  have := (List.getElem?_eq_some_iff.1 hu).1
  have : (sc L[i]).length = 1 := rfl
  omega
 subst hj
 cases hu
 rw [Nat.mul_one, Nat.add_zero]
 have h1 := h.cell i ⟨L[i].toArray⟩ (by unfold bsL; rw [List.getElem?_map, List.getElem?_eq_getElem hi]; rfl)
 rw [Addr.add_lit, Nat.zero_add]
 exact h1
theorem lens_cons (x : List UInt8) (l : List (List UInt8)) : Lib.lens (x :: l) = x.length + Lib.lens l := by simp [Lib.lens]
theorem sum_ba (a b : ByteArray) (l m : List UInt8) (ha : a.data.toList = l) (hb : b.data.toList = m) : a ++ b = ⟨(l ++ m).toArray⟩ := by
 have h : (a ++ b).data.toList = l ++ m := by rw [ByteArray.data_append, Array.toList_append, ha, hb]
 rw [← Lib.mk_data (a ++ b), h]
theorem pbes2_any (s : ByteArray) (n : Int) (m : Int) (w : World) (hs : s.size ≤ 1000) (hn : fits64 n) (hg : Glob w.heap.size m w) :
  Calls Tryz.prog 123 #[.agg #[.string s, .int .i64 n]] w fun e w' => e = .returned (.string ⟨(s.data.toList ++ [32] ++ Lib.itoa n).toArray⟩) ∧ Below w.heap.size w w' := by
 obtain ⟨w0, hw0⟩ : ∃ w0, w.alloc (.cells #[.string s, .int .i64 n] 82) = w0 := ⟨_, rfl⟩
 have B0 := hid (show Below w.heap.size w w0 by rw [← hw0]; exact below_alloc _ _)
 have c0 : w0.cell? ⟨w.heap.size, 0, none⟩ = some (.string s) := by rw [← hw0]; simp [go_sem]
 have c1 : w0.cell? ⟨w.heap.size, 1, none⟩ = some (.int .i64 n) := by rw [← hw0]; simp [go_sem]
 have z0 : w.heap.size < w0.heap.size := by rw [← hw0]; simp
 have HI := hid (fun (w' : World) (hb : Below w.heap.size w w') => pitoa_any n hn _ m w' (hg.next hb))
 have hil : (Lib.itoa n).length ≤ 21 := Lib.itoa_length_le n hn.1 hn.2
 obtain ⟨T, hT⟩ : ∃ T : ByteArray, ⟨(Lib.itoa n).toArray⟩ = T := ⟨_, rfl⟩
 have hTs : T.size ≤ 21 := by rw [← hT]; simpa [ByteArray.size] using hil
 have hTl : T.data.toList = Lib.itoa n := by rw [← hT]
 rw [hT] at HI
 have hml : (1100 : Nat) ≤ maxLen := by unfold maxLen; omega
 have r1 : ∀ w, (Op.stringOp .add s ⟨#[32]⟩).run Tryz.prog w = .ok (.string (s ++ ⟨#[32]⟩)) w := fun w => run_string_add_sum w _ _ (by show s.size + 1 ≤ _; omega)
 obtain ⟨s1, hs1⟩ : ∃ s1 : ByteArray, s ++ ⟨#[32]⟩ = s1 := ⟨_, rfl⟩
 have z1s : s1.size = s.size + 1 := by rw [← hs1, ByteArray.size_append]; rfl
 have r2 : ∀ w, (Op.stringOp .add s1 T).run Tryz.prog w = .ok (.string (s1 ++ T)) w := fun w => run_string_add_sum w _ _ (by omega)
 have HR := hid (show s1 ++ T = ⟨(s.data.toList ++ [32] ++ Lib.itoa n).toArray⟩ from sum_ba s1 T _ _ (by rw [← hs1, ByteArray.data_append, Array.toList_append]) hTl)
 obtain ⟨s2, hs2⟩ : ∃ s2 : ByteArray, s1 ++ T = s2 := ⟨_, rfl⟩
 rw [hs1] at r1
 rw [hs2] at r2 HR
 rw [← HR.out]
 have HW0 := hid hw0
 have FQ := hid (fun (w' : World) (hb : Below w0.heap.size w0 w') => show (w'.cell? ⟨w.heap.size, 0, none⟩ = some (.string s) ∧ w'.cell? ⟨w.heap.size, 1, none⟩ = some (.int .i64 n)) ∧ Below w0.heap.size w0 w' from ⟨⟨(hb.cell (p := ⟨w.heap.size, 0, none⟩) z0).trans c0, (hb.cell (p := ⟨w.heap.size, 1, none⟩) z0).trans c1⟩, hb⟩)
 clear hs hn hg hil hT hTs hTl hs1 z1s hs2 hw0 HR hml
 go_enter Tryz.func123, Tryz.ntmps123
 go_upto_region 1 with fail
 rw [HW0.out]
 clear HW0
 go_region_held3 (fun w' => (w'.cell? ⟨w.heap.size, 0, none⟩ = some (.string s) ∧ w'.cell? ⟨w.heap.size, 1, none⟩ = some (.int .i64 n)) ∧ Below w0.heap.size w0 w')
  (first | assumption | (exact FQ.out _ ((show _ ∧ Below w0.heap.size w0 _ by assumption).2.trans (hb9.mono (show _ ∧ Below w0.heap.size w0 _ by assumption).2.size))) | (exact FQ.out _ (Below.drew (Below.refl _ _))))
  (first | (go_at_call 120; refine (HI.out _ (B0.out.trans ((show _ ∧ Below w0.heap.size w0 _ by assumption).2.mono B0.out.size))).mono ?_; rintro e w5 ⟨rfl, hb9⟩))
 all_goals go_wp2
 all_goals go_ret
 all_goals exact ⟨rfl, B0.out.trans ((show _ ∧ Below w0.heap.size w0 _ by assumption).2.mono B0.out.size)⟩
theorem besides_any (p : Pl) (S : Nat → Prop) (x : PV) (m : Int) (w : World) (hS : ∀ b, S b → b < w.heap.size) (hn : PIn w S p x) (hf : FitR p) (hon : p.on = []) (hex : ∀ t ∈ p.ex, EShows t ∧ (showE t).length ≤ 900000) (hbk : ∀ n ∈ p.bk, fits64 n) (hag : ∀ a ∈ p.ag, fits64 a.2) (hg : Glob w.heap.size m w) :
  Calls Tryz.prog 74 #[.agg (plcs x)] w fun e w' => ∃ v, e = .returned v ∧ w'.ownsRow w.heap.size 9 1 v (besP p).length (flatC sc (besP p)) ∧ Below w.heap.size w w' := by
 have hle := hn.rest.lex
 have hlo := hn.rest.lon
 have hlb := hn.rest.lbk
 have hla := hn.rest.lag
 obtain ⟨op, tab, co, ki, ⟨e1, e2, e3⟩, ⟨o1, o2, o3⟩, ⟨b1, b2, b3⟩, ⟨a1, a2, a3⟩⟩ := x
 dsimp only at hle hlo hlb hla
 rw [hon, List.length_nil] at hlo
 subst hle hlo hlb hla
 have hfe := hf.ex
 have hfb := hf.bk
 have hfa := hf.ag
 have HN := hid (fun (w' : World) (hb : Below w.heap.size w w') => (hn.bel hS hb).rest)
 have HS := hid hS
 have HG := hid (fun (w' : World) (hb : Below w.heap.size w w') => hg.next hb)
 -- each text
 have HT1 := hid (fun (w' : World) (hb : Below w.heap.size w w') => textsN_any 117 (enters_of Tryz.func117 (by kernel_rfl) rfl) #[] (bsL (p.ex.map showE)) e1 e3 p.ex S w' (fun g h => Nat.lt_of_lt_of_le (hS g h) hb.size) (HN.out w' hb).ex (by omega) (by rw [bsL_len, List.length_map]) (fun i hi hi' op' tx' X' n' m' w2 hb2 hr => by
  have h := (hex _ (List.getElem_mem hi)).1 (by have := hf.exs _ (List.getElem_mem hi); omega) (hex _ (List.getElem_mem hi)).2 m S op' tx' X' n' m' w2 ⟨HG.out w2 (hb.trans (hb2.mono hb.size))⟩ (fun g h => Nat.lt_of_lt_of_le (hS g h) (Nat.le_trans hb.size hb2.size)) hr
  rw [show (bsL (p.ex.map showE))[i] = ⟨(showE p.ex[i]).toArray⟩ by simp [bsL]]
  exact h))
 have HT2 := hid (fun (w' : World) (hb : Below w.heap.size w w') => textsP_any 119 (enters_of Tryz.func119 (by kernel_rfl) rfl) #[] [] o1 o3 [] w' (At.nil _ _ _) (by simp) rfl (fun i hi => absurd hi (Nat.not_lt_zero _)))
 have HT3 := hid (fun (w' : World) (hb : Below w.heap.size w w') => textsI_any 120 (enters_of Tryz.func120 (by kernel_rfl) rfl) #[] (bsL (p.bk.map Lib.itoa)) b1 b3 p.bk w' ((HN.out w' hb).bk.at (fun b h => Nat.lt_of_lt_of_le (hS b h) hb.size)) (by omega) (by rw [bsL_len, List.length_map]) (fun i hi hi' w2 hb2 => by
  have h := pitoa_any p.bk[i] (hbk _ (List.getElem_mem hi)) _ m w2 (HG.out w2 (hb.trans (hb2.mono hb.size)))
  rw [show (bsL (p.bk.map Lib.itoa))[i] = ⟨(Lib.itoa p.bk[i]).toArray⟩ by simp [bsL]]
  exact h))
 have HT4 := hid (fun (w' : World) (hb : Below w.heap.size w w') => textsA_any 123 (enters_of Tryz.func123 (by kernel_rfl) rfl) #[] (bsL (p.ag.map agT)) a1 a3 p.ag w' ((HN.out w' hb).ag.at (fun b h => Nat.lt_of_lt_of_le (hS b h) hb.size)) (by omega) (by rw [bsL_len, List.length_map]) (fun i hi hi' w2 hb2 => by
  have h := pbes2_any ⟨p.ag[i].1.toArray⟩ p.ag[i].2 m w2 (by have := hf.ags _ (List.getElem_mem hi); simpa [ByteArray.size] using this) (hag _ (List.getElem_mem hi)) (HG.out w2 (hb.trans (hb2.mono hb.size)))
  rw [show (bsL (p.ag.map agT))[i] = ⟨(agT p.ag[i]).toArray⟩ by simp [bsL]]
  exact h))
 -- WALK
 unfold TxPost at HT1 HT2 HT3 HT4
 simp only [bsL_len, List.length_map, List.length_nil] at HT1 HT2 HT3 HT4
 obtain ⟨E, hE⟩ : ∃ E, p.ex.map showE = E := ⟨_, rfl⟩
 obtain ⟨G, hG⟩ : ∃ G, p.ag.map agT = G := ⟨_, rfl⟩
 obtain ⟨K, hK⟩ : ∃ K, p.bk.map Lib.itoa = K := ⟨_, rfl⟩
 have hEl : p.ex.length = E.length := by rw [← hE, List.length_map]
 have hGl : p.ag.length = G.length := by rw [← hG, List.length_map]
 have hKl : p.bk.length = K.length := by rw [← hK, List.length_map]
 have HBE := hid (show besP p = E ++ (byT p.bk ++ G) by unfold besP; rw [hE, hG])
 have HKJ := hid (show p.bk ≠ [] → byT p.bk = [Lib.join K [32]] from fun h => by unfold byT; rw [if_neg h, hK])
 have HKL := hid (show (Lib.join K [32]).length ≤ 100000 by
  have h1 : ∀ (l : List Int), (∀ n ∈ l, fits64 n) → Lib.lens (l.map Lib.itoa) ≤ 21 * l.length := by
   intro l
   induction l with
   | nil => intro _; simp [Lib.lens]
   | cons a l ih =>
    intro h
    have h2 := ih (fun n hn => h n (List.mem_cons_of_mem _ hn))
    have h3 := Lib.itoa_length_le a (h a (by simp)).1 (h a (by simp)).2
    rw [List.map_cons, List.length_cons, lens_cons]
    omega
  rw [← hK]
  cases hb : p.bk with
  | nil => rw [List.map_nil, Lib.join_nil]; exact Nat.zero_le _
  | cons a l =>
   have h2 := h1 (a :: l) (by rw [← hb]; exact hbk)
   have h3 := hf.bk
   rw [hb] at h3
   rw [List.map_cons] at h2 ⊢
   rw [Lib.join_length]
   simp only [List.length_cons, List.length_map, List.length_nil] at *
   omega)
 rw [hE] at HT1
 rw [hK] at HT3
 rw [hG] at HT4
 rw [hEl] at HT1
 rw [hGl] at HT4
 rw [hKl] at HT3
 obtain ⟨w0, hw0⟩ : ∃ w0, w.alloc (.cells (plcs ⟨op, tab, co, ki, (e1, p.ex.length, e3), (o1, 0, o3), (b1, p.bk.length, b3), (a1, p.ag.length, a3)⟩) 35) = w0 := ⟨_, rfl⟩
 have N0 := hid (show PBox w0 w.heap.size ⟨op, tab, co, ki, (e1, p.ex.length, e3), (o1, 0, o3), (b1, p.bk.length, b3), (a1, p.ag.length, a3)⟩ by rw [← hw0]; exact PBox.fresh _ _ _)
 have B0 := hid (show Below w.heap.size w w0 by rw [← hw0]; exact below_alloc w _)
 have hz0 := B0.out.size
 unfold plcs at hw0 ⊢
 rw [hEl, hGl, hKl] at hw0 N0 ⊢
 have HW0 := hid hw0
 have HBN := hid (show p.bk = [] ↔ K.length = 0 by rw [← hKl]; exact List.length_eq_zero_iff.symm)
 obtain ⟨i0, hi0, hz0', hz1, hz2⟩ := info_parts info_strQ
 have hz0 := hz0'
 have hEn : E.length ≤ 1000 := by omega
 have hGn : G.length ≤ 1000 := by omega
 have hKn : K.length ≤ 1000 := by omega
 clear hE hG hK hEl hGl hKl hfe hfb hfa hex hbk hag hg hn hS hf hon hw0 HN HS HG hz0'
 go_enter Tryz.func74, Tryz.ntmps74
 go_upto_region 1 with fail
 rw [HW0.out]
 obtain ⟨x0, x1, x2, x3, x4, x5, x6, x7, xf⟩ := N0.out
 dsimp only at x4
 clear x0 x1 x2 x3 x5 x6 x7 xf HW0
 go_wp2_with fail
 refine (HT1.out w0 B0.out).mono ?_
 rintro e w1 ⟨rfl, hs1, hb1⟩
 have O1 := hid (sblk_own (B := w.heap.size + 1) hs1 N0.out.lt (by unfold maxLen; omega))
 have L1 := hid (B0.out.trans (hb1.mono B0.out.size))
 have N1 := hid (N0.out.below hb1)
 clear hs1 hb1 x4 HT1
 obtain ⟨x0, x1, x2, x3, x4, x5, x6, x7, xf⟩ := N1.out
 dsimp only at x5
 clear x0 x1 x2 x3 x4 x6 x7 xf
 go_wp2_with fail
 refine (HT2.out w1 L1.out).mono ?_
 rintro e w2 ⟨rfl, hs2, hb2⟩
 have O2 := hid (own_call O1.out hb2)
 have L2 := hid (L1.out.trans (hb2.mono L1.out.size))
 have N2 := hid (N1.out.below hb2)
 have hzw2 := N2.out.lt
 clear hs2 hb2 x5 HT2
 go_wp2_with (at_builtin; refine wpList_append_at (k := 1) (c := sc) sc_length (by decide) sc_one rfl _ _ 43 rfl (w.heap.size + 1) 9 i0 _ 16 Tryz.underlying43 hi0 hz0 hz1 hz2 rfl _ E.length (flatC sc E) rfl O2.out w2.heap.size (some ⟨w1.heap.size, 0, none⟩) 0 [] rfl (At.nil _ _ _) ?c3 ?c4 ?c5 ?_)
 case c3 => unfold maxLen; simp; omega
 case c4 => simp; omega
 case c5 => omega
 intro v3 w3 hown3 hgrow3
 try simp only [show flatC sc ([] : List (List UInt8)) = [] from rfl, List.append_nil, List.length_nil, Nat.add_zero] at hown3
 have hrow3 : ∀ j, (Value.slice (some ⟨w0.heap.size, 0, none⟩) E.length E.length).ownBlock = some j → w0.heap.size ≤ j := fun j e => by cases e; exact Nat.le_refl _
 have hlt0 : w.heap.size < w0.heap.size := N0.out.lt
 have O3 := hid hown3
 have L3 := hid (L2.out.trans (show Below w.heap.size w2 w3 from ⟨hgrow3.os, hgrow3.tape, hgrow3.output, hgrow3.size, fun j hj => hgrow3.block j (by omega) (fun e => by have := hrow3 j e.symm; omega)⟩))
 have N3 := hid (N2.out.grown hgrow3 (fun e => by have := hrow3 _ e.symm; omega))
 clear hown3 hgrow3 hrow3
 by_cases hb0 : K.length = 0
 ·have HB0 := hid hb0
  have HBE := hid (show besP p = E ++ G by rw [HBE.out, HBN.out.2 hb0]; rfl)
  obtain ⟨x0, x1, x2, x3, x4, x5, x6, x7, xf⟩ := N3.out
  dsimp only at x6
  rw [hb0] at x6
  clear x0 x1 x2 x3 x4 x5 x7 xf hb0 HT3
  go_upto_region 5 with fail
  clear x6
  obtain ⟨x0, x1, x2, x3, x4, x5, x6, x7, xf⟩ := N3.out
  dsimp only at x7
  clear x0 x1 x2 x3 x4 x5 x6 xf
  go_wp2_with fail
  refine (HT4.out w3 L3.out).mono ?_
  rintro e w8 ⟨rfl, hs8, hb8⟩
  have O8 := hid (own_call O3.out hb8)
  have L8 := hid (L3.out.trans (hb8.mono L3.out.size))
  have T8 := hid (sblk_at hs8 hs8.lt)
  have hz8 := L8.out.size
  have hz8b := N3.out.lt
  have hz8d := hb8.size
  clear hs8 hb8 x7
  go_wp2_with (at_builtin; refine wpList_append_at (k := 1) (c := sc) sc_length (by decide) sc_one rfl _ _ 43 rfl (w.heap.size + 1) 9 i0 _ 16 Tryz.underlying43 hi0 hz0 hz1 hz2 rfl _ E.length (flatC sc E) rfl O8.out w8.heap.size (some ⟨w3.heap.size, 0, none⟩) G.length G rfl T8.out ?c3 ?c4 ?c5 ?_)
  case c3 => unfold maxLen; omega
  case c4 => omega
  case c5 => omega
  intro v9 w9 hown9 hgrow9
  have O9 := hid hown9
  have L9 := hid (L8.out.trans (show Below w.heap.size w8 w9 from ⟨hgrow9.os, hgrow9.tape, hgrow9.output, hgrow9.size, fun j hj => hgrow9.block j (by omega) (fun e => by have := (O8.out.lt j e.symm).1; omega)⟩))
  clear hown9 hgrow9
  go_wp2
  go_ret
  exact ⟨_, rfl, by rw [HBE.out]; rw [flatC_append, List.length_append]; exact own_le O9.out (Nat.le_succ _), L9.out⟩
 ·have HB0 := hid hb0
  have HBE := hid (show besP p = (E ++ [Lib.join K [32]]) ++ G by rw [HBE.out, HKJ.out (fun h => hb0 (HBN.out.1 h)), List.append_assoc])
  have hk0 : (0 : Int) < (K.length : Int) := by omega
  have hk1 : 0 < K.length := by omega
  obtain ⟨x0, x1, x2, x3, x4, x5, x6, x7, xf⟩ := N3.out
  dsimp only at x6
  clear x0 x1 x2 x3 x4 x5 x7 xf hb0
  go_wp2_with fail
  refine (HT3.out w3 L3.out).mono ?_
  rintro e w4 ⟨rfl, hs4, hb4⟩
  have O4 := hid (own_call O3.out hb4)
  have L4 := hid (L3.out.trans (hb4.mono L3.out.size))
  have N4 := hid (N3.out.below hb4)
  have hj := Tryz.strings_Join w3.heap.size 0 K.length (bsL K) ⟨#[32]⟩ w4 (fun j x hx => by rw [Nat.zero_add]; exact hs4.cell j x hx) hs4.lt (by rw [bsL_len]; omega) (by rw [bsL_len]; exact Nat.le_refl _) (by rw [show (bsL K).map (·.data.toList) = K by unfold bsL; rw [List.map_map]; simp [Function.comp_def]]; have := HKL.out; show (Lib.join K [32]).length ≤ _; omega)
  rw [show (bsL K).map (·.data.toList) = K by unfold bsL; rw [List.map_map]; simp [Function.comp_def], show (⟨#[32]⟩ : ByteArray).data.toList = [32] from rfl, bsL_len] at hj
  obtain ⟨J, hJ⟩ : ∃ J, Lib.join K [32] = J := ⟨_, rfl⟩
  rw [hJ] at hj HBE
  have HJ := hid hj
  clear hs4 hb4 x6 hj hJ HT3
  go_wp2_with fail
  refine HJ.out.mono ?_
  rintro e w5 ⟨rfl, hb5⟩
  have O5 := hid (own_call O4.out hb5)
  have L5 := hid (L4.out.trans (hb5.mono L4.out.size))
  have N5 := hid (N4.out.below hb5)
  have hzw5 := L5.out.size
  clear hb5 HJ
  obtain ⟨w6, hw6⟩ : ∃ w6, w5.alloc (.cells #[.string ⟨J.toArray⟩] 9) = w6 := ⟨_, rfl⟩
  have B6 := hid (show Below w5.heap.size w5 w6 by rw [← hw6]; exact below_alloc _ _)
  have O6 := hid (own_call O5.out B6.out)
  have L6 := hid (L5.out.trans (B6.out.mono L5.out.size))
  have N6 := hid (N5.out.below B6.out)
  have T6 := hid (show At sc 1 w6 w6.heap.size (some ⟨w5.heap.size, 0, none⟩) [J] from sblk_at (by rw [← hw6]; exact heap_alloc_new w5 _) (by rw [← hw6]; simp))
  have hzw6 := N6.out.lt
  have HW6 := hid hw6
  clear hw6
  go_wp2_with (at_builtin; try rw [HW6.out]; refine wpList_append_at (k := 1) (c := sc) sc_length (by decide) sc_one rfl _ _ 43 rfl (w.heap.size + 1) 9 i0 _ 16 Tryz.underlying43 hi0 hz0 hz1 hz2 rfl _ E.length (flatC sc E) rfl O6.out w6.heap.size (some ⟨w5.heap.size, 0, none⟩) 1 [J] rfl T6.out ?c3 ?c4 ?c5 ?_)
  case c3 => unfold maxLen; simp; omega
  case c4 => simp; omega
  case c5 => omega
  intro v7 w7 hown7 hgrow7
  have hrow7 := (fun j e => (O6.out.lt j e).1 : ∀ j, _ → w.heap.size + 1 ≤ j)
  have O7 := hid (show w7.ownsRow (w.heap.size + 1) 9 1 v7 (E ++ [J]).length (flatC sc (E ++ [J])) by rw [flatC_append, List.length_append]; exact hown7)
  have L7 := hid (L6.out.trans (show Below w.heap.size w6 w7 from ⟨hgrow7.os, hgrow7.tape, hgrow7.output, hgrow7.size, fun j hj => hgrow7.block j (by omega) (fun e => by have := hrow7 j e.symm; omega)⟩))
  have N7 := hid (N6.out.grown hgrow7 (fun e => by have := hrow7 _ e.symm; omega))
  clear hown7 hgrow7 hrow7
  obtain ⟨Q, hQ⟩ : ∃ Q, E ++ [J] = Q := ⟨_, rfl⟩
  have hQn : Q.length ≤ 1001 := by rw [← hQ, List.length_append, List.length_singleton]; omega
  rw [hQ] at O7 HBE
  clear hQ
  obtain ⟨x0, x1, x2, x3, x4, x5, x6, x7, xf⟩ := N7.out
  dsimp only at x7
  clear x0 x1 x2 x3 x4 x5 x6 xf
  go_wp2_with fail
  refine (HT4.out w7 L7.out).mono ?_
  rintro e w8 ⟨rfl, hs8, hb8⟩
  have O8 := hid (own_call O7.out hb8)
  have L8 := hid (L7.out.trans (hb8.mono L7.out.size))
  have T8 := hid (sblk_at hs8 hs8.lt)
  have hz8 := L8.out.size
  have hz8b := N7.out.lt
  have hz8d := hb8.size
  clear hs8 hb8 x7
  go_wp2_with (at_builtin; refine wpList_append_at (k := 1) (c := sc) sc_length (by decide) sc_one rfl _ _ 43 rfl (w.heap.size + 1) 9 i0 _ 16 Tryz.underlying43 hi0 hz0 hz1 hz2 rfl _ Q.length (flatC sc Q) rfl O8.out w8.heap.size (some ⟨w7.heap.size, 0, none⟩) G.length G rfl T8.out ?c3 ?c4 ?c5 ?_)
  case c3 => unfold maxLen; omega
  case c4 => omega
  case c5 => omega
  intro v9 w9 hown9 hgrow9
  have O9 := hid hown9
  have L9 := hid (L8.out.trans (show Below w.heap.size w8 w9 from ⟨hgrow9.os, hgrow9.tape, hgrow9.output, hgrow9.size, fun j hj => hgrow9.block j (by omega) (fun e => by have := (O8.out.lt j e.symm).1; omega)⟩))
  clear hown9 hgrow9
  go_wp2
  go_ret
  exact ⟨_, rfl, by rw [HBE.out]; rw [flatC_append, List.length_append]; exact own_le O9.out (Nat.le_succ _), L9.out⟩
mutual
def Pl.deep : Pl → Nat
 | .mk _ _ _ _ _ _ _ ks => Pl.deepL ks + 1
def Pl.deepL : List Pl → Nat
 | [] => 0
 | p :: l => max p.deep (Pl.deepL l)
end
theorem pdeep_ks (p : Pl) : p.deep = Pl.deepL p.ks + 1 := by cases p; rw [Pl.deep]; rfl
theorem pdeepL_mem {x : Pl} : ∀ {l : List Pl}, x ∈ l → x.deep ≤ Pl.deepL l
 | [], h => absurd h (by simp)
 | p :: l, h => by
  rw [Pl.deepL]
  rcases List.mem_cons.1 h with rfl | h
  ·omega
  ·have := pdeepL_mem h
   omega
theorem names_is (p : Pl) : namesP p = (if p.op = sFrom then [p.tab] else []) ++ namesPL p.ks := by
 cases p with
 | mk o t e n b a c ks => exact namesP.eq_1 o t e n b a c ks
theorem namess_take (l : List Pl) (k : Nat) : (namesPL (l.take k)).length ≤ (namesPL l).length := by
 induction l generalizing k with
 | nil => simp [namesPL]
 | cons n l ih =>
  cases k with
  | zero => simp [namesPL]
  | succ k =>
   have := ih k
   simp only [List.take_succ_cons, namesPL, List.length_append]
   omega
theorem namesPL_take (l : List Pl) (k : Nat) (h : k < l.length) : namesPL (l.take (k + 1)) = namesPL (l.take k) ++ namesP l[k] := by
 induction l generalizing k with
 | nil => simp at h
 | cons n l ih =>
  cases k with
  | zero => simp [namesPL]
  | succ k =>
   have := ih k (by simpa using h)
   simp only [List.take_succ_cons, namesPL, List.getElem_cons_succ, this, List.append_assoc]
theorem ptables_any : ∀ (d : Nat) (p : Pl), p.deep ≤ d → fitP p → ∀ (S : Nat → Prop) (x : PV) (w : World) (B : Nat), B ≤ w.heap.size → ∀ (Q : List (List UInt8)) (v : Value), w.ownsRow B 9 1 v Q.length (flatC sc Q) → (∀ g, S g → g < B) → PIn w S p x → Q.length + (namesP p).length ≤ 100000000 →
  Calls Tryz.prog 34 #[v, .agg (plcs x)] w fun e w' => ∃ v', e = .returned v' ∧ w'.ownsRow B 9 1 v' (Q ++ namesP p).length (flatC sc (Q ++ namesP p)) ∧ Below B w w'
 | 0, p, h, _, _, _, _, _, _, _, _, _, _, _, _ => absurd h (by rw [pdeep_ks]; omega)
 | d + 1, p, h, hfit, S, x, w, B, hBw, Q, v, hv, hS, hn, hln => by
  have hlv := names_is p
  have ih := hid (fun k (hk : k < p.ks.length) => ptables_any d p.ks[k] (by have := pdeepL_mem (List.getElem_mem hk); rw [pdeep_ks] at h; omega) (hfit.kid _ (List.getElem_mem hk)))
  have hkn := hfit.rest.ks
  have hro := hn.rest.op
  have hrt := hn.rest.tab
  have hkl := hn.kids
  obtain ⟨op, tab, co, ⟨X, nk, mk⟩, ex, on, bk, ag⟩ := x
  dsimp only at hro hrt hkl
  obtain ⟨i0, hi0, hz0, hz1, hz2⟩ := info_parts info_strQ
  obtain ⟨P0, hP0⟩ : ∃ P0, Q ++ (if p.op = sFrom then [p.tab] else []) = P0 := ⟨_, rfl⟩
  have hlv2 : Q ++ namesP p = P0 ++ namesPL p.ks := by rw [hlv, ← List.append_assoc, hP0]
  have HS := hid hS
  have HLV := hid hlv2
  have HLN := hid (show P0.length + (namesPL p.ks).length ≤ 100000000 by rw [← List.length_append, ← hlv2, List.length_append]; exact hln)
  subst hkl
  have HN := hid hn
  have HV := hid hv
  obtain ⟨w0, hw0⟩ : ∃ w0, w.alloc (.cells (plcs ⟨op, tab, co, (X, p.ks.length, mk), ex, on, bk, ag⟩) 35) = w0 := ⟨_, rfl⟩
  have N0 := hid (show PBox w0 w.heap.size ⟨op, tab, co, (X, p.ks.length, mk), ex, on, bk, ag⟩ by rw [← hw0]; exact PBox.fresh _ _ _)
  have B0 := hid (show Below B w w0 by rw [← hw0]; exact (Below.refl _ _).alloc hBw _)
  have O0 := hid (show w0.ownsRow B 9 1 v Q.length (flatC sc Q) by rw [← hw0]; exact own_call hv (below_alloc _ _))
  have zw0 : w0.heap.size = w.heap.size + 1 := by rw [← hw0]; simp
  unfold plcs at hw0
  have HW0 := hid hw0
  by_cases hf : p.op = sFrom
  ·rw [if_pos hf] at hP0
   have ho : op = ⟨#[102, 114, 111, 109]⟩ := by rw [hro, hf]; rfl
   subst ho
   have HP0 := hid (show P0.length = Q.length + 1 by rw [← hP0]; simp)
   have HPQ := hid hP0
   have HT := hid hrt
   have hqs : Q.length ≤ 100000000 := by omega
   clear h hln hS hn hlv hlv2 hP0 hro hrt hf hw0 hv
   unfold plcs
   go_enter Tryz.func34, Tryz.ntmps34
   obtain ⟨x0, x1, x2, x3, x4, x5, x6, x7, xf⟩ := N0.out
   dsimp only at x0 x1 x2 x3 x4 x5 x6 x7
   go_wp2_with (at_builtin; try rw [HW0.out]; refine wpList_append_lies _ rfl _ _ _ rfl B 9 i0 _ 1 16 Tryz.underlying43 hi0 hz0 hz1 hz2 rfl (by omega) _ Q.length (flatC sc Q) rfl ?ca ⟨w.heap.size + 1, 0, none⟩ 1 1 [.string tab] rfl rfl ?cn ?co (by omega) ?cm ?cb ?cz9 (w.heap.size + 1 + 1) ?ch ?_)
   case ca => exact own_call O0.out (below_alloc _ _)
   try case cn => exact World.news_of_block (cs := #[.string tab]) (t := 9) (fr := (0, 0)) (by rw [← zw0]; exact heap_alloc_new w0 _)
   case co => first | rfl | (intro u hu; simp at hu; subst hu; rfl)
   case cm => unfold maxLen; omega
   case cb => omega
   case cz9 => first | omega | (simp; omega)
   try case ch => simp [zw0]
   intro gg cap9 w9 hown9 hgrow hat hlt9
   have hrow : ∀ k, v.ownBlock = some k → B ≤ k := fun k e => (O0.out.lt k e).1
   have B1 := hid (show Below B w w9 from B0.out.trans (((Below.refl B w0).alloc (by omega) _).trans ⟨hgrow.os, hgrow.tape, hgrow.output, hgrow.size, fun j hj => hgrow.block j (by simp; omega) (fun e => by have := hrow j e.symm; omega)⟩))
   have Z1 : w.heap.size < w9.heap.size := by have := hgrow.size; simp at this; omega
   have N1 := hid ((N0.out.alloc (.cells #[.string tab] 9)).grown hgrow (fun e => by have := (HV.out.lt _ e.symm).2; omega))
   have O1 := hid (show w9.ownsRow B 9 1 (.slice (some ⟨gg, 0, none⟩) (Q.length + 1) cap9) (P0 ++ namesPL (p.ks.take 0)).length (flatC sc (P0 ++ namesPL (p.ks.take 0))) by
    have e : P0 ++ namesPL (p.ks.take 0) = Q ++ [p.tab] := by simp [namesPL, HPQ.out]
    rw [e, flatC_append]
    have e2 : flatC sc [p.tab] = [.string tab] := by simp [flatC, sc, ← HT.out]
    rw [e2, List.length_append]
    exact hown9)
   clear hown9 hgrow hat hlt9 HW0 hrow x0 x1 x2 x3 x4 x5 x6 x7 xf
   obtain ⟨x0, x1, x2, x3, x4, x5, x6, x7, xf⟩ := N1.out
   dsimp only at x0 x1 x2 x3 x4 x5 x6 x7
   go_wp2
   go_loopw [0, 18] (fun v t' wr => ∃ (k : Nat), k ≤ p.ks.length ∧ t' = .int .i64 k ∧ wr.ownsRow B 9 1 v (P0 ++ namesPL (p.ks.take k)).length (flatC sc (P0 ++ namesPL (p.ks.take k))) ∧ Below B w wr ∧ w.heap.size < wr.heap.size) (fun _ t' _ => p.ks.length - (intOf t').toNat)
   case atStart => exact ⟨0, by omega, rfl, O1.out, B1.out, Z1⟩
   case round =>
    obtain ⟨k, hk, rfl, hown, hb, hz⟩ := hrel
    have HB := hid hb
    have HO := hid hown
    have HK := hid (HN.out.keep (w' := wr) (fun _ h => h) (fun p hp => hb.cell (HS.out _ hp)))
    clear hb hown
    by_cases hlt : k < p.ks.length
    ·obtain ⟨ad, y, eA, hS', q0, qs, hk'⟩ := HK.out.kid k hlt
     dsimp only at eA
     subst eA
     have q1 := qs 0 _ rfl
     have q2 := qs 1 _ rfl
     have q3 := qs 2 _ rfl
     have q4 := qs 3 _ rfl
     have q5 := qs 4 _ rfl
     have q6 := qs 5 _ rfl
     have q7 := qs 6 _ rfl
     unfold sv at q2 q3 q4 q5 q6 q7
     clear qs
     have had := HS.out _ hS'
     have HDT := hid (namesPL_take p.ks k hlt)
     have hb1 : (P0 ++ namesPL (p.ks.take k)).length + (namesP p.ks[k]).length ≤ 100000000 := by
      have h1 := namess_take p.ks (k + 1)
      rw [namesPL_take p.ks k hlt, List.length_append] at h1
      have := HLN.out
      rw [List.length_append]
      omega
     obtain ⟨Q0, hQ0⟩ : ∃ Q0, P0 ++ namesPL (p.ks.take k) = Q0 := ⟨_, rfl⟩
     rw [hQ0] at hb1 HO
     have HQ0 := hid hQ0
     obtain ⟨Y, hY⟩ : ∃ Y, namesP p.ks[k] = Y := ⟨_, rfl⟩
     obtain ⟨w6, hw6⟩ : ∃ w6, wr.alloc (.cells (plcs y) 35) = w6 := ⟨_, rfl⟩
     have z6 : w6.heap.size = wr.heap.size + 1 := by rw [← hw6]; simp
     have HI := hid (fun v (hv : w6.ownsRow B 9 1 v Q0.length (flatC sc Q0)) => ih.out k hlt S y w6 B (by omega) Q0 v hv HS.out (hk'.keep (w' := w6) (fun _ h => h) (fun p hp => by rw [← hw6]; exact (below_alloc wr _).cell (by have := HS.out _ hp; omega))) hb1)
     rw [hY] at hb1 HI HDT
     have O6 := hid (show w6.ownsRow B 9 1 _ Q0.length (flatC sc Q0) by rw [← hw6]; exact own_call HO.out (below_alloc _ _))
     have B6 := hid (show Below B w w6 by rw [← hw6]; exact HB.out.alloc (by omega) _)
     have V6 := hid (PBox.fresh wr y 35)
     rw [hw6] at V6
     unfold plcs at hw6 HI
     have HW6 := hid hw6
     clear hk' hQ0 hY hw6
     go_upto_region 6 with fail
     rw [HW6.out]
     clear q0 q1 q2 q3 q4 q5 q6 q7
     obtain ⟨v0, v1, v2, v3, v4, v5, v6, v7, vf⟩ := V6.out
     go_wp2_with fail
     refine (HI.out _ O6.out).mono ?_
     rintro e w7 ⟨v7', rfl, ho7, hb7⟩
     have O7 := hid (show w7.ownsRow B 9 1 v7' (P0 ++ namesPL (p.ks.take (k + 1))).length (flatC sc (P0 ++ namesPL (p.ks.take (k + 1)))) by
      rw [HDT.out, ← List.append_assoc, HQ0.out]
      exact ho7)
     have B7 := hid (B6.out.trans hb7)
     have z7 : w.heap.size < w7.heap.size := by have := hb7.size; omega
     clear ho7 hb7 v0 v1 v2 v3 v4 v5 v6 v7 vf HI
     go_wp2
     go_roundw
     case rel => exact ⟨k + 1, by omega, by go_num, O7.out, B7.out, z7⟩
     case measure => simp [intOf]; omega
    ·obtain rfl : k = p.ks.length := by omega
     rw [List.take_length] at HO
     go_wp2
     go_ret
     exact ⟨_, rfl, by rw [HLV.out]; exact HO.out, HB.out⟩
  ·rw [if_neg hf, List.append_nil] at hP0
   have hne : op ≠ ⟨#[102, 114, 111, 109]⟩ := fun e => hf (by have h9 := hro; rw [e] at h9; have := congrArg (fun b => b.data.toList) h9; exact this.symm)
   have f2 : (op.toList == [102, 114, 111, 109]) = false := by
    have h := toList_ne hne
    rw [ByteArray.toList_eq ⟨#[102, 114, 111, 109]⟩] at h
    exact h
   have HP0 := hid (show Q.length ≤ P0.length by rw [← hP0]; exact Nat.le_refl _)
   have B1 := B0
   have Z1 : w.heap.size < w0.heap.size := by omega
   have N1 := N0
   have O1 := hid (show w0.ownsRow B 9 1 v (P0 ++ namesPL (p.ks.take 0)).length (flatC sc (P0 ++ namesPL (p.ks.take 0))) by
    have e : P0 ++ namesPL (p.ks.take 0) = Q := by simp [namesPL, ← hP0]
    rw [e]
    exact O0.out)
   clear h hln hS hn hlv hlv2 hP0 hro hrt hf hw0 hv hne
   unfold plcs
   go_enter Tryz.func34, Tryz.ntmps34
   go_upto_region 3 with fail
   try rw [HW0.out]
   obtain ⟨x0, x1, x2, x3, x4, x5, x6, x7, xf⟩ := N1.out
   dsimp only at x0 x1 x2 x3 x4 x5 x6 x7
   go_wp2
   go_loopw [0, 18] (fun v t' wr => ∃ (k : Nat), k ≤ p.ks.length ∧ t' = .int .i64 k ∧ wr.ownsRow B 9 1 v (P0 ++ namesPL (p.ks.take k)).length (flatC sc (P0 ++ namesPL (p.ks.take k))) ∧ Below B w wr ∧ w.heap.size < wr.heap.size) (fun _ t' _ => p.ks.length - (intOf t').toNat)
   case atStart => exact ⟨0, by omega, rfl, O1.out, B1.out, Z1⟩
   case round =>
    obtain ⟨k, hk, rfl, hown, hb, hz⟩ := hrel
    have HB := hid hb
    have HO := hid hown
    have HK := hid (HN.out.keep (w' := wr) (fun _ h => h) (fun p hp => hb.cell (HS.out _ hp)))
    clear hb hown
    by_cases hlt : k < p.ks.length
    ·obtain ⟨ad, y, eA, hS', q0, qs, hk'⟩ := HK.out.kid k hlt
     dsimp only at eA
     subst eA
     have q1 := qs 0 _ rfl
     have q2 := qs 1 _ rfl
     have q3 := qs 2 _ rfl
     have q4 := qs 3 _ rfl
     have q5 := qs 4 _ rfl
     have q6 := qs 5 _ rfl
     have q7 := qs 6 _ rfl
     unfold sv at q2 q3 q4 q5 q6 q7
     clear qs
     have had := HS.out _ hS'
     have HDT := hid (namesPL_take p.ks k hlt)
     have hb1 : (P0 ++ namesPL (p.ks.take k)).length + (namesP p.ks[k]).length ≤ 100000000 := by
      have h1 := namess_take p.ks (k + 1)
      rw [namesPL_take p.ks k hlt, List.length_append] at h1
      have := HLN.out
      rw [List.length_append]
      omega
     obtain ⟨Q0, hQ0⟩ : ∃ Q0, P0 ++ namesPL (p.ks.take k) = Q0 := ⟨_, rfl⟩
     rw [hQ0] at hb1 HO
     have HQ0 := hid hQ0
     obtain ⟨Y, hY⟩ : ∃ Y, namesP p.ks[k] = Y := ⟨_, rfl⟩
     obtain ⟨w6, hw6⟩ : ∃ w6, wr.alloc (.cells (plcs y) 35) = w6 := ⟨_, rfl⟩
     have z6 : w6.heap.size = wr.heap.size + 1 := by rw [← hw6]; simp
     have HI := hid (fun v (hv : w6.ownsRow B 9 1 v Q0.length (flatC sc Q0)) => ih.out k hlt S y w6 B (by omega) Q0 v hv HS.out (hk'.keep (w' := w6) (fun _ h => h) (fun p hp => by rw [← hw6]; exact (below_alloc wr _).cell (by have := HS.out _ hp; omega))) hb1)
     rw [hY] at hb1 HI HDT
     have O6 := hid (show w6.ownsRow B 9 1 _ Q0.length (flatC sc Q0) by rw [← hw6]; exact own_call HO.out (below_alloc _ _))
     have B6 := hid (show Below B w w6 by rw [← hw6]; exact HB.out.alloc (by omega) _)
     have V6 := hid (PBox.fresh wr y 35)
     rw [hw6] at V6
     unfold plcs at hw6 HI
     have HW6 := hid hw6
     clear hk' hQ0 hY hw6
     go_upto_region 6 with fail
     rw [HW6.out]
     clear q0 q1 q2 q3 q4 q5 q6 q7
     obtain ⟨v0, v1, v2, v3, v4, v5, v6, v7, vf⟩ := V6.out
     go_wp2_with fail
     refine (HI.out _ O6.out).mono ?_
     rintro e w7 ⟨v7', rfl, ho7, hb7⟩
     have O7 := hid (show w7.ownsRow B 9 1 v7' (P0 ++ namesPL (p.ks.take (k + 1))).length (flatC sc (P0 ++ namesPL (p.ks.take (k + 1)))) by
      rw [HDT.out, ← List.append_assoc, HQ0.out]
      exact ho7)
     have B7 := hid (B6.out.trans hb7)
     have z7 : w.heap.size < w7.heap.size := by have := hb7.size; omega
     clear ho7 hb7 v0 v1 v2 v3 v4 v5 v6 v7 vf HI
     go_wp2
     go_roundw
     case rel => exact ⟨k + 1, by omega, by go_num, O7.out, B7.out, z7⟩
     case measure => simp [intOf]; omega
    ·obtain rfl : k = p.ks.length := by omega
     rw [List.take_length] at HO
     go_wp2
     go_ret
     exact ⟨_, rfl, by rw [HLV.out]; exact HO.out, HB.out⟩
mutual
def showP : Pl → List UInt8
 | .mk o t e n b a c k => if o = sFrom then t else o ++ [91] ++ Lib.join (besP (.mk o t e n b a c k)) [59, 32] ++ [93, 40] ++ Lib.join (showPL k) [44, 32] ++ [41]
def showPL : List Pl → List (List UInt8)
 | [] => []
 | p :: l => showP p :: showPL l
end
theorem showPL_map : ∀ l : List Pl, showPL l = l.map showP
 | [] => by rw [showPL]; rfl
 | p :: l => by rw [showPL, showPL_map l]; rfl
theorem showP_is (p : Pl) : showP p = if p.op = sFrom then p.tab else p.op ++ [91] ++ Lib.join (besP p) [59, 32] ++ [93, 40] ++ Lib.join (p.ks.map showP) [44, 32] ++ [41] := by
 cases p with
 | mk o t e n b a c k => rw [← showPL_map]; exact showP.eq_1 o t e n b a c k
structure PlainR (p : Pl) : Prop where
 on : p.on = []
 ex : ∀ t ∈ p.ex, EShows t ∧ (showE t).length ≤ 900000
 bk : ∀ n ∈ p.bk, fits64 n
 ag : ∀ a ∈ p.ag, fits64 a.2
mutual
def PlainP : Pl → Prop
 | .mk o t e n b a c k => PlainR (.mk o t e n b a c k) ∧ PlainPL k
def PlainPL : List Pl → Prop
 | [] => True
 | p :: l => PlainP p ∧ PlainPL l
end
theorem PlainPL_iff : ∀ l : List Pl, PlainPL l ↔ ∀ p ∈ l, PlainP p
 | [] => by rw [PlainPL]; simp
 | p :: l => by rw [PlainPL, PlainPL_iff l]; simp
theorem plain_mk {p : Pl} (h : PlainP p) : PlainR p ∧ ∀ k ∈ p.ks, PlainP k := by
 cases p
 rw [PlainP] at h
 exact ⟨h.1, (PlainPL_iff _).1 h.2⟩
theorem join_step (L : List (List UInt8)) (sep : List UInt8) (k : Nat) (h : k < L.length) : Lib.join (L.take (k + 1)) sep = Lib.join (L.take k) sep ++ ((if k = 0 then [] else sep) ++ L[k]) := by
 cases L with
 | nil => simp at h
 | cons x r =>
  cases k with
  | zero => simp [Lib.join_one, Lib.join_nil]
  | succ k =>
   have hk : k < r.length := by simpa using h
   rw [List.take_succ_cons, List.take_succ_cons, Lib.join_cons, Lib.join_cons, if_neg (by omega), Lib.joinTail_take_succ sep r k (r[k]'hk) (List.getElem?_eq_getElem hk)]
   simp [List.append_assoc]
theorem join_take_le (L : List (List UInt8)) (sep : List UInt8) (k : Nat) : (Lib.join (L.take k) sep).length ≤ (Lib.join L sep).length := by
 cases L with
 | nil => simp
 | cons x r =>
  cases k with
  | zero => simp [Lib.join_nil]
  | succ k =>
   rw [List.take_succ_cons, Lib.join_cons, Lib.join_cons, List.length_append, List.length_append]
   have := Lib.joinTail_take_le sep r k
   omega
theorem pjoin_any (L : List (List UInt8)) (sep : ByteArray) (B : Nat) (v : Value) (w : World) (h : w.ownsRow B 9 1 v L.length (flatC sc L)) (hL : L.length ≤ 1000000) (hl : (Lib.join L sep.data.toList).length ≤ 1000000) :
  Calls Tryz.prog 73 #[v, .string sep] w fun e w' => e = .returned (.string ⟨(Lib.join L sep.data.toList).toArray⟩) ∧ Below w.heap.size w w' := by
 by_cases h0 : 0 < L.length
 ·obtain ⟨A9, cp9, e9, -, hl9⟩ := own_ats sc_length h
  obtain ⟨g, cap, rfl, hg, hlt, hfr, hcl⟩ := own_cellsG h h0
  injection e9 with _ _ e9
  have hb : (bsL L).map (·.data.toList) = L := by unfold bsL; rw [List.map_map]; simp [Function.comp_def]
  have hj := Tryz.strings_Join g 0 cap (bsL L) sep w (fun j x hx => by
   rw [Nat.zero_add]
   have hj : j < L.length := by have := (List.getElem?_eq_some_iff.1 hx).1; rwa [bsL_len] at this
   have h1 := hcl.at sc_length j hj 0 (by omega) (.string ⟨L[j].toArray⟩) rfl
   rw [Nat.mul_one, Nat.add_zero] at h1
   rw [h1]
   unfold bsL at hx
   rw [List.getElem?_map, List.getElem?_eq_getElem hj] at hx
   cases hx
   rfl) hlt (by rw [bsL_len]; omega) (by rw [bsL_len, e9]; exact hl9) (by rw [hb]; omega)
  rw [hb, bsL_len] at hj
  exact hj
 ·obtain rfl : L = [] := List.length_eq_zero_iff.1 (by omega)
  obtain ⟨A, cap, rfl, -, -⟩ := own_ats sc_length h
  refine (Tryz.strings_Join_none A cap sep w).mono ?_
  rintro e w' ⟨rfl, rfl⟩
  exact ⟨by rw [Lib.join_nil], Below.refl _ _⟩
theorem besP_len {p : Pl} (h : FitR p) : (besP p).length ≤ 2001 := by
 have h1 := h.ex
 have h2 := h.ag
 have h3 : (byT p.bk).length ≤ 1 := by unfold byT; split <;> simp
 unfold besP
 rw [List.length_append, List.length_append, List.length_map, List.length_map]
 omega
structure Kb (B b : Nat) (w w' : World) : Prop where
 bl : Below B w w'
 ot : Lib.OthersKept 5 (some b) w w'
theorem Kb.refl (B b : Nat) (w : World) : Kb B b w w := ⟨Below.refl _ _, Lib.OthersKept.refl _ _ _⟩
theorem Kb.trans {B b : Nat} {w w1 w2 : World} (h : Kb B b w w1) (g : Kb B b w1 w2) : Kb B b w w2 := ⟨h.bl.trans g.bl, h.ot.trans g.ot⟩
theorem Kb.next {B b : Nat} {w w1 w2 : World} (h : Kb B b w w1) (hb : B ≤ w1.heap.size) (g : Below w1.heap.size w1 w2) : Kb B b w w2 :=
 ⟨h.bl.trans (g.mono hb), fun k o hk hn ho => by
  have h1 := h.ot k o hk hn ho
  exact (g.block k (Array.getElem?_eq_some_iff.1 h1).1).trans h1⟩
theorem HB.kb {w w' : World} {g b B : Nat} {cs : Array Value} {t : TypeId} (h : HB w g cs t) (hk : Kb B b w w') (hg : g ≠ b) (ht : t ≠ 5) : HB w' g cs t :=
 hk.ot g _ h (fun e => hg (Option.some.inj e)) (fun c fz e => by injection e with _ e2; exact ht e2)
theorem HB.pbox {w : World} {g : Nat} {x : PV} {t : TypeId} (h : HB w g (plcs x) t) : PBox w g x :=
 ⟨h.cell 0, h.cell 1, h.cell 2, h.cell 3, h.cell 4, h.cell 5, h.cell 6, h.cell 7, fun j => h.free j⟩
theorem Bld.base {B b : Nat} {l : List UInt8} {w : World} (h : Bld B b l w) : B ≤ b := by
 rcases h with ⟨h, _⟩ | ⟨h, _⟩ <;> exact h
def ShPost (B b : Nat) (bs : List UInt8) (w : World) (e : Ending) (w' : World) : Prop := e = .returned (.tuple #[]) ∧ Bld B b bs w' ∧ Kb B b w w'
theorem pshow_go : ∀ (d : Nat) (p : Pl), p.deep ≤ d → fitP p → PlainP p → ∀ (S : Nat → Prop) (x : PV) (m : Int) (B b : Nat) (l : List UInt8) (w : World), Bld B b l w → (∀ g, S g → g < B) → PIn w S p x → Glob B m w → l.length + (showP p).length ≤ 1000000 →
  Calls Tryz.prog 31 #[.pointer (some ⟨b, 0, none⟩), .agg (plcs x)] w (ShPost B b (l ++ showP p) w)
 | 0, p, h, _, _, _, _, _, _, _, _, _, _, _, _, _, _ => absurd h (by rw [pdeep_ks]; omega)
 | d + 1, p, h, hfit, hpl, S, x, m, B, b, l, w, hbd, hS, hn, hg, hlen => by
  obtain ⟨hpr, hplk⟩ := plain_mk hpl
  have ih := hid (fun k (hk : k < p.ks.length) => pshow_go d p.ks[k] (by have := pdeepL_mem (List.getElem_mem hk); rw [pdeep_ks] at h; omega) (hfit.kid _ (List.getElem_mem hk)) (hplk _ (List.getElem_mem hk)))
  have hkn := hfit.rest.ks
  have hro := hn.rest.op
  have hrt := hn.rest.tab
  have hkl := hn.kids
  have hos := hfit.rest.op
  have hts := hfit.rest.tab
  have hBb := hbd.base
  have hbl := hbd.lt
  have hBw : B ≤ w.heap.size := by omega
  obtain ⟨op, tab, co, ⟨X, nk, mk⟩, ex, on, bk, ag⟩ := x
  dsimp only at hro hrt hkl
  subst hkl
  have hops : op.size ≤ 1000 := by rw [hro]; simpa [ByteArray.size] using hos
  have htbs : tab.size ≤ 1000 := by rw [hrt]; simpa [ByteArray.size] using hts
  have hsh := showP_is p
  have HN := hid (fun (w' : World) (hb : Below B w w') => hn.keep (fun _ h => h) (fun q hq => hb.cell (hS _ hq)))
  have HS := hid hS
  have HG := hid (fun (w' : World) (hb : Below B w w') => hg.below hb)
  obtain ⟨w0, hw0⟩ : ∃ w0, w.alloc (.cells (plcs ⟨op, tab, co, (X, p.ks.length, mk), ex, on, bk, ag⟩) 35) = w0 := ⟨_, rfl⟩
  have X0 := hid (show HB w0 w.heap.size (plcs ⟨op, tab, co, (X, p.ks.length, mk), ex, on, bk, ag⟩) 35 by rw [← hw0]; exact HB.fresh _ _ _)
  have D0 := hid (show Bld B b l w0 by rw [← hw0]; exact hbd.alloc _)
  have K0 := hid (show Kb B b w w0 by rw [← hw0]; exact (Kb.refl B b w).next hBw (below_alloc w _))
  have z0 : w0.heap.size = w.heap.size + 1 := by rw [← hw0]; simp
  unfold plcs at hw0 ⊢
  have HW0 := hid hw0
  unfold ShPost
  by_cases hf : p.op = sFrom
  ·rw [if_pos hf] at hsh
   obtain rfl : op = ⟨#[102, 114, 111, 109]⟩ := by rw [hro, hf]; rfl
   have htl : tab.data.toList = p.tab := by rw [hrt]
   rw [hsh] at hlen ⊢
   have HW := hid (writeString_k B b l tab w0 D0.out (by omega) (by omega))
   rw [htl] at HW
   obtain ⟨x0, x1, x2, x3, x4, x5, x6, x7, xf⟩ := X0.out.pbox
   dsimp only at x0 x1
   clear h hfit hpl hpr hplk ih hro hrt hos hts hbd hS hn hg hlen hsh hf htl hw0 x2 x3 x4 x5 x6 x7 xf
   go_enter Tryz.func31, Tryz.ntmps31
   go_upto_region 1 with fail
   rw [HW0.out]
   go_wp2_with fail
   refine HW.out.mono ?_
   rintro e w1 ⟨rfl, hb1, hl1, ho1⟩
   have HE := hid (show Bld B b (l ++ p.tab) w1 ∧ Kb B b w w1 from ⟨hb1, K0.out.trans ⟨hl1, ho1⟩⟩)
   clear hb1 hl1 ho1 x0 x1 HW
   go_wp2
   exact bodyPost_ret (v := .tuple #[]) (by simp [results, Tryz.results31, go_sem]) rfl ⟨rfl, HE.out.1, HE.out.2⟩
  rw [if_neg hf] at hsh
  have hne : op ≠ ⟨#[102, 114, 111, 109]⟩ := fun e => hf (by have h9 := hro; rw [e] at h9; have := congrArg (fun b => b.data.toList) h9; exact this.symm)
  have f2 : (op.toList == [102, 114, 111, 109]) = false := by
   have h := toList_ne hne
   rw [ByteArray.toList_eq ⟨#[102, 114, 111, 109]⟩] at h
   exact h
  obtain ⟨J, hJ⟩ : ∃ J, Lib.join (besP p) [59, 32] = J := ⟨_, rfl⟩
  obtain ⟨KT, hKT⟩ : ∃ KT, p.ks.map showP = KT := ⟨_, rfl⟩
  rw [hJ, hKT] at hsh
  have hlen2 : l.length + (p.op.length + 1 + J.length + 2 + (Lib.join KT [44, 32]).length + 1) ≤ 1000000 := by
   rw [hsh] at hlen
   simp only [List.length_append, List.length_cons, List.length_nil] at hlen
   omega
  have HBES := hid (fun (w' : World) (hb : Kb B b w0 w') => besides_any p S ⟨op, tab, co, (X, p.ks.length, mk), ex, on, bk, ag⟩ m w' (fun g h => by have h1 := HS.out g h; have h2 := hb.bl.size; omega) (HN.out w' (K0.out.bl.trans hb.bl)) hfit.rest hpr.on hpr.ex hpr.bk hpr.ag ((HG.out w' (K0.out.bl.trans hb.bl)).more (by have h2 := hb.bl.size; omega)))
  have HJN := hid (fun (v : Value) (B9 : Nat) (w' : World) (h : w'.ownsRow B9 9 1 v (besP p).length (flatC sc (besP p))) => show Calls Tryz.prog 73 #[v, .string ⟨#[59, 32]⟩] w' (fun e w'' => e = .returned (.string ⟨J.toArray⟩) ∧ Below w'.heap.size w' w'') by
   have h1 := pjoin_any (besP p) ⟨#[59, 32]⟩ B9 v w' h (by have := besP_len hfit.rest; omega) (by rw [show (⟨#[59, 32]⟩ : ByteArray).data.toList = [59, 32] from rfl, hJ]; omega)
   rw [show (⟨#[59, 32]⟩ : ByteArray).data.toList = [59, 32] from rfl, hJ] at h1
   exact h1)
  obtain ⟨JB, hJB⟩ : ∃ JB : ByteArray, ⟨J.toArray⟩ = JB := ⟨_, rfl⟩
  have hJl : JB.data.toList = J := by rw [← hJB]
  have hJs : JB.size = J.length := by rw [← hJB]; simp [ByteArray.size]
  rw [hJB] at HJN
  have hpo : op.data.toList = p.op := by rw [hro]
  have hpos : op.size = p.op.length := by rw [hro]; simp [ByteArray.size]
  have hml : (1000000 : Nat) ≤ maxLen := by unfold maxLen; omega
  have r1 : ∀ w, (Op.stringOp .add op ⟨#[91]⟩).run Tryz.prog w = .ok (.string (op ++ ⟨#[91]⟩)) w := fun w => run_string_add_sum w _ _ (by show op.size + 1 ≤ _; omega)
  obtain ⟨s1, hs1⟩ : ∃ s1 : ByteArray, op ++ ⟨#[91]⟩ = s1 := ⟨_, rfl⟩
  have z1s : s1.size = op.size + 1 := by rw [← hs1, ByteArray.size_append]; rfl
  have l1s : s1.data.toList = p.op ++ [91] := by rw [← hs1, ByteArray.data_append, Array.toList_append, hpo]
  have r2 : ∀ w, (Op.stringOp .add s1 JB).run Tryz.prog w = .ok (.string (s1 ++ JB)) w := fun w => run_string_add_sum w _ _ (by omega)
  obtain ⟨s2, hs2⟩ : ∃ s2 : ByteArray, s1 ++ JB = s2 := ⟨_, rfl⟩
  have z2s : s2.size = s1.size + JB.size := by rw [← hs2, ByteArray.size_append]
  have l2s : s2.data.toList = p.op ++ [91] ++ J := by rw [← hs2, ByteArray.data_append, Array.toList_append, l1s, hJl]
  have r3 : ∀ w, (Op.stringOp .add s2 ⟨#[93, 40]⟩).run Tryz.prog w = .ok (.string (s2 ++ ⟨#[93, 40]⟩)) w := fun w => run_string_add_sum w _ _ (by show s2.size + 2 ≤ _; omega)
  obtain ⟨s3, hs3⟩ : ∃ s3 : ByteArray, s2 ++ ⟨#[93, 40]⟩ = s3 := ⟨_, rfl⟩
  have z3s : s3.size = s2.size + 2 := by rw [← hs3, ByteArray.size_append]; rfl
  have l3s : s3.data.toList = p.op ++ [91] ++ J ++ [93, 40] := by rw [← hs3, ByteArray.data_append, Array.toList_append, l2s]
  rw [hs1] at r1
  rw [hs2] at r2
  rw [hs3] at r3
  have HWS := hid (fun (w' : World) (hb : Bld B b l w') => writeString_k B b l s3 w' hb (by omega) (by have := hb.base; have := hb.lt; omega))
  rw [l3s] at HWS
  obtain ⟨L0, hL0⟩ : ∃ L0, l ++ (p.op ++ [91] ++ J ++ [93, 40]) = L0 := ⟨_, rfl⟩
  rw [hL0] at HWS
  have HEND := hid (show l ++ showP p = L0 ++ Lib.join KT [44, 32] ++ [41] by rw [hsh, ← hL0]; simp [List.append_assoc])
  have hL0n : L0.length + (Lib.join KT [44, 32]).length + 1 ≤ 1000000 := by
   rw [← hL0]
   simp only [List.length_append, List.length_cons, List.length_nil]
   omega
  have HKT := hid hKT
  have hKTl : KT.length = p.ks.length := by rw [← hKT, List.length_map]
  clear h hfit hpl hpr hplk hro hrt hos hts hbd hS hn hg hlen hsh hf hw0 hne hJ hKT hlen2 hJB hJl hJs hpo hpos hml z1s l1s z2s l2s z3s l3s hs1 hs2 hs3 hL0 hops htbs
  go_enter Tryz.func31, Tryz.ntmps31
  go_upto_region 1 with fail
  rw [HW0.out]
  obtain ⟨x0, x1, x2, x3, x4, x5, x6, x7, xf⟩ := X0.out.pbox
  dsimp only at x0 x1 x2 x3 x4 x5 x6 x7
  have hzz : w.heap.size < w0.heap.size := by omega
  have HDR := hid (show Kb B b w0 w0.drew from (Kb.refl B b w0).next (by omega) (Below.drew (Below.refl _ _)))
  have HDB := hid (show Bld B b l w0.drew from D0.out.call (Below.drew (Below.refl _ _)))
  go_upto_region 3 with fail
  go_cut [22] (fun s22 wx => Bld B b L0 wx ∧ Kb B b w0 wx)
  case first =>
   go_region_law (first
    | (go_simp; refine (HBES.out _ HDR.out).mono ?_; rintro e w5 ⟨v5, rfl, ho5, hb5⟩; have L5 := hid (drew_below hb5); have O5 := hid ho5; have y0 := (L5.out.cell (p := ⟨w.heap.size, 0, none⟩) hzz).trans x0; clear ho5 hb5)
    | (go_simp; refine (HJN.out _ _ w5 O5.out).mono ?_; rintro e w6 ⟨rfl, hb6⟩; have L6 := hid (L5.out.trans (hb6.mono L5.out.size)); have y0 := (L6.out.cell (p := ⟨w.heap.size, 0, none⟩) hzz).trans x0; clear hb6)
    | (go_simp; refine (HWS.out w6 (D0.out.call L6.out)).mono ?_; rintro e w7 ⟨rfl, hb7, hl7, ho7⟩; have HE7 := hid (show Bld B b L0 w7 ∧ Kb B b w6 w7 from ⟨hb7, hl7, ho7⟩); clear hb7 hl7 ho7))
   all_goals go_wp2_with fail
   all_goals go_meet
   all_goals exact ⟨HE7.out.1, ((Kb.refl B b w0).next (by omega) L6.out).trans HE7.out.2⟩
  case rest =>
   obtain ⟨hD7, hK7⟩ := hcut
   rename World => w7
   have D7 := hid hD7
   have K7 := hid hK7
   have hb0 : w.heap.size ≠ b := by omega
   have X7 := hid (X0.out.kb hK7 hb0 (by decide))
   clear hD7 hK7 x0 x1 x2 x3 x4 x5 x6 x7 xf r1 r2 r3 f2 HBES HJN HWS HDR HDB D0
   obtain ⟨x0, x1, x2, x3, x4, x5, x6, x7, xf⟩ := X7.out.pbox
   dsimp only at x3
   clear x0 x1 x2 x4 x5 x6 x7 xf
   go_wp2
   go_loopw [26] (fun t' wr => ∃ (k : Nat), k ≤ p.ks.length ∧ t' = .int .i64 k ∧ Bld B b (L0 ++ Lib.join (KT.take k) [44, 32]) wr ∧ Kb B b w0 wr) (fun t' _ => p.ks.length - (intOf t').toNat)
   case atStart => exact ⟨0, by omega, rfl, by rw [List.take_zero, Lib.join_nil, List.append_nil]; exact D7.out, K7.out⟩
   case round =>
    obtain ⟨k, hk, rfl, hD, hK⟩ := hrel
    have DR := hid hD
    have KR := hid hK
    have HK := hid (HN.out wr (K0.out.bl.trans hK.bl))
    have hzr := hK.bl.size
    clear hD hK
    by_cases hlt : k < p.ks.length
    ·obtain ⟨ad, y, eA, hS', q0, qs, hk'⟩ := HK.out.kid k hlt
     dsimp only at eA
     subst eA
     have q1 := qs 0 _ rfl
     have q2 := qs 1 _ rfl
     have q3 := qs 2 _ rfl
     have q4 := qs 3 _ rfl
     have q5 := qs 4 _ rfl
     have q6 := qs 5 _ rfl
     have q7 := qs 6 _ rfl
     unfold sv at q2 q3 q4 q5 q6 q7
     clear qs
     have hkt : k < KT.length := by omega
     have hke : KT[k] = showP p.ks[k] := by simp only [← HKT.out, List.getElem_map]
     have HST := hid (join_step KT [44, 32] k hkt)
     rw [hke] at HST
     have hle := join_take_le KT [44, 32] (k + 1)
     rw [HST.out, List.length_append, List.length_append] at hle
     obtain ⟨w6, hw6⟩ : ∃ w6, wr.alloc (.cells (plcs y) 35) = w6 := ⟨_, rfl⟩
     have B6 := hid (show Below wr.heap.size wr w6 by rw [← hw6]; exact below_alloc wr _)
     have V6 := hid (show HB w6 wr.heap.size (plcs y) 35 by rw [← hw6]; exact HB.fresh wr _ _)
     have D6 := hid (DR.out.call B6.out)
     have hBr : B ≤ wr.heap.size := by omega
     have K6 := hid (KR.out.next hBr B6.out)
     have HKI := hid (fun (w' : World) (hb : Below B w w') => hk'.keep (w' := w') (fun _ h => h) (fun q hq => ((hb.cell (HS.out _ hq)).trans ((K0.out.bl.trans KR.out.bl).cell (HS.out _ hq)).symm)))
     unfold plcs at hw6
     have HW6 := hid hw6
     have hbr : wr.heap.size ≠ b := by have := DR.out.lt; omega
     obtain ⟨T, hT⟩ : ∃ T, showP p.ks[k] = T := ⟨_, rfl⟩
     have HI := hid (fun (l9 : List UInt8) (w' : World) (hb : Kb B b w0 w') (hD : Bld B b l9 w') (hl : l9.length + T.length ≤ 1000000) => ih.out k hlt S y m B b l9 w' hD HS.out (HKI.out w' (K0.out.bl.trans hb.bl)) (HG.out w' (K0.out.bl.trans hb.bl)) (by rw [hT]; exact hl))
     unfold ShPost plcs at HI
     rw [hT] at HI HST hle
     clear hk' hke hw6 hT
     go_upto_region 7 with fail
     rw [HW6.out]
     clear q0 q1 q2 q3 q4 q5 q6 q7 x3
     by_cases hk0 : k = 0
     ·subst hk0
      rw [if_pos rfl, List.nil_append] at HST
      rw [if_pos rfl] at hle
      rw [List.length_nil, Nat.zero_add] at hle
      rw [List.take_zero, Lib.join_nil] at HST hle
      rw [List.take_zero, Lib.join_nil, List.append_nil] at D6
      rw [List.length_nil] at hle
      have HI6 := hid (HI.out L0 w6 K6.out D6.out (by omega))
      obtain ⟨v0, v1, v2, v3, v4, v5, v6, v7, vf⟩ := V6.out.pbox
      clear HI hle
      go_wp2_with fail
      refine HI6.out.mono ?_
      rintro e w8 ⟨rfl, hD8, hK8⟩
      have HE8 := hid (show Bld B b (L0 ++ Lib.join (KT.take (0 + 1)) [44, 32]) w8 ∧ Kb B b w0 w8 from ⟨by rw [HST.out, List.nil_append]; exact hD8, K6.out.trans hK8⟩)
      clear hD8 hK8 v0 v1 v2 v3 v4 v5 v6 v7 vf HI6
      go_wp2
      go_roundw
      case rel => exact ⟨0 + 1, by omega, by go_num, HE8.out.1, HE8.out.2⟩
      case measure => simp [intOf]; omega
     ·rw [if_neg hk0] at HST hle
      have hk0i : (0 : Int) < (k : Int) := by omega
      have hk0n : 0 < k := by omega
      obtain ⟨Q, hQ⟩ : ∃ Q, L0 ++ Lib.join (KT.take k) [44, 32] = Q := ⟨_, rfl⟩
      have hQn : Q.length + 2 + T.length ≤ 1000000 := by
       rw [← hQ, List.length_append]
       simp only [List.length_cons, List.length_nil] at hle
       omega
      rw [hQ] at D6
      have HQ := hid hQ
      have HWS := hid (writeString_k B b Q ⟨#[44, 32]⟩ w6 D6.out (by show Q.length + 2 ≤ _; omega) (by have := B6.out.size; omega))
      rw [show (⟨#[44, 32]⟩ : ByteArray).data.toList = [44, 32] from rfl] at HWS
      clear hQ hle hk0
      go_wp2_with fail
      refine HWS.out.mono ?_
      rintro e w7b ⟨rfl, hD7, hl7, ho7⟩
      have D7b := hid hD7
      have K67 := hid (show Kb B b w6 w7b from ⟨hl7, ho7⟩)
      have V7 := hid (V6.out.kb K67.out hbr (by decide))
      have HI7 := hid (HI.out (Q ++ [44, 32]) w7b (K6.out.trans K67.out) hD7 (by rw [List.length_append]; show Q.length + 2 + _ ≤ _; omega))
      obtain ⟨v0, v1, v2, v3, v4, v5, v6, v7, vf⟩ := V7.out.pbox
      clear HI hD7 hl7 ho7 HWS
      go_wp2_with fail
      refine HI7.out.mono ?_
      rintro e w8 ⟨rfl, hD8, hK8⟩
      have HE8 := hid (show Bld B b (L0 ++ Lib.join (KT.take (k + 1)) [44, 32]) w8 ∧ Kb B b w0 w8 from ⟨by rw [HST.out, ← List.append_assoc, HQ.out, ← List.append_assoc]; exact hD8, (K6.out.trans K67.out).trans hK8⟩)
      clear hD8 hK8 v0 v1 v2 v3 v4 v5 v6 v7 vf HI7
      go_wp2
      go_roundw
      case rel => exact ⟨k + 1, by omega, by go_num, HE8.out.1, HE8.out.2⟩
      case measure => simp [intOf]; omega
    ·obtain rfl : k = p.ks.length := by omega
     rw [← hKTl, List.take_length] at DR
     have HWS := hid (writeString_k B b (L0 ++ Lib.join KT [44, 32]) ⟨#[41]⟩ wr DR.out (by rw [List.length_append]; show L0.length + _ + 1 ≤ _; omega) (by omega))
     rw [show (⟨#[41]⟩ : ByteArray).data.toList = [41] from rfl] at HWS
     clear ih
     go_wp2_with fail
     refine HWS.out.mono ?_
     rintro e w9 ⟨rfl, hD9, hl9, ho9⟩
     have HE9 := hid (show Bld B b (l ++ showP p) w9 ∧ Kb B b w w9 from ⟨by rw [HEND.out]; exact hD9, K0.out.trans (KR.out.trans ⟨hl9, ho9⟩)⟩)
     clear hD9 hl9 ho9 HWS
     go_wp2
     go_end0
     exact ⟨rfl, HE9.out.1, HE9.out.2⟩
theorem pshow_any (p : Pl) (hfit : fitP p) (hpl : PlainP p) (S : Nat → Prop) (x : PV) (m : Int) (w : World) (hS : ∀ g, S g → g < w.heap.size) (hn : PIn w S p x) (hg : Glob w.heap.size m w) (hlen : (showP p).length ≤ 1000000) :
  Calls Tryz.prog 13 #[.agg (plcs x)] w fun e w' => e = .returned (.string ⟨(showP p).toArray⟩) ∧ Below w.heap.size w w' := by
 obtain ⟨w0, hw0⟩ : ∃ w0, w.alloc (.cells (plcs x) 35) = w0 := ⟨_, rfl⟩
 have P0 := hid (show PBox w0 w.heap.size x by rw [← hw0]; exact PBox.fresh _ _ _)
 have B0 := hid (show Below w.heap.size w w0 by rw [← hw0]; exact below_alloc w _)
 obtain ⟨w1, hw1⟩ : ∃ w1, w0.alloc (.cells #[.pointer none, .slice none 0 0] 71) = w1 := ⟨_, rfl⟩
 have hz0e : w0.heap.size = w.heap.size + 1 := by rw [← hw0]; simp
 have D1 := hid (show Bld (w.heap.size + 1) (w.heap.size + 1) [] w1 by rw [← hz0e, ← hw1]; exact Bld.fresh w0)
 have B1 := hid (show Below w0.heap.size w0 w1 by rw [← hw1]; exact below_alloc w0 _)
 have L1 := hid (B0.out.trans (B1.out.mono B0.out.size))
 have P1 := hid (P0.out.below B1.out)
 have HS := hid (pshow_go p.deep p (Nat.le_refl _) hfit hpl S x m (w.heap.size + 1) (w.heap.size + 1) [] w1 D1.out (fun g h => Nat.lt_succ_of_lt (hS g h)) (hn.bel hS L1.out) ((hg.below L1.out).more (Nat.le_succ _)) (by simpa using hlen))
 have hz0 := B0.out.size
 have hz1 := B1.out.size
 unfold ShPost plcs at HS
 rw [List.nil_append] at HS
 obtain ⟨T, hT⟩ : ∃ T, showP p = T := ⟨_, rfl⟩
 rw [hT] at HS ⊢
 unfold plcs at hw0 ⊢
 have HW0 := hid hw0
 have HW1 := hid hw1
 have hz1b : w.heap.size + 1 ≤ w1.heap.size := by omega
 clear hfit hpl hS hn hg hlen hT hw0 hw1 hz0e hz0 hz1
 go_enter Tryz.func13, Tryz.ntmps13
 go_upto_region 2 with fail
 rw [HW0.out, HW1.out]
 obtain ⟨x0, x1, x2, x3, x4, x5, x6, x7, xf⟩ := P1.out
 go_wp2_with fail
 refine HS.out.mono ?_
 rintro e w2 ⟨rfl, hD2, hK2⟩
 have D2 := hid hD2
 have L2 := hid (L1.out.trans (hK2.bl.mono (Nat.le_succ _)))
 have HT := hid (string_k _ _ T w2 hD2 (by have := hK2.bl.size; omega))
 clear hD2 hK2 x0 x1 x2 x3 x4 x5 x6 x7 xf HS
 go_wp2_with fail
 refine HT.out.mono ?_
 rintro e w3 ⟨rfl, hD3, hb3, -⟩
 have L3 := hid (L2.out.trans (hb3.mono (Nat.le_succ _)))
 clear hD3 hb3 HT
 go_wp2
 go_ret
 exact ⟨rfl, L3.out⟩
end Go.Proofs.YthpmgnfmeldkjaaGreatDoor.Code
/-
  The live question of layer 14, in plain words. No program is named here.
-/
namespace Go.Proofs.YthpmgnfmeldkjaaGreatDoor.Code
open Val
def live14S : List UInt8 := [103, 114, 111, 117, 112, 40, 102, 105, 108, 116, 101, 114, 40, 116, 44, 32, 97, 32, 62, 32, 49, 41, 44, 32, 98, 121, 32, 98, 44, 32, 110, 32, 61, 32, 99, 111, 117, 110, 116, 40, 41, 44, 32, 115, 32, 61, 32, 115, 117, 109, 40, 97, 41, 41]
def live14E : Nod := .mk [62] [] [.mk sCol [97] [], .mk sNum [49] []]
def live14Q : Nod := .mk sGroup [] [.mk sFilter [] [.mk sFrom [116] [], live14E], .mk sBy [] [.mk sCol [98] []], .mk sAgg [110] [.mk sCount [] []], .mk sAgg [115] [.mk sSum [97] []]]
theorem live14_1 : parseQ live14S = (live14Q, 0, 0) := by kernel_rfl
def live14R : List UInt8 := [106, 111, 105, 110, 40, 116, 44, 32, 116, 44, 32, 97, 32, 61, 32, 97, 41]
def live14J : Nod := .mk sJoin [] [.mk sFrom [116] [], .mk sFrom [116] [], .mk sOn [97] [.mk sCol [97] []]]
theorem live14_2 : parseQ live14R = (live14J, 0, 0) := by kernel_rfl
def live14T : List Tab := [([116], [(7, [97], 2), (2, [98], 4)])]
def live14C : List W := [(1, [97], 2), (2, [98], 4)]
def live14P : Pl := .mk sGroup [] [] [] [1] [(sCount, 0), (sSum, 0)] [(1, [98], 4), (2, [110], 3), (3, [115], 3)] [.mk sFilter [] [live14E] [] [] [] live14C [.mk sFrom [116] [] [] [] [] live14C []]]
theorem live14_plan : planP live14T live14Q = ((live14P, 1), 0) := by kernel_rfl
theorem live14_join : planP live14T live14J = ((zeroP, 0), 122) := by kernel_rfl
theorem live14_tab : TabB live14T := ⟨by decide, by
 intro t ht
 obtain rfl := List.mem_singleton.1 ht
 exact ⟨by decide, by intro c hc; simp at hc; rcases hc with rfl | rfl <;> decide⟩⟩
end Go.Proofs.YthpmgnfmeldkjaaGreatDoor.Code
