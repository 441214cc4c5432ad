/-
  The contract of sum of package zset: the sum of all sets' items, each row's weight turned while it is wide.
-/
import Derived.Test.YtjjikooabmddlaaGreatDoorM22
import Derived.Test.YtjjikooabmddlaaGreatDoorM23
import Derived.Test.YtjjikooabmddlaaGreatDoorM24
namespace Go.Proofs.YtjjikooabmddlaaGreatDoor.Items
open Go.ChangeShapes Go.WideShapes Go.ChangeAt Go.RowKit Val Go.Proofs.YtjjikooabmddlaaGreatDoor.Code Go.Proofs.YtjjikooabmddlaaGreatDoor.Elems Go.Proofs.YtjjikooabmddlaaGreatDoor.ZP Go.Proofs.YtjjikooabmddlaaGreatDoor.Bits Go.Proofs.YtjjikooabmddlaaGreatDoor.Range
set_option linter.unusedVariables false
set_option maxRecDepth 100000
attribute [local go_sem] Oper.semAt_some

/-- what is kept of runs -/
def keepG (tf : Int → Int) (gs : List It) : List (List (Int × Int × ByteArray) × Int) := gs.filterMap fun x => if Wide.intV (tf x.2.2.2) = 0 then none else some (x.2.2.1, Wide.intV (tf x.2.2.2))
/-- is each run's weight a number of 64 bits? -/
def okG (tf : Int → Int) (gs : List It) : Bool := gs.all fun x => Wide.intE (tf x.2.2.2) == 0
/-- an answer: a set of the call's own, its rows too, and an error -/
def SumEnd (w : World) (Q : List (List (Int × Int × ByteArray) × Int)) (E : Int) (e : Ending) (w' : World) : Prop :=
  ∃ (A : Option Addr) (cap : Nat) (M : List It), e = .returned (.tuple #[.slice A M.length cap, .int .i64 E]) ∧ At cellsI 2 w' w'.heap.size A M ∧ OwnRows w' w.heap.size M ∧ pl M = Q ∧ Below w.heap.size w w'
def Turns (f : Nat) (tf : Int → Int) : Prop := ∀ (n : Int) (w : World), Calls Tryz.prog f #[.agg #[.int .i64 (Wide.hi n), .int .u64 (Wide.lo n)]] w fun e w' => e = .returned (Wide.wv (tf n)) ∧ Below w.heap.size w w'
theorem turns_add : Turns 54 id := by
  intro n w
  go_enter Tryz.func54, Tryz.ntmps54
  go_wp2
  exact bodyPost_ret (v := Wide.wv n) (by simp [results, Tryz.results54, go_sem]) rfl ⟨rfl, (below_alloc w _).alloc (by simp) _⟩
/-- what the sum of all items is, in the program's words -/
def sumOk (tf : Int → Int) (L M : List It) : Bool := okRows L && okG tf (groupsI M.length M)
def sumQ (tf : Int → Int) (L M : List It) : List (List (Int × Int × ByteArray) × Int) := if sumOk tf L M then keepG tf (groupsI M.length M) else []
def sumE (tf : Int → Int) (L M : List It) : Int := if okRows L then if okG tf (groupsI M.length M) then 0 else 11 else 51

theorem SetsAt.more {w : World} {B B' : Nat} {G : Option Addr} {LS : List (Option Addr × Nat × List It)} (h : SetsAt w B G LS) (hB : B ≤ B') : SetsAt w B' G LS := by
  intro i hi
  obtain ⟨⟨ad, e, hl, hc⟩, h2⟩ := h i hi
  exact ⟨⟨ad, e, by omega, hc⟩, h2.more hB⟩
theorem SetsAt.vals {w : World} {B : Nat} {G : Option Addr} {LS : List (Option Addr × Nat × List It)} (h : SetsAt w B G LS) : ∀ x ∈ catS LS, Vals w B x.1 x.2.2.1 := by
  intro x hx
  obtain ⟨s, hs, hx2⟩ := List.mem_flatMap.1 hx
  obtain ⟨i, hi, rfl⟩ := List.mem_iff_getElem.1 hs
  exact (h i hi).2.2 x hx2
theorem sorted_items (L : List It) : (L.mergeSort (fun a b => decide (cmpL b.2.2.1 a.2.2.1 ≠ -1))).Pairwise (fun a b => cmpL b.2.2.1 a.2.2.1 ≠ -1) := by
  have h := List.pairwise_mergeSort (le := fun a b : It => decide (cmpL b.2.2.1 a.2.2.1 ≠ -1)) (fun a b c h1 h2 => by
    simp only [decide_eq_true_eq] at *
    intro h
    rcases lt_cases b.2.2.1 a.2.2.1 with e | e | e
    · exact h1 e
    · rw [← e] at h
      exact h2 h
    · exact h2 (cmpL_lt_trans h e)) (fun a b => by
    simp only [Bool.or_eq_true, decide_eq_true_eq]
    rcases lt_cases b.2.2.1 a.2.2.1 with e | e | e
    · exact .inr fun h => lt_asymm e h
    · exact .inl (by rw [e, cmpL_self]; decide)
    · exact .inl fun h => lt_asymm e h) L
  exact h.imp fun h => by simpa using h
theorem okRows_mem {L : List It} (h : okRows L = true) : ∀ x ∈ L, rightR x.2.2.1 = true := by
  unfold okRows at h
  rw [List.all_eq_true] at h
  exact h
theorem right_short {r : List (Int × Int × ByteArray)} (h : rightR r = true) : r.length ≤ 1000000 := by
  unfold rightR at h
  rw [Bool.and_eq_true, decide_eq_true_iff] at h
  omega
theorem groups_mem : ∀ (n : Nat) (L : List It), ∀ x ∈ groupsI n L, ∃ y ∈ L, y.1 = x.1 ∧ y.2.1 = x.2.1 ∧ y.2.2.1 = x.2.2.1
  | 0, _, x, hx => by cases hx
  | n + 1, [], x, hx => by cases hx
  | n + 1, z :: l, x, hx => by
    rw [groupsI] at hx
    rcases List.mem_cons.1 hx with rfl | hx
    · exact ⟨z, by simp, rfl, rfl, rfl⟩
    · obtain ⟨y, hy, h⟩ := groups_mem n _ x hx
      exact ⟨y, (List.dropWhile_suffix _).subset hy, h⟩
theorem groups_length : ∀ (n : Nat) (L : List It), (groupsI n L).length ≤ n
  | 0, _ => by simp [groupsI]
  | n + 1, [] => by simp [groupsI]
  | n + 1, z :: l => by
    have := groups_length n (List.dropWhile (sameR z.2.2.1) (z :: l))
    rw [groupsI, List.length_cons]
    omega
/-- the boxes of the turn and of both results -/
def Boxes3 (w : World) (f : Nat) (W : World) : Prop :=
  W.heap[w.heap.size]? = some (.cells #[.func (.func f) #[] #[]] 86 (0, 0)) ∧ W.heap[w.heap.size + 1]? = some (.cells #[.slice none 0 0] 40 (0, 0)) ∧ W.heap[w.heap.size + 1 + 1]? = some (.cells #[.int .i64 0] 36 (0, 0))
theorem Boxes3.keep {w : World} {f : Nat} {W W' : World} (h : Boxes3 w f W) (hb : Below (w.heap.size + 3) W W') : Boxes3 w f W' :=
  ⟨(hb.block _ (by omega)).trans h.1, (hb.block _ (by omega)).trans h.2.1, (hb.block _ (by omega)).trans h.2.2⟩
theorem Boxes3.cells {w : World} {f : Nat} {W : World} (h : Boxes3 w f W) : W.cell? ⟨w.heap.size + 1, 0, none⟩ = some (.slice none 0 0) ∧ W.cell? ⟨w.heap.size + 1 + 1, 0, none⟩ = some (.int .i64 0) ∧ W.frozen? ⟨w.heap.size + 1, 0, none⟩ = false ∧ W.frozen? ⟨w.heap.size + 1 + 1, 0, none⟩ = false := by
  obtain ⟨_, h1, h2⟩ := h
  refine ⟨?_, ?_, ?_, ?_⟩ <;> simp [World.cell?, World.frozen?, h1, h2]
theorem Boxes3.turn {w : World} {f : Nat} {W : World} (h : Boxes3 w f W) : W.cell? ⟨w.heap.size, 0, none⟩ = some (.func (.func f) #[] #[]) := by
  simp [World.cell?, h.1]

set_option maxHeartbeats 8000000 in
theorem zsum_any (f : Nat) (tf : Int → Int) (hT : Turns f tf) (eg : ∀ args w, (callFunc f args).run Tryz.prog w = .ok (.enter f args) w) (G : Option Addr) (cap : Nat) (LS : List (Option Addr × Nat × List It)) (w : World) (hS : SetsAt w w.heap.size G LS) (hF : FitI (catS LS)) (hs : ∀ x ∈ catS LS, x.2.2.1.length ≤ 140737488355328) (hl : LS.length ≤ 1000) (hc : (catS LS).length ≤ 4398046511104) :
    Calls Tryz.prog 44 #[.func (.func f) #[] #[], .slice G LS.length cap] w fun e w' => ∃ M : List It, M.Perm (catS LS) ∧ M.Pairwise (fun a b => cmpL b.2.2.1 a.2.2.1 ≠ -1) ∧ SumEnd w (sumQ tf (catS LS) M) (sumE tf (catS LS) M) e w' := by
  refine calls_marks Tryz.func44 rfl ?_
  simp only [Tryz.ntmps44, List.size_toArray, List.length_cons, List.length_nil, Nat.reduceAdd, Nat.reduceSub, Array.replicate_succ, Array.replicate_zero, List.push_toArray, List.append_toArray, List.nil_append, List.cons_append]
  obtain ⟨W0, hW0⟩ : ∃ W0, ((w.alloc (.cells #[.func (.func f) #[] #[]] 86)).alloc (.cells #[.slice none 0 0] 40)).alloc (.cells #[.int .i64 0] 36) = W0 := ⟨_, rfl⟩
  have hb0 : Below w.heap.size w W0 := hW0 ▸ ((below_alloc w _).alloc (by simp) _).alloc (by simp; omega) _
  go_wp2_with fail
  have hz0 : W0.heap.size = w.heap.size + 3 := by rw [← hW0]; simp
  have hB3 : Boxes3 w f W0 := by
    rw [← hW0]
    refine ⟨?_, ?_, ?_⟩
    · rw [Below.heap_alloc _ _ _ (by simp; omega), Below.heap_alloc _ _ _ (by simp)]
      exact heap_alloc_new w _
    · rw [Below.heap_alloc _ _ _ (by simp)]
      have h := heap_alloc_new (w.alloc (.cells #[.func (.func f) #[] #[]] 86)) (.cells #[.slice none 0 0] 40)
      rwa [World.size_alloc] at h
    · have h := heap_alloc_new ((w.alloc (.cells #[.func (.func f) #[] #[]] 86)).alloc (.cells #[.slice none 0 0] 40)) (.cells #[.int .i64 0] 36)
      rwa [World.size_alloc, World.size_alloc] at h
  have HB0 := Lib.hid hb0
  have H3 := Lib.hid hB3
  have HS0 := (SetsAt.keep hS hb0).more hb0.size
  have hV0 := Lib.hid HS0.vals
  have HCc := Lib.hid (zconcat_any G cap LS W0 HS0 hl hc)
  have HF := Lib.hid hF
  have HLen := Lib.hid hs
  have HT := Lib.hid hT
  clear hW0 hb0 hB3 HS0 hF hs hS hT
  refine HCc.out.mono ?_
  rintro e w1 ⟨v, rfl, ho, hb1⟩
  have hv1 : ∀ x ∈ catS LS, Vals w1 W0.heap.size x.1 x.2.2.1 ∧ FitL x.2.2.1 ∧ x.2.2.1.length ≤ 140737488355328 := fun x hx => ⟨(hV0.out x hx).below hb1, (HF.out x hx).1, HLen.out x hx⟩
  have HO1 := Lib.hid ho
  have HL1 := Lib.hid hb1
  have HV1 := Lib.hid hv1
  clear ho hb1 hv1 HCc hV0
  obtain ⟨r, hr⟩ : ∃ r, okRows (catS LS) = r := ⟨_, rfl⟩
  have HRr := Lib.hid hr
  have hh := has_any W0.heap.size v (catS LS) w1 HO1.out HV1.out HL1.out.size hc
  rw [hr] at hh
  have HH := Lib.hid hh
  clear hh hr
  go_wp2_with fail
  refine HH.out.mono ?_
  rintro e w2 ⟨rfl, hb2⟩
  have HL2 := Lib.hid (bnext HL1.out HL1.out.size hb2)
  have HO2 := Lib.hid (HO1.out.kept (below_grown hb2 none) (Decidable.em (v.ownBlock = none)))
  have HV2 := Lib.hid (fun x hx => (⟨(HV1.out x hx).1.below (hb2.mono HL1.out.size), (HV1.out x hx).2⟩ : Vals w2 W0.heap.size x.1 x.2.2.1 ∧ FitL x.2.2.1 ∧ x.2.2.1.length ≤ 140737488355328))
  clear hb2 HH HO1 HL1 HV1
  cases r with
  | false =>
    have h3 := H3.out.keep (HL2.out.mono (by omega))
    obtain ⟨d1, d2, f1, f2⟩ := h3.cells
    clear h3
    have HB2 := Lib.hid ((HB0.out.trans (HL2.out.mono HB0.out.size)))
    go_wp2_with fail
    refine leave_plain (v := .tuple #[.slice none 0 0, .int .i64 51]) (by simp [results, Tryz.results44, go_sem, World.cell?_setCell_other, d1, d2]) ?_
    refine ⟨(catS LS).mergeSort (fun a b => decide (cmpL b.2.2.1 a.2.2.1 ≠ -1)), List.mergeSort_perm _ _, sorted_items _, none, 0, [], ?_, At.nil _ _ _, OwnRows.nil _ _, ?_, ?_⟩
    · rw [sumE, HRr.out]
      rfl
    · rw [sumQ, sumOk, HRr.out]
      rfl
    · exact (HB2.out.setCell (p := ⟨w.heap.size + 1, 0, none⟩) (by show w.heap.size ≤ w.heap.size + 1; omega) _).setCell (p := ⟨w.heap.size + 1 + 1, 0, none⟩) (by show w.heap.size ≤ w.heap.size + 1 + 1; omega) _
  | true =>
    go_wp2_with fail
    refine (sort_any W0.heap.size v (catS LS) w2 HO2.out HV2.out HL2.out.size hc).mono ?_
    rintro e w5 ⟨rfl, A, cp, M, rfl, hlc, hcm, hp, hs2, hI5, hb5⟩
    have HL5 := Lib.hid (HL2.out.trans hb5)
    have HI5 := Lib.hid hI5
    have HP := Lib.hid hp
    have HS2 := Lib.hid hs2
    clear hI5 hb5 hp hs2 HO2 HV2
    have hc0 : Holds w5 w5.heap.size [] (w5.alloc (.cells #[.slice none 0 0] 40)) := ⟨.slice none 0 0, [], heap_alloc_new w5 _, World.ownsRow_nil _ _ _ _, OwnRows.nil _ _, rfl, below_alloc w5 _⟩
    have HC0 := Lib.hid hc0
    clear hc0
    have hM : M.length ≤ 4398046511104 := by rw [HP.out.length_eq]; exact hc
    have HFM := Lib.hid (show FitI M from fun x hx => HF.out x (HP.out.mem_iff.1 hx))
    have HLM := Lib.hid (show ∀ x ∈ M, x.2.2.1.length ≤ 140737488355328 from fun x hx => HLen.out x (HP.out.mem_iff.1 hx))
    have HRM := Lib.hid (show ∀ x ∈ M, x.2.2.1.length ≤ 1000000 from fun x hx => right_short (okRows_mem HRr.out x (HP.out.mem_iff.1 hx)))
    have HE := Lib.hid (groups_seq A cp w5.heap.size M (w5.alloc (.cells #[.slice none 0 0] 40)) (by simp) (HI5.out.below (below_alloc w5 _)) HFM.out HLM.out hlc hcm)
    have H35 := Lib.hid (H3.out.keep (HL5.out.mono (by omega)))
    have hz5 : w.heap.size + 3 ≤ w5.heap.size := by have := HL5.out.size; omega
    have HB5 := Lib.hid (HB0.out.trans (HL5.out.mono HB0.out.size))
    go_wp2_with fail
    refine wp_range (gf := 64) (ms := #[.slice A M.length cp]) rfl (enters_of Tryz.func64 (by kernel_rfl) rfl) (n₀ := w5.heap.size) (by simp) (fun _ => rfl) HE.out
      (fun pre W => Holds w5 w5.heap.size (keepG tf pre) W ∧ okG tf pre = true)
      (fun c pre W => c = .ret ∧ (∃ y ∈ pre, Wide.intE (tf y.2.2.2) ≠ 0) ∧ W.cell? ⟨w.heap.size + 1, 0, none⟩ = some (.slice none 0 0) ∧ W.cell? ⟨w.heap.size + 1 + 1, 0, none⟩ = some (.int .i64 11) ∧ Below w.heap.size w W)
      ?hI ?hIx ⟨HC0.out, rfl⟩
      (fun x a' W => ∃ gw, a' = { tmps := ((.func (.func f) #[] #[] : Value) :: .slice G LS.length cap :: .pointer (some ⟨w.heap.size, 0, none⟩) :: undef :: .pointer (some ⟨w.heap.size + 1, 0, none⟩) :: .pointer (some ⟨w.heap.size + 1 + 1, 0, none⟩) :: .slice A M.length cp :: .pointer (some ⟨w5.heap.size, 0, none⟩) :: .slice x.1 x.2.2.1.length x.2.1 :: .pointer (some ⟨gw, 0, none⟩) :: undef :: undef :: .slice G LS.length cap :: .slice A M.length cp :: .slice A M.length cp :: .bool false :: .slice A M.length cp :: .tuple #[] :: .slice A M.length cp :: .func (.func 64) #[.slice A M.length cp] #[] :: .slice x.1 x.2.2.1.length x.2.1 :: .agg #[.int .i64 (Wide.hi x.2.2.2), .int .u64 (Wide.lo x.2.2.2)] :: undef :: undef :: undef :: undef :: undef :: undef :: undef :: undef :: undef :: undef :: undef :: undef :: undef :: undef :: undef :: undef :: undef :: []).toArray, defers := [] } ∧ W.heap[gw]? = some (.cells #[.int .i64 (Wide.hi x.2.2.2), .int .u64 (Wide.lo x.2.2.2)] 90 (0, 0)) ∧ w5.heap.size ≤ gw)
      ?hAx ?assign ?body ?done ?stop
    case hI => exact fun s X Y row h hg hr => ⟨h.1.turn hg hr (by simp), h.2⟩
    case hIx => exact fun c s X Y row h hg hr => ⟨h.1, h.2.1, (turn_cell hg hr h.2.2.1).1, (turn_cell hg hr h.2.2.2.1).1, turn_below hg hr (Nat.le_refl _) (by simp; omega) h.2.2.2.2⟩
    case hAx =>
      intro x a' s X Y row h hg hr
      obtain ⟨gw, e, hw, hz⟩ := h
      exact ⟨gw, e, (turn_block hg hr hw).trans hw, hz⟩
    case assign =>
      intro l pre x W K hz hi hK
      have hz2 : w5.heap.size ≤ W.heap.size := by simp at hz; omega
      have HK := Lib.hid (hK _ (W.alloc (.cells #[.int .i64 (Wide.hi x.2.2.2), .int .u64 (Wide.lo x.2.2.2)] 90)) ((KeepsOthers.alloc _ _).from _) ((below_alloc W _).mono hz2) ⟨hi.1.turn (B := w5.heap.size) (World.grownBy_alloc W _ none) (fun r e => by cases e) (Nat.le_refl _), hi.2⟩ ⟨W.heap.size, rfl, heap_alloc_new W _, hz2⟩)
      clear hK hi
      dsimp only [encG]
      gi_wp2
      exact HK.out
    case body =>
      rintro l pre x a' W hz ⟨⟨v, Mv, h1, h2, h3, h4, h5⟩, hok⟩ ⟨gw, rfl, hw, hgw⟩ hpre
      obtain ⟨x1, x2, x3, x4⟩ := x
      simp only at hw
      have HBx := Lib.hid h1
      have HO := Lib.hid h2
      have HR := Lib.hid h3
      have HQ := Lib.hid h4
      have HL := Lib.hid h5
      have HOk := Lib.hid hok
      have hxg := hpre.subset (show (x1, x2, x3, x4) ∈ pre ++ [(x1, x2, x3, x4)] by simp)
      have hpl := hpre.length_le
      have c0 : W.cell? ⟨w5.heap.size, 0, none⟩ = some v := Boxed.cell (t := 40) h1
      have hB3 := H35.out.keep (h5.mono hz5)
      obtain ⟨d1, d2, f1, f2⟩ := hB3.cells
      have d0 := hB3.turn
      have HB3 := Lib.hid hB3
      have e0 : W.cell? ⟨gw, 0, none⟩ = some (.int .i64 (Wide.hi x4)) := by simp [World.cell?, hw]
      have e1 : W.cell? ⟨gw, 1, none⟩ = some (.int .u64 (Wide.lo x4)) := by simp [World.cell?, hw]
      have HXG := Lib.hid hxg
      have HPL := Lib.hid hpl
      clear h1 h2 h3 h4 h5 hpre hok hB3 hw hxg hpl
      obtain ⟨V, hV⟩ : ∃ V, Wide.intV (tf x4) = V := ⟨_, rfl⟩
      obtain ⟨E, hE⟩ : ∃ E, Wide.intE (tf x4) = E := ⟨_, rfl⟩
      have hE01 : E = 0 ∨ E = 11 := by rw [← hE]; unfold Wide.intE; split <;> simp
      have HI := Lib.hid (fun w => Wide.int_any (tf x4) w)
      have HVE := Lib.hid (show Wide.intV (tf x4) = V ∧ Wide.intE (tf x4) = E from ⟨hV, hE⟩)
      have hint := fun w => Wide.int_any (tf x4) w
      simp only [hV, hE] at hint
      have HInt := Lib.hid hint
      clear hint hV hE HI
      gi_wp2_with fail
      refine in_round (HT.out x4 W) ?_
      rintro e wa ⟨rfl, hba⟩
      have HA := Lib.hid hba
      clear hba
      gi_wp2_with fail
      refine in_round (HInt.out wa) ?_
      rintro e wb ⟨rfl, hbb⟩
      have HBb := Lib.hid (HA.out.trans (hbb.mono HA.out.size))
      have hbW := HBb.out
      clear hbb HA HInt
      have c0b : wb.cell? ⟨w5.heap.size, 0, none⟩ = some v := (hbW.cell (p := ⟨w5.heap.size, 0, none⟩) (show w5.heap.size < W.heap.size by simp at hz; omega)).trans c0
      obtain ⟨d1b, d2b, f1b, f2b⟩ := (HB3.out.keep (hbW.mono (show w.heap.size + 3 ≤ W.heap.size by simp at hz; omega))).cells
      have hzW : w5.heap.size + 1 ≤ W.heap.size := by simpa using hz
      have hzb := hbW.size
      have HWb := Lib.hid (HL.out.trans (hbW.mono HL.out.size))
      have HOb := Lib.hid (HO.out.kept (below_grown hbW none) (Decidable.em (v.ownBlock = none)))
      have HRb := Lib.hid (HR.out.call hbW)
      have HBxb := Lib.hid ((hbW.block w5.heap.size (by omega)).trans HBx.out)
      clear hbW c0 d1 d2 f1 f2 d0 e0 e1 HO HR HBx
      rcases hE01 with rfl | rfl
      · by_cases hV0 : V = 0
        · subst hV0
          gi_wp2
          refine ⟨(keeps_below HBb.out).from _, HBb.out.mono HL.out.size, ⟨v, Mv, HBxb.out, HOb.out, HRb.out, ?_, HWb.out⟩, ?_⟩
          · rw [HQ.out, keepG, keepG, List.filterMap_append]
            simp [HVE.out.1]
          · rw [okG, List.all_append]
            have := HOk.out
            rw [okG] at this
            simp [this, HVE.out.2]
        · have hMv : Mv.length + 1 ≤ 4398046511104 := by
            have e := congrArg List.length HQ.out
            rw [pl_length] at e
            have e2 : (keepG tf pre).length ≤ pre.length := List.length_filterMap_le _ _
            have e3 := groups_length M.length M
            have e4 := HPL.out
            simp at e4
            omega
          obtain ⟨y, hyM, hy1, hy2, hy3⟩ := groups_mem _ _ _ HXG.out
          simp only at hy1 hy2 hy3
          have hvx := HI5.out.2 y hyM
          have hrl := HRM.out y hyM
          rw [hy1, hy3] at hvx
          rw [hy3] at hrl
          have HC := Lib.hid (with_any w5.heap.size v Mv x1 x2 x3 V wb HOb.out ((hvx.below HWb.out).more HWb.out.size) HWb.out.size hrl hMv)
          clear hvx hrl hy1 hy2 hy3 hyM
          gi_wp2_with fail
          refine in_round HC.out ?_
          rintro e w2 ⟨v2, g, rfl, ho2, hb2, hg2, hgr⟩
          obtain ⟨g2, cap2, rfl⟩ := ownsRow_succ ho2
          have R2 := (HRb.out.grown HOb.out hgr).snoc (Nat.le_trans HWb.out.size hg2) hb2 V
          have B2 := (hgr.block _ (by omega) (own_box HBxb.out HOb.out)).trans HBxb.out
          have L2 := HWb.out.grown hgr HWb.out.size (fun k hk => (HOb.out.lt k hk).1)
          have K2 := (keeps_below HBb.out).trans (keeps_own HOb.out hgr)
          have N2 := (HBb.out.mono HL.out.size).trans ((Below.refl w5.heap.size wb).grown hgr HWb.out.size (fun k hk => (HOb.out.lt k hk).1))
          have QQ : pl (Mv ++ [((some ⟨g, 0, none⟩, x3.length, x3, V) : It)]) = keepG tf (pre ++ [(x1, x2, x3, x4)]) := by
            rw [pl_append, HQ.out, keepG, keepG, List.filterMap_append]
            simp [HVE.out.1, hV0, pl, pu]
          have ho2' : w2.ownsRow w5.heap.size 48 2 (.slice (some ⟨g2, 0, none⟩) (Mv.length + 1) cap2) (Mv ++ [((some ⟨g, 0, none⟩, x3.length, x3, V) : It)]).length (flatC cellsI (Mv ++ [((some ⟨g, 0, none⟩, x3.length, x3, V) : It)])) := by
            rw [List.length_append]
            exact ho2
          have HH := Lib.hid (Holds.stored B2 ho2' R2 QQ L2 (Nat.le_refl _))
          have HK2 := Lib.hid K2
          have HN2 := Lib.hid N2
          have k0 : w2.cell? ⟨w5.heap.size, 0, none⟩ = some v := Boxed.cell (t := 40) B2
          have k1 : w2.frozen? ⟨w5.heap.size, 0, none⟩ = false := Boxed.frozen (t := 40) B2
          clear HC K2 N2 QQ ho2 ho2' R2 B2 L2 hb2 hgr
          gi_wp2
          refine ⟨(HK2.out.trans (KeepsOthers.setCell _ _ _)).from _, HN2.out.trans ((Below.refl w5.heap.size w2).setCell (p := ({ block := w5.heap.size, off := 0 } : Addr)) (Nat.le_refl _) _), HH.out, ?_⟩
          rw [okG, List.all_append]
          have := HOk.out
          rw [okG] at this
          simp [this, HVE.out.2]
      · gi_wp2
        refine ⟨((keeps_below HBb.out).trans ((KeepsOthers.setCell _ _ _).trans (KeepsOthers.setCell _ _ _))).from _, rfl, ⟨_, List.mem_append_right _ (List.mem_singleton.2 rfl), by simp only [HVE.out.2]; decide⟩, ?_, ?_, ?_⟩
        · simp [go_sem, World.cell?_setCell_other, d1b]
        · simp [go_sem, World.cell?_setCell_other, d2b]
        · exact ((HB5.out.trans (HWb.out.mono HB5.out.size)).setCell (p := ⟨w.heap.size + 1, 0, none⟩) (by show w.heap.size ≤ w.heap.size + 1; omega) _).setCell (p := ⟨w.heap.size + 1 + 1, 0, none⟩) (by show w.heap.size ≤ w.heap.size + 1 + 1; omega) _
    case done =>
      rintro D W hD ⟨⟨v, Mv, h1, h2, h3, h4, h5⟩, hok⟩ hK
      obtain ⟨d1, d2, f1, f2⟩ := (H35.out.keep (h5.mono hz5)).cells
      have c0 : W.cell? ⟨w5.heap.size, 0, none⟩ = some v := Boxed.cell (t := 40) h1
      obtain ⟨B, cb, rfl, hat⟩ := own_at cellsI_length h2
      have hD5 : w5.heap.size + 1 ≤ D := by simpa using hD
      have HO := Lib.hid h2
      have HR := Lib.hid h3
      have HQ := Lib.hid h4
      have HL := Lib.hid h5
      have HOk := Lib.hid hok
      have hKs : ((W.setCell ⟨w.heap.size + 1, 0, none⟩ (.slice B Mv.length cb)).setCell ⟨w.heap.size + 1 + 1, 0, none⟩ (.int .i64 0)).heap[D]? = some (.deferred (some [])) := (Below.heap_setCell _ _ _ D (by simp; omega)).trans ((Below.heap_setCell _ _ _ D (by simp; omega)).trans hK)
      have HK := Lib.hid hKs
      have HK0 := Lib.hid hK
      clear h1 h2 h3 h4 h5 hat hok hKs hK
      go_wp2
      refine leave_mark HK.out (n₀ := w.heap.size) (by omega) fun W' hcell hsz hbel hoth => ?_
      refine ⟨.tuple #[.slice B Mv.length cb, .int .i64 0], ?_, M, HP.out, HS2.out, ?_⟩
      · have g1 := hcell ⟨w.heap.size + 1, 0, none⟩
        have g2 := hcell ⟨w.heap.size + 1 + 1, 0, none⟩
        rw [show ((W.setCell ⟨w.heap.size + 1, 0, none⟩ (.slice B Mv.length cb)).setCell ⟨w.heap.size + 1 + 1, 0, none⟩ (.int .i64 0)).cell? ⟨w.heap.size + 1, 0, none⟩ = some (.slice B Mv.length cb) by simp [go_sem, World.cell?_setCell_other, d1]] at g1
        rw [show ((W.setCell ⟨w.heap.size + 1, 0, none⟩ (.slice B Mv.length cb)).setCell ⟨w.heap.size + 1 + 1, 0, none⟩ (.int .i64 0)).cell? ⟨w.heap.size + 1 + 1, 0, none⟩ = some (.int .i64 0) by simp [go_sem, World.cell?_setCell_other, d2]] at g2
        simp [results, Tryz.results44, go_sem, g1, g2]
      · have hob : ∀ k, w5.heap.size ≤ k → k ≠ D → W'.heap[k]? = W.heap[k]? := fun k hk hkD => (hoth k hkD).trans ((Below.heap_setCell _ _ _ k (by simp; omega)).trans (Below.heap_setCell _ _ _ k (by simp; omega)))
        have hne : ∀ k cs ty fr, W.heap[k]? = some (.cells cs ty fr) → k ≠ D := fun k cs ty fr h e => by
          subst e
          have h1 := HK0.out.symm.trans h
          simp at h1
        have hown : W'.ownsRow w5.heap.size 48 2 (.slice B Mv.length cb) Mv.length (flatC cellsI Mv) := by
          refine ⟨HO.out.1, ?_⟩
          rcases HO.out.2 with ⟨h, h0⟩ | ⟨g, cap', cur, h, hg, hgb, hr⟩
          · exact .inl ⟨h, h0⟩
          · exact .inr ⟨g, cap', cur, h, hg, (hob g hg (hne g _ _ _ hgb)).trans hgb, hr⟩
        obtain ⟨B', cb', hB', hat⟩ := own_at cellsI_length hown
        cases hB'
        refine ⟨B, cb, Mv, ?_, hat, ?_, ?_, ?_⟩
        · rw [sumE, HRr.out, HOk.out]
          rfl
        · intro y hy
          obtain ⟨g, e, hgB, hc2, hbl⟩ := HR.out y hy
          exact ⟨g, e, by omega, hc2, hbl.keep (hob g hgB (hne g _ _ _ hbl))⟩
        · rw [HQ.out, sumQ, sumOk, HRr.out, HOk.out]
          rfl
        · exact (((HB5.out.trans (HL.out.mono HB5.out.size)).setCell (p := ⟨w.heap.size + 1, 0, none⟩) (by show w.heap.size ≤ w.heap.size + 1; omega) _).setCell (p := ⟨w.heap.size + 1 + 1, 0, none⟩) (by show w.heap.size ≤ w.heap.size + 1 + 1; omega) _).trans hbel
    case stop =>
      rintro D c pre W hD hpre ⟨rfl, ⟨y, hy, hyE⟩, d1, d2, hb⟩ hK
      have hD5 : w5.heap.size + 1 ≤ D := by simpa using hD
      have HOk := Lib.hid (show okG tf (groupsI M.length M) = false by
        unfold okG
        rw [List.all_eq_false]
        exact ⟨y, hpre.subset hy, by simpa using hyE⟩)
      have HK := Lib.hid hK
      have HB := Lib.hid hb
      clear hK hb hyE hy hpre
      go_wp2
      refine leave_mark HK.out (n₀ := w.heap.size) (by omega) fun W' hcell hsz hbel hoth => ?_
      refine ⟨.tuple #[.slice none 0 0, .int .i64 11], ?_, M, HP.out, HS2.out, none, 0, [], ?_, At.nil _ _ _, OwnRows.nil _ _, ?_, HB.out.trans hbel⟩
      · have g1 := (hcell ⟨w.heap.size + 1, 0, none⟩).trans d1
        have g2 := (hcell ⟨w.heap.size + 1 + 1, 0, none⟩).trans d2
        simp [results, Tryz.results44, go_sem, g1, g2]
      · rw [sumE, HRr.out, HOk.out]
        rfl
      · rw [sumQ, sumOk, HRr.out, HOk.out]
        rfl
end Go.Proofs.YtjjikooabmddlaaGreatDoor.Items
