/-
  The contract of Distinct of package zset: rows with a weight above 0, each a copy, with 1.
-/
import Derived.Test.YtlejhimcaidbeaaZPos
import Derived.Test.YtlejhimcaidbeaaZWith
namespace Go.Proofs.Ytlejhimcaidbeaa.Items
open Go.ChangeShapes Go.WideShapes Go.ChangeAt Go.RowKit Val Go.Proofs.Ytlejhimcaidbeaa.Code Go.Proofs.Ytlejhimcaidbeaa.Elems Go.Proofs.Ytlejhimcaidbeaa.ZP Go.Proofs.Ytlejhimcaidbeaa.Bits Go.Proofs.Ytlejhimcaidbeaa.Range
set_option linter.unusedVariables false
set_option maxRecDepth 100000
attribute [local go_sem] Oper.semAt_some

theorem OwnRows.turn {W W' : World} {row : Option Nat} {B base : Nat} {M : List It} (hg : W.grownBy W' row) (hr : ∀ r, row = some r → B ≤ r ∧ ∃ o : Obj, W.heap[r]? = some o ∧ o.isCells = false) (h : OwnRows W base M) : OwnRows W' base M :=
  h.keep fun g D _ hB => hB.keep (turn_block hg hr hB)
/-- a box at g holds a list of the call's own that says Q, with rows in blocks of its own -/
def Holds (w : World) (g : Nat) (Q : List (List (Int × Int × ByteArray) × Int)) (W : World) : Prop :=
  ∃ (v : Value) (M : List It), W.heap[g]? = some (.cells #[v] 25 (0, 0)) ∧ W.ownsRow w.heap.size 48 2 v M.length (flatC cellsI M) ∧ OwnRows W w.heap.size M ∧ pl M = Q ∧ Below w.heap.size w W
theorem Holds.turn {w W W' : World} {g : Nat} {Q : List (List (Int × Int × ByteArray) × Int)} {row : Option Nat} {B : Nat} (hg : W.grownBy W' row) (hr : ∀ r, row = some r → B ≤ r ∧ ∃ o : Obj, W.heap[r]? = some o ∧ o.isCells = false) (hB : w.heap.size ≤ B) (h : Holds w g Q W) : Holds w g Q W' := by
  obtain ⟨v, M, h1, h2, h3, h4, h5⟩ := h
  exact ⟨v, M, (turn_block hg hr h1).trans h1, turn_own hg hr h2, h3.turn hg hr, h4, turn_below hg hr (Nat.le_refl _) hB h5⟩
theorem own_box {W : World} {g base n : Nat} {v u : Value} {xs : List Value} (h : W.heap[g]? = some (.cells #[u] 25 (0, 0))) (ho : W.ownsRow base 48 2 v n xs) : some g ≠ v.ownBlock :=
  Boxed.not_row (t := 25) h (by decide) ho

/-- a list that grows keeps whatever is no cells -/
theorem keeps_own {W W' : World} {base n : Nat} {v : Value} {xs : List Value} (ho : W.ownsRow base 48 2 v n xs) (hg : W.grownBy W' v.ownBlock) : KeepsOthers W W' := by
  refine ⟨hg.size, fun k o hk hc => (hg.block k (Array.getElem?_eq_some_iff.1 hk).1 fun e => ?_).trans hk⟩
  rcases ho.2 with ⟨rfl, _⟩ | ⟨h, cap, cur, rfl, _, hgb, _⟩
  · simp [Value.ownBlock] at e
  · have e' : k = h := by simpa [Value.ownBlock] using e
    subst e'
    rw [hgb] at hk
    cases hk
    simp [Obj.isCells] at hc
/-- the box is written: the list in it is the longer one -/
theorem Holds.stored {w w2 : World} {g : Nat} {v v2 : Value} {M : List It} {Q : List (List (Int × Int × ByteArray) × Int)} (hb : w2.heap[g]? = some (.cells #[v] 25 (0, 0))) (ho : w2.ownsRow w.heap.size 48 2 v2 M.length (flatC cellsI M)) (hr : OwnRows w2 w.heap.size M) (hq : pl M = Q) (hl : Below w.heap.size w w2) (hg : w.heap.size ≤ g) :
    Holds w g Q (w2.setCell ⟨g, 0, none⟩ v2) := by
  have hs := Boxed.set (t := 25) v2 hb
  have hgb := grownBy_setCell' w2 g v2
  refine ⟨v2, M, hs, ho.kept hgb ?_, hr.keep fun k D hk hB => hB.keep (hgb.block k hB.lt fun e => ?_), hq, hl.setCell (p := ⟨g, 0, none⟩) hg _⟩
  · refine (Decidable.em (v2.ownBlock = none)).imp id fun hn e => ?_
    exact own_box hb ho e.symm
  · have e' : k = g := by simpa using e
    subst e'
    have h1 := (show w2.heap[k]? = _ from hB).symm.trans hb
    simp at h1

set_option maxHeartbeats 2000000 in
theorem zdist_any (A : Option Addr) (cap : Nat) (L : List It) (w : World) (hI : Items w w.heap.size A L) (hl : L.length ≤ 1000000) (hs : ∀ x ∈ L, x.2.2.1.length ≤ 1000000) :
    Calls Try.prog 24 #[.slice A L.length cap] w fun e w' => ∃ (B : Option Addr) (cb : Nat) (M : List It), e = .returned (.slice B M.length cb) ∧ At cellsI 2 w' w'.heap.size B M ∧ OwnRows w' w.heap.size M ∧ pl M = pl (distI L) ∧ Below w.heap.size w w' := by
  refine calls_marks Try.func24 rfl ?_
  simp only [Try.ntmps24, List.size_toArray, List.length_cons, List.length_nil, Nat.reduceAdd, Nat.reduceSub, Array.replicate_succ, Array.replicate_zero, List.push_toArray, List.append_toArray, List.nil_append, List.cons_append]
  have HI := Lib.hid hI
  clear hI
  go_wp2_with fail
  have hc0 : Holds w w.heap.size [] (w.alloc (.cells #[.slice none 0 0] 25)) := ⟨.slice none 0 0, [], heap_alloc_new w _, World.ownsRow_nil _ _ _ _, OwnRows.nil _ _, rfl, below_alloc w _⟩
  have HE := Lib.hid (each_seq A cap w.heap.size L (w.alloc (.cells #[.slice none 0 0] 25)) (by simp) (HI.out.below (below_alloc w _)) (by omega))
  refine wp_range (gf := 45) (ms := #[.slice A L.length cap]) rfl (enters_of Try.func45 (by kernel_rfl) rfl) (n₀ := w.heap.size) (by simp) (fun _ => rfl) HE.out
    (fun pre W => Holds w w.heap.size (pl (distI pre)) W)
    (fun c pre W => False)
    ?hI ?hIx hc0
    (fun x a' _ => a' = { tmps := #[.slice A L.length cap, undef, .slice none 0 0, .pointer (some ⟨w.heap.size, 0, none⟩), .slice x.1 x.2.2.1.length x.2.1, .int .i64 x.2.2.2, .slice A L.length cap, .func (.func 45) #[.slice A L.length cap] #[], .slice x.1 x.2.2.1.length x.2.1, .int .i64 x.2.2.2, undef, undef, undef, undef, undef, undef], defers := [] })
    (fun x a' s X Y row h _ _ => h) ?assign ?body ?done ?stop
  case hI => exact fun s X Y row h hg hr => h.turn hg hr (by simp)
  case hIx => exact fun c s X Y row h hg hr => h.elim
  case assign =>
    intro l pre x W K hz hi hK
    have HK := Lib.hid (hK _ W (KeepsFrom.refl _ _) (Below.refl _ _) hi rfl)
    clear hK hi
    dsimp only [encI]
    gi_wp2
    exact HK.out
  case body =>
    rintro l pre x a' W hz ⟨v, M, h1, h2, h3, h4, h5⟩ rfl hpre
    have HB := Lib.hid h1
    have HO := Lib.hid h2
    have HR := Lib.hid h3
    have HQ := Lib.hid h4
    have HL := Lib.hid h5
    have HPre := Lib.hid hpre
    have hpre2 := Lib.hid (show pre.length ≤ 1000000 by have := hpre.length_le; simp at this; omega)
    have hx : x ∈ L := hpre.subset (by simp)
    have c0 : W.cell? ⟨w.heap.size, 0, none⟩ = some v := Boxed.cell (t := 25) h1
    clear h1 h2 h3 h4 h5 hpre
    obtain ⟨x1, x2, x3, x4⟩ := x
    by_cases hp : 0 < x4
    · have hW : w.heap.size + 1 ≤ W.heap.size := by simpa using hz
      have hvx := HI.out.2 (x1, x2, x3, x4) hx
      have hrl := hs (x1, x2, x3, x4) hx
      have hdl : M.length ≤ 1000000 := by
        have e := congrArg List.length HQ.out
        have e2 := distI_le pre
        have e3 := hpre2.out
        rw [pl_length, pl_length] at e
        omega
      simp only at hvx hrl hp
      have hcall := with_any w.heap.size v M x1 x2 x3 1 W HO.out ((hvx.below HL.out).more HL.out.size) HL.out.size hrl (by omega)
      have HC := Lib.hid hcall
      clear hcall hvx
      gi_wp2_with fail
      refine in_round HC.out ?_
      rintro e w2 ⟨v2, g, rfl, ho2, hb2, hg2, hgr⟩
      obtain ⟨g2, cap2, rfl⟩ := ownsRow_succ ho2
      have R2 := (HR.out.grown HO.out hgr).snoc (Nat.le_trans HL.out.size hg2) hb2 1
      have B2 := (hgr.block _ (by omega) (own_box HB.out HO.out)).trans HB.out
      have L2 := HL.out.grown hgr HL.out.size (fun k hk => (HO.out.lt k hk).1)
      have K2 := (keeps_own HO.out hgr)
      have N2 := (Below.refl w.heap.size W).grown hgr HL.out.size (fun k hk => (HO.out.lt k hk).1)
      have QQ : pl (M ++ [((some ⟨g, 0, none⟩, x3.length, x3, 1) : It)]) = pl (distI (pre ++ [(x1, x2, x3, x4)])) := by
        rw [pl_append, HQ.out, distI, distI, List.filterMap_append, pl_append]
        simp [hp, pl, pu]
      have ho2' : w2.ownsRow w.heap.size 48 2 (.slice (some ⟨g2, 0, none⟩) (M.length + 1) cap2) (M ++ [((some ⟨g, 0, none⟩, x3.length, x3, 1) : It)]).length (flatC cellsI (M ++ [((some ⟨g, 0, none⟩, x3.length, x3, 1) : It)])) := by
        rw [List.length_append]
        exact ho2
      have HH := Lib.hid (Holds.stored B2 ho2' R2 QQ L2 (Nat.le_refl _))
      have HK2 := Lib.hid K2
      have HN2 := Lib.hid N2
      have d0 : w2.cell? ⟨w.heap.size, 0, none⟩ = some v := Boxed.cell (t := 25) B2
      have d1 : w2.frozen? ⟨w.heap.size, 0, none⟩ = false := Boxed.frozen (t := 25) B2
      clear HC K2 N2 QQ ho2 ho2' R2 B2 L2 hb2 hgr HO HR HB
      gi_wp2
      exact ⟨(HK2.out.trans (KeepsOthers.setCell _ _ _)).from _, HN2.out.trans ((Below.refl w.heap.size w2).setCell (p := ({ block := w.heap.size, off := 0 } : Addr)) (Nat.le_refl _) _), HH.out⟩
    · gi_wp2
      refine ⟨KeepsFrom.refl _ _, Below.refl _ _, v, M, HB.out, HO.out, HR.out, ?_, HL.out⟩
      rw [HQ.out, distI, distI, List.filterMap_append]
      simp [hp]
  case done =>
    rintro D W hD ⟨v, M, h1, h2, h3, h4, h5⟩ hK
    have c0 : W.cell? ⟨w.heap.size, 0, none⟩ = some v := Boxed.cell (t := 25) h1
    have HO := Lib.hid h2
    have HR := Lib.hid h3
    have HQ := Lib.hid h4
    have HL := Lib.hid h5
    have HK := Lib.hid hK
    clear h1 h2 h3 h4 h5 hK
    go_wp2
    refine leave_mark HK.out (n₀ := w.heap.size) (by simp at hD; omega) fun W' hcell hsz hbel hoth => ?_
    have ho : W'.ownsRow w.heap.size 48 2 v M.length (flatC cellsI M) := by
      refine HO.out.kept (row := some D) ⟨hbel.os, hbel.tape, hbel.output, hbel.size, fun k hk hne => hoth k (fun e => hne (by rw [e]))⟩ ?_
      refine (Decidable.em (v.ownBlock = none)).imp id fun hn e => ?_
      rcases HO.out.2 with ⟨rfl, _⟩ | ⟨h, cap, cur, rfl, _, hgb, _⟩
      · simp [Value.ownBlock] at e
      · have e' : h = D := by simpa [Value.ownBlock] using e
        subst e'
        have h1 := HK.out.symm.trans hgb
        simp at h1
    obtain ⟨B, cb, rfl, hat⟩ := own_at cellsI_length ho
    refine ⟨.slice B M.length cb, ?_, B, cb, M, rfl, hat, ?_, HQ.out, HL.out.trans hbel⟩
    · exact results_tmp (fn := Try.f24) rfl _ _ _
    · refine HR.out.keep fun k D2 hk hB => hB.keep (hoth k fun e => ?_)
      subst e
      have h1 := HK.out.symm.trans hB
      simp at h1
  case stop => exact fun D c pre W _ _ h _ => h.elim
end Go.Proofs.Ytlejhimcaidbeaa.Items
