/-
  The law's same: an index has what the document's has.
-/
import Derived.Test.YtjjikooabmddlaaGreatDoorM28
import Derived.Carry
import Derived.ChangeOld
import Derived.ChangeSame
import Derived.OpenShut
import Derived.ProofKit
import Derived.Lib.SmallJoins
import Derived.LaidMore
import Derived.Lay
import Derived.Stop.Joined
import Derived.Shelf.Vars
namespace Go.Proofs.YtjjikooabmddlaaGreatDoor.Items
open Go.ChangeShapes Go.WideShapes Go.ChangeAt Go.RowKit Val Go.Proofs.YtjjikooabmddlaaGreatDoor.Code Go.Proofs.YtjjikooabmddlaaGreatDoor.Elems Go.Proofs.YtjjikooabmddlaaGreatDoor.ZP Go.Proofs.YtjjikooabmddlaaGreatDoor.MapSl
set_option linter.unusedVariables false
set_option maxRecDepth 100000

theorem keys_fold (l : List Int) (hl : l.length ≤ 24) : ∀ (S : List It) (D : List (List (Int × Int × ByteArray))), (∀ y ∈ D, rightR y = true ∧ FitL y) → RowsOk l (pl S) → (pl S).foldl (fun D x => addB D (keyB l x.1)) (D.map keyS) = (S.foldl (fun D x => addKey D (pickL x.2.2.1 l)) D).map keyS
  | [], D, _, _ => rfl
  | x :: S, D, hD, hS => by
    obtain ⟨a, b, _, d⟩ := hS (pu x) (by simp [pl])
    have hp : rightR (pickL x.2.2.1 l) = true := pick_right d a hl
    have hf : FitL (pickL x.2.2.1 l) := pick_fit b
    have e : addB (D.map keyS) (keyB l x.2.2.1) = (addKey D (pickL x.2.2.1 l)).map keyS := by
      unfold addB addKey
      have h1 : (D.map keyS).any (fun y => decide (y = keyB l x.2.2.1)) = D.any fun y => decide (y = pickL x.2.2.1 l) := by
        rw [List.any_map, Bool.eq_iff_iff, List.any_eq_true, List.any_eq_true]
        constructor
        · rintro ⟨y, hy, h⟩
          refine ⟨y, hy, ?_⟩
          rw [Function.comp, decide_eq_true_eq] at h
          rw [decide_eq_true_eq]
          exact key_inj (hD y hy).1 hp (hD y hy).2 hf h
        · rintro ⟨y, hy, h⟩
          rw [decide_eq_true_eq] at h
          refine ⟨y, hy, ?_⟩
          rw [Function.comp, decide_eq_true_eq, h]
          rfl
      rw [h1]
      split
      · rfl
      · rw [List.map_append]
        rfl
    show ((pl S).foldl (fun D x => addB D (keyB l x.1)) (addB (D.map keyS) (keyB l x.2.2.1))) = (S.foldl (fun D x => addKey D (pickL x.2.2.1 l)) (addKey D (pickL x.2.2.1 l))).map keyS
    rw [e]
    refine keys_fold l hl S _ (fun y hy => ?_) fun y hy => hS y (by simp [pl] at hy ⊢; exact .inr hy)
    unfold addKey at hy
    split at hy
    · exact hD y hy
    · rcases List.mem_append.1 hy with hy | hy
      · exact hD y hy
      · rw [List.mem_singleton.1 hy]; exact ⟨hp, hf⟩
theorem keys_same {l : List Int} (hl : l.length ≤ 24) {S : List It} (hS : RowsOk l (pl S)) : (keysB l (pl S)).length = (keysL l S).length := by
  have := keys_fold l hl S [] (fun y hy => by cases hy) hS
  unfold keysB keysL
  rw [show (pl S).foldl (fun D x => addB D (keyB l x.1)) [] = (pl S).foldl (fun D x => addB D (keyB l x.1)) (([] : List (List (Int × Int × ByteArray))).map keyS) from rfl, this, List.length_map]

/-- a list that lies at A, n long, and says T -/
def Told (w : World) (A : Option Addr) (n : Nat) (T : PL) : Prop := ∃ M : List It, n = M.length ∧ Items w w.heap.size A M ∧ pl M = T ∧ n ≤ 140737488355328 ∧ ∀ x ∈ M, x.2.2.1.length ≤ 140737488355328
theorem Told.next {w w' : World} {A : Option Addr} {n : Nat} {T : PL} (h : Told w A n T) (hb : Below w.heap.size w w') : Told w' A n T := by
  obtain ⟨M, h1, h2, h3⟩ := h
  exact ⟨M, h1, h2.next hb, h3⟩
theorem told_of {w : World} {A : Option Addr} {M : List It} {T : PL} (hI : Items w w.heap.size A M) (hT : pl M = T) (hr : RightP T) (hn : T.length ≤ 140737488355328) : Told w A M.length T := ⟨M, rfl, hI, hT, by rw [← pl_length M, hT]; exact hn, right_len (hT ▸ hr)⟩
theorem right_filter {T : PL} (h : RightP T) (c : (List (Int × Int × ByteArray) × Int) → Bool) : RightP (T.filter c) := fun x hx => h x (List.mem_filter.1 hx).1
/-- what is told, as what lies there -/
abbrev TellsT (w : World) (T : PL) (e : Ending) (w' : World) : Prop := ∃ (A : Option Addr) (n c : Nat), e = .returned (.slice A n c) ∧ Told w' A n T ∧ Below w.heap.size w w'
theorem tellE_T {w w' : World} {T : PL} {e : Ending} (h : TellE w T e w') (hr : RightP T) (hn : T.length ≤ 140737488355328) : TellsT w T e w' := by
  obtain ⟨A, c, M, he, hI, _, hq, hb⟩ := h.items
  exact ⟨A, M.length, c, he, told_of hI hq hr hn, hb⟩
theorem itemsPost_T {w w' : World} {L : List It} {T : PL} {e : Ending} (h : ItemsPost w L e w') (hT : pl L = T) (hr : RightP T) (hn : T.length ≤ 140737488355328) : TellsT w T e w' := by
  obtain ⟨A, c, he, hI, hb⟩ := h
  exact ⟨A, L.length, c, he, told_of hI hT hr hn, hb⟩
theorem pl_pickI (q : List (Int × Int × ByteArray) → Bool) (S : List It) : pl (pickI q S) = (pl S).filter fun x => q x.1 := by
  unfold pl pickI
  rw [List.filter_map]
  rfl
theorem same_told (w : World) (A B : Option Addr) (n c m d : Nat) (T : PL) (hA : Told w A n T) (hB : Told w B m T) :
    Calls Tryz.prog 19 #[.slice A n c, .slice B m d] w fun e w' => e = .returned (.bool true) ∧ Below w.heap.size w w' := by
  obtain ⟨M, rfl, h2, h3, h4, h5⟩ := hA
  obtain ⟨N, rfl, k2, k3, k4, k5⟩ := hB
  exact isame_true A B c d M N w (h3.trans k3.symm) h2 k2 h4 k4 h5 k5
set_option maxHeartbeats 8000000 in
theorem isSame_any (p : Nat) (mo : Option Nat) (C : Option Addr) (cc : Nat) (l : List Int) (S : List It) (g : Nat) (C2 : Option Addr) (c2 : Nat) (A2 : Option Addr) (ca2 : Nat) (K U : Option Addr) (ck cu : Nat) (key to : List (Int × Int × ByteArray)) (m : Int) (w : World) (hX : Idx w p mo C cc l (pl S)) (hR : RIdx w g C2 c2 l A2 ca2 S)
    (hl : l.length ≤ 24) (hS : S.length ≤ 1000) (hK : Vals w w.heap.size K key) (fK : FitL key) (hk : key.length ≤ 1000000) (hU : Vals w w.heap.size U to) (hu : to.length ≤ 1000000) (hm : w.cell? ⟨0, 0, none⟩ = some (.int .i64 m)) :
    Calls Tryz.prog 13 #[.pointer (some ⟨p, 0, none⟩), .pointer (some ⟨g, 0, none⟩), .slice K key.length ck, .slice U to.length cu] w fun e w' => e = .returned (.bool true) ∧ Below w.heap.size w w' := by
  have hright : RightP (pl S) := fun x hx => (hX.rows x hx).1
  have hSl : (pl S).length ≤ 1000 := by rw [pl_length]; exact hS
  have hfl : ∀ c : (List (Int × Int × ByteArray) × Int) → Bool, ((pl S).filter c).length ≤ 140737488355328 := fun c => Nat.le_trans (List.length_filter_le _ _) (by omega)
  have hrl : ∀ x ∈ S, x.2.2.1.length ≤ 1000000 := fun x hx => by
    have := hright (pu x) (List.mem_map.2 ⟨x, hx, rfl⟩)
    unfold rightR at this
    rw [Bool.and_eq_true, decide_eq_true_eq] at this
    have h2 : x.2.2.1.length ≤ 24 := this.1
    omega
  have e1 : ∀ W, Below w.heap.size w W → Calls Tryz.prog 17 #[.pointer (some ⟨p, 0, none⟩), .slice K key.length ck] W (TellsT W ((pl S).filter fun x => keyQ l key x.1)) := fun W hb =>
    (find_any p mo C cc l (pl S) K ck key m W (hX.below hb) hl hSl ((hK.below hb).more hb.size) fK (by omega) ((hb.cell (p := ⟨0, 0, none⟩) (World.block_lt_of_cell? _ _ hm)).trans hm)).mono fun e w' h => tellE_T h (right_filter hright _) (hfl _)
  have e2 : ∀ W, Below w.heap.size w W → Calls Tryz.prog 34 #[.pointer (some ⟨g, 0, none⟩), .slice K key.length ck] W (TellsT W ((pl S).filter fun x => keyQ l key x.1)) := fun W hb =>
    (ifind_any g C2 c2 l A2 ca2 S K ck key W (hR.below hb) ((hK.below hb).more hb.size) (by omega) (by omega) hrl (by omega)).mono fun e w' h => itemsPost_T h (pl_pickI _ _) (right_filter hright _) (hfl _)
  have e3 : ∀ W, Below w.heap.size w W → Calls Tryz.prog 24 #[.pointer (some ⟨p, 0, none⟩), .slice K key.length ck, .slice U to.length cu] W (TellsT W ((pl S).filter fun x => rangeQ l key to x.1)) := fun W hb =>
    (range_any own_does p mo C cc l (pl S) K U ck cu key to W (hX.below hb) hl hSl ((hK.below hb).more hb.size) ((hU.below hb).more hb.size) (by omega) (by omega)).mono fun e w' h => tellE_T h (right_filter hright _) (hfl _)
  have e4 : ∀ W, Below w.heap.size w W → Calls Tryz.prog 35 #[.pointer (some ⟨g, 0, none⟩), .slice K key.length ck, .slice U to.length cu] W (TellsT W ((pl S).filter fun x => rangeQ l key to x.1)) := fun W hb =>
    (irange_any g C2 c2 l A2 ca2 S K ck key U cu to W (hR.below hb) ((hK.below hb).more hb.size) ((hU.below hb).more hb.size) (by omega) (by omega) hrl (by omega) (by omega)).mono fun e w' h => itemsPost_T h (pl_pickI _ _) (right_filter hright _) (hfl _)
  have e5 : ∀ W, Below w.heap.size w W → Calls Tryz.prog 15 #[.pointer (some ⟨p, 0, none⟩)] W (TellsT W (pl S)) := fun W hb =>
    (all_any own_does p mo C cc l (pl S) W (hX.below hb) hl hSl).mono fun e w' h => tellE_T h hright (by omega)
  have e6 : ∀ W, Below w.heap.size w W → Calls Tryz.prog 16 #[.pointer (some ⟨p, 0, none⟩)] W fun e w' => e = .returned (.int .i64 ((keysL l S).length : Int)) ∧ Below W.heap.size W w' := fun W hb =>
    (keys_any p mo C cc l (pl S) W (hX.below hb)).mono fun e w' h => ⟨by rw [h.1, keys_same hl hX.rows], h.2 ▸ Below.refl _ _⟩
  have e7 : ∀ W, Below w.heap.size w W → Calls Tryz.prog 21 #[.pointer (some ⟨g, 0, none⟩)] W fun e w' => e = .returned (.int .i64 ((keysL l S).length : Int)) ∧ Below W.heap.size W w' := fun W hb =>
    ikeys_any g C2 c2 l A2 ca2 S W (hR.below hb) (by omega) (by omega) hrl
  have e8 : Told w A2 S.length (pl S) := told_of hR.items rfl hright (by omega)
  have q1 := hR.set
  have hg := hR.lt
  obtain ⟨n2, hn2⟩ : ∃ n2, S.length = n2 := ⟨_, rfl⟩
  obtain ⟨kn, hkn⟩ : ∃ kn, (keysL l S).length = kn := ⟨_, rfl⟩
  rw [hn2] at e8 q1
  rw [hkn] at e6 e7
  obtain ⟨T, hT⟩ : ∃ T, pl S = T := ⟨_, rfl⟩
  rw [hT] at e1 e2 e3 e4 e5 e8
  have E1 := Lib.hid e1
  have E2 := Lib.hid e2
  have E3 := Lib.hid e3
  have E4 := Lib.hid e4
  have E5 := Lib.hid e5
  have E6 := Lib.hid e6
  have E7 := Lib.hid e7
  have E8 := Lib.hid e8
  clear e1 e2 e3 e4 e5 e6 e7 e8 hX hR hright hSl hfl hrl hK fK hk hU hu hm hn2 hkn hT hS hl
  go_enter Tryz.func13, Tryz.ntmps13
  go_wp2_with fail
  go_region_held3 (fun w' => (w'.cell? ⟨g, 1, none⟩ = some (.slice A2 n2 ca2)) ∧ Below w.heap.size w w')
    (first | assumption | (refine keepP hb10 (by assumption) ?_; intro kk; exact (kk ⟨g, 1, none⟩ hg).trans q1) | (refine keepP hb9 (by assumption) ?_; intro kk; exact (kk ⟨g, 1, none⟩ hg).trans q1) | (refine keepP hb8 (by assumption) ?_; intro kk; exact (kk ⟨g, 1, none⟩ hg).trans q1) | (refine keepP hb7 (by assumption) ?_; intro kk; exact (kk ⟨g, 1, none⟩ hg).trans q1) | (refine keepP hb6 (by assumption) ?_; intro kk; exact (kk ⟨g, 1, none⟩ hg).trans q1) | (refine keepP hb5 (by assumption) ?_; intro kk; exact (kk ⟨g, 1, none⟩ hg).trans q1) | (refine keepP hb4 (by assumption) ?_; intro kk; exact (kk ⟨g, 1, none⟩ hg).trans q1) | (refine keepP hb3 (by assumption) ?_; intro kk; exact (kk ⟨g, 1, none⟩ hg).trans q1) | (refine keepP hb2 (by assumption) ?_; intro kk; exact (kk ⟨g, 1, none⟩ hg).trans q1) | (refine keepP hb1 (by assumption) ?_; intro kk; exact (kk ⟨g, 1, none⟩ hg).trans q1) | (exact ⟨q1, Below.drew (Below.refl _ _)⟩))
    (first | (go_at_call 17; with_reducible refine (E1.out _ ?cv).mono ?_; (case cv => exact (by assumption : _ ∧ Below w.heap.size w _).2); rintro e w1 ⟨A1, n1, c1, rfl, HT1, hb1⟩) | (go_at_call 34; with_reducible refine (E2.out _ ?cv).mono ?_; (case cv => exact (by assumption : _ ∧ Below w.heap.size w _).2); rintro e w2 ⟨A3, n3, c3, rfl, HT2, hb2⟩) | (go_at_call 19; with_reducible refine (same_told _ _ _ _ _ _ _ (T.filter fun x => keyQ l key x.1) ?ca ?cb).mono ?_; (case ca => exact HT1.next hb2); (case cb => exact HT2); rintro e w3 ⟨rfl, hb3⟩) | (go_at_call 24; with_reducible refine (E3.out _ ?cv).mono ?_; (case cv => exact (by assumption : _ ∧ Below w.heap.size w _).2); rintro e w4 ⟨A4, n4, c4, rfl, HT4, hb4⟩) | (go_at_call 35; with_reducible refine (E4.out _ ?cv).mono ?_; (case cv => exact (by assumption : _ ∧ Below w.heap.size w _).2); rintro e w5 ⟨A5, n5, c5, rfl, HT5, hb5⟩) | (go_at_call 19; with_reducible refine (same_told _ _ _ _ _ _ _ (T.filter fun x => rangeQ l key to x.1) ?ca ?cb).mono ?_; (case ca => exact HT4.next hb5); (case cb => exact HT5); rintro e w6 ⟨rfl, hb6⟩) | (go_at_call 15; with_reducible refine (E5.out _ ?cv).mono ?_; (case cv => exact (by assumption : _ ∧ Below w.heap.size w _).2); rintro e w7 ⟨A7, n7, c7, rfl, HT7, hb7⟩) | (go_at_call 19; with_reducible refine (same_told _ _ _ _ _ _ _ T ?ca ?cb).mono ?_; (case ca => exact HT7); (case cb => exact E8.out.next (by assumption : _ ∧ Below w.heap.size w _).2); rintro e w8 ⟨rfl, hb8⟩) | (go_at_call 16; with_reducible refine (E6.out _ ?cv).mono ?_; (case cv => exact (by assumption : _ ∧ Below w.heap.size w _).2); rintro e w9 ⟨rfl, hb9⟩) | (go_at_call 21; with_reducible refine (E7.out _ ?cv).mono ?_; (case cv => exact (by assumption : _ ∧ Below w.heap.size w _).2); rintro e w10 ⟨rfl, hb10⟩))
  have X := Lib.hid (show Below w.heap.size w w10 by rename_i hS; exact hS.2)
  clear hb1 hb2 hb3 hb4 hb5 hb6 hb7 hb8 hb9 hb10
  go_wp2
  go_ret
  exact ⟨rfl, X.out⟩
end Go.Proofs.YtjjikooabmddlaaGreatDoor.Items

/-
  How a law's row is shut, whatever its arguments are: where a law returns true and nothing that was there has changed ('Below'), each argument reads behind the call as it read before.
-/
namespace Go.Proofs.YtjjikooabmddlaaGreatDoor.Law
open Go.ChangeShapes Go.WideShapes Go.WideElems Go.RowKit
section
variable {H : Type} {enc : TypeId × Value → H} {P : Program}

/-- each type of the list can be read, and is a row of the table -/
def rowed (P : Program) (ts : List TypeId) : Bool := ts.all fun t => P.readableRec t && decide (t < P.types.size)

theorem stays (hl : laidOutB P = true) {W W' : World} (hb : Below W.heap.size W W') : ∀ {ts : List TypeId} {vs : List Value} {ds : List (DataW H)} {ps : List MemPlace},
    rowed P ts = true → DataW.TrodAll enc P W 0 (fun _ => true) true ts vs ds ps → (∀ p ∈ ps, p.block < W.heap.size) →
    DataW.TrodAll enc P W' 0 (fun b => decide (b < W.heap.size)) true ts vs ds ps
  | [], _, _, _, _, h, _ => by
    obtain ⟨rfl, rfl, rfl⟩ := trodAll_nil h
    exact rfl
  | t :: ts, _, _, _, hr, h, hlt => by
    obtain ⟨v, vs, d, ds, p, q, rfl, rfl, rfl, ⟨fuel, h1⟩, h2⟩ := trodAll_cons h
    simp only [rowed, List.all_cons, Bool.and_eq_true, decide_eq_true_eq] at hr
    have hp : ∀ x ∈ p, x.block < W.heap.size := fun x hx => hlt x (List.mem_append_left _ hx)
    refine ⟨p, q, ⟨fuel, ?_⟩, stays hl hb (by simpa [rowed] using hr.2) h2 (fun x hx => hlt x (List.mem_append_right _ hx)), rfl⟩
    exact DataW.trod_stays (kids_book hl hr.1.1) (book_sized hr.1.1) (fun h => by cases h) ⟨hr.1.2, book_self t⟩ h1 (fun x hx => hb.same (hp x hx)) (fun x hx => by simpa using hp x hx)

/-- The law's own end: it answered true, and below the heap's old size all is as it was. -/
theorem post_true (hl : laidOutB P = true) {f : Func} (hr : rowed P f.params.toList = true) {s : ChangeSpec} (hs : s.vars = []) {tb : TypeId} (hres : f.resultTypes = #[tb]) (hbool : P.underlying tb = some .bool)
    {W W' : World} {args : Array Value} {ds gs : List (DataW H)} {before : List MemPlace} (hW : DataW.Whole enc P f.params.toList s.vars false W args.toList ds gs before)
    (hfn : s.fn H (ds ++ gs) = { results := [.lit (.bool true)], args := ds }) (hb : Below W.heap.size W W') :
    s.post enc P f false true false false W args (.bool true) W' := by
  have hlt : ∀ p ∈ before, p.block < W.heap.size := fun p hp => hW.lt p hp
  have hW2 := hW
  obtain ⟨p, q, hA, hV, rfl, _, _⟩ := hW2
  refine ⟨ds, gs, p ++ q, [], p, [], hW, ?_, ?_, ?_, ?_, ?_⟩
  · rw [hfn, hres]
    exact trodAll_cons_mk (shut_bool hbool true) trodAll_mk0
  · rw [hfn]
    exact stays hl hb hr hA (fun x hx => hlt x (List.mem_append_left _ hx))
  · rw [hfn, hs]
    exact rfl
  · exact hb.frame _
  · intro h
    cases h
end
end Go.Proofs.YtjjikooabmddlaaGreatDoor.Law

/-
  A law whose row lists package-level variables: how it is lifted, the world's shape kept beside what is listed; and a value's three parts opened.
-/
namespace Go.Proofs.YtjjikooabmddlaaGreatDoor.Law
open Go.Joins Go.ChangeShapes Go.WideShapes Go.WideElems Go.RowKit Go.Deep
section
variable {H : Type} {enc : TypeId × Value → H}
/-- a law's row is lifted: what is listed (X) and the world's shape are both at hand -/
theorem lift_laid {a : Assume} {C : Checked} {os : Os} {f : FuncId} {fn : Func} {s : ChangeSpec} {conds : List PathCond} {apart fresh handsOn again : Bool} {X : World → Array Value → Prop}
    (hX : ∀ (w w' : World) (args : Array Value), w.heap = w'.heap → X w args → X w' args)
    (own : ownKnob C.prog.godebug = none) (started : os.Started) (noInit : C.prog.inits.idxOf? f = none) (hfn : C.prog.funcs[f]? = some fn)
    (witness : ∃ (w : World) (tape : Tape) (i : Input), w.os = os ∧ (w.forCall tape i).Shaped C.prog ∧ i.vars = [] ∧ Input.okWide C.prog (w.forCall tape i) .any w.heap.size f i ∧
      ((s.pre enc C.prog fn conds apart (w.forCall tape i).memory i.args ∧ X (w.forCall tape i).memory i.args) ∧ sizedMet enc C.prog fn (OpenSpec.ofChange s) apart (w.forCall tape i).memory i.args) ∧ a.holds C.prog (lone (Frame.enter C.prog f i.args .normal) [] (w.forCall tape i)))
    (walk : ∀ (W : World) (base : Nat) (args : Array Value) (ds gs : List (DataW H)) (before : List MemPlace),
      (∀ (j : Nat) t v, fn.params[j]? = some t → args[j]? = some v → Value.okWide C.prog W .any base t v) →
      DataW.Whole enc C.prog fn.params.toList s.vars apart W args.toList ds gs before → W.ShapedOpen C.prog → X W args →
      Calls C.prog f args W fun e W' => ∃ v, e = .returned v ∧ s.post enc C.prog fn apart fresh handsOn again W args v W') :
    ReturnsInHanded a C os f .any (fun w args => (s.pre enc C.prog fn conds apart w args ∧ X w args) ∧ sizedMet enc C.prog fn (OpenSpec.ofChange s) apart w args) (s.post enc C.prog fn apart fresh handsOn again) := by
  refine returnsInHanded_of_calls own started noInit witness ?_
  intro w tape i _ hsh _ hok hpre _
  obtain ⟨_, _, _, fn', hfn', _, _, _, _, hval⟩ := hok
  obtain rfl : fn' = fn := Option.some.inj (hfn'.symm.trans hfn)
  obtain ⟨⟨⟨ds, gs, before, hw, _⟩, hx⟩, _⟩ := hpre
  refine (walk (w.forCall tape i) w.heap.size i.args ds gs before hval (DataW.Whole.of_heap (w' := w.forCall tape i) (by rfl) hw) hsh (hX _ _ _ (by rfl) hx)).mono fun e W' ⟨v, he, hp⟩ => ?_
  subst he
  exact ChangeSpec.post_blind hp
end
section
variable {H : Type} {enc : TypeId × Value → H} {P : Program} {w : World} {base : Nat} {spare : Nat → Bool} {held : Bool}
theorem open_value {r : Reach} {b0 : Nat} {t : TypeId} {f0 f1 f2 : Field} {v : Value} {d : DataW H} {p : List MemPlace} (hs : P.underlying t = some (.struct #[f0, f1, f2])) (hone : oneCellFields P #[f0, f1, f2] = true) (hC : P.cellsOf t = 3)
    (e0 : P.underlying f0.type = some (.int .i64)) (e1 : P.underlying f1.type = some (.int .i64)) (e2 : P.underlying f2.type = some .string) (hv : Value.okWide P w r b0 t v) (h : DataW.Trod enc P w base spare held t v d p) :
    ∃ (a b : Int) (s : ByteArray), v = .agg #[.int .i64 a, .int .i64 b, .string s] ∧ (Lit.int .i64 a).wf = true ∧ (Lit.int .i64 b).wf = true ∧ s.size ≤ maxLen := by
  obtain ⟨v0, v1, v2, y0, y1, y2, n, rfl, _, _, g0, g1, g2⟩ := open_agg3 hs hone hC hv h
  obtain ⟨a, ea, _, wa⟩ := DataW.trod_int e0 g0
  obtain ⟨b, eb, _, wb⟩ := DataW.trod_int e1 g1
  obtain ⟨s, es, _, ws⟩ := DataW.trod_string e2 g2
  simp only [List.cons.injEq, and_true] at ea eb es
  exact ⟨a, b, s, by rw [ea, eb, es], wa, wb, ws⟩
end
end Go.Proofs.YtjjikooabmddlaaGreatDoor.Law
