/-
  What an index tells: the items of the keys that are asked for, in order, of the call's own; sets gathered while a map is gone through.
-/
import Derived.Test.YtjjikooabmddlaaGreatDoorM15
import Derived.Test.YtjjikooabmddlaaGreatDoorM16
namespace Go.Proofs.YtjjikooabmddlaaGreatDoor.Items
open Go.ChangeShapes Go.WideShapes Go.ChangeAt Go.RowKit Val Go.Proofs.YtjjikooabmddlaaGreatDoor.Code Go.Proofs.YtjjikooabmddlaaGreatDoor.Elems Go.Proofs.YtjjikooabmddlaaGreatDoor.ZP Go.Proofs.YtjjikooabmddlaaGreatDoor.MapSl
set_option linter.unusedVariables false
set_option maxRecDepth 100000

/-- told items: in order, of the call's own -/
def TellE (w : World) (T : PL) (e : Ending) (w' : World) : Prop :=
  ∃ (A : Option Addr) (c : Nat) (M : List It), e = .returned (.slice A M.length c) ∧ At cellsI 2 w' w'.heap.size A M ∧ OwnRows w' w.heap.size M ∧ pl M = T ∧ Below w.heap.size w w'
/-- what own does -/
def OwnDoes : Prop := ∀ (G : Option Addr) (cap : Nat) (LS : List (Option Addr × Nat × List It)) (w : World) (T : PL), SetsAt w w.heap.size G LS → FitI (catS LS) → RightP (pl (catS LS)) → LS.length ≤ 1000 → (catS LS).length ≤ 4398046511104 → SumOf T (pl (catS LS)) → WFit T →
  Calls Tryz.prog 39 #[.slice G LS.length cap] w (TellE w T)
theorem TellE.next {w W w' : World} {T : PL} {e : Ending} (h : TellE W T e w') (hb : Below w.heap.size w W) : TellE w T e w' := by
  obtain ⟨A, c, M, he, ha, hr, hq, hb2⟩ := h
  refine ⟨A, c, M, he, ha, fun x hx => ?_, hq, hb.trans (hb2.mono hb.size)⟩
  obtain ⟨g, e2, hB, h3⟩ := hr x hx
  exact ⟨g, e2, Nat.le_trans hb.size hB, h3⟩

/-- a set, as the cell of a list of sets -/
def cellsS (x : Option Addr × Nat × List It) : List Value := [.slice x.1 x.2.2.length x.2.1]
theorem cellsS_length (x : Option Addr × Nat × List It) : (cellsS x).length = 1 := rfl
theorem cellsS_one (x : Option Addr × Nat × List It) : ∀ u ∈ cellsS x, u.oneCell' = true := by
  intro u hu
  simp [cellsS] at hu
  subst hu
  rfl
theorem info_set : (Tryz.prog.info? 40).map (fun i => (i.zero, i.size, i.bytes)) = some (some (.slice none 0 0), 1, 24) := by kernel_rfl
theorem setsAt_own {w : World} {B : Nat} {v : Value} {LS : List (Option Addr × Nat × List It)} (h : w.ownsRow B 40 1 v LS.length (flatC cellsS LS)) (hI : ∀ x ∈ LS, Items w w.heap.size x.1 x.2.2) :
    ∃ G cap, v = .slice G LS.length cap ∧ SetsAt w w.heap.size G LS := by
  obtain ⟨G, cap, e, ha⟩ := own_at cellsS_length h
  refine ⟨G, cap, e, fun i hi => ⟨?_, hI _ (List.getElem_mem hi)⟩⟩
  obtain ⟨ad, e2, hb, hc⟩ := ha i hi
  refine ⟨ad, e2, hb, ?_⟩
  have := hc 0 _ rfl
  simpa using this
theorem catS_add (LS : List (Option Addr × Nat × List It)) (x : Option Addr × Nat × List It) : catS (LS ++ [x]) = catS LS ++ x.2.2 := by
  unfold catS
  rw [List.flatMap_append]
  simp

/-- the weights of what was taken so far -/
def SelOf (l : List Int) (S : PL) (q : List (Int × Int × ByteArray) → Bool) (vis : ByteArray → Bool) (Q : PL) : Prop := ∀ r, weightP Q r = if (vis (keyB l r) && q (pickL r l)) = true then weightP S r else 0
theorem sel_start (l : List Int) (S : PL) (q : List (Int × Int × ByteArray) → Bool) (vis : ByteArray → Bool) (h : ∀ k, vis k = false) : SelOf l S q vis [] := fun r => by rw [h]; rfl
theorem weight_filter (c : List (Int × Int × ByteArray) → Bool) (r : List (Int × Int × ByteArray)) : ∀ S : PL, weightP (S.filter fun x => c x.1) r = if c r = true then weightP S r else 0
  | [] => by simp [weightP]
  | x :: S => by
    have ih := weight_filter c r S
    rw [List.filter_cons]
    by_cases e : c x.1 = true
    · rw [if_pos e, weightP, weightP, ih]
      by_cases e2 : x.1 = r
      · subst e2; rw [if_pos rfl, if_pos e, if_pos e]
      · rw [if_neg e2]; split <;> omega
    · rw [if_neg e, weightP, ih]
      by_cases e2 : x.1 = r
      · subst e2; rw [if_neg e, if_neg e]
      · rw [if_neg e2]; split <;> omega
theorem sel_same {l : List Int} {S : PL} (hS : RowsOk l S) (hl : l.length ≤ 24) {a b : List (Int × Int × ByteArray)} (ha : weightP S a ≠ 0) (hb : weightP S b ≠ 0) (h : keyB l a = keyB l b) : pickL a l = pickL b l := by
  obtain ⟨x, hx, rfl⟩ := weight_mem ha
  obtain ⟨y, hy, rfl⟩ := weight_mem hb
  obtain ⟨a1, a2, a3, a4⟩ := hS x hx
  obtain ⟨b1, b2, b3, b4⟩ := hS y hy
  exact key_inj (pick_right a4 a1 hl) (pick_right b4 b1 hl) (pick_fit a2) (pick_fit b2) h
/-- one key more -/
theorem sel_next {l : List Int} {S : PL} {q : List (Int × Int × ByteArray) → Bool} {vis : ByteArray → Bool} {Q : PL} (h : SelOf l S q vis Q) (hS : RowsOk l S) (hs : IsSet S) (hl : l.length ≤ 24) {k : ByteArray} (hk : vis k = false) {x : List (Int × Int × ByteArray) × Int} (hx : x ∈ grpP l k S) {Q' : PL} (hQ : Q' = if q (pickL x.1 l) = true then Q ++ grpP l k S else Q) :
    SelOf l S q (fun y => vis y || decide (y = k)) Q' := by
  intro r
  have hx2 := grp_mem.1 hx
  by_cases e : keyB l r = k
  · have h0 : weightP Q r = 0 := by rw [h r, e, hk]; rfl
    by_cases e0 : weightP S r = 0
    · have h1 : weightP Q' r = 0 := by
        rw [hQ]
        split
        · rw [weightP_append, h0, grp_weight, if_pos e, e0]; rfl
        · exact h0
      rw [h1, e0]
      split <;> rfl
    · have hxw : weightP S x.1 ≠ 0 := by
        rw [mem_weight hs x hx2.1]
        exact hs.2 x hx2.1
      have he := sel_same hS hl e0 hxw (e.trans hx2.2.symm)
      rw [hQ, e, ← he]
      simp only [hk, Bool.false_or, decide_true, Bool.true_and]
      split
      · rw [weightP_append, h0, grp_weight, if_pos e, Int.zero_add]
      · exact h0
  · have h1 : weightP Q' r = weightP Q r := by
      rw [hQ]
      split
      · rw [weightP_append, grp_weight, if_neg e, Int.add_zero]
      · rfl
    rw [h1, h r]
    simp [e]
/-- all keys -/
theorem sel_end {l : List Int} {S : PL} {q : List (Int × Int × ByteArray) → Bool} {vis : ByteArray → Bool} {Q : PL} (h : SelOf l S q vis Q) (hs : IsSet S) (hv : ∀ r, weightP S r ≠ 0 → vis (keyB l r) = true) : SumOf (S.filter fun x => q (pickL x.1 l)) Q := by
  refine ⟨set_sub hs List.filter_sublist, fun r => ?_⟩
  rw [weight_filter (fun r => q (pickL r l)), h r]
  by_cases e : weightP S r = 0
  · rw [e]; split <;> split <;> rfl
  · rw [hv r e, Bool.true_and]

/-- the loop of where under way -/
structure WhereAt (w : World) (mo : Option Nat) (r n : Nat) (f : ByteArray → Option Sl) (l : List Int) (S : PL) (q : List (Int × Int × ByteArray) → Bool) (left : ByteArray → Bool) (cnt : Nat) (LS : List (Option Addr × Nat × List It)) (v : Value) (wr : World) : Prop where
  rng : RngO wr mo r n f left cnt
  sub : ∀ k, left k = true → (f k).isSome = true
  len : cnt + LS.length ≤ n
  own : wr.ownsRow (r + 1) 40 1 v LS.length (flatC cellsS LS)
  items : ∀ x ∈ LS, Items w w.heap.size x.1 x.2.2
  sel : SelOf l S q (fun k => (f k).isSome && !left k) (pl (catS LS))
  mem : ∀ x ∈ catS LS, pu x ∈ S
  cat : (catS LS).length ≤ LS.length * S.length
  bel : Below w.heap.size w wr
  rB : w.heap.size ≤ r
section
variable {w wr w3 : World} {mo : Option Nat} {r n : Nat} {f : ByteArray → Option Sl} {l : List Int} {S : PL} {q : List (Int × Int × ByteArray) → Bool} {left : ByteArray → Bool} {cnt cnt' : Nat} {LS : List (Option Addr × Nat × List It)} {v : Value} {k : ByteArray}
theorem whereAt_start {w1 : World} (h : RngO w1 mo r n f (fun k => (f k).isSome) cnt) (hc : cnt ≤ n) (hb : Below w.heap.size w w1) (hr : w.heap.size ≤ r) : WhereAt w mo r n f l S q (fun k => (f k).isSome) cnt [] (.slice none 0 0) w1 where
  rng := h
  sub := fun _ h => h
  len := by simpa using hc
  own := World.ownsRow_nil _ _ _ _
  items := fun x hx => by cases hx
  sel := sel_start _ _ _ _ fun k => by cases (f k).isSome <;> rfl
  mem := fun x hx => by cases hx
  cat := by simp [catS]
  bel := hb
  rB := hr
/-- a key that is told -/
structure WhereMid (w : World) (mo : Option Nat) (r n : Nat) (f : ByteArray → Option Sl) (l : List Int) (S : PL) (q : List (Int × Int × ByteArray) → Bool) (left : ByteArray → Bool) (k : ByteArray) (cnt' : Nat) (LS : List (Option Addr × Nat × List It)) (v : Value) (wr : World) : Prop where
  rng : RngO wr mo r n f (fun x => left x && !decide (x = k)) cnt'
  sub : ∀ k, left k = true → (f k).isSome = true
  key : left k = true
  len : cnt' + 1 + LS.length ≤ n
  own : wr.ownsRow (r + 1) 40 1 v LS.length (flatC cellsS LS)
  items : ∀ x ∈ LS, Items w w.heap.size x.1 x.2.2
  sel : SelOf l S q (fun k => (f k).isSome && !left k) (pl (catS LS))
  mem : ∀ x ∈ catS LS, pu x ∈ S
  cat : (catS LS).length ≤ LS.length * S.length
  bel : Below w.heap.size w wr
  rB : w.heap.size ≤ r
theorem own_block_ge {w : World} {B n : Nat} {e : TypeId} {sz : Nat} {v : Value} {xs : List Value} (h : w.ownsRow B e sz v n xs) {j : Nat} (hj : v.ownBlock = some j) : B ≤ j := (h.lt j hj).1
theorem whereMid_of (h : WhereAt w mo r n f l S q left cnt LS v wr) (hr : RngO w3 mo r n f (fun x => left x && !decide (x = k)) cnt') (hk : left k = true) (hlt : cnt' < cnt) (hg : wr.grownBy w3 (some r)) : WhereMid w mo r n f l S q left k cnt' LS v w3 where
  rng := hr
  sub := h.sub
  key := hk
  len := by have := h.len; omega
  own := h.own.kept hg (.inr fun e => by have := own_block_ge h.own e; omega)
  items := h.items
  sel := h.sel
  mem := h.mem
  cat := h.cat
  bel := h.bel.grown hg h.bel.size (fun j hj => by cases hj; exact h.rB)
  rB := h.rB
theorem WhereMid.next (h : WhereMid w mo r n f l S q left k cnt' LS v wr) (hm : ∀ b, mo = some b → b < w.heap.size) {w4 : World} (hb : Below wr.heap.size wr w4) : WhereMid w mo r n f l S q left k cnt' LS v w4 where
  rng := h.rng.below hb
  sub := h.sub
  key := h.key
  len := h.len
  own := own_to h.own hb
  items := h.items
  sel := h.sel
  mem := h.mem
  cat := h.cat
  bel := bnext h.bel h.bel.size hb
  rB := h.rB
theorem vis_next (hk : left k = true) (hs : (f k).isSome = true) : (fun y => (f y).isSome && !(left y && !decide (y = k))) = fun y => ((f y).isSome && !left y) || decide (y = k) := by
  funext y
  by_cases e : y = k
  · subst e; simp [hk, hs]
  · simp [e]
theorem whereAt_no (h : WhereMid w mo r n f l S q left k cnt' LS v wr) (hS : RowsOk l S) (hs : IsSet S) (hl : l.length ≤ 24) {x : List (Int × Int × ByteArray) × Int} (hx : x ∈ grpP l k S) (hq : q (pickL x.1 l) = false) : WhereAt w mo r n f l S q (fun x => left x && !decide (x = k)) cnt' LS v wr where
  rng := h.rng
  sub := fun k hk => h.sub k (by rw [Bool.and_eq_true] at hk; exact hk.1)
  len := by have := h.len; omega
  own := h.own
  items := h.items
  sel := by
    rw [vis_next h.key (h.sub k h.key)]
    exact sel_next h.sel hS hs hl (by rw [h.key]; simp) hx (by rw [hq]; simp)
  mem := h.mem
  cat := h.cat
  bel := h.bel
  rB := h.rB
theorem whereAt_yes (h : WhereMid w mo r n f l S q left k cnt' LS v wr) (hm : ∀ b, mo = some b → b < w.heap.size) (hS : RowsOk l S) (hs : IsSet S) (hl : l.length ≤ 24) {x : List (Int × Int × ByteArray) × Int} (hx : x ∈ grpP l k S) (hq : q (pickL x.1 l) = true)
    {A : Option Addr} {c : Nat} {L : List It} (hI : Items w w.heap.size A L) (hp : pl L = grpP l k S) {v' : Value} {w4 : World} (ho : w4.ownsRow (r + 1) 40 1 v' (LS.length + 1) (flatC cellsS LS ++ cellsS (A, c, L))) {w5 : World} (hb5 : Below wr.heap.size wr w5) (hg : w5.grownBy w4 v.ownBlock) :
    WhereAt w mo r n f l S q (fun x => left x && !decide (x = k)) cnt' (LS ++ [(A, c, L)]) v' w4 where
  rng := (h.rng.below hb5).kept hg (fun b e e2 => by have h1 := own_block_ge h.own e2.symm; have h2 := hm b e; have := h.rB; omega) (fun e2 => by have h1 := own_block_ge h.own e2.symm; omega)
  sub := fun k hk => h.sub k (by rw [Bool.and_eq_true] at hk; exact hk.1)
  len := by have := h.len; rw [List.length_append]; simp; omega
  own := by rw [List.length_append, flatC_append]; simpa [flatC] using ho
  items := fun y hy => by
    rcases List.mem_append.1 hy with hy | hy
    · exact h.items y hy
    · rw [List.mem_singleton.1 hy]; exact hI
  sel := by
    rw [vis_next h.key (h.sub k h.key), catS_add, pl_append, hp]
    exact sel_next h.sel hS hs hl (by rw [h.key]; simp) hx (by rw [hq]; simp)
  mem := fun y hy => by
    rw [catS_add] at hy
    rcases List.mem_append.1 hy with hy | hy
    · exact h.mem y hy
    · have : pu y ∈ pl L := List.mem_map.2 ⟨y, hy, rfl⟩
      rw [hp] at this
      exact (grp_mem.1 this).1
  cat := by
    have h1 := h.cat
    have h2 : L.length ≤ S.length := by
      rw [← pl_length L, hp]
      exact List.length_filter_le _ _
    rw [catS_add, List.length_append, List.length_append, Nat.add_mul]
    simp
    omega
  bel := (bnext h.bel h.bel.size hb5).grown hg (bnext h.bel h.bel.size hb5).size (fun j hj => by have h1 := own_block_ge h.own hj; have := h.rB; omega)
  rB := h.rB
theorem whereAt_end (h : WhereAt w mo r n f l S q left cnt LS v wr) (hG : Grp w l f S) (hS : RowsOk l S) (hs : IsSet S) (hn : n ≤ 1000) (hsz : S.length ≤ 1000) (hd : ∀ k : ByteArray, k.size ≤ maxLen → left k = false) :
    ∃ G cap, v = .slice G LS.length cap ∧ SetsAt wr wr.heap.size G LS ∧ FitI (catS LS) ∧ RightP (pl (catS LS)) ∧ LS.length ≤ 1000 ∧ (catS LS).length ≤ 4398046511104 ∧ SumOf (S.filter fun x => q (pickL x.1 l)) (pl (catS LS)) ∧ WFit (S.filter fun x => q (pickL x.1 l)) := by
  obtain ⟨G, cap, e, hA⟩ := setsAt_own h.own fun x hx => (h.items x hx).next h.bel
  have h1 := h.len
  have h2 := h.cat
  have h3 : LS.length * S.length ≤ 1000 * 1000 := Nat.mul_le_mul (by omega) hsz
  refine ⟨G, cap, e, hA, fun x hx => ?_, fun x hx => ?_, by omega, by omega, sel_end h.sel hs fun r hr => ?_, set_fit (set_sub hs List.filter_sublist) fun x hx => (hS x (List.mem_filter.1 hx).1).2.2.1⟩
  · obtain ⟨_, b, c, _⟩ := hS _ (h.mem x hx)
    exact ⟨b, c⟩
  · obtain ⟨y, hy, rfl⟩ := List.mem_map.1 hx
    exact (hS _ (h.mem y hy)).1
  · obtain ⟨x, hx, rfl⟩ := weight_mem hr
    have h5 : (f (keyB l x.1)).isSome = true := (hG.some _).2 fun e2 => by
      have : x ∈ grpP l (keyB l x.1) S := grp_mem.2 ⟨hx, rfl⟩
      rw [e2] at this
      cases this
    rw [h5, hd _ (keyB_max _ _)]
    rfl
end
end Go.Proofs.YtjjikooabmddlaaGreatDoor.Items

/-
  A set's items by their keys' bytes: lists of the call's own in a map, one beside the other.
-/
namespace Go.Proofs.YtjjikooabmddlaaGreatDoor.Items
open Go.ChangeShapes Go.WideShapes Go.ChangeAt Go.RowKit Val Go.Proofs.YtjjikooabmddlaaGreatDoor.Code Go.Proofs.YtjjikooabmddlaaGreatDoor.Elems Go.Proofs.YtjjikooabmddlaaGreatDoor.ZP Go.Proofs.YtjjikooabmddlaaGreatDoor.MapSl
set_option linter.unusedVariables false
set_option maxRecDepth 100000

/-- a row that may be put -/
def okX (l : List Int) (x : It) : Bool := okP x.2.2.1 l && rightR x.2.2.1
def okI (l : List Int) (s : List It) : Bool := s.all (okX l)
theorem okI_not {l : List Int} {s : List It} {k : Nat} (hk : k < s.length) (h : okX l s[k] = false) : okI l s = false := by
  unfold okI
  rw [List.all_eq_false]
  exact ⟨s[k], List.getElem_mem hk, by rw [h]; simp⟩
theorem okI_snoc {l : List Int} {s : List It} {k : Nat} (hk : k < s.length) (h : okI l (s.take k) = true) (h2 : okX l s[k] = true) : okI l (s.take (k + 1)) = true := by
  unfold okI at *
  rw [List.take_succ_eq_append_getElem hk, List.all_append, h]
  simp [h2]
/-- the loop of split under way -/
structure SplitAt (w : World) (b : Nat) (l : List Int) (f : ByteArray → Option Sl) (P : List It) (wr : World) : Prop where
  map : MapIs wr b P.length f
  dom : ∀ k, (f k).isSome = true ↔ grpI l k P ≠ []
  own : ∀ k s, f k = some s → wr.ownsRow (b + 1) 48 2 (slV s) (grpI l k P).length (flatC cellsI (grpI l k P))
  sep : ∀ k k' s s', f k = some s → f k' = some s' → k ≠ k' → (slV s).ownBlock ≠ (slV s').ownBlock
  bel : Below w.heap.size w wr
  bB : w.heap.size ≤ b
section
variable {w wr : World} {b : Nat} {l : List Int} {f : ByteArray → Option Sl} {P : List It}
theorem splitAt_start (w : World) (l : List Int) : SplitAt w w.heap.size l (fun _ => none) [] (w.alloc (.map #[] 0)) where
  map := mapIs_made w
  dom := fun k => by simp [grpI]
  own := fun k s h => by cases h
  sep := fun k k' s s' h => by cases h
  bel := below_alloc w _
  bB := Nat.le_refl _
/-- what a look-up tells -/
theorem SplitAt.look (h : SplitAt w b l f P wr) (k : ByteArray) : ∃ s : Sl, (f k).getD (none, 0, 0) = s ∧ wr.ownsRow (b + 1) 48 2 (slV s) (grpI l k P).length (flatC cellsI (grpI l k P)) := by
  cases e : f k with
  | none =>
    have h0 : grpI l k P = [] := by
      have := h.dom k
      rw [e] at this
      simpa using this
    refine ⟨_, rfl, ?_⟩
    rw [h0]
    exact World.ownsRow_nil _ _ _ _
  | some s => exact ⟨s, rfl, h.own k s e⟩
theorem SplitAt.next (h : SplitAt w b l f P wr) {w4 : World} (hb : Below wr.heap.size wr w4) : SplitAt w b l f P w4 where
  map := h.map.below hb
  dom := h.dom
  own := fun k s e => own_to (h.own k s e) hb
  sep := h.sep
  bel := bnext h.bel h.bel.size hb
  bB := h.bB
theorem grpI_snoc (l : List Int) (k : ByteArray) (P : List It) (x : It) : grpI l k (P ++ [x]) = if keyB l x.2.2.1 = k then grpI l k P ++ [x] else grpI l k P := by
  rw [grpI_append]
  unfold grpI
  by_cases e : keyB l x.2.2.1 = k <;> simp [e]
theorem own_some {w : World} {B n sz : Nat} {e : TypeId} {v : Value} {xs : List Value} (h : w.ownsRow B e sz v n xs) (hn : 0 < n) : ∃ g cap, v = .slice (some ⟨g, 0, none⟩) n cap ∧ B ≤ g ∧ g < w.heap.size := h.form hn
theorem splitAt_next (h : SplitAt w b l f P wr) {x : It} {k : ByteArray} (hk : keyB l x.2.2.1 = k) {s0 s : Sl} (h0 : (f k).getD (none, 0, 0) = s0) {w6 w7 : World} (ho : w6.ownsRow (b + 1) 48 2 (slV s) ((grpI l k P).length + 1) (flatC cellsI (grpI l k P) ++ cellsI x)) (hg : wr.grownBy w6 (slV s0).ownBlock)
    (hl : (slV s).ownBlock = (slV s0).ownBlock ∨ (slV s).ownBlock = some wr.heap.size) (hm : MapIs w7 b (P.length + 1) (upd f k (some s))) (hg7 : w6.grownBy w7 (some b)) : SplitAt w b l (upd f k (some s)) (P ++ [x]) w7 := by
  obtain ⟨gs, cs, e1, hB, hlt⟩ := own_some ho (Nat.succ_pos _)
  have hob : (slV s).ownBlock = some gs := by rw [e1]; rfl
  have hs0 : ∀ g0, (slV s0).ownBlock = some g0 → f k = some s0 := by
    intro g0 e
    cases e2 : f k with
    | none => rw [e2] at h0; subst h0; cases e
    | some s2 => rw [e2] at h0; rw [show s2 = s0 from h0]
  have hbl : ∀ j, (slV s0).ownBlock = some j → w.heap.size ≤ j := by
    intro j e
    have h1 := own_block_ge (h.own k s0 (hs0 j e)) e
    have h2 := h.bB
    omega
  have hother : ∀ y sy, f y = some sy → y ≠ k → (slV sy).ownBlock ≠ some gs := by
    intro y sy hy hne e
    rcases hl with hl | hl
    · have h2 := hs0 gs (hl.symm.trans hob)
      exact h.sep y k sy s0 hy h2 hne (e.trans (hob.symm.trans hl))
    · have h3 := (h.own y sy hy).lt gs e
      have h4 : gs = wr.heap.size := Option.some.inj (hob.symm.trans hl)
      omega
  refine ⟨by rw [List.length_append]; exact hm, fun y => ?_, fun y sy hy => ?_, fun y y' sy sy' hy hy' hne => ?_, ?_, h.bB⟩
  · rw [grpI_snoc, hk]
    by_cases e : y = k
    · subst e
      rw [upd_same]
      simp
    · rw [upd_other _ _ e, if_neg fun e2 => e e2.symm]
      exact h.dom y
  · rw [grpI_snoc, hk]
    by_cases e : y = k
    · subst e
      rw [upd_same] at hy
      obtain rfl : s = sy := Option.some.inj hy
      rw [if_pos rfl, List.length_append, flatC_append]
      refine (show w6.ownsRow (b + 1) 48 2 (slV s) ((grpI l y P).length + [x].length) (flatC cellsI (grpI l y P) ++ flatC cellsI [x]) by simpa [flatC] using ho).kept hg7 (.inr fun e2 => ?_)
      rw [hob] at e2
      have := Option.some.inj e2
      omega
    · rw [upd_other _ _ e] at hy
      rw [if_neg fun e2 => e e2.symm]
      have h1 := h.own y sy hy
      refine (h1.kept hg ?_).kept hg7 (.inr fun e2 => by have := own_block_ge h1 e2; omega)
      refine .inr fun e2 => ?_
      cases e3 : (slV s0).ownBlock with
      | none =>
        rw [e3] at e2
        have hne : grpI l y P ≠ [] := (h.dom y).1 (by rw [hy]; rfl)
        obtain ⟨g2, c2, e4, _⟩ := own_some h1 (List.length_pos_iff.2 hne)
        rw [e4] at e2
        cases e2
      | some g0 => exact h.sep y k sy s0 hy (hs0 g0 e3) e e2
  · by_cases e : y = k
    · subst e
      rw [upd_same] at hy
      obtain rfl : s = sy := Option.some.inj hy
      rw [upd_other _ _ (fun e => hne e.symm)] at hy'
      rw [hob]
      exact fun e2 => hother y' sy' hy' (fun e => hne e.symm) e2.symm
    · rw [upd_other _ _ e] at hy
      by_cases e' : y' = k
      · subst e'
        rw [upd_same] at hy'
        obtain rfl : s = sy' := Option.some.inj hy'
        rw [hob]
        exact hother y sy hy e
      · rw [upd_other _ _ e'] at hy'
        exact h.sep y y' sy sy' hy hy' hne
  · refine (h.bel.grown hg h.bel.size hbl).grown hg7 (Nat.le_trans h.bel.size hg.size) fun j hj => ?_
    cases hj
    exact h.bB
/-- what split tells -/
def Parts (w : World) (l : List Int) (f : ByteArray → Option Sl) (P : List It) : Prop := ∀ k, (f k = none → grpI l k P = []) ∧ ∀ s, f k = some s → grpI l k P ≠ [] ∧ s.2.1 = (grpI l k P).length ∧ Items w w.heap.size s.1 (grpI l k P)
theorem Parts.below {w w' : World} {l : List Int} {f : ByteArray → Option Sl} {P : List It} (h : Parts w l f P) (hb : Below w.heap.size w w') : Parts w' l f P := fun k => ⟨(h k).1, fun s hs => ⟨((h k).2 s hs).1, ((h k).2 s hs).2.1, ((h k).2 s hs).2.2.next hb⟩⟩
def SplitPost (w : World) (l : List Int) (s : List It) (e : Ending) (w' : World) : Prop :=
  (okI l s = true ∧ ∃ b f, e = .returned (.tuple #[.map (some b), .int .i64 0]) ∧ w.heap.size ≤ b ∧ MapIs w' b s.length f ∧ Parts w' l f s ∧ Below w.heap.size w w') ∨ (okI l s = false ∧ e = .returned (.tuple #[.map none, .int .i64 51]) ∧ Below w.heap.size w w')
theorem splitAt_parts (h : SplitAt w b l f P wr) (hv : ∀ x ∈ P, Vals wr wr.heap.size x.1 x.2.2.1) : Parts wr l f P := by
  intro k
  refine ⟨fun e => ?_, fun s e => ?_⟩
  · have := h.dom k
    rw [e] at this
    simpa using this
  · have h1 : grpI l k P ≠ [] := (h.dom k).1 (by rw [e]; rfl)
    obtain ⟨A, cap, e2, hI⟩ := own_items (h.own k s e) fun x hx => hv x (List.mem_filter.1 hx).1
    have e3 : s = (A, (grpI l k P).length, cap) := by
      obtain ⟨a1, a2, a3⟩ := s
      simp [slV] at e2
      obtain ⟨rfl, rfl, rfl⟩ := e2
      rfl
    rw [e3]
    exact ⟨h1, rfl, hI⟩
end
end Go.Proofs.YtjjikooabmddlaaGreatDoor.Items
