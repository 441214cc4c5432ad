/-
  The contract of package index's keep.
-/
import Derived.Test.YtjjikooabmddlaaGreatDoorM15
import Derived.Test.YtjjikooabmddlaaGreatDoorM17
namespace Go.Proofs.YtjjikooabmddlaaGreatDoor.Items
open Go.ChangeShapes Go.WideShapes Go.ChangeAt Go.RowKit Val Go.Proofs.YtjjikooabmddlaaGreatDoor.Code Go.Proofs.YtjjikooabmddlaaGreatDoor.Elems Go.Proofs.YtjjikooabmddlaaGreatDoor.ZP Go.Proofs.YtjjikooabmddlaaGreatDoor.MapSl
set_option linter.unusedVariables false
set_option maxRecDepth 100000

/-- what a key has behind: what the sums have, else what it had -/
def keepF (f g : ByteArray → Option Sl) (k : ByteArray) : Option Sl := match g k with
  | none => f k
  | some s => if s.2.1 = 0 then none else some s
/-- .. while these keys are still to come -/
def keepL (f g : ByteArray → Option Sl) (left : ByteArray → Bool) (k : ByteArray) : Option Sl := if left k then f k else keepF f g k
def KeepEnd (w : World) (p : Nat) (C : Option Addr) (lc cc : Nat) (mo : Option Nat) (n : Nat) (f : ByteArray → Option Sl) (w' : World) : Prop :=
  ∃ b, (mo = some b ∨ mo = none ∧ w.heap.size ≤ b) ∧ w'.heap[p]? = some (.cells #[.slice C lc cc, .map (some b)] 63 (0, 0)) ∧ MapIs w' b n f ∧ Chg w w' (badOf p mo)
/-- the loop under way -/
def KeepAt (w : World) (p : Nat) (C : Option Addr) (lc cc : Nat) (mo : Option Nat) (f g : ByteArray → Option Sl) (b bs r n ns : Nat) (wr : World) : Prop :=
  ∃ left cnt, Rng wr bs r ns g left cnt ∧ cnt ≤ ns ∧ (∀ k, left k = true → (g k).isSome = true) ∧ MapIs wr b (n + (ns - cnt)) (keepL f g left) ∧ wr.heap[p]? = some (.cells #[.slice C lc cc, .map (some b)] 63 (0, 0)) ∧ Chg w wr (badOf p mo)
theorem badOf_mono {p : Nat} {mo : Option Nat} {w w2 : World} {b : Nat} (h : mo = some b ∨ mo = none ∧ w.heap.size ≤ b) : ∀ k, k < w.heap.size → some k = some b → badOf p mo k := by
  intro k hk e
  cases e
  rcases h with h | ⟨_, h⟩
  · exact .inr h.symm
  · omega
theorem keepAt_start {w w1 w2 : World} {p : Nat} {C : Option Addr} {lc cc : Nat} {mo : Option Nat} {f g : ByteArray → Option Sl} {b bs n ns r cnt : Nat} (hp : w1.heap[p]? = some (.cells #[.slice C lc cc, .map (some b)] 63 (0, 0))) (hf : MapIs w1 b n f) (hc : Chg w w1 (badOf p mo))
    (hr : Rng w2 bs r ns g (fun k => (g k).isSome) cnt) (hle : cnt ≤ ns) (hb : Below w1.heap.size w1 w2) : KeepAt w p C lc cc mo f g b bs r n ns w2 := by
  refine ⟨_, cnt, hr, hle, fun k h => h, ?_, (hb.block p (Array.getElem?_eq_some_iff.1 hp).1).trans hp, hc.trans (Chg.of hb _)⟩
  refine ((hf.below hb).mono (Nat.le_add_right _ _)).same fun k => ?_
  unfold keepL keepF
  cases h : g k <;> simp [h]
theorem keepAt_end {w wr : World} {p : Nat} {C : Option Addr} {lc cc : Nat} {mo : Option Nat} {f g : ByteArray → Option Sl} {b bs r n ns cnt : Nat} {left : ByteArray → Bool} (hb : mo = some b ∨ mo = none ∧ w.heap.size ≤ b) (hr : Rng wr bs r ns g left cnt) (hle : cnt ≤ ns) (hl : ∀ k, left k = true → (g k).isSome = true)
    (hm : MapIs wr b (n + (ns - cnt)) (keepL f g left)) (hp : wr.heap[p]? = some (.cells #[.slice C lc cc, .map (some b)] 63 (0, 0))) (hc : Chg w wr (badOf p mo)) (hd : ∀ k : ByteArray, k.size ≤ maxLen → left k = false) :
    KeepEnd w p C lc cc mo (n + ns) (keepF f g) wr := by
  refine ⟨b, hb, hp, ?_, hc⟩
  obtain ⟨D, h1, h2⟩ := hm
  refine ⟨D, h1.mono (by omega), fun k hk => ?_⟩
  have := h2 k hk
  unfold keepL at this
  rw [hd k hk] at this
  simpa using this
theorem rng_ne {w : World} {b bs r n ns cnt : Nat} {f g : ByteArray → Option Sl} {left : ByteArray → Bool} (h : Rng w bs r ns g left cnt) (hm : MapIs w b n f) : r ≠ b := by
  rintro rfl
  obtain ⟨D, lf, ⟨es, clock, since, seen, c0, _, _, _, _, hr, _⟩, _⟩ := h
  obtain ⟨D2, ⟨es2, clock2, hb, _⟩, _⟩ := hm
  rw [hr] at hb
  cases hb
theorem rng_blk {w : World} {bs r ns cnt p : Nat} {g : ByteArray → Option Sl} {left : ByteArray → Bool} {cs : Array Value} {T : TypeId} {m : Nat × Nat} (h : Rng w bs r ns g left cnt) (hp : w.heap[p]? = some (.cells cs T m)) : p ≠ r := by
  rintro rfl
  obtain ⟨D, lf, ⟨es, clock, since, seen, c0, _, _, _, _, hr, _⟩, _⟩ := h
  rw [hr] at hp
  cases hp
theorem map_blk {w : World} {b n p : Nat} {f : ByteArray → Option Sl} {cs : Array Value} {T : TypeId} {m : Nat × Nat} (h : MapIs w b n f) (hp : w.heap[p]? = some (.cells cs T m)) : p ≠ b := by
  rintro rfl
  obtain ⟨D, ⟨es, clock, hb, _⟩, _⟩ := h
  rw [hb] at hp
  cases hp
/-- one round, once the next key is told -/
structure KeepMid (w : World) (p : Nat) (C : Option Addr) (lc cc : Nat) (mo : Option Nat) (f g : ByteArray → Option Sl) (b bs r n ns : Nat) (left : ByteArray → Bool) (k : ByteArray) (s : Sl) (cnt cnt' : Nat) (w3 : World) : Prop where
  rng : Rng w3 bs r ns g (fun x => left x && !decide (x = k)) cnt'
  lt : cnt' < cnt
  le : cnt ≤ ns
  sub : ∀ k, left k = true → (g k).isSome = true
  key : g k = some s
  map : MapIs w3 b (n + (ns - cnt)) (keepL f g left)
  blk : w3.heap[p]? = some (.cells #[.slice C lc cc, .map (some b)] 63 (0, 0))
  chg : Chg w w3 (badOf p mo)
theorem keepMid_of {w wr w3 : World} {p : Nat} {C : Option Addr} {lc cc : Nat} {mo : Option Nat} {f g : ByteArray → Option Sl} {b bs r n ns cnt cnt' : Nat} {left : ByteArray → Bool} {k : ByteArray} {s : Sl} (hr : Rng wr bs r ns g left cnt) (hle : cnt ≤ ns) (hl : ∀ k, left k = true → (g k).isSome = true)
    (hm : MapIs wr b (n + (ns - cnt)) (keepL f g left)) (hp : wr.heap[p]? = some (.cells #[.slice C lc cc, .map (some b)] 63 (0, 0))) (hc : Chg w wr (badOf p mo)) (hB : w.heap.size ≤ r)
    (hs : g k = some s) (hr1 : Rng w3 bs r ns g (fun x => left x && !decide (x = k)) cnt') (hlt : cnt' < cnt) (hg : wr.grownBy w3 (some r)) : KeepMid w p C lc cc mo f g b bs r n ns left k s cnt cnt' w3 :=
  ⟨hr1, hlt, hle, hl, hs, hm.kept hg (fun e => rng_ne hr hm (Option.some.inj e).symm), (hg.block p (Array.getElem?_eq_some_iff.1 hp).1 (fun e => rng_blk hr hp (Option.some.inj e))).trans hp,
    hc.next (Chg.grown hg) fun k2 hk2 e => by cases e; omega⟩
theorem keepAt_next {w w3 w4 : World} {p : Nat} {C : Option Addr} {lc cc : Nat} {mo : Option Nat} {f g : ByteArray → Option Sl} {b bs r n ns cnt cnt' : Nat} {left : ByteArray → Bool} {k : ByteArray} {s : Sl} {o : Option Sl} (h : KeepMid w p C lc cc mo f g b bs r n ns left k s cnt cnt' w3) (hb : mo = some b ∨ mo = none ∧ w.heap.size ≤ b) (hne : b ≠ bs)
    (ho : o = if s.2.1 = 0 then none else some s) (m : Nat) (hm : m ≤ n + (ns - cnt) + 1) (h5 : MapIs w4 b m (upd (keepL f g left) k o)) (hg4 : w3.grownBy w4 (some b)) : KeepAt w p C lc cc mo f g b bs r n ns w4 ∧ w4.rangeLeft bs r = cnt' := by
  have h1 := h.lt
  have h2 := h.le
  have h6 := h.rng.kept hg4 (fun e => hne (Option.some.inj e).symm) (fun e => rng_ne h.rng h.map (Option.some.inj e))
  refine ⟨⟨_, cnt', h6, by omega, fun x hx => h.sub x (by rw [Bool.and_eq_true] at hx; exact hx.1), ?_, (hg4.block p (Array.getElem?_eq_some_iff.1 h.blk).1 (fun e => map_blk h.map h.blk (Option.some.inj e))).trans h.blk, h.chg.next (Chg.grown hg4) (badOf_mono (w2 := w) hb)⟩, h6.left_eq⟩
  refine (h5.mono (by omega)).same fun x => ?_
  by_cases e : x = k
  · subst e
    rw [upd_same, ho]
    unfold keepL keepF
    simp [h.key]
  · rw [upd_other _ _ e]
    unfold keepL
    simp [e]
theorem keep_made {w : World} {p : Nat} {C : Option Addr} {lc cc bs ns : Nat} {g : ByteArray → Option Sl} (hp : w.heap[p]? = some (.cells #[.slice C lc cc, .map none] 63 (0, 0))) (hg : MapIs w bs ns g) :
    ∃ W, W = (w.setCell ⟨p, 1, none⟩ (.map (some w.heap.size))).alloc (.map #[] 0) ∧ W.heap[p]? = some (.cells #[.slice C lc cc, .map (some w.heap.size)] 63 (0, 0)) ∧ MapIs W w.heap.size 0 (fun _ => none) ∧ MapIs W bs ns g ∧ Chg w W (badOf p none) := by
  have hpl : p < w.heap.size := (Array.getElem?_eq_some_iff.1 hp).1
  have h1 : (w.setCell ⟨p, 1, none⟩ (.map (some w.heap.size))).heap[p]? = some (.cells #[.slice C lc cc, .map (some w.heap.size)] 63 (0, 0)) := by
    simp [World.setCell, Array.getElem?_modify, hp]
  have hsz : (w.setCell ⟨p, 1, none⟩ (.map (some w.heap.size))).heap.size = w.heap.size := by simp [World.setCell]
  have hbp : bs ≠ p := fun e => map_blk hg hp e.symm
  refine ⟨_, rfl, (Below.heap_alloc _ _ _ (by rw [hsz]; exact hpl)).trans h1, ?_, ?_, ?_⟩
  · have := mapIs_made (w.setCell ⟨p, 1, none⟩ (.map (some w.heap.size)))
    rwa [hsz] at this
  · exact hg.heap ((Below.heap_alloc _ _ _ (by rw [hsz]; exact hg.lt)).trans (Below.heap_setCell _ _ _ _ hbp))
  · refine ⟨rfl, rfl, rfl, by simp [World.setCell], fun k hk hn => (Below.heap_alloc _ _ _ (by rw [hsz]; exact hk)).trans (Below.heap_setCell _ _ _ _ fun e => hn (.inl e))⟩
theorem KeepMid.sets {w : World} {p : Nat} {C : Option Addr} {lc cc : Nat} {mo : Option Nat} {f g : ByteArray → Option Sl} {b bs r n ns : Nat} {left : ByteArray → Bool} {k : ByteArray} {s : Sl} {cnt cnt' : Nat} {w3 : World} (h : KeepMid w p C lc cc mo f g b bs r n ns left k s cnt cnt' w3) : w3.cell? ⟨p, 1, none⟩ = some (.map (some b)) := cell_of_row w3 p 1 _ _ _ h.blk
set_option maxHeartbeats 4000000 in
theorem keep_any (p : Nat) (C : Option Addr) (lc cc : Nat) (mo : Option Nat) (n : Nat) (f : ByteArray → Option Sl) (bs ns : Nat) (g : ByteArray → Option Sl) (w : World) (hp : w.heap[p]? = some (.cells #[.slice C lc cc, .map mo] 63 (0, 0)))
    (hf : MapO w mo n f) (hg : MapIs w bs ns g) (hne : mo ≠ some bs) (hn : n + ns ≤ 1000000) :
    Calls Tryz.prog 31 #[.pointer (some ⟨p, 0, none⟩), .map (some bs)] w fun e w' => e = .returned (.tuple #[]) ∧ KeepEnd w p C lc cc mo (n + ns) (keepF f g) w' := by
  have hmm := @run_makeMap Tryz.prog
  have hpl : p < w.heap.size := (Array.getElem?_eq_some_iff.1 hp).1
  obtain ⟨m2, hm2⟩ : ∃ m2, mo = m2 := ⟨_, rfl⟩
  have q1 : w.cell? ⟨p, 1, none⟩ = some (.map m2) := by rw [← hm2]; exact cell_of_row w p 1 _ _ _ hp
  have f1 : w.frozen? ⟨p, 1, none⟩ = false := by simp [World.frozen?, hp]
  have HP := Lib.hid hp
  have HF := Lib.hid hf
  have HG := Lib.hid hg
  clear hp hf hg
  rcases m2 with _ | b
  case' none =>
    have hq := fun w => eql_map_nil w none
    have hp := HP.out
    rw [hm2] at hp
    obtain ⟨W, hW, hWp, hWm, hWg, hWc⟩ := keep_made hp HG.out
    have hf : MapIs W w.heap.size n f := by
      have h0 := HF.out
      rw [hm2] at h0
      exact (hWm.mono (Nat.zero_le n)).same fun k => (h0 k).symm
    have HWP := Lib.hid hWp
    have HWF := Lib.hid hf
    have HWG := Lib.hid hWg
    have HWC := Lib.hid hWc
    have hbs : w.heap.size ≠ bs := fun e => by have := HG.out.lt; omega
    clear hp hWp hWm hWg hWc hf
    have HW := Lib.hid hW.symm
    clear hW
    go_enter Tryz.func31, Tryz.ntmps31
    go_wp2_with (at_range; rw [HW.out]; refine wpList_rng _ rfl _ rfl bs ns g rfl HWG.out ?_)
    intro w1 cnt hrng hle hbel
    have hBr := HWC.out.size
    have hst := keepAt_start (w := w) (mo := mo) (f := f) (n := n) HWP.out HWF.out (hm2 ▸ HWC.out) hrng hle hbel
    generalize W.heap.size = r at hst hBr ⊢
    obtain ⟨b, hb⟩ : ∃ b, w.heap.size = b := ⟨_, rfl⟩
    have HBO := Lib.hid (show mo = some b ∨ mo = none ∧ w.heap.size ≤ b from .inr ⟨hm2, Nat.le_of_eq hb⟩)
    rw [hb] at hst hbs ⊢
    have HS := Lib.hid hst
    have HBr := Lib.hid hBr
    clear hst hrng hbel HWP HWF HWC HWG HW hBr hb
  case' some =>
    have hq := fun w => eql_map_nil w (some b)
    have HBO := Lib.hid (show mo = some b ∨ mo = none ∧ w.heap.size ≤ b from .inl hm2)
    have hbs : b ≠ bs := fun e => hne (hm2.trans (congrArg some e))
    have hf : MapIs w b n f := by
      have h0 := HF.out
      rw [hm2] at h0
      exact h0
    have HWF := Lib.hid hf
    have hp := HP.out
    rw [hm2] at hp
    have HWP := Lib.hid hp
    clear hf hp
    go_enter Tryz.func31, Tryz.ntmps31
    go_wp2_with (at_range; refine wpList_rng _ rfl _ rfl bs ns g rfl HG.out ?_)
    intro w1 cnt hrng hle hbel
    have hBr := Nat.le_refl w.heap.size
    have hst := keepAt_start (w := w) (mo := mo) (f := f) (n := n) HWP.out HWF.out (Chg.refl w _) hrng hle hbel
    obtain ⟨r, hr⟩ : ∃ r, w.heap.size = r := ⟨_, rfl⟩
    have HBr : Hid (w.heap.size ≤ r) := Lib.hid (Nat.le_of_eq hr)
    rw [hr] at hst ⊢
    have HS := Lib.hid hst
    clear hst hrng hbel HWP HWF hBr hr
  all_goals
    go_wp2
    go_loopw [4] (fun _ wr => KeepAt w p C lc cc mo f g b bs r n ns wr) (fun _ wr => wr.rangeLeft bs r)
    case atStart => exact HS.out
    case round =>
      obtain ⟨left, cnt1, hr, hle1, hl, hm, hp1, hc⟩ := hrel
      go_wp2_with (at_next; refine MapSl.wpList_step _ rfl _ rfl bs r ns g left cnt1 rfl hr ?done ?more)
      case done =>
        intro hdone
        have X := Lib.hid (keepAt_end (w := w) HBO.out hr hle1 hl hm hp1 hc hdone)
        clear hr hm hp1 hc hl
        go_wp2
        exact bodyPost_end (results_none Tryz.results31 _ _ _) rfl ⟨rfl, X.out⟩
      case more =>
        intro k sa sn sc w3 cnt2 hk hlk hgk hr3 hlt hgr hsz hen
        have hM := keepMid_of hr hle1 hl hm hp1 hc HBr.out hgk hr3 hlt hgr
        have hcnt := hr.left_eq
        have q3 := hM.sets
        have HM := Lib.hid hM
        clear hr hl hm hp1 hc hgr hr3 hM
        by_cases hs0 : sn = 0
        · subst hs0
          go_wp2_with (at_delete; refine wpList_drop _ rfl _ _ rfl b _ (keepL f g left) rfl HM.out.map k rfl hk ?nx)
          case nx =>
            intro w4 hm4 hg4 hsz4
            have HN := Lib.hid (keepAt_next (o := none) HM.out HBO.out hbs (by simp) _ (Nat.le_succ _) hm4 hg4)
            clear hm4 hg4
            go_wp2
            go_roundw
            case rel => exact HN.out.1
            case measure => rw [HN.out.2, hcnt]; exact hlt
        · go_wp2_with (at_mapUpdate; refine wpList_store _ rfl _ _ _ rfl b _ (keepL f g left) rfl HM.out.map ?lt k rfl hk (sa, sn, sc) rfl ?nx)
          case lt => unfold maxLen; omega
          case nx =>
            intro w4 hm4 hg4 hsz4
            have HN := Lib.hid (keepAt_next (o := some (sa, sn, sc)) HM.out HBO.out hbs (by simp [hs0]) _ (Nat.le_refl _) hm4 hg4)
            clear hm4 hg4
            go_wp2
            go_roundw
            case rel => exact HN.out.1
            case measure => rw [HN.out.2, hcnt]; exact hlt
end Go.Proofs.YtjjikooabmddlaaGreatDoor.Items

/-
  Each touched key's sum, made while the parts are gone through; what an index is once they are kept.
-/
namespace Go.Proofs.YtjjikooabmddlaaGreatDoor.Items
open Go.ChangeShapes Go.WideShapes Go.ChangeAt Go.RowKit Val Go.Proofs.YtjjikooabmddlaaGreatDoor.Code Go.Proofs.YtjjikooabmddlaaGreatDoor.Elems Go.Proofs.YtjjikooabmddlaaGreatDoor.ZP Go.Proofs.YtjjikooabmddlaaGreatDoor.MapSl
set_option linter.unusedVariables false
set_option maxRecDepth 100000

theorem plain_of {w : World} {j : Nat} (h : ∀ q : Addr, q.block = j → w.cell? q = none) : Plain w (fun k => some k = some j) := fun q hq => by
  have := h q (Option.some.inj hq)
  rw [this]
  exact ⟨fun _ _ => by simp, fun _ => by simp⟩
theorem items_turn {w w' : World} {j : Nat} {A : Option Addr} {L : List It} (h : Items w w.heap.size A L) (hg : w.grownBy w' (some j)) (hn : ∀ q : Addr, q.block = j → w.cell? q = none) : Items w' w'.heap.size A L := items_but h (Chg.grown hg) (plain_of hn)
theorem Parts.turn {w w' : World} {j : Nat} {l : List Int} {f : ByteArray → Option Sl} {P : List It} (h : Parts w l f P) (hg : w.grownBy w' (some j)) (hn : ∀ q : Addr, q.block = j → w.cell? q = none) : Parts w' l f P := fun k => ⟨(h k).1, fun s hs => ⟨((h k).2 s hs).1, ((h k).2 s hs).2.1, items_turn ((h k).2 s hs).2.2 hg hn⟩⟩
/-- a key's sum -/
def SumK (w : World) (l : List Int) (S : PL) (s : List It) (k : ByteArray) (o : Option Sl) : Prop :=
  ∃ (sl : Sl) (M : List It), o = some sl ∧ sl.2.1 = M.length ∧ Items w w.heap.size sl.1 M ∧ SumOf (pl M) (grpP l k S ++ grpP l k (pl s)) ∧ WFit (grpP l k S ++ grpP l k (pl s))
theorem SumK.below {w w' : World} {l : List Int} {S : PL} {s : List It} {k : ByteArray} {o : Option Sl} (h : SumK w l S s k o) (hb : Below w.heap.size w w') : SumK w' l S s k o := by
  obtain ⟨sl, M, h1, h2, h3, h4⟩ := h
  exact ⟨sl, M, h1, h2, h3.next hb, h4⟩
theorem SumK.turn {w w' : World} {j : Nat} {l : List Int} {S : PL} {s : List It} {k : ByteArray} {o : Option Sl} (h : SumK w l S s k o) (hg : w.grownBy w' (some j)) (hn : ∀ q : Addr, q.block = j → w.cell? q = none) : SumK w' l S s k o := by
  obtain ⟨sl, M, h1, h2, h3, h4⟩ := h
  exact ⟨sl, M, h1, h2, items_turn h3 hg hn, h4⟩
/-- the loop of Put under way -/
structure SumAt (w : World) (b bs r : Nat) (l : List Int) (S : PL) (s : List It) (f g : ByteArray → Option Sl) (left : ByteArray → Bool) (cnt m : Nat) (wr : World) : Prop where
  rng : Rng wr b r s.length f left cnt
  sub : ∀ k, left k = true → (f k).isSome = true
  map : MapIs wr bs m g
  len : m + cnt ≤ s.length
  none_ : ∀ k, ((f k).isSome && !left k) = false → g k = none
  some_ : ∀ k, ((f k).isSome && !left k) = true → SumK wr l S s k (g k)
  parts : Parts wr l f s
  bel : Below w.heap.size w wr
  rB : w.heap.size ≤ r
  bB : w.heap.size ≤ b
  sB : w.heap.size ≤ bs
  ne : b ≠ bs
/-- .. a key being told -/
structure SumMid (w : World) (b bs r : Nat) (l : List Int) (S : PL) (s : List It) (f g : ByteArray → Option Sl) (left : ByteArray → Bool) (k : ByteArray) (cnt' m : Nat) (wr : World) : Prop where
  rng : Rng wr b r s.length f (fun x => left x && !decide (x = k)) cnt'
  key : left k = true
  sub : ∀ k, left k = true → (f k).isSome = true
  map : MapIs wr bs m g
  len : m + cnt' + 1 ≤ s.length
  none_ : ∀ k, ((f k).isSome && !left k) = false → g k = none
  some_ : ∀ k, ((f k).isSome && !left k) = true → SumK wr l S s k (g k)
  parts : Parts wr l f s
  bel : Below w.heap.size w wr
  rB : w.heap.size ≤ r
  bB : w.heap.size ≤ b
  sB : w.heap.size ≤ bs
  ne : b ≠ bs
section
variable {w wr w3 : World} {b bs r : Nat} {l : List Int} {S : PL} {s : List It} {f g : ByteArray → Option Sl} {left : ByteArray → Bool} {cnt cnt' m : Nat} {k : ByteArray}
theorem sumAt_start {w1 w2 w3 : World} (hm : MapIs w1 b s.length f) (hp : Parts w1 l f s) (hb : Below w.heap.size w w1) (hbB : w.heap.size ≤ b) (h2 : w2 = w1.alloc (.map #[] 0)) (hr : Rng w3 b r s.length f (fun k => (f k).isSome) cnt) (hle : cnt ≤ s.length) (hb3 : Below w2.heap.size w2 w3) (hrr : r = w2.heap.size) :
    SumAt w b w1.heap.size r l S s f (fun _ => none) (fun k => (f k).isSome) cnt 0 w3 := by
  subst h2
  have ha := below_alloc w1 (.map #[] 0)
  refine ⟨hr, fun _ h => h, (mapIs_made w1).below hb3, by omega, fun _ _ => rfl, fun k h => ?_, (hp.below ha).below hb3, bnext (bnext hb hb.size ha) (bnext hb hb.size ha).size hb3, ?_, hbB, hb.size, fun e => by have := hm.lt; omega⟩
  · cases e : (f k).isSome <;> simp [e] at h
  · rw [hrr]; exact (bnext hb hb.size ha).size
theorem sumMid_of (h : SumAt w b bs r l S s f g left cnt m wr) (hr : Rng w3 b r s.length f (fun x => left x && !decide (x = k)) cnt') (hk : left k = true) (hlt : cnt' < cnt) (hg : wr.grownBy w3 (some r)) : SumMid w b bs r l S s f g left k cnt' m w3 where
  rng := hr
  key := hk
  sub := h.sub
  map := h.map.kept hg fun e => rng_ne h.rng h.map (Option.some.inj e).symm
  len := by have := h.len; omega
  none_ := h.none_
  some_ := fun k hk => (h.some_ k hk).turn hg h.rng.iter
  parts := h.parts.turn hg h.rng.iter
  bel := h.bel.grown hg h.bel.size fun j hj => by cases hj; exact h.rB
  rB := h.rB
  bB := h.bB
  sB := h.sB
  ne := h.ne
theorem SumMid.next (h : SumMid w b bs r l S s f g left k cnt' m wr) {w4 : World} (hb : Below wr.heap.size wr w4) : SumMid w b bs r l S s f g left k cnt' m w4 where
  rng := h.rng.below hb
  key := h.key
  sub := h.sub
  map := h.map.below hb
  len := h.len
  none_ := h.none_
  some_ := fun k hk => (h.some_ k hk).below hb
  parts := h.parts.below hb
  bel := bnext h.bel h.bel.size hb
  rB := h.rB
  bB := h.bB
  sB := h.sB
  ne := h.ne
theorem vis_add (f : ByteArray → Option Sl) (left : ByteArray → Bool) (k y : ByteArray) (hk : left k = true) (hs : (f k).isSome = true) : ((f y).isSome && !(left y && !decide (y = k))) = (((f y).isSome && !left y) || decide (y = k)) := by
  by_cases e : y = k
  · subst e; simp [hk, hs]
  · simp [e]
theorem sumAt_next (h : SumMid w b bs r l S s f g left k cnt' m wr) {A : Option Addr} {c : Nat} {M : List It} (hI : Items wr wr.heap.size A M) (hS : SumOf (pl M) (grpP l k S ++ grpP l k (pl s))) (hW : WFit (grpP l k S ++ grpP l k (pl s))) {w6 : World} (hm : MapIs w6 bs (m + 1) (upd g k (some (A, M.length, c)))) (hg : wr.grownBy w6 (some bs)) :
    SumAt w b bs r l S s f (upd g k (some (A, M.length, c))) (fun x => left x && !decide (x = k)) cnt' (m + 1) w6 where
  rng := h.rng.kept hg (fun e => h.ne (Option.some.inj e)) (fun e => rng_ne h.rng h.map (Option.some.inj e))
  sub := fun k hk => h.sub k (by rw [Bool.and_eq_true] at hk; exact hk.1)
  map := hm
  len := by have := h.len; omega
  none_ := fun y hy => by
    rw [vis_add f left k y h.key (h.sub k h.key), Bool.or_eq_false_iff, decide_eq_false_iff_not] at hy
    rw [upd_other _ _ hy.2]
    exact h.none_ y hy.1
  some_ := fun y hy => by
    rw [vis_add f left k y h.key (h.sub k h.key)] at hy
    by_cases e : y = k
    · subst e
      rw [upd_same]
      exact ⟨_, M, rfl, rfl, items_turn hI hg h.map.cell, hS, hW⟩
    · rw [upd_other _ _ e]
      refine (h.some_ y ?_).turn hg h.map.cell
      simpa [e] using hy
  parts := h.parts.turn hg h.map.cell
  bel := h.bel.grown hg h.bel.size fun j hj => by cases hj; exact h.sB
  rB := h.rB
  bB := h.bB
  sB := h.sB
  ne := h.ne
/-- all keys' sums -/
def Sums (w : World) (l : List Int) (S : PL) (s : List It) (g : ByteArray → Option Sl) : Prop := ∀ k, (grpP l k (pl s) = [] → g k = none) ∧ (grpP l k (pl s) ≠ [] → SumK w l S s k (g k))
theorem sumAt_end (h : SumAt w b bs r l S s f g left cnt m wr) (hd : ∀ k : ByteArray, k.size ≤ maxLen → left k = false) : Sums wr l S s g ∧ MapIs wr bs s.length g := by
  refine ⟨fun k => ?_, h.map.mono (by have := h.len; omega)⟩
  have hfk : (f k).isSome = true ↔ grpP l k (pl s) ≠ [] := by
    rw [← pl_grp]
    have h1 := h.parts k
    cases e : f k with
    | none => simp [pl, h1.1 e]
    | some sl => simp [pl, (h1.2 sl e).1]
  refine ⟨fun e => h.none_ k ?_, fun e => h.some_ k ?_⟩
  · have : (f k).isSome = false := by rw [Bool.eq_false_iff]; exact fun e2 => hfk.1 e2 e
    rw [this]; rfl
  · have h2 := hfk.2 e
    have h3 : k.size ≤ maxLen := by
      obtain ⟨x, hx⟩ := List.exists_mem_of_ne_nil _ e
      rw [← (grp_mem.1 hx).2]
      exact keyB_max _ _
    rw [h2, hd k h3]
    rfl
end
/-- the sum of a set and what is put -/
theorem sum_exists {S : PL} {s : List It} (hr : RightP (S ++ pl s)) (hw : WFit (S ++ pl s)) : ∃ T, SumOf T (S ++ pl s) := by
  have e : pl (S.map (fun x => ((none, 0, x.1, x.2) : It)) ++ s) = S ++ pl s := by
    rw [pl_append]
    congr 1
    unfold pl
    rw [List.map_map]
    exact List.map_id S
  have := of_cases (L := S.map (fun x => ((none, 0, x.1, x.2) : It)) ++ s) (by rw [e]; exact hr)
  rw [e] at this
  rcases this with ⟨_, _, h⟩ | ⟨_, h⟩
  · exact ⟨_, h⟩
  · exact absurd hw h
theorem wfit_of {S : PL} {s : List It} {w : World} {l : List Int} {g : ByteArray → Option Sl} (h : Sums w l S s g) (hS : WFit S) : WFit (S ++ pl s) := grp_all l (fun k hk => by obtain ⟨_, _, _, _, _, _, h5⟩ := (h k).2 hk; exact h5) hS
theorem sum_rows {S : PL} {s : List It} {T : PL} {l : List Int} (hT : SumOf T (S ++ pl s)) (hS : RowsOk l S) (hF : FitI s) (hok : okI l s = true) (hw : WFit (S ++ pl s)) : RowsOk l T := by
  intro x hx
  have h1 := mem_weight hT.1 x hx
  have h2 : weightP (S ++ pl s) x.1 = x.2 := (hT.2 x.1).symm.trans h1
  have h3 : weightP (S ++ pl s) x.1 ≠ 0 := by rw [h2]; exact hT.1.2 x hx
  have h4 : fits x.2 := by rw [← h2]; exact hw x.1
  obtain ⟨y, hy, e⟩ := weight_mem h3
  rcases List.mem_append.1 hy with hy | hy
  · obtain ⟨a, b, _, d⟩ := hS y hy
    rw [← e]
    exact ⟨a, b, h4, d⟩
  · obtain ⟨z, hz, rfl⟩ := List.mem_map.1 hy
    unfold okI at hok
    rw [List.all_eq_true] at hok
    have h5 := hok z hz
    unfold okX at h5
    rw [Bool.and_eq_true] at h5
    rw [← e]
    exact ⟨h5.2, (hF z hz).1, h4, h5.1⟩
/-- what the index is once the sums are kept -/
theorem idx_kept {w w' : World} {p : Nat} {mo : Option Nat} {C : Option Addr} {cc : Nat} {l : List Int} {S T : PL} {s : List It} {f g : ByteArray → Option Sl} (hX : Idx w p mo C cc l S) (hf : Grp w l f S) (hg : Sums w l S s g) (hT : SumOf T (S ++ pl s)) (hR : RowsOk l T)
    (hK : KeepEnd w p C l.length cc mo (S.length + s.length) (keepF f g) w') : ∃ mo', Idx w' p mo' C cc l T ∧ Chg w w' (badOf p mo) ∧ (mo' = mo ∨ mo = none ∧ ∀ b, mo' = some b → w.heap.size ≤ b) := by
  obtain ⟨b, hb, hp, hm, hc⟩ := hK
  have hpl := hX.plain
  have hG : Grp w' l (keepF f g) T := by
    intro k
    have hsum := sum_grp hT l k
    rw [grp_append] at hsum
    by_cases e : grpP l k (pl s) = []
    · have e1 := (hg k).1 e
      have e2 : keepF f g k = f k := by unfold keepF; rw [e1]
      rw [e, List.append_nil] at hsum
      have e3 : grpP l k T = grpP l k S := hsum.eq (sum_self (grp_set hX.set l k))
      rw [e2, e3]
      refine ⟨(hf k).1, fun s2 hs2 => ?_⟩
      obtain ⟨h1, L, h2, h3, h4⟩ := (hf k).2 s2 hs2
      exact ⟨h1, L, h2, items_but h3 hc hpl, h4⟩
    · obtain ⟨sl, M, h1, h2, h3, h4, h5⟩ := (hg k).2 e
      have e3 : pl M = grpP l k T := h4.eq hsum
      have e2 : keepF f g k = if sl.2.1 = 0 then none else some sl := by unfold keepF; rw [h1]
      rw [e2]
      split
      · rename_i h0
        refine ⟨fun _ => ?_, fun s2 hs2 => by cases hs2⟩
        rw [← e3]
        have : M = [] := List.eq_nil_of_length_eq_zero (h2.symm.trans h0)
        rw [this]
        rfl
      · rename_i h0
        refine ⟨fun h => (by cases h), fun s2 hs2 => ?_⟩
        cases hs2
        refine ⟨fun h6 => h0 ?_, M, h2, items_but h3 hc hpl, e3⟩
        rw [h2, ← pl_length M, e3, h6]
        rfl
  refine ⟨some b, ⟨hp, ints_but hX.ints hc hpl, hT.1, hR, _, map_tight hm hG, hG⟩, hc, ?_⟩
  rcases hb with hb | ⟨hb, h2⟩
  · exact .inl hb.symm
  · exact .inr ⟨hb, fun b2 e => by obtain rfl := Option.some.inj e; exact h2⟩
end Go.Proofs.YtjjikooabmddlaaGreatDoor.Items
