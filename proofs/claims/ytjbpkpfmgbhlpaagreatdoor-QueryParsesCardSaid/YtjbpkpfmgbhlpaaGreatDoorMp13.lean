/-
  The program's reader of queries in plain words: a list of parts, each by its place, names, words with brackets behind them; that it reads what the document says. No program is named here.
-/
import Derived.Test.YtjbpkpfmgbhlpaaGreatDoorMp1
import Derived.Test.YtjbpkpfmgbhlpaaGreatDoorMp12
import Derived.Test.YtjbpkpfmgbhlpaaGreatDoorMp4
import Derived.Deep.DeepCutAuto
set_option maxRecDepth 100000
set_option maxHeartbeats 16000000
open Go.Lib (hid)
namespace Go.Proofs.YtjbpkpfmgbhlpaaGreatDoor.Code
open Val
set_option linter.unusedVariables false
def Sim {α : Type} (a b : α × Nat × Bool) : Prop := a.2 = b.2 ∧ (a.2.2 = false → a.1 = b.1)
theorem Sim.refl {α : Type} (a : α × Nat × Bool) : Sim a a := ⟨rfl, fun _ => rfl⟩
theorem Sim.symm {α : Type} {a b : α × Nat × Bool} (h : Sim a b) : Sim b a := ⟨h.1.symm, fun e => (h.2 (by rw [h.1]; exact e)).symm⟩
theorem Sim.bad {α : Type} {x y : α} {j : Nat} : Sim (x, j, true) (y, j, true) := ⟨rfl, fun e => by cases e⟩
def nmOk (L : List V) (i : Nat) : Bool := isK L i false 0 && !ownL (txt L i)
def nameP (L : List V) (o : List UInt8) (i : Nat) : Res := if nmOk L i = true then (.mk o (txt L i) [], i + 1, false) else (zeroN, i, true)
def exprP (L : List V) (i : Nat) : Res := ((exprQ L i false).1.n, (exprQ L i false).2)
def noneP (L : List V) (i : Nat) : Res := (zeroN, i, false)
def namedP (L : List V) (o : List UInt8) (el : Nat → Res) (i : Nat) : Res :=
 if nmOk L i = false then (zeroN, i, true)
 else if isW L (i + 1) false [61] = false then (zeroN, i + 1, true)
 else (.mk o (txt L i) [(el (i + 2)).1], (el (i + 2)).2)
def callP (L : List V) (el : Nat → Res) (i : Nat) : Res :=
 if isW L (i + 1) false [40] = false then (zeroN, i + 1, true)
 else if (el (i + 2)).2.2 = true then (zeroN, (el (i + 2)).2.1, true)
 else if isW L (el (i + 2)).2.1 false [41] = true then (.mk (txt L i) (el (i + 2)).1.tx (el (i + 2)).1.ks, (el (i + 2)).2.1 + 1, false)
 else (zeroN, (el (i + 2)).2.1, true)
def aggC (L : List V) (i : Nat) : Res :=
 if (isK L i false 0 && aggOps.contains (txt L i)) = true then callP L (if txt L i = sCount then noneP L else nameP L sCol) i else (zeroN, i, true)
def itemP (L : List V) (i : Nat) : Res := namedP L sItem (exprP L) i
def onP (L : List V) (i : Nat) : Res := namedP L sOn (nameP L sCol) i
def aggP (L : List V) (i : Nat) : Res := namedP L sAgg (aggC L) i
def namesP (L : List V) : Nat → Nat → List Nod × Nat
 | 0, i => ([], i)
 | f + 1, i => if nmOk L i = true then (.mk sCol (txt L i) [] :: (namesP L f (i + 1)).1, (namesP L f (i + 1)).2) else ([], i)
def hasP (L : List V) (i : Nat) : Bool := isK L i false 0 && (txt L i == sBy && !isW L (i + 1) false [61])
def byP (L : List V) (i : Nat) : Res :=
 if hasP L i = false then (.mk sBy [] [], i, false)
 else if nmOk L (i + 1) = false then (zeroN, i + 1, true)
 else if isW L (namesP L (L.length + 1) (i + 1)).2 false [44] = true then (.mk sBy [] (namesP L (L.length + 1) (i + 1)).1, (namesP L (L.length + 1) (i + 1)).2 + 1, false)
 else (zeroN, (namesP L (L.length + 1) (i + 1)).2, true)
def lsP (L : List V) (least most : Nat) (el : Nat → Nat → Res) : Nat → Nat → Nat → Ress
 | 0, _, i => ([], i, true)
 | f + 1, k, i =>
  if k < least ∨ (k < most ∧ isW L i false [44] = true) then
   if 0 < k ∧ isW L i false [44] = false then ([], i, true)
   else if (el k (if k = 0 then i else i + 1)).2.2 = true then ([], (el k (if k = 0 then i else i + 1)).2.1, true)
   else ((el k (if k = 0 then i else i + 1)).1 :: (lsP L least most el f (k + 1) (el k (if k = 0 then i else i + 1)).2.1).1, (lsP L least most el f (k + 1) (el k (if k = 0 then i else i + 1)).2.1).2)
  else ([], i, false)
def shutP (L : List V) (R : Ress) : Ress := if R.2.2 = true then R else (R.1, mustQ L R.2.1 false [41])
section
variable {L : List V} {i j : Nat} {b : Bool}
theorem isW_two {s t : List UInt8} (h : isW L i b s = true) (hne : s ≠ t) : isW L i b t = false := by
 unfold isW at h ⊢
 cases hx : L[i]? with
 | none => rfl
 | some w =>
  rw [hx] at h
  simp only [Bool.and_eq_true, beq_iff_eq] at h
  have : (w.2 == t) = false := by rw [h.1.2]; simpa using hne
  simp [this]
theorem isW_wrong (s : List UInt8) : isW L i true s = false := by
 cases h : isW L i true s with
 | false => rfl
 | true => exact absurd (isW_good h) (by decide)
theorem must_wrong (s : List UInt8) : mustQ L i true s = (i, true) := by
 unfold mustQ
 rw [isW_wrong]
 rfl
theorem must_yes {s : List UInt8} (h : isW L i false s = true) : mustQ L i false s = (i + 1, false) := by
 unfold mustQ
 rw [h]
 rfl
theorem must_no {s : List UInt8} (h : isW L i false s = false) : mustQ L i false s = (i, true) := by
 unfold mustQ
 rw [h]
 rfl
theorem more_wrong (first : Bool) : moreQ L i true first = (false, i, true) := by
 unfold moreQ
 rw [must_wrong, isW_wrong]
 cases first <;> rfl
theorem loop_wrong {el : Nat → Bool → Res} (f : Nat) (first : Bool) : loopQ L el f first i true = ([], i, true) := by
 cases f with
 | zero => rfl
 | succ f => rw [loopQ, more_wrong]; rfl
theorem nm_yes (h : nmOk L i = true) : nmQ L i false = (txt L i, i + 1, false) := by
 unfold nmQ
 unfold nmOk at h
 rw [h]
 rfl
theorem nm_no (h : nmOk L i = false) : nmQ L i false = ([], i, true) := by
 unfold nmQ
 unfold nmOk at h
 rw [h]
 rfl
theorem nm_wrong : nmQ L i true = ([], i, true) := by
 unfold nmQ
 have h : isK L i true 0 = false := by
  cases h : isK L i true 0 with
  | false => rfl
  | true => exact absurd (isK_lt h).2 (by decide)
 rw [h]
 rfl
theorem ls_loop {el : Nat → Nat → Res} {el' : Nat → Bool → Res} {least most : Nat} (he : ∀ j c, j ≤ L.length → Ends L.length j c (el' j c).2) (hel : ∀ k j, least ≤ k → Sim (el' j false) (el k j)) :
  ∀ (f k i : Nat), least ≤ k → 0 < k → k + f ≤ most → i ≤ L.length → L.length - i < f → Sim (loopQ L el' f false i false) (shutP L (lsP L least most el f k i))
 | 0, _, _, _, _, _, _, h => absurd h (Nat.not_lt_zero _)
 | f + 1, k, i, hk, hk0, hm, hi, hf => by
  rw [loopQ, lsP]
  cases c : isW L i false [44] with
  | true =>
   have c41 := isW_two (t := [41]) c (by decide)
   have hil := isW_lt c
   have hmo : moreQ L i false false = (true, i + 1, false) := by
    unfold moreQ
    rw [c41, must_yes c]
    rfl
   have h1 : k < least ∨ (k < most ∧ true = true) := Or.inr ⟨by omega, rfl⟩
   have h2 : ¬ (0 < k ∧ true = false) := by rintro ⟨_, h⟩; cases h
   have h3 : ¬ k = 0 := by omega
   have h4 : ¬ (true, i + 1, false).1 = false := by simp
   rw [hmo, if_pos h1, if_neg h2, if_neg h3, if_neg h4]
   dsimp only
   have hs := hel k (i + 1) hk
   have hE := he (i + 1) false (by omega)
   generalize el k (i + 1) = E at hs ⊢
   generalize el' (i + 1) false = E' at hs hE ⊢
   obtain ⟨n, j, b⟩ := E
   obtain ⟨n', j', b'⟩ := E'
   obtain ⟨h1, h2⟩ := hs
   dsimp only at h1 h2 hE ⊢
   cases h1
   cases b with
   | true =>
    rw [loop_wrong, if_pos rfl]
    exact ⟨rfl, fun e => by cases e⟩
   | false =>
    have hE1 := hE.1
    have hE2 := hE.2.1
    dsimp only at hE1 hE2
    have ih := ls_loop (least := least) (most := most) he hel f (k + 1) j (by omega) (by omega) (by omega) hE2 (by omega)
    rw [if_neg (by simp), h2 rfl]
    obtain ⟨ih1, ih2⟩ := ih
    unfold shutP at ih1 ih2 ⊢
    dsimp only
    split
    ·rename_i hb
     rw [if_pos hb] at ih1 ih2
     exact ⟨ih1, fun e => by rw [ih2 e]⟩
    ·rename_i hb
     rw [if_neg hb] at ih1 ih2
     exact ⟨ih1, fun e => by rw [ih2 e]⟩
  | false =>
   have h1 : ¬ (k < least ∨ (k < most ∧ false = true)) := by
    rintro (h | ⟨_, h⟩)
    ·omega
    ·cases h
   rw [if_neg h1, show shutP L ([], i, false) = ([], mustQ L i false [41]) from rfl]
   cases c41 : isW L i false [41] with
   | true =>
    have hmo : moreQ L i false false = (false, i + 1, false) := by
     unfold moreQ
     rw [c41]
     rfl
    rw [hmo, if_pos rfl, must_yes c41]
    exact Sim.refl _
   | false =>
    have hmo : moreQ L i false false = (false, i, true) := by
     unfold moreQ
     rw [c41, must_no c]
     rfl
    rw [hmo, if_pos rfl, must_no c41]
    exact Sim.refl _
theorem ls_first {el : Nat → Nat → Res} {least most : Nat} (f : Nat) (h : 0 < least) : lsP L least most el (f + 1) 0 i = if (el 0 i).2.2 = true then ([], (el 0 i).2.1, true) else ((el 0 i).1 :: (lsP L least most el f 1 (el 0 i).2.1).1, (lsP L least most el f 1 (el 0 i).2.1).2) := by
 rw [lsP, if_pos (Or.inl h), if_neg (by rintro ⟨h, _⟩; omega)]
 rfl
theorem ls_must {el : Nat → Nat → Res} {least most k : Nat} (f : Nat) (h0 : 0 < k) (h : k < least) : lsP L least most el (f + 1) k i =
  if isW L i false [44] = false then ([], i, true) else if (el k (i + 1)).2.2 = true then ([], (el k (i + 1)).2.1, true) else ((el k (i + 1)).1 :: (lsP L least most el f (k + 1) (el k (i + 1)).2.1).1, (lsP L least most el f (k + 1) (el k (i + 1)).2.1).2) := by
 rw [lsP, if_pos (Or.inl h), if_neg (show ¬ k = 0 by omega)]
 cases c : isW L i false [44] with
 | false => rw [if_pos ⟨h0, rfl⟩, if_pos rfl]
 | true => rw [if_neg (show ¬ (0 < k ∧ true = false) by rintro ⟨_, h⟩; cases h), if_neg (show ¬ true = false by decide)]
theorem ls_end {el : Nat → Nat → Res} {least most k : Nat} (f : Nat) (h : least ≤ k) (h' : most ≤ k) : lsP L least most el (f + 1) k i = ([], i, false) := by
 rw [lsP, if_neg (by rintro (h | ⟨h, _⟩) <;> omega)]
theorem ls_must_loop {el : Nat → Nat → Res} {el' : Nat → Bool → Res} {least most k : Nat} (he : ∀ j c, j ≤ L.length → Ends L.length j c (el' j c).2) (hel : ∀ k j, least ≤ k + 1 → Sim (el' j false) (el k j)) (f : Nat) (h0 : 0 < k) (hk : k + 1 = least) (hm : k + f + 1 ≤ most) (hi : i ≤ L.length) (hf : L.length - i < f) :
  Sim (loopQ L el' (f + 1) true i false) (shutP L (lsP L least most el (f + 1) k i)) := by
 rw [loopQ, ls_must f h0 (by omega)]
 cases c : isW L i false [44] with
 | false =>
  have hmo : moreQ L i false true = (false, i, true) := by
   unfold moreQ
   rw [must_no c]
   rfl
  rw [hmo, if_pos rfl, if_pos rfl]
  exact Sim.refl _
 | true =>
  have hil := isW_lt c
  have hmo : moreQ L i false true = (true, i + 1, false) := by
   unfold moreQ
   rw [must_yes c]
   rfl
  have h4 : ¬ (true, i + 1, false).1 = false := by simp
  have h5 : ¬ true = false := by decide
  rw [hmo, if_neg h4, if_neg h5]
  dsimp only
  have hs := hel k (i + 1) (by omega)
  have hE := he (i + 1) false (by omega)
  generalize el k (i + 1) = E at hs ⊢
  generalize el' (i + 1) false = E' at hs hE ⊢
  obtain ⟨n, j, b⟩ := E
  obtain ⟨n', j', b'⟩ := E'
  obtain ⟨h1, h2⟩ := hs
  dsimp only at h1 h2 hE ⊢
  cases h1
  cases b with
  | true =>
   rw [loop_wrong, if_pos rfl]
   exact ⟨rfl, fun e => by cases e⟩
  | false =>
   have hE1 := hE.1
   have hE2 := hE.2.1
   dsimp only at hE1 hE2
   have ih := ls_loop (least := least) (most := most) he (fun k j h => hel k j (by omega)) f (k + 1) j (by omega) (by omega) (by omega) hE2 (by omega)
   rw [if_neg (by simp), h2 rfl]
   obtain ⟨ih1, ih2⟩ := ih
   unfold shutP at ih1 ih2 ⊢
   dsimp only
   split
   ·rename_i hb
    rw [if_pos hb] at ih1 ih2
    exact ⟨ih1, fun e => by rw [ih2 e]⟩
   ·rename_i hb
    rw [if_neg hb] at ih1 ih2
    exact ⟨ih1, fun e => by rw [ih2 e]⟩
end
section
variable {L : List V} {i j : Nat} {b : Bool}
theorem ift {α : Type} (a b : α) : (if true = true then a else b) = a := rfl
theorem iff' {α : Type} (a b : α) : (if false = true then a else b) = b := rfl
theorem ifft {α : Type} (a b : α) : (if false = false then a else b) = a := rfl
theorem iftf {α : Type} (a b : α) : (if true = false then a else b) = b := rfl
theorem named_sim {o : List UInt8} {el : Nat → Res} {el' : Nat → Bool → Res} (hs : ∀ j, Sim (el' j false) (el j)) (hw : ∀ j, (el' j true).2 = (j, true)) (i : Nat) :
  Sim (.mk o (nmQ L i false).1 [(el' (mustQ L (nmQ L i false).2.1 (nmQ L i false).2.2 [61]).1 (mustQ L (nmQ L i false).2.1 (nmQ L i false).2.2 [61]).2).1],
   (el' (mustQ L (nmQ L i false).2.1 (nmQ L i false).2.2 [61]).1 (mustQ L (nmQ L i false).2.1 (nmQ L i false).2.2 [61]).2).2) (namedP L o el i) := by
 unfold namedP
 cases c : nmOk L i with
 | false =>
  rw [if_pos rfl, nm_no c, must_wrong]
  refine ⟨hw i, fun e => ?_⟩
  rw [show ∀ x : Nod, (x, (el' i true).2).2 = (el' i true).2 from fun _ => rfl, hw] at e
  cases e
 | true =>
  rw [if_neg (by decide), nm_yes c]
  cases c1 : isW L (i + 1) false [61] with
  | false =>
   rw [if_pos rfl, must_no c1]
   refine ⟨hw (i + 1), fun e => ?_⟩
   rw [show ∀ x : Nod, (x, (el' (i + 1) true).2).2 = (el' (i + 1) true).2 from fun _ => rfl, hw] at e
   cases e
  | true =>
   rw [if_neg (by decide), must_yes c1]
   obtain ⟨h1, h2⟩ := hs (i + 2)
   exact ⟨h1, fun e => by rw [h2 e]⟩
theorem expr_wrong (j : Nat) : (exprQ L j true).2 = (j, true) := by
 by_cases h : j ≤ L.length
 ·exact (expr_ends (b := true) h).2.2 rfl
 ·have hg : ∀ (f : Nat) (md : Mode) (j : Nat), (P L f md j true).2 = (j, true) := by
   intro f
   induction f with
   | zero => intro md j; cases md <;> rfl
   | succ f ih =>
    intro md j
    have hk : ∀ k, isK L j true k = false := fun k => by
     cases h : isK L j true k with
     | false => rfl
     | true => exact absurd (isK_lt h).2 (by decide)
    have ho : ∀ l, oneL L j true l = [] := fun l => by
     induction l with
     | nil => rfl
     | cons s l ih => rw [oneL, isW_wrong, if_neg (by decide)]; exact ih
    cases md with
    | expr lv =>
     rw [P]
     split
     ·exact ih _ _
     split
     ·rw [isW_wrong, if_neg (by decide)]
      exact ih _ _
     split
     ·rw [ih]; exact ih _ _
     ·rw [ih]; exact ih _ _
    | loop lv t => rw [P, ho, if_pos rfl]
    | test t =>
     rw [P, ho, isW_wrong]
     rfl
    | sign =>
     rw [P, isW_wrong, if_neg (by decide), isW_wrong, if_neg (by decide), ho, if_pos rfl, hk, hk, hk]
     rfl
  exact hg _ _ _
theorem item_sim (i : Nat) : Sim (itemQ L i false) (itemP L i) :=
 named_sim (o := sItem) (el := exprP L) (el' := fun j b => ((exprQ L j b).1.n, (exprQ L j b).2)) (fun j => Sim.refl _) (fun j => expr_wrong j) i
theorem pair_sim (i : Nat) : Sim (pairQ L i false) (onP L i) :=
 named_sim (o := sOn) (el := nameP L sCol) (el' := fun j b => (.mk sCol (nmQ L j b).1 [], (nmQ L j b).2)) (fun j => by
  unfold nameP
  cases c : nmOk L j with
  | false => rw [nm_no c]; exact Sim.bad
  | true => rw [nm_yes c]; exact Sim.refl _) (fun j => by rw [nm_wrong]) i
theorem kind_of : ∀ l : List (List UInt8), (∀ s ∈ l, s ≠ []) → kindQ L i false l = if (isK L i false 0 && l.contains (txt L i)) = true then txt L i else []
 | [], _ => by simp [kindQ]
 | s :: l, h => by
  rw [kindQ, kind_of l (fun s hs => h s (List.mem_cons_of_mem _ hs))]
  cases hk : isK L i false 0 with
  | false => simp
  | true =>
   by_cases e : txt L i = s
   ·rw [e]
    simp
   ·rw [if_neg (by simp [e])]
    have : (s :: l).contains (txt L i) = l.contains (txt L i) := by simp [e]
    rw [this]
theorem kind_wrong : ∀ l : List (List UInt8), kindQ L i true l = []
 | [] => rfl
 | s :: l => by
  rw [kindQ]
  have hk : isK L i true 0 = false := by
   cases h : isK L i true 0 with
   | false => rfl
   | true => exact absurd (isK_lt h).2 (by decide)
  rw [hk]
  exact kind_wrong l
theorem agg2_sim (s : List UInt8) (i : Nat) : Sim (agg2Q L s i false) (.mk sAgg s [(aggC L i).1], (aggC L i).2) := by
 unfold agg2Q aggC
 rw [kind_of aggOps (by decide)]
 cases c : (isK L i false 0 && aggOps.contains (txt L i)) with
 | false =>
  rw [iff', if_pos rfl, iff']
  exact Sim.bad
 | true =>
  rw [ift, ift]
  have hne : txt L i ≠ [] := by
   intro e
   rw [e] at c
   revert c
   cases isK L i false 0 <;> decide
  rw [if_neg hne]
  obtain ⟨o, ho⟩ : ∃ o, txt L i = o := ⟨_, rfl⟩
  rw [ho]
  unfold callQ callP
  cases c1 : isW L (i + 1) false [40] with
  | false =>
   rw [ifft, must_no c1]
   have ha : argQ L o (i + 1) true = ([], i + 1, true) := by
    unfold argQ
    split
    ·rfl
    ·exact nm_wrong
   rw [ha, must_wrong]
   exact Sim.bad
  | true =>
   rw [iftf, must_yes c1]
   by_cases hc : o = sCount
   ·rw [if_pos hc]
    have ha : argQ L o (i + 1 + 1) false = ([], i + 2, false) := by unfold argQ; rw [if_pos hc]
    rw [ha]
    unfold noneP
    dsimp only
    rw [iff']
    cases c2 : isW L (i + 2) false [41] with
    | true => rw [ift, must_yes c2, ho]; exact Sim.refl _
    | false => rw [iff', must_no c2]; exact Sim.bad
   ·rw [if_neg hc]
    have ha : argQ L o (i + 1 + 1) false = nmQ L (i + 2) false := by unfold argQ; rw [if_neg hc]
    rw [ha]
    unfold nameP
    cases c3 : nmOk L (i + 2) with
    | false =>
     rw [nm_no c3, must_wrong, iff']
     dsimp only
     rw [ift]
     exact Sim.bad
    | true =>
     rw [nm_yes c3, ift]
     dsimp only [Nod.tx, Nod.ks]
     rw [iff']
     cases c2 : isW L (i + 2 + 1) false [41] with
     | true => rw [ift, must_yes c2, ho]; exact Sim.refl _
     | false => rw [iff', must_no c2]; exact Sim.bad
theorem agg_sim (i : Nat) : Sim (aggQ L i false) (aggP L i) := by
 unfold aggQ aggP namedP
 cases c : nmOk L i with
 | false =>
  rw [if_pos rfl, nm_no c, must_wrong]
  unfold agg2Q
  rw [kind_wrong, if_pos rfl]
  exact Sim.bad
 | true =>
  rw [if_neg (by decide), nm_yes c]
  cases c1 : isW L (i + 1) false [61] with
  | false =>
   rw [if_pos rfl, must_no c1]
   unfold agg2Q
   rw [kind_wrong, if_pos rfl]
   exact Sim.bad
  | true =>
   rw [if_neg (by decide), must_yes c1]
   exact agg2_sim _ _
theorem kind_noW {p : Nat} {s : List UInt8} (hk : isK L p false 0 = true) (hs : ownL s = false) : isW L p false s = false := by
 unfold isK at hk
 unfold isW
 cases hx : L[p]? with
 | none => rfl
 | some w =>
  rw [hx] at hk
  have e : w.1 = 0 := by simpa using hk
  simp [e, hs]
theorem names_sim : ∀ (f j : Nat), nmOk L j = true → j ≤ L.length → L.length - j < f →
  (namesQ L f j false = ((namesP L f j).1, (namesP L f j).2, false)) ∨ ((namesQ L f j false).2 = ((namesP L f j).2, true) ∧ isW L (namesP L f j).2 false [44] = false)
 | 0, _, _, _, h => absurd h (Nat.not_lt_zero _)
 | f + 1, j, hn, hj, hf => by
  rw [namesQ, nm_yes hn, namesP, if_pos hn]
  have hjl : j < L.length := (isK_lt (Bool.and_eq_true _ _ ▸ hn).1).1
  dsimp only
  cases hk : isK L (j + 1) false 0 with
  | false =>
   rw [if_neg (by decide)]
   have hno : nmOk L (j + 1) = false := by unfold nmOk; rw [hk]; rfl
   obtain ⟨f', rfl⟩ : ∃ f', f = f' + 1 := ⟨f - 1, by omega⟩
   rw [namesP, if_neg (by rw [hno]; decide)]
   exact .inl rfl
  | true =>
   rw [if_pos rfl]
   have hjl2 := (isK_lt hk).1
   cases hn2 : nmOk L (j + 1) with
   | true =>
    rcases names_sim f (j + 1) hn2 (by omega) (by omega) with h | ⟨h, h'⟩
    ·left; rw [h]
    ·right; exact ⟨h, h'⟩
   | false =>
    right
    obtain ⟨f', rfl⟩ : ∃ f', f = f' + 1 := ⟨f - 1, by omega⟩
    have h1 : namesQ L (f' + 1) (j + 1) false = ([.mk sCol [] []], j + 1, true) := by
     rw [namesQ, nm_no hn2]
     have hkk : isK L (j + 1) true 0 = false := by
      cases h : isK L (j + 1) true 0 with
      | false => rfl
      | true => exact absurd (isK_lt h).2 (by decide)
     dsimp only
     rw [hkk, if_neg (by decide)]
    have h2 : namesP L (f' + 1) (j + 1) = ([], j + 1) := by rw [namesP, if_neg (by rw [hn2]; decide)]
    rw [h1, h2]
    exact ⟨rfl, kind_noW hk (by decide)⟩
theorem has_same (i : Nat) : hasQ L i false = hasP L i := by
 unfold hasQ hasP wordQ
 cases hk : isK L i false 0 with
 | false => rfl
 | true =>
  cases ht : txt L i == sBy with
  | false => rfl
  | true =>
   have h : isW L (i + 1) false [61] = (L[i + 1]? == some (3, [61])) := by
    unfold isW
    cases hx : L[i + 1]? with
    | none => rfl
    | some w =>
     obtain ⟨k, t⟩ := w
     have ho : ownL [61] = false := by decide
     rw [ho]
     rw [Bool.eq_iff_iff]
     simp
     constructor
     ·rintro ⟨h1, h2⟩; exact ⟨h2, h1⟩
     ·rintro ⟨h1, h2⟩; exact ⟨h2, h1⟩
   rw [h]
   simp
theorem by_sim (i : Nat) : Sim (byQ L i false) (byP L i) := by
 unfold byQ byP
 rw [has_same]
 cases hh : hasP L i with
 | false =>
  rw [if_neg (by decide), if_pos rfl]
  exact Sim.refl _
 | true =>
  rw [if_pos rfl, if_neg (by decide)]
  have hil : i < L.length := (isK_lt (Bool.and_eq_true _ _ ▸ hh).1).1
  cases hn : nmOk L (i + 1) with
  | false =>
   rw [if_pos rfl]
   have h1 : (namesQ L (L.length + 1) (i + 1) false).2 = (i + 1, true) := by
    rw [namesQ, nm_no hn]
    have hkk : isK L (i + 1) true 0 = false := by
     cases h : isK L (i + 1) true 0 with
     | false => rfl
     | true => exact absurd (isK_lt h).2 (by decide)
    dsimp only
    rw [hkk, if_neg (by decide)]
   rw [h1, must_wrong]
   exact Sim.bad
  | true =>
   rw [if_neg (by decide)]
   rcases names_sim (L.length + 1) (i + 1) hn (by omega) (by omega) with h | ⟨h, h'⟩
   ·rw [h]
    dsimp only
    cases c : isW L (namesP L (L.length + 1) (i + 1)).2 false [44] with
    | true => rw [must_yes c, if_pos rfl]; exact Sim.refl _
    | false => rw [must_no c, if_neg (by decide)]; exact Sim.bad
   ·rw [h, must_wrong, h', if_neg (by decide)]
    exact Sim.bad
end
def many : Nat := 9223372036854775807
def filterP (L : List V) (q : Nat → Res) (i : Nat) : Ress := lsP L 2 2 (fun k j => if k < 1 then q j else exprP L j) (L.length + 8) 0 i
def projectP (L : List V) (q : Nat → Res) (i : Nat) : Ress := lsP L 2 many (fun k j => if k < 1 then q j else itemP L j) (L.length + 8) 0 i
def joinP (L : List V) (q : Nat → Res) (i : Nat) : Ress := lsP L 3 many (fun k j => if k < 2 then q j else onP L j) (L.length + 8) 0 i
def unionP (L : List V) (q : Nat → Res) (i : Nat) : Ress := lsP L 2 many (fun k j => q j) (L.length + 8) 0 i
def distinctP (L : List V) (q : Nat → Res) (i : Nat) : Ress := lsP L 1 1 (fun k j => q j) (L.length + 8) 0 i
def firstG (L : List V) (j : Nat) : Res := if (byP L j).2.2 = true then (zeroN, (byP L j).2.1, true) else aggP L (byP L j).2.1
def groupsP (L : List V) (q : Nat → Res) (i : Nat) : Ress := lsP L 2 many (fun k j => if k < 1 then q j else if k = 1 then firstG L j else aggP L j) (L.length + 8) 0 i
def groupP (L : List V) (q : Nat → Res) (i : Nat) : Ress := ((groupsP L q i).1.take 1 ++ (byP L ((q i).2.1 + 1)).1 :: (groupsP L q i).1.drop 1, (groupsP L q i).2)
def bodyG (L : List V) (q : Nat → Res) (o : List UInt8) (i : Nat) : Ress :=
 if o = sFilter then filterP L q i else if o = sProject then projectP L q i else if o = sJoin then joinP L q i else if o = sUnion then unionP L q i else if o = sDistinct then distinctP L q i else groupP L q i
section
variable {L : List V} {q : Nat → Bool → Res} {i : Nat}
theorem tail_wrong (hq : ∀ j c, j ≤ L.length → Ends L.length j c (q j c).2) (o : List UInt8) {j : Nat} (h : j ≤ L.length) : (tailQ L q o j true).2 = (j, true) := (tail_ends hq h).2.2 rfl
theorem body_of {o : List UInt8} {el : Nat → Nat → Res} {least most : Nat} (hq : ∀ j c, j ≤ L.length → Ends L.length j c (q j c).2) (h0 : 0 < least) (hel : ∀ j, el 0 j = q j false) (hi : i ≤ L.length)
  (ht : ∀ j, j ≤ L.length → Sim (tailQ L q o j false) (shutP L (lsP L least most el (L.length + 7) 1 j))) :
  Sim ((q i false).1 :: (tailQ L q o (q i false).2.1 (q i false).2.2).1, (tailQ L q o (q i false).2.1 (q i false).2.2).2) (shutP L (lsP L least most el (L.length + 8) 0 i)) := by
 have hE := hq i false hi
 rw [ls_first (L.length + 7) h0, hel]
 generalize q i false = E at hE ⊢
 obtain ⟨n, j, b⟩ := E
 have hj := hE.2.1
 dsimp only at hj ⊢
 cases b with
 | true =>
  have hw := tail_wrong hq o hj
  rw [if_pos rfl]
  unfold shutP
  rw [if_pos rfl]
  refine ⟨hw, fun e => ?_⟩
  rw [show ∀ x : List Nod, (x, (tailQ L q o j true).2).2 = (tailQ L q o j true).2 from fun _ => rfl, hw] at e
  cases e
 | false =>
  rw [if_neg (by simp)]
  obtain ⟨h1, h2⟩ := ht j hj
  unfold shutP at h1 h2 ⊢
  dsimp only
  split
  ·rename_i hb
   rw [if_pos hb] at h1 h2
   exact ⟨h1, fun e => by rw [h2 e]⟩
  ·rename_i hb
   rw [if_neg hb] at h1 h2
   exact ⟨h1, fun e => by rw [h2 e]⟩
theorem loop_fuel {el' : Nat → Bool → Res} (he : ∀ j c, j ≤ L.length → Ends L.length j c (el' j c).2) (first : Bool) {j : Nat} (hj : j ≤ L.length) (f : Nat) (hf : L.length - j < f) (b : Bool) : loopQ L el' (L.length + 1) first j b = loopQ L el' f first j b :=
 loop_steps he 0 (fun _ _ _ _ => rfl) _ _ _ _ _ (Nat.zero_le _) hj (by omega) hf
theorem filter_sim (hq : ∀ j c, j ≤ L.length → Ends L.length j c (q j c).2) (hi : i ≤ L.length) :
  Sim ((q i false).1 :: (tailQ L q sFilter (q i false).2.1 (q i false).2.2).1, (tailQ L q sFilter (q i false).2.1 (q i false).2.2).2) (shutP L (filterP L (fun j => q j false) i)) := by
 refine body_of hq (by decide) (fun j => rfl) hi fun j hj => ?_
 rw [show tailQ L q sFilter j false = ([(exprQ L (mustQ L j false [44]).1 (mustQ L j false [44]).2).1.n], mustQ L (exprQ L (mustQ L j false [44]).1 (mustQ L j false [44]).2).2.1 (exprQ L (mustQ L j false [44]).1 (mustQ L j false [44]).2).2.2 [41]) by unfold tailQ; rw [if_pos rfl]]
 rw [ls_must (L.length + 6) (by decide) (by decide)]
 cases c : isW L j false [44] with
 | false =>
  rw [must_no c, expr_wrong, must_wrong, ifft]
  exact Sim.bad
 | true =>
  rw [must_yes c, iftf]
  dsimp only
  rw [show ∀ j, (if 1 < 1 then q j false else exprP L j) = exprP L j from fun _ => rfl]
  have hE := expr_ends (L := L) (i := j + 1) (b := false) (isW_lt c)
  unfold exprP
  generalize exprQ L (j + 1) false = E at hE ⊢
  obtain ⟨t, k, b⟩ := E
  dsimp only
  cases b with
  | true =>
   rw [must_wrong, ift]
   exact Sim.bad
  | false =>
   rw [iff', ls_end _ (by decide) (by decide)]
   exact Sim.refl _
theorem distinct_sim (hq : ∀ j c, j ≤ L.length → Ends L.length j c (q j c).2) (hi : i ≤ L.length) :
  Sim ((q i false).1 :: (tailQ L q sDistinct (q i false).2.1 (q i false).2.2).1, (tailQ L q sDistinct (q i false).2.1 (q i false).2.2).2) (shutP L (distinctP L (fun j => q j false) i)) := by
 refine body_of hq (by decide) (fun j => rfl) hi fun j hj => ?_
 rw [show tailQ L q sDistinct j false = ([], mustQ L j false [41]) by unfold tailQ; rw [if_neg (by decide), if_pos rfl]]
 rw [ls_end _ (by decide) (by decide)]
 exact Sim.refl _
theorem project_sim (hq : ∀ j c, j ≤ L.length → Ends L.length j c (q j c).2) (hi : i ≤ L.length) (hL : L.length ≤ 4194304) :
  Sim ((q i false).1 :: (tailQ L q sProject (q i false).2.1 (q i false).2.2).1, (tailQ L q sProject (q i false).2.1 (q i false).2.2).2) (shutP L (projectP L (fun j => q j false) i)) := by
 refine body_of hq (by decide) (fun j => rfl) hi fun j hj => ?_
 rw [show tailQ L q sProject j false = loopQ L (itemQ L) (L.length + 1) true j false by unfold tailQ; rw [if_neg (by decide), if_neg (by decide), if_pos rfl], loop_fuel (fun j c hj => item_ends hj) true hj (L.length + 7) (by omega)]
 refine ls_must_loop (least := 2) (k := 1) (fun j c hj => item_ends hj) (fun k j h => ?_) (L.length + 6) (by decide) rfl (by unfold many; omega) hj (by omega)
 rw [if_neg (by omega)]
 exact item_sim j
theorem union_sim (hq : ∀ j c, j ≤ L.length → Ends L.length j c (q j c).2) (hi : i ≤ L.length) (hL : L.length ≤ 4194304) :
  Sim ((q i false).1 :: (tailQ L q sUnion (q i false).2.1 (q i false).2.2).1, (tailQ L q sUnion (q i false).2.1 (q i false).2.2).2) (shutP L (unionP L (fun j => q j false) i)) := by
 refine body_of hq (by decide) (fun j => rfl) hi fun j hj => ?_
 rw [show tailQ L q sUnion j false = loopQ L q (L.length + 1) true j false by unfold tailQ; rw [if_neg (by decide), if_neg (by decide), if_neg (by decide), if_pos rfl], loop_fuel hq true hj (L.length + 7) (by omega)]
 exact ls_must_loop (least := 2) (k := 1) hq (fun k j h => Sim.refl _) (L.length + 6) (by decide) rfl (by unfold many; omega) hj (by omega)
theorem join_sim (hq : ∀ j c, j ≤ L.length → Ends L.length j c (q j c).2) (hi : i ≤ L.length) (hL : L.length ≤ 4194304) :
  Sim ((q i false).1 :: (tailQ L q sJoin (q i false).2.1 (q i false).2.2).1, (tailQ L q sJoin (q i false).2.1 (q i false).2.2).2) (shutP L (joinP L (fun j => q j false) i)) := by
 refine body_of hq (by decide) (fun j => rfl) hi fun j hj => ?_
 rw [show tailQ L q sJoin j false = ((q (mustQ L j false [44]).1 (mustQ L j false [44]).2).1 :: (loopQ L (pairQ L) (L.length + 1) true (q (mustQ L j false [44]).1 (mustQ L j false [44]).2).2.1 (q (mustQ L j false [44]).1 (mustQ L j false [44]).2).2.2).1,
   (loopQ L (pairQ L) (L.length + 1) true (q (mustQ L j false [44]).1 (mustQ L j false [44]).2).2.1 (q (mustQ L j false [44]).1 (mustQ L j false [44]).2).2.2).2) by unfold tailQ; rw [if_neg (by decide), if_neg (by decide), if_neg (by decide), if_neg (by decide), if_pos rfl]]
 rw [ls_must (L.length + 6) (by decide) (by decide)]
 cases c : isW L j false [44] with
 | false =>
  have hw := (hq j true hj).2.2 rfl
  rw [must_no c, ifft]
  dsimp only
  generalize q j true = E at hw ⊢
  obtain ⟨n, j1, b1⟩ := E
  cases hw
  rw [loop_wrong]
  exact Sim.bad
 | true =>
  have hjl := isW_lt c
  rw [must_yes c, iftf]
  dsimp only
  rw [show ∀ j, (if 1 < 2 then q j false else onP L j) = q j false from fun _ => rfl]
  have hE := hq (j + 1) false (by omega)
  generalize q (j + 1) false = E at hE ⊢
  obtain ⟨n, k, b⟩ := E
  have hk := hE.2.1
  dsimp only at hk ⊢
  cases b with
  | true =>
   rw [loop_wrong, ift]
   exact Sim.bad
  | false =>
   rw [iff', loop_fuel (fun j c hj => pair_ends hj) true hk (L.length + 6) (by omega)]
   have h := ls_must_loop (L := L) (el := fun k j => if k < 2 then q j false else onP L j) (least := 3) (most := many) (k := 2) (i := k) (fun j c hj => pair_ends hj) (fun k j h => by rw [if_neg (by omega)]; exact pair_sim j) (L.length + 5) (by decide) rfl (by unfold many; omega) hk (by omega)
   obtain ⟨h1, h2⟩ := h
   unfold shutP at h1 h2 ⊢
   dsimp only
   split
   ·rename_i hb
    rw [if_pos hb] at h1 h2
    exact ⟨h1, fun e => by rw [h2 e]⟩
   ·rename_i hb
    rw [if_neg hb] at h1 h2
    exact ⟨h1, fun e => by rw [h2 e]⟩
end
end Go.Proofs.YtjbpkpfmgbhlpaaGreatDoor.Code
/-
  The program's maps of what a word begins: a look-up, an entry of a literal.
-/
namespace Go.Proofs.YtjbpkpfmgbhlpaaGreatDoor.Code
open Go.ChangeShapes Go.WideShapes Go.ChangeAt Go.RowKit Val Elems Go.ChangeMaps Go.MapKept
open Go.WideElems (Fit rd rg pl rd_key rd_val rg_of)
open Go.Maps (Keyed)
set_option linter.unusedVariables false
set_option linter.unusedSimpArgs false
set_option maxRecDepth 100000
theorem run_lookq (w : World) (b n : Nat) (f : ByteArray → Option Value) (h : MapR w b n f) (k : ByteArray) (hk : k.size ≤ maxLen) (u : Option Value) (hu : f k = u) : (Instr.lookup 55 (.map (some b)) (.string k) true).run Tryz.prog w = .ok (.tuple #[u.getD .nilFunc, .bool u.isSome]) w := by
 subst hu
 have hz : (zeroValue 95).run Tryz.prog w = .ok .nilFunc w := rfl
 obtain ⟨D, ⟨es, clock, hb, F, hs, rfl⟩, h2⟩ := h
 have h3 := h2 k hk
 rcases Maps.fit_look true mk_law Tryz.underlying55 hz hb F (mk_is hk) with ⟨hrun, _, hat⟩ | ⟨e0, y, _, _, hrun, hRv, hat, _⟩
 ·have hf := Maps.has_false_of_atKey hat
  rw [h3.1] at hf
  cases hfk : f k with
  | none => exact hrun
  | some s => rw [hfk] at hf; cases hf
 ·have hf := Maps.has_true_of_atKey hat
  rw [h3.1] at hf
  cases hfk : f k with
  | none => rw [hfk] at hf; cases hf
  | some s =>
   have h4 := (h3.2 s hfk (.held undef)).symm.trans (hat _)
   unfold hR at hRv
   simp only [Option.some.injEq] at hRv
   subst hRv
   injection h4 with h4
   rw [hrun, h4]
   rfl
section
variable (w : World) {ops : Array Oper} {rest : List Oper} {o : Oper} {a : Act} {Q : Exit → Act → World → Prop}
theorem wpList_insp (hg : o.guard = none) (m x v : Operand) (hop : o.op = Op.insert 55 m x v) (b n : Nat) (f : ByteArray → Option Value) (hm : a.eval m = .map (some b)) (h : MapR w b n f) (hn : n < maxLen) (k : ByteArray) (hx : a.eval x = .string k) (hk : k.size ≤ maxLen)
  (s : Value) (hv : a.eval v = s) (hK : ∀ w', MapR w' b (n + 1) (mput f k s) → w.grownBy w' (some b) → w'.heap.size = w.heap.size → wpList Tryz.prog ops Q rest (a.put o.dst undef) w') : wpList Tryz.prog ops Q (o :: rest) a w := by
 refine wpList_plain hg fun K' hK' => ?_
 obtain ⟨D, h1, h2⟩ := h
 obtain ⟨w', hrun, r1, r2⟩ := h1.store mk_law Tryz.underlying55 hn (mk_is hk) (show hR s = some (.held s, []) from rfl)
 have hsz : w'.heap.size = w.heap.size := by
  obtain ⟨es, clock, es', clock', hb, rfl⟩ := r2
  simp [setBlock]
 unfold Oper.wp
 simp [execOp, hop, hm, hx, hv, hrun, Result.andThen]
 exact hK' _ _ (hK w' ⟨_, r1, msees_put h1.isMap h2 k s⟩ r2.grown hsz)
end
end Go.Proofs.YtjbpkpfmgbhlpaaGreatDoor.Code
/-
  Contracts of the program's reader of words: the word that comes, a mark's or name's kind, what is taken.
-/
namespace Go.Proofs.YtjbpkpfmgbhlpaaGreatDoor.Code
open Go.ChangeShapes Go.WideShapes Go.ChangeAt Go.RowKit Val Elems
set_option linter.unusedVariables false
set_option linter.unusedSimpArgs false
section
variable {r : Nat} {m : Int} {A : Option Addr} {cap : Nat} {l : List W}
theorem eword_any (i : Nat) (w : World) (h : Rd w r m A cap l i) (hi : i ≤ l.length) (hl : l.length ≤ 4194304) :
  Calls Tryz.prog 167 #[.pointer (some ⟨r, 0, none⟩)] w fun e w' => e = .returned (.agg #[.int .i64 (wd l i).1, .string ⟨(wd l i).2.1.toArray⟩, .int .i64 (wd l i).2.2]) ∧ Below w.heap.size w w' := by
 have HW := hid h.ws
 have hrl := h.lt
 obtain ⟨c0, c1, -, -, -⟩ := h
 by_cases hil : i < l.length
 ·rw [wd_in hil]
  obtain ⟨ad, rfl, ha, d0, d1, d2⟩ := at_word HW.out i hil
  obtain ⟨x, hxx⟩ : ∃ x, l[i] = x := ⟨_, rfl⟩
  rw [hxx] at d0 d1 d2 ⊢
  obtain ⟨k, t, p⟩ := x
  dsimp only at d0 d1 d2 ⊢
  obtain ⟨T, hT⟩ : ∃ T : ByteArray, ⟨t.toArray⟩ = T := ⟨_, rfl⟩
  rw [hT] at d1 ⊢
  obtain ⟨q, hq⟩ : ∃ q, ad.add (i * 3) = q := ⟨_, rfl⟩
  have hbq : q.block < w.heap.size := by rw [← hq, add_block]; omega
  rw [hq] at d0 d1 d2
  clear hxx hT
  have e1 : decide ((i : Int) < (l.length : Int)) = true := by simp; omega
  have e2 : decide (i < l.length) = true := by simp; omega
  have e3 : (i : Int) < (l.length : Int) := by omega
  have e4 : (0 : Int) ≤ (i : Int) := by omega
  go_enter Tryz.func167, Tryz.ntmps167
  go_wp2
  go_quiet (fail)
  obtain ⟨W6, hW6⟩ : ∃ W6, (w.alloc (.cells #[.int .i64 0, .string ⟨#[]⟩, .int .i64 0] 48)).drewN nq = W6 := ⟨_, rfl⟩
  have L6 := hid (show Below w.heap.size w W6 by rw [← hW6]; exact drewN_below ((Below.refl _ _).alloc (Nat.le_refl _) _) _)
  have N6 := hid (show NBox W6 w.heap.size (.int .i64 0) (.string ⟨#[]⟩) (.int .i64 0) by rw [← hW6]; exact (NBox.fresh w _ _ _ _).below (drewN_below (Below.refl _ _) _))
  have HO := hid (Ox.refl w.heap.size W6)
  have FQ := hid (fun w' (h : Ox w.heap.size W6 w') => show w'.cell? ⟨r, 0, none⟩ = some (.slice (some ad) l.length cap) ∧ w'.cell? ⟨r, 1, none⟩ = some (.int .i64 i) ∧ w'.cell? q = some (.int .i64 k) ∧ w'.cell? ⟨q.block, q.off + 1, none⟩ = some (.string T) ∧ w'.cell? ⟨q.block, q.off + 2, none⟩ = some (.int .i64 p) from
   ⟨((h.2 _ (by simp; omega)).trans (L6.out.cell (p := ⟨r, 0, none⟩) hrl)).trans c0, ((h.2 _ (by simp; omega)).trans (L6.out.cell (p := ⟨r, 1, none⟩) hrl)).trans c1, ((h.2 _ (by omega)).trans (L6.out.cell (p := q) hbq)).trans d0, ((h.2 _ (by simp; omega)).trans (L6.out.cell (p := ⟨q.block, q.off + 1, none⟩) hbq)).trans d1, ((h.2 _ (by simp; omega)).trans (L6.out.cell (p := ⟨q.block, q.off + 2, none⟩) hbq)).trans d2⟩)
  obtain ⟨k0, k1, k2, k3, k4⟩ := FQ.out _ HO.out
  obtain ⟨x0, x1, x2, xf⟩ := N6.out
  clear c0 c1 d0 d1 d2
  rw [hW6]
  go_upto_region 2 with fail
  go_region_held3 (fun w' => (w'.cell? ⟨r, 0, none⟩ = some (.slice (some ad) l.length cap) ∧ w'.cell? ⟨r, 1, none⟩ = some (.int .i64 i) ∧ w'.cell? q = some (.int .i64 k) ∧ w'.cell? ⟨q.block, q.off + 1, none⟩ = some (.string T) ∧ w'.cell? ⟨q.block, q.off + 2, none⟩ = some (.int .i64 p)) ∧ Ox w.heap.size W6 w')
   (first | assumption | (exact ⟨FQ.out _ HO.out.drew, HO.out.drew⟩) | (exact ⟨FQ.out _ HO.out, HO.out⟩) | (refine (fun hS9 : Ox w.heap.size W6 _ => ⟨FQ.out _ hS9, hS9⟩) (((HO.out.setCell _ rfl _).setCell _ rfl _).setCell _ rfl _).drew))
   (fail)
  go_wp2
  have Y := N6.out.set (.int .i64 k) (.string T) (.int .i64 p)
  exact bodyPost_ret (v := .agg #[.int .i64 k, .string T, .int .i64 p]) (by simp [results, Tryz.results167, go_sem, Y.c0, Y.c1, Y.c2]) rfl
   ⟨rfl, (((L6.out.setCell (Nat.le_refl _) _).setCell (Nat.le_refl _) _).setCell (Nat.le_refl _) _).drew⟩
 ·rw [wd_out hil]
  have e1 : decide ((i : Int) < (l.length : Int)) = false := by simp; omega
  have e2 : decide (i < l.length) = false := by simp; omega
  clear hil
  go_enter Tryz.func167, Tryz.ntmps167
  go_wp2
  go_quiet (fail)
  go_wp2
  have Y := ((NBox.fresh w (.int .i64 0) (.string ⟨#[]⟩) (.int .i64 0) 48).below (drewN_below (Below.refl _ _) nq)).set (.int .i64 0) (.string ⟨#[]⟩) (.int .i64 0)
  exact bodyPost_ret (v := .agg #[.int .i64 0, .string ⟨#[]⟩, .int .i64 0]) (by simp [results, Tryz.results167, go_sem, Y.c0, Y.c1, Y.c2]) rfl
   ⟨rfl, (((drewN_below ((Below.refl _ _).alloc (Nat.le_refl _) _) _).setCell (Nat.le_refl _) _).setCell (Nat.le_refl _) _).setCell (Nat.le_refl _) _⟩
theorem ekind_any (s : ByteArray) (w : World) :
  Calls Tryz.prog 168 #[.string s] w fun e w' => e = .returned (.int .i64 (kindL s.data.toList)) ∧ w = w' := by
 obtain ⟨ow, how⟩ : ∃ ow, ownL s.data.toList = ow := ⟨_, rfl⟩
 have HO := hid (fun w => own_any s w)
 rw [show ownB s.toList = ow by rw [← how, ByteArray.toList_eq]; rfl] at HO
 have hk : kindL s.data.toList = if ow = true then 0 else 3 := by unfold kindL; rw [how]
 rw [hk]
 clear hk how
 cases ow
 all_goals
  go_enter Tryz.func168, Tryz.ntmps168
  go_wp2_with fail
  refine (HO.out _).mono ?_
  rintro e w1 ⟨rfl, rfl⟩
  go_wp2
  go_ret
  exact ⟨rfl, rfl⟩
theorem isW_wd (hm : MarkW l) (i : Nat) (s : List UInt8) (hs : s ≠ []) : isW (bare l) i false s = ((wd l i).2.1 == s && (wd l i).1 == kindL s) := by
 by_cases hi : i < l.length
 ·rw [isW_in hm hi, wd_in hi]
 ·rw [isW_out hi, wd_out hi]
  cases s with
  | nil => exact absurd rfl hs
  | cons c s => rfl
theorem first_step {L : List V} {i : Nat} {b : Bool} : ∀ (ls : List (List UInt8)) (k : Nat) (h : k < ls.length), (∀ j (hj : j < ls.length), j < k → isW L i b ls[j] = false) → isW L i b ls[k] = true → oneL L i b ls = ls[k]
 | [], k, h, _, _ => absurd h (Nat.not_lt_zero _)
 | s :: ls, 0, h, _, hw => by
  rw [oneL, if_pos (show isW L i b s = true from hw)]
  rfl
 | s :: ls, k + 1, h, hb, hw => by
  have h0 := hb 0 (by simp) (by omega)
  rw [oneL, if_neg (by rw [show isW L i b s = false from h0]; decide)]
  exact first_step ls k (by simpa using h) (fun j hj hjk => hb (j + 1) (by simpa using hj) (by omega)) hw
theorem etake_any (hg : Good l) (i : Nat) (S : Option Addr) (sc' : Nat) (ls : List (List UInt8)) (w : World) (h : Rd w r m A cap l i) (hi : i ≤ l.length)
  (hs : At sc 1 w w.heap.size S ls) (hne : ∀ ad, S = some ad → ad.block ≠ r) (hls : ls.length ≤ 100) (hn0 : [] ∉ ls) (q : List UInt8) (hq : oneL (bare l) i false ls = q) :
  Calls Tryz.prog 161 #[.pointer (some ⟨r, 0, none⟩), .slice S ls.length sc'] w fun e w' => e = .returned (.string ⟨q.toArray⟩) ∧ But w w' r ∧ Rd w' r m A cap l (if q = [] then i else i + 1) := by
 have hlen := hg.len
 have HWD := hid (fun w0 (hr : Rd w0 r m A cap l i) => eword_any i w0 hr hi hlen)
 have HIS := hid (fun (k : Nat) (hk : k < ls.length) => isW_wd (came_mark hg.came) i ls[k] (fun e => hn0 (e ▸ List.getElem_mem hk)))
 obtain ⟨x, hx⟩ : ∃ x, wd l i = x := ⟨_, rfl⟩
 rw [hx] at HWD HIS
 obtain ⟨wk, wt, wp⟩ := x
 dsimp only at HWD HIS
 obtain ⟨T, hT⟩ : ∃ T : ByteArray, ⟨wt.toArray⟩ = T := ⟨_, rfl⟩
 obtain rfl : wt = T.data.toList := by rw [← hT]
 rw [hT] at HWD
 have HR := hid h
 have hrl := h.lt
 have HS := hid hs
 have HNE := hid hne
 have HN0 := hid hn0
 have HQ := hid hq
 clear h hs hne hn0 hq hx hT hg
 go_enter Tryz.func161, Tryz.ntmps161
 go_wp2_with fail
 refine (HWD.out _ HR.out).mono ?_
 rintro e w1 ⟨rfl, hb1⟩
 have B1 := hid ((But.of hb1 r).alloc (.cells #[.int .i64 wk, .string T, .int .i64 wp] 48))
 have R1 := hid ((HR.out.below hb1).alloc (.cells #[.int .i64 wk, .string T, .int .i64 wp] 48))
 have N1 := hid (NBox.fresh w1 (.int .i64 wk) (.string T) (.int .i64 wp) 48)
 have z1 := hb1.size
 clear hb1
 go_wp2
 go_loopw [12] (fun t wr => ∃ k : Nat, k ≤ ls.length ∧ t = .int .i64 k ∧ Hid (∀ j (hj : j < ls.length), j < k → isW (bare l) i false ls[j] = false) ∧ But w wr r ∧ Rd wr r m A cap l i ∧ NBox wr w1.heap.size (.int .i64 wk) (.string T) (.int .i64 wp)) (fun t _ => ls.length - (intOf t).toNat)
 case atStart => exact ⟨0, by omega, rfl, hid (fun j hj h => absurd h (Nat.not_lt_zero _)), B1.out, R1.out, N1.out⟩
 case round =>
  obtain ⟨k, hk, rfl, HB, hbut, hrd, hnb⟩ := hrel
  have HBU := hid hbut
  have HRD := hid hrd
  have HNB := hid hnb
  have VS := hid (at_but HS.out hbut (Nat.le_refl _) HNE.out)
  obtain ⟨x0, x1, x2, xf⟩ := hnb
  clear hbut hrd
  by_cases hkl : k < ls.length
  ·obtain ⟨ad, rfl, ha, c0⟩ := at_text VS.out k hkl
   have hisk := HIS.out k hkl
   obtain ⟨s, hsx⟩ : ∃ s, ls[k] = s := ⟨_, rfl⟩
   obtain ⟨U, hU⟩ : ∃ U : ByteArray, ⟨s.toArray⟩ = U := ⟨_, rfl⟩
   obtain rfl : s = U.data.toList := by rw [← hU]
   rw [hsx, hU] at c0
   rw [hsx] at hisk
   have HNW := hid (show isW (bare l) i false ls[k] = false → ∀ j (hj : j < ls.length), j < k + 1 → isW (bare l) i false ls[j] = false by
    intro hg j hj hjk
    by_cases e : j = k
    ·subst e; exact hg
    ·exact HB.out j hj (by omega))
   rw [hsx] at HNW
   by_cases hts : T = U
   ·subst hts
    have hk2 : isW (bare l) i false T.data.toList = (wk == kindL T.data.toList) := by rw [hisk]; simp
    have HK := hid (fun w => ekind_any T w)
    obtain ⟨kl, hkl2⟩ : ∃ kl, kindL T.data.toList = kl := ⟨_, rfl⟩
    rw [hkl2] at HK hk2
    obtain ⟨g, hg⟩ : ∃ g, (wk == kl) = g := ⟨_, rfl⟩
    rw [hg] at hk2
    have HK2 := hid hk2
    have HSX := hid hsx
    clear hk2 hkl2 hisk hU hsx
    cases g
    ·go_wp2
     go_quiet (refine Calls.quiet_of_same ((HK.out _).mono (by rintro e w' ⟨h1, h2⟩; exact ⟨h1, h2.symm⟩)))
     have hb2 : Below wr.heap.size wr (wr.drewN nq) := drewN_below (Below.refl _ _) nq
     have B3 := hid (HBU.out.next hb2)
     have R3 := hid (HRD.out.below hb2)
     have N3 := hid (HNB.out.below hb2)
     clear hb2
     go_wp2
     go_roundw
     case rel => exact ⟨k + 1, by omega, by go_num, hid (HNW.out HK2.out), B3.out, R3.out, N3.out⟩
     case measure => simp [intOf]; omega
    ·go_wp2
     go_quiet (refine Calls.quiet_of_same ((HK.out _).mono (by rintro e w' ⟨h1, h2⟩; exact ⟨h1, h2.symm⟩)))
     have hb2 : Below wr.heap.size wr (wr.drewN nq) := drewN_below (Below.refl _ _) nq
     have B3 := hid (HBU.out.next hb2)
     have R3 := hid (HRD.out.below hb2)
     have c1 := R3.out.c1
     have fr := R3.out.fr 1
     have hx := first_step (L := bare l) (i := i) (b := false) ls k hkl HB.out (by rw [HSX.out]; exact HK2.out)
     rw [HQ.out, HSX.out] at hx
     have hq0 : q ≠ [] := by
      intro e
      rw [e] at hx
      exact HN0.out (hx ▸ HSX.out ▸ List.getElem_mem hkl)
     have HQT := hid (show (⟨q.toArray⟩ : ByteArray) = T by rw [hx, Lib.mk_data])
     clear hb2 hx
     go_wp2
     go_ret
     refine ⟨retS HQT.out.symm, B3.out.setCell 1 _, ?_⟩
     have := R3.out.at (i + 1)
     rw [Int.natCast_add] at this
     first | exact this | (rw [if_neg hq0]; exact this)
   ·have f2 := toList_ne hts
    have hk2 : isW (bare l) i false U.data.toList = false := by
     rw [hisk]
     have : ¬ T.data.toList = U.data.toList := fun e => hts (by rw [← Lib.mk_data T, e, Lib.mk_data])
     rw [show (T.data.toList == U.data.toList) = false from beq_eq_false_iff_ne.2 this]
     rfl
    have HK2 := hid hk2
    clear hk2 hisk hU hsx
    go_wp2
    refine wp_region_quiet_lit (by kernel_rfl) (by kernel_rfl) ?_
    repeat (with_reducible refine wpQuiet_step ?_; intro K hK; go_simp; with_reducible refine hK _ ?_; clear hK K)
    refine wpQuiet_nil ?_
    intro _ hw'
    obtain ⟨nq, hw''⟩ := hw'
    subst hw''
    have hb2 : Below wr.heap.size wr (wr.drewN nq) := drewN_below (Below.refl _ _) nq
    have B3 := hid (HBU.out.next hb2)
    have R3 := hid (HRD.out.below hb2)
    have N3 := hid (HNB.out.below hb2)
    clear hb2
    go_wp2
    go_roundw
    case rel => exact ⟨k + 1, by omega, by go_num, hid (HNW.out HK2.out), B3.out, R3.out, N3.out⟩
    case measure => simp [intOf]; omega
  ·have hx : oneL (bare l) i false ls = [] := oneL_none fun s hs => by
    obtain ⟨j, hj, rfl⟩ := List.mem_iff_getElem.1 hs
    exact HB.out j hj (by omega)
   rw [HQ.out] at hx
   subst hx
   go_wp2
   go_ret
   exact ⟨rfl, HBU.out, HRD.out⟩
end
end Go.Proofs.YtjbpkpfmgbhlpaaGreatDoor.Code
