/-
  The program's reader of queries in plain words reads what the document says: items, pairs, Aggs, a by, what each word begins.
-/
import Derived.Test.YtjbpkpfmgbhlpaaGreatDoorMr4
import Derived.Test.YtjbpkpfmgbhlpaaGreatDoorMr2
import Derived.Test.YtjbpkpfmgbhlpaaGreatDoorMr3
set_option maxRecDepth 100000
set_option maxHeartbeats 16000000
open Go.Lib (hid)
namespace Go.Proofs.YtjbpkpfmgbhlpaaGreatDoor.Code
open Val
set_option linter.unusedVariables false
section
variable {L : List V} {i j : Nat} {b : Bool}
theorem ift {α : Type} (a b : α) : (if true = true then a else b) = a := rfl
theorem iff' {α : Type} (a b : α) : (if false = true then a else b) = b := rfl
theorem ifft {α : Type} (a b : α) : (if false = false then a else b) = a := rfl
theorem iftf {α : Type} (a b : α) : (if true = false then a else b) = b := rfl
theorem named_sim {o : List UInt8} {el : Nat → Res} {el' : Nat → Bool → Res} (hs : ∀ j, Sim (el' j false) (el j)) (hw : ∀ j, (el' j true).2 = (j, true)) (i : Nat) :
  Sim (.mk o (nmQ L i false).1 [(el' (mustQ L (nmQ L i false).2.1 (nmQ L i false).2.2 [61]).1 (mustQ L (nmQ L i false).2.1 (nmQ L i false).2.2 [61]).2).1],
   (el' (mustQ L (nmQ L i false).2.1 (nmQ L i false).2.2 [61]).1 (mustQ L (nmQ L i false).2.1 (nmQ L i false).2.2 [61]).2).2) (namedP L o el i) := by
 unfold namedP
 cases c : nmOk L i with
 | false =>
  rw [if_pos rfl, nm_no c, must_wrong]
  refine ⟨hw i, fun e => ?_⟩
  rw [show ∀ x : Nod, (x, (el' i true).2).2 = (el' i true).2 from fun _ => rfl, hw] at e
  cases e
 | true =>
  rw [if_neg (by decide), nm_yes c]
  cases c1 : isW L (i + 1) false [61] with
  | false =>
   rw [if_pos rfl, must_no c1]
   refine ⟨hw (i + 1), fun e => ?_⟩
   rw [show ∀ x : Nod, (x, (el' (i + 1) true).2).2 = (el' (i + 1) true).2 from fun _ => rfl, hw] at e
   cases e
  | true =>
   rw [if_neg (by decide), must_yes c1]
   obtain ⟨h1, h2⟩ := hs (i + 2)
   exact ⟨h1, fun e => by rw [h2 e]⟩
theorem expr_wrong (j : Nat) : (exprQ L j true).2 = (j, true) := by
 by_cases h : j ≤ L.length
 ·exact (expr_ends (b := true) h).2.2 rfl
 ·have hg : ∀ (f : Nat) (md : Mode) (j : Nat), (P L f md j true).2 = (j, true) := by
   intro f
   induction f with
   | zero => intro md j; cases md <;> rfl
   | succ f ih =>
    intro md j
    have hk : ∀ k, isK L j true k = false := fun k => by
     cases h : isK L j true k with
     | false => rfl
     | true => exact absurd (isK_lt h).2 (by decide)
    have ho : ∀ l, oneL L j true l = [] := fun l => by
     induction l with
     | nil => rfl
     | cons s l ih => rw [oneL, isW_wrong, if_neg (by decide)]; exact ih
    cases md with
    | expr lv =>
     rw [P]
     split
     ·exact ih _ _
     split
     ·rw [isW_wrong, if_neg (by decide)]
      exact ih _ _
     split
     ·rw [ih]; exact ih _ _
     ·rw [ih]; exact ih _ _
    | loop lv t => rw [P, ho, if_pos rfl]
    | test t =>
     rw [P, ho, isW_wrong]
     rfl
    | sign =>
     rw [P, isW_wrong, if_neg (by decide), isW_wrong, if_neg (by decide), ho, if_pos rfl, hk, hk, hk]
     rfl
  exact hg _ _ _
theorem item_sim (i : Nat) : Sim (itemQ L i false) (itemP L i) :=
 named_sim (o := sItem) (el := exprP L) (el' := fun j b => ((exprQ L j b).1.n, (exprQ L j b).2)) (fun j => Sim.refl _) (fun j => expr_wrong j) i
theorem pair_sim (i : Nat) : Sim (pairQ L i false) (onP L i) :=
 named_sim (o := sOn) (el := nameP L sCol) (el' := fun j b => (.mk sCol (nmQ L j b).1 [], (nmQ L j b).2)) (fun j => by
  unfold nameP
  cases c : nmOk L j with
  | false => rw [nm_no c]; exact Sim.bad
  | true => rw [nm_yes c]; exact Sim.refl _) (fun j => by rw [nm_wrong]) i
theorem kind_of : ∀ l : List (List UInt8), (∀ s ∈ l, s ≠ []) → kindQ L i false l = if (isK L i false 0 && l.contains (txt L i)) = true then txt L i else []
 | [], _ => by simp [kindQ]
 | s :: l, h => by
  rw [kindQ, kind_of l (fun s hs => h s (List.mem_cons_of_mem _ hs))]
  cases hk : isK L i false 0 with
  | false => simp
  | true =>
   by_cases e : txt L i = s
   ·rw [e]
    simp
   ·rw [if_neg (by simp [e])]
    have : (s :: l).contains (txt L i) = l.contains (txt L i) := by simp [e]
    rw [this]
theorem kind_wrong : ∀ l : List (List UInt8), kindQ L i true l = []
 | [] => rfl
 | s :: l => by
  rw [kindQ]
  have hk : isK L i true 0 = false := by
   cases h : isK L i true 0 with
   | false => rfl
   | true => exact absurd (isK_lt h).2 (by decide)
  rw [hk]
  exact kind_wrong l
theorem agg2_sim (s : List UInt8) (i : Nat) : Sim (agg2Q L s i false) (.mk sAgg s [(aggC L i).1], (aggC L i).2) := by
 unfold agg2Q aggC
 rw [kind_of aggOps (by decide)]
 cases c : (isK L i false 0 && aggOps.contains (txt L i)) with
 | false =>
  rw [iff', if_pos rfl, iff']
  exact Sim.bad
 | true =>
  rw [ift, ift]
  have hne : txt L i ≠ [] := by
   intro e
   rw [e] at c
   revert c
   cases isK L i false 0 <;> decide
  rw [if_neg hne]
  obtain ⟨o, ho⟩ : ∃ o, txt L i = o := ⟨_, rfl⟩
  rw [ho]
  unfold callQ callP
  cases c1 : isW L (i + 1) false [40] with
  | false =>
   rw [ifft, must_no c1]
   have ha : argQ L o (i + 1) true = ([], i + 1, true) := by
    unfold argQ
    split
    ·rfl
    ·exact nm_wrong
   rw [ha, must_wrong]
   exact Sim.bad
  | true =>
   rw [iftf, must_yes c1]
   by_cases hc : o = sCount
   ·rw [if_pos hc]
    have ha : argQ L o (i + 1 + 1) false = ([], i + 2, false) := by unfold argQ; rw [if_pos hc]
    rw [ha]
    unfold noneP
    dsimp only
    rw [iff']
    cases c2 : isW L (i + 2) false [41] with
    | true => rw [ift, must_yes c2, ho]; exact Sim.refl _
    | false => rw [iff', must_no c2]; exact Sim.bad
   ·rw [if_neg hc]
    have ha : argQ L o (i + 1 + 1) false = nmQ L (i + 2) false := by unfold argQ; rw [if_neg hc]
    rw [ha]
    unfold nameP
    cases c3 : nmOk L (i + 2) with
    | false =>
     rw [nm_no c3, must_wrong, iff']
     dsimp only
     rw [ift]
     exact Sim.bad
    | true =>
     rw [nm_yes c3, ift]
     dsimp only [Nod.tx, Nod.ks]
     rw [iff']
     cases c2 : isW L (i + 2 + 1) false [41] with
     | true => rw [ift, must_yes c2, ho]; exact Sim.refl _
     | false => rw [iff', must_no c2]; exact Sim.bad
theorem agg_sim (i : Nat) : Sim (aggQ L i false) (aggP L i) := by
 unfold aggQ aggP namedP
 cases c : nmOk L i with
 | false =>
  rw [if_pos rfl, nm_no c, must_wrong]
  unfold agg2Q
  rw [kind_wrong, if_pos rfl]
  exact Sim.bad
 | true =>
  rw [if_neg (by decide), nm_yes c]
  cases c1 : isW L (i + 1) false [61] with
  | false =>
   rw [if_pos rfl, must_no c1]
   unfold agg2Q
   rw [kind_wrong, if_pos rfl]
   exact Sim.bad
  | true =>
   rw [if_neg (by decide), must_yes c1]
   exact agg2_sim _ _
theorem kind_noW {p : Nat} {s : List UInt8} (hk : isK L p false 0 = true) (hs : ownL s = false) : isW L p false s = false := by
 unfold isK at hk
 unfold isW
 cases hx : L[p]? with
 | none => rfl
 | some w =>
  rw [hx] at hk
  have e : w.1 = 0 := by simpa using hk
  simp [e, hs]
theorem names_sim : ∀ (f j : Nat), nmOk L j = true → j ≤ L.length → L.length - j < f →
  (namesQ L f j false = ((namesP L f j).1, (namesP L f j).2, false)) ∨ ((namesQ L f j false).2 = ((namesP L f j).2, true) ∧ isW L (namesP L f j).2 false [44] = false)
 | 0, _, _, _, h => absurd h (Nat.not_lt_zero _)
 | f + 1, j, hn, hj, hf => by
  rw [namesQ, nm_yes hn, namesP, if_pos hn]
  have hjl : j < L.length := (isK_lt (Bool.and_eq_true _ _ ▸ hn).1).1
  dsimp only
  cases hk : isK L (j + 1) false 0 with
  | false =>
   rw [if_neg (by decide)]
   have hno : nmOk L (j + 1) = false := by unfold nmOk; rw [hk]; rfl
   obtain ⟨f', rfl⟩ : ∃ f', f = f' + 1 := ⟨f - 1, by omega⟩
   rw [namesP, if_neg (by rw [hno]; decide)]
   exact .inl rfl
  | true =>
   rw [if_pos rfl]
   have hjl2 := (isK_lt hk).1
   cases hn2 : nmOk L (j + 1) with
   | true =>
    rcases names_sim f (j + 1) hn2 (by omega) (by omega) with h | ⟨h, h'⟩
    ·left; rw [h]
    ·right; exact ⟨h, h'⟩
   | false =>
    right
    obtain ⟨f', rfl⟩ : ∃ f', f = f' + 1 := ⟨f - 1, by omega⟩
    have h1 : namesQ L (f' + 1) (j + 1) false = ([.mk sCol [] []], j + 1, true) := by
     rw [namesQ, nm_no hn2]
     have hkk : isK L (j + 1) true 0 = false := by
      cases h : isK L (j + 1) true 0 with
      | false => rfl
      | true => exact absurd (isK_lt h).2 (by decide)
     dsimp only
     rw [hkk, if_neg (by decide)]
    have h2 : namesP L (f' + 1) (j + 1) = ([], j + 1) := by rw [namesP, if_neg (by rw [hn2]; decide)]
    rw [h1, h2]
    exact ⟨rfl, kind_noW hk (by decide)⟩
theorem has_same (i : Nat) : hasQ L i false = hasP L i := by
 unfold hasQ hasP wordQ
 cases hk : isK L i false 0 with
 | false => rfl
 | true =>
  cases ht : txt L i == sBy with
  | false => rfl
  | true =>
   have h : isW L (i + 1) false [61] = (L[i + 1]? == some (3, [61])) := by
    unfold isW
    cases hx : L[i + 1]? with
    | none => rfl
    | some w =>
     obtain ⟨k, t⟩ := w
     have ho : ownL [61] = false := by decide
     rw [ho]
     rw [Bool.eq_iff_iff]
     simp
     constructor
     ·rintro ⟨h1, h2⟩; exact ⟨h2, h1⟩
     ·rintro ⟨h1, h2⟩; exact ⟨h2, h1⟩
   rw [h]
   simp
theorem by_sim (i : Nat) : Sim (byQ L i false) (byP L i) := by
 unfold byQ byP
 rw [has_same]
 cases hh : hasP L i with
 | false =>
  rw [if_neg (by decide), if_pos rfl]
  exact Sim.refl _
 | true =>
  rw [if_pos rfl, if_neg (by decide)]
  have hil : i < L.length := (isK_lt (Bool.and_eq_true _ _ ▸ hh).1).1
  cases hn : nmOk L (i + 1) with
  | false =>
   rw [if_pos rfl]
   have h1 : (namesQ L (L.length + 1) (i + 1) false).2 = (i + 1, true) := by
    rw [namesQ, nm_no hn]
    have hkk : isK L (i + 1) true 0 = false := by
     cases h : isK L (i + 1) true 0 with
     | false => rfl
     | true => exact absurd (isK_lt h).2 (by decide)
    dsimp only
    rw [hkk, if_neg (by decide)]
   rw [h1, must_wrong]
   exact Sim.bad
  | true =>
   rw [if_neg (by decide)]
   rcases names_sim (L.length + 1) (i + 1) hn (by omega) (by omega) with h | ⟨h, h'⟩
   ·rw [h]
    dsimp only
    cases c : isW L (namesP L (L.length + 1) (i + 1)).2 false [44] with
    | true => rw [must_yes c, if_pos rfl]; exact Sim.refl _
    | false => rw [must_no c, if_neg (by decide)]; exact Sim.bad
   ·rw [h, must_wrong, h', if_neg (by decide)]
    exact Sim.bad
end
def many : Nat := 9223372036854775807
def filterP (L : List V) (q : Nat → Res) (i : Nat) : Ress := lsP L 2 2 (fun k j => if k < 1 then q j else exprP L j) (L.length + 8) 0 i
def projectP (L : List V) (q : Nat → Res) (i : Nat) : Ress := lsP L 2 many (fun k j => if k < 1 then q j else itemP L j) (L.length + 8) 0 i
def joinP (L : List V) (q : Nat → Res) (i : Nat) : Ress := lsP L 3 many (fun k j => if k < 2 then q j else onP L j) (L.length + 8) 0 i
def unionP (L : List V) (q : Nat → Res) (i : Nat) : Ress := lsP L 2 many (fun k j => q j) (L.length + 8) 0 i
def distinctP (L : List V) (q : Nat → Res) (i : Nat) : Ress := lsP L 1 1 (fun k j => q j) (L.length + 8) 0 i
def firstG (L : List V) (j : Nat) : Res := if (byP L j).2.2 = true then (zeroN, (byP L j).2.1, true) else aggP L (byP L j).2.1
def groupsP (L : List V) (q : Nat → Res) (i : Nat) : Ress := lsP L 2 many (fun k j => if k < 1 then q j else if k = 1 then firstG L j else aggP L j) (L.length + 8) 0 i
def groupP (L : List V) (q : Nat → Res) (i : Nat) : Ress := ((groupsP L q i).1.take 1 ++ (byP L ((q i).2.1 + 1)).1 :: (groupsP L q i).1.drop 1, (groupsP L q i).2)
def bodyG (L : List V) (q : Nat → Res) (o : List UInt8) (i : Nat) : Ress :=
 if o = sFilter then filterP L q i else if o = sProject then projectP L q i else if o = sJoin then joinP L q i else if o = sUnion then unionP L q i else if o = sDistinct then distinctP L q i else groupP L q i
section
variable {L : List V} {q : Nat → Bool → Res} {i : Nat}
theorem tail_wrong (hq : ∀ j c, j ≤ L.length → Ends L.length j c (q j c).2) (o : List UInt8) {j : Nat} (h : j ≤ L.length) : (tailQ L q o j true).2 = (j, true) := (tail_ends hq h).2.2 rfl
theorem body_of {o : List UInt8} {el : Nat → Nat → Res} {least most : Nat} (hq : ∀ j c, j ≤ L.length → Ends L.length j c (q j c).2) (h0 : 0 < least) (hel : ∀ j, el 0 j = q j false) (hi : i ≤ L.length)
  (ht : ∀ j, j ≤ L.length → Sim (tailQ L q o j false) (shutP L (lsP L least most el (L.length + 7) 1 j))) :
  Sim ((q i false).1 :: (tailQ L q o (q i false).2.1 (q i false).2.2).1, (tailQ L q o (q i false).2.1 (q i false).2.2).2) (shutP L (lsP L least most el (L.length + 8) 0 i)) := by
 have hE := hq i false hi
 rw [ls_first (L.length + 7) h0, hel]
 generalize q i false = E at hE ⊢
 obtain ⟨n, j, b⟩ := E
 have hj := hE.2.1
 dsimp only at hj ⊢
 cases b with
 | true =>
  have hw := tail_wrong hq o hj
  rw [if_pos rfl]
  unfold shutP
  rw [if_pos rfl]
  refine ⟨hw, fun e => ?_⟩
  rw [show ∀ x : List Nod, (x, (tailQ L q o j true).2).2 = (tailQ L q o j true).2 from fun _ => rfl, hw] at e
  cases e
 | false =>
  rw [if_neg (by simp)]
  obtain ⟨h1, h2⟩ := ht j hj
  unfold shutP at h1 h2 ⊢
  dsimp only
  split
  ·rename_i hb
   rw [if_pos hb] at h1 h2
   exact ⟨h1, fun e => by rw [h2 e]⟩
  ·rename_i hb
   rw [if_neg hb] at h1 h2
   exact ⟨h1, fun e => by rw [h2 e]⟩
theorem loop_fuel {el' : Nat → Bool → Res} (he : ∀ j c, j ≤ L.length → Ends L.length j c (el' j c).2) (first : Bool) {j : Nat} (hj : j ≤ L.length) (f : Nat) (hf : L.length - j < f) (b : Bool) : loopQ L el' (L.length + 1) first j b = loopQ L el' f first j b :=
 loop_steps he 0 (fun _ _ _ _ => rfl) _ _ _ _ _ (Nat.zero_le _) hj (by omega) hf
theorem filter_sim (hq : ∀ j c, j ≤ L.length → Ends L.length j c (q j c).2) (hi : i ≤ L.length) :
  Sim ((q i false).1 :: (tailQ L q sFilter (q i false).2.1 (q i false).2.2).1, (tailQ L q sFilter (q i false).2.1 (q i false).2.2).2) (shutP L (filterP L (fun j => q j false) i)) := by
 refine body_of hq (by decide) (fun j => rfl) hi fun j hj => ?_
 rw [show tailQ L q sFilter j false = ([(exprQ L (mustQ L j false [44]).1 (mustQ L j false [44]).2).1.n], mustQ L (exprQ L (mustQ L j false [44]).1 (mustQ L j false [44]).2).2.1 (exprQ L (mustQ L j false [44]).1 (mustQ L j false [44]).2).2.2 [41]) by unfold tailQ; rw [if_pos rfl]]
 rw [ls_must (L.length + 6) (by decide) (by decide)]
 cases c : isW L j false [44] with
 | false =>
  rw [must_no c, expr_wrong, must_wrong, ifft]
  exact Sim.bad
 | true =>
  rw [must_yes c, iftf]
  dsimp only
  rw [show ∀ j, (if 1 < 1 then q j false else exprP L j) = exprP L j from fun _ => rfl]
  have hE := expr_ends (L := L) (i := j + 1) (b := false) (isW_lt c)
  unfold exprP
  generalize exprQ L (j + 1) false = E at hE ⊢
  obtain ⟨t, k, b⟩ := E
  dsimp only
  cases b with
  | true =>
   rw [must_wrong, ift]
   exact Sim.bad
  | false =>
   rw [iff', ls_end _ (by decide) (by decide)]
   exact Sim.refl _
theorem distinct_sim (hq : ∀ j c, j ≤ L.length → Ends L.length j c (q j c).2) (hi : i ≤ L.length) :
  Sim ((q i false).1 :: (tailQ L q sDistinct (q i false).2.1 (q i false).2.2).1, (tailQ L q sDistinct (q i false).2.1 (q i false).2.2).2) (shutP L (distinctP L (fun j => q j false) i)) := by
 refine body_of hq (by decide) (fun j => rfl) hi fun j hj => ?_
 rw [show tailQ L q sDistinct j false = ([], mustQ L j false [41]) by unfold tailQ; rw [if_neg (by decide), if_pos rfl]]
 rw [ls_end _ (by decide) (by decide)]
 exact Sim.refl _
theorem project_sim (hq : ∀ j c, j ≤ L.length → Ends L.length j c (q j c).2) (hi : i ≤ L.length) (hL : L.length ≤ 4194304) :
  Sim ((q i false).1 :: (tailQ L q sProject (q i false).2.1 (q i false).2.2).1, (tailQ L q sProject (q i false).2.1 (q i false).2.2).2) (shutP L (projectP L (fun j => q j false) i)) := by
 refine body_of hq (by decide) (fun j => rfl) hi fun j hj => ?_
 rw [show tailQ L q sProject j false = loopQ L (itemQ L) (L.length + 1) true j false by unfold tailQ; rw [if_neg (by decide), if_neg (by decide), if_pos rfl], loop_fuel (fun j c hj => item_ends hj) true hj (L.length + 7) (by omega)]
 refine ls_must_loop (least := 2) (k := 1) (fun j c hj => item_ends hj) (fun k j h => ?_) (L.length + 6) (by decide) rfl (by unfold many; omega) hj (by omega)
 rw [if_neg (by omega)]
 exact item_sim j
theorem union_sim (hq : ∀ j c, j ≤ L.length → Ends L.length j c (q j c).2) (hi : i ≤ L.length) (hL : L.length ≤ 4194304) :
  Sim ((q i false).1 :: (tailQ L q sUnion (q i false).2.1 (q i false).2.2).1, (tailQ L q sUnion (q i false).2.1 (q i false).2.2).2) (shutP L (unionP L (fun j => q j false) i)) := by
 refine body_of hq (by decide) (fun j => rfl) hi fun j hj => ?_
 rw [show tailQ L q sUnion j false = loopQ L q (L.length + 1) true j false by unfold tailQ; rw [if_neg (by decide), if_neg (by decide), if_neg (by decide), if_pos rfl], loop_fuel hq true hj (L.length + 7) (by omega)]
 exact ls_must_loop (least := 2) (k := 1) hq (fun k j h => Sim.refl _) (L.length + 6) (by decide) rfl (by unfold many; omega) hj (by omega)
theorem join_sim (hq : ∀ j c, j ≤ L.length → Ends L.length j c (q j c).2) (hi : i ≤ L.length) (hL : L.length ≤ 4194304) :
  Sim ((q i false).1 :: (tailQ L q sJoin (q i false).2.1 (q i false).2.2).1, (tailQ L q sJoin (q i false).2.1 (q i false).2.2).2) (shutP L (joinP L (fun j => q j false) i)) := by
 refine body_of hq (by decide) (fun j => rfl) hi fun j hj => ?_
 rw [show tailQ L q sJoin j false = ((q (mustQ L j false [44]).1 (mustQ L j false [44]).2).1 :: (loopQ L (pairQ L) (L.length + 1) true (q (mustQ L j false [44]).1 (mustQ L j false [44]).2).2.1 (q (mustQ L j false [44]).1 (mustQ L j false [44]).2).2.2).1,
   (loopQ L (pairQ L) (L.length + 1) true (q (mustQ L j false [44]).1 (mustQ L j false [44]).2).2.1 (q (mustQ L j false [44]).1 (mustQ L j false [44]).2).2.2).2) by unfold tailQ; rw [if_neg (by decide), if_neg (by decide), if_neg (by decide), if_neg (by decide), if_pos rfl]]
 rw [ls_must (L.length + 6) (by decide) (by decide)]
 cases c : isW L j false [44] with
 | false =>
  have hw := (hq j true hj).2.2 rfl
  rw [must_no c, ifft]
  dsimp only
  generalize q j true = E at hw ⊢
  obtain ⟨n, j1, b1⟩ := E
  cases hw
  rw [loop_wrong]
  exact Sim.bad
 | true =>
  have hjl := isW_lt c
  rw [must_yes c, iftf]
  dsimp only
  rw [show ∀ j, (if 1 < 2 then q j false else onP L j) = q j false from fun _ => rfl]
  have hE := hq (j + 1) false (by omega)
  generalize q (j + 1) false = E at hE ⊢
  obtain ⟨n, k, b⟩ := E
  have hk := hE.2.1
  dsimp only at hk ⊢
  cases b with
  | true =>
   rw [loop_wrong, ift]
   exact Sim.bad
  | false =>
   rw [iff', loop_fuel (fun j c hj => pair_ends hj) true hk (L.length + 6) (by omega)]
   have h := ls_must_loop (L := L) (el := fun k j => if k < 2 then q j false else onP L j) (least := 3) (most := many) (k := 2) (i := k) (fun j c hj => pair_ends hj) (fun k j h => by rw [if_neg (by omega)]; exact pair_sim j) (L.length + 5) (by decide) rfl (by unfold many; omega) hk (by omega)
   obtain ⟨h1, h2⟩ := h
   unfold shutP at h1 h2 ⊢
   dsimp only
   split
   ·rename_i hb
    rw [if_pos hb] at h1 h2
    exact ⟨h1, fun e => by rw [h2 e]⟩
   ·rename_i hb
    rw [if_neg hb] at h1 h2
    exact ⟨h1, fun e => by rw [h2 e]⟩
end
end Go.Proofs.YtjbpkpfmgbhlpaaGreatDoor.Code
/-
  The program's maps of what a word begins: a look-up, an entry of a literal.
-/
namespace Go.Proofs.YtjbpkpfmgbhlpaaGreatDoor.Code
open Go.ChangeShapes Go.WideShapes Go.ChangeAt Go.RowKit Val Elems Go.ChangeMaps Go.MapKept
open Go.WideElems (Fit rd rg pl rd_key rd_val rg_of)
open Go.Maps (Keyed)
set_option linter.unusedVariables false
set_option linter.unusedSimpArgs false
set_option maxRecDepth 100000
theorem run_lookq (w : World) (b n : Nat) (f : ByteArray → Option Value) (h : MapR w b n f) (k : ByteArray) (hk : k.size ≤ maxLen) (u : Option Value) (hu : f k = u) : (Instr.lookup 55 (.map (some b)) (.string k) true).run Tryz.prog w = .ok (.tuple #[u.getD .nilFunc, .bool u.isSome]) w := by
 subst hu
 have hz : (zeroValue 95).run Tryz.prog w = .ok .nilFunc w := rfl
 obtain ⟨D, ⟨es, clock, hb, F, hs, rfl⟩, h2⟩ := h
 have h3 := h2 k hk
 rcases Maps.fit_look true mk_law Tryz.underlying55 hz hb F (mk_is hk) with ⟨hrun, _, hat⟩ | ⟨e0, y, _, _, hrun, hRv, hat, _⟩
 ·have hf := Maps.has_false_of_atKey hat
  rw [h3.1] at hf
  cases hfk : f k with
  | none => exact hrun
  | some s => rw [hfk] at hf; cases hf
 ·have hf := Maps.has_true_of_atKey hat
  rw [h3.1] at hf
  cases hfk : f k with
  | none => rw [hfk] at hf; cases hf
  | some s =>
   have h4 := (h3.2 s hfk (.held undef)).symm.trans (hat _)
   unfold hR at hRv
   simp only [Option.some.injEq] at hRv
   subst hRv
   injection h4 with h4
   rw [hrun, h4]
   rfl
section
variable (w : World) {ops : Array Oper} {rest : List Oper} {o : Oper} {a : Act} {Q : Exit → Act → World → Prop}
theorem wpList_insp (hg : o.guard = none) (m x v : Operand) (hop : o.op = Op.insert 55 m x v) (b n : Nat) (f : ByteArray → Option Value) (hm : a.eval m = .map (some b)) (h : MapR w b n f) (hn : n < maxLen) (k : ByteArray) (hx : a.eval x = .string k) (hk : k.size ≤ maxLen)
  (s : Value) (hv : a.eval v = s) (hK : ∀ w', MapR w' b (n + 1) (mput f k s) → w.grownBy w' (some b) → w'.heap.size = w.heap.size → wpList Tryz.prog ops Q rest (a.put o.dst undef) w') : wpList Tryz.prog ops Q (o :: rest) a w := by
 refine wpList_plain hg fun K' hK' => ?_
 obtain ⟨D, h1, h2⟩ := h
 obtain ⟨w', hrun, r1, r2⟩ := h1.store mk_law Tryz.underlying55 hn (mk_is hk) (show hR s = some (.held s, []) from rfl)
 have hsz : w'.heap.size = w.heap.size := by
  obtain ⟨es, clock, es', clock', hb, rfl⟩ := r2
  simp [setBlock]
 unfold Oper.wp
 simp [execOp, hop, hm, hx, hv, hrun, Result.andThen]
 exact hK' _ _ (hK w' ⟨_, r1, msees_put h1.isMap h2 k s⟩ r2.grown hsz)
end
end Go.Proofs.YtjbpkpfmgbhlpaaGreatDoor.Code
/-
  Contracts of the document's reader of words: what comes, and what is taken.
-/
namespace Go.Proofs.YtjbpkpfmgbhlpaaGreatDoor.Code
open Go.ChangeShapes Go.WideShapes Go.ChangeAt Go.RowKit Val Elems
set_option linter.unusedVariables false
set_option linter.unusedSimpArgs false
theorem own_list (s : ByteArray) : ownB s.toList = ownL s.data.toList := by
 rw [ByteArray.toList_eq]
 rfl
theorem isW_at {l : List W} {i : Nat} (h : i < l.length) (b : Bool) (s : List UInt8) : isW (bare l) i b s = (!b && l[i].2.1 == s && (l[i].1 == 3 || ownL s && l[i].1 == 0)) := by
 unfold isW
 rw [bare_get h]
theorem isW_off {l : List W} {i : Nat} (h : ¬ i < l.length) (b : Bool) (s : List UInt8) : isW (bare l) i b s = false := by
 unfold isW
 rw [bare_none h]
theorem isK_at {l : List W} {i : Nat} (h : i < l.length) (b : Bool) (k : Int) : isK (bare l) i b k = (!b && l[i].1 == k) := by
 unfold isK
 rw [bare_get h]
theorem isK_off {l : List W} {i : Nat} (h : ¬ i < l.length) (b : Bool) (k : Int) : isK (bare l) i b k = false := by
 unfold isK
 rw [bare_none h]
theorem isW_bad {L : List V} {i : Nat} (s : List UInt8) : isW L i true s = false := by
 unfold isW
 split <;> rfl
theorem isK_bad {L : List V} {i : Nat} (k : Int) : isK L i true k = false := by
 unfold isK
 split <;> rfl
theorem ris_any (r : Nat) (A : Option Addr) (cap : Nat) (l : List W) (i : Nat) (b : Bool) (s : ByteArray) (w : World) (h : Rdr w r A cap l i b) (hi : i ≤ l.length) (hl : l.length ≤ 4194304) :
  Calls Tryz.prog 126 #[.pointer (some ⟨r, 0, none⟩), .string s] w fun e w' => e = .returned (.bool (isW (bare l) i b s.data.toList)) ∧ Below w.heap.size w w' := by
 have HW := hid h.ws
 obtain ⟨c0, c1, c2, -, -⟩ := h
 cases b
 ·by_cases hil : i < l.length
  ·have hx := isW_at hil false s.data.toList
   obtain ⟨ad, rfl, ha, d0, d1, d2⟩ := at_word HW.out i hil
   obtain ⟨x, hxx⟩ : ∃ x, l[i] = x := ⟨_, rfl⟩
   rw [hxx] at d0 d1 d2 hx
   obtain ⟨k, t, p⟩ := x
   dsimp only at d0 d1 d2 hx
   obtain ⟨T, hT⟩ : ∃ T : ByteArray, ⟨t.toArray⟩ = T := ⟨_, rfl⟩
   have hTt : t = T.data.toList := by rw [← hT]
   rw [hT] at d1
   clear hxx hT d2
   by_cases hts : T = s
   ·subst hts
    obtain ⟨ow, how⟩ : ∃ ow, ownL T.data.toList = ow := ⟨_, rfl⟩
    have HO := hid (fun w => rown_any T w)
    rw [own_list, how] at HO
    rw [hTt, how] at hx
    have hx2 : isW (bare l) i false T.data.toList = (k == 3 || ow && k == 0) := by rw [hx]; simp
    rw [hx2]
    clear hx hx2 hTt how
    cases hk3 : k == 3
    ·cases ow
     ·go_enter Tryz.func126, Tryz.ntmps126
      go_wp2
      go_quiet (fail)
      go_wp2_with fail
      refine (HO.out _).mono ?_
      rintro e w1 ⟨rfl, rfl⟩
      go_wp2
      go_quiet (fail)
      go_wp2
      go_ret
      exact ⟨rfl, drewN_below (drewN_below (Below.refl _ _) _) _⟩
     ·go_enter Tryz.func126, Tryz.ntmps126
      go_wp2
      go_quiet (fail)
      go_wp2_with fail
      refine (HO.out _).mono ?_
      rintro e w1 ⟨rfl, rfl⟩
      go_wp2
      go_quiet (fail)
      go_wp2
      go_ret
      exact ⟨retB (by simp), drewN_below (drewN_below (Below.refl _ _) _) _⟩
    ·go_enter Tryz.func126, Tryz.ntmps126
     go_wp2
     go_quiet (fail)
     go_wp2_with fail
     refine (HO.out _).mono ?_
     rintro e w1 ⟨rfl, rfl⟩
     go_wp2
     go_quiet (fail)
     go_wp2
     go_ret
     exact ⟨rfl, drewN_below (drewN_below (Below.refl _ _) _) _⟩
   ·have f2 := toList_ne hts
    have hne : ¬ t = s.data.toList := by
     intro e
     rw [hTt] at e
     exact hts (by rw [← Lib.mk_data T, e, Lib.mk_data])
    have hx2 : isW (bare l) i false s.data.toList = false := by rw [hx]; simp [hne]
    rw [hx2]
    clear hx hx2 hTt hts hne
    go_enter Tryz.func126, Tryz.ntmps126
    go_wp2
    go_quiet (fail)
    go_wp2
    go_ret
    exact ⟨rfl, drewN_below (Below.refl _ _) _⟩
  ·rw [isW_off hil]
   have e0 : decide ((l.length : Int) ≤ (i : Int)) = true := by simp; omega
   have e1 : decide (l.length ≤ i) = true := by simp; omega
   have e2 : decide ((i : Int) < 0) = false := by simp
   clear hil
   go_enter Tryz.func126, Tryz.ntmps126
   go_wp2
   refine wp_region_quiet_lit (by kernel_rfl) (by kernel_rfl) ?_
   repeat (with_reducible refine wpQuiet_step ?_; intro K hK; go_simp; with_reducible refine hK _ ?_; clear hK K)
   refine wpQuiet_nil ?_
   intro _ hw'
   obtain ⟨nq, hw''⟩ := hw'
   subst hw''
   go_wp2
   go_ret
   exact ⟨rfl, drewN_below (Below.refl _ _) _⟩
 ·rw [isW_bad]
  go_enter Tryz.func126, Tryz.ntmps126
  go_wp2
  refine wp_region_quiet_lit (by kernel_rfl) (by kernel_rfl) ?_
  repeat (with_reducible refine wpQuiet_step ?_; intro K hK; go_simp; with_reducible refine hK _ ?_; clear hK K)
  refine wpQuiet_nil ?_
  intro _ hw'
  obtain ⟨nq, hw''⟩ := hw'
  subst hw''
  go_wp2
  go_ret
  exact ⟨rfl, drewN_below (Below.refl _ _) _⟩
theorem isW_len {l : List W} {i : Nat} {b : Bool} {s : List UInt8} (h : isW (bare l) i b s = true) : i < l.length := by
 have := isW_lt h
 rwa [bare_length] at this
theorem rtake_any (r : Nat) (A : Option Addr) (cap : Nat) (l : List W) (i : Nat) (b : Bool) (s : ByteArray) (q : Bool) (hq : isW (bare l) i b s.data.toList = q) (w : World) (h : Rdr w r A cap l i b) (hi : i ≤ l.length) (hl : l.length ≤ 4194304) :
  Calls Tryz.prog 99 #[.pointer (some ⟨r, 0, none⟩), .string s] w fun e w' => e = .returned (.bool q) ∧ But w w' r ∧ Rdr w' r A cap l (if q = true then i + 1 else i) b := by
 have HI := hid (ris_any r A cap l i b s w h hi hl)
 rw [hq] at HI
 have HR := hid h
 clear h
 cases q
 ·go_enter Tryz.func99, Tryz.ntmps99
  go_wp2_with fail
  refine HI.out.mono ?_
  rintro e w1 ⟨rfl, hb1⟩
  have R1 := hid (HR.out.below hb1)
  have B1 := hid (But.of hb1 r)
  clear hb1
  go_wp2
  go_ret
  exact ⟨rfl, B1.out, R1.out⟩
 ·have hil := isW_len hq
  clear hq
  go_enter Tryz.func99, Tryz.ntmps99
  go_wp2_with fail
  refine HI.out.mono ?_
  rintro e w1 ⟨rfl, hb1⟩
  have R1 := hid (HR.out.below hb1)
  have B1 := hid (But.of hb1 r)
  have c1 := R1.out.c1
  have fr := R1.out.fr 1
  clear hb1
  go_wp2
  go_ret
  refine ⟨rfl, B1.out.setCell 1 _, ?_⟩
  have := R1.out.at (i + 1)
  rw [Int.natCast_add] at this
  exact this
theorem rmust_any (r : Nat) (A : Option Addr) (cap : Nat) (l : List W) (i : Nat) (b : Bool) (s : ByteArray) (q : Bool) (hq : isW (bare l) i b s.data.toList = q) (w : World) (h : Rdr w r A cap l i b) (hi : i ≤ l.length) (hl : l.length ≤ 4194304) :
  Calls Tryz.prog 59 #[.pointer (some ⟨r, 0, none⟩), .string s] w fun e w' => e = .returned (.tuple #[]) ∧ But w w' r ∧ Rdr w' r A cap l (if q = true then i + 1 else i) (if q = true then b else true) := by
 have HI := hid (rtake_any r A cap l i b s q hq w h hi hl)
 clear h
 cases q
 ·go_enter Tryz.func59, Tryz.ntmps59
  go_wp2_with fail
  refine HI.out.mono ?_
  rintro e w1 ⟨rfl, hb1, hr1⟩
  have R1 := hid hr1
  have B1 := hid hb1
  have c2 := R1.out.c2
  have fr := R1.out.fr 2
  clear hb1 hr1
  go_wp2
  go_end0
  exact ⟨rfl, B1.out.setCell 2 _, R1.out.wrong⟩
 ·go_enter Tryz.func59, Tryz.ntmps59
  go_wp2_with fail
  refine HI.out.mono ?_
  rintro e w1 ⟨rfl, hb1, hr1⟩
  have R1 := hid hr1
  have B1 := hid hb1
  clear hb1 hr1
  go_wp2
  go_end0
  exact ⟨rfl, B1.out, R1.out⟩
def sc (s : List UInt8) : List Value := [.string ⟨s.toArray⟩]
theorem sc_length (s : List UInt8) : (sc s).length = 1 := rfl
theorem at_but {α : Type} {c : α → List Value} {k : Nat} {w w' : World} {r B : Nat} {A : Option Addr} {l : List α} (h : At c k w B A l) (hb : But w w' r) (hB : B ≤ w.heap.size) (hne : ∀ ad, A = some ad → ad.block ≠ r) : At c k w' B A l := by
 intro i hi
 obtain ⟨ad, e, hlt, h0⟩ := h i hi
 exact ⟨ad, e, hlt, fun j u hu => (hb.cell (q := ad.add (i * k + j)) (by rw [add_block]; omega) (by rw [add_block]; exact hne ad e)).trans (h0 j u hu)⟩
theorem at_text {w : World} {B : Nat} {A : Option Addr} {l : List (List UInt8)} (h : At sc 1 w B A l) (i : Nat) (hi : i < l.length) : ∃ ad : Addr, A = some ad ∧ ad.block < B ∧ w.cell? (ad.add i) = some (.string ⟨l[i].toArray⟩) := by
 obtain ⟨ad, e, hb, h0⟩ := h i hi
 refine ⟨ad, e, hb, ?_⟩
 have := h0 0 _ rfl
 rwa [Nat.mul_one, Nat.add_zero] at this
theorem texts_new (w : World) (l : List (List UInt8)) (t : TypeId) (o : Obj) (ho : o = .cells (l.map fun s => Value.string ⟨s.toArray⟩).toArray t) : At sc 1 (w.alloc o) (w.heap.size + 1) (some ⟨w.heap.size, 0, none⟩) l := by
 intro i hi
 refine ⟨⟨w.heap.size, 0, none⟩, rfl, by simp, fun j u hu => ?_⟩
 have hj : j = 0 := by
  have := (List.getElem?_eq_some_iff.1 hu).1
  rw [sc_length] at this
  omega
 subst hj
 cases hu
 subst ho
 rw [Nat.mul_one, Nat.add_zero]
 exact World.news_of_block (heap_alloc_new w _) i _ (by simp [hi])
theorem isK_len {l : List W} {i : Nat} {b : Bool} {k : Int} (h : isK (bare l) i b k = true) : i < l.length := by
 have := (isK_lt h).1
 rwa [bare_length] at this
theorem rkind_any (r : Nat) (A : Option Addr) (cap : Nat) (l : List W) (i : Nat) (b : Bool) (k : Int) (w : World) (h : Rdr w r A cap l i b) (hi : i ≤ l.length) (hl : l.length ≤ 4194304) :
  Calls Tryz.prog 97 #[.pointer (some ⟨r, 0, none⟩), .int .i64 k] w fun e w' => e = .returned (.bool (isK (bare l) i b k)) ∧ Below w.heap.size w w' := by
 have HW := hid h.ws
 obtain ⟨c0, c1, c2, -, -⟩ := h
 cases b
 ·by_cases hil : i < l.length
  ·have hx := isK_at hil false k
   obtain ⟨ad, rfl, ha, d0, d1, d2⟩ := at_word HW.out i hil
   obtain ⟨x, hxx⟩ : ∃ x, l[i].1 = x := ⟨_, rfl⟩
   rw [hxx] at d0 hx
   have hx2 : isK (bare l) i false k = (x == k) := by rw [hx]; simp
   rw [hx2]
   have e0 : decide ((l.length : Int) ≤ (i : Int)) = false := by simp; omega
   have e1 : decide (i < l.length) = true := by simp; omega
   have e2 : decide ((i : Int) < 0) = false := by simp
   have e3 : decide ((0 : Int) ≤ (i : Int)) = true := by simp
   have e4 : decide ((i : Int) < (l.length : Int)) = true := by simp; omega
   clear hx hx2 hxx d1 d2
   go_enter Tryz.func97, Tryz.ntmps97
   go_wp2
   go_quiet (fail)
   go_wp2
   go_ret
   exact ⟨retB (by simp), drewN_below (Below.refl _ _) _⟩
  ·rw [isK_off hil]
   have e0 : decide ((i : Int) < (l.length : Int)) = false := by simp; omega
   have e1 : decide (i < l.length) = false := by simp; omega
   have e3 : decide ((0 : Int) ≤ (i : Int)) = true := by simp
   clear hil
   go_enter Tryz.func97, Tryz.ntmps97
   go_wp2
   refine wp_region_quiet_lit (by kernel_rfl) (by kernel_rfl) ?_
   repeat (with_reducible refine wpQuiet_step ?_; intro K hK; go_simp; with_reducible refine hK _ ?_; clear hK K)
   refine wpQuiet_nil ?_
   intro _ hw'
   obtain ⟨nq, hw''⟩ := hw'
   subst hw''
   go_wp2
   go_ret
   exact ⟨rfl, drewN_below (Below.refl _ _) _⟩
 ·rw [isK_bad]
  go_enter Tryz.func97, Tryz.ntmps97
  go_wp2
  refine wp_region_quiet_lit (by kernel_rfl) (by kernel_rfl) ?_
  repeat (with_reducible refine wpQuiet_step ?_; intro K hK; go_simp; with_reducible refine hK _ ?_; clear hK K)
  refine wpQuiet_nil ?_
  intro _ hw'
  obtain ⟨nq, hw''⟩ := hw'
  subst hw''
  go_wp2
  go_ret
  exact ⟨rfl, drewN_below (Below.refl _ _) _⟩
theorem txt_at {l : List W} {i : Nat} (h : i < l.length) : txt (bare l) i = l[i].2.1 := by
 unfold txt
 rw [bare_get h]
theorem rname_any (r : Nat) (A : Option Addr) (cap : Nat) (l : List W) (i : Nat) (b : Bool) (w : World) (h : Rdr w r A cap l i b) (hi : i ≤ l.length) (hl : l.length ≤ 4194304) (q : Bool) (hq : (isK (bare l) i b 0 && !ownL (txt (bare l) i)) = q) :
  Calls Tryz.prog 58 #[.pointer (some ⟨r, 0, none⟩)] w fun e w' => e = .returned (.string ⟨(if q = true then txt (bare l) i else []).toArray⟩) ∧ But w w' r ∧ Rdr w' r A cap l (if q = true then i + 1 else i) (if q = true then b else true) := by
 have HK := hid (rkind_any r A cap l i b 0 w h hi hl)
 have HR := hid h
 clear h
 obtain ⟨kk, hkk⟩ : ∃ kk, isK (bare l) i b 0 = kk := ⟨_, rfl⟩
 rw [hkk] at HK hq
 cases kk
 ·obtain rfl : q = false := by rw [← hq]; rfl
  clear hq hkk
  go_enter Tryz.func58, Tryz.ntmps58
  go_wp2_with fail
  refine HK.out.mono ?_
  rintro e w1 ⟨rfl, hb1⟩
  have R1 := hid (HR.out.below hb1)
  have B1 := hid (But.of hb1 r)
  have c2 := R1.out.c2
  have fr := R1.out.fr 2
  clear hb1
  go_wp2
  go_ret
  exact ⟨rfl, B1.out.setCell 2 _, R1.out.wrong⟩
 ·have hil := isK_len hkk
  obtain rfl : b = false := (isK_lt hkk).2
  rw [txt_at hil] at hq ⊢
  have HWS := hid HR.out.ws
  obtain ⟨ad, rfl, ha, d0, d1, d2⟩ := at_word HWS.out i hil
  obtain ⟨t, htt⟩ : ∃ t, l[i].2.1 = t := ⟨_, rfl⟩
  rw [htt] at d1 hq ⊢
  obtain ⟨T, hT⟩ : ∃ T : ByteArray, ⟨t.toArray⟩ = T := ⟨_, rfl⟩
  have hTt : t = T.data.toList := by rw [← hT]
  rw [hT] at d1
  rw [hTt] at hq
  have HO := hid (fun w => (rown_any T w).mono (R' := fun e w' => e = .returned (.bool (!q)) ∧ w' = w) (by
   rintro e w' ⟨h1, h2⟩
   refine ⟨?_, h2.symm⟩
   rw [h1, own_list, ← hq]
   simp))
  have hlr := HR.out.lt
  have HD := hid (fun (w' : World) (hb : Below w.heap.size w w') => show w'.cell? ⟨(ad.add (i * 3)).block, (ad.add (i * 3)).off + 1, none⟩ = some (.string T) from (hb.cell (p := ⟨(ad.add (i * 3)).block, (ad.add (i * 3)).off + 1, none⟩) (by show (ad.add (i * 3)).block < _; rw [add_block]; omega)).trans d1)
  clear hkk htt d0 d1 d2 hq
  go_enter Tryz.func58, Tryz.ntmps58
  go_wp2_with fail
  refine HK.out.mono ?_
  rintro e w1 ⟨rfl, hb1⟩
  have R1 := hid (HR.out.below hb1)
  have B1 := hid (But.of hb1 r)
  have c0 := R1.out.c0
  have c1 := R1.out.c1
  have c2 := R1.out.c2
  have f1 := R1.out.fr 1
  have f2 := R1.out.fr 2
  have d1 := HD.out _ hb1
  have e0 : decide ((i : Int) < (l.length : Int)) = true := by simp; omega
  clear hb1
  go_wp2
  go_quiet (refine Calls.quiet_of_same (HO.out _))
  have hb2 : Below w1.heap.size w1 (w1.drewN nq) := drewN_below (Below.refl _ _) nq
  have R2 := hid (R1.out.below hb2)
  have B2 := hid (B1.out.next hb2)
  clear hb2
  cases q
  ·go_wp2
   go_ret
   exact ⟨rfl, B2.out.setCell 2 _, R2.out.wrong⟩
  ·have R3 := hid (R2.out.at (i + 1))
   rw [Int.natCast_add] at R3
   have B3 := hid (B2.out.setCell 1 (.int .i64 ((i : Int) + ((1 : Nat) : Int))))
   have d3 : ((w1.drewN nq).setCell ⟨r, 1, none⟩ (.int .i64 ((i : Int) + ((1 : Nat) : Int)))).cell? ⟨(ad.add (i * 3)).block, (ad.add (i * 3)).off + 1, none⟩ = some (.string T) := by
    rw [World.cell?_setCell_other _ _ _ _ (by
     intro e
     have : r = (ad.add (i * 3)).block := congrArg Addr.block e
     rw [add_block] at this
     omega)]
    exact d1
   clear c0 c1 c2 f1 f2
   have c1 := R1.out.c1
   have f1 := R1.out.fr 1
   go_wp2
   generalize hw2 : (w1.drewN nq).setCell ⟨r, 1, none⟩ (.int .i64 ((i : Int) + ((1 : Nat) : Int))) = w2 at R3 B3 d3
   clear hw2 c1 f1 d1
   have c0 := R3.out.c0
   have c1 : w2.cell? ⟨r, 1, none⟩ = some (.int .i64 ((i : Int) + 1)) := R3.out.c1
   have f4 : IntKind.i64.wrap ((i : Int) + 1 - 1) = (i : Int) := by rw [IntKind.wrap_i64]; omega
   have f5 : (i : Int) + 1 - 1 = (i : Int) := by omega
   have e1 : (i : Int) < (l.length : Int) := by omega
   go_quiet (fail)
   go_wp2
   go_ret
   exact ⟨retS (by first | exact hT.symm | rfl), B3.out.next (drewN_below (Below.refl _ _) _), R3.out.below (drewN_below (Below.refl _ _) _)⟩
def Strs (w w' : World) (e : Ending) (l : List (List UInt8)) : Prop := ∃ (A : Option Addr) (cap : Nat), e = .returned (.slice A l.length cap) ∧ At sc 1 w' w'.heap.size A l ∧ (∀ ad, A = some ad → w.heap.size ≤ ad.block) ∧ Below w.heap.size w w'
theorem strs_new (w : World) (l : List (List UInt8)) (t : TypeId) (cs : Array Value) (hc : cs = (l.map fun s => Value.string ⟨s.toArray⟩).toArray) : Strs w (w.alloc (.cells cs t)) (.returned (.slice (some ⟨w.heap.size, 0, none⟩) l.length l.length)) l := by
 refine ⟨_, _, rfl, ?_, ?_, (Below.refl _ _).alloc (Nat.le_refl _) _⟩
 ·subst hc
  have := texts_new w l t _ rfl
  rw [show ∀ o, (w.alloc o).heap.size = w.heap.size + 1 from fun o => by simp]
  exact this
 ·intro ad e
  cases e
  exact Nat.le_refl _
theorem strs_nil (w : World) : Strs w w (.returned (.slice none 0 0)) [] := ⟨none, 0, rfl, At.nil _ _ _, fun ad e => (by cases e), Below.refl _ _⟩
theorem rops_any (lv : Nat) (hl : lv ≤ 7) (w : World) :
  Calls Tryz.prog 130 #[.int .i64 lv] w fun e w' => Strs w w' e (opsL lv) := by
 have hc : lv = 0 ∨ lv = 1 ∨ lv = 2 ∨ lv = 3 ∨ lv = 4 ∨ lv = 5 ∨ lv = 6 ∨ lv = 7 := by omega
 rcases hc with rfl | rfl | rfl | rfl | rfl | rfl | rfl | rfl
 all_goals
  go_enter Tryz.func130, Tryz.ntmps130
  go_wp2
  go_ret
  first | exact strs_nil w | exact strs_new w (opsL 1) _ _ rfl | exact strs_new w (opsL 2) _ _ rfl | exact strs_new w (opsL 4) _ _ rfl | exact strs_new w (opsL 5) _ _ rfl | exact strs_new w (opsL 6) _ _ rfl
theorem oneL_step {L : List V} {i : Nat} {b : Bool} : ∀ (ls : List (List UInt8)) (k : Nat) (h : k < ls.length), (∀ j (hj : j < ls.length), j < k → isW L i b ls[j] = false) → isW L i b ls[k] = true → oneL L i b ls = ls[k]
 | [], k, h, _, _ => absurd h (Nat.not_lt_zero _)
 | s :: ls, 0, h, _, hw => by
  rw [oneL, if_pos (show isW L i b s = true from hw)]
  rfl
 | s :: ls, k + 1, h, hb, hw => by
  have h0 := hb 0 (by simp) (by omega)
  rw [oneL, if_neg (by rw [show isW L i b s = false from h0]; decide)]
  exact oneL_step ls k (by simpa using h) (fun j hj hjk => hb (j + 1) (by simpa using hj) (by omega)) hw
theorem rone_any (r : Nat) (A : Option Addr) (cap : Nat) (l : List W) (i : Nat) (b : Bool) (S : Option Addr) (sc' : Nat) (ls : List (List UInt8)) (w : World) (h : Rdr w r A cap l i b) (hi : i ≤ l.length) (hl : l.length ≤ 4194304)
  (hs : At sc 1 w w.heap.size S ls) (hne : ∀ ad, S = some ad → ad.block ≠ r) (hls : ls.length ≤ 100) (hn0 : [] ∉ ls) (q : List UInt8) (hq : oneL (bare l) i b ls = q) :
  Calls Tryz.prog 129 #[.pointer (some ⟨r, 0, none⟩), .slice S ls.length sc'] w fun e w' => e = .returned (.string ⟨q.toArray⟩) ∧ But w w' r ∧ Rdr w' r A cap l (if q = [] then i else i + 1) b := by
 have HR := hid h
 have HS := hid hs
 have HNE := hid hne
 have HN0 := hid hn0
 have HQ := hid hq
 clear h hs hne hn0 hq
 go_enter Tryz.func129, Tryz.ntmps129
 go_wp2
 go_loopw [5] (fun t wr => ∃ k : Nat, k ≤ ls.length ∧ t = .int .i64 k ∧ Hid (∀ j (hj : j < ls.length), j < k → isW (bare l) i b ls[j] = false) ∧ But w wr r ∧ Rdr wr r A cap l i b) (fun t _ => ls.length - (intOf t).toNat)
 case atStart => exact ⟨0, by omega, rfl, hid (fun j hj h => absurd h (Nat.not_lt_zero _)), But.refl _ _, HR.out⟩
 case round =>
  obtain ⟨k, hk, rfl, HB, hbut, hrd⟩ := hrel
  have HBU := hid hbut
  have HRD := hid hrd
  have VS := hid (at_but HS.out hbut (Nat.le_refl _) HNE.out)
  clear hbut hrd
  by_cases hkl : k < ls.length
  ·obtain ⟨ad, rfl, ha, c0⟩ := at_text VS.out k hkl
   obtain ⟨s, hsx⟩ : ∃ s, ls[k] = s := ⟨_, rfl⟩
   obtain ⟨T, hT⟩ : ∃ T : ByteArray, ⟨s.toArray⟩ = T := ⟨_, rfl⟩
   have hTs : T.data.toList = s := by rw [← hT]
   rw [hsx, hT] at c0
   obtain ⟨g, hg⟩ : ∃ g, isW (bare l) i b s = g := ⟨_, rfl⟩
   have HTK := hid (rtake_any r A cap l i b T g (by rw [hTs]; exact hg) wr HRD.out hi hl)
   have HNB := hid (HNE.out ad rfl)
   cases g
   ·have HB2 := hid (show ∀ j (hj : j < ls.length), j < k + 1 → isW (bare l) i b ls[j] = false by
     intro j hj hjk
     by_cases e : j = k
     ·subst e; rw [hsx]; exact hg
     ·exact HB.out j hj (by omega))
    clear hg hsx hT hTs
    go_wp2_with fail
    refine HTK.out.mono ?_
    rintro e w1 ⟨rfl, hb1, hr1⟩
    have B1 := hid (HBU.out.trans hb1)
    have R1 := hid hr1
    clear hb1 hr1 c0 HTK
    go_wp2
    go_roundw
    case rel => exact ⟨k + 1, by omega, by go_num, HB2, B1.out, R1.out⟩
    case measure => simp [intOf]; omega
   ·have hx := oneL_step ls k hkl HB.out (by rw [hsx]; exact hg)
    rw [HQ.out, hsx] at hx
    subst hx
    have hq0 : q ≠ [] := by
     intro e
     subst e
     exact HN0.out (hsx ▸ List.getElem_mem hkl)
    have HC := hid (fun (w' : World) (hb : But wr w' r) => show w'.cell? (ad.add k) = some (.string T) from (hb.cell (q := ad.add k) (by rw [add_block]; exact Nat.lt_of_lt_of_le ha HBU.out.size) (by rw [add_block]; exact HNB.out)).trans c0)
    have HT := hid hT
    clear hg hsx hT hTs
    go_wp2_with fail
    refine HTK.out.mono ?_
    rintro e w1 ⟨rfl, hb1, hr1⟩
    have B1 := hid (HBU.out.trans hb1)
    have R1 := hid hr1
    have c1 := HC.out _ hb1
    clear hb1 hr1 c0 HTK
    go_wp2
    go_ret
    refine ⟨retS HT.out.symm, B1.out, ?_⟩
    first | exact R1.out | (rw [if_neg hq0]; exact R1.out)
  ·have hx : oneL (bare l) i b ls = [] := oneL_none fun s hs => by
    obtain ⟨j, hj, rfl⟩ := List.mem_iff_getElem.1 hs
    exact HB.out j hj (by omega)
   rw [HQ.out] at hx
   subst hx
   go_wp2
   go_ret
   exact ⟨rfl, HBU.out, HRD.out⟩
def FigS (s : List UInt8) : Prop := ∀ c ∈ s, figB c = true
def numI (s : List UInt8) (i : Nat) (n : Int) : Prop := numF s 0 = numF (s.drop i) n
theorem numI_start (s : List UInt8) : numI s 0 0 := rfl
theorem numI_big {s : List UInt8} {i : Nat} {n : Int} (h : numI s i n) (hi : i < s.length) (hb : (9223372036854775807 - ((s[i].toNat : Int) - 48)) / 10 < n) : numF s 0 = none := by
 unfold numI at h
 rw [h, List.drop_eq_getElem_cons hi, numF, if_pos hb]
theorem numI_step {s : List UInt8} {i : Nat} {n : Int} (h : numI s i n) (hi : i < s.length) (hb : ¬ (9223372036854775807 - ((s[i].toNat : Int) - 48)) / 10 < n) : numI s (i + 1) (10 * n + ((s[i].toNat : Int) - 48)) := by
 unfold numI at *
 rw [h, List.drop_eq_getElem_cons hi, numF, if_neg hb]
theorem numI_end {s : List UInt8} {i : Nat} {n : Int} (h : numI s i n) (hi : s.length ≤ i) : numF s 0 = some n := by
 unfold numI at h
 rw [h, List.drop_eq_nil_of_le hi, numF]
def numOk (s : List UInt8) : Bool := (numL s).isSome
def numTx (s : List UInt8) : List UInt8 := (numL s).getD []
def numOp (s : List UInt8) : List UInt8 := if (numL s).isSome = true then sNum else []
theorem num_no {s : List UInt8} (h : numF s 0 = none) : numOk s = false ∧ numTx s = [] ∧ numOp s = [] := by
 unfold numOk numTx numOp numL
 rw [h]
 exact ⟨rfl, rfl, rfl⟩
theorem num_yes {s : List UInt8} {n : Int} (h : numF s 0 = some n) : numOk s = true ∧ numTx s = Lib.itoa n ∧ numOp s = sNum := by
 unfold numOk numTx numOp numL
 rw [h]
 exact ⟨rfl, rfl, rfl⟩
theorem rnumber_any (s : ByteArray) (hf : FigS s.data.toList) (hs : s.size ≤ 4194304) (w : World) :
  Calls Tryz.prog 146 #[.string s] w fun e w' => e = .returned (.tuple #[.agg #[.string ⟨(numOp s.data.toList).toArray⟩, .string ⟨(numTx s.data.toList).toArray⟩, .slice none 0 0], .bool (numOk s.data.toList)]) ∧ Below w.heap.size w w' := by
 have HF := hid hf
 clear hf
 go_enter Tryz.func146, Tryz.ntmps146
 go_wp2
 go_loop [4, 5] (fun v t => ∃ (i : Nat) (n : Int), i ≤ s.size ∧ t = .int .i64 i ∧ v = .int .i64 n ∧ 0 ≤ n ∧ n ≤ 9223372036854775807 ∧ Hid (numI s.data.toList i n)) (fun _ t => s.size - (intOf t).toNat)
 case atStart => exact ⟨0, 0, by omega, rfl, rfl, by omega, by omega, hid (numI_start _)⟩
 case round =>
  obtain ⟨i, n, hi, rfl, rfl, hn0, hn1, HI⟩ := hrel
  by_cases hil : i < s.size
  ·obtain ⟨c, hc⟩ : ∃ c, s[i] = c := ⟨_, rfl⟩
   have hg := (list_get s i hil hil).trans hc
   have hfig := HF.out s.data.toList[i] (List.getElem_mem hil)
   rw [hg] at hfig
   have hc48 : 48 ≤ c.toNat ∧ c.toNat ≤ 57 := by
    unfold figB at hfig
    simpa using hfig
   obtain ⟨d, hd⟩ : ∃ d : Int, (c.toNat : Int) - 48 = d := ⟨_, rfl⟩
   have hd0 : 0 ≤ d ∧ d ≤ 9 := by omega
   obtain ⟨Q, hQ⟩ : ∃ Q : Int, (9223372036854775807 - d) / 10 = Q := ⟨_, rfl⟩
   have hQ2 : (9223372036854775807 - d).tdiv 10 = Q := by rw [Int.tdiv_eq_ediv_of_nonneg (by omega)]; exact hQ
   have hw : IntKind.u8.wrap ((c.toNat : Int) - 48) = d := by
    rw [hd]
    show d % 256 = d
    omega
   by_cases hbig : Q < n
   ·have HD := hid (num_no (numI_big HI.out hil (by rw [hg, hd, hQ]; exact hbig)))
    clear hg hfig hd
    go_wp2
    exact bodyPost_ret (v := .tuple #[.agg #[.string ⟨#[]⟩, .string ⟨#[]⟩, .slice none 0 0], .bool false]) (by simp [results, Tryz.results146, go_sem, World.cell?_setCell_other]) rfl ⟨by rw [HD.out.1, HD.out.2.1, HD.out.2.2], below_alloc w _⟩
   ·have HD := hid (numI_step HI.out hil (by rw [hg, hd, hQ]; exact hbig))
    rw [hg, hd] at HD
    clear hg hfig hd
    go_wp2
    go_round
    case rel => exact ⟨i + 1, 10 * n + d, by omega, by go_num, rfl, by omega, by omega, HD⟩
    case measure => simp [intOf]; omega
  ·have hx := numI_end HI.out (by rw [← size_list]; omega)
   have HD := hid (num_yes hx)
   have HFG := hid (figures_any n (by unfold fits; omega))
   go_wp2_with fail
   refine (HFG.out _).mono ?_
   rintro e w1 ⟨rfl, hb1⟩
   have L1 := hid (bnext (below_alloc w (.cells #[.string ⟨#[]⟩, .string ⟨#[]⟩, .slice none 0 0] 25)) (by simp) hb1)
   have hz := hb1.size
   have x0 := (bcell hb1).1 w.heap.size 0 (by simp)
   have x1 := (bcell hb1).1 w.heap.size 1 (by simp)
   have x2 := (bcell hb1).1 w.heap.size 2 (by simp)
   have xf := (bcell hb1).2
   have xz : w.heap.size < w1.heap.size := by simp at hz; omega
   have y0 : w1.cell? ⟨w.heap.size, 0, none⟩ = some (.string ⟨#[]⟩) := by rw [x0]; simp [go_sem]
   have y1 : w1.cell? ⟨w.heap.size, 1, none⟩ = some (.string ⟨#[]⟩) := by rw [x1]; simp [go_sem]
   have y2 : w1.cell? ⟨w.heap.size, 2, none⟩ = some (.slice none 0 0) := by rw [x2]; simp [go_sem]
   have yf : ∀ j, w1.frozen? ⟨w.heap.size, j, none⟩ = false := fun j => by rw [xf _ _ (by simp)]; simp [go_sem]
   clear hb1 x0 x1 x2 xf hz hx
   go_wp2
   exact bodyPost_ret (v := .tuple #[.agg #[.string ⟨sNum.toArray⟩, .string ⟨(Lib.itoa n).toArray⟩, .slice none 0 0], .bool true]) (by simp [results, Tryz.results146, go_sem, World.cell?_setCell_other, y0, y1, y2, sNum]) rfl ⟨by rw [HD.out.1, HD.out.2.1, HD.out.2.2], ((L1.out.setCell (by simp) _).setCell (by simp) _).setCell (by simp) _⟩
end Go.Proofs.YtjbpkpfmgbhlpaaGreatDoor.Code
