/-
  Columns of tables in plain words: a column is its number, its name, its kind; whether columns are a schema, what is found, what is changed. No program is named here.
-/
import Derived.Test.YtajnnkclonjcoaaDoorM2
import Derived.Test.YtajnnkclonjcoaaDoorM1
import Derived.Test.YtajnnkclonjcoaaDoorChecked
import Derived.WalkKit
import Derived.ProofKit
import Derived.Lib.Hide
import Derived.Below
import Derived.OwnWalk
import Derived.Deep.RegionHeld3
import Derived.WalkLawsBesides
import Derived.LoopTactic
import Derived.Laws.OwnMore
import Derived.Laws.AppendOwnNone
import Derived.Deep.AppendLies
import Derived.Deep.Draws
import Derived.Deep.QuietTactic
import Derived.BigQuiet
import Derived.Maps.AppendAt
import Derived.Lib.OthersKept
namespace Go.Proofs.YtajnnkclonjcoaaDoor.Code
open Val
set_option linter.unusedVariables false
def ownN (s : List UInt8) : Bool := s == [116, 114, 117, 101] || (s == [102, 97, 108, 115, 101] || (s == [110, 117, 108, 108] || (s == [97, 110, 100] || (s == [111, 114] || (s == [110, 111, 116] || s == [105, 115])))))
/-- may a text be a name? -/
def nameC (s : List UInt8) : Bool := match wordsL s 0 with | .ok [w] => w.1 == 0 && (w.2.1 == s && !ownN s) | _ => false
/-- may a column be, by itself? -/
def colC (c : W) : Bool := nameC c.2.1 && (columnB c.2.2 && decide (1 ≤ c.1))
/-- is a column apart from some: neither number nor name is there? -/
def apartC (c : W) (l : List W) : Bool := l.all fun x => x.1 != c.1 && x.2.1 != c.2.1
/-- columns behind others: each may be, and is apart from those ahead -/
def schL : List W → List W → Bool
  | _, [] => true
  | a, c :: l => colC c && (apartC c a && schL (a ++ [c]) l)
def schC (l : List W) : Bool := schL [] l && (decide (1 ≤ l.length) && decide (l.length ≤ 12))
/-- the first place of a name -/
def findC (l : List W) (s : List UInt8) : Option Nat := l.findIdx? fun c => c.2.1 == s
def findZ (l : List W) (s : List UInt8) : Int := match findC l s with | some i => (i : Int) | none => -1
def kindsC (l : List W) : List Int := l.map fun c => c.2.2
def alikeC : List W → List W → Bool
  | [], [] => true
  | a :: l, b :: m => (a.2.1 == b.2.1 && a.2.2 == b.2.2) && alikeC l m
  | _, _ => false
def addC (l : List W) (c : W) : List W × Int :=
  if (colC c && l.all fun x => x.1 != c.1) = false then ([], 1) else if (findC l c.2.1).isSome = true then ([], 122) else if 12 ≤ l.length then ([], 62) else (l ++ [c], 0)
def dropC (l : List W) (s : List UInt8) : List W × Int := match findC l s with
  | none => ([], 121)
  | some k => if l.length = 1 then ([], 191) else (l.eraseIdx k, 0)
def renameC (l : List W) (s to : List UInt8) : List W × Int := match findC l s with
  | none => ([], 121)
  | some k => if nameC to = false then ([], 1) else if (findC l to).isSome = true then ([], 122) else (l.modify k fun c => (c.1, to, c.2.2), 0)
def widenC (l : List W) (s : List UInt8) (k : Int) : List W × Int := match findC l s with
  | none => ([], 121)
  | some i => if columnB k = false then ([], 1) else if widerB k (l.getD i (0, [], 0)).2.2 = false then ([], 12) else (l.modify i fun c => (c.1, c.2.1, k), 0)
theorem find_some {l : List W} {s : List UInt8} {i : Nat} (h : findC l s = some i) : ∃ hi : i < l.length, l[i].2.1 = s ∧ ∀ j (hj : j < i), (l[j]'(by omega)).2.1 ≠ s := by
  obtain ⟨hi, h1, h2⟩ := List.findIdx?_eq_some_iff_getElem.1 h
  exact ⟨hi, by simpa using h1, fun j hj => by simpa using h2 j hj⟩
theorem find_none {l : List W} {s : List UInt8} (h : findC l s = none) : ∀ c ∈ l, c.2.1 ≠ s := by
  have := List.findIdx?_eq_none_iff.1 h
  intro c hc
  simpa using this c hc
theorem find_at {l : List W} {s : List UInt8} {i : Nat} (hi : i < l.length) (h1 : l[i].2.1 = s) (h2 : ∀ j (hj : j < i), (l[j]'(by omega)).2.1 ≠ s) : findC l s = some i :=
  List.findIdx?_eq_some_iff_getElem.2 ⟨hi, by simpa using h1, fun j hj => by simpa using h2 j hj⟩
theorem find_no {l : List W} {s : List UInt8} (h : ∀ c ∈ l, c.2.1 ≠ s) : findC l s = none :=
  List.findIdx?_eq_none_iff.2 fun c hc => by simpa using h c hc
/-- columns behind others, one after the other -/
theorem schL_app (m : List W) : ∀ (l a : List W), schL a (l ++ m) = (schL a l && schL (a ++ l) m)
  | [], a => by rw [List.nil_append, schL, List.append_nil, Bool.true_and]
  | c :: l, a => by
    rw [List.cons_append, schL, schL, schL_app m l, List.append_assoc]
    simp [Bool.and_assoc]
theorem schL_one (a : List W) (c : W) : schL a [c] = (colC c && apartC c a) := by rw [schL, schL, Bool.and_true]
theorem schL_take (l : List W) (i : Nat) (hi : i < l.length) : schL [] (l.take (i + 1)) = (schL [] (l.take i) && (colC l[i] && apartC l[i] (l.take i))) := by
  rw [List.take_succ_eq_append_getElem hi, schL_app, schL_one, List.nil_append]
theorem schL_false {l : List W} (i : Nat) (h : schL [] (l.take i) = false) : schL [] l = false := by
  have := schL_app (l.drop i) (l.take i) []
  rw [List.take_append_drop, h, Bool.false_and] at this
  exact this
end Go.Proofs.YtajnnkclonjcoaaDoor.Code
/-
  What the program's package of columns wants in plain words: a word that is a whole text stands at its beginning; why a column is refused; columns one by one. No program is named here.
-/
namespace Go.Proofs.YtajnnkclonjcoaaDoor.Code
open Val
set_option linter.unusedVariables false
/-- a name that comes first: it is no longer than what is there, and than 20 bytes -/
theorem words_name (s : List UInt8) : ∀ (i : Int) (t : List UInt8) (p : Int) (l : List W), wordsL s i = .ok ((0, t, p) :: l) → i ≤ p ∧ p - i + t.length ≤ s.length ∧ t.length ≤ 20 := by
  refine words_way (Q := fun s => ∀ (i : Int) (t : List UInt8) (p : Int) (l : List W), wordsL s i = .ok ((0, t, p) :: l) → i ≤ p ∧ p - i + t.length ≤ s.length ∧ t.length ≤ 20) ?_ ?_ ?_ ?_ s
  · intro i t p l h; cases h
  · intro c s hb ih i t p l h
    rw [wordsL_blank hb] at h
    have := ih _ t p l h
    simp only [List.length_cons]
    omega
  · intro c s hb hf i t p l h
    rw [wordsL_none hb hf] at h
    cases h
  · intro c s k t n hf ih i t' p l h
    rw [wordsL_one hf] at h
    cases hw : wordsL ((c :: s).drop n) (i + n) with
    | error j => rw [hw] at h; cases h
    | ok l' =>
      rw [hw] at h
      simp only [Except.ok.injEq, List.cons.injEq, Prod.mk.injEq] at h
      obtain ⟨⟨rfl, rfl, rfl⟩, -⟩ := h
      rcases first_cases hf with ⟨_, _, -, -, -, rfl, rfl, h20⟩ | ⟨_, _, -, -, -, h0, -⟩ | ⟨_, -, h0, -⟩ | ⟨_, _, _, -, -, -, -, -, h0, -⟩ | ⟨_, _, -, -, -, -, -, -, h0, -⟩
      · have hle := runL_le nameB (c :: s)
        rw [List.length_take]
        omega
      all_goals exact absurd h0 (by decide)
theorem name_whole {s : List UInt8} {p : Int} (h : wordsL s 0 = .ok [(0, s, p)]) : p = 0 ∧ s.length ≤ 20 := by
  have := words_name s 0 s p [] h
  omega
theorem name_short {s : List UInt8} (h : 20 < s.length) : nameC s = false := by
  unfold nameC
  cases hw : wordsL s 0 with
  | error j => rfl
  | ok l =>
    rcases l with _ | ⟨a, _ | ⟨b, l⟩⟩
    · rfl
    · obtain ⟨k, t, p⟩ := a
      by_cases hk : k = 0
      · by_cases ht : t = s
        · subst hk ht
          have := name_whole hw
          omega
        · simp [ht]
      · simp [hk]
    · rfl
theorem name_own {s : List UInt8} (h : ownN s = true) : nameC s = false := by
  unfold nameC
  cases hw : wordsL s 0 with
  | error j => rfl
  | ok l =>
    rcases l with _ | ⟨a, _ | ⟨b, l⟩⟩
    · rfl
    · simp [h]
    · rfl
/-- a name that is none of the language's own: it is its text's one word, from the beginning on -/
theorem name_words {s : List UInt8} (h : ownN s = false) : nameC s = (match wordsL s 0 with | .ok [w] => w.1 == 0 && (w.2.1 == s && w.2.2 == 0) | _ => false) := by
  unfold nameC
  cases hw : wordsL s 0 with
  | error j => rfl
  | ok l =>
    rcases l with _ | ⟨a, _ | ⟨b, l⟩⟩
    · rfl
    · obtain ⟨k, t, p⟩ := a
      by_cases hk : k = 0
      · by_cases ht : t = s
        · subst hk ht
          have := (name_whole hw).1
          subst this
          simp [h]
        · have e : (t == s) = false := by simpa using ht
          show (k == 0 && (t == s && !ownN s)) = (k == 0 && (t == s && p == 0))
          rw [e]
          rfl
      · have e : (k == 0) = false := by simpa using hk
        show (k == 0 && (t == s && !ownN s)) = (k == 0 && (t == s && p == 0))
        rw [e]
        rfl
    · rfl
/-- why a column may not stand behind others, or 0 -/
def refC (l : List W) (c : W) : Int :=
  if (nameC c.2.1 && (columnB c.2.2 && (decide (1 ≤ c.1) && l.all fun x => x.1 != c.1))) = false then 1 else if (findC l c.2.1).isSome = true then 122 else if 12 ≤ l.length then 62 else 0
theorem addC_ref (l : List W) (c : W) : addC l c = if refC l c = 0 then (l ++ [c], 0) else ([], refC l c) := by
  unfold addC refC colC
  simp only [Bool.and_assoc]
  repeat' split
  all_goals first | rfl | omega | skip
theorem find_isSome (l : List W) (s : List UInt8) : (findC l s).isSome = l.any fun c => c.2.1 == s := by
  unfold findC
  rw [List.findIdx?_isSome]
theorem ref_zero (l : List W) (c : W) : refC l c = 0 ↔ (colC c && apartC c l) = true ∧ l.length < 12 := by
  have h1 : (l.any fun x => x.2.1 == c.2.1) = false ↔ ∀ x ∈ l, x.2.1 ≠ c.2.1 := by rw [List.any_eq_false]; simp
  have h2 : (l.all fun x => x.1 != c.1) = true ↔ ∀ x ∈ l, x.1 ≠ c.1 := by rw [List.all_eq_true]; simp
  have h3 : apartC c l = true ↔ ∀ x ∈ l, x.1 ≠ c.1 ∧ x.2.1 ≠ c.2.1 := by unfold apartC; rw [List.all_eq_true]; simp
  unfold refC
  rw [find_isSome]
  constructor
  · intro h
    split at h
    · exact absurd h (by decide)
    rename_i g1
    split at h
    · exact absurd h (by decide)
    rename_i g2
    split at h
    · exact absurd h (by decide)
    rename_i g3
    simp only [Bool.not_eq_false, Bool.and_eq_true, h2, decide_eq_true_eq] at g1
    have g2 := h1.1 (by rw [Bool.not_eq_true] at g2; exact g2)
    refine ⟨?_, by omega⟩
    unfold colC
    simp only [Bool.and_eq_true, h3, decide_eq_true_eq]
    exact ⟨⟨g1.1, g1.2.1, g1.2.2.1⟩, fun x hx => ⟨g1.2.2.2 x hx, g2 x hx⟩⟩
  · rintro ⟨h, h12⟩
    unfold colC at h
    simp only [Bool.and_eq_true, h3, decide_eq_true_eq] at h
    obtain ⟨⟨ha, hb, hc⟩, hd⟩ := h
    rw [if_neg, if_neg, if_neg (by omega)]
    · rw [Bool.not_eq_true]
      exact h1.2 fun x hx => (hd x hx).2
    · simp only [Bool.not_eq_false, Bool.and_eq_true, h2, decide_eq_true_eq]
      exact ⟨ha, hb, hc, fun x hx => (hd x hx).1⟩
/-- columns up to a place stand behind one another -/
def stoodC (l : List W) (i : Nat) : Prop := ∀ j (hj : j < l.length), j < i → refC (l.take j) l[j] = 0
theorem stood_sch (l : List W) : ∀ i, i ≤ l.length → stoodC l i → schL [] (l.take i) = true ∧ i ≤ 12
  | 0, _, _ => ⟨by rw [List.take_zero]; rfl, Nat.zero_le _⟩
  | i + 1, hi, h => by
    obtain ⟨h1, h2⟩ := stood_sch l i (by omega) (fun j hj hji => h j hj (by omega))
    have h3 := (ref_zero _ _).1 (h i (by omega) (by omega))
    rw [schL_take l i (by omega), h1, h3.1]
    rw [List.length_take] at h3
    exact ⟨rfl, by omega⟩
theorem sch_stood (l : List W) (h : stoodC l l.length) : schC l = decide (0 < l.length) := by
  obtain ⟨h1, h2⟩ := stood_sch l l.length (Nat.le_refl _) h
  rw [List.take_length] at h1
  unfold schC
  rw [h1]
  simp [h2]
  omega
theorem sch_fell {l : List W} {i : Nat} (hi : i < l.length) (h : refC (l.take i) l[i] ≠ 0) : schC l = false := by
  unfold schC
  by_cases h12 : l.length ≤ 12
  · have h1 : schL [] (l.take (i + 1)) = false := by
      rw [schL_take l i hi]
      cases hc : (colC l[i] && apartC l[i] (l.take i))
      · simp
      · exact absurd ((ref_zero _ _).2 ⟨hc, by rw [List.length_take]; omega⟩) h
    rw [schL_false _ h1]
    rfl
  · simp [h12]
/-- the first place that is as asked, as it is told -/
def firstI (p : W → Bool) (l : List W) : Int := match l.findIdx? p with | some i => (i : Int) | none => 0
def firstB (p : W → Bool) (l : List W) : Bool := (l.findIdx? p).isSome
theorem first_at {p : W → Bool} {l : List W} {i : Nat} (hi : i < l.length) (h1 : p l[i] = true) (h2 : ∀ j (hj : j < l.length), j < i → p l[j] = false) : firstI p l = i ∧ firstB p l = true := by
  have h : l.findIdx? p = some i := List.findIdx?_eq_some_iff_getElem.2 ⟨hi, h1, fun j hj => by rw [h2 j (by omega) hj]; simp⟩
  unfold firstI firstB
  rw [h]
  exact ⟨rfl, rfl⟩
theorem first_no {p : W → Bool} {l : List W} (h2 : ∀ j (hj : j < l.length), p l[j] = false) : firstI p l = 0 ∧ firstB p l = false := by
  have h : l.findIdx? p = none := List.findIdx?_eq_none_iff.2 fun x hx => by obtain ⟨j, hj, rfl⟩ := List.getElem_of_mem hx; exact h2 j hj
  unfold firstI firstB
  rw [h]
  exact ⟨rfl, rfl⟩
theorem findZ_first (l : List W) (s : List UInt8) : max (findZ l s) 0 = firstI (fun c => c.2.1 == s) l ∧ decide (0 ≤ findZ l s) = firstB (fun c => c.2.1 == s) l := by
  unfold findZ firstI firstB findC
  cases l.findIdx? fun c => c.2.1 == s with
  | none => exact ⟨rfl, rfl⟩
  | some k => exact ⟨by dsimp only; omega, by simp⟩
theorem known_first (l : List W) (n : Int) : (!firstB (fun x => x.1 == n) l) = l.all fun x => x.1 != n := by
  unfold firstB
  rw [List.findIdx?_isSome, List.not_any_eq_all_not]
  rfl
end Go.Proofs.YtajnnkclonjcoaaDoor.Code
/-
  What walks need of every seat; no function of the program is named (cut out of CodeVal).
-/
namespace Go.Proofs.YtajnnkclonjcoaaDoor.Val
open Go.ChangeShapes Go.WideShapes Go.ChangeAt Go.RowKit
set_option linter.unusedVariables false

theorem ret1 {k : IntKind} {a c : Int} (h : a = c) : Ending.returned (.int k a) = .returned (.int k c) := by rw [h]
theorem retB {a c : Bool} (h : a = c) : Ending.returned (.bool a) = .returned (.bool c) := by rw [h]
theorem ret2 {k l : IntKind} {a b c d : Int} (h : a = c) (g : b = d) : Ending.returned (.tuple #[.int k a, .int l b]) = .returned (.tuple #[.int k c, .int l d]) := by rw [h, g]
theorem below_alloc (W : World) (o : Obj) : Below W.heap.size W (W.alloc o) := (Below.refl _ _).alloc (Nat.le_refl _) o
theorem bnext {B : Nat} {w W W' : World} (h : Below B w W) (hB : B ≤ W.heap.size) (hb : Below W.heap.size W W') : Below B w W' := h.trans (hb.mono hB)
theorem bcell {W w1 : World} (hb : Below W.heap.size W w1) : (∀ b o, b < W.heap.size → w1.cell? ⟨b, o, none⟩ = W.cell? ⟨b, o, none⟩) ∧ (∀ b o, b < W.heap.size → w1.frozen? ⟨b, o, none⟩ = W.frozen? ⟨b, o, none⟩) :=
  ⟨fun b o h => hb.cell (p := ⟨b, o, none⟩) h, fun b o h => hb.frozen (p := ⟨b, o, none⟩) h⟩

theorem right_empty (k n : Int) : rightB k n ⟨#[]⟩ = if k = 4 then decide (n = 0) else if k = 0 then decide (n = 0) else holdsB k n := by
  unfold rightB
  rw [show (⟨#[]⟩ : ByteArray).size = 0 from rfl]
  simp
/-- what was there when a region began is there behind each call that makes memory of its own alone -/
theorem keepK {C : Prop} {W w1 w2 : World} (hb : Below w1.heap.size w1 w2) (h : C ∧ Below W.heap.size W w1) {C' : Prop}
    (hC : (∀ b o, b < W.heap.size → w2.cell? ⟨b, o, none⟩ = W.cell? ⟨b, o, none⟩) → C') : C' ∧ Below W.heap.size W w2 := by
  have hB := h.2.trans (hb.mono h.2.size)
  exact ⟨hC fun b o hl => hB.cell (p := ⟨b, o, none⟩) hl, hB⟩
theorem keepA {C : Prop} {W w1 : World} (o : Obj) (h : C ∧ Below W.heap.size W w1) {C' : Prop}
    (hC : (∀ b o', b < W.heap.size → (w1.alloc o).cell? ⟨b, o', none⟩ = W.cell? ⟨b, o', none⟩) → C') : C' ∧ Below W.heap.size W (w1.alloc o) :=
  keepK ((Below.refl _ _).alloc (Nat.le_refl _) o) h hC
theorem keepD {C : Prop} {W w1 : World} {o : Obj} (h : C ∧ Below W.heap.size W w1.drew) {C' : Prop}
    (hC : (∀ b i, b < W.heap.size → (w1.alloc o).drew.cell? ⟨b, i, none⟩ = W.cell? ⟨b, i, none⟩) → C') : C' ∧ Below W.heap.size W (w1.alloc o).drew := by
  have h1 : Below W.heap.size W w1 := ⟨h.2.os, h.2.tape, h.2.output, h.2.size, h.2.block⟩
  have hB : Below W.heap.size W (w1.alloc o).drew := Below.drew (h1.alloc h1.size o)
  exact ⟨hC fun b i hl => hB.cell (p := ⟨b, i, none⟩) hl, hB⟩

/-- a value's three cells at the beginning of a block -/
def Box (W : World) (b : Nat) (k n : Int) (s : ByteArray) : Prop := W.cell? ⟨b, 0, none⟩ = some (.int .i64 k) ∧ W.cell? ⟨b, 1, none⟩ = some (.int .i64 n) ∧ W.cell? ⟨b, 2, none⟩ = some (.string s) ∧ b < W.heap.size
theorem Box.call {W W' : World} {b : Nat} {k n : Int} {s : ByteArray} (h : Box W b k n s) (hb : Below W.heap.size W W') : Box W' b k n s := by
  obtain ⟨h0, h1, h2, h3⟩ := h
  exact ⟨by rw [hb.cell (p := ⟨b, 0, none⟩) h3]; exact h0, by rw [hb.cell (p := ⟨b, 1, none⟩) h3]; exact h1, by rw [hb.cell (p := ⟨b, 2, none⟩) h3]; exact h2, Nat.lt_of_lt_of_le h3 hb.size⟩
theorem Box.alloc {W : World} {b : Nat} {k n : Int} {s : ByteArray} (h : Box W b k n s) (o : Obj) : Box (W.alloc o) b k n s := h.call (below_alloc W o)
theorem Box.fresh (W : World) (k n : Int) (s : ByteArray) (t : TypeId) : Box (W.alloc (.cells #[.int .i64 k, .int .i64 n, .string s] t)) W.heap.size k n s := ⟨by simp [go_sem], by simp [go_sem], by simp [go_sem], by simp⟩

end Go.Proofs.YtajnnkclonjcoaaDoor.Val
/-
  Lists of values in memory: what a list is there, appended to, cut; no function of the program is named.
-/
namespace Go.Proofs.YtajnnkclonjcoaaDoor.Code
open Go.ChangeShapes Go.WideShapes Go.ChangeAt Go.RowKit Val
set_option linter.unusedVariables false

/-- a piece of a text -/
theorem cut_at (s : ByteArray) (i j : Int) (a b : Nat) (hi : i = a) (hj : j = b) (h : a ≤ b) (g : b ≤ s.size) (w : World) :
    (Instr.slice 9 (.string s) (some (.int .i64 i)) (some (.int .i64 j)) none).run Tryd.prog w = .ok (.string (s.extract a b)) w := by
  rw [run_slice_string w 9 s .i64 .i64 i j Tryd.underlying9 (by omega) (by omega) (by omega), show i.toNat = a by omega, show j.toNat = b by omega]

theorem cut_from (s : ByteArray) (i : Int) (a : Nat) (hi : i = a) (g : a ≤ s.size) (w : World) :
    (Instr.slice 9 (.string s) (some (.int .i64 i)) none none).run Tryd.prog w = .ok (.string (s.extract a s.size)) w := by
  rw [run_slice_string_from_if w 9 s .i64 i Tryd.underlying9, if_pos (by omega), show i.toNat = a by omega]
theorem cut_to (s : ByteArray) (i : Int) (a : Nat) (hi : i = a) (g : a ≤ s.size) (w : World) :
    (Instr.slice 9 (.string s) none (some (.int .i64 i)) none).run Tryd.prog w = .ok (.string (s.extract 0 a)) w := by
  rw [run_slice_string_to_if w 9 s .i64 i Tryd.underlying9, if_pos (by omega), show i.toNat = a by omega]
theorem from_list (s : ByteArray) (a : Nat) : (s.extract a s.size).data.toList = s.data.toList.drop a := by
  have hl : s.data.toList.length = s.size := rfl
  rw [ByteArray.data_extract, Array.toList_extract, List.extract_eq_take_drop]
  exact List.take_of_length_le (by rw [List.length_drop]; omega)
theorem to_list (s : ByteArray) (a : Nat) : (s.extract 0 a).data.toList = s.data.toList.take a := by
  rw [ByteArray.data_extract, Array.toList_extract, List.extract_eq_take_drop]
  simp
theorem size_list (s : ByteArray) : s.size = s.data.toList.length := rfl

theorem add_block (a : Addr) (n : Nat) : (a.add n).block = a.block := by unfold Addr.add; split <;> rfl
theorem add_next (a : Addr) (n j : Nat) : a.add (n + (j + 1)) = ⟨(a.add n).block, (a.add n).off + (j + 1), none⟩ := by
  unfold Addr.add
  rw [if_neg (by omega)]
  by_cases h : n = 0
  · rw [if_pos h, h, Nat.zero_add]
  · rw [if_neg h, Nat.add_assoc]
/-- the slice at A holds these values, and lies below B -/
def Vals (w : World) (B : Nat) (A : Option Addr) (l : List (Int × Int × ByteArray)) : Prop :=
  ∀ (i : Nat) (h : i < l.length), ∃ ad : Addr, A = some ad ∧ ad.block < B ∧ w.cell? (ad.add (i * 3)) = some (.int .i64 l[i].1) ∧ w.cell? ⟨(ad.add (i * 3)).block, (ad.add (i * 3)).off + 1, none⟩ = some (.int .i64 l[i].2.1) ∧ w.cell? ⟨(ad.add (i * 3)).block, (ad.add (i * 3)).off + 2, none⟩ = some (.string l[i].2.2)
theorem Vals.keep {w w' : World} {B : Nat} {A : Option Addr} {l : List (Int × Int × ByteArray)} (h : Vals w B A l) (hk : ∀ p : Addr, p.block < B → w'.cell? p = w.cell? p) : Vals w' B A l := by
  intro i hi
  obtain ⟨ad, e, hb, h0, h1, h2⟩ := h i hi
  exact ⟨ad, e, hb, (hk _ (by rw [add_block]; exact hb)).trans h0, (hk _ (by rw [add_block]; exact hb)).trans h1, (hk _ (by rw [add_block]; exact hb)).trans h2⟩
theorem Vals.below {w w' : World} {B : Nat} {A : Option Addr} {l : List (Int × Int × ByteArray)} (h : Vals w B A l) (hb : Below B w w') : Vals w' B A l := h.keep fun _ hp => hb.cell hp
theorem Vals.more {w : World} {B B' : Nat} {A : Option Addr} {l : List (Int × Int × ByteArray)} (h : Vals w B A l) (hB : B ≤ B') : Vals w B' A l := by
  intro i hi
  obtain ⟨ad, e, hb, h0⟩ := h i hi
  exact ⟨ad, e, by omega, h0⟩

/-- how long the texts are together -/
def sizes (l : List (Int × Int × ByteArray)) : Nat := (l.map fun v => v.2.2.size).sum
theorem sizes_snoc (l : List (Int × Int × ByteArray)) (k : Nat) (h : k < l.length) : sizes (l.take (k + 1)) = sizes (l.take k) + l[k].2.2.size := by
  unfold sizes
  rw [List.take_succ_eq_append_getElem h, List.map_append, List.sum_append]
  simp
def Short (l : List (Int × Int × ByteArray)) : Prop := ∀ v ∈ l, v.2.2.size ≤ 140737488355328
theorem sizes_le {l : List (Int × Int × ByteArray)} (h : Short l) : ∀ k : Nat, sizes (l.take k) ≤ k * 140737488355328
  | 0 => Nat.zero_le _
  | k + 1 => by
    have ih := sizes_le h k
    rw [Nat.add_mul, Nat.one_mul]
    by_cases hk : k < l.length
    · rw [sizes_snoc l k hk]
      exact Nat.add_le_add ih (h l[k] (List.getElem_mem hk))
    · rw [List.take_of_length_le (by omega)] at ih
      rw [List.take_of_length_le (by omega)]
      exact Nat.le_trans ih (Nat.le_add_right _ _)
theorem take_snoc (l : List (Int × Int × ByteArray)) (k : Nat) (h : k < l.length) : l.take (k + 1) = l.take k ++ [l[k]] := List.take_succ_eq_append_getElem h
theorem drewN_below {B : Nat} {a w : World} (h : Below B a w) (n : Nat) : Below B a (w.drewN n) := ⟨h.os, h.tape, h.output, h.size, h.block⟩
theorem toList_ne {s t : ByteArray} (h : s ≠ t) : (s.toList == t.toList) = false := by
  rw [beq_eq_false_iff_ne]
  intro e
  rw [ByteArray.toList_eq, ByteArray.toList_eq] at e
  apply h
  obtain ⟨⟨a⟩⟩ := s
  obtain ⟨⟨b⟩⟩ := t
  simp at e
  rw [e]

def cells3 (v : Int × Int × ByteArray) : List Value := [.int .i64 v.1, .int .i64 v.2.1, .string v.2.2]
/-- values as the cells of a row -/
def flat (l : List (Int × Int × ByteArray)) : List Value := l.flatMap cells3
theorem flat_length : ∀ l, (flat l).length = l.length * 3
  | [] => rfl
  | v :: l => by
    show (cells3 v ++ flat l).length = _
    rw [List.length_append, flat_length l, List.length_cons]
    show 3 + _ = _
    omega
theorem flat_at : ∀ (l : List (Int × Int × ByteArray)) (i : Nat) (h : i < l.length) (j : Nat), j < 3 → (flat l)[i * 3 + j]? = (cells3 l[i])[j]?
  | v :: l, 0, _, j, hj => by
    show (cells3 v ++ flat l)[0 * 3 + j]? = (cells3 v)[j]?
    rw [Nat.zero_mul, Nat.zero_add, List.getElem?_append_left hj]
  | v :: l, i + 1, h, j, hj => by
    show (cells3 v ++ flat l)[(i + 1) * 3 + j]? = _
    have hl : (cells3 v).length = 3 := rfl
    rw [List.getElem?_append_right (by omega), hl, show (i + 1) * 3 + j - 3 = i * 3 + j by omega]
    exact flat_at l i (by simpa using h) j hj
theorem flat_snoc (l : List (Int × Int × ByteArray)) (v : Int × Int × ByteArray) : flat (l ++ [v]) = flat l ++ cells3 v := by
  unfold flat
  rw [List.flatMap_append]
  simp
theorem info_val : (Tryd.prog.info? 99).map (fun i => (i.zero, i.size, i.bytes)) = some (some (.agg #[.int .i64 0, .int .i64 0, .string ByteArray.empty]), 3, 32) := by kernel_rfl
/-- a row of the call's own is a list of values -/
theorem own_vals {w : World} {B : Nat} {v : Value} {l : List (Int × Int × ByteArray)} (h : w.ownsRow B 99 3 v l.length (flat l)) : ∃ A cap, v = .slice A l.length cap ∧ Vals w w.heap.size A l := by
  rcases Nat.eq_zero_or_pos l.length with h0 | h0
  · have hn := List.eq_nil_of_length_eq_zero h0
    subst hn
    rcases h.2 with ⟨rfl, _⟩ | ⟨g, cap, cur, rfl, _⟩
    · exact ⟨none, 0, rfl, fun i hi => absurd hi (Nat.not_lt_zero _)⟩
    · exact ⟨some ⟨g, 0, none⟩, cap, rfl, fun i hi => absurd hi (Nat.not_lt_zero _)⟩
  · obtain ⟨g, cap, hv, hg, hlt⟩ := h.form h0
    have hc := h.cells (g := g) (by rw [hv]; rfl)
    refine ⟨some ⟨g, 0, none⟩, cap, hv, fun i hi => ⟨⟨g, 0, none⟩, rfl, hlt, ?_, ?_, ?_⟩⟩
    · exact hc (i * 3) _ (flat_at l i hi 0 (by omega))
    · rw [← add_next]; exact hc (i * 3 + 1) _ (flat_at l i hi 1 (by omega))
    · rw [← add_next]; exact hc (i * 3 + 2) _ (flat_at l i hi 2 (by omega))
theorem own_call {w w' : World} {B n size : Nat} {t : TypeId} {v : Value} {xs : List Value} (h : w.ownsRow B t size v n xs) (hb : Below w.heap.size w w') : w'.ownsRow B t size v n xs :=
  h.kept (row := none) ⟨hb.os, hb.tape, hb.output, hb.size, fun i hi _ => hb.block i hi⟩ (Classical.em _)
theorem row3_new (w : World) (o : Obj) (k n : Int) (t : ByteArray) (ty : TypeId) : ∀ (j : Nat) (u : Value), (cells3 (k, n, t))[j]? = some u → ((w.alloc o).alloc (.cells #[.int .i64 k, .int .i64 n, .string t] ty)).cell? ((⟨w.heap.size + 1, 0, none⟩ : Addr).add j) = some u := by
  have h := heap_alloc_new (w.alloc o) (.cells #[.int .i64 k, .int .i64 n, .string t] ty)
  rw [show (w.alloc o).heap.size = w.heap.size + 1 by simp] at h
  exact World.news_of_block h
def strSize : Value → Nat
  | .string s => s.size
  | _ => 0

theorem vals_news {w : World} {B : Nat} {ad : Addr} {l : List (Int × Int × ByteArray)} (h : Vals w B (some ad) l) : ∀ (j : Nat) (u : Value), (flat l)[j]? = some u → w.cell? (ad.add j) = some u := by
  intro j u hu
  have hj : j < (flat l).length := by
    rcases Nat.lt_or_ge j (flat l).length with h1 | h1
    · exact h1
    · rw [List.getElem?_eq_none h1] at hu; cases hu
  rw [flat_length] at hj
  obtain ⟨i, r, hr, rfl⟩ : ∃ i r, r < 3 ∧ j = i * 3 + r := ⟨j / 3, j % 3, Nat.mod_lt _ (by decide), by omega⟩
  have hi : i < l.length := by omega
  obtain ⟨ad', e, _, c0, c1, c2⟩ := h i hi
  obtain rfl : ad = ad' := Option.some.inj e
  rw [flat_at l i hi r hr] at hu
  match r, hr with
  | 0, _ => exact c0.trans hu
  | 1, _ => rw [add_next]; exact c1.trans hu
  | 2, _ => rw [add_next]; exact c2.trans hu
theorem flat_one (l : List (Int × Int × ByteArray)) : ∀ u ∈ flat l, u.oneCell' = true := by
  intro u hu
  obtain ⟨v, _, hv⟩ := List.mem_flatMap.1 hu
  simp [cells3] at hv
  rcases hv with rfl | rfl | rfl <;> simp [Value.oneCell']
theorem flat_append (a b : List (Int × Int × ByteArray)) : flat (a ++ b) = flat a ++ flat b := List.flatMap_append
theorem run_append_nothing {P : Program} (w : World) (base : Nat) (t ty e : TypeId) (i : TypeInfo) (size : Nat) (ht : P.underlying t = some (.slice e)) (hi : P.info? e = some i) (v : Value) (n : Nat) (xs : List Value) (hown : w.ownsRow base e size v n xs) (c : Nat) :
    (Builtin.append_ #[t, t] ty #[v, .slice none 0 c]).run P w = .ok v w := by
  rcases hown.2 with ⟨rfl, rfl⟩ | ⟨g, cap, cur, rfl, _, _, hnc, _⟩
  · simp [Builtin.append_, run_underlying ht, sizeOf, typeInfo, hi, Builtin.lenOf, Builtin.firstCells]
  · simp [Builtin.append_, run_underlying ht, sizeOf, typeInfo, hi, Builtin.lenOf, Builtin.firstCells, hnc, storeCells]
/-- values appended to a row of the call's own, whether they are nil or not -/
theorem wpList_append_vals {P : Program} {w : World} {ops : Array Oper} {rest : List Oper} {o : Oper} {a : Act} {Q : Exit → Act → World → Prop} (hgd : o.guard = none) (s x : Operand) (t : TypeId)
    (ho : o.op = .call { callee := .builtin .append, args := #[s, x], argTypes := #[t, t] })
    (base : Nat) (e : TypeId) (i : TypeInfo) (z : Value) (bytes : Nat) (ht : P.underlying t = some (.slice e)) (hi : P.info? e = some i) (hz : i.zero = some z)
    (hsize : i.size = 3) (hby : i.bytes = bytes) (hzs : z.cells.size = 3) (v : Value) (n : Nat) (xs : List Value) (hs : a.eval s = v) (hown : w.ownsRow base e 3 v n xs)
    (B : Nat) (A : Option Addr) (c : Nat) (l : List (Int × Int × ByteArray)) (hx : a.eval x = .slice A l.length c) (hv : Vals w B A l)
    (h63 : n + l.length ≤ maxLen) (hbytes : (n + l.length) * bytes ≤ 140737488355328) (hbase : base ≤ w.heap.size)
    (h : ∀ v' w', w'.ownsRow base e 3 v' (n + l.length) (xs ++ flat l) → w.grownBy w' v.ownBlock → wpList P ops Q rest (a.put o.dst v') w') : wpList P ops Q (o :: rest) a w := by
  rcases A with _ | ad
  · have h0 : l = [] := by
      cases l with
      | nil => rfl
      | cons y l =>
        obtain ⟨ad, e, _⟩ := hv 0 (by simp)
        cases e
    subst h0
    refine wpList_plain hgd fun K hK => ?_
    have hrun := run_append_nothing (P := P) w base t o.type e i 3 ht hi v n xs hown c
    unfold Oper.wp execOp
    simp only [ho, resolve, invoke, builtin, Sem.run_bind, Sem.run_pure, Result.andThen_ok, List.map_toArray, List.map_cons, List.map_nil, hs, hx, List.length_nil, hrun]
    exact hK _ _ (h v w (by simpa [flat] using hown) (World.grownBy.refl w _))
  · exact wpList_append_own w hgd s x t ho base e i z 3 bytes ht hi hz hsize hby hzs (by decide) v n xs hs hown ad l.length c (flat l) hx (flat_length l) (vals_news hv) (flat_one l) h63 hbytes hbase (fun v' w' h1 h2 _ => h v' w' h1 h2)
theorem own_empty (w : World) : (w.alloc (.cells #[] 99)).ownsRow w.heap.size 99 3 (.slice (some ⟨w.heap.size, 0, none⟩) 0 0) 0 [] :=
  ⟨rfl, .inr ⟨w.heap.size, 0, #[], rfl, Nat.le_refl _, heap_alloc_new w _, Nat.le_refl _, Nat.zero_le _, rfl, rfl⟩⟩

/-- a block that is a value's -/
def VBlk (W : World) (b : Nat) (k n : Int) (s : ByteArray) : Prop := W.heap[b]? = some (.cells #[.int .i64 k, .int .i64 n, .string s] 99 (0, 0))
theorem VBlk.box {W : World} {b : Nat} {k n : Int} {s : ByteArray} (h : VBlk W b k n s) : Box W b k n s := by
  unfold VBlk at h
  have hlt : b < W.heap.size := (Array.getElem?_eq_some_iff.1 h).1
  exact ⟨cell_of_row W b 0 _ _ _ h, cell_of_row W b 1 _ _ _ h, cell_of_row W b 2 _ _ _ h, hlt⟩
theorem VBlk.fresh (W : World) (k n : Int) (s : ByteArray) : VBlk (W.alloc (.cells #[.int .i64 k, .int .i64 n, .string s] 99)) W.heap.size k n s := heap_alloc_new W _
theorem VBlk.call {W W' : World} {b : Nat} {k n : Int} {s : ByteArray} (h : VBlk W b k n s) (hb : Below W.heap.size W W') : VBlk W' b k n s :=
  (hb.block b (Array.getElem?_eq_some_iff.1 h).1).trans h
theorem VBlk.others {W W' : World} {b c : Nat} {k n : Int} {s : ByteArray} (h : VBlk W b k n s) (hb : Lib.OthersKept 5 (some c) W W') (hc : b ≠ c) : VBlk W' b k n s :=
  hb b _ h (fun e => hc (Option.some.inj e)) (fun c fz e => by injection e with _ e2; revert e2; decide)
def FitL (l : List (Int × Int × ByteArray)) : Prop := ∀ v ∈ l, fitV v

theorem below2 (w : World) (o o' : Obj) : Below w.heap.size w ((w.alloc o).alloc o') := (below_alloc w o).alloc (by simp) o'
/-- what was there is there behind what makes memory of its own alone, at any place -/
theorem keepP {C : Prop} {W w1 w2 : World} (hb : Below w1.heap.size w1 w2) (h : C ∧ Below W.heap.size W w1) {C' : Prop}
    (hC : (∀ p : Addr, p.block < W.heap.size → w2.cell? p = W.cell? p) → C') : C' ∧ Below W.heap.size W w2 := by
  have hB := h.2.trans (hb.mono h.2.size)
  exact ⟨hC fun p hl => hB.cell hl, hB⟩



end Go.Proofs.YtajnnkclonjcoaaDoor.Code
/-
  Lists in memory whose elements have any number of cells: what lies where, what is appended. No type and no function of the program is named.
-/
namespace Go.Proofs.YtajnnkclonjcoaaDoor.Elems
open Go.ChangeShapes Go.WideShapes Go.ChangeAt Go.RowKit Val Go.Proofs.YtajnnkclonjcoaaDoor.Code
set_option linter.unusedVariables false
section
variable {α : Type} {c : α → List Value} {k : Nat}

/-- elements as the cells of a row -/
def flatC (c : α → List Value) (l : List α) : List Value := l.flatMap c
theorem flatC_length (hk : ∀ x, (c x).length = k) : ∀ l, (flatC c l).length = l.length * k
  | [] => by simp [flatC]
  | v :: l => by
    show (c v ++ flatC c l).length = _
    rw [List.length_append, flatC_length hk l, List.length_cons, hk, Nat.add_mul, Nat.one_mul, Nat.add_comm]
theorem flatC_at (hk : ∀ x, (c x).length = k) : ∀ (l : List α) (i : Nat) (h : i < l.length) (j : Nat), j < k → (flatC c l)[i * k + j]? = (c l[i])[j]?
  | v :: l, 0, _, j, hj => by
    show (c v ++ flatC c l)[0 * k + j]? = (c v)[j]?
    rw [Nat.zero_mul, Nat.zero_add, List.getElem?_append_left (by rw [hk]; exact hj)]
  | v :: l, i + 1, h, j, hj => by
    show (c v ++ flatC c l)[(i + 1) * k + j]? = _
    rw [List.getElem?_append_right (by rw [hk, Nat.add_mul, Nat.one_mul]; omega), hk, show (i + 1) * k + j - k = i * k + j by rw [Nat.add_mul, Nat.one_mul]; omega]
    exact flatC_at hk l i (by simpa using h) j hj
theorem flatC_snoc (l : List α) (v : α) : flatC c (l ++ [v]) = flatC c l ++ c v := by
  unfold flatC
  rw [List.flatMap_append]
  simp
theorem flatC_append (a b : List α) : flatC c (a ++ b) = flatC c a ++ flatC c b := List.flatMap_append
theorem flatC_one (h1 : ∀ x, ∀ u ∈ c x, u.oneCell' = true) (l : List α) : ∀ u ∈ flatC c l, u.oneCell' = true := by
  intro u hu
  obtain ⟨v, _, hv⟩ := List.mem_flatMap.1 hu
  exact h1 v u hv
/-- the slice at A holds these elements, and lies below B -/
def At (c : α → List Value) (k : Nat) (w : World) (B : Nat) (A : Option Addr) (l : List α) : Prop :=
  ∀ (i : Nat) (h : i < l.length), ∃ ad : Addr, A = some ad ∧ ad.block < B ∧ ∀ (j : Nat) (u : Value), (c l[i])[j]? = some u → w.cell? (ad.add (i * k + j)) = some u
theorem At.keep {w w' : World} {B : Nat} {A : Option Addr} {l : List α} (h : At c k w B A l) (hk : ∀ p : Addr, p.block < B → w'.cell? p = w.cell? p) : At c k w' B A l := by
  intro i hi
  obtain ⟨ad, e, hb, h0⟩ := h i hi
  exact ⟨ad, e, hb, fun j u hu => (hk _ (by rw [add_block]; exact hb)).trans (h0 j u hu)⟩
theorem At.below {w w' : World} {B : Nat} {A : Option Addr} {l : List α} (h : At c k w B A l) (hb : Below B w w') : At c k w' B A l := h.keep fun _ hp => hb.cell hp
theorem At.more {w : World} {B B' : Nat} {A : Option Addr} {l : List α} (h : At c k w B A l) (hB : B ≤ B') : At c k w B' A l := by
  intro i hi
  obtain ⟨ad, e, hb, h0⟩ := h i hi
  exact ⟨ad, e, by omega, h0⟩
theorem At.nil (w : World) (B : Nat) (A : Option Addr) : At c k w B A ([] : List α) := fun i hi => absurd hi (Nat.not_lt_zero _)
theorem At.take {w : World} {B : Nat} {A : Option Addr} {l : List α} (h : At c k w B A l) (n : Nat) : At c k w B A (l.take n) := by
  intro i hi
  rw [List.length_take] at hi
  obtain ⟨ad, e, hb, h0⟩ := h i (by omega)
  exact ⟨ad, e, hb, by rw [List.getElem_take]; exact h0⟩
/-- a row of the call's own is a list of elements -/
theorem own_at (hk : ∀ x, (c x).length = k) {w : World} {B : Nat} {e : TypeId} {v : Value} {l : List α} (h : w.ownsRow B e k v l.length (flatC c l)) : ∃ A cap, v = .slice A l.length cap ∧ At c k w w.heap.size A l := by
  rcases Nat.eq_zero_or_pos l.length with h0 | h0
  · have hn := List.eq_nil_of_length_eq_zero h0
    subst hn
    rcases h.2 with ⟨rfl, _⟩ | ⟨g, cap, cur, rfl, _⟩
    · exact ⟨none, 0, rfl, At.nil _ _ _⟩
    · exact ⟨some ⟨g, 0, none⟩, cap, rfl, At.nil _ _ _⟩
  · obtain ⟨g, cap, hv, hg, hlt⟩ := h.form h0
    have hc := h.cells (g := g) (by rw [hv]; rfl)
    refine ⟨some ⟨g, 0, none⟩, cap, hv, fun i hi => ⟨⟨g, 0, none⟩, rfl, hlt, fun j u hu => hc _ _ ?_⟩⟩
    have hj : j < k := by
      have := (List.getElem?_eq_some_iff.1 hu).1
      rwa [hk] at this
    rw [flatC_at hk l i hi j hj, hu]
theorem at_news (hk : ∀ x, (c x).length = k) (hk0 : 0 < k) {w : World} {B : Nat} {ad : Addr} {l : List α} (h : At c k w B (some ad) l) : ∀ (j : Nat) (u : Value), (flatC c l)[j]? = some u → w.cell? (ad.add j) = some u := by
  intro j u hu
  have hj : j < l.length * k := by
    have := (List.getElem?_eq_some_iff.1 hu).1
    rwa [flatC_length hk] at this
  have hi : j / k < l.length := Nat.div_lt_of_lt_mul (by rw [Nat.mul_comm]; exact hj)
  have hr : j % k < k := Nat.mod_lt _ hk0
  have e : j = j / k * k + j % k := by have := Nat.div_add_mod j k; rw [Nat.mul_comm] at this; exact this.symm
  obtain ⟨ad', e', _, h0⟩ := h (j / k) hi
  obtain rfl : ad = ad' := Option.some.inj e'
  rw [e]
  refine h0 _ _ ?_
  rw [← flatC_at hk l _ hi _ hr, ← e]
  exact hu
theorem run_append_nothingK {P : Program} (w : World) (base : Nat) (t ty e : TypeId) (i : TypeInfo) (size : Nat) (ht : P.underlying t = some (.slice e)) (hi : P.info? e = some i) (v : Value) (n : Nat) (xs : List Value) (hown : w.ownsRow base e size v n xs) (cp : Nat) :
    (Builtin.append_ #[t, t] ty #[v, .slice none 0 cp]).run P w = .ok v w := run_append_nothing w base t ty e i size ht hi v n xs hown cp
/-- a list appended to a row of the call's own, whether it is nil or not -/
theorem wpList_append_at (hk : ∀ x, (c x).length = k) (hk0 : 0 < k) (h1 : ∀ x, ∀ u ∈ c x, u.oneCell' = true) {P : Program} {w : World} {ops : Array Oper} {rest : List Oper} {o : Oper} {a : Act} {Q : Exit → Act → World → Prop} (hgd : o.guard = none) (s x : Operand) (t : TypeId)
    (ho : o.op = .call { callee := .builtin .append, args := #[s, x], argTypes := #[t, t] })
    (base : Nat) (e : TypeId) (i : TypeInfo) (z : Value) (bytes : Nat) (ht : P.underlying t = some (.slice e)) (hi : P.info? e = some i) (hz : i.zero = some z)
    (hsize : i.size = k) (hby : i.bytes = bytes) (hzs : z.cells.size = k) (v : Value) (n : Nat) (xs : List Value) (hs : a.eval s = v) (hown : w.ownsRow base e k v n xs)
    (B : Nat) (A : Option Addr) (cp : Nat) (l : List α) (hx : a.eval x = .slice A l.length cp) (hv : At c k w B A l)
    (h63 : n + l.length ≤ maxLen) (hbytes : (n + l.length) * bytes ≤ 140737488355328) (hbase : base ≤ w.heap.size)
    (h : ∀ v' w', w'.ownsRow base e k v' (n + l.length) (xs ++ flatC c l) → w.grownBy w' v.ownBlock → wpList P ops Q rest (a.put o.dst v') w') : wpList P ops Q (o :: rest) a w := by
  rcases A with _ | ad
  · have h0 : l = [] := by
      cases l with
      | nil => rfl
      | cons y l =>
        obtain ⟨ad, e, _⟩ := hv 0 (by simp)
        cases e
    subst h0
    refine wpList_plain hgd fun K hK => ?_
    have hrun := run_append_nothing (P := P) w base t o.type e i k ht hi v n xs hown cp
    unfold Oper.wp
    simp only [ho, execOp, resolve, invoke, builtin, Sem.run_bind, Sem.run_pure, Result.andThen_ok, List.map_toArray, List.map_cons, List.map_nil, hs, hx, List.length_nil, hrun]
    exact hK _ _ (h v w (by simpa [flatC] using hown) (World.grownBy.refl w _))
  · exact wpList_append_own w hgd s x t ho base e i z k bytes ht hi hz hsize hby hzs hk0 v n xs hs hown ad l.length cp (flatC c l) hx (flatC_length hk l) (at_news hk hk0 hv) (flatC_one h1 l) h63 hbytes hbase (fun v' w' h1 h2 _ => h v' w' h1 h2)
end
end Go.Proofs.YtajnnkclonjcoaaDoor.Elems
