/-
  Lists of values in memory: what a list is there, appended to, cut; no function of the program is named.
-/
import Derived.Test.YthpmgnfmeldkjaaGreatDoorSm1
import Derived.Laws.OwnMore
import Derived.Laws.AppendOwnNone
import Derived.Deep.AppendLies
import Derived.Deep.Draws
import Derived.Deep.QuietTactic
import Derived.BigQuiet
import Derived.Maps.AppendAt
import Derived.Lib.OthersKept
import Derived.Deep.RegionHeld3
import Derived.WalkKit
import Derived.Laws.Bits64
import Derived.Laws.Bits64b
import Derived.Laws.BitsLemmas
import Derived.Test.YthpmgnfmeldkjaaGreatDoorChecked
import Derived.ProofKit
import Derived.Lib.Hide
import Derived.WalkLawsBesides
import Derived.LoopTactic
import Derived.Below
import Derived.OwnWalk
import Derived.Laws.BytesArg
import Derived.Laws.CopyOwn
import Derived.Laws.MakeOwn
import Derived.Laws.Tables
import Derived.Deep.RegionLaw
import Derived.Test.YthpmgnfmeldkjaaGreatDoorShelf
import Derived.Shelf.Strings.BuilderK
import Derived.Lib.SmallJoins
set_option maxRecDepth 100000
set_option maxHeartbeats 16000000
set_option linter.unusedVariables false
set_option linter.unusedSimpArgs false
open Go.Lib (hid)
namespace Go.Proofs.YthpmgnfmeldkjaaGreatDoor.Code
open Go.ChangeShapes Go.WideShapes Go.ChangeAt Go.RowKit Val
theorem cut_at (s : ByteArray) (i j : Int) (a b : Nat) (hi : i = a) (hj : j = b) (h : a ≤ b) (g : b ≤ s.size) (w : World) :
  (Instr.slice 9 (.string s) (some (.int .i64 i)) (some (.int .i64 j)) none).run Tryz.prog w = .ok (.string (s.extract a b)) w := by
 rw [run_slice_string w 9 s .i64 .i64 i j Tryz.underlying9 (by omega) (by omega) (by omega), show i.toNat = a by omega, show j.toNat = b by omega]
theorem cut_from (s : ByteArray) (i : Int) (a : Nat) (hi : i = a) (g : a ≤ s.size) (w : World) :
  (Instr.slice 9 (.string s) (some (.int .i64 i)) none none).run Tryz.prog w = .ok (.string (s.extract a s.size)) w := by
 rw [run_slice_string_from_if w 9 s .i64 i Tryz.underlying9, if_pos (by omega), show i.toNat = a by omega]
theorem cut_to (s : ByteArray) (i : Int) (a : Nat) (hi : i = a) (g : a ≤ s.size) (w : World) :
  (Instr.slice 9 (.string s) none (some (.int .i64 i)) none).run Tryz.prog w = .ok (.string (s.extract 0 a)) w := by
 rw [run_slice_string_to_if w 9 s .i64 i Tryz.underlying9, if_pos (by omega), show i.toNat = a by omega]
theorem from_list (s : ByteArray) (a : Nat) : (s.extract a s.size).data.toList = s.data.toList.drop a := by
 have hl : s.data.toList.length = s.size := rfl
 rw [ByteArray.data_extract, Array.toList_extract, List.extract_eq_take_drop]
 exact List.take_of_length_le (by rw [List.length_drop]; omega)
theorem to_list (s : ByteArray) (a : Nat) : (s.extract 0 a).data.toList = s.data.toList.take a := by
 rw [ByteArray.data_extract, Array.toList_extract, List.extract_eq_take_drop]
 simp
theorem size_list (s : ByteArray) : s.size = s.data.toList.length := rfl
theorem add_block (a : Addr) (n : Nat) : (a.add n).block = a.block := by unfold Addr.add; split <;> rfl
theorem add_next (a : Addr) (n j : Nat) : a.add (n + (j + 1)) = ⟨(a.add n).block, (a.add n).off + (j + 1), none⟩ := by
 unfold Addr.add
 rw [if_neg (by omega)]
 by_cases h : n = 0
 ·rw [if_pos h, h, Nat.zero_add]
 ·rw [if_neg h, Nat.add_assoc]
theorem drewN_below {B : Nat} {a w : World} (h : Below B a w) (n : Nat) : Below B a (w.drewN n) := ⟨h.os, h.tape, h.output, h.size, h.block⟩
theorem toList_ne {s t : ByteArray} (h : s ≠ t) : (s.toList == t.toList) = false := by
 rw [beq_eq_false_iff_ne]
 intro e
 rw [ByteArray.toList_eq, ByteArray.toList_eq] at e
 apply h
 obtain ⟨⟨a⟩⟩ := s
 obtain ⟨⟨b⟩⟩ := t
 simp at e
 rw [e]
theorem own_call {w w' : World} {B n size : Nat} {t : TypeId} {v : Value} {xs : List Value} (h : w.ownsRow B t size v n xs) (hb : Below w.heap.size w w') : w'.ownsRow B t size v n xs :=
 h.kept (row := none) ⟨hb.os, hb.tape, hb.output, hb.size, fun i hi _ => hb.block i hi⟩ (Classical.em _)
theorem run_append_nothing {P : Program} (w : World) (base : Nat) (t ty e : TypeId) (i : TypeInfo) (size : Nat) (ht : P.underlying t = some (.slice e)) (hi : P.info? e = some i) (v : Value) (n : Nat) (xs : List Value) (hown : w.ownsRow base e size v n xs) (c : Nat) :
  (Builtin.append_ #[t, t] ty #[v, .slice none 0 c]).run P w = .ok v w := by
 rcases hown.2 with ⟨rfl, rfl⟩ | ⟨g, cap, cur, rfl, _, _, hnc, _⟩
 ·simp [Builtin.append_, run_underlying ht, sizeOf, typeInfo, hi, Builtin.lenOf, Builtin.firstCells]
 ·simp [Builtin.append_, run_underlying ht, sizeOf, typeInfo, hi, Builtin.lenOf, Builtin.firstCells, hnc, storeCells]
theorem keepP {C : Prop} {W w1 w2 : World} (hb : Below w1.heap.size w1 w2) (h : C ∧ Below W.heap.size W w1) {C' : Prop}
  (hC : (∀ p : Addr, p.block < W.heap.size → w2.cell? p = W.cell? p) → C') : C' ∧ Below W.heap.size W w2 := by
 have hB := h.2.trans (hb.mono h.2.size)
 exact ⟨hC fun p hl => hB.cell hl, hB⟩
end Go.Proofs.YthpmgnfmeldkjaaGreatDoor.Code
/-
  Lists in memory whose elements have any number of cells: what lies where, what is appended. No type and no function of the program is named.
-/
namespace Go.Proofs.YthpmgnfmeldkjaaGreatDoor.Elems
open Go.ChangeShapes Go.WideShapes Go.ChangeAt Go.RowKit Val Go.Proofs.YthpmgnfmeldkjaaGreatDoor.Code
section
variable {α : Type} {c : α → List Value} {k : Nat}
def flatC (c : α → List Value) (l : List α) : List Value := l.flatMap c
theorem flatC_length (hk : ∀ x, (c x).length = k) : ∀ l, (flatC c l).length = l.length * k
 | [] => by simp [flatC]
 | v :: l => by
  show (c v ++ flatC c l).length = _
  rw [List.length_append, flatC_length hk l, List.length_cons, hk, Nat.add_mul, Nat.one_mul, Nat.add_comm]
theorem flatC_at (hk : ∀ x, (c x).length = k) : ∀ (l : List α) (i : Nat) (h : i < l.length) (j : Nat), j < k → (flatC c l)[i * k + j]? = (c l[i])[j]?
 | v :: l, 0, _, j, hj => by
  show (c v ++ flatC c l)[0 * k + j]? = (c v)[j]?
  rw [Nat.zero_mul, Nat.zero_add, List.getElem?_append_left (by rw [hk]; exact hj)]
 | v :: l, i + 1, h, j, hj => by
  show (c v ++ flatC c l)[(i + 1) * k + j]? = _
  rw [List.getElem?_append_right (by rw [hk, Nat.add_mul, Nat.one_mul]; omega), hk, show (i + 1) * k + j - k = i * k + j by rw [Nat.add_mul, Nat.one_mul]; omega]
  exact flatC_at hk l i (by simpa using h) j hj
theorem flatC_snoc (l : List α) (v : α) : flatC c (l ++ [v]) = flatC c l ++ c v := by
 unfold flatC
 rw [List.flatMap_append]
 simp
theorem flatC_append (a b : List α) : flatC c (a ++ b) = flatC c a ++ flatC c b := List.flatMap_append
theorem flatC_one (h1 : ∀ x, ∀ u ∈ c x, u.oneCell' = true) (l : List α) : ∀ u ∈ flatC c l, u.oneCell' = true := by
 intro u hu
 obtain ⟨v, _, hv⟩ := List.mem_flatMap.1 hu
 exact h1 v u hv
def At (c : α → List Value) (k : Nat) (w : World) (B : Nat) (A : Option Addr) (l : List α) : Prop :=
 ∀ (i : Nat) (h : i < l.length), ∃ ad : Addr, A = some ad ∧ ad.block < B ∧ ∀ (j : Nat) (u : Value), (c l[i])[j]? = some u → w.cell? (ad.add (i * k + j)) = some u
theorem At.keep {w w' : World} {B : Nat} {A : Option Addr} {l : List α} (h : At c k w B A l) (hk : ∀ p : Addr, p.block < B → w'.cell? p = w.cell? p) : At c k w' B A l := by
 intro i hi
 obtain ⟨ad, e, hb, h0⟩ := h i hi
 exact ⟨ad, e, hb, fun j u hu => (hk _ (by rw [add_block]; exact hb)).trans (h0 j u hu)⟩
theorem At.below {w w' : World} {B : Nat} {A : Option Addr} {l : List α} (h : At c k w B A l) (hb : Below B w w') : At c k w' B A l := h.keep fun _ hp => hb.cell hp
theorem At.more {w : World} {B B' : Nat} {A : Option Addr} {l : List α} (h : At c k w B A l) (hB : B ≤ B') : At c k w B' A l := by
 intro i hi
 obtain ⟨ad, e, hb, h0⟩ := h i hi
 exact ⟨ad, e, by omega, h0⟩
theorem At.nil (w : World) (B : Nat) (A : Option Addr) : At c k w B A ([] : List α) := fun i hi => absurd hi (Nat.not_lt_zero _)
theorem own_at (hk : ∀ x, (c x).length = k) {w : World} {B : Nat} {e : TypeId} {v : Value} {l : List α} (h : w.ownsRow B e k v l.length (flatC c l)) : ∃ A cap, v = .slice A l.length cap ∧ At c k w w.heap.size A l := by
 rcases Nat.eq_zero_or_pos l.length with h0 | h0
 ·have hn := List.eq_nil_of_length_eq_zero h0
  subst hn
  rcases h.2 with ⟨rfl, _⟩ | ⟨g, cap, cur, rfl, _⟩
  ·exact ⟨none, 0, rfl, At.nil _ _ _⟩
  ·exact ⟨some ⟨g, 0, none⟩, cap, rfl, At.nil _ _ _⟩
 ·obtain ⟨g, cap, hv, hg, hlt⟩ := h.form h0
  have hc := h.cells (g := g) (by rw [hv]; rfl)
  refine ⟨some ⟨g, 0, none⟩, cap, hv, fun i hi => ⟨⟨g, 0, none⟩, rfl, hlt, fun j u hu => hc _ _ ?_⟩⟩
  have hj : j < k := by
   have := (List.getElem?_eq_some_iff.1 hu).1
   rwa [hk] at this
  rw [flatC_at hk l i hi j hj, hu]
theorem at_news (hk : ∀ x, (c x).length = k) (hk0 : 0 < k) {w : World} {B : Nat} {ad : Addr} {l : List α} (h : At c k w B (some ad) l) : ∀ (j : Nat) (u : Value), (flatC c l)[j]? = some u → w.cell? (ad.add j) = some u := by
 intro j u hu
 have hj : j < l.length * k := by
  have := (List.getElem?_eq_some_iff.1 hu).1
  rwa [flatC_length hk] at this
 have hi : j / k < l.length := Nat.div_lt_of_lt_mul (by rw [Nat.mul_comm]; exact hj)
 have hr : j % k < k := Nat.mod_lt _ hk0
 have e : j = j / k * k + j % k := by have := Nat.div_add_mod j k; rw [Nat.mul_comm] at this; exact this.symm
 obtain ⟨ad', e', _, h0⟩ := h (j / k) hi
 obtain rfl : ad = ad' := Option.some.inj e'
 rw [e]
 refine h0 _ _ ?_
 rw [← flatC_at hk l _ hi _ hr, ← e]
 exact hu
theorem wpList_append_at (hk : ∀ x, (c x).length = k) (hk0 : 0 < k) (h1 : ∀ x, ∀ u ∈ c x, u.oneCell' = true) {P : Program} {w : World} {ops : Array Oper} {rest : List Oper} {o : Oper} {a : Act} {Q : Exit → Act → World → Prop} (hgd : o.guard = none) (s x : Operand) (t : TypeId)
  (ho : o.op = .call { callee := .builtin .append, args := #[s, x], argTypes := #[t, t] })
  (base : Nat) (e : TypeId) (i : TypeInfo) (z : Value) (bytes : Nat) (ht : P.underlying t = some (.slice e)) (hi : P.info? e = some i) (hz : i.zero = some z)
  (hsize : i.size = k) (hby : i.bytes = bytes) (hzs : z.cells.size = k) (v : Value) (n : Nat) (xs : List Value) (hs : a.eval s = v) (hown : w.ownsRow base e k v n xs)
  (B : Nat) (A : Option Addr) (cp : Nat) (l : List α) (hx : a.eval x = .slice A l.length cp) (hv : At c k w B A l)
  (h63 : n + l.length ≤ maxLen) (hbytes : (n + l.length) * bytes ≤ 140737488355328) (hbase : base ≤ w.heap.size)
  (h : ∀ v' w', w'.ownsRow base e k v' (n + l.length) (xs ++ flatC c l) → w.grownBy w' v.ownBlock → wpList P ops Q rest (a.put o.dst v') w') : wpList P ops Q (o :: rest) a w := by
 rcases A with _ | ad
 ·have h0 : l = [] := by
   cases l with
   | nil => rfl
   | cons y l =>
    obtain ⟨ad, e, _⟩ := hv 0 (by simp)
    cases e
  subst h0
  refine wpList_plain hgd fun K hK => ?_
  have hrun := run_append_nothing (P := P) w base t o.type e i k ht hi v n xs hown cp
  unfold Oper.wp
  simp only [ho, execOp, resolve, invoke, builtin, Sem.run_bind, Sem.run_pure, Result.andThen_ok, List.map_toArray, List.map_cons, List.map_nil, hs, hx, List.length_nil, hrun]
  exact hK _ _ (h v w (by simpa [flatC] using hown) (World.grownBy.refl w _))
 ·exact wpList_append_own w hgd s x t ho base e i z k bytes ht hi hz hsize hby hzs hk0 v n xs hs hown ad l.length cp (flatC c l) hx (flatC_length hk l) (at_news hk hk0 hv) (flatC_one h1 l) h63 hbytes hbase (fun v' w' h1 h2 _ => h v' w' h1 h2)
end
end Go.Proofs.YthpmgnfmeldkjaaGreatDoor.Elems
/-
  Words of a text in memory; what a round of Words does. No function of the program is named here.
-/
namespace Go.Proofs.YthpmgnfmeldkjaaGreatDoor.Code
open Go.ChangeShapes Go.WideShapes Go.ChangeAt Go.RowKit Val Elems
def wc (w : W) : List Value := [.int .i64 w.1, .string ⟨w.2.1.toArray⟩, .int .i64 w.2.2]
theorem wc_length (w : W) : (wc w).length = 3 := rfl
theorem wc_one : ∀ w : W, ∀ u ∈ wc w, u.oneCell' = true := by
 intro w u hu
 simp [wc] at hu
 rcases hu with rfl | rfl | rfl <;> rfl
def wcons (a : List W) (r : Except Int (List W)) : Except Int (List W) := match r with | .error j => .error j | .ok m => .ok (a ++ m)
theorem wcons_nil (r : Except Int (List W)) : wcons [] r = r := by cases r <;> rfl
theorem wcons_wcons (a b : List W) (r : Except Int (List W)) : wcons a (wcons b r) = wcons (a ++ b) r := by
 cases r
 ·rfl
 ·simp [wcons]
def WAt (s : List UInt8) (i : Nat) (a : List W) : Prop := wordsL s 0 = wcons a (wordsL (s.drop i) i)
theorem WAt.start (s : List UInt8) : WAt s 0 [] := by
 unfold WAt
 rw [wcons_nil]
 rfl
theorem WAt.blank {s : List UInt8} {i : Nat} {a : List W} (h : WAt s i a) (hi : i < s.length) (hb : blankB s[i] = true) : WAt s (i + 1) a := by
 unfold WAt at *
 rw [h, List.drop_eq_getElem_cons hi, wordsL_blank hb]
 rfl
theorem WAt.none {s : List UInt8} {i : Nat} {a : List W} (h : WAt s i a) (hi : i < s.length) (hb : blankB s[i] = false) (hf : firstL (s.drop i) = none) : wordsL s 0 = .error i := by
 unfold WAt at h
 rw [List.drop_eq_getElem_cons hi] at h hf
 rw [h, wordsL_none hb hf]
 rfl
theorem WAt.one {s : List UInt8} {i n : Nat} {a : List W} {k : Int} {t : List UInt8} (h : WAt s i a) (hi : i < s.length) (hf : firstL (s.drop i) = some (k, t, n)) : WAt s (i + n) (a ++ [(k, t, (i : Int))]) := by
 unfold WAt at *
 have e : wordsL (s.drop i) i = wcons [(k, t, (i : Int))] (wordsL (s.drop (i + n)) ((i + n : Nat) : Int)) := by
  have e2 : (s.drop i).drop n = s.drop (i + n) := List.drop_drop
  rw [← e2, List.drop_eq_getElem_cons hi] at *
  rw [wordsL_one hf, Int.natCast_add]
  rfl
 rw [h, e, wcons_wcons]
theorem WAt.done {s : List UInt8} {a : List W} {i : Nat} (h : WAt s i a) (hi : s.length ≤ i) : wordsL s 0 = .ok a := by
 unfold WAt at h
 rw [h, List.drop_eq_nil_of_le hi, wordsL_nil]
 simp [wcons]
def wL (s : List UInt8) : List W := match wordsL s 0 with | .ok l => l | .error _ => []
def wP (s : List UInt8) : Int := match wordsL s 0 with | .ok _ => 0 | .error j => j
def wE (s : List UInt8) : Int := match wordsL s 0 with | .ok _ => 0 | .error _ => 81
def WordsPost (w : World) (s : List UInt8) (e : Ending) (w' : World) : Prop :=
 ∃ (A : Option Addr) (cap : Nat), e = .returned (.tuple #[.slice A (wL s).length cap, .int .i64 (wP s), .int .i64 (wE s)]) ∧ At wc 3 w' w'.heap.size A (wL s) ∧ Below w.heap.size w w'
theorem words_no {w w' : World} {s : List UInt8} {j : Int} (h : wordsL s 0 = .error j) (hb : Below w.heap.size w w') : WordsPost w s (.returned (.tuple #[.slice none 0 0, .int .i64 j, .int .i64 81])) w' := by
 have h1 : wL s = [] := by unfold wL; rw [h]
 have h2 : wP s = j := by unfold wP; rw [h]
 have h3 : wE s = 81 := by unfold wE; rw [h]
 exact ⟨none, 0, by rw [h1, h2, h3]; rfl, by rw [h1]; exact At.nil _ _ _, hb⟩
theorem words_yes {w w' : World} {s : List UInt8} {l : List W} {v : Value} {e : TypeId} (h : wordsL s 0 = .ok l) (ho : w'.ownsRow w.heap.size e 3 v l.length (flatC wc l)) (hb : Below w.heap.size w w') : WordsPost w s (.returned (.tuple #[v, .int .i64 0, .int .i64 0])) w' := by
 have h1 : wL s = l := by unfold wL; rw [h]
 have h2 : wP s = 0 := by unfold wP; rw [h]
 have h3 : wE s = 0 := by unfold wE; rw [h]
 obtain ⟨A, cap, rfl, hv⟩ := own_at wc_length ho
 exact ⟨A, cap, by rw [h1, h2, h3], by rw [h1]; exact hv, hb⟩
structure But (w w' : World) (r : Nat) : Prop where
 os : w'.os = w.os
 tape : w'.tape = w.tape
 output : w'.output = w.output
 size : w.heap.size ≤ w'.heap.size
 block : ∀ k, k < w.heap.size → k ≠ r → w'.heap[k]? = w.heap[k]?
theorem But.refl (w : World) (r : Nat) : But w w r := ⟨rfl, rfl, rfl, Nat.le_refl _, fun _ _ _ => rfl⟩
theorem But.trans {w w1 w2 : World} {r : Nat} (h : But w w1 r) (g : But w1 w2 r) : But w w2 r :=
 ⟨g.os.trans h.os, g.tape.trans h.tape, g.output.trans h.output, Nat.le_trans h.size g.size, fun k hk hb => (g.block k (Nat.lt_of_lt_of_le hk h.size) hb).trans (h.block k hk hb)⟩
theorem But.of {w w' : World} (h : Below w.heap.size w w') (r : Nat) : But w w' r := ⟨h.os, h.tape, h.output, h.size, fun k hk _ => h.block k hk⟩
theorem But.next {w w1 w2 : World} {r : Nat} (h : But w w1 r) (g : Below w1.heap.size w1 w2) : But w w2 r := h.trans (But.of g r)
theorem But.alloc {w w1 : World} {r : Nat} (h : But w w1 r) (o : Obj) : But w (w1.alloc o) r := h.next ((Below.refl _ _).alloc (Nat.le_refl _) o)
theorem But.setCell {w w1 : World} {r : Nat} (h : But w w1 r) (j : Nat) (u : Value) : But w (w1.setCell ⟨r, j, none⟩ u) r :=
 ⟨h.os, h.tape, h.output, by simpa using h.size, fun k hk hb => (Below.heap_setCell w1 ⟨r, j, none⟩ u k hb).trans (h.block k hk hb)⟩
theorem But.below {w w' : World} {r B : Nat} (h : But w w' r) (hB : B ≤ w.heap.size) (hr : B ≤ r) : Below B w w' :=
 ⟨h.os, h.tape, h.output, h.size, fun k hk => h.block k (Nat.lt_of_lt_of_le hk hB) (by omega)⟩
theorem But.cell {w w' : World} {r : Nat} (h : But w w' r) {q : Addr} (hq : q.block < w.heap.size) (hn : q.block ≠ r) : w'.cell? q = w.cell? q := by
 unfold World.cell?
 rw [h.block _ hq hn]
theorem But.frozen {w w' : World} {r : Nat} (h : But w w' r) {q : Addr} (hq : q.block < w.heap.size) (hn : q.block ≠ r) : w'.frozen? q = w.frozen? q := by
 unfold World.frozen?
 rw [h.block _ hq hn]
def NIn (w : World) (S : Nat → Prop) : Tr → Value → Value → Value → Prop
 | .leaf op tx, a, b, c => a = .string ⟨op.toArray⟩ ∧ b = .string ⟨tx.toArray⟩ ∧ c = .slice none 0 0
 | .one op x, a, b, c => a = .string ⟨op.toArray⟩ ∧ b = .string ⟨#[]⟩ ∧ ∃ (g cap : Nat) (x0 x1 x2 : Value), c = .slice (some ⟨g, 0, none⟩) 1 (cap + 1) ∧ S g ∧ w.cell? ⟨g, 0, none⟩ = some x0 ∧ w.cell? ⟨g, 1, none⟩ = some x1 ∧ w.cell? ⟨g, 2, none⟩ = some x2 ∧ NIn w S x x0 x1 x2
 | .two op x y, a, b, c => a = .string ⟨op.toArray⟩ ∧ b = .string ⟨#[]⟩ ∧ ∃ (g cap : Nat) (x0 x1 x2 y0 y1 y2 : Value), c = .slice (some ⟨g, 0, none⟩) 2 (cap + 2) ∧ S g ∧ w.cell? ⟨g, 0, none⟩ = some x0 ∧ w.cell? ⟨g, 1, none⟩ = some x1 ∧ w.cell? ⟨g, 2, none⟩ = some x2 ∧
   w.cell? ⟨g, 3, none⟩ = some y0 ∧ w.cell? ⟨g, 4, none⟩ = some y1 ∧ w.cell? ⟨g, 5, none⟩ = some y2 ∧ NIn w S x x0 x1 x2 ∧ NIn w S y y0 y1 y2
def opOf : Tr → List UInt8
 | .leaf op _ => op
 | .one op _ => op
 | .two op _ _ => op
def txOf : Tr → List UInt8
 | .leaf _ tx => tx
 | _ => []
theorem NIn.texts {w : World} {S : Nat → Prop} {t : Tr} {a b c : Value} (h : NIn w S t a b c) : a = .string ⟨(opOf t).toArray⟩ ∧ b = .string ⟨(txOf t).toArray⟩ := by
 cases t <;> exact ⟨h.1, h.2.1⟩
theorem NIn.keep {w w' : World} {S S' : Nat → Prop} (hS : ∀ g, S g → S' g) (hk : ∀ g, S g → ∀ j, w'.cell? ⟨g, j, none⟩ = w.cell? ⟨g, j, none⟩) : ∀ (t : Tr) (a b c : Value), NIn w S t a b c → NIn w' S' t a b c
 | .leaf op tx, a, b, c, h => h
 | .one op x, a, b, c, h => by
  obtain ⟨h1, h2, g, cap, x0, x1, x2, h3, h4, c0, c1, c2, hx⟩ := h
  have k := hk g h4
  exact ⟨h1, h2, g, cap, x0, x1, x2, h3, hS g h4, (k 0).trans c0, (k 1).trans c1, (k 2).trans c2, NIn.keep hS hk x x0 x1 x2 hx⟩
 | .two op x y, a, b, c, h => by
  obtain ⟨h1, h2, g, cap, x0, x1, x2, y0, y1, y2, h3, h4, c0, c1, c2, d0, d1, d2, hx, hy⟩ := h
  have k := hk g h4
  exact ⟨h1, h2, g, cap, x0, x1, x2, y0, y1, y2, h3, hS g h4, (k 0).trans c0, (k 1).trans c1, (k 2).trans c2, (k 3).trans d0, (k 4).trans d1, (k 5).trans d2, NIn.keep hS hk x x0 x1 x2 hx, NIn.keep hS hk y y0 y1 y2 hy⟩
theorem NIn.imp {w : World} {S S' : Nat → Prop} {t : Tr} {a b c : Value} (h : NIn w S t a b c) (hS : ∀ g, S g → S' g) : NIn w S' t a b c := NIn.keep hS (fun _ _ _ => rfl) t a b c h
theorem NIn.below {w w' : World} {S : Nat → Prop} {t : Tr} {a b c : Value} (h : NIn w S t a b c) (hS : ∀ g, S g → g < w.heap.size) (hb : Below w.heap.size w w') : NIn w' S t a b c :=
 NIn.keep (fun _ h => h) (fun g hg j => hb.cell (p := ⟨g, j, none⟩) (hS g hg)) t a b c h
theorem NIn.alloc {w : World} {S : Nat → Prop} {t : Tr} {a b c : Value} (h : NIn w S t a b c) (hS : ∀ g, S g → g < w.heap.size) (o : Obj) : NIn (w.alloc o) S t a b c := h.below hS ((Below.refl _ _).alloc (Nat.le_refl _) o)
theorem NIn.but {w w' : World} {S : Nat → Prop} {r : Nat} {t : Tr} {a b c : Value} (h : NIn w S t a b c) (hS : ∀ g, S g → g < w.heap.size ∧ g ≠ r) (hb : But w w' r) : NIn w' S t a b c :=
 NIn.keep (fun _ h => h) (fun g hg j => hb.cell (q := ⟨g, j, none⟩) (hS g hg).1 (hS g hg).2) t a b c h
theorem NIn.setCell {w : World} {S : Nat → Prop} {t : Tr} {a b c : Value} (h : NIn w S t a b c) (p : Addr) (hp : ¬ S p.block) (u : Value) : NIn (w.setCell p u) S t a b c :=
 NIn.keep (fun _ h => h) (fun g hg j => World.cell?_setCell_other _ _ _ _ (by intro e; rw [e] at hp; exact hp hg)) t a b c h
theorem NIn.leaf (w : World) (S : Nat → Prop) (op tx : ByteArray) : NIn w S (.leaf op.data.toList tx.data.toList) (.string op) (.string tx) (.slice none 0 0) := ⟨by rw [Lib.mk_data], by rw [Lib.mk_data], rfl⟩
theorem NIn.one {w : World} {S S' : Nat → Prop} {x : Tr} {x0 x1 x2 : Value} (op : ByteArray) (h : NIn w S x x0 x1 x2) (hS : ∀ g, S g → g < w.heap.size) (hS' : ∀ g, S g → S' g) (hn : S' w.heap.size) (t : TypeId) :
  NIn (w.alloc (.cells #[x0, x1, x2] t)) S' (.one op.data.toList x) (.string op) (.string ⟨#[]⟩) (.slice (some ⟨w.heap.size, 0, none⟩) 1 1) :=
 ⟨by rw [Lib.mk_data], rfl, w.heap.size, 0, x0, x1, x2, rfl, hn, by simp [go_sem], by simp [go_sem], by simp [go_sem], (h.alloc hS _).imp hS'⟩
theorem NIn.two {w : World} {S S' : Nat → Prop} {x y : Tr} {x0 x1 x2 y0 y1 y2 : Value} (op : ByteArray) (h : NIn w S x x0 x1 x2) (g : NIn w S y y0 y1 y2) (hS : ∀ g, S g → g < w.heap.size) (hS' : ∀ g, S g → S' g) (hn : S' w.heap.size) (t : TypeId) :
  NIn (w.alloc (.cells #[x0, x1, x2, y0, y1, y2] t)) S' (.two op.data.toList x y) (.string op) (.string ⟨#[]⟩) (.slice (some ⟨w.heap.size, 0, none⟩) 2 2) :=
 ⟨by rw [Lib.mk_data], rfl, w.heap.size, 0, x0, x1, x2, y0, y1, y2, rfl, hn, by simp [go_sem], by simp [go_sem], by simp [go_sem], by simp [go_sem], by simp [go_sem], by simp [go_sem], (h.alloc hS _).imp hS', (g.alloc hS _).imp hS'⟩
theorem take1 {P : Program} {ops : Array Oper} {Q : Exit → Act → World → Prop} {md : Region.Mode} {S : World → Prop} (i d : Nat) {v : Value} {fuel : Nat} {listed : Array Bool} {a : Act} {w : World} {o : _} {t : _} {p : _} {f : _} {g : _}
  (hi : ops[i]? = some (⟨some d, o, t, p, f, g⟩ : Oper)) (hy : ∀ w, S w → (execOp a.eval ⟨some d, o, t, p, f, g⟩).run P w = .ok (.value v) w)
  (h : wpAnyH P md ops Q S fuel (listed.setIfInBounds i true) (a.put (some d) v) w) (hs : Region.noSelect ops = true := by kernel_rfl) (hf : Region.free md ops listed i = true := by kernel_rfl) (hr : (Region.ready md ops listed).contains i = true := by kernel_rfl)
  (hw : Region.wanted (⟨some d, o, t, p, f, g⟩ : Oper) (yielded ops a.tmps) = true := by rfl) (hS : S w := by assumption) (hQ : ∀ c a w, Q (.panic c) (a.put (some d) v) w → Q (.panic c) a w := by exact fun _ _ _ h => h) : wpAnyH P md ops Q S (fuel + 1) listed a w :=
 wpAnyH_take hi hs hf hr hQ (Or.inl ⟨hw, hy⟩) hS h
structure NBox (w : World) (g : Nat) (a b c : Value) : Prop where
 c0 : w.cell? ⟨g, 0, none⟩ = some a
 c1 : w.cell? ⟨g, 1, none⟩ = some b
 c2 : w.cell? ⟨g, 2, none⟩ = some c
 fr : ∀ j, w.frozen? ⟨g, j, none⟩ = false
theorem NBox.lt {w : World} {g : Nat} {a b c : Value} (h : NBox w g a b c) : g < w.heap.size := World.block_lt_of_cell? _ _ h.c0
theorem NBox.but {w w' : World} {g r : Nat} {a b c : Value} (h : NBox w g a b c) (hg : g ≠ r) (hb : But w w' r) : NBox w' g a b c := by
 have hl := h.lt
 exact ⟨(hb.cell (q := ⟨g, 0, none⟩) hl hg).trans h.c0, (hb.cell (q := ⟨g, 1, none⟩) hl hg).trans h.c1, (hb.cell (q := ⟨g, 2, none⟩) hl hg).trans h.c2, fun j => (hb.frozen (q := ⟨g, j, none⟩) hl hg).trans (h.fr j)⟩
theorem NBox.below {w w' : World} {g : Nat} {a b c : Value} (h : NBox w g a b c) (hb : Below w.heap.size w w') : NBox w' g a b c := by
 have hl := h.lt
 exact ⟨(hb.cell (p := ⟨g, 0, none⟩) hl).trans h.c0, (hb.cell (p := ⟨g, 1, none⟩) hl).trans h.c1, (hb.cell (p := ⟨g, 2, none⟩) hl).trans h.c2, fun j => (hb.frozen (p := ⟨g, j, none⟩) hl).trans (h.fr j)⟩
theorem NBox.alloc {w : World} {g : Nat} {a b c : Value} (h : NBox w g a b c) (o : Obj) : NBox (w.alloc o) g a b c := h.below ((Below.refl _ _).alloc (Nat.le_refl _) o)
theorem NBox.fresh (w : World) (a b c : Value) (t : TypeId) : NBox (w.alloc (.cells #[a, b, c] t)) w.heap.size a b c := ⟨by simp [go_sem], by simp [go_sem], by simp [go_sem], fun j => by simp [go_sem]⟩
theorem made0 (w : World) (r : Nat) : ∃ w0, w.alloc (.cells #[.string ⟨#[]⟩, .string ⟨#[]⟩, .slice none 0 0] 24) = w0 ∧ w0.heap.size = w.heap.size + 1 ∧ RowKit.Hid (NBox w0 w.heap.size (.string ⟨#[]⟩) (.string ⟨#[]⟩) (.slice none 0 0)) ∧ RowKit.Hid (But w w0 r) :=
 ⟨_, rfl, by simp, hid (NBox.fresh _ _ _ _ _), hid ((But.refl w r).alloc _)⟩
theorem NBox.set {w : World} {g : Nat} {a b c : Value} (h : NBox w g a b c) (x y z : Value) : NBox (((w.setCell ⟨g, 0, none⟩ x).setCell ⟨g, 1, none⟩ y).setCell ⟨g, 2, none⟩ z) g x y z := by
 refine ⟨?_, ?_, ?_, fun j => by rw [World.frozen?_setCell, World.frozen?_setCell, World.frozen?_setCell]; exact h.fr j⟩
 ·rw [World.cell?_setCell_other _ _ _ _ (by simp), World.cell?_setCell_other _ _ _ _ (by simp)]
  exact World.cell?_setCell_same _ _ _ h.c0
 ·rw [World.cell?_setCell_other _ _ _ _ (by simp)]
  exact World.cell?_setCell_same _ _ _ ((World.cell?_setCell_other _ _ _ _ (by simp)).trans h.c1)
 ·exact World.cell?_setCell_same _ _ _ (((World.cell?_setCell_other _ _ _ _ (by simp)).trans (World.cell?_setCell_other _ _ _ _ (by simp))).trans h.c2)
theorem But.new {w w1 : World} {r : Nat} (h : But w w1 r) (p : Addr) (hp : w.heap.size ≤ p.block) (u : Value) : But w (w1.setCell p u) r :=
 ⟨h.os, h.tape, h.output, by simpa using h.size, fun k hk hb => (Below.heap_setCell w1 p u k (by omega)).trans (h.block k hk hb)⟩
structure Rdr (w : World) (r : Nat) (A : Option Addr) (cap : Nat) (l : List W) (i : Nat) (b : Bool) : Prop where
 c0 : w.cell? ⟨r, 0, none⟩ = some (.slice A l.length cap)
 c1 : w.cell? ⟨r, 1, none⟩ = some (.int .i64 i)
 c2 : w.cell? ⟨r, 2, none⟩ = some (.bool b)
 fr : ∀ j, w.frozen? ⟨r, j, none⟩ = false
 ws : At wc 3 w r A l
theorem Rdr.lt {w : World} {r : Nat} {A : Option Addr} {cap : Nat} {l : List W} {i : Nat} {b : Bool} (h : Rdr w r A cap l i b) : r < w.heap.size := World.block_lt_of_cell? _ _ h.c0
theorem Rdr.below {w w' : World} {r : Nat} {A : Option Addr} {cap : Nat} {l : List W} {i : Nat} {b : Bool} (h : Rdr w r A cap l i b) (hb : Below w.heap.size w w') : Rdr w' r A cap l i b := by
 have hl := h.lt
 exact ⟨(hb.cell (p := ⟨r, 0, none⟩) hl).trans h.c0, (hb.cell (p := ⟨r, 1, none⟩) hl).trans h.c1, (hb.cell (p := ⟨r, 2, none⟩) hl).trans h.c2, fun j => (hb.frozen (p := ⟨r, j, none⟩) hl).trans (h.fr j), h.ws.below (hb.mono (Nat.le_of_lt hl))⟩
theorem Rdr.alloc {w : World} {r : Nat} {A : Option Addr} {cap : Nat} {l : List W} {i : Nat} {b : Bool} (h : Rdr w r A cap l i b) (o : Obj) : Rdr (w.alloc o) r A cap l i b := h.below ((Below.refl _ _).alloc (Nat.le_refl _) o)
theorem Rdr.at {w : World} {r : Nat} {A : Option Addr} {cap : Nat} {l : List W} {i : Nat} {b : Bool} (h : Rdr w r A cap l i b) (j : Nat) : Rdr (w.setCell ⟨r, 1, none⟩ (.int .i64 j)) r A cap l j b := by
 have hl := h.lt
 have f0 := h.fr 0
 refine ⟨?_, ?_, ?_, fun k => ?_, h.ws.keep fun p hp => ?_⟩
 ·rw [World.cell?_setCell_other _ _ _ _ (by simp)]; exact h.c0
 ·exact World.cell?_setCell_same _ _ _ h.c1
 ·rw [World.cell?_setCell_other _ _ _ _ (by simp)]; exact h.c2
 ·rw [World.frozen?_setCell]; exact h.fr k
 ·exact World.cell?_setCell_other _ _ _ _ (by intro e; rw [← e] at hp; exact absurd hp (Nat.lt_irrefl _))
theorem Rdr.new {w : World} {r : Nat} {A : Option Addr} {cap : Nat} {l : List W} {i : Nat} {b : Bool} (h : Rdr w r A cap l i b) (p : Addr) (hp : r < p.block) (u : Value) : Rdr (w.setCell p u) r A cap l i b := by
 have hn : ∀ q : Addr, q.block ≤ r → q ≠ p := fun q hq e => by rw [e] at hq; omega
 exact ⟨(World.cell?_setCell_other _ _ _ _ (fun e => hn ⟨r, 0, none⟩ (Nat.le_refl _) e.symm)).trans h.c0, (World.cell?_setCell_other _ _ _ _ (fun e => hn ⟨r, 1, none⟩ (Nat.le_refl _) e.symm)).trans h.c1, (World.cell?_setCell_other _ _ _ _ (fun e => hn ⟨r, 2, none⟩ (Nat.le_refl _) e.symm)).trans h.c2, fun k => by rw [World.frozen?_setCell]; exact h.fr k, h.ws.keep fun q hq => World.cell?_setCell_other _ _ _ _ (fun e => hn q (Nat.le_of_lt hq) e.symm)⟩
theorem Rdr.wrong {w : World} {r : Nat} {A : Option Addr} {cap : Nat} {l : List W} {i : Nat} {b : Bool} (h : Rdr w r A cap l i b) : Rdr (w.setCell ⟨r, 2, none⟩ (.bool true)) r A cap l i true := by
 refine ⟨?_, ?_, ?_, fun k => ?_, h.ws.keep fun p hp => ?_⟩
 ·rw [World.cell?_setCell_other _ _ _ _ (by simp)]; exact h.c0
 ·rw [World.cell?_setCell_other _ _ _ _ (by simp)]; exact h.c1
 ·exact World.cell?_setCell_same _ _ _ h.c2
 ·rw [World.frozen?_setCell]; exact h.fr k
 ·exact World.cell?_setCell_other _ _ _ _ (by intro e; rw [← e] at hp; exact absurd hp (Nat.lt_irrefl _))
theorem bare_get {l : List W} {i : Nat} (h : i < l.length) : (bare l)[i]? = some (l[i].1, l[i].2.1) := by
 unfold bare
 rw [List.getElem?_map, List.getElem?_eq_getElem h]
 rfl
theorem bare_none {l : List W} {i : Nat} (h : ¬ i < l.length) : (bare l)[i]? = none := List.getElem?_eq_none (by rw [bare_length]; omega)
end Go.Proofs.YthpmgnfmeldkjaaGreatDoor.Code
/-
  The plain mathematics of package num: what a sum, a product, a narrowing, a zigzag, a flip and eight bytes come to. No program is named here.
-/
namespace Go.Proofs.YthpmgnfmeldkjaaGreatDoor.Num
open Go.RowKit
def fits (n : Int) : Prop := -9223372036854775808 ≤ n ∧ n ≤ 9223372036854775807
def fitV (n : Int) : Int := if -9223372036854775808 ≤ n ∧ n ≤ 9223372036854775807 then n else 0
def fitE (n : Int) : Int := if -9223372036854775808 ≤ n ∧ n ≤ 9223372036854775807 then 0 else 11
theorem fitV_in {n : Int} (h : fits n) : fitV n = n := if_pos h
theorem fitE_in {n : Int} (h : fits n) : fitE n = 0 := if_pos h
theorem fitV_out {n : Int} (h : ¬ fits n) : fitV n = 0 := if_neg h
theorem fitE_out {n : Int} (h : ¬ fits n) : fitE n = 11 := if_neg h
theorem fitV_fits (n : Int) : fits (fitV n) := by
 unfold fitV; split
 ·assumption
 ·unfold fits; omega
theorem ret2 {k l : IntKind} {a b c d : Int} (h : a = c) (g : b = d) : Ending.returned (.tuple #[.int k a, .int l b]) = .returned (.tuple #[.int k c, .int l d]) := by rw [h, g]
theorem wrap_fits (n : Int) : fits (wrap64 n) := by unfold fits wrap64; omega
theorem wrap_in {n : Int} (h : fits n) : wrap64 n = n := by unfold fits at h; unfold wrap64; omega
theorem wrap_mod (n : Int) : ∃ k : Int, wrap64 n = n + 18446744073709551616 * k := ⟨-((n + 9223372036854775808) / 18446744073709551616), by unfold wrap64; omega⟩
theorem tdiv_small {p a : Int} (hp : fits p) (h0 : a ≠ 0) (h1 : a ≠ -1) : fits (p.tdiv a) := by
 have e := Int.mul_tdiv_add_tmod p a
 have hn := Int.natAbs_tdiv p a
 have hq : (p.tdiv a).natAbs ≤ p.natAbs := by rw [hn]; exact Nat.div_le_self _ _
 unfold fits at *
 by_cases hm : p = -9223372036854775808
 ·by_cases ha : a = 1
  ·subst ha; rw [Int.tdiv_one]; exact hp
  ·have h2 : 2 ≤ a.natAbs := by omega
   have h3 : (p.tdiv a).natAbs ≤ p.natAbs / 2 := by
    rw [hn]; exact Nat.div_le_div_left h2 (by omega)
   omega
 ·omega
theorem tmod_small (p a : Int) (h0 : a ≠ 0) : (p.tmod a).natAbs < a.natAbs := by
 rw [Int.natAbs_tmod]; exact Nat.mod_lt _ (by omega)
theorem mul_test {a b : Int} (ha : fits a) (h0 : a ≠ 0) (h1 : a ≠ -1) :
  wrap64 ((wrap64 (a * b)).tdiv a) = b ↔ fits (a * b) := by
 rw [wrap_in (tdiv_small (wrap_fits _) h0 h1)]
 constructor
 ·intro h
  obtain ⟨k, hk⟩ := wrap_mod (a * b)
  have e := Int.mul_tdiv_add_tmod (wrap64 (a * b)) a
  have hr := tmod_small (wrap64 (a * b)) a h0
  rw [h] at e
  have hz : (wrap64 (a * b)).tmod a = 0 := by unfold fits at ha; omega
  rw [hz] at e
  have := wrap_fits (a * b)
  rw [← e] at this
  simpa using this
 ·intro h
  rw [wrap_in h]
  exact Int.mul_tdiv_cancel_left b h0
open Go.ChangeShapes Go.WideShapes Go.ChangeAt
end Go.Proofs.YthpmgnfmeldkjaaGreatDoor.Num
/-
  Contracts of lex's functions of a byte, and of the document's: which is a blank, a figure, a letter, a name's; how long a word may be.
-/
namespace Go.Proofs.YthpmgnfmeldkjaaGreatDoor.Code
open Go.ChangeShapes Go.WideShapes Go.ChangeAt Go.RowKit Val
theorem blank_any (c : UInt8) (w : World) :
  Calls Tryz.prog 192 #[.int .u8 c.toNat] w fun e w' => e = .returned (.bool (blankB c)) ∧ w = w' := by
 go_enter Tryz.func192, Tryz.ntmps192
 go_wp2
 all_goals go_ret
 all_goals (refine ⟨retB ?_, rfl⟩; rw [Bool.eq_iff_iff]; unfold blankB; simp only [Bool.or_eq_true, Bool.and_eq_true, decide_eq_true_eq, beq_iff_eq]; first | omega | (simp; omega))
theorem figure_any (c : UInt8) (w : World) :
  Calls Tryz.prog 235 #[.int .u8 c.toNat] w fun e w' => e = .returned (.bool (figB c)) ∧ w = w' := by
 go_enter Tryz.func235, Tryz.ntmps235
 go_wp2
 all_goals go_ret
 all_goals (refine ⟨retB ?_, rfl⟩; rw [Bool.eq_iff_iff]; unfold figB; simp only [Bool.or_eq_true, Bool.and_eq_true, decide_eq_true_eq, beq_iff_eq]; first | omega | (simp; omega))
theorem letter_any (c : UInt8) (w : World) :
  Calls Tryz.prog 237 #[.int .u8 c.toNat] w fun e w' => e = .returned (.bool (letB c)) ∧ w = w' := by
 go_enter Tryz.func237, Tryz.ntmps237
 go_wp2
 all_goals go_ret
 all_goals (refine ⟨retB ?_, rfl⟩; rw [Bool.eq_iff_iff]; unfold letB; simp only [Bool.or_eq_true, Bool.and_eq_true, decide_eq_true_eq, beq_iff_eq]; first | omega | (simp; omega))
theorem rfigure_any (c : UInt8) (w : World) :
  Calls Tryz.prog 140 #[.int .u8 c.toNat] w fun e w' => e = .returned (.bool (figB c)) ∧ w = w' := by
 go_enter Tryz.func140, Tryz.ntmps140
 go_wp2
 all_goals go_ret
 all_goals (refine ⟨retB ?_, rfl⟩; rw [Bool.eq_iff_iff]; unfold figB; simp only [Bool.or_eq_true, Bool.and_eq_true, decide_eq_true_eq, beq_iff_eq]; first | omega | (simp; omega))
theorem rletter_any (c : UInt8) (w : World) :
  Calls Tryz.prog 139 #[.int .u8 c.toNat] w fun e w' => e = .returned (.bool (letB c)) ∧ w = w' := by
 go_enter Tryz.func139, Tryz.ntmps139
 go_wp2
 all_goals go_ret
 all_goals (refine ⟨retB ?_, rfl⟩; rw [Bool.eq_iff_iff]; unfold letB; simp only [Bool.or_eq_true, Bool.and_eq_true, decide_eq_true_eq, beq_iff_eq]; first | omega | (simp; omega))
theorem inName_any (c : UInt8) (w : World) :
  Calls Tryz.prog 238 #[.int .u8 c.toNat] w fun e w' => e = .returned (.bool (nameB c)) ∧ w = w' := by
 go_enter Tryz.func238, Tryz.ntmps238
 go_wp2_with fail
 refine (letter_any c _).mono ?_
 rintro e w1 ⟨rfl, rfl⟩
 have HL := hid (show nameB c = (letB c || figB c || decide (c.toNat = 95)) by rfl)
 cases hl : letB c
 ·have HL := hid (HL.out.trans (by rw [hl]) : nameB c = (false || figB c || decide (c.toNat = 95)))
  go_wp2_with fail
  refine (figure_any c _).mono ?_
  rintro e w1 ⟨rfl, rfl⟩
  cases hf : figB c
  ·have HL := hid (HL.out.trans (by rw [hf]) : nameB c = (false || false || decide (c.toNat = 95)))
   go_wp2
   all_goals go_ret
   all_goals (refine ⟨retB ?_, rfl⟩; rw [HL.out, Bool.eq_iff_iff]; simp only [Bool.false_or, decide_eq_true_eq, beq_iff_eq]; first | omega | (simp; omega))
  ·have HL := hid (HL.out.trans (by rw [hf]; rfl) : nameB c = true)
   go_wp2
   all_goals go_ret
   all_goals (refine ⟨retB ?_, rfl⟩; rw [HL.out])
 ·have HL := hid (HL.out.trans (by rw [hl]; rfl) : nameB c = true)
  go_wp2
  all_goals go_ret
  all_goals (refine ⟨retB ?_, rfl⟩; rw [HL.out])
def longK (k : Int) : Int := if k = 0 then 20 else if k = 1 then 19 else if k = 2 then 200 else 2
theorem longest_any (k : Int) (w : World) :
  Calls Tryz.prog 214 #[.int .i64 k] w fun e w' => e = .returned (.int .i64 (longK k)) ∧ w = w' := by
 by_cases h0 : k = 0
 ·subst h0
  go_enter Tryz.func214, Tryz.ntmps214
  go_wp2
  go_ret
  exact ⟨rfl, rfl⟩
 by_cases h1 : k = 1
 ·subst h1
  go_enter Tryz.func214, Tryz.ntmps214
  go_wp2
  go_ret
  exact ⟨rfl, rfl⟩
 by_cases h2 : k = 2
 ·subst h2
  go_enter Tryz.func214, Tryz.ntmps214
  go_wp2
  go_ret
  exact ⟨rfl, rfl⟩
 have HK := hid (show longK k = 2 by unfold longK; rw [if_neg h0, if_neg h1, if_neg h2])
 have e0 : (k == 0) = false := by simpa using h0
 have e1 : (k == 1) = false := by simpa using h1
 have e2 : (k == 2) = false := by simpa using h2
 clear h0 h1 h2
 go_enter Tryz.func214, Tryz.ntmps214
 go_wp2
 go_ret
 exact ⟨ret1 HK.out.symm, rfl⟩
def Ints (w : World) (B : Nat) (A : Option Addr) (l : List Int) : Prop := ∀ (i : Nat) (h : i < l.length), ∃ ad : Addr, A = some ad ∧ ad.block < B ∧ w.cell? (ad.add i) = some (.int .i64 l[i])
theorem Ints.keep {w w' : World} {B : Nat} {A : Option Addr} {l : List Int} (h : Ints w B A l) (hk : ∀ p : Addr, p.block < B → w'.cell? p = w.cell? p) : Ints w' B A l := by
 intro i hi
 obtain ⟨ad, e, hb, h0⟩ := h i hi
 exact ⟨ad, e, hb, (hk _ (by rw [add_block]; exact hb)).trans h0⟩
theorem Ints.below {w w' : World} {B : Nat} {A : Option Addr} {l : List Int} (h : Ints w B A l) (hb : Below B w w') : Ints w' B A l := h.keep fun _ hp => hb.cell hp
theorem Ints.more {w : World} {B B' : Nat} {A : Option Addr} {l : List Int} (h : Ints w B A l) (hB : B ≤ B') : Ints w B' A l := by
 intro i hi
 obtain ⟨ad, e, hb, h0⟩ := h i hi
 exact ⟨ad, e, by omega, h0⟩
end Go.Proofs.YthpmgnfmeldkjaaGreatDoor.Code
/-
  The contract of the document's Right of a value, for every argument (cut out of CodeVal).
-/
namespace Go.Proofs.YthpmgnfmeldkjaaGreatDoor.Val
open Go.ChangeShapes Go.WideShapes Go.ChangeAt Go.RowKit
end Go.Proofs.YthpmgnfmeldkjaaGreatDoor.Val
namespace Go.Proofs.YthpmgnfmeldkjaaGreatDoor.Code
open Go.ChangeShapes Go.WideShapes Go.ChangeAt Go.RowKit Val
end Go.Proofs.YthpmgnfmeldkjaaGreatDoor.Code
namespace Go.Proofs.YthpmgnfmeldkjaaGreatDoor.Val
end Go.Proofs.YthpmgnfmeldkjaaGreatDoor.Val
/-
  The contract of the document's Right of rows.
-/
namespace Go.Proofs.YthpmgnfmeldkjaaGreatDoor.Code
open Go.ChangeShapes Go.WideShapes Go.ChangeAt Go.RowKit Val
end Go.Proofs.YthpmgnfmeldkjaaGreatDoor.Code
/-
  Contracts of num.Narrow, value.holds and value.Right, for every argument (cut out of CodeVal).
-/
namespace Go.Proofs.YthpmgnfmeldkjaaGreatDoor.Val
open Go.ChangeShapes Go.WideShapes Go.ChangeAt Go.RowKit
def nrE (n : Int) : Int := if -2147483648 ≤ n ∧ n ≤ 2147483647 then 0 else 12
def nrV (n : Int) : Int := if -2147483648 ≤ n ∧ n ≤ 2147483647 then n else 0
theorem narrow_any (a : Int) (w : World) (ha : fits a) :
  Calls Tryz.prog 256 #[.int .i64 a] w fun e w' => e = .returned (.tuple #[.int .i32 (nrV a), .int .i64 (nrE a)]) ∧ w = w' := by
 unfold fits at ha
 go_enter Tryz.func256, Tryz.ntmps256
 go_wp2
 all_goals go_ret2
 all_goals refine ⟨ret2 ?_ ?_, rfl⟩
 all_goals (try unfold wrap64 at *)
 all_goals (try unfold wrap32 at *)
 all_goals (first | unfold nrV | unfold nrE)
 all_goals ((try simp at *) <;> omega)
theorem holds_any (k n : Int) (w : World) (hn : fits n) :
  Calls Tryz.prog 242 #[.int .i64 k, .int .i64 n] w fun e w' => e = .returned (.bool (holdsB k n)) ∧ w = w' := by
 by_cases h1 : k = 1
 ·subst h1
  unfold fits at hn
  go_enter Tryz.func242, Tryz.ntmps242
  go_wp2
  go_ret
  exact ⟨retB (by unfold holdsB; rw [if_pos rfl]; refine decide_eq_decide.2 ?_; rw [IntKind.wrap_u64]; omega), rfl⟩
 by_cases h2 : k = 2
 ·subst h2
  go_enter Tryz.func242, Tryz.ntmps242
  go_wp2_with (go_at_call 256; refine (narrow_any _ _ hn).mono ?_; rintro e w' ⟨rfl, rfl⟩)
  go_ret
  exact ⟨retB (by unfold holdsB nrE; by_cases h : -2147483648 ≤ n ∧ n ≤ 2147483647 <;> simp [h]), rfl⟩
 ·have e1 : (k == 1) = false := by simpa using h1
  have e2 : (k == 2) = false := by simpa using h2
  go_enter Tryz.func242, Tryz.ntmps242
  go_wp2
  go_ret
  exact ⟨retB (by unfold holdsB; by_cases h3 : k = 3 <;> simp [h1, h2, h3]), rfl⟩
theorem right_any (k n : Int) (s : ByteArray) (w : World) (hn : fits n) :
  Calls Tryz.prog 219 #[.agg #[.int .i64 k, .int .i64 n, .string s]] w fun e w' => e = .returned (.bool (rightB k n s)) ∧ Below w.heap.size w w' := by
 have hb0 : ∀ o, Below w.heap.size w (w.alloc o) := fun o => (Below.refl _ _).alloc (Nat.le_refl _) o
 by_cases h4 : k = 4
 ·subst h4
  by_cases hl : s.size ≤ 200
  ·have hl' : decide (200 < s.size) = false := by simpa using hl
   by_cases h0 : n = 0
   all_goals
    go_enter Tryz.func219, Tryz.ntmps219
    go_wp2
    go_ret
    exact ⟨retB (by unfold rightB; simp [h0, hl]), by first | exact hb0 _ | exact (hb0 _).setCell (by simp) _⟩
  ·have hl' : 200 < s.size := by omega
   go_enter Tryz.func219, Tryz.ntmps219
   go_wp2
   go_ret
   exact ⟨retB (by unfold rightB; simp; omega), by first | exact hb0 _ | exact (hb0 _).setCell (by simp) _⟩
 by_cases hk0 : k = 0
 ·subst hk0
  by_cases hs : s.size = 0
  ·obtain rfl := size0 hs
   by_cases h0 : n = 0
   all_goals
    go_enter Tryz.func219, Tryz.ntmps219
    go_wp2
    go_ret
    exact ⟨retB (by unfold rightB; simp [h0]; try rfl), hb0 _⟩
  ·obtain ⟨e1, e2, e3⟩ := size_pos hs
   by_cases h0 : n = 0
   all_goals
    go_enter Tryz.func219, Tryz.ntmps219
    go_wp2
    go_ret
    exact ⟨retB (by unfold rightB; simp [h0, hs]), hb0 _⟩
 have k4 : (k == 4) = false := by simpa using h4
 have k0 : (k == 0) = false := by simpa using hk0
 by_cases hs : s.size = 0
 ·obtain rfl := size0 hs
  go_enter Tryz.func219, Tryz.ntmps219
  go_wp2_with (go_at_call 242; refine (holds_any _ _ _ hn).mono ?_; rintro e w' ⟨rfl, rfl⟩)
  all_goals go_ret
  all_goals exact ⟨retB (by unfold rightB; simp [h4, hk0]; try (intro _; rfl)), hb0 _⟩
 ·obtain ⟨e1, e2, e3⟩ := size_pos hs
  go_enter Tryz.func219, Tryz.ntmps219
  go_wp2_with (go_at_call 242; refine (holds_any _ _ _ hn).mono ?_; rintro e w' ⟨rfl, rfl⟩)
  all_goals go_ret
  all_goals exact ⟨retB (by unfold rightB; simp [h4, hk0, hs]), hb0 _⟩
end Go.Proofs.YthpmgnfmeldkjaaGreatDoor.Val
namespace Go.Proofs.YthpmgnfmeldkjaaGreatDoor.Code
open Go.ChangeShapes Go.WideShapes Go.ChangeAt Go.RowKit Val
theorem right_is (k n : Int) (s : ByteArray) (b : Bool) (hn : fits n) (h : rightB k n s = b) (w : World) :
  Calls Tryz.prog 219 #[.agg #[.int .i64 k, .int .i64 n, .string s]] w fun e w' => e = .returned (.bool b) ∧ Below w.heap.size w w' := by
 have := right_any k n s w hn
 rw [h] at this
 exact this
end Go.Proofs.YthpmgnfmeldkjaaGreatDoor.Code
namespace Go.Proofs.YthpmgnfmeldkjaaGreatDoor.Val
end Go.Proofs.YthpmgnfmeldkjaaGreatDoor.Val
namespace Go.Proofs.YthpmgnfmeldkjaaGreatDoor.Code
open Go.ChangeShapes Go.WideShapes Go.ChangeAt Go.RowKit Val
set_option linter.unusedVariables false
end Go.Proofs.YthpmgnfmeldkjaaGreatDoor.Code
/-
  The builder's writers and strings.Clone of Go's library at this translation: what they keep beside the builder.
-/
namespace Go.Proofs.YthpmgnfmeldkjaaGreatDoor.Code
open Go.Shelf Go.RowKit
def Bld (B b : Nat) (l : List UInt8) (w : World) : Prop := Lib.IsBuilderF 71 5 B b (Lib.byteCells l) w
theorem writeString_k (B b : Nat) (l : List UInt8) (s : ByteArray) (w : World) (h : Bld B b l w) (hlen : l.length + s.size ≤ 140737488355328) (hBw : B ≤ w.heap.size) :
  Calls Tryz.prog 72 #[.pointer (some ⟨b, 0, none⟩), .string s] w fun e w' => e = .returned (.tuple #[.int .i64 s.size, .nilIface]) ∧ Bld B b (l ++ s.data.toList) w' ∧ Below B w w' ∧ Lib.OthersKept 5 (some b) w w' := by
 refine (Any.Builder_WriteString_k { Tryz.lays155 with } Tryz.Builder_Extra_155 B b (Lib.byteCells l) s w h (by simpa [Lib.byteCells] using hlen) hBw).mono ?_
 rintro e w' ⟨he, h1, h2, h3⟩
 refine ⟨he, Or.inr ?_, h2, h3⟩
 have e1 : Lib.byteCells (l ++ s.data.toList) = Lib.byteCells l ++ Lib.strCells s := by simp [Lib.byteCells, Lib.strCells]
 rw [e1]
 exact h1
theorem string_k (B b : Nat) (l : List UInt8) (w : World) (h : Bld B b l w) (hBw : B ≤ w.heap.size) :
  Calls Tryz.prog 32 #[.pointer (some ⟨b, 0, none⟩)] w fun e w' => e = .returned (.string ⟨l.toArray⟩) ∧ Bld B b l w' ∧ Below B w w' ∧ Lib.OthersKept 5 (some b) w w' :=
 Any.Builder_String_any_k Tryz.lays169 Tryz.Builder_Extra_169 B b l w h hBw
theorem Bld.fresh (w : World) : Bld w.heap.size w.heap.size [] (w.alloc (.cells #[.pointer none, .slice none 0 0] 71)) :=
 Lib.IsBuilderF.of (Lib.fresh_isBuilder _ _ w)
theorem Bld.call {B b : Nat} {l : List UInt8} {w w' : World} (h : Bld B b l w) (hb : Below w.heap.size w w') : Bld B b l w' := by
 refine h.elim (fun x => .inl ?_) (fun x => .inr ?_)
 all_goals
  obtain ⟨hB, v, hbk, hown, hne⟩ := x
  have hlt : b < w.heap.size := (Array.getElem?_eq_some_iff.1 hbk).1
  refine ⟨hB, v, (hb.block _ hlt).trans hbk, ⟨hown.1, ?_⟩, hne⟩
  rcases hown.2 with hn | ⟨g, cap, cur, fz, hv, hbg, hg, rest⟩
  ·exact .inl hn
  ·have hg2 : g < w.heap.size := (Array.getElem?_eq_some_iff.1 hg).1
   exact .inr ⟨g, cap, cur, fz, hv, hbg, (hb.block _ hg2).trans hg, rest⟩
theorem Bld.alloc {B b : Nat} {l : List UInt8} {w : World} (h : Bld B b l w) (o : Obj) : Bld B b l (w.alloc o) := h.call ((Below.refl _ _).alloc (Nat.le_refl _) o)
theorem Bld.lt {B b : Nat} {l : List UInt8} {w : World} (h : Bld B b l w) : b < w.heap.size := by
 rcases h with ⟨_, v, hbk, _⟩ | ⟨_, v, hbk, _⟩
 all_goals exact (Array.getElem?_eq_some_iff.1 hbk).1
end Go.Proofs.YthpmgnfmeldkjaaGreatDoor.Code
/-
  Contracts of package code's put and body, for every argument (cut out of CodeCalls).
-/
namespace Go.Proofs.YthpmgnfmeldkjaaGreatDoor.Code
open Go.ChangeShapes Go.WideShapes Go.ChangeAt Go.RowKit Val
theorem retS {a c : ByteArray} (h : a = c) : Ending.returned (.string a) = .returned (.string c) := by rw [h]
theorem ba_of {a : ByteArray} {l : List UInt8} (h : a.data.toList = l) : a = ⟨l.toArray⟩ := by
 obtain ⟨⟨m⟩⟩ := a
 simp at h
 rw [h]
theorem strCat (l m : List UInt8) : (⟨l.toArray⟩ : ByteArray) ++ (⟨m.toArray⟩ : ByteArray) = ⟨(l ++ m).toArray⟩ :=
 ba_of (Go.Joins.data_append _ _)
theorem one_at (s : ByteArray) (k : Nat) (h : k < s.size) : s.extract k (k + 1) = ⟨#[s[k]]⟩ := by
 refine ba_of ?_
 have hl : s.data.toList.length = s.size := rfl
 rw [ByteArray.data_extract, Array.toList_extract, List.extract_eq_take_drop, List.drop_eq_getElem_cons (by omega), show k + 1 - k = 1 by omega]
 rfl
theorem strV {a b : ByteArray} (h : a = b) : Value.string a = Value.string b := by rw [h]
theorem list_get (s : ByteArray) (j : Nat) (h : j < s.size) (h' : j < s.data.toList.length) : s.data.toList[j] = s[j] := rfl
theorem run_any (p : UInt8 → Bool) (fn : Nat) (en : ∀ args w, (callFunc fn args).run Tryz.prog w = .ok (.enter fn args) w)
  (hp : ∀ (c : UInt8) (w : World), Calls Tryz.prog fn #[.int .u8 c.toNat] w fun e w' => e = .returned (.bool (p c)) ∧ w = w') (s : ByteArray) (w : World) (hs : s.size ≤ 281474976710656) :
  Calls Tryz.prog 236 #[.string s, .func (.func fn) #[] #[]] w fun e w' => e = .returned (.int .i64 (runL p s.data.toList : Nat)) ∧ w = w' := by
 have HP := hid hp
 clear hp
 go_enter Tryz.func236, Tryz.ntmps236
 go_wp2
 go_loop [5] (fun t => ∃ n : Nat, n ≤ s.size ∧ t = .int .i64 n ∧ n ≤ runL p s.data.toList) (fun t => s.size - (intOf t).toNat)
 case atStart => exact ⟨0, by omega, rfl, by omega⟩
 case round =>
  obtain ⟨n, hn, rfl, hr⟩ := hrel
  have HR := hid hr
  clear hr
  by_cases hlt : n < s.size
  ·obtain ⟨c, hc⟩ : ∃ c, s[n] = c := ⟨_, rfl⟩
   cases hpc : p c
   ·have HE := hid (runL_stop p s.data.toList n hlt HR.out (by rw [list_get s n hlt, hc, hpc]))
    have HP2 := hid (fun w => (HP.out c w).mono (R' := fun e w' => e = .returned (.bool false) ∧ w = w') (by rintro e w' ⟨h1, h2⟩; exact ⟨by rw [h1, hpc], h2⟩))
    clear hpc
    go_wp2_with fail
    refine (HP2.out _).mono ?_
    rintro e w1 ⟨rfl, rfl⟩
    go_wp2
    go_ret
    exact ⟨ret1 (by rw [HE.out]), rfl⟩
   ·have HE := hid (runL_step p s.data.toList n hlt HR.out (by rw [list_get s n hlt, hc, hpc]))
    have HP2 := hid (fun w => (HP.out c w).mono (R' := fun e w' => e = .returned (.bool true) ∧ w = w') (by rintro e w' ⟨h1, h2⟩; exact ⟨by rw [h1, hpc], h2⟩))
    clear hpc
    go_wp2_with fail
    refine (HP2.out _).mono ?_
    rintro e w1 ⟨rfl, rfl⟩
    go_wp2
    go_round
    case rel => exact ⟨n + 1, by omega, by go_num, HE.out⟩
    case measure => simp [intOf]; omega
  ·have HE := hid (show runL p s.data.toList = n by have := runL_le p s.data.toList; have := HR.out; rw [← size_list] at *; omega)
   go_wp2
   go_ret
   exact ⟨ret1 (by rw [HE.out]), rfl⟩
theorem u8_no39 {b : UInt8} (h : ¬ b = 39) : ((b.toNat : Int) == 39) = false := by
 have : b.toNat ≠ 39 := fun e => h (UInt8.toNat_inj.1 e)
 simp
 omega
theorem u8_nq39 {b : UInt8} (h : ¬ b = 39) : ((b.toNat : Int) != 39) = true := by
 have : b.toNat ≠ 39 := fun e => h (UInt8.toNat_inj.1 e)
 simp
 omega
theorem quoted_any (s : ByteArray) (w : World) (hs : s.size ≤ 281474976710656) (h1 : 1 ≤ s.size) :
  Calls Tryz.prog 234 #[.string s] w fun e w' => e = .returned (.int .i64 (quoN s.data.toList : Nat)) ∧ w = w' := by
 go_enter Tryz.func234, Tryz.ntmps234
 go_wp2
 go_loop [3] (fun t => ∃ n : Nat, n ≤ s.size ∧ t = .int .i64 n ∧ 1 ≤ n ∧ Hid (∃ out, quoI s.data.toList n out)) (fun t => s.size - (intOf t).toNat)
 case atStart => exact ⟨1, by omega, rfl, by omega, hid ⟨[], quoI_start _⟩⟩
 case round =>
  obtain ⟨n, hn, rfl, hn1, HO⟩ := hrel
  by_cases hlt : n < s.size
  ·obtain ⟨c, hc⟩ : ∃ c, s[n] = c := ⟨_, rfl⟩
   by_cases hc39 : c = 39
   ·subst hc39
    by_cases hlt2 : n + 1 < s.size
    ·obtain ⟨d, hd⟩ : ∃ d, s[n + 1] = d := ⟨_, rfl⟩
     by_cases hd39 : d = 39
     ·subst hd39
      have HE := hid (show ∃ out, quoI s.data.toList (n + 2) out by
       obtain ⟨out, h⟩ := HO.out
       exact ⟨_, quoI_two h (show n + 1 < s.data.toList.length from hlt2) ((list_get s n hlt hlt).trans hc) ((list_get s (n + 1) hlt2 hlt2).trans hd)⟩)
      go_wp2
      go_round
      case rel => exact ⟨n + 2, by omega, by go_num, by omega, HE⟩
      case measure => simp [intOf]; omega
     ·have HE := hid (show quoN s.data.toList = n + 1 by
       obtain ⟨out, h⟩ := HO.out
       exact (quoI_end h (show n < s.data.toList.length from hlt) ((list_get s n hlt hlt).trans hc) (fun g e => hd39 (hd.symm.trans ((list_get s (n + 1) hlt2 g).symm.trans e)))).1)
      have i0 := u8_no39 hd39
      clear hd39
      go_wp2
      go_ret
      exact ⟨ret1 (by rw [HE.out]; go_num), rfl⟩
    ·have HE := hid (show quoN s.data.toList = n + 1 by
      obtain ⟨out, h⟩ := HO.out
      exact (quoI_end h (show n < s.data.toList.length from hlt) ((list_get s n hlt hlt).trans hc) (fun g => absurd g hlt2)).1)
     go_wp2
     go_ret
     exact ⟨ret1 (by rw [HE.out]; go_num), rfl⟩
   ·have HE := hid (show ∃ out, quoI s.data.toList (n + 1) out by
     obtain ⟨out, h⟩ := HO.out
     exact ⟨_, quoI_other h (show n < s.data.toList.length from hlt) (by rw [list_get s n hlt, hc]; exact hc39)⟩)
    have i0 := u8_no39 hc39
    have i1 := u8_nq39 hc39
    clear hc39
    go_wp2
    go_round
    case rel => exact ⟨n + 1, by omega, by go_num, by omega, HE⟩
    case measure => simp [intOf]; omega
  ·have HE := hid (show quoN s.data.toList = 0 by
    obtain ⟨out, h⟩ := HO.out
    exact (quoI_none h (by rw [← size_list]; omega)).1)
   go_wp2
   go_ret
   exact ⟨ret1 (by rw [HE.out]; rfl), rfl⟩
end Go.Proofs.YthpmgnfmeldkjaaGreatDoor.Code
