/-
  Words as an expression's reader sees them: a mark is none of the language's own names; a figure's number as Go's library reads it. No program is named here.
-/
import Derived.Test.YtjbpkpfmgbhlpaaGreatDoorMr3
import Derived.Lib.ParseIntBCases
import Derived.Test.YtjbpkpfmgbhlpaaGreatDoorMr2
import Derived.Lib.OthersKept
import Derived.Lib.OwnKind
import Derived.Lib.AppendStr
import Derived.Lib.UnsafeStr
import Derived.Lib.Builder
import Derived.Maps.OwnOps
import Derived.Maps.OwnSet
import Derived.Test.YtjbpkpfmgbhlpaaGreatDoorMr1
set_option maxRecDepth 100000
set_option maxHeartbeats 16000000
open Go.Lib (hid)
namespace Go.Proofs.YtjbpkpfmgbhlpaaGreatDoor.Code
open Val
set_option linter.unusedVariables false
def MarkW (l : List W) : Prop := ∀ w ∈ l, w.1 = 3 → ownL w.2.1 = false
theorem let_own (c d : UInt8) (h : letB c = false) : ownL [c, d] = false := by
 unfold ownL
 simp only [Bool.or_eq_false_iff]
 have h1 : c ≠ 111 := fun e => by rw [e] at h; revert h; decide
 have h2 : c ≠ 105 := fun e => by rw [e] at h; revert h; decide
 simp [h1, h2]
theorem one_own (c : UInt8) : ownL [c] = false := by
 unfold ownL
 simp
theorem came_mark {l : List W} (h : CameB l) : MarkW l := by
 intro w hw hk
 have hf := h w hw
 rw [hk, show showW 3 w.2.1 = w.2.1 from rfl] at hf
 rcases first_cases hf with ⟨c, r, _, _, e, _⟩ | ⟨c, r, _, _, _, e, _⟩ | ⟨r, _, e, _⟩ | ⟨c, d, r, _, hl, _, _, _, e, ht, _⟩ | ⟨c, r, _, _, _, _, _, _, e, ht, _⟩
 ·exact absurd e (by decide)
 ·exact absurd e (by decide)
 ·exact absurd e (by decide)
 ·rw [ht]; exact let_own c d hl
 ·rw [ht]; exact one_own c
theorem came_kind {l : List W} (h : CameB l) : ∀ w ∈ l, w.1 = 0 ∨ w.1 = 1 ∨ w.1 = 2 ∨ w.1 = 3 := by
 intro w hw
 rcases first_cases (h w hw) with ⟨c, r, _, _, e, _⟩ | ⟨c, r, _, _, _, e, _⟩ | ⟨r, _, e, _⟩ | ⟨c, d, r, _, _, _, _, _, e, _⟩ | ⟨c, r, _, _, _, _, _, _, e, _⟩
 ·exact .inl e
 ·exact .inr (.inl e)
 ·exact .inr (.inr (.inl e))
 ·exact .inr (.inr (.inr e))
 ·exact .inr (.inr (.inr e))
theorem bare_in {l : List W} {i : Nat} (h : i < l.length) : (bare l)[i]? = some (l[i].1, l[i].2.1) := by
 unfold bare
 rw [List.getElem?_map, List.getElem?_eq_getElem h]
 rfl
theorem bare_out {l : List W} {i : Nat} (h : ¬ i < l.length) : (bare l)[i]? = none := List.getElem?_eq_none (by rw [bare_length]; omega)
def kindL (s : List UInt8) : Int := if ownL s = true then 0 else 3
theorem isW_in {l : List W} (hm : MarkW l) {i : Nat} (hi : i < l.length) (s : List UInt8) : isW (bare l) i false s = (l[i].2.1 == s && l[i].1 == kindL s) := by
 unfold isW
 rw [bare_in hi]
 dsimp only
 have h := hm l[i] (List.getElem_mem hi)
 obtain ⟨x, hx⟩ : ∃ x, l[i] = x := ⟨_, rfl⟩
 rw [hx] at h ⊢
 obtain ⟨k, t, p⟩ := x
 dsimp only at h ⊢
 cases hs : t == s
 ·simp
 ·have e : t = s := by simpa using hs
  subst e
  unfold kindL
  cases ho : ownL t
  ·simp
  ·by_cases hk : k = 3
   ·rw [h hk] at ho; cases ho
   ·simp [hk]
theorem isW_out {l : List W} {i : Nat} (hi : ¬ i < l.length) (b : Bool) (s : List UInt8) : isW (bare l) i b s = false := by
 unfold isW
 rw [bare_out hi]
theorem isK_in {l : List W} {i : Nat} (hi : i < l.length) (k : Int) : isK (bare l) i false k = (l[i].1 == k) := by
 unfold isK
 rw [bare_in hi]
 simp
theorem isK_out {l : List W} {i : Nat} (hi : ¬ i < l.length) (b : Bool) (k : Int) : isK (bare l) i b k = false := by
 unfold isK
 rw [bare_out hi]
theorem txt_in {l : List W} {i : Nat} (hi : i < l.length) : txt (bare l) i = l[i].2.1 := by
 unfold txt
 rw [bare_in hi]
theorem fig_nat {c : UInt8} (h : figB c = true) : 48 ≤ c.toNat ∧ c.toNat ≤ 57 := by
 unfold figB at h
 simpa using h
theorem big_mag (a : Nat) (h : 9223372036854775808 ≤ a) : ∀ s : List UInt8, (∀ c ∈ s, figB c = true) → Lib.parseUintM (2 ^ 64 - 1) a s = .range ∨ Lib.parseUintM (2 ^ 64 - 1) a s = .ok a
 | [], _ => .inr rfl
 | c :: r, hf => by
  left
  rw [Lib.parseUintM, if_pos (fig_nat (hf c (by simp))), if_pos (by omega)]
theorem num_mag : ∀ (s : List UInt8) (n : Nat), (∀ c ∈ s, figB c = true) → n ≤ 9223372036854775807 →
  (∀ v : Int, numF s n = some v → ∃ u : Nat, v = u ∧ u ≤ 9223372036854775807 ∧ Lib.parseUintM (2 ^ 64 - 1) n s = .ok u) ∧
  (numF s n = none → Lib.parseUintM (2 ^ 64 - 1) n s = .range ∨ ∃ u, 9223372036854775808 ≤ u ∧ Lib.parseUintM (2 ^ 64 - 1) n s = .ok u)
 | [], n, _, hn => ⟨fun v h => ⟨n, by rw [numF] at h; exact (Option.some.inj h).symm, hn, rfl⟩, fun h => by rw [numF] at h; cases h⟩
 | c :: s, n, hf, hn => by
  have hc := fig_nat (hf c (by simp))
  have hs : ∀ d ∈ s, figB d = true := fun d hd => hf d (List.mem_cons_of_mem _ hd)
  obtain ⟨d, hd⟩ : ∃ d, c.toNat - 48 = d := ⟨_, rfl⟩
  have hdi : (c.toNat : Int) - 48 = d := by omega
  rw [numF, Lib.parseUintM, if_pos hc, hd, hdi]
  by_cases hb : n * 10 + d ≤ 9223372036854775807
  ·rw [if_neg (by omega), if_neg (by omega), if_neg (by omega)]
   have ih := num_mag s (n * 10 + d) hs hb
   have e : (10 * (n : Int) + (d : Int)) = ((n * 10 + d : Nat) : Int) := by omega
   rw [e]
   exact ih
  ·rw [if_pos (by omega)]
   refine ⟨fun v h => (by cases h), fun _ => ?_⟩
   split
   ·exact .inl rfl
   split
   ·exact .inl rfl
   ·rcases big_mag (n * 10 + d) (by omega) s hs with h | h
    ·exact .inl h
    ·exact .inr ⟨_, by omega, h⟩
theorem num_parse {s : List UInt8} (hf : ∀ c ∈ s, figB c = true) (h0 : s ≠ []) : (∀ v, numF s 0 = some v → Lib.parseIntB 64 s = .ok v ∧ 0 ≤ v ∧ v ≤ 9223372036854775807) ∧ (numF s 0 = none → Lib.parseIntB 64 s = .range) := by
 cases s with
 | nil => exact absurd rfl h0
 | cons c r =>
  have hc := fig_nat (hf c (by simp))
  have hm := num_mag (c :: r) 0 hf (by omega)
  have hp : Lib.parseUintB 64 (c :: r) = Lib.parseUintM (2 ^ 64 - 1) 0 (c :: r) := by unfold Lib.parseUintB; rw [if_neg (by simp)]
  have h45 : ¬ c.toNat = 45 := by omega
  have h43 : ¬ (c.toNat = 43 ∨ c.toNat = 45) := by omega
  refine ⟨fun v hv => ?_, fun hv => ?_⟩
  ·obtain ⟨u, rfl, hu, h⟩ := hm.1 v hv
   refine ⟨?_, by omega, by omega⟩
   unfold Lib.parseIntB
   dsimp only
   rw [if_neg h43, hp, h]
   dsimp only
   rw [if_neg (by omega), if_neg (by omega), if_neg h45]
  ·unfold Lib.parseIntB
   dsimp only
   rw [if_neg h43, hp]
   rcases hm.2 hv with h | ⟨u, hu, h⟩
   ·rw [h]
   ·rw [h]
    dsimp only
    rw [if_pos ⟨h45, by omega⟩]
theorem came_full {l : List W} (h : CameB l) : ∀ w ∈ l, w.1 = 1 → w.2.1 ≠ [] := by
 intro w hw hk he
 have hf := h w hw
 rw [hk, he] at hf
 cases hf
end Go.Proofs.YtjbpkpfmgbhlpaaGreatDoor.Code
/-
  The program's reader of words in memory, and what of Go's library it reads; a node that is read, with what it may have turned.
-/
namespace Go.Proofs.YtjbpkpfmgbhlpaaGreatDoor.Code
open Go.ChangeShapes Go.WideShapes Go.ChangeAt Go.RowKit Val Elems
set_option linter.unusedVariables false
set_option linter.unusedSimpArgs false
structure Env (B : Nat) (m : Int) (w : World) : Prop where
 gl : Glob B m w
 er : 7 < B
 ec : ∃ te pe, w.cell? ⟨7, 0, none⟩ = some (.iface te pe)
theorem Env.below {B : Nat} {m : Int} {w w' : World} (h : Env B m w) (hb : Below B w w') : Env B m w' := by
 obtain ⟨te, pe, hc⟩ := h.ec
 exact ⟨h.gl.below hb, h.er, te, pe, (hb.cell (p := ⟨7, 0, none⟩) h.er).trans hc⟩
theorem Env.more {B B' : Nat} {m : Int} {w : World} (h : Env B m w) (hB : B ≤ B') : Env B' m w := ⟨h.gl.more hB, Nat.lt_of_lt_of_le h.er hB, h.ec⟩
theorem Env.at {B : Nat} {m : Int} {w : World} (h : Env B m w) : Env w.heap.size m w := by
 obtain ⟨te, pe, hc⟩ := h.ec
 exact ⟨h.gl.next (Below.refl _ _), World.block_lt_of_cell? _ _ hc, te, pe, hc⟩
theorem Env.next {B : Nat} {m : Int} {w w' : World} (h : Env B m w) (hb : Below B w w') : Env w'.heap.size m w' := (h.below hb).at
structure Rd (w : World) (r : Nat) (m : Int) (A : Option Addr) (cap : Nat) (l : List W) (i : Nat) : Prop where
 c0 : w.cell? ⟨r, 0, none⟩ = some (.slice A l.length cap)
 c1 : w.cell? ⟨r, 1, none⟩ = some (.int .i64 i)
 fr : ∀ j, w.frozen? ⟨r, j, none⟩ = false
 ws : At wc 3 w r A l
 ev : Env r m w
section
variable {w w' : World} {r : Nat} {m : Int} {A : Option Addr} {cap : Nat} {l : List W} {i : Nat}
theorem Rd.lt (h : Rd w r m A cap l i) : r < w.heap.size := World.block_lt_of_cell? _ _ h.c0
theorem Rd.below (h : Rd w r m A cap l i) (hb : Below w.heap.size w w') : Rd w' r m A cap l i := by
 have hl := h.lt
 exact ⟨(hb.cell (p := ⟨r, 0, none⟩) hl).trans h.c0, (hb.cell (p := ⟨r, 1, none⟩) hl).trans h.c1, fun j => (hb.frozen (p := ⟨r, j, none⟩) hl).trans (h.fr j), h.ws.below (hb.mono (Nat.le_of_lt hl)), h.ev.below (hb.mono (Nat.le_of_lt hl))⟩
theorem Rd.alloc (h : Rd w r m A cap l i) (o : Obj) : Rd (w.alloc o) r m A cap l i := h.below ((Below.refl _ _).alloc (Nat.le_refl _) o)
theorem Rd.set (h : Rd w r m A cap l i) (p : Addr) (hp : r ≤ p.block) (hn0 : p ≠ ⟨r, 0, none⟩) (hn1 : p ≠ ⟨r, 1, none⟩) (u : Value) : Rd (w.setCell p u) r m A cap l i := by
 have hb : Below r w (w.setCell p u) := (Below.refl r w).setCell hp u
 exact ⟨(World.cell?_setCell_other _ _ _ _ hn0).trans h.c0, (World.cell?_setCell_other _ _ _ _ hn1).trans h.c1, fun k => by rw [World.frozen?_setCell]; exact h.fr k, h.ws.below hb, h.ev.below hb⟩
theorem Rd.new (h : Rd w r m A cap l i) (p : Addr) (hp : r < p.block) (u : Value) : Rd (w.setCell p u) r m A cap l i :=
 h.set p (Nat.le_of_lt hp) (fun e => by rw [e] at hp; exact absurd hp (Nat.lt_irrefl _)) (fun e => by rw [e] at hp; exact absurd hp (Nat.lt_irrefl _)) u
theorem Rd.at (h : Rd w r m A cap l i) (j : Nat) : Rd (w.setCell ⟨r, 1, none⟩ (.int .i64 j)) r m A cap l j := by
 have hb : Below r w (w.setCell ⟨r, 1, none⟩ (.int .i64 j)) := (Below.refl r w).setCell (Nat.le_refl _) _
 refine ⟨?_, ?_, fun k => ?_, h.ws.below hb, h.ev.below hb⟩
 ·rw [World.cell?_setCell_other _ _ _ _ (by simp)]; exact h.c0
 ·exact World.cell?_setCell_same _ _ _ h.c1
 ·rw [World.frozen?_setCell]; exact h.fr k
theorem Rd.env (h : Rd w r m A cap l i) : Env w.heap.size m w := h.ev.at
end
def wd (l : List W) (i : Nat) : W := (l[i]?).getD (0, [], 0)
theorem wd_in {l : List W} {i : Nat} (h : i < l.length) : wd l i = l[i] := by
 unfold wd
 rw [List.getElem?_eq_getElem h]
 rfl
theorem wd_out {l : List W} {i : Nat} (h : ¬ i < l.length) : wd l i = (0, [], 0) := by
 unfold wd
 rw [List.getElem?_eq_none (by omega)]
 rfl
structure Good (l : List W) : Prop where
 len : l.length ≤ 4194304
 came : CameB l
 fit : FitW l
def Gives (r : Nat) (m : Int) (A : Option Addr) (cap : Nat) (l : List W) (w : World) (S : Nat → Prop) (res : Tr × Nat × Bool) (e : Ending) (w' : World) : Prop :=
 ∃ (op tx : ByteArray) (X : Option Addr) (n k : Nat), e = .returned (.tuple #[.agg #[.string op, .string tx, .slice X n k], .bool (!res.2.2)]) ∧ (res.2.2 = false → NIn w' (fun g => S g ∨ (w.heap.size ≤ g ∧ g < w'.heap.size)) res.1 (.string op) (.string tx) (.slice X n k)) ∧ But w w' r ∧ Rd w' r m A cap l res.2.1
def NoBlk (g : Nat) : Prop := False
def Ox (g : Nat) (w w' : World) : Prop := w'.heap.size = w.heap.size ∧ ∀ p : Addr, p.block ≠ g → w'.cell? p = w.cell? p
theorem Ox.refl (g : Nat) (w : World) : Ox g w w := ⟨rfl, fun _ _ => rfl⟩
theorem Ox.setCell {g : Nat} {w w' : World} (h : Ox g w w') (p : Addr) (hp : p.block = g) (v : Value) : Ox g w (w'.setCell p v) := ⟨by rw [World.size_setCell]; exact h.1, fun q hq => (World.cell?_setCell_other _ _ _ _ (fun e => hq (by rw [← e]; exact hp))).trans (h.2 q hq)⟩
theorem Ox.drew {g : Nat} {w w' : World} (h : Ox g w w') : Ox g w w'.drew := ⟨h.1, fun q hq => h.2 q hq⟩
structure Kp (b : Nat) (w w' : World) : Prop where
 bl : Below b w w'
 ot : Lib.OthersKept 5 (some b) w w'
theorem Kp.refl (b : Nat) (w : World) : Kp b w w := ⟨Below.refl _ _, Lib.OthersKept.refl _ _ _⟩
theorem Kp.trans {b : Nat} {w w1 w2 : World} (h : Kp b w w1) (g : Kp b w1 w2) : Kp b w w2 := ⟨h.bl.trans g.bl, h.ot.trans g.ot⟩
theorem Kp.drew {b : Nat} {w w1 : World} (h : Kp b w w1) : Kp b w w1.drew := ⟨h.bl.drew, h.ot.drew⟩
theorem Kp.next {b : Nat} {w w1 w2 : World} (h : Kp b w w1) (hb : b ≤ w1.heap.size) (g : Below w1.heap.size w1 w2) : Kp b w w2 :=
 ⟨h.bl.trans (g.mono hb), fun k o hk hn ho => by
  have h1 := h.ot k o hk hn ho
  exact (g.block k (Array.getElem?_eq_some_iff.1 h1).1).trans h1⟩
theorem Kp.new {b : Nat} {w w1 : World} (h : Kp b w w1) (p : Addr) (hp : w.heap.size ≤ p.block) (hb : b ≤ p.block) (u : Value) : Kp b w (w1.setCell p u) :=
 ⟨h.bl.setCell hb u, fun k o hk hn ho => by
  have h1 := h.ot k o hk hn ho
  have hlt : k < w.heap.size := (Array.getElem?_eq_some_iff.1 hk).1
  rw [Below.heap_setCell _ _ _ _ (by omega)]
  exact h1⟩
theorem grown_set (w : World) (b i : Nat) (v : Value) : w.grownBy (w.setCell ⟨b, i, none⟩ v) (some b) :=
 ⟨rfl, rfl, rfl, by simp, fun k hk hr => Below.heap_setCell _ _ _ _ (fun e => hr (by rw [e]))⟩
def HB (w : World) (g : Nat) (cs : Array Value) (t : TypeId) : Prop := w.heap[g]? = some (.cells cs t (0, 0))
theorem HB.lt {w : World} {g : Nat} {cs : Array Value} {t : TypeId} (h : HB w g cs t) : g < w.heap.size := (Array.getElem?_eq_some_iff.1 h).1
theorem HB.kp {w w' : World} {g b : Nat} {cs : Array Value} {t : TypeId} (h : HB w g cs t) (hk : Kp b w w') (hg : g ≠ b) (ht : t ≠ 5) : HB w' g cs t :=
 hk.ot g _ h (fun e => hg (Option.some.inj e)) (fun c fz e => by injection e with _ e2; exact ht e2)
theorem HB.below {w w' : World} {g : Nat} {cs : Array Value} {t : TypeId} (h : HB w g cs t) (hb : Below w.heap.size w w') : HB w' g cs t := (hb.block g h.lt).trans h
theorem HB.alloc {w : World} {g : Nat} {cs : Array Value} {t : TypeId} (h : HB w g cs t) (o : Obj) : HB (w.alloc o) g cs t := h.below (below_alloc w o)
theorem HB.fresh (w : World) (cs : Array Value) (t : TypeId) : HB (w.alloc (.cells cs t)) w.heap.size cs t := heap_alloc_new w _
theorem HB.cell {w : World} {g : Nat} {cs : Array Value} {t : TypeId} (h : HB w g cs t) (j : Nat) : w.cell? ⟨g, j, none⟩ = cs[j]? := by
 unfold World.cell?
 rw [h]
 rfl
theorem HB.free {w : World} {g : Nat} {cs : Array Value} {t : TypeId} (h : HB w g cs t) (j : Nat) : w.frozen? ⟨g, j, none⟩ = false := Lib.frozen_of_heap h j
theorem HB.set {w : World} {g : Nat} {cs : Array Value} {t : TypeId} (h : HB w g cs t) (j : Nat) (u : Value) : HB (w.setCell ⟨g, j, none⟩ u) g (cs.setIfInBounds j u) t := by
 unfold HB at h ⊢
 obtain ⟨hlt, hx⟩ := Array.getElem?_eq_some_iff.1 h
 simp [World.setCell, hlt, Array.getElem_modify, hx]
theorem HB.far {w : World} {g : Nat} {cs : Array Value} {t : TypeId} (h : HB w g cs t) (p : Addr) (hp : p.block ≠ g) (u : Value) : HB (w.setCell p u) g cs t := by
 unfold HB at h ⊢
 rw [Below.heap_setCell _ _ _ _ (fun e => hp e.symm)]
 exact h
structure WrAt (w : World) (b mb : Nat) (p : Value) (bs : List UInt8) : Prop where
 ex : ∃ v, HB w b #[.map (some mb), p, v] 142 ∧ w.ownsRow b 5 1 v bs.length (Lib.byteCells bs) ∧ v.ownBlock ≠ some b
def Wr (w : World) (b mb : Nat) (bs : List UInt8) : Prop := WrAt w b mb (.pointer none) bs ∨ WrAt w b mb (.pointer (some ⟨b, 1, none⟩)) bs
theorem Wr.lt {w : World} {b mb : Nat} {bs : List UInt8} (h : Wr w b mb bs) : b < w.heap.size := by rcases h with ⟨_, h, _⟩ | ⟨_, h, _⟩ <;> exact h.lt
theorem WrAt.below {w w' : World} {b mb : Nat} {p : Value} {bs : List UInt8} (h : WrAt w b mb p bs) (hb : Below w.heap.size w w') : WrAt w' b mb p bs := by
 obtain ⟨v, h1, h2, h3⟩ := h
 exact ⟨v, h1.below hb, h2.kept (row := none) ⟨hb.os, hb.tape, hb.output, hb.size, fun k hk _ => hb.block k hk⟩ (by cases v.ownBlock <;> simp), h3⟩
theorem Wr.below {w w' : World} {b mb : Nat} {bs : List UInt8} (h : Wr w b mb bs) (hb : Below w.heap.size w w') : Wr w' b mb bs := h.elim (fun h => .inl (h.below hb)) (fun h => .inr (h.below hb))
theorem lies_at : liesAt Tryz.prog Tryz.prog.depth 142 (3 / Tryz.prog.cellsOf 142) 1 73 1 = true := by kernel_rfl
theorem info_builder : (Tryz.prog.info? 73).map (·.size) = some 2 := by kernel_rfl
theorem info_byte : (Tryz.prog.info? 5).map (fun i => (i.zero, i.size, i.bytes)) = some (some (.int .u8 0), 1, 1) := by kernel_rfl
theorem ecopy_fresh (b mb : Nat) (bs : List UInt8) (w : World) (h : WrAt w b mb (.pointer none) bs) :
  Calls Tryz.prog 109 #[.pointer (some ⟨b, 1, none⟩)] w fun e w' => e = .returned (.tuple #[]) ∧ w' = w.setCell ⟨b, 1, none⟩ (.pointer (some ⟨b, 1, none⟩)) := by
 obtain ⟨v, h1, h2, h3⟩ := h
 obtain ⟨j, hj, hjs⟩ := Option.map_eq_some_iff.1 info_builder
 have c1 : w.cell? ⟨b, 1, none⟩ = some (.pointer none) := h1.cell 1
 have f1 : w.frozen? ⟨b, 1, none⟩ = false := h1.free 1
 have hsh : w.shape? b = some (142, 3) := by
  have : w.heap[b]? = some (.cells #[.map (some mb), .pointer none, v] 142 (0, 0)) := h1
  simp [World.shape?, this]
 clear h1 h2 h3
 go_enter Tryz.func109, Tryz.ntmps109
 go_wp2
 rw [Lib.run_to_unsafe w ⟨b, 1, none⟩ Tryz.underlying70 Tryz.underlying137 hj (by rw [hjs]; decide) hsh (by show 1 < 3; decide)]
 simp only [Result.andThen]
 rw [Oper.upon_value]
 go_wp2
 rw [run_callFunc_extern Tryz.func133 (by kernel_rfl) (by kernel_rfl) (by kernel_rfl) (e := Extern.AbiNoEscape.same) (by kernel_rfl)]
 rw [Lib.run_noEscape]
 simp only [Result.andThen]
 rw [Oper.upon_value]
 go_wp2
 rw [Lib.run_from_unsafe w ⟨b, 1, none⟩ Tryz.underlying137 Tryz.underlying70 hj hsh lies_at]
 simp only [Result.andThen]
 rw [Oper.upon_value]
 go_wp2
 go_end0
 exact ⟨rfl, rfl⟩
theorem ecopy_used (b mb : Nat) (bs : List UInt8) (w : World) (h : WrAt w b mb (.pointer (some ⟨b, 1, none⟩)) bs) :
  Calls Tryz.prog 109 #[.pointer (some ⟨b, 1, none⟩)] w fun e w' => e = .returned (.tuple #[]) ∧ w' = w := by
 obtain ⟨v, h1, h2, h3⟩ := h
 obtain ⟨j, hj, hjs⟩ := Option.map_eq_some_iff.1 info_builder
 have c1 : w.cell? ⟨b, 1, none⟩ = some (.pointer (some ⟨b, 1, none⟩)) := h1.cell 1
 have hneq := Lib.run_neq_ptr_same w (P := Tryz.prog) ⟨b, 1, none⟩ Tryz.underlying70 hj
 clear h1 h2 h3
 go_enter Tryz.func109, Tryz.ntmps109
 go_wp2
 go_end0
 exact ⟨rfl, rfl⟩
theorem ecopy_any (b mb : Nat) (bs : List UInt8) (w : World) (h : Wr w b mb bs) :
  Calls Tryz.prog 109 #[.pointer (some ⟨b, 1, none⟩)] w fun e w' => e = .returned (.tuple #[]) ∧ WrAt w' b mb (.pointer (some ⟨b, 1, none⟩)) bs ∧ Kp b w w' ∧ w'.heap.size = w.heap.size := by
 rcases h with h | h
 ·refine (ecopy_fresh b mb bs w h).mono ?_
  rintro e w' ⟨rfl, rfl⟩
  obtain ⟨v, h1, h2, h3⟩ := h
  refine ⟨rfl, ⟨v, h1.set 1 _, ?_, h3⟩, ⟨(Below.refl b w).setCell (Nat.le_refl _) _, (Lib.OthersKept.refl _ _ w).setCell ⟨b, 1, none⟩ rfl _⟩, World.size_setCell _ _ _⟩
  exact h2.kept (grown_set w b 1 _) (.inr h3)
 ·refine (ecopy_used b mb bs w h).mono ?_
  rintro e w' ⟨rfl, rfl⟩
  exact ⟨rfl, h, Kp.refl _ _, rfl⟩
theorem ewrite_any (b mb : Nat) (bs : List UInt8) (s : ByteArray) (w : World) (h : Wr w b mb bs) (hl : bs.length + s.size ≤ 1000000) :
  Calls Tryz.prog 66 #[.pointer (some ⟨b, 1, none⟩), .string s] w fun e w' => e = .returned (.tuple #[.int .i64 s.size, .nilIface]) ∧ Wr w' b mb (bs ++ s.data.toList) ∧ Kp b w w' := by
 obtain ⟨i0, hi, hz0, hz1, hz2⟩ := info_parts info_byte
 have HC := hid (ecopy_any b mb bs w h)
 have hbl := h.lt
 clear h
 go_enter Tryz.func66, Tryz.ntmps66
 go_wp2_with fail
 refine HC.out.mono ?_
 rintro e w1 ⟨rfl, ⟨v, h1, h2, h3⟩, hk1, hs1⟩
 have c1 : w1.cell? ⟨b, 1, none⟩ = some (.pointer (some ⟨b, 1, none⟩)) := h1.cell 1
 have c2 : w1.cell? ⟨b, 2, none⟩ = some v := h1.cell 2
 go_wp2_with (at_builtin; refine Lib.wpList_append_own_string _ rfl _ _ 71 9 rfl b 5 i0 Tryz.underlying71 Tryz.underlying9 hi hz0 hz1 hz2 _ _ _ rfl h2 s rfl ?c3 ?c4 ?c5 ?_)
 case c3 => unfold maxLen; omega
 case c4 => omega
 case c5 => omega
 intro v' w2 hown' hgrow _
 have h4 : HB w2 b #[.map (some mb), .pointer (some ⟨b, 1, none⟩), v] 142 := (hgrow.block b h1.lt (fun e => h3 e.symm)).trans h1
 have d2 : w2.cell? ⟨b, 2, none⟩ = some v := h4.cell 2
 have f2 : w2.frozen? ⟨b, 2, none⟩ = false := h4.free 2
 obtain ⟨ao, n', cap, rfl⟩ : ∃ ao n' cap, v' = .slice ao n' cap := by
  rcases hown'.2 with ⟨hv, _⟩ | ⟨g, cap, cur, hv, _⟩
  ·exact ⟨_, _, _, hv⟩
  ·exact ⟨_, _, _, hv⟩
 have hne' : (Value.slice ao n' cap).ownBlock ≠ some b := by
  intro e
  obtain ⟨c, fz, hc⟩ := Lib.ownsRow_kind hown' b e
  have h4' : w2.heap[b]? = some (.cells #[.map (some mb), .pointer (some ⟨b, 1, none⟩), v] 142 (0, 0)) := h4
  rw [h4'] at hc
  injection hc with hc
  injection hc with _ hc2
  exact absurd hc2 (by decide)
 go_wp2
 go_ret2
 refine ⟨rfl, .inr ⟨_, h4.set 2 _, ?_, hne'⟩, hk1.trans ⟨((Below.refl b w1).grown hgrow (by omega) (fun k hk => (h2.lt k hk).1)).setCell (p := ⟨b, 2, none⟩) (Nat.le_refl _) _, ((Lib.OthersKept.refl _ _ w1).grown hgrow (Lib.ownsRow_kind h2)).setCell ⟨b, 2, none⟩ rfl _⟩⟩
 have := hown'.kept (grown_set w2 b 2 (.slice ao n' cap)) (.inr hne')
 rw [List.length_append, Array.length_toList]
 rw [show Lib.byteCells (bs ++ s.data.toList) = Lib.byteCells bs ++ Lib.strCells s by rw [Lib.strCells_eq]; unfold Lib.byteCells; rw [List.map_append]]
 exact this
theorem cells_byte : Tryz.prog.cellsOf 5 = 1 := by kernel_rfl
theorem estring_any (b mb : Nat) (l : List UInt8) (w : World) (h : Wr w b mb l) (h0 : l ≠ []) :
  Calls Tryz.prog 33 #[.pointer (some ⟨b, 1, none⟩)] w fun e w' => e = .returned (.string ⟨l.toArray⟩) ∧ Below b w w' := by
 obtain ⟨p, v, hbk, hown, hne⟩ : ∃ p, WrAt w b mb p l := by
  rcases h with h | h
  ·exact ⟨_, h⟩
  ·exact ⟨_, h⟩
 have hl0 : l.length ≠ 0 := by simpa using h0
 obtain ⟨g, cap, cur, rfl, hbg, hg, hnc, hcm, hcs, htake⟩ : ∃ g cap cur, v = .slice (some ⟨g, 0, none⟩) l.length cap ∧ b ≤ g ∧ w.heap[g]? = some (.cells cur 5 (0, 0)) ∧ l.length ≤ cap ∧ cap ≤ maxLen ∧ cur.size = cap * 1 ∧ cur.toList.take (l.length * 1) = Lib.byteCells l := by
  rcases hown.2 with ⟨_, hz⟩ | ⟨g, cap, cur, hv, r⟩
  ·exact absurd hz hl0
  ·exact ⟨g, cap, cur, hv, r⟩
 have c1 : w.drew.cell? ⟨b, 2, none⟩ = some (.slice (some ⟨g, 0, none⟩) l.length cap) := hbk.cell 2
 have hSD : (Builtin.unsafeSliceData_ #[71] 106 #[.slice (some ⟨g, 0, none⟩) l.length cap]).run Tryz.prog w.drew = .ok (.pointer (some ⟨g, 0, none⟩)) w.drew :=
  Lib.run_unsafeSliceData_row _ _ _ _ _ _ (by omega)
 have hUS : (Builtin.unsafeString_ #[106, 3] 9 #[.pointer (some ⟨g, 0, none⟩), .int .i64 l.length]).run Tryz.prog w.drew = .ok (.string ⟨l.toArray⟩) (w.drew.freeze ⟨g, 0, none⟩ l.length) := by
  refine Lib.run_unsafeString_row w.drew 106 3 9 5 Tryz.underlying106 cells_byte g cur.size (by have hg' : w.drew.heap[g]? = some (.cells cur 5 (0, 0)) := hg; simp [World.shape?, hg']) l h0 (by omega) (by unfold maxLen at hcm; omega) ?_
  intro j x hx
  have := hown.cells (g := g) rfl j (.int .u8 x.toNat) (by simp [Lib.byteCells, hx])
  exact this
 have HF := hid (show Below b w (w.drew.freeze ⟨g, 0, none⟩ l.length) from Lib.below_freeze (Below.drew (Below.refl b w)) (p := ⟨g, 0, none⟩) hbg _)
 have mixed : Tryz.prog.follows .mixedOrders = true := by kernel_rfl
 clear hbk hown hne htake hcs hcm hg h
 go_enter Tryz.func33, Tryz.ntmps33
 go_wp2
 go_region_o
 all_goals (go_wp2; go_ret; exact ⟨rfl, HF.out⟩)
end Go.Proofs.YtjbpkpfmgbhlpaaGreatDoor.Code
/-
  A map from texts to rules: what one holds, an entry of a literal, a look-up.
-/
namespace Go.Proofs.YtjbpkpfmgbhlpaaGreatDoor.Code
open Go.ChangeShapes Go.WideShapes Go.ChangeAt Go.RowKit Val Elems Go.ChangeMaps Go.MapKept
open Go.WideElems (Fit rd rg pl rd_key rd_val rg_of)
open Go.Maps (Keyed)
set_option linter.unusedVariables false
set_option linter.unusedSimpArgs false
set_option maxRecDepth 100000
def hR (v : Value) : Option (DataW Value × List MemPlace) := some (.held v, [])
def mk (k : ByteArray) : Lit := .string k.data.toList
theorem mk_inj {a b : ByteArray} (h : mk a = mk b) : a = b := by
 unfold mk at h
 injection h with h
 rw [← Lib.mk_data a, h, Lib.mk_data]
theorem mk_law : Keyed Tryz.prog 9 := Maps.string_keyed Tryz.underlying9
theorem mk_zero (w : World) : (zeroValue 150).run Tryz.prog w = .ok (.agg #[.int .i64 0, .slice none 0 0, .bool false]) w := by kernel_rfl
theorem mk_is {k : ByteArray} (h : k.size ≤ maxLen) : keyOf Tryz.prog 9 (.string k) = some (mk k) := Go.WideMaps.keyOf_string_mk Tryz.underlying9 h
def MSees (D : DataW Value) (f : ByteArray → Option Value) : Prop := ∀ k : ByteArray, k.size ≤ maxLen → Maps.has D (mk k) = (f k).isSome ∧ ∀ s, f k = some s → ∀ z, D.atKey (mk k) z = .held s
def MapR (w : World) (b n : Nat) (f : ByteArray → Option Value) : Prop := ∃ D, w.ownsMap Tryz.prog 9 hR b n D ∧ MSees D f
def mput (f : ByteArray → Option Value) (k : ByteArray) (s : Value) : ByteArray → Option Value := fun x => if x = k then some s else f x
theorem mput_same (f : ByteArray → Option Value) (k : ByteArray) (s : Value) : mput f k s k = some s := by simp [mput]
theorem mput_other (f : ByteArray → Option Value) {k x : ByteArray} (s : Value) (h : x ≠ k) : mput f k s x = f x := by simp [mput, h]
theorem MapR.lt {w : World} {b n : Nat} {f : ByteArray → Option Value} (h : MapR w b n f) : b < w.heap.size := by obtain ⟨D, h1, _⟩ := h; exact h1.lt
theorem MapR.heap {w w' : World} {b n : Nat} {f : ByteArray → Option Value} (h : MapR w b n f) (e : w'.heap[b]? = w.heap[b]?) : MapR w' b n f := by
 obtain ⟨D, ⟨es, clock, hb, r⟩, h2⟩ := h
 exact ⟨D, ⟨es, clock, e.trans hb, r⟩, h2⟩
theorem MapR.below {w w' : World} {b n : Nat} {f : ByteArray → Option Value} (h : MapR w b n f) (hb : Below w.heap.size w w') : MapR w' b n f := h.heap (hb.block _ h.lt)
theorem MapR.alloc {w : World} {b n : Nat} {f : ByteArray → Option Value} (h : MapR w b n f) (o : Obj) : MapR (w.alloc o) b n f := h.below (below_alloc w o)
theorem mapR_made (w : World) : MapR (w.alloc (.map #[] 0)) w.heap.size 0 fun _ => none :=
 ⟨_, World.ownsMap_made w Tryz.prog 9 hR, fun k _ => ⟨rfl, fun s h => by cases h⟩⟩
theorem msees_put {D : DataW Value} {f : ByteArray → Option Value} (hD : Maps.IsMap D) (h : MSees D f) (k : ByteArray) (s : Value) : MSees (D.put (mk k) (.held s)) (mput f k s) := by
 intro x hx
 by_cases e : x = k
 ·subst e
  rw [mput_same]
  refine ⟨Maps.has_put_same hD (by simp [mk, WideAt.IsKeyLit]) _, fun s2 h2 z => ?_⟩
  cases h2
  exact Maps.atKey_put_same hD (by simp [mk, WideAt.IsKeyLit]) _ _
 ·have hne : mk x ≠ mk k := fun h => e (mk_inj h)
  rw [mput_other f _ e, Maps.has_put_other hne]
  exact ⟨(h x hx).1, fun s2 h2 z => by rw [Maps.atKey_put_other hne]; exact (h x hx).2 s2 h2 z⟩
section
variable (w : World) {ops : Array Oper} {rest : List Oper} {o : Oper} {a : Act} {Q : Exit → Act → World → Prop}
theorem wpList_ins (hg : o.guard = none) (m x v : Operand) (hop : o.op = Op.insert 139 m x v) (b n : Nat) (f : ByteArray → Option Value) (hm : a.eval m = .map (some b)) (h : MapR w b n f) (hn : n < maxLen) (k : ByteArray) (hx : a.eval x = .string k) (hk : k.size ≤ maxLen)
  (s : Value) (hv : a.eval v = s) (hK : ∀ w', MapR w' b (n + 1) (mput f k s) → w.grownBy w' (some b) → w'.heap.size = w.heap.size → wpList Tryz.prog ops Q rest (a.put o.dst undef) w') : wpList Tryz.prog ops Q (o :: rest) a w := by
 refine wpList_plain hg fun K' hK' => ?_
 obtain ⟨D, h1, h2⟩ := h
 obtain ⟨w', hrun, r1, r2⟩ := h1.store mk_law Tryz.underlying139 hn (mk_is hk) (show hR s = some (.held s, []) from rfl)
 have hsz : w'.heap.size = w.heap.size := by
  obtain ⟨es, clock, es', clock', hb, rfl⟩ := r2
  simp [setBlock]
 unfold Oper.wp
 simp [execOp, hop, hm, hx, hv, hrun, Result.andThen]
 exact hK' _ _ (hK w' ⟨_, r1, msees_put h1.isMap h2 k s⟩ r2.grown hsz)
end
theorem run_look (w : World) (b n : Nat) (f : ByteArray → Option Value) (h : MapR w b n f) (k : ByteArray) (hk : k.size ≤ maxLen) (s : Value) (hs : f k = some s) :
  (Instr.lookup 139 (.map (some b)) (.string k) true).run Tryz.prog w = .ok (.tuple #[s, .bool true]) w := by
 obtain ⟨D, h1, h2⟩ := h
 obtain ⟨v, ps, hrun, hv⟩ := h1.look_ok mk_law Tryz.underlying139 (mk_zero w) (show hR (.agg #[.int .i64 0, .slice none 0 0, .bool false]) = some (.held (.agg #[.int .i64 0, .slice none 0 0, .bool false]), []) from rfl) (mk_is hk)
 have h3 := h2 k hk
 rw [hs] at h3
 rw [h3.2 s rfl] at hv
 unfold hR at hv
 simp only [Option.some.injEq, Prod.mk.injEq, DataW.held.injEq] at hv
 rw [hrun, h3.1, hv.1]
 rfl
end Go.Proofs.YtjbpkpfmgbhlpaaGreatDoor.Code
/-
  Queries of words in plain words: nodes with any Kids, what is read at a place, how many steps are enough. No program is named here.
-/
namespace Go.Proofs.YtjbpkpfmgbhlpaaGreatDoor.Code
open Val
set_option linter.unusedVariables false
inductive Nod where
 | mk (op tx : List UInt8) (ks : List Nod)
def Nod.op : Nod → List UInt8
 | .mk o _ _ => o
def Nod.tx : Nod → List UInt8
 | .mk _ t _ => t
def Nod.ks : Nod → List Nod
 | .mk _ _ k => k
mutual
def Nod.deep : Nod → Nat
 | .mk _ _ ks => Nod.deepL ks + 1
def Nod.deepL : List Nod → Nat
 | [] => 0
 | t :: l => max t.deep (Nod.deepL l)
end
def Tr.n : Tr → Nod
 | .leaf o t => .mk o t []
 | .one o a => .mk o [] [a.n]
 | .two o a b => .mk o [] [a.n, b.n]
theorem Tr.n_deep : ∀ t : Tr, t.n.deep = t.deep
 | .leaf o t => by simp [Tr.n, Nod.deep, Nod.deepL, Tr.deep]
 | .one o a => by simp [Tr.n, Nod.deep, Nod.deepL, Tr.deep, Tr.n_deep a]
 | .two o a b => by simp [Tr.n, Nod.deep, Nod.deepL, Tr.deep, Tr.n_deep a, Tr.n_deep b]
def zeroN : Nod := .mk [] [] []
def sFilter : List UInt8 := [102, 105, 108, 116, 101, 114]
def sProject : List UInt8 := [112, 114, 111, 106, 101, 99, 116]
def sJoin : List UInt8 := [106, 111, 105, 110]
def sUnion : List UInt8 := [117, 110, 105, 111, 110]
def sDistinct : List UInt8 := [100, 105, 115, 116, 105, 110, 99, 116]
def sGroup : List UInt8 := [103, 114, 111, 117, 112]
def sBy : List UInt8 := [98, 121]
def sCount : List UInt8 := [99, 111, 117, 110, 116]
def sSum : List UInt8 := [115, 117, 109]
def sMin : List UInt8 := [109, 105, 110]
def sMax : List UInt8 := [109, 97, 120]
def sFrom : List UInt8 := [102, 114, 111, 109]
def sItem : List UInt8 := [105, 116, 101, 109]
def sOn : List UInt8 := [111, 110]
def sAgg : List UInt8 := [97, 103, 103]
abbrev Res := Nod × Nat × Bool
abbrev Ress := List Nod × Nat × Bool
def nmQ (L : List V) (i : Nat) (b : Bool) : List UInt8 × Nat × Bool := if (isK L i b 0 && !ownL (txt L i)) = true then (txt L i, i + 1, b) else ([], i, true)
def mustQ (L : List V) (i : Nat) (b : Bool) (s : List UInt8) : Nat × Bool := if isW L i b s = true then (i + 1, b) else (i, true)
def wordQ (L : List V) (i : Nat) (b : Bool) (s m : List UInt8) : Bool := isK L i b 0 && (txt L i == s && L[i + 1]? == some (3, m))
def opsQ : List (List UInt8) := [sFilter, sProject, sJoin, sUnion, sDistinct, sGroup]
def opQ (L : List V) (i : Nat) (b : Bool) : List (List UInt8) → List UInt8
 | [] => []
 | s :: l => if wordQ L i b s [40] = true then s else opQ L i b l
def moreQ (L : List V) (i : Nat) (b first : Bool) : Bool × Nat × Bool :=
 if first = true then (!(mustQ L i b [44]).2, mustQ L i b [44])
 else if isW L i b [41] = true then (false, i + 1, b)
 else if b = true then (false, i, true)
 else (!(mustQ L i b [44]).2, mustQ L i b [44])
def exprQ (L : List V) (i : Nat) (b : Bool) : Tr × Nat × Bool := P L (stepsN L) (.expr 1) i b
def itemQ (L : List V) (i : Nat) (b : Bool) : Res :=
 (.mk sItem (nmQ L i b).1 [(exprQ L (mustQ L (nmQ L i b).2.1 (nmQ L i b).2.2 [61]).1 (mustQ L (nmQ L i b).2.1 (nmQ L i b).2.2 [61]).2).1.n],
  (exprQ L (mustQ L (nmQ L i b).2.1 (nmQ L i b).2.2 [61]).1 (mustQ L (nmQ L i b).2.1 (nmQ L i b).2.2 [61]).2).2)
def pairQ (L : List V) (i : Nat) (b : Bool) : Res :=
 (.mk sOn (nmQ L i b).1 [.mk sCol (nmQ L (mustQ L (nmQ L i b).2.1 (nmQ L i b).2.2 [61]).1 (mustQ L (nmQ L i b).2.1 (nmQ L i b).2.2 [61]).2).1 []],
  (nmQ L (mustQ L (nmQ L i b).2.1 (nmQ L i b).2.2 [61]).1 (mustQ L (nmQ L i b).2.1 (nmQ L i b).2.2 [61]).2).2)
def aggOps : List (List UInt8) := [sCount, sSum, sMin, sMax]
def kindQ (L : List V) (i : Nat) (b : Bool) : List (List UInt8) → List UInt8
 | [] => []
 | s :: l => if (isK L i b 0 && txt L i == s) = true then s else kindQ L i b l
def argQ (L : List V) (o : List UInt8) (i : Nat) (b : Bool) : List UInt8 × Nat × Bool := if o = sCount then ([], i, b) else nmQ L i b
def callQ (L : List V) (o : List UInt8) (i : Nat) (b : Bool) : List UInt8 × Nat × Bool :=
 ((argQ L o (mustQ L i b [40]).1 (mustQ L i b [40]).2).1, mustQ L (argQ L o (mustQ L i b [40]).1 (mustQ L i b [40]).2).2.1 (argQ L o (mustQ L i b [40]).1 (mustQ L i b [40]).2).2.2 [41])
def agg2Q (L : List V) (s : List UInt8) (i : Nat) (b : Bool) : Res :=
 if kindQ L i b aggOps = [] then (zeroN, i, true)
 else (.mk sAgg s [.mk (kindQ L i b aggOps) (callQ L (kindQ L i b aggOps) (i + 1) b).1 []], (callQ L (kindQ L i b aggOps) (i + 1) b).2)
def aggQ (L : List V) (i : Nat) (b : Bool) : Res := agg2Q L (nmQ L i b).1 (mustQ L (nmQ L i b).2.1 (nmQ L i b).2.2 [61]).1 (mustQ L (nmQ L i b).2.1 (nmQ L i b).2.2 [61]).2
def loopQ (L : List V) (el : Nat → Bool → Res) : Nat → Bool → Nat → Bool → Ress
 | 0, _, i, b => ([], i, b)
 | f + 1, first, i, b =>
  if (moreQ L i b first).1 = false then ([], (moreQ L i b first).2)
  else ((el (moreQ L i b first).2.1 (moreQ L i b first).2.2).1 :: (loopQ L el f false (el (moreQ L i b first).2.1 (moreQ L i b first).2.2).2.1 (el (moreQ L i b first).2.1 (moreQ L i b first).2.2).2.2).1,
   (loopQ L el f false (el (moreQ L i b first).2.1 (moreQ L i b first).2.2).2.1 (el (moreQ L i b first).2.1 (moreQ L i b first).2.2).2.2).2)
def namesQ (L : List V) : Nat → Nat → Bool → Ress
 | 0, i, b => ([], i, b)
 | f + 1, i, b =>
  if isK L (nmQ L i b).2.1 (nmQ L i b).2.2 0 = true then (.mk sCol (nmQ L i b).1 [] :: (namesQ L f (nmQ L i b).2.1 (nmQ L i b).2.2).1, (namesQ L f (nmQ L i b).2.1 (nmQ L i b).2.2).2)
  else ([.mk sCol (nmQ L i b).1 []], (nmQ L i b).2)
def hasQ (L : List V) (i : Nat) (b : Bool) : Bool := isK L i b 0 && (txt L i == sBy && !wordQ L i b sBy [61])
def byQ (L : List V) (i : Nat) (b : Bool) : Res :=
 if hasQ L i b = true then (.mk sBy [] (namesQ L (L.length + 1) (i + 1) b).1, mustQ L (namesQ L (L.length + 1) (i + 1) b).2.1 (namesQ L (L.length + 1) (i + 1) b).2.2 [44])
 else (.mk sBy [] [], i, b)
def groupQ (L : List V) (i : Nat) (b : Bool) : Ress :=
 ((byQ L i b).1 :: (aggQ L (byQ L i b).2.1 (byQ L i b).2.2).1 :: (loopQ L (aggQ L) (L.length + 1) false (aggQ L (byQ L i b).2.1 (byQ L i b).2.2).2.1 (aggQ L (byQ L i b).2.1 (byQ L i b).2.2).2.2).1,
  (loopQ L (aggQ L) (L.length + 1) false (aggQ L (byQ L i b).2.1 (byQ L i b).2.2).2.1 (aggQ L (byQ L i b).2.1 (byQ L i b).2.2).2.2).2)
def tailQ (L : List V) (q : Nat → Bool → Res) (o : List UInt8) (i : Nat) (b : Bool) : Ress :=
 if o = sFilter then ([(exprQ L (mustQ L i b [44]).1 (mustQ L i b [44]).2).1.n], mustQ L (exprQ L (mustQ L i b [44]).1 (mustQ L i b [44]).2).2.1 (exprQ L (mustQ L i b [44]).1 (mustQ L i b [44]).2).2.2 [41])
 else if o = sDistinct then ([], mustQ L i b [41])
 else if o = sProject then loopQ L (itemQ L) (L.length + 1) true i b
 else if o = sUnion then loopQ L q (L.length + 1) true i b
 else if o = sJoin then
  ((q (mustQ L i b [44]).1 (mustQ L i b [44]).2).1 :: (loopQ L (pairQ L) (L.length + 1) true (q (mustQ L i b [44]).1 (mustQ L i b [44]).2).2.1 (q (mustQ L i b [44]).1 (mustQ L i b [44]).2).2.2).1,
   (loopQ L (pairQ L) (L.length + 1) true (q (mustQ L i b [44]).1 (mustQ L i b [44]).2).2.1 (q (mustQ L i b [44]).1 (mustQ L i b [44]).2).2.2).2)
 else groupQ L (mustQ L i b [44]).1 (mustQ L i b [44]).2
def qq (L : List V) : Nat → Nat → Bool → Res
 | 0, i, b => (zeroN, i, b)
 | f + 1, i, b =>
  if opQ L i b opsQ = [] then (.mk sFrom (nmQ L i b).1 [], (nmQ L i b).2)
  else (.mk (opQ L i b opsQ) [] ((qq L f (i + 2) b).1 :: (tailQ L (qq L f) (opQ L i b opsQ) (qq L f (i + 2) b).2.1 (qq L f (i + 2) b).2.2).1),
   (tailQ L (qq L f) (opQ L i b opsQ) (qq L f (i + 2) b).2.1 (qq L f (i + 2) b).2.2).2)
def Ends (n i : Nat) (b : Bool) (r : Nat × Bool) : Prop := i ≤ r.1 ∧ r.1 ≤ n ∧ (b = true → r = (i, true))
theorem Ends.then {n i : Nat} {b : Bool} {r r' : Nat × Bool} (h : Ends n i b r) (h' : Ends n r.1 r.2 r') : Ends n i b r' :=
 ⟨Nat.le_trans h.1 h'.1, h'.2.1, fun hb => by
  have e := h.2.2 hb
  have e' := h'.2.2 (by rw [e])
  rw [e', e]⟩
theorem Ends.refl {n i : Nat} {b : Bool} (h : i ≤ n) : Ends n i b (i, b) := ⟨Nat.le_refl _, h, fun hb => by rw [hb]⟩
theorem Ends.bad {n i : Nat} {b : Bool} (h : i ≤ n) : Ends n i b (i, true) := ⟨Nat.le_refl _, h, fun hb => rfl⟩
theorem Ends.step {n i k : Nat} {b : Bool} (h : i + k ≤ n) (hb : b = false) : Ends n i b (i + k, b) := ⟨Nat.le_add_right _ _, h, fun h => by rw [hb] at h; cases h⟩
section
variable {L : List V} {i : Nat} {b : Bool}
theorem nm_ends (h : i ≤ L.length) : Ends L.length i b (nmQ L i b).2 := by
 unfold nmQ
 split
 ·rename_i hs
  have hs := (Bool.and_eq_true _ _ ▸ hs).1
  have := isK_lt hs
  exact Ends.step (by omega) this.2
 ·exact Ends.bad h
theorem must_ends {s : List UInt8} (h : i ≤ L.length) : Ends L.length i b (mustQ L i b s) := by
 unfold mustQ
 split
 ·rename_i hs
  have := isW_lt hs
  exact Ends.step (by omega) (isW_good hs)
 ·exact Ends.bad h
theorem more_ends {first : Bool} (h : i ≤ L.length) : Ends L.length i b (moreQ L i b first).2 := by
 unfold moreQ
 split
 ·exact must_ends h
 split
 ·rename_i hs
  have := isW_lt hs
  exact Ends.step (by omega) (isW_good hs)
 split
 ·exact Ends.bad h
 ·exact must_ends h
theorem expr_ends (h : i ≤ L.length) : Ends L.length i b (exprQ L i b).2 := P_ends L (stepsN L) (.expr 1) i b h
theorem item_ends (h : i ≤ L.length) : Ends L.length i b (itemQ L i b).2 := by
 have h1 := nm_ends (b := b) h
 have h2 := must_ends (b := (nmQ L i b).2.2) (s := [61]) h1.2.1
 exact (h1.then h2).then (expr_ends h2.2.1)
theorem pair_ends (h : i ≤ L.length) : Ends L.length i b (pairQ L i b).2 := by
 have h1 := nm_ends (b := b) h
 have h2 := must_ends (b := (nmQ L i b).2.2) (s := [61]) h1.2.1
 exact (h1.then h2).then (nm_ends h2.2.1)
theorem arg_ends {o : List UInt8} (h : i ≤ L.length) : Ends L.length i b (argQ L o i b).2 := by
 unfold argQ
 split
 ·exact Ends.refl h
 ·exact nm_ends h
theorem call_ends {o : List UInt8} (h : i ≤ L.length) : Ends L.length i b (callQ L o i b).2 := by
 have h1 := must_ends (b := b) (s := [40]) h
 have h2 := arg_ends (b := (mustQ L i b [40]).2) (o := o) h1.2.1
 exact (h1.then h2).then (must_ends h2.2.1)
theorem kind_some : ∀ {l : List (List UInt8)}, kindQ L i b l ≠ [] → isK L i b 0 = true ∧ txt L i = kindQ L i b l ∧ kindQ L i b l ∈ l
 | [], h => absurd rfl h
 | s :: l, h => by
  rw [kindQ] at h ⊢
  split
  ·rename_i hs
   simp only [Bool.and_eq_true, beq_iff_eq] at hs
   exact ⟨hs.1, hs.2, List.mem_cons_self ..⟩
  ·rename_i hs
   rw [if_neg hs] at h
   have ih := kind_some (l := l) h
   exact ⟨ih.1, ih.2.1, List.mem_cons_of_mem _ ih.2.2⟩
theorem agg2_ends {s : List UInt8} (h : i ≤ L.length) : Ends L.length i b (agg2Q L s i b).2 := by
 unfold agg2Q
 split
 ·exact Ends.bad h
 ·rename_i hk
  have hs := isK_lt (kind_some hk).1
  exact (Ends.step (k := 1) (by omega) hs.2).then (call_ends (by omega))
theorem agg_ends (h : i ≤ L.length) : Ends L.length i b (aggQ L i b).2 := by
 have h1 := nm_ends (b := b) h
 have h2 := must_ends (b := (nmQ L i b).2.2) (s := [61]) h1.2.1
 exact (h1.then h2).then (agg2_ends h2.2.1)
theorem loop_ends {el : Nat → Bool → Res} (he : ∀ j c, j ≤ L.length → Ends L.length j c (el j c).2) : ∀ (f : Nat) (first : Bool) (i : Nat) (b : Bool), i ≤ L.length → Ends L.length i b (loopQ L el f first i b).2
 | 0, _, i, b, h => Ends.refl h
 | f + 1, first, i, b, h => by
  have h1 := more_ends (b := b) (first := first) h
  rw [loopQ]
  split
  ·exact h1
  ·have h2 := he _ (moreQ L i b first).2.2 h1.2.1
   exact (h1.then h2).then (loop_ends he f false _ _ h2.2.1)
theorem names_ends : ∀ (f i : Nat) (b : Bool), i ≤ L.length → Ends L.length i b (namesQ L f i b).2
 | 0, i, b, h => Ends.refl h
 | f + 1, i, b, h => by
  have h1 := nm_ends (b := b) h
  rw [namesQ]
  split
  ·exact h1.then (names_ends f _ _ h1.2.1)
  ·exact h1
theorem by_ends (h : i ≤ L.length) : Ends L.length i b (byQ L i b).2 := by
 unfold byQ
 split
 ·rename_i hs
  unfold hasQ at hs
  have hs := isK_lt (Bool.and_eq_true _ _ ▸ hs).1
  have h1 : Ends L.length i b (i + 1, b) := Ends.step (by omega) hs.2
  have h2 := names_ends (L := L) (L.length + 1) (i + 1) b (by omega)
  exact (h1.then h2).then (must_ends h2.2.1)
 ·exact Ends.refl h
theorem group_ends (h : i ≤ L.length) : Ends L.length i b (groupQ L i b).2 := by
 have h1 := by_ends (b := b) h
 have h2 := agg_ends (b := (byQ L i b).2.2) h1.2.1
 exact (h1.then h2).then (loop_ends (fun j c hj => agg_ends hj) _ _ _ _ h2.2.1)
theorem tail_ends {q : Nat → Bool → Res} (hq : ∀ j c, j ≤ L.length → Ends L.length j c (q j c).2) {o : List UInt8} (h : i ≤ L.length) : Ends L.length i b (tailQ L q o i b).2 := by
 have h1 := must_ends (b := b) (s := [44]) h
 unfold tailQ
 split
 ·have h2 := expr_ends (b := (mustQ L i b [44]).2) h1.2.1
  exact (h1.then h2).then (must_ends h2.2.1)
 split
 ·exact must_ends h
 split
 ·exact loop_ends (fun j c hj => item_ends hj) _ _ _ _ h
 split
 ·exact loop_ends hq _ _ _ _ h
 split
 ·have h2 := hq _ (mustQ L i b [44]).2 h1.2.1
  exact (h1.then h2).then (loop_ends (fun j c hj => pair_ends hj) _ _ _ _ h2.2.1)
 ·exact h1.then (group_ends h1.2.1)
theorem word_lt {s m : List UInt8} (h : wordQ L i b s m = true) : i + 2 ≤ L.length ∧ b = false := by
 unfold wordQ at h
 simp only [Bool.and_eq_true, beq_iff_eq] at h
 obtain ⟨h1, h2, h3⟩ := h
 have := (List.getElem?_eq_some_iff.1 h3).1
 exact ⟨this, (isK_lt h1).2⟩
theorem op_some : ∀ {l : List (List UInt8)}, opQ L i b l ≠ [] → wordQ L i b (opQ L i b l) [40] = true ∧ opQ L i b l ∈ l
 | [], h => absurd rfl h
 | s :: l, h => by
  rw [opQ] at h ⊢
  split
  ·rename_i hs
   exact ⟨hs, List.mem_cons_self ..⟩
  ·rename_i hs
   rw [if_neg hs] at h
   have ih := op_some (l := l) h
   exact ⟨ih.1, List.mem_cons_of_mem _ ih.2⟩
theorem op_lt {l : List (List UInt8)} (h : opQ L i b l ≠ []) : i + 2 ≤ L.length ∧ b = false := word_lt (op_some h).1
end
theorem qq_ends (L : List V) : ∀ (f i : Nat) (b : Bool), i ≤ L.length → Ends L.length i b (qq L f i b).2
 | 0, i, b, h => Ends.refl h
 | f + 1, i, b, h => by
  rw [qq]
  split
  ·exact nm_ends h
  ·rename_i ho
   have hs := op_lt ho
   have h1 := qq_ends L f (i + 2) b hs.1
   exact ((Ends.step (k := 2) hs.1 hs.2).then h1).then (tail_ends (fun j c hj => qq_ends L f j c hj) h1.2.1)
theorem more_lt {L : List V} {i : Nat} {b first : Bool} (h : (moreQ L i b first).1 = true) : i < L.length ∧ b = false ∧ (moreQ L i b first).2 = (i + 1, false) := by
 have hm : ∀ c : Bool, (!(mustQ L i c [44]).2) = true → i < L.length ∧ c = false ∧ mustQ L i c [44] = (i + 1, false) := by
  intro c hc
  unfold mustQ at hc ⊢
  split at hc
  ·rename_i hs
   have h1 := isW_good hs
   rw [if_pos hs]
   exact ⟨isW_lt hs, h1, by rw [h1]⟩
  ·cases hc
 unfold moreQ at h ⊢
 by_cases c1 : first = true
 ·rw [if_pos c1] at h ⊢
  exact hm b h
 rw [if_neg c1] at h ⊢
 by_cases c2 : isW L i b [41] = true
 ·rw [if_pos c2] at h
  cases h
 rw [if_neg c2] at h ⊢
 by_cases c3 : b = true
 ·rw [if_pos c3] at h
  cases h
 rw [if_neg c3] at h ⊢
 exact hm b h
theorem loop_steps {L : List V} {el el' : Nat → Bool → Res} (he : ∀ j c, j ≤ L.length → Ends L.length j c (el j c).2) (i0 : Nat) (hel : ∀ j c, i0 ≤ j → j ≤ L.length → el j c = el' j c) : ∀ (f g : Nat) (first : Bool) (i : Nat) (b : Bool), i0 ≤ i → i ≤ L.length → L.length - i < f → L.length - i < g → loopQ L el f first i b = loopQ L el' g first i b
 | 0, _, _, _, _, _, _, h, _ => absurd h (Nat.not_lt_zero _)
 | _, 0, _, _, _, _, _, _, h => absurd h (Nat.not_lt_zero _)
 | f + 1, g + 1, first, i, b, h0, h, hf, hg => by
  rw [loopQ, loopQ]
  cases hm : (moreQ L i b first).1 with
  | false => simp
  | true =>
   have h1 := more_lt hm
   rw [h1.2.2]
   have hE := he (i + 1) false (by omega)
   rw [← hel (i + 1) false (by omega) (by omega)]
   have hi1 := hE.1
   dsimp only at hi1 ⊢
   rw [loop_steps he i0 hel f g false _ _ (by omega) hE.2.1 (by omega) (by omega)]
def Sim {α : Type} (a b : α × Nat × Bool) : Prop := a.2 = b.2 ∧ (a.2.2 = false → a.1 = b.1)
theorem Sim.refl {α : Type} (a : α × Nat × Bool) : Sim a a := ⟨rfl, fun _ => rfl⟩
theorem Sim.symm {α : Type} {a b : α × Nat × Bool} (h : Sim a b) : Sim b a := ⟨h.1.symm, fun e => (h.2 (by rw [h.1]; exact e)).symm⟩
theorem Sim.bad {α : Type} {x y : α} {j : Nat} : Sim (x, j, true) (y, j, true) := ⟨rfl, fun e => by cases e⟩
def nmOk (L : List V) (i : Nat) : Bool := isK L i false 0 && !ownL (txt L i)
def nameP (L : List V) (o : List UInt8) (i : Nat) : Res := if nmOk L i = true then (.mk o (txt L i) [], i + 1, false) else (zeroN, i, true)
def exprP (L : List V) (i : Nat) : Res := ((exprQ L i false).1.n, (exprQ L i false).2)
def noneP (L : List V) (i : Nat) : Res := (zeroN, i, false)
def namedP (L : List V) (o : List UInt8) (el : Nat → Res) (i : Nat) : Res :=
 if nmOk L i = false then (zeroN, i, true)
 else if isW L (i + 1) false [61] = false then (zeroN, i + 1, true)
 else (.mk o (txt L i) [(el (i + 2)).1], (el (i + 2)).2)
def callP (L : List V) (el : Nat → Res) (i : Nat) : Res :=
 if isW L (i + 1) false [40] = false then (zeroN, i + 1, true)
 else if (el (i + 2)).2.2 = true then (zeroN, (el (i + 2)).2.1, true)
 else if isW L (el (i + 2)).2.1 false [41] = true then (.mk (txt L i) (el (i + 2)).1.tx (el (i + 2)).1.ks, (el (i + 2)).2.1 + 1, false)
 else (zeroN, (el (i + 2)).2.1, true)
def aggC (L : List V) (i : Nat) : Res :=
 if (isK L i false 0 && aggOps.contains (txt L i)) = true then callP L (if txt L i = sCount then noneP L else nameP L sCol) i else (zeroN, i, true)
def itemP (L : List V) (i : Nat) : Res := namedP L sItem (exprP L) i
def onP (L : List V) (i : Nat) : Res := namedP L sOn (nameP L sCol) i
def aggP (L : List V) (i : Nat) : Res := namedP L sAgg (aggC L) i
def namesP (L : List V) : Nat → Nat → List Nod × Nat
 | 0, i => ([], i)
 | f + 1, i => if nmOk L i = true then (.mk sCol (txt L i) [] :: (namesP L f (i + 1)).1, (namesP L f (i + 1)).2) else ([], i)
def hasP (L : List V) (i : Nat) : Bool := isK L i false 0 && (txt L i == sBy && !isW L (i + 1) false [61])
def byP (L : List V) (i : Nat) : Res :=
 if hasP L i = false then (.mk sBy [] [], i, false)
 else if nmOk L (i + 1) = false then (zeroN, i + 1, true)
 else if isW L (namesP L (L.length + 1) (i + 1)).2 false [44] = true then (.mk sBy [] (namesP L (L.length + 1) (i + 1)).1, (namesP L (L.length + 1) (i + 1)).2 + 1, false)
 else (zeroN, (namesP L (L.length + 1) (i + 1)).2, true)
def lsP (L : List V) (least most : Nat) (el : Nat → Nat → Res) : Nat → Nat → Nat → Ress
 | 0, _, i => ([], i, true)
 | f + 1, k, i =>
  if k < least ∨ (k < most ∧ isW L i false [44] = true) then
   if 0 < k ∧ isW L i false [44] = false then ([], i, true)
   else if (el k (if k = 0 then i else i + 1)).2.2 = true then ([], (el k (if k = 0 then i else i + 1)).2.1, true)
   else ((el k (if k = 0 then i else i + 1)).1 :: (lsP L least most el f (k + 1) (el k (if k = 0 then i else i + 1)).2.1).1, (lsP L least most el f (k + 1) (el k (if k = 0 then i else i + 1)).2.1).2)
  else ([], i, false)
def shutP (L : List V) (R : Ress) : Ress := if R.2.2 = true then R else (R.1, mustQ L R.2.1 false [41])
section
variable {L : List V} {i j : Nat} {b : Bool}
theorem isW_two {s t : List UInt8} (h : isW L i b s = true) (hne : s ≠ t) : isW L i b t = false := by
 unfold isW at h ⊢
 cases hx : L[i]? with
 | none => rfl
 | some w =>
  rw [hx] at h
  simp only [Bool.and_eq_true, beq_iff_eq] at h
  have : (w.2 == t) = false := by rw [h.1.2]; simpa using hne
  simp [this]
theorem isW_wrong (s : List UInt8) : isW L i true s = false := by
 cases h : isW L i true s with
 | false => rfl
 | true => exact absurd (isW_good h) (by decide)
theorem must_wrong (s : List UInt8) : mustQ L i true s = (i, true) := by
 unfold mustQ
 rw [isW_wrong]
 rfl
theorem must_yes {s : List UInt8} (h : isW L i false s = true) : mustQ L i false s = (i + 1, false) := by
 unfold mustQ
 rw [h]
 rfl
theorem must_no {s : List UInt8} (h : isW L i false s = false) : mustQ L i false s = (i, true) := by
 unfold mustQ
 rw [h]
 rfl
theorem more_wrong (first : Bool) : moreQ L i true first = (false, i, true) := by
 unfold moreQ
 rw [must_wrong, isW_wrong]
 cases first <;> rfl
theorem loop_wrong {el : Nat → Bool → Res} (f : Nat) (first : Bool) : loopQ L el f first i true = ([], i, true) := by
 cases f with
 | zero => rfl
 | succ f => rw [loopQ, more_wrong]; rfl
theorem nm_yes (h : nmOk L i = true) : nmQ L i false = (txt L i, i + 1, false) := by
 unfold nmQ
 unfold nmOk at h
 rw [h]
 rfl
theorem nm_no (h : nmOk L i = false) : nmQ L i false = ([], i, true) := by
 unfold nmQ
 unfold nmOk at h
 rw [h]
 rfl
theorem nm_wrong : nmQ L i true = ([], i, true) := by
 unfold nmQ
 have h : isK L i true 0 = false := by
  cases h : isK L i true 0 with
  | false => rfl
  | true => exact absurd (isK_lt h).2 (by decide)
 rw [h]
 rfl
theorem ls_loop {el : Nat → Nat → Res} {el' : Nat → Bool → Res} {least most : Nat} (he : ∀ j c, j ≤ L.length → Ends L.length j c (el' j c).2) (hel : ∀ k j, least ≤ k → Sim (el' j false) (el k j)) :
  ∀ (f k i : Nat), least ≤ k → 0 < k → k + f ≤ most → i ≤ L.length → L.length - i < f → Sim (loopQ L el' f false i false) (shutP L (lsP L least most el f k i))
 | 0, _, _, _, _, _, _, h => absurd h (Nat.not_lt_zero _)
 | f + 1, k, i, hk, hk0, hm, hi, hf => by
  rw [loopQ, lsP]
  cases c : isW L i false [44] with
  | true =>
   have c41 := isW_two (t := [41]) c (by decide)
   have hil := isW_lt c
   have hmo : moreQ L i false false = (true, i + 1, false) := by
    unfold moreQ
    rw [c41, must_yes c]
    rfl
   have h1 : k < least ∨ (k < most ∧ true = true) := Or.inr ⟨by omega, rfl⟩
   have h2 : ¬ (0 < k ∧ true = false) := by rintro ⟨_, h⟩; cases h
   have h3 : ¬ k = 0 := by omega
   have h4 : ¬ (true, i + 1, false).1 = false := by simp
   rw [hmo, if_pos h1, if_neg h2, if_neg h3, if_neg h4]
   dsimp only
   have hs := hel k (i + 1) hk
   have hE := he (i + 1) false (by omega)
   generalize el k (i + 1) = E at hs ⊢
   generalize el' (i + 1) false = E' at hs hE ⊢
   obtain ⟨n, j, b⟩ := E
   obtain ⟨n', j', b'⟩ := E'
   obtain ⟨h1, h2⟩ := hs
   dsimp only at h1 h2 hE ⊢
   cases h1
   cases b with
   | true =>
    rw [loop_wrong, if_pos rfl]
    exact ⟨rfl, fun e => by cases e⟩
   | false =>
    have hE1 := hE.1
    have hE2 := hE.2.1
    dsimp only at hE1 hE2
    have ih := ls_loop (least := least) (most := most) he hel f (k + 1) j (by omega) (by omega) (by omega) hE2 (by omega)
    rw [if_neg (by simp), h2 rfl]
    obtain ⟨ih1, ih2⟩ := ih
    unfold shutP at ih1 ih2 ⊢
    dsimp only
    split
    ·rename_i hb
     rw [if_pos hb] at ih1 ih2
     exact ⟨ih1, fun e => by rw [ih2 e]⟩
    ·rename_i hb
     rw [if_neg hb] at ih1 ih2
     exact ⟨ih1, fun e => by rw [ih2 e]⟩
  | false =>
   have h1 : ¬ (k < least ∨ (k < most ∧ false = true)) := by
    rintro (h | ⟨_, h⟩)
    ·omega
    ·cases h
   rw [if_neg h1, show shutP L ([], i, false) = ([], mustQ L i false [41]) from rfl]
   cases c41 : isW L i false [41] with
   | true =>
    have hmo : moreQ L i false false = (false, i + 1, false) := by
     unfold moreQ
     rw [c41]
     rfl
    rw [hmo, if_pos rfl, must_yes c41]
    exact Sim.refl _
   | false =>
    have hmo : moreQ L i false false = (false, i, true) := by
     unfold moreQ
     rw [c41, must_no c]
     rfl
    rw [hmo, if_pos rfl, must_no c41]
    exact Sim.refl _
theorem ls_first {el : Nat → Nat → Res} {least most : Nat} (f : Nat) (h : 0 < least) : lsP L least most el (f + 1) 0 i = if (el 0 i).2.2 = true then ([], (el 0 i).2.1, true) else ((el 0 i).1 :: (lsP L least most el f 1 (el 0 i).2.1).1, (lsP L least most el f 1 (el 0 i).2.1).2) := by
 rw [lsP, if_pos (Or.inl h), if_neg (by rintro ⟨h, _⟩; omega)]
 rfl
theorem ls_must {el : Nat → Nat → Res} {least most k : Nat} (f : Nat) (h0 : 0 < k) (h : k < least) : lsP L least most el (f + 1) k i =
  if isW L i false [44] = false then ([], i, true) else if (el k (i + 1)).2.2 = true then ([], (el k (i + 1)).2.1, true) else ((el k (i + 1)).1 :: (lsP L least most el f (k + 1) (el k (i + 1)).2.1).1, (lsP L least most el f (k + 1) (el k (i + 1)).2.1).2) := by
 rw [lsP, if_pos (Or.inl h), if_neg (show ¬ k = 0 by omega)]
 cases c : isW L i false [44] with
 | false => rw [if_pos ⟨h0, rfl⟩, if_pos rfl]
 | true => rw [if_neg (show ¬ (0 < k ∧ true = false) by rintro ⟨_, h⟩; cases h), if_neg (show ¬ true = false by decide)]
theorem ls_end {el : Nat → Nat → Res} {least most k : Nat} (f : Nat) (h : least ≤ k) (h' : most ≤ k) : lsP L least most el (f + 1) k i = ([], i, false) := by
 rw [lsP, if_neg (by rintro (h | ⟨h, _⟩) <;> omega)]
theorem ls_must_loop {el : Nat → Nat → Res} {el' : Nat → Bool → Res} {least most k : Nat} (he : ∀ j c, j ≤ L.length → Ends L.length j c (el' j c).2) (hel : ∀ k j, least ≤ k + 1 → Sim (el' j false) (el k j)) (f : Nat) (h0 : 0 < k) (hk : k + 1 = least) (hm : k + f + 1 ≤ most) (hi : i ≤ L.length) (hf : L.length - i < f) :
  Sim (loopQ L el' (f + 1) true i false) (shutP L (lsP L least most el (f + 1) k i)) := by
 rw [loopQ, ls_must f h0 (by omega)]
 cases c : isW L i false [44] with
 | false =>
  have hmo : moreQ L i false true = (false, i, true) := by
   unfold moreQ
   rw [must_no c]
   rfl
  rw [hmo, if_pos rfl, if_pos rfl]
  exact Sim.refl _
 | true =>
  have hil := isW_lt c
  have hmo : moreQ L i false true = (true, i + 1, false) := by
   unfold moreQ
   rw [must_yes c]
   rfl
  have h4 : ¬ (true, i + 1, false).1 = false := by simp
  have h5 : ¬ true = false := by decide
  rw [hmo, if_neg h4, if_neg h5]
  dsimp only
  have hs := hel k (i + 1) (by omega)
  have hE := he (i + 1) false (by omega)
  generalize el k (i + 1) = E at hs ⊢
  generalize el' (i + 1) false = E' at hs hE ⊢
  obtain ⟨n, j, b⟩ := E
  obtain ⟨n', j', b'⟩ := E'
  obtain ⟨h1, h2⟩ := hs
  dsimp only at h1 h2 hE ⊢
  cases h1
  cases b with
  | true =>
   rw [loop_wrong, if_pos rfl]
   exact ⟨rfl, fun e => by cases e⟩
  | false =>
   have hE1 := hE.1
   have hE2 := hE.2.1
   dsimp only at hE1 hE2
   have ih := ls_loop (least := least) (most := most) he (fun k j h => hel k j (by omega)) f (k + 1) j (by omega) (by omega) (by omega) hE2 (by omega)
   rw [if_neg (by simp), h2 rfl]
   obtain ⟨ih1, ih2⟩ := ih
   unfold shutP at ih1 ih2 ⊢
   dsimp only
   split
   ·rename_i hb
    rw [if_pos hb] at ih1 ih2
    exact ⟨ih1, fun e => by rw [ih2 e]⟩
   ·rename_i hb
    rw [if_neg hb] at ih1 ih2
    exact ⟨ih1, fun e => by rw [ih2 e]⟩
end
end Go.Proofs.YtjbpkpfmgbhlpaaGreatDoor.Code
