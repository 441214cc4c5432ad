/-
  Words as an expression's reader sees them: a mark is none of the language's own names; a figure's number as Go's library reads it. No program is named here.
-/
import Derived.Test.YtpohpgahnompbaaGreatDoorM19
import Derived.Lib.ParseIntBCases
import Derived.Test.YtpohpgahnompbaaGreatDoorM8
import Derived.Test.YtpohpgahnompbaaGreatDoorM21
import Derived.Test.YtpohpgahnompbaaGreatDoorM14
import Derived.Test.YtpohpgahnompbaaGreatDoorM15
import Derived.Deep.DeepCutAuto
namespace Go.Proofs.YtpohpgahnompbaaGreatDoor.Code
open Val
set_option linter.unusedVariables false
/-- no mark is one of the language's own names -/
def MarkW (l : List W) : Prop := ∀ w ∈ l, w.1 = 3 → ownL w.2.1 = false
theorem let_own (c d : UInt8) (h : letB c = false) : ownL [c, d] = false := by
  unfold ownL
  simp only [Bool.or_eq_false_iff]
  have h1 : c ≠ 111 := fun e => by rw [e] at h; revert h; decide
  have h2 : c ≠ 105 := fun e => by rw [e] at h; revert h; decide
  simp [h1, h2]
theorem one_own (c : UInt8) : ownL [c] = false := by
  unfold ownL
  simp
theorem came_mark {l : List W} (h : CameB l) : MarkW l := by
  intro w hw hk
  have hf := h w hw
  rw [hk, show showW 3 w.2.1 = w.2.1 from rfl] at hf
  rcases first_cases hf with ⟨c, r, _, _, e, _⟩ | ⟨c, r, _, _, _, e, _⟩ | ⟨r, _, e, _⟩ | ⟨c, d, r, _, hl, _, _, _, e, ht, _⟩ | ⟨c, r, _, _, _, _, _, _, e, ht, _⟩
  · exact absurd e (by decide)
  · exact absurd e (by decide)
  · exact absurd e (by decide)
  · rw [ht]; exact let_own c d hl
  · rw [ht]; exact one_own c
theorem came_kind {l : List W} (h : CameB l) : ∀ w ∈ l, w.1 = 0 ∨ w.1 = 1 ∨ w.1 = 2 ∨ w.1 = 3 := by
  intro w hw
  rcases first_cases (h w hw) with ⟨c, r, _, _, e, _⟩ | ⟨c, r, _, _, _, e, _⟩ | ⟨r, _, e, _⟩ | ⟨c, d, r, _, _, _, _, _, e, _⟩ | ⟨c, r, _, _, _, _, _, _, e, _⟩
  · exact .inl e
  · exact .inr (.inl e)
  · exact .inr (.inr (.inl e))
  · exact .inr (.inr (.inr e))
  · exact .inr (.inr (.inr e))
theorem bare_in {l : List W} {i : Nat} (h : i < l.length) : (bare l)[i]? = some (l[i].1, l[i].2.1) := by
  unfold bare
  rw [List.getElem?_map, List.getElem?_eq_getElem h]
  rfl
theorem bare_out {l : List W} {i : Nat} (h : ¬ i < l.length) : (bare l)[i]? = none := List.getElem?_eq_none (by rw [bare_length]; omega)
/-- the kind that a word of this text must have to be one of the language's -/
def kindL (s : List UInt8) : Int := if ownL s = true then 0 else 3
theorem isW_in {l : List W} (hm : MarkW l) {i : Nat} (hi : i < l.length) (s : List UInt8) : isW (bare l) i false s = (l[i].2.1 == s && l[i].1 == kindL s) := by
  unfold isW
  rw [bare_in hi]
  dsimp only
  have h := hm l[i] (List.getElem_mem hi)
  obtain ⟨x, hx⟩ : ∃ x, l[i] = x := ⟨_, rfl⟩
  rw [hx] at h ⊢
  obtain ⟨k, t, p⟩ := x
  dsimp only at h ⊢
  cases hs : t == s
  · simp
  · have e : t = s := by simpa using hs
    subst e
    unfold kindL
    cases ho : ownL t
    · simp
    · by_cases hk : k = 3
      · rw [h hk] at ho; cases ho
      · simp [hk]
theorem isW_out {l : List W} {i : Nat} (hi : ¬ i < l.length) (b : Bool) (s : List UInt8) : isW (bare l) i b s = false := by
  unfold isW
  rw [bare_out hi]
theorem isK_in {l : List W} {i : Nat} (hi : i < l.length) (k : Int) : isK (bare l) i false k = (l[i].1 == k) := by
  unfold isK
  rw [bare_in hi]
  simp
theorem isK_out {l : List W} {i : Nat} (hi : ¬ i < l.length) (b : Bool) (k : Int) : isK (bare l) i b k = false := by
  unfold isK
  rw [bare_out hi]
theorem txt_in {l : List W} {i : Nat} (hi : i < l.length) : txt (bare l) i = l[i].2.1 := by
  unfold txt
  rw [bare_in hi]
theorem fig_nat {c : UInt8} (h : figB c = true) : 48 ≤ c.toNat ∧ c.toNat ≤ 57 := by
  unfold figB at h
  simpa using h
theorem big_mag (a : Nat) (h : 9223372036854775808 ≤ a) : ∀ s : List UInt8, (∀ c ∈ s, figB c = true) → Lib.parseUintM (2 ^ 64 - 1) a s = .range ∨ Lib.parseUintM (2 ^ 64 - 1) a s = .ok a
  | [], _ => .inr rfl
  | c :: r, hf => by
    left
    rw [Lib.parseUintM, if_pos (fig_nat (hf c (by simp))), if_pos (by omega)]
theorem num_mag : ∀ (s : List UInt8) (n : Nat), (∀ c ∈ s, figB c = true) → n ≤ 9223372036854775807 →
    (∀ v : Int, numF s n = some v → ∃ u : Nat, v = u ∧ u ≤ 9223372036854775807 ∧ Lib.parseUintM (2 ^ 64 - 1) n s = .ok u) ∧
    (numF s n = none → Lib.parseUintM (2 ^ 64 - 1) n s = .range ∨ ∃ u, 9223372036854775808 ≤ u ∧ Lib.parseUintM (2 ^ 64 - 1) n s = .ok u)
  | [], n, _, hn => ⟨fun v h => ⟨n, by rw [numF] at h; exact (Option.some.inj h).symm, hn, rfl⟩, fun h => by rw [numF] at h; cases h⟩
  | c :: s, n, hf, hn => by
    have hc := fig_nat (hf c (by simp))
    have hs : ∀ d ∈ s, figB d = true := fun d hd => hf d (List.mem_cons_of_mem _ hd)
    obtain ⟨d, hd⟩ : ∃ d, c.toNat - 48 = d := ⟨_, rfl⟩
    have hdi : (c.toNat : Int) - 48 = d := by omega
    rw [numF, Lib.parseUintM, if_pos hc, hd, hdi]
    by_cases hb : n * 10 + d ≤ 9223372036854775807
    · rw [if_neg (by omega), if_neg (by omega), if_neg (by omega)]
      have ih := num_mag s (n * 10 + d) hs hb
      have e : (10 * (n : Int) + (d : Int)) = ((n * 10 + d : Nat) : Int) := by omega
      rw [e]
      exact ih
    · rw [if_pos (by omega)]
      refine ⟨fun v h => (by cases h), fun _ => ?_⟩
      split
      · exact .inl rfl
      split
      · exact .inl rfl
      · rcases big_mag (n * 10 + d) (by omega) s hs with h | h
        · exact .inl h
        · exact .inr ⟨_, by omega, h⟩
/-- a figure's number, as Go's library reads it -/
theorem num_parse {s : List UInt8} (hf : ∀ c ∈ s, figB c = true) (h0 : s ≠ []) : (∀ v, numF s 0 = some v → Lib.parseIntB 64 s = .ok v ∧ 0 ≤ v ∧ v ≤ 9223372036854775807) ∧ (numF s 0 = none → Lib.parseIntB 64 s = .range) := by
  cases s with
  | nil => exact absurd rfl h0
  | cons c r =>
    have hc := fig_nat (hf c (by simp))
    have hm := num_mag (c :: r) 0 hf (by omega)
    have hp : Lib.parseUintB 64 (c :: r) = Lib.parseUintM (2 ^ 64 - 1) 0 (c :: r) := by unfold Lib.parseUintB; rw [if_neg (by simp)]
    have h45 : ¬ c.toNat = 45 := by omega
    have h43 : ¬ (c.toNat = 43 ∨ c.toNat = 45) := by omega
    refine ⟨fun v hv => ?_, fun hv => ?_⟩
    · obtain ⟨u, rfl, hu, h⟩ := hm.1 v hv
      refine ⟨?_, by omega, by omega⟩
      unfold Lib.parseIntB
      dsimp only
      rw [if_neg h43, hp, h]
      dsimp only
      rw [if_neg (by omega), if_neg (by omega), if_neg h45]
    · unfold Lib.parseIntB
      dsimp only
      rw [if_neg h43, hp]
      rcases hm.2 hv with h | ⟨u, hu, h⟩
      · rw [h]
      · rw [h]
        dsimp only
        rw [if_pos ⟨h45, by omega⟩]
theorem came_full {l : List W} (h : CameB l) : ∀ w ∈ l, w.1 = 1 → w.2.1 ≠ [] := by
  intro w hw hk he
  have hf := h w hw
  rw [hk, he] at hf
  cases hf
end Go.Proofs.YtpohpgahnompbaaGreatDoor.Code

/-
  The program's reader of words in memory, and what of Go's library it reads; a node that is read, with what it may have turned.
-/
namespace Go.Proofs.YtpohpgahnompbaaGreatDoor.Code
open Go.ChangeShapes Go.WideShapes Go.ChangeAt Go.RowKit Val Elems
set_option linter.unusedVariables false
set_option linter.unusedSimpArgs false
/-- the tables of Go's library that the calls read, and ErrRange -/
structure Env (B : Nat) (m : Int) (w : World) : Prop where
  gl : Glob B m w
  er : 7 < B
  ec : ∃ te pe, w.cell? ⟨7, 0, none⟩ = some (.iface te pe)
theorem Env.below {B : Nat} {m : Int} {w w' : World} (h : Env B m w) (hb : Below B w w') : Env B m w' := by
  obtain ⟨te, pe, hc⟩ := h.ec
  exact ⟨h.gl.below hb, h.er, te, pe, (hb.cell (p := ⟨7, 0, none⟩) h.er).trans hc⟩
theorem Env.more {B B' : Nat} {m : Int} {w : World} (h : Env B m w) (hB : B ≤ B') : Env B' m w := ⟨h.gl.more hB, Nat.lt_of_lt_of_le h.er hB, h.ec⟩
theorem Env.at {B : Nat} {m : Int} {w : World} (h : Env B m w) : Env w.heap.size m w := by
  obtain ⟨te, pe, hc⟩ := h.ec
  exact ⟨h.gl.next (Below.refl _ _), World.block_lt_of_cell? _ _ hc, te, pe, hc⟩
theorem Env.next {B : Nat} {m : Int} {w w' : World} (h : Env B m w) (hb : Below B w w') : Env w'.heap.size m w' := (h.below hb).at
/-- a reader: its words, the place -/
structure Rd (w : World) (r : Nat) (m : Int) (A : Option Addr) (cap : Nat) (l : List W) (i : Nat) : Prop where
  c0 : w.cell? ⟨r, 0, none⟩ = some (.slice A l.length cap)
  c1 : w.cell? ⟨r, 1, none⟩ = some (.int .i64 i)
  fr : ∀ j, w.frozen? ⟨r, j, none⟩ = false
  ws : At wc 3 w r A l
  ev : Env r m w
section
variable {w w' : World} {r : Nat} {m : Int} {A : Option Addr} {cap : Nat} {l : List W} {i : Nat}
theorem Rd.lt (h : Rd w r m A cap l i) : r < w.heap.size := World.block_lt_of_cell? _ _ h.c0
theorem Rd.below (h : Rd w r m A cap l i) (hb : Below w.heap.size w w') : Rd w' r m A cap l i := by
  have hl := h.lt
  exact ⟨(hb.cell (p := ⟨r, 0, none⟩) hl).trans h.c0, (hb.cell (p := ⟨r, 1, none⟩) hl).trans h.c1, fun j => (hb.frozen (p := ⟨r, j, none⟩) hl).trans (h.fr j), h.ws.below (hb.mono (Nat.le_of_lt hl)), h.ev.below (hb.mono (Nat.le_of_lt hl))⟩
theorem Rd.alloc (h : Rd w r m A cap l i) (o : Obj) : Rd (w.alloc o) r m A cap l i := h.below ((Below.refl _ _).alloc (Nat.le_refl _) o)
theorem Rd.set (h : Rd w r m A cap l i) (p : Addr) (hp : r ≤ p.block) (hn0 : p ≠ ⟨r, 0, none⟩) (hn1 : p ≠ ⟨r, 1, none⟩) (u : Value) : Rd (w.setCell p u) r m A cap l i := by
  have hb : Below r w (w.setCell p u) := (Below.refl r w).setCell hp u
  exact ⟨(World.cell?_setCell_other _ _ _ _ hn0).trans h.c0, (World.cell?_setCell_other _ _ _ _ hn1).trans h.c1, fun k => by rw [World.frozen?_setCell]; exact h.fr k, h.ws.below hb, h.ev.below hb⟩
theorem Rd.new (h : Rd w r m A cap l i) (p : Addr) (hp : r < p.block) (u : Value) : Rd (w.setCell p u) r m A cap l i :=
  h.set p (Nat.le_of_lt hp) (fun e => by rw [e] at hp; exact absurd hp (Nat.lt_irrefl _)) (fun e => by rw [e] at hp; exact absurd hp (Nat.lt_irrefl _)) u
theorem Rd.at (h : Rd w r m A cap l i) (j : Nat) : Rd (w.setCell ⟨r, 1, none⟩ (.int .i64 j)) r m A cap l j := by
  have hb : Below r w (w.setCell ⟨r, 1, none⟩ (.int .i64 j)) := (Below.refl r w).setCell (Nat.le_refl _) _
  refine ⟨?_, ?_, fun k => ?_, h.ws.below hb, h.ev.below hb⟩
  · rw [World.cell?_setCell_other _ _ _ _ (by simp)]; exact h.c0
  · exact World.cell?_setCell_same _ _ _ h.c1
  · rw [World.frozen?_setCell]; exact h.fr k
theorem Rd.env (h : Rd w r m A cap l i) : Env w.heap.size m w := h.ev.at
end
/-- the word at a place; behind the last one the zero word -/
def wd (l : List W) (i : Nat) : W := (l[i]?).getD (0, [], 0)
theorem wd_in {l : List W} {i : Nat} (h : i < l.length) : wd l i = l[i] := by
  unfold wd
  rw [List.getElem?_eq_getElem h]
  rfl
theorem wd_out {l : List W} {i : Nat} (h : ¬ i < l.length) : wd l i = (0, [], 0) := by
  unfold wd
  rw [List.getElem?_eq_none (by omega)]
  rfl
/-- the words are a text's, and not too many -/
structure Good (l : List W) : Prop where
  len : l.length ≤ 4194304
  came : CameB l
  fit : FitW l
/-- what a part answers: the node, where it is read, in these blocks and new ones; and where the reader is then -/
def Gives (r : Nat) (m : Int) (A : Option Addr) (cap : Nat) (l : List W) (w : World) (S : Nat → Prop) (res : Tr × Nat × Bool) (e : Ending) (w' : World) : Prop :=
  ∃ (op tx : ByteArray) (X : Option Addr) (n k : Nat), e = .returned (.tuple #[.agg #[.string op, .string tx, .slice X n k], .bool (!res.2.2)]) ∧ (res.2.2 = false → NIn w' (fun g => S g ∨ (w.heap.size ≤ g ∧ g < w'.heap.size)) res.1 (.string op) (.string tx) (.slice X n k)) ∧ But w w' r ∧ Rd w' r m A cap l res.2.1
def NoBlk (g : Nat) : Prop := False
/-- a variable of a struct that is stored -/
def S3 (w : World) (g : Nat) (a b c : Value) : World := ((w.setCell ⟨g, 0, none⟩ a).setCell ⟨g, 1, none⟩ b).setCell ⟨g, 2, none⟩ c
/-- all but one block is as it was -/
def Ox (g : Nat) (w w' : World) : Prop := w'.heap.size = w.heap.size ∧ ∀ p : Addr, p.block ≠ g → w'.cell? p = w.cell? p
theorem Ox.refl (g : Nat) (w : World) : Ox g w w := ⟨rfl, fun _ _ => rfl⟩
theorem Ox.setCell {g : Nat} {w w' : World} (h : Ox g w w') (p : Addr) (hp : p.block = g) (v : Value) : Ox g w (w'.setCell p v) := ⟨by rw [World.size_setCell]; exact h.1, fun q hq => (World.cell?_setCell_other _ _ _ _ (fun e => hq (by rw [← e]; exact hp))).trans (h.2 q hq)⟩
theorem Ox.drew {g : Nat} {w w' : World} (h : Ox g w w') : Ox g w w'.drew := ⟨h.1, fun q hq => h.2 q hq⟩
end Go.Proofs.YtpohpgahnompbaaGreatDoor.Code

/-
  Contracts of the program's reader of words: the word that comes, a mark's or name's kind, what is taken.
-/
namespace Go.Proofs.YtpohpgahnompbaaGreatDoor.Code
open Go.ChangeShapes Go.WideShapes Go.ChangeAt Go.RowKit Val Elems
set_option linter.unusedVariables false
set_option linter.unusedSimpArgs false
section
variable {r : Nat} {m : Int} {A : Option Addr} {cap : Nat} {l : List W}
set_option maxHeartbeats 4000000 in
set_option maxRecDepth 100000 in
theorem eword_any (i : Nat) (w : World) (h : Rd w r m A cap l i) (hi : i ≤ l.length) (hl : l.length ≤ 4194304) :
    Calls Tryz.prog 77 #[.pointer (some ⟨r, 0, none⟩)] w fun e w' => e = .returned (.agg #[.int .i64 (wd l i).1, .string ⟨(wd l i).2.1.toArray⟩, .int .i64 (wd l i).2.2]) ∧ Below w.heap.size w w' := by
  have HW := Lib.hid h.ws
  have hrl := h.lt
  obtain ⟨c0, c1, -, -, -⟩ := h
  by_cases hil : i < l.length
  · rw [wd_in hil]
    obtain ⟨ad, rfl, ha, d0, d1, d2⟩ := at_word HW.out i hil
    obtain ⟨x, hxx⟩ : ∃ x, l[i] = x := ⟨_, rfl⟩
    rw [hxx] at d0 d1 d2 ⊢
    obtain ⟨k, t, p⟩ := x
    dsimp only at d0 d1 d2 ⊢
    obtain ⟨T, hT⟩ : ∃ T : ByteArray, ⟨t.toArray⟩ = T := ⟨_, rfl⟩
    rw [hT] at d1 ⊢
    obtain ⟨q, hq⟩ : ∃ q, ad.add (i * 3) = q := ⟨_, rfl⟩
    have hbq : q.block < w.heap.size := by rw [← hq, add_block]; omega
    rw [hq] at d0 d1 d2
    clear hxx hT
    have e1 : decide ((i : Int) < (l.length : Int)) = true := by simp; omega
    have e2 : decide (i < l.length) = true := by simp; omega
    have e3 : (i : Int) < (l.length : Int) := by omega
    have e4 : (0 : Int) ≤ (i : Int) := by omega
    go_enter Tryz.func77, Tryz.ntmps77
    go_wp2
    go_quiet (fail)
    obtain ⟨W6, hW6⟩ : ∃ W6, (w.alloc (.cells #[.int .i64 0, .string ⟨#[]⟩, .int .i64 0] 39)).drewN nq = W6 := ⟨_, rfl⟩
    have L6 := Lib.hid (show Below w.heap.size w W6 by rw [← hW6]; exact drewN_below ((Below.refl _ _).alloc (Nat.le_refl _) _) _)
    have N6 := Lib.hid (show NBox W6 w.heap.size (.int .i64 0) (.string ⟨#[]⟩) (.int .i64 0) by rw [← hW6]; exact (NBox.fresh w _ _ _ _).below (drewN_below (Below.refl _ _) _))
    have HO := Lib.hid (Ox.refl w.heap.size W6)
    have FQ := Lib.hid (fun w' (h : Ox w.heap.size W6 w') => show w'.cell? ⟨r, 0, none⟩ = some (.slice (some ad) l.length cap) ∧ w'.cell? ⟨r, 1, none⟩ = some (.int .i64 i) ∧ w'.cell? q = some (.int .i64 k) ∧ w'.cell? ⟨q.block, q.off + 1, none⟩ = some (.string T) ∧ w'.cell? ⟨q.block, q.off + 2, none⟩ = some (.int .i64 p) from
      ⟨((h.2 _ (by simp; omega)).trans (L6.out.cell (p := ⟨r, 0, none⟩) hrl)).trans c0, ((h.2 _ (by simp; omega)).trans (L6.out.cell (p := ⟨r, 1, none⟩) hrl)).trans c1, ((h.2 _ (by omega)).trans (L6.out.cell (p := q) hbq)).trans d0, ((h.2 _ (by simp; omega)).trans (L6.out.cell (p := ⟨q.block, q.off + 1, none⟩) hbq)).trans d1, ((h.2 _ (by simp; omega)).trans (L6.out.cell (p := ⟨q.block, q.off + 2, none⟩) hbq)).trans d2⟩)
    obtain ⟨k0, k1, k2, k3, k4⟩ := FQ.out _ HO.out
    obtain ⟨x0, x1, x2, xf⟩ := N6.out
    clear c0 c1 d0 d1 d2
    rw [hW6]
    go_upto_region 2 with fail
    go_region_held3 (fun w' => (w'.cell? ⟨r, 0, none⟩ = some (.slice (some ad) l.length cap) ∧ w'.cell? ⟨r, 1, none⟩ = some (.int .i64 i) ∧ w'.cell? q = some (.int .i64 k) ∧ w'.cell? ⟨q.block, q.off + 1, none⟩ = some (.string T) ∧ w'.cell? ⟨q.block, q.off + 2, none⟩ = some (.int .i64 p)) ∧ Ox w.heap.size W6 w')
      (first | assumption | (exact ⟨FQ.out _ HO.out.drew, HO.out.drew⟩) | (exact ⟨FQ.out _ HO.out, HO.out⟩) | (refine (fun hS9 : Ox w.heap.size W6 _ => ⟨FQ.out _ hS9, hS9⟩) (((HO.out.setCell _ rfl _).setCell _ rfl _).setCell _ rfl _).drew))
      (fail)
    go_wp2
    have Y := N6.out.set (.int .i64 k) (.string T) (.int .i64 p)
    exact bodyPost_ret (v := .agg #[.int .i64 k, .string T, .int .i64 p]) (by simp [results, Tryz.results77, go_sem, Y.c0, Y.c1, Y.c2]) rfl
      ⟨rfl, (((L6.out.setCell (Nat.le_refl _) _).setCell (Nat.le_refl _) _).setCell (Nat.le_refl _) _).drew⟩
  · rw [wd_out hil]
    have e1 : decide ((i : Int) < (l.length : Int)) = false := by simp; omega
    have e2 : decide (i < l.length) = false := by simp; omega
    clear hil
    go_enter Tryz.func77, Tryz.ntmps77
    go_wp2
    go_quiet (fail)
    go_wp2
    have Y := ((NBox.fresh w (.int .i64 0) (.string ⟨#[]⟩) (.int .i64 0) 39).below (drewN_below (Below.refl _ _) nq)).set (.int .i64 0) (.string ⟨#[]⟩) (.int .i64 0)
    exact bodyPost_ret (v := .agg #[.int .i64 0, .string ⟨#[]⟩, .int .i64 0]) (by simp [results, Tryz.results77, go_sem, Y.c0, Y.c1, Y.c2]) rfl
      ⟨rfl, (((drewN_below ((Below.refl _ _).alloc (Nat.le_refl _) _) _).setCell (Nat.le_refl _) _).setCell (Nat.le_refl _) _).setCell (Nat.le_refl _) _⟩
theorem ekind_any (s : ByteArray) (w : World) :
    Calls Tryz.prog 78 #[.string s] w fun e w' => e = .returned (.int .i64 (kindL s.data.toList)) ∧ w = w' := by
  obtain ⟨ow, how⟩ : ∃ ow, ownL s.data.toList = ow := ⟨_, rfl⟩
  have HO := Lib.hid (fun w => own_any s w)
  rw [show ownB s.toList = ow by rw [← how, ByteArray.toList_eq]; rfl] at HO
  have hk : kindL s.data.toList = if ow = true then 0 else 3 := by unfold kindL; rw [how]
  rw [hk]
  clear hk how
  cases ow
  all_goals
    go_enter Tryz.func78, Tryz.ntmps78
    go_wp2_with fail
    refine (HO.out _).mono ?_
    rintro e w1 ⟨rfl, rfl⟩
    go_wp2
    go_ret
    exact ⟨rfl, rfl⟩
theorem isW_wd (hm : MarkW l) (i : Nat) (s : List UInt8) (hs : s ≠ []) : isW (bare l) i false s = ((wd l i).2.1 == s && (wd l i).1 == kindL s) := by
  by_cases hi : i < l.length
  · rw [isW_in hm hi, wd_in hi]
  · rw [isW_out hi, wd_out hi]
    cases s with
    | nil => exact absurd rfl hs
    | cons c s => rfl
theorem first_step {L : List V} {i : Nat} {b : Bool} : ∀ (ls : List (List UInt8)) (k : Nat) (h : k < ls.length), (∀ j (hj : j < ls.length), j < k → isW L i b ls[j] = false) → isW L i b ls[k] = true → oneL L i b ls = ls[k]
  | [], k, h, _, _ => absurd h (Nat.not_lt_zero _)
  | s :: ls, 0, h, _, hw => by
    rw [oneL, if_pos (show isW L i b s = true from hw)]
    rfl
  | s :: ls, k + 1, h, hb, hw => by
    have h0 := hb 0 (by simp) (by omega)
    rw [oneL, if_neg (by rw [show isW L i b s = false from h0]; decide)]
    exact first_step ls k (by simpa using h) (fun j hj hjk => hb (j + 1) (by simpa using hj) (by omega)) hw
set_option maxHeartbeats 8000000 in
set_option maxRecDepth 100000 in
theorem etake_any (hg : Good l) (i : Nat) (S : Option Addr) (sc' : Nat) (ls : List (List UInt8)) (w : World) (h : Rd w r m A cap l i) (hi : i ≤ l.length)
    (hs : At sc 1 w w.heap.size S ls) (hne : ∀ ad, S = some ad → ad.block ≠ r) (hls : ls.length ≤ 100) (hn0 : [] ∉ ls) (q : List UInt8) (hq : oneL (bare l) i false ls = q) :
    Calls Tryz.prog 59 #[.pointer (some ⟨r, 0, none⟩), .slice S ls.length sc'] w fun e w' => e = .returned (.string ⟨q.toArray⟩) ∧ But w w' r ∧ Rd w' r m A cap l (if q = [] then i else i + 1) := by
  have hlen := hg.len
  have HWD := Lib.hid (fun w0 (hr : Rd w0 r m A cap l i) => eword_any i w0 hr hi hlen)
  have HIS := Lib.hid (fun (k : Nat) (hk : k < ls.length) => isW_wd (came_mark hg.came) i ls[k] (fun e => hn0 (e ▸ List.getElem_mem hk)))
  obtain ⟨x, hx⟩ : ∃ x, wd l i = x := ⟨_, rfl⟩
  rw [hx] at HWD HIS
  obtain ⟨wk, wt, wp⟩ := x
  dsimp only at HWD HIS
  obtain ⟨T, hT⟩ : ∃ T : ByteArray, ⟨wt.toArray⟩ = T := ⟨_, rfl⟩
  obtain rfl : wt = T.data.toList := by rw [← hT]
  rw [hT] at HWD
  have HR := Lib.hid h
  have hrl := h.lt
  have HS := Lib.hid hs
  have HNE := Lib.hid hne
  have HN0 := Lib.hid hn0
  have HQ := Lib.hid hq
  clear h hs hne hn0 hq hx hT hg
  go_enter Tryz.func59, Tryz.ntmps59
  go_wp2_with fail
  refine (HWD.out _ HR.out).mono ?_
  rintro e w1 ⟨rfl, hb1⟩
  have B1 := Lib.hid ((But.of hb1 r).alloc (.cells #[.int .i64 wk, .string T, .int .i64 wp] 39))
  have R1 := Lib.hid ((HR.out.below hb1).alloc (.cells #[.int .i64 wk, .string T, .int .i64 wp] 39))
  have N1 := Lib.hid (NBox.fresh w1 (.int .i64 wk) (.string T) (.int .i64 wp) 39)
  have z1 := hb1.size
  clear hb1
  go_wp2
  go_loopw [12] (fun t wr => ∃ k : Nat, k ≤ ls.length ∧ t = .int .i64 k ∧ Hid (∀ j (hj : j < ls.length), j < k → isW (bare l) i false ls[j] = false) ∧ But w wr r ∧ Rd wr r m A cap l i ∧ NBox wr w1.heap.size (.int .i64 wk) (.string T) (.int .i64 wp)) (fun t _ => ls.length - (intOf t).toNat)
  case atStart => exact ⟨0, by omega, rfl, Lib.hid (fun j hj h => absurd h (Nat.not_lt_zero _)), B1.out, R1.out, N1.out⟩
  case round =>
    obtain ⟨k, hk, rfl, HB, hbut, hrd, hnb⟩ := hrel
    have HBU := Lib.hid hbut
    have HRD := Lib.hid hrd
    have HNB := Lib.hid hnb
    have VS := Lib.hid (at_but HS.out hbut (Nat.le_refl _) HNE.out)
    obtain ⟨x0, x1, x2, xf⟩ := hnb
    clear hbut hrd
    by_cases hkl : k < ls.length
    · obtain ⟨ad, rfl, ha, c0⟩ := at_text VS.out k hkl
      have hisk := HIS.out k hkl
      obtain ⟨s, hsx⟩ : ∃ s, ls[k] = s := ⟨_, rfl⟩
      obtain ⟨U, hU⟩ : ∃ U : ByteArray, ⟨s.toArray⟩ = U := ⟨_, rfl⟩
      obtain rfl : s = U.data.toList := by rw [← hU]
      rw [hsx, hU] at c0
      rw [hsx] at hisk
      have HNW := Lib.hid (show isW (bare l) i false ls[k] = false → ∀ j (hj : j < ls.length), j < k + 1 → isW (bare l) i false ls[j] = false by
        intro hg j hj hjk
        by_cases e : j = k
        · subst e; exact hg
        · exact HB.out j hj (by omega))
      rw [hsx] at HNW
      by_cases hts : T = U
      · subst hts
        have hk2 : isW (bare l) i false T.data.toList = (wk == kindL T.data.toList) := by rw [hisk]; simp
        have HK := Lib.hid (fun w => ekind_any T w)
        obtain ⟨kl, hkl2⟩ : ∃ kl, kindL T.data.toList = kl := ⟨_, rfl⟩
        rw [hkl2] at HK hk2
        obtain ⟨g, hg⟩ : ∃ g, (wk == kl) = g := ⟨_, rfl⟩
        rw [hg] at hk2
        have HK2 := Lib.hid hk2
        have HSX := Lib.hid hsx
        clear hk2 hkl2 hisk hU hsx
        cases g
        · go_wp2
          go_quiet (refine Calls.quiet_of_same ((HK.out _).mono (by rintro e w' ⟨h1, h2⟩; exact ⟨h1, h2.symm⟩)))
          have hb2 : Below wr.heap.size wr (wr.drewN nq) := drewN_below (Below.refl _ _) nq
          have B3 := Lib.hid (HBU.out.next hb2)
          have R3 := Lib.hid (HRD.out.below hb2)
          have N3 := Lib.hid (HNB.out.below hb2)
          clear hb2
          go_wp2
          go_roundw
          case rel => exact ⟨k + 1, by omega, by go_num, Lib.hid (HNW.out HK2.out), B3.out, R3.out, N3.out⟩
          case measure => simp [intOf]; omega
        · go_wp2
          go_quiet (refine Calls.quiet_of_same ((HK.out _).mono (by rintro e w' ⟨h1, h2⟩; exact ⟨h1, h2.symm⟩)))
          have hb2 : Below wr.heap.size wr (wr.drewN nq) := drewN_below (Below.refl _ _) nq
          have B3 := Lib.hid (HBU.out.next hb2)
          have R3 := Lib.hid (HRD.out.below hb2)
          have c1 := R3.out.c1
          have fr := R3.out.fr 1
          have hx := first_step (L := bare l) (i := i) (b := false) ls k hkl HB.out (by rw [HSX.out]; exact HK2.out)
          rw [HQ.out, HSX.out] at hx
          have hq0 : q ≠ [] := by
            intro e
            rw [e] at hx
            exact HN0.out (hx ▸ HSX.out ▸ List.getElem_mem hkl)
          have HQT := Lib.hid (show (⟨q.toArray⟩ : ByteArray) = T by rw [hx, Lib.mk_data])
          clear hb2 hx
          go_wp2
          go_ret
          refine ⟨retS HQT.out.symm, B3.out.setCell 1 _, ?_⟩
          have := R3.out.at (i + 1)
          rw [Int.natCast_add] at this
          first | exact this | (rw [if_neg hq0]; exact this)
      · have f2 := toList_ne hts
        have hk2 : isW (bare l) i false U.data.toList = false := by
          rw [hisk]
          have : ¬ T.data.toList = U.data.toList := fun e => hts (by rw [← Lib.mk_data T, e, Lib.mk_data])
          rw [show (T.data.toList == U.data.toList) = false from beq_eq_false_iff_ne.2 this]
          rfl
        have HK2 := Lib.hid hk2
        clear hk2 hisk hU hsx
        go_wp2
        refine wp_region_quiet_lit (by kernel_rfl) (by kernel_rfl) ?_
        repeat (with_reducible refine wpQuiet_step ?_; intro K hK; go_simp; with_reducible refine hK _ ?_; clear hK K)
        refine wpQuiet_nil ?_
        intro _ hw'
        obtain ⟨nq, hw''⟩ := hw'
        subst hw''
        have hb2 : Below wr.heap.size wr (wr.drewN nq) := drewN_below (Below.refl _ _) nq
        have B3 := Lib.hid (HBU.out.next hb2)
        have R3 := Lib.hid (HRD.out.below hb2)
        have N3 := Lib.hid (HNB.out.below hb2)
        clear hb2
        go_wp2
        go_roundw
        case rel => exact ⟨k + 1, by omega, by go_num, Lib.hid (HNW.out HK2.out), B3.out, R3.out, N3.out⟩
        case measure => simp [intOf]; omega
    · have hx : oneL (bare l) i false ls = [] := oneL_none fun s hs => by
        obtain ⟨j, hj, rfl⟩ := List.mem_iff_getElem.1 hs
        exact HB.out j hj (by omega)
      rw [HQ.out] at hx
      subst hx
      go_wp2
      go_ret
      exact ⟨rfl, HBU.out, HRD.out⟩
end
end Go.Proofs.YtpohpgahnompbaaGreatDoor.Code
