/-
  A list of parts in memory while the program reads it: what lies where, what stays.
-/
import Derived.Test.YtjbpkpfmgbhlpaaGreatDoorMp18
import Derived.Test.YtjbpkpfmgbhlpaaGreatDoorMp8
import Derived.Deep.RegionHeld3
import Derived.Test.YtjbpkpfmgbhlpaaGreatDoorMp14
import Derived.Test.YtjbpkpfmgbhlpaaGreatDoorMp5
import Derived.Test.YtjbpkpfmgbhlpaaGreatDoorMp6
set_option maxRecDepth 100000
set_option maxHeartbeats 16000000
open Go.Lib (hid)
namespace Go.Proofs.YtjbpkpfmgbhlpaaGreatDoor.Code
open Go.ChangeShapes Go.WideShapes Go.ChangeAt Go.RowKit Val Elems
set_option linter.unusedVariables false
set_option linter.unusedSimpArgs false
abbrev NVBox (w : World) (g : Nat) (y : NV) : Prop := NBox w g (.string y.1) (.string y.2.1) (.slice y.2.2.1 y.2.2.2.1 y.2.2.2.2)
section
variable {r : Nat} {m : Int} {A : Option Addr} {cap : Nat} {l : List W} {qb qa : Nat}
def GiveE (r : Nat) (m : Int) (A : Option Addr) (cap : Nat) (l : List W) (qb qa g : Nat) (T : Option (Nat → Nod)) (Pre : World → Prop) (k i : Nat) (w : World) (res : Res) (e : Ending) (w' : World) : Prop :=
 ∃ (op tx : ByteArray) (X : Option Addr) (n c : Nat), e = .returned (.tuple #[.agg #[.string op, .string tx, .slice X n c], .bool (!res.2.2)]) ∧ (res.2.2 = false → RIn w' (New w w') res.1 (op, tx, X, n, c)) ∧ But2 w w' r g ∧ Rq w' r m A cap l qb qa res.2.1 ∧ Pre w' ∧ (k ≠ 1 → But w w' r) ∧
  (∀ t, T = some t → k = 1 → res.2.2 = false → ∃ y : NV, NVBox w' g y ∧ RIn w' (New w w') (t i) y)
theorem GiveN.part {g : Nat} {Pre : World → Prop} {k i : Nat} {w w' : World} {res : Res} {e : Ending} (h : GiveN r m A cap l qb qa w res e w') (hp : Pre w') : GiveE r m A cap l qb qa g none Pre k i w res e w' := by
 obtain ⟨op, tx, X, n, c, he, hn, hb, hr⟩ := h
 exact ⟨op, tx, X, n, c, he, hn, hb.two g, hr, hp, fun _ => hb, fun t h => by cases h⟩
theorem GiveN.part' {g : Nat} {T : Option (Nat → Nod)} {Pre : World → Prop} {k i : Nat} {w w' : World} {res : Res} {e : Ending} (h : GiveN r m A cap l qb qa w res e w') (hp : Pre w') (hk : k ≠ 1) : GiveE r m A cap l qb qa g T Pre k i w res e w' := by
 obtain ⟨op, tx, X, n, c, he, hn, hb, hr⟩ := h
 exact ⟨op, tx, X, n, c, he, hn, hb.two g, hr, hp, fun _ => hb, fun t _ h => absurd h hk⟩
def ElemC (fn : Nat) (cps : Array Value) (r : Nat) (m : Int) (A : Option Addr) (cap : Nat) (l : List W) (qb qa g : Nat) (T : Option (Nat → Nod)) (Pre : World → Prop) (i0 : Nat) (el : Nat → Nat → Res) : Prop :=
 ∀ (k i : Nat) (w : World), i0 ≤ i → i ≤ l.length → k ≤ 4194306 → Rq w r m A cap l qb qa i → Pre w → Calls Tryz.prog fn (#[.int .i64 k] ++ cps) w (GiveE r m A cap l qb qa g T Pre k i w (el k i))
def GiveL (r : Nat) (m : Int) (A : Option Addr) (cap : Nat) (l : List W) (qb qa g : Nat) (T : Option (Nat → Nod)) (Pre : World → Prop) (j1 : Nat) (w : World) (R : Ress) (e : Ending) (w' : World) : Prop :=
 ∃ (op tx : ByteArray) (X : Option Addr) (n c : Nat), e = .returned (.tuple #[.agg #[.string op, .string tx, .slice X n c], .bool (!R.2.2)]) ∧ (R.2.2 = false → RIn w' (New w w') (.mk [] [] R.1) (op, tx, X, n, c)) ∧ But2 w w' r g ∧ Rq w' r m A cap l qb qa R.2.1 ∧ Pre w' ∧
  (R.2.2 = false → ∃ xs : List NV, n = xs.length ∧ w'.ownsRow w.heap.size 25 3 (.slice X n c) n (flatC nc xs) ∧ RAll w' (Apart w w' X) R.1 xs) ∧
  (∀ t, T = some t → R.2.2 = false → 2 ≤ R.1.length → ∃ y : NV, NVBox w' g y ∧ RIn w' (Apart w w' X) (t j1) y)
def LS (w wr : World) (X : Option Addr) (k : Nat) : Prop := w.heap.size + 1 < k ∧ k < wr.heap.size ∧ ∀ ad, X = some ad → ad.block ≠ k
structure LsK (r : Nat) (m : Int) (A : Option Addr) (cap : Nat) (l : List W) (qb qa g : Nat) (T : Option (Nat → Nod)) (Pre : World → Prop) (j1 : Nat) (w : World) (j : Nat) (ks : List Nod) (xs : List NV) (X : Option Addr) (cp : Nat) (w' : World) : Prop where
 nb : NBox w' w.heap.size (.string ⟨#[]⟩) (.string ⟨#[]⟩) (.slice none 0 0)
 mb : NBox w' (w.heap.size + 1) (.string ⟨#[]⟩) (.string ⟨#[]⟩) (.slice X xs.length cp)
 own : w'.ownsRow (w.heap.size + 2) 25 3 (.slice X xs.length cp) xs.length (flatC nc xs)
 all : RAll w' (LS w w' X) ks xs
 but : But2 w w' r g
 rd : Rq w' r m A cap l qb qa j
 pre : Pre w'
 ex : ∀ t, T = some t → 2 ≤ ks.length → ∃ y : NV, NVBox w' g y ∧ RIn w' (LS w w' X) (t j1) y
theorem NBox.but2 {w w' : World} {g r h : Nat} {a b c : Value} (hb : NBox w g a b c) (hg : g ≠ r) (hh : g ≠ h) (hbb : But2 w w' r h) : NBox w' g a b c := by
 have hl := hb.lt
 exact ⟨(hbb.cell (q := ⟨g, 0, none⟩) hl hg hh).trans hb.c0, (hbb.cell (q := ⟨g, 1, none⟩) hl hg hh).trans hb.c1, (hbb.cell (q := ⟨g, 2, none⟩) hl hg hh).trans hb.c2, fun j => (hbb.frozen (q := ⟨g, j, none⟩) hl hg hh).trans (hb.fr j)⟩
theorem own_but2 {w w' : World} {B r g n k : Nat} {e : TypeId} {v : Value} {xs : List Value} (h : w.ownsRow B e k v n xs) (hb : But2 w w' r g) (hB : r < B) (hg : g < B) : w'.ownsRow B e k v n xs := by
 refine ⟨h.1, ?_⟩
 rcases h.2 with hn | ⟨o, cap, cur, e, hb', hgg, rest⟩
 ·exact .inl hn
 ·refine .inr ⟨o, cap, cur, e, hb', ?_, rest⟩
  rw [hb.block o (Array.getElem?_eq_some_iff.1 hgg).1 (by omega) (by omega)]
  exact hgg
theorem But2.grown {w w8 w9 : World} {r g : Nat} {row : Option Nat} (h : But2 w w8 r g) (hg : w8.grownBy w9 row) (hrow : ∀ k, row = some k → w.heap.size ≤ k) : But2 w w9 r g :=
 ⟨hg.os.trans h.os, hg.tape.trans h.tape, hg.output.trans h.output, Nat.le_trans h.size hg.size, fun k hk hn hm => (hg.block k (Nat.lt_of_lt_of_le hk h.size) (fun e => by have := hrow k e.symm; omega)).trans (h.block k hk hn hm)⟩
theorem Rq.under {w w' : World} {B i : Nat} (h : Rq w r m A cap l qb qa i) (hb : Below B w w') (hr : r < B) (hq : qb < B) (ha : qa < B) : Rq w' r m A cap l qb qa i :=
 ⟨⟨(hb.cell (p := ⟨r, 0, none⟩) hr).trans h.rd.c0, (hb.cell (p := ⟨r, 1, none⟩) hr).trans h.rd.c1, fun j => (hb.frozen (p := ⟨r, j, none⟩) hr).trans (h.rd.fr j), h.rd.ws.below (hb.mono (Nat.le_of_lt hr)), h.rd.ev.below (hb.mono (Nat.le_of_lt hr))⟩, (hb.cell (p := ⟨r, 2, none⟩) hr).trans h.c2, (hb.cell (p := ⟨r, 3, none⟩) hr).trans h.c3, h.mq.heap (hb.block _ hq), h.ma.heap (hb.block _ ha), h.nq, h.na⟩
def Firm (r : Nat) (Pre : World → Prop) (w : World) : Prop := ∀ w1 w2 : World, (∀ k, k < w.heap.size → k ≠ r → w2.heap[k]? = w1.heap[k]?) → Pre w1 → Pre w2
section
variable {g : Nat} {T : Option (Nat → Nod)} {Pre : World → Prop} {j1 : Nat} {w w' w8 : World} {j j' : Nat} {ks : List Nod} {xs : List NV} {X : Option Addr} {cp : Nat}
theorem LsK.next (h : LsK r m A cap l qb qa g T Pre j1 w j ks xs X cp w') (hr : r < w.heap.size) (hT : ∀ t, T = some t → g ≠ r) (hP : Firm r Pre w) (hb : But w' w8 r) (hQ : Rq w8 r m A cap l qb qa j') : LsK r m A cap l qb qa g T Pre j1 w j' ks xs X cp w8 := by
 have hs : ∀ k, LS w w' X k → LS w w8 X k := fun k hk => ⟨hk.1, Nat.lt_of_lt_of_le hk.2.1 hb.size, hk.2.2⟩
 have hc : ∀ p : Addr, LS w w' X p.block → w8.cell? p = w'.cell? p := fun p hp => hb.cell hp.2.1 (by have := hp.1; omega)
 have hz := h.but.size
 refine ⟨h.nb.but (by omega) hb, h.mb.but (by omega) hb, own_but h.own hb (by omega), h.all.keep hs hc, h.but.trans (hb.two g), hQ, hP _ _ (fun k hk hn => hb.block k (by omega) hn) h.pre, fun t ht h2 => ?_⟩
 obtain ⟨y, hy, hi⟩ := h.ex t ht h2
 exact ⟨y, hy.but (hT t ht) hb, hi.keep hs hc⟩
theorem LsK.part (h : LsK r m A cap l qb qa g T Pre j1 w j ks xs X cp w') (hr : r < w.heap.size) (hg : g < w.heap.size) (hT : ∀ t, T = some t → g ≠ r) (hb : But2 w' w8 r g) (hQ : Rq w8 r m A cap l qb qa j') (hp : Pre w8) (hk : ks.length ≠ 1 → But w' w8 r) : LsK r m A cap l qb qa g T Pre j1 w j' ks xs X cp w8 := by
 have hs : ∀ k, LS w w' X k → LS w w8 X k := fun k hk => ⟨hk.1, Nat.lt_of_lt_of_le hk.2.1 hb.size, hk.2.2⟩
 have hc : ∀ p : Addr, LS w w' X p.block → w8.cell? p = w'.cell? p := fun p hp => hb.cell hp.2.1 (by have := hp.1; omega) (by have := hp.1; omega)
 refine ⟨h.nb.but2 (by omega) (by omega) hb, h.mb.but2 (by omega) (by omega) hb, own_but2 h.own hb (by omega) (by omega), h.all.keep hs hc, h.but.trans hb, hQ, hp, fun t ht h2 => ?_⟩
 obtain ⟨y, hy, hi⟩ := h.ex t ht h2
 exact ⟨y, hy.but (hT t ht) (hk (by omega)), hi.keep hs hc⟩
theorem LsK.add {w9 : World} {t0 : Nod} {y0 : NV} {N gg cap9 : Nat} (h : LsK r m A cap l qb qa g T Pre j1 w j ks xs X cp w8) (hr : r < w.heap.size) (hq : qb < w.heap.size) (ha : qa < w.heap.size) (hgl : g < w.heap.size) (hP : Firm r Pre w) (hN : xs.length = N)
  (hy0 : RIn w8 (LS w w8 X) t0 y0) (hx : ∀ t, T = some t → ks.length = 1 → ∃ y : NV, NVBox w8 g y ∧ RIn w8 (LS w w8 X) (t j1) y)
  (hown9 : w9.ownsRow (w.heap.size + 2) 25 3 (.slice (some ⟨gg, 0, none⟩) (N + 1) cap9) (N + 1) (flatC nc xs ++ nc y0)) (hg : w8.grownBy w9 (Value.slice X N cp).ownBlock) (hat : (Value.slice X N cp).ownBlock = some gg ∨ gg = w8.heap.size) :
  LsK r m A cap l qb qa g T Pre j1 w j (ks ++ [t0]) (xs ++ [y0]) (some ⟨gg, 0, none⟩) cap9 (w9.setCell ⟨w.heap.size + 1, 2, none⟩ (.slice (some ⟨gg, 0, none⟩) (N + 1) cap9)) := by
 subst hN
 have hl : (xs ++ [y0]).length = xs.length + 1 := by simp
 have hfl : flatC nc (xs ++ [y0]) = flatC nc xs ++ nc y0 := flatC_snoc xs y0
 have hrow : ∀ k, (Value.slice X xs.length cp).ownBlock = some k → w.heap.size + 2 ≤ k := fun k e => (h.own.lt k e).1
 have h0 := h.but.size
 have hz := hg.size
 have hgn := h.mb.lt
 have hgg : w.heap.size + 2 ≤ gg := by
  rcases hat with e | e
  ·exact hrow _ e
  ·omega
 have hB : Below w.heap.size w8 w9 := ⟨hg.os, hg.tape, hg.output, hg.size, fun k hk => hg.block k (by omega) (fun e => by have := hrow k e.symm; omega)⟩
 have hne : ∀ k, LS w w8 X k → (Value.slice X xs.length cp).ownBlock ≠ some k := by
  intro k hk e
  cases X with
  | none => cases e
  | some ad => exact hk.2.2 ad rfl (Option.some.inj e)
 have hk : ∀ p : Addr, LS w w8 X p.block → (w9.setCell ⟨w.heap.size + 1, 2, none⟩ (.slice (some ⟨gg, 0, none⟩) (xs.length + 1) cap9)).cell? p = w8.cell? p := by
  intro p hp
  rw [World.cell?_setCell_other _ _ _ _ (fun e => by have := hp.1; rw [← e] at this; simp at this)]
  unfold World.cell?
  rw [hg.block p.block hp.2.1 (hne _ hp).symm]
 have hs : ∀ k, LS w w8 X k → LS w (w9.setCell ⟨w.heap.size + 1, 2, none⟩ (.slice (some ⟨gg, 0, none⟩) (xs.length + 1) cap9)) (some ⟨gg, 0, none⟩) k := fun k hk => by
  refine ⟨hk.1, by have := hk.2.1; simp; omega, fun ad e => ?_⟩
  cases e
  rcases hat with e | e
  ·exact fun e' => hne k hk (by rw [e, ← e'])
  ·have := hk.2.1
   show gg ≠ k
   omega
 refine ⟨(h.nb.grown hg (fun e => by have := hrow _ e; omega)).far _ (by show w.heap.size + 1 ≠ _; omega) _, ?_, ?_, ?_, ?_, ?_, ?_, ?_⟩
 ·rw [hl]
  exact (h.mb.grown hg (fun e => by have := hrow _ e; omega)).kid _
 ·rw [hl, hfl]
  exact own_set hown9 _ (by show w.heap.size + 1 < w.heap.size + 2; omega) _
 ·exact (h.all.keep hs hk).snoc (hy0.keep hs hk)
 ·exact (h.but.grown hg (fun k e => by have := hrow k e; omega)).new _ (by show w.heap.size ≤ w.heap.size + 1; omega) _
 ·exact (h.rd.under hB hr hq ha).new _ (by show r < w.heap.size + 1; omega) (by show w.heap.size + 1 ≠ qb; omega) (by show w.heap.size + 1 ≠ qa; omega) _
 ·refine hP _ _ (fun k hk hn => ?_) h.pre
  rw [Below.heap_setCell w9 ⟨w.heap.size + 1, 2, none⟩ _ k (by show k ≠ w.heap.size + 1; omega)]
  exact hB.block k hk
 ·intro t ht h2
  have hbg : ∀ y : NV, NVBox w8 g y → NVBox (w9.setCell ⟨w.heap.size + 1, 2, none⟩ (.slice (some ⟨gg, 0, none⟩) (xs.length + 1) cap9)) g y := fun y hy =>
   (hy.grown hg (fun e => by have := hrow _ e; omega)).far _ (by show w.heap.size + 1 ≠ g; omega) _
  have hlen : ks.length = 1 ∨ 2 ≤ ks.length := by rw [List.length_append, List.length_singleton] at h2; omega
  rcases hlen with h1 | h1
  ·obtain ⟨y, hy, hi⟩ := hx t ht h1
   exact ⟨y, hbg y hy, hi.keep hs hk⟩
  ·obtain ⟨y, hy, hi⟩ := h.ex t ht h1
   exact ⟨y, hbg y hy, hi.keep hs hk⟩
theorem own_base {w : World} {B B' n k : Nat} {e : TypeId} {v : Value} {xs : List Value} (h : w.ownsRow B e k v n xs) (hB : B' ≤ B) : w.ownsRow B' e k v n xs := by
 refine ⟨h.1, ?_⟩
 rcases h.2 with hn | ⟨o, cap, cur, e, hb', rest⟩
 ·exact .inl hn
 ·exact .inr ⟨o, cap, cur, e, Nat.le_trans hB hb', rest⟩
theorem LsK.told (h : LsK r m A cap l qb qa g T Pre j1 w j ks xs X cp w') (hr : r < w.heap.size) (hq : qb < w.heap.size) (ha : qa < w.heap.size) (hgl : g < w.heap.size) (hP : Firm r Pre w) (hk : ks.length ≤ 1000000000) {N : Nat} (hN : xs.length = N) :
  GiveL r m A cap l qb qa g T Pre j1 w (ks, j, false) (.returned (.tuple #[.agg #[.string ⟨#[]⟩, .string ⟨#[]⟩, .slice X N cp], .bool true])) (W3 w' w.heap.size (.string ⟨#[]⟩) (.string ⟨#[]⟩) (.slice X N cp)) := by
 subst hN
 have hown := h.own
 obtain ⟨A', cap', e, hat, hcp⟩ := own_nat h.own
 injection e with e _ e2
 subst e e2
 have hw3 : ∀ k, New w (W3 w' w.heap.size (.string ⟨#[]⟩) (.string ⟨#[]⟩) (.slice X xs.length cp)) k ↔ New w w' k := fun k => by unfold New; rw [W3.size]
 have hap : ∀ k, LS w w' X k → Apart w (W3 w' w.heap.size (.string ⟨#[]⟩) (.string ⟨#[]⟩) (.slice X xs.length cp)) X k := fun k hk => ⟨by have := hk.1; omega, by rw [W3.size]; exact hk.2.1, hk.2.2⟩
 have hcc : ∀ p : Addr, LS w w' X p.block → (W3 w' w.heap.size (.string ⟨#[]⟩) (.string ⟨#[]⟩) (.slice X xs.length cp)).cell? p = w'.cell? p := fun p hp => by
  unfold W3
  rw [World.cell?_setCell_other _ _ _ _ (fun e => by have := hp.1; rw [← e] at this; dsimp only at this; omega), World.cell?_setCell_other _ _ _ _ (fun e => by have := hp.1; rw [← e] at this; dsimp only at this; omega), World.cell?_setCell_other _ _ _ _ (fun e => by have := hp.1; rw [← e] at this; dsimp only at this; omega)]
 have hg : ¬ (fun k => w.heap.size < k ∧ k < w'.heap.size) w.heap.size := fun h => Nat.lt_irrefl _ h.1
 have hs : ∀ k, (fun k => w.heap.size < k ∧ k < w'.heap.size) k → New w (W3 w' w.heap.size (.string ⟨#[]⟩) (.string ⟨#[]⟩) (.slice X xs.length cp)) k := fun k hk => ⟨Nat.le_of_lt hk.1, by rw [W3.size]; exact hk.2⟩
 have hls : ∀ k, LS w w' X k → w.heap.size < k ∧ k < w'.heap.size := fun k hk => ⟨by have := hk.1; omega, hk.2.1⟩
 have h1 := RIn.made cp ⟨#[]⟩ ⟨#[]⟩ (hat.keep (S' := fun k => w.heap.size < k ∧ k < w'.heap.size) (fun k hk => ⟨by have := hk.1; omega, hk.2⟩) (fun _ _ => rfl)) (h.all.keep (S' := fun k => w.heap.size < k ∧ k < w'.heap.size) hls (fun _ _ => rfl)) hk (by rw [← h.all.1]; exact hcp)
 rw [← h.all.1] at h1
 refine ⟨⟨#[]⟩, ⟨#[]⟩, X, xs.length, cp, rfl, fun _ => (h1.w3 hg _ _ _).imp hs, ((h.but.new _ (Nat.le_refl _) _).new _ (Nat.le_refl _) _).new _ (Nat.le_refl _) _, h.rd.w3 hr (by omega) (by omega) _ _ _, ?_, fun _ => ⟨xs, rfl, ?_, h.all.keep hap hcc⟩, fun t ht _ h2 => ?_⟩
 ·refine hP _ _ (fun k hk hn => ?_) h.pre
  unfold W3
  rw [Below.heap_setCell _ ⟨w.heap.size, 2, none⟩ _ k (by show k ≠ w.heap.size; omega), Below.heap_setCell _ ⟨w.heap.size, 1, none⟩ _ k (by show k ≠ w.heap.size; omega), Below.heap_setCell _ ⟨w.heap.size, 0, none⟩ _ k (by show k ≠ w.heap.size; omega)]
 ·exact own_base (own_set (own_set (own_set hown _ (by show w.heap.size < w.heap.size + 2; omega) _) _ (by show w.heap.size < w.heap.size + 2; omega) _) _ (by show w.heap.size < w.heap.size + 2; omega) _) (by omega)
 ·obtain ⟨y, hy, hi⟩ := h.ex t ht h2
  exact ⟨y, ((hy.far ⟨w.heap.size, 0, none⟩ (by show w.heap.size ≠ g; omega) _).far ⟨w.heap.size, 1, none⟩ (by show w.heap.size ≠ g; omega) _).far ⟨w.heap.size, 2, none⟩ (by show w.heap.size ≠ g; omega) _, hi.keep hap hcc⟩
theorem LsK.wrong (h : LsK r m A cap l qb qa g T Pre j1 w j ks xs X cp w') (hr : r < w.heap.size) (hq : qb < w.heap.size) (ha : qa < w.heap.size) (hP : Firm r Pre w) (zs : List Nod) :
  GiveL r m A cap l qb qa g T Pre j1 w (zs, j, true) (.returned (.tuple #[.agg #[.string ⟨#[]⟩, .string ⟨#[]⟩, .slice none 0 0], .bool false])) (W3 w' w.heap.size (.string ⟨#[]⟩) (.string ⟨#[]⟩) (.slice none 0 0)) := by
 refine ⟨⟨#[]⟩, ⟨#[]⟩, none, 0, 0, rfl, (fun e => by cases e), ((h.but.new _ (Nat.le_refl _) _).new _ (Nat.le_refl _) _).new _ (Nat.le_refl _) _, h.rd.w3 hr (by omega) (by omega) _ _ _, ?_, (fun e => by cases e), (fun t ht e => by cases e)⟩
 refine hP _ _ (fun k hk hn => ?_) h.pre
 unfold W3
 rw [Below.heap_setCell _ ⟨w.heap.size, 2, none⟩ _ k (by show k ≠ w.heap.size; omega), Below.heap_setCell _ ⟨w.heap.size, 1, none⟩ _ k (by show k ≠ w.heap.size; omega), Below.heap_setCell _ ⟨w.heap.size, 0, none⟩ _ k (by show k ≠ w.heap.size; omega)]
end
theorem GiveL.node {w w' : World} {Pre : World → Prop} {j1 : Nat} {R : Ress} {e : Ending} (h : GiveL r m A cap l qb qa r none Pre j1 w R e w') : GiveN r m A cap l qb qa w (.mk [] [] R.1, R.2) e w' := by
 obtain ⟨op, tx, X, n, c, he, hn, hb, hr, -⟩ := h
 exact ⟨op, tx, X, n, c, he, hn, hb.one, hr⟩
def lenOf (w : World) (g : Nat) : Nat := match w.cell? ⟨g, 2, none⟩ with | some (.slice _ n _) => n | _ => 0
theorem NBox.lenOf {w : World} {g : Nat} {a b : Value} {X : Option Addr} {n c : Nat} (h : NBox w g a b (.slice X n c)) : Code.lenOf w g = n := by
 unfold Code.lenOf
 rw [h.c2]
end
section
variable {r : Nat} {m : Int} {A : Option Addr} {cap : Nat} {l : List W} {qb qa : Nat}
theorem GiveN.drew {w w' : World} {res : Res} {e : Ending} (h : GiveN r m A cap l qb qa w res e w') : GiveN r m A cap l qb qa w res e w'.drew := by
 obtain ⟨op, tx, X, n, k, he, hn, hb, hr⟩ := h
 exact ⟨op, tx, X, n, k, he, fun e => RIn.keep (w := w') (w' := w'.drew) (S' := New w w'.drew) (fun g hg => hg) (fun p _ => rfl) (hn e), hb.next (Below.drew (Below.refl _ _)), hr.below (Below.drew (Below.refl _ _))⟩
theorem field0 (k p : Int) (T : ByteArray) (w : World) : (Instr.field 48 (.agg #[.int .i64 k, .string T, .int .i64 p]) 0).run Tryz.prog w = .ok (.int .i64 k) w := by kernel_rfl
theorem field1 (k p : Int) (T : ByteArray) (w : World) : (Instr.field 48 (.agg #[.int .i64 k, .string T, .int .i64 p]) 1).run Tryz.prog w = .ok (.string T) w := by kernel_rfl
theorem call_no {L : List V} {el : Nat → Res} {i : Nat} (h : isW L (i + 1) false [40] = false) : callP L el i = (zeroN, i + 1, true) := by unfold callP; rw [h]; rfl
theorem call_bad {L : List V} {el : Nat → Res} {i : Nat} (h : isW L (i + 1) false [40] = true) {T : Nod} {j : Nat} (he : el (i + 2) = (T, j, true)) : callP L el i = (zeroN, j, true) := by unfold callP; rw [h, he]; rfl
theorem call_noend {L : List V} {el : Nat → Res} {i : Nat} (h : isW L (i + 1) false [40] = true) {T : Nod} {j : Nat} (he : el (i + 2) = (T, j, false)) (h2 : isW L j false [41] = false) : callP L el i = (zeroN, j, true) := by
 unfold callP
 rw [h, he]
 dsimp only
 rw [h2]
 rfl
theorem call_yes {L : List V} {el : Nat → Res} {i : Nat} (h : isW L (i + 1) false [40] = true) {T : Nod} {j : Nat} (he : el (i + 2) = (T, j, false)) (h2 : isW L j false [41] = true) : callP L el i = (.mk (txt L i) T.tx T.ks, j + 1, false) := by
 unfold callP
 rw [h, he]
 dsimp only
 rw [h2]
 rfl
theorem pcall_any (hg : Good l) (fn : Nat) (en : ∀ args w, (callFunc fn args).run Tryz.prog w = .ok (.enter fn args) w) (el : Nat → Res) (i : Nat) (w : World) (h : Rq w r m A cap l qb qa i) (hil : i < l.length)
  (HP : i + 2 ≤ l.length → ∀ w1, Rq w1 r m A cap l qb qa (i + 2) → Calls Tryz.prog fn #[.pointer (some ⟨r, 0, none⟩)] w1 (GiveN r m A cap l qb qa w1 (el (i + 2)))) (hend : i + 2 ≤ l.length → (el (i + 2)).2.1 ≤ l.length) :
  Calls Tryz.prog 55 #[.pointer (some ⟨r, 0, none⟩), .func (.func fn) #[] #[]] w (GiveN r m A cap l qb qa w (callP (bare l) el i)) := by
 have hll := hg.len
 have HWD := hid (fun w0 (h0 : Rq w0 r m A cap l qb qa i) => pword_any i 0 w0 h0 (Nat.le_of_lt hil) hll (by decide))
 rw [Nat.add_zero, wd_in hil] at HWD
 have htx := txt_in hil
 unfold wv at HWD
 obtain ⟨x, hx⟩ : ∃ x, l[i] = x := ⟨_, rfl⟩
 rw [hx] at HWD htx
 obtain ⟨wk, wt, wp⟩ := x
 dsimp only at HWD htx
 obtain ⟨T, hT⟩ : ∃ T : ByteArray, ⟨wt.toArray⟩ = T := ⟨_, rfl⟩
 obtain rfl : wt = T.data.toList := by rw [← hT]
 rw [hT] at HWD
 have hfd := fun w0 => field1 wk wp T w0
 obtain ⟨c, hc⟩ : ∃ c, isW (bare l) (i + 1) false [40] = c := ⟨_, rfl⟩
 have HT1 := hid (fun w0 (h0 : Rq w0 r m A cap l qb qa (i + 1)) => ptake_any (i + 1) ⟨#[40]⟩ w0 h0 hil hll (by decide) c hc)
 have HR := hid h
 have hrl := h.lt
 have hql := h.ltq
 have hal := h.lta
 cases c with
 | false =>
  rw [call_no hc]
  clear h HP hend hg hx hT hc htx
  go_enter Tryz.func55, Tryz.ntmps55
  obtain ⟨w0, hw0, hz0, N0, B0⟩ := made0 w r
  have R0 := hid (show Rq w0 r m A cap l qb qa i by rw [← hw0]; exact HR.out.alloc _)
  go_wp2_with fail
  try rw [hw0]
  refine (HWD.out _ R0.out).mono ?_
  rintro e w1 ⟨rfl, hb1⟩
  have N1 := hid (N0.out.below hb1)
  have z1 := hb1.size
  have B1 := hid (B0.out.next hb1)
  have R1 := hid (R0.out.below hb1)
  clear hb1
  have c1 := R1.out.rd.c1
  have f1 := R1.out.rd.fr 1
  have zr1 := R1.out.lt
  obtain ⟨i1, hi1⟩ : ∃ i1, i + 1 = i1 := ⟨_, rfl⟩
  have e2 : IntKind.i64.wrap ((i : Int) + 1) = (i1 : Int) := by rw [IntKind.wrap_i64]; omega
  obtain ⟨w2, hw2⟩ : ∃ w2, w1.setCell ⟨r, 1, none⟩ (.int .i64 (i1 : Int)) = w2 := ⟨_, rfl⟩
  have z2 : w2.heap.size = w1.heap.size := by rw [← hw2]; simp
  have R2 := hid (show Rq w2 r m A cap l qb qa (i + 1) by rw [← hw2, hi1]; exact R1.out.at i1)
  have B2 := hid (show But w w2 r by rw [← hw2]; exact B1.out.setCell 1 _)
  have N2 := hid (show NBox w2 w.heap.size (.string ⟨#[]⟩) (.string ⟨#[]⟩) (.slice none 0 0) by rw [← hw2]; exact N1.out.far _ (by show r ≠ _; omega) _)
  have HW2 := hid hw2
  clear hw2 hi1
  go_upto_region 3 with fail
  rw [HW2.out]
  clear c1 f1
  go_wp2_with fail
  refine (HT1.out _ R2.out).mono ?_
  rintro e w3 ⟨rfl, hb3, hr3⟩
  have z3 := hb3.size
  have N3 := hid (N2.out.but (by omega) hb3)
  have B3 := hid (B2.out.trans hb3)
  have R3 := hid (show Rq w3 r m A cap l qb qa (i + 1) by rw [if_neg (by simp)] at hr3; exact hr3)
  clear hb3 hr3
  obtain ⟨x0, x1, x2, xf⟩ := N3.out
  have zn := N3.out.lt
  go_wp2
  have Y := N3.out.set (.string ⟨#[]⟩) (.string ⟨#[]⟩) (.slice none 0 0)
  exact bodyPost_ret (v := .tuple #[.agg #[.string ⟨#[]⟩, .string ⟨#[]⟩, .slice none 0 0], .bool (!true)]) (by simp [results, Tryz.results55, go_sem, Y.c0, Y.c1, Y.c2]) rfl
   (giveN_ret (b := true) (fun h => (by cases h)) B3.out R3.out hrl hql hal)
 | true =>
  have hil2 : i + 2 ≤ l.length := by have := isW_lt hc; rw [bare_length] at this; exact this
  have HPP := hid (HP hil2)
  have hjl := hend hil2
  obtain ⟨q, hq⟩ : ∃ q, el (i + 2) = q := ⟨_, rfl⟩
  obtain ⟨TT, j, b⟩ := q
  rw [hq] at HPP hjl
  dsimp only at hjl
  cases b with
  | true =>
   rw [call_bad hc hq]
   clear h HP hend hg hx hT hc htx hq
   go_enter Tryz.func55, Tryz.ntmps55
   obtain ⟨w0, hw0, hz0, N0, B0⟩ := made0 w r
   have R0 := hid (show Rq w0 r m A cap l qb qa i by rw [← hw0]; exact HR.out.alloc _)
   go_wp2_with fail
   try rw [hw0]
   refine (HWD.out _ R0.out).mono ?_
   rintro e w1 ⟨rfl, hb1⟩
   have N1 := hid (N0.out.below hb1)
   have z1 := hb1.size
   have B1 := hid (B0.out.next hb1)
   have R1 := hid (R0.out.below hb1)
   clear hb1
   have c1 := R1.out.rd.c1
   have f1 := R1.out.rd.fr 1
   have zr1 := R1.out.lt
   obtain ⟨i1, hi1⟩ : ∃ i1, i + 1 = i1 := ⟨_, rfl⟩
   have e2 : IntKind.i64.wrap ((i : Int) + 1) = (i1 : Int) := by rw [IntKind.wrap_i64]; omega
   obtain ⟨w2, hw2⟩ : ∃ w2, w1.setCell ⟨r, 1, none⟩ (.int .i64 (i1 : Int)) = w2 := ⟨_, rfl⟩
   have z2 : w2.heap.size = w1.heap.size := by rw [← hw2]; simp
   have R2 := hid (show Rq w2 r m A cap l qb qa (i + 1) by rw [← hw2, hi1]; exact R1.out.at i1)
   have B2 := hid (show But w w2 r by rw [← hw2]; exact B1.out.setCell 1 _)
   have N2 := hid (show NBox w2 w.heap.size (.string ⟨#[]⟩) (.string ⟨#[]⟩) (.slice none 0 0) by rw [← hw2]; exact N1.out.far _ (by show r ≠ _; omega) _)
   have HW2 := hid hw2
   clear hw2 hi1
   go_upto_region 3 with fail
   rw [HW2.out]
   clear c1 f1
   go_wp2_with fail
   refine (HT1.out _ R2.out).mono ?_
   rintro e w3 ⟨rfl, hb3, hr3⟩
   have z3 := hb3.size
   have N3 := hid (N2.out.but (by omega) hb3)
   have B3 := hid (B2.out.trans hb3)
   have R3 := hid (show Rq w3 r m A cap l qb qa (i + 2) by rw [if_pos (by simp)] at hr3; exact hr3)
   clear hb3 hr3
   go_wp2_with fail
   refine (HPP.out _ R3.out).mono ?_
   rintro e w4 ⟨op, tx, X, n, k, rfl, hn4, hb4, hr4⟩
   dsimp only at hn4 hr4
   have z4 := hb4.size
   obtain ⟨w6, hw6⟩ : ∃ w6, w4.alloc (.cells #[.string T, .string tx, .slice X n k] 25) = w6 := ⟨_, rfl⟩
   have z6 : w6.heap.size = w4.heap.size + 1 := by rw [← hw6]; simp
   have N6 := hid (show NBox w6 w.heap.size (.string ⟨#[]⟩) (.string ⟨#[]⟩) (.slice none 0 0) by rw [← hw6]; exact (N3.out.but (by omega) hb4).alloc _)
   have V6 := hid (show NBox w6 w4.heap.size (.string T) (.string tx) (.slice X n k) by rw [← hw6]; exact NBox.fresh _ _ _ _ _)
   have B6 := hid (show But w w6 r by rw [← hw6]; exact (B3.out.trans hb4).alloc _)
   have R6 := hid (show Rq w6 r m A cap l qb qa j by rw [← hw6]; exact hr4.alloc _)
   have I6 := hid (show (true = false) → RIn w6 (New w3 w4) TT (op, tx, X, n, k) by rw [← hw6]; exact fun e => (hn4 e).alloc (fun g hg => hg.2) _)
   have zr4 : r < w4.heap.size := hr4.lt
   have HW6 := hid hw6
   clear hb4 hr4 hn4 hw6
   go_upto_region 7 with fail
   rw [HW6.out]
   obtain ⟨v0, v1, v2, vf⟩ := V6.out
   obtain ⟨x0, x1, x2, xf⟩ := N6.out
   have zn := N6.out.lt
   have zv := V6.out.lt
   refine wp_region_held_drew (S := fun w' => w'.cell? ⟨w4.heap.size, 0, none⟩ = some (.string T) ∧ w'.cell? ⟨w4.heap.size, 1, none⟩ = some (.string tx) ∧ w'.cell? ⟨w4.heap.size, 2, none⟩ = some (.slice X n k)) (by kernel_rfl) ⟨v0, v1, v2⟩ (fun hHeld => ?_)
   refine take1 (v := ?_) 0 31 rfl ?_ ?_; rotate_left; (intro w hSw; (try dsimp only at hSw); go_simp; try with_reducible rfl); (try simp only [Act.put, List.setIfInBounds_toArray, List.set_cons_zero, List.set_cons_succ])
   refine take1 (v := ?_) 1 32 rfl ?_ ?_; rotate_left; (intro w hSw; (try dsimp only at hSw); go_simp; try with_reducible rfl); (try simp only [Act.put, List.setIfInBounds_toArray, List.set_cons_zero, List.set_cons_succ])
   refine take1 (v := ?_) 2 33 rfl ?_ ?_; rotate_left; (intro w hSw; (try dsimp only at hSw); go_simp; try with_reducible rfl); (try simp only [Act.put, List.setIfInBounds_toArray, List.set_cons_zero, List.set_cons_succ])
   refine wpAnyH_take (i := 3) (oi := ⟨some 34, _, _, _, _, _⟩) (v := undef) rfl (by kernel_rfl) (by kernel_rfl) (by kernel_rfl) (fun _ _ _ h => h) (Or.inr ⟨by rfl, rfl⟩) (by assumption) ?_; (try simp only [Act.put, List.setIfInBounds_toArray, List.set_cons_zero, List.set_cons_succ])
   refine wpAnyH_take (i := 4) (oi := ⟨some 35, _, _, _, _, _⟩) (v := undef) rfl (by kernel_rfl) (by kernel_rfl) (by kernel_rfl) (fun _ _ _ h => h) (Or.inr ⟨by rfl, rfl⟩) (by assumption) ?_; (try simp only [Act.put, List.setIfInBounds_toArray, List.set_cons_zero, List.set_cons_succ])
   refine take1 (v := ?_) 5 36 rfl ?_ ?_; rotate_left; (intro w hSw; (try dsimp only at hSw); go_simp; try with_reducible rfl); (try simp only [Act.put, List.setIfInBounds_toArray, List.set_cons_zero, List.set_cons_succ])
   have VV := ((V6.out.far ⟨w.heap.size, 0, none⟩ (by show w.heap.size ≠ _; omega) (.string T)).far ⟨w.heap.size, 1, none⟩ (by show w.heap.size ≠ _; omega) (.string tx)).far ⟨w.heap.size, 2, none⟩ (by show w.heap.size ≠ _; omega) (.slice X n k)
   refine wpAnyH_ready (rs := [6]) (by kernel_rfl) (by simp) ?_
   refine AllReadyH.cons (o := ⟨none, _, _, _, _, _⟩) rfl (fun K hK => ?_) AllReadyH.nil
   go_simp
   refine hK.out _ _ ⟨VV.c0, VV.c1, VV.c2⟩ (fun hHeld3 => ?_)
   clear hK K
   (try simp only [Act.put, List.setIfInBounds_toArray, List.set_cons_zero, List.set_cons_succ])
   refine take1 (v := ?_) 7 5 rfl ?_ ?_; rotate_left; (intro w hSw; (try dsimp only at hSw); go_simp; try with_reducible rfl); (try simp only [Act.put, List.setIfInBounds_toArray, List.set_cons_zero, List.set_cons_succ])
   refine wpAnyH_done (by kernel_rfl) ?_ _
   go_wp2
   have Y := N6.out.set (.string T) (.string tx) (.slice X n k)
   exact bodyPost_ret (v := .tuple #[.agg #[.string T, .string tx, .slice X n k], .bool (!true)]) (by simp [results, Tryz.results55, go_sem, Y.c0, Y.c1, Y.c2]) rfl
    ((giveN_ret (b := true) (fun h => (by cases h)) B6.out R6.out hrl hql hal).drew)
  | false =>
   obtain ⟨c2, hc2⟩ : ∃ c2, isW (bare l) j false [41] = c2 := ⟨_, rfl⟩
   have HT2 := hid (fun w0 (h0 : Rq w0 r m A cap l qb qa j) => ptake_any j ⟨#[41]⟩ w0 h0 hjl hll (by decide) c2 hc2)
   have hres : callP (bare l) el i = if c2 = true then (.mk T.data.toList TT.tx TT.ks, j + 1, false) else (zeroN, j, true) := by
    cases c2 with
    | true => rw [call_yes hc hq hc2, htx, ift]
    | false => rw [call_noend hc hq hc2, iff']
   rw [hres]
   obtain ⟨res, hrs⟩ : ∃ res, (if c2 = true then ((Nod.mk T.data.toList TT.tx TT.ks, j + 1, false) : Res) else (zeroN, j, true)) = res := ⟨_, rfl⟩
   rw [hrs]
   have HRS := hid hrs
   clear h HP hend hg hx hT hc htx hq hc2 hres hrs
   go_enter Tryz.func55, Tryz.ntmps55
   obtain ⟨w0, hw0, hz0, N0, B0⟩ := made0 w r
   have R0 := hid (show Rq w0 r m A cap l qb qa i by rw [← hw0]; exact HR.out.alloc _)
   go_wp2_with fail
   try rw [hw0]
   refine (HWD.out _ R0.out).mono ?_
   rintro e w1 ⟨rfl, hb1⟩
   have N1 := hid (N0.out.below hb1)
   have z1 := hb1.size
   have B1 := hid (B0.out.next hb1)
   have R1 := hid (R0.out.below hb1)
   clear hb1
   have c1 := R1.out.rd.c1
   have f1 := R1.out.rd.fr 1
   have zr1 := R1.out.lt
   obtain ⟨i1, hi1⟩ : ∃ i1, i + 1 = i1 := ⟨_, rfl⟩
   have e2 : IntKind.i64.wrap ((i : Int) + 1) = (i1 : Int) := by rw [IntKind.wrap_i64]; omega
   obtain ⟨w2, hw2⟩ : ∃ w2, w1.setCell ⟨r, 1, none⟩ (.int .i64 (i1 : Int)) = w2 := ⟨_, rfl⟩
   have z2 : w2.heap.size = w1.heap.size := by rw [← hw2]; simp
   have R2 := hid (show Rq w2 r m A cap l qb qa (i + 1) by rw [← hw2, hi1]; exact R1.out.at i1)
   have B2 := hid (show But w w2 r by rw [← hw2]; exact B1.out.setCell 1 _)
   have N2 := hid (show NBox w2 w.heap.size (.string ⟨#[]⟩) (.string ⟨#[]⟩) (.slice none 0 0) by rw [← hw2]; exact N1.out.far _ (by show r ≠ _; omega) _)
   have HW2 := hid hw2
   clear hw2 hi1
   go_upto_region 3 with fail
   rw [HW2.out]
   clear c1 f1
   go_wp2_with fail
   refine (HT1.out _ R2.out).mono ?_
   rintro e w3 ⟨rfl, hb3, hr3⟩
   have z3 := hb3.size
   have N3 := hid (N2.out.but (by omega) hb3)
   have B3 := hid (B2.out.trans hb3)
   have R3 := hid (show Rq w3 r m A cap l qb qa (i + 2) by rw [if_pos (by simp)] at hr3; exact hr3)
   clear hb3 hr3
   go_wp2_with fail
   refine (HPP.out _ R3.out).mono ?_
   rintro e w4 ⟨op, tx, X, n, k, rfl, hn4, hb4, hr4⟩
   dsimp only at hn4 hr4
   have z4 := hb4.size
   obtain ⟨w6, hw6⟩ : ∃ w6, w4.alloc (.cells #[.string T, .string tx, .slice X n k] 25) = w6 := ⟨_, rfl⟩
   have z6 : w6.heap.size = w4.heap.size + 1 := by rw [← hw6]; simp
   have N6 := hid (show NBox w6 w.heap.size (.string ⟨#[]⟩) (.string ⟨#[]⟩) (.slice none 0 0) by rw [← hw6]; exact (N3.out.but (by omega) hb4).alloc _)
   have V6 := hid (show NBox w6 w4.heap.size (.string T) (.string tx) (.slice X n k) by rw [← hw6]; exact NBox.fresh _ _ _ _ _)
   have B6 := hid (show But w w6 r by rw [← hw6]; exact (B3.out.trans hb4).alloc _)
   have R6 := hid (show Rq w6 r m A cap l qb qa j by rw [← hw6]; exact hr4.alloc _)
   have I6 := hid (show (false = false) → RIn w6 (New w3 w4) TT (op, tx, X, n, k) by rw [← hw6]; exact fun e => (hn4 e).alloc (fun g hg => hg.2) _)
   have zr4 : r < w4.heap.size := hr4.lt
   have HW6 := hid hw6
   clear hb4 hr4 hn4 hw6
   go_upto_region 7 with fail
   rw [HW6.out]
   obtain ⟨v0, v1, v2, vf⟩ := V6.out
   obtain ⟨x0, x1, x2, xf⟩ := N6.out
   have zn := N6.out.lt
   have zv := V6.out.lt
   refine wp_region_held_drew (S := fun w' => w'.cell? ⟨w4.heap.size, 0, none⟩ = some (.string T) ∧ w'.cell? ⟨w4.heap.size, 1, none⟩ = some (.string tx) ∧ w'.cell? ⟨w4.heap.size, 2, none⟩ = some (.slice X n k)) (by kernel_rfl) ⟨v0, v1, v2⟩ (fun hHeld => ?_)
   refine take1 (v := ?_) 0 31 rfl ?_ ?_; rotate_left; (intro w hSw; (try dsimp only at hSw); go_simp; try with_reducible rfl); (try simp only [Act.put, List.setIfInBounds_toArray, List.set_cons_zero, List.set_cons_succ])
   refine take1 (v := ?_) 1 32 rfl ?_ ?_; rotate_left; (intro w hSw; (try dsimp only at hSw); go_simp; try with_reducible rfl); (try simp only [Act.put, List.setIfInBounds_toArray, List.set_cons_zero, List.set_cons_succ])
   refine take1 (v := ?_) 2 33 rfl ?_ ?_; rotate_left; (intro w hSw; (try dsimp only at hSw); go_simp; try with_reducible rfl); (try simp only [Act.put, List.setIfInBounds_toArray, List.set_cons_zero, List.set_cons_succ])
   refine take1 (v := ?_) 3 34 rfl ?_ ?_; rotate_left; (intro w hSw; (try dsimp only at hSw); go_simp; try with_reducible rfl); (try simp only [Act.put, List.setIfInBounds_toArray, List.set_cons_zero, List.set_cons_succ])
   refine wpAnyH_ready (rs := [4]) (by kernel_rfl) (by simp) ?_
   refine AllReadyH.cons (o := ⟨some 35, _, _, _, _, _⟩) rfl (fun K hK => ?_) AllReadyH.nil
   go_simp
   refine (HT2.out _ (R6.out.below (Below.drew (Below.refl _ _)))).mono ?_
   rintro e w7 ⟨rfl, hb7, hr7⟩
   have V7 := hid ((V6.out.below (Below.drew (Below.refl _ _))).but (by omega) hb7)
   have N7 := hid ((N6.out.below (Below.drew (Below.refl _ _))).but (by omega) hb7)
   have B7 := hid ((B6.out.next (Below.drew (Below.refl _ _))).trans hb7)
   have R7 := hid hr7
   have zd6 : w6.drew.heap.size = w6.heap.size := rfl
   have z7 : w6.heap.size ≤ w7.heap.size := hb7.size
   have I7 := hid (show RIn w7 (New w3 w4) TT (op, tx, X, n, k) from ((I6.out (by first | rfl | trivial)).bel (fun g hg => by have := hg.2; omega) (Below.drew (Below.refl _ _))).but (fun g hg => ⟨by have := hg.2; omega, by have := hg.1; omega⟩) hb7)
   refine hK.out _ _ ⟨V7.out.c0, V7.out.c1, V7.out.c2⟩ (fun hHeld2 => ?_)
   clear hK K hb7 hr7
   obtain ⟨y0, y1, y2, yf⟩ := N7.out
   have zn7 := N7.out.lt
   (try simp only [Act.put, List.setIfInBounds_toArray, List.set_cons_zero, List.set_cons_succ])
   refine take1 (v := ?_) 5 36 rfl ?_ ?_; rotate_left; (intro w hSw; (try dsimp only at hSw); go_simp; try with_reducible rfl); (try simp only [Act.put, List.setIfInBounds_toArray, List.set_cons_zero, List.set_cons_succ])
   have VV := ((V7.out.far ⟨w.heap.size, 0, none⟩ (by show w.heap.size ≠ _; omega) (.string T)).far ⟨w.heap.size, 1, none⟩ (by show w.heap.size ≠ _; omega) (.string tx)).far ⟨w.heap.size, 2, none⟩ (by show w.heap.size ≠ _; omega) (.slice X n k)
   refine wpAnyH_ready (rs := [6]) (by kernel_rfl) (by simp) ?_
   refine AllReadyH.cons (o := ⟨none, _, _, _, _, _⟩) rfl (fun K hK => ?_) AllReadyH.nil
   go_simp
   refine hK.out _ _ ⟨VV.c0, VV.c1, VV.c2⟩ (fun hHeld3 => ?_)
   clear hK K
   (try simp only [Act.put, List.setIfInBounds_toArray, List.set_cons_zero, List.set_cons_succ])
   refine take1 (v := ?_) 7 5 rfl ?_ ?_; rotate_left; (intro w hSw; (try dsimp only at hSw); go_simp; try with_reducible rfl); (try simp only [Act.put, List.setIfInBounds_toArray, List.set_cons_zero, List.set_cons_succ])
   refine wpAnyH_done (by kernel_rfl) ?_ _
   go_wp2
   have Y := N7.out.set (.string T) (.string tx) (.slice X n k)
   refine bodyPost_ret (v := .tuple #[.agg #[.string T, .string tx, .slice X n k], .bool c2]) (by simp [results, Tryz.results55, go_sem, Y.c0, Y.c1, Y.c2]) rfl ?_
   have R8 := R7.out
   cases c2 with
   | true =>
    have e := HRS.out
    rw [ift] at e
    subst e
    rw [if_pos (by simp)] at R8
    exact (giveN_ret (b := false) (fun _ => by
     have h1 := I7.out
     rw [nodEta TT] at h1
     exact (h1.opped T).imp (fun g hg => ⟨by have := hg.1; omega, by have := hg.2; omega⟩)) B7.out R8 hrl hql hal)
   | false =>
    have e := HRS.out
    rw [iff'] at e
    subst e
    rw [if_neg (by simp)] at R8
    exact (giveN_ret (b := true) (fun h => (by cases h)) B7.out R8 hrl hql hal)
end
theorem W3.rd {w : World} {r : Nat} {m : Int} {A : Option Addr} {cap : Nat} {l : List W} {i : Nat} (h : Rd w r m A cap l i) {g : Nat} (hg : r < g) (x y z : Value) : Rd (W3 w g x y z) r m A cap l i := ((h.new _ hg _).new _ hg _).new _ hg _
theorem eof_any (op : ByteArray) (X : Option Addr) (n k : Nat) (w : World) :
  Calls Tryz.prog 162 #[.string op, .slice X n k] w fun e w' => e = .returned (.agg #[.string op, .string ⟨#[]⟩, .slice X n k]) ∧ Below w.heap.size w w' := by
 go_enter Tryz.func162, Tryz.ntmps162
 go_wp2
 have Y := NBox.fresh w (.string op) (.string ⟨#[]⟩) (.slice X n k) 25
 exact bodyPost_ret (v := .agg #[.string op, .string ⟨#[]⟩, .slice X n k]) (by simp [results, Tryz.results162, go_sem, Y.c0, Y.c1, Y.c2]) rfl
  ⟨rfl, below_alloc w _⟩
section
variable {r : Nat} {m : Int} {A : Option Addr} {cap : Nat} {l : List W}
theorem give_ret {w w3 : World} {T : Tr} {j : Nat} {b : Bool} {op tx : ByteArray} {X : Option Addr} {n k : Nat} (hn : b = false → NIn w3 (fun g => w.heap.size < g ∧ g < w3.heap.size) T (.string op) (.string tx) (.slice X n k)) (hb : But w w3 r) (hr : Rd w3 r m A cap l j) (hrl : r < w.heap.size) :
  Gives r m A cap l w NoBlk (T, j, b) (.returned (.tuple #[.agg #[.string op, .string tx, .slice X n k], .bool (!b)])) (W3 w3 w.heap.size (.string op) (.string tx) (.slice X n k)) :=
 ⟨op, tx, X, n, k, rfl, fun hq => (W3.nin (hn hq) (fun h => Nat.lt_irrefl _ h.1) _ _ _).imp (fun g hg => .inr ⟨Nat.le_of_lt hg.1, by rw [W3.size]; exact hg.2⟩), W3.but hb (Nat.le_refl _) _ _ _, W3.rd hr hrl _ _ _⟩
theorem eahead_any (op : ByteArray) (fn : Nat) (en : ∀ args w, (callFunc fn args).run Tryz.prog w = .ok (.enter fn args) w) (i : Nat) (x : Tr) (j : Nat) (b : Bool) (w : World) (h : Rd w r m A cap l i)
  (hp : ∀ w1, Rd w1 r m A cap l i → Calls Tryz.prog fn #[.pointer (some ⟨r, 0, none⟩)] w1 (Gives r m A cap l w1 NoBlk (x, j, b))) :
  Calls Tryz.prog 169 #[.pointer (some ⟨r, 0, none⟩), .string op, .func (.func fn) #[.pointer (some ⟨r, 0, none⟩)] #[]] w (Gives r m A cap l w NoBlk (.one op.data.toList x, j, b)) := by
 have HP := hid hp
 have HR := hid h
 have hrl := h.lt
 have HO := hid (fun X n k w => eof_any op X n k w)
 clear h hp
 go_enter Tryz.func169, Tryz.ntmps169
 obtain ⟨w0, hw0, hz0, N0, B0⟩ := made0 w r
 have R0 := hid (show Rd w0 r m A cap l i by rw [← hw0]; exact HR.out.alloc _)
 go_wp2_with fail
 try rw [hw0]
 refine (HP.out _ R0.out).mono ?_
 rintro e w1 ⟨o1, t1, X, n, k, rfl, hn1, hb1, hr1⟩
 dsimp only at hn1 hr1
 have z1 := hb1.size
 obtain ⟨q, hq⟩ : ∃ q, (!b) = q := ⟨_, rfl⟩
 have I1 := hid (fun hq : b = false => NIn.one op ((hn1 hq).alloc (fun g hg => by rcases hg with hg | hg; exact hg.elim; exact hg.2) (.cells #[.string o1, .string t1, .slice X n k] 25)) (fun g hg => by rcases hg with hg | hg; exact hg.elim; simp; omega) (S' := fun g => w.heap.size < g ∧ g < w1.heap.size + 2) (fun g hg => by rcases hg with hg | hg; exact hg.elim; omega) (by simp; omega) 25)
 have s1 : (w1.alloc (.cells #[.string o1, .string t1, .slice X n k] 25)).heap.size = w1.heap.size + 1 := by simp
 rw [s1] at I1
 have B1 := hid (((B0.out.trans hb1).alloc (.cells #[.string o1, .string t1, .slice X n k] 25)).alloc (.cells #[.string o1, .string t1, .slice X n k] 25))
 have R1 := hid ((hr1.alloc (.cells #[.string o1, .string t1, .slice X n k] 25)).alloc (.cells #[.string o1, .string t1, .slice X n k] 25))
 have N1 := hid (((N0.out.but (by omega) hb1).alloc (.cells #[.string o1, .string t1, .slice X n k] 25)).alloc (.cells #[.string o1, .string t1, .slice X n k] 25))
 clear hn1 hb1 hr1
 go_wp2_with fail
 refine (HO.out _ _ _ _).mono ?_
 rintro e w3 ⟨rfl, hb3⟩
 have z3 : w1.heap.size + 2 ≤ w3.heap.size := by have := hb3.size; simp at this; omega
 have B3 := hid (B1.out.next hb3)
 have R3 := hid (R1.out.below hb3)
 have N3 := hid (N1.out.below hb3)
 have I3 := hid (fun hq : b = false => ((I1.out hq).below (fun g hg => by have := hg.2; simp; omega) hb3).imp (S' := fun g => w.heap.size < g ∧ g < w3.heap.size) (fun g hg => ⟨hg.1, by have := hg.2; omega⟩))
 have zn := N3.out.lt
 obtain ⟨x0, x1, x2, xf⟩ := N3.out
 clear hb3
 go_wp2
 have Y := N3.out.set (.string op) (.string ⟨#[]⟩) (.slice (some ⟨w1.heap.size + 1, 0, none⟩) 1 1)
 exact bodyPost_ret (v := .tuple #[.agg #[.string op, .string ⟨#[]⟩, .slice (some ⟨w1.heap.size + 1, 0, none⟩) 1 1], .bool (!b)]) (by simp [results, Tryz.results169, go_sem, Y.c0, Y.c1, Y.c2, hq]) rfl
  (give_ret I3.out B3.out R3.out hrl)
end
theorem NBox.w3 {w : World} {g g' : Nat} {a b c : Value} (h : NBox w g a b c) (hg : g ≠ g') (x y z : Value) : NBox (W3 w g' x y z) g a b c := by
 have hne : ∀ j k : Nat, (⟨g', j, none⟩ : Addr) ≠ ⟨g, k, none⟩ := fun j k e => hg (congrArg Addr.block e).symm
 unfold W3
 exact ⟨by rw [World.cell?_setCell_other _ _ _ _ (hne _ _), World.cell?_setCell_other _ _ _ _ (hne _ _), World.cell?_setCell_other _ _ _ _ (hne _ _)]; exact h.c0, by rw [World.cell?_setCell_other _ _ _ _ (hne _ _), World.cell?_setCell_other _ _ _ _ (hne _ _), World.cell?_setCell_other _ _ _ _ (hne _ _)]; exact h.c1, by rw [World.cell?_setCell_other _ _ _ _ (hne _ _), World.cell?_setCell_other _ _ _ _ (hne _ _), World.cell?_setCell_other _ _ _ _ (hne _ _)]; exact h.c2, fun k => by rw [World.frozen?_setCell, World.frozen?_setCell, World.frozen?_setCell]; exact h.fr k⟩
section
variable {r : Nat} {m : Int} {A : Option Addr} {cap : Nat} {l : List W} {f : Nat}
theorem Rd.atOf {w : World} {i : Nat} (h : Rd w r m A cap l i) : atOf w r = i := by
 unfold Code.atOf
 rw [h.c1]
 simp
theorem one_bad {L : List V} {i : Nat} (ls : List (List UInt8)) : oneL L i true ls = [] := oneL_none fun s _ => isW_bad s
def LoopE (r : Nat) (m : Int) (A : Option Addr) (cap : Nat) (l : List W) (w : World) (lv i0 : Nat) (res : Tr × Nat × Bool) (g8 : Nat) (v : Value) (wr : World) : Prop :=
 ∃ (t : Tr) (op tx : ByteArray) (X : Option Addr) (n k j : Nat) (b : Bool), v = .bool (!b) ∧ P (bare l) (16 * (l.length - j) + 2) (.loop lv t) j b = res ∧ i0 ≤ j ∧ j ≤ l.length ∧ NBox wr g8 (.string op) (.string tx) (.slice X n k) ∧ (b = false → NIn wr (fun g => w.heap.size < g ∧ g < wr.heap.size ∧ g ≠ g8) t (.string op) (.string tx) (.slice X n k)) ∧ But w wr r ∧ Rd wr r m A cap l j ∧ NBox wr w.heap.size (.string ⟨#[]⟩) (.string ⟨#[]⟩) (.slice none 0 0)
theorem echain_any (lv : Nat) (hlv : lv = 1 ∨ lv = 2 ∨ lv = 5 ∨ lv = 6) (fn : Nat) (en : ∀ args w, (callFunc fn args).run Tryz.prog w = .ok (.enter fn args) w)
  (D : ∀ (i : Nat) (w1 : World), i ≤ l.length → mu (bare l) (.expr (lv + 1)) i < f → Rd w1 r m A cap l i → Calls Tryz.prog fn #[.pointer (some ⟨r, 0, none⟩)] w1 (Gives r m A cap l w1 NoBlk (P (bare l) f (.expr (lv + 1)) i false)))
  (hg : Good l) (S : Option Addr) (sc' : Nat) (i : Nat) (w : World) (hs : At sc 1 w w.heap.size S (opsL lv)) (hne : ∀ ad, S = some ad → ad.block ≠ r) (hi : i ≤ l.length) (hm : mu (bare l) (.expr lv) i < f + 1) (h : Rd w r m A cap l i) :
  Calls Tryz.prog 154 #[.pointer (some ⟨r, 0, none⟩), .func (.func fn) #[.pointer (some ⟨r, 0, none⟩)] #[], .slice S (opsL lv).length sc'] w (Gives r m A cap l w NoBlk (P (bare l) (f + 1) (.expr lv) i false)) := by
 obtain ⟨R0, hx⟩ : ∃ R0, P (bare l) f (.expr (lv + 1)) i false = R0 := ⟨_, rfl⟩
 obtain ⟨x, j, b'⟩ := R0
 obtain ⟨res, hres⟩ : ∃ res, P (bare l) (f + 1) (.expr lv) i false = res := ⟨_, rfl⟩
 have hbg := loop_begin hlv hi hm hx
 rw [hres] at hbg
 rw [hres]
 have e0 : mu (bare l) (.expr lv) i = 16 * ((bare l).length - i) + (17 - 2 * lv) := rfl
 have e1 : mu (bare l) (.expr (lv + 1)) i = 16 * ((bare l).length - i) + (17 - 2 * (lv + 1)) := rfl
 have HI := hid (fun w1 hr => D i w1 hi (by omega) hr)
 rw [hx] at HI
 have HD := hid D
 have HMF := hid (show 16 * (l.length - i) + (17 - 2 * lv) < f + 1 by rw [e0, bare_length] at hm; exact hm)
 have HIJ := hid (show i ≤ j by
  have he := P_ends (bare l) f (.expr (lv + 1)) i false (by rw [bare_length]; exact hi)
  rw [hx] at he
  exact he.1)
 have HBG := hid hbg
 have HR := hid h
 have hrl := h.lt
 have HF := hid (opsL_few hlv)
 have HS := hid (fun (w1 : World) (hb : But w w1 r) => show At sc 1 w1 w1.heap.size S (opsL lv) from (at_but hs hb (Nat.le_refl _) hne).more hb.size)
 have HT := hid (fun (j : Nat) (hj : j ≤ l.length) (w1 : World) (hr : Rd w1 r m A cap l j) hs q hq => etake_any hg j S sc' (opsL lv) w1 hr hj hs hne HF.out.1 HF.out.2 q hq)
 have HO := hid (fun o X n k w => eof_any o X n k w)
 have HLV := hid hlv
 clear h hx hm D e0 e1 hres hbg hs hlv hne hg
 go_enter Tryz.func154, Tryz.ntmps154
 obtain ⟨w0, hw0, hz0, N0, B0⟩ := made0 w r
 have R0 := hid (show Rd w0 r m A cap l i by rw [← hw0]; exact HR.out.alloc _)
 go_wp2_with fail
 try rw [hw0]
 refine (HI.out _ R0.out).mono ?_
 rintro e w1 ⟨o1, t1, X1, n1, k1, rfl, hn1, hb1, hr1⟩
 dsimp only at hn1 hr1
 have hz1 : w0.heap.size ≤ w1.heap.size := hb1.size
 have N1 := hid (N0.out.but (by omega) hb1)
 have B1 := hid (B0.out.trans hb1)
 have R1 := hid hr1
 have I1 := hid (fun hq : b' = false => (hn1 hq).imp (S' := fun g => w.heap.size < g ∧ g < w1.heap.size) (fun g hg => by rcases hg with hg | hg; exact hg.elim; omega))
 clear hb1 hr1 hn1
 go_wp2
 go_loopw [9] (fun v wr => LoopE r m A cap l w lv i res w1.heap.size v wr) (fun _ wr => l.length - atOf wr r)
 case atStart => exact ⟨x, o1, t1, X1, n1, k1, j, b', rfl, HBG.out.1, HIJ.out, HBG.out.2, NBox.fresh _ _ _ _ _, fun hq => ((I1.out hq).alloc (fun g hg => hg.2) _).imp (fun g hg => ⟨hg.1, by have := hg.2; simp; omega, by have := hg.2; omega⟩), B1.out.alloc _, R1.out.alloc _, N1.out.alloc _⟩
 case round =>
  obtain ⟨t1, op1, tx1, X1, n1, k1, j1, b, rfl, hP, hij, hj, V, K, hB, hR, Z⟩ := hrel
  have hz2 := hB.size
  have hgw := V.lt
  have hzw := Z.lt
  have V0 := hid V
  have K0 := hid K
  have B2 := hid hB
  have R2 := hid hR
  have Z0 := hid Z
  have HPP := hid hP
  clear V K hB hR Z hP
  cases b
  case true =>
   have hre : res = (t1, j1, true) := HPP.out.symm.trans (loop_end _ (one_bad _))
   subst hre
   obtain ⟨x0, x1, x2, xf⟩ := Z0.out
   obtain ⟨v0, v1, v2, vf⟩ := V0.out
   go_wp2
   have Y := Z0.out.set (.string op1) (.string tx1) (.slice X1 n1 k1)
   exact bodyPost_ret (v := .tuple #[.agg #[.string op1, .string tx1, .slice X1 n1 k1], .bool (!true)]) (by simp [results, Tryz.results154, go_sem, Y.c0, Y.c1, Y.c2]) rfl
    (give_ret (b := true) (fun h => (by cases h)) B2.out R2.out hrl)
  case false =>
   have K1 := hid (K0.out rfl)
   clear K0
   obtain ⟨q, hq⟩ : ∃ q, oneL (bare l) j1 false (opsL lv) = q := ⟨_, rfl⟩
   have HQ := hid hq
   clear hq
   go_wp2_with fail
   refine (HT.out j1 hj _ R2.out (HS.out _ B2.out) q HQ.out).mono ?_
   rintro e wa ⟨rfl, hb1, hr1⟩
   have Va := hid (V0.out.but (by omega) hb1)
   have Ka := hid (K1.out.but (fun g hg => ⟨hg.2.1, by have := hg.1; omega⟩) hb1)
   have Za := hid (Z0.out.but (by omega) hb1)
   have Ba := hid (B2.out.trans hb1)
   have za := hb1.size
   clear hb1
   by_cases hq0 : q = []
   ·subst hq0
    rw [if_pos rfl] at hr1
    have Ra := hid hr1
    have hre : res = (t1, j1, false) := HPP.out.symm.trans (loop_end _ HQ.out)
    subst hre
    clear hr1
    have zv := Va.out.lt
    have zz := Za.out.lt
    obtain ⟨x0, x1, x2, xf⟩ := Za.out
    obtain ⟨v0, v1, v2, vf⟩ := Va.out
    go_wp2
    have Y := Za.out.set (.string op1) (.string tx1) (.slice X1 n1 k1)
    exact bodyPost_ret (v := .tuple #[.agg #[.string op1, .string tx1, .slice X1 n1 k1], .bool (!false)]) (by simp [results, Tryz.results154, go_sem, Y.c0, Y.c1, Y.c2]) rfl
     (give_ret (b := false) (fun _ => Ka.out.imp (fun g hg => ⟨hg.1, by have := hg.2.1; omega⟩)) Ba.out Ra.out hrl)
   ·rw [if_neg hq0] at hr1
    obtain ⟨hkl, -⟩ := oneL_lt (show oneL (bare l) j1 false (opsL lv) ≠ [] by rw [HQ.out]; exact hq0)
    rw [bare_length] at hkl
    obtain ⟨R3, hy⟩ : ∃ R3, P (bare l) f (.expr (lv + 1)) (j1 + 1) false = R3 := ⟨_, rfl⟩
    obtain ⟨y, j2, b2⟩ := R3
    have hmu : mu (bare l) (.expr (lv + 1)) (j1 + 1) < f := by
     have e1 : mu (bare l) (.expr (lv + 1)) (j1 + 1) = 16 * ((bare l).length - (j1 + 1)) + (17 - 2 * (lv + 1)) := rfl
     rw [bare_length] at e1
     have := HMF.out
     have := HLV.out
     omega
    have hnx := loop_next (t := t1) (by have := HLV.out; omega) hkl HQ.out hq0 hmu hy
    have HNX := hid (hnx.1.symm.trans HPP.out)
    have hj2 := hnx.2
    have HY := hid (fun w1 hr => HD.out (j1 + 1) w1 (by omega) hmu hr)
    rw [hy] at HY
    obtain ⟨Q, hQ⟩ : ∃ Q : ByteArray, ⟨q.toArray⟩ = Q := ⟨_, rfl⟩
    obtain rfl : q = Q.data.toList := by rw [← hQ]
    have hQ0 : (Q.toList == []) = false := by
     rw [ByteArray.toList_eq]
     simpa using hq0
    have Ra := hid hr1
    rw [hQ]
    clear hQ hnx hy hmu HQ hr1 hq0
    have zz := Za.out.lt
    have zv := Va.out.lt
    have Rb := hid (Ra.out.alloc (.cells #[.string ⟨#[]⟩, .string ⟨#[]⟩, .slice none 0 0] 25))
    have Bb := hid (Ba.out.alloc (.cells #[.string ⟨#[]⟩, .string ⟨#[]⟩, .slice none 0 0] 25))
    have Kb := hid (Ka.out.alloc (fun g hg => by have := hg.2.1; omega) (.cells #[.string ⟨#[]⟩, .string ⟨#[]⟩, .slice none 0 0] 25))
    have Vb := hid (Va.out.alloc (.cells #[.string ⟨#[]⟩, .string ⟨#[]⟩, .slice none 0 0] 25))
    have Zb := hid (Za.out.alloc (.cells #[.string ⟨#[]⟩, .string ⟨#[]⟩, .slice none 0 0] 25))
    have Nb := hid (NBox.fresh wa (.string ⟨#[]⟩) (.string ⟨#[]⟩) (.slice none 0 0) 25)
    go_wp2_with fail
    refine (HY.out _ Rb.out).mono ?_
    rintro e wc ⟨o2, t2, X2, n2, k2, rfl, hn3, hb3, hr3⟩
    dsimp only at hn3 hr3
    have zc : wa.heap.size + 1 ≤ wc.heap.size := by have := hb3.size; simpa using this
    have Kc := hid (Kb.out.but (fun g hg => ⟨by have := hg.2.1; simp; omega, by have := hg.1; omega⟩) hb3)
    have Vc := hid (Vb.out.but (by omega) hb3)
    have Zc := hid (Zb.out.but (by omega) hb3)
    have Nc := hid (Nb.out.but (by omega) hb3)
    have Bc := hid (Bb.out.trans hb3)
    have Rc := hid hr3
    have Yc := hid (fun hq : b2 = false => (hn3 hq).imp (S' := fun g => wa.heap.size < g ∧ g < wc.heap.size) (fun g hg => by rcases hg with hg | hg; exact hg.elim; exact ⟨by have := hg.1; simp at this; omega, hg.2⟩))
    clear hb3 hr3 hn3
    obtain ⟨wd, hwd⟩ : ∃ wd, W3 wc wa.heap.size (.string o2) (.string t2) (.slice X2 n2 k2) = wd := ⟨_, rfl⟩
    have zd : wd.heap.size = wc.heap.size := by rw [← hwd, W3.size]
    have Kd := hid (show NIn wd _ t1 (.string op1) (.string tx1) (.slice X1 n1 k1) by rw [← hwd]; exact W3.nin Kc.out (fun hg => by have := hg.2.1; omega) _ _ _)
    have Vd := hid (show NBox wd w1.heap.size (.string op1) (.string tx1) (.slice X1 n1 k1) by rw [← hwd]; exact Vc.out.w3 (by omega) _ _ _)
    have Zd := hid (show NBox wd w.heap.size (.string ⟨#[]⟩) (.string ⟨#[]⟩) (.slice none 0 0) by rw [← hwd]; exact Zc.out.w3 (by omega) _ _ _)
    have Nd := hid (show NBox wd wa.heap.size (.string o2) (.string t2) (.slice X2 n2 k2) by rw [← hwd]; exact Nc.out.set _ _ _)
    have Bd := hid (show But w wd r by rw [← hwd]; exact W3.but Bc.out (by omega) _ _ _)
    have Rd' := hid (show Rd wd r m A cap l j2 by rw [← hwd]; exact W3.rd Rc.out (by omega) _ _ _)
    have Yd := hid (fun hq : b2 = false => (show NIn wd (fun g => wa.heap.size < g ∧ g < wc.heap.size) y (.string o2) (.string t2) (.slice X2 n2 k2) by rw [← hwd]; exact W3.nin (Yc.out hq) (fun hg => by have := hg.1; omega) _ _ _))
    have Be := hid (Bd.out.alloc (.cells #[.string op1, .string tx1, .slice X1 n1 k1, .string o2, .string t2, .slice X2 n2 k2] 25))
    have Re := hid (Rd'.out.alloc (.cells #[.string op1, .string tx1, .slice X1 n1 k1, .string o2, .string t2, .slice X2 n2 k2] 25))
    have Ve := hid (Vd.out.alloc (.cells #[.string op1, .string tx1, .slice X1 n1 k1, .string o2, .string t2, .slice X2 n2 k2] 25))
    have Ze := hid (Zd.out.alloc (.cells #[.string op1, .string tx1, .slice X1 n1 k1, .string o2, .string t2, .slice X2 n2 k2] 25))
    have Ie := hid (fun hq : b2 = false => NIn.two Q (Kd.out.imp (S' := fun g => w.heap.size < g ∧ g < wc.heap.size ∧ g ≠ w1.heap.size) (fun g hg => ⟨hg.1, by have := hg.2.1; omega, hg.2.2⟩)) ((Yd.out hq).imp (S' := fun g => w.heap.size < g ∧ g < wc.heap.size ∧ g ≠ w1.heap.size) (fun g hg => ⟨by have := hg.1; omega, hg.2, by have := hg.1; omega⟩)) (fun g hg => by have := hg.2.1; omega) (S' := fun g => w.heap.size < g ∧ g < wc.heap.size + 1 ∧ g ≠ w1.heap.size) (fun g hg => ⟨hg.1, by have := hg.2.1; omega, hg.2.2⟩) ⟨by omega, by omega, by omega⟩ 25)
    rw [zd] at Ie
    obtain ⟨x0, x1, x2, xf⟩ := Nc.out
    obtain ⟨v0, v1, v2, vf⟩ := Vc.out
    go_wp2_with fail
    unfold W3 at hwd
    rw [hwd]
    refine (HO.out _ _ _ _ _).mono ?_
    rintro e wf ⟨rfl, hb5⟩
    have zf : wc.heap.size + 1 ≤ wf.heap.size := by have := hb5.size; simp at this; omega
    have Bf := hid (Be.out.next hb5)
    have Rf := hid (Re.out.below hb5)
    have Vf := hid (Ve.out.below hb5)
    have Zf := hid (Ze.out.below hb5)
    have If := hid (fun hq : b2 = false => ((Ie.out hq).below (fun g hg => by have := hg.2.1; simp; omega) hb5))
    clear hb5 hwd x0 x1 x2 xf v0 v1 v2 vf
    have zv := Vf.out.lt
    obtain ⟨v0, v1, v2, vf⟩ := Vf.out
    have Rg := hid (show Rd (W3 wf w1.heap.size (.string Q) (.string ⟨#[]⟩) (.slice (some ⟨wc.heap.size, 0, none⟩) 2 2)) r m A cap l j2 from W3.rd Rf.out (by omega) _ _ _)
    have Yg := hid (show LoopE r m A cap l w lv i res w1.heap.size (.bool (!b2)) (W3 wf w1.heap.size (.string Q) (.string ⟨#[]⟩) (.slice (some ⟨wc.heap.size, 0, none⟩) 2 2)) from
     ⟨.two Q.data.toList t1 y, Q, ⟨#[]⟩, _, 2, 2, j2, b2, rfl, HNX.out, by omega, hj2.2, W3.box Vf.out _ _ _, fun hq => (W3.nin (If.out hq) (fun hg => hg.2.2 rfl) _ _ _).imp (fun g hg => ⟨hg.1, by rw [W3.size]; have := hg.2.1; omega, hg.2.2⟩), W3.but Bf.out (by omega) _ _ _, Rg.out, Zf.out.w3 (by omega) _ _ _⟩)
    go_wp2
    go_roundw
    case rel => exact Yg.out
    case measure =>
     refine Nat.lt_of_le_of_lt (Nat.le_of_eq (congrArg (fun a => l.length - a) (Rd.atOf Rg.out))) ?_
     rw [Rd.atOf R2.out]
     omega
end
end Go.Proofs.YtjbpkpfmgbhlpaaGreatDoor.Code
