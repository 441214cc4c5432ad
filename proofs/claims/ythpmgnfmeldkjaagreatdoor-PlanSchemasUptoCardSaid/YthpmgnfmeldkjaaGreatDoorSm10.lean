/-
  Lists of nodes that a reader makes: what lies where while a list grows; what a loop over parts keeps.
-/
import Derived.Test.YthpmgnfmeldkjaaGreatDoorSm9
import Derived.Test.YthpmgnfmeldkjaaGreatDoorSm8
import Derived.Test.YthpmgnfmeldkjaaGreatDoorSm1
import Derived.Test.YthpmgnfmeldkjaaGreatDoorSm2
import Derived.Deep.RegionHeld3
import Derived.Test.YthpmgnfmeldkjaaGreatDoorSm5
import Derived.Test.YthpmgnfmeldkjaaGreatDoorSm7
import Derived.Laws.AppendOwnNone
import Derived.Deep.RegionLaw
import Derived.Test.YthpmgnfmeldkjaaGreatDoorShelf
import Derived.Test.YthpmgnfmeldkjaaGreatDoorShelfSort
import Derived.Lib.OwnBridge
set_option maxRecDepth 100000
set_option maxHeartbeats 16000000
set_option linter.unusedVariables false
set_option linter.unusedSimpArgs false
open Go.Lib (hid)
namespace Go.Proofs.YthpmgnfmeldkjaaGreatDoor.Code
open Go.ChangeShapes Go.WideShapes Go.ChangeAt Go.RowKit Val Elems
theorem info_node : (Tryz.prog.info? 24).map (fun i => (i.zero, i.size, i.bytes)) = some (some (.agg #[.string ByteArray.empty, .string ByteArray.empty, .slice none 0 0]), 3, 56) := by kernel_rfl
def Apart (w wr : World) (X : Option Addr) (g : Nat) : Prop := w.heap.size ≤ g ∧ g < wr.heap.size ∧ ∀ ad, X = some ad → ad.block ≠ g
theorem own_but {w w' : World} {B r n k : Nat} {e : TypeId} {v : Value} {xs : List Value} (h : w.ownsRow B e k v n xs) (hb : But w w' r) (hB : r < B) : w'.ownsRow B e k v n xs :=
 h.kept (row := some r) ⟨hb.os, hb.tape, hb.output, hb.size, fun j hj hn => hb.block j hj (fun e => hn (by rw [e]))⟩ (by
  by_cases hv : v.ownBlock = some r
  ·have := (h.lt r hv).1
   omega
  ·exact .inr hv)
theorem RAll.apart {w wr w' : World} {r : Nat} {X : Option Addr} {ks : List Nod} {xs : List NV} (h : RAll wr (Apart w wr X) ks xs) (hr : r < w.heap.size) (hb : But wr w' r) : RAll w' (Apart w w' X) ks xs :=
 h.keep (fun g hg => ⟨hg.1, Nat.lt_of_lt_of_le hg.2.1 hb.size, hg.2.2⟩) (fun p hp => hb.cell hp.2.1 (by have := hp.1; omega))
theorem own_block {w : World} {B n : Nat} {X : Option Addr} {cp : Nat} {xs : List Value} (h : w.ownsRow B 24 3 (.slice X n cp) n xs) : ∀ ad, X = some ad → B ≤ ad.block ∧ ad.block < w.heap.size := fun ad e => h.lt ad.block (by rw [e]; rfl)
def GetL (r q : Nat) (A : Option Addr) (cap : Nat) (l : List W) (w : World) (res : Ress) (e : Ending) (w' : World) : Prop :=
 ∃ (X : Option Addr) (k : Nat) (xs : List NV), e = .returned (.slice X xs.length k) ∧ NAt w' (New w w') X xs ∧ RAll w' (New w w') res.1 xs ∧ But w w' r ∧ QRd w' r q A cap l res.2.1 res.2.2
theorem getL_own {r q : Nat} {A : Option Addr} {cap : Nat} {l : List W} {w w' : World} {ks : List Nod} {xs : List NV} {X : Option Addr} {cp j : Nat} {c : Bool} (ho : w'.ownsRow w.heap.size 24 3 (.slice X xs.length cp) xs.length (flatC nc xs)) (hr : RAll w' (Apart w w' X) ks xs) (hb : But w w' r) (hq : QRd w' r q A cap l j c) :
  GetL r q A cap l w (ks, j, c) (.returned (.slice X xs.length cp)) w' := by
 obtain ⟨A', cap', e, hat, hcp⟩ := own_nat ho
 injection e with e _ e2
 subst e e2
 exact ⟨X, cp, xs, rfl, hat, hr.keep (fun g hg => ⟨hg.1, hg.2.1⟩) (fun _ _ => rfl), hb, hq⟩
theorem grown_all {w w8 w9 : World} {X : Option Addr} {n cp gg : Nat} {ks : List Nod} {xs : List NV} {t : Nod} {y : NV} {S2 : Nat → Prop} (hr : RAll w8 (Apart w w8 X) ks xs) (hy : RIn w8 S2 t y) (hS2 : ∀ g, S2 g → w.heap.size ≤ g ∧ g < w8.heap.size ∧ ∀ ad, X = some ad → ad.block ≠ g)
  (hg : w8.grownBy w9 (Value.slice X n cp).ownBlock) (hat : (Value.slice X n cp).ownBlock = some gg ∨ gg = w8.heap.size) : RAll w9 (Apart w w9 (some ⟨gg, 0, none⟩)) (ks ++ [t]) (xs ++ [y]) := by
 have hown : ∀ g, (∀ ad, X = some ad → ad.block ≠ g) → (Value.slice X n cp).ownBlock ≠ some g := by
  intro g h e
  cases X with
  | none => cases e
  | some ad => exact h ad rfl (Option.some.inj e)
 have hne : ∀ g, g < w8.heap.size → (∀ ad, X = some ad → ad.block ≠ g) → gg ≠ g := by
  intro g hlt h e
  rcases hat with h1 | h1
  ·exact hown g h (by rw [h1, e])
  ·omega
 have hk : ∀ p : Addr, p.block < w8.heap.size → (∀ ad, X = some ad → ad.block ≠ p.block) → w9.cell? p = w8.cell? p := by
  intro p hlt h
  unfold World.cell?
  rw [hg.block p.block hlt (hown _ h).symm]
 have hz := hg.size
 have h1 : RAll w9 (Apart w w9 (some ⟨gg, 0, none⟩)) ks xs := hr.keep (fun g h => ⟨h.1, Nat.lt_of_lt_of_le h.2.1 hz, fun ad e => by cases e; exact hne g h.2.1 h.2.2⟩) (fun p hp => hk p hp.2.1 hp.2.2)
 have h2 : RIn w9 (Apart w w9 (some ⟨gg, 0, none⟩)) t y := hy.keep (fun g h => by
  obtain ⟨a1, a2, a3⟩ := hS2 g h
  exact ⟨a1, Nat.lt_of_lt_of_le a2 hz, fun ad e => by cases e; exact hne g a2 a3⟩) (fun p hp => hk p (hS2 _ hp).2.1 (hS2 _ hp).2.2)
 exact h1.snoc h2
def LInv (r q : Nat) (A : Option Addr) (cap : Nat) (l : List W) (w : World) (R : Ress) (el : Nat → Bool → Res) (v : Value) (wr : World) : Prop :=
 ∃ (f j : Nat) (c : Bool) (ks : List Nod) (xs : List NV) (X : Option Addr) (cp : Nat), v = .slice X xs.length cp ∧ wr.ownsRow w.heap.size 24 3 (.slice X xs.length cp) xs.length (flatC nc xs) ∧ RAll wr (Apart w wr X) ks xs ∧ j ≤ l.length ∧ l.length - j < f ∧ ks.length ≤ j + 2 ∧
  Hid (R = (ks ++ (loopQ (bare l) el f (ks.length == 0) j c).1, (loopQ (bare l) el f (ks.length == 0) j c).2)) ∧ But w wr r ∧ QRd wr r q A cap l j c
theorem loop_stop {L : List V} {el : Nat → Bool → Res} {f j : Nat} {first c : Bool} (hf : 0 < f) (hm : (moreQ L j c first).1 = false) : loopQ L el f first j c = ([], (moreQ L j c first).2) := by
 obtain ⟨f', rfl⟩ : ∃ f', f = f' + 1 := ⟨f - 1, by omega⟩
 rw [loopQ, if_pos hm]
theorem loop_go {L : List V} {el : Nat → Bool → Res} {f j : Nat} {first c : Bool} (hf : L.length - j < f) (hm : (moreQ L j c first).1 = true) : ∃ f', f = f' + 1 ∧ L.length - (j + 1) < f' ∧ j < L.length ∧ c = false ∧ (moreQ L j c first).2 = (j + 1, false) ∧
  loopQ L el f first j c = ((el (j + 1) false).1 :: (loopQ L el f' false (el (j + 1) false).2.1 (el (j + 1) false).2.2).1, (loopQ L el f' false (el (j + 1) false).2.1 (el (j + 1) false).2.2).2) := by
 have h1 := more_lt hm
 obtain ⟨f', rfl⟩ : ∃ f', f = f' + 1 := ⟨f - 1, by omega⟩
 refine ⟨f', rfl, by omega, h1.1, h1.2.1, h1.2.2, ?_⟩
 rw [loopQ, if_neg (by rw [hm]; decide), h1.2.2]
theorem nat_one (w : World) (o : Obj) (op tx : ByteArray) (Y : Option Addr) (n k : Nat) (ty : TypeId) (S : Nat → Prop) (hS : S w.heap.size) : NAt ((w.alloc (.cells #[.string op, .string tx, .slice Y n k] ty)).alloc o) S (some ⟨w.heap.size, 0, none⟩) [(op, tx, Y, n, k)] := by
 have h := (NBox.fresh w (.string op) (.string tx) (.slice Y n k) ty).alloc o
 intro i hi
 obtain rfl : i = 0 := by simp at hi; exact hi
 exact ⟨_, rfl, hS, h.c0, h.c1, h.c2⟩
theorem kid_made {w3 w4 : World} {t : Nod} {op tx : ByteArray} {Y : Option Addr} {n k : Nat} (h : RIn w4 (New w3 w4) t (op, tx, Y, n, k)) (hz : w3.heap.size ≤ w4.heap.size) (o1 o3 : Obj) (ty : TypeId) (a b : ByteArray) :
  RIn (((w4.alloc o1).alloc (.cells #[.string op, .string tx, .slice Y n k] ty)).alloc o3) (fun g => w3.heap.size ≤ g ∧ g < w4.heap.size + 3) (.mk a.data.toList b.data.toList [t]) (a, b, some ⟨w4.heap.size + 1, 0, none⟩, 1, 1) := by
 have hs : (w4.alloc o1).heap.size = w4.heap.size + 1 := by simp
 have h1 := nat_one (w4.alloc o1) o3 op tx Y n k ty (fun g => w3.heap.size ≤ g ∧ g < w4.heap.size + 3) ⟨by rw [hs]; omega, by rw [hs]; omega⟩
 rw [hs] at h1
 have h2 : RIn (((w4.alloc o1).alloc (.cells #[.string op, .string tx, .slice Y n k] ty)).alloc o3) (fun g => w3.heap.size ≤ g ∧ g < w4.heap.size + 3) t (op, tx, Y, n, k) :=
  ((((h.alloc (fun g hg => hg.2) o1).alloc (fun g hg => by have := hg.2; simp; omega) _).alloc (fun g hg => by have := hg.2; simp; omega) o3)).imp (fun g hg => ⟨hg.1, by have := hg.2; omega⟩)
 exact RIn.made (ks := [t]) 1 a b h1 (RAll.one h2) (by simp) (by simp)
theorem alloc3_new (w : World) (o1 o2 : Obj) (cs : Array Value) (t : TypeId) : (((w.alloc o1).alloc o2).alloc (.cells cs t)).heap[w.heap.size + 1 + 1]? = some (.cells cs t (0, 0)) := by
 have h := heap_alloc_new ((w.alloc o1).alloc o2) (.cells cs t)
 rw [show ((w.alloc o1).alloc o2).heap.size = w.heap.size + 1 + 1 by simp] at h
 exact h
theorem But.grown {w w8 w9 : World} {r : Nat} {row : Option Nat} (h : But w w8 r) (hg : w8.grownBy w9 row) (hrow : ∀ k, row = some k → w.heap.size ≤ k) : But w w9 r :=
 ⟨hg.os.trans h.os, hg.tape.trans h.tape, hg.output.trans h.output, Nat.le_trans h.size hg.size, fun k hk hn => (hg.block k (Nat.lt_of_lt_of_le hk h.size) (fun e => by have := hrow k e.symm; omega)).trans (h.block k hk hn)⟩
theorem QRd.under {w w' : World} {B r q : Nat} {A : Option Addr} {cap : Nat} {l : List W} {i : Nat} {b : Bool} (h : QRd w r q A cap l i b) (hb : Below B w w') (hr : r < B) (hq : q < B) : QRd w' r q A cap l i b :=
 ⟨⟨(hb.cell (p := ⟨r, 0, none⟩) hr).trans h.rd.c0, (hb.cell (p := ⟨r, 1, none⟩) hr).trans h.rd.c1, (hb.cell (p := ⟨r, 2, none⟩) hr).trans h.rd.c2, fun j => (hb.frozen (p := ⟨r, j, none⟩) hr).trans (h.rd.fr j), h.rd.ws.below (hb.mono (Nat.le_of_lt hr))⟩, (hb.cell (p := ⟨q, 0, none⟩) hq).trans h.cq, h.ne⟩
theorem linv_next {r q : Nat} {A : Option Addr} {cap : Nat} {l : List W} {w w8 w9 : World} {R : Ress} {el : Nat → Bool → Res} {f j : Nat} {c : Bool} {ks : List Nod} {xs : List NV} {X : Option Addr} {N cp gg cap9 : Nat} {t : Nod} {y : NV} {S2 : Nat → Prop}
  (hr : r < w.heap.size) (hq : q < w.heap.size) (hN : xs.length = N) (hown : w8.ownsRow w.heap.size 24 3 (.slice X N cp) N (flatC nc xs)) (hown9 : w9.ownsRow w.heap.size 24 3 (.slice (some ⟨gg, 0, none⟩) (N + 1) cap9) (N + 1) (flatC nc xs ++ nc y))
  (hg : w8.grownBy w9 (Value.slice X N cp).ownBlock) (hat : (Value.slice X N cp).ownBlock = some gg ∨ gg = w8.heap.size) (hA : RAll w8 (Apart w w8 X) ks xs) (hy : RIn w8 S2 t y) (hS2 : ∀ g, S2 g → w.heap.size ≤ g ∧ g < w8.heap.size ∧ ∀ ad, X = some ad → ad.block ≠ g)
  (hj : j ≤ l.length) (hf : l.length - j < f) (hk : ks.length + 1 ≤ j + 2) (hR : R = (ks ++ [t] ++ (loopQ (bare l) el f false j c).1, (loopQ (bare l) el f false j c).2)) (hb : But w w8 r) (hQ : QRd w8 r q A cap l j c) :
  LInv r q A cap l w R el (.slice (some ⟨gg, 0, none⟩) (N + 1) cap9) w9 ∧ QRd w9 r q A cap l j c := by
 have hl : (xs ++ [y]).length = N + 1 := by simp [hN]
 have hfl : flatC nc (xs ++ [y]) = flatC nc xs ++ nc y := flatC_snoc xs y
 have hrow : ∀ k, (Value.slice X N cp).ownBlock = some k → w.heap.size ≤ k := fun k e => (hown.lt k e).1
 have hB : Below w.heap.size w8 w9 := ⟨hg.os, hg.tape, hg.output, hg.size, fun k hk => hg.block k (Nat.lt_of_lt_of_le hk hb.size) (fun e => by have := hrow k e.symm; omega)⟩
 have hQ9 := hQ.under hB hr hq
 refine ⟨⟨f, j, c, ks ++ [t], xs ++ [y], some ⟨gg, 0, none⟩, cap9, by rw [hl], by rw [hl, hfl]; exact hown9, grown_all hA hy hS2 hg hat, hj, hf, by simp; omega, hid ?_, hb.grown hg hrow, hQ9⟩, hQ9⟩
 have e : ((ks ++ [t]).length == 0) = false := by simp
 rw [e]
 exact hR
theorem atq {w : World} {r q : Nat} {A : Option Addr} {cap : Nat} {l : List W} {i : Nat} {b : Bool} (h : QRd w r q A cap l i b) : atOf w r = i := Rdr.atOf h.rd
end Go.Proofs.YthpmgnfmeldkjaaGreatDoor.Code
/-
  How much there is in a node. No program is named here.
-/
namespace Go.Proofs.YthpmgnfmeldkjaaGreatDoor.Code
open Val
mutual
def Nod.tot : Nod → Nat
 | .mk op tx ks => 1 + op.length + tx.length + Nod.totL ks
def Nod.totL : List Nod → Nat
 | [] => 0
 | t :: l => t.tot + Nod.totL l
end
theorem tot_mem {x : Nod} : ∀ {l : List Nod}, x ∈ l → x.tot ≤ Nod.totL l
 | [], h => absurd h (by simp)
 | t :: l, h => by
  show _ ≤ t.tot + Nod.totL l
  rcases List.mem_cons.1 h with rfl | h
  ·omega
  ·have := tot_mem h
   omega
theorem nodtot_pos (t : Nod) : 1 ≤ t.tot := by cases t; rw [Nod.tot]; omega
theorem nodtot_len : ∀ l : List Nod, l.length ≤ Nod.totL l
 | [] => Nat.zero_le _
 | t :: l => by
  have := nodtot_len l
  have := nodtot_pos t
  show l.length + 1 ≤ t.tot + Nod.totL l
  omega
theorem nodtot_ks (t : Nod) : t.ks.length ≤ t.tot := by
 cases t with
 | mk o x ks =>
  have := nodtot_len ks
  rw [Nod.tot]
  show ks.length ≤ _
  omega
open Go.ChangeShapes Go.WideShapes Go.ChangeAt Go.RowKit Elems
theorem deepL_snoc (x : Nod) : ∀ l : List Nod, Nod.deepL (l ++ [x]) = max (Nod.deepL l) x.deep
 | [] => by simp [Nod.deepL]
 | t :: l => by
  show max t.deep (Nod.deepL (l ++ [x])) = max (max t.deep (Nod.deepL l)) x.deep
  rw [deepL_snoc x l, Nat.max_assoc]
theorem deepL_take : ∀ (l : List Nod) (k : Nat), Nod.deepL (l.take k) ≤ Nod.deepL l
 | [], k => by simp
 | t :: l, 0 => Nat.zero_le _
 | t :: l, k + 1 => by
  show max t.deep (Nod.deepL (l.take k)) ≤ max t.deep (Nod.deepL l)
  have := deepL_take l k
  omega
theorem deepL_mem {x : Nod} : ∀ {l : List Nod}, x ∈ l → x.deep ≤ Nod.deepL l
 | [], h => absurd h (by simp)
 | t :: l, h => by
  show _ ≤ max t.deep (Nod.deepL l)
  rcases List.mem_cons.1 h with rfl | h
  ·exact Nat.le_max_left _ _
  ·exact Nat.le_trans (deepL_mem h) (Nat.le_max_right _ _)
theorem deep_ks (t : Nod) : t.deep = Nod.deepL t.ks + 1 := by cases t; rfl
theorem rdeepN_any : ∀ (d : Nat) (t : Nod), t.deep ≤ d → d ≤ 1000000000 → ∀ (S : Nat → Prop) (op tx : ByteArray) (X : Option Addr) (n m : Nat) (w : World), (∀ g, S g → g < w.heap.size) → RIn w S t (op, tx, X, n, m) →
  Calls Tryz.prog 43 #[.agg #[.string op, .string tx, .slice X n m]] w fun e w' => e = .returned (.int .i64 t.deep) ∧ Below w.heap.size w w'
 | 0, t, h, _, _, _, _, _, _, _, _, _, _ => absurd h (by rw [deep_ks]; omega)
 | d + 1, t, h, hd, S, op, tx, X, n, m, w, hS, hn => by
  have ih := hid (fun k (hk : k < t.ks.length) => rdeepN_any d t.ks[k] (by have := deepL_mem (List.getElem_mem hk); rw [deep_ks] at h; omega) (by omega))
  rw [deep_ks] at h ⊢
  have hNod.deepL : Nod.deepL t.ks ≤ d := by omega
  obtain ⟨-, -, en, hkl⟩ := hn.texts
  dsimp only at en
  have HS := hid hS
  subst en
  have HN := hid hn
  clear h hS hn
  go_enter Tryz.func43, Tryz.ntmps43
  go_wp2
  go_loopw [3, 4] (fun v t' wr => ∃ k : Nat, k ≤ t.ks.length ∧ t' = .int .i64 k ∧ v = .int .i64 (Nod.deepL (t.ks.take k)) ∧ Below w.heap.size w wr ∧ NBox wr w.heap.size (.string op) (.string tx) (.slice X t.ks.length m)) (fun _ t' _ => t.ks.length - (intOf t').toNat)
  case atStart => exact ⟨0, by omega, rfl, rfl, (Below.refl _ _).alloc (Nat.le_refl _) _, NBox.fresh _ _ _ _ _⟩
  case round =>
   obtain ⟨k, hk, rfl, rfl, hb, hv⟩ := hrel
   have HB := hid hb
   have HV := hid hv
   have hz := hb.size
   have hvl := hv.lt
   have HK := hid (HN.out.bel HS.out hb)
   obtain ⟨x0, x1, x2, xf⟩ := hv
   clear hb
   by_cases hlt : k < t.ks.length
   ·obtain ⟨ad, ⟨op', tx', X', n', m'⟩, eA, hS', q0, q1, q2, hk'⟩ := HK.out.kid k hlt
    dsimp only at eA q0 q1 q2
    subst eA
    have hKK := hid hk'
    have had := HS.out _ hS'
    have hdk : Nod.deepL (t.ks.take k) ≤ Nod.deepL t.ks := deepL_take _ _
    have hdx : t.ks[k].deep ≤ Nod.deepL t.ks := deepL_mem (List.getElem_mem hlt)
    have hdt : Nod.deepL (t.ks.take (k + 1)) = max (Nod.deepL (t.ks.take k)) t.ks[k].deep := by rw [List.take_succ_eq_append_getElem hlt, deepL_snoc]
    have HDT := hid hdt
    clear hk' hdt
    go_wp2_with fail
    refine (ih.out k hlt S op' tx' X' n' m' _ (fun g hg => Nat.lt_of_lt_of_le (HS.out g hg) hz) hKK.out).mono ?_
    rintro e w1 ⟨rfl, hb1⟩
    have HB1 := hid (HB.out.trans (hb1.mono hz))
    have HV1 := hid (HV.out.below hb1)
    clear hb1 q0 q1 q2 x0 x1 x2 xf
    go_wp2
    go_roundw
    case rel => exact ⟨k + 1, by omega, by go_num, by rw [HDT.out]; simp; omega, HB1.out, HV1.out⟩
    case measure => simp [intOf]; omega
   ·obtain rfl : k = t.ks.length := by omega
    rw [List.take_length]
    go_wp2
    go_ret
    exact ⟨by simp, HB.out⟩
section
variable {α : Type} {c : α → List Value} {k : Nat}
theorem flatC_set (hk : ∀ x, (c x).length = k) : ∀ (l : List α) (i : Nat) (hi : i < l.length) (x : α) (j : Nat) (hj : j < k) (v : Value), c x = (c l[i]).set j v → flatC c (l.set i x) = (flatC c l).set (i * k + j) v
 | y :: l, 0, _, x, j, hj, v, h => by
  show c x ++ flatC c l = (c y ++ flatC c l).set (0 * k + j) v
  rw [Nat.zero_mul, Nat.zero_add, List.set_append_left _ _ (by rw [hk]; exact hj)]
  rw [show c x = (c y).set j v from h]
 | y :: l, i + 1, hi, x, j, hj, v, h => by
  show c y ++ flatC c (l.set i x) = (c y ++ flatC c l).set ((i + 1) * k + j) v
  rw [List.set_append_right _ _ (by rw [hk, Nat.add_mul]; omega), hk, show (i + 1) * k + j - k = i * k + j by rw [Nat.add_mul]; omega]
  rw [flatC_set hk l i (by simpa using hi) x j hj v h]
def CellsG (c : α → List Value) (w : World) (g : Nat) (l : List α) : Prop := ∀ q u, (flatC c l)[q]? = some u → w.cell? ⟨g, q, none⟩ = some u
theorem CellsG.keep {w w' : World} {g : Nat} {l : List α} (h : CellsG c w g l) (hb : w'.heap[g]? = w.heap[g]?) : CellsG c w' g l := fun q u hu => by
 have := h q u hu
 unfold World.cell? at *
 simp only [hb] at *
 exact this
theorem CellsG.below {w w' : World} {g : Nat} {l : List α} (h : CellsG c w g l) (hg : g < w.heap.size) (hb : Below w.heap.size w w') : CellsG c w' g l := h.keep (hb.block g hg)
theorem CellsG.set (hk : ∀ x, (c x).length = k) {w : World} {g : Nat} {l : List α} (h : CellsG c w g l) (i : Nat) (hi : i < l.length) (x : α) (j : Nat) (hj : j < k) (v : Value) (hx : c x = (c l[i]).set j v) :
  CellsG c (w.setCell ⟨g, i * k + j, none⟩ v) g (l.set i x) := by
 intro q u hu
 rw [flatC_set hk l i hi x j hj v hx] at hu
 by_cases e : q = i * k + j
 ·subst e
  have hlt : i * k + j < (flatC c l).length := by
   have := (List.getElem?_eq_some_iff.1 hu).1
   rwa [List.length_set] at this
  rw [List.getElem?_set_self hlt] at hu
  cases hu
  exact World.cell?_setCell_same _ _ _ (h _ _ (List.getElem?_eq_getElem hlt))
 ·rw [List.getElem?_set_ne (by omega)] at hu
  rw [World.cell?_setCell_other _ _ _ _ (by intro h9; injection h9 with h8 h7; exact e h7.symm)]
  exact h q u hu
theorem CellsG.at (hk : ∀ x, (c x).length = k) {w : World} {g : Nat} {l : List α} (h : CellsG c w g l) (i : Nat) (hi : i < l.length) (j : Nat) (hj : j < k) (u : Value) (hu : (c l[i])[j]? = some u) : w.cell? ⟨g, i * k + j, none⟩ = some u :=
 h _ _ (by rw [flatC_at hk l i hi j hj]; exact hu)
theorem CellsG.ats (hk : ∀ x, (c x).length = k) {w : World} {g : Nat} {l : List α} (h : CellsG c w g l) {S : Nat → Prop} (hS : S g) : AtS c k w S (some ⟨g, 0, none⟩) l := by
 intro i hi
 refine ⟨⟨g, 0, none⟩, rfl, hS, fun j u hu => ?_⟩
 rw [Addr.add_lit, Nat.zero_add]
 have hj : j < k := by
  have := (List.getElem?_eq_some_iff.1 hu).1
  rwa [hk] at this
 exact h.at hk i hi j hj u hu
theorem cells_at (hk : ∀ x, (c x).length = k) {w : World} {g B : Nat} {l : List α} (hg : g < B) (h : CellsG c w g l) : At c k w B (some ⟨g, 0, none⟩) l := (h.ats hk (S := fun b => b = g) rfl).at (fun b e => by rw [e]; exact hg)
theorem own_cellsG {w : World} {B : Nat} {e : TypeId} {v : Value} {l : List α} (h : w.ownsRow B e k v l.length (flatC c l)) (h0 : 0 < l.length) :
  ∃ g cap, v = .slice (some ⟨g, 0, none⟩) l.length cap ∧ B ≤ g ∧ g < w.heap.size ∧ (∀ j, w.frozen? ⟨g, j, none⟩ = false) ∧ CellsG c w g l := by
 obtain ⟨g, cap, hv, hg, hlt⟩ := h.form h0
 have hc := h.cells (g := g) (by rw [hv]; rfl)
 refine ⟨g, cap, hv, hg, hlt, ?_, fun j u hu => by have := hc j u hu; rwa [Addr.add_lit, Nat.zero_add] at this⟩
 intro j
 rcases h.2 with ⟨e1, _⟩ | ⟨g', cap', cur, e1, _, hh, _⟩
 ·rw [hv] at e1
  simp at e1
 ·rw [hv] at e1
  simp only [Value.slice.injEq, Option.some.injEq, Addr.mk.injEq] at e1
  obtain ⟨⟨rfl, _, _⟩, _, _⟩ := e1
  simp [World.frozen?, hh]
end
theorem nclone_any (A : Option Addr) (cap : Nat) (l : List NV) (w : World) (h : At nc 3 w w.heap.size A l) (hl : l.length ≤ 4194304) :
  Calls Tryz.prog 154 #[.slice A l.length cap] w fun e w' => ∃ v, e = .returned v ∧ w'.ownsRow w.heap.size 24 3 v l.length (flatC nc l) ∧ Below w.heap.size w w' := by
 obtain ⟨i0, hi0, hz0, hz1, hz2⟩ := info_parts info_node
 rcases A with _ | ad
 ·have h0 : l = [] := by
   cases l with
   | nil => rfl
   | cons y l =>
    obtain ⟨ad, e, _⟩ := h 0 (by simp)
    cases e
  subst h0
  show Calls Tryz.prog 154 #[.slice none 0 cap] w _
  have hq := fun w => Lib.run_eql_slice_nil (P := Tryz.prog) w 22 24 none 0 cap 0 0 Tryz.underlying22
  go_enter Tryz.func154, Tryz.ntmps154
  go_wp2
  go_ret
  exact ⟨_, rfl, World.ownsRow_nil _ _ _ _, Below.refl _ _⟩
 ·have HA := hid h
  clear h
  have hq := fun w => Lib.run_eql_slice_nil (P := Tryz.prog) w 22 24 (some ad) l.length cap 0 0 Tryz.underlying22
  go_enter Tryz.func154, Tryz.ntmps154
  go_wp2_with (at_builtin; refine wpList_append_at (k := 3) (c := nc) nc_length (by decide) nc_one rfl _ _ 22 rfl w.heap.size 24 i0 _ 56 Tryz.underlying22 hi0 hz0 hz1 hz2 rfl (.slice (some ⟨w.heap.size, 0, none⟩) 0 0) 0 [] rfl ?c0 (w.heap.size + 1) (some ad) cap l rfl ?c2 ?c3 ?c4 ?c5 ?_)
  case c0 => exact ⟨rfl, .inr ⟨w.heap.size, 0, #[], rfl, Nat.le_refl _, heap_alloc_new w _, Nat.le_refl _, Nat.zero_le _, rfl, rfl⟩⟩
  case c2 => exact (HA.out.below (below_alloc w _)).more (by omega)
  case c3 => unfold maxLen; omega
  case c4 => omega
  case c5 => simp
  intro v' w1 hown' hgrow
  have H1 := hid (show w1.ownsRow w.heap.size 24 3 v' l.length (flatC nc l) by simpa using hown')
  have L1 := hid ((below_alloc w (.cells #[] 24)).grown hgrow (by simp) (fun j hj => by cases hj; exact Nat.le_refl _))
  clear hown' hgrow
  go_wp2
  go_ret
  exact ⟨_, rfl, H1.out, L1.out⟩
theorem NLs.vals {w : World} {S : Nat → Prop} {A : Option Addr} {ks : List Nod} (h : NLs w S A ks) : ∃ l : List NV, RAll w S ks l ∧ NAt w S A l := by
 classical
 refine ⟨List.ofFn fun i : Fin ks.length => (h i i.2).choose_spec.choose, ⟨by simp, fun i hi hi' => ?_⟩, fun i hi => ?_⟩
 ·have := (h i hi).choose_spec.choose_spec.2.2.2.2.2
  simpa using this
 ·have hi2 : i < ks.length := by simpa using hi
  have hx := (h i hi2).choose_spec.choose_spec
  refine ⟨(h i hi2).choose, hx.1, hx.2.1, ?_, ?_, ?_⟩
  ·simpa using hx.2.2.1
  ·simpa using hx.2.2.2.1
  ·simpa using hx.2.2.2.2.1
theorem nls_of {w : World} {S : Nat → Prop} {A : Option Addr} {ks : List Nod} {l : List NV} (ha : RAll w S ks l) (hn : NAt w S A l) : NLs w S A ks := by
 intro k hk
 have hl : k < l.length := by rw [ha.1]; exact hk
 obtain ⟨ad, e, hs, c0, c1, c2⟩ := hn k hl
 exact ⟨ad, l[k], e, hs, c0, c1, c2, ha.2 k hk hl⟩
structure CopyI (w0 w : World) (g : Nat) (S : Nat → Prop) (ks : List Nod) (l : List NV) (i : Nat) : Prop where
 len : l.length = ks.length
 cells : CellsG nc w g l
 done : ∀ (j : Nat) (h : j < ks.length) (h' : j < l.length), j < i → RIn w (fun b => w0.heap.size ≤ b ∧ b < w.heap.size ∧ b ≠ g) ks[j] l[j]
 rest : ∀ (j : Nat) (h : j < ks.length) (h' : j < l.length), i ≤ j → RIn w S ks[j] l[j]
 frz : ∀ j, w.frozen? ⟨g, j, none⟩ = false
 bel : Below w0.heap.size w0 w
 lo : w0.heap.size ≤ g
 lt : g < w.heap.size
theorem rin_of {w : World} {S : Nat → Prop} {X : Option Addr} {t : Nod} {cap : Nat} (h : NLs w S X t.ks) (hb : t.ks.length ≤ 2600000000000) (hc : t.ks.length ≤ cap) : RIn w S t (⟨t.op.toArray⟩, ⟨t.tx.toArray⟩, X, t.ks.length, cap) := by
 obtain ⟨l, ha, hat⟩ := h.vals
 cases t with
 | mk o x ks => exact .mk o x ks X cap l ha.1 hb hc hat (fun i hi => ha.2 i hi _)
theorem CopyI.step {w0 wr w2 : World} {g : Nat} {S : Nat → Prop} {ks : List Nod} {l : List NV} {i : Nat} (h : CopyI w0 wr g S ks l i) (hS : ∀ b, S b → b < w0.heap.size) (hi : i < ks.length) (hb : Below wr.heap.size wr w2) {X2 : Option Addr} {cp2 : Nat}
  (hn : NLs w2 (fun b => wr.heap.size ≤ b ∧ b < w2.heap.size) X2 ks[i].ks) (hk : ks[i].ks.length ≤ 2600000000000) (hc : ks[i].ks.length ≤ cp2) (y : NV) (hy : l[i]? = some y) :
  CopyI w0 (w2.setCell ⟨g, i * 3 + 2, none⟩ (.slice X2 ks[i].ks.length cp2)) g S ks (l.set i (y.1, y.2.1, X2, ks[i].ks.length, cp2)) (i + 1) := by
 have hli : i < l.length := by rw [h.len]; exact hi
 obtain rfl : l[i] = y := by rw [List.getElem?_eq_getElem hli] at hy; exact Option.some.inj hy
 have hsz : (w2.setCell ⟨g, i * 3 + 2, none⟩ (.slice X2 ks[i].ks.length cp2)).heap.size = w2.heap.size := by simp
 have hlt := h.lt
 have hge := hb.size
 have kp : ∀ p : Addr, p.block < w2.heap.size → p.block ≠ g → (w2.setCell ⟨g, i * 3 + 2, none⟩ (.slice X2 ks[i].ks.length cp2)).cell? p = w2.cell? p := fun p _ hp => World.cell?_setCell_other _ _ _ _ (by intro e; rw [← e] at hp; exact hp rfl)
 have ht := (h.rest i hi hli (Nat.le_refl _)).texts
 refine ⟨by rw [List.length_set]; exact h.len, CellsG.set nc_length (h.cells.below h.lt hb) i hli _ 2 (by omega) _ rfl, fun j hj hj' hji => ?_, fun j hj hj' hij => ?_, fun j => ?_, (h.bel.trans (hb.mono h.bel.size)).setCell h.lo _, h.lo, by rw [hsz]; omega⟩
 ·rw [List.getElem_set]
  by_cases e : i = j
  ·subst e
   rw [if_pos rfl, ht.1, ht.2.1]
   refine (rin_of hn hk hc).keep (fun b hb' => ?_) (fun p hp => kp p hp.2 (by have := hp.1; omega))
   rw [hsz]
   exact ⟨by have := h.bel.size; have := hb'.1; omega, hb'.2, by have := hb'.1; omega⟩
  ·rw [if_neg e]
   refine (h.done j hj (by simpa using hj') (by omega)).keep (fun b hb' => ?_) (fun p hp => (kp p (by have := hp.2.1; omega) hp.2.2).trans (hb.cell hp.2.1))
   rw [hsz]
   exact ⟨hb'.1, by have := hb'.2.1; omega, hb'.2.2⟩
 ·rw [List.getElem_set, if_neg (by omega)]
  have hw := h.bel.size
  have hlo := h.lo
  exact (h.rest j hj (by simpa using hj') (by omega)).keep (fun _ h => h) (fun p hp => (kp p (by have := hS _ hp; omega) (by have := hS _ hp; omega)).trans (hb.cell (by have := hS _ hp; omega)))
 ·rw [World.frozen?_setCell, hb.frozen (p := ⟨g, j, none⟩) hlt]
  exact h.frz j
theorem totL_ks (t : Nod) : Nod.totL t.ks ≤ t.tot := by
 cases t with
 | mk o x ks =>
  rw [Nod.tot]
  show Nod.totL ks ≤ _
  omega
def OwnN (w : World) (ks : List Nod) (e : Ending) (w' : World) : Prop := ∃ (A : Option Addr) (cap : Nat), e = .returned (.slice A ks.length cap) ∧ NLs w' (fun g => w.heap.size ≤ g ∧ g < w'.heap.size) A ks ∧ Below w.heap.size w w' ∧ ks.length ≤ cap
theorem NLs.nil (w : World) (S : Nat → Prop) (A : Option Addr) : NLs w S A [] := fun k hk => absurd hk (Nat.not_lt_zero _)
theorem copied_any : ∀ (d : Nat) (ks : List Nod), Nod.deepL ks < d → Nod.totL ks ≤ 4194304 → ∀ (S : Nat → Prop) (A : Option Addr) (cap : Nat) (w : World), (∀ g, S g → g < w.heap.size) → NLs w S A ks →
  Calls Tryz.prog 86 #[.slice A ks.length cap] w (OwnN w ks)
 | 0, ks, h, _, _, _, _, _, _, _ => absurd h (Nat.not_lt_zero _)
 | d + 1, ks, h, htot, S, A, cap, w, hS, hn => by
  have hlen := Nat.le_trans (nodtot_len ks) htot
  obtain ⟨l, hra, hat⟩ := hn.vals
  have HC := hid (nclone_any A cap l w (hat.at hS) (by rw [hra.1]; omega))
  rw [hra.1] at HC
  have ih := hid (fun (k : Nat) (hk : k < ks.length) => copied_any d ks[k].ks (by have h1 := deepL_mem (List.getElem_mem hk); rw [deep_ks] at h1; omega) (by have h1 := tot_mem (List.getElem_mem hk); have h2 := totL_ks ks[k]; omega))
  have HRA := hid hra
  have HS := hid hS
  clear hn hat
  go_enter Tryz.func86, Tryz.ntmps86
  go_wp2_with fail
  refine HC.out.mono ?_
  rintro e w1 ⟨v, rfl, hown, hb⟩
  rw [← hra.1] at hown
  obtain ⟨A0, cap0, hv0, hat0, hcp0⟩ := own_ats nc_length hown
  have HI0 : 0 < ks.length → ∃ g, A0 = some ⟨g, 0, none⟩ ∧ CopyI w w1 g S ks l 0 := by
   intro hp
   obtain ⟨g, cp, hv, hg1, hg2, hfr, hcl⟩ := own_cellsG hown (by rw [hra.1]; exact hp)
   rw [hv0] at hv
   injection hv with hv
   refine ⟨g, hv, hra.1, hcl, fun j h h' hj => absurd hj (Nat.not_lt_zero _), fun j h h' hj => (hra.2 j h h').bel hS hb, hfr, hb, hg1, hg2⟩
  rw [hra.1] at hv0 hcp0
  subst hv0
  have HI := hid HI0
  have L1 := hid hb
  clear hown hat0 HI0 hb HC hra
  have hl2 := hlen
  go_wp2
  go_loopw [9] (fun t wr => ∃ i : Nat, i ≤ ks.length ∧ t = .int .i64 i ∧ Below w.heap.size w wr ∧ (0 < ks.length → ∃ g l', A0 = some ⟨g, 0, none⟩ ∧ CopyI w wr g S ks l' i)) (fun t _ => ks.length - (intOf t).toNat)
  case atStart => exact ⟨0, by omega, rfl, L1.out, fun hp => by obtain ⟨g, h1, h2⟩ := HI.out hp; exact ⟨g, l, h1, h2⟩⟩
  case round =>
   obtain ⟨i, hi, rfl, hbel, hinv⟩ := hrel
   have HB := hid hbel
   clear hbel
   by_cases hil : i < ks.length
   ·obtain ⟨g, l', hA, hci⟩ := hinv (by omega)
    subst hA
    have hli : i < l'.length := by rw [hci.len]; exact hil
    have c2 := hci.cells.at nc_length i hli 2 (by omega) (.slice l'[i].2.2.1 l'[i].2.2.2.1 l'[i].2.2.2.2) rfl
    have hri := hci.rest i hil hli (Nat.le_refl _)
    obtain ⟨eo, et, en, hkl⟩ := hri.texts
    have HS1 : ∀ b, S b → b < wr.heap.size := fun b hb => Nat.lt_of_lt_of_le (HS.out b hb) hci.bel.size
    have HC2 := hid (ih.out i hil S l'[i].2.2.1 l'[i].2.2.2.2 wr HS1 hri.nls)
    rw [← en] at HC2
    have HCI := hid hci
    have fz := hci.frz
    have hyl : l'[i]? = some l'[i] := List.getElem?_eq_getElem hli
    have hkb := hkl
    obtain ⟨y, hy⟩ : ∃ y, l'[i] = y := ⟨_, rfl⟩
    rw [hy] at hyl
    rw [hy] at c2 HC2 hri eo et en
    obtain ⟨yo, yt, yX, yn, ym⟩ := y
    dsimp only at c2 HC2 en
    subst en
    clear eo et
    have hge := hci.lt
    clear hinv hkl hri hci
    have HST := hid (fun (w2 : World) (hb : Below wr.heap.size wr w2) (X2 : Option Addr) (cp2 : Nat) (hn : NLs w2 (fun b => wr.heap.size ≤ b ∧ b < w2.heap.size) X2 ks[i].ks) (hc : ks[i].ks.length ≤ cp2) => HCI.out.step HS.out hil hb hn hkb hc _ hyl)
    clear HCI hyl
    go_wp2_with fail
    refine HC2.out.mono ?_
    rintro e w2 ⟨X2, cp2, rfl, hn2, hb2, hcp2⟩
    have c3 := (hb2.cell (p := ⟨g, i * 3 + 2, none⟩) hge).trans c2
    have fz2 : ∀ j, w2.frozen? ⟨g, j, none⟩ = false := fun j => (hb2.frozen (p := ⟨g, j, none⟩) hge).trans (fz j)
    have HS2 := hid (HST.out w2 hb2 X2 cp2 hn2 hcp2)
    have B2 := hid (HS2.out.bel)
    clear HST hn2 hb2 c2 fz HC2
    go_wp2
    go_roundw
    case rel => exact ⟨i + 1, by omega, by go_num, B2.out, fun _ => ⟨g, _, rfl, HS2.out⟩⟩
    case measure => simp [intOf]; omega
   ·obtain rfl : i = ks.length := by omega
    have HINV := hid hinv
    clear hinv
    go_wp2
    go_ret
    refine ⟨A0, cap0, rfl, ?_, HB.out, hcp0⟩
    by_cases hp : 0 < ks.length
    ·obtain ⟨g, l', rfl, hci⟩ := HINV.out hp
     refine nls_of (l := l') ⟨hci.len, fun j hj hj' => (hci.done j hj hj' hj).imp fun b hb => ⟨hb.1, hb.2.1⟩⟩ (nat_of (B := wr.heap.size) (cells_at (c := nc) nc_length hci.lt hci.cells) ?_)
     intro ad e _
     cases e
     exact ⟨hci.lo, hci.lt⟩
    ·intro k hk
     exact absurd hk (by omega)
end Go.Proofs.YthpmgnfmeldkjaaGreatDoor.Code
/-
  Within (PlanNested), in plain words. No program is named here.
-/
namespace Go.Proofs.YthpmgnfmeldkjaaGreatDoor.Code
open Val
theorem numbered_tail (l : List W) : (numberedP l).map (fun c => c.2) = l.map (fun c => c.2) := by
 unfold numberedP
 apply List.ext_getElem
 ·simp
 ·intro i h1 h2
  simp
theorem numbered_again (l : List W) : numberedP (numberedP l) = numberedP l := by
 unfold numberedP
 apply List.ext_getElem
 ·simp
 ·intro i h1 h2
  simp
theorem all_tail (l : List W) : (l.all fun c => nameC c.2.1) = ((l.map (fun c => c.2)).all fun c => nameC c.1) := by
 rw [List.all_map]
 rfl
def twiceN : List (List UInt8 × Int) → Bool
 | [] => false
 | c :: l => (l.any fun x => x.1 == c.1) || twiceN l
theorem twice_tail : ∀ l : List W, twiceC l = twiceN (l.map (fun c => c.2))
 | [] => rfl
 | c :: l => by
  unfold twiceC
  rw [List.map_cons, twiceN, twice_tail l, List.any_map]
  rfl
theorem last_numbered (l : List W) (lv : Nat) : lastP (numberedP l) lv = lastP l lv := by
 unfold lastP
 rw [all_tail, twice_tail, numbered_tail, ← all_tail, ← twice_tail]
 rw [show (numberedP l).length = l.length by unfold numberedP; simp]
def rngK (k : Int) : Prop := 0 ≤ k ∧ k ≤ 4
theorem litL_range {op tx : List UInt8} {v : CV} (h : litL op tx = some v) : rngK v.1 := by
 unfold litL at h
 split at h
 ·cases ha : amountL tx with
  | none => rw [ha] at h; cases h
  | some n =>
   rw [ha] at h
   simp only [Option.map_some, Option.some.injEq] at h
   subst h
   split <;> (unfold rngK; dsimp only; omega)
 ·split at h
  ·split at h
   ·cases h; unfold rngK; dsimp only; omega
   ·cases h
  ·split at h
   ·cases h
   ·split at h
    ·cases h; unfold rngK truV; dsimp only; omega
    ·split at h
     ·cases h; unfold rngK truV; dsimp only; omega
     ·split at h
      ·cases h; unfold rngK nulV; dsimp only; omega
      ·cases h
theorem colK_range {cols : List W} (hc : ∀ c ∈ cols, rngK c.2.2) (tx : List UInt8) : rngK (colK cols tx).1 := by
 unfold colK
 cases h : findC cols tx with
 | none => dsimp only; unfold rngK; omega
 | some i =>
  obtain ⟨hi, -, -⟩ := find_some h
  dsimp only
  rw [List.getD_eq_getElem?_getD, List.getElem?_eq_getElem hi, Option.getD_some]
  exact hc _ (List.getElem_mem hi)
theorem twoT_range (op : List UInt8) {a b : Int} (ha : rngK a) (hb : rngK b) : rngK (twoT op a b).1 := by
 unfold twoT
 split
 ·split
  ·exact hb
  ·exact ha
 ·split
  ·unfold rngK; dsimp only; omega
  ·split <;> (unfold rngK; dsimp only; omega)
theorem typeT_range {cols : List W} (hc : ∀ c ∈ cols, rngK c.2.2) (op tx : List UInt8) (l : List Int) (hl : ∀ k ∈ l, rngK k) : rngK (typeT cols op tx l).1 := by
 unfold typeT
 split
 ·unfold rngK; dsimp only; omega
 ·match l, hl with
  | [], _ =>
   dsimp only
   split
   ·exact colK_range hc tx
   ·cases h : litL op tx with
    | none => dsimp only; unfold rngK; omega
    | some v => exact litL_range h
  | [a], hl =>
   have ha := hl a (by simp)
   dsimp only
   split
   ·unfold rngK; dsimp only; omega
   ·split
    ·exact ha
    ·split <;> (unfold rngK; dsimp only; omega)
  | [a, b], hl => exact twoT_range op (hl a (by simp)) (hl b (by simp))
  | _ :: _ :: _ :: _, _ => unfold rngK; dsimp only; omega
mutual
theorem typeE_range {cols : List W} (hc : ∀ c ∈ cols, rngK c.2.2) : ∀ e : Nod, rngK (typeE cols e).1
 | .mk op tx ks => by
  rw [typeE_mk]
  split
  ·exact typeT_range hc op tx _ (typeL_range hc ks)
  ·unfold rngK; dsimp only; omega
theorem typeL_range {cols : List W} (hc : ∀ c ∈ cols, rngK c.2.2) : ∀ l : List Nod, ∀ k ∈ (typeL cols l).1, rngK k
 | [] => by intro k hk; rw [typeL] at hk; cases hk
 | t :: l => by
  intro k hk
  rw [typeL] at hk
  split at hk
  ·split at hk
   ·rcases List.mem_cons.1 hk with rfl | h
    ·exact typeE_range hc t
    ·exact typeL_range hc l k h
   ·cases hk
  ·cases hk
end
def colKs (l : List W) : Prop := ∀ c ∈ l, 1 ≤ c.2.2 ∧ c.2.2 ≤ 4
theorem colKs.rng {l : List W} (h : colKs l) : ∀ c ∈ l, rngK c.2.2 := fun c hc => ⟨by have := (h c hc).1; omega, (h c hc).2⟩
theorem colKs.get {l : List W} (h : colKs l) {s : List UInt8} {i : Nat} (hf : findC l s = some i) : 1 ≤ (l.getD i (0, [], 0)).2.2 ∧ (l.getD i (0, [], 0)).2.2 ≤ 4 := by
 obtain ⟨hi, -, -⟩ := find_some hf
 rw [List.getD_eq_getElem?_getD, List.getElem?_eq_getElem hi, Option.getD_some]
 exact h _ (List.getElem_mem hi)
theorem project_kinds {cols : List W} (hc : colKs cols) : ∀ l : List Nod, colKs (projectP cols l).1
 | [] => fun c h => by rw [projectP] at h; cases h
 | t :: l => fun c h => by
  have hr := typeE_range hc.rng (nthN t.ks 0)
  rw [projectP] at h
  split at h
  ·cases h
  ·split at h
   ·cases h
   ·split at h
    ·cases h
    ·rcases List.mem_cons.1 h with rfl | h
     ·unfold rngK at hr
      dsimp only
      omega
     ·exact project_kinds hc l c h
theorem by_kinds {cols : List W} (hc : colKs cols) : ∀ l : List Nod, colKs (byP cols l).2.1
 | [] => fun c h => by rw [byP] at h; cases h
 | t :: l => fun c h => by
  rw [byP] at h
  cases hf : findC cols t.tx with
  | none => rw [hf] at h; cases h
  | some k =>
   rw [hf] at h
   dsimp only at h
   split at h
   ·cases h
   ·rcases List.mem_cons.1 h with rfl | h
    ·exact hc.get hf
    ·exact by_kinds hc l c h
theorem agg_kind {cols : List W} (hc : colKs cols) (fn : Nod) (h : (aggP cols fn).2.2 = 0) : 1 ≤ (aggP cols fn).2.1 ∧ (aggP cols fn).2.1 ≤ 4 := by
 unfold aggP at *
 split at h
 ·rename_i hs
  rw [if_pos hs]
  dsimp only
  omega
 ·rename_i hs
  rw [if_neg hs]
  cases hf : findC cols fn.tx with
  | none => rw [hf] at h; cases h
  | some k =>
   have hg := hc.get hf
   dsimp only
   split
   ·split <;> (dsimp only; first | omega | exact ⟨by omega, by omega⟩ | (rw [hf] at h; simp_all))
   ·exact hg
theorem aggs_kinds {cols : List W} (hc : colKs cols) : ∀ l : List Nod, colKs (aggsP cols l).2.1
 | [] => fun c h => by rw [aggsP] at h; cases h
 | t :: l => fun c h => by
  rw [aggsP] at h
  split at h
  ·cases h
  ·rename_i ha
   split at h
   ·cases h
   ·rcases List.mem_cons.1 h with rfl | h
    ·exact agg_kind hc _ (by simpa using ha)
    ·exact aggs_kinds hc l c h
theorem colKs.nil : colKs [] := fun c h => by cases h
theorem colKs.app {a b : List W} (ha : colKs a) (hb : colKs b) : colKs (a ++ b) := fun c h => (List.mem_append.1 h).elim (ha c) (hb c)
theorem kids_kinds {ps : List Pl} (h : ∀ p ∈ ps, colKs p.cols) (i : Nat) : colKs (ps.getD i zeroP).cols := by
 rw [List.getD_eq_getElem?_getD]
 cases hi : ps[i]? with
 | none => exact colKs.nil
 | some p => exact h p (List.mem_of_getElem? hi)
theorem head_getD (ps : List Pl) : ps.headD zeroP = ps.getD 0 zeroP := by cases ps <;> rfl
theorem own_kinds {tabs : List Tab} (ht : ∀ t ∈ tabs, colKs t.2) (op tx : List UInt8) (ks : List Nod) {ps : List Pl} (h : ∀ p ∈ ps, colKs p.cols) : colKs (ownP tabs op tx ks ps).1.cols := by
 have h0 : colKs (ps.headD zeroP).cols := by rw [head_getD]; exact kids_kinds h 0
 unfold ownP
 dsimp only
 split
 ·cases hf : tabs.find? fun t => t.1 == tx with
  | none => exact colKs.nil
  | some t => exact ht t (List.mem_of_find?_eq_some hf)
 ·split
  ·exact h0
  ·split
   ·exact project_kinds h0 _
   ·split
    ·exact h0.app (kids_kinds h 1)
    ·split
     ·exact h0
     ·split
      ·exact (by_kinds h0 _).app (aggs_kinds h0 _)
      ·exact h0
theorem twice_pair : ∀ l : List W, twiceC l = false → l.Pairwise fun x c => x.2.1 ≠ c.2.1
 | [], _ => .nil
 | c :: l, h => by
  rw [twiceC, Bool.or_eq_false_iff] at h
  refine .cons (fun x hx e => ?_) (twice_pair l h.2)
  have := List.any_eq_false.1 h.1 x hx
  rw [← e] at this
  simp at this
theorem sch_kinds {l : List W} (h : schC l = true) : colKs l := by
 intro c hc
 have h1 := ((sch_iff l).1 h).1.1 c hc
 unfold colC at h1
 rw [Bool.and_eq_true, Bool.and_eq_true] at h1
 exact of_decide_eq_true h1.2.1
def isColP (t : Nod) : Bool := t.op == sCol && t.ks.length == 0
def isCallP (t : Nod) : Bool := if t.op = sCount then t.tx == [] && t.ks.length == 0 else if t.op ∈ [sSum, sMin, sMax] then t.ks.length == 0 else false
def isItemP (t : Nod) : Bool := t.op == sItem && t.ks.length == 1
def isOnP (t : Nod) : Bool := t.op == sOn && t.ks.length == 1 && t.ks.all isColP
def isAggP (t : Nod) : Bool := t.op == sAgg && t.ks.length == 1 && t.ks.all isCallP
def isByP (t : Nod) : Bool := t.op == sBy && t.tx == [] && t.ks.all isColP
def formP (op tx : List UInt8) (ks : List Nod) : Bool :=
 if op = sFrom then ks.length == 0
 else if op = sFilter then tx == [] && ks.length == 2
 else if op = sProject then tx == [] && decide (2 ≤ ks.length) && (ks.drop 1).all isItemP
 else if op = sJoin then tx == [] && decide (3 ≤ ks.length) && (ks.drop 2).all isOnP
 else if op = sUnion then tx == [] && decide (2 ≤ ks.length)
 else if op = sDistinct then tx == [] && ks.length == 1
 else if op = sGroup then tx == [] && decide (3 ≤ ks.length) && isByP (nthN ks 1) && (ks.drop 2).all isAggP
 else false
def wrongC (c : List W) : Int := lastP c 0
theorem wrong_numbered (c : List W) : wrongC (numberedP c) = wrongC c := by
 unfold wrongC
 rw [last_numbered]
def sealP (p : Pl) (fr : Nat) : (Pl × Nat) × Int := match p with
 | .mk o t e n b a c k => if wrongC c ≠ 0 then ((zeroP, 0), wrongC c) else ((.mk o t e n b a (numberedP c) k, fr), 0)
def nodeP (tabs : List Tab) (op tx : List UInt8) (ks : List Nod) (ps : List Pl) (n : Nat) : (Pl × Nat) × Int :=
 let fr := n + (leavesQ (.mk op [] (ks.drop (queriesN op ks.length)))).length
 if formP op tx ks = false then ((zeroP, 0), 1) else if 4 < fr then ((zeroP, 0), 62) else
 if (ownP tabs op tx ks ps).2 ≠ 0 then ((zeroP, 0), (ownP tabs op tx ks ps).2) else sealP (ownP tabs op tx ks ps).1 fr
mutual
def planP (tabs : List Tab) : Nod → (Pl × Nat) × Int
 | .mk op tx ks => if (planPL tabs ks (queriesN op ks.length)).2 ≠ 0 then ((zeroP, 0), (planPL tabs ks (queriesN op ks.length)).2) else
  nodeP tabs op tx ks (planPL tabs ks (queriesN op ks.length)).1.1 (planPL tabs ks (queriesN op ks.length)).1.2
def planPL (tabs : List Tab) : List Nod → Nat → (List Pl × Nat) × Int
 | [], _ => (([], 0), 0)
 | t :: l, n => if n = 0 then (([], 0), 0) else if (planP tabs t).2 ≠ 0 then (([], 0), (planP tabs t).2) else if (planPL tabs l (n - 1)).2 ≠ 0 then (([], 0), (planPL tabs l (n - 1)).2) else (((planP tabs t).1.1 :: (planPL tabs l (n - 1)).1.1, (planP tabs t).1.2 + (planPL tabs l (n - 1)).1.2), 0)
end
theorem planP_mk (tabs : List Tab) (op tx : List UInt8) (ks : List Nod) : planP tabs (.mk op tx ks) = if (planPL tabs ks (queriesN op ks.length)).2 ≠ 0 then ((zeroP, 0), (planPL tabs ks (queriesN op ks.length)).2) else nodeP tabs op tx ks (planPL tabs ks (queriesN op ks.length)).1.1 (planPL tabs ks (queriesN op ks.length)).1.2 := by rw [planP]
theorem planPL_nil (tabs : List Tab) (n : Nat) : planPL tabs [] n = (([], 0), 0) := by rw [planPL]
theorem planPL_zero (tabs : List Tab) (l : List Nod) : planPL tabs l 0 = (([], 0), 0) := by
 cases l with
 | nil => exact planPL_nil _ _
 | cons t l => rw [planPL, if_pos rfl]
def plansP (tabs : List Tab) (l : List Nod) : (List Pl × Nat) × Int := planPL tabs l l.length
theorem plansP_cons (tabs : List Tab) (t : Nod) (l : List Nod) : plansP tabs (t :: l) = if (planP tabs t).2 ≠ 0 then (([], 0), (planP tabs t).2) else if (plansP tabs l).2 ≠ 0 then (([], 0), (plansP tabs l).2) else (((planP tabs t).1.1 :: (plansP tabs l).1.1, (planP tabs t).1.2 + (plansP tabs l).1.2), 0) := by
 unfold plansP
 rw [planPL, if_neg (by simp)]
 simp only [List.length_cons, Nat.add_sub_cancel]
theorem planPL_take (tabs : List Tab) : ∀ (l : List Nod) (n : Nat), planPL tabs l n = plansP tabs (l.take n)
 | [], n => by rw [List.take_nil]; unfold plansP; rw [planPL_nil, planPL_nil]
 | t :: l, 0 => by rw [planPL_zero, List.take_zero]; unfold plansP; rw [planPL_nil]
 | t :: l, n + 1 => by
  rw [List.take_succ_cons, plansP_cons, planPL, if_neg (by simp), Nat.add_sub_cancel, planPL_take tabs l n]
theorem plansP_ok (tabs : List Tab) : ∀ l : List Nod, (∀ (j : Nat) (h : j < l.length), (planP tabs l[j]).2 = 0) → plansP tabs l = ((l.map (fun t => (planP tabs t).1.1), (l.map (fun t => (planP tabs t).1.2)).sum), 0)
 | [], _ => by unfold plansP; rw [planPL_nil]; rfl
 | t :: l, h => by
  have h0 : (planP tabs t).2 = 0 := h 0 (by simp)
  have h1 := plansP_ok tabs l (fun j hj => h (j + 1) (by simp; omega))
  rw [plansP_cons, if_neg (by simp [h0]), h1, if_neg (by simp)]
  simp
theorem plansP_bad (tabs : List Tab) : ∀ (l : List Nod) (i : Nat) (hi : i < l.length), (∀ (j : Nat) (h : j < l.length), j < i → (planP tabs l[j]).2 = 0) → (planP tabs l[i]).2 ≠ 0 → plansP tabs l = (([], 0), (planP tabs l[i]).2)
 | [], i, hi, _, _ => absurd hi (Nat.not_lt_zero _)
 | t :: l, 0, hi, _, hb => by
  have hb : (planP tabs t).2 ≠ 0 := hb
  rw [plansP_cons, if_pos hb]
  rfl
 | t :: l, i + 1, hi, h, hb => by
  have h0 : (planP tabs t).2 = 0 := h 0 (by simp) (by omega)
  have hb : (planP tabs (l[i]'(by simp at hi; omega))).2 ≠ 0 := hb
  have h1 := plansP_bad tabs l i (by simp at hi; omega) (fun j hj hji => h (j + 1) (by simp; omega) (by omega)) hb
  rw [plansP_cons, if_neg (by simp [h0]), h1, if_pos hb]
  rfl
open Go.ChangeShapes Go.WideShapes Go.ChangeAt Go.RowKit Elems
def bsL (L : List (List UInt8)) : List ByteArray := L.map fun s => ⟨s.toArray⟩
theorem bsL_len (L : List (List UInt8)) : (bsL L).length = L.length := List.length_map ..
theorem sblk_holds {w : World} {g : Nat} {L : List (List UInt8)} (h : SBlk w g (bsL L)) : Sort.Holds encStr w g 0 L.toArray := by
 intro j hj
 rw [Nat.zero_add]
 have hj' : j < L.length := by simpa using hj
 refine ⟨?_, h.free j⟩
 have := h.cell j ⟨L[j].toArray⟩ (by unfold bsL; rw [List.getElem?_map, List.getElem?_eq_getElem hj']; rfl)
 rw [this, getElem!_pos L.toArray j hj]
 rfl
theorem grow_none (w : World) : Sort.grow w #[] = w := by
 unfold Sort.grow
 rw [Array.append_empty]
structure SortP (w : World) (g : Nat) (L : List (List UInt8)) (w' : World) : Prop where
 bel : ∀ B, B ≤ g → g < w.heap.size → Below B w w'
 kp : ∀ k, k < w.heap.size → k ≠ g → w'.heap[k]? = w.heap[k]?
 lt : g < w'.heap.size
 hold : Sort.Holds encStr w' g 0 L.toArray
theorem putRow_other {α : Type} [Inhabited α] (enc : α → Value) (w : World) (g off : Nat) (d : Array α) (k : Nat) (hk : k ≠ g) : (Sort.putRow enc w g off d).heap[k]? = w.heap[k]? := by
 unfold Sort.putRow Sort.mapBlock
 simp only [Array.getElem?_modify]
 rw [if_neg (fun e => hk e.symm)]
theorem putRow_size {α : Type} [Inhabited α] (enc : α → Value) (w : World) (g off : Nat) (d : Array α) : (Sort.putRow enc w g off d).heap.size = w.heap.size := by
 unfold Sort.putRow Sort.mapBlock
 simp
theorem sort_post {w : World} {g n : Nat} {os : Array Obj} {L M : List (List UInt8)} (h : Sort.Holds encStr w g 0 L.toArray) (hl : M.length = L.length) (hg : g < w.heap.size) :
  SortP w g M (Sort.grow (Sort.putRow encStr (Sort.ahead w n) g 0 M.toArray) os) := by
 have hsz : (Sort.putRow encStr (Sort.ahead w n) g 0 M.toArray).heap.size = w.heap.size := putRow_size ..
 have hh : Sort.Holds encStr (Sort.putRow encStr (Sort.ahead w n) g 0 M.toArray) g 0 M.toArray := Sort.holds_putRow _ _ _ _ L.toArray _ (Sort.holds_ahead _ _ _ _ _ _ h) (by simpa using hl)
 have hk : ∀ k, k < w.heap.size → (Sort.grow (Sort.putRow encStr (Sort.ahead w n) g 0 M.toArray) os).heap[k]? = (Sort.putRow encStr (Sort.ahead w n) g 0 M.toArray).heap[k]? := fun k hk => Array.getElem?_append_left (by rw [hsz]; exact hk)
 have hbs : (Sort.grow (Sort.putRow encStr (Sort.ahead w n) g 0 M.toArray) os).heap.size = w.heap.size + os.size := by
  simp only [Sort.grow, Array.size_append]
  rw [hsz]
 refine ⟨fun B hB hg' => ?_, fun k hk' hne => ?_, by rw [hbs]; omega, Sort.holds_grow _ _ _ _ _ _ (by rw [hsz]; exact hg) hh⟩
 ·have h1 : Below B w (Sort.putRow encStr (Sort.ahead w n) g 0 M.toArray) := Lib.below_putRow (Below.refl B w) hB
  exact ⟨h1.os, h1.tape, h1.output, by rw [hbs]; omega, fun k hk' => (hk k (by omega)).trans (h1.block k hk')⟩
 ·rw [hk k hk', putRow_other _ _ _ _ _ _ hne]
  rfl
theorem psort_any (g cap : Nat) (L : List (List UInt8)) (w : World) (h : Sort.Holds encStr w g 0 L.toArray) (hg : g < w.heap.size) (hl : L.length ≤ 4194304) :
  Calls Tryz.prog 35 #[.slice (some ⟨g, 0, none⟩) L.length cap] w fun e w' => e = .returned (.tuple #[]) ∧ SortP w g (sortL L) w' := by
 refine (Tryz.slices_Sort_string g 0 cap L w h hg (by omega)).mono ?_
 rintro e w' ⟨rfl, n, os, rfl⟩
 exact ⟨rfl, sort_post h (sort_len L) hg⟩
theorem pcompact_any (g cap : Nat) (L : List (List UInt8)) (w : World) (h : Sort.Holds encStr w g 0 L.toArray) (hg : g < w.heap.size) (hl : L.length ≤ 4194304) (hc : L.length ≤ cap) :
  Calls Tryz.prog 36 #[.slice (some ⟨g, 0, none⟩) L.length cap] w fun e w' => e = .returned (.slice (some ⟨g, 0, none⟩) (Lib.compact L).length cap) ∧ SortP w g (Lib.compact L ++ List.replicate (L.length - (Lib.compact L).length) []) w' := by
 refine (Tryz.slices_Compact_string g 0 cap L w h (by omega) hc).mono ?_
 rintro e w' ⟨rfl, q, rfl⟩
 have h1 := sort_post (n := q) (os := #[]) (M := Lib.compact L ++ List.replicate (L.length - (Lib.compact L).length) []) h (by have := Lib.compact_length_le L; simp; omega) hg
 have e1 : Sort.grow (Sort.putRow encStr (Sort.ahead w q) g 0 (Lib.compact L ++ List.replicate (L.length - (Lib.compact L).length) []).toArray) #[] = Sort.putRow encStr (Sort.ahead w q) g 0 (Lib.compact L ++ List.replicate (L.length - (Lib.compact L).length) []).toArray := grow_none _
 rw [e1] at h1
 exact ⟨rfl, h1⟩
theorem number1_any (n k : Int) (s : ByteArray) (w : World) : Calls Tryz.prog 100 #[.agg #[.int .i64 n, .string s, .int .i64 k]] w fun e w' => e = .returned (.string s) ∧ Below w.heap.size w w' := by
 have HB := hid (below_alloc w (.cells #[.int .i64 n, .string s, .int .i64 k] 54))
 go_enter Tryz.func100, Tryz.ntmps100
 go_wp2
 go_ret
 exact ⟨rfl, HB.out⟩
theorem number2_any (s : ByteArray) (m : Int) (w : World) (hs : s.size ≤ 1000) (hg : MGlob m w) : Calls Tryz.prog 102 #[.string s] w fun e w' => e = .returned (.bool (!nameC s.data.toList)) ∧ Below w.heap.size w w' := by
 have HC := hid (sname_any s m w hs hg)
 obtain ⟨b, hb⟩ : ∃ b, nameC s.data.toList = b := ⟨_, rfl⟩
 rw [hb] at HC ⊢
 clear hs hg hb
 go_enter Tryz.func102, Tryz.ntmps102
 go_wp2_with fail
 refine HC.out.mono ?_
 rintro e w1 ⟨rfl, hb1⟩
 have L1 := hid hb1
 clear hb1
 go_wp2
 go_ret
 exact ⟨rfl, L1.out⟩
theorem anyS_no {l : List (List UInt8)} {p : List UInt8 → Bool} (h : ∀ j (hj : j < l.length), p l[j] = false) : l.any p = false := by
 rw [List.any_eq_false]
 intro x hx
 obtain ⟨j, hj, rfl⟩ := List.getElem_of_mem hx
 rw [h j hj]
 decide
theorem anyS_yes {l : List (List UInt8)} {p : List UInt8 → Bool} {i : Nat} (hi : i < l.length) (h : p l[i] = true) : l.any p = true := List.any_eq_true.2 ⟨_, List.getElem_mem hi, h⟩
theorem indexS_any (g cap : Nat) (l : List (List UInt8)) (m : Int) (w : World) (hv : SBlk w g (bsL l)) (hl : l.length ≤ 4194304) (hn : ∀ s ∈ l, s.length ≤ 1000) (hg : MGlob m w) :
  Calls Tryz.prog 159 #[.slice (some ⟨g, 0, none⟩) l.length cap, .func (.func 102) #[] #[]] w fun e w' => ∃ z : Int, e = .returned (.int .i64 z) ∧ decide (0 ≤ z) = (l.any fun s => !nameC s) ∧ Below w.heap.size w w' := by
 have HV := hid hv
 have HG := hid hg
 have HN := hid hn
 clear hv hg hn
 go_enter Tryz.func159, Tryz.ntmps159
 go_wp2
 go_loopw [8] (fun t wr => ∃ i : Nat, i ≤ l.length ∧ t = .int .i64 i ∧ (∀ j (hj : j < l.length), j < i → (!nameC l[j]) = false) ∧ Below w.heap.size w wr) (fun t _ => l.length - (intOf t).toNat)
 case atStart => exact ⟨0, by omega, rfl, fun j _ h => absurd h (by omega), Below.refl _ _⟩
 case round =>
  obtain ⟨i, hi, rfl, hno, hbel⟩ := hrel
  have HL := hid hbel
  have HNO := hid hno
  have VA := hid (HV.out.call hbel)
  have GA := hid (HG.out.next hbel)
  clear hbel hno
  by_cases hil : i < l.length
  ·have c0 := VA.out.cell i ⟨l[i].toArray⟩ (by unfold bsL; rw [List.getElem?_map, List.getElem?_eq_getElem hil]; rfl)
   have hs := HN.out l[i] (List.getElem_mem hil)
   have HN2 := hid (fun (h : (!nameC l[i]) = false) => show ∀ j (hj : j < l.length), j < i + 1 → (!nameC l[j]) = false from fun j hj h2 => if e : j = i then by subst e; exact h else HNO.out j hj (by omega))
   have HY := hid (fun (h : (!nameC l[i]) = true) => anyS_yes (p := fun s => !nameC s) hil h)
   obtain ⟨x, hx⟩ : ∃ x, l[i] = x := ⟨_, rfl⟩
   rw [hx] at c0 HN2 HY hs
   obtain ⟨T, hT⟩ : ∃ T : ByteArray, ⟨x.toArray⟩ = T := ⟨_, rfl⟩
   have hTl : T.data.toList = x := by rw [← hT]
   rw [hT] at c0
   have HC := hid (number2_any T m wr (by rw [size_list, hTl]; exact hs) GA.out)
   rw [hTl] at HC
   obtain ⟨b, hb⟩ : ∃ b, (!nameC x) = b := ⟨_, rfl⟩
   rw [hb] at HC HY HN2
   clear hx hb hT hTl hs
   go_wp2_with fail
   refine HC.out.mono ?_
   rintro e w1 ⟨rfl, hb1⟩
   have L1 := hid (HL.out.trans (hb1.mono HL.out.size))
   clear hb1 HC c0
   cases b
   ·go_wp2
    go_roundw
    case rel => exact ⟨i + 1, by omega, by go_num, HN2.out (by first | exact rfl | exact trivial), L1.out⟩
    case measure => simp [intOf]; omega
   ·have HI := hid (HY.out (by first | exact rfl | exact trivial))
    go_wp2
    go_ret
    exact ⟨_, rfl, by rw [HI.out]; simp, L1.out⟩
  ·obtain rfl : i = l.length := by omega
   have HI := hid (anyS_no (p := fun s => !nameC s) (fun j hj => HNO.out j hj hj))
   go_wp2
   go_ret
   exact ⟨_, rfl, by rw [HI.out]; rfl, HL.out⟩
theorem contS_any (g cap : Nat) (l : List (List UInt8)) (m : Int) (w : World) (hv : SBlk w g (bsL l)) (hl : l.length ≤ 4194304) (hn : ∀ s ∈ l, s.length ≤ 1000) (hg : MGlob m w) :
  Calls Tryz.prog 101 #[.slice (some ⟨g, 0, none⟩) l.length cap, .func (.func 102) #[] #[]] w fun e w' => e = .returned (.bool (l.any fun s => !nameC s)) ∧ Below w.heap.size w w' := by
 have HI := hid (indexS_any g cap l m w hv hl hn hg)
 obtain ⟨b, hb⟩ : ∃ b, (l.any fun s => !nameC s) = b := ⟨_, rfl⟩
 rw [hb] at HI
 rw [hb]
 clear hv hg hb hl hn
 go_enter Tryz.func101, Tryz.ntmps101
 go_wp2_with fail
 refine HI.out.mono ?_
 rintro e w1 ⟨z, rfl, hz, hb1⟩
 have L1 := hid hb1
 clear hb1
 go_wp2
 go_ret
 exact ⟨rfl, L1.out⟩
end Go.Proofs.YthpmgnfmeldkjaaGreatDoor.Code
