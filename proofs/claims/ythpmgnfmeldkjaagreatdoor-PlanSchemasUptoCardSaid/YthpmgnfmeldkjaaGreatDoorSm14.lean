/-
  The program's Type of any node over columns.
-/
import Derived.Test.YthpmgnfmeldkjaaGreatDoorSm13
import Derived.Test.YthpmgnfmeldkjaaGreatDoorSm10
import Derived.Test.YthpmgnfmeldkjaaGreatDoorSm11
import Derived.Deep.RegionHeld3
import Derived.Deep.DeepCutAuto
import Derived.Maps.AppendAt
set_option maxRecDepth 100000
set_option maxHeartbeats 16000000
set_option linter.unusedVariables false
set_option linter.unusedSimpArgs false
open Go.Lib (hid)
namespace Go.Proofs.YthpmgnfmeldkjaaGreatDoor.Code
open Go.ChangeShapes Go.WideShapes Go.ChangeAt Go.RowKit Val Elems
def TypeAt (d : Nat) (A : Option Addr) (ca : Nat) (cols : List W) : Prop :=
 ∀ (t : Nod), t.deep ≤ d → ∀ (S : Nat → Prop) (op tx : ByteArray) (X : Option Addr) (n k : Nat) (w : World), (∀ g, S g → g < w.heap.size) → RIn w S t (op, tx, X, n, k) → At wc 3 w w.heap.size A cols →
  Calls Tryz.prog 85 #[.agg #[.string op, .string tx, .slice X n k], .slice A cols.length ca] w (KindPost w (typeE cols t))
theorem type_tell {d : Nat} {A : Option Addr} {ca : Nat} {cols : List W} (ih : TypeAt d A ca cols) (ks : List Nod) (hd : ∀ (k : Nat) (hk : k < ks.length), ks[k].deep ≤ d) (S : Nat → Prop) (g : Nat) (w : World) (hS : ∀ g, S g → g < w.heap.size) (hv : At wc 3 w w.heap.size A cols) (hc : w.cell? ⟨g, 0, none⟩ = some (.slice A cols.length ca)) (hg : g < w.heap.size) :
  TellK 152 #[.pointer (some ⟨g, 0, none⟩)] (typeE cols) ks S w := by
 intro k hk op tx X n m w1 hb hn
 obtain ⟨w2, hw2⟩ : ∃ w2, w1.alloc (.cells #[.string op, .string tx, .slice X n m] 24) = w2 := ⟨_, rfl⟩
 have B2 := hid (show Below w1.heap.size w1 w2 by rw [← hw2]; exact below_alloc w1 _)
 have N2 := hid (show NBox w2 w1.heap.size (.string op) (.string tx) (.slice X n m) by rw [← hw2]; exact NBox.fresh _ _ _ _ _)
 have HS1 : ∀ g, S g → g < w1.heap.size := fun g h => Nat.lt_of_lt_of_le (hS g h) hb.size
 have HI := hid (ih ks[k] (hd k hk) S op tx X n m w2 (fun g h => Nat.lt_of_lt_of_le (HS1 g h) B2.out.size) (hn.bel HS1 B2.out) (((hv.below hb).more hb.size).below B2.out |>.more B2.out.size))
 unfold KindPost at HI
 have c0 := ((B2.out.cell (p := ⟨g, 0, none⟩) (Nat.lt_of_lt_of_le hg hb.size)).trans (hb.cell (p := ⟨g, 0, none⟩) hg)).trans hc
 have hg2 : g < w2.heap.size := Nat.lt_of_lt_of_le hg (Nat.le_trans hb.size B2.out.size)
 obtain ⟨R, hR⟩ : ∃ R, typeE cols ks[k] = R := ⟨_, rfl⟩
 rw [hR] at HI ⊢
 obtain ⟨rk, re⟩ := R
 dsimp only at HI ⊢
 have HW2 := hid hw2
 clear ih hd hS hv hc hb hn HS1 hw2 hR
 go_enter Tryz.func152, Tryz.ntmps152
 go_upto_region 1 with fail
 rw [HW2.out]
 obtain ⟨x0, x1, x2, xf⟩ := N2.out
 go_wp2_with fail
 refine HI.out.mono ?_
 rintro e w3 ⟨rfl, hb3⟩
 have B3 := hid (B2.out.trans (hb3.mono B2.out.size))
 clear hb3 x0 x1 x2 xf c0
 go_wp2
 go_ret2
 exact ⟨rfl, B3.out⟩
theorem type_any (A : Option Addr) (ca : Nat) (cols : List W) (hcl : cols.length ≤ 4194304) : ∀ d, TypeAt d A ca cols
 | 0, t, h, _, _, _, _, _, _, _, _, _, _ => absurd h (by rw [deep_ks]; omega)
 | d + 1, t, h, S, op, tx, X, n, k, w, hS, hn, hv => by
  have ih := type_any A ca cols hcl d
  obtain ⟨w0, hw0⟩ : ∃ w0, (w.alloc (.cells #[.string op, .string tx, .slice X n k] 24)).alloc (.cells #[.slice A cols.length ca] 131) = w0 := ⟨_, rfl⟩
  have B0 := hid (show Below w.heap.size w w0 by rw [← hw0]; exact (below_alloc w _).alloc (by simp) _)
  have N0 := hid (show NBox w0 w.heap.size (.string op) (.string tx) (.slice X n k) by rw [← hw0]; exact ⟨by simp [go_sem], by simp [go_sem], by simp [go_sem], fun j => by simp [go_sem]⟩)
  have c0 : w0.cell? ⟨w.heap.size + 1, 0, none⟩ = some (.slice A cols.length ca) := by rw [← hw0]; simp
  have z0 : w.heap.size + 1 < w0.heap.size := by rw [← hw0]; simp
  have HC := hid (fun (w' : World) (hb : Below w0.heap.size w0 w') => show w'.cell? ⟨w.heap.size + 1, 0, none⟩ = some (.slice A cols.length ca) from (hb.cell (p := ⟨w.heap.size + 1, 0, none⟩) z0).trans c0)
  have hS0 : ∀ g, S g → g < w0.heap.size := fun g h => Nat.lt_of_lt_of_le (hS g h) B0.out.size
  have hn0 := hn.bel hS B0.out
  have hv0 := (hv.below B0.out).more B0.out.size
  have HE := hid (eachK_any 152 (enters_of Tryz.func152 (by kernel_rfl) rfl) #[.pointer (some ⟨w.heap.size + 1, 0, none⟩)] (typeE cols) t S op tx X n k w0 hS0 hn0 (type_tell ih t.ks (fun j hj => by have := deepL_mem (List.getElem_mem hj); rw [deep_ks] at h; omega) S (w.heap.size + 1) w0 hS0 hv0 c0 z0))
  obtain ⟨eo, et, en, hkl⟩ := hn.texts
  dsimp only at eo et en
  have HK := hid (fun (B : Option Addr) (cb : Nat) (l : List Int) (w' : World) (hb : Below w0.heap.size w0 w') (hi : Ints w' w'.heap.size B l) (hl : l.length = n) => kind_any op tx X n k A ca cols B cb l w' ((hv0.below hb).more hb.size) hcl hi hl (by omega))
  have HL := hid (fun (h : (typeL cols t.ks).2 = 0) => show (typeL cols t.ks).1.length = n by rw [typeL_len cols t.ks h, en])
  have HT := hid (show typeE cols t = if (typeL cols t.ks).2 = 0 then typeT cols op.data.toList tx.data.toList (typeL cols t.ks).1 else (0, (typeL cols t.ks).2) by
   cases t with
   | mk o x ks =>
    rw [typeE_mk]
    have e1 : op.data.toList = o := by rw [eo]; rfl
    have e2 : tx.data.toList = x := by rw [et]; rfl
    rw [e1, e2]
    rfl)
  unfold KsPost at HE
  rw [← each_type] at HE
  obtain ⟨L, hL⟩ : ∃ L, typeL cols t.ks = L := ⟨_, rfl⟩
  rw [hL] at HE HL HT
  obtain ⟨l, le⟩ := L
  dsimp only at HE HL HT
  obtain ⟨R, hR⟩ : ∃ R, typeE cols t = R := ⟨_, rfl⟩
  rw [hR] at HT ⊢
  have HW0 := hid hw0
  clear ih hS hn hv hw0 hS0 hn0 hv0 eo et en hkl hL hR h c0
  go_enter Tryz.func85, Tryz.ntmps85
  go_upto_region 1 with fail
  rw [HW0.out]
  obtain ⟨x0, x1, x2, xf⟩ := N0.out
  go_wp2_with fail
  refine HE.out.mono ?_
  rintro e w1 ⟨B, cb, rfl, hi, hb1⟩
  have L1 := hid hb1
  have B1 := hid (B0.out.trans (hb1.mono B0.out.size))
  have N1 := hid (N0.out.below hb1)
  have z1 := N1.out.lt
  have HI := hid hi
  clear hb1 x0 x1 x2 xf hi
  by_cases hle : le = 0
  ·subst hle
   have HN := hid (HL.out rfl)
   have HT2 := HT.out
   rw [if_pos rfl] at HT2
   have HK2 := hid (HK.out B cb l w1 L1.out HI.out HN.out)
   rw [← HT2] at HK2
   unfold KindPost at HK2
   have c1 := HC.out w1 L1.out
   have z2 : w.heap.size + 1 < w1.heap.size := Nat.lt_of_lt_of_le z0 L1.out.size
   obtain ⟨x0, x1, x2, xf⟩ := N1.out
   obtain ⟨M, hM⟩ : ∃ M, l.length = M := ⟨_, rfl⟩
   have hMn : M = n := hM.symm.trans HN.out
   rw [hM, hMn]
   clear HT2 HT HL hM hMn
   obtain ⟨rk, re⟩ := R
   dsimp only at HK2
   go_wp2_with fail
   refine HK2.out.mono ?_
   rintro e w2 ⟨rfl, hb2⟩
   have B2 := hid (B1.out.trans (hb2.mono B1.out.size))
   clear hb2 x0 x1 x2 xf c1
   go_wp2
   go_ret2
   exact kind_as rfl B2.out
  ·have HT2 := hid (show R = (0, le) by rw [HT.out, if_neg hle])
   have e1 : (le != 0) = true := by simpa using hle
   clear hle HT HL HK
   go_wp2
   go_ret2
   exact kind_as HT2.out B1.out
structure FPre (B : Nat) (S : Nat → Prop) (w : World) (g : Nat) (o : ByteArray) (co ki : Sl) (c0 : List W) : Prop where
 box : PBox w g ⟨o, ⟨#[]⟩, co, ki, zSl, zSl, zSl, zSl⟩
 lo : B ≤ g
 cl : co.2.1 = c0.length
 own : w.ownsRow B 54 3 (.slice co.1 co.2.1 co.2.2) c0.length (flatC wc c0)
 ob : ∀ k, (Value.slice co.1 co.2.1 co.2.2).ownBlock = some k → ¬ S k ∧ k ≠ g
 sl : ∀ k, S k → k < w.heap.size ∧ k ≠ g
def FOk (B : Nat) (S : Nat → Prop) (w' : World) (g : Nat) (ki : Sl) (p : Pl) : Prop :=
 ∃ (x : PV) (S' : Nat → Prop), PBox w' g x ∧ x.ki = ki ∧ x.co.2.1 = p.cols.length ∧ w'.ownsRow B 54 3 (.slice x.co.1 x.co.2.1 x.co.2.2) p.cols.length (flatC wc p.cols) ∧
  (∀ k, (Value.slice x.co.1 x.co.2.1 x.co.2.2).ownBlock = some k → ¬ S k ∧ ¬ S' k ∧ k ≠ g) ∧ (∀ k, S' k → B ≤ k ∧ k < w'.heap.size ∧ k ≠ g) ∧ PRest w' S' p x
def FPost (B : Nat) (S : Nat → Prop) (g : Nat) (ki : Sl) (w : World) (r : Pl × Int) (e : Ending) (w' : World) : Prop :=
 e = .returned (.int .i64 r.2) ∧ Below B w w' ∧ (∀ p : Addr, S p.block → w'.cell? p = w.cell? p) ∧ (r.2 = 0 → FOk B S w' g ki r.1 ∧ w'.cell? ⟨g, 8, none⟩ = w.cell? ⟨g, 8, none⟩)
theorem FPre.below {B : Nat} {S : Nat → Prop} {w w' : World} {g : Nat} {o : ByteArray} {co ki : Sl} {c0 : List W} (h : FPre B S w g o co ki c0) (hb : Below w.heap.size w w') : FPre B S w' g o co ki c0 :=
 ⟨h.box.below hb, h.lo, h.cl, own_call h.own hb, h.ob, fun k hk => ⟨Nat.lt_of_lt_of_le (h.sl k hk).1 hb.size, (h.sl k hk).2⟩⟩
theorem FPre.cols {B : Nat} {S : Nat → Prop} {w : World} {g : Nat} {o : ByteArray} {co ki : Sl} {c0 : List W} (h : FPre B S w g o co ki c0) : At wc 3 w w.heap.size co.1 c0 := by
 obtain ⟨A, cap, e, hat⟩ := own_at wc_length h.own
 injection e with e
 rw [e]
 exact hat
theorem PBox.set1 {w : World} {g : Nat} {x : PV} (h : PBox w g x) (t : ByteArray) : PBox (w.setCell ⟨g, 1, none⟩ (.string t)) g { x with tab := t } :=
 ⟨(World.cell?_setCell_other _ _ _ _ (by simp)).trans h.c0, World.cell?_setCell_same _ _ _ h.c1, (World.cell?_setCell_other _ _ _ _ (by simp)).trans h.c2, (World.cell?_setCell_other _ _ _ _ (by simp)).trans h.c3, (World.cell?_setCell_other _ _ _ _ (by simp)).trans h.c4, (World.cell?_setCell_other _ _ _ _ (by simp)).trans h.c5, (World.cell?_setCell_other _ _ _ _ (by simp)).trans h.c6, (World.cell?_setCell_other _ _ _ _ (by simp)).trans h.c7, fun j => by rw [World.frozen?_setCell]; exact h.fr j⟩
theorem PBox.set2 {w : World} {g : Nat} {x : PV} (h : PBox w g x) (s : Sl) : PBox (w.setCell ⟨g, 2, none⟩ (.slice s.1 s.2.1 s.2.2)) g { x with co := s } :=
 ⟨(World.cell?_setCell_other _ _ _ _ (by simp)).trans h.c0, (World.cell?_setCell_other _ _ _ _ (by simp)).trans h.c1, World.cell?_setCell_same _ _ _ h.c2, (World.cell?_setCell_other _ _ _ _ (by simp)).trans h.c3, (World.cell?_setCell_other _ _ _ _ (by simp)).trans h.c4, (World.cell?_setCell_other _ _ _ _ (by simp)).trans h.c5, (World.cell?_setCell_other _ _ _ _ (by simp)).trans h.c6, (World.cell?_setCell_other _ _ _ _ (by simp)).trans h.c7, fun j => by rw [World.frozen?_setCell]; exact h.fr j⟩
theorem PBox.set3 {w : World} {g : Nat} {x : PV} (h : PBox w g x) (s : Sl) : PBox (w.setCell ⟨g, 3, none⟩ (.slice s.1 s.2.1 s.2.2)) g { x with ki := s } :=
 ⟨(World.cell?_setCell_other _ _ _ _ (by simp)).trans h.c0, (World.cell?_setCell_other _ _ _ _ (by simp)).trans h.c1, (World.cell?_setCell_other _ _ _ _ (by simp)).trans h.c2, World.cell?_setCell_same _ _ _ h.c3, (World.cell?_setCell_other _ _ _ _ (by simp)).trans h.c4, (World.cell?_setCell_other _ _ _ _ (by simp)).trans h.c5, (World.cell?_setCell_other _ _ _ _ (by simp)).trans h.c6, (World.cell?_setCell_other _ _ _ _ (by simp)).trans h.c7, fun j => by rw [World.frozen?_setCell]; exact h.fr j⟩
theorem PBox.set4 {w : World} {g : Nat} {x : PV} (h : PBox w g x) (s : Sl) : PBox (w.setCell ⟨g, 4, none⟩ (.slice s.1 s.2.1 s.2.2)) g { x with ex := s } :=
 ⟨(World.cell?_setCell_other _ _ _ _ (by simp)).trans h.c0, (World.cell?_setCell_other _ _ _ _ (by simp)).trans h.c1, (World.cell?_setCell_other _ _ _ _ (by simp)).trans h.c2, (World.cell?_setCell_other _ _ _ _ (by simp)).trans h.c3, World.cell?_setCell_same _ _ _ h.c4, (World.cell?_setCell_other _ _ _ _ (by simp)).trans h.c5, (World.cell?_setCell_other _ _ _ _ (by simp)).trans h.c6, (World.cell?_setCell_other _ _ _ _ (by simp)).trans h.c7, fun j => by rw [World.frozen?_setCell]; exact h.fr j⟩
theorem PBox.set5 {w : World} {g : Nat} {x : PV} (h : PBox w g x) (s : Sl) : PBox (w.setCell ⟨g, 5, none⟩ (.slice s.1 s.2.1 s.2.2)) g { x with on := s } :=
 ⟨(World.cell?_setCell_other _ _ _ _ (by simp)).trans h.c0, (World.cell?_setCell_other _ _ _ _ (by simp)).trans h.c1, (World.cell?_setCell_other _ _ _ _ (by simp)).trans h.c2, (World.cell?_setCell_other _ _ _ _ (by simp)).trans h.c3, (World.cell?_setCell_other _ _ _ _ (by simp)).trans h.c4, World.cell?_setCell_same _ _ _ h.c5, (World.cell?_setCell_other _ _ _ _ (by simp)).trans h.c6, (World.cell?_setCell_other _ _ _ _ (by simp)).trans h.c7, fun j => by rw [World.frozen?_setCell]; exact h.fr j⟩
theorem PBox.set6 {w : World} {g : Nat} {x : PV} (h : PBox w g x) (s : Sl) : PBox (w.setCell ⟨g, 6, none⟩ (.slice s.1 s.2.1 s.2.2)) g { x with bk := s } :=
 ⟨(World.cell?_setCell_other _ _ _ _ (by simp)).trans h.c0, (World.cell?_setCell_other _ _ _ _ (by simp)).trans h.c1, (World.cell?_setCell_other _ _ _ _ (by simp)).trans h.c2, (World.cell?_setCell_other _ _ _ _ (by simp)).trans h.c3, (World.cell?_setCell_other _ _ _ _ (by simp)).trans h.c4, (World.cell?_setCell_other _ _ _ _ (by simp)).trans h.c5, World.cell?_setCell_same _ _ _ h.c6, (World.cell?_setCell_other _ _ _ _ (by simp)).trans h.c7, fun j => by rw [World.frozen?_setCell]; exact h.fr j⟩
theorem PBox.set7 {w : World} {g : Nat} {x : PV} (h : PBox w g x) (s : Sl) : PBox (w.setCell ⟨g, 7, none⟩ (.slice s.1 s.2.1 s.2.2)) g { x with ag := s } :=
 ⟨(World.cell?_setCell_other _ _ _ _ (by simp)).trans h.c0, (World.cell?_setCell_other _ _ _ _ (by simp)).trans h.c1, (World.cell?_setCell_other _ _ _ _ (by simp)).trans h.c2, (World.cell?_setCell_other _ _ _ _ (by simp)).trans h.c3, (World.cell?_setCell_other _ _ _ _ (by simp)).trans h.c4, (World.cell?_setCell_other _ _ _ _ (by simp)).trans h.c5, (World.cell?_setCell_other _ _ _ _ (by simp)).trans h.c6, World.cell?_setCell_same _ _ _ h.c7, fun j => by rw [World.frozen?_setCell]; exact h.fr j⟩
theorem PBox.set0 {w : World} {g : Nat} {x : PV} (h : PBox w g x) (t : ByteArray) : PBox (w.setCell ⟨g, 0, none⟩ (.string t)) g { x with op := t } :=
 ⟨World.cell?_setCell_same _ _ _ h.c0, (World.cell?_setCell_other _ _ _ _ (by simp)).trans h.c1, (World.cell?_setCell_other _ _ _ _ (by simp)).trans h.c2, (World.cell?_setCell_other _ _ _ _ (by simp)).trans h.c3, (World.cell?_setCell_other _ _ _ _ (by simp)).trans h.c4, (World.cell?_setCell_other _ _ _ _ (by simp)).trans h.c5, (World.cell?_setCell_other _ _ _ _ (by simp)).trans h.c6, (World.cell?_setCell_other _ _ _ _ (by simp)).trans h.c7, fun j => by rw [World.frozen?_setCell]; exact h.fr j⟩
theorem pown_set {w : World} {B : Nat} {e : TypeId} {size n : Nat} {v : Value} {xs : List Value} (h : w.ownsRow B e size v n xs) (p : Addr) (u : Value) (hne : v.ownBlock ≠ some p.block) : (w.setCell p u).ownsRow B e size v n xs :=
 h.kept (row := some p.block) ⟨rfl, rfl, rfl, by simp, fun k hk hn => Below.heap_setCell w p _ k (fun e => hn (by rw [e]))⟩ (.inr hne)
theorem PRest.set {w : World} {S : Nat → Prop} {q : Pl} {x : PV} (h : PRest w S q x) (p : Addr) (hp : ¬ S p.block) (u : Value) : PRest (w.setCell p u) S q x :=
 h.keep (fun _ h => h) (fun r hr => World.cell?_setCell_other _ _ _ _ (by intro e; rw [e] at hp; exact hp hr))
theorem pkeep {D D' : Prop} {W w1 w2 : World} (hb : Below w1.heap.size w1 w2) (h : D ∧ Below W.heap.size W w1) (f : Below W.heap.size W w2 → D') : D' ∧ Below W.heap.size W w2 := by
 have hB := h.2.trans (hb.mono h.2.size)
 exact ⟨f hB, hB⟩
theorem drop_one (ks : List Nod) (h : ks.length = 2) : ks.drop 1 = [nthN ks 1] := by
 match ks, h with
 | [a, b], _ => rfl
theorem deepL_drop (ks : List Nod) (k : Nat) : Nod.deepL (ks.drop k) ≤ Nod.deepL ks := by
 induction ks generalizing k with
 | nil => simp
 | cons t l ih =>
  cases k with
  | zero => exact Nat.le_refl _
  | succ k =>
   rw [List.drop_succ_cons]
   refine Nat.le_trans (ih k) ?_
   rw [Nod.deepL]
   omega
theorem totL_drop (ks : List Nod) (k : Nat) : Nod.totL (ks.drop k) ≤ Nod.totL ks := by
 induction ks generalizing k with
 | nil => simp
 | cons t l ih =>
  cases k with
  | zero => exact Nat.le_refl _
  | succ k =>
   rw [List.drop_succ_cons]
   refine Nat.le_trans (ih k) ?_
   rw [Nod.totL]
   omega
def filterR (ks : List Nod) (c0 : List W) (ps : List Pl) : Pl × Int := let k := typeE c0 (nthN ks 1); (.mk sFilter [] [nthN ks 1] [] [] [] c0 ps, if k.2 ≠ 0 then k.2 else if k.1 = 1 ∨ k.1 = 0 then 0 else 131)
theorem filter_any (B : Nat) (S Sn : Nat → Prop) (g : Nat) (co ki : Sl) (c0 : List W) (ps : List Pl) (t : Nod) (op tx : ByteArray) (X : Option Addr) (n k : Nat) (w : World) (hB : B ≤ w.heap.size) (hSn : ∀ b, Sn b → b < B) (hn : RIn w Sn t (op, tx, X, n, k)) (hlen : t.ks.length = 2) (htot : t.tot ≤ 4194304)
  (hp : FPre B S w g ⟨sFilter.toArray⟩ co ki c0) (hcl : c0.length ≤ 4194304) :
  Calls Tryz.prog 48 #[.pointer (some ⟨g, 0, none⟩), .agg #[.string op, .string tx, .slice X n k]] w (FPost B S g ki w (filterR t.ks c0 ps)) := by
 obtain ⟨eo, et, en, hkl⟩ := hn.texts
 dsimp only at eo et en
 have hcap := hn.cap
 dsimp only at hcap
 subst en
 obtain ⟨w0, hw0⟩ : ∃ w0, w.alloc (.cells #[.string op, .string tx, .slice X t.ks.length k] 24) = w0 := ⟨_, rfl⟩
 have B0 := hid (show Below w.heap.size w w0 by rw [← hw0]; exact below_alloc w _)
 have N0 := hid (show NBox w0 w.heap.size (.string op) (.string tx) (.slice X t.ks.length k) by rw [← hw0]; exact NBox.fresh _ _ _ _ _)
 have hSw : ∀ b, Sn b → b < w.heap.size := fun b hb => Nat.lt_of_lt_of_le (hSn b hb) hB
 have HN := hid (fun (w' : World) (hb : Below w.heap.size w w') => (hn.bel hSw hb).nls)
 have HSW := hid (fun (w' : World) (hb : Below w.heap.size w w') (b : Nat) (h : Sn b) => Nat.lt_of_lt_of_le (hSw b h) hb.size)
 have HP := hid (fun (w' : World) (hb : Below w.heap.size w w') => hp.below hb)
 obtain ⟨ad, ⟨yo, yt, yX, yn, ym⟩, eA, hS9, q0, q1, q2, hk9⟩ := (HN.out w0 B0.out) 1 (by omega)
 dsimp only at eA q0 q1 q2
 rw [show ad.add (1 * 3) = (⟨ad.block, ad.off + 3, none⟩ : Addr) from rfl] at q0 q1 q2
 dsimp only at q1 q2
 subst eA
 have hnth : nthN t.ks 1 = t.ks[1] := by unfold nthN; rw [List.getD_eq_getElem?_getD, List.getElem?_eq_getElem (by omega), Option.getD_some]
 rw [← hnth] at hk9
 have HT := hid (type_any co.1 co.2.2 c0 hcl (nthN t.ks 1).deep (nthN t.ks 1) (Nat.le_refl _) Sn yo yt yX yn ym)
 unfold KindPost at HT
 rw [← hp.cl] at HT
 replace HT := hid (fun (w' : World) (hb : Below w0.heap.size w0 w') => HT.out w' (HSW.out w' (B0.out.trans (hb.mono B0.out.size))) (hk9.bel (HSW.out w0 B0.out) hb) (HP.out w' (B0.out.trans (hb.mono B0.out.size))).cols)
 have htl : Nod.totL t.ks ≤ 4194304 := Nat.le_trans (totL_ks t) htot
 have HC := hid (fun (w' : World) (hb : Below w.heap.size w w') => copied_any (Nod.deepL t.ks + 1) (t.ks.drop 1) (by have := deepL_drop t.ks 1; omega) (Nat.le_trans (totL_drop _ _) htl) Sn (some (ad.add (1 * 3))) (k - 1) w' (HSW.out w' hb) ((HN.out w' hb).drop 1))
 rw [List.length_drop] at HC
 have HSL : ∀ w, (Instr.slice 22 (.slice (some ad) t.ks.length k) (some (.int .i64 1)) none none).run Tryz.prog w = .ok (.slice (some (ad.add 3)) (t.ks.length - 1) (k - 1)) w := fun w => cut_nodes ad t.ks.length k 1 (by omega) hcap w
 unfold FPost filterR
 obtain ⟨K, hK⟩ : ∃ K, typeE c0 (nthN t.ks 1) = K := ⟨_, rfl⟩
 rw [hK] at HT ⊢
 obtain ⟨kk, ke⟩ := K
 dsimp only at HT ⊢
 obtain ⟨R, hR⟩ : ∃ R : Int, (if ke ≠ 0 then ke else if kk = 1 ∨ kk = 0 then 0 else 131) = R := ⟨_, rfl⟩
 rw [hR]
 have HR := hid hR
 have HW0 := hid hw0
 have HD1 := hid (drop_one t.ks hlen)
 have hlo := hp.lo
 have HG0 := hid hp.box.lt
 have HSP := hid hp.sl
 have HOB := hid hp.ob
 have HLEN := hid hlen
 clear hn hSn hSw hp hK hR hw0 hk9 hnth eo et hlen
 have bi1 : 1 < t.ks.length := by have := HLEN.out; omega
 have bi2 : (1 : Int) < (t.ks.length : Int) := by omega
 go_enter Tryz.func48, Tryz.ntmps48
 go_upto_region 1 with fail
 rw [HW0.out]
 obtain ⟨x0, x1, x2, xf⟩ := N0.out
 have p2 := (HP.out w0 B0.out).box.c2
 dsimp only at p2
 have hadw : ad.block < w0.heap.size := HSW.out w0 B0.out _ hS9
 have hgw : g < w0.heap.size := (HP.out w0 B0.out).box.lt
 have FQ := hid (fun (w' : World) (hb : Below w0.heap.size w0 w') => show w'.cell? ⟨w.heap.size, 2, none⟩ = some (.slice (some ad) t.ks.length k) ∧ w'.cell? ⟨ad.block, ad.off + 3, none⟩ = some (.string yo) ∧ w'.cell? ⟨ad.block, ad.off + 3 + 1, none⟩ = some (.string yt) ∧ w'.cell? ⟨ad.block, ad.off + 3 + 2, none⟩ = some (.slice yX yn ym) ∧ w'.cell? ⟨g, 2, none⟩ = some (.slice co.1 co.2.1 co.2.2) from
  ⟨(N0.out.below hb).c2, (hb.cell (p := ⟨ad.block, ad.off + 3, none⟩) hadw).trans q0, (hb.cell (p := ⟨ad.block, ad.off + 3 + 1, none⟩) hadw).trans q1, (hb.cell (p := ⟨ad.block, ad.off + 3 + 2, none⟩) hadw).trans q2, (hb.cell (p := ⟨g, 2, none⟩) hgw).trans p2⟩)
 clear x0 x1 x2 xf q0 q1 q2 p2
 go_wp2_with fail
 go_region_held3 (fun w' => (w'.cell? ⟨w.heap.size, 2, none⟩ = some (.slice (some ad) t.ks.length k) ∧ w'.cell? ⟨ad.block, ad.off + 3, none⟩ = some (.string yo) ∧ w'.cell? ⟨ad.block, ad.off + 3 + 1, none⟩ = some (.string yt) ∧ w'.cell? ⟨ad.block, ad.off + 3 + 2, none⟩ = some (.slice yX yn ym) ∧ w'.cell? ⟨g, 2, none⟩ = some (.slice co.1 co.2.1 co.2.2)) ∧ Below w0.heap.size w0 w')
  (first | assumption | (exact pkeep hb1 (by assumption) (FQ.out _)) | (exact ⟨FQ.out _ (Below.refl _ _).drew, (Below.refl _ _).drew⟩))
  (first | (go_at_call 85; with_reducible refine (HT.out _ ?cv).mono ?_; (case cv => exact (by assumption : _ ∧ Below w0.heap.size w0 _).2); rintro e w1 ⟨rfl, hb1⟩))
 have LL := hid (show Below w0.heap.size w0 w1 by rename_i hS; exact hS.2)
 have L1 := hid (B0.out.trans (LL.out.mono B0.out.size))
 have N1 := hid (N0.out.below LL.out)
 clear hb1 HT
 have LB := hid (L1.out.mono hB)
 have KB := hid (show ∀ p : Addr, S p.block → w1.cell? p = w.cell? p from fun p hp => L1.out.cell (HSP.out _ hp).1)
 clear LL
 by_cases hke : ke = 0
 case neg =>
  have hr : R = ke := by rw [← HR.out, if_pos hke]
  have e1 : (ke != 0) = true := by simpa using hke
  subst hr
  have HNE := hid hke
  clear hke
  go_wp2
  go_ret
  exact ⟨rfl, LB.out, KB.out, fun h => absurd h HNE.out⟩
 subst hke
 by_cases hkb : kk = 1 ∨ kk = 0
 case neg =>
  have hr : R = 131 := by rw [← HR.out, if_neg (by simp), if_neg hkb]
  have e1 : (kk != 1) = true := by simp; omega
  have e2 : (kk != 0) = true := by simp; omega
  subst hr
  clear hkb
  go_wp2
  go_ret
  exact ⟨rfl, LB.out, KB.out, fun h => absurd h (by decide)⟩
 have hr : R = 0 := by rw [← HR.out, if_neg (by simp), if_pos hkb]
 subst hr
 have HC1 := hid (HC.out w1 L1.out)
 unfold OwnN at HC1
 rw [List.length_drop] at HC1
 have hP1 := (HP.out w1 L1.out)
 have HP1 := hid hP1
 clear hP1 HR
 have HEND := hid (show ∀ (w2 : World) (A2 : Option Addr) (cp2 : Nat), Below w1.heap.size w1 w2 → NLs w2 (fun b => w1.heap.size ≤ b ∧ b < w2.heap.size) A2 (t.ks.drop 1) →
   (Below B w (w2.setCell ⟨g, 4, none⟩ (.slice A2 (t.ks.length - 1) cp2)) ∧ (∀ p : Addr, S p.block → (w2.setCell ⟨g, 4, none⟩ (.slice A2 (t.ks.length - 1) cp2)).cell? p = w.cell? p) ∧
    (FOk B S (w2.setCell ⟨g, 4, none⟩ (.slice A2 (t.ks.length - 1) cp2)) g ki (.mk sFilter [] [nthN t.ks 1] [] [] [] c0 ps) ∧ (w2.setCell ⟨g, 4, none⟩ (.slice A2 (t.ks.length - 1) cp2)).cell? ⟨g, 8, none⟩ = w.cell? ⟨g, 8, none⟩)) from by
  intro w2 A2 cp2 hb2 hn2
  have hL := L1.out.trans (hb2.mono L1.out.size)
  have hp2 := HP.out w2 hL
  have hg1 := HP1.out.box.lt
  have hgw := hp2.box.lt
  have hl1 : t.ks.length - 1 = 1 := by have := HLEN.out; omega
  refine ⟨(hL.mono hB).setCell (p := ⟨g, 4, none⟩) hlo _, fun p hp => (World.cell?_setCell_other _ _ _ _ (fun e => (HSP.out _ hp).2 (by rw [← e]))).trans (hL.cell (HSP.out _ hp).1), ?_, (World.cell?_setCell_other _ _ _ _ (by simp)).trans (hL.cell (p := ⟨g, 8, none⟩) HG0.out)⟩
  refine ⟨_, fun b => w1.heap.size ≤ b ∧ b < w2.heap.size, hp2.box.set4 (A2, t.ks.length - 1, cp2), rfl, hp2.cl, pown_set hp2.own _ _ (fun e => (hp2.ob _ e).2 rfl), fun k hk => ⟨(hp2.ob k hk).1, fun h => ?_, (hp2.ob k hk).2⟩, fun k hk => ⟨?_, by simpa using hk.2, ?_⟩, ?_⟩
  ·have := (HP1.out.own.lt k hk).2
   omega
  ·have := L1.out.size
   have := hk.1
   omega
  ·have := hk.1
   omega
  ·rw [HD1.out] at hn2
   have hz : ∀ {α : Type} (c : α → List Value) (m : Nat) (w : World), AtS c m w (fun b => w1.heap.size ≤ b ∧ b < w2.heap.size) zSl.1 ([] : List α) := fun c m w => AtS.nil _ _ _
   exact PRest.set ⟨rfl, rfl, hl1, rfl, rfl, rfl, hn2, hz _ _ _, hz _ _ _, hz _ _ _⟩ _ (by show ¬ (w1.heap.size ≤ g ∧ g < w2.heap.size); omega) _)
 have p4 := HP1.out.box.c4
 have pf := HP1.out.box.fr
 have hg1 := HP1.out.box.lt
 rw [show ad.add (1 * 3) = (⟨ad.block, ad.off + 3, none⟩ : Addr) from rfl] at HC1
 dsimp only at p4
 rcases hkb with rfl | rfl
 all_goals
  go_wp2_with fail
  refine HC1.out.mono ?_
  rintro e w2 ⟨A2, cp2, rfl, hn2, hb2, hcp2⟩
  have p5 := (hb2.cell (p := ⟨g, 4, none⟩) hg1).trans p4
  have pf2 : ∀ j, w2.frozen? ⟨g, j, none⟩ = false := fun j => (hb2.frozen (p := ⟨g, j, none⟩) hg1).trans (pf j)
  have HE := hid (HEND.out w2 A2 cp2 hb2 hn2)
  clear p4 pf hb2 hn2 HEND
  go_wp2
  go_ret
  exact ⟨rfl, HE.out.1, HE.out.2.1, by first | exact HE.out.2.2 | exact fun _ => HE.out.2.2⟩
def TabsAt (w : World) (B : Nat) (A : Option Addr) (l : List Tab) : Prop :=
 ∀ (i : Nat) (h : i < l.length), ∃ (ad : Addr) (s : Sl), A = some ad ∧ ad.block < B ∧ w.cell? (ad.add (i * 2)) = some (.string ⟨l[i].1.toArray⟩) ∧ w.cell? ⟨(ad.add (i * 2)).block, (ad.add (i * 2)).off + 1, none⟩ = some (.slice s.1 s.2.1 s.2.2) ∧ s.2.1 = l[i].2.length ∧ At wc 3 w B s.1 l[i].2 ∧ s.2.1 ≤ s.2.2
theorem TabsAt.keep {w w' : World} {B : Nat} {A : Option Addr} {l : List Tab} (h : TabsAt w B A l) (hk : ∀ p : Addr, p.block < B → w'.cell? p = w.cell? p) : TabsAt w' B A l := by
 intro i hi
 obtain ⟨ad, s, e, hb, c0, c1, h2, h3, h4⟩ := h i hi
 have hb2 : (ad.add (i * 2)).block < B := by rw [add_block]; exact hb
 exact ⟨ad, s, e, hb, (hk _ hb2).trans c0, (hk ⟨(ad.add (i * 2)).block, (ad.add (i * 2)).off + 1, none⟩ hb2).trans c1, h2, h3.keep hk, h4⟩
theorem TabsAt.below {w w' : World} {B : Nat} {A : Option Addr} {l : List Tab} (h : TabsAt w B A l) (hb : Below B w w') : TabsAt w' B A l := h.keep fun _ hp => hb.cell hp
theorem TabsAt.more {w : World} {B B' : Nat} {A : Option Addr} {l : List Tab} (h : TabsAt w B A l) (hB : B ≤ B') : TabsAt w B' A l := by
 intro i hi
 obtain ⟨ad, s, e, hb, c0, c1, h2, h3, h4⟩ := h i hi
 exact ⟨ad, s, e, by omega, c0, c1, h2, h3.more hB, h4⟩
theorem TabsAt.next {w w' : World} {A : Option Addr} {l : List Tab} (h : TabsAt w w.heap.size A l) (hb : Below w.heap.size w w') : TabsAt w' w'.heap.size A l := (h.below hb).more hb.size
theorem from1_any (q nm : ByteArray) (s : Sl) (g : Nat) (w : World) (hq : w.cell? ⟨g, 0, none⟩ = some (.string q)) (hg : g < w.heap.size) :
  Calls Tryz.prog 83 #[.agg #[.string nm, .slice s.1 s.2.1 s.2.2], .pointer (some ⟨g, 0, none⟩)] w fun e w' => e = .returned (.bool (nm.toList == q.toList)) ∧ Below w.heap.size w w' := by
 have HB := hid (below_alloc w (.cells #[.string nm, .slice s.1 s.2.1 s.2.2] 48))
 obtain ⟨b, hbe⟩ : ∃ b, (nm.toList == q.toList) = b := ⟨_, rfl⟩
 rw [hbe]
 have e0 : ∀ o, (w.alloc o).cell? ⟨g, 0, none⟩ = some (.string q) := fun o => (World.cell?_alloc_old w _ _ (Nat.ne_of_lt hg)).trans hq
 go_enter Tryz.func83, Tryz.ntmps83
 go_wp2
 go_ret
 exact ⟨rfl, HB.out⟩
def TabZ (l : List Tab) (q : List UInt8) (z : Int) : Prop := (z = -1 ∧ l.find? (fun t => t.1 == q) = none) ∨ ∃ (i : Nat) (h : i < l.length), z = i ∧ l.find? (fun t => t.1 == q) = some l[i]
theorem tab_none {l : List Tab} {q : List UInt8} (h : ∀ j (hj : j < l.length), (l[j].1 == q) = false) : l.find? (fun t => t.1 == q) = none := by
 rw [List.find?_eq_none]
 intro x hx
 obtain ⟨j, hj, rfl⟩ := List.getElem_of_mem hx
 rw [h j hj]
 decide
theorem tab_some {l : List Tab} {q : List UInt8} {i : Nat} (hi : i < l.length) (hy : (l[i].1 == q) = true) (h : ∀ j (hj : j < l.length), j < i → (l[j].1 == q) = false) : l.find? (fun t => t.1 == q) = some l[i] := by
 rw [List.find?_eq_some_iff_getElem]
 exact ⟨hy, i, hi, rfl, fun j hj => by rw [h j (by omega) hj]; rfl⟩
theorem indexT_any (q : ByteArray) (g : Nat) (A : Option Addr) (cap : Nat) (l : List Tab) (w : World) (hv : TabsAt w w.heap.size A l) (hl : l.length ≤ 4194304) (hq : w.cell? ⟨g, 0, none⟩ = some (.string q)) (hg : g < w.heap.size) :
  Calls Tryz.prog 82 #[.slice A l.length cap, .func (.func 83) #[] #[.pointer (some ⟨g, 0, none⟩)]] w fun e w' => ∃ z : Int, e = .returned (.int .i64 z) ∧ TabZ l q.data.toList z ∧ Below w.heap.size w w' := by
 have HV := hid hv
 have HQ := hid hq
 have HG := hid hg
 clear hv hq hg
 go_enter Tryz.func82, Tryz.ntmps82
 go_wp2
 go_loopw [8] (fun t wr => ∃ i : Nat, i ≤ l.length ∧ t = .int .i64 i ∧ (∀ j (hj : j < l.length), j < i → (l[j].1 == q.data.toList) = false) ∧ Below w.heap.size w wr) (fun t _ => l.length - (intOf t).toNat)
 case atStart => exact ⟨0, by omega, rfl, fun j _ h => absurd h (by omega), Below.refl _ _⟩
 case round =>
  obtain ⟨i, hi, rfl, hno, hbel⟩ := hrel
  have HL := hid hbel
  have HNO := hid hno
  have VA := hid (HV.out.next hbel)
  have hz := hbel.size
  have hq1 := (hbel.cell (p := ⟨g, 0, none⟩) HG.out).trans HQ.out
  clear hbel hno
  by_cases hil : i < l.length
  ·obtain ⟨ad, s, rfl, ga, c0, c1, hs2, hs3, hs4⟩ := VA.out i hil
   have HN2 := hid (fun (h : (l[i].1 == q.data.toList) = false) => show ∀ j (hj : j < l.length), j < i + 1 → (l[j].1 == q.data.toList) = false from fun j hj h2 => if e : j = i then by subst e; exact h else HNO.out j hj (by omega))
   have HY := hid (fun (h : (l[i].1 == q.data.toList) = true) => tab_some hil h HNO.out)
   obtain ⟨T, hT⟩ : ∃ T : ByteArray, ⟨l[i].1.toArray⟩ = T := ⟨_, rfl⟩
   have hTe : (T.toList == q.toList) = (l[i].1 == q.data.toList) := by rw [← hT, ByteArray.toList_eq, ByteArray.toList_eq]
   rw [hT] at c0
   have HC := hid (from1_any q T s g wr hq1 (Nat.lt_of_lt_of_le HG.out hz))
   rw [hTe] at HC
   obtain ⟨b, hb⟩ : ∃ b, (l[i].1 == q.data.toList) = b := ⟨_, rfl⟩
   rw [hb] at HC HY HN2
   clear hb hT hTe hs2 hs3 hs4 hq1
   go_wp2_with fail
   refine HC.out.mono ?_
   rintro e w1 ⟨rfl, hb1⟩
   have L1 := hid (HL.out.trans (hb1.mono HL.out.size))
   clear hb1 HC c0 c1
   cases b
   ·go_wp2
    go_roundw
    case rel => exact ⟨i + 1, by omega, by go_num, HN2.out (by first | exact rfl | exact trivial), L1.out⟩
    case measure => simp [intOf]; omega
   ·have HI := hid (HY.out (by first | exact rfl | exact trivial))
    go_wp2
    go_ret
    exact ⟨_, rfl, .inr ⟨i, hil, rfl, HI.out⟩, L1.out⟩
  ·obtain rfl : i = l.length := by omega
   have HI := hid (tab_none (fun j hj => HNO.out j hj hj))
   go_wp2
   go_ret
   exact ⟨_, rfl, .inl ⟨rfl, HI.out⟩, HL.out⟩
theorem pclone_any (A : Option Addr) (cap : Nat) (l : List W) (w : World) (h : At wc 3 w w.heap.size A l) (hl : l.length ≤ 4194304) :
  Calls Tryz.prog 84 #[.slice A l.length cap] w fun e w' => ∃ s : Sl, e = .returned (.slice s.1 s.2.1 s.2.2) ∧ s.2.1 = l.length ∧ w'.ownsRow w.heap.size 54 3 (.slice s.1 s.2.1 s.2.2) l.length (flatC wc l) ∧ Below w.heap.size w w' := by
 obtain ⟨i0, hi0, hz0, hz1, hz2⟩ := info_parts info_col
 rcases A with _ | ad
 ·have h0 : l = [] := by
   cases l with
   | nil => rfl
   | cons y l =>
    obtain ⟨ad, e, _⟩ := h 0 (by simp)
    cases e
  subst h0
  show Calls Tryz.prog 84 #[.slice none 0 cap] w _
  have hq := fun w => Lib.run_eql_slice_nil (P := Tryz.prog) w 29 54 none 0 cap 0 0 Tryz.underlying29
  go_enter Tryz.func84, Tryz.ntmps84
  go_wp2
  go_ret
  exact ⟨zSl, rfl, rfl, World.ownsRow_nil _ _ _ _, Below.refl _ _⟩
 ·have HA := hid h
  clear h
  have hq := fun w => Lib.run_eql_slice_nil (P := Tryz.prog) w 29 54 (some ad) l.length cap 0 0 Tryz.underlying29
  go_enter Tryz.func84, Tryz.ntmps84
  go_wp2_with (at_builtin; refine wpList_append_at (k := 3) (c := wc) wc_length (by decide) wc_one rfl _ _ 29 rfl w.heap.size 54 i0 _ 32 Tryz.underlying29 hi0 hz0 hz1 hz2 rfl (.slice (some ⟨w.heap.size, 0, none⟩) 0 0) 0 [] rfl ?c0 (w.heap.size + 1) (some ad) cap l rfl ?c2 ?c3 ?c4 ?c5 ?_)
  case c0 => exact ⟨rfl, .inr ⟨w.heap.size, 0, #[], rfl, Nat.le_refl _, heap_alloc_new w _, Nat.le_refl _, Nat.zero_le _, rfl, rfl⟩⟩
  case c2 => exact (HA.out.below (below_alloc w _)).more (by omega)
  case c3 => unfold maxLen; omega
  case c4 => omega
  case c5 => simp
  intro v' w1 hown' hgrow
  have hown2 : w1.ownsRow w.heap.size 54 3 v' l.length (flatC wc l) := by simpa using hown'
  obtain ⟨A', cap', hv', -⟩ := own_at wc_length hown2
  subst hv'
  have H1 := hid hown2
  have L1 := hid ((below_alloc w (.cells #[] 54)).grown hgrow (by simp) (fun j hj => by cases hj; exact Nat.le_refl _))
  clear hown' hgrow hown2
  go_wp2
  go_ret
  exact ⟨(A', l.length, cap'), rfl, rfl, H1.out, L1.out⟩
theorem over2_any (B : Nat) (S : Nat → Prop) (g : Nat) (co ki : Sl) (c0 : List W) (ps : List Pl) (op tx : ByteArray) (X : Option Addr) (n k : Nat) (w : World) (hB : B ≤ w.heap.size) (o : List UInt8) (hp : FPre B S w g ⟨o.toArray⟩ co ki c0) :
  Calls Tryz.prog 56 #[.pointer (some ⟨g, 0, none⟩), .agg #[.string op, .string tx, .slice X n k]] w (FPost B S g ki w (.mk o [] [] [] [] [] c0 ps, 0)) := by
 have B0 := hid (below_alloc w (.cells #[.string op, .string tx, .slice X n k] 24))
 have HP := hid (hp.below B0.out)
 have HS := hid hp.sl
 have HG := hid hp.box.lt
 unfold FPost
 clear hp
 go_enter Tryz.func56, Tryz.ntmps56
 go_wp2
 go_ret
 have hz : ∀ {α : Type} (c : α → List Value) (m : Nat) (w : World), AtS c m w (fun b => False) zSl.1 ([] : List α) := fun c m w => AtS.nil _ _ _
 have hok : FOk B S (w.alloc (.cells #[.string op, .string tx, .slice X n k] 24)) g ki (.mk o [] [] [] [] [] c0 ps) :=
  ⟨_, fun _ => False, HP.out.box, rfl, HP.out.cl, HP.out.own, fun k hk => ⟨(HP.out.ob k hk).1, fun h => h, (HP.out.ob k hk).2⟩, fun k hk => hk.elim, ⟨rfl, rfl, rfl, rfl, rfl, rfl, NLs.nil _ _ _, hz _ _ _, hz _ _ _, hz _ _ _⟩⟩
 exact ⟨rfl, B0.out.mono hB, fun p hp => B0.out.cell (HS.out _ hp).1, by first | exact ⟨hok, B0.out.cell (p := ⟨g, 8, none⟩) HG.out⟩ | exact fun _ => ⟨hok, B0.out.cell (p := ⟨g, 8, none⟩) HG.out⟩⟩
theorem own_le {w : World} {B B' size n : Nat} {e : TypeId} {v : Value} {xs : List Value} (h : w.ownsRow B e size v n xs) (hb : B' ≤ B) : w.ownsRow B' e size v n xs := by
 refine ⟨h.1, h.2.imp id ?_⟩
 rintro ⟨g, cap, cur, h1, h2, h3⟩
 exact ⟨g, cap, cur, h1, Nat.le_trans hb h2, h3⟩
def fromR (tabs : List Tab) (tx : List UInt8) (ps : List Pl) : Pl × Int := match tabs.find? fun t => t.1 == tx with | some t => (.mk sFrom tx [] [] [] [] t.2 ps, 0) | none => (zeroP, 121)
theorem from_any (B : Nat) (S : Nat → Prop) (g : Nat) (co ki : Sl) (c0 : List W) (ps : List Pl) (q : ByteArray) (A : Option Addr) (cap : Nat) (l : List Tab) (w : World) (hB : B ≤ w.heap.size) (hp : FPre B S w g ⟨sFrom.toArray⟩ co ki c0) (hv : TabsAt w w.heap.size A l) (hl : l.length ≤ 4194304) (hcl : ∀ t ∈ l, t.2.length ≤ 4194304) :
  Calls Tryz.prog 46 #[.pointer (some ⟨g, 0, none⟩), .string q, .slice A l.length cap] w (FPost B S g ki w (fromR l q.data.toList ps)) := by
 obtain ⟨w0, hw0⟩ : ∃ w0, w.alloc (.cells #[.string q] 9) = w0 := ⟨_, rfl⟩
 have B0 := hid (show Below w.heap.size w w0 by rw [← hw0]; exact below_alloc w _)
 have q0 : w0.cell? ⟨w.heap.size, 0, none⟩ = some (.string q) := by rw [← hw0]; simp
 have z0 : w.heap.size < w0.heap.size := by rw [← hw0]; simp
 have HP := hid (fun (w' : World) (hb : Below w.heap.size w w') => hp.below hb)
 have HT := hid (fun (w' : World) (hb : Below w.heap.size w w') => hv.next hb)
 have HI := hid (indexT_any q w.heap.size A cap l w0 (HT.out w0 B0.out) hl q0 z0)
 have HCL := hid hcl
 have HG0 := hid hp.box.lt
 have HSP := hid hp.sl
 have hlo := hp.lo
 obtain ⟨R, hR⟩ : ∃ R, fromR l q.data.toList ps = R := ⟨_, rfl⟩
 unfold FPost
 rw [hR]
 have HR := hid hR
 have HW0 := hid hw0
 clear hp hv hcl hR hw0
 obtain ⟨rp, rc⟩ := R
 dsimp only
 go_enter Tryz.func46, Tryz.ntmps46
 go_upto_region 1 with fail
 rw [HW0.out]
 go_wp2_with fail
 refine HI.out.mono ?_
 rintro e w1 ⟨z, rfl, hz, hb1⟩
 have L1 := hid (B0.out.trans (hb1.mono B0.out.size))
 have q1 := (hb1.cell (p := ⟨w.heap.size, 0, none⟩) z0).trans q0
 have z1 : w.heap.size < w1.heap.size := Nat.lt_of_lt_of_le z0 hb1.size
 clear hb1 HI q0 z0
 rcases hz with ⟨rfl, hf⟩ | ⟨i, hi, rfl, hf⟩
 ·have hr : rp = zeroP ∧ rc = 121 := by
   have h := HR.out
   unfold fromR at h
   rw [hf] at h
   exact ⟨(congrArg Prod.fst h).symm, (congrArg Prod.snd h).symm⟩
  obtain ⟨rfl, rfl⟩ := hr
  have HE := hid (show Below B w w1 ∧ ∀ p : Addr, S p.block → w1.cell? p = w.cell? p from ⟨L1.out.mono hB, fun p hp => L1.out.cell (HSP.out _ hp).1⟩)
  clear hf q1
  go_wp2
  go_ret
  exact ⟨rfl, HE.out.1, HE.out.2, fun h => absurd h (by decide)⟩
 ·obtain ⟨ad, s, rfl, ga, c0, c1, hs2, hs3, hs4⟩ := (HT.out w1 L1.out) i hi
  have hr : rp = .mk sFrom q.data.toList [] [] [] [] l[i].2 ps ∧ rc = 0 := by
   have h := HR.out
   unfold fromR at h
   rw [hf] at h
   exact ⟨(congrArg Prod.fst h).symm, (congrArg Prod.snd h).symm⟩
  obtain ⟨rfl, rfl⟩ := hr
  have hcl := HCL.out l[i] (List.getElem_mem hi)
  have HC := hid (fun (w' : World) (hb : Below w1.heap.size w1 w') => pclone_any s.1 s.2.2 l[i].2 w' ((hs3.below hb).more hb.size) hcl)
  rw [← hs2] at HC
  have hp1 := HP.out w1 L1.out
  have p1 := hp1.box.c1
  have p2 := hp1.box.c2
  have pf := hp1.box.fr
  have hg1 := hp1.box.lt
  dsimp only at p1 p2
  have bi0 : (0 : Int) ≤ (i : Int) := by omega
  have bi1 : (i : Int) < (l.length : Int) := by omega
  have e9 : ((i : Int) < 0) = False := by simp
  have HEND := hid (show ∀ (w2 : World) (A2 : Option Addr) (cp2 : Nat), Below w1.heap.size w1 w2 → w2.ownsRow w1.heap.size 54 3 (.slice A2 s.2.1 cp2) s.2.1 (flatC wc l[i].2) →
    Below B w ((w2.setCell ⟨g, 1, none⟩ (.string q)).setCell ⟨g, 2, none⟩ (.slice A2 s.2.1 cp2)) ∧ (∀ p : Addr, S p.block → ((w2.setCell ⟨g, 1, none⟩ (.string q)).setCell ⟨g, 2, none⟩ (.slice A2 s.2.1 cp2)).cell? p = w.cell? p) ∧
    (FOk B S ((w2.setCell ⟨g, 1, none⟩ (.string q)).setCell ⟨g, 2, none⟩ (.slice A2 s.2.1 cp2)) g ki (.mk sFrom q.data.toList [] [] [] [] l[i].2 ps) ∧ ((w2.setCell ⟨g, 1, none⟩ (.string q)).setCell ⟨g, 2, none⟩ (.slice A2 s.2.1 cp2)).cell? ⟨g, 8, none⟩ = w.cell? ⟨g, 8, none⟩) from by
   intro w2 A2 cp2 hb2 hown
   have hL := L1.out.trans (hb2.mono L1.out.size)
   have hp2 := HP.out w2 hL
   have hz := L1.out.size
   have hs2' : s.2.1 = l[i].2.length := hs2
   have hob : ∀ k, (Value.slice A2 s.2.1 cp2).ownBlock = some k → w1.heap.size ≤ k := fun k hk => (hown.lt k hk).1
   replace hown : w2.ownsRow w1.heap.size 54 3 (.slice A2 s.2.1 cp2) l[i].2.length (flatC wc l[i].2) := by simpa only [hs2'] using hown
   refine ⟨((hL.mono hB).setCell (p := ⟨g, 1, none⟩) hlo _).setCell (p := ⟨g, 2, none⟩) hlo _, fun p hp => ?_, ⟨_, fun _ => False, (hp2.box.set1 q).set2 (A2, s.2.1, cp2), rfl, hs2, ?_, fun k hk => ⟨fun h => ?_, fun h => h, ?_⟩, fun k hk => hk.elim, ?_⟩, ?_⟩
   ·rw [World.cell?_setCell_other _ _ _ _ (fun e => (HSP.out _ hp).2 (by rw [← e])), World.cell?_setCell_other _ _ _ _ (fun e => (HSP.out _ hp).2 (by rw [← e]))]
    exact hL.cell (HSP.out _ hp).1
   ·have hne : (Value.slice A2 s.2.1 cp2).ownBlock ≠ some g := fun e => by have := hob g e; omega
    exact pown_set (pown_set (own_le hown (by omega)) ⟨g, 1, none⟩ _ hne) ⟨g, 2, none⟩ _ hne
   ·have h1 := hob k hk
    have h2 := (HSP.out _ h).1
    omega
   ·have h1 := hob k hk
    omega
   ·exact ⟨rfl, by show q = ⟨q.data.toList.toArray⟩; rw [Lib.mk_data], rfl, rfl, rfl, rfl, NLs.nil _ _ _, AtS.nil _ _ _, AtS.nil _ _ _, AtS.nil _ _ _⟩
   ·rw [World.cell?_setCell_other _ _ _ _ (by simp), World.cell?_setCell_other _ _ _ _ (by simp)]
    exact hL.cell (p := ⟨g, 8, none⟩) HG0.out)
  have HBD := hid (show ∀ w2, Below w1.drew.heap.size w1.drew w2 → Below w1.heap.size w1 w2 from fun w2 h => ⟨h.os, h.tape, h.output, h.size, h.block⟩)
  clear hf hs3 hs4 hs2 hp1 hcl
  go_wp2_with fail
  go_region_law (go_simp; refine (HC.out _ ?_).mono ?_; (first | exact Below.refl _ _ | exact (Below.refl _ _).drew); rintro e w2 ⟨⟨A2, n2, cp2⟩, rfl, hs2', ho2, hb2⟩; dsimp only at hs2' ho2; subst hs2'; have hb3 := HBD.out _ hb2; have q2 := (hb3.cell (p := ⟨w.heap.size, 0, none⟩) z1).trans q1; have p1' := (hb3.cell (p := ⟨g, 1, none⟩) hg1).trans p1; have p2' := (hb3.cell (p := ⟨g, 2, none⟩) hg1).trans p2; have pf2 : ∀ j, w2.frozen? ⟨g, j, none⟩ = false := fun j => (hb3.frozen (p := ⟨g, j, none⟩) hg1).trans (pf j); have HE := hid (HEND.out w2 A2 cp2 hb3 (own_le ho2 (Nat.le_refl _))); clear p1 p2 pf c0 c1 q1 hb2 hb3 ho2)
  all_goals
   clear p1' p2' pf2 q2
   go_wp2
   go_ret
   exact ⟨rfl, HE.out.1, HE.out.2.1, by first | exact HE.out.2.2 | exact fun _ => HE.out.2.2⟩
theorem append_types {P : Program} (w : World) (t t' ty e e' : TypeId) (i : TypeInfo) (ht : P.underlying t = some (.slice e)) (ht' : P.underlying t' = some (.slice e')) (hi : P.info? e = some i) (A X : Option Addr) (n cap m cp : Nat) :
  (Builtin.append_ #[t, t'] ty #[.slice A n cap, .slice X m cp]).run P w = (Builtin.append_ #[t, t] ty #[.slice A n cap, .slice X m cp]).run P w := by
 simp [Builtin.append_, run_underlying ht, run_underlying ht', sizeOf, typeInfo, hi]
section
variable {α : Type} {c : α → List Value} {k : Nat}
theorem wpList_append_two (hk : ∀ x, (c x).length = k) (hk0 : 0 < k) (h1 : ∀ x, ∀ u ∈ c x, u.oneCell' = true) {P : Program} {w : World} {ops : Array Oper} {rest : List Oper} {o : Oper} {a : Act} {Q : Exit → Act → World → Prop} (hgd : o.guard = none) (s x : Operand) (t t' : TypeId)
  (ho : o.op = .call { callee := .builtin .append, args := #[s, x], argTypes := #[t, t'] })
  (base : Nat) (e e' : TypeId) (i : TypeInfo) (z : Value) (bytes : Nat) (ht : P.underlying t = some (.slice e)) (ht' : P.underlying t' = some (.slice e')) (hi : P.info? e = some i) (hz : i.zero = some z)
  (hsize : i.size = k) (hby : i.bytes = bytes) (hzs : z.cells.size = k) (v : Value) (n : Nat) (xs : List Value) (hs : a.eval s = v) (hown : w.ownsRow base e k v n xs)
  (B : Nat) (A : Option Addr) (cp : Nat) (l : List α) (hx : a.eval x = .slice A l.length cp) (hv : At c k w B A l)
  (h63 : n + l.length ≤ maxLen) (hbytes : (n + l.length) * bytes ≤ 140737488355328) (hbase : base ≤ w.heap.size)
  (h : ∀ v' w', w'.ownsRow base e k v' (n + l.length) (xs ++ flatC c l) → w.grownBy w' v.ownBlock → (v'.ownBlock = v.ownBlock ∨ v'.ownBlock = some w.heap.size) → wpList P ops Q rest (a.put o.dst v') w') : wpList P ops Q (o :: rest) a w := by
 refine wpList_plain hgd fun K hK => ?_
 have hrun : ∃ v' w', (Builtin.append_ #[t, t] o.type #[v, .slice A l.length cp]).run P w = .ok v' w' ∧ w'.ownsRow base e k v' (n + l.length) (xs ++ flatC c l) ∧ w.grownBy w' v.ownBlock ∧ (v'.ownBlock = v.ownBlock ∨ v'.ownBlock = some w.heap.size) := by
  rcases A with _ | ad
  ·have h0 : l = [] := by
    cases l with
    | nil => rfl
    | cons y l =>
     obtain ⟨ad, e, _⟩ := hv 0 (by simp)
     cases e
   subst h0
   exact ⟨v, w, run_append_nothing w base t o.type e i k ht hi v n xs hown cp, by simpa [flatC] using hown, World.grownBy.refl w _, .inl rfl⟩
  ·obtain ⟨v', w', hr, h2, h3, _, h5⟩ := run_append_own_at (P := P) w base t o.type e i z k bytes ht hi hz hsize hby hzs hk0 v n xs hown ad l.length cp (flatC c l) (flatC_length hk l) (at_news hk hk0 hv) (flatC_one h1 l) h63 hbytes hbase
   exact ⟨v', w', hr, h2, h3, h5⟩
 obtain ⟨v', w', hr, h2, h3, h5⟩ := hrun
 obtain ⟨A1, n1, c1, rfl⟩ : ∃ A1 n1 c1, v = .slice A1 n1 c1 := by
  rcases hown.2 with ⟨rfl, _⟩ | ⟨g, cap, cur, rfl, _⟩
  ·exact ⟨_, _, _, rfl⟩
  ·exact ⟨_, _, _, rfl⟩
 rw [← append_types w t t' o.type e e' i ht ht' hi] at hr
 unfold Oper.wp execOp
 simp only [ho, resolve, invoke, builtin, Sem.run_bind, Sem.run_pure, Result.andThen_ok, List.map_toArray, List.map_cons, List.map_nil, hs, hx, hr]
 exact hK _ _ (h v' w' h2 h3 h5)
end
theorem own_ne {w : World} {B B' : Nat} {e e' : TypeId} {k k' n n' : Nat} {v v' : Value} {xs xs' : List Value} (h : w.ownsRow B e k v n xs) (h' : w.ownsRow B' e' k' v' n' xs') (hne : e ≠ e') : v.ownBlock = none ∨ v.ownBlock ≠ v'.ownBlock := by
 rcases h.2 with ⟨rfl, _⟩ | ⟨g, cap, cur, rfl, _, hg, _⟩
 ·exact .inl rfl
 ·right
  rcases h'.2 with ⟨rfl, _⟩ | ⟨g', cap', cur', rfl, _, hg', _⟩
  ·simp [Value.ownBlock]
  ·intro e9
   simp only [Value.ownBlock, Option.some.injEq] at e9
   subst e9
   rw [hg] at hg'
   injection hg' with h9
   injection h9 with _ h9
   exact hne h9
theorem But.grownR {w w1 w2 : World} {r : Nat} {row : Option Nat} (h : But w w1 r) (g : w1.grownBy w2 row) (hr : ∀ k, row = some k → w.heap.size ≤ k) : But w w2 r :=
 ⟨g.os.trans h.os, g.tape.trans h.tape, g.output.trans h.output, Nat.le_trans h.size g.size, fun k hk hn => (g.block k (Nat.lt_of_lt_of_le hk h.size) (fun e => by have := hr k e.symm; omega)).trans (h.block k hk hn)⟩
theorem PBox.grown {w w' : World} {g : Nat} {x : PV} {row : Option Nat} (h : PBox w g x) (hg : w.grownBy w' row) (hne : some g ≠ row) : PBox w' g x := h.keep (hg.block g h.lt hne)
theorem grown_cell {w w' : World} {row : Option Nat} (hg : w.grownBy w' row) (p : Addr) (hp : p.block < w.heap.size) (hne : some p.block ≠ row) : w'.cell? p = w.cell? p := World.cell?_of_block (hg.block p.block hp hne)
theorem own_butR {w w' : World} {B r : Nat} {e : TypeId} {size n : Nat} {v : Value} {xs : List Value} (h : w.ownsRow B e size v n xs) (hb : But w w' r) (hne : v.ownBlock ≠ some r) : w'.ownsRow B e size v n xs :=
 h.kept (row := some r) ⟨hb.os, hb.tape, hb.output, hb.size, fun k hk hn => hb.block k hk (fun e => hn (by rw [e]))⟩ (.inr hne)
end Go.Proofs.YthpmgnfmeldkjaaGreatDoor.Code
