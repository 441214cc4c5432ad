/-
  Contracts of the program's Wider and Name of kinds.
-/
import Derived.Test.YthpmgnfmeldkjaaGreatDoorSm5
import Derived.Test.YthpmgnfmeldkjaaGreatDoorSm4
import Derived.Deep.RegionLaw
import Derived.Test.YthpmgnfmeldkjaaGreatDoorSm2
import Derived.Test.YthpmgnfmeldkjaaGreatDoorSm1
set_option maxRecDepth 100000
set_option maxHeartbeats 16000000
set_option linter.unusedVariables false
set_option linter.unusedSimpArgs false
open Go.Lib (hid)
namespace Go.Proofs.YthpmgnfmeldkjaaGreatDoor.Val
open Go.ChangeShapes Go.WideShapes Go.ChangeAt Go.RowKit
theorem wider_out (k t : Int) (h : k ≠ t) (h0 : t ≠ 0) (h1 : t ≠ 1) (h2 : t ≠ 2) : widerB k t = false := by
 unfold widerB
 rw [if_neg (by omega)]
 exact decide_eq_false (by omega)
theorem wider_any (k t : Int) (w : World) :
  Calls Tryz.prog 229 #[.int .i64 k, .int .i64 t] w fun e w' => e = .returned (.bool (widerB k t)) ∧ w = w' := by
 rcases kinds k with rfl | rfl | rfl | rfl | rfl | ⟨k0, k1, k2, k3, k4⟩
 iterate 5
  ·rcases kinds t with rfl | rfl | rfl | rfl | rfl | ⟨t0, t1, t2, t3, t4⟩
   iterate 5
    ·go_enter Tryz.func229, Tryz.ntmps229
     go_wp2
     go_ret
     exact ⟨retB (by decide), rfl⟩
   ·go_enter Tryz.func229, Tryz.ntmps229
    go_wp2
    go_ret
    simp at t0 t1 t2 t3 t4
    exact ⟨retB (wider_out _ t (by omega) t0 t1 t2).symm, rfl⟩
 ·go_enter Tryz.func229, Tryz.ntmps229
  go_wp2
  go_ret
  simp at k0 k1 k2 k3 k4
  exact ⟨retB (by unfold widerB; split <;> exact (decide_eq_false (by omega)).symm), rfl⟩
end Go.Proofs.YthpmgnfmeldkjaaGreatDoor.Val
/-
  A block of texts that the call made (cut out of RowShow). No function of the program is named here.
-/
namespace Go.Proofs.YthpmgnfmeldkjaaGreatDoor.Code
open Go.ChangeShapes Go.WideShapes Go.ChangeAt Go.RowKit Val
def SBlk (w : World) (g : Nat) (D : List ByteArray) : Prop := w.heap[g]? = some (.cells (D.map Value.string).toArray 9 (0, 0))
theorem SBlk.lt {w : World} {g : Nat} {D : List ByteArray} (h : SBlk w g D) : g < w.heap.size := (Array.getElem?_eq_some_iff.1 h).1
theorem SBlk.call {w w' : World} {g : Nat} {D : List ByteArray} (h : SBlk w g D) (hb : Below w.heap.size w w') : SBlk w' g D := (hb.block g h.lt).trans h
theorem SBlk.cell {w : World} {g : Nat} {D : List ByteArray} (h : SBlk w g D) (j : Nat) (x : ByteArray) (hx : D[j]? = some x) : w.cell? ⟨g, j, none⟩ = some (.string x) := by
 unfold SBlk at h
 simp [World.cell?, h, hx]
theorem SBlk.free {w : World} {g : Nat} {D : List ByteArray} (h : SBlk w g D) (j : Nat) : w.frozen? ⟨g, j, none⟩ = false := by
 unfold SBlk at h
 simp [World.frozen?, h]
theorem SBlk.set {w : World} {g : Nat} {D : List ByteArray} (h : SBlk w g D) (k : Nat) (x : ByteArray) : SBlk (w.setCell ⟨g, k, none⟩ (.string x)) g (D.set k x) := by
 unfold SBlk at *
 rw [setCell_eq_setRow w g _ _ _ _ _ h, setRow_heap w g _ _ _ _ h, List.map_set]
 simp
theorem info_str : (Tryz.prog.info? 9).map (fun i => (i.zero, i.size, i.bytes)) = some (some (.string ByteArray.empty), 1, 16) := by kernel_rfl
theorem made_strs (n : Nat) : madeCells #[Value.string ByteArray.empty] (n * 1) = Array.replicate n (Value.string ByteArray.empty) := by
 apply Array.toList_inj.1
 rw [toList_madeCells_one, Nat.mul_one]
 simp
theorem SBlk.fresh (w : World) (n : Nat) : SBlk (w.alloc (.cells (Array.replicate n (Value.string ByteArray.empty)) 9)) w.heap.size (List.replicate n ByteArray.empty) := by
 unfold SBlk
 rw [heap_alloc_new]
 simp
theorem wpList_make_strs {P : Program} (w : World) {ops : Array Oper} {rest : List Oper} {o : Oper} {a : Act} {Q : Exit → Act → World → Prop}
  (hg : o.guard = none) (l c : Operand) (t : TypeId) (hop : o.op = Op.makeSlice t l c) (e : TypeId) (i : TypeInfo) (h1 : P.underlying t = some (.slice e)) (h2 : P.info? e = some i)
  (h3 : i.zero = some (.string ByteArray.empty)) (h4 : i.size = 1) (h5 : i.bytes = 16)
  (kl kc : IntKind) (L C : Int) (n : Nat) (hl : a.eval l = .int kl L) (hc : a.eval c = .int kc C) (hL : L = (n : Int)) (hC : C = (n : Int)) (b : n ≤ 8796093022208)
  (hK : wpList P ops Q rest (a.put o.dst (.slice (some ⟨w.heap.size, 0, none⟩) n n)) (w.alloc (.cells (Array.replicate n (Value.string ByteArray.empty)) e))) :
  wpList P ops Q (o :: rest) a w := by
 refine wpList_plain hg fun K hK' => ?_
 have hr := run_make (P := P) w t e i _ h1 h2 h3 kl kc n n (by omega) (Int.le_refl _) (by rw [h5]; omega) (by omega)
 rw [Int.toNat_natCast, h4, show (Value.string ByteArray.empty).cells = #[Value.string ByteArray.empty] by rfl, made_strs] at hr
 subst hL
 subst hC
 unfold Oper.wp
 simp [execOp, hop, hl, hc, hr, Result.andThen]
 exact hK' _ _ hK
theorem sfill_set (X : List ByteArray) (n : Nat) (hn : 0 < n) (v : ByteArray) : (X ++ List.replicate n ByteArray.empty).set X.length v = (X ++ [v]) ++ List.replicate (n - 1) ByteArray.empty := by
 obtain ⟨m, rfl⟩ : ∃ m, n = m + 1 := ⟨n - 1, by omega⟩
 rw [List.set_append_right _ _ (Nat.le_refl _), Nat.sub_self, List.replicate_succ, List.set_cons_zero, Nat.add_sub_cancel, List.append_assoc]
 rfl
open Elems
set_option maxRecDepth 100000
def KBlk (w : World) (g : Nat) (D : List Int) : Prop := w.heap[g]? = some (.cells (D.map (Value.int .i64)).toArray 52 (0, 0))
theorem KBlk.lt {w : World} {g : Nat} {D : List Int} (h : KBlk w g D) : g < w.heap.size := (Array.getElem?_eq_some_iff.1 h).1
theorem KBlk.call {w w' : World} {g : Nat} {D : List Int} (h : KBlk w g D) (hb : Below w.heap.size w w') : KBlk w' g D := (hb.block g h.lt).trans h
theorem KBlk.cell {w : World} {g : Nat} {D : List Int} (h : KBlk w g D) (j : Nat) (x : Int) (hx : D[j]? = some x) : w.cell? ⟨g, j, none⟩ = some (.int .i64 x) := by
 unfold KBlk at h
 simp [World.cell?, h, hx]
theorem KBlk.free {w : World} {g : Nat} {D : List Int} (h : KBlk w g D) (j : Nat) : w.frozen? ⟨g, j, none⟩ = false := by
 unfold KBlk at h
 simp [World.frozen?, h]
theorem KBlk.set {w : World} {g : Nat} {D : List Int} (h : KBlk w g D) (k : Nat) (x : Int) : KBlk (w.setCell ⟨g, k, none⟩ (.int .i64 x)) g (D.set k x) := by
 unfold KBlk at *
 rw [setCell_eq_setRow w g _ _ _ _ _ h, setRow_heap w g _ _ _ _ h, List.map_set]
 simp
theorem KBlk.at {w : World} {g B : Nat} {D : List Int} (h : KBlk w g D) (hg : g < B) : At kc 1 w B (some ⟨g, 0, none⟩) D := by
 intro i hi
 refine ⟨⟨g, 0, none⟩, rfl, hg, fun j u hu => ?_⟩
 match j, hu with
 | 0, hu =>
  simp [kc] at hu
  subst hu
  rw [Addr.add_lit]
  simpa using h.cell i _ (List.getElem?_eq_getElem hi)
theorem made_kinds (n : Nat) : madeCells #[Value.int .i64 0] (n * 1) = Array.replicate n (Value.int .i64 0) := by
 apply Array.toList_inj.1
 rw [toList_madeCells_one, Nat.mul_one]
 simp
theorem KBlk.fresh (w : World) (n : Nat) : KBlk (w.alloc (.cells (Array.replicate n (Value.int .i64 0)) 52)) w.heap.size (List.replicate n 0) := by
 unfold KBlk
 rw [heap_alloc_new]
 simp
theorem wpList_make_kinds {P : Program} (w : World) {ops : Array Oper} {rest : List Oper} {o : Oper} {a : Act} {Q : Exit → Act → World → Prop}
  (hg : o.guard = none) (l c : Operand) (t : TypeId) (hop : o.op = Op.makeSlice t l c) (e : TypeId) (i : TypeInfo) (h1 : P.underlying t = some (.slice e)) (h2 : P.info? e = some i)
  (h3 : i.zero = some (.int .i64 0)) (h4 : i.size = 1) (h5 : i.bytes = 8)
  (kl kc : IntKind) (L C : Int) (n : Nat) (hl : a.eval l = .int kl L) (hc : a.eval c = .int kc C) (hL : L = (n : Int)) (hC : C = (n : Int)) (b : n ≤ 8796093022208)
  (hK : wpList P ops Q rest (a.put o.dst (.slice (some ⟨w.heap.size, 0, none⟩) n n)) (w.alloc (.cells (Array.replicate n (Value.int .i64 0)) e))) :
  wpList P ops Q (o :: rest) a w := by
 refine wpList_plain hg fun K hK' => ?_
 have hr := run_make (P := P) w t e i _ h1 h2 h3 kl kc n n (by omega) (Int.le_refl _) (by rw [h5]; omega) (by omega)
 rw [Int.toNat_natCast, h4, show (Value.int .i64 0).cells = #[Value.int .i64 0] by rfl, made_kinds] at hr
 subst hL
 subst hC
 unfold Oper.wp
 simp [execOp, hop, hl, hc, hr, Result.andThen]
 exact hK' _ _ hK
theorem kfill_set (X : List Int) (n : Nat) (hn : 0 < n) (v : Int) : (X ++ List.replicate n 0).set X.length v = (X ++ [v]) ++ List.replicate (n - 1) 0 := by
 obtain ⟨m, rfl⟩ : ∃ m, n = m + 1 := ⟨n - 1, by omega⟩
 rw [List.set_append_right _ _ (Nat.le_refl _), Nat.sub_self, List.replicate_succ, List.set_cons_zero, Nat.add_sub_cancel, List.append_assoc]
 rfl
theorem skinds_any (A : Option Addr) (cap : Nat) (l : List W) (w : World) (hv : At wc 3 w w.heap.size A l) (hl : l.length ≤ 4194304) :
  Calls Tryz.prog 92 #[.slice A l.length cap] w fun e w' => ∃ (A' : Option Addr) (cap' : Nat), e = .returned (.slice A' l.length cap') ∧ At kc 1 w' w'.heap.size A' (kindsC l) ∧ Below w.heap.size w w' := by
 have HV := hid hv
 clear hv
 obtain ⟨i0, hi0, hz0, hz1, hz2⟩ := info_parts info_kind
 go_enter Tryz.func92, Tryz.ntmps92
 go_wp2_with (at_make; refine wpList_make_kinds _ rfl _ _ 134 rfl 52 i0 Tryz.underlying134 hi0 hz0 hz1 hz2 _ _ _ _ l.length rfl rfl rfl rfl (by omega) ?_)
 have HB0 := hid (KBlk.fresh w l.length)
 have HL0 := hid (below_alloc w (.cells (Array.replicate l.length (Value.int .i64 0)) 52))
 go_wp2
 go_loopw [10] (fun i wr => ∃ k : Nat, k ≤ l.length ∧ i = .int .i64 k ∧ KBlk wr w.heap.size (kindsC (l.take k) ++ List.replicate (l.length - k) 0) ∧ Below w.heap.size w wr) (fun i _ => l.length - (intOf i).toNat)
 case atStart => exact ⟨0, by omega, rfl, by simpa [kindsC] using HB0.out, HL0.out⟩
 case round =>
  obtain ⟨k, hk, rfl, hblk, hbel⟩ := hrel
  have hsz := hbel.size
  have hlt := hblk.lt
  have HL := hid hbel
  have HB := hid hblk
  have VA := hid (HV.out.below hbel)
  clear hbel hblk
  have HX := hid (show (kindsC (l.take k)).length = k by unfold kindsC; rw [List.length_map, List.length_take_of_le hk])
  by_cases hkl : k < l.length
  ·obtain ⟨ad, rfl, ha, c0, c1, c2⟩ := at_word VA.out k hkl
   have HS := hid (kinds_take l k hkl)
   have HE := hid (show (kindsC (l.take k) ++ List.replicate (l.length - k) 0).set k l[k].2.2 = kindsC (l.take (k + 1)) ++ List.replicate (l.length - (k + 1)) 0 by
    have e := kfill_set (kindsC (l.take k)) (l.length - k) (by omega) l[k].2.2
    rw [HX.out, Nat.sub_sub] at e
    rw [e, HS.out])
   have b0 : ∃ y, wr.cell? ⟨w.heap.size, k, none⟩ = some (.int .i64 y) := by
    have hlen : k < (kindsC (l.take k) ++ List.replicate (l.length - k) 0).length := by rw [List.length_append, HX.out]; simp; omega
    exact ⟨_, HB.out.cell k _ (List.getElem?_eq_getElem hlen)⟩
   obtain ⟨y, b0⟩ := b0
   have f0 := HB.out.free k
   obtain ⟨x, hx⟩ : ∃ x, l[k].2.2 = x := ⟨_, rfl⟩
   rw [hx] at c2 HE
   have hlt2 : w.heap.size < wr.heap.size := hlt
   clear hx c0 c1 HS
   go_wp2
   go_roundw
   case rel => exact ⟨k + 1, by omega, by go_num, by have h := HB.out.set k x; rw [HE.out] at h; exact h, HL.out.setCell (Nat.le_refl _) _⟩
   case measure => simp [intOf]; omega
  ·obtain rfl : k = l.length := by omega
   rw [List.take_length] at HB
   have HB2 := hid (show KBlk wr w.heap.size (kindsC l) by simpa using HB.out)
   go_wp2
   go_ret
   exact ⟨_, _, rfl, HB2.out.at hlt, HL.out⟩
def eachL {α : Type} (f : Nod → α × Int) : List Nod → List α × Int
 | [] => ([], 0)
 | t :: l => if (f t).2 = 0 then (if (eachL f l).2 = 0 then ((f t).1 :: (eachL f l).1, 0) else ([], (eachL f l).2)) else ([], (f t).2)
theorem each_type (cols : List W) : ∀ l : List Nod, typeL cols l = eachL (typeE cols) l
 | [] => rfl
 | t :: l => by rw [typeL, eachL, each_type cols l]
theorem each_ok {α : Type} (f : Nod → α × Int) : ∀ l : List Nod, (∀ (j : Nat) (h : j < l.length), (f l[j]).2 = 0) → eachL f l = (l.map (fun t => (f t).1), 0)
 | [], _ => rfl
 | t :: l, h => by
  have h0 : (f t).2 = 0 := h 0 (by simp)
  have h1 := each_ok f l (fun j hj => h (j + 1) (by simp; omega))
  rw [eachL, if_pos h0, h1, if_pos rfl]
  rfl
theorem each_bad {α : Type} (f : Nod → α × Int) : ∀ (l : List Nod) (i : Nat) (hi : i < l.length), (∀ (j : Nat) (h : j < l.length), j < i → (f l[j]).2 = 0) → (f l[i]).2 ≠ 0 → eachL f l = ([], (f l[i]).2)
 | [], i, hi, _, _ => absurd hi (Nat.not_lt_zero _)
 | t :: l, 0, hi, _, hb => by
  have hb : (f t).2 ≠ 0 := hb
  rw [eachL, if_neg hb]
  rfl
 | t :: l, i + 1, hi, h, hb => by
  have h0 : (f t).2 = 0 := h 0 (by simp) (by omega)
  have hb : (f (l[i]'(by simp at hi; omega))).2 ≠ 0 := hb
  have h1 := each_bad f l i (by simp at hi; omega) (fun j hj hji => h (j + 1) (by simp; omega) (by omega)) hb
  rw [eachL, if_pos h0, h1, if_neg hb]
  rfl
theorem map_take {α β : Type} (f : α → β) (l : List α) (k : Nat) (h : k < l.length) : (l.take (k + 1)).map f = (l.take k).map f ++ [f l[k]] := by
 rw [List.take_succ_eq_append_getElem h, List.map_append]
 rfl
theorem at_ints {w : World} {B : Nat} {A : Option Addr} {l : List Int} (h : At kc 1 w B A l) : Ints w B A l := by
 intro i hi
 obtain ⟨ad, e, hb, h0⟩ := h i hi
 refine ⟨ad, e, hb, ?_⟩
 have := h0 0 _ rfl
 simpa using this
def TellK (fn : Nat) (cps : Array Value) (f : Nod → Int × Int) (ks : List Nod) (S : Nat → Prop) (w : World) : Prop :=
 ∀ (k : Nat) (hk : k < ks.length) (op tx : ByteArray) (X : Option Addr) (n m : Nat) (w' : World), Below w.heap.size w w' → RIn w' S ks[k] (op, tx, X, n, m) →
  Calls Tryz.prog fn (#[.agg #[.string op, .string tx, .slice X n m]] ++ cps) w' fun e w'' => e = .returned (.tuple #[.int .i64 (f ks[k]).1, .int .i64 (f ks[k]).2]) ∧ Below w'.heap.size w' w''
def KsPost (w : World) (r : List Int × Int) (e : Ending) (w' : World) : Prop :=
 ∃ (A : Option Addr) (cap : Nat), e = .returned (.tuple #[.slice A r.1.length cap, .int .i64 r.2]) ∧ Ints w' w'.heap.size A r.1 ∧ Below w.heap.size w w'
theorem ks_bad {w w' : World} {r : List Int × Int} {c : Int} (h : r = ([], c)) (hb : Below w.heap.size w w') : KsPost w r (.returned (.tuple #[.slice none 0 0, .int .i64 c])) w' := by
 subst h
 exact ⟨none, 0, rfl, fun i hi => absurd hi (Nat.not_lt_zero _), hb⟩
theorem ks_ok {w w' : World} {r : List Int × Int} {l : List Int} {g n : Nat} (h : r = (l, 0)) (hn : n = l.length) (hB : KBlk w' g l) (hb : Below w.heap.size w w') : KsPost w r (.returned (.tuple #[.slice (some ⟨g, 0, none⟩) n n, .int .i64 0])) w' := by
 subst h hn
 exact ⟨some ⟨g, 0, none⟩, _, rfl, at_ints (hB.at hB.lt), hb⟩
theorem eachK_any (fn : Nat) (en : ∀ args w, (callFunc fn args).run Tryz.prog w = .ok (.enter fn args) w) (cps : Array Value) (f : Nod → Int × Int) (t : Nod) (S : Nat → Prop) (op tx : ByteArray) (X : Option Addr) (n m : Nat) (w : World) (hS : ∀ g, S g → g < w.heap.size) (hn : RIn w S t (op, tx, X, n, m)) (hf : TellK fn cps f t.ks S w) :
  Calls Tryz.prog 151 #[.slice X n m, .func (.func fn) #[] cps] w (KsPost w (eachL f t.ks)) := by
 obtain ⟨-, -, e3, hkl⟩ := hn.texts
 dsimp only at e3
 subst e3
 obtain ⟨o9, x9, ks⟩ := t
 dsimp only [Nod.ks] at hf hkl hn ⊢
 have HN := hid (fun (w' : World) (hb : Below w.heap.size w w') (k : Nat) (hk : k < ks.length) => (hn.bel hS hb).kid k hk)
 dsimp only [Nod.ks] at HN
 have HF := hid hf
 have HS := hid hS
 clear hS hn hf
 obtain ⟨i0, hi0, hz0, hz1, hz2⟩ := info_parts info_kind
 go_enter Tryz.func151, Tryz.ntmps151
 go_wp2_with (at_make; refine wpList_make_kinds _ rfl _ _ 134 rfl 52 i0 Tryz.underlying134 hi0 hz0 hz1 hz2 _ _ _ _ ks.length rfl rfl rfl rfl (by omega) ?_)
 have HB0 := hid (KBlk.fresh w ks.length)
 have HL0 := hid (below_alloc w (.cells (Array.replicate ks.length (Value.int .i64 0)) 52))
 go_wp2
 go_loopw [16] (fun i wr => ∃ k : Nat, k ≤ ks.length ∧ i = .int .i64 k ∧ (∀ (j : Nat) (hj : j < ks.length), j < k → (f ks[j]).2 = 0) ∧ KBlk wr w.heap.size ((ks.take k).map (fun t => (f t).1) ++ List.replicate (ks.length - k) 0) ∧ Below w.heap.size w wr) (fun i _ => ks.length - (intOf i).toNat)
 case atStart => exact ⟨0, by omega, rfl, fun j _ h => absurd h (Nat.not_lt_zero _), by simpa using HB0.out, HL0.out⟩
 case round =>
  obtain ⟨k, hk, rfl, hno, hblk, hbel⟩ := hrel
  have hsz := hbel.size
  have hlt := hblk.lt
  have HL := hid hbel
  have HB := hid hblk
  have HNO := hid hno
  clear hbel hblk hno
  have HX := hid (show ((ks.take k).map (fun t => (f t).1)).length = k by rw [List.length_map, List.length_take_of_le hk])
  by_cases hkl2 : k < ks.length
  ·obtain ⟨ad, ⟨op', tx', X', n', m'⟩, eA, hS', q0, q1, q2, hk'⟩ := HN.out wr HL.out k hkl2
   dsimp only at eA q0 q1 q2
   subst eA
   obtain ⟨q, hq⟩ : ∃ q, ad.add (k * 3) = q := ⟨_, rfl⟩
   have hbq : q.block < wr.heap.size := by rw [← hq, add_block]; have := HS.out _ hS'; omega
   rw [hq] at q0 q1 q2
   obtain ⟨W0, hW0⟩ : ∃ W0, wr.alloc (.cells #[.string op', .string tx', .slice X' n' m'] 24) = W0 := ⟨_, rfl⟩
   have L0 := hid (show Below w.heap.size w W0 by rw [← hW0]; exact HL.out.trans ((below_alloc wr _).mono HL.out.size))
   have N0 := hid (show NBox W0 wr.heap.size (.string op') (.string tx') (.slice X' n' m') by rw [← hW0]; exact NBox.fresh _ _ _ _ _)
   have B0 := hid (show KBlk W0 w.heap.size ((ks.take k).map (fun t => (f t).1) ++ List.replicate (ks.length - k) 0) by rw [← hW0]; exact HB.out.call (below_alloc wr _))
   have HC := hid (HF.out k hkl2 op' tx' X' n' m' W0 L0.out (hk'.keep (fun g h => h) (fun p hp => by rw [← hW0]; exact (below_alloc wr _).cell (Nat.lt_of_lt_of_le (HS.out _ hp) hsz))))
   have HS2 := hid (map_take (fun t => (f t).1) ks k hkl2)
   have HBAD := hid (fun h => each_bad f ks k hkl2 HNO.out h)
   have HNO2 := hid (fun (h : (f ks[k]).2 = 0) => show ∀ (j : Nat) (hj : j < ks.length), j < k + 1 → (f ks[j]).2 = 0 from fun j hj h2 => if e : j = k then by subst e; exact h else HNO.out j hj (by omega))
   obtain ⟨r, hr⟩ : ∃ r, f ks[k] = r := ⟨_, rfl⟩
   rw [hr] at HC HS2 HBAD HNO2
   obtain ⟨rk, re⟩ := r
   dsimp only at HC HS2 HBAD HNO2
   have HE := hid (show ((ks.take k).map (fun t => (f t).1) ++ List.replicate (ks.length - k) 0).set k rk = (ks.take (k + 1)).map (fun t => (f t).1) ++ List.replicate (ks.length - (k + 1)) 0 by
    have e := kfill_set ((ks.take k).map (fun t => (f t).1)) (ks.length - k) (by omega) rk
    rw [HX.out, Nat.sub_sub] at e
    rw [e, HS2.out])
   have hz0 : w.heap.size < W0.heap.size := B0.out.lt
   have HW0 := hid hW0
   have bi0 : (0 : Int) ≤ (k : Int) := by omega
   have bi1 : (k : Int) < (ks.length : Int) := by omega
   clear hk' hS' hW0 hr
   go_upto_region 5 with fail
   rw [HW0.out]
   clear q0 q1 q2
   obtain ⟨x0, x1, x2, xf⟩ := N0.out
   go_wp2_with fail
   refine HC.out.mono ?_
   rintro e w1 ⟨rfl, hb1⟩
   have L1 := hid (L0.out.trans (hb1.mono L0.out.size))
   have B1 := hid (B0.out.call hb1)
   have hz1 := B1.out.lt
   clear hb1 x0 x1 x2 xf HC
   by_cases hre : re = 0
   ·have b0 : ∃ y, w1.cell? ⟨w.heap.size, k, none⟩ = some (.int .i64 y) := by
     have hlen : k < ((ks.take k).map (fun t => (f t).1) ++ List.replicate (ks.length - k) 0).length := by rw [List.length_append, HX.out]; simp; omega
     exact ⟨_, B1.out.cell k _ (List.getElem?_eq_getElem hlen)⟩
    obtain ⟨y, b0⟩ := b0
    have f0 := B1.out.free k
    subst hre
    have HN2 := hid (HNO2.out rfl)
    go_wp2
    go_roundw
    case rel => exact ⟨k + 1, by omega, by go_num, HN2.out, by have h := B1.out.set k rk; rw [HE.out] at h; exact h, L1.out.setCell (Nat.le_refl _) _⟩
    case measure => simp [intOf]; omega
   ·have e1 : (re != 0) = true := by simpa using hre
    have HQ := hid (HBAD.out hre)
    clear hre
    go_wp2
    go_ret2
    exact ks_bad HQ.out L1.out
  ·obtain rfl : k = ks.length := by omega
   have HQ := hid (each_ok f ks (fun j hj => HNO.out j hj hj))
   rw [List.take_length] at HB
   have HB2 := hid (show KBlk wr w.heap.size (ks.map (fun t => (f t).1)) by simpa using HB.out)
   go_wp2
   go_ret2
   exact ks_ok HQ.out (by simp) HB2.out HL.out
theorem isTruth_any (k : Int) (w : World) : Calls Tryz.prog 189 #[.int .i64 k] w fun e w' => e = .returned (.bool (truK k)) ∧ w = w' := by
 by_cases h0 : k = 0
 ·subst h0
  go_enter Tryz.func189, Tryz.ntmps189
  go_wp2
  go_ret
  exact ⟨rfl, rfl⟩
 by_cases h1 : k = 1
 ·subst h1
  go_enter Tryz.func189, Tryz.ntmps189
  go_wp2
  go_ret
  exact ⟨rfl, rfl⟩
 have e : truK k = false := by unfold truK; simp [h0, h1]
 have e0 : (k == 0) = false := by simpa using h0
 have e1 : (k == 1) = false := by simpa using h1
 rw [e]
 clear e h0 h1
 go_enter Tryz.func189, Tryz.ntmps189
 go_wp2
 go_ret
 exact ⟨rfl, rfl⟩
theorem isNumber_any (k : Int) (w : World) : Calls Tryz.prog 206 #[.int .i64 k] w fun e w' => e = .returned (.bool (numK k)) ∧ w = w' := by
 by_cases h0 : k = 0
 ·subst h0
  go_enter Tryz.func206, Tryz.ntmps206
  go_wp2
  go_ret
  exact ⟨rfl, rfl⟩
 by_cases h1 : k = 2
 ·subst h1
  go_enter Tryz.func206, Tryz.ntmps206
  go_wp2
  go_ret
  exact ⟨rfl, rfl⟩
 by_cases h2 : k = 3
 ·subst h2
  go_enter Tryz.func206, Tryz.ntmps206
  go_wp2
  go_ret
  exact ⟨rfl, rfl⟩
 have e : numK k = false := by unfold numK; simp [h0, h1, h2]
 have e0 : (k == 0) = false := by simpa using h0
 have e1 : (k == 2) = false := by simpa using h1
 have e2 : (k == 3) = false := by simpa using h2
 rw [e]
 clear e h0 h1 h2
 go_enter Tryz.func206, Tryz.ntmps206
 go_wp2
 go_ret
 exact ⟨rfl, rfl⟩
def AskI (fn : Nat) (cps : Array Value) (p : Int → Bool) (w : World) : Prop :=
 ∀ (k : Int) (w' : World), Below w.heap.size w w' → Calls Tryz.prog fn (#[.int .i64 k] ++ cps) w' fun e w'' => e = .returned (.bool (p k)) ∧ Below w'.heap.size w' w''
theorem truth_ask (w : World) : AskI 189 #[] truK w := fun k w' _ => (isTruth_any k w').mono fun e w'' h => ⟨h.1, h.2 ▸ Below.refl _ _⟩
theorem number_ask (w : World) : AskI 206 #[] numK w := fun k w' _ => (isNumber_any k w').mono fun e w'' h => ⟨h.1, h.2 ▸ Below.refl _ _⟩
theorem AskI.later {fn : Nat} {cps : Array Value} {p : Int → Bool} {w w' : World} (h : AskI fn cps p w) (hb : Below w.heap.size w w') : AskI fn cps p w' := fun k w'' hb2 => h k w'' (hb.trans (hb2.mono hb.size))
theorem any_no {l : List Int} {p : Int → Bool} (h : ∀ j (hj : j < l.length), p l[j] = false) : l.any p = false := by
 rw [List.any_eq_false]
 intro x hx
 obtain ⟨j, hj, rfl⟩ := List.getElem_of_mem hx
 rw [h j hj]
 decide
theorem any_yes {l : List Int} {p : Int → Bool} {i : Nat} (hi : i < l.length) (h : p l[i] = true) : l.any p = true := List.any_eq_true.2 ⟨_, List.getElem_mem hi, h⟩
theorem kindexF_any (fn : Nat) (en : ∀ args w, (callFunc fn args).run Tryz.prog w = .ok (.enter fn args) w) (cps : Array Value) (p : Int → Bool) (A : Option Addr) (cap : Nat) (l : List Int) (w : World) (hv : Ints w w.heap.size A l) (hl : l.length ≤ 2600000000000) (ha : AskI fn cps p w) :
  Calls Tryz.prog 230 #[.slice A l.length cap, .func (.func fn) #[] cps] w fun e w' => ∃ z : Int, e = .returned (.int .i64 z) ∧ decide (0 ≤ z) = l.any p ∧ Below w.heap.size w w' := by
 have HV := hid hv
 have HA := hid ha
 clear hv ha
 go_enter Tryz.func230, Tryz.ntmps230
 go_wp2
 go_loopw [8] (fun t wr => ∃ i : Nat, i ≤ l.length ∧ t = .int .i64 i ∧ (∀ j (hj : j < l.length), j < i → p l[j] = false) ∧ Below w.heap.size w wr) (fun t _ => l.length - (intOf t).toNat)
 case atStart => exact ⟨0, by omega, rfl, fun j _ h => absurd h (by omega), Below.refl _ _⟩
 case round =>
  obtain ⟨i, hi, rfl, hno, hbel⟩ := hrel
  have HL := hid hbel
  have HNO := hid hno
  have VA := hid (HV.out.below hbel)
  clear hbel hno
  by_cases hil : i < l.length
  ·obtain ⟨ad, rfl, ga, c0⟩ := VA.out i hil
   have HN2 := hid (fun (h : p l[i] = false) => show ∀ j (hj : j < l.length), j < i + 1 → p l[j] = false from fun j hj h2 => if e : j = i then by subst e; exact h else HNO.out j hj (by omega))
   have HY := hid (fun (h : p l[i] = true) => any_yes hil h)
   obtain ⟨x, hx⟩ : ∃ x, l[i] = x := ⟨_, rfl⟩
   rw [hx] at c0 HN2 HY
   have HC := hid (HA.out x wr HL.out)
   obtain ⟨b, hb⟩ : ∃ b, p x = b := ⟨_, rfl⟩
   rw [hb] at HC HY HN2
   clear hx hb
   go_wp2_with fail
   refine HC.out.mono ?_
   rintro e w1 ⟨rfl, hb1⟩
   have L1 := hid (HL.out.trans (hb1.mono HL.out.size))
   clear hb1 HC c0
   cases b
   ·go_wp2
    go_roundw
    case rel => exact ⟨i + 1, by omega, by go_num, HN2.out (by first | exact rfl | exact trivial), L1.out⟩
    case measure => simp [intOf]; omega
   ·have HI := hid (HY.out (by first | exact rfl | exact trivial))
    go_wp2
    go_ret
    exact ⟨_, rfl, by rw [HI.out]; simp, L1.out⟩
  ·obtain rfl : i = l.length := by omega
   have HI := hid (any_no (p := p) (fun j hj => HNO.out j hj hj))
   go_wp2
   go_ret
   exact ⟨_, rfl, by rw [HI.out]; rfl, HL.out⟩
theorem kcontF_any (fn : Nat) (en : ∀ args w, (callFunc fn args).run Tryz.prog w = .ok (.enter fn args) w) (cps : Array Value) (p : Int → Bool) (A : Option Addr) (cap : Nat) (l : List Int) (w : World) (hv : Ints w w.heap.size A l) (hl : l.length ≤ 2600000000000) (ha : AskI fn cps p w) :
  Calls Tryz.prog 208 #[.slice A l.length cap, .func (.func fn) #[] cps] w fun e w' => e = .returned (.bool (l.any p)) ∧ Below w.heap.size w w' := by
 have HI := hid (kindexF_any fn en cps p A cap l w hv hl ha)
 obtain ⟨b, hb⟩ : ∃ b, l.any p = b := ⟨_, rfl⟩
 rw [hb] at HI
 rw [hb]
 clear hv ha hb hl
 go_enter Tryz.func208, Tryz.ntmps208
 go_wp2_with fail
 refine HI.out.mono ?_
 rintro e w1 ⟨z, rfl, hz, hb1⟩
 have L1 := hid hb1
 clear hb1
 go_wp2
 go_ret
 exact ⟨rfl, L1.out⟩
theorem all_ask (fn : Nat) (en : ∀ args w, (callFunc fn args).run Tryz.prog w = .ok (.enter fn args) w) (cps : Array Value) (p : Int → Bool) (g : Nat) (w : World) (hc : w.cell? ⟨g, 0, none⟩ = some (.func (.func fn) #[] cps)) (hg : g < w.heap.size) (ha : AskI fn cps p w) : AskI 209 #[.pointer (some ⟨g, 0, none⟩)] (fun k => !p k) w := by
 intro k w1 hb
 have c0 := (hb.cell (p := ⟨g, 0, none⟩) hg).trans hc
 have HC := hid (ha k w1 hb)
 obtain ⟨b, hbe⟩ : ∃ b, p k = b := ⟨_, rfl⟩
 rw [hbe] at HC
 dsimp only
 rw [hbe]
 clear hb ha hbe
 go_enter Tryz.func209, Tryz.ntmps209
 go_wp2_with fail
 refine HC.out.mono ?_
 rintro e w2 ⟨rfl, hb2⟩
 have L1 := hid hb2
 clear hb2
 go_wp2
 go_ret
 exact ⟨rfl, L1.out⟩
theorem all_not (l : List Int) (p : Int → Bool) : (!l.any fun k => !p k) = l.all p := by
 induction l with
 | nil => rfl
 | cons x l ih =>
  rw [List.any_cons, List.all_cons, ← ih]
  cases p x <;> simp
theorem all_any (fn : Nat) (en : ∀ args w, (callFunc fn args).run Tryz.prog w = .ok (.enter fn args) w) (cps : Array Value) (p : Int → Bool) (A : Option Addr) (cap : Nat) (l : List Int) (w : World) (hv : Ints w w.heap.size A l) (hl : l.length ≤ 2600000000000) (ha : AskI fn cps p w) :
  Calls Tryz.prog 188 #[.slice A l.length cap, .func (.func fn) #[] cps] w fun e w' => e = .returned (.bool (l.all p)) ∧ Below w.heap.size w w' := by
 obtain ⟨w0, hw0⟩ : ∃ w0, w.alloc (.cells #[.func (.func fn) #[] cps] 114) = w0 := ⟨_, rfl⟩
 have B0 := hid (show Below w.heap.size w w0 by rw [← hw0]; exact below_alloc w _)
 have c0 : w0.cell? ⟨w.heap.size, 0, none⟩ = some (.func (.func fn) #[] cps) := by rw [← hw0]; simp
 have HI := hid (kcontF_any 209 (enters_of Tryz.func209 (by kernel_rfl) rfl) #[.pointer (some ⟨w.heap.size, 0, none⟩)] (fun k => !p k) A cap l w0 ((hv.below B0.out).more B0.out.size) hl (all_ask fn en cps p w.heap.size w0 c0 (by rw [← hw0]; simp) (ha.later B0.out)))
 have HE := hid (all_not l p)
 obtain ⟨b, hb⟩ : ∃ b, (l.any fun k => !p k) = b := ⟨_, rfl⟩
 rw [hb] at HI HE
 rw [← HE.out]
 have HW0 := hid hw0
 clear hv ha hb hl hw0 c0 HE
 go_enter Tryz.func188, Tryz.ntmps188
 go_upto_region 1 with fail
 rw [HW0.out]
 go_wp2_with fail
 refine HI.out.mono ?_
 rintro e w1 ⟨rfl, hb1⟩
 have L1 := hid (B0.out.trans (hb1.mono B0.out.size))
 clear hb1
 go_wp2
 go_ret
 exact ⟨rfl, L1.out⟩
theorem kindex_any (k : Int) (A : Option Addr) (cap : Nat) (l : List Int) (w : World) (hv : Ints w w.heap.size A l) (hl : l.length ≤ 2600000000000) :
  Calls Tryz.prog 231 #[.slice A l.length cap, .int .i64 k] w fun e w' => ∃ z : Int, e = .returned (.int .i64 z) ∧ decide (0 ≤ z) = l.any (fun x => k == x) ∧ w = w' := by
 have HV := hid hv
 clear hv
 go_enter Tryz.func231, Tryz.ntmps231
 go_wp2
 go_loopw [8] (fun t wr => ∃ i : Nat, i ≤ l.length ∧ t = .int .i64 i ∧ (∀ j (hj : j < l.length), j < i → (k == l[j]) = false) ∧ w = wr) (fun t _ => l.length - (intOf t).toNat)
 case atStart => exact ⟨0, by omega, rfl, fun j _ h => absurd h (by omega), rfl⟩
 case round =>
  obtain ⟨i, hi, rfl, hno, rfl⟩ := hrel
  have HNO := hid hno
  clear hno
  by_cases hil : i < l.length
  ·obtain ⟨ad, rfl, ga, c0⟩ := HV.out i hil
   have HN2 := hid (fun (h : (k == l[i]) = false) => show ∀ j (hj : j < l.length), j < i + 1 → (k == l[j]) = false from fun j hj h2 => if e : j = i then by subst e; exact h else HNO.out j hj (by omega))
   have HY := hid (fun (h : (k == l[i]) = true) => any_yes (p := fun x => k == x) hil h)
   obtain ⟨x, hx⟩ : ∃ x, l[i] = x := ⟨_, rfl⟩
   rw [hx] at c0 HN2 HY
   clear hx
   obtain ⟨b, hb⟩ : ∃ b, (k == x) = b := ⟨_, rfl⟩
   rw [hb] at HY HN2
   cases b
   ·go_wp2
    go_roundw
    case rel => exact ⟨i + 1, by omega, by go_num, HN2.out (by first | exact rfl | exact trivial), by first | exact rfl | exact trivial⟩
    case measure => simp [intOf]; omega
   ·have HI := hid (HY.out (by first | exact rfl | exact trivial))
    go_wp2
    go_ret
    exact ⟨_, rfl, by rw [HI.out]; simp, rfl⟩
  ·obtain rfl : i = l.length := by omega
   have HI := hid (any_no (p := fun x => k == x) (fun j hj => HNO.out j hj hj))
   go_wp2
   go_ret
   exact ⟨_, rfl, by rw [HI.out]; rfl, rfl⟩
theorem kcont_any (k : Int) (A : Option Addr) (cap : Nat) (l : List Int) (w : World) (hv : Ints w w.heap.size A l) (hl : l.length ≤ 2600000000000) :
  Calls Tryz.prog 210 #[.slice A l.length cap, .int .i64 k] w fun e w' => e = .returned (.bool (l.any fun x => k == x)) ∧ w = w' := by
 have HI := hid (kindex_any k A cap l w hv hl)
 obtain ⟨b, hb⟩ : ∃ b, (l.any fun x => k == x) = b := ⟨_, rfl⟩
 rw [hb] at HI
 rw [hb]
 clear hv hb hl
 go_enter Tryz.func210, Tryz.ntmps210
 go_wp2_with fail
 refine HI.out.mono ?_
 rintro e w1 ⟨z, rfl, hz, rfl⟩
 go_wp2
 go_ret
 exact ⟨rfl, rfl⟩
def widestK (l : List Int) : Int := l.foldl (fun a k => if widerB k a = true then k else a) 0
theorem widest_take (l : List Int) (i : Nat) (h : i < l.length) : widestK (l.take (i + 1)) = if widerB l[i] (widestK (l.take i)) = true then l[i] else widestK (l.take i) := by
 unfold widestK
 rw [List.take_succ_eq_append_getElem h, List.foldl_append]
 rfl
theorem cwider_any (A : Option Addr) (cap : Nat) (l : List Int) (w : World) (hv : Ints w w.heap.size A l) (hl : l.length ≤ 2600000000000) :
  Calls Tryz.prog 207 #[.slice A l.length cap] w fun e w' => e = .returned (.int .i64 (widestK l)) ∧ w = w' := by
 have HV := hid hv
 clear hv
 go_enter Tryz.func207, Tryz.ntmps207
 go_wp2
 go_loopw [3, 8] (fun a t wr => ∃ i : Nat, i ≤ l.length ∧ t = .int .i64 i ∧ a = .int .i64 (widestK (l.take i)) ∧ w = wr) (fun _ t _ => l.length - (intOf t).toNat)
 case atStart => exact ⟨0, by omega, rfl, rfl, rfl⟩
 case round =>
  obtain ⟨i, hi, rfl, rfl, rfl⟩ := hrel
  by_cases hil : i < l.length
  ·obtain ⟨ad, rfl, ga, c0⟩ := HV.out i hil
   have HT := hid (widest_take l i hil)
   obtain ⟨x, hx⟩ : ∃ x, l[i] = x := ⟨_, rfl⟩
   obtain ⟨a, ha⟩ : ∃ a, widestK (l.take i) = a := ⟨_, rfl⟩
   rw [hx] at c0 HT
   rw [ha] at HT ⊢
   have HC := hid (Val.wider_any x a w)
   obtain ⟨b, hb⟩ : ∃ b, widerB x a = b := ⟨_, rfl⟩
   rw [hb] at HT HC
   clear hx ha hb
   go_wp2_with fail
   refine HC.out.mono ?_
   rintro e w1 ⟨rfl, rfl⟩
   cases b
   ·go_wp2
    go_roundw
    case rel => exact ⟨i + 1, by omega, by go_num, by rw [HT.out]; rfl, by first | exact rfl | exact trivial⟩
    case measure => simp [intOf]; omega
   ·go_wp2
    go_roundw
    case rel => exact ⟨i + 1, by omega, by go_num, by rw [HT.out]; rfl, by first | exact rfl | exact trivial⟩
    case measure => simp [intOf]; omega
  ·obtain rfl : i = l.length := by omega
   rw [List.take_length]
   go_wp2
   go_ret
   exact ⟨rfl, rfl⟩
theorem cnumber_any (A : Option Addr) (cap : Nat) (l : List Int) (w : World) (hv : Ints w w.heap.size A l) (hl : l.length ≤ 2600000000000) :
  Calls Tryz.prog 187 #[.slice A l.length cap] w fun e w' => e = .returned (.tuple #[.int .i64 (if l.all numK = true then widestK l else 0), .int .i64 (if l.all numK = true then 0 else 131)]) ∧ Below w.heap.size w w' := by
 have HI := hid (all_any 206 (enters_of Tryz.func206 (by kernel_rfl) rfl) #[] numK A cap l w hv hl (number_ask w))
 have HW := hid (fun (w' : World) (hb : Below w.heap.size w w') => cwider_any A cap l w' ((hv.below hb).more hb.size) hl)
 obtain ⟨b, hb⟩ : ∃ b, l.all numK = b := ⟨_, rfl⟩
 rw [hb] at HI ⊢
 clear hv hb hl
 cases b
 ·go_enter Tryz.func187, Tryz.ntmps187
  go_wp2_with fail
  refine HI.out.mono ?_
  rintro e w1 ⟨rfl, hb1⟩
  have L1 := hid hb1
  clear hb1
  go_wp2
  go_ret2
  exact ⟨rfl, L1.out⟩
 ·go_enter Tryz.func187, Tryz.ntmps187
  go_wp2_with fail
  refine HI.out.mono ?_
  rintro e w1 ⟨rfl, hb1⟩
  have L1 := hid hb1
  clear hb1
  go_wp2_with fail
  refine (HW.out w1 L1.out).mono ?_
  rintro e w2 ⟨rfl, rfl⟩
  go_wp2
  go_ret2
  exact ⟨rfl, L1.out⟩
theorem alike_ask (h : Int) (A : Option Addr) (n cap g : Nat) (w : World) (hc : w.cell? ⟨g, 0, none⟩ = some (.slice A n cap)) (hg : g < w.heap.size) (hn : 0 < n) (ha : ∃ ad : Addr, A = some ad ∧ ad.block < w.heap.size ∧ w.cell? (ad.add 0) = some (.int .i64 h)) : AskI 211 #[.pointer (some ⟨g, 0, none⟩)] (fun k => k == h) w := by
 intro k w1 hb
 obtain ⟨ad, rfl, hlt, c1⟩ := ha
 have c0 := (hb.cell (p := ⟨g, 0, none⟩) hg).trans hc
 have c2 := (hb.cell (p := ad.add 0) (by rw [add_block]; exact hlt)).trans c1
 rw [show ad.add 0 = ad by simp [Addr.add]] at c2
 have B0 := hid (Below.refl w1.heap.size w1)
 obtain ⟨b, hbe⟩ : ∃ b, (k == h) = b := ⟨_, rfl⟩
 dsimp only
 rw [hbe]
 clear hb c1 hc
 go_enter Tryz.func211, Tryz.ntmps211
 go_wp2
 go_ret
 exact ⟨by simp [hbe], B0.out⟩
def alikeK (l : List Int) : Bool := (l.any fun x => (0 : Int) == x) || l.all numK || l.all fun k => k == l.getD 0 0
theorem alike_any (A : Option Addr) (cap : Nat) (l : List Int) (w : World) (hv : Ints w w.heap.size A l) (hl : l.length ≤ 2600000000000) :
  Calls Tryz.prog 190 #[.slice A l.length cap] w fun e w' => e = .returned (.bool (alikeK l)) ∧ Below w.heap.size w w' := by
 obtain ⟨w0, hw0⟩ : ∃ w0, w.alloc (.cells #[.slice A l.length cap] 134) = w0 := ⟨_, rfl⟩
 have B0 := hid (show Below w.heap.size w w0 by rw [← hw0]; exact below_alloc w _)
 have c0 : w0.cell? ⟨w.heap.size, 0, none⟩ = some (.slice A l.length cap) := by rw [← hw0]; simp
 have hz : w.heap.size < w0.heap.size := by rw [← hw0]; simp
 have V0 := hid ((hv.below B0.out).more B0.out.size)
 have HC := hid (kcont_any 0 A cap l w0 V0.out hl)
 have HI := hid (all_any 206 (enters_of Tryz.func206 (by kernel_rfl) rfl) #[] numK A cap l w0 V0.out hl (number_ask w0))
 have HX := hid (fun (w' : World) (hb : Below w0.heap.size w0 w') (hpos : 0 < l.length) => all_any 211 (enters_of Tryz.func211 (by kernel_rfl) rfl) #[.pointer (some ⟨w.heap.size, 0, none⟩)] (fun k => k == l.getD 0 0) A cap l w' ((V0.out.below hb).more hb.size) hl
  (alike_ask (l.getD 0 0) A l.length cap w.heap.size w' ((hb.cell (p := ⟨w.heap.size, 0, none⟩) hz).trans c0) (Nat.lt_of_lt_of_le hz hb.size) hpos (by
   obtain ⟨ad, e, h1, h2⟩ := (V0.out.below hb).more hb.size 0 hpos
   refine ⟨ad, e, h1, ?_⟩
   rw [h2, List.getD_eq_getElem?_getD, List.getElem?_eq_getElem hpos]
   rfl)))
 have HP := hid (show l.all numK = false → 0 < l.length by cases l with | nil => intro h; cases h | cons x l => intro _; simp)
 have HE := hid (show alikeK l = ((l.any fun x => (0 : Int) == x) || l.all numK || l.all fun k => k == l.getD 0 0) from rfl)
 obtain ⟨a, ha⟩ : ∃ a, (l.any fun x => (0 : Int) == x) = a := ⟨_, rfl⟩
 obtain ⟨b, hb⟩ : ∃ b, l.all numK = b := ⟨_, rfl⟩
 obtain ⟨c, hc⟩ : ∃ c, (l.all fun k => k == l.getD 0 0) = c := ⟨_, rfl⟩
 rw [ha] at HC HE
 rw [hb] at HI HE HP
 rw [hc] at HX HE
 rw [HE.out]
 have HW0 := hid hw0
 clear hv ha hb hc hw0 HE hl
 cases a
 ·go_enter Tryz.func190, Tryz.ntmps190
  go_upto_region 1 with fail
  rw [HW0.out]
  go_wp2_with fail
  refine HC.out.mono ?_
  rintro e w1 ⟨rfl, rfl⟩
  go_wp2_with fail
  refine HI.out.mono ?_
  rintro e w1 ⟨rfl, hb1⟩
  have L1 := hid hb1
  have d0 := (hb1.cell (p := ⟨w.heap.size, 0, none⟩) hz).trans c0
  clear hb1
  cases b
  ·have HPO := hid (HP.out (by first | exact rfl | exact trivial))
   go_wp2_with fail
   refine (HX.out w1 L1.out HPO.out).mono ?_
   rintro e w2 ⟨rfl, hb2⟩
   have L2 := hid (B0.out.trans ((L1.out.trans (hb2.mono L1.out.size)).mono B0.out.size))
   clear hb2
   go_wp2
   go_ret
   exact ⟨by simp, L2.out⟩
  ·have L2 := hid (B0.out.trans (L1.out.mono B0.out.size))
   go_wp2
   go_ret
   exact ⟨by simp, L2.out⟩
 ·go_enter Tryz.func190, Tryz.ntmps190
  go_upto_region 1 with fail
  rw [HW0.out]
  go_wp2_with fail
  refine HC.out.mono ?_
  rintro e w1 ⟨rfl, rfl⟩
  go_wp2
  go_ret
  exact ⟨by simp, B0.out⟩
def NLs (w : World) (S : Nat → Prop) (A : Option Addr) (ks : List Nod) : Prop := ∀ (k : Nat) (hk : k < ks.length), ∃ (ad : Addr) (y : NV), A = some ad ∧ S ad.block ∧ w.cell? (ad.add (k * 3)) = some (.string y.1) ∧ w.cell? ⟨(ad.add (k * 3)).block, (ad.add (k * 3)).off + 1, none⟩ = some (.string y.2.1) ∧ w.cell? ⟨(ad.add (k * 3)).block, (ad.add (k * 3)).off + 2, none⟩ = some (.slice y.2.2.1 y.2.2.2.1 y.2.2.2.2) ∧ RIn w S ks[k] y
theorem RIn.nls {w : World} {S : Nat → Prop} {t : Nod} {x : NV} (h : RIn w S t x) : NLs w S x.2.2.1 t.ks := fun k hk => h.kid k hk
theorem NLs.keep {w w' : World} {S S' : Nat → Prop} {A : Option Addr} {ks : List Nod} (h : NLs w S A ks) (hS : ∀ g, S g → S' g) (hk : ∀ p : Addr, S p.block → w'.cell? p = w.cell? p) : NLs w' S' A ks := by
 intro k hlt
 obtain ⟨ad, y, e, hs, c0, c1, c2, h0⟩ := h k hlt
 have hb : S (ad.add (k * 3)).block := by rw [add_block]; exact hs
 exact ⟨ad, y, e, hS _ hs, (hk _ hb).trans c0, (hk ⟨(ad.add (k * 3)).block, (ad.add (k * 3)).off + 1, none⟩ hb).trans c1, (hk ⟨(ad.add (k * 3)).block, (ad.add (k * 3)).off + 2, none⟩ hb).trans c2, h0.keep hS hk⟩
theorem NLs.bel {w w' : World} {S : Nat → Prop} {A : Option Addr} {ks : List Nod} (h : NLs w S A ks) (hS : ∀ g, S g → g < w.heap.size) (hb : Below w.heap.size w w') : NLs w' S A ks := h.keep (fun _ h => h) (fun p hp => hb.cell (hS _ hp))
theorem paddr_add (a : Addr) (m n : Nat) : (a.add m).add n = a.add (m + n) := by
 by_cases hn : n = 0
 ·subst hn
  simp [Addr.add]
 ·by_cases hm : m = 0
  ·subst hm
   simp [Addr.add]
  ·simp [Addr.add, hn, hm, Nat.add_assoc]
theorem NLs.drop {w : World} {S : Nat → Prop} {ad : Addr} {ks : List Nod} (h : NLs w S (some ad) ks) (c : Nat) : NLs w S (some (ad.add (c * 3))) (ks.drop c) := by
 intro k hk
 rw [List.length_drop] at hk
 obtain ⟨ad', y, e, hs, c0, c1, c2, hr⟩ := h (c + k) (by omega)
 cases e
 have e : (ad.add (c * 3)).add (k * 3) = ad.add ((c + k) * 3) := by rw [paddr_add, Nat.add_mul]
 refine ⟨_, y, rfl, by rw [add_block]; exact hs, ?_, ?_, ?_, ?_⟩
 ·rw [e]; exact c0
 ·rw [e]; exact c1
 ·rw [e]; exact c2
 ·rw [List.getElem_drop]; exact hr
def AskN (fn : Nat) (cps : Array Value) (p : Nod → Bool) (w : World) : Prop :=
 ∀ (t : Nod) (S : Nat → Prop) (op tx : ByteArray) (X : Option Addr) (n k : Nat) (w' : World), Below w.heap.size w w' → (∀ g, S g → g < w'.heap.size) → RIn w' S t (op, tx, X, n, k) →
  Calls Tryz.prog fn (#[.agg #[.string op, .string tx, .slice X n k]] ++ cps) w' fun e w'' => e = .returned (.bool (p t)) ∧ Below w'.heap.size w' w''
theorem AskN.later {fn : Nat} {cps : Array Value} {p : Nod → Bool} {w w' : World} (h : AskN fn cps p w) (hb : Below w.heap.size w w') : AskN fn cps p w' := fun t S op tx X n k w'' hb2 => h t S op tx X n k w'' (hb.trans (hb2.mono hb.size))
theorem anyN_no {l : List Nod} {p : Nod → Bool} (h : ∀ j (hj : j < l.length), p l[j] = false) : l.any p = false := by
 rw [List.any_eq_false]
 intro x hx
 obtain ⟨j, hj, rfl⟩ := List.getElem_of_mem hx
 rw [h j hj]
 decide
theorem anyN_yes {l : List Nod} {p : Nod → Bool} {i : Nat} (hi : i < l.length) (h : p l[i] = true) : l.any p = true := List.any_eq_true.2 ⟨_, List.getElem_mem hi, h⟩
theorem indexN_any (fn : Nat) (en : ∀ args w, (callFunc fn args).run Tryz.prog w = .ok (.enter fn args) w) (cps : Array Value) (p : Nod → Bool) (A : Option Addr) (cap : Nat) (l : List Nod) (S : Nat → Prop) (w : World) (hS : ∀ g, S g → g < w.heap.size) (hv : NLs w S A l) (hl : l.length ≤ 2600000000000) (ha : AskN fn cps p w) :
  Calls Tryz.prog 191 #[.slice A l.length cap, .func (.func fn) #[] cps] w fun e w' => ∃ z : Int, e = .returned (.int .i64 z) ∧ decide (0 ≤ z) = l.any p ∧ Below w.heap.size w w' := by
 have HV := hid hv
 have HA := hid ha
 have HS := hid hS
 clear hv ha hS
 go_enter Tryz.func191, Tryz.ntmps191
 go_wp2
 go_loopw [8] (fun t wr => ∃ i : Nat, i ≤ l.length ∧ t = .int .i64 i ∧ (∀ j (hj : j < l.length), j < i → p l[j] = false) ∧ Below w.heap.size w wr) (fun t _ => l.length - (intOf t).toNat)
 case atStart => exact ⟨0, by omega, rfl, fun j _ h => absurd h (by omega), Below.refl _ _⟩
 case round =>
  obtain ⟨i, hi, rfl, hno, hbel⟩ := hrel
  have HL := hid hbel
  have HNO := hid hno
  have VA := hid (HV.out.bel HS.out hbel)
  have hz := hbel.size
  clear hbel hno
  by_cases hil : i < l.length
  ·obtain ⟨ad, ⟨op, tx, X, n, m⟩, rfl, ga, c0, c1, c2, hr⟩ := VA.out i hil
   dsimp only at c0 c1 c2
   have HN2 := hid (fun (h : p l[i] = false) => show ∀ j (hj : j < l.length), j < i + 1 → p l[j] = false from fun j hj h2 => if e : j = i then by subst e; exact h else HNO.out j hj (by omega))
   have HY := hid (fun (h : p l[i] = true) => anyN_yes hil h)
   have HC := hid (HA.out l[i] S op tx X n m wr HL.out (fun g h => Nat.lt_of_lt_of_le (HS.out g h) hz) hr)
   obtain ⟨b, hb⟩ : ∃ b, p l[i] = b := ⟨_, rfl⟩
   rw [hb] at HC HY HN2
   clear hb hr
   go_wp2_with fail
   refine HC.out.mono ?_
   rintro e w1 ⟨rfl, hb1⟩
   have L1 := hid (HL.out.trans (hb1.mono HL.out.size))
   clear hb1 HC c0 c1 c2
   cases b
   ·go_wp2
    go_roundw
    case rel => exact ⟨i + 1, by omega, by go_num, HN2.out (by first | exact rfl | exact trivial), L1.out⟩
    case measure => simp [intOf]; omega
   ·have HI := hid (HY.out (by first | exact rfl | exact trivial))
    go_wp2
    go_ret
    exact ⟨_, rfl, by rw [HI.out]; simp, L1.out⟩
  ·obtain rfl : i = l.length := by omega
   have HI := hid (anyN_no (p := p) (fun j hj => HNO.out j hj hj))
   go_wp2
   go_ret
   exact ⟨_, rfl, by rw [HI.out]; rfl, HL.out⟩
theorem contN_any (fn : Nat) (en : ∀ args w, (callFunc fn args).run Tryz.prog w = .ok (.enter fn args) w) (cps : Array Value) (p : Nod → Bool) (A : Option Addr) (cap : Nat) (l : List Nod) (S : Nat → Prop) (w : World) (hS : ∀ g, S g → g < w.heap.size) (hv : NLs w S A l) (hl : l.length ≤ 2600000000000) (ha : AskN fn cps p w) :
  Calls Tryz.prog 155 #[.slice A l.length cap, .func (.func fn) #[] cps] w fun e w' => e = .returned (.bool (l.any p)) ∧ Below w.heap.size w w' := by
 have HI := hid (indexN_any fn en cps p A cap l S w hS hv hl ha)
 obtain ⟨b, hb⟩ : ∃ b, l.any p = b := ⟨_, rfl⟩
 rw [hb] at HI
 rw [hb]
 clear hv ha hb hl hS
 go_enter Tryz.func155, Tryz.ntmps155
 go_wp2_with fail
 refine HI.out.mono ?_
 rintro e w1 ⟨z, rfl, hz, hb1⟩
 have L1 := hid hb1
 clear hb1
 go_wp2
 go_ret
 exact ⟨rfl, L1.out⟩
theorem allN_ask (fn : Nat) (en : ∀ args w, (callFunc fn args).run Tryz.prog w = .ok (.enter fn args) w) (cps : Array Value) (p : Nod → Bool) (g : Nat) (w : World) (hc : w.cell? ⟨g, 0, none⟩ = some (.func (.func fn) #[] cps)) (hg : g < w.heap.size) (ha : AskN fn cps p w) : AskN 156 #[.pointer (some ⟨g, 0, none⟩)] (fun k => !p k) w := by
 intro t S op tx X n k w1 hb hS hn
 obtain ⟨w2, hw2⟩ : ∃ w2, w1.alloc (.cells #[.string op, .string tx, .slice X n k] 24) = w2 := ⟨_, rfl⟩
 have B2 := hid (show Below w1.heap.size w1 w2 by rw [← hw2]; exact below_alloc w1 _)
 have N2 := hid (show NBox w2 w1.heap.size (.string op) (.string tx) (.slice X n k) by rw [← hw2]; exact NBox.fresh _ _ _ _ _)
 have c0 := ((B2.out.cell (p := ⟨g, 0, none⟩) (Nat.lt_of_lt_of_le hg hb.size)).trans (hb.cell (p := ⟨g, 0, none⟩) hg)).trans hc
 have HC := hid (ha t S op tx X n k w2 (hb.trans (B2.out.mono hb.size)) (fun g h => Nat.lt_of_lt_of_le (hS g h) B2.out.size) (hn.bel hS B2.out))
 obtain ⟨b, hbe⟩ : ∃ b, p t = b := ⟨_, rfl⟩
 rw [hbe] at HC
 dsimp only
 rw [hbe]
 have HW2 := hid hw2
 clear hb ha hbe hS hn hw2
 go_enter Tryz.func156, Tryz.ntmps156
 go_upto_region 1 with fail
 rw [HW2.out]
 obtain ⟨x0, x1, x2, xf⟩ := N2.out
 go_wp2_with fail
 refine HC.out.mono ?_
 rintro e w3 ⟨rfl, hb2⟩
 have L1 := hid (B2.out.trans (hb2.mono B2.out.size))
 clear hb2 x0 x1 x2 xf c0
 go_wp2
 go_ret
 exact ⟨rfl, L1.out⟩
theorem allN_not (l : List Nod) (p : Nod → Bool) : (!l.any fun k => !p k) = l.all p := by
 induction l with
 | nil => rfl
 | cons x l ih =>
  rw [List.any_cons, List.all_cons, ← ih]
  cases p x <;> simp
theorem allN_any (fn : Nat) (en : ∀ args w, (callFunc fn args).run Tryz.prog w = .ok (.enter fn args) w) (cps : Array Value) (p : Nod → Bool) (A : Option Addr) (cap : Nat) (l : List Nod) (S : Nat → Prop) (w : World) (hS : ∀ g, S g → g < w.heap.size) (hv : NLs w S A l) (hl : l.length ≤ 2600000000000) (ha : AskN fn cps p w) :
  Calls Tryz.prog 87 #[.slice A l.length cap, .func (.func fn) #[] cps] w fun e w' => e = .returned (.bool (l.all p)) ∧ Below w.heap.size w w' := by
 obtain ⟨w0, hw0⟩ : ∃ w0, w.alloc (.cells #[.func (.func fn) #[] cps] 64) = w0 := ⟨_, rfl⟩
 have B0 := hid (show Below w.heap.size w w0 by rw [← hw0]; exact below_alloc w _)
 have c0 : w0.cell? ⟨w.heap.size, 0, none⟩ = some (.func (.func fn) #[] cps) := by rw [← hw0]; simp
 have hS0 : ∀ g, S g → g < w0.heap.size := fun g h => Nat.lt_of_lt_of_le (hS g h) B0.out.size
 have HI := hid (contN_any 156 (enters_of Tryz.func156 (by kernel_rfl) rfl) #[.pointer (some ⟨w.heap.size, 0, none⟩)] (fun k => !p k) A cap l S w0 hS0 (hv.bel hS B0.out) hl (allN_ask fn en cps p w.heap.size w0 c0 (by rw [← hw0]; simp) (ha.later B0.out)))
 have HE := hid (allN_not l p)
 obtain ⟨b, hb⟩ : ∃ b, (l.any fun k => !p k) = b := ⟨_, rfl⟩
 rw [hb] at HI HE
 rw [← HE.out]
 have HW0 := hid hw0
 clear hv ha hb hl hw0 c0 HE hS hS0
 go_enter Tryz.func87, Tryz.ntmps87
 go_upto_region 1 with fail
 rw [HW0.out]
 go_wp2_with fail
 refine HI.out.mono ?_
 rintro e w1 ⟨rfl, hb1⟩
 have L1 := hid (B0.out.trans (hb1.mono B0.out.size))
 clear hb1
 go_wp2
 go_ret
 exact ⟨rfl, L1.out⟩
end Go.Proofs.YthpmgnfmeldkjaaGreatDoor.Code
/-
  Queries of words: words ahead, and words behind, do not matter. No program is named here.
-/
namespace Go.Proofs.YthpmgnfmeldkjaaGreatDoor.Code
open Val
section
variable (A L : List V) (i : Nat) (b : Bool)
end
section
variable {L L' : List V}
end
def m0 : Mode → Nat
 | .loop _ a => a.deep
 | .test a => a.deep
 | _ => 1
theorem deep_pos (t : Tr) : 1 ≤ t.deep := by cases t <;> simp [Tr.deep]
theorem m0_pos (m : Mode) : 1 ≤ m0 m := by cases m <;> first | exact Nat.le_refl _ | exact deep_pos _
theorem deep_one (o : List UInt8) (a : Tr) : (Tr.one o a).deep = a.deep + 1 := rfl
theorem deep_two (o : List UInt8) (a b : Tr) : (Tr.two o a b).deep = max a.deep b.deep + 1 := rfl
theorem deep_leaf (o x : List UInt8) : (Tr.leaf o x).deep = 1 := rfl
theorem P_deep (L : List V) : ∀ (f : Nat) (m : Mode) (i : Nat) (b : Bool), i ≤ L.length → (P L f m i b).1.deep + i ≤ m0 m + (P L f m i b).2.1
 | 0, m, i, b, _ => by
  have := m0_pos m
  show 1 + i ≤ m0 m + i
  omega
 | f + 1, .expr l, i, b, h => by
  rw [P]
  split
  ·exact P_deep L f .sign i b h
  split
  ·split
   ·rename_i hs
    have h1 := isW_lt hs
    have ih := P_deep L f (.expr 3) (i + 1) b (by omega)
    simp only [m0, deep_one] at ih ⊢
    omega
   ·exact P_deep L f (.expr 4) i b h
  split
  ·have ih := P_deep L f (.expr 5) i b h
   have he := P_ends L f (.expr 5) i b h
   have ih2 := P_deep L f (.test (P L f (.expr 5) i b).1) (P L f (.expr 5) i b).2.1 (P L f (.expr 5) i b).2.2 he.2.1
   simp only [m0] at ih ih2 ⊢
   omega
  ·have ih := P_deep L f (.expr (l + 1)) i b h
   have he := P_ends L f (.expr (l + 1)) i b h
   have ih2 := P_deep L f (.loop l (P L f (.expr (l + 1)) i b).1) (P L f (.expr (l + 1)) i b).2.1 (P L f (.expr (l + 1)) i b).2.2 he.2.1
   simp only [m0] at ih ih2 ⊢
   omega
 | f + 1, .loop l a, i, b, h => by
  rw [P]
  split
  ·simp only [m0]; omega
  ·rename_i ho
   obtain ⟨h1, h2⟩ := oneL_lt ho
   have ih := P_deep L f (.expr (l + 1)) (i + 1) b (by omega)
   have he := P_ends L f (.expr (l + 1)) (i + 1) b (by omega)
   have ih2 := P_deep L f (.loop l (.two (oneL L i b (opsL l)) a (P L f (.expr (l + 1)) (i + 1) b).1)) (P L f (.expr (l + 1)) (i + 1) b).2.1 (P L f (.expr (l + 1)) (i + 1) b).2.2 he.2.1
   have hp := deep_pos a
   simp only [m0, deep_two] at ih ih2 ⊢
   omega
 | f + 1, .test a, i, b, h => by
  have hp := deep_pos a
  rw [P]
  split
  ·split
   ·rename_i hs
    have h1 := isW_lt hs
    split
    ·simp only [m0, deep_one]; omega
    ·simp only [m0, deep_one]; omega
   ·simp only [m0]; omega
  ·rename_i ho
   obtain ⟨h1, h2⟩ := oneL_lt ho
   have ih := P_deep L f (.expr 5) (i + 1) b (by omega)
   have he := P_ends L f (.expr 5) (i + 1) b (by omega)
   simp only [m0, deep_two] at ih ⊢
   omega
 | f + 1, .sign, i, b, h => by
  rw [P]
  split
  ·rename_i hs
   have h1 := isW_lt hs
   have ih := P_deep L f .sign (i + 1) b (by omega)
   simp only [m0, deep_one] at ih ⊢
   omega
  split
  ·rename_i hs
   have h1 := isW_lt hs
   have ih := P_deep L f (.expr 1) (i + 1) b (by omega)
   split
   ·simp only [m0] at ih ⊢; omega
   ·simp only [m0] at ih ⊢; omega
  split
  ·split
   ·split
    ·simp only [m0, deep_leaf]; omega
    ·show 1 + i ≤ 1 + i; omega
   split
   ·simp only [m0, deep_leaf]; omega
   split
   ·simp only [m0, deep_leaf]; omega
   ·simp only [m0, deep_leaf]; omega
  ·simp only [m0, deep_leaf]; omega
theorem run_fig {p : UInt8 → Bool} : ∀ (s : List UInt8), ∀ c ∈ s.take (runL p s), p c = true
 | [], c, h => by simp at h
 | d :: s, c, h => by
  by_cases hd : p d = true
  ·rw [runL, if_pos hd, List.take_succ_cons] at h
   rcases List.mem_cons.1 h with rfl | h
   ·exact hd
   ·exact run_fig s c h
  ·rw [runL, if_neg hd] at h
   simp at h
theorem came_fig {l : List W} (h : CameB l) : ∀ w ∈ l, w.1 = 1 → (∀ c ∈ w.2.1, figB c = true) ∧ w.2.1.length ≤ 19 := by
 intro w hw hk
 have hf := h w hw
 rw [hk, show showW 1 w.2.1 = w.2.1 from rfl] at hf
 rcases first_cases hf with ⟨c, r, _, _, e, _⟩ | ⟨c, r, e1, e2, e3, _, ht, hn, hn2⟩ | ⟨r, _, e, _⟩ | ⟨c, d, r, _, _, _, _, _, e, _⟩ | ⟨c, r, _, _, _, _, _, _, e, _⟩
 ·exact absurd e (by decide)
 ·refine ⟨fun c hc => ?_, hn2⟩
  rw [ht] at hc
  exact run_fig _ c hc
 ·exact absurd e (by decide)
 ·exact absurd e (by decide)
 ·exact absurd e (by decide)
theorem words_len (s : List UInt8) : ∀ (i : Int) (l : List W), wordsL s i = .ok l → l.length ≤ s.length := by
 refine words_way (Q := fun s => ∀ (i : Int) (l : List W), wordsL s i = .ok l → l.length ≤ s.length) ?_ ?_ ?_ ?_ s
 ·intro i l h; cases h; exact Nat.le_refl _
 ·intro c s hb ih i l h
  rw [wordsL_blank hb] at h
  have := ih _ l h
  simp only [List.length_cons]
  omega
 ·intro c s hb hf i l h
  rw [wordsL_none hb hf] at h
  cases h
 ·intro c s k t n hf ih i l h
  have hn := first_n hf
  rw [wordsL_one hf] at h
  cases hw : wordsL ((c :: s).drop n) (i + n) with
  | error j' => rw [hw] at h; cases h
  | ok l' =>
   rw [hw] at h
   cases h
   have := ih _ l' hw
   rw [List.length_drop] at this
   simp only [List.length_cons] at this hn ⊢
   omega
def topQ (L : List V) : Res := qq L (L.length + 1) 0 false
def parseQW (n : Nat) (l : List W) : Nod × Int × Int :=
 if l = [] then (zeroN, n, 91)
 else if (topQ (bare l)).2.2 = true ∨ (topQ (bare l)).2.1 < l.length then (zeroN, placeL n l (topQ (bare l)).2.1, 91)
 else if 16 < (topQ (bare l)).1.deep then (zeroN, 0, 92)
 else ((topQ (bare l)).1, 0, 0)
def parseQ (s : List UInt8) : Nod × Int × Int := match wordsL s 0 with | .error j => (zeroN, j, 81) | .ok l => parseQW s.length l
theorem topQ_le (L : List V) : (topQ L).2.1 ≤ L.length := (qq_ends L (L.length + 1) 0 false (Nat.zero_le _)).2.1
theorem op_ne {s : List UInt8} (hs : s ∈ opsQ) : s ≠ [] := by
 intro e
 subst e
 revert hs
 decide
abbrev RuleR := Int × List Int × Bool
def tblE : List (List UInt8 × RuleR) :=
 [(sOr, 0, [0, 1], false), (sAnd, 1, [1, 2], false), (sNot, 2, [2], false), ([61], 3, [4, 4], false), ([60, 62], 3, [4, 4], false), ([60], 3, [4, 4], false), ([60, 61], 3, [4, 4], false), ([62], 3, [4, 4], false), ([62, 61], 3, [4, 4], false), (sIsNull, 3, [4], false),
  ([43], 4, [4, 5], false), ([45], 4, [4, 5], false), ([42], 5, [5, 6], false), (sNeg, 6, [7], false), (sNum, 7, [], true), (sText, 7, [], true), (sCol, 7, [], true), (sTrue, 7, [], false), (sFalse, 7, [], false), (sNull, 7, [], false)]
def lookE (k : List UInt8) : List (List UInt8 × RuleR) → Option RuleR
 | [] => none
 | p :: l => if k = p.1 then some p.2 else lookE k l
def ruleE (k : List UInt8) : Option RuleR := lookE k tblE
theorem look_mem {k : List UInt8} {r : RuleR} : ∀ {l : List (List UInt8 × RuleR)}, lookE k l = some r → (k, r) ∈ l
 | [], h => by cases h
 | p :: l, h => by
  rw [lookE] at h
  split at h
  ·rename_i e
   cases h
   subst e
   exact List.mem_cons_self ..
  ·exact List.mem_cons_of_mem _ (look_mem h)
theorem look_none {k : List UInt8} : ∀ {l : List (List UInt8 × RuleR)}, lookE k l = none → ∀ p ∈ l, k ≠ p.1
 | [], _, p, hp => by cases hp
 | q :: l, h, p, hp => by
  rw [lookE] at h
  split at h
  ·cases h
  ·rename_i e
   rcases List.mem_cons.1 hp with rfl | hp
   ·exact e
   ·exact look_none h p hp
def rE (op tx : List UInt8) (n : Nat) : Option RuleR :=
 match ruleE op with
 | none => none
 | some r => if n = r.2.1.length ∧ (tx = [] ∨ r.2.2 = true) then some r else none
def lvE (t : Nod) : Int := match rE t.op t.tx t.ks.length with | some r => r.1 | none => 7
def kdE (al : Int) (p : List UInt8 × Int) : List UInt8 := if al ≤ p.2 then p.1 else 40 :: (p.1 ++ [41])
def sayE (op tx : List UInt8) (ls : List Int) : List (List UInt8 × Int) → List UInt8
 | [] => if op = sText then showL 4 0 ⟨tx.toArray⟩ else if op = sNum ∨ op = sCol then tx else op
 | [a] => if op = sNeg then 45 :: kdE (ls.getD 0 0) a else if op = sNot then [110, 111, 116, 32] ++ kdE (ls.getD 0 0) a else kdE (ls.getD 0 0) a ++ [32, 105, 115, 32, 110, 117, 108, 108]
 | a :: b :: _ => kdE (ls.getD 0 0) a ++ (32 :: (op ++ [32])) ++ kdE (ls.getD 1 0) b
mutual
def showE : Nod → List UInt8
 | .mk op tx ks => match rE op tx ks.length with
  | none => [63]
  | some r => sayE op tx r.2.1 (showEs ks)
def showEs : List Nod → List (List UInt8 × Int)
 | [] => []
 | t :: l => (showE t, lvE t) :: showEs l
end
theorem showE_good {op tx : List UInt8} {ks : List Nod} {r : RuleR} (h : rE op tx ks.length = some r) : showE (.mk op tx ks) = sayE op tx r.2.1 (showEs ks) := by rw [showE, h]
theorem rule_few {op : List UInt8} {r : RuleR} (h : ruleE op = some r) : r.2.1.length ≤ 2 ∧ op.length ≤ 100 := by
 have := look_mem h
 have hall : ∀ p ∈ tblE, p.2.2.1.length ≤ 2 ∧ p.1.length ≤ 100 := by decide
 exact hall _ this
end Go.Proofs.YthpmgnfmeldkjaaGreatDoor.Code
