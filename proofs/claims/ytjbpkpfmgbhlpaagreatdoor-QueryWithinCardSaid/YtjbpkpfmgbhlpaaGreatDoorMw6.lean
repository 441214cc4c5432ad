/-
  How deep a node with any Kids is nested, as the document reckons it, and the program.
-/
import Derived.Test.YtjbpkpfmgbhlpaaGreatDoorMw5
import Derived.Deep.RegionHeld3
import Derived.Test.YtjbpkpfmgbhlpaaGreatDoorMw3
namespace Go.Proofs.YtjbpkpfmgbhlpaaGreatDoor.Code
open Go.ChangeShapes Go.WideShapes Go.ChangeAt Go.RowKit Val Elems
set_option linter.unusedVariables false
set_option linter.unusedSimpArgs false
theorem deepL_snoc (x : Nod) : ∀ l : List Nod, Nod.deepL (l ++ [x]) = max (Nod.deepL l) x.deep
 | [] => by simp [Nod.deepL]
 | t :: l => by
  show max t.deep (Nod.deepL (l ++ [x])) = max (max t.deep (Nod.deepL l)) x.deep
  rw [deepL_snoc x l, Nat.max_assoc]
theorem deepL_take : ∀ (l : List Nod) (k : Nat), Nod.deepL (l.take k) ≤ Nod.deepL l
 | [], k => by simp
 | t :: l, 0 => Nat.zero_le _
 | t :: l, k + 1 => by
  show max t.deep (Nod.deepL (l.take k)) ≤ max t.deep (Nod.deepL l)
  have := deepL_take l k
  omega
theorem deepL_mem {x : Nod} : ∀ {l : List Nod}, x ∈ l → x.deep ≤ Nod.deepL l
 | [], h => absurd h (by simp)
 | t :: l, h => by
  show _ ≤ max t.deep (Nod.deepL l)
  rcases List.mem_cons.1 h with rfl | h
  ·exact Nat.le_max_left _ _
  ·exact Nat.le_trans (deepL_mem h) (Nat.le_max_right _ _)
theorem deep_ks (t : Nod) : t.deep = Nod.deepL t.ks + 1 := by cases t; rfl
set_option maxHeartbeats 8000000 in
set_option maxRecDepth 100000 in
theorem edeepN_any : ∀ (d : Nat) (t : Nod), t.deep ≤ d → d ≤ 1000000000 → ∀ (S : Nat → Prop) (op tx : ByteArray) (X : Option Addr) (n m : Nat) (w : World), (∀ g, S g → g < w.heap.size) → RIn w S t (op, tx, X, n, m) →
  Calls Tryz.prog 22 #[.agg #[.string op, .string tx, .slice X n m]] w fun e w' => e = .returned (.int .i64 t.deep) ∧ Below w.heap.size w w'
 | 0, t, h, _, _, _, _, _, _, _, _, _, _ => absurd h (by rw [deep_ks]; omega)
 | d + 1, t, h, hd, S, op, tx, X, n, m, w, hS, hn => by
  have ih := Lib.hid (fun k (hk : k < t.ks.length) => edeepN_any d t.ks[k] (by have := deepL_mem (List.getElem_mem hk); rw [deep_ks] at h; omega) (by omega))
  rw [deep_ks] at h ⊢
  have hNod.deepL : Nod.deepL t.ks ≤ d := by omega
  obtain ⟨-, -, en, hkl⟩ := hn.texts
  dsimp only at en
  have HS := Lib.hid hS
  subst en
  have HN := Lib.hid hn
  clear h hS hn
  go_enter Tryz.func22, Tryz.ntmps22
  go_wp2
  go_loopw [3, 9] (fun v t' wr => ∃ k : Nat, k ≤ t.ks.length ∧ t' = .int .i64 k ∧ v = .int .i64 (Nod.deepL (t.ks.take k)) ∧ Below w.heap.size w wr) (fun _ t' _ => t.ks.length - (intOf t').toNat)
  case atStart => exact ⟨0, by omega, rfl, rfl, (Below.refl _ _).alloc (Nat.le_refl _) _⟩
  case round =>
   obtain ⟨k, hk, rfl, rfl, hb⟩ := hrel
   have HB := Lib.hid hb
   have hz := hb.size
   have HK := Lib.hid (HN.out.bel HS.out hb)
   clear hb
   by_cases hlt : k < t.ks.length
   ·obtain ⟨ad, ⟨op', tx', X', n', m'⟩, eA, hS', q0, q1, q2, hk'⟩ := HK.out.kid k hlt
    dsimp only at eA q0 q1 q2
    subst eA
    have hKK := Lib.hid hk'
    have had := HS.out _ hS'
    have hdk : Nod.deepL (t.ks.take k) ≤ Nod.deepL t.ks := deepL_take _ _
    have hdx : t.ks[k].deep ≤ Nod.deepL t.ks := deepL_mem (List.getElem_mem hlt)
    have hdt : Nod.deepL (t.ks.take (k + 1)) = max (Nod.deepL (t.ks.take k)) t.ks[k].deep := by rw [List.take_succ_eq_append_getElem hlt, deepL_snoc]
    have HDT := Lib.hid hdt
    clear hk' hdt
    go_wp2_with fail
    refine (ih.out k hlt S op' tx' X' n' m' _ (fun g hg => by have := HS.out g hg; simp; omega) (hKK.out.alloc (fun g hg => Nat.lt_of_lt_of_le (HS.out g hg) hz) _)).mono ?_
    rintro e w1 ⟨rfl, hb1⟩
    have HB1 := Lib.hid ((HB.out.alloc hz _).trans (hb1.mono (by simp; omega)))
    clear hb1 q0 q1 q2
    go_wp2
    go_roundw
    case rel => exact ⟨k + 1, by omega, by go_num, by rw [HDT.out]; simp; omega, HB1.out⟩
    case measure => simp [intOf]; omega
   ·obtain rfl : k = t.ks.length := by omega
    rw [List.take_length]
    go_wp2
    go_ret
    exact ⟨by simp, HB.out⟩
def ParseQPost (w : World) (res : Nod × Int × Int) (e : Ending) (w' : World) : Prop :=
 ∃ (op tx : ByteArray) (X : Option Addr) (n m : Nat), e = .returned (.tuple #[.agg #[.string op, .string tx, .slice X n m], .int .i64 res.2.1, .int .i64 res.2.2]) ∧ RIn w' (New w w') res.1 (op, tx, X, n, m) ∧ Below w.heap.size w w'
def SaysSameN (fn : Nat) (x : Nod) : Prop := ∀ (S : Nat → Prop) (op tx : ByteArray) (X : Option Addr) (n m : Nat) (op' tx' : ByteArray) (X' : Option Addr) (n' m' : Nat) (w : World), (∀ g, S g → g < w.heap.size) → RIn w S x (op, tx, X, n, m) → RIn w S x (op', tx', X', n', m') →
  Calls Tryz.prog fn #[.agg #[.string op, .string tx, .slice X n m], .agg #[.string op', .string tx', .slice X' n' m']] w (SamePost w true)
set_option maxHeartbeats 16000000 in
set_option maxRecDepth 100000 in
theorem eequalN_yes (x : Nod) (ih : ∀ k (hk : k < x.ks.length), SaysSameN 21 x.ks[k]) (N : Nat) (hN : x.ks.length = N) (S : Nat → Prop) (op tx : ByteArray) (X : Option Addr) (m : Nat) (op' tx' : ByteArray) (X' : Option Addr) (m' : Nat) (w : World) (hS : ∀ g, S g → g < w.heap.size) (hx : RIn w S x (op, tx, X, N, m)) (hy : RIn w S x (op', tx', X', N, m')) :
  Calls Tryz.prog 39 #[.slice X N m, .slice X' N m', .func (.func 21) #[] #[]] w (SamePost w true) := by
 have hkx := hx.texts.2.2.2
 have HS := Lib.hid hS
 have HX := Lib.hid hx
 have HY := Lib.hid hy
 have IH := Lib.hid ih
 rw [hN] at hkx
 clear hS hx hy ih
 go_enter Tryz.func39, Tryz.ntmps39
 go_wp2
 go_loopw [17] (fun t wr => ∃ k : Nat, k ≤ N ∧ t = .int .i64 k ∧ Below w.heap.size w wr) (fun t _ => N - (intOf t).toNat)
 case atStart => exact ⟨0, by omega, rfl, Below.refl _ _⟩
 case round =>
  obtain ⟨k, hk, rfl, hb⟩ := hrel
  have HB := Lib.hid hb
  have hz := hb.size
  have KX := Lib.hid (HX.out.bel HS.out hb)
  have KY := Lib.hid (HY.out.bel HS.out hb)
  clear hb
  by_cases hlt : k < N
  ·obtain ⟨ad, ⟨op1, tx1, X1, n1, m1⟩, eA, hS1, p0, p1, p2, hk1⟩ := KX.out.kid k (by omega)
   dsimp only at eA p0 p1 p2
   subst eA
   obtain ⟨bd, ⟨op2, tx2, X2, n2, m2⟩, eA, hS2, q0, q1, q2, hk2⟩ := KY.out.kid k (by omega)
   dsimp only at eA q0 q1 q2
   subst eA
   have za0 : ad.block < wr.heap.size := by have := HS.out _ hS1; omega
   have zb0 : bd.block < wr.heap.size := by have := HS.out _ hS2; omega
   have za : (ad.add (k * 3)).block < wr.heap.size := by rw [add_block]; exact za0
   have zb : (bd.add (k * 3)).block < wr.heap.size := by rw [add_block]; exact zb0
   have hc := fun w' (h : Below wr.heap.size wr w') => IH.out k (by omega) S op1 tx1 X1 n1 m1 op2 tx2 X2 n2 m2 w' (fun g hg => by have := HS.out g hg; have := h.size; omega) (hk1.bel (fun g hg => by have := HS.out g hg; omega) h) (hk2.bel (fun g hg => by have := HS.out g hg; omega) h)
   unfold SamePost at hc
   have HC := Lib.hid hc
   clear hc hk1 hk2 hS1 hS2
   have L2 := Lib.hid (((Below.refl wr.heap.size wr).alloc (Nat.le_refl _) (.cells #[.string op1, .string tx1, .slice X1 n1 m1] 25)).alloc (by simp) (.cells #[.string op2, .string tx2, .slice X2 n2 m2] 25))
   go_wp2_with fail
   refine (HC.out _ L2.out).mono ?_
   rintro e w5 ⟨rfl, hb5⟩
   have M := Lib.hid (bnext L2.out L2.out.size hb5)
   clear hb5 p0 p1 p2 q0 q1 q2
   go_wp2
   go_roundw
   case rel => exact ⟨k + 1, by omega, by go_num, bnext HB.out hz M.out⟩
   case measure => simp [intOf]; omega
  ·obtain rfl : k = N := by omega
   go_wp2
   go_ret
   exact ⟨rfl, HB.out⟩
set_option maxHeartbeats 16000000 in
set_option maxRecDepth 100000 in
theorem esameN_any : ∀ (d : Nat) (x : Nod), x.deep ≤ d → SaysSameN 21 x
 | 0, x, h => absurd h (by rw [deep_ks]; omega)
 | d + 1, x, h => by
  intro S op tx X n m op' tx' X' n' m' w hS hx hy
  have ih := fun k (hk : k < x.ks.length) => esameN_any d x.ks[k] (by have := deepL_mem (List.getElem_mem hk); rw [deep_ks] at h; omega)
  obtain ⟨a1, a2, a3, a4⟩ := hx.texts
  obtain ⟨b1, b2, b3, b4⟩ := hy.texts
  dsimp only at a1 a2 a3 b1 b2 b3
  have ho : op = op' := by rw [a1, b1]
  have ht : tx = tx' := by rw [a2, b2]
  subst ho ht a3 b3
  clear a1 a2 b1 b2 b4
  obtain ⟨N, hN⟩ : ∃ N, x.ks.length = N := ⟨_, rfl⟩
  rw [hN] at hx hy
  have hkx := hx.texts.2.2.2
  rw [hN] at hkx
  have HE := Lib.hid (fun w' (hb : Below w.heap.size w w') => eequalN_yes x ih N hN S op tx X m op tx X' m' w' (fun g hg => Nat.lt_of_lt_of_le (hS g hg) hb.size) (hx.bel hS hb) (hy.bel hS hb))
  rw [hN]
  unfold SamePost at HE
  clear h hS hx hy ih
  go_enter Tryz.func21, Tryz.ntmps21
  obtain ⟨w0, hw0⟩ : ∃ w0, (w.alloc (.cells #[.string op, .string tx, .slice X N m] 25)).alloc (.cells #[.string op, .string tx, .slice X' N m'] 25) = w0 := ⟨_, rfl⟩
  have B0 := Lib.hid (show Below w.heap.size w w0 by rw [← hw0]; exact ((Below.refl _ _).alloc (Nat.le_refl _) _).alloc (by simp) _)
  have N0 := Lib.hid (show NBox w0 w.heap.size (.string op) (.string tx) (.slice X N m) by rw [← hw0]; exact (NBox.fresh _ _ _ _ _).alloc _)
  have N1 := Lib.hid (show NBox w0 (w.heap.size + 1) (.string op) (.string tx) (.slice X' N m') by
   rw [← hw0, show w.heap.size + 1 = (w.alloc (.cells #[.string op, .string tx, .slice X N m] 25)).heap.size by simp]; exact NBox.fresh _ _ _ _ _)
  obtain ⟨x0, x1, x2, xf⟩ := N0.out
  obtain ⟨y0, y1, y2, yf⟩ := N1.out
  go_wp2_with fail
  try rw [hw0]
  refine (HE.out _ B0.out).mono ?_
  rintro e w5 ⟨rfl, hb5⟩
  have M := Lib.hid (bnext B0.out B0.out.size hb5)
  clear hb5 x0 x1 x2 xf y0 y1 y2 yf
  go_wp2
  go_ret
  exact ⟨rfl, M.out⟩
theorem info_strQ : (Tryz.prog.info? 9).map (fun i => (i.zero, i.size, i.bytes)) = some (some (.string ByteArray.empty), 1, 16) := by kernel_rfl
theorem sc_one : ∀ s : List UInt8, ∀ u ∈ sc s, u.oneCell' = true := by
 intro s u hu
 simp [sc] at hu
 subst hu
 rfl
theorem leavess_take (l : List Nod) (k : Nat) : (leavessQ (l.take k)).length ≤ (leavessQ l).length := by
 induction l generalizing k with
 | nil => simp [leavessQ]
 | cons n l ih =>
  cases k with
  | zero => simp [leavessQ]
  | succ k =>
   have := ih k
   simp only [List.take_succ_cons, leavessQ, List.length_append]
   omega
theorem leaves_is (t : Nod) : leavesQ t = (if t.op = sFrom then [t.tx] else []) ++ leavessQ t.ks := by
 cases t with
 | mk o x ks => exact leavesQ.eq_1 o x ks
theorem leavess_mem {x : Nod} : ∀ {l : List Nod}, x ∈ l → (leavesQ x).length ≤ (leavessQ l).length
 | [], h => absurd h (by simp)
 | t :: l, h => by
  simp only [leavessQ, List.length_append]
  rcases List.mem_cons.1 h with rfl | h
  ·omega
  ·have := leavess_mem h
   omega
set_option maxHeartbeats 16000000 in
set_option maxRecDepth 100000 in
theorem pleaves_any : ∀ (d : Nat) (t : Nod), t.deep ≤ d → ∀ (S : Nat → Prop) (op tx : ByteArray) (X : Option Addr) (n m : Nat) (w : World) (B : Nat), B ≤ w.heap.size → ∀ (Q : List (List UInt8)) (v : Value), w.ownsRow B 9 1 v Q.length (flatC sc Q) → (∀ g, S g → g < B) → RIn w S t (op, tx, X, n, m) → Q.length + (leavesQ t).length ≤ 100000000 →
  Calls Tryz.prog 38 #[v, .agg #[.string op, .string tx, .slice X n m]] w fun e w' => ∃ v', e = .returned v' ∧ w'.ownsRow B 9 1 v' (Q ++ leavesQ t).length (flatC sc (Q ++ leavesQ t)) ∧ Below B w w'
 | 0, t, h, _, _, _, _, _, _, _, _, _, _, _, _, _, _, _ => absurd h (by rw [deep_ks]; omega)
 | d + 1, t, h, S, op, tx, X, n, m, w, B, hBw, Q, v, hv, hS, hn, hln => by
  have hlv := leaves_is t
  have ih := Lib.hid (fun k (hk : k < t.ks.length) => pleaves_any d t.ks[k] (by have := deepL_mem (List.getElem_mem hk); rw [deep_ks] at h; omega))
  have ihl := Lib.hid (fun k (hk : k < t.ks.length) => (leavess_mem (List.getElem_mem hk) : (leavesQ t.ks[k]).length ≤ (leavessQ t.ks).length))
  obtain ⟨eo, et, en, hkl⟩ := hn.texts
  dsimp only at eo et en
  obtain ⟨i0, hi0, hz0, hz1, hz2⟩ := info_parts info_strQ
  obtain ⟨P0, hP0⟩ : ∃ P0, Q ++ (if t.op = sFrom then [t.tx] else []) = P0 := ⟨_, rfl⟩
  have hlv2 : Q ++ leavesQ t = P0 ++ leavessQ t.ks := by rw [hlv, ← List.append_assoc, hP0]
  have HS := Lib.hid hS
  have HLV := Lib.hid hlv2
  have HLN := Lib.hid (show P0.length + (leavessQ t.ks).length ≤ 100000000 by rw [← List.length_append, ← hlv2, List.length_append]; exact hln)
  subst en
  have HN := Lib.hid hn
  have HV := Lib.hid hv
  obtain ⟨w0, hw0⟩ : ∃ w0, w.alloc (.cells #[.string op, .string tx, .slice X t.ks.length m] 25) = w0 := ⟨_, rfl⟩
  have N0 := Lib.hid (show NBox w0 w.heap.size (.string op) (.string tx) (.slice X t.ks.length m) by rw [← hw0]; exact NBox.fresh _ _ _ _ _)
  have B0 := Lib.hid (show Below B w w0 by rw [← hw0]; exact (Below.refl _ _).alloc hBw _)
  have O0 := Lib.hid (show w0.ownsRow B 9 1 v Q.length (flatC sc Q) by rw [← hw0]; exact own_call hv (below_alloc _ _))
  have zw0 : w0.heap.size = w.heap.size + 1 := by rw [← hw0]; simp
  have HW0 := Lib.hid hw0
  by_cases hf : t.op = sFrom
  ·rw [if_pos hf] at hP0
   have ho : op = ⟨#[102, 114, 111, 109]⟩ := by rw [eo, hf]; rfl
   subst ho
   have HP0 := Lib.hid (show P0.length = Q.length + 1 by rw [← hP0]; simp)
   have HPQ := Lib.hid hP0
   have HT := Lib.hid et
   have hqs : Q.length ≤ 100000000 := by omega
   clear h hln hS hn hlv hlv2 hP0 eo et hf hw0 hv
   go_enter Tryz.func38, Tryz.ntmps38
   go_wp2_with (at_builtin; rw [HW0.out]; refine wpList_append_lies _ rfl _ _ _ rfl B 9 i0 _ 1 16 Tryz.underlying42 hi0 hz0 hz1 hz2 rfl (by omega) _ Q.length (flatC sc Q) rfl ?ca ⟨w.heap.size + 1, 0, none⟩ 1 1 [.string tx] rfl rfl ?cn ?co (by omega) ?cm ?cb ?cz9 (w.heap.size + 1 + 1) ?ch ?_)
   case ca => exact own_call O0.out (below_alloc _ _)
   case cn => exact World.news_of_block (cs := #[.string tx]) (t := 9) (fr := (0, 0)) (by rw [← zw0]; exact heap_alloc_new w0 _)
   case co =>
    intro u hu
    simp at hu
    subst hu
    rfl
   case cm => unfold maxLen; omega
   case cb => omega
   case cz9 => simp; omega
   case ch => simp [zw0]
   intro gg cap9 w9 hown9 hgrow hat hlt9
   have hrow : ∀ k, v.ownBlock = some k → B ≤ k := fun k e => (O0.out.lt k e).1
   have B1 := Lib.hid (show Below B w w9 from B0.out.trans (((Below.refl B w0).alloc (by omega) _).trans ⟨hgrow.os, hgrow.tape, hgrow.output, hgrow.size, fun j hj => hgrow.block j (by simp; omega) (fun e => by have := hrow j e.symm; omega)⟩))
   have Z1 : w.heap.size < w9.heap.size := by have := hgrow.size; simp at this; omega
   have N1 := Lib.hid ((N0.out.alloc (.cells #[.string tx] 9)).grown hgrow (fun e => by have := (HV.out.lt _ e).2; omega))
   have O1 := Lib.hid (show w9.ownsRow B 9 1 (.slice (some ⟨gg, 0, none⟩) (Q.length + 1) cap9) (P0 ++ leavessQ (t.ks.take 0)).length (flatC sc (P0 ++ leavessQ (t.ks.take 0))) by
    have e : P0 ++ leavessQ (t.ks.take 0) = Q ++ [t.tx] := by simp [leavessQ, HPQ.out]
    rw [e, flatC_append]
    have e2 : flatC sc [t.tx] = [.string tx] := by simp [flatC, sc, ← HT.out]
    rw [e2, List.length_append]
    exact hown9)
   clear hown9 hgrow hat hlt9 HW0 hrow
   obtain ⟨x0, x1, x2, xf⟩ := N1.out
   go_wp2
   go_loopw [0, 18] (fun v t' wr => ∃ (k : Nat), k ≤ t.ks.length ∧ t' = .int .i64 k ∧ wr.ownsRow B 9 1 v (P0 ++ leavessQ (t.ks.take k)).length (flatC sc (P0 ++ leavessQ (t.ks.take k))) ∧ Below B w wr ∧ w.heap.size < wr.heap.size) (fun _ t' _ => t.ks.length - (intOf t').toNat)
   case atStart => exact ⟨0, by omega, rfl, O1.out, B1.out, Z1⟩
   case round =>
    obtain ⟨k, hk, rfl, hown, hb, hz⟩ := hrel
    have HB := Lib.hid hb
    have HO := Lib.hid hown
    have HK := Lib.hid (HN.out.keep (w' := wr) (fun _ h => h) (fun p hp => hb.cell (HS.out _ hp)))
    clear hb hown
    by_cases hlt : k < t.ks.length
    ·obtain ⟨ad, ⟨op', tx', X', n', m'⟩, eA, hS', q0, q1, q2, hk'⟩ := HK.out.kid k hlt
     dsimp only at eA q0 q1 q2
     subst eA
     have had := HS.out _ hS'
     have HDT := Lib.hid (leavessQ_take t.ks k hlt)
     have hb1 : (P0 ++ leavessQ (t.ks.take k)).length + (leavesQ t.ks[k]).length ≤ 100000000 := by
      have h1 := leavess_take t.ks (k + 1)
      rw [leavessQ_take t.ks k hlt, List.length_append] at h1
      have := HLN.out
      rw [List.length_append]
      omega
     obtain ⟨Q0, hQ0⟩ : ∃ Q0, P0 ++ leavessQ (t.ks.take k) = Q0 := ⟨_, rfl⟩
     rw [hQ0] at hb1 HO
     have HQ0 := Lib.hid hQ0
     obtain ⟨Y, hY⟩ : ∃ Y, leavesQ t.ks[k] = Y := ⟨_, rfl⟩
     obtain ⟨w6, hw6⟩ : ∃ w6, wr.alloc (.cells #[.string op', .string tx', .slice X' n' m'] 25) = w6 := ⟨_, rfl⟩
     have z6 : w6.heap.size = wr.heap.size + 1 := by rw [← hw6]; simp
     have HI := Lib.hid (fun v (hv : w6.ownsRow B 9 1 v Q0.length (flatC sc Q0)) => ih.out k hlt S op' tx' X' n' m' w6 B (by omega) Q0 v hv HS.out (hk'.keep (w' := w6) (fun _ h => h) (fun p hp => by rw [← hw6]; exact (below_alloc wr _).cell (by have := HS.out _ hp; omega))) hb1)
     rw [hY] at hb1 HI HDT
     have O6 := Lib.hid (show w6.ownsRow B 9 1 _ Q0.length (flatC sc Q0) by rw [← hw6]; exact own_call HO.out (below_alloc _ _))
     have B6 := Lib.hid (show Below B w w6 by rw [← hw6]; exact HB.out.alloc (by omega) _)
     have V6 := Lib.hid (NBox.fresh wr (.string op') (.string tx') (.slice X' n' m') 25)
     rw [hw6] at V6
     have HW6 := Lib.hid hw6
     clear hk' hQ0 hY hw6
     go_upto_region 6 with fail
     rw [HW6.out]
     clear q0 q1 q2
     obtain ⟨v0, v1, v2, vf⟩ := V6.out
     go_wp2_with fail
     refine (HI.out _ O6.out).mono ?_
     rintro e w7 ⟨v7, rfl, ho7, hb7⟩
     have O7 := Lib.hid (show w7.ownsRow B 9 1 v7 (P0 ++ leavessQ (t.ks.take (k + 1))).length (flatC sc (P0 ++ leavessQ (t.ks.take (k + 1)))) by
      rw [HDT.out, ← List.append_assoc, HQ0.out]
      exact ho7)
     have B7 := Lib.hid (B6.out.trans hb7)
     have z7 : w.heap.size < w7.heap.size := by have := hb7.size; omega
     clear ho7 hb7 v0 v1 v2 vf HI
     go_wp2
     go_roundw
     case rel => exact ⟨k + 1, by omega, by go_num, O7.out, B7.out, z7⟩
     case measure => simp [intOf]; omega
    ·obtain rfl : k = t.ks.length := by omega
     rw [List.take_length] at HO
     go_wp2
     go_ret
     exact ⟨_, rfl, by rw [HLV.out]; exact HO.out, HB.out⟩
  ·rw [if_neg hf, List.append_nil] at hP0
   have hne : op ≠ ⟨#[102, 114, 111, 109]⟩ := fun e => hf (by have h9 := eo; rw [e] at h9; have := congrArg (fun b => b.data.toList) h9; exact this.symm)
   have f2 : (op.toList == [102, 114, 111, 109]) = false := by
    have h := toList_ne hne
    rw [ByteArray.toList_eq ⟨#[102, 114, 111, 109]⟩] at h
    exact h
   have HP0 := Lib.hid (show Q.length ≤ P0.length by rw [← hP0]; exact Nat.le_refl _)
   have B1 := B0
   have Z1 : w.heap.size < w0.heap.size := by omega
   have O1 := Lib.hid (show w0.ownsRow B 9 1 v (P0 ++ leavessQ (t.ks.take 0)).length (flatC sc (P0 ++ leavessQ (t.ks.take 0))) by
    have e : P0 ++ leavessQ (t.ks.take 0) = Q := by simp [leavessQ, ← hP0]
    rw [e]
    exact O0.out)
   clear h hln hS hn hlv hlv2 hP0 eo et hf hw0 hv hne
   go_enter Tryz.func38, Tryz.ntmps38
   go_upto_region 3 with fail
   try rw [HW0.out]
   obtain ⟨x0, x1, x2, xf⟩ := N0.out
   go_wp2
   go_loopw [0, 18] (fun v t' wr => ∃ (k : Nat), k ≤ t.ks.length ∧ t' = .int .i64 k ∧ wr.ownsRow B 9 1 v (P0 ++ leavessQ (t.ks.take k)).length (flatC sc (P0 ++ leavessQ (t.ks.take k))) ∧ Below B w wr ∧ w.heap.size < wr.heap.size) (fun _ t' _ => t.ks.length - (intOf t').toNat)
   case atStart => exact ⟨0, by omega, rfl, O1.out, B1.out, Z1⟩
   case round =>
    obtain ⟨k, hk, rfl, hown, hb, hz⟩ := hrel
    have HB := Lib.hid hb
    have HO := Lib.hid hown
    have HK := Lib.hid (HN.out.keep (w' := wr) (fun _ h => h) (fun p hp => hb.cell (HS.out _ hp)))
    clear hb hown
    by_cases hlt : k < t.ks.length
    ·obtain ⟨ad, ⟨op', tx', X', n', m'⟩, eA, hS', q0, q1, q2, hk'⟩ := HK.out.kid k hlt
     dsimp only at eA q0 q1 q2
     subst eA
     have had := HS.out _ hS'
     have HDT := Lib.hid (leavessQ_take t.ks k hlt)
     have hb1 : (P0 ++ leavessQ (t.ks.take k)).length + (leavesQ t.ks[k]).length ≤ 100000000 := by
      have h1 := leavess_take t.ks (k + 1)
      rw [leavessQ_take t.ks k hlt, List.length_append] at h1
      have := HLN.out
      rw [List.length_append]
      omega
     obtain ⟨Q0, hQ0⟩ : ∃ Q0, P0 ++ leavessQ (t.ks.take k) = Q0 := ⟨_, rfl⟩
     rw [hQ0] at hb1 HO
     have HQ0 := Lib.hid hQ0
     obtain ⟨Y, hY⟩ : ∃ Y, leavesQ t.ks[k] = Y := ⟨_, rfl⟩
     obtain ⟨w6, hw6⟩ : ∃ w6, wr.alloc (.cells #[.string op', .string tx', .slice X' n' m'] 25) = w6 := ⟨_, rfl⟩
     have z6 : w6.heap.size = wr.heap.size + 1 := by rw [← hw6]; simp
     have HI := Lib.hid (fun v (hv : w6.ownsRow B 9 1 v Q0.length (flatC sc Q0)) => ih.out k hlt S op' tx' X' n' m' w6 B (by omega) Q0 v hv HS.out (hk'.keep (w' := w6) (fun _ h => h) (fun p hp => by rw [← hw6]; exact (below_alloc wr _).cell (by have := HS.out _ hp; omega))) hb1)
     rw [hY] at hb1 HI HDT
     have O6 := Lib.hid (show w6.ownsRow B 9 1 _ Q0.length (flatC sc Q0) by rw [← hw6]; exact own_call HO.out (below_alloc _ _))
     have B6 := Lib.hid (show Below B w w6 by rw [← hw6]; exact HB.out.alloc (by omega) _)
     have V6 := Lib.hid (NBox.fresh wr (.string op') (.string tx') (.slice X' n' m') 25)
     rw [hw6] at V6
     have HW6 := Lib.hid hw6
     clear hk' hQ0 hY hw6
     go_upto_region 6 with fail
     rw [HW6.out]
     clear q0 q1 q2
     obtain ⟨v0, v1, v2, vf⟩ := V6.out
     go_wp2_with fail
     refine (HI.out _ O6.out).mono ?_
     rintro e w7 ⟨v7, rfl, ho7, hb7⟩
     have O7 := Lib.hid (show w7.ownsRow B 9 1 v7 (P0 ++ leavessQ (t.ks.take (k + 1))).length (flatC sc (P0 ++ leavessQ (t.ks.take (k + 1)))) by
      rw [HDT.out, ← List.append_assoc, HQ0.out]
      exact ho7)
     have B7 := Lib.hid (B6.out.trans hb7)
     have z7 : w.heap.size < w7.heap.size := by have := hb7.size; omega
     clear ho7 hb7 v0 v1 v2 vf HI
     go_wp2
     go_roundw
     case rel => exact ⟨k + 1, by omega, by go_num, O7.out, B7.out, z7⟩
     case measure => simp [intOf]; omega
    ·obtain rfl : k = t.ks.length := by omega
     rw [List.take_length] at HO
     go_wp2
     go_ret
     exact ⟨_, rfl, by rw [HLV.out]; exact HO.out, HB.out⟩
set_option maxHeartbeats 8000000 in
set_option maxRecDepth 100000 in
theorem pLeaves_any (t : Nod) (S : Nat → Prop) (op tx : ByteArray) (X : Option Addr) (n m : Nat) (w : World) (hS : ∀ g, S g → g < w.heap.size) (hn : RIn w S t (op, tx, X, n, m)) (hln : (leavesQ t).length ≤ 100000000) :
  Calls Tryz.prog 19 #[.agg #[.string op, .string tx, .slice X n m]] w fun e w' => ∃ (A : Option Addr) (cap : Nat), e = .returned (.slice A (leavesQ t).length cap) ∧ At sc 1 w' w'.heap.size A (leavesQ t) ∧ Below w.heap.size w w' := by
 have HL := Lib.hid (fun w0 (hb : Below w.heap.size w w0) (hw : w.heap.size ≤ w0.heap.size) => pleaves_any t.deep t (Nat.le_refl _) S op tx X n m w0 w.heap.size hw [] (.slice none 0 0) (World.ownsRow_nil _ _ _ _) hS (hn.bel hS hb) (by simpa using hln))
 clear hn hS
 go_enter Tryz.func19, Tryz.ntmps19
 obtain ⟨w0, hw0⟩ : ∃ w0, w.alloc (.cells #[.string op, .string tx, .slice X n m] 25) = w0 := ⟨_, rfl⟩
 have N0 := Lib.hid (show NBox w0 w.heap.size (.string op) (.string tx) (.slice X n m) by rw [← hw0]; exact NBox.fresh _ _ _ _ _)
 have B0 := Lib.hid (show Below w.heap.size w w0 by rw [← hw0]; exact below_alloc _ _)
 have HW0 := Lib.hid hw0
 clear hw0
 obtain ⟨x0, x1, x2, xf⟩ := N0.out
 go_wp2_with fail
 try rw [HW0.out]
 refine (HL.out _ B0.out B0.out.size).mono ?_
 rintro e w1 ⟨v', rfl, ho, hb⟩
 rw [List.nil_append] at ho
 obtain ⟨A', cap', rfl, hv'⟩ := own_at sc_length ho
 have L1 := Lib.hid (B0.out.trans hb)
 have HV := Lib.hid hv'
 clear ho hb hv' x0 x1 x2 xf
 obtain ⟨N, hN⟩ : ∃ N, (leavesQ t).length = N := ⟨_, rfl⟩
 have HNN := Lib.hid hN
 rw [hN]
 go_wp2
 go_ret
 exact ⟨A', cap', congrArg (fun n9 => Ending.returned (.slice A' n9 cap')) HNN.out.symm, HV.out, L1.out⟩
end Go.Proofs.YtjbpkpfmgbhlpaaGreatDoor.Code
/-
  The walk of QueryWithin, with the program's Parse, Leaves and the live question by their contracts.
-/
namespace Go.Proofs.YtjbpkpfmgbhlpaaGreatDoor.queryWithin
open Go.ChangeShapes Go.WideShapes Go.ChangeAt Go.RowKit Val Elems Go.Proofs.YtjbpkpfmgbhlpaaGreatDoor.Code
set_option linter.unusedVariables false
set_option linter.unusedSimpArgs false
theorem size_lst (b : ByteArray) : b.size = b.data.toList.length := rfl
theorem keepB {D D' : Prop} {W w1 w2 : World} (hb : Below w1.heap.size w1 w2) (h : D ∧ Below W.heap.size W w1) (f : Below W.heap.size W w2 → D') : D' ∧ Below W.heap.size W w2 := by
 have hB := h.2.trans (hb.mono h.2.size)
 exact ⟨f hB, hB⟩
theorem kids_two {w : World} {S : Nat → Prop} {o t : List UInt8} {x y : Nod} {op tx : ByteArray} {X : Option Addr} {n k : Nat} (h : RIn w S (.mk o t [x, y]) (op, tx, X, n, k)) :
  ∃ (ad : Addr) (op1 tx1 : ByteArray) (X1 : Option Addr) (n1 k1 : Nat) (op2 tx2 : ByteArray) (X2 : Option Addr) (n2 k2 : Nat), X = some ad ∧ n = 2 ∧ S ad.block ∧ (w.cell? ad = some (.string op1) ∧ w.cell? ⟨ad.block, ad.off + 1, none⟩ = some (.string tx1) ∧ w.cell? ⟨ad.block, ad.off + 2, none⟩ = some (.slice X1 n1 k1) ∧
   w.cell? ⟨ad.block, ad.off + 3, none⟩ = some (.string op2) ∧ w.cell? ⟨ad.block, ad.off + 4, none⟩ = some (.string tx2) ∧ w.cell? ⟨ad.block, ad.off + 5, none⟩ = some (.slice X2 n2 k2)) ∧ RIn w S x (op1, tx1, X1, n1, k1) ∧ RIn w S y (op2, tx2, X2, n2, k2) := by
 have hn := h.texts.2.2.1
 obtain ⟨ad, ⟨op1, tx1, X1, n1, k1⟩, e, hs, c0, c1, c2, hk⟩ := h.kid 0 (by show 0 < 2; omega)
 obtain ⟨ad', ⟨op2, tx2, X2, n2, k2⟩, e', hs', d0, d1, d2, hk'⟩ := h.kid 1 (by show 1 < 2; omega)
 dsimp only at hn e c0 c1 c2 e' d0 d1 d2
 obtain rfl : ad = ad' := Option.some.inj (e.symm.trans e')
 have e0 : ad.add (0 * 3) = ad := by simp [Addr.add]
 have e3 : ad.add (1 * 3) = ⟨ad.block, ad.off + 3, none⟩ := by simp [Addr.add]
 rw [e0] at c0 c1 c2
 rw [e3] at d0 d1 d2
 exact ⟨ad, op1, tx1, X1, n1, k1, op2, tx2, X2, n2, k2, e, hn, hs, ⟨c0, c1, c2, d0, d1, d2⟩, hk, hk'⟩
theorem kids_one {w : World} {S : Nat → Prop} {o t : List UInt8} {x : Nod} {op tx : ByteArray} {X : Option Addr} {n k : Nat} (h : RIn w S (.mk o t [x]) (op, tx, X, n, k)) :
  ∃ (ad : Addr) (op1 tx1 : ByteArray) (X1 : Option Addr) (n1 k1 : Nat), X = some ad ∧ n = 1 ∧ S ad.block ∧ (w.cell? ad = some (.string op1) ∧ w.cell? ⟨ad.block, ad.off + 1, none⟩ = some (.string tx1) ∧ w.cell? ⟨ad.block, ad.off + 2, none⟩ = some (.slice X1 n1 k1)) ∧ RIn w S x (op1, tx1, X1, n1, k1) := by
 have hn := h.texts.2.2.1
 obtain ⟨ad, ⟨op1, tx1, X1, n1, k1⟩, e, hs, c0, c1, c2, hk⟩ := h.kid 0 (by show 0 < 1; omega)
 dsimp only at hn e c0 c1 c2
 have e0 : ad.add (0 * 3) = ad := by simp [Addr.add]
 rw [e0] at c0 c1 c2
 exact ⟨ad, op1, tx1, X1, n1, k1, e, hn, hs, ⟨c0, c1, c2⟩, hk⟩
structure WIn (w : World) (g : Nat) (t : Nod) (v : NV) : Prop where
 box : NBox w g (.string v.1) (.string v.2.1) (.slice v.2.2.1 v.2.2.2.1 v.2.2.2.2)
 rin : RIn w (fun h => h < w.heap.size) t v
theorem WIn.next {w w' : World} {g : Nat} {t : Nod} {v : NV} (h : WIn w g t v) (hb : Below w.heap.size w w') : WIn w' g t v :=
 ⟨h.box.below hb, (h.rin.bel (fun _ h => h) hb).imp (fun g hg => Nat.lt_of_lt_of_le hg hb.size)⟩
theorem WIn.made {w w1 : World} {t : Nod} {op tx : ByteArray} {X : Option Addr} {n k : Nat} (h : RIn w1 (New w w1) t (op, tx, X, n, k)) : WIn (w1.alloc (.cells #[.string op, .string tx, .slice X n k] 25)) w1.heap.size t (op, tx, X, n, k) :=
 ⟨NBox.fresh w1 _ _ _ _, (h.alloc (fun g hg => hg.2) _).imp (fun g hg => by have := hg.2; simp; omega)⟩
theorem lex_place {b : List UInt8} {y : Nod} {q : Int} (h : parseQ b = (y, q, 81)) : 0 ≤ q ∧ q < b.length := by
 have hw : wordsL b 0 = .error q := by
  unfold parseQ at h
  cases hw' : wordsL b 0 with
  | error i => rw [hw'] at h; injection h with h1 h2; injection h2 with h2 h3; rw [h2]
  | ok m =>
   rw [hw'] at h
   dsimp only at h
   unfold parseQW at h
   split at h
   ·cases h
   split at h
   ·cases h
   split at h
   ·cases h
   ·injection h with h1 h2; injection h2 with h2 h3; cases h3
 have := (words_within b 0).1 q hw
 omega
theorem facts_lex {a b : List UInt8} {x : Nod} {p : Int} {y : Nod} {q : Int} (h : parseQ a = (x, p, 0)) (h' : parseQ b = (y, q, 81)) : parseQ (sUnion ++ 40 :: (a ++ 44 :: 32 :: (b ++ [41]))) = (zeroN, q + (a.length + 8 : Nat), 81) := by
 have hp : p = 0 := by have := (parseQ_cases a).2.2; rw [h] at this; exact this rfl
 subst hp
 exact parse_union_bad a b x q h (by rw [h'])
theorem facts_good {a b : List UInt8} {x : Nod} {p : Int} {y : Nod} {q : Int} {z : Nod} {r e : Int} (h : parseQ a = (x, p, 0)) (h' : parseQ b = (y, q, 0)) (hu : parseQ (sUnion ++ 40 :: (a ++ 44 :: 32 :: (b ++ [41]))) = (z, r, e)) (he : e ≠ 92) :
  z = .mk sUnion [] [x, y] ∧ r = 0 ∧ e = 0 ∧ parseQ (sDistinct ++ 40 :: (a ++ [41])) = (.mk sDistinct [] [x], 0, 0) := by
 have hp : p = 0 := by have := (parseQ_cases a).2.2; rw [h] at this; exact this rfl
 have hq : q = 0 := by have := (parseQ_cases b).2.2; rw [h'] at this; exact this rfl
 subst hp hq
 have hU := parse_union a b x y h h'
 rw [hu] at hU
 by_cases hd : 15 < max x.deep y.deep
 ·rw [if_pos hd] at hU
  exact absurd (by injection hU with h1 h2; injection h2) he
 ·rw [if_neg hd] at hU
  injection hU with h1 h2
  injection h2 with h2 h3
  refine ⟨h1, h2, h3, ?_⟩
  rw [parse_distinct a x h, if_neg (by omega)]
theorem union_bytes (a b : ByteArray) : (⟨#[117, 110, 105, 111, 110, 40]⟩ ++ a ++ ⟨#[44, 32]⟩ ++ b ++ ⟨#[41]⟩ : ByteArray).data.toList = sUnion ++ 40 :: (a.data.toList ++ 44 :: 32 :: (b.data.toList ++ [41])) := by
 simp [ByteArray.data_append, sUnion]
theorem distinct_bytes (a : ByteArray) : (⟨#[100, 105, 115, 116, 105, 110, 99, 116, 40]⟩ ++ a ++ ⟨#[41]⟩ : ByteArray).data.toList = sDistinct ++ 40 :: (a.data.toList ++ [41]) := by
 simp [ByteArray.data_append, sDistinct]
set_option maxHeartbeats 4000000 in
set_option maxRecDepth 100000 in
theorem walk_of (a b : ByteArray) (w : World) (hsa : a.size ≤ 9223372036854775807) (hsb : b.size ≤ 9223372036854775807)
  (hA : ∀ w0, Below w.heap.size w w0 → w.heap.size ≤ w0.heap.size → Calls Tryz.prog 7 #[] w0 (fun e w' => e = .returned (.bool true) ∧ Below w0.heap.size w0 w'))
  (hP : ∀ s : ByteArray, s.size ≤ 1000 → ∀ w0, Below w.heap.size w w0 → Calls Tryz.prog 8 #[.string s] w0 (ParseQPost w0 (parseQ s.data.toList))) :
  Calls Tryz.prog 6 #[.string a, .string b] w fun e w' => e = .returned (.bool true) ∧ Below w.heap.size w w' := by
 have HA := Lib.hid hA
 clear hA
 by_cases hbig : 150 < a.size
 ·clear hP
  go_enter Tryz.func6, Tryz.ntmps6
  go_wp2_with fail
  refine (HA.out _ (Below.refl _ _) (Nat.le_refl _)).mono ?_
  rintro e w1 ⟨rfl, hb1⟩
  have L1 := Lib.hid hb1
  clear hb1
  go_wp2
  go_ret
  exact ⟨rfl, L1.out⟩
 by_cases hbig2 : 150 < b.size
 ·clear hP
  go_enter Tryz.func6, Tryz.ntmps6
  go_wp2_with fail
  refine (HA.out _ (Below.refl _ _) (Nat.le_refl _)).mono ?_
  rintro e w1 ⟨rfl, hb1⟩
  have L1 := Lib.hid hb1
  clear hb1
  go_wp2
  go_ret
  exact ⟨rfl, L1.out⟩
 have sz1 : (⟨#[117, 110, 105, 111, 110, 40]⟩ : ByteArray).size = 6 := rfl
 have sz2 : (⟨#[44, 32]⟩ : ByteArray).size = 2 := rfl
 have sz3 : (⟨#[41]⟩ : ByteArray).size = 1 := rfl
 have sz4 : (⟨#[100, 105, 115, 116, 105, 110, 99, 116, 40]⟩ : ByteArray).size = 9 := rfl
 have hUB := union_bytes a b
 have hDB := distinct_bytes a
 obtain ⟨u1, hu1⟩ : ∃ u1 : ByteArray, ⟨#[117, 110, 105, 111, 110, 40]⟩ ++ a = u1 := ⟨_, rfl⟩
 obtain ⟨u2, hu2⟩ : ∃ u2 : ByteArray, u1 ++ ⟨#[44, 32]⟩ = u2 := ⟨_, rfl⟩
 obtain ⟨u3, hu3⟩ : ∃ u3 : ByteArray, u2 ++ b = u3 := ⟨_, rfl⟩
 obtain ⟨u4, hu4⟩ : ∃ u4 : ByteArray, u3 ++ ⟨#[41]⟩ = u4 := ⟨_, rfl⟩
 obtain ⟨d1, hd1⟩ : ∃ d1 : ByteArray, ⟨#[100, 105, 115, 116, 105, 110, 99, 116, 40]⟩ ++ a = d1 := ⟨_, rfl⟩
 obtain ⟨d2, hd2⟩ : ∃ d2 : ByteArray, d1 ++ ⟨#[41]⟩ = d2 := ⟨_, rfl⟩
 rw [hu1, hu2, hu3, hu4] at hUB
 rw [hd1, hd2] at hDB
 have z1 : u1.size = 6 + a.size := by rw [← hu1, ByteArray.size_append, sz1]
 have z2 : u2.size = 8 + a.size := by rw [← hu2, ByteArray.size_append, sz2]; omega
 have z3 : u3.size = 8 + a.size + b.size := by rw [← hu3, ByteArray.size_append]; omega
 have z4 : u4.size = 9 + a.size + b.size := by rw [← hu4, ByteArray.size_append, sz3]; omega
 have y1 : d1.size = 9 + a.size := by rw [← hd1, ByteArray.size_append, sz4]
 have y2 : d2.size = 10 + a.size := by rw [← hd2, ByteArray.size_append, sz3]; omega
 have s1 : ∀ w, (Op.stringOp .add ⟨#[117, 110, 105, 111, 110, 40]⟩ a).run Tryz.prog w = .ok (.string u1) w := fun w => by rw [← hu1]; exact run_string_add_sum w _ _ (by omega)
 have s2 : ∀ w, (Op.stringOp .add u1 ⟨#[44, 32]⟩).run Tryz.prog w = .ok (.string u2) w := fun w => by rw [← hu2]; exact run_string_add_sum w _ _ (by omega)
 have s3 : ∀ w, (Op.stringOp .add u2 b).run Tryz.prog w = .ok (.string u3) w := fun w => by rw [← hu3]; exact run_string_add_sum w _ _ (by omega)
 have s4 : ∀ w, (Op.stringOp .add u3 ⟨#[41]⟩).run Tryz.prog w = .ok (.string u4) w := fun w => by rw [← hu4]; exact run_string_add_sum w _ _ (by omega)
 have s5 : ∀ w, (Op.stringOp .add ⟨#[100, 105, 115, 116, 105, 110, 99, 116, 40]⟩ a).run Tryz.prog w = .ok (.string d1) w := fun w => by rw [← hd1]; exact run_string_add_sum w _ _ (by omega)
 have s6 : ∀ w, (Op.stringOp .add d1 ⟨#[41]⟩).run Tryz.prog w = .ok (.string d2) w := fun w => by rw [← hd2]; exact run_string_add_sum w _ _ (by omega)
 have P1 := Lib.hid (hP a (by omega))
 have P2 := Lib.hid (hP b (by omega))
 have P3 := Lib.hid (hP u4 (by omega))
 have P4 := Lib.hid (hP d2 (by omega))
 have hla := size_lst a
 have hlb := size_lst b
 have ca := parseQ_cases a.data.toList
 have cb := parseQ_cases b.data.toList
 obtain ⟨rx, hrx⟩ : ∃ rx, parseQ a.data.toList = rx := ⟨_, rfl⟩
 obtain ⟨ry, hry⟩ : ∃ ry, parseQ b.data.toList = ry := ⟨_, rfl⟩
 obtain ⟨rz, hrz⟩ : ∃ rz, parseQ u4.data.toList = rz := ⟨_, rfl⟩
 rw [hrx] at P1 ca
 rw [hry] at P2 cb
 rw [hrz] at P3
 obtain ⟨x, px, ex⟩ := rx
 obtain ⟨y, py, ey⟩ := ry
 obtain ⟨z, pz, ez⟩ := rz
 unfold ParseQPost at P1 P2 P3 P4
 have HRX := Lib.hid hrx
 have HRY := Lib.hid hry
 rw [hUB] at hrz
 have HRZ := Lib.hid hrz
 have HDB := Lib.hid hDB
 have CA := Lib.hid ca
 have CB := Lib.hid cb
 have HLA := Lib.hid hla
 have HLB := Lib.hid hlb
 have Y1 := Lib.hid y1
 have Y2 := Lib.hid y2
 have Z1 := Lib.hid z1
 have Z2 := Lib.hid z2
 have Z3 := Lib.hid z3
 clear hP hUB hDB hrx hry hrz ca cb hu1 hu2 hu3 hu4 hd1 hd2 hla hlb sz1 sz2 sz3 sz4 z4 y1 y2 z1 z2 z3
 go_enter Tryz.func6, Tryz.ntmps6
 go_wp2_with fail
 refine (P1.out _ (Below.refl _ _)).mono ?_
 rintro e w1 ⟨o1, t1, X1, n1, k1, rfl, hn1, hb1⟩
 obtain ⟨W1, hW1⟩ : ∃ W1, w1.alloc (.cells #[.string o1, .string t1, .slice X1 n1 k1] 25) = W1 := ⟨_, rfl⟩
 have L1 := Lib.hid (show Below w.heap.size w W1 by rw [← hW1]; exact hb1.alloc hb1.size _)
 have I1 := Lib.hid (show WIn W1 w1.heap.size x (o1, t1, X1, n1, k1) by rw [← hW1]; exact WIn.made hn1)
 have HW1 := Lib.hid hW1
 clear hb1 hn1 hW1
 go_upto_region 4 with fail
 rw [HW1.out]
 go_wp2_with fail
 refine (P2.out _ L1.out).mono ?_
 rintro e w2 ⟨o2, t2, X2, n2, k2, rfl, hn2, hb2⟩
 obtain ⟨W2, hW2⟩ : ∃ W2, w2.alloc (.cells #[.string o2, .string t2, .slice X2 n2 k2] 25) = W2 := ⟨_, rfl⟩
 have G2 := Lib.hid (show Below W1.heap.size W1 W2 by rw [← hW2]; exact hb2.alloc hb2.size _)
 have L2 := Lib.hid (L1.out.trans (G2.out.mono L1.out.size))
 have I2 := Lib.hid (I1.out.next G2.out)
 have J2 := Lib.hid (show WIn W2 w2.heap.size y (o2, t2, X2, n2, k2) by rw [← hW2]; exact WIn.made hn2)
 have HW2 := Lib.hid hW2
 clear hb2 hn2 hW2 I1
 go_upto_region 5 with fail
 rw [HW2.out]
 go_wp2_with fail
 refine (P3.out _ L2.out).mono ?_
 rintro e w3 ⟨o3, t3, X3, n3, k3, rfl, hn3, hb3⟩
 obtain ⟨W3, hW3⟩ : ∃ W3, w3.alloc (.cells #[.string o3, .string t3, .slice X3 n3 k3] 25) = W3 := ⟨_, rfl⟩
 have G3 := Lib.hid (show Below W2.heap.size W2 W3 by rw [← hW3]; exact hb3.alloc hb3.size _)
 have L3 := Lib.hid (L2.out.trans (G3.out.mono L2.out.size))
 have I3 := Lib.hid (I2.out.next G3.out)
 have J3 := Lib.hid (J2.out.next G3.out)
 have K3 := Lib.hid (show WIn W3 w3.heap.size z (o3, t3, X3, n3, k3) by rw [← hW3]; exact WIn.made hn3)
 have HW3 := Lib.hid hW3
 have HA3 := Lib.hid (HA.out W3 L3.out L3.out.size)
 clear hb3 hn3 hW3 I2 J2
 go_upto_region 6 with fail
 rw [HW3.out]
 by_cases hx0 : ex = 0
 case neg =>
  have e1 : (ex != 0) = true := by simpa using hx0
  clear hx0
  go_wp2_with fail
  refine HA3.out.mono ?_
  rintro e w4 ⟨rfl, hb4⟩
  have L4 := Lib.hid (bnext L3.out L3.out.size hb4)
  clear hb4
  go_wp2
  go_ret
  exact ⟨rfl, L4.out⟩
 subst hx0
 by_cases hy92 : ey = 92
 case pos =>
  subst hy92
  go_wp2_with fail
  refine HA3.out.mono ?_
  rintro e w4 ⟨rfl, hb4⟩
  have L4 := Lib.hid (bnext L3.out L3.out.size hb4)
  clear hb4
  go_wp2
  go_ret
  exact ⟨rfl, L4.out⟩
 by_cases hz92 : ez = 92
 case pos =>
  subst hz92
  have e2 : (ey == 92) = false := by simpa using hy92
  clear hy92
  go_wp2_with fail
  refine HA3.out.mono ?_
  rintro e w4 ⟨rfl, hb4⟩
  have L4 := Lib.hid (bnext L3.out L3.out.size hb4)
  clear hb4
  go_wp2
  go_ret
  exact ⟨rfl, L4.out⟩
 have e2 : (ey == 92) = false := by simpa using hy92
 have e3 : (ez == 92) = false := by simpa using hz92
 by_cases hy81 : ey = 81
 case pos =>
  subst hy81
  have hq := facts_lex HRX.out HRY.out
  rw [HRZ.out] at hq
  injection hq with hz0 hq
  injection hq with hp hq
  have hr := lex_place HRY.out
  rw [← HLA.out] at hp
  rw [← HLB.out] at hr
  obtain ⟨hr1, hr2⟩ := hr
  subst hq hz0
  have i1 : IntKind.i64.wrap (py + (a.size : Int)) = py + (a.size : Int) := by rw [IntKind.wrap_i64]; omega
  have i2 : IntKind.i64.wrap (py + (a.size : Int) + 8) = py + (a.size : Int) + 8 := by rw [IntKind.wrap_i64]; omega
  have e4 : (pz == py + (a.size : Int) + 8) = true := by simp; omega
  clear hp hr1 hr2 hy92 hz92
  go_wp2_with fail
  refine HA3.out.mono ?_
  rintro e w4 ⟨rfl, hb4⟩
  have L4 := Lib.hid (bnext L3.out L3.out.size hb4)
  clear hb4
  go_wp2
  go_ret
  exact ⟨by simp, L4.out⟩
 have e5 : (ey == 81) = false := by simpa using hy81
 by_cases hy0 : ey = 0
 case neg =>
  have e6 : (ey != 0) = true := by simpa using hy0
  clear hy0 hy81 hz92 hy92
  go_wp2_with fail
  refine HA3.out.mono ?_
  rintro e w4 ⟨rfl, hb4⟩
  have L4 := Lib.hid (bnext L3.out L3.out.size hb4)
  clear hb4
  go_wp2
  go_ret
  exact ⟨rfl, L4.out⟩
 subst hy0
 obtain ⟨hzz, hpz, hez, hdd⟩ := facts_good HRX.out HRY.out HRZ.out hz92
 have HDP := P4.out
 rw [HDB.out, hdd] at HDP
 have P5 := Lib.hid HDP
 have HQZ := Lib.hid hzz
 subst hez
 clear hy81 hz92 hy92 HDP P4 hdd hzz hpz e2 e3 e5 CA CB Y1 Y2 Z1 Z2 Z3
 go_wp2_with fail
 refine (P5.out _ L3.out).mono ?_
 rintro e w4 ⟨o4, t4, X4, n4, k4, rfl, hn4, hb4⟩
 obtain ⟨W4, hW4⟩ : ∃ W4, w4.alloc (.cells #[.string o4, .string t4, .slice X4 n4 k4] 25) = W4 := ⟨_, rfl⟩
 have G4 := Lib.hid (show Below W3.heap.size W3 W4 by rw [← hW4]; exact hb4.alloc hb4.size _)
 have L4 := Lib.hid (L3.out.trans (G4.out.mono L3.out.size))
 have I4 := Lib.hid (I3.out.next G4.out)
 have J4 := Lib.hid (J3.out.next G4.out)
 have K4 := Lib.hid (K3.out.next G4.out)
 have M4 := Lib.hid (show WIn W4 w4.heap.size (.mk sDistinct [] [x]) (o4, t4, X4, n4, k4) by rw [← hW4]; exact WIn.made hn4)
 have HW4 := Lib.hid hW4
 clear hb4 hn4 hW4 I3 J3 K3 HA3
 have hzz := HQZ.out
 subst hzz
 obtain ⟨da, d1', d2', dX, dn, dk, rfl, rfl, hda, ⟨dc0, dc1, dc2⟩, hdk⟩ := kids_one M4.out.rin
 have hda' : da.block < W4.heap.size := hda
 obtain ⟨n0, n1', n2', nf⟩ := I4.out.box
 obtain ⟨b0, b1', b2', bf⟩ := M4.out.box
 dsimp only at n0 n1' n2' b0 b1' b2'
 have hg1 := I4.out.box.lt
 have hg4 := M4.out.box.lt
 have FQ := Lib.hid (fun (w' : World) (hb : Below W4.heap.size W4 w') => show w'.cell? ⟨w4.heap.size, 2, none⟩ = some (.slice (some da) 1 k4) ∧ w'.cell? da = some (.string d1') ∧ w'.cell? ⟨da.block, da.off + 1, none⟩ = some (.string d2') ∧ w'.cell? ⟨da.block, da.off + 2, none⟩ = some (.slice dX dn dk) ∧ w'.cell? ⟨w1.heap.size, 0, none⟩ = some (.string o1) ∧ w'.cell? ⟨w1.heap.size, 1, none⟩ = some (.string t1) ∧ w'.cell? ⟨w1.heap.size, 2, none⟩ = some (.slice X1 n1 k1) from
  ⟨(hb.cell (p := ⟨w4.heap.size, 2, none⟩) hg4).trans b2', (hb.cell hda').trans dc0, (hb.cell (p := ⟨da.block, da.off + 1, none⟩) hda').trans dc1, (hb.cell (p := ⟨da.block, da.off + 2, none⟩) hda').trans dc2, (hb.cell (p := ⟨w1.heap.size, 0, none⟩) hg1).trans n0, (hb.cell (p := ⟨w1.heap.size, 1, none⟩) hg1).trans n1', (hb.cell (p := ⟨w1.heap.size, 2, none⟩) hg1).trans n2'⟩)
 have HS1 := Lib.hid (fun (w' : World) (hb : Below W4.heap.size W4 w') => show Calls Tryz.prog 21 #[.agg #[.string d1', .string d2', .slice dX dn dk], .agg #[.string o1, .string t1, .slice X1 n1 k1]] w' (fun e w'' => e = .returned (.bool true) ∧ Below w'.heap.size w' w'') from
  esameN_any x.deep x (Nat.le_refl _) (fun g => g < W4.heap.size) d1' d2' dX dn dk o1 t1 X1 n1 k1 w' (fun g hg => Nat.lt_of_lt_of_le hg hb.size) (hdk.bel (fun _ h => h) hb) (I4.out.rin.bel (fun _ h => h) hb))
 clear n0 n1' n2' nf b0 b1' b2' bf dc0 dc1 dc2 hdk hda
 go_upto_region 13 with fail
 rw [HW4.out]
 go_wp2_with fail
 go_region_held3 (fun w' => (w'.cell? ⟨w4.heap.size, 2, none⟩ = some (.slice (some da) 1 k4) ∧ w'.cell? da = some (.string d1') ∧ w'.cell? ⟨da.block, da.off + 1, none⟩ = some (.string d2') ∧ w'.cell? ⟨da.block, da.off + 2, none⟩ = some (.slice dX dn dk) ∧ w'.cell? ⟨w1.heap.size, 0, none⟩ = some (.string o1) ∧ w'.cell? ⟨w1.heap.size, 1, none⟩ = some (.string t1) ∧ w'.cell? ⟨w1.heap.size, 2, none⟩ = some (.slice X1 n1 k1)) ∧ Below W4.heap.size W4 w')
  (first | assumption | (exact keepB hb5 (by assumption) (FQ.out _)) | (exact ⟨FQ.out _ (Below.refl _ _).drew, (Below.refl _ _).drew⟩))
  (first | (go_at_call 21; with_reducible refine (HS1.out _ ?cv).mono ?_; (case cv => exact (by assumption : _ ∧ Below W4.heap.size W4 _).2); rintro e w5 ⟨rfl, hb5⟩))
 have B5 := Lib.hid (show Below W4.heap.size W4 w5 by rename_i hS; exact hS.2)
 clear hb5
 have NB5 := I4.out.box.below B5.out
 have n0 : ∀ o, (w5.alloc o).cell? ⟨w1.heap.size, 0, none⟩ = some (.string o1) := fun o => (NB5.alloc o).c0
 have n1' : ∀ o, (w5.alloc o).cell? ⟨w1.heap.size, 1, none⟩ = some (.string t1) := fun o => (NB5.alloc o).c1
 have n2' : ∀ o, (w5.alloc o).cell? ⟨w1.heap.size, 2, none⟩ = some (.slice X1 n1 k1) := fun o => (NB5.alloc o).c2
 obtain ⟨i0, hi0, hz0, hz1, hz2⟩ := info_parts info_strQ
 have c1 := parseQ_count a.data.toList
 have c2 := parseQ_count b.data.toList
 rw [HRX.out] at c1
 rw [HRY.out] at c2
 dsimp only at c1 c2
 rw [← HLA.out] at c1
 rw [← HLB.out] at c2
 have hlx : (leavesQ x).length ≤ 151 := by omega
 have hly : (leavesQ y).length ≤ 151 := by omega
 clear c1 c2
 have HL := Lib.hid (fun (t : Nod) (g : Nat) (op tx : ByteArray) (X : Option Addr) (n k : Nat) (h : WIn W4 g t (op, tx, X, n, k)) (hl : (leavesQ t).length ≤ 100000000) (w' : World) (hb : Below W4.heap.size W4 w') =>
  pLeaves_any t (fun g => g < W4.heap.size) op tx X n k w' (fun g hg => Nat.lt_of_lt_of_le hg hb.size) (h.rin.bel (fun _ h => h) hb) hl)
 have HL1 := Lib.hid (HL.out x _ _ _ _ _ _ I4.out (by omega))
 have HL2 := Lib.hid (HL.out y _ _ _ _ _ _ J4.out (by omega))
 have HL3 := Lib.hid (HL.out _ _ _ _ _ _ _ K4.out (by rw [leaves_mk, if_neg (by decide), leavess_cons, leavess_cons, leavess_nil]; simp only [List.length_append, List.length_nil]; omega))
 obtain ⟨LX, hLX⟩ : ∃ LX, leavesQ x = LX := ⟨_, rfl⟩
 obtain ⟨LY, hLY⟩ : ∃ LY, leavesQ y = LY := ⟨_, rfl⟩
 rw [leaves_mk, if_neg (by decide), leavess_cons, leavess_cons, leavess_nil, hLX, hLY, List.nil_append, List.append_nil] at HL3
 rw [hLX] at HL1 hlx
 rw [hLY] at HL2 hly
 have hg2 := J4.out.box.lt
 have hg3 := K4.out.box.lt
 have O5 := Lib.hid (show (w5.alloc (.cells #[] 9)).ownsRow w5.heap.size 9 1 (.slice (some ⟨w5.heap.size, 0, none⟩) 0 0) 0 [] from
  ⟨rfl, .inr ⟨w5.heap.size, 0, #[], rfl, Nat.le_refl _, heap_alloc_new _ _, Nat.le_refl _, Nat.zero_le _, rfl, rfl⟩⟩)
 have zz5 := B5.out.size
 clear HL hLX hLY
 go_wp2_with fail
 refine (HL1.out _ (B5.out.alloc zz5 _)).mono ?_
 rintro e w6 ⟨A1, cp1, rfl, hat1, hb6⟩
 have B6 := Lib.hid ((B5.out.alloc zz5 _).trans (hb6.mono (by simp; omega)))
 have O6 := Lib.hid (own_call O5.out hb6)
 have AT6 := Lib.hid hat1
 have z6 : w5.heap.size < w6.heap.size := by have := hb6.size; simp at this; omega
 clear hb6 hat1 n0 n1' n2' NB5
 go_wp2_with (at_builtin; refine wpList_append_at (k := 1) (c := sc) sc_length (by decide) sc_one rfl _ _ 42 rfl w5.heap.size 9 i0 _ 16 Tryz.underlying42 hi0 hz0 hz1 hz2 rfl _ 0 [] rfl O6.out w6.heap.size A1 cp1 LX rfl AT6.out ?c3 ?c4 ?c5 ?_)
 case c3 => unfold maxLen; omega
 case c4 => omega
 case c5 => omega
 intro v7 w7 hown7 hgrow
 have B7 := Lib.hid (B6.out.trans (show Below W4.heap.size w6 w7 from ⟨hgrow.os, hgrow.tape, hgrow.output, hgrow.size, fun j hj => hgrow.block j (by omega) (fun e => by have := (O6.out.lt j e.symm).1; omega)⟩))
 have O7 := Lib.hid (show w7.ownsRow w5.heap.size 9 1 v7 LX.length (flatC sc LX) by simpa using hown7)
 have z7 : w5.heap.size < w7.heap.size := by have := hgrow.size; omega
 clear hown7 hgrow
 obtain ⟨n0, n1', n2', nf⟩ := J4.out.box.below B7.out
 dsimp only at n0 n1' n2'
 go_wp2_with fail
 refine (HL2.out _ B7.out).mono ?_
 rintro e w8 ⟨A2, cp2, rfl, hat2, hb8⟩
 have B8 := Lib.hid (B7.out.trans (hb8.mono (by omega)))
 have O8 := Lib.hid (own_call O7.out hb8)
 have AT8 := Lib.hid hat2
 have z8 : w5.heap.size < w8.heap.size := by have := hb8.size; omega
 clear hb8 hat2 n0 n1' n2' nf
 go_wp2_with (at_builtin; refine wpList_append_at (k := 1) (c := sc) sc_length (by decide) sc_one rfl _ _ 42 rfl w5.heap.size 9 i0 _ 16 Tryz.underlying42 hi0 hz0 hz1 hz2 rfl _ LX.length (flatC sc LX) rfl O8.out w8.heap.size A2 cp2 LY rfl AT8.out ?c3 ?c4 ?c5 ?_)
 case c3 => unfold maxLen; omega
 case c4 => omega
 case c5 => omega
 intro v9 w9 hown9 hgrow
 have B9 := Lib.hid (B8.out.trans (show Below W4.heap.size w8 w9 from ⟨hgrow.os, hgrow.tape, hgrow.output, hgrow.size, fun j hj => hgrow.block j (by omega) (fun e => by have := (O8.out.lt j e.symm).1; omega)⟩))
 have O9 : w9.ownsRow w5.heap.size 9 1 v9 (LX ++ LY).length (flatC sc (LX ++ LY)) := by rw [List.length_append, flatC_append]; exact hown9
 obtain ⟨AB, cb, rfl, hatb⟩ := own_at sc_length O9
 have AT9 := Lib.hid hatb
 clear hown9 hgrow O9 hatb
 have ho3 := K4.out.rin.texts.1
 dsimp only at ho3
 have ho3' : o3 = ⟨#[117, 110, 105, 111, 110]⟩ := ho3
 subst ho3'
 obtain ⟨ua, p1, p2, pX, pn, pk, r1, r2, rX, rn, rk, rfl, rfl, hua, ⟨uc0, uc1, uc2, uc3, uc4, uc5⟩, hpk, hrk⟩ := kids_two K4.out.rin
 have hua' : ua.block < W4.heap.size := hua
 obtain ⟨n0, n1', n2', nf⟩ := I4.out.box
 obtain ⟨m0, m1', m2', mf⟩ := J4.out.box
 obtain ⟨q0, q1', q2', qf⟩ := K4.out.box
 dsimp only at n0 n1' n2' m0 m1' m2' q0 q1' q2'
 have FQ := Lib.hid (fun (w' : World) (hb9 : Below w9.heap.size w9 w') => show w'.cell? ⟨w1.heap.size, 0, none⟩ = some (.string o1) ∧ w'.cell? ⟨w1.heap.size, 1, none⟩ = some (.string t1) ∧ w'.cell? ⟨w1.heap.size, 2, none⟩ = some (.slice X1 n1 k1) ∧ w'.cell? ⟨w2.heap.size, 0, none⟩ = some (.string o2) ∧ w'.cell? ⟨w2.heap.size, 1, none⟩ = some (.string t2) ∧ w'.cell? ⟨w2.heap.size, 2, none⟩ = some (.slice X2 n2 k2) ∧ w'.cell? ⟨w3.heap.size, 0, none⟩ = some (.string ⟨#[117, 110, 105, 111, 110]⟩) ∧ w'.cell? ⟨w3.heap.size, 1, none⟩ = some (.string t3) ∧ w'.cell? ⟨w3.heap.size, 2, none⟩ = some (.slice (some ua) 2 k3) ∧ w'.cell? ua = some (.string p1) ∧ w'.cell? ⟨ua.block, ua.off + 1, none⟩ = some (.string p2) ∧ w'.cell? ⟨ua.block, ua.off + 2, none⟩ = some (.slice pX pn pk) ∧ w'.cell? ⟨ua.block, ua.off + 3, none⟩ = some (.string r1) ∧ w'.cell? ⟨ua.block, ua.off + 4, none⟩ = some (.string r2) ∧ w'.cell? ⟨ua.block, ua.off + 5, none⟩ = some (.slice rX rn rk) from
  have hb : Below W4.heap.size W4 w' := B9.out.trans (hb9.mono B9.out.size)
  ⟨(hb.cell (p := ⟨w1.heap.size, 0, none⟩) hg1).trans n0, (hb.cell (p := ⟨w1.heap.size, 1, none⟩) hg1).trans n1', (hb.cell (p := ⟨w1.heap.size, 2, none⟩) hg1).trans n2', (hb.cell (p := ⟨w2.heap.size, 0, none⟩) hg2).trans m0, (hb.cell (p := ⟨w2.heap.size, 1, none⟩) hg2).trans m1', (hb.cell (p := ⟨w2.heap.size, 2, none⟩) hg2).trans m2', (hb.cell (p := ⟨w3.heap.size, 0, none⟩) hg3).trans q0, (hb.cell (p := ⟨w3.heap.size, 1, none⟩) hg3).trans q1', (hb.cell (p := ⟨w3.heap.size, 2, none⟩) hg3).trans q2', (hb.cell (p := ua) hua').trans uc0, (hb.cell (p := ⟨ua.block, ua.off + 1, none⟩) hua').trans uc1, (hb.cell (p := ⟨ua.block, ua.off + 2, none⟩) hua').trans uc2, (hb.cell (p := ⟨ua.block, ua.off + 3, none⟩) hua').trans uc3, (hb.cell (p := ⟨ua.block, ua.off + 4, none⟩) hua').trans uc4, (hb.cell (p := ⟨ua.block, ua.off + 5, none⟩) hua').trans uc5⟩)
 have HS1 := Lib.hid (fun (w' : World) (hb9 : Below w9.heap.size w9 w') => show Calls Tryz.prog 21 #[.agg #[.string p1, .string p2, .slice pX pn pk], .agg #[.string o1, .string t1, .slice X1 n1 k1]] w' (fun e w'' => e = .returned (.bool true) ∧ Below w'.heap.size w' w'') from
  have hb : Below W4.heap.size W4 w' := B9.out.trans (hb9.mono B9.out.size)
  esameN_any x.deep x (Nat.le_refl _) (fun g => g < W4.heap.size) p1 p2 pX pn pk o1 t1 X1 n1 k1 w' (fun g hg => Nat.lt_of_lt_of_le hg hb.size) (hpk.bel (fun _ h => h) hb) (I4.out.rin.bel (fun _ h => h) hb))
 have HS2 := Lib.hid (fun (w' : World) (hb9 : Below w9.heap.size w9 w') => show Calls Tryz.prog 21 #[.agg #[.string r1, .string r2, .slice rX rn rk], .agg #[.string o2, .string t2, .slice X2 n2 k2]] w' (fun e w'' => e = .returned (.bool true) ∧ Below w'.heap.size w' w'') from
  have hb : Below W4.heap.size W4 w' := B9.out.trans (hb9.mono B9.out.size)
  esameN_any y.deep y (Nat.le_refl _) (fun g => g < W4.heap.size) r1 r2 rX rn rk o2 t2 X2 n2 k2 w' (fun g hg => Nat.lt_of_lt_of_le hg hb.size) (hrk.bel (fun _ h => h) hb) (J4.out.rin.bel (fun _ h => h) hb))
 have HAL := Lib.hid (fun (w' : World) (hb9 : Below w9.heap.size w9 w') => have hb : Below W4.heap.size W4 w' := B9.out.trans (hb9.mono B9.out.size); HA.out w' (L4.out.trans (hb.mono L4.out.size)) (Nat.le_trans L4.out.size hb.size))
 obtain ⟨LU, hLU⟩ : ∃ LU, LX ++ LY = LU := ⟨_, rfl⟩
 have hlu : LU.length ≤ 302 := by rw [← hLU, List.length_append]; omega
 rw [hLU] at HL3 AT9
 have HLU := Lib.hid (fun (w' : World) (hb9 : Below w9.heap.size w9 w') => HL3.out w' (B9.out.trans (hb9.mono B9.out.size)))
 rw [hLU]
 obtain ⟨NU, hNU⟩ : ∃ NU, LU.length = NU := ⟨_, rfl⟩
 have HST := Lib.hid (fun (w' : World) (A : Option Addr) (cp : Nat) (h1 : At sc 1 w' w'.heap.size A LU) (h2 : Below w9.heap.size w9 w') => same_texts A AB cp cb LU w' h1 ((AT9.out.below h2).more h2.size) (by omega))
 rw [hNU] at HST HLU
 rw [hNU]
 clear hLU n0 n1' n2' nf m0 m1' m2' mf q0 q1' q2' qf uc0 uc1 uc2 uc3 uc4 uc5 hpk hrk hua ho3
 clear HL1 HL2 HL3 HA P1 P2 P3 P5 s1 s2 s3 s4 s5 s6 AT6 O6 AT8 O8 O7 O5 hi0 hz0 hz1 hz2
 go_wp2_with fail
 go_region_held3 (fun w' => (w'.cell? ⟨w1.heap.size, 0, none⟩ = some (.string o1) ∧ w'.cell? ⟨w1.heap.size, 1, none⟩ = some (.string t1) ∧ w'.cell? ⟨w1.heap.size, 2, none⟩ = some (.slice X1 n1 k1) ∧ w'.cell? ⟨w2.heap.size, 0, none⟩ = some (.string o2) ∧ w'.cell? ⟨w2.heap.size, 1, none⟩ = some (.string t2) ∧ w'.cell? ⟨w2.heap.size, 2, none⟩ = some (.slice X2 n2 k2) ∧ w'.cell? ⟨w3.heap.size, 0, none⟩ = some (.string ⟨#[117, 110, 105, 111, 110]⟩) ∧ w'.cell? ⟨w3.heap.size, 1, none⟩ = some (.string t3) ∧ w'.cell? ⟨w3.heap.size, 2, none⟩ = some (.slice (some ua) 2 k3) ∧ w'.cell? ua = some (.string p1) ∧ w'.cell? ⟨ua.block, ua.off + 1, none⟩ = some (.string p2) ∧ w'.cell? ⟨ua.block, ua.off + 2, none⟩ = some (.slice pX pn pk) ∧ w'.cell? ⟨ua.block, ua.off + 3, none⟩ = some (.string r1) ∧ w'.cell? ⟨ua.block, ua.off + 4, none⟩ = some (.string r2) ∧ w'.cell? ⟨ua.block, ua.off + 5, none⟩ = some (.slice rX rn rk)) ∧ Below w9.heap.size w9 w')
  (first | assumption | (exact keepB hb14 (by assumption) (FQ.out _)) | (exact keepB hb13 (by assumption) (FQ.out _)) | (exact keepB hb12 (by assumption) (FQ.out _)) | (exact keepB hb11 (by assumption) (FQ.out _)) | (exact keepB hb10 (by assumption) (FQ.out _)) | (exact ⟨FQ.out _ (Below.refl _ _).drew, (Below.refl _ _).drew⟩))
  (first | (go_at_call 7; with_reducible refine (HAL.out _ ?cv).mono ?_; (case cv => exact (by assumption : _ ∧ Below w9.heap.size w9 _).2); rintro e w10 ⟨rfl, hb10⟩) | (go_at_call 21; with_reducible refine (HS1.out _ ?cv).mono ?_; (case cv => exact (by assumption : _ ∧ Below w9.heap.size w9 _).2); rintro e w11 ⟨rfl, hb11⟩) | (go_at_call 21; with_reducible refine (HS2.out _ ?cv).mono ?_; (case cv => exact (by assumption : _ ∧ Below w9.heap.size w9 _).2); rintro e w12 ⟨rfl, hb12⟩) | (go_at_call 19; with_reducible refine (HLU.out _ ?cv).mono ?_; (case cv => exact (by assumption : _ ∧ Below w9.heap.size w9 _).2); rintro e w13 ⟨A3, cp3, rfl, hat3, hb13⟩) | (go_at_call 18; with_reducible refine (HST.out _ _ _ ?ca ?cv).mono ?_; (case cv => exact (by assumption : _ ∧ Below w9.heap.size w9 _).2); (case ca => exact hat3); rintro e w14 ⟨rfl, hb14⟩))
 have B14 := Lib.hid (show Below w9.heap.size w9 w14 by rename_i hS; exact hS.2)
 have L14 := Lib.hid (L4.out.trans ((B9.out.trans (B14.out.mono B9.out.size)).mono L4.out.size))
 go_wp2
 go_ret
 exact ⟨by simp, L14.out⟩
end Go.Proofs.YtjbpkpfmgbhlpaaGreatDoor.queryWithin
