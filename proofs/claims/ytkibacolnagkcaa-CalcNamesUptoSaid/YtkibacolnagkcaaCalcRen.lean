/-
  The law's renamed: a node of the call's own, with a column's name changed.
-/
import Derived.Test.YtkibacolnagkcaaCalcNamed
import Derived.Test.YtkibacolnagkcaaQSize
import Derived.Test.YtkibacolnagkcaaM10
import Derived.Deep.AppendLies
namespace Go.Proofs.Ytkibacolnagkcaa.Code
open Go.ChangeShapes Go.WideShapes Go.ChangeAt Go.RowKit Val Elems
set_option linter.unusedVariables false
set_option linter.unusedSimpArgs false
theorem info_nodeR : (Try.prog.info? 24).map (fun i => (i.zero, i.size, i.bytes)) = some (some (.agg #[.string ByteArray.empty, .string ByteArray.empty, .slice none 0 0]), 3, 56) := by kernel_rfl
theorem renL_app (a b : List UInt8) (x : Nod) : ∀ l : List Nod, renL a b (l ++ [x]) = renL a b l ++ [renE a b x]
  | [] => by simp [renL]
  | t :: l => by rw [List.cons_append, renL, renL, renL_app a b x l, List.cons_append]
theorem renL_length (a b : List UInt8) : ∀ l : List Nod, (renL a b l).length = l.length
  | [] => rfl
  | t :: l => by rw [renL, List.length_cons, List.length_cons, renL_length a b l]
theorem len_tot : ∀ l : List Nod, l.length ≤ Nod.totL l
  | [] => Nat.le_refl _
  | .mk op tx ks :: l => by
    have := len_tot l
    simp only [Nod.totL, Nod.tot, List.length_cons]
    omega
theorem tot_kids (t : Nod) : Nod.totL t.ks < t.tot := by
  cases t with
  | mk op tx ks =>
    show Nod.totL ks < 1 + op.length + tx.length + Nod.totL ks
    omega
namespace Ren
theorem nb_grown {w w9 : World} {g : Nat} {a b c : Value} {row : Option Nat} (h : NBox w g a b c) (hg : w.grownBy w9 row) (hn : row ≠ some g) : NBox w9 g a b c := by
  have hk : ∀ j, w9.cell? ⟨g, j, none⟩ = w.cell? ⟨g, j, none⟩ := fun j => by
    unfold World.cell?
    rw [hg.block g h.lt hn.symm]
  have hf : ∀ j, w9.frozen? ⟨g, j, none⟩ = w.frozen? ⟨g, j, none⟩ := fun j => by
    unfold World.frozen?
    rw [hg.block g h.lt hn.symm]
  exact ⟨(hk 0).trans h.c0, (hk 1).trans h.c1, (hk 2).trans h.c2, fun j => (hf j).trans (h.fr j)⟩
theorem nb_kid {w : World} {g : Nat} {a b c : Value} (h : NBox w g a b c) (z : Value) : NBox (w.setCell ⟨g, 2, none⟩ z) g a b z :=
  ⟨(World.cell?_setCell_other _ _ _ _ (by simp)).trans h.c0, (World.cell?_setCell_other _ _ _ _ (by simp)).trans h.c1, World.cell?_setCell_same _ _ _ h.c2, fun j => by rw [World.frozen?_setCell]; exact h.fr j⟩
theorem nb_text {w : World} {g : Nat} {a b c : Value} (h : NBox w g a b c) (z : Value) : NBox (w.setCell ⟨g, 1, none⟩ z) g a z c :=
  ⟨(World.cell?_setCell_other _ _ _ _ (by simp)).trans h.c0, World.cell?_setCell_same _ _ _ h.c1, (World.cell?_setCell_other _ _ _ _ (by simp)).trans h.c2, fun j => by rw [World.frozen?_setCell]; exact h.fr j⟩
theorem nb_far {w : World} {g : Nat} {a b c : Value} (h : NBox w g a b c) (p : Addr) (hp : p.block ≠ g) (z : Value) : NBox (w.setCell p z) g a b c :=
  ⟨(World.cell?_setCell_other _ _ _ _ (fun e => hp (by rw [e]))).trans h.c0, (World.cell?_setCell_other _ _ _ _ (fun e => hp (by rw [e]))).trans h.c1, (World.cell?_setCell_other _ _ _ _ (fun e => hp (by rw [e]))).trans h.c2, fun j => by rw [World.frozen?_setCell]; exact h.fr j⟩
theorem nat_new (w : World) (op tx : ByteArray) (Y : Option Addr) (n k : Nat) (ty : TypeId) (S : Nat → Prop) (hS : S w.heap.size) : NAt (w.alloc (.cells #[.string op, .string tx, .slice Y n k] ty)) S (some ⟨w.heap.size, 0, none⟩) [(op, tx, Y, n, k)] := by
  have h := NBox.fresh w (.string op) (.string tx) (.slice Y n k) ty
  intro i hi
  obtain rfl : i = 0 := by simp at hi; exact hi
  exact ⟨_, rfl, hS, h.c0, h.c1, h.c2⟩
/-- new blocks, but for the list's own -/
def Rn (w wr : World) (Y : Option Addr) (g : Nat) : Prop := w.heap.size + 3 ≤ g ∧ g < wr.heap.size ∧ ∀ ad, Y = some ad → ad.block ≠ g
/-- a round of the loop: the node that came in, the node that is made, its Kids so far -/
structure Inv (w : World) (op tx : ByteArray) (X : Option Addr) (n m : Nat) (T : ByteArray) (ks : List Nod) (Y : Option Addr) (cp : Nat) (xs : List NV) (wr : World) : Prop where
  ab : NBox wr w.heap.size (.string op) (.string tx) (.slice X n m)
  rb : NBox wr (w.heap.size + 1) (.string ⟨#[]⟩) (.string ⟨#[]⟩) (.slice none 0 0)
  ob : NBox wr (w.heap.size + 1 + 1) (.string op) (.string T) (.slice Y xs.length cp)
  own : wr.ownsRow (w.heap.size + 3) 24 3 (.slice Y xs.length cp) xs.length (flatC nc xs)
  all : RAll wr (Rn w wr Y) ks xs
  bel : Below w.heap.size w wr
section
variable {w wr w8 w9 : World} {op tx : ByteArray} {X : Option Addr} {n m : Nat} {T : ByteArray} {ks : List Nod} {Y : Option Addr} {cp : Nat} {xs : List NV}
theorem Inv.next (h : Inv w op tx X n m T ks Y cp xs wr) (hb : Below wr.heap.size wr w8) : Inv w op tx X n m T ks Y cp xs w8 :=
  ⟨h.ab.below hb, h.rb.below hb, h.ob.below hb, h.own.kept (row := none) ⟨hb.os, hb.tape, hb.output, hb.size, fun i hi _ => hb.block i hi⟩ (Classical.em _), h.all.keep (fun g hg => ⟨hg.1, Nat.lt_of_lt_of_le hg.2.1 hb.size, hg.2.2⟩) (fun p hp => hb.cell hp.2.1), h.bel.trans (hb.mono h.bel.size)⟩
theorem Inv.drew (h : Inv w op tx X n m T ks Y cp xs wr) : Inv w op tx X n m T ks Y cp xs wr.drew := h.next (Below.drew (Below.refl _ _))
theorem Inv.alloc (h : Inv w op tx X n m T ks Y cp xs wr) (o : Obj) : Inv w op tx X n m T ks Y cp xs (wr.alloc o) := h.next (below_alloc _ _)
/-- a Kid is added -/
theorem Inv.add {t : Nod} {y : NV} {S2 : Nat → Prop} {N gg cap9 : Nat} (h : Inv w op tx X n m T ks Y cp xs w8) (hN : xs.length = N) (hy : RIn w8 S2 t y) (hS2 : ∀ g, S2 g → Rn w w8 Y g)
    (hown9 : w9.ownsRow (w.heap.size + 3) 24 3 (.slice (some ⟨gg, 0, none⟩) (N + 1) cap9) (N + 1) (flatC nc xs ++ nc y)) (hg : w8.grownBy w9 (Value.slice Y N cp).ownBlock) (hat : (Value.slice Y N cp).ownBlock = some gg ∨ gg = w8.heap.size) :
    Inv w op tx X n m T (ks ++ [t]) (some ⟨gg, 0, none⟩) cap9 (xs ++ [y]) (w9.setCell ⟨w.heap.size + 1 + 1, 2, none⟩ (.slice (some ⟨gg, 0, none⟩) (N + 1) cap9)) := by
  subst hN
  have hl : (xs ++ [y]).length = xs.length + 1 := by simp
  have hfl : flatC nc (xs ++ [y]) = flatC nc xs ++ nc y := flatC_snoc xs y
  have hrow : ∀ k, (Value.slice Y xs.length cp).ownBlock = some k → w.heap.size + 3 ≤ k := fun k e => (h.own.lt k e).1
  have hz := hg.size
  have h0 := h.ob.lt
  have hgg : w.heap.size + 3 ≤ gg := by
    rcases hat with e | e
    · exact hrow _ e
    · omega
  have hne : ∀ g, g < w8.heap.size → (∀ ad, Y = some ad → ad.block ≠ g) → (Value.slice Y xs.length cp).ownBlock ≠ some g := by
    intro g _ h1 e
    cases Y with
    | none => cases e
    | some ad => exact h1 ad rfl (Option.some.inj e)
  have hB : Below (w.heap.size + 3) w8 w9 := ⟨hg.os, hg.tape, hg.output, hg.size, fun k hk => hg.block k (by omega) (fun e => by have := hrow k e.symm; omega)⟩
  have hk : ∀ p : Addr, Rn w w8 Y p.block → (w9.setCell ⟨w.heap.size + 1 + 1, 2, none⟩ (.slice (some ⟨gg, 0, none⟩) (xs.length + 1) cap9)).cell? p = w8.cell? p := by
    intro p hp
    rw [World.cell?_setCell_other _ _ _ _ (fun e => by have := hp.1; rw [← e] at this; exact absurd this (by show ¬ (w.heap.size + 3 ≤ w.heap.size + 1 + 1); omega))]
    unfold World.cell?
    rw [hg.block p.block hp.2.1 (hne _ hp.2.1 hp.2.2).symm]
  have hs : ∀ k, Rn w w8 Y k → Rn w (w9.setCell ⟨w.heap.size + 1 + 1, 2, none⟩ (.slice (some ⟨gg, 0, none⟩) (xs.length + 1) cap9)) (some ⟨gg, 0, none⟩) k := by
    intro k hk
    have h1 := hk.1
    have h2 := hk.2.1
    refine ⟨hk.1, by simp; omega, fun ad e => ?_⟩
    cases e
    rcases hat with e | e
    · intro e2
      exact hne k h2 hk.2.2 (by rw [e]; exact congrArg some e2)
    · show gg ≠ k
      omega
  refine ⟨?_, ?_, ?_, ?_, ?_, ?_⟩
  · exact nb_far (nb_grown h.ab hg (fun e => by have := hrow _ e; omega)) _ (by show w.heap.size + 1 + 1 ≠ _; omega) _
  · exact nb_far (nb_grown h.rb hg (fun e => by have := hrow _ e; omega)) _ (by show w.heap.size + 1 + 1 ≠ _; omega) _
  · rw [hl]
    exact nb_kid (nb_grown h.ob hg (fun e => by have := hrow _ e; omega)) _
  · rw [hl, hfl]
    refine hown9.kept (row := some (w.heap.size + 1 + 1)) ⟨rfl, rfl, rfl, by simp, fun k hk hn => Below.heap_setCell w9 ⟨w.heap.size + 1 + 1, 2, none⟩ _ k (fun e => hn (by rw [e]))⟩ (.inr (fun e => by have e2 : gg = w.heap.size + 1 + 1 := Option.some.inj e; omega))
  · exact (h.all.keep hs hk).snoc (hy.keep (fun g hg => hs g (hS2 g hg)) (fun p hp => hk p (hS2 _ hp)))
  · have h1 := h.bel.trans (hB.mono (by omega))
    exact h1.setCell (p := ⟨w.heap.size + 1 + 1, 2, none⟩) (by show w.heap.size ≤ w.heap.size + 1 + 1; omega) _
theorem start (w : World) (op tx : ByteArray) (X : Option Addr) (n m : Nat) (T : ByteArray) : Inv w op tx X n m T [] none 0 [] (((w.alloc (.cells #[.string op, .string tx, .slice X n m] 24)).alloc (.cells #[.string ⟨#[]⟩, .string ⟨#[]⟩, .slice none 0 0] 24)).alloc (.cells #[.string op, .string T, .slice none 0 0] 24)) := by
  have e1 : (w.alloc (.cells #[.string op, .string tx, .slice X n m] 24)).heap.size = w.heap.size + 1 := by simp
  have e2 : ((w.alloc (.cells #[.string op, .string tx, .slice X n m] 24)).alloc (.cells #[.string ⟨#[]⟩, .string ⟨#[]⟩, .slice none 0 0] 24)).heap.size = w.heap.size + 1 + 1 := by simp
  refine ⟨((NBox.fresh w _ _ _ _).alloc _).alloc _, ?_, ?_, World.ownsRow_nil _ _ _ _, RAll.nil _ _, (((Below.refl _ _).alloc (Nat.le_refl _) _).alloc (by simp) _).alloc (by simp; omega) _⟩
  · have h := (NBox.fresh (w.alloc (.cells #[.string op, .string tx, .slice X n m] 24)) (.string ⟨#[]⟩) (.string ⟨#[]⟩) (.slice none 0 0) 24).alloc (.cells #[.string op, .string T, .slice none 0 0] 24)
    rwa [e1] at h
  · have h := NBox.fresh ((w.alloc (.cells #[.string op, .string tx, .slice X n m] 24)).alloc (.cells #[.string ⟨#[]⟩, .string ⟨#[]⟩, .slice none 0 0] 24)) (.string op) (.string T) (.slice none 0 0) 24
    rwa [e2] at h
/-- the node is told -/
theorem Inv.told (h : Inv w op tx X n m T ks Y cp xs wr) (hk : ks.length ≤ 2600000000000) (a b c : Value) :
    RIn (W3 wr (w.heap.size + 1) a b c) (fun g => w.heap.size ≤ g ∧ g < (W3 wr (w.heap.size + 1) a b c).heap.size) (.mk op.data.toList T.data.toList ks) (op, T, Y, xs.length, cp) ∧ Below w.heap.size w (W3 wr (w.heap.size + 1) a b c) := by
  obtain ⟨A', cap', e, hat, hcp⟩ := own_nat h.own
  injection e with e _ e2
  subst e e2
  refine ⟨?_, ((h.bel.setCell (p := ⟨w.heap.size + 1, 0, none⟩) (by show w.heap.size ≤ w.heap.size + 1; omega) _).setCell (p := ⟨w.heap.size + 1, 1, none⟩) (by show w.heap.size ≤ w.heap.size + 1; omega) _).setCell (p := ⟨w.heap.size + 1, 2, none⟩) (by show w.heap.size ≤ w.heap.size + 1; omega) _⟩
  have h1 := RIn.made cp op T (hat.keep (S' := fun k => w.heap.size + 3 ≤ k ∧ k < wr.heap.size) (fun k hk => hk) (fun _ _ => rfl)) (h.all.keep (S' := fun k => w.heap.size + 3 ≤ k ∧ k < wr.heap.size) (fun k hk => ⟨hk.1, hk.2.1⟩) (fun _ _ => rfl)) hk (by rw [← h.all.1]; exact hcp)
  rw [← h.all.1] at h1
  exact (h1.w3 (g := w.heap.size + 1) (fun h => by have := h.1; omega) _ _ _).imp (fun k hk => ⟨by have := hk.1; omega, by show k < (W3 wr (w.heap.size + 1) _ _ _).heap.size; rw [W3.size]; exact hk.2⟩)
end
end Ren
set_option maxHeartbeats 8000000 in
set_option maxRecDepth 100000 in
theorem ren_any (a b : ByteArray) : ∀ (d : Nat) (t : Nod), t.deep ≤ d → t.tot ≤ 1048576 → ∀ (S : Nat → Prop) (op tx : ByteArray) (X : Option Addr) (n m : Nat) (w : World), (∀ g, S g → g < w.heap.size) → RIn w S t (op, tx, X, n, m) →
    Calls Try.prog 14 #[.agg #[.string op, .string tx, .slice X n m], .string a, .string b] w fun e w' => ∃ (op' tx' : ByteArray) (X' : Option Addr) (n' m' : Nat), e = .returned (.agg #[.string op', .string tx', .slice X' n' m']) ∧
      RIn w' (fun g => w.heap.size ≤ g ∧ g < w'.heap.size) (renE a.data.toList b.data.toList t) (op', tx', X', n', m') ∧ Below w.heap.size w w'
  | 0, t, h, _, _, _, _, _, _, _, _, _, _ => absurd h (by rw [deep_ks]; omega)
  | d + 1, t, h, htot, S, op, tx, X, n, m, w, hS, hn => by
    have ih := Lib.hid (fun k (hk : k < t.ks.length) => ren_any a b d t.ks[k] (by have := deepL_mem (List.getElem_mem hk); rw [deep_ks] at h; omega) (by have := tot_mem (List.getElem_mem hk); have := tot_kids t; omega))
    obtain ⟨eo, et, en, hkl⟩ := hn.texts
    dsimp only at eo et en
    have HS := Lib.hid hS
    subst en
    have HN := Lib.hid hn
    have hkt : t.ks.length ≤ 1048576 := by have := len_tot t.ks; have := tot_kids t; omega
    have HKL := Lib.hid hkt
    obtain ⟨T, HT⟩ : ∃ T : ByteArray, Hid (renE a.data.toList b.data.toList t = .mk op.data.toList T.data.toList (renL a.data.toList b.data.toList t.ks) ∧ ((op.toList == [99, 111, 108]) = false ∧ T = tx ∨ (op.toList == [99, 111, 108]) = true ∧ (tx.toList == a.toList) = false ∧ T = tx ∨ (op.toList == [99, 111, 108]) = true ∧ (tx.toList == a.toList) = true ∧ T = b)) := by
      cases t with
      | mk o x ks =>
        rw [renE]
        dsimp only [Nod.ks] at *
        rw [ByteArray.toList_eq, ByteArray.toList_eq, ByteArray.toList_eq]
        have e1 : op.data.toList = o := by rw [eo]; rfl
        have e2 : tx.data.toList = x := by rw [et]; rfl
        by_cases h1 : o = sCol
        · by_cases h2 : x = a.data.toList
          · refine ⟨b, Lib.hid ⟨by rw [if_pos ⟨h1, h2⟩, e1], .inr (.inr ⟨by rw [e1, h1]; rfl, by rw [e2, h2]; exact beq_self_eq_true _, rfl⟩)⟩⟩
          · refine ⟨tx, Lib.hid ⟨by rw [if_neg (fun h => h2 h.2), e1, e2], .inr (.inl ⟨by rw [e1, h1]; rfl, by rw [e2]; exact beq_eq_false_iff_ne.2 h2, rfl⟩)⟩⟩
        · refine ⟨tx, Lib.hid ⟨by rw [if_neg (fun h => h1 h.1), e1, e2], .inl ⟨by rw [e1]; exact beq_eq_false_iff_ne.2 h1, rfl⟩⟩⟩
    clear h hS hn eo et htot hkl hkt
    go_enter Try.func14, Try.ntmps14
    obtain ⟨i0, hi0, hz0, hz1, hz2⟩ := info_parts info_nodeR
    have hcase := HT.out.2
    rcases hcase with ⟨h1, h3⟩ | ⟨h1, h2, h3⟩ | ⟨h1, h2, h3⟩
    all_goals
      have H3 := Lib.hid h3
      clear h3
      go_wp2_with fail
      go_loopw [8] (fun t' wr => ∃ (k : Nat) (Y : Option Addr) (cp : Nat) (xs : List NV), k ≤ t.ks.length ∧ t' = .int .i64 (k : Int) ∧ Ren.Inv w op tx X t.ks.length m T (renL a.data.toList b.data.toList (t.ks.take k)) Y cp xs wr) (fun t' _ => t.ks.length - (intOf t').toNat)
      case atStart => exact ⟨0, none, 0, [], Nat.zero_le _, rfl, by rw [H3.out, List.take_zero, renL]; exact Ren.start w op tx X _ m _⟩
      case round =>
        obtain ⟨k, Y, cp, xs, hk, rfl, hI⟩ := hrel
        have HI := Lib.hid hI
        have hz := hI.bel.size
        have ho := hI.ob.lt
        obtain ⟨x0, x1, x2, xf⟩ := hI.ab
        by_cases hlt : k < t.ks.length
        · obtain ⟨ad, ⟨op', tx', X', n', m'⟩, eA, hS', q0, q1, q2, hk'⟩ := (HN.out.bel HS.out hI.bel).kid k hlt
          dsimp only at eA q0 q1 q2
          subst eA
          have HK := Lib.hid hk'
          have had := HS.out _ hS'
          obtain ⟨q, hq⟩ : ∃ q, ad.add (k * 3) = q := ⟨_, rfl⟩
          have hbq : q.block < wr.heap.size := by rw [← hq, add_block]; omega
          rw [hq] at q0 q1 q2
          obtain ⟨y0, y1, y2, yf⟩ := hI.ob
          have bi0 : (0 : Int) ≤ (k : Int) := by omega
          have bi1 : (k : Int) < (t.ks.length : Int) := by omega
          clear hI hk' hS'
          have hxl : xs.length ≤ 1048576 := by have h1 := HI.out.all.1; rw [renL_length, List.length_take] at h1; have := HKL.out; omega
          have hle := HI.out.ob.lt
          have hkl9 := HKL.out
          have HC := Lib.hid (ih.out k hlt S op' tx' X' n' m' wr.drew (fun g hg => Nat.lt_of_lt_of_le (HS.out g hg) hz) (HK.out.bel (fun g hg => Nat.lt_of_lt_of_le (HS.out g hg) hz) (Below.drew (Below.refl _ _))))
          have K6 := Lib.hid HI.out.drew
          go_wp2_with fail
          go_region_law (first
            | (refine step_append_lies _ (by rfl) _ _ _ (by rfl) (w.heap.size + 3) 24 i0 _ 3 56 Try.underlying22 hi0 hz0 hz1 hz2 rfl (by omega) (.slice Y xs.length cp) xs.length (flatC nc xs) (by rfl) K8.out.own ⟨w7.heap.size, 0, none⟩ 1 1 [.string op7, .string tx7, .slice X7 n7 k7] (by rfl) (by rfl) (World.news_of_block (cs := #[.string op7, .string tx7, .slice X7 n7 k7]) (t := 24) (fr := (0, 0)) (heap_alloc_new w7 _)) (nc_one (op7, tx7, X7, n7, k7)) (by omega) (by unfold maxLen; omega) (by omega) (by simp; omega) (w7.heap.size + 1) (by simp) ?_; intro gg cap9 w9 hown9 hgrow hat hlt9; have M9 := Lib.hid (Ren.nb_grown K8.out.ob hgrow (fun e => by have := (K8.out.own.lt _ e).1; omega)); have y9 := M9.out.c2; have f9 := M9.out.fr 2)
            | (go_simp; refine HC.out.mono ?_; rintro e w7 ⟨op7, tx7, X7, n7, k7, rfl, hI7, hb7⟩; have zb7 : wr.heap.size ≤ w7.heap.size := hb7.size; have K7 := Lib.hid (K6.out.next hb7); have I7 := Lib.hid hI7; clear hb7 hI7; have K8 := Lib.hid (K7.out.alloc (.cells #[.string op7, .string tx7, .slice X7 n7 k7] 24)); have y7 := K7.out.ob.c2; have y8 := K8.out.ob.c2))
          all_goals
            have KB := Lib.hid (K8.out.add (S2 := fun g => wr.heap.size ≤ g ∧ g < w7.heap.size) (N := xs.length) rfl (I7.out.keep (S' := fun g => wr.heap.size ≤ g ∧ g < w7.heap.size) (fun g hg => hg) (fun p hp => (below_alloc w7 _).cell hp.2)) (fun g hg => ⟨by have h9 : wr.heap.size ≤ g := hg.1; omega, by have h9 : g < w7.heap.size := hg.2; simp; omega, fun ad e e2 => by have h1 := (HI.out.own.lt ad.block (by rw [e]; rfl)).2; have h9 : wr.heap.size ≤ g := hg.1; omega⟩) hown9 hgrow (hat.imp id (fun e => by rw [e]; simp)))
            clear hown9 hgrow hat hlt9 y0 y1 y2 yf q0 q1 q2 x0 x1 x2 xf y7 y8 y9 f9
            go_wp2
            go_roundw
            case rel => exact ⟨k + 1, some ⟨gg, 0, none⟩, cap9, xs ++ [(op7, tx7, X7, n7, k7)], by omega, by go_num, by rw [List.take_succ_eq_append_getElem hlt, renL_app]; exact KB.out⟩
            case measure => simp [intOf]; omega
        · obtain rfl : k = t.ks.length := by omega
          rw [List.take_length] at HI
          obtain ⟨y0, y1, y2, yf⟩ := hI.ob
          obtain ⟨z0, z1, z2, zf⟩ := hI.rb
          have hq := HI.out.told (by rw [renL_length]; have := HKL.out; omega) (.string op) (.string T) (.slice Y xs.length cp)
          have HQ := Lib.hid hq
          clear hq hI
          go_wp2
          have Y9 := HI.out.rb.set (.string op) (.string T) (.slice Y xs.length cp)
          exact bodyPost_ret (v := .agg #[.string op, .string T, .slice Y xs.length cp]) (by simp [results, Try.results14, go_sem, Y9.c0, Y9.c1, Y9.c2]) rfl ⟨op, T, Y, xs.length, cp, rfl, by rw [HT.out.1]; exact HQ.out.1, HQ.out.2⟩
end Go.Proofs.Ytkibacolnagkcaa.Code
