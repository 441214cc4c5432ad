/-
  Maps from texts to lists: what one holds, as a function of the key; a look-up, a store, a removal, the length, and a range over all entries, at their operations.
-/
import Derived.Test.YtjjikooabmddlaaGreatDoorChecked
import Derived.Maps.OwnOps
import Derived.Maps.RangeWalk
import Derived.Laws.IdiomRangeMap
import Derived.WalkKit
import Derived.ProofKit
import Derived.Below
import Derived.Test.YtjjikooabmddlaaGreatDoorM6
namespace Go.Proofs.YtjjikooabmddlaaGreatDoor.MapSl
open Go.RowKit Go.ChangeMaps Go.MapKept
open Go.WideElems (Fit rd rg pl rd_key rd_val rg_of)
open Go.Maps (Keyed)
set_option linter.unusedVariables false
set_option maxRecDepth 100000

/-- a list: where its first element lies, how many there are, how many there is room for -/
abbrev Sl := Option Addr × Nat × Nat
def slV (s : Sl) : Value := .slice s.1 s.2.1 s.2.2
def slR (v : Value) : Option (DataW Value × List MemPlace) := match v with
  | .slice a n c => some (.held (.slice a n c), [])
  | _ => none
theorem slR_mk (s : Sl) : slR (slV s) = some (.held (slV s), []) := rfl
theorem slR_inv {v : Value} {y : DataW Value × List MemPlace} (h : slR v = some y) : ∃ s : Sl, v = slV s ∧ y = (.held (slV s), []) := by
  unfold slR at h
  split at h
  · rename_i a n c
    cases h
    exact ⟨(a, n, c), rfl, rfl⟩
  · cases h
def lk (k : ByteArray) : Lit := .string k.data.toList
theorem lk_inj {a b : ByteArray} (h : lk a = lk b) : a = b := by
  unfold lk at h
  injection h with h
  obtain ⟨⟨x⟩⟩ := a
  obtain ⟨⟨y⟩⟩ := b
  simp at h
  rw [h]
theorem lk_same (a b : ByteArray) : (lk a).sameKey (lk b) = decide (a = b) := by
  by_cases e : a = b
  · subst e
    rw [WideAt.sameKey_self (by simp [lk, WideAt.IsKeyLit])]
    simp
  · rw [Maps.sameKey_ne (fun h => e (lk_inj h))]
    simp [e]
theorem law : Keyed Tryz.prog 9 := Maps.string_keyed Tryz.underlying9
theorem mapT : Tryz.prog.underlying 61 = some (.map 9 40) := Tryz.underlying61
theorem zeroE (w : World) : (zeroValue 40).run Tryz.prog w = .ok (slV (none, 0, 0)) w := by kernel_rfl
theorem keyIs {k : ByteArray} (h : k.size ≤ maxLen) : keyOf Tryz.prog 9 (.string k) = some (lk k) := Go.WideMaps.keyOf_string_mk Tryz.underlying9 h
theorem keyInv {v : Value} {kl : Lit} (h : keyOf Tryz.prog 9 v = some kl) : ∃ k : ByteArray, v = .string k ∧ kl = lk k ∧ k.size ≤ maxLen := by
  cases v <;> simp [keyOf, mapKey, Tryz.underlying9] at h
  rename_i k
  exact ⟨k, rfl, h.2.symm, h.1⟩

/-- what a map holds -/
def Sees (D : DataW Value) (f : ByteArray → Option Sl) : Prop := ∀ k : ByteArray, k.size ≤ maxLen → Maps.has D (lk k) = (f k).isSome ∧ ∀ s, f k = some s → ∀ z, D.atKey (lk k) z = .held (slV s)
def MapIs (w : World) (b n : Nat) (f : ByteArray → Option Sl) : Prop := ∃ D, w.ownsMap Tryz.prog 9 slR b n D ∧ Sees D f
def upd (f : ByteArray → Option Sl) (k : ByteArray) (s : Option Sl) : ByteArray → Option Sl := fun x => if x = k then s else f x
theorem upd_same (f : ByteArray → Option Sl) (k : ByteArray) (s : Option Sl) : upd f k s k = s := by simp [upd]
theorem upd_other (f : ByteArray → Option Sl) {k x : ByteArray} (s : Option Sl) (h : x ≠ k) : upd f k s x = f x := by simp [upd, h]
theorem MapIs.lt {w : World} {b n : Nat} {f : ByteArray → Option Sl} (h : MapIs w b n f) : b < w.heap.size := by obtain ⟨D, h1, _⟩ := h; exact h1.lt
theorem MapIs.kept {w w' : World} {b n : Nat} {f : ByteArray → Option Sl} {row : Option Nat} (h : MapIs w b n f) (hg : w.grownBy w' row) (hne : some b ≠ row) : MapIs w' b n f := by
  obtain ⟨D, h1, h2⟩ := h
  exact ⟨D, h1.kept hg hne, h2⟩
theorem MapIs.heap {w w' : World} {b n : Nat} {f : ByteArray → Option Sl} (h : MapIs w b n f) (e : w'.heap[b]? = w.heap[b]?) : MapIs w' b n f := by
  obtain ⟨D, ⟨es, clock, hb, r⟩, h2⟩ := h
  exact ⟨D, ⟨es, clock, e.trans hb, r⟩, h2⟩
theorem MapIs.below {w w' : World} {b n : Nat} {f : ByteArray → Option Sl} (h : MapIs w b n f) (hb : Below w.heap.size w w') : MapIs w' b n f := h.heap (hb.block _ h.lt)
theorem MapIs.cell {w : World} {b n : Nat} {f : ByteArray → Option Sl} (h : MapIs w b n f) (q : Addr) (hq : q.block = b) : w.cell? q = none := by
  obtain ⟨D, ⟨es, clock, hb, r⟩, h2⟩ := h
  obtain ⟨g, o, sp⟩ := q
  simp only at hq
  subst hq
  unfold World.cell?
  simp [hb]
theorem mapIs_made (w : World) : MapIs (w.alloc (.map #[] 0)) w.heap.size 0 fun _ => none :=
  ⟨_, World.ownsMap_made w Tryz.prog 9 slR, fun k _ => ⟨rfl, fun s h => by cases h⟩⟩
theorem MapIs.mono {w : World} {b n n' : Nat} {f : ByteArray → Option Sl} (h : MapIs w b n f) (hn : n ≤ n') : MapIs w b n' f := by
  obtain ⟨D, h1, h2⟩ := h
  exact ⟨D, h1.mono hn, h2⟩
theorem MapIs.same {w : World} {b n : Nat} {f g : ByteArray → Option Sl} (h : MapIs w b n f) (e : ∀ k, f k = g k) : MapIs w b n g := by
  rw [show g = f from funext fun k => (e k).symm]
  exact h

/-- as many entries as there are keys -/
theorem sees_size {w : World} {b n : Nat} {D : DataW Value} {f : ByteArray → Option Sl} (h : w.ownsMap Tryz.prog 9 slR b n D) (hs : Sees D f) {KL : List ByteArray} (hd : KL.Nodup) (hk : ∀ k, (f k).isSome = true ↔ k ∈ KL) (hl : ∀ k ∈ KL, k.size ≤ maxLen) : Maps.size D = KL.length := by
  obtain ⟨es, clock, hb, F, hn, hD⟩ := h
  obtain ⟨es2, hes2, hp, _⟩ := World.ownsMap.entries (w := w) ⟨es, clock, hb, F, hn, hD⟩ law
  subst hes2
  have hin : ∀ p ∈ es2, ∃ k : ByteArray, p.1 = lk k ∧ k.size ≤ maxLen := by
    intro p hp
    have e : es2 = (es.toList.map (rg Tryz.prog 9 slR)).foldr DataW.insert [] := by injection hD
    rw [e] at hp
    obtain ⟨x, hx, rfl⟩ := List.mem_map.1 (mem_sorted.1 hp)
    obtain ⟨y, hy⟩ := F.reads x hx
    rw [rg_of hy]
    obtain ⟨k, _, h2, h3⟩ := keyInv (rd_key hy)
    exact ⟨k, h2, h3⟩
  have hperm : (es2.map (·.1)).Perm (KL.map lk) := by
    refine (List.perm_ext_iff_of_nodup ?_ ?_).2 ?_
    · rw [List.nodup_iff_pairwise_ne, List.pairwise_map]
      exact hp
    · rw [List.nodup_iff_pairwise_ne, List.pairwise_map]
      exact (List.nodup_iff_pairwise_ne.1 hd).imp fun hne e => hne (lk_inj e)
    · intro a
      constructor
      · intro ha
        obtain ⟨p, hp2, rfl⟩ := List.mem_map.1 ha
        obtain ⟨k, e, hkl⟩ := hin p hp2
        refine List.mem_map.2 ⟨k, (hk k).1 ?_, e.symm⟩
        rw [← (hs k hkl).1]
        exact List.any_eq_true.2 ⟨p, hp2, by rw [e, lk_same]; simp⟩
      · intro ha
        obtain ⟨k, hk2, rfl⟩ := List.mem_map.1 ha
        have h1 := (hs k (hl k hk2)).1
        rw [(hk k).2 hk2] at h1
        obtain ⟨p, hp2, hsame⟩ := List.any_eq_true.1 h1
        exact List.mem_map.2 ⟨p, hp2, WideAt.sameKey_eq hsame⟩
  have := hperm.length_eq
  simpa [Maps.size] using this
theorem MapIs.tight {w : World} {b n : Nat} {f : ByteArray → Option Sl} (h : MapIs w b n f) {KL : List ByteArray} (hd : KL.Nodup) (hk : ∀ k, (f k).isSome = true ↔ k ∈ KL) (hl : ∀ k ∈ KL, k.size ≤ maxLen) : MapIs w b KL.length f := by
  obtain ⟨D, h1, h2⟩ := h
  have e := sees_size h1 h2 hd hk hl
  obtain ⟨es, clock, hb, F, hn, hD⟩ := h1
  refine ⟨D, ⟨es, clock, hb, F, ?_, hD⟩, h2⟩
  rw [hD] at e
  simp [Maps.size, length_sorted] at e
  omega

section
variable (w : World) {ops : Array Oper} {rest : List Oper} {o : Oper} {a : Act} {Q : Exit → Act → World → Prop}
/-- a look-up -/
theorem wpList_look (hg : o.guard = none) (m x : Operand) (hop : o.op = Op.lookup 61 m x false) (b n : Nat) (f : ByteArray → Option Sl) (hm : a.eval m = .map (some b)) (h : MapIs w b n f) (k : ByteArray) (hx : a.eval x = .string k) (hk : k.size ≤ maxLen)
    (s : Sl) (hs : (f k).getD (none, 0, 0) = s) (hK : wpList Tryz.prog ops Q rest (a.put o.dst (.slice s.1 s.2.1 s.2.2)) w) : wpList Tryz.prog ops Q (o :: rest) a w := by
  refine wpList_plain hg fun K' hK' => ?_
  obtain ⟨D, h1, h2⟩ := h
  obtain ⟨v, ps, hrun, hv⟩ := h1.lookup law mapT (zeroE w) (slR_mk (none, 0, 0)) (keyIs hk)
  obtain ⟨s2, rfl, e⟩ := slR_inv hv
  have e2 : slV s2 = slV s := by
    have h3 := (h2 k hk)
    cases hf : f k with
    | none =>
      rw [hf] at h3 hs
      have := Maps.atKey_of_not_has h3.1 (.held (slV (none, 0, 0)) : DataW Value)
      rw [this] at e
      simp only [Prod.mk.injEq, DataW.held.injEq] at e
      rw [← e.1, ← hs]
      rfl
    | some s3 =>
      rw [hf] at hs
      have := h3.2 s3 hf (.held (slV (none, 0, 0)))
      rw [this] at e
      simp only [Prod.mk.injEq, DataW.held.injEq] at e
      rw [← e.1, ← hs]
      rfl
  rw [e2] at hrun
  unfold Oper.wp
  simp [execOp, hop, hm, hx, hrun, Result.andThen]
  exact hK' _ _ hK
theorem sees_put {D : DataW Value} {f : ByteArray → Option Sl} (hD : Maps.IsMap D) (h : Sees D f) (k : ByteArray) (s : Sl) : Sees (D.put (lk k) (.held (slV s))) (upd f k (some s)) := by
  intro x hx
  by_cases e : x = k
  · subst e
    rw [upd_same]
    refine ⟨Maps.has_put_same hD (by simp [lk, WideAt.IsKeyLit]) _, fun s2 h2 z => ?_⟩
    cases h2
    exact Maps.atKey_put_same hD (by simp [lk, WideAt.IsKeyLit]) _ _
  · have hne : lk x ≠ lk k := fun h => e (lk_inj h)
    rw [upd_other f _ e, Maps.has_put_other hne]
    exact ⟨(h x hx).1, fun s2 h2 z => by rw [Maps.atKey_put_other hne]; exact (h x hx).2 s2 h2 z⟩
theorem sees_del {D : DataW Value} {f : ByteArray → Option Sl} (h : Sees D f) (k : ByteArray) : Sees (D.del (lk k)) (upd f k none) := by
  intro x hx
  by_cases e : x = k
  · subst e
    rw [upd_same]
    exact ⟨Maps.has_del_same, fun s2 h2 => by cases h2⟩
  · have hne : lk x ≠ lk k := fun h => e (lk_inj h)
    rw [upd_other f _ e, Maps.has_del_other hne]
    exact ⟨(h x hx).1, fun s2 h2 z => by rw [Maps.atKey_del_other hne]; exact (h x hx).2 s2 h2 z⟩
/-- a store -/
theorem wpList_store (hg : o.guard = none) (m x v : Operand) (hop : o.op = Op.mapUpdate 61 m x v) (b n : Nat) (f : ByteArray → Option Sl) (hm : a.eval m = .map (some b)) (h : MapIs w b n f) (hn : n < maxLen) (k : ByteArray) (hx : a.eval x = .string k) (hk : k.size ≤ maxLen)
    (s : Sl) (hv : a.eval v = slV s) (hK : ∀ w', MapIs w' b (n + 1) (upd f k (some s)) → w.grownBy w' (some b) → w'.heap.size = w.heap.size → wpList Tryz.prog ops Q rest (a.put o.dst undef) w') : wpList Tryz.prog ops Q (o :: rest) a w := by
  refine wpList_plain hg fun K' hK' => ?_
  obtain ⟨D, h1, h2⟩ := h
  obtain ⟨w', hrun, r1, r2⟩ := h1.store law mapT hn (keyIs hk) (slR_mk s)
  have hsz : w'.heap.size = w.heap.size := by
    obtain ⟨es, clock, es', clock', hb, rfl⟩ := r2
    simp [setBlock]
  unfold Oper.wp
  simp [execOp, hop, hm, hx, hv, hrun, Result.andThen]
  exact hK' _ _ (hK w' ⟨_, r1, sees_put h1.isMap h2 k s⟩ r2.grown hsz)
/-- a removal -/
theorem wpList_drop (hg : o.guard = none) (m x : Operand) (hop : o.op = Op.call { callee := Callee.builtin Builtin.delete, args := #[m, x], argTypes := #[61, 9] }) (b n : Nat) (f : ByteArray → Option Sl) (hm : a.eval m = .map (some b)) (h : MapIs w b n f) (k : ByteArray) (hx : a.eval x = .string k) (hk : k.size ≤ maxLen)
    (hK : ∀ w', MapIs w' b n (upd f k none) → w.grownBy w' (some b) → w'.heap.size = w.heap.size → wpList Tryz.prog ops Q rest (a.put o.dst (.tuple #[])) w') : wpList Tryz.prog ops Q (o :: rest) a w := by
  obtain ⟨D, h1, h2⟩ := h
  refine wpList_delete_own w hg m x _ _ hop _ law mapT slR b n D hm h1 _ _ hx (keyIs hk) fun w' r1 r2 => ?_
  have hsz : w'.heap.size = w.heap.size := by
    obtain ⟨es, clock, es', clock', hb, rfl⟩ := r2
    simp [setBlock]
  exact hK w' ⟨_, r1, sees_del h2 k⟩ r2.grown hsz
/-- the length -/
theorem wpList_size (hg : o.guard = none) (m : Operand) (hop : o.op = Op.call { callee := Callee.builtin Builtin.len, args := #[m], argTypes := #[61] }) (b n : Nat) (f : ByteArray → Option Sl) (hm : a.eval m = .map (some b)) (h : MapIs w b n f) {KL : List ByteArray} (hd : KL.Nodup) (hk : ∀ k, (f k).isSome = true ↔ k ∈ KL) (hl : ∀ k ∈ KL, k.size ≤ maxLen) (c : Nat) (hc : KL.length = c)
    (hK : wpList Tryz.prog ops Q rest (a.put o.dst (.int .i64 (c : Int))) w) : wpList Tryz.prog ops Q (o :: rest) a w := by
  obtain ⟨D, h1, h2⟩ := h
  refine wpList_len_own w hg m _ hop _ _ mapT slR b n D hm h1 ?_
  rw [sees_size h1 h2 hd hk hl, hc]
  exact hK
/-- a range under way: which keys are still to come -/
def Rng (w : World) (b r n : Nat) (f : ByteArray → Option Sl) (left : ByteArray → Bool) (cnt : Nat) : Prop :=
  ∃ D lf, w.ranges Tryz.prog 9 slR b r n D lf cnt ∧ Sees D f ∧ ∀ k : ByteArray, k.size ≤ maxLen → lf (lk k) = left k
theorem Rng.map {w : World} {b r n cnt : Nat} {f : ByteArray → Option Sl} {left : ByteArray → Bool} (h : Rng w b r n f left cnt) : MapIs w b n f := by obtain ⟨D, lf, h1, h2, _⟩ := h; exact ⟨D, h1.owns, h2⟩
theorem Rng.left_eq {w : World} {b r n cnt : Nat} {f : ByteArray → Option Sl} {left : ByteArray → Bool} (h : Rng w b r n f left cnt) : w.rangeLeft b r = cnt := by obtain ⟨D, lf, h1, h2, _⟩ := h; exact h1.left_eq
theorem Rng.lt {w : World} {b r n cnt : Nat} {f : ByteArray → Option Sl} {left : ByteArray → Bool} (h : Rng w b r n f left cnt) : r < w.heap.size := by obtain ⟨D, lf, h1, h2, _⟩ := h; exact h1.lt
theorem Rng.iter {w : World} {b r n cnt : Nat} {f : ByteArray → Option Sl} {left : ByteArray → Bool} (h : Rng w b r n f left cnt) (q : Addr) (hq : q.block = r) : w.cell? q = none := by
  obtain ⟨D, lf, ⟨es, clock, since, seen, c0, _, _, _, _, hr, _⟩, _⟩ := h
  obtain ⟨g, o, sp⟩ := q
  simp only at hq
  subst hq
  unfold World.cell?
  simp [hr]
theorem Rng.kept {w w' : World} {b r n cnt : Nat} {f : ByteArray → Option Sl} {left : ByteArray → Bool} {row : Option Nat} (h : Rng w b r n f left cnt) (hg : w.grownBy w' row) (hb : some b ≠ row) (hr : some r ≠ row) : Rng w' b r n f left cnt := by
  obtain ⟨D, lf, h1, h2, h3⟩ := h
  exact ⟨D, lf, h1.kept hg hb hr, h2, h3⟩
theorem Rng.below {w w' : World} {b r n cnt : Nat} {f : ByteArray → Option Sl} {left : ByteArray → Bool} (h : Rng w b r n f left cnt) (hb : Below w.heap.size w w') : Rng w' b r n f left cnt :=
  h.kept (row := none) ⟨hb.os, hb.tape, hb.output, hb.size, fun k hk _ => hb.block k hk⟩ (by simp) (by simp)
theorem wpList_rng (hg : o.guard = none) (m : Operand) (hop : o.op = Op.range 61 m) (b n : Nat) (f : ByteArray → Option Sl) (hm : a.eval m = .map (some b)) (h : MapIs w b n f)
    (hK : ∀ w' cnt, Rng w' b w.heap.size n f (fun k => (f k).isSome) cnt → cnt ≤ n → Below w.heap.size w w' → wpList Tryz.prog ops Q rest (a.put o.dst (.pointer (some ⟨w.heap.size, 0, none⟩))) w') : wpList Tryz.prog ops Q (o :: rest) a w := by
  obtain ⟨D, h1, h2⟩ := h
  refine wpList_range_own w hg m _ hop _ _ law mapT slR b n D hm h1 fun w' r1 r2 r3 => ?_
  exact hK w' _ ⟨D, _, r1, h2, fun k hk => (h2 k hk).1⟩ h1.size_le ⟨r2.os, r2.tape, r2.output, by omega, fun k hk => r2.block k hk (by simp)⟩
theorem wpList_step (hg : o.guard = none) (it : Operand) (hop : o.op = Op.next it false) (b r n : Nat) (f : ByteArray → Option Sl) (left : ByteArray → Bool) (cnt : Nat) (hit : a.eval it = .pointer (some ⟨r, 0, none⟩)) (h : Rng w b r n f left cnt)
    (hDone : (∀ k : ByteArray, k.size ≤ maxLen → left k = false) → wpList Tryz.prog ops Q rest (a.put o.dst (.tuple #[.bool false])) w)
    (hMore : ∀ (k : ByteArray) (s : Sl) (w' : World) (cnt' : Nat), k.size ≤ maxLen → left k = true → f k = some s → Rng w' b r n f (fun x => left x && !decide (x = k)) cnt' → cnt' < cnt → w.grownBy w' (some r) → w'.heap.size = w.heap.size →
      (Instr.entry (.pointer (some ⟨r, 0, none⟩))).run Tryz.prog w' = .ok (.tuple #[.string k, .slice s.1 s.2.1 s.2.2]) w' → wpList Tryz.prog ops Q rest (a.put o.dst (.tuple #[.bool true, .string k, .slice s.1 s.2.1 s.2.2])) w') : wpList Tryz.prog ops Q (o :: rest) a w := by
  obtain ⟨D, lf, h1, h2, h3⟩ := h
  refine wpList_next_ranges w hg it hop _ law slR Value.string slV (fun key kl hkey => by obtain ⟨k, e, _⟩ := keyInv hkey; exact ⟨k, e⟩) (fun v y hv => by obtain ⟨s, e, _⟩ := slR_inv hv; exact ⟨s, e⟩) b r n D lf cnt hit h1 (fun _ hl => hDone fun k hk => by rw [← h3 k hk]; exact hl _) ?_
  intro k s kl y w' cnt' hkey hl hv hat hrg hlt hgr hsz hen
  obtain ⟨k2, e, rfl, hk⟩ := keyInv hkey
  cases e
  obtain ⟨s2, e, rfl⟩ := slR_inv hv
  have hlk : left k = true := by rw [← h3 k hk]; exact hl
  have hhas := Maps.has_true_of_atKey hat
  obtain ⟨g1, g2⟩ := h2 k hk
  rw [hhas] at g1
  obtain ⟨s3, hs3⟩ := Option.isSome_iff_exists.1 g1.symm
  have e4 : slV s = slV s3 := by
    have := (hat (.held (slV s))).symm.trans (g2 s3 hs3 _)
    simp only [DataW.held.injEq] at this
    rw [e]
    exact this
  have e5 : s = s3 := by
    obtain ⟨a1, a2, a3⟩ := s
    obtain ⟨b1, b2, b3⟩ := s3
    simp [slV] at e4
    obtain ⟨rfl, rfl, rfl⟩ := e4
    rfl
  subst e5
  exact hMore k s w' cnt' hk hlk hs3 ⟨D, _, hrg, h2, fun x hx => by simp only [h3 x hx, lk_same]⟩ hlt hgr hsz hen
end

theorem eql_map_nil (w : World) (r : Option Nat) : (binOp .eql 61 (.map r) (.map none)).run Tryz.prog w = .ok (.bool r.isNone) w := by
  have h : ∀ d : Nat, (Op.equalIn (d + 1) 61 (.map r) (.map none)).run Tryz.prog w = .ok r.isNone w := fun d => by
    cases r <;> simp [Op.equalIn, run_underlying mapT]
  simp only [binOp]
  simp [Op.equal, Op.maxDepth, h 9999]
/-- a map, or none -/
def MapO (w : World) (mo : Option Nat) (n : Nat) (f : ByteArray → Option Sl) : Prop := match mo with
  | none => ∀ k, f k = none
  | some b => MapIs w b n f
theorem MapO.heap {w w' : World} {mo : Option Nat} {n : Nat} {f : ByteArray → Option Sl} (h : MapO w mo n f) (e : ∀ b, mo = some b → w'.heap[b]? = w.heap[b]?) : MapO w' mo n f := by
  cases mo with
  | none => exact h
  | some b => exact MapIs.heap h (e b rfl)
theorem MapO.below {w w' : World} {mo : Option Nat} {n : Nat} {f : ByteArray → Option Sl} (h : MapO w mo n f) (hb : Below w.heap.size w w') : MapO w' mo n f := by
  cases mo with
  | none => exact h
  | some b => exact MapIs.below h hb
theorem MapO.lt {w : World} {mo : Option Nat} {n : Nat} {f : ByteArray → Option Sl} (h : MapO w mo n f) : ∀ b, mo = some b → b < w.heap.size := by
  rintro b rfl
  exact MapIs.lt h
theorem MapO.cell {w : World} {mo : Option Nat} {n : Nat} {f : ByteArray → Option Sl} (h : MapO w mo n f) : ∀ q : Addr, some q.block = mo → w.cell? q = none := by
  rintro q rfl
  exact MapIs.cell h q rfl
section
variable (w : World) {ops : Array Oper} {rest : List Oper} {o : Oper} {a : Act} {Q : Exit → Act → World → Prop}
theorem wpList_lookO (hg : o.guard = none) (m x : Operand) (hop : o.op = Op.lookup 61 m x false) (mo : Option Nat) (n : Nat) (f : ByteArray → Option Sl) (hm : a.eval m = .map mo) (h : MapO w mo n f) (k : ByteArray) (hx : a.eval x = .string k) (hk : k.size ≤ maxLen)
    (s : Sl) (hs : (f k).getD (none, 0, 0) = s) (hK : wpList Tryz.prog ops Q rest (a.put o.dst (.slice s.1 s.2.1 s.2.2)) w) : wpList Tryz.prog ops Q (o :: rest) a w := by
  cases mo with
  | some b => exact wpList_look w hg m x hop b n f hm h k hx hk s hs hK
  | none =>
    refine wpList_plain hg fun K' hK' => ?_
    have hrun := Maps.look_nil (w := w) false law mapT (zeroE w) (keyIs hk)
    simp only [Bool.false_eq_true, if_false] at hrun
    rw [show f k = none from h k] at hs
    subst hs
    unfold Oper.wp
    simp [execOp, hop, hm, hx, hrun, Result.andThen]
    exact hK' _ _ hK
theorem wpList_sizeO (hg : o.guard = none) (m : Operand) (hop : o.op = Op.call { callee := Callee.builtin Builtin.len, args := #[m], argTypes := #[61] }) (mo : Option Nat) (n : Nat) (f : ByteArray → Option Sl) (hm : a.eval m = .map mo) (h : MapO w mo n f) {KL : List ByteArray} (hd : KL.Nodup) (hk : ∀ k, (f k).isSome = true ↔ k ∈ KL) (hl : ∀ k ∈ KL, k.size ≤ maxLen) (c : Nat) (hc : KL.length = c)
    (hK : wpList Tryz.prog ops Q rest (a.put o.dst (.int .i64 (c : Int))) w) : wpList Tryz.prog ops Q (o :: rest) a w := by
  cases mo with
  | some b => exact wpList_size w hg m hop b n f hm h hd hk hl c hc hK
  | none =>
    have e : KL = [] := by
      cases KL with
      | nil => rfl
      | cons x KL =>
        have := (hk x).2 (by simp)
        rw [show f x = none from h x] at this
        cases this
    subst e
    obtain rfl : c = 0 := hc.symm
    refine wpList_plain hg fun K' hK' => ?_
    have hrun := Maps.len_nil (P := Tryz.prog) (w := w) mapT o.type
    unfold Oper.wp
    simp [execOp, hop, resolve, invoke, builtin, hm, hrun, Result.andThen]
    exact hK' _ _ hK
def RngO (w : World) (mo : Option Nat) (r n : Nat) (f : ByteArray → Option Sl) (left : ByteArray → Bool) (cnt : Nat) : Prop := match mo with
  | none => w.heap[r]? = some (.mapIter none 0 #[] 0) ∧ (∀ k, left k = false) ∧ cnt = 0
  | some b => Rng w b r n f left cnt
def leftO (mo : Option Nat) (r : Nat) (w : World) : Nat := match mo with
  | none => 0
  | some b => w.rangeLeft b r
theorem RngO.left_eq {w : World} {mo : Option Nat} {r n cnt : Nat} {f : ByteArray → Option Sl} {left : ByteArray → Bool} (h : RngO w mo r n f left cnt) : leftO mo r w = cnt := by
  cases mo with
  | none => exact h.2.2.symm
  | some b => exact Rng.left_eq h
theorem RngO.lt {w : World} {mo : Option Nat} {r n cnt : Nat} {f : ByteArray → Option Sl} {left : ByteArray → Bool} (h : RngO w mo r n f left cnt) : r < w.heap.size := by
  cases mo with
  | none => exact (Array.getElem?_eq_some_iff.1 h.1).1
  | some b => exact Rng.lt h
theorem RngO.below {w w' : World} {mo : Option Nat} {r n cnt : Nat} {f : ByteArray → Option Sl} {left : ByteArray → Bool} (h : RngO w mo r n f left cnt) (hb : Below w.heap.size w w') : RngO w' mo r n f left cnt := by
  cases mo with
  | none => exact ⟨(hb.block r (RngO.lt (mo := none) (f := f) (n := n) h)).trans h.1, h.2⟩
  | some b => exact Rng.below h hb
theorem RngO.kept {w w' : World} {mo : Option Nat} {r n cnt : Nat} {f : ByteArray → Option Sl} {left : ByteArray → Bool} {row : Option Nat} (h : RngO w mo r n f left cnt) (hg : w.grownBy w' row) (hb : ∀ b, mo = some b → some b ≠ row) (hr : some r ≠ row) : RngO w' mo r n f left cnt := by
  cases mo with
  | none => exact ⟨(hg.block r (RngO.lt (mo := none) (f := f) (n := n) h) hr).trans h.1, h.2⟩
  | some b => exact Rng.kept h hg (hb b rfl) hr
theorem wpList_rngO (hg : o.guard = none) (m : Operand) (hop : o.op = Op.range 61 m) (mo : Option Nat) (n : Nat) (f : ByteArray → Option Sl) (hm : a.eval m = .map mo) (h : MapO w mo n f)
    (hK : ∀ w' cnt, RngO w' mo w.heap.size n f (fun k => (f k).isSome) cnt → cnt ≤ n → Below w.heap.size w w' → wpList Tryz.prog ops Q rest (a.put o.dst (.pointer (some ⟨w.heap.size, 0, none⟩))) w') : wpList Tryz.prog ops Q (o :: rest) a w := by
  cases mo with
  | some b => exact wpList_rng w hg m hop b n f hm h hK
  | none =>
    refine wpList_plain hg fun K' hK' => ?_
    have hrun := run_range_nilMap (P := Tryz.prog) w _ _ _ mapT
    unfold Oper.wp
    simp [execOp, hop, hm, hrun, Result.andThen]
    exact hK' _ _ (hK _ 0 ⟨heap_alloc_new w _, fun k => by show (f k).isSome = false; rw [show f k = none from h k]; rfl, rfl⟩ (Nat.zero_le _) ((Below.refl _ _).alloc (Nat.le_refl _) _))
theorem wpList_stepO (hg : o.guard = none) (it : Operand) (hop : o.op = Op.next it false) (mo : Option Nat) (r n : Nat) (f : ByteArray → Option Sl) (left : ByteArray → Bool) (cnt : Nat) (hit : a.eval it = .pointer (some ⟨r, 0, none⟩)) (h : RngO w mo r n f left cnt)
    (hDone : (∀ k : ByteArray, k.size ≤ maxLen → left k = false) → wpList Tryz.prog ops Q rest (a.put o.dst (.tuple #[.bool false])) w)
    (hMore : ∀ (k : ByteArray) (s : Sl) (w' : World) (cnt' : Nat), k.size ≤ maxLen → left k = true → f k = some s → RngO w' mo r n f (fun x => left x && !decide (x = k)) cnt' → cnt' < cnt → w.grownBy w' (some r) → w'.heap.size = w.heap.size →
      (Instr.entry (.pointer (some ⟨r, 0, none⟩))).run Tryz.prog w' = .ok (.tuple #[.string k, .slice s.1 s.2.1 s.2.2]) w' → wpList Tryz.prog ops Q rest (a.put o.dst (.tuple #[.bool true, .string k, .slice s.1 s.2.1 s.2.2])) w') : wpList Tryz.prog ops Q (o :: rest) a w := by
  cases mo with
  | some b => exact wpList_step w hg it hop b r n f left cnt hit h hDone hMore
  | none =>
    refine wpList_plain hg fun K' hK' => ?_
    have hrun : (Instr.next (.pointer (some ⟨r, 0, none⟩)) false o.type).run Tryz.prog w = .ok (.tuple #[.bool false]) w := by
      simp only [Instr.next, getObj, Sem.run_bind, Sem.run, h.1, Result.andThen]
      rfl
    unfold Oper.wp
    simp [execOp, hop, hit, hrun, Result.andThen]
    exact hK' _ _ (hDone fun k _ => h.2.1 k)
end
end Go.Proofs.YtjjikooabmddlaaGreatDoor.MapSl

/-
  Lists of rows of the call's own: rows, and the list of where they lie. No function of the program is named.
-/
namespace Go.Proofs.YtjjikooabmddlaaGreatDoor.Items
open Go.ChangeShapes Go.WideShapes Go.ChangeAt Go.RowKit Val Go.Proofs.YtjjikooabmddlaaGreatDoor.Code Go.Proofs.YtjjikooabmddlaaGreatDoor.Elems
set_option linter.unusedVariables false

/-- a row's place, as the cell of a list of rows -/
def cellsR (x : Option Addr × Nat × List (Int × Int × ByteArray)) : List Value := [.slice x.1 x.2.2.length x.2.1]
theorem cellsR_length (x : Option Addr × Nat × List (Int × Int × ByteArray)) : (cellsR x).length = 1 := rfl
theorem cellsR_one (x : Option Addr × Nat × List (Int × Int × ByteArray)) : ∀ u ∈ cellsR x, u.oneCell' = true := by
  intro u hu
  simp [cellsR] at hu
  subst hu
  rfl
theorem info_row : (Tryz.prog.info? 25).map (fun i => (i.zero, i.size, i.bytes)) = some (some (.slice none 0 0), 1, 24) := by kernel_rfl
/-- rows of the call's own, from block B on -/
def Held (w : World) (B : Nat) (R : List (Option Addr × Nat × List (Int × Int × ByteArray))) : Prop := ∀ x ∈ R, w.ownsRow B 51 3 (.slice x.1 x.2.2.length x.2.1) x.2.2.length (flat x.2.2)
theorem own_ne {w : World} {B B' n n' k k' : Nat} {e e' : TypeId} {v v' : Value} {xs xs' : List Value} (h : w.ownsRow B e k v n xs) (h' : w.ownsRow B' e' k' v' n' xs') (he : e ≠ e') : v.ownBlock = none ∨ v.ownBlock ≠ v'.ownBlock := by
  rcases h.2 with ⟨rfl, _⟩ | ⟨g, cap, cur, rfl, _, hg, _⟩
  · exact .inl rfl
  · refine .inr fun e1 => ?_
    rcases h'.2 with ⟨rfl, _⟩ | ⟨g', cap', cur', rfl, _, hg', _⟩
    · cases e1
    · simp only [Value.ownBlock, Option.some.injEq] at e1
      subst e1
      rw [hg] at hg'
      injection hg' with h1
      injection h1 with _ h2 _
      exact he h2
theorem own_to {w w' : World} {B n k : Nat} {e : TypeId} {v : Value} {xs : List Value} (h : w.ownsRow B e k v n xs) (hb : Below w.heap.size w w') : w'.ownsRow B e k v n xs := by
  refine ⟨h.1, ?_⟩
  rcases h.2 with hn | ⟨g, cap, cur, rfl, hB, hgg, rest⟩
  · exact .inl hn
  · exact .inr ⟨g, cap, cur, rfl, hB, (hb.block g (Array.getElem?_eq_some_iff.1 hgg).1).trans hgg, rest⟩
theorem own_less {w : World} {B B' n k : Nat} {e : TypeId} {v : Value} {xs : List Value} (h : w.ownsRow B e k v n xs) (hB : B' ≤ B) : w.ownsRow B' e k v n xs := by
  refine ⟨h.1, ?_⟩
  rcases h.2 with hn | ⟨g, cap, cur, rfl, hb, rest⟩
  · exact .inl hn
  · exact .inr ⟨g, cap, cur, rfl, by omega, rest⟩
theorem own_row {w : World} {B : Nat} {A : Option Addr} {cap : Nat} {l : List (Int × Int × ByteArray)} (h : w.ownsRow B 51 3 (.slice A l.length cap) l.length (flat l)) : Vals w w.heap.size A l := by
  obtain ⟨A', cap', he, hv⟩ := own_vals h
  injection he with h1 _ _
  rw [h1]
  exact hv
theorem own_rows {w : World} {B : Nat} {A : Option Addr} {cap : Nat} {R : List (Option Addr × Nat × List (Int × Int × ByteArray))} (h : w.ownsRow B 25 1 (.slice A R.length cap) R.length (flatC cellsR R)) : At cellsR 1 w w.heap.size A R := by
  obtain ⟨A', cap', he, hv⟩ := own_at cellsR_length h
  injection he with h1 _ _
  rw [h1]
  exact hv
theorem Held.to {w w' : World} {B : Nat} {R : List (Option Addr × Nat × List (Int × Int × ByteArray))} (h : Held w B R) (hb : Below w.heap.size w w') : Held w' B R := fun x hx => own_to (h x hx) hb
theorem Held.grown {w w' : World} {B B' n k : Nat} {e : TypeId} {v : Value} {xs : List Value} {R : List (Option Addr × Nat × List (Int × Int × ByteArray))} (h : Held w B R) (ho : w.ownsRow B' e k v n xs) (he : 51 ≠ e) (hg : w.grownBy w' v.ownBlock) : Held w' B R := fun x hx => (h x hx).kept hg (own_ne (h x hx) ho he)
theorem Held.snoc {w : World} {B : Nat} {R : List (Option Addr × Nat × List (Int × Int × ByteArray))} {x : Option Addr × Nat × List (Int × Int × ByteArray)} (h : Held w B R) (hx : w.ownsRow B 51 3 (.slice x.1 x.2.2.length x.2.1) x.2.2.length (flat x.2.2)) : Held w B (R ++ [x]) := fun y hy => by
  rcases List.mem_append.1 hy with hy | hy
  · exact h y hy
  · rw [List.mem_singleton.1 hy]; exact hx
/-- the rows' values are the items' -/
def Copies (R : List (Option Addr × Nat × List (Int × Int × ByteArray))) (L : List It) : Prop := R.map (·.2.2) = L.map (·.2.2.1)
theorem Copies.at {R : List (Option Addr × Nat × List (Int × Int × ByteArray))} {L : List It} (h : Copies R L) (k : Nat) (h1 : k < R.length) (h2 : k < L.length) : R[k].2.2 = L[k].2.2.1 := by
  have := congrArg (·[k]?) h
  simpa [h1, h2] using this
theorem Copies.snoc {R : List (Option Addr × Nat × List (Int × Int × ByteArray))} {L : List It} {k : Nat} (h : Copies R (L.take k)) (hk : k < L.length) {A : Option Addr} {c : Nat} {r : List (Int × Int × ByteArray)} (hr : L[k].2.2.1 = r) : Copies (R ++ [(A, c, r)]) (L.take (k + 1)) := by
  unfold Copies at *
  rw [List.take_succ_eq_append_getElem hk, List.map_append, List.map_append, h, ← hr]
  rfl
end Go.Proofs.YtjjikooabmddlaaGreatDoor.Items
