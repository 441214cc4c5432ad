/-
  Lists in memory whose elements have any number of cells: what lies where, what is appended. No type and no function of the program is named.
-/
import Derived.Test.YthkdpfadjbhmoaaDoorRowLib
namespace Go.Proofs.YthkdpfadjbhmoaaDoor.Elems
open Go.ChangeShapes Go.WideShapes Go.ChangeAt Go.RowKit Val Go.Proofs.YthkdpfadjbhmoaaDoor.Code
set_option linter.unusedVariables false
section
variable {α : Type} {c : α → List Value} {k : Nat}

/-- elements as the cells of a row -/
def flatC (c : α → List Value) (l : List α) : List Value := l.flatMap c
theorem flatC_length (hk : ∀ x, (c x).length = k) : ∀ l, (flatC c l).length = l.length * k
  | [] => by simp [flatC]
  | v :: l => by
    show (c v ++ flatC c l).length = _
    rw [List.length_append, flatC_length hk l, List.length_cons, hk, Nat.add_mul, Nat.one_mul, Nat.add_comm]
theorem flatC_at (hk : ∀ x, (c x).length = k) : ∀ (l : List α) (i : Nat) (h : i < l.length) (j : Nat), j < k → (flatC c l)[i * k + j]? = (c l[i])[j]?
  | v :: l, 0, _, j, hj => by
    show (c v ++ flatC c l)[0 * k + j]? = (c v)[j]?
    rw [Nat.zero_mul, Nat.zero_add, List.getElem?_append_left (by rw [hk]; exact hj)]
  | v :: l, i + 1, h, j, hj => by
    show (c v ++ flatC c l)[(i + 1) * k + j]? = _
    rw [List.getElem?_append_right (by rw [hk, Nat.add_mul, Nat.one_mul]; omega), hk, show (i + 1) * k + j - k = i * k + j by rw [Nat.add_mul, Nat.one_mul]; omega]
    exact flatC_at hk l i (by simpa using h) j hj
theorem flatC_snoc (l : List α) (v : α) : flatC c (l ++ [v]) = flatC c l ++ c v := by
  unfold flatC
  rw [List.flatMap_append]
  simp
theorem flatC_append (a b : List α) : flatC c (a ++ b) = flatC c a ++ flatC c b := List.flatMap_append
theorem flatC_one (h1 : ∀ x, ∀ u ∈ c x, u.oneCell' = true) (l : List α) : ∀ u ∈ flatC c l, u.oneCell' = true := by
  intro u hu
  obtain ⟨v, _, hv⟩ := List.mem_flatMap.1 hu
  exact h1 v u hv
/-- the slice at A holds these elements, and lies below B -/
def At (c : α → List Value) (k : Nat) (w : World) (B : Nat) (A : Option Addr) (l : List α) : Prop :=
  ∀ (i : Nat) (h : i < l.length), ∃ ad : Addr, A = some ad ∧ ad.block < B ∧ ∀ (j : Nat) (u : Value), (c l[i])[j]? = some u → w.cell? (ad.add (i * k + j)) = some u
theorem At.keep {w w' : World} {B : Nat} {A : Option Addr} {l : List α} (h : At c k w B A l) (hk : ∀ p : Addr, p.block < B → w'.cell? p = w.cell? p) : At c k w' B A l := by
  intro i hi
  obtain ⟨ad, e, hb, h0⟩ := h i hi
  exact ⟨ad, e, hb, fun j u hu => (hk _ (by rw [add_block]; exact hb)).trans (h0 j u hu)⟩
theorem At.below {w w' : World} {B : Nat} {A : Option Addr} {l : List α} (h : At c k w B A l) (hb : Below B w w') : At c k w' B A l := h.keep fun _ hp => hb.cell hp
theorem At.more {w : World} {B B' : Nat} {A : Option Addr} {l : List α} (h : At c k w B A l) (hB : B ≤ B') : At c k w B' A l := by
  intro i hi
  obtain ⟨ad, e, hb, h0⟩ := h i hi
  exact ⟨ad, e, by omega, h0⟩
theorem At.nil (w : World) (B : Nat) (A : Option Addr) : At c k w B A ([] : List α) := fun i hi => absurd hi (Nat.not_lt_zero _)
theorem At.take {w : World} {B : Nat} {A : Option Addr} {l : List α} (h : At c k w B A l) (n : Nat) : At c k w B A (l.take n) := by
  intro i hi
  rw [List.length_take] at hi
  obtain ⟨ad, e, hb, h0⟩ := h i (by omega)
  exact ⟨ad, e, hb, by rw [List.getElem_take]; exact h0⟩
/-- a row of the call's own is a list of elements -/
theorem own_at (hk : ∀ x, (c x).length = k) {w : World} {B : Nat} {e : TypeId} {v : Value} {l : List α} (h : w.ownsRow B e k v l.length (flatC c l)) : ∃ A cap, v = .slice A l.length cap ∧ At c k w w.heap.size A l := by
  rcases Nat.eq_zero_or_pos l.length with h0 | h0
  · have hn := List.eq_nil_of_length_eq_zero h0
    subst hn
    rcases h.2 with ⟨rfl, _⟩ | ⟨g, cap, cur, rfl, _⟩
    · exact ⟨none, 0, rfl, At.nil _ _ _⟩
    · exact ⟨some ⟨g, 0, none⟩, cap, rfl, At.nil _ _ _⟩
  · obtain ⟨g, cap, hv, hg, hlt⟩ := h.form h0
    have hc := h.cells (g := g) (by rw [hv]; rfl)
    refine ⟨some ⟨g, 0, none⟩, cap, hv, fun i hi => ⟨⟨g, 0, none⟩, rfl, hlt, fun j u hu => hc _ _ ?_⟩⟩
    have hj : j < k := by
      have := (List.getElem?_eq_some_iff.1 hu).1
      rwa [hk] at this
    rw [flatC_at hk l i hi j hj, hu]
theorem at_news (hk : ∀ x, (c x).length = k) (hk0 : 0 < k) {w : World} {B : Nat} {ad : Addr} {l : List α} (h : At c k w B (some ad) l) : ∀ (j : Nat) (u : Value), (flatC c l)[j]? = some u → w.cell? (ad.add j) = some u := by
  intro j u hu
  have hj : j < l.length * k := by
    have := (List.getElem?_eq_some_iff.1 hu).1
    rwa [flatC_length hk] at this
  have hi : j / k < l.length := Nat.div_lt_of_lt_mul (by rw [Nat.mul_comm]; exact hj)
  have hr : j % k < k := Nat.mod_lt _ hk0
  have e : j = j / k * k + j % k := by have := Nat.div_add_mod j k; rw [Nat.mul_comm] at this; exact this.symm
  obtain ⟨ad', e', _, h0⟩ := h (j / k) hi
  obtain rfl : ad = ad' := Option.some.inj e'
  rw [e]
  refine h0 _ _ ?_
  rw [← flatC_at hk l _ hi _ hr, ← e]
  exact hu
theorem run_append_nothingK {P : Program} (w : World) (base : Nat) (t ty e : TypeId) (i : TypeInfo) (size : Nat) (ht : P.underlying t = some (.slice e)) (hi : P.info? e = some i) (v : Value) (n : Nat) (xs : List Value) (hown : w.ownsRow base e size v n xs) (cp : Nat) :
    (Builtin.append_ #[t, t] ty #[v, .slice none 0 cp]).run P w = .ok v w := run_append_nothing w base t ty e i size ht hi v n xs hown cp
/-- a list appended to a row of the call's own, whether it is nil or not -/
theorem wpList_append_at (hk : ∀ x, (c x).length = k) (hk0 : 0 < k) (h1 : ∀ x, ∀ u ∈ c x, u.oneCell' = true) {P : Program} {w : World} {ops : Array Oper} {rest : List Oper} {o : Oper} {a : Act} {Q : Exit → Act → World → Prop} (hgd : o.guard = none) (s x : Operand) (t : TypeId)
    (ho : o.op = .call { callee := .builtin .append, args := #[s, x], argTypes := #[t, t] })
    (base : Nat) (e : TypeId) (i : TypeInfo) (z : Value) (bytes : Nat) (ht : P.underlying t = some (.slice e)) (hi : P.info? e = some i) (hz : i.zero = some z)
    (hsize : i.size = k) (hby : i.bytes = bytes) (hzs : z.cells.size = k) (v : Value) (n : Nat) (xs : List Value) (hs : a.eval s = v) (hown : w.ownsRow base e k v n xs)
    (B : Nat) (A : Option Addr) (cp : Nat) (l : List α) (hx : a.eval x = .slice A l.length cp) (hv : At c k w B A l)
    (h63 : n + l.length ≤ maxLen) (hbytes : (n + l.length) * bytes ≤ 140737488355328) (hbase : base ≤ w.heap.size)
    (h : ∀ v' w', w'.ownsRow base e k v' (n + l.length) (xs ++ flatC c l) → w.grownBy w' v.ownBlock → wpList P ops Q rest (a.put o.dst v') w') : wpList P ops Q (o :: rest) a w := by
  rcases A with _ | ad
  · have h0 : l = [] := by
      cases l with
      | nil => rfl
      | cons y l =>
        obtain ⟨ad, e, _⟩ := hv 0 (by simp)
        cases e
    subst h0
    refine wpList_plain hgd fun K hK => ?_
    have hrun := run_append_nothing (P := P) w base t o.type e i k ht hi v n xs hown cp
    unfold Oper.wp
    simp only [ho, execOp, resolve, invoke, builtin, Sem.run_bind, Sem.run_pure, Result.andThen_ok, List.map_toArray, List.map_cons, List.map_nil, hs, hx, List.length_nil, hrun]
    exact hK _ _ (h v w (by simpa [flatC] using hown) (World.grownBy.refl w _))
  · exact wpList_append_own w hgd s x t ho base e i z k bytes ht hi hz hsize hby hzs hk0 v n xs hs hown ad l.length cp (flatC c l) hx (flatC_length hk l) (at_news hk hk0 hv) (flatC_one h1 l) h63 hbytes hbase (fun v' w' h1 h2 _ => h v' w' h1 h2)
end
end Go.Proofs.YthkdpfadjbhmoaaDoor.Elems
