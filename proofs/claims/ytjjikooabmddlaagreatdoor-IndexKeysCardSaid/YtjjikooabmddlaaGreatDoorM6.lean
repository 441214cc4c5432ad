/-
  Contracts of the document's One and Encode (cut out of CodeOne and CodeRenc).
-/
import Derived.Test.YtjjikooabmddlaaGreatDoorM5
import Derived.Test.YtjjikooabmddlaaGreatDoorM3
import Derived.Test.YtjjikooabmddlaaGreatDoorM2
namespace Go.Proofs.YtjjikooabmddlaaGreatDoor.Code
open Go.ChangeShapes Go.WideShapes Go.ChangeAt Go.RowKit Val
set_option linter.unusedVariables false

theorem esc_snoc (b : UInt8) : ∀ l : List UInt8, esc (l ++ [b]) = esc l ++ (if b = 0 then [0, 255] else [b])
  | [] => by simp [esc]
  | c :: l => by
    show esc (c :: (l ++ [b])) = _
    rw [esc, esc, esc_snoc b l]
    split <;> simp
theorem esc_take (s : ByteArray) (k : Nat) (h : k < s.size) : esc (s.data.toList.take (k + 1)) = esc (s.data.toList.take k) ++ (if s[k] = 0 then [0, 255] else [s[k]]) := by
  have hl : s.data.toList.length = s.size := rfl
  rw [List.take_succ_eq_append_getElem (by omega), esc_snoc]
  rfl
theorem one_at (s : ByteArray) (k : Nat) (h : k < s.size) : s.extract k (k + 1) = ⟨#[s[k]]⟩ := by
  refine ba_of ?_
  have hl : s.data.toList.length = s.size := rfl
  rw [ByteArray.data_extract, Array.toList_extract, List.extract_eq_take_drop, List.drop_eq_getElem_cons (by omega), show k + 1 - k = 1 by omega]
  rfl
theorem putS_size (a : Int) : (Num.putS a).size = 8 := by
  unfold Num.putS
  rw [size_list, strOfNums_data]
  rfl
theorem put_low (u : Int) (h : 0 ≤ u ∧ u < 4294967296) : (Num.putS u).extract 4 (Num.putS u).size = ⟨(be 4 u).toArray⟩ := by
  refine ba_of ?_
  rw [from_list, putS_be u (by unfold Num.fitsU; omega)]
  exact be8_drop h
theorem strV {a b : ByteArray} (h : a = b) : Value.string a = Value.string b := by rw [h]
end Go.Proofs.YtjjikooabmddlaaGreatDoor.Code

/-
  Contracts of row.Key and of the document's Key.
-/
namespace Go.Proofs.YtjjikooabmddlaaGreatDoor.Code
open Go.ChangeShapes Go.WideShapes Go.ChangeAt Go.RowKit Val
set_option linter.unusedVariables false

/-- a row's bytes -/
def keyS (l : List (Int × Int × ByteArray)) : ByteArray := if rightR l then encS l else ⟨#[]⟩
theorem key_yes {l : List (Int × Int × ByteArray)} (h : rightR l = true) : keyS l = encS l := by unfold keyS; rw [h]; rfl
theorem key_no {l : List (Int × Int × ByteArray)} (h : rightR l = false) : keyS l = ⟨#[]⟩ := by unfold keyS; rw [h]; rfl
theorem rowRight_is (A : Option Addr) (cap : Nat) (l : List (Int × Int × ByteArray)) (b : Bool) (h : rightR l = b) (w : World) (hv : Vals w w.heap.size A l) (hf : FitL l) (hl : l.length ≤ 140737488355328) :
    Calls Tryz.prog 38 #[.slice A l.length cap] w fun e w' => e = .returned (.bool b) ∧ Below w.heap.size w w' := by
  have := rowRight_any A cap l w hv hf hl
  rw [h] at this
  exact this
theorem rrowRight_is (A : Option Addr) (cap : Nat) (l : List (Int × Int × ByteArray)) (b : Bool) (h : rightR l = b) (w : World) (hv : Vals w w.heap.size A l) (hl : l.length ≤ 140737488355328) :
    Calls Tryz.prog 25 #[.slice A l.length cap] w fun e w' => e = .returned (.bool b) ∧ Below w.heap.size w w' := by
  have := rrowRight_any A cap l w hv hl
  rw [h] at this
  exact this
set_option maxHeartbeats 1000000 in
theorem rowKey_any (A : Option Addr) (cap : Nat) (l : List (Int × Int × ByteArray)) (m : Int) (w : World) (hv : Vals w w.heap.size A l) (hf : FitL l) (hl : l.length ≤ 300000000000) (hm : w.cell? ⟨0, 0, none⟩ = some (.int .i64 m)) :
    Calls Tryz.prog 40 #[.slice A l.length cap] w fun e w' => e = .returned (.string (keyS l)) ∧ Below w.heap.size w w' := by
  have hlt : 0 < w.heap.size := World.block_lt_of_cell? _ _ hm
  obtain ⟨b, hb⟩ : ∃ b, rightR l = b := ⟨_, rfl⟩
  have HR := Lib.hid (rowRight_is A cap l b hb w hv hf (by omega))
  have HM := Lib.hid hm
  have HV := Lib.hid hv
  have HF := Lib.hid hf
  clear hv hf hm
  cases b
  · have HK := Lib.hid (key_no hb)
    clear hb
    go_enter Tryz.func40, Tryz.ntmps40
    go_wp2_with fail
    refine HR.out.mono ?_
    rintro e w1 ⟨rfl, hb1⟩
    have L1 := Lib.hid hb1
    clear hb1 HR
    go_wp2
    go_ret
    exact ⟨retS HK.out.symm, L1.out⟩
  · have HK := Lib.hid (key_yes hb)
    clear hb
    go_enter Tryz.func40, Tryz.ntmps40
    go_wp2_with fail
    refine HR.out.mono ?_
    rintro e w1 ⟨rfl, hb1⟩
    have L1 := Lib.hid hb1
    clear hb1 HR
    go_wp2_with fail
    refine (encode_any A cap l m _ ((HV.out.below L1.out).more L1.out.size) HF.out hl (by rw [L1.out.cell (p := ⟨0, 0, none⟩) hlt]; exact HM.out)).mono ?_
    rintro e w2 ⟨rfl, hb2⟩
    have L2 := Lib.hid (bnext L1.out L1.out.size hb2)
    clear hb2
    go_wp2
    go_ret
    exact ⟨retS HK.out.symm, L2.out⟩
end Go.Proofs.YtjjikooabmddlaaGreatDoor.Code

/-
  Lists in memory whose elements have any number of cells: what lies where, what is appended. No type and no function of the program is named.
-/
namespace Go.Proofs.YtjjikooabmddlaaGreatDoor.Elems
open Go.ChangeShapes Go.WideShapes Go.ChangeAt Go.RowKit Val Go.Proofs.YtjjikooabmddlaaGreatDoor.Code
set_option linter.unusedVariables false
section
variable {α : Type} {c : α → List Value} {k : Nat}

/-- elements as the cells of a row -/
def flatC (c : α → List Value) (l : List α) : List Value := l.flatMap c
theorem flatC_length (hk : ∀ x, (c x).length = k) : ∀ l, (flatC c l).length = l.length * k
  | [] => by simp [flatC]
  | v :: l => by
    show (c v ++ flatC c l).length = _
    rw [List.length_append, flatC_length hk l, List.length_cons, hk, Nat.add_mul, Nat.one_mul, Nat.add_comm]
theorem flatC_at (hk : ∀ x, (c x).length = k) : ∀ (l : List α) (i : Nat) (h : i < l.length) (j : Nat), j < k → (flatC c l)[i * k + j]? = (c l[i])[j]?
  | v :: l, 0, _, j, hj => by
    show (c v ++ flatC c l)[0 * k + j]? = (c v)[j]?
    rw [Nat.zero_mul, Nat.zero_add, List.getElem?_append_left (by rw [hk]; exact hj)]
  | v :: l, i + 1, h, j, hj => by
    show (c v ++ flatC c l)[(i + 1) * k + j]? = _
    rw [List.getElem?_append_right (by rw [hk, Nat.add_mul, Nat.one_mul]; omega), hk, show (i + 1) * k + j - k = i * k + j by rw [Nat.add_mul, Nat.one_mul]; omega]
    exact flatC_at hk l i (by simpa using h) j hj
theorem flatC_snoc (l : List α) (v : α) : flatC c (l ++ [v]) = flatC c l ++ c v := by
  unfold flatC
  rw [List.flatMap_append]
  simp
theorem flatC_append (a b : List α) : flatC c (a ++ b) = flatC c a ++ flatC c b := List.flatMap_append
theorem flatC_one (h1 : ∀ x, ∀ u ∈ c x, u.oneCell' = true) (l : List α) : ∀ u ∈ flatC c l, u.oneCell' = true := by
  intro u hu
  obtain ⟨v, _, hv⟩ := List.mem_flatMap.1 hu
  exact h1 v u hv
/-- the slice at A holds these elements, and lies below B -/
def At (c : α → List Value) (k : Nat) (w : World) (B : Nat) (A : Option Addr) (l : List α) : Prop :=
  ∀ (i : Nat) (h : i < l.length), ∃ ad : Addr, A = some ad ∧ ad.block < B ∧ ∀ (j : Nat) (u : Value), (c l[i])[j]? = some u → w.cell? (ad.add (i * k + j)) = some u
theorem At.keep {w w' : World} {B : Nat} {A : Option Addr} {l : List α} (h : At c k w B A l) (hk : ∀ p : Addr, p.block < B → w'.cell? p = w.cell? p) : At c k w' B A l := by
  intro i hi
  obtain ⟨ad, e, hb, h0⟩ := h i hi
  exact ⟨ad, e, hb, fun j u hu => (hk _ (by rw [add_block]; exact hb)).trans (h0 j u hu)⟩
theorem At.below {w w' : World} {B : Nat} {A : Option Addr} {l : List α} (h : At c k w B A l) (hb : Below B w w') : At c k w' B A l := h.keep fun _ hp => hb.cell hp
theorem At.more {w : World} {B B' : Nat} {A : Option Addr} {l : List α} (h : At c k w B A l) (hB : B ≤ B') : At c k w B' A l := by
  intro i hi
  obtain ⟨ad, e, hb, h0⟩ := h i hi
  exact ⟨ad, e, by omega, h0⟩
theorem At.nil (w : World) (B : Nat) (A : Option Addr) : At c k w B A ([] : List α) := fun i hi => absurd hi (Nat.not_lt_zero _)
theorem At.take {w : World} {B : Nat} {A : Option Addr} {l : List α} (h : At c k w B A l) (n : Nat) : At c k w B A (l.take n) := by
  intro i hi
  rw [List.length_take] at hi
  obtain ⟨ad, e, hb, h0⟩ := h i (by omega)
  exact ⟨ad, e, hb, by rw [List.getElem_take]; exact h0⟩
/-- a row of the call's own is a list of elements -/
theorem own_at (hk : ∀ x, (c x).length = k) {w : World} {B : Nat} {e : TypeId} {v : Value} {l : List α} (h : w.ownsRow B e k v l.length (flatC c l)) : ∃ A cap, v = .slice A l.length cap ∧ At c k w w.heap.size A l := by
  rcases Nat.eq_zero_or_pos l.length with h0 | h0
  · have hn := List.eq_nil_of_length_eq_zero h0
    subst hn
    rcases h.2 with ⟨rfl, _⟩ | ⟨g, cap, cur, rfl, _⟩
    · exact ⟨none, 0, rfl, At.nil _ _ _⟩
    · exact ⟨some ⟨g, 0, none⟩, cap, rfl, At.nil _ _ _⟩
  · obtain ⟨g, cap, hv, hg, hlt⟩ := h.form h0
    have hc := h.cells (g := g) (by rw [hv]; rfl)
    refine ⟨some ⟨g, 0, none⟩, cap, hv, fun i hi => ⟨⟨g, 0, none⟩, rfl, hlt, fun j u hu => hc _ _ ?_⟩⟩
    have hj : j < k := by
      have := (List.getElem?_eq_some_iff.1 hu).1
      rwa [hk] at this
    rw [flatC_at hk l i hi j hj, hu]
theorem at_news (hk : ∀ x, (c x).length = k) (hk0 : 0 < k) {w : World} {B : Nat} {ad : Addr} {l : List α} (h : At c k w B (some ad) l) : ∀ (j : Nat) (u : Value), (flatC c l)[j]? = some u → w.cell? (ad.add j) = some u := by
  intro j u hu
  have hj : j < l.length * k := by
    have := (List.getElem?_eq_some_iff.1 hu).1
    rwa [flatC_length hk] at this
  have hi : j / k < l.length := Nat.div_lt_of_lt_mul (by rw [Nat.mul_comm]; exact hj)
  have hr : j % k < k := Nat.mod_lt _ hk0
  have e : j = j / k * k + j % k := by have := Nat.div_add_mod j k; rw [Nat.mul_comm] at this; exact this.symm
  obtain ⟨ad', e', _, h0⟩ := h (j / k) hi
  obtain rfl : ad = ad' := Option.some.inj e'
  rw [e]
  refine h0 _ _ ?_
  rw [← flatC_at hk l _ hi _ hr, ← e]
  exact hu
theorem run_append_nothingK {P : Program} (w : World) (base : Nat) (t ty e : TypeId) (i : TypeInfo) (size : Nat) (ht : P.underlying t = some (.slice e)) (hi : P.info? e = some i) (v : Value) (n : Nat) (xs : List Value) (hown : w.ownsRow base e size v n xs) (cp : Nat) :
    (Builtin.append_ #[t, t] ty #[v, .slice none 0 cp]).run P w = .ok v w := run_append_nothing w base t ty e i size ht hi v n xs hown cp
/-- a list appended to a row of the call's own, whether it is nil or not -/
theorem wpList_append_at (hk : ∀ x, (c x).length = k) (hk0 : 0 < k) (h1 : ∀ x, ∀ u ∈ c x, u.oneCell' = true) {P : Program} {w : World} {ops : Array Oper} {rest : List Oper} {o : Oper} {a : Act} {Q : Exit → Act → World → Prop} (hgd : o.guard = none) (s x : Operand) (t : TypeId)
    (ho : o.op = .call { callee := .builtin .append, args := #[s, x], argTypes := #[t, t] })
    (base : Nat) (e : TypeId) (i : TypeInfo) (z : Value) (bytes : Nat) (ht : P.underlying t = some (.slice e)) (hi : P.info? e = some i) (hz : i.zero = some z)
    (hsize : i.size = k) (hby : i.bytes = bytes) (hzs : z.cells.size = k) (v : Value) (n : Nat) (xs : List Value) (hs : a.eval s = v) (hown : w.ownsRow base e k v n xs)
    (B : Nat) (A : Option Addr) (cp : Nat) (l : List α) (hx : a.eval x = .slice A l.length cp) (hv : At c k w B A l)
    (h63 : n + l.length ≤ maxLen) (hbytes : (n + l.length) * bytes ≤ 140737488355328) (hbase : base ≤ w.heap.size)
    (h : ∀ v' w', w'.ownsRow base e k v' (n + l.length) (xs ++ flatC c l) → w.grownBy w' v.ownBlock → wpList P ops Q rest (a.put o.dst v') w') : wpList P ops Q (o :: rest) a w := by
  rcases A with _ | ad
  · have h0 : l = [] := by
      cases l with
      | nil => rfl
      | cons y l =>
        obtain ⟨ad, e, _⟩ := hv 0 (by simp)
        cases e
    subst h0
    refine wpList_plain hgd fun K hK => ?_
    have hrun := run_append_nothing (P := P) w base t o.type e i k ht hi v n xs hown cp
    unfold Oper.wp
    simp only [ho, execOp, resolve, invoke, builtin, Sem.run_bind, Sem.run_pure, Result.andThen_ok, List.map_toArray, List.map_cons, List.map_nil, hs, hx, List.length_nil, hrun]
    exact hK _ _ (h v w (by simpa [flatC] using hown) (World.grownBy.refl w _))
  · exact wpList_append_own w hgd s x t ho base e i z k bytes ht hi hz hsize hby hzs hk0 v n xs hs hown ad l.length cp (flatC c l) hx (flatC_length hk l) (at_news hk hk0 hv) (flatC_one h1 l) h63 hbytes hbase (fun v' w' h1 h2 _ => h v' w' h1 h2)
end
end Go.Proofs.YtjjikooabmddlaaGreatDoor.Elems

/-
  The order of rows in plain words: it answers -1, 0 or 1; turned about the other way; 0 of the same alone. No program is named here.
-/
namespace Go.Proofs.YtjjikooabmddlaaGreatDoor.Code
open Val
set_option linter.unusedVariables false

theorem cmpL_range : ∀ a b : List (Int × Int × ByteArray), cmpL a b = -1 ∨ cmpL a b = 0 ∨ cmpL a b = 1
  | [], [] => .inr (.inl (by rw [cmpL]))
  | [], _ :: _ => .inl (by rw [cmpL])
  | _ :: _, [] => .inr (.inr (by rw [cmpL]))
  | a :: l, b :: m => by
    have h1 := cmpV_range a.1 a.2.1 a.2.2 b.1 b.2.1 b.2.2
    have h2 := cmpL_range l m
    rw [cmpL]
    split
    · exact h1
    · exact h2
theorem cmpL_neg : ∀ a b : List (Int × Int × ByteArray), cmpL b a = -cmpL a b
  | [], [] => by rw [cmpL]; rfl
  | [], _ :: _ => by rw [cmpL, cmpL]; rfl
  | _ :: _, [] => by rw [cmpL, cmpL]
  | a :: l, b :: m => by
    have h1 := cmpV_neg a.1 a.2.1 a.2.2 b.1 b.2.1 b.2.2
    have h2 := cmpL_neg l m
    rw [cmpL, cmpL, h1]
    by_cases h : cmpV a.1 a.2.1 a.2.2 b.1 b.2.1 b.2.2 = 0
    · rw [if_neg (by rw [h]; simp), if_neg (by rw [h]; simp), h2]
    · rw [if_pos (by omega), if_pos h]
theorem cmpL_self : ∀ a : List (Int × Int × ByteArray), cmpL a a = 0
  | [] => by rw [cmpL]
  | a :: l => by rw [cmpL, if_neg (by rw [cmpV_self]; simp), cmpL_self l]
theorem cmpL_zero : ∀ {a b : List (Int × Int × ByteArray)}, cmpL a b = 0 → a = b
  | [], [], _ => rfl
  | [], _ :: _, h => by rw [cmpL] at h; exact absurd h (by decide)
  | _ :: _, [], h => by rw [cmpL] at h; exact absurd h (by decide)
  | a :: l, b :: m, h => by
    rw [cmpL] at h
    split at h
    · rename_i h1
      exact absurd h h1
    · rename_i h1
      obtain ⟨e1, e2, e3⟩ := cmpV_zero (by simpa using h1)
      obtain ⟨a1, a2, a3⟩ := a
      obtain ⟨b1, b2, b3⟩ := b
      simp only at e1 e2 e3
      rw [e1, e2, e3, cmpL_zero h]
theorem cmpL_same (a b : List (Int × Int × ByteArray)) : (cmpL a b == 0) = decide (a = b) := by
  by_cases h : a = b
  · subst h
    rw [cmpL_self]
    simp
  · have : ¬ cmpL a b = 0 := fun e => h (cmpL_zero e)
    simp [h, this]
end Go.Proofs.YtjjikooabmddlaaGreatDoor.Code

/-
  Sets of rows with weights, in plain words: the order of rows is one; a row's weight in a list of items; a set is told by its weights alone; an item put into a set. No program is named here.
-/
namespace Go.Proofs.YtjjikooabmddlaaGreatDoor.ZP
open Val Go.Proofs.YtjjikooabmddlaaGreatDoor.Code
set_option linter.unusedVariables false

theorem cmpV_lt_trans {a b c : Int × Int × ByteArray} (h : cmpV a.1 a.2.1 a.2.2 b.1 b.2.1 b.2.2 = -1) (g : cmpV b.1 b.2.1 b.2.2 c.1 c.2.1 c.2.2 = -1) : cmpV a.1 a.2.1 a.2.2 c.1 c.2.1 c.2.2 = -1 := by
  have h1 := cmpV_trans h (by rw [g]; decide)
  rcases cmpV_range a.1 a.2.1 a.2.2 c.1 c.2.1 c.2.2 with e | e | e
  · exact e
  · obtain ⟨e1, e2, e3⟩ := cmpV_zero e
    rw [← e1, ← e2, ← e3, cmpV_neg, h] at g
    exact absurd g (by decide)
  · omega
theorem cmpV_eq {a b : Int × Int × ByteArray} (h : cmpV a.1 a.2.1 a.2.2 b.1 b.2.1 b.2.2 = 0) : a = b := by
  obtain ⟨e1, e2, e3⟩ := cmpV_zero h
  obtain ⟨a1, a2, a3⟩ := a
  obtain ⟨b1, b2, b3⟩ := b
  simp only at e1 e2 e3
  rw [e1, e2, e3]
theorem cmpL_lt_trans : ∀ {a b c : List (Int × Int × ByteArray)}, cmpL a b = -1 → cmpL b c = -1 → cmpL a c = -1
  | [], [], _, h, _ => by rw [cmpL] at h; exact absurd h (by decide)
  | _ :: _, [], _, h, _ => by rw [cmpL] at h; exact absurd h (by decide)
  | _, _ :: _, [], _, g => by rw [cmpL] at g; exact absurd g (by decide)
  | [], _ :: _, _ :: _, _, _ => by rw [cmpL]
  | x :: l, y :: m, z :: n, h, g => by
    rw [cmpL] at h g ⊢
    by_cases h1 : cmpV x.1 x.2.1 x.2.2 y.1 y.2.1 y.2.2 = 0
    · rw [if_neg (by simpa using h1)] at h
      have e := cmpV_eq h1
      subst e
      by_cases h2 : cmpV x.1 x.2.1 x.2.2 z.1 z.2.1 z.2.2 = 0
      · rw [if_neg (by simpa using h2)] at g ⊢
        exact cmpL_lt_trans h g
      · rw [if_pos h2] at g ⊢
        exact g
    · rw [if_pos h1] at h
      by_cases h2 : cmpV y.1 y.2.1 y.2.2 z.1 z.2.1 z.2.2 = 0
      · have e := cmpV_eq h2
        subst e
        rw [if_pos h1]
        exact h
      · rw [if_pos h2] at g
        have := cmpV_lt_trans h g
        rw [if_pos (by rw [this]; decide)]
        exact this
theorem lt_irrefl {a : List (Int × Int × ByteArray)} (h : cmpL a a = -1) : False := by rw [cmpL_self] at h; exact absurd h (by decide)
theorem lt_asymm {a b : List (Int × Int × ByteArray)} (h : cmpL a b = -1) (g : cmpL b a = -1) : False := lt_irrefl (cmpL_lt_trans h g)
theorem lt_cases (a b : List (Int × Int × ByteArray)) : cmpL a b = -1 ∨ a = b ∨ cmpL b a = -1 := by
  rcases cmpL_range a b with h | h | h
  · exact .inl h
  · exact .inr (.inl (cmpL_zero h))
  · exact .inr (.inr (by rw [cmpL_neg, h]))

/-- a row's weight, of all items -/
def weightP : List (List (Int × Int × ByteArray) × Int) → List (Int × Int × ByteArray) → Int
  | [], _ => 0
  | x :: l, r => (if x.1 = r then x.2 else 0) + weightP l r
theorem weightP_append (r : List (Int × Int × ByteArray)) (b : List (List (Int × Int × ByteArray) × Int)) : ∀ a, weightP (a ++ b) r = weightP a r + weightP b r
  | [] => by simp [weightP]
  | x :: a => by
    show weightP (x :: (a ++ b)) r = _
    rw [weightP, weightP, weightP_append r b a]
    omega
theorem weightP_out {r : List (Int × Int × ByteArray)} : ∀ {l : List (List (Int × Int × ByteArray) × Int)}, (∀ x ∈ l, x.1 ≠ r) → weightP l r = 0
  | [], _ => rfl
  | x :: l, h => by
    rw [weightP, if_neg (h x (by simp)), weightP_out (fun y hy => h y (by simp [hy]))]
    rfl
/-- rows rise -/
def Rising (S : List (List (Int × Int × ByteArray) × Int)) : Prop := S.Pairwise fun a b => cmpL a.1 b.1 = -1
/-- a set of rows with weights -/
def IsSet (S : List (List (Int × Int × ByteArray) × Int)) : Prop := Rising S ∧ ∀ x ∈ S, x.2 ≠ 0
theorem IsSet.nil : IsSet [] := ⟨List.Pairwise.nil, fun x hx => by cases hx⟩
theorem IsSet.tail {x : List (Int × Int × ByteArray) × Int} {S : List (List (Int × Int × ByteArray) × Int)} (h : IsSet (x :: S)) : IsSet S := ⟨(List.pairwise_cons.1 h.1).2, fun y hy => h.2 y (by simp [hy])⟩
theorem IsSet.head {x : List (Int × Int × ByteArray) × Int} {S : List (List (Int × Int × ByteArray) × Int)} (h : IsSet (x :: S)) : ∀ y ∈ S, cmpL x.1 y.1 = -1 := (List.pairwise_cons.1 h.1).1
theorem head_weight {x : List (Int × Int × ByteArray) × Int} {S : List (List (Int × Int × ByteArray) × Int)} (h : IsSet (x :: S)) : weightP (x :: S) x.1 = x.2 := by
  rw [weightP, if_pos rfl, weightP_out (fun y hy e => by have := h.head y hy; rw [e] at this; exact lt_irrefl this)]
  omega
theorem mem_weight : ∀ {S : List (List (Int × Int × ByteArray) × Int)}, IsSet S → ∀ x ∈ S, weightP S x.1 = x.2
  | y :: S, h, x, hx => by
    rcases List.mem_cons.1 hx with rfl | hx
    · exact head_weight h
    · have hlt := h.head x hx
      rw [weightP, if_neg (fun e => by rw [e] at hlt; exact lt_irrefl hlt), mem_weight h.tail x hx]
      omega
theorem weight_mem : ∀ {S : List (List (Int × Int × ByteArray) × Int)} {r : List (Int × Int × ByteArray)}, weightP S r ≠ 0 → ∃ x ∈ S, x.1 = r
  | [], r, h => absurd rfl h
  | y :: S, r, h => by
    by_cases e : y.1 = r
    · exact ⟨y, by simp, e⟩
    · rw [weightP, if_neg e, Int.zero_add] at h
      obtain ⟨x, hx, hr⟩ := weight_mem h
      exact ⟨x, by simp [hx], hr⟩
theorem mem_iff {S : List (List (Int × Int × ByteArray) × Int)} (h : IsSet S) (x : List (Int × Int × ByteArray) × Int) : x ∈ S ↔ x.2 ≠ 0 ∧ weightP S x.1 = x.2 := by
  constructor
  · intro hx
    exact ⟨h.2 x hx, mem_weight h x hx⟩
  · rintro ⟨h0, h1⟩
    obtain ⟨y, hy, hr⟩ := weight_mem (by rw [h1]; exact h0)
    have := mem_weight h y hy
    rw [hr, h1] at this
    have e : x = y := Prod.ext hr.symm this
    rw [e]
    exact hy
/-- two sets of the same items are one -/
theorem set_ext : ∀ {S T : List (List (Int × Int × ByteArray) × Int)}, IsSet S → IsSet T → (∀ x, x ∈ S ↔ x ∈ T) → S = T
  | [], [], _, _, _ => rfl
  | [], y :: T, _, _, h => by have := (h y).2 (by simp); cases this
  | x :: S, [], _, _, h => by have := (h x).1 (by simp); cases this
  | x :: S, y :: T, hS, hT, h => by
    have e : x = y := by
      rcases List.mem_cons.1 ((h x).1 (by simp)) with e | hx
      · exact e
      · rcases List.mem_cons.1 ((h y).2 (by simp)) with e | hy
        · exact e.symm
        · exact (lt_asymm (hT.head x hx) (hS.head y hy)).elim
    subst e
    rw [set_ext hS.tail hT.tail fun z => ?_]
    constructor
    · intro hz
      rcases List.mem_cons.1 ((h z).1 (by simp [hz])) with e | hz2
      · exact (lt_irrefl (by have := hS.head z hz; rw [e] at this; exact this)).elim
      · exact hz2
    · intro hz
      rcases List.mem_cons.1 ((h z).2 (by simp [hz])) with e | hz2
      · exact (lt_irrefl (by have := hT.head z hz; rw [e] at this; exact this)).elim
      · exact hz2
/-- a set is told by its weights -/
theorem set_weights {S T : List (List (Int × Int × ByteArray) × Int)} (hS : IsSet S) (hT : IsSet T) (h : ∀ r, weightP S r = weightP T r) : S = T :=
  set_ext hS hT fun x => by rw [mem_iff hS, mem_iff hT, h]

/-- an item put into a set -/
def putP (x : List (Int × Int × ByteArray) × Int) : List (List (Int × Int × ByteArray) × Int) → List (List (Int × Int × ByteArray) × Int)
  | [] => [x]
  | y :: l => if cmpL x.1 y.1 = -1 then x :: y :: l else y :: putP x l
theorem put_mem {x z : List (Int × Int × ByteArray) × Int} : ∀ {l : List (List (Int × Int × ByteArray) × Int)}, z ∈ putP x l ↔ z = x ∨ z ∈ l
  | [] => by simp [putP]
  | y :: l => by
    rw [putP]
    split
    · simp
    · rw [List.mem_cons, put_mem, List.mem_cons]
      constructor
      · rintro (h | h | h)
        · exact .inr (.inl h)
        · exact .inl h
        · exact .inr (.inr h)
      · rintro (h | h | h)
        · exact .inr (.inl h)
        · exact .inl h
        · exact .inr (.inr h)
theorem put_weight (x : List (Int × Int × ByteArray) × Int) (r : List (Int × Int × ByteArray)) : ∀ l, weightP (putP x l) r = (if x.1 = r then x.2 else 0) + weightP l r
  | [] => by simp [putP, weightP]
  | y :: l => by
    rw [putP]
    split
    · rw [weightP]
    · rw [weightP, put_weight x r l, weightP]
      omega
theorem put_set (x : List (Int × Int × ByteArray) × Int) (hx : x.2 ≠ 0) : ∀ {l : List (List (Int × Int × ByteArray) × Int)}, IsSet l → (∀ y ∈ l, y.1 ≠ x.1) → IsSet (putP x l)
  | [], _, _ => ⟨List.pairwise_singleton _ _, fun y hy => by simp [putP] at hy; rw [hy]; exact hx⟩
  | y :: l, h, hn => by
    rw [putP]
    split
    · rename_i hlt
      refine ⟨List.pairwise_cons.2 ⟨fun z hz => ?_, h.1⟩, fun z hz => ?_⟩
      · rcases List.mem_cons.1 hz with rfl | hz
        · exact hlt
        · exact cmpL_lt_trans hlt (h.head z hz)
      · rcases List.mem_cons.1 hz with rfl | hz
        · exact hx
        · exact h.2 z hz
    · rename_i hlt
      have ih := put_set x hx h.tail (fun z hz => hn z (by simp [hz]))
      have hyx : cmpL y.1 x.1 = -1 := by
        rcases lt_cases x.1 y.1 with e | e | e
        · exact absurd e hlt
        · exact absurd e.symm (hn y (by simp))
        · exact e
      refine ⟨List.pairwise_cons.2 ⟨fun z hz => ?_, ih.1⟩, fun z hz => ?_⟩
      · rcases put_mem.1 hz with rfl | hz
        · exact hyx
        · exact h.head z hz
      · rcases List.mem_cons.1 hz with rfl | hz
        · exact h.2 z (by simp)
        · exact ih.2 z hz
/-- all weights together -/
def totalP : List (List (Int × Int × ByteArray) × Int) → Int
  | [] => 0
  | x :: l => x.2 + totalP l
/-- 0 less all weights -/
def negP (l : List (List (Int × Int × ByteArray) × Int)) : List (List (Int × Int × ByteArray) × Int) := l.map fun x => (x.1, -x.2)
theorem neg_weight (r : List (Int × Int × ByteArray)) : ∀ l, weightP (negP l) r = -weightP l r
  | [] => rfl
  | x :: l => by
    show weightP ((x.1, -x.2) :: negP l) r = _
    rw [weightP, weightP, neg_weight r l]
    by_cases e : x.1 = r
    · rw [if_pos e, if_pos e]; omega
    · rw [if_neg e, if_neg e]; omega
theorem neg_set {S : List (List (Int × Int × ByteArray) × Int)} (h : IsSet S) : IsSet (negP S) := by
  refine ⟨?_, fun x hx => ?_⟩
  · unfold Rising negP
    rw [List.pairwise_map]
    exact h.1
  · obtain ⟨y, hy, rfl⟩ := List.mem_map.1 hx
    have := h.2 y hy
    simp only
    omega
end Go.Proofs.YtjjikooabmddlaaGreatDoor.ZP

/-
  Lists of items (rows with weights) in memory. Types alone are named.
-/
namespace Go.Proofs.YtjjikooabmddlaaGreatDoor.Items
open Go.ChangeShapes Go.WideShapes Go.ChangeAt Go.RowKit Val Go.Proofs.YtjjikooabmddlaaGreatDoor.Code Go.Proofs.YtjjikooabmddlaaGreatDoor.Elems Go.Proofs.YtjjikooabmddlaaGreatDoor.ZP
set_option linter.unusedVariables false

/-- an item: where its row lies, the row's capacity, its values; its weight -/
abbrev It := Option Addr × Nat × List (Int × Int × ByteArray) × Int
def cellsI (x : It) : List Value := [.slice x.1 x.2.2.1.length x.2.1, .int .i64 x.2.2.2]
theorem cellsI_length (x : It) : (cellsI x).length = 2 := rfl
theorem cellsI_one (x : It) : ∀ u ∈ cellsI x, u.oneCell' = true := by
  intro u hu
  simp [cellsI] at hu
  rcases hu with rfl | rfl <;> simp [Value.oneCell']
/-- what it says, wherever it lies -/
def pu (x : It) : List (Int × Int × ByteArray) × Int := (x.2.2.1, x.2.2.2)
def pl (L : List It) : List (List (Int × Int × ByteArray) × Int) := L.map pu
theorem pl_length (L : List It) : (pl L).length = L.length := by simp [pl]
theorem pl_take (L : List It) (k : Nat) : pl (L.take k) = (pl L).take k := by simp [pl, List.map_take]
theorem pl_snoc (L : List It) (k : Nat) (h : k < L.length) : pl (L.take (k + 1)) = pl (L.take k) ++ [pu L[k]] := by
  unfold pl
  rw [List.take_succ_eq_append_getElem h, List.map_append]
  rfl
theorem pl_append (a b : List It) : pl (a ++ b) = pl a ++ pl b := List.map_append
/-- the slice at A holds these items, and all lies below B -/
def Items (w : World) (B : Nat) (A : Option Addr) (L : List It) : Prop := At cellsI 2 w B A L ∧ ∀ x ∈ L, Vals w B x.1 x.2.2.1
theorem Items.keep {w w' : World} {B : Nat} {A : Option Addr} {L : List It} (h : Items w B A L) (hk : ∀ p : Addr, p.block < B → w'.cell? p = w.cell? p) : Items w' B A L := ⟨h.1.keep hk, fun x hx => (h.2 x hx).keep hk⟩
theorem Items.below {w w' : World} {B : Nat} {A : Option Addr} {L : List It} (h : Items w B A L) (hb : Below B w w') : Items w' B A L := h.keep fun _ hp => hb.cell hp
theorem Items.more {w : World} {B B' : Nat} {A : Option Addr} {L : List It} (h : Items w B A L) (hB : B ≤ B') : Items w B' A L := ⟨h.1.more hB, fun x hx => (h.2 x hx).more hB⟩
theorem Items.at {w : World} {B : Nat} {A : Option Addr} {L : List It} (h : Items w B A L) (i : Nat) (hi : i < L.length) :
    ∃ ad : Addr, A = some ad ∧ ad.block < B ∧ w.cell? (ad.add (i * 2)) = some (.slice L[i].1 L[i].2.2.1.length L[i].2.1) ∧ w.cell? ⟨(ad.add (i * 2)).block, (ad.add (i * 2)).off + 1, none⟩ = some (.int .i64 L[i].2.2.2) ∧ Vals w B L[i].1 L[i].2.2.1 := by
  obtain ⟨ad, e, hb, h0⟩ := h.1 i hi
  refine ⟨ad, e, hb, ?_, ?_, h.2 _ (List.getElem_mem hi)⟩
  · have := h0 0 _ rfl
    rwa [Nat.add_zero] at this
  · have := h0 1 _ rfl
    rwa [add_next ad (i * 2) 0] at this
theorem info_item : (Tryz.prog.info? 48).map (fun i => (i.zero, i.size, i.bytes)) = some (some (.agg #[.slice none 0 0, .int .i64 0]), 2, 32) := by kernel_rfl
/-- what is known of rows that came in, or were made: each number fits -/
def FitI (L : List It) : Prop := ∀ x ∈ L, FitL x.2.2.1 ∧ fits x.2.2.2
theorem FitI.take {L : List It} (h : FitI L) (k : Nat) : FitI (L.take k) := fun x hx => h x (List.mem_of_mem_take hx)
/-- items of the call's own, whose rows lie anywhere below -/
theorem own_items {w : World} {B : Nat} {v : Value} {L : List It} (h : w.ownsRow B 48 2 v L.length (flatC cellsI L)) (hv : ∀ x ∈ L, Vals w w.heap.size x.1 x.2.2.1) : ∃ A cap, v = .slice A L.length cap ∧ Items w w.heap.size A L := by
  obtain ⟨A, cap, e, ha⟩ := own_at cellsI_length h
  exact ⟨A, cap, e, ha, hv⟩
end Go.Proofs.YtjjikooabmddlaaGreatDoor.Items
