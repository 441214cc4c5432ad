/-
  Sums of sets with small weights, in plain words: no error, a set, the weights of both together.
-/
import Derived.Test.YtlejhimcaidbeaaZAliveIs
namespace Go.Proofs.Ytlejhimcaidbeaa.Items
open Go.ChangeShapes Go.WideShapes Go.ChangeAt Go.RowKit Val Go.Proofs.Ytlejhimcaidbeaa.Code Go.Proofs.Ytlejhimcaidbeaa.Elems Go.Proofs.Ytlejhimcaidbeaa.ZP Go.Proofs.Ytlejhimcaidbeaa.Bits
set_option linter.unusedVariables false

def SmallW (K : Int) (L : List It) : Prop := ∀ x ∈ L, -K ≤ x.2.2.2 ∧ x.2.2.2 ≤ K
def RightW (L : List It) : Prop := ∀ x ∈ L, rightR x.2.2.1 = true
theorem SmallW.append {K : Int} {a b : List It} (h : SmallW K a) (g : SmallW K b) : SmallW K (a ++ b) := fun x hx => by
  rcases List.mem_append.1 hx with hx | hx
  · exact h x hx
  · exact g x hx
theorem RightW.append {a b : List It} (h : RightW a) (g : RightW b) : RightW (a ++ b) := fun x hx => by
  rcases List.mem_append.1 hx with hx | hx
  · exact h x hx
  · exact g x hx
theorem FitI.append {a b : List It} (h : FitI a) (g : FitI b) : FitI (a ++ b) := fun x hx => by
  rcases List.mem_append.1 hx with hx | hx
  · exact h x hx
  · exact g x hx
theorem RightW.short {L : List It} (h : RightW L) : ∀ x ∈ L, x.2.2.1.length ≤ 140737488355328 := fun x hx => by
  have := right_short (h x hx)
  omega
theorem weight_small {K : Int} (hK : 0 ≤ K) (r : List (Int × Int × ByteArray)) : ∀ L : List It, SmallW K L → -(K * L.length) ≤ weightP (pl L) r ∧ weightP (pl L) r ≤ K * L.length
  | [], _ => by simp [pl, weightP]
  | x :: L, h => by
    have h1 := h x (by simp)
    have h2 := weight_small hK r L fun y hy => h y (by simp [hy])
    show -(K * ((L.length + 1 : Nat) : Int)) ≤ weightP (pu x :: pl L) r ∧ weightP (pu x :: pl L) r ≤ K * ((L.length + 1 : Nat) : Int)
    rw [weightP, Int.natCast_add, Int.mul_add, Int.natCast_one, Int.mul_one]
    by_cases e : (pu x).1 = r
    · rw [if_pos e, show (pu x).2 = x.2.2.2 from rfl]; omega
    · rw [if_neg e]; omega
/-- what is known of a sum -/
structure SumIs (M L : List It) (B : Int) : Prop where
  set : IsSet (pl M)
  weight : ∀ r, weightP (pl M) r = weightP (pl L) r
  small : SmallW B M
  err : ofE L = 0
  rows : RightW M
  fit : FitI M
  len : M.length ≤ L.length
  right : rightI M = true
theorem sum_facts {M L : List It} {K B : Int} (h : pl M = pl (ofL L)) (hr : RightW L) (hF : FitI L) (hK : SmallW K L) (hK0 : 0 ≤ K) (hB : K * L.length ≤ B) (hB2 : B ≤ 9223372036854775807) : SumIs M L B := by
  have hrows : okRows L = true := by
    unfold okRows
    rw [List.all_eq_true]
    exact hr
  have hk : okK L L.length = true := by
    unfold okK
    rw [List.take_length, List.all_eq_true]
    intro x hx
    have := weight_small hK0 x.2.2.1 L hK
    exact decide_eq_true (by omega)
  have hof : ofL L = ofI L L.length := by rw [ofL, hrows, hk]; rfl
  have hw : ∀ r, weightP (pl M) r = weightP (pl L) r := fun r => by rw [h, hof, ofI_weight]
  have hset : IsSet (pl M) := by rw [h, hof]; exact (ofI_set L L.length (Nat.le_refl _)).1
  have hrt : rightI M = true := right_pl h (ofL_right L)
  refine ⟨hset, hw, fun x hx => ?_, by rw [ofE, hrows, hk]; rfl, (rightI_set hrt).1, ?_, ?_, hrt⟩
  · have h1 := mem_weight hset (pu x) (List.mem_map.2 ⟨x, hx, rfl⟩)
    rw [hw] at h1
    simp only [pu] at h1
    have h2 := weight_small hK0 x.2.2.1 L hK
    rw [h1] at h2
    omega
  · exact pl_rows (P := fun r n => FitL r ∧ fits n) h (fun x hx => ⟨ofL_rows (P := fun r => FitL r) (fun y hy => (hF y hy).1) x hx, ofL_weights L x hx⟩)
  · rw [pl_short h]
    exact ofL_length L
/-- the negative of a set with small weights -/
theorem neg_facts {M N : List It} {B : Int} (h : pl N = pl (negI M)) (hs : SmallW B M) (hB : B ≤ 9223372036854775807) (hF : FitI M) (hr : RightW M) :
    negIE M = 0 ∧ (∀ r, weightP (pl N) r = -weightP (pl M) r) ∧ SmallW B N ∧ RightW N ∧ FitI N ∧ N.length = M.length := by
  have hok : okN M = true := by
    unfold okN
    rw [List.all_eq_true]
    intro x hx
    have := hs x hx
    exact decide_eq_true (by omega)
  have hn : negI M = mapN M := by rw [negI, hok]; rfl
  rw [hn] at h
  refine ⟨by rw [negIE, hok]; rfl, fun r => by rw [h, pl_neg, neg_weight], ?_, ?_, ?_, ?_⟩
  · refine pl_rows (P := fun _ n => -B ≤ n ∧ n ≤ B) h fun x hx => ?_
    obtain ⟨y, hy, rfl⟩ := List.mem_map.1 hx
    have := hs y hy
    simp only
    omega
  · refine pl_rows (P := fun r _ => rightR r = true) h fun x hx => ?_
    obtain ⟨y, hy, rfl⟩ := List.mem_map.1 hx
    exact hr y hy
  · refine pl_rows (P := fun r n => FitL r ∧ fits n) h fun x hx => ?_
    obtain ⟨y, hy, rfl⟩ := List.mem_map.1 hx
    refine ⟨(hF y hy).1, ?_⟩
    have := hs y hy
    unfold fits
    simp only
    omega
  · rw [pl_short h, mapN_length]
/-- the k-th weight of a list: there is none, or it is great, or small, or neither -/
theorem weight_case {w : World} {B : Nat} {A : Option Addr} {L : List It} (h : Items w B A L) (k : Nat) :
    L.length ≤ k ∨ ∃ (ad : Addr) (n : Int), A = some ad ∧ k < L.length ∧ w.cell? ⟨(ad.add (k * 2)).block, (ad.add (k * 2)).off + 1, none⟩ = some (.int .i64 n) ∧
      (1099511627776 < n ∨ (n ≤ 1099511627776 ∧ n < -1099511627776) ∨ (n ≤ 1099511627776 ∧ -1099511627776 ≤ n ∧ ∀ x, L[k]? = some x → -1099511627776 ≤ x.2.2.2 ∧ x.2.2.2 ≤ 1099511627776)) := by
  by_cases hk : k < L.length
  · obtain ⟨ad, hA, _, _, c1, _⟩ := h.at k hk
    refine .inr ⟨ad, L[k].2.2.2, hA, hk, c1, ?_⟩
    have e : L[k]? = some L[k] := List.getElem?_eq_getElem hk
    by_cases h1 : 1099511627776 < L[k].2.2.2
    · exact .inl h1
    · by_cases h2 : L[k].2.2.2 < -1099511627776
      · exact .inr (.inl ⟨by omega, h2⟩)
      · refine .inr (.inr ⟨by omega, by omega, fun x hx => ?_⟩)
        rw [e] at hx
        cases hx
        omega
  · exact .inl (by omega)
def Until (k : Nat) (L : List It) : Prop := ∀ j x, j < k → L[j]? = some x → -1099511627776 ≤ x.2.2.2 ∧ x.2.2.2 ≤ 1099511627776
theorem Until.zero (L : List It) : Until 0 L := fun j x hj => absurd hj (Nat.not_lt_zero _)
theorem Until.out {k : Nat} {L : List It} (h : Until k L) (hk : L.length ≤ k) : Until (k + 1) L := fun j x hj e => by
  by_cases hjk : j < k
  · exact h j x hjk e
  · rw [List.getElem?_eq_none (by omega)] at e
    cases e
theorem Until.more {k : Nat} {L : List It} (h : Until k L) (hk : ∀ x, L[k]? = some x → -1099511627776 ≤ x.2.2.2 ∧ x.2.2.2 ≤ 1099511627776) : Until (k + 1) L := fun j x hj e => by
  by_cases hjk : j < k
  · exact h j x hjk e
  · obtain rfl : j = k := by omega
    exact hk x e
theorem Until.all {k : Nat} {L : List It} (h : Until k L) (hk : L.length ≤ k) : SmallW 1099511627776 L := fun x hx => by
  obtain ⟨i, hi, rfl⟩ := List.mem_iff_getElem.1 hx
  exact h i _ (by omega) (List.getElem?_eq_getElem hi)
/-- a set whose weights are all 0 is empty -/
theorem set_empty {M : List It} (hs : IsSet (pl M)) (h : ∀ r, weightP (pl M) r = 0) : M.length = 0 := by
  cases M with
  | nil => rfl
  | cons x M =>
    have h1 := mem_weight hs (pu x) (List.mem_map.2 ⟨x, by simp, rfl⟩)
    rw [h] at h1
    exact absurd h1.symm (hs.2 (pu x) (List.mem_map.2 ⟨x, by simp, rfl⟩))

/-- a sum of small weights that was made -/
def SumOk (w : World) (L : List It) (B : Int) (e : Ending) (w' : World) : Prop :=
  ∃ (A : Option Addr) (cap : Nat) (M : List It), e = .returned (.tuple #[.slice A M.length cap, .int .i64 0]) ∧ Items w' w'.heap.size A M ∧ SumIs M L B ∧ Below w.heap.size w w'
theorem sumOk_of {w w' : World} {L : List It} {K B : Int} {e : Ending} (h : SetPost w (pl (ofL L)) (ofE L) e w') (hr : RightW L) (hF : FitI L) (hK : SmallW K L) (hK0 : 0 ≤ K) (hB : K * L.length ≤ B) (hB2 : B ≤ 9223372036854775807) : SumOk w L B e w' := by
  obtain ⟨A, cap, M, rfl, hi, hp, hb⟩ := h
  have hs := sum_facts hp hr hF hK hK0 hB hB2
  exact ⟨A, cap, M, by rw [hs.err], hi, hs, hb⟩
theorem ofE_right {L : List It} (h : ofE L = 0) : RightW L := by
  unfold ofE at h
  split at h
  · next hr =>
    unfold okRows at hr
    rw [List.all_eq_true] at hr
    exact hr
  · cases h
theorem of_small (A : Option Addr) (cap : Nat) (L : List It) (w : World) (K B : Int) (hI : Items w w.heap.size A L) (hF : FitI L) (hs : ∀ x ∈ L, x.2.2.1.length ≤ 140737488355328) (hl : L.length ≤ 4398046511104) (hK : SmallW K L) (hK0 : 0 ≤ K) (hB : K * L.length ≤ B) (hB2 : B ≤ 9223372036854775807) :
    Calls Try.prog 9 #[.slice A L.length cap] w fun e w' => ∃ (A' : Option Addr) (c' : Nat) (M : List It) (E : Int), e = .returned (.tuple #[.slice A' M.length c', .int .i64 E]) ∧ Items w' w'.heap.size A' M ∧ Below w.heap.size w w' ∧ (E = 0 ∧ SumIs M L B ∨ E = 11 ∨ E = 51) :=
  (zof_any A cap L w hI hF hs hl).mono fun e w' h => by
    obtain ⟨A', c', M, rfl, hi, hp, hb⟩ := h.set
    refine ⟨A', c', M, ofE L, rfl, hi, hb, ?_⟩
    by_cases h0 : ofE L = 0
    · exact .inl ⟨h0, sum_facts hp (ofE_right h0) hF hK hK0 hB hB2⟩
    · refine .inr ?_
      unfold ofE at h0 ⊢
      split
      · next hr => rw [if_pos hr] at h0; split <;> simp_all
      · simp
theorem SumOk.next {w W w' : World} {L : List It} {B : Int} {e : Ending} (h : SumOk W L B e w') (hb : Below w.heap.size w W) : SumOk w L B e w' := by
  obtain ⟨A, cap, M, he, ha, hs, hb2⟩ := h
  exact ⟨A, cap, M, he, ha, hs, hb.trans (hb2.mono hb.size)⟩
theorem add_two (A B : Option Addr) (ca cb : Nat) (a b : List It) (w : World) (K N : Int) (hA : Items w w.heap.size A a) (hB : Items w w.heap.size B b) (fa : FitI a) (fb : FitI b) (ra : RightW a) (rb : RightW b) (ka : SmallW K a) (kb : SmallW K b) (hK0 : 0 ≤ K) (hl : a.length + b.length ≤ 4398046511104) (hN : K * ((a.length + b.length : Nat) : Int) ≤ N) (hN2 : N ≤ 9223372036854775807) :
    Calls Try.prog 11 #[.slice (some ⟨w.heap.size, 0, none⟩) 2 2] (w.alloc (.cells #[.slice A a.length ca, .slice B b.length cb] 25)) (SumOk w (a ++ b) N) := by
  have hb := below_alloc w (.cells #[.slice A a.length ca, .slice B b.length cb] 25)
  have h := zadd_any (some ⟨w.heap.size, 0, none⟩) 2 [(A, ca, a), (B, cb, b)] _ (setsAt_two w A B ca cb a b 25 hA hB) (by rw [catS_two]; exact fa.append fb) (by rw [catS_two]; exact (ra.append rb).short) (by simp) (by rw [catS_two, List.length_append]; exact hl)
  rw [catS_two] at h
  refine h.mono fun e w' h => (sumOk_of h.set (ra.append rb) (fa.append fb) (ka.append kb) hK0 ?_ hN2).next hb
  rw [List.length_append]
  exact hN
theorem setsAt_three (w : World) (A B C : Option Addr) (ca cb cc : Nat) (a b c : List It) (t : TypeId) (hA : Items w w.heap.size A a) (hB : Items w w.heap.size B b) (hC : Items w w.heap.size C c) :
    SetsAt (w.alloc (.cells #[.slice A a.length ca, .slice B b.length cb, .slice C c.length cc] t)) (w.alloc (.cells #[.slice A a.length ca, .slice B b.length cb, .slice C c.length cc] t)).heap.size (some ⟨w.heap.size, 0, none⟩) [(A, ca, a), (B, cb, b), (C, cc, c)] := by
  have hb := below_alloc w (.cells #[.slice A a.length ca, .slice B b.length cb, .slice C c.length cc] t)
  have hn := World.news_of_block (heap_alloc_new w (.cells #[.slice A a.length ca, .slice B b.length cb, .slice C c.length cc] t))
  have hz : w.heap.size < (w.alloc (.cells #[.slice A a.length ca, .slice B b.length cb, .slice C c.length cc] t)).heap.size := by simp
  intro i hi
  match i, hi with
  | 0, _ => exact ⟨⟨_, rfl, hz, hn 0 _ rfl⟩, hA.next hb⟩
  | 1, _ => exact ⟨⟨_, rfl, hz, hn 1 _ rfl⟩, hB.next hb⟩
  | 2, _ => exact ⟨⟨_, rfl, hz, hn 2 _ rfl⟩, hC.next hb⟩
theorem catS_three (A B C : Option Addr) (ca cb cc : Nat) (a b c : List It) : catS [(A, ca, a), (B, cb, b), (C, cc, c)] = a ++ (b ++ c) := by simp [catS]
theorem add_three (A B C : Option Addr) (ca cb cc : Nat) (a b c : List It) (w : World) (K N : Int) (hA : Items w w.heap.size A a) (hB : Items w w.heap.size B b) (hC : Items w w.heap.size C c) (fa : FitI a) (fb : FitI b) (fc : FitI c) (ra : RightW a) (rb : RightW b) (rc : RightW c) (ka : SmallW K a) (kb : SmallW K b) (kc : SmallW K c) (hK0 : 0 ≤ K) (hl : a.length + (b.length + c.length) ≤ 4398046511104) (hN : K * ((a.length + (b.length + c.length) : Nat) : Int) ≤ N) (hN2 : N ≤ 9223372036854775807) :
    Calls Try.prog 11 #[.slice (some ⟨w.heap.size, 0, none⟩) 3 3] (w.alloc (.cells #[.slice A a.length ca, .slice B b.length cb, .slice C c.length cc] 25)) (SumOk w (a ++ (b ++ c)) N) := by
  have hb := below_alloc w (.cells #[.slice A a.length ca, .slice B b.length cb, .slice C c.length cc] 25)
  have h := zadd_any (some ⟨w.heap.size, 0, none⟩) 3 [(A, ca, a), (B, cb, b), (C, cc, c)] _ (setsAt_three w A B C ca cb cc a b c 25 hA hB hC) (by rw [catS_three]; exact fa.append (fb.append fc)) (by rw [catS_three]; exact (ra.append (rb.append rc)).short) (by simp) (by rw [catS_three, List.length_append, List.length_append]; exact hl)
  rw [catS_three] at h
  refine h.mono fun e w' h => (sumOk_of h.set (ra.append (rb.append rc)) (fa.append (fb.append fc)) (ka.append (kb.append kc)) hK0 ?_ hN2).next hb
  rw [List.length_append, List.length_append]
  exact hN
theorem neg_small (A : Option Addr) (cap : Nat) (L G : List It) (w : World) (K : Int) (hI : Items w w.heap.size A L) (hS : SumIs L G K) (hl : L.length ≤ 4398046511104) (hK : K ≤ 9223372036854775807) :
    Calls Try.prog 13 #[.slice A L.length cap] w fun e w' => ∃ (A' : Option Addr) (c' : Nat) (N : List It), e = .returned (.tuple #[.slice A' N.length c', .int .i64 0]) ∧ Items w' w'.heap.size A' N ∧ Below w.heap.size w w' ∧ (∀ r, weightP (pl N) r = -weightP (pl L) r) ∧ SmallW K N ∧ RightW N ∧ FitI N ∧ N.length = L.length :=
  (zneg_any A cap L w hI hS.fit hS.rows.short hl hS.right).mono fun e w' h => by
    obtain ⟨A', c', N, rfl, hi, hp, hb⟩ := h.set
    have hn := neg_facts hp hS.small hK hS.fit hS.rows
    exact ⟨A', c', N, by rw [hn.1], hi, hb, hn.2⟩
end Go.Proofs.Ytlejhimcaidbeaa.Items
