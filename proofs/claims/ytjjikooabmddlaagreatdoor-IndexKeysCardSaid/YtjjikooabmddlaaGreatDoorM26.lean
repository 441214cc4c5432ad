/-
  What the runs of sorted items say, in plain words: each row once, rising, with its weight; so the program's sum is the document's.
-/
import Derived.Test.YtjjikooabmddlaaGreatDoorM25
import Derived.Test.YtjjikooabmddlaaGreatDoorM18
import Derived.Test.YtjjikooabmddlaaGreatDoorM19
namespace Go.Proofs.YtjjikooabmddlaaGreatDoor.Items
open Go.ChangeShapes Go.WideShapes Go.ChangeAt Go.RowKit Val Go.Proofs.YtjjikooabmddlaaGreatDoor.Code Go.Proofs.YtjjikooabmddlaaGreatDoor.Elems Go.Proofs.YtjjikooabmddlaaGreatDoor.ZP Go.Proofs.YtjjikooabmddlaaGreatDoor.Bits Go.Proofs.YtjjikooabmddlaaGreatDoor.Range
set_option linter.unusedVariables false

theorem sameR_iff (r : List (Int × Int × ByteArray)) (y : It) : sameR r y = true ↔ y.2.2.1 = r := by
  unfold sameR
  rw [beq_iff_eq]
  exact ⟨fun h => cmpL_zero h, fun h => by rw [h, cmpL_self]⟩
theorem weight_perm {a b : List (List (Int × Int × ByteArray) × Int)} (h : a.Perm b) (r : List (Int × Int × ByteArray)) : weightP a r = weightP b r := by
  induction h with
  | nil => rfl
  | cons x _ ih => rw [weightP, weightP, ih]
  | swap x y l => simp only [weightP]; omega
  | trans _ _ h1 h2 => rw [h1, h2]
theorem weight_all {r : List (Int × Int × ByteArray)} : ∀ {l : List (List (Int × Int × ByteArray) × Int)}, (∀ x ∈ l, x.1 = r) → weightP l r = totalP l
  | [], _ => rfl
  | x :: l, h => by
    rw [weightP, totalP, if_pos (h x (by simp)), weight_all fun y hy => h y (by simp [hy])]
/-- rows do not fall -/
def Grows (M : List It) : Prop := M.Pairwise fun a b => cmpL b.2.2.1 a.2.2.1 ≠ -1
/-- behind a run every row is greater -/
theorem drop_greater {z : It} {l : List It} (h : Grows (z :: l)) : ∀ d ∈ List.dropWhile (sameR z.2.2.1) (z :: l), cmpL z.2.2.1 d.2.2.1 = -1 := by
  intro d hd
  have hsuf := List.dropWhile_suffix (sameR z.2.2.1) (l := z :: l)
  have hp := List.Pairwise.sublist hsuf.sublist h
  have hall : ∀ d ∈ z :: l, cmpL d.2.2.1 z.2.2.1 ≠ -1 := by
    intro d hd
    rcases List.mem_cons.1 hd with rfl | hd
    · rw [cmpL_self]; decide
    · exact (List.pairwise_cons.1 h).1 d hd
  cases hD : List.dropWhile (sameR z.2.2.1) (z :: l) with
  | nil => rw [hD] at hd; cases hd
  | cons e D =>
    have he : sameR z.2.2.1 e = false := by
      have := List.head_dropWhile_not (sameR z.2.2.1) (l := z :: l) (by rw [hD]; simp)
      simpa [hD] using this
    have hez : cmpL z.2.2.1 e.2.2.1 = -1 := by
      rcases lt_cases z.2.2.1 e.2.2.1 with g | g | g
      · exact g
      · rw [(sameR_iff _ _).2 g.symm] at he; cases he
      · exact absurd g (hall e (hsuf.subset (by rw [hD]; simp)))
    rw [hD] at hd hp
    rcases List.mem_cons.1 hd with rfl | hd
    · exact hez
    · have h1 := (List.pairwise_cons.1 hp).1 d hd
      rcases lt_cases e.2.2.1 d.2.2.1 with g | g | g
      · exact cmpL_lt_trans hez g
      · rw [← g]; exact hez
      · exact absurd g h1
theorem groups_facts : ∀ (n : Nat) (M : List It), M.length ≤ n → Grows M →
    (groupsI n M).Pairwise (fun a b => cmpL a.2.2.1 b.2.2.1 = -1) ∧ (∀ x ∈ groupsI n M, x.2.2.2 = weightP (pl M) x.2.2.1) ∧ (∀ y ∈ M, ∃ x ∈ groupsI n M, x.2.2.1 = y.2.2.1)
  | 0, M, h, _ => by
    have : M = [] := List.eq_nil_of_length_eq_zero (by omega)
    subst this
    exact ⟨List.Pairwise.nil, (fun x hx => by cases hx), (fun y hy => by cases hy)⟩
  | n + 1, [], _, _ => ⟨List.Pairwise.nil, (fun x hx => by cases hx), (fun y hy => by cases hy)⟩
  | n + 1, z :: l, h, hg => by
    have hsuf := List.dropWhile_suffix (sameR z.2.2.1) (l := z :: l)
    have hgt := drop_greater hg
    have hlen := drop_shorter z l
    obtain ⟨h1, h2, h3⟩ := groups_facts n (List.dropWhile (sameR z.2.2.1) (z :: l)) (by omega) (List.Pairwise.sublist hsuf.sublist hg)
    have hsplit : List.takeWhile (sameR z.2.2.1) (z :: l) ++ List.dropWhile (sameR z.2.2.1) (z :: l) = z :: l := List.takeWhile_append_dropWhile
    have hT : ∀ y ∈ List.takeWhile (sameR z.2.2.1) (z :: l), y.2.2.1 = z.2.2.1 := fun y hy => (sameR_iff _ _).1 (List.all_eq_true.1 (List.all_takeWhile (p := sameR z.2.2.1) (l := z :: l)) y hy)
    have hw : ∀ r, weightP (pl (z :: l)) r = weightP (pl (List.takeWhile (sameR z.2.2.1) (z :: l))) r + weightP (pl (List.dropWhile (sameR z.2.2.1) (z :: l))) r := by
      intro r
      conv => lhs; rw [← hsplit]
      rw [pl_append, weightP_append]
    have hrow : ∀ x ∈ groupsI n (List.dropWhile (sameR z.2.2.1) (z :: l)), cmpL z.2.2.1 x.2.2.1 = -1 := by
      intro x hx
      obtain ⟨y, hy, _, _, e⟩ := groups_mem _ _ x hx
      rw [← e]
      exact hgt y hy
    rw [groupsI]
    refine ⟨List.pairwise_cons.2 ⟨hrow, h1⟩, ?_, ?_⟩
    · intro x hx
      rcases List.mem_cons.1 hx with rfl | hx
      · show totalP _ = weightP (pl (z :: l)) z.2.2.1
        rw [hw, weight_all (fun y hy => by obtain ⟨u, hu, rfl⟩ := List.mem_map.1 hy; exact hT u hu), weightP_out (fun y hy e => by
          obtain ⟨u, hu, rfl⟩ := List.mem_map.1 hy
          have h5 := hgt u hu
          rw [show u.2.2.1 = z.2.2.1 from e] at h5
          exact lt_irrefl h5)]
        omega
      · rw [hw, h2 x hx, weightP_out (l := pl (List.takeWhile (sameR z.2.2.1) (z :: l))) (fun y hy e => by
          obtain ⟨u, hu, rfl⟩ := List.mem_map.1 hy
          have h5 := hrow x hx
          rw [← hT u hu, show u.2.2.1 = x.2.2.1 from e] at h5
          exact lt_irrefl h5)]
        omega
    · intro y hy
      rw [← hsplit] at hy
      rcases List.mem_append.1 hy with hy | hy
      · exact ⟨_, List.mem_cons_self .., (hT y hy).symm⟩
      · obtain ⟨x, hx, e⟩ := h3 y hy
        exact ⟨x, List.mem_cons_of_mem _ hx, e⟩
theorem rising_weight : ∀ {S : List (List (Int × Int × ByteArray) × Int)}, Rising S → ∀ x ∈ S, weightP S x.1 = x.2
  | y :: S, h, x, hx => by
    obtain ⟨h1, h2⟩ := List.pairwise_cons.1 h
    rcases List.mem_cons.1 hx with rfl | hx
    · rw [weightP, if_pos rfl, weightP_out (fun z hz e => by have := h1 z hz; rw [e] at this; exact lt_irrefl this)]
      omega
    · have := h1 x hx
      rw [weightP, if_neg (fun e => by rw [e] at this; exact lt_irrefl this), rising_weight h2 x hx]
      omega
theorem groups_rising {n : Nat} {M : List It} (hn : M.length ≤ n) (hg : Grows M) : Rising (pl (groupsI n M)) := by
  unfold Rising pl
  rw [List.pairwise_map]
  exact (groups_facts n M hn hg).1
theorem groups_weight {n : Nat} {M : List It} (hn : M.length ≤ n) (hg : Grows M) (r : List (Int × Int × ByteArray)) : weightP (pl (groupsI n M)) r = weightP (pl M) r := by
  obtain ⟨_, h2, h3⟩ := groups_facts n M hn hg
  by_cases h : ∃ x ∈ groupsI n M, x.2.2.1 = r
  · obtain ⟨x, hx, rfl⟩ := h
    have := rising_weight (groups_rising hn hg) (pu x) (List.mem_map.2 ⟨x, hx, rfl⟩)
    simp only [pu] at this
    rw [this, h2 x hx]
  · rw [weightP_out (fun y hy e => by obtain ⟨u, hu, rfl⟩ := List.mem_map.1 hy; exact h ⟨u, hu, e⟩), weightP_out (fun y hy e => by
      obtain ⟨u, hu, rfl⟩ := List.mem_map.1 hy
      obtain ⟨x, hx, e2⟩ := h3 u hu
      exact h ⟨x, hx, e2.trans e⟩)]
/-- what is kept, once each weight is in 64 bits -/
theorem keep_weight (tf : Int → Int) (r : List (Int × Int × ByteArray)) : ∀ gs : List It, (∀ x ∈ gs, Wide.intV (tf x.2.2.2) = tf x.2.2.2) → weightP (keepG tf gs) r = weightP (gs.map fun x => (x.2.2.1, tf x.2.2.2)) r
  | [], _ => rfl
  | x :: gs, h => by
    have ih := keep_weight tf r gs fun y hy => h y (by simp [hy])
    have hx := h x (by simp)
    rw [List.map_cons, weightP, ← ih, keepG, List.filterMap_cons, hx]
    by_cases h0 : tf x.2.2.2 = 0
    · rw [if_pos h0, h0]
      show weightP (keepG tf gs) r = _
      simp
    · rw [if_neg h0]
      show weightP ((x.2.2.1, tf x.2.2.2) :: keepG tf gs) r = _
      rw [weightP]
theorem keep_set (tf : Int → Int) {n : Nat} {M : List It} (hn : M.length ≤ n) (hg : Grows M) (h : ∀ x ∈ groupsI n M, Wide.intV (tf x.2.2.2) = tf x.2.2.2) : IsSet (keepG tf (groupsI n M)) := by
  refine ⟨?_, ?_⟩
  · unfold Rising keepG
    rw [List.pairwise_filterMap]
    refine (groups_facts n M hn hg).1.imp fun {a b} hab => ?_
    intro u hu v hv
    split at hu
    · cases hu
    · split at hv
      · cases hv
      · cases hu
        cases hv
        exact hab
  · intro u hu
    obtain ⟨x, hx, e⟩ := List.mem_filterMap.1 hu
    split at e
    · cases e
    · rename_i hne
      cases e
      exact hne
theorem int_in {n : Int} (h : -40564819207303340847894502572032 ≤ n ∧ n ≤ 40564819207303340847894502572032) : Wide.intE n = (if -9223372036854775808 ≤ n ∧ n ≤ 9223372036854775807 then 0 else 11) ∧ Wide.intV n = (if -9223372036854775808 ≤ n ∧ n ≤ 9223372036854775807 then n else 0) := by
  unfold Wide.intE Wide.intV
  rw [Wide.sn_in (by omega)]
  exact ⟨rfl, rfl⟩
theorem fits_of {L : List It} (h : FitI L) : ∀ x ∈ pl L, fits x.2 := by
  intro x hx
  obtain ⟨y, hy, rfl⟩ := List.mem_map.1 hx
  exact (h y hy).2
theorem weight_in {L : List It} (hF : FitI L) (hl : L.length ≤ 4398046511104) (r : List (Int × Int × ByteArray)) : -40564819207303340847894502572032 ≤ weightP (pl L) r ∧ weightP (pl L) r ≤ 40564819207303340847894502572032 := by
  have h := weight_bound r (pl L) (fits_of hF)
  rw [pl_length] at h
  omega
theorem okG_iff (tf : Int → Int) {n : Nat} {M : List It} (hn : M.length ≤ n) (hg : Grows M) (hF : FitI M) (hl : M.length ≤ 4398046511104) (ht : ∀ n, tf n = n ∨ tf n = -n) :
    okG tf (groupsI n M) = true ↔ ∀ y ∈ M, -9223372036854775808 ≤ tf (weightP (pl M) y.2.2.1) ∧ tf (weightP (pl M) y.2.2.1) ≤ 9223372036854775807 := by
  obtain ⟨_, h2, h3⟩ := groups_facts n M hn hg
  have hb : ∀ x ∈ groupsI n M, Wide.intE (tf x.2.2.2) = 0 ↔ -9223372036854775808 ≤ tf (weightP (pl M) x.2.2.1) ∧ tf (weightP (pl M) x.2.2.1) ≤ 9223372036854775807 := by
    intro x hx
    have h4 := weight_in hF hl x.2.2.1
    rw [h2 x hx, (int_in (n := tf (weightP (pl M) x.2.2.1)) (by rcases ht (weightP (pl M) x.2.2.1) with e | e <;> rw [e] <;> omega)).1]
    split <;> simp_all
  unfold okG
  rw [List.all_eq_true]
  constructor
  · intro h y hy
    obtain ⟨x, hx, e⟩ := h3 y hy
    rw [← e]
    exact (hb x hx).1 (by simpa using h x hx)
  · intro h x hx
    obtain ⟨y, hy, _, _, e⟩ := groups_mem n M x hx
    have := h y hy
    rw [e] at this
    simpa using (hb x hx).2 this
theorem keep_is (tf : Int → Int) {n : Nat} {M : List It} (hn : M.length ≤ n) (hg : Grows M) (hF : FitI M) (hl : M.length ≤ 4398046511104) (ht : ∀ n, tf n = n ∨ tf n = -n) (hok : okG tf (groupsI n M) = true) :
    ∀ x ∈ groupsI n M, Wide.intV (tf x.2.2.2) = tf x.2.2.2 := by
  intro x hx
  have h1 := (okG_iff tf hn hg hF hl ht).1 hok
  obtain ⟨y, hy, _, _, e⟩ := groups_mem n M x hx
  have h4 := h1 y hy
  rw [e, ← (groups_facts n M hn hg).2.1 x hx] at h4
  rw [(int_in (n := tf x.2.2.2) (by omega)).2, if_pos h4]
/-- THE PROGRAM's SUM IS THE DOCUMENT's -/
theorem sum_is {L M : List It} (hp : M.Perm L) (hg : Grows M) (hF : FitI L) (hl : L.length ≤ 4398046511104) : sumQ id L M = pl (ofL L) ∧ sumE id L M = ofE L := by
  have hFM : FitI M := fun x hx => hF x (hp.mem_iff.1 hx)
  have hlM : M.length ≤ 4398046511104 := by rw [hp.length_eq]; exact hl
  have hw : ∀ r, weightP (pl M) r = weightP (pl L) r := weight_perm (hp.map pu)
  have hok : okG id (groupsI M.length M) = okK L L.length := by
    rw [Bool.eq_iff_iff, okG_iff id (Nat.le_refl _) hg hFM hlM (fun n => .inl rfl)]
    constructor
    · intro h
      unfold okK
      rw [List.take_length, List.all_eq_true]
      intro y hy
      have := h y (hp.mem_iff.2 hy)
      rw [hw] at this
      exact decide_eq_true this
    · intro h y hy
      have := okK_all h y (by rw [List.take_length]; exact hp.mem_iff.1 hy)
      rw [hw]
      exact this
  refine ⟨?_, by rw [sumE, ofE, hok]⟩
  rw [sumQ, ofL, sumOk, hok]
  by_cases h : (okRows L && okK L L.length) = true
  · rw [if_pos h, if_pos h]
    rw [Bool.and_eq_true] at h
    have hk := keep_is id (Nat.le_refl _) hg hFM hlM (fun n => .inl rfl) (hok.trans h.2)
    refine set_weights (keep_set id (Nat.le_refl _) hg hk) (ofI_set L L.length (Nat.le_refl _)).1 fun r => ?_
    rw [keep_weight id r _ hk, ofI_weight, ← hw]
    exact groups_weight (Nat.le_refl _) hg r
  · rw [if_neg h, if_neg h]
    rfl
/-- .. and so is its negative, of a set -/
theorem sum_neg {L M : List It} (hp : M.Perm L) (hg : Grows M) (hF : FitI L) (hl : L.length ≤ 4398046511104) (hr : rightI L = true) : sumQ (fun n => -n) L M = pl (negI L) ∧ sumE (fun n => -n) L M = negIE L := by
  obtain ⟨hrr, hset⟩ := rightI_set hr
  have hFM : FitI M := fun x hx => hF x (hp.mem_iff.1 hx)
  have hlM : M.length ≤ 4398046511104 := by rw [hp.length_eq]; exact hl
  have hw : ∀ r, weightP (pl M) r = weightP (pl L) r := weight_perm (hp.map pu)
  have hrows : okRows L = true := by
    unfold okRows
    rw [List.all_eq_true]
    exact hrr
  have hown : ∀ y ∈ L, weightP (pl L) y.2.2.1 = y.2.2.2 := fun y hy => mem_weight hset (pu y) (List.mem_map.2 ⟨y, hy, rfl⟩)
  have hok : okG (fun n => -n) (groupsI M.length M) = okN L := by
    rw [Bool.eq_iff_iff, okG_iff (fun n => -n) (Nat.le_refl _) hg hFM hlM (fun n => .inr rfl)]
    unfold okN
    rw [List.all_eq_true]
    constructor
    · intro h y hy
      have h1 := h y (hp.mem_iff.2 hy)
      rw [hw, hown y hy] at h1
      exact decide_eq_true (by omega)
    · intro h y hy
      have hy' := hp.mem_iff.1 hy
      have h1 := of_decide_eq_true (h y hy')
      have h2 := (hF y hy').2
      unfold fits at h2
      rw [hw, hown y hy']
      omega
  refine ⟨?_, by rw [sumE, negIE, hok, hrows]; rfl⟩
  rw [sumQ, negI, sumOk, hok, hrows, Bool.true_and]
  by_cases h : okN L = true
  · rw [if_pos h, if_pos h, pl_neg]
    have hk := keep_is (fun n => -n) (Nat.le_refl _) hg hFM hlM (fun n => .inr rfl) (hok.trans h)
    refine set_weights (keep_set (fun n => -n) (Nat.le_refl _) hg hk) (neg_set hset) fun r => ?_
    rw [keep_weight (fun n => -n) r _ hk, neg_weight, ← hw, ← groups_weight (Nat.le_refl _) hg r, ← neg_weight]
    unfold negP pl
    rw [List.map_map]
    rfl
  · rw [if_neg h, if_neg h]
    rfl
end Go.Proofs.YtjjikooabmddlaaGreatDoor.Items

/-
  The contracts of Of, Add and Neg of package zset: what they answer is what the document's do.
-/
namespace Go.Proofs.YtjjikooabmddlaaGreatDoor.Items
open Go.ChangeShapes Go.WideShapes Go.ChangeAt Go.RowKit Val Go.Proofs.YtjjikooabmddlaaGreatDoor.Code Go.Proofs.YtjjikooabmddlaaGreatDoor.Elems Go.Proofs.YtjjikooabmddlaaGreatDoor.ZP Go.Proofs.YtjjikooabmddlaaGreatDoor.Bits Go.Proofs.YtjjikooabmddlaaGreatDoor.Range
set_option linter.unusedVariables false
set_option maxRecDepth 100000

theorem OwnRows.mono {w : World} {B B' : Nat} {M : List It} (h : OwnRows w B M) (hB : B' ≤ B) : OwnRows w B' M := by
  intro x hx
  obtain ⟨g, e, hb, h1⟩ := h x hx
  exact ⟨g, e, by omega, h1⟩
theorem SumEnd.set {w w' : World} {Q : List (List (Int × Int × ByteArray) × Int)} {E : Int} {e : Ending} (h : SumEnd w Q E e w') : SetPost w Q E e w' := by
  obtain ⟨A, cap, M, he, ha, hr, hq, hb⟩ := h
  exact ⟨A, cap, M, he, ⟨ha, hr.vals⟩, hq, hb⟩
theorem SumEnd.next {w W w' : World} {Q : List (List (Int × Int × ByteArray) × Int)} {E : Int} {e : Ending} (h : SumEnd W Q E e w') (hb : Below w.heap.size w W) : SumEnd w Q E e w' := by
  obtain ⟨A, cap, M, he, ha, hr, hq, hb2⟩ := h
  exact ⟨A, cap, M, he, ha, hr.mono hb.size, hq, hb.trans (hb2.mono hb.size)⟩
theorem setsAt_one (w : World) (A : Option Addr) (ca : Nat) (a : List It) (t : TypeId) (hA : Items w w.heap.size A a) :
    SetsAt (w.alloc (.cells #[.slice A a.length ca] t)) (w.alloc (.cells #[.slice A a.length ca] t)).heap.size (some ⟨w.heap.size, 0, none⟩) [(A, ca, a)] := by
  have hb := below_alloc w (.cells #[.slice A a.length ca] t)
  have hn := World.news_of_block (heap_alloc_new w (.cells #[.slice A a.length ca] t))
  have hz : w.heap.size < (w.alloc (.cells #[.slice A a.length ca] t)).heap.size := by simp
  intro i hi
  match i, hi with
  | 0, _ => exact ⟨⟨_, rfl, hz, hn 0 _ rfl⟩, hA.next hb⟩
theorem catS_one (A : Option Addr) (ca : Nat) (a : List It) : catS [(A, ca, a)] = a := by simp [catS]

set_option maxHeartbeats 1000000 in
theorem zadd_any (G : Option Addr) (cap : Nat) (LS : List (Option Addr × Nat × List It)) (w : World) (hS : SetsAt w w.heap.size G LS) (hF : FitI (catS LS)) (hs : ∀ x ∈ catS LS, x.2.2.1.length ≤ 140737488355328) (hl : LS.length ≤ 1000) (hc : (catS LS).length ≤ 4398046511104) :
    Calls Tryz.prog 30 #[.slice G LS.length cap] w (SumEnd w (pl (ofL (catS LS))) (ofE (catS LS))) := by
  have H := Lib.hid (zsum_any 54 id turns_add (enters_of Tryz.func54 (by kernel_rfl) rfl) G cap LS w hS hF hs hl hc)
  have HF := Lib.hid hF
  clear hS hF hs
  go_enter Tryz.func30, Tryz.ntmps30
  go_wp2_with fail
  refine H.out.mono ?_
  rintro e w1 ⟨M, hp, hg, A, c1, N, rfl, ha, hr, hq, hb⟩
  obtain ⟨e1, e2⟩ := sum_is hp hg HF.out hc
  rw [e1] at hq
  rw [e2]
  have X := Lib.hid (show SumEnd w (pl (ofL (catS LS))) (ofE (catS LS)) (.returned (.tuple #[.slice A N.length c1, .int .i64 (ofE (catS LS))])) w1 from ⟨A, c1, N, rfl, ha, hr, hq, hb⟩)
  clear ha hr hq hb hp hg e1 e2 H
  go_wp2
  go_ret2
  exact X.out
end Go.Proofs.YtjjikooabmddlaaGreatDoor.Items

/-
  The contract of package index's Put.
-/
namespace Go.Proofs.YtjjikooabmddlaaGreatDoor.Items
open Go.ChangeShapes Go.WideShapes Go.ChangeAt Go.RowKit Val Go.Proofs.YtjjikooabmddlaaGreatDoor.Code Go.Proofs.YtjjikooabmddlaaGreatDoor.Elems Go.Proofs.YtjjikooabmddlaaGreatDoor.ZP Go.Proofs.YtjjikooabmddlaaGreatDoor.MapSl
set_option linter.unusedVariables false
set_option maxRecDepth 100000

/-- what Put answers, and leaves -/
def PutPost (w : World) (p : Nat) (mo : Option Nat) (C : Option Addr) (cc : Nat) (l : List Int) (S : PL) (s : List It) (e : Ending) (w' : World) : Prop :=
  (okI l s = false ∧ e = .returned (.int .i64 51) ∧ Below w.heap.size w w') ∨
  (okI l s = true ∧ ¬ WFit (S ++ pl s) ∧ e = .returned (.int .i64 11) ∧ Below w.heap.size w w') ∨
  (okI l s = true ∧ WFit (S ++ pl s) ∧ e = .returned (.int .i64 0) ∧ ∃ T mo', SumOf T (S ++ pl s) ∧ Idx w' p mo' C cc l T ∧ Chg w w' (badOf p mo) ∧ (mo' = mo ∨ mo = none ∧ ∀ b, mo' = some b → w.heap.size ≤ b))
theorem grp_items {l : List Int} {k : ByteArray} {S : PL} {L : List It} (h : pl L = grpP l k S) (hS : RowsOk l S) : FitI L ∧ RightP (pl L) ∧ L.length ≤ S.length := by
  have hm : ∀ x ∈ L, pu x ∈ S := fun x hx => by
    have : pu x ∈ pl L := List.mem_map.2 ⟨x, hx, rfl⟩
    rw [h] at this
    exact (grp_mem.1 this).1
  refine ⟨fun x hx => ?_, fun x hx => ?_, ?_⟩
  · obtain ⟨_, b, c, _⟩ := hS _ (hm x hx)
    exact ⟨b, c⟩
  · obtain ⟨y, hy, rfl⟩ := List.mem_map.1 hx
    exact (hS _ (hm y hy)).1
  · rw [← pl_length L, h]
    exact List.length_filter_le _ _
theorem grp_part {l : List Int} (k : ByteArray) {s : List It} (hF : FitI s) (hok : okI l s = true) : FitI (grpI l k s) ∧ RightP (pl (grpI l k s)) ∧ (grpI l k s).length ≤ s.length := by
  have hm : ∀ x ∈ grpI l k s, x ∈ s := fun x hx => (List.mem_filter.1 hx).1
  refine ⟨fun x hx => hF x (hm x hx), fun x hx => ?_, List.length_filter_le _ _⟩
  obtain ⟨y, hy, rfl⟩ := List.mem_map.1 hx
  unfold okI at hok
  rw [List.all_eq_true] at hok
  have := hok y (hm y hy)
  unfold okX at this
  rw [Bool.and_eq_true] at this
  exact this.2
theorem right_len {L : List It} (h : RightP (pl L)) : ∀ x ∈ L, x.2.2.1.length ≤ 140737488355328 := by
  intro x hx
  have := h (pu x) (List.mem_map.2 ⟨x, hx, rfl⟩)
  unfold rightR at this
  rw [Bool.and_eq_true, decide_eq_true_eq] at this
  have h2 : x.2.2.1.length ≤ 24 := this.1
  omega
theorem right_app {a b : PL} (ha : RightP a) (hb : RightP b) : RightP (a ++ b) := fun x hx => (List.mem_append.1 hx).elim (ha x) (hb x)
theorem fit_app {a b : List It} (ha : FitI a) (hb : FitI b) : FitI (a ++ b) := fun x hx => (List.mem_append.1 hx).elim (ha x) (hb x)
theorem right_all {l : List Int} {S : PL} {s : List It} (hS : RowsOk l S) (hok : okI l s = true) : RightP (S ++ pl s) := by
  refine right_app (fun x hx => (hS x hx).1) fun x hx => ?_
  obtain ⟨y, hy, rfl⟩ := List.mem_map.1 hx
  unfold okI at hok
  rw [List.all_eq_true] at hok
  have := hok y hy
  unfold okX at this
  rw [Bool.and_eq_true] at this
  exact this.2
/-- two sets' sum -/
theorem add_grp {w3 : World} {A1 sa : Option Addr} {c1 sc : Nat} {L1 L2 : List It} (h1 : Items w3 w3.heap.size A1 L1) (h2 : Items w3 w3.heap.size sa L2) (f1 : FitI L1) (f2 : FitI L2) (r1 : RightP (pl L1)) (r2 : RightP (pl L2)) (l1 : L1.length ≤ 1000) (l2 : L2.length ≤ 1000) :
    Calls Tryz.prog 30 #[.slice (some ⟨w3.heap.size, 0, none⟩) 2 2] (w3.alloc (.cells #[.slice A1 L1.length c1, .slice sa L2.length sc] 40)) fun e w' => ∃ (A : Option Addr) (n c : Nat) (M : List It) (E : Int),
      e = .returned (.tuple #[.slice A n c, .int .i64 E]) ∧ n = M.length ∧ Items w' w'.heap.size A M ∧ Below w3.heap.size w3 w' ∧ ((E = 0 ∧ WFit (pl L1 ++ pl L2) ∧ SumOf (pl M) (pl L1 ++ pl L2)) ∨ (E = 11 ∧ ¬ WFit (pl L1 ++ pl L2))) := by
  have hb := below_alloc w3 (.cells #[.slice A1 L1.length c1, .slice sa L2.length sc] 40)
  have h := zadd_any (some ⟨w3.heap.size, 0, none⟩) 2 [(A1, c1, L1), (sa, sc, L2)] _ (setsAt_two w3 A1 sa c1 sc L1 L2 40 h1 h2) (by rw [catS_two]; exact fit_app f1 f2) (by rw [catS_two]; exact right_len (by rw [pl_append]; exact right_app r1 r2)) (by simp) (by rw [catS_two, List.length_append]; omega)
  rw [catS_two] at h
  refine h.mono ?_
  rintro e w' ⟨A, c, M, rfl, ha, hr, hq, hb5⟩
  refine ⟨A, _, c, M, _, rfl, rfl, ⟨ha, hr.vals⟩, hb.trans (hb5.mono hb.size), ?_⟩
  have hc := of_cases (L := L1 ++ L2) (by rw [pl_append]; exact right_app r1 r2)
  rw [pl_append] at hc
  rcases hc with ⟨a, b, c⟩ | ⟨a, b⟩
  · exact .inl ⟨a, b, hq ▸ c⟩
  · exact .inr ⟨a, b⟩
set_option maxHeartbeats 4000000 in
theorem xput_any (p : Nat) (mo : Option Nat) (C : Option Addr) (cc : Nat) (l : List Int) (S : PL) (A : Option Addr) (cap : Nat) (s : List It) (m : Int) (w : World) (hX : Idx w p mo C cc l S) (hI : Items w w.heap.size A s) (hF : FitI s) (hs : s.length ≤ 1000) (hS : S.length ≤ 1000) (hr : ∀ x ∈ s, x.2.2.1.length ≤ 1000000) (hl : l.length ≤ 24)
    (hm : w.cell? ⟨0, 0, none⟩ = some (.int .i64 m)) :
    Calls Tryz.prog 11 #[.pointer (some ⟨p, 0, none⟩), .slice A s.length cap] w (PutPost w p mo C cc l S s) := by
  have HSp := Lib.hid (split_any p C cc l A cap s m w hX.places hX.ints hI hF hs hr hl hm)
  obtain ⟨f0, hf0, hg0⟩ := hX.map
  have HX := Lib.hid hX
  have HF0 := Lib.hid hf0
  have HG0 := Lib.hid hg0
  have HF := Lib.hid hF
  have hpl := hX.lt
  have hmm := @run_makeMap Tryz.prog
  clear hX hI hF hr hm hf0 hg0
  go_enter Tryz.func11, Tryz.ntmps11
  go_wp2_with fail
  refine HSp.out.mono ?_
  rintro e w1 (⟨hok, b, f, rfl, hbB, hm1, hp1, hb1⟩ | ⟨hok, he, hb1⟩)
  · have ha := below_alloc w1 (.map #[] 0)
    obtain ⟨W2, hW2⟩ : ∃ W2, W2 = w1.alloc (.map #[] 0) := ⟨_, rfl⟩
    have HW := Lib.hid hW2.symm
    have HM1 := Lib.hid hm1
    have HM2 := Lib.hid (show MapIs W2 b s.length f by rw [hW2]; exact hm1.below ha)
    have HP1 := Lib.hid hp1
    have HB1 := Lib.hid hb1
    have HOK := Lib.hid hok
    clear hm1 hp1 hb1 ha hok hW2 HSp
    go_wp2_with (at_range; rw [HW.out]; refine wpList_rng _ rfl _ rfl b s.length f rfl HM2.out ?_)
    intro w3 cnt hrng hle hb3
    have hst := sumAt_start (w := w) (l := l) (S := S) HM1.out HP1.out HB1.out hbB HW.out.symm hrng hle hb3 rfl
    obtain ⟨r, hr⟩ : ∃ r, W2.heap.size = r := ⟨_, rfl⟩
    obtain ⟨bs, hbs⟩ : ∃ bs, w1.heap.size = bs := ⟨_, rfl⟩
    rw [hr, hbs] at hst
    rw [hr, hbs]
    have HA0 := Lib.hid hst
    clear hst hrng hb3 hr hbs HW HM2 HM1 HP1 HB1 hle hbB
    go_wp2
    go_loopw [8] (fun _ wr => ∃ (g : ByteArray → Option Sl) (left : ByteArray → Bool) (cnt m : Nat), Hid (SumAt w b bs r l S s f g left cnt m wr)) (fun _ wr => wr.rangeLeft b r)
    case atStart => exact ⟨_, _, _, _, HA0⟩
    case round =>
      obtain ⟨g, left, cnt1, n1, HA⟩ := hrel
      go_wp2_with (at_next; refine MapSl.wpList_step _ rfl _ rfl b r s.length f left cnt1 rfl HA.out.rng ?done ?more)
      case done =>
        intro hdone
        obtain ⟨hsum, hmap⟩ := sumAt_end HA.out hdone
        have hwf := wfit_of hsum (set_fit HX.out.set fun x hx => (HX.out.rows x hx).2.2.1)
        obtain ⟨T, hT⟩ := sum_exists (right_all HX.out.rows HOK.out) hwf
        have hRT := sum_rows hT HX.out.rows HF.out HOK.out hwf
        have Xr := Lib.hid (HX.out.below HA.out.bel)
        have hkp := keep_any p C l.length cc mo S.length f0 bs s.length g wr Xr.out.blk (HF0.out.below HA.out.bel) hmap (fun e => by have h1 := HX.out.molt bs e; have h2 := HA.out.sB; omega) (by omega)
        have HKp := Lib.hid hkp
        have HSum := Lib.hid hsum
        have HT := Lib.hid hT
        have HRT := Lib.hid hRT
        have HWF := Lib.hid hwf
        clear hkp hsum hmap hT hRT hwf hdone
        go_wp2_with fail
        refine HKp.out.mono ?_
        rintro e w4 ⟨rfl, hk⟩
        obtain ⟨mo', hX', hc', hd'⟩ := idx_kept Xr.out (HG0.out.below HA.out.bel) HSum.out HT.out HRT.out hk
        have X := Lib.hid (show PutPost w p mo C cc l S s (.returned (.int .i64 0)) w4 from .inr (.inr ⟨HOK.out, HWF.out, rfl, T, mo', HT.out, hX', (Chg.of HA.out.bel _).trans hc', hd'.imp id fun h => ⟨h.1, fun b2 e => Nat.le_trans HA.out.bel.size (h.2 b2 e)⟩⟩))
        clear hk hX' hc' hd' HKp
        go_wp2
        go_ret
        exact X.out
      case more =>
        intro k sa sn sc w3 cnt2 hk hlk hgk hr3 hlt hgr hsz hen
        have hM := sumMid_of HA.out hr3 hlk hlt hgr
        have hcnt := HA.out.rng.left_eq
        obtain ⟨_, hsn, hI2⟩ := (hM.parts k).2 _ hgk
        simp only at hsn hI2
        have Xr := Lib.hid (HX.out.below hM.bel)
        have q1 := Xr.out.sets
        have HFr := Lib.hid (HF0.out.below hM.bel)
        obtain ⟨A1, c1, L1, hlook, hI1, hL1⟩ := (HG0.out.below hM.bel).look k
        obtain ⟨fi1, ri1, le1⟩ := grp_items hL1 HX.out.rows
        obtain ⟨fi2, ri2, le2⟩ := grp_part k HF.out HOK.out
        have hpl2 := pl_grp l k s
        obtain ⟨L2, hL2⟩ : ∃ L2, grpI l k s = L2 := ⟨_, rfl⟩
        rw [hL2] at hsn hI2 fi2 ri2 le2 hpl2
        have HAD := Lib.hid (add_grp (c1 := c1) (sc := sc) hI1 hI2 fi1 fi2 ri1 ri2 (by omega) (by omega))
        have HLK := Lib.hid hlook
        have HL1 := Lib.hid hL1
        have HL2 := Lib.hid hpl2
        have HM := Lib.hid hM
        rw [← hsn] at HAD
        obtain ⟨n2, hn2⟩ : ∃ n2, L1.length = n2 := ⟨_, rfl⟩
        rw [hn2] at HAD HLK
        clear hsz hM hr3 hgr HA hI1 hI2 fi1 fi2 ri1 ri2 le1 le2 hlook hL1 hpl2 hL2 hsn hn2
        go_wp2_with (at_lookup; refine wpList_lookO _ rfl _ _ rfl mo S.length f0 rfl HFr.out k rfl hk (A1, n2, c1) HLK.out ?_)
        refine HAD.out.mono ?_
        rintro e w5 ⟨A5, n5, c5, M, E, rfl, hn5, hI5, hb5, hE⟩
        have HM5 := Lib.hid (HM.out.next hb5)
        have HI5 := Lib.hid hI5
        have HN5 := Lib.hid hn5
        rcases hE with ⟨rfl, hW5, hS5⟩ | ⟨hE11, hW5⟩
        · have HW5 := Lib.hid hW5
          have HS5 := Lib.hid hS5
          have hlen5 := HM5.out.len
          clear hI5 hb5 hn5 hW5 hS5 HAD HM q1
          go_wp2_with (at_mapUpdate; refine wpList_store _ rfl _ _ _ rfl bs _ g rfl HM5.out.map ?lt k rfl hk (A5, n5, c5) rfl ?nx)
          case lt => unfold maxLen; omega
          case nx =>
            intro w6 hm6 hg6 hsz6
            have HN := Lib.hid (sumAt_next (c := c5) HM5.out HI5.out (by rw [← HL1.out, ← HL2.out]; exact HS5.out) (by rw [← HL1.out, ← HL2.out]; exact HW5.out) (by rw [← HN5.out]; exact hm6) hg6)
            clear hm6 hg6
            go_wp2
            go_roundw
            case rel => exact ⟨_, _, _, _, HN⟩
            case measure => rw [HN.out.rng.left_eq, hcnt]; exact hlt
        · have hne : (E != 0) = true := by rw [hE11]; rfl
          have X := Lib.hid (show PutPost w p mo C cc l S s (.returned (.int .i64 E)) w5 from .inr (.inl ⟨HOK.out, fun h => hW5 (by rw [HL1.out, HL2.out]; exact grp_one l k h), by rw [hE11], HM5.out.bel⟩))
          clear hI5 hb5 hn5 hW5 hE11 HAD HM q1
          go_wp2
          go_ret
          exact X.out
  · obtain ⟨E, hE5, hne⟩ : ∃ E : Int, E = 51 ∧ (E != 0) = true := ⟨51, rfl, rfl⟩
    have X := Lib.hid (show PutPost w p mo C cc l S s (.returned (.int .i64 E)) w1 from .inl ⟨hok, by rw [hE5], hb1⟩)
    rw [← hE5] at he
    subst he
    clear hE5 hb1 HSp
    go_wp2
    go_ret
    exact X.out
theorem put_nil (v : Value) (w : World) : Calls Tryz.prog 11 #[.pointer none, v] w fun e w' => e = .returned (.int .i64 1) ∧ w = w' := by
  go_enter Tryz.func11, Tryz.ntmps11
  go_wp2
  go_ret
  exact ⟨rfl, rfl⟩
end Go.Proofs.YtjjikooabmddlaaGreatDoor.Items
