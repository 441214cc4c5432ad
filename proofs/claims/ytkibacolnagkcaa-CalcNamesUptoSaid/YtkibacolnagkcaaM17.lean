/-
  What the program's package of columns wants in plain words: a word that is a whole text stands at its beginning; why a column is refused; columns one by one. No program is named here.
-/
import Derived.Test.YtkibacolnagkcaaM9
import Derived.Test.YtkibacolnagkcaaM13
import Derived.Test.YtkibacolnagkcaaM12
import Derived.Deep.DeepCutAuto
import Derived.Deep.RegionHeld3
namespace Go.Proofs.Ytkibacolnagkcaa.Code
open Val
set_option linter.unusedVariables false
/-- a name that comes first: it is no longer than what is there, and than 20 bytes -/
theorem words_name (s : List UInt8) : ∀ (i : Int) (t : List UInt8) (p : Int) (l : List W), wordsL s i = .ok ((0, t, p) :: l) → i ≤ p ∧ p - i + t.length ≤ s.length ∧ t.length ≤ 20 := by
  refine words_way (Q := fun s => ∀ (i : Int) (t : List UInt8) (p : Int) (l : List W), wordsL s i = .ok ((0, t, p) :: l) → i ≤ p ∧ p - i + t.length ≤ s.length ∧ t.length ≤ 20) ?_ ?_ ?_ ?_ s
  · intro i t p l h; cases h
  · intro c s hb ih i t p l h
    rw [wordsL_blank hb] at h
    have := ih _ t p l h
    simp only [List.length_cons]
    omega
  · intro c s hb hf i t p l h
    rw [wordsL_none hb hf] at h
    cases h
  · intro c s k t n hf ih i t' p l h
    rw [wordsL_one hf] at h
    cases hw : wordsL ((c :: s).drop n) (i + n) with
    | error j => rw [hw] at h; cases h
    | ok l' =>
      rw [hw] at h
      simp only [Except.ok.injEq, List.cons.injEq, Prod.mk.injEq] at h
      obtain ⟨⟨rfl, rfl, rfl⟩, -⟩ := h
      rcases first_cases hf with ⟨_, _, -, -, -, rfl, rfl, h20⟩ | ⟨_, _, -, -, -, h0, -⟩ | ⟨_, -, h0, -⟩ | ⟨_, _, _, -, -, -, -, -, h0, -⟩ | ⟨_, _, -, -, -, -, -, -, h0, -⟩
      · have hle := runL_le nameB (c :: s)
        rw [List.length_take]
        omega
      all_goals exact absurd h0 (by decide)
theorem name_whole {s : List UInt8} {p : Int} (h : wordsL s 0 = .ok [(0, s, p)]) : p = 0 ∧ s.length ≤ 20 := by
  have := words_name s 0 s p [] h
  omega
theorem name_short {s : List UInt8} (h : 20 < s.length) : nameC s = false := by
  unfold nameC
  cases hw : wordsL s 0 with
  | error j => rfl
  | ok l =>
    rcases l with _ | ⟨a, _ | ⟨b, l⟩⟩
    · rfl
    · obtain ⟨k, t, p⟩ := a
      by_cases hk : k = 0
      · by_cases ht : t = s
        · subst hk ht
          have := name_whole hw
          omega
        · simp [ht]
      · simp [hk]
    · rfl
theorem name_own {s : List UInt8} (h : ownN s = true) : nameC s = false := by
  unfold nameC
  cases hw : wordsL s 0 with
  | error j => rfl
  | ok l =>
    rcases l with _ | ⟨a, _ | ⟨b, l⟩⟩
    · rfl
    · simp [h]
    · rfl
/-- a name that is none of the language's own: it is its text's one word, from the beginning on -/
theorem name_words {s : List UInt8} (h : ownN s = false) : nameC s = (match wordsL s 0 with | .ok [w] => w.1 == 0 && (w.2.1 == s && w.2.2 == 0) | _ => false) := by
  unfold nameC
  cases hw : wordsL s 0 with
  | error j => rfl
  | ok l =>
    rcases l with _ | ⟨a, _ | ⟨b, l⟩⟩
    · rfl
    · obtain ⟨k, t, p⟩ := a
      by_cases hk : k = 0
      · by_cases ht : t = s
        · subst hk ht
          have := (name_whole hw).1
          subst this
          simp [h]
        · have e : (t == s) = false := by simpa using ht
          show (k == 0 && (t == s && !ownN s)) = (k == 0 && (t == s && p == 0))
          rw [e]
          rfl
      · have e : (k == 0) = false := by simpa using hk
        show (k == 0 && (t == s && !ownN s)) = (k == 0 && (t == s && p == 0))
        rw [e]
        rfl
    · rfl
/-- why a column may not stand behind others, or 0 -/
def refC (l : List W) (c : W) : Int :=
  if (nameC c.2.1 && (columnB c.2.2 && (decide (1 ≤ c.1) && l.all fun x => x.1 != c.1))) = false then 1 else if (findC l c.2.1).isSome = true then 122 else if 12 ≤ l.length then 62 else 0
theorem addC_ref (l : List W) (c : W) : addC l c = if refC l c = 0 then (l ++ [c], 0) else ([], refC l c) := by
  unfold addC refC colC
  simp only [Bool.and_assoc]
  repeat' split
  all_goals first | rfl | omega | skip
theorem find_isSome (l : List W) (s : List UInt8) : (findC l s).isSome = l.any fun c => c.2.1 == s := by
  unfold findC
  rw [List.findIdx?_isSome]
theorem ref_zero (l : List W) (c : W) : refC l c = 0 ↔ (colC c && apartC c l) = true ∧ l.length < 12 := by
  have h1 : (l.any fun x => x.2.1 == c.2.1) = false ↔ ∀ x ∈ l, x.2.1 ≠ c.2.1 := by rw [List.any_eq_false]; simp
  have h2 : (l.all fun x => x.1 != c.1) = true ↔ ∀ x ∈ l, x.1 ≠ c.1 := by rw [List.all_eq_true]; simp
  have h3 : apartC c l = true ↔ ∀ x ∈ l, x.1 ≠ c.1 ∧ x.2.1 ≠ c.2.1 := by unfold apartC; rw [List.all_eq_true]; simp
  unfold refC
  rw [find_isSome]
  constructor
  · intro h
    split at h
    · exact absurd h (by decide)
    rename_i g1
    split at h
    · exact absurd h (by decide)
    rename_i g2
    split at h
    · exact absurd h (by decide)
    rename_i g3
    simp only [Bool.not_eq_false, Bool.and_eq_true, h2, decide_eq_true_eq] at g1
    have g2 := h1.1 (by rw [Bool.not_eq_true] at g2; exact g2)
    refine ⟨?_, by omega⟩
    unfold colC
    simp only [Bool.and_eq_true, h3, decide_eq_true_eq]
    exact ⟨⟨g1.1, g1.2.1, g1.2.2.1⟩, fun x hx => ⟨g1.2.2.2 x hx, g2 x hx⟩⟩
  · rintro ⟨h, h12⟩
    unfold colC at h
    simp only [Bool.and_eq_true, h3, decide_eq_true_eq] at h
    obtain ⟨⟨ha, hb, hc⟩, hd⟩ := h
    rw [if_neg, if_neg, if_neg (by omega)]
    · rw [Bool.not_eq_true]
      exact h1.2 fun x hx => (hd x hx).2
    · simp only [Bool.not_eq_false, Bool.and_eq_true, h2, decide_eq_true_eq]
      exact ⟨ha, hb, hc, fun x hx => (hd x hx).1⟩
/-- columns up to a place stand behind one another -/
def stoodC (l : List W) (i : Nat) : Prop := ∀ j (hj : j < l.length), j < i → refC (l.take j) l[j] = 0
theorem stood_sch (l : List W) : ∀ i, i ≤ l.length → stoodC l i → schL [] (l.take i) = true ∧ i ≤ 12
  | 0, _, _ => ⟨by rw [List.take_zero]; rfl, Nat.zero_le _⟩
  | i + 1, hi, h => by
    obtain ⟨h1, h2⟩ := stood_sch l i (by omega) (fun j hj hji => h j hj (by omega))
    have h3 := (ref_zero _ _).1 (h i (by omega) (by omega))
    rw [schL_take l i (by omega), h1, h3.1]
    rw [List.length_take] at h3
    exact ⟨rfl, by omega⟩
theorem sch_stood (l : List W) (h : stoodC l l.length) : schC l = decide (0 < l.length) := by
  obtain ⟨h1, h2⟩ := stood_sch l l.length (Nat.le_refl _) h
  rw [List.take_length] at h1
  unfold schC
  rw [h1]
  simp [h2]
  omega
theorem sch_fell {l : List W} {i : Nat} (hi : i < l.length) (h : refC (l.take i) l[i] ≠ 0) : schC l = false := by
  unfold schC
  by_cases h12 : l.length ≤ 12
  · have h1 : schL [] (l.take (i + 1)) = false := by
      rw [schL_take l i hi]
      cases hc : (colC l[i] && apartC l[i] (l.take i))
      · simp
      · exact absurd ((ref_zero _ _).2 ⟨hc, by rw [List.length_take]; omega⟩) h
    rw [schL_false _ h1]
    rfl
  · simp [h12]
/-- the first place that is as asked, as it is told -/
def firstI (p : W → Bool) (l : List W) : Int := match l.findIdx? p with | some i => (i : Int) | none => 0
def firstB (p : W → Bool) (l : List W) : Bool := (l.findIdx? p).isSome
theorem first_at {p : W → Bool} {l : List W} {i : Nat} (hi : i < l.length) (h1 : p l[i] = true) (h2 : ∀ j (hj : j < l.length), j < i → p l[j] = false) : firstI p l = i ∧ firstB p l = true := by
  have h : l.findIdx? p = some i := List.findIdx?_eq_some_iff_getElem.2 ⟨hi, h1, fun j hj => by rw [h2 j (by omega) hj]; simp⟩
  unfold firstI firstB
  rw [h]
  exact ⟨rfl, rfl⟩
theorem first_no {p : W → Bool} {l : List W} (h2 : ∀ j (hj : j < l.length), p l[j] = false) : firstI p l = 0 ∧ firstB p l = false := by
  have h : l.findIdx? p = none := List.findIdx?_eq_none_iff.2 fun x hx => by obtain ⟨j, hj, rfl⟩ := List.getElem_of_mem hx; exact h2 j hj
  unfold firstI firstB
  rw [h]
  exact ⟨rfl, rfl⟩
theorem findZ_first (l : List W) (s : List UInt8) : max (findZ l s) 0 = firstI (fun c => c.2.1 == s) l ∧ decide (0 ≤ findZ l s) = firstB (fun c => c.2.1 == s) l := by
  unfold findZ firstI firstB findC
  cases l.findIdx? fun c => c.2.1 == s with
  | none => exact ⟨rfl, rfl⟩
  | some k => exact ⟨by dsimp only; omega, by simp⟩
theorem known_first (l : List W) (n : Int) : (!firstB (fun x => x.1 == n) l) = l.all fun x => x.1 != n := by
  unfold firstB
  rw [List.findIdx?_isSome, List.not_any_eq_all_not]
  rfl
end Go.Proofs.Ytkibacolnagkcaa.Code
/-
  The document's Right of columns.
-/
namespace Go.Proofs.Ytkibacolnagkcaa.Code
open Go.ChangeShapes Go.WideShapes Go.ChangeAt Go.RowKit Val Elems
set_option linter.unusedVariables false
set_option linter.unusedSimpArgs false
theorem apart_all {c : W} {l : List W} {i : Nat} (hi : i ≤ l.length) (h : ∀ j (hj : j < l.length), j < i → l[j].1 ≠ c.1 ∧ l[j].2.1 ≠ c.2.1) : apartC c (l.take i) = true := by
  unfold apartC
  rw [List.all_eq_true]
  intro x hx
  obtain ⟨j, hj, rfl⟩ := List.getElem_of_mem hx
  have hj2 : j < i := by rw [List.length_take] at hj; omega
  obtain ⟨h1, h2⟩ := h j (by omega) hj2
  simp [h1, h2]
theorem apart_none {c : W} {l : List W} {i j : Nat} (hj : j < l.length) (hji : j < i) (h : l[j].1 = c.1 ∨ l[j].2.1 = c.2.1) : apartC c (l.take i) = false := by
  cases e : apartC c (l.take i)
  · rfl
  · unfold apartC at e
    rw [List.all_eq_true] at e
    have hm : l[j] ∈ l.take i := by
      have hl : j < (l.take i).length := by rw [List.length_take]; omega
      have := List.getElem_mem hl
      rwa [List.getElem_take] at this
    have := e _ hm
    rcases h with h | h <;> simp [h] at this
theorem sch_no {l : List W} (i : Nat) (hi : i < l.length) (h : colC l[i] = false ∨ apartC l[i] (l.take i) = false) : schC l = false := by
  have : schL [] (l.take (i + 1)) = false := by
    rw [schL_take l i hi]
    rcases h with h | h <;> simp [h]
  unfold schC
  rw [schL_false _ this, Bool.false_and]
set_option maxHeartbeats 4000000 in
set_option maxRecDepth 100000 in
theorem rright12_any (A : Option Addr) (cap : Nat) (l : List W) (w : World) (hv : At wc 3 w w.heap.size A l) (hl : l.length ≤ 4194304) (hn : ∀ c ∈ l, c.2.1.length ≤ 4194304) :
    Calls Try.prog 13 #[.slice A l.length cap] w fun e w' => e = .returned (.bool (schC l)) ∧ Below w.heap.size w w' := by
  have HV := Lib.hid hv
  have HN := Lib.hid hn
  clear hv hn
  go_enter Try.func13, Try.ntmps13
  go_wp2
  go_loopw [3] (fun t wr => ∃ i : Nat, i ≤ l.length ∧ t = .int .i64 i ∧ schL [] (l.take i) = true ∧ Below w.heap.size w wr) (fun t _ => l.length - (intOf t).toNat)
  case atStart => exact ⟨0, by omega, rfl, rfl, Below.refl _ _⟩
  case round =>
    obtain ⟨i, hi, rfl, hyes, hbel⟩ := hrel
    have hsz := hbel.size
    have HL := Lib.hid hbel
    have HY := Lib.hid hyes
    have VA := Lib.hid (HV.out.below hbel)
    clear hbel hyes
    by_cases hil : i < l.length
    · obtain ⟨ad, rfl, ga, c0, c1, c2⟩ := at_word VA.out i hil
      have hlen := HN.out l[i] (List.getElem_mem hil)
      have HT := Lib.hid (schL_take l i hil)
      have HNO := Lib.hid (fun h => sch_no i hil h)
      obtain ⟨x, hx⟩ : ∃ x, l[i] = x := ⟨_, rfl⟩
      have HX := Lib.hid hx
      rw [hx] at c0 c1 c2 hlen HT HNO
      clear hx
      obtain ⟨n, t, k⟩ := x
      obtain ⟨T, hT⟩ : ∃ T : ByteArray, ⟨t.toArray⟩ = T := ⟨_, rfl⟩
      have hTs : T.size ≤ 4194304 := by rw [← hT]; simpa [ByteArray.size] using hlen
      have hTd : T.data.toList = t := by rw [← hT]
      have HC := Lib.hid (fun w' => rcol_any n k T w' hTs)
      dsimp only at c0 c1 c2
      rw [hT] at c1
      rw [hTd] at HC
      obtain ⟨o, ho⟩ : ∃ o, colC (n, t, k) = o := ⟨_, rfl⟩
      rw [ho] at HC HT HNO
      have HTT := Lib.hid hT
      clear hT hTs hTd ho hlen
      go_wp2_with fail
      refine (HC.out _).mono ?_
      rintro e w1 ⟨rfl, hb⟩
      have L1 := Lib.hid (HL.out.trans (hb.mono hsz))
      have V1 := Lib.hid (VA.out.below (hb.mono (by omega)))
      clear hb c0 c1 c2 HC
      cases o
      · have HF := Lib.hid (HNO.out (.inl rfl))
        go_wp2
        go_ret
        exact ⟨by rw [HF.out]; rfl, L1.out⟩
      go_wp2
      go_loopw [5] (fun t2 w2 => ∃ q : Nat, q ≤ i ∧ t2 = .int .i64 q ∧ (∀ j (hj : j < l.length), j < q → l[j].1 ≠ n ∧ l[j].2.1 ≠ t) ∧ Below w1.heap.size w1 w2) (fun t2 _ => i - (intOf t2).toNat)
      case atStart => exact ⟨0, by omega, rfl, fun j _ h => absurd h (by omega), Below.refl _ _⟩
      case round =>
        obtain ⟨q, hq, rfl, hap, hbel⟩ := hrel
        have H2 := Lib.hid hbel
        have HA := Lib.hid hap
        have V2 := Lib.hid (V1.out.below (hbel.mono (by have := L1.out.size; omega)))
        clear hbel hap
        by_cases hqi : q < i
        · obtain ⟨bd, e0, gb, c0, c1, c2⟩ := at_word V2.out i hil
          obtain rfl := Option.some.inj e0
          rw [HX.out] at c0 c1 c2
          obtain ⟨_, e1, _, d0, d1, d2⟩ := at_word V2.out q (by omega)
          obtain rfl := Option.some.inj e1
          dsimp only at c0 c1 c2
          rw [HTT.out] at c1
          have hql : q < l.length := by omega
          by_cases hid : l[q].1 = n
          · have HF := Lib.hid (HNO.out (.inr (apart_none hql hqi (.inl hid))))
            rw [hid] at d0
            clear e0 e1 hid c2 d2
            go_wp2
            go_quiet (fail)
            go_wp2
            go_ret
            exact ⟨by rw [HF.out]; rfl, (drewN_below (L1.out.trans (H2.out.mono (by have := L1.out.size; omega))) _)⟩
          · have e5 : (l[q].1 == n) = false := by simpa using hid
            by_cases hnm : l[q].2.1 = t
            · have HF := Lib.hid (HNO.out (.inr (apart_none hql hqi (.inr hnm))))
              rw [hnm, HTT.out] at d1
              clear e0 e1 hid hnm c2 d2
              go_wp2
              go_quiet (fail)
              go_wp2
              go_ret
              exact ⟨by rw [HF.out]; rfl, (drewN_below (L1.out.trans (H2.out.mono (by have := L1.out.size; omega))) _)⟩
            · obtain ⟨S, hS⟩ : ∃ S : ByteArray, ⟨l[q].2.1.toArray⟩ = S := ⟨_, rfl⟩
              have e6 : (S.toList == T.toList) = false := by rw [ByteArray.toList_eq, ByteArray.toList_eq, ← HTT.out, ← hS]; simpa using hnm
              rw [hS] at d1
              have HI := Lib.hid hid
              have HM := Lib.hid hnm
              clear e0 e1 hid hnm c2 d2 hS
              go_wp2
              go_quiet (fail)
              go_wp2
              go_roundw
              case rel => exact ⟨q + 1, by omega, by go_num, fun j hj h => if e : j = q then by subst e; exact ⟨HI.out, HM.out⟩ else HA.out j hj (by omega), drewN_below H2.out _⟩
              case measure => simp [intOf]; omega
        · obtain rfl : q = i := by omega
          have HAP := Lib.hid (show apartC (n, t, k) (l.take q) = true from apart_all hi HA.out)
          have HY2 := Lib.hid (show schL [] (l.take (q + 1)) = true by rw [HT.out, HY.out, HAP.out]; rfl)
          go_wp2
          go_roundw
          case rel => exact ⟨q + 1, by omega, by go_num, HY2.out, L1.out.trans (H2.out.mono (by have := L1.out.size; omega))⟩
          case measure => simp [intOf]; omega
    · obtain rfl : i = l.length := by omega
      rw [List.take_length] at HY
      have HF := Lib.hid (show schC l = (decide (1 ≤ l.length) && decide (l.length ≤ 12)) by unfold schC; rw [HY.out, Bool.true_and])
      by_cases h1 : 1 ≤ l.length
      · by_cases h2 : l.length ≤ 12
        · have HG := Lib.hid (show schC l = true by rw [HF.out]; simp [h1, h2])
          go_wp2
          go_ret
          exact ⟨by rw [HG.out]; first | rfl | (simp [h1, h2]; omega), HL.out⟩
        · have HG := Lib.hid (show schC l = false by rw [HF.out]; simp [h2])
          go_wp2
          go_ret
          exact ⟨by rw [HG.out]; first | rfl | (simp [h1, h2]; omega), HL.out⟩
      · have HG := Lib.hid (show schC l = false by rw [HF.out]; simp [h1])
        go_wp2
        go_ret
        exact ⟨by rw [HG.out]; first | rfl | (simp [h1]; done), HL.out⟩
end Go.Proofs.Ytkibacolnagkcaa.Code
/-
  The document's Add and Drop of columns.
-/
namespace Go.Proofs.Ytkibacolnagkcaa.Code
open Go.ChangeShapes Go.WideShapes Go.ChangeAt Go.RowKit Val Elems
set_option linter.unusedVariables false
set_option linter.unusedSimpArgs false
/-- columns that are told, with an error -/
def ColsPost (w : World) (r : List W × Int) (e : Ending) (w' : World) : Prop := ∃ (A : Option Addr) (cap : Nat), e = .returned (.tuple #[.slice A r.1.length cap, .int .i64 r.2]) ∧ At wc 3 w' w'.heap.size A r.1 ∧ Below w.heap.size w w'
theorem ColsPost.no {w w' : World} (j : Int) (h : Below w.heap.size w w') : ColsPost w ([], j) (.returned (.tuple #[.slice none 0 0, .int .i64 j])) w' := ⟨none, 0, rfl, At.nil _ _ _, h⟩
def oneId (n : Int) (l : List W) : Bool := l.all fun x => x.1 != n
theorem oneId_take (n : Int) (l : List W) (i : Nat) (hi : i < l.length) : oneId n (l.take (i + 1)) = (oneId n (l.take i) && l[i].1 != n) := by
  unfold oneId
  rw [List.take_succ_eq_append_getElem hi, List.all_append]
  simp
theorem findZ_neg {l : List W} {s : List UInt8} (h : findC l s = none) : findZ l s = -1 := by unfold findZ; rw [h]
theorem findZ_pos {l : List W} {s : List UInt8} {k : Nat} (h : findC l s = some k) : findZ l s = k := by unfold findZ; rw [h]
theorem info_col : (Try.prog.info? 48).map (fun i => (i.zero, i.size, i.bytes)) = some (some (.agg #[.int .i64 0, .string ByteArray.empty, .int .i64 0]), 3, 32) := by kernel_rfl
end Go.Proofs.Ytkibacolnagkcaa.Code
/-
  The document's Drop of columns.
-/
namespace Go.Proofs.Ytkibacolnagkcaa.Code
open Go.ChangeShapes Go.WideShapes Go.ChangeAt Go.RowKit Val Elems
set_option linter.unusedVariables false
set_option linter.unusedSimpArgs false
theorem drop_take (l : List W) (i k : Nat) (hi : i < l.length) : (l.take (i + 1)).eraseIdx k = if i = k then (l.take i).eraseIdx k else (l.take i).eraseIdx k ++ [l[i]] := by
  have hlen : (l.take i).length = i := by rw [List.length_take]; omega
  rw [List.take_succ_eq_append_getElem hi]
  by_cases h : k < i
  · rw [List.eraseIdx_append_of_lt_length (by omega), if_neg (by omega)]
  · rw [List.eraseIdx_append_of_length_le (by omega), hlen]
    have e : (l.take i).eraseIdx k = l.take i := List.eraseIdx_of_length_le (by omega)
    rw [e]
    by_cases h2 : i = k
    · subst h2
      rw [if_pos rfl, Nat.sub_self]
      simp
    · rw [if_neg h2]
      have e2 : ([l[i]] : List W).eraseIdx (k - i) = [l[i]] := List.eraseIdx_of_length_le (by simp; omega)
      rw [e2]
end Go.Proofs.Ytkibacolnagkcaa.Code
/-
  The document's Rename and Widen of columns.
-/
namespace Go.Proofs.Ytkibacolnagkcaa.Code
open Go.ChangeShapes Go.WideShapes Go.ChangeAt Go.RowKit Val Elems
set_option linter.unusedVariables false
set_option linter.unusedSimpArgs false
/-- a row of columns of the call's own, by its cells -/
theorem own_cols {w : World} {B : Nat} {e : TypeId} {v : Value} {l : List W} (h : w.ownsRow B e 3 v l.length (flatC wc l)) (h0 : 0 < l.length) :
    ∃ g cap, v = .slice (some ⟨g, 0, none⟩) l.length cap ∧ B ≤ g ∧ g < w.heap.size ∧ (∀ j, w.frozen? ⟨g, j, none⟩ = false) ∧ ∀ j u, (flatC wc l)[j]? = some u → w.cell? ⟨g, j, none⟩ = some u := by
  obtain ⟨g, cap, hv, hg, hlt⟩ := h.form h0
  have hc := h.cells (g := g) (by rw [hv]; rfl)
  refine ⟨g, cap, hv, hg, hlt, ?_, fun j u hu => by have := hc j u hu; rwa [Addr.add_lit, Nat.zero_add] at this⟩
  intro j
  rcases h.2 with ⟨e1, _⟩ | ⟨g', cap', cur, e1, _, hh, _⟩
  · rw [hv] at e1
    simp at e1
  · rw [hv] at e1
    simp only [Value.slice.injEq, Option.some.injEq, Addr.mk.injEq] at e1
    obtain ⟨⟨rfl, _, _⟩, _, _⟩ := e1
    simp [World.frozen?, hh]
theorem cols_at {w : World} {g B : Nat} {l : List W} (hg : g < B) (h : ∀ j u, (flatC wc l)[j]? = some u → w.cell? ⟨g, j, none⟩ = some u) : At wc 3 w B (some ⟨g, 0, none⟩) l := by
  intro i hi
  refine ⟨⟨g, 0, none⟩, rfl, hg, fun j u hu => ?_⟩
  rw [Addr.add_lit, Nat.zero_add]
  refine h _ _ ?_
  have hj : j < 3 := by
    have := (List.getElem?_eq_some_iff.1 hu).1
    rwa [wc_length] at this
  rw [flatC_at wc_length l i hi j hj]
  exact hu
theorem cols_set {w : World} {g : Nat} {l : List W} (h : ∀ j u, (flatC wc l)[j]? = some u → w.cell? ⟨g, j, none⟩ = some u) (k : Nat) (hk : k < l.length) (f : W → W) (j : Nat) (hj : j < 3) (v : Value) (hf : wc (f l[k]) = (wc l[k]).set j v) :
    ∀ q u, (flatC wc (l.modify k f))[q]? = some u → (w.setCell ⟨g, k * 3 + j, none⟩ v).cell? ⟨g, q, none⟩ = some u := by
  intro q u hu
  have hq : q < (l.modify k f).length * 3 := by
    have := (List.getElem?_eq_some_iff.1 hu).1
    rwa [flatC_length wc_length] at this
  rw [List.length_modify] at hq
  have hi : q / 3 < l.length := by omega
  have hr : q % 3 < 3 := by omega
  have e : q = q / 3 * 3 + q % 3 := by omega
  obtain ⟨i, hi'⟩ : ∃ i, q / 3 = i := ⟨_, rfl⟩
  obtain ⟨r, hr'⟩ : ∃ r, q % 3 = r := ⟨_, rfl⟩
  rw [hi'] at e hi
  rw [hr'] at e hr
  subst e
  clear hi' hr' hq
  rw [flatC_at wc_length _ i (by rw [List.length_modify]; exact hi) r hr, List.getElem_modify] at hu
  by_cases hik : k = i
  · subst hik
    rw [if_pos rfl, hf, List.getElem?_set] at hu
    by_cases hjr : j = r
    · subst hjr
      have hx : (flatC wc l)[k * 3 + j]? = some ((wc l[k])[j]'(by rw [wc_length]; exact hj)) := by
        rw [flatC_at wc_length l k hk j hj, List.getElem?_eq_getElem]
      rw [World.cell?_setCell_same _ _ _ (h _ _ hx)]
      rw [if_pos rfl, if_pos (by rw [wc_length]; exact hj)] at hu
      exact hu
    · rw [if_neg hjr, ← flatC_at wc_length l k hk r hr] at hu
      rw [World.cell?_setCell_other _ _ _ _ (by intro e; simp only [Addr.mk.injEq] at e; omega)]
      exact h _ _ hu
  · rw [if_neg hik, ← flatC_at wc_length l i hi r hr] at hu
    rw [World.cell?_setCell_other _ _ _ _ (by intro e; simp only [Addr.mk.injEq] at e; omega)]
    exact h _ _ hu
end Go.Proofs.Ytkibacolnagkcaa.Code
/-
  The document's Widen of columns.
-/
namespace Go.Proofs.Ytkibacolnagkcaa.Code
open Go.ChangeShapes Go.WideShapes Go.ChangeAt Go.RowKit Val Elems
set_option linter.unusedVariables false
set_option linter.unusedSimpArgs false
end Go.Proofs.Ytkibacolnagkcaa.Code
/-
  The document's text of columns.
-/
namespace Go.Proofs.Ytkibacolnagkcaa.Code
open Go.ChangeShapes Go.WideShapes Go.ChangeAt Go.RowKit Val Elems
set_option linter.unusedVariables false
set_option linter.unusedSimpArgs false
def colT (c : W) : List UInt8 := c.2.1 ++ [32] ++ (nameS c.2.2).data.toList
def showC (l : List W) : List UInt8 := Lib.join (l.map colT) [44, 32]
theorem showC_one (c : W) : showC [c] = colT c := by
  unfold showC
  rw [List.map_cons, List.map_nil, Lib.join_one]
theorem showC_snoc (l : List W) (c : W) (h : 0 < l.length) : showC (l ++ [c]) = showC l ++ ([44, 32] ++ colT c) := by
  unfold showC
  cases l with
  | nil => simp at h
  | cons v l =>
    rw [List.cons_append, List.map_cons, List.map_cons, Lib.join_cons, Lib.join_cons, List.map_append]
    have e := Lib.joinTail_take_succ [44, 32] ((l ++ [c]).map colT) l.length (colT c) (by simp)
    rw [show ((l ++ [c]).map colT).take (l.length + 1) = (l ++ [c]).map colT by rw [List.take_of_length_le (by simp)],
      show ((l ++ [c]).map colT).take l.length = l.map colT by rw [← List.map_take]; simp] at e
    rw [← List.map_append, e]
    simp
/-- one column more, shown -/
theorem showC_step (l : List W) (k : Nat) (h : k < l.length) : (k = 0 → showC (l.take (k + 1)) = showC (l.take k) ++ l[k].2.1 ++ [32] ++ (nameS l[k].2.2).data.toList) ∧ (0 < k → showC (l.take (k + 1)) = showC (l.take k) ++ [44, 32] ++ l[k].2.1 ++ [32] ++ (nameS l[k].2.2).data.toList) := by
  rw [List.take_succ_eq_append_getElem h]
  refine ⟨fun h0 => ?_, fun h0 => ?_⟩
  · subst h0
    rw [List.take_zero, List.nil_append, showC_one]
    rfl
  · rw [showC_snoc _ _ (by rw [List.length_take]; omega)]
    unfold colT
    simp only [List.append_assoc]
theorem nameS_le (k : Int) : (nameS k).size ≤ 5 := by
  unfold nameS
  repeat' split
  all_goals decide
end Go.Proofs.Ytkibacolnagkcaa.Code
/-
  The program's column and Name of package schema, and the table's cell that words want.
-/
namespace Go.Proofs.Ytkibacolnagkcaa.Code
open Go.ChangeShapes Go.WideShapes Go.ChangeAt Go.RowKit Val Elems
set_option linter.unusedVariables false
set_option linter.unusedSimpArgs false
/-- the cell of Go's library that lex.Words reads -/
def MGlob (m : Int) (w : World) : Prop := w.cell? ⟨0, 0, none⟩ = some (.int .i64 m)
theorem MGlob.next {m : Int} {w w' : World} (h : MGlob m w) (hb : Below w.heap.size w w') : MGlob m w' :=
  (hb.cell (p := ⟨0, 0, none⟩) (World.block_lt_of_cell? _ _ h)).trans h
theorem fit_null (k : Int) : fitV1 0 0 ⟨#[]⟩ k = columnB k := by
  unfold fitV1
  rw [show rightB 0 0 ⟨#[]⟩ = true by decide +kernel]
  simp
def oneN (s : List UInt8) : List W → Bool
  | [w] => w.1 == 0 && (w.2.1 == s && w.2.2 == 0)
  | _ => false
theorem name_words2 {s : List UInt8} (h : ownN s = false) : nameC s = oneN s (wL s) := by
  rw [name_words h]
  unfold wL
  cases wordsL s 0 with
  | error j => rfl
  | ok l =>
    rcases l with _ | ⟨a, _ | ⟨b, l⟩⟩ <;> rfl
end Go.Proofs.Ytkibacolnagkcaa.Code
/-
  The program's first, Find, refuses, Right of columns: a list is gone through with a function that is handed in.
-/
namespace Go.Proofs.Ytkibacolnagkcaa.Code
open Go.ChangeShapes Go.WideShapes Go.ChangeAt Go.RowKit Val Elems
set_option linter.unusedVariables false
set_option linter.unusedSimpArgs false
/-- what a function that is handed in tells of any column -/
def AskC (fn : Nat) (cps : Array Value) (p : W → Bool) (Pre : World → Prop) : Prop :=
  ∀ (n k : Int) (s : ByteArray) (w : World), Pre w → Calls Try.prog fn (#[.agg #[.int .i64 n, .string s, .int .i64 k]] ++ cps) w fun e w' => e = .returned (.bool (p (n, s.data.toList, k))) ∧ Below w.heap.size w w'
set_option maxHeartbeats 4000000 in
set_option maxRecDepth 100000 in
theorem sfirst_any (fn : Nat) (en : ∀ args w, (callFunc fn args).run Try.prog w = .ok (.enter fn args) w) (cps : Array Value) (p : W → Bool) (A : Option Addr) (cap : Nat) (l : List W) (w : World) (hv : At wc 3 w w.heap.size A l) (hl : l.length ≤ 4194304) (ha : AskC fn cps p (fun w' => Below w.heap.size w w')) :
    Calls Try.prog 44 #[.slice A l.length cap, .func (.func fn) #[] cps] w fun e w' => e = .returned (.tuple #[.int .i64 (firstI p l), .bool (firstB p l)]) ∧ Below w.heap.size w w' := by
  have HV := Lib.hid hv
  have HA := Lib.hid ha
  clear hv ha
  go_enter Try.func44, Try.ntmps44
  go_wp2
  go_loopw [9] (fun t wr => ∃ i : Nat, i ≤ l.length ∧ t = .int .i64 i ∧ (∀ j (hj : j < l.length), j < i → p l[j] = false) ∧ Below w.heap.size w wr) (fun t _ => l.length - (intOf t).toNat)
  case atStart => exact ⟨0, by omega, rfl, fun j _ h => absurd h (by omega), Below.refl _ _⟩
  case round =>
    obtain ⟨i, hi, rfl, hno, hbel⟩ := hrel
    have HL := Lib.hid hbel
    have HNO := Lib.hid hno
    have VA := Lib.hid (HV.out.below hbel)
    clear hbel hno
    by_cases hil : i < l.length
    · obtain ⟨ad, rfl, ga, c0, c1, c2⟩ := at_word VA.out i hil
      have HF := Lib.hid (first_at (p := p) hil)
      have HN2 := Lib.hid (fun (h : p l[i] = false) => show ∀ j (hj : j < l.length), j < i + 1 → p l[j] = false from fun j hj h2 => if e : j = i then by subst e; exact h else HNO.out j hj (by omega))
      obtain ⟨x, hx⟩ : ∃ x, l[i] = x := ⟨_, rfl⟩
      rw [hx] at c0 c1 c2 HF HN2
      clear hx
      obtain ⟨n, t, k⟩ := x
      dsimp only at c0 c1 c2
      obtain ⟨T, hT⟩ : ∃ T : ByteArray, ⟨t.toArray⟩ = T := ⟨_, rfl⟩
      have hTl : T.data.toList = t := by rw [← hT]
      rw [hT] at c1
      have HC := Lib.hid (HA.out n k T wr HL.out)
      rw [hTl] at HC
      obtain ⟨b, hb⟩ : ∃ b, p (n, t, k) = b := ⟨_, rfl⟩
      rw [hb] at HC HF HN2
      clear hT hTl hb
      go_wp2_with fail
      refine HC.out.mono ?_
      rintro e w1 ⟨rfl, hb1⟩
      have L1 := Lib.hid (HL.out.trans (hb1.mono HL.out.size))
      clear hb1 HC c0 c1 c2
      cases b
      · go_wp2
        go_roundw
        case rel => exact ⟨i + 1, by omega, by go_num, HN2.out (by first | exact rfl | exact trivial), L1.out⟩
        case measure => simp [intOf]; omega
      · have HI := Lib.hid (HF.out (by first | exact rfl | exact trivial) (fun j hj h => HNO.out j hj h))
        go_wp2
        go_ret2
        exact ⟨by rw [HI.out.1, HI.out.2]; rfl, L1.out⟩
    · obtain rfl : i = l.length := by omega
      have HI := Lib.hid (first_no (p := p) (fun j hj => HNO.out j hj hj))
      go_wp2
      go_ret2
      exact ⟨by rw [HI.out.1, HI.out.2]; rfl, HL.out⟩
set_option maxHeartbeats 4000000 in
set_option maxRecDepth 100000 in
theorem findAsk_any (q : ByteArray) (g : Nat) (w0 : World) (hq : w0.cell? ⟨g, 0, none⟩ = some (.string q)) (hg : g < w0.heap.size) : AskC 45 #[.pointer (some ⟨g, 0, none⟩)] (fun c => c.2.1 == q.data.toList) (fun w' => Below w0.heap.size w0 w') := by
  intro n k s w hb
  have c0 := (hb.cell (p := ⟨g, 0, none⟩) hg).trans hq
  have hgw : g < w.heap.size := Nat.lt_of_lt_of_le hg hb.size
  have HB := Lib.hid (below_alloc w (.cells #[.int .i64 n, .string s, .int .i64 k] 48))
  obtain ⟨b, hbe⟩ : ∃ b, (s.toList == q.toList) = b := ⟨_, rfl⟩
  have HE := Lib.hid (show (s.data.toList == q.data.toList) = b by rw [← hbe, ByteArray.toList_eq, ByteArray.toList_eq])
  dsimp only
  rw [HE.out]
  have e0 : ∀ o, (w.alloc o).cell? ⟨g, 0, none⟩ = some (.string q) := fun o => (World.cell?_alloc_old w _ _ (Nat.ne_of_lt hgw)).trans c0
  clear hb hq c0
  go_enter Try.func45, Try.ntmps45
  go_wp2
  go_ret
  exact ⟨by simp, HB.out⟩
/-- where a name is, and whether it is there -/
def FindPost (w : World) (z : Int) (e : Ending) (w' : World) : Prop := e = .returned (.tuple #[.int .i64 (max z 0), .bool (decide (0 ≤ z))]) ∧ Below w.heap.size w w'
set_option maxHeartbeats 4000000 in
set_option maxRecDepth 100000 in
theorem sfind_any (A : Option Addr) (cap : Nat) (l : List W) (s : ByteArray) (w : World) (hv : At wc 3 w w.heap.size A l) (hl : l.length ≤ 4194304) :
    Calls Try.prog 31 #[.slice A l.length cap, .string s] w (FindPost w (findZ l s.data.toList)) := by
  unfold FindPost
  rw [(findZ_first l s.data.toList).1, (findZ_first l s.data.toList).2]
  obtain ⟨o, ho⟩ : ∃ o, Obj.cells #[Value.string s] 9 = o := ⟨_, rfl⟩
  have c0 : (w.alloc o).cell? ⟨w.heap.size, 0, none⟩ = some (.string s) := by rw [← ho]; simp
  have HB := Lib.hid (below_alloc w o)
  have HF := Lib.hid (sfirst_any 45 (enters_of Try.func45 (by kernel_rfl) rfl) #[.pointer (some ⟨w.heap.size, 0, none⟩)] (fun c => c.2.1 == s.data.toList) A cap l (w.alloc o) ((hv.below HB.out).more HB.out.size) hl (findAsk_any s w.heap.size (w.alloc o) c0 (by simp)))
  obtain ⟨i, hi⟩ : ∃ i, firstI (fun c => c.2.1 == s.data.toList) l = i := ⟨_, rfl⟩
  obtain ⟨b, hb⟩ : ∃ b, firstB (fun c => c.2.1 == s.data.toList) l = b := ⟨_, rfl⟩
  rw [hi, hb] at HF
  rw [hi, hb]
  rw [← ho] at HF HB
  clear hi hb c0 hv ho o
  go_enter Try.func31, Try.ntmps31
  go_wp2_with fail
  refine HF.out.mono ?_
  rintro e w1 ⟨rfl, hb1⟩
  have L1 := Lib.hid (HB.out.trans (hb1.mono HB.out.size))
  clear hb1
  go_wp2
  go_ret2
  exact ⟨rfl, L1.out⟩
end Go.Proofs.Ytkibacolnagkcaa.Code
/-
  The program's refuses and Right of columns.
-/
namespace Go.Proofs.Ytkibacolnagkcaa.Code
open Go.ChangeShapes Go.WideShapes Go.ChangeAt Go.RowKit Val Elems
set_option linter.unusedVariables false
set_option linter.unusedSimpArgs false
theorem ref_is (l : List W) (n k : Int) (s : List UInt8) : refC l (n, s, k) = if (nameC s && (columnB k && (decide (1 ≤ n) && !firstB (fun x => x.1 == n) l))) = false then 1 else if decide (0 ≤ findZ l s) = true then 122 else if 12 ≤ l.length then 62 else 0 := by
  rw [known_first]
  unfold refC
  have : (findC l s).isSome = decide (0 ≤ findZ l s) := by
    unfold findZ
    cases findC l s with
    | none => rfl
    | some k => simp
  rw [← this]
end Go.Proofs.Ytkibacolnagkcaa.Code
