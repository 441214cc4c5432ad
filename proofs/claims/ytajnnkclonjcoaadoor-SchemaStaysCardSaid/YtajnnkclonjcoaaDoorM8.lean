/-
  Contracts of the document's Wider and Name of kinds, over the texts of rows.
-/
import Derived.Test.YtajnnkclonjcoaaDoorM7
import Derived.Test.YtajnnkclonjcoaaDoorM1
import Derived.Test.YtajnnkclonjcoaaDoorM3
import Derived.Deep.QuietTactic
namespace Go.Proofs.YtajnnkclonjcoaaDoor.Val
open Go.ChangeShapes Go.WideShapes Go.ChangeAt Go.RowKit
set_option linter.unusedVariables false
theorem kinds (k : Int) : k = 0 ∨ k = 1 ∨ k = 2 ∨ k = 3 ∨ k = 4 ∨ ((k == 0) = false ∧ (k == 1) = false ∧ (k == 2) = false ∧ (k == 3) = false ∧ (k == 4) = false) := by
  by_cases h0 : k = 0; · exact Or.inl h0
  by_cases h1 : k = 1; · exact Or.inr (Or.inl h1)
  by_cases h2 : k = 2; · exact Or.inr (Or.inr (Or.inl h2))
  by_cases h3 : k = 3; · exact Or.inr (Or.inr (Or.inr (Or.inl h3)))
  by_cases h4 : k = 4; · exact Or.inr (Or.inr (Or.inr (Or.inr (Or.inl h4))))
  exact Or.inr (Or.inr (Or.inr (Or.inr (Or.inr ⟨by simpa using h0, by simpa using h1, by simpa using h2, by simpa using h3, by simpa using h4⟩))))
set_option maxHeartbeats 1000000 in
theorem rwider_any (k t : Int) (w : World) :
    Calls Tryd.prog 51 #[.int .i64 k, .int .i64 t] w fun e w' => e = .returned (.bool (widerB k t)) ∧ w = w' := by
  by_cases h : k = t
  · subst h
    by_cases h1 : 0 ≤ k
    all_goals
      go_enter Tryd.func51, Tryd.ntmps51
      go_wp2
      go_ret
      exact ⟨retB (by unfold widerB; simp [h1]; try omega), rfl⟩
  have e : (k == t) = false := by simpa using h
  by_cases h0 : t = 0
  · subst h0
    by_cases h1 : 0 ≤ k
    all_goals
      go_enter Tryd.func51, Tryd.ntmps51
      go_wp2
      go_ret
      exact ⟨retB (by unfold widerB; simp [h1]; try omega), rfl⟩
  have e0 : (t == 0) = false := by simpa using h0
  by_cases h1 : 1 ≤ t
  · by_cases h2 : t < k
    all_goals
      go_enter Tryd.func51, Tryd.ntmps51
      go_wp2
      go_ret
      exact ⟨retB (by unfold widerB; simp [h, h0, h1, h2]; try omega), rfl⟩
  · go_enter Tryd.func51, Tryd.ntmps51
    go_wp2
    go_ret
    exact ⟨retB (by unfold widerB; simp [h, h0]; omega), rfl⟩
theorem rname_any (k : Int) (w : World) :
    Calls Tryd.prog 36 #[.int .i64 k] w fun e w' => e = .returned (.string (nameS k)) ∧ w = w' := by
  rcases kinds k with rfl | rfl | rfl | rfl | rfl | ⟨k0, k1, k2, k3, k4⟩
  all_goals
    go_enter Tryd.func36, Tryd.ntmps36
    go_wp2
    go_ret
    exact ⟨by unfold nameS; simp_all, rfl⟩
end Go.Proofs.YtajnnkclonjcoaaDoor.Val
/-
  The document's Name, column, Find, Kinds, Alike, Same of columns, and the law's Small and kinds.
-/
namespace Go.Proofs.YtajnnkclonjcoaaDoor.Code
open Go.ChangeShapes Go.WideShapes Go.ChangeAt Go.RowKit Val Elems
set_option linter.unusedVariables false
set_option linter.unusedSimpArgs false
theorem own_n (s : ByteArray) : ownB s.toList = ownN s.data.toList := by rw [ByteArray.toList_eq]; rfl
theorem list_one {α : Type} (l : List α) : l = [] ∨ (∃ a, l = [a]) ∨ 2 ≤ l.length := by
  match l with
  | [] => exact .inl rfl
  | [a] => exact .inr (.inl ⟨a, rfl⟩)
  | a :: b :: l => exact .inr (.inr (by simp))
/-- may a text be a name, by its words -/
theorem name_is (s : List UInt8) : nameC s = (wE s == 0 && (decide ((wL s).length = 1) && ((wL s).all fun w => w.1 == 0 && (w.2.1 == s && !ownN s)))) := by
  unfold nameC wE wL
  cases h : wordsL s 0 with
  | error j => rfl
  | ok l =>
    rcases list_one l with rfl | ⟨a, rfl⟩ | h2
    · rfl
    · simp
    · match l, h2 with
      | a :: b :: l, _ => simp
set_option maxHeartbeats 4000000 in
set_option maxRecDepth 100000 in
theorem rname_any (s : ByteArray) (w : World) (hs : s.size ≤ 4194304) :
    Calls Tryd.prog 20 #[.string s] w fun e w' => e = .returned (.bool (nameC s.data.toList)) ∧ Below w.heap.size w w' := by
  have HW := Lib.hid (rwords_any s w hs)
  have HO := Lib.hid (fun w' => rown_any s w')
  rw [name_is]
  unfold WordsPost at HW
  obtain ⟨l, hl⟩ : ∃ l, wL s.data.toList = l := ⟨_, rfl⟩
  obtain ⟨q, hq⟩ : ∃ q, wE s.data.toList = q := ⟨_, rfl⟩
  obtain ⟨p, hp⟩ : ∃ p, wP s.data.toList = p := ⟨_, rfl⟩
  rw [own_n] at HO
  obtain ⟨o, ho⟩ : ∃ o, ownN s.data.toList = o := ⟨_, rfl⟩
  rw [hl, hq, hp] at HW
  rw [hl, hq, ho]
  rw [ho] at HO
  obtain ⟨R, hR⟩ : ∃ R : Bool, (q == 0 && (decide (l.length = 1) && (l.all fun w => w.1 == 0 && (w.2.1 == s.data.toList && !o)))) = R := ⟨_, rfl⟩
  rw [hR]
  have HR := Lib.hid hR
  clear hl hq hp ho hR
  go_enter Tryd.func20, Tryd.ntmps20
  go_wp2_with fail
  refine HW.out.mono ?_
  rintro e w1 ⟨A, cap, rfl, hat, hb⟩
  have B1 := Lib.hid hb
  have AT := Lib.hid hat
  clear hb hat
  go_wp2_with fail
  refine (HO.out _).mono ?_
  rintro e w1' ⟨rfl, rfl⟩
  by_cases hq0 : q = 0
  case neg =>
    have e1 : (q == 0) = false := by simpa using hq0
    have hr : R = false := by rw [← HR.out, e1]; rfl
    subst hr
    clear hq0
    go_wp2
    go_ret
    exact ⟨by simp, B1.out⟩
  subst hq0
  rcases list_one l with rfl | ⟨a, rfl⟩ | h2
  · have hr : R = false := by rw [← HR.out]; rfl
    subst hr
    go_wp2
    go_ret
    exact ⟨by simp, B1.out⟩
  · obtain ⟨k, t, pos⟩ := a
    obtain ⟨ad, rfl, hab, c0, c1, c2⟩ := at_word AT.out 0 (by simp)
    have ea : ad.add (0 * 3) = ad := by simp [Addr.add]
    rw [ea] at c0 c1 c2
    simp only [List.getElem_cons_zero] at c0 c1 c2
    have hr : R = (k == 0 && (t == s.data.toList && !o)) := by rw [← HR.out]; simp
    by_cases hk : k = 0
    case neg =>
      have e2 : (k == 0) = false := by simpa using hk
      have hr2 : R = false := by rw [hr, e2]; rfl
      subst hr2
      clear hk hr
      go_wp2
      go_ret
      exact ⟨by simp, B1.out⟩
    subst hk
    by_cases ht : t = s.data.toList
    case neg =>
      obtain ⟨T, hT⟩ : ∃ T : ByteArray, ⟨t.toArray⟩ = T := ⟨_, rfl⟩
      have e3 : (T.toList == s.toList) = false := by rw [ByteArray.toList_eq, ByteArray.toList_eq, ← hT]; simpa using ht
      have hr2 : R = false := by rw [hr]; simp [ht]
      rw [hT] at c1
      subst hr2
      clear ht hr hT
      go_wp2
      go_ret
      exact ⟨by simp, B1.out⟩
    subst ht
    rw [Lib.mk_data] at c1
    have hr2 : R = !o := by rw [hr]; simp
    subst hr2
    clear hr
    go_wp2
    go_ret
    exact ⟨by simp, B1.out⟩
  · have hr : R = false := by
      rw [← HR.out]
      have : decide (l.length = 1) = false := by simp; omega
      rw [this]
      rfl
    obtain ⟨N, hN⟩ : ∃ N, l.length = N := ⟨_, rfl⟩
    rw [hN] at h2
    have e4 : ((N : Int) == 1) = false := by simp; omega
    subst hr
    rw [hN]
    clear hN
    go_wp2
    go_ret
    exact ⟨by simp, B1.out⟩
end Go.Proofs.YtajnnkclonjcoaaDoor.Code
/-
  The document's column, Find, Alike, Same of columns.
-/
namespace Go.Proofs.YtajnnkclonjcoaaDoor.Code
open Go.ChangeShapes Go.WideShapes Go.ChangeAt Go.RowKit Val Elems
set_option linter.unusedVariables false
set_option linter.unusedSimpArgs false
set_option maxHeartbeats 4000000 in
set_option maxRecDepth 100000 in
theorem rcol_any (i k : Int) (s : ByteArray) (w : World) (hs : s.size ≤ 4194304) :
    Calls Tryd.prog 33 #[.agg #[.int .i64 i, .string s, .int .i64 k]] w fun e w' => e = .returned (.bool (colC (i, s.data.toList, k))) ∧ Below w.heap.size w w' := by
  have HN := Lib.hid (fun w' => rname_any s w' hs)
  obtain ⟨n, hn⟩ : ∃ n, nameC s.data.toList = n := ⟨_, rfl⟩
  have HC := Lib.hid (show colC (i, s.data.toList, k) = (n && (columnB k && decide (1 ≤ i))) by unfold colC; rw [← hn])
  rw [HC.out]
  rw [hn] at HN
  obtain ⟨c, hc⟩ : ∃ c, columnB k = c := ⟨_, rfl⟩
  have HK := Lib.hid (fun w' => hc ▸ Val.rcolumn_any k w')
  rw [hc]
  clear HC hn hc
  go_enter Tryd.func33, Tryd.ntmps33
  go_wp2_with fail
  refine (HN.out _).mono ?_
  rintro e w1 ⟨rfl, hb⟩
  have c0 : w1.cell? ⟨w.heap.size, 0, none⟩ = some (.int .i64 i) := (hb.cell (p := ⟨w.heap.size, 0, none⟩) (by simp)).trans (by simp)
  have c2 : w1.cell? ⟨w.heap.size, 2, none⟩ = some (.int .i64 k) := (hb.cell (p := ⟨w.heap.size, 2, none⟩) (by simp)).trans (by simp)
  have B1 := Lib.hid (((Below.refl _ _).alloc (Nat.le_refl _) _).trans (hb.mono (by simp)))
  clear hb
  go_wp2_with fail
  refine (HK.out _).mono ?_
  rintro e w2 ⟨rfl, rfl⟩
  by_cases h1 : 1 ≤ i
  all_goals
    cases n
    all_goals
      cases c
      all_goals
        go_wp2
        go_ret
        exact ⟨by simp [h1], B1.out⟩
set_option maxHeartbeats 4000000 in
set_option maxRecDepth 100000 in
theorem rfind_any (A : Option Addr) (cap : Nat) (l : List W) (s : ByteArray) (w : World) (hv : At wc 3 w w.heap.size A l) (hl : l.length ≤ 4194304) :
    Calls Tryd.prog 9 #[.slice A l.length cap, .string s] w fun e w' => e = .returned (.int .i64 (findZ l s.data.toList)) ∧ Below w.heap.size w w' := by
  have HV := Lib.hid hv
  clear hv
  go_enter Tryd.func9, Tryd.ntmps9
  go_wp2
  go_loopw [5] (fun t wr => ∃ i : Nat, i ≤ l.length ∧ t = .int .i64 i ∧ (∀ j (hj : j < l.length), j < i → l[j].2.1 ≠ s.data.toList) ∧ Below w.heap.size w wr) (fun t _ => l.length - (intOf t).toNat)
  case atStart => exact ⟨0, by omega, rfl, fun j _ h => absurd h (by omega), Below.refl _ _⟩
  case round =>
    obtain ⟨i, hi, rfl, hno, hbel⟩ := hrel
    have HL := Lib.hid hbel
    have HNO := Lib.hid hno
    have VA := Lib.hid (HV.out.below hbel)
    clear hbel hno
    by_cases hil : i < l.length
    · obtain ⟨ad, rfl, ga, c0, c1, c2⟩ := at_word VA.out i hil
      by_cases he : l[i].2.1 = s.data.toList
      · have HF := Lib.hid (show findZ l s.data.toList = i by unfold findZ; rw [find_at hil he fun j hj => HNO.out j (by omega) hj])
        rw [he, Lib.mk_data] at c1
        clear he
        go_wp2
        go_ret
        exact ⟨by rw [HF.out]; rfl, HL.out⟩
      · obtain ⟨T, hT⟩ : ∃ T : ByteArray, ⟨l[i].2.1.toArray⟩ = T := ⟨_, rfl⟩
        have e3 : (T.toList == s.toList) = false := by rw [ByteArray.toList_eq, ByteArray.toList_eq, ← hT]; simpa using he
        rw [hT] at c1
        have HE := Lib.hid he
        clear hT he
        go_wp2
        go_roundw
        case rel => exact ⟨i + 1, by omega, by go_num, fun j hj h => if e : j = i then by subst e; exact HE.out else HNO.out j hj (by omega), HL.out⟩
        case measure => simp [intOf]; omega
    · obtain rfl : i = l.length := by omega
      have HF := Lib.hid (show findZ l s.data.toList = -1 by unfold findZ; rw [find_no]; intro c hc; obtain ⟨j, hj, rfl⟩ := List.getElem_of_mem hc; exact HNO.out j hj hj)
      go_wp2
      go_ret
      exact ⟨by rw [HF.out]; rfl, HL.out⟩
end Go.Proofs.YtajnnkclonjcoaaDoor.Code
/-
  The document's Kinds and Alike of columns, and the law's Small and kinds.
-/
namespace Go.Proofs.YtajnnkclonjcoaaDoor.Code
open Go.ChangeShapes Go.WideShapes Go.ChangeAt Go.RowKit Val Elems
set_option linter.unusedVariables false
set_option linter.unusedSimpArgs false
/-- a kind in one cell -/
def kc (k : Int) : List Value := [.int .i64 k]
theorem kc_length (n : Int) : (kc n).length = 1 := rfl
theorem kc_one (n : Int) : ∀ u ∈ kc n, u.oneCell' = true := by
  intro u hu
  simp [kc] at hu
  subst hu
  rfl
theorem at_kind {w : World} {B : Nat} {A : Option Addr} {l : List Int} (h : At kc 1 w B A l) (i : Nat) (hi : i < l.length) : ∃ ad : Addr, A = some ad ∧ ad.block < B ∧ w.cell? (ad.add (i * 1)) = some (.int .i64 l[i]) := by
  obtain ⟨ad, e, hb, h0⟩ := h i hi
  exact ⟨ad, e, hb, h0 0 _ rfl⟩
theorem kinds_take (l : List W) (i : Nat) (hi : i < l.length) : kindsC (l.take (i + 1)) = kindsC (l.take i) ++ [l[i].2.2] := by
  unfold kindsC
  rw [List.take_succ_eq_append_getElem hi, List.map_append]
  rfl
theorem info_kind : (Tryd.prog.info? 39).map (fun i => (i.zero, i.size, i.bytes)) = some (some (.int .i64 0), 1, 8) := by kernel_rfl
set_option maxHeartbeats 4000000 in
set_option maxRecDepth 100000 in
theorem rkinds_any (A : Option Addr) (cap : Nat) (l : List W) (w : World) (hv : At wc 3 w w.heap.size A l) (hl : l.length ≤ 4194304) :
    Calls Tryd.prog 14 #[.slice A l.length cap] w fun e w' => ∃ (A' : Option Addr) (cap' : Nat), e = .returned (.slice A' l.length cap') ∧ At kc 1 w' w'.heap.size A' (kindsC l) ∧ Below w.heap.size w w' := by
  have HV := Lib.hid hv
  clear hv
  obtain ⟨i0, hi0, hz0, hz1, hz2⟩ := info_parts info_kind
  go_enter Tryd.func14, Tryd.ntmps14
  go_wp2
  go_loopw [3, 4] (fun v t wr => ∃ i : Nat, i ≤ l.length ∧ t = .int .i64 i ∧ wr.ownsRow w.heap.size 39 1 v i (flatC kc (kindsC (l.take i))) ∧ Below w.heap.size w wr) (fun _ t _ => l.length - (intOf t).toNat)
  case atStart => exact ⟨0, by omega, rfl, World.ownsRow_nil _ _ _ _, Below.refl _ _⟩
  case round =>
    obtain ⟨i, hi, rfl, hown, hbel⟩ := hrel
    have hsz := hbel.size
    have HL := Lib.hid hbel
    have HO := Lib.hid hown
    have VA := Lib.hid (HV.out.below hbel)
    clear hbel hown
    by_cases hil : i < l.length
    · obtain ⟨ad, rfl, ga, c0, c1, c2⟩ := at_word VA.out i hil
      have HT := Lib.hid (kinds_take l i hil)
      obtain ⟨k, hk⟩ : ∃ k, l[i].2.2 = k := ⟨_, rfl⟩
      rw [hk] at c2
      rw [hk] at HT
      clear hk
      go_wp2_with (at_builtin; refine wpList_append_at (k := 1) (c := kc) kc_length (by decide) kc_one rfl _ _ 30 rfl w.heap.size 39 i0 _ 8 Tryd.underlying30 hi0 hz0 hz1 hz2 rfl _ i (flatC kc (kindsC (l.take i))) rfl ?c1 (wr.heap.size + 1) (some ⟨wr.heap.size, 0, none⟩) 1 [k] rfl ?c2 ?c3 ?c4 ?c5 ?_)
      case c1 => exact HO.out.alloc _
      case c2 =>
        intro j hj
        match j, hj with
        | 0, _ => exact ⟨_, rfl, by simp, fun j u hu => World.news_of_block (heap_alloc_new wr _) _ _ (by simpa [kc] using hu)⟩
      case c3 => unfold maxLen; simp; omega
      case c4 => simp; omega
      case c5 => simp; omega
      intro v9 w9 hown9 hgrow9
      have B9 := Lib.hid ((HL.out.alloc hsz _).grown hgrow9 (by simp; omega) (fun j hj => (HO.out.lt j hj).1))
      have O9 := Lib.hid (show w9.ownsRow w.heap.size 39 1 v9 (i + 1) (flatC kc (kindsC (l.take (i + 1)))) by rw [HT.out, flatC_append]; simpa [flatC] using hown9)
      clear hown9 hgrow9
      go_wp2
      go_roundw
      case rel => exact ⟨i + 1, by omega, by go_num, O9.out, B9.out⟩
      case measure => simp [intOf]; omega
    · obtain rfl : i = l.length := by omega
      rw [List.take_length] at HO
      have hkl : (kindsC l).length = l.length := List.length_map ..
      obtain ⟨A', cap', rfl, hv'⟩ := own_at (l := kindsC l) kc_length (hkl.symm ▸ HO.out)
      have HV' := Lib.hid hv'
      clear hv'
      go_wp2
      go_ret
      exact ⟨A', cap', by simp [hkl], HV'.out, HL.out⟩
end Go.Proofs.YtajnnkclonjcoaaDoor.Code
/-
  The document's Alike and Same of columns, and the law's Small and kinds.
-/
namespace Go.Proofs.YtajnnkclonjcoaaDoor.Code
open Go.ChangeShapes Go.WideShapes Go.ChangeAt Go.RowKit Val Elems
set_option linter.unusedVariables false
set_option linter.unusedSimpArgs false
theorem alike_iff : ∀ (l m : List W), alikeC l m = true ↔ l.length = m.length ∧ ∀ (i : Nat) (h : i < l.length) (h' : i < m.length), l[i].2.1 = m[i].2.1 ∧ l[i].2.2 = m[i].2.2
  | [], [] => by simp [alikeC]
  | [], b :: m => by simp [alikeC]
  | a :: l, [] => by simp [alikeC]
  | a :: l, b :: m => by
    rw [alikeC, Bool.and_eq_true, Bool.and_eq_true, beq_iff_eq, beq_iff_eq, alike_iff l m]
    constructor
    · rintro ⟨h1, h2, h3⟩
      refine ⟨by simp [h2], fun i h h' => ?_⟩
      cases i with
      | zero => exact h1
      | succ i => exact h3 i (by simpa using h) (by simpa using h')
    · rintro ⟨h1, h2⟩
      refine ⟨h2 0 (by simp) (by simp), by simpa using h1, fun i h h' => ?_⟩
      exact h2 (i + 1) (by simp; omega) (by simp; omega)
theorem alike_no {l m : List W} (h : ¬ (l.length = m.length ∧ ∀ (i : Nat) (h : i < l.length) (h' : i < m.length), l[i].2.1 = m[i].2.1 ∧ l[i].2.2 = m[i].2.2)) : alikeC l m = false := by
  cases e : alikeC l m
  · rfl
  · exact absurd ((alike_iff l m).1 e) h
set_option maxHeartbeats 4000000 in
set_option maxRecDepth 100000 in
theorem ralike_any (A B : Option Addr) (ca cb : Nat) (l m : List W) (w : World) (ha : At wc 3 w w.heap.size A l) (hb : At wc 3 w w.heap.size B m) (hl : l.length ≤ 4194304) (hm : m.length ≤ 4194304) :
    Calls Tryd.prog 18 #[.slice A l.length ca, .slice B m.length cb] w fun e w' => e = .returned (.bool (alikeC l m)) ∧ Below w.heap.size w w' := by
  have HA := Lib.hid ha
  have HB := Lib.hid hb
  clear ha hb
  by_cases hlm : l.length = m.length
  case neg =>
    have h0 : alikeC l m = false := alike_no fun h => hlm h.1
    rw [h0]
    clear h0 HA HB
    obtain ⟨n1, hn1⟩ : ∃ n, l.length = n := ⟨_, rfl⟩
    obtain ⟨n2, hn2⟩ : ∃ n, m.length = n := ⟨_, rfl⟩
    rw [hn1, hn2] at hlm
    rw [hn1, hn2]
    have e1 : ((n1 : Int) == (n2 : Int)) = false := by simp; omega
    clear hl hm hn1 hn2 hlm
    go_enter Tryd.func18, Tryd.ntmps18
    go_wp2
    go_ret
    exact ⟨rfl, Below.refl _ _⟩
  go_enter Tryd.func18, Tryd.ntmps18
  have HLM := Lib.hid hlm
  rw [← hlm]
  clear hlm
  go_wp2
  go_loopw [5] (fun t wr => ∃ i : Nat, i ≤ l.length ∧ t = .int .i64 i ∧ (∀ j (hj : j < l.length) (hj' : j < m.length), j < i → l[j].2.1 = m[j].2.1 ∧ l[j].2.2 = m[j].2.2) ∧ Below w.heap.size w wr) (fun t _ => l.length - (intOf t).toNat)
  case atStart => exact ⟨0, by omega, rfl, fun j _ _ h => absurd h (by omega), Below.refl _ _⟩
  case round =>
    obtain ⟨i, hi, rfl, hyes, hbel⟩ := hrel
    have HL := Lib.hid hbel
    have HY := Lib.hid hyes
    have VA := Lib.hid (HA.out.below hbel)
    have VB := Lib.hid (HB.out.below hbel)
    clear hbel hyes
    by_cases hil : i < l.length
    · have him : i < m.length := by have := HLM.out; omega
      obtain ⟨ad, rfl, ga, c0, c1, c2⟩ := at_word VA.out i hil
      obtain ⟨bd, rfl, gb, d0, d1, d2⟩ := at_word VB.out i him
      by_cases he : l[i].2.1 = m[i].2.1
      · obtain ⟨T, hT⟩ : ∃ T : ByteArray, ⟨l[i].2.1.toArray⟩ = T := ⟨_, rfl⟩
        rw [← he, hT] at d1
        rw [hT] at c1
        have HE := Lib.hid he
        by_cases hk : l[i].2.2 = m[i].2.2
        · have HK := Lib.hid hk
          obtain ⟨k, hk'⟩ : ∃ k, l[i].2.2 = k := ⟨_, rfl⟩
          rw [← hk, hk'] at d2
          rw [hk'] at c2
          clear hT he hk hk' c0 d0
          go_wp2
          go_quiet (fail)
          go_wp2
          go_roundw
          case rel => exact ⟨i + 1, by omega, by go_num, fun j hj hj' h => if e : j = i then by subst e; exact ⟨HE.out, HK.out⟩ else HY.out j hj hj' (by omega), drewN_below HL.out _⟩
          case measure => simp [intOf]; omega
        · have HN := Lib.hid (show alikeC l m = false from alike_no fun h => hk (h.2 i hil him).2)
          have e5 : (l[i].2.2 == m[i].2.2) = false := by simpa using hk
          clear hT he hk c0 d0
          go_wp2
          go_quiet (fail)
          go_wp2
          go_ret
          exact ⟨by rw [HN.out]; rfl, drewN_below HL.out _⟩
      · have HN := Lib.hid (show alikeC l m = false from alike_no fun h => he (h.2 i hil him).1)
        obtain ⟨T, hT⟩ : ∃ T : ByteArray, ⟨l[i].2.1.toArray⟩ = T := ⟨_, rfl⟩
        obtain ⟨S, hS⟩ : ∃ S : ByteArray, ⟨m[i].2.1.toArray⟩ = S := ⟨_, rfl⟩
        have e5 : (T.toList == S.toList) = false := by rw [ByteArray.toList_eq, ByteArray.toList_eq, ← hT, ← hS]; simpa using he
        rw [hT] at c1
        rw [hS] at d1
        clear hT hS he c0 d0
        go_wp2
        go_quiet (fail)
        go_wp2
        go_ret
        exact ⟨by rw [HN.out]; rfl, drewN_below HL.out _⟩
    · obtain rfl : i = l.length := by omega
      have HN := Lib.hid (show alikeC l m = true from (alike_iff l m).2 ⟨HLM.out, fun j h h' => HY.out j h h' h⟩)
      go_wp2
      go_ret
      exact ⟨by rw [HN.out]; rfl, HL.out⟩
end Go.Proofs.YtajnnkclonjcoaaDoor.Code
/-
  The law's Small and kinds, and the document's Same of columns.
-/
namespace Go.Proofs.YtajnnkclonjcoaaDoor.Code
open Go.ChangeShapes Go.WideShapes Go.ChangeAt Go.RowKit Val Elems
set_option linter.unusedVariables false
set_option linter.unusedSimpArgs false
def smallC (l : List W) : Bool := decide (l.length ≤ 20) && l.all fun c => decide (c.2.1.length ≤ 100)
theorem small_no {l : List W} {i : Nat} (hi : i < l.length) (h : ¬ l[i].2.1.length ≤ 100) : smallC l = false := by
  cases e : smallC l
  · rfl
  · unfold smallC at e
    rw [Bool.and_eq_true, List.all_eq_true] at e
    have := e.2 l[i] (List.getElem_mem hi)
    simp at this
    omega
theorem small_yes {l : List W} (hl : l.length ≤ 20) (h : ∀ j (hj : j < l.length), l[j].2.1.length ≤ 100) : smallC l = true := by
  unfold smallC
  rw [Bool.and_eq_true, List.all_eq_true]
  refine ⟨by simpa using hl, fun c hc => ?_⟩
  obtain ⟨j, hj, rfl⟩ := List.getElem_of_mem hc
  simpa using h j hj
theorem small_long {l : List W} (hl : 20 < l.length) : smallC l = false := by
  unfold smallC
  have : decide (l.length ≤ 20) = false := by simp; omega
  rw [this, Bool.false_and]
set_option maxHeartbeats 4000000 in
set_option maxRecDepth 100000 in
theorem small_any (A : Option Addr) (cap : Nat) (l : List W) (w : World) (hv : At wc 3 w w.heap.size A l) (hl : l.length ≤ maxLen) :
    Calls Tryd.prog 6 #[.slice A l.length cap] w fun e w' => e = .returned (.bool (smallC l)) ∧ Below w.heap.size w w' := by
  have HV := Lib.hid hv
  have hm : (l.length : Int) ≤ 9223372036854775807 := by unfold maxLen at hl; omega
  clear hv hl
  go_enter Tryd.func6, Tryd.ntmps6
  go_wp2
  go_loopw [3] (fun t wr => ∃ i : Nat, i ≤ l.length ∧ i ≤ 21 ∧ t = .int .i64 i ∧ (∀ j (hj : j < l.length), j < i → l[j].2.1.length ≤ 100) ∧ Below w.heap.size w wr) (fun t _ => 21 - (intOf t).toNat)
  case atStart => exact ⟨0, by omega, by omega, rfl, fun j _ h => absurd h (by omega), Below.refl _ _⟩
  case round =>
    obtain ⟨i, hi, hi2, rfl, hyes, hbel⟩ := hrel
    have HL := Lib.hid hbel
    have HY := Lib.hid hyes
    have VA := Lib.hid (HV.out.below hbel)
    clear hbel hyes
    by_cases hil : i < l.length
    · by_cases h20 : i ≤ 20
      · obtain ⟨ad, rfl, ga, c0, c1, c2⟩ := at_word VA.out i hil
        obtain ⟨T, hT⟩ : ∃ T : ByteArray, ⟨l[i].2.1.toArray⟩ = T := ⟨_, rfl⟩
        have hsz : T.size = l[i].2.1.length := by rw [← hT]; simp [ByteArray.size]
        rw [hT] at c1
        clear hT
        by_cases h1 : T.size ≤ 100
        · have HH := Lib.hid h1
          have HS := Lib.hid hsz
          clear hsz
          go_wp2
          go_roundw
          case rel => exact ⟨i + 1, by omega, by omega, by go_num, fun j hj h => if e : j = i then by subst e; have := HS.out; have := HH.out; omega else HY.out j hj (by omega), HL.out⟩
          case measure => simp [intOf]; omega
        · have HN := Lib.hid (show smallC l = false from small_no hil (by omega))
          clear hsz
          go_wp2
          go_ret
          exact ⟨by rw [HN.out]; rfl, HL.out⟩
      · have HN := Lib.hid (show smallC l = false from small_long (by omega))
        go_wp2
        go_ret
        refine ⟨?_, HL.out⟩
        rw [HN.out]
        show Ending.returned (.bool (decide ((l.length : Int) ≤ 20))) = _
        rw [decide_eq_false (by omega)]
    · obtain rfl : i = l.length := by omega
      by_cases h20 : l.length ≤ 20
      · have HN := Lib.hid (show smallC l = true from small_yes h20 fun j h => HY.out j h h)
        go_wp2
        go_ret
        refine ⟨?_, HL.out⟩
        rw [HN.out]
        show Ending.returned (.bool (decide ((l.length : Int) ≤ 20))) = _
        rw [decide_eq_true (by omega)]
      · have HN := Lib.hid (show smallC l = false from small_long (by omega))
        go_wp2
        go_ret
        refine ⟨?_, HL.out⟩
        rw [HN.out]
        show Ending.returned (.bool (decide ((l.length : Int) ≤ 20))) = _
        rw [decide_eq_false (by omega)]
set_option maxHeartbeats 4000000 in
set_option maxRecDepth 100000 in
/-- two lists of the same kinds are one -/
theorem kinds_same (A B : Option Addr) (ca cb : Nat) (l : List Int) (w : World) (ha : At kc 1 w w.heap.size A l) (hb : At kc 1 w w.heap.size B l) (hl : l.length ≤ 4194304) :
    Calls Tryd.prog 12 #[.slice A l.length ca, .slice B l.length cb] w fun e w' => e = .returned (.bool true) ∧ Below w.heap.size w w' := by
  have HA := Lib.hid ha
  have HB := Lib.hid hb
  clear ha hb
  go_enter Tryd.func12, Tryd.ntmps12
  go_wp2
  go_loopw [5] (fun t wr => ∃ i : Nat, i ≤ l.length ∧ t = .int .i64 i ∧ Below w.heap.size w wr) (fun t _ => l.length - (intOf t).toNat)
  case atStart => exact ⟨0, by omega, rfl, Below.refl _ _⟩
  case round =>
    obtain ⟨i, hi, rfl, hbel⟩ := hrel
    have HL := Lib.hid hbel
    have VA := Lib.hid (HA.out.below hbel)
    have VB := Lib.hid (HB.out.below hbel)
    clear hbel
    by_cases hil : i < l.length
    · obtain ⟨ad, rfl, ga, c0⟩ := at_kind VA.out i hil
      obtain ⟨bd, rfl, gb, d0⟩ := at_kind VB.out i hil
      obtain ⟨x, hx⟩ : ∃ x, l[i] = x := ⟨_, rfl⟩
      rw [hx] at c0 d0
      clear hx
      rw [Nat.mul_one] at c0 d0
      go_wp2
      go_quiet (fail)
      go_wp2
      go_roundw
      case rel => exact ⟨i + 1, by omega, by go_num, drewN_below HL.out _⟩
      case measure => simp [intOf]; omega
    · obtain rfl : i = l.length := by omega
      go_wp2
      go_ret
      exact ⟨rfl, HL.out⟩
set_option maxHeartbeats 4000000 in
set_option maxRecDepth 100000 in
/-- two lists of the same columns are one -/
theorem rsame_cols (A B : Option Addr) (ca cb : Nat) (l : List W) (w : World) (ha : At wc 3 w w.heap.size A l) (hb : At wc 3 w w.heap.size B l) (hl : l.length ≤ 4194304) :
    Calls Tryd.prog 29 #[.slice A l.length ca, .slice B l.length cb] w fun e w' => e = .returned (.bool true) ∧ Below w.heap.size w w' := by
  have HA := Lib.hid ha
  have HB := Lib.hid hb
  clear ha hb
  go_enter Tryd.func29, Tryd.ntmps29
  go_wp2
  go_loopw [5] (fun t wr => ∃ i : Nat, i ≤ l.length ∧ t = .int .i64 i ∧ Below w.heap.size w wr) (fun t _ => l.length - (intOf t).toNat)
  case atStart => exact ⟨0, by omega, rfl, Below.refl _ _⟩
  case round =>
    obtain ⟨i, hi, rfl, hbel⟩ := hrel
    have HL := Lib.hid hbel
    have VA := Lib.hid (HA.out.below hbel)
    have VB := Lib.hid (HB.out.below hbel)
    clear hbel
    by_cases hil : i < l.length
    · obtain ⟨ad, rfl, ga, c0, c1, c2⟩ := at_word VA.out i hil
      obtain ⟨bd, rfl, gb, d0, d1, d2⟩ := at_word VB.out i hil
      obtain ⟨x, hx⟩ : ∃ x, l[i] = x := ⟨_, rfl⟩
      rw [hx] at c0 c1 c2 d0 d1 d2
      clear hx
      obtain ⟨k, t, p⟩ := x
      obtain ⟨T, hT⟩ : ∃ T : ByteArray, ⟨t.toArray⟩ = T := ⟨_, rfl⟩
      dsimp only at c0 c1 c2 d0 d1 d2
      rw [hT] at c1 d1
      clear hT
      go_wp2
      go_quiet (fail)
      go_wp2
      go_roundw
      case rel => exact ⟨i + 1, by omega, by go_num, drewN_below HL.out _⟩
      case measure => simp [intOf]; omega
    · obtain rfl : i = l.length := by omega
      go_wp2
      go_ret
      exact ⟨rfl, HL.out⟩
end Go.Proofs.YtajnnkclonjcoaaDoor.Code
/-
  The document's Right of columns.
-/
namespace Go.Proofs.YtajnnkclonjcoaaDoor.Code
open Go.ChangeShapes Go.WideShapes Go.ChangeAt Go.RowKit Val Elems
set_option linter.unusedVariables false
set_option linter.unusedSimpArgs false
theorem apart_all {c : W} {l : List W} {i : Nat} (hi : i ≤ l.length) (h : ∀ j (hj : j < l.length), j < i → l[j].1 ≠ c.1 ∧ l[j].2.1 ≠ c.2.1) : apartC c (l.take i) = true := by
  unfold apartC
  rw [List.all_eq_true]
  intro x hx
  obtain ⟨j, hj, rfl⟩ := List.getElem_of_mem hx
  have hj2 : j < i := by rw [List.length_take] at hj; omega
  obtain ⟨h1, h2⟩ := h j (by omega) hj2
  simp [h1, h2]
theorem apart_none {c : W} {l : List W} {i j : Nat} (hj : j < l.length) (hji : j < i) (h : l[j].1 = c.1 ∨ l[j].2.1 = c.2.1) : apartC c (l.take i) = false := by
  cases e : apartC c (l.take i)
  · rfl
  · unfold apartC at e
    rw [List.all_eq_true] at e
    have hm : l[j] ∈ l.take i := by
      have hl : j < (l.take i).length := by rw [List.length_take]; omega
      have := List.getElem_mem hl
      rwa [List.getElem_take] at this
    have := e _ hm
    rcases h with h | h <;> simp [h] at this
theorem sch_no {l : List W} (i : Nat) (hi : i < l.length) (h : colC l[i] = false ∨ apartC l[i] (l.take i) = false) : schC l = false := by
  have : schL [] (l.take (i + 1)) = false := by
    rw [schL_take l i hi]
    rcases h with h | h <;> simp [h]
  unfold schC
  rw [schL_false _ this, Bool.false_and]
set_option maxHeartbeats 4000000 in
set_option maxRecDepth 100000 in
theorem rright12_any (A : Option Addr) (cap : Nat) (l : List W) (w : World) (hv : At wc 3 w w.heap.size A l) (hl : l.length ≤ 4194304) (hn : ∀ c ∈ l, c.2.1.length ≤ 4194304) :
    Calls Tryd.prog 11 #[.slice A l.length cap] w fun e w' => e = .returned (.bool (schC l)) ∧ Below w.heap.size w w' := by
  have HV := Lib.hid hv
  have HN := Lib.hid hn
  clear hv hn
  go_enter Tryd.func11, Tryd.ntmps11
  go_wp2
  go_loopw [3] (fun t wr => ∃ i : Nat, i ≤ l.length ∧ t = .int .i64 i ∧ schL [] (l.take i) = true ∧ Below w.heap.size w wr) (fun t _ => l.length - (intOf t).toNat)
  case atStart => exact ⟨0, by omega, rfl, rfl, Below.refl _ _⟩
  case round =>
    obtain ⟨i, hi, rfl, hyes, hbel⟩ := hrel
    have hsz := hbel.size
    have HL := Lib.hid hbel
    have HY := Lib.hid hyes
    have VA := Lib.hid (HV.out.below hbel)
    clear hbel hyes
    by_cases hil : i < l.length
    · obtain ⟨ad, rfl, ga, c0, c1, c2⟩ := at_word VA.out i hil
      have hlen := HN.out l[i] (List.getElem_mem hil)
      have HT := Lib.hid (schL_take l i hil)
      have HNO := Lib.hid (fun h => sch_no i hil h)
      obtain ⟨x, hx⟩ : ∃ x, l[i] = x := ⟨_, rfl⟩
      have HX := Lib.hid hx
      rw [hx] at c0 c1 c2 hlen HT HNO
      clear hx
      obtain ⟨n, t, k⟩ := x
      obtain ⟨T, hT⟩ : ∃ T : ByteArray, ⟨t.toArray⟩ = T := ⟨_, rfl⟩
      have hTs : T.size ≤ 4194304 := by rw [← hT]; simpa [ByteArray.size] using hlen
      have hTd : T.data.toList = t := by rw [← hT]
      have HC := Lib.hid (fun w' => rcol_any n k T w' hTs)
      dsimp only at c0 c1 c2
      rw [hT] at c1
      rw [hTd] at HC
      obtain ⟨o, ho⟩ : ∃ o, colC (n, t, k) = o := ⟨_, rfl⟩
      rw [ho] at HC HT HNO
      have HTT := Lib.hid hT
      clear hT hTs hTd ho hlen
      go_wp2_with fail
      refine (HC.out _).mono ?_
      rintro e w1 ⟨rfl, hb⟩
      have L1 := Lib.hid (HL.out.trans (hb.mono hsz))
      have V1 := Lib.hid (VA.out.below (hb.mono (by omega)))
      clear hb c0 c1 c2 HC
      cases o
      · have HF := Lib.hid (HNO.out (.inl rfl))
        go_wp2
        go_ret
        exact ⟨by rw [HF.out]; rfl, L1.out⟩
      go_wp2
      go_loopw [5] (fun t2 w2 => ∃ q : Nat, q ≤ i ∧ t2 = .int .i64 q ∧ (∀ j (hj : j < l.length), j < q → l[j].1 ≠ n ∧ l[j].2.1 ≠ t) ∧ Below w1.heap.size w1 w2) (fun t2 _ => i - (intOf t2).toNat)
      case atStart => exact ⟨0, by omega, rfl, fun j _ h => absurd h (by omega), Below.refl _ _⟩
      case round =>
        obtain ⟨q, hq, rfl, hap, hbel⟩ := hrel
        have H2 := Lib.hid hbel
        have HA := Lib.hid hap
        have V2 := Lib.hid (V1.out.below (hbel.mono (by have := L1.out.size; omega)))
        clear hbel hap
        by_cases hqi : q < i
        · obtain ⟨bd, e0, gb, c0, c1, c2⟩ := at_word V2.out i hil
          obtain rfl := Option.some.inj e0
          rw [HX.out] at c0 c1 c2
          obtain ⟨_, e1, _, d0, d1, d2⟩ := at_word V2.out q (by omega)
          obtain rfl := Option.some.inj e1
          dsimp only at c0 c1 c2
          rw [HTT.out] at c1
          have hql : q < l.length := by omega
          by_cases hid : l[q].1 = n
          · have HF := Lib.hid (HNO.out (.inr (apart_none hql hqi (.inl hid))))
            rw [hid] at d0
            clear e0 e1 hid c2 d2
            go_wp2
            go_quiet (fail)
            go_wp2
            go_ret
            exact ⟨by rw [HF.out]; rfl, (drewN_below (L1.out.trans (H2.out.mono (by have := L1.out.size; omega))) _)⟩
          · have e5 : (l[q].1 == n) = false := by simpa using hid
            by_cases hnm : l[q].2.1 = t
            · have HF := Lib.hid (HNO.out (.inr (apart_none hql hqi (.inr hnm))))
              rw [hnm, HTT.out] at d1
              clear e0 e1 hid hnm c2 d2
              go_wp2
              go_quiet (fail)
              go_wp2
              go_ret
              exact ⟨by rw [HF.out]; rfl, (drewN_below (L1.out.trans (H2.out.mono (by have := L1.out.size; omega))) _)⟩
            · obtain ⟨S, hS⟩ : ∃ S : ByteArray, ⟨l[q].2.1.toArray⟩ = S := ⟨_, rfl⟩
              have e6 : (S.toList == T.toList) = false := by rw [ByteArray.toList_eq, ByteArray.toList_eq, ← HTT.out, ← hS]; simpa using hnm
              rw [hS] at d1
              have HI := Lib.hid hid
              have HM := Lib.hid hnm
              clear e0 e1 hid hnm c2 d2 hS
              go_wp2
              go_quiet (fail)
              go_wp2
              go_roundw
              case rel => exact ⟨q + 1, by omega, by go_num, fun j hj h => if e : j = q then by subst e; exact ⟨HI.out, HM.out⟩ else HA.out j hj (by omega), drewN_below H2.out _⟩
              case measure => simp [intOf]; omega
        · obtain rfl : q = i := by omega
          have HAP := Lib.hid (show apartC (n, t, k) (l.take q) = true from apart_all hi HA.out)
          have HY2 := Lib.hid (show schL [] (l.take (q + 1)) = true by rw [HT.out, HY.out, HAP.out]; rfl)
          go_wp2
          go_roundw
          case rel => exact ⟨q + 1, by omega, by go_num, HY2.out, L1.out.trans (H2.out.mono (by have := L1.out.size; omega))⟩
          case measure => simp [intOf]; omega
    · obtain rfl : i = l.length := by omega
      rw [List.take_length] at HY
      have HF := Lib.hid (show schC l = (decide (1 ≤ l.length) && decide (l.length ≤ 12)) by unfold schC; rw [HY.out, Bool.true_and])
      by_cases h1 : 1 ≤ l.length
      · by_cases h2 : l.length ≤ 12
        · have HG := Lib.hid (show schC l = true by rw [HF.out]; simp [h1, h2])
          go_wp2
          go_ret
          exact ⟨by rw [HG.out]; first | rfl | (simp [h1, h2]; omega), HL.out⟩
        · have HG := Lib.hid (show schC l = false by rw [HF.out]; simp [h2])
          go_wp2
          go_ret
          exact ⟨by rw [HG.out]; first | rfl | (simp [h1, h2]; omega), HL.out⟩
      · have HG := Lib.hid (show schC l = false by rw [HF.out]; simp [h1])
        go_wp2
        go_ret
        exact ⟨by rw [HG.out]; first | rfl | (simp [h1]; done), HL.out⟩
end Go.Proofs.YtajnnkclonjcoaaDoor.Code
