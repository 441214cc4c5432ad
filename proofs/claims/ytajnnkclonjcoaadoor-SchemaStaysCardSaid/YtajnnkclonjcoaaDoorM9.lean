/-
  The document's Add and Drop of columns.
-/
import Derived.Test.YtajnnkclonjcoaaDoorM8
import Derived.Test.YtajnnkclonjcoaaDoorM3
import Derived.Test.YtajnnkclonjcoaaDoorM7
namespace Go.Proofs.YtajnnkclonjcoaaDoor.Code
open Go.ChangeShapes Go.WideShapes Go.ChangeAt Go.RowKit Val Elems
set_option linter.unusedVariables false
set_option linter.unusedSimpArgs false
/-- columns that are told, with an error -/
def ColsPost (w : World) (r : List W × Int) (e : Ending) (w' : World) : Prop := ∃ (A : Option Addr) (cap : Nat), e = .returned (.tuple #[.slice A r.1.length cap, .int .i64 r.2]) ∧ At wc 3 w' w'.heap.size A r.1 ∧ Below w.heap.size w w'
theorem ColsPost.no {w w' : World} (j : Int) (h : Below w.heap.size w w') : ColsPost w ([], j) (.returned (.tuple #[.slice none 0 0, .int .i64 j])) w' := ⟨none, 0, rfl, At.nil _ _ _, h⟩
def oneId (n : Int) (l : List W) : Bool := l.all fun x => x.1 != n
theorem oneId_take (n : Int) (l : List W) (i : Nat) (hi : i < l.length) : oneId n (l.take (i + 1)) = (oneId n (l.take i) && l[i].1 != n) := by
  unfold oneId
  rw [List.take_succ_eq_append_getElem hi, List.all_append]
  simp
theorem findZ_neg {l : List W} {s : List UInt8} (h : findC l s = none) : findZ l s = -1 := by unfold findZ; rw [h]
theorem findZ_pos {l : List W} {s : List UInt8} {k : Nat} (h : findC l s = some k) : findZ l s = k := by unfold findZ; rw [h]
theorem info_col : (Tryd.prog.info? 41).map (fun i => (i.zero, i.size, i.bytes)) = some (some (.agg #[.int .i64 0, .string ByteArray.empty, .int .i64 0]), 3, 32) := by kernel_rfl
set_option maxHeartbeats 4000000 in
set_option maxRecDepth 100000 in
theorem radd_any (A : Option Addr) (cap : Nat) (l : List W) (n k : Int) (s : ByteArray) (w : World) (hv : At wc 3 w w.heap.size A l) (hl : l.length ≤ 4194304) (hs : s.size ≤ 4194304) :
    Calls Tryd.prog 22 #[.slice A l.length cap, .agg #[.int .i64 n, .string s, .int .i64 k]] w (ColsPost w (addC l (n, s.data.toList, k))) := by
  have HV := Lib.hid hv
  clear hv
  have HC := Lib.hid (fun w' => rcol_any n k s w' hs)
  obtain ⟨o, ho⟩ : ∃ o, colC (n, s.data.toList, k) = o := ⟨_, rfl⟩
  obtain ⟨R, hR⟩ : ∃ R, addC l (n, s.data.toList, k) = R := ⟨_, rfl⟩
  have HR := Lib.hid (show (if (o && oneId n l) = false then ([], 1) else if (findC l s.data.toList).isSome = true then ([], 122) else if 12 ≤ l.length then ([], 62) else (l ++ [(n, s.data.toList, k)], 0)) = R by rw [← hR, ← ho]; rfl)
  rw [hR]
  rw [ho] at HC
  clear hR ho
  obtain ⟨i0, hi0, hz0, hz1, hz2⟩ := info_parts info_col
  go_enter Tryd.func22, Tryd.ntmps22
  go_wp2_with fail
  refine (HC.out _).mono ?_
  rintro e w1 ⟨rfl, hb⟩
  have L1 := Lib.hid (((Below.refl _ _).alloc (Nat.le_refl _) _).trans (hb.mono (by simp)))
  have hz := L1.out.size
  have hlt : w.heap.size < w1.heap.size := by have := hb.size; simp at this; omega
  have e0 : w1.cell? ⟨w.heap.size, 0, none⟩ = some (.int .i64 n) := (hb.cell (p := ⟨w.heap.size, 0, none⟩) (by simp)).trans (by simp)
  have e1 : w1.cell? ⟨w.heap.size, 1, none⟩ = some (.string s) := (hb.cell (p := ⟨w.heap.size, 1, none⟩) (by simp)).trans (by simp)
  have e2 : w1.cell? ⟨w.heap.size, 2, none⟩ = some (.int .i64 k) := (hb.cell (p := ⟨w.heap.size, 2, none⟩) (by simp)).trans (by simp)
  have HE := Lib.hid (fun (w' : World) (h : Below w1.heap.size w1 w') => show w'.cell? ⟨w.heap.size, 0, none⟩ = some (.int .i64 n) ∧ w'.cell? ⟨w.heap.size, 1, none⟩ = some (.string s) ∧ w'.cell? ⟨w.heap.size, 2, none⟩ = some (.int .i64 k) from
    ⟨(h.cell (p := ⟨w.heap.size, 0, none⟩) hlt).trans e0, (h.cell (p := ⟨w.heap.size, 1, none⟩) hlt).trans e1, (h.cell (p := ⟨w.heap.size, 2, none⟩) hlt).trans e2⟩)
  have V1 := Lib.hid ((HV.out.below L1.out).more hz)
  clear hb e0 e1 e2 HC HV
  go_wp2
  go_loopw [6, 7] (fun b t wr => ∃ i : Nat, i ≤ l.length ∧ t = .int .i64 i ∧ b = .bool (o && oneId n (l.take i)) ∧ Below w1.heap.size w1 wr) (fun _ t _ => l.length - (intOf t).toNat)
  case atStart => exact ⟨0, by omega, rfl, by simp [oneId], Below.refl _ _⟩
  case round =>
    obtain ⟨i, hi, rfl, rfl, hbel⟩ := hrel
    have H2 := Lib.hid hbel
    have V2 := Lib.hid (V1.out.below hbel)
    obtain ⟨e0, e1, e2⟩ := HE.out _ hbel
    have L2 := Lib.hid (L1.out.trans (hbel.mono hz))
    clear hbel
    by_cases hil : i < l.length
    · obtain ⟨ad, rfl, ga, c0, c1, c2⟩ := at_word V2.out i hil
      have HT := Lib.hid (oneId_take n l i hil)
      obtain ⟨b, hb⟩ : ∃ b, (o && oneId n (l.take i)) = b := ⟨_, rfl⟩
      obtain ⟨x, hx⟩ : ∃ x, l[i].1 = x := ⟨_, rfl⟩
      rw [hb]
      rw [hx] at c0 HT
      have HB := Lib.hid (show (o && oneId n (l.take (i + 1))) = (b && (x != n)) by rw [HT.out, ← Bool.and_assoc, hb])
      clear hb hx c1 c2 e1 e2 HT
      cases b
      · go_wp2
        go_quiet (fail)
        go_wp2
        go_roundw
        case rel => exact ⟨i + 1, by omega, by go_num, by rw [HB.out]; rfl, drewN_below H2.out _⟩
        case measure => simp [intOf]; omega
      · by_cases hxn : x = n
        · subst hxn
          go_wp2
          go_quiet (fail)
          go_wp2
          go_roundw
          case rel => exact ⟨i + 1, by omega, by go_num, by rw [HB.out]; simp, drewN_below H2.out _⟩
          case measure => simp [intOf]; omega
        · have e5 : (x == n) = false := by simpa using hxn
          clear hxn
          go_wp2
          go_quiet (fail)
          go_wp2
          go_roundw
          case rel => exact ⟨i + 1, by omega, by go_num, by rw [HB.out]; simp [e5, bne], drewN_below H2.out _⟩
          case measure => simp [intOf]; omega
    · obtain rfl : i = l.length := by omega
      rw [List.take_length]
      obtain ⟨b, hb⟩ : ∃ b, (o && oneId n l) = b := ⟨_, rfl⟩
      rw [hb] at HR
      rw [hb]
      clear hb
      cases b
      · have hr : R = ([], 1) := by rw [← HR.out]; rfl
        subst hr
        go_wp2
        go_ret2
        exact ColsPost.no _ L2.out
      have z2 := H2.out.size
      have HF := Lib.hid (rfind_any A cap l s wr (V2.out.more z2) hl)
      clear e2
      go_wp2_with fail
      refine HF.out.mono ?_
      rintro e w3 ⟨rfl, hb⟩
      have L3 := Lib.hid (L2.out.trans (hb.mono (by omega)))
      have H3 := Lib.hid (H2.out.trans (hb.mono z2))
      have V3 := Lib.hid (V2.out.below (hb.mono z2))
      clear hb HF e0 e1
      obtain ⟨e0, e1, e2⟩ := HE.out _ H3.out
      have z3 := H3.out.size
      cases hf : findC l s.data.toList with
      | some q =>
        have hr : R = ([], 122) := by rw [← HR.out, hf]; rfl
        have hq := findZ_pos hf
        rw [hq]
        subst hr
        clear hf hq
        go_wp2
        go_ret2
        exact ColsPost.no _ L3.out
      | none =>
        have hq := findZ_neg hf
        rw [hq]
        have HR2 := Lib.hid (show (if 12 ≤ l.length then ([], 62) else (l ++ [(n, s.data.toList, k)], 0)) = R by rw [← HR.out, hf]; rfl)
        clear hf hq
        by_cases h12 : 12 ≤ l.length
        · have hr : R = ([], 62) := by rw [← HR2.out, if_pos h12]
          subst hr
          go_wp2
          go_ret2
          exact ColsPost.no _ L3.out
        have hr : R = (l ++ [(n, s.data.toList, k)], 0) := by rw [← HR2.out, if_neg h12]
        subst hr
        go_wp2_with (at_builtin; refine wpList_append_at (k := 3) (c := wc) wc_length (by decide) wc_one rfl _ _ 22 rfl w.heap.size 41 i0 _ 32 Tryd.underlying22 hi0 hz0 hz1 hz2 rfl (.slice (some ⟨w3.heap.size, 0, none⟩) 0 0) 0 [] rfl ?c0 w1.heap.size A cap l rfl ?c2 ?c3 ?c4 ?c5 ?_)
        case c0 => exact ⟨rfl, .inr ⟨w3.heap.size, 0, #[], rfl, by have := L3.out.size; omega, heap_alloc_new w3 _, Nat.le_refl _, Nat.zero_le _, rfl, rfl⟩⟩
        case c2 => exact V3.out.below ((below_alloc w3 _).mono z3)
        case c3 => unfold maxLen; omega
        case c4 => omega
        case c5 => simp; omega
        intro v4 w4 hown4 hgrow4
        have B4 := Lib.hid (show Below w3.heap.size w3 w4 from (below_alloc w3 _).grown hgrow4 (by simp) (fun j hj => by cases hj; exact Nat.le_refl _))
        have L4 := Lib.hid (L3.out.trans (B4.out.mono L3.out.size))
        have O4 := Lib.hid (show w4.ownsRow w.heap.size 41 3 v4 l.length (flatC wc l) by simpa using hown4)
        clear hown4 hgrow4 e0 e1 e2
        obtain ⟨e0, e1, e2⟩ := HE.out _ (H3.out.trans (B4.out.mono z3))
        go_wp2_with (at_builtin; refine wpList_append_at (k := 3) (c := wc) wc_length (by decide) wc_one rfl _ _ 22 rfl w.heap.size 41 i0 _ 32 Tryd.underlying22 hi0 hz0 hz1 hz2 rfl _ l.length (flatC wc l) rfl ?c1 (w4.heap.size + 1) (some ⟨w4.heap.size, 0, none⟩) 1 [(n, s.data.toList, k)] rfl ?c2 ?c3 ?c4 ?c5 ?_)
        case c1 => exact O4.out.alloc _
        case c2 =>
          intro j hj
          match j, hj with
          | 0, _ => exact ⟨_, rfl, by simp, fun j u hu => World.news_of_block (heap_alloc_new w4 _) _ _ (by simpa [wc, Lib.mk_data] using hu)⟩
        case c3 => unfold maxLen; simp; omega
        case c4 => simp; omega
        case c5 => have := L4.out.size; simp; omega
        intro v5 w5 hown5 hgrow5
        have B5 := Lib.hid ((L4.out.alloc L4.out.size _).grown hgrow5 (by have := L4.out.size; simp; omega) (fun j hj => (O4.out.lt j hj).1))
        have O5 := Lib.hid (show w5.ownsRow w.heap.size 41 3 v5 (l ++ [(n, s.data.toList, k)]).length (flatC wc (l ++ [(n, s.data.toList, k)])) by rw [flatC_snoc]; simpa [flatC] using hown5)
        clear hown5 hgrow5
        obtain ⟨A', cap', rfl, hv'⟩ := own_at wc_length O5.out
        have HV' := Lib.hid hv'
        clear hv' O4 O5 e0 e1 e2
        go_wp2
        go_ret2
        exact ⟨A', cap', rfl, HV'.out, B5.out⟩
end Go.Proofs.YtajnnkclonjcoaaDoor.Code
/-
  The document's Drop of columns.
-/
namespace Go.Proofs.YtajnnkclonjcoaaDoor.Code
open Go.ChangeShapes Go.WideShapes Go.ChangeAt Go.RowKit Val Elems
set_option linter.unusedVariables false
set_option linter.unusedSimpArgs false
theorem drop_take (l : List W) (i k : Nat) (hi : i < l.length) : (l.take (i + 1)).eraseIdx k = if i = k then (l.take i).eraseIdx k else (l.take i).eraseIdx k ++ [l[i]] := by
  have hlen : (l.take i).length = i := by rw [List.length_take]; omega
  rw [List.take_succ_eq_append_getElem hi]
  by_cases h : k < i
  · rw [List.eraseIdx_append_of_lt_length (by omega), if_neg (by omega)]
  · rw [List.eraseIdx_append_of_length_le (by omega), hlen]
    have e : (l.take i).eraseIdx k = l.take i := List.eraseIdx_of_length_le (by omega)
    rw [e]
    by_cases h2 : i = k
    · subst h2
      rw [if_pos rfl, Nat.sub_self]
      simp
    · rw [if_neg h2]
      have e2 : ([l[i]] : List W).eraseIdx (k - i) = [l[i]] := List.eraseIdx_of_length_le (by simp; omega)
      rw [e2]
set_option maxHeartbeats 4000000 in
set_option maxRecDepth 100000 in
theorem rdrop_any (A : Option Addr) (cap : Nat) (l : List W) (s : ByteArray) (w : World) (hv : At wc 3 w w.heap.size A l) (hl : l.length ≤ 4194304) :
    Calls Tryd.prog 24 #[.slice A l.length cap, .string s] w (ColsPost w (dropC l s.data.toList)) := by
  have HV := Lib.hid hv
  have HF := Lib.hid (rfind_any A cap l s w hv hl)
  clear hv
  obtain ⟨R, hR⟩ : ∃ R, dropC l s.data.toList = R := ⟨_, rfl⟩
  rw [hR]
  unfold dropC at hR
  have HR := Lib.hid hR
  clear hR
  obtain ⟨i0, hi0, hz0, hz1, hz2⟩ := info_parts info_col
  go_enter Tryd.func24, Tryd.ntmps24
  go_wp2_with fail
  refine HF.out.mono ?_
  rintro e w1 ⟨rfl, hb⟩
  have L1 := Lib.hid hb
  have V1 := Lib.hid (HV.out.below hb)
  clear hb HF
  cases hf : findC l s.data.toList with
  | none =>
    have hq := findZ_neg hf
    have hr : R = ([], 121) := by rw [← HR.out, hf]
    rw [hq]
    subst hr
    clear hf hq
    go_wp2
    go_ret2
    exact ColsPost.no _ L1.out
  | some k =>
    have hq := findZ_pos hf
    obtain ⟨hk, _, _⟩ := find_some hf
    have HR2 := Lib.hid (show (if l.length = 1 then ([], 191) else (l.eraseIdx k, 0)) = R by rw [← HR.out, hf])
    rw [hq]
    clear hf hq
    by_cases h1 : l.length = 1
    · have hr : R = ([], 191) := by rw [← HR2.out, if_pos h1]
      have e1 : ((l.length : Int) == 1) = true := by rw [h1]; rfl
      subst hr
      go_wp2
      go_ret2
      exact ColsPost.no _ L1.out
    have hr : R = (l.eraseIdx k, 0) := by rw [← HR2.out, if_neg h1]
    have e1 : ((l.length : Int) == 1) = false := by simp; omega
    subst hr
    clear HR HR2
    go_wp2
    go_loopw [7, 8] (fun v t wr => ∃ i : Nat, i ≤ l.length ∧ t = .int .i64 i ∧ wr.ownsRow w.heap.size 41 3 v ((l.take i).eraseIdx k).length (flatC wc ((l.take i).eraseIdx k)) ∧ Below w.heap.size w wr) (fun _ t _ => l.length - (intOf t).toNat)
    case atStart => exact ⟨0, by omega, rfl, World.ownsRow_nil _ _ _ _, L1.out⟩
    case round =>
      obtain ⟨i, hi, rfl, hown, hbel⟩ := hrel
      have hsz := hbel.size
      have HL := Lib.hid hbel
      have HO := Lib.hid hown
      have VA := Lib.hid (HV.out.below hbel)
      clear hbel hown
      by_cases hil : i < l.length
      · have HT := Lib.hid (drop_take l i k hil)
        by_cases hik : i = k
        · subst hik
          have HT2 := Lib.hid (show (l.take (i + 1)).eraseIdx i = (l.take i).eraseIdx i by rw [HT.out, if_pos rfl])
          clear HT
          go_wp2
          go_roundw
          case rel => exact ⟨i + 1, by omega, by go_num, by rw [HT2.out]; exact HO.out, HL.out⟩
          case measure => simp [intOf]; omega
        have e5 : ((i : Int) == (k : Int)) = false := by simp; omega
        obtain ⟨ad, rfl, ga, c0, c1, c2⟩ := at_word VA.out i hil
        have HT2 := Lib.hid (show (l.take (i + 1)).eraseIdx k = (l.take i).eraseIdx k ++ [l[i]] by rw [HT.out, if_neg hik])
        have hle : ((l.take i).eraseIdx k).length ≤ i := by rw [List.length_eraseIdx]; split <;> (rw [List.length_take]; omega)
        obtain ⟨N, hN⟩ : ∃ N, (l.take i).eraseIdx k = N := ⟨_, rfl⟩
        rw [hN] at HT2 HO hle
        obtain ⟨x, hx⟩ : ∃ x, l[i] = x := ⟨_, rfl⟩
        rw [hx] at c0 c1 c2 HT2
        clear hx hN HT hik
        obtain ⟨a, t, p⟩ := x
        obtain ⟨T, hT⟩ : ∃ T : ByteArray, ⟨t.toArray⟩ = T := ⟨_, rfl⟩
        have HW := Lib.hid (show wc (a, t, p) = [.int .i64 a, .string T, .int .i64 p] by unfold wc; rw [← hT])
        dsimp only at c0 c1 c2
        rw [hT] at c1
        clear hT
        go_wp2_with (at_builtin; refine wpList_append_at (k := 3) (c := wc) wc_length (by decide) wc_one rfl _ _ 22 rfl w.heap.size 41 i0 _ 32 Tryd.underlying22 hi0 hz0 hz1 hz2 rfl _ N.length (flatC wc N) rfl ?c1 (wr.heap.size + 1) (some ⟨wr.heap.size, 0, none⟩) 1 [(a, t, p)] rfl ?c2 ?c3 ?c4 ?c5 ?_)
        case c1 => exact HO.out.alloc _
        case c2 =>
          intro j hj
          match j, hj with
          | 0, _ => exact ⟨_, rfl, by simp, fun j u hu => World.news_of_block (heap_alloc_new wr _) _ _ (by rw [← hu]; simp [HW.out])⟩
        case c3 => unfold maxLen; simp; omega
        case c4 => simp; omega
        case c5 => simp; omega
        intro v9 w9 hown9 hgrow9
        have B9 := Lib.hid ((HL.out.alloc hsz _).grown hgrow9 (by simp; omega) (fun j hj => (HO.out.lt j hj).1))
        have O9 := Lib.hid (show w9.ownsRow w.heap.size 41 3 v9 ((l.take (i + 1)).eraseIdx k).length (flatC wc ((l.take (i + 1)).eraseIdx k)) by rw [HT2.out, flatC_append]; simpa [flatC] using hown9)
        clear hown9 hgrow9
        go_wp2
        go_roundw
        case rel => exact ⟨i + 1, by omega, by go_num, O9.out, B9.out⟩
        case measure => simp [intOf]; omega
      · obtain rfl : i = l.length := by omega
        rw [List.take_length] at HO
        obtain ⟨A', cap', rfl, hv'⟩ := own_at wc_length HO.out
        have HV' := Lib.hid hv'
        clear hv'
        go_wp2
        go_ret2
        exact ⟨A', cap', rfl, HV'.out, HL.out⟩
end Go.Proofs.YtajnnkclonjcoaaDoor.Code
/-
  The document's Rename and Widen of columns.
-/
namespace Go.Proofs.YtajnnkclonjcoaaDoor.Code
open Go.ChangeShapes Go.WideShapes Go.ChangeAt Go.RowKit Val Elems
set_option linter.unusedVariables false
set_option linter.unusedSimpArgs false
/-- a row of columns of the call's own, by its cells -/
theorem own_cols {w : World} {B : Nat} {e : TypeId} {v : Value} {l : List W} (h : w.ownsRow B e 3 v l.length (flatC wc l)) (h0 : 0 < l.length) :
    ∃ g cap, v = .slice (some ⟨g, 0, none⟩) l.length cap ∧ B ≤ g ∧ g < w.heap.size ∧ (∀ j, w.frozen? ⟨g, j, none⟩ = false) ∧ ∀ j u, (flatC wc l)[j]? = some u → w.cell? ⟨g, j, none⟩ = some u := by
  obtain ⟨g, cap, hv, hg, hlt⟩ := h.form h0
  have hc := h.cells (g := g) (by rw [hv]; rfl)
  refine ⟨g, cap, hv, hg, hlt, ?_, fun j u hu => by have := hc j u hu; rwa [Addr.add_lit, Nat.zero_add] at this⟩
  intro j
  rcases h.2 with ⟨e1, _⟩ | ⟨g', cap', cur, e1, _, hh, _⟩
  · rw [hv] at e1
    simp at e1
  · rw [hv] at e1
    simp only [Value.slice.injEq, Option.some.injEq, Addr.mk.injEq] at e1
    obtain ⟨⟨rfl, _, _⟩, _, _⟩ := e1
    simp [World.frozen?, hh]
theorem cols_at {w : World} {g B : Nat} {l : List W} (hg : g < B) (h : ∀ j u, (flatC wc l)[j]? = some u → w.cell? ⟨g, j, none⟩ = some u) : At wc 3 w B (some ⟨g, 0, none⟩) l := by
  intro i hi
  refine ⟨⟨g, 0, none⟩, rfl, hg, fun j u hu => ?_⟩
  rw [Addr.add_lit, Nat.zero_add]
  refine h _ _ ?_
  have hj : j < 3 := by
    have := (List.getElem?_eq_some_iff.1 hu).1
    rwa [wc_length] at this
  rw [flatC_at wc_length l i hi j hj]
  exact hu
theorem cols_set {w : World} {g : Nat} {l : List W} (h : ∀ j u, (flatC wc l)[j]? = some u → w.cell? ⟨g, j, none⟩ = some u) (k : Nat) (hk : k < l.length) (f : W → W) (j : Nat) (hj : j < 3) (v : Value) (hf : wc (f l[k]) = (wc l[k]).set j v) :
    ∀ q u, (flatC wc (l.modify k f))[q]? = some u → (w.setCell ⟨g, k * 3 + j, none⟩ v).cell? ⟨g, q, none⟩ = some u := by
  intro q u hu
  have hq : q < (l.modify k f).length * 3 := by
    have := (List.getElem?_eq_some_iff.1 hu).1
    rwa [flatC_length wc_length] at this
  rw [List.length_modify] at hq
  have hi : q / 3 < l.length := by omega
  have hr : q % 3 < 3 := by omega
  have e : q = q / 3 * 3 + q % 3 := by omega
  obtain ⟨i, hi'⟩ : ∃ i, q / 3 = i := ⟨_, rfl⟩
  obtain ⟨r, hr'⟩ : ∃ r, q % 3 = r := ⟨_, rfl⟩
  rw [hi'] at e hi
  rw [hr'] at e hr
  subst e
  clear hi' hr' hq
  rw [flatC_at wc_length _ i (by rw [List.length_modify]; exact hi) r hr, List.getElem_modify] at hu
  by_cases hik : k = i
  · subst hik
    rw [if_pos rfl, hf, List.getElem?_set] at hu
    by_cases hjr : j = r
    · subst hjr
      have hx : (flatC wc l)[k * 3 + j]? = some ((wc l[k])[j]'(by rw [wc_length]; exact hj)) := by
        rw [flatC_at wc_length l k hk j hj, List.getElem?_eq_getElem]
      rw [World.cell?_setCell_same _ _ _ (h _ _ hx)]
      rw [if_pos rfl, if_pos (by rw [wc_length]; exact hj)] at hu
      exact hu
    · rw [if_neg hjr, ← flatC_at wc_length l k hk r hr] at hu
      rw [World.cell?_setCell_other _ _ _ _ (by intro e; simp only [Addr.mk.injEq] at e; omega)]
      exact h _ _ hu
  · rw [if_neg hik, ← flatC_at wc_length l i hi r hr] at hu
    rw [World.cell?_setCell_other _ _ _ _ (by intro e; simp only [Addr.mk.injEq] at e; omega)]
    exact h _ _ hu
set_option maxHeartbeats 4000000 in
set_option maxRecDepth 100000 in
theorem rrename_any (A : Option Addr) (cap : Nat) (l : List W) (s to : ByteArray) (w : World) (hv : At wc 3 w w.heap.size A l) (hl : l.length ≤ 4194304) (ht : to.size ≤ 4194304) :
    Calls Tryd.prog 26 #[.slice A l.length cap, .string s, .string to] w (ColsPost w (renameC l s.data.toList to.data.toList)) := by
  have HV := Lib.hid hv
  have HF := Lib.hid (rfind_any A cap l s w hv hl)
  have HN := Lib.hid (fun w' => rname_any to w' ht)
  clear hv
  obtain ⟨R, hR⟩ : ∃ R, renameC l s.data.toList to.data.toList = R := ⟨_, rfl⟩
  rw [hR]
  unfold renameC at hR
  obtain ⟨o, ho⟩ : ∃ o, nameC to.data.toList = o := ⟨_, rfl⟩
  rw [ho] at hR HN
  have HR := Lib.hid hR
  clear hR ho
  obtain ⟨i0, hi0, hz0, hz1, hz2⟩ := info_parts info_col
  go_enter Tryd.func26, Tryd.ntmps26
  go_wp2_with fail
  refine HF.out.mono ?_
  rintro e w1 ⟨rfl, hb⟩
  have L1 := Lib.hid hb
  have V1 := Lib.hid (HV.out.below hb)
  have z1 := hb.size
  clear hb HF
  cases hf : findC l s.data.toList with
  | none =>
    have hq := findZ_neg hf
    have hr : R = ([], 121) := by rw [← HR.out, hf]
    rw [hq]
    subst hr
    clear hf hq
    go_wp2
    go_ret2
    exact ColsPost.no _ L1.out
  | some k =>
    have hq := findZ_pos hf
    obtain ⟨hk, _, _⟩ := find_some hf
    have HR2 := Lib.hid (show (if o = false then ([], 1) else if (findC l to.data.toList).isSome = true then ([], 122) else (l.modify k fun c => (c.1, to.data.toList, c.2.2), 0)) = R by rw [← HR.out, hf])
    rw [hq]
    clear hf hq HR
    go_wp2_with fail
    refine (HN.out _).mono ?_
    rintro e w2 ⟨rfl, hb⟩
    have L2 := Lib.hid (L1.out.trans (hb.mono z1))
    have V2 := Lib.hid (V1.out.below (hb.mono z1))
    have z2 := L2.out.size
    clear hb HN
    cases o
    · have hr : R = ([], 1) := by rw [← HR2.out]; rfl
      subst hr
      go_wp2
      go_ret2
      exact ColsPost.no _ L2.out
    have HF2 := Lib.hid (rfind_any A cap l to w2 (V2.out.more z2) hl)
    go_wp2_with fail
    refine HF2.out.mono ?_
    rintro e w3 ⟨rfl, hb⟩
    have L3 := Lib.hid (L2.out.trans (hb.mono z2))
    have V3 := Lib.hid (V2.out.below (hb.mono z2))
    have z3 := L3.out.size
    clear hb HF2
    cases hf : findC l to.data.toList with
    | some q =>
      have hr : R = ([], 122) := by rw [← HR2.out, hf]; rfl
      have hq := findZ_pos hf
      rw [hq]
      subst hr
      clear hf hq
      go_wp2
      go_ret2
      exact ColsPost.no _ L3.out
    | none =>
      have hr : R = (l.modify k fun c => (c.1, to.data.toList, c.2.2), 0) := by rw [← HR2.out, hf]; rfl
      have hq := findZ_neg hf
      rw [hq]
      subst hr
      clear hf hq HR2
      go_wp2_with (at_builtin; refine wpList_append_at (k := 3) (c := wc) wc_length (by decide) wc_one rfl _ _ 22 rfl w.heap.size 41 i0 _ 32 Tryd.underlying22 hi0 hz0 hz1 hz2 rfl (.slice (some ⟨w3.heap.size, 0, none⟩) 0 0) 0 [] rfl ?c0 w.heap.size A cap l rfl ?c2 ?c3 ?c4 ?c5 ?_)
      case c0 => exact ⟨rfl, .inr ⟨w3.heap.size, 0, #[], rfl, z3, heap_alloc_new w3 _, Nat.le_refl _, Nat.zero_le _, rfl, rfl⟩⟩
      case c2 => exact V3.out.below ((below_alloc w3 _).mono z3)
      case c3 => unfold maxLen; omega
      case c4 => omega
      case c5 => simp; omega
      intro v4 w4 hown4 hgrow4
      have B4 := Lib.hid (show Below w3.heap.size w3 w4 from (below_alloc w3 _).grown hgrow4 (by simp) (fun j hj => by cases hj; exact Nat.le_refl _))
      have L4 := Lib.hid (L3.out.trans (B4.out.mono z3))
      obtain ⟨g, cap4, rfl, hg1, hg2, hfr, hc⟩ := own_cols (show w4.ownsRow w.heap.size 41 3 v4 l.length (flatC wc l) by simpa using hown4) (by omega)
      have HC := Lib.hid hc
      have hx : (flatC wc l)[k * 3 + 1]? = some (.string ⟨l[k].2.1.toArray⟩) := by rw [flatC_at wc_length l k hk 1 (by omega)]; rfl
      have c1 := hc _ _ hx
      have f1 := hfr (k * 3 + 1)
      have hki : (k : Int) < (l.length : Int) := by omega
      clear hown4 hgrow4 hc hfr hx
      go_wp2
      go_ret2
      refine ⟨some ⟨g, 0, none⟩, cap4, ?_, ?_, ?_⟩
      · simp
      · refine cols_at (by simpa using hg2) (cols_set HC.out k hk (fun c => (c.1, to.data.toList, c.2.2)) 1 (by omega) _ ?_)
        unfold wc
        rw [Lib.mk_data]
        rfl
      · exact L4.out.setCell (by exact hg1) _
end Go.Proofs.YtajnnkclonjcoaaDoor.Code
/-
  The document's Widen of columns.
-/
namespace Go.Proofs.YtajnnkclonjcoaaDoor.Code
open Go.ChangeShapes Go.WideShapes Go.ChangeAt Go.RowKit Val Elems
set_option linter.unusedVariables false
set_option linter.unusedSimpArgs false
set_option maxHeartbeats 4000000 in
set_option maxRecDepth 100000 in
theorem rwiden_any (A : Option Addr) (cap : Nat) (l : List W) (s : ByteArray) (t : Int) (w : World) (hv : At wc 3 w w.heap.size A l) (hl : l.length ≤ 4194304) :
    Calls Tryd.prog 28 #[.slice A l.length cap, .string s, .int .i64 t] w (ColsPost w (widenC l s.data.toList t)) := by
  have HV := Lib.hid hv
  have HF := Lib.hid (rfind_any A cap l s w hv hl)
  have HN := Lib.hid (fun w' => Val.rcolumn_any t w')
  have HW := Lib.hid (fun k w' => Val.rwider_any t k w')
  clear hv
  obtain ⟨R, hR⟩ : ∃ R, widenC l s.data.toList t = R := ⟨_, rfl⟩
  rw [hR]
  unfold widenC at hR
  obtain ⟨o, ho⟩ : ∃ o, columnB t = o := ⟨_, rfl⟩
  rw [ho] at hR HN
  have HR := Lib.hid hR
  clear hR ho
  obtain ⟨i0, hi0, hz0, hz1, hz2⟩ := info_parts info_col
  go_enter Tryd.func28, Tryd.ntmps28
  go_wp2_with fail
  refine HF.out.mono ?_
  rintro e w1 ⟨rfl, hb⟩
  have L1 := Lib.hid hb
  have V1 := Lib.hid (HV.out.below hb)
  have z1 := hb.size
  clear hb HF
  cases hf : findC l s.data.toList with
  | none =>
    have hq := findZ_neg hf
    have hr : R = ([], 121) := by rw [← HR.out, hf]
    rw [hq]
    subst hr
    clear hf hq
    go_wp2
    go_ret2
    exact ColsPost.no _ L1.out
  | some k =>
    have hq := findZ_pos hf
    obtain ⟨hk, _, _⟩ := find_some hf
    have HR2 := Lib.hid (show (if o = false then ([], 1) else if widerB t (l.getD k (0, [], 0)).2.2 = false then ([], 12) else (l.modify k fun c => (c.1, c.2.1, t), 0)) = R by rw [← HR.out, hf])
    rw [hq]
    clear hf hq HR
    go_wp2_with fail
    refine (HN.out _).mono ?_
    rintro e w2 ⟨rfl, rfl⟩
    clear HN
    cases o
    · have hr : R = ([], 1) := by rw [← HR2.out]; rfl
      subst hr
      go_wp2
      go_ret2
      exact ColsPost.no _ L1.out
    obtain ⟨ad, rfl, ga, c0, c1, c2⟩ := at_word V1.out k hk
    have hgd : (l.getD k (0, [], 0)).2.2 = l[k].2.2 := by simp [List.getD, hk]
    rw [hgd] at HR2
    obtain ⟨p, hp⟩ : ∃ p, widerB t l[k].2.2 = p := ⟨_, rfl⟩
    have HW2 := Lib.hid (HW.out l[k].2.2)
    rw [hp] at HR2 HW2
    obtain ⟨x, hx⟩ : ∃ x, l[k].2.2 = x := ⟨_, rfl⟩
    rw [hx] at c2 HW2
    have hki : (k : Int) < (l.length : Int) := by omega
    clear hgd hp hx HW c0 c1
    go_wp2_with fail
    refine (HW2.out _).mono ?_
    rintro e w2 ⟨rfl, rfl⟩
    clear HW2 c2
    cases p
    · have hr : R = ([], 12) := by rw [← HR2.out]; rfl
      subst hr
      go_wp2
      go_ret2
      exact ColsPost.no _ L1.out
    have hr : R = (l.modify k fun c => (c.1, c.2.1, t), 0) := by rw [← HR2.out]; rfl
    subst hr
    clear HR2
    go_wp2_with (at_builtin; refine wpList_append_at (k := 3) (c := wc) wc_length (by decide) wc_one rfl _ _ 22 rfl w.heap.size 41 i0 _ 32 Tryd.underlying22 hi0 hz0 hz1 hz2 rfl (.slice (some ⟨w1.heap.size, 0, none⟩) 0 0) 0 [] rfl ?c0 w.heap.size (some ad) cap l rfl ?c2 ?c3 ?c4 ?c5 ?_)
    case c0 => exact ⟨rfl, .inr ⟨w1.heap.size, 0, #[], rfl, z1, heap_alloc_new w1 _, Nat.le_refl _, Nat.zero_le _, rfl, rfl⟩⟩
    case c2 => exact V1.out.below ((below_alloc w1 _).mono z1)
    case c3 => unfold maxLen; omega
    case c4 => omega
    case c5 => simp; omega
    intro v4 w4 hown4 hgrow4
    have B4 := Lib.hid (show Below w1.heap.size w1 w4 from (below_alloc w1 _).grown hgrow4 (by simp) (fun j hj => by cases hj; exact Nat.le_refl _))
    have L4 := Lib.hid (L1.out.trans (B4.out.mono z1))
    obtain ⟨g, cap4, rfl, hg1, hg2, hfr, hc⟩ := own_cols (show w4.ownsRow w.heap.size 41 3 v4 l.length (flatC wc l) by simpa using hown4) (by omega)
    have HC := Lib.hid hc
    have hx : (flatC wc l)[k * 3 + 2]? = some (.int .i64 l[k].2.2) := by rw [flatC_at wc_length l k hk 2 (by omega)]; rfl
    have c1 := hc _ _ hx
    have f1 := hfr (k * 3 + 2)
    clear hown4 hgrow4 hc hfr hx
    go_wp2
    go_ret2
    refine ⟨some ⟨g, 0, none⟩, cap4, ?_, ?_, ?_⟩
    · simp
    · exact cols_at (by simpa using hg2) (cols_set HC.out k hk (fun c => (c.1, c.2.1, t)) 2 (by omega) _ (by unfold wc; rfl))
    · exact L4.out.setCell (by exact hg1) _
end Go.Proofs.YtajnnkclonjcoaaDoor.Code
/-
  The document's text of columns.
-/
namespace Go.Proofs.YtajnnkclonjcoaaDoor.Code
open Go.ChangeShapes Go.WideShapes Go.ChangeAt Go.RowKit Val Elems
set_option linter.unusedVariables false
set_option linter.unusedSimpArgs false
def colT (c : W) : List UInt8 := c.2.1 ++ [32] ++ (nameS c.2.2).data.toList
def showC (l : List W) : List UInt8 := Lib.join (l.map colT) [44, 32]
theorem showC_one (c : W) : showC [c] = colT c := by
  unfold showC
  rw [List.map_cons, List.map_nil, Lib.join_one]
theorem showC_snoc (l : List W) (c : W) (h : 0 < l.length) : showC (l ++ [c]) = showC l ++ ([44, 32] ++ colT c) := by
  unfold showC
  cases l with
  | nil => simp at h
  | cons v l =>
    rw [List.cons_append, List.map_cons, List.map_cons, Lib.join_cons, Lib.join_cons, List.map_append]
    have e := Lib.joinTail_take_succ [44, 32] ((l ++ [c]).map colT) l.length (colT c) (by simp)
    rw [show ((l ++ [c]).map colT).take (l.length + 1) = (l ++ [c]).map colT by rw [List.take_of_length_le (by simp)],
      show ((l ++ [c]).map colT).take l.length = l.map colT by rw [← List.map_take]; simp] at e
    rw [← List.map_append, e]
    simp
/-- one column more, shown -/
theorem showC_step (l : List W) (k : Nat) (h : k < l.length) : (k = 0 → showC (l.take (k + 1)) = showC (l.take k) ++ l[k].2.1 ++ [32] ++ (nameS l[k].2.2).data.toList) ∧ (0 < k → showC (l.take (k + 1)) = showC (l.take k) ++ [44, 32] ++ l[k].2.1 ++ [32] ++ (nameS l[k].2.2).data.toList) := by
  rw [List.take_succ_eq_append_getElem h]
  refine ⟨fun h0 => ?_, fun h0 => ?_⟩
  · subst h0
    rw [List.take_zero, List.nil_append, showC_one]
    rfl
  · rw [showC_snoc _ _ (by rw [List.length_take]; omega)]
    unfold colT
    simp only [List.append_assoc]
theorem nameS_le (k : Int) : (nameS k).size ≤ 5 := by
  unfold nameS
  repeat' split
  all_goals decide
set_option maxHeartbeats 4000000 in
set_option maxRecDepth 100000 in
theorem rshow12_any (A : Option Addr) (cap : Nat) (l : List W) (w : World) (hv : At wc 3 w w.heap.size A l) (hf : ∀ c ∈ l, c.2.1.length ≤ 4194304) (hl : l.length ≤ 10000) :
    Calls Tryd.prog 16 #[.slice A l.length cap] w fun e w' => e = .returned (.string ⟨(showC l).toArray⟩) ∧ Below w.heap.size w w' := by
  have HV := Lib.hid hv
  have HF := Lib.hid hf
  clear hv hf
  go_enter Tryd.func16, Tryd.ntmps16
  go_wp2
  go_loopw [3, 4] (fun t i wr => ∃ (k : Nat) (T : ByteArray), k ≤ l.length ∧ i = .int .i64 k ∧ t = .string T ∧ T.size ≤ 4194320 * k ∧ Hid (T = ⟨(showC (l.take k)).toArray⟩) ∧ Below w.heap.size w wr) (fun _ i _ => l.length - (intOf i).toNat)
  case atStart => exact ⟨0, ⟨#[]⟩, by omega, rfl, rfl, by decide, Lib.hid rfl, Below.refl _ _⟩
  case round =>
    obtain ⟨k, T, hk, rfl, rfl, hTs, HT, hbel⟩ := hrel
    have hsz := hbel.size
    have HL := Lib.hid hbel
    have VA := Lib.hid (HV.out.below hbel)
    clear hbel
    by_cases hkl : k < l.length
    · obtain ⟨ad, rfl, ha, c0, c1, c2⟩ := at_word VA.out k hkl
      have hlS := HF.out l[k] (List.getElem_mem hkl)
      have HS0 := Lib.hid (showC_step l k hkl)
      obtain ⟨x, hx⟩ : ∃ x, l[k] = x := ⟨_, rfl⟩
      rw [hx] at c0 c1 c2 HS0 hlS
      clear hx
      obtain ⟨a, t, kk⟩ := x
      dsimp only at c0 c1 c2 HS0 hlS
      obtain ⟨U, hU⟩ : ∃ U : ByteArray, ⟨t.toArray⟩ = U := ⟨_, rfl⟩
      rw [hU] at c1
      have hUs : U.size ≤ 4194304 := by rw [← hU, size_list]; exact hlS
      have hUl : U.data.toList = t := by rw [← hU]
      have hSs := nameS_le kk
      obtain ⟨S, hS⟩ : ∃ S : ByteArray, nameS kk = S := ⟨_, rfl⟩
      have HK := Lib.hid (fun w' => hS ▸ Val.rname_any kk w')
      rw [← hUl, hS] at HS0
      rw [hS] at hSs
      clear hlS hUl hU hS c0
      by_cases h0 : k = 0
      · subst h0
        rw [show ad.add (0 * 3) = ad by unfold Addr.add; rw [if_pos (by omega)]] at c1 c2
        have HR := Lib.hid (show T ++ U ++ ⟨#[32]⟩ ++ S = ⟨(showC (l.take 1)).toArray⟩ by rw [HT.out]; refine ba_of ?_; rw [Go.Joins.data_append, Go.Joins.data_append, Go.Joins.data_append]; exact (HS0.out.1 rfl).symm)
        go_wp2
        go_quiet (refine Calls.quiet_of_same ((HK.out _).mono (by rintro e w' ⟨h1, h2⟩; exact ⟨h1, h2.symm⟩)))
        go_wp2
        go_roundw
        case rel => exact ⟨1, T ++ U ++ ⟨#[32]⟩ ++ S, by omega, by go_num, rfl, by simp only [ByteArray.size_append]; show T.size + U.size + 1 + S.size ≤ _; omega, HR, drewN_below HL.out _⟩
        case measure => simp [intOf]; omega
      · have e0 : decide (0 < (k : Int)) = true := by simp; omega
        have HR := Lib.hid (show T ++ ⟨#[44, 32]⟩ ++ U ++ ⟨#[32]⟩ ++ S = ⟨(showC (l.take (k + 1))).toArray⟩ by rw [HT.out]; refine ba_of ?_; rw [Go.Joins.data_append, Go.Joins.data_append, Go.Joins.data_append, Go.Joins.data_append]; exact (HS0.out.2 (by omega)).symm)
        have hk0 : 0 < k := by omega
        go_wp2
        go_quiet (refine Calls.quiet_of_same ((HK.out _).mono (by rintro e w' ⟨h1, h2⟩; exact ⟨h1, h2.symm⟩)))
        go_wp2
        go_roundw
        case rel => exact ⟨k + 1, T ++ ⟨#[44, 32]⟩ ++ U ++ ⟨#[32]⟩ ++ S, by omega, by go_num, rfl, by simp only [ByteArray.size_append]; show T.size + 2 + U.size + 1 + S.size ≤ _; omega, HR, drewN_below HL.out _⟩
        case measure => simp [intOf]; omega
    · obtain rfl : k = l.length := by omega
      rw [List.take_length] at HT
      go_wp2
      go_ret
      exact ⟨retS HT.out, HL.out⟩
end Go.Proofs.YtajnnkclonjcoaaDoor.Code
/-
  The program's column and Name of package schema, and the table's cell that words want.
-/
namespace Go.Proofs.YtajnnkclonjcoaaDoor.Code
open Go.ChangeShapes Go.WideShapes Go.ChangeAt Go.RowKit Val Elems
set_option linter.unusedVariables false
set_option linter.unusedSimpArgs false
/-- the cell of Go's library that lex.Words reads -/
def MGlob (m : Int) (w : World) : Prop := w.cell? ⟨0, 0, none⟩ = some (.int .i64 m)
theorem MGlob.next {m : Int} {w w' : World} (h : MGlob m w) (hb : Below w.heap.size w w') : MGlob m w' :=
  (hb.cell (p := ⟨0, 0, none⟩) (World.block_lt_of_cell? _ _ h)).trans h
theorem fit_null (k : Int) : fitV1 0 0 ⟨#[]⟩ k = columnB k := by
  unfold fitV1
  rw [show rightB 0 0 ⟨#[]⟩ = true by decide +kernel]
  simp
set_option maxHeartbeats 4000000 in
theorem scolumn_any (k : Int) (w : World) :
    Calls Tryd.prog 48 #[.int .i64 k] w fun e w' => e = .returned (.bool (columnB k)) ∧ Below w.heap.size w w' := by
  have HF := Lib.hid (vfits_any 0 0 ⟨#[]⟩ k (by unfold fits; omega) w)
  rw [fit_null] at HF
  go_enter Tryd.func48, Tryd.ntmps48
  go_wp2_with fail
  refine HF.out.mono ?_
  rintro e w1 ⟨rfl, hb⟩
  go_wp2
  go_ret
  exact ⟨rfl, hb⟩
def oneN (s : List UInt8) : List W → Bool
  | [w] => w.1 == 0 && (w.2.1 == s && w.2.2 == 0)
  | _ => false
theorem name_words2 {s : List UInt8} (h : ownN s = false) : nameC s = oneN s (wL s) := by
  rw [name_words h]
  unfold wL
  cases wordsL s 0 with
  | error j => rfl
  | ok l =>
    rcases l with _ | ⟨a, _ | ⟨b, l⟩⟩ <;> rfl
set_option maxHeartbeats 8000000 in
set_option maxRecDepth 100000 in
theorem sname_any (s : ByteArray) (m : Int) (w : World) (hs : s.size ≤ 1000) (hg : MGlob m w) :
    Calls Tryd.prog 19 #[.string s] w fun e w' => e = .returned (.bool (nameC s.data.toList)) ∧ Below w.heap.size w w' := by
  have hlen : s.data.toList.length = s.size := by rw [Array.length_toList]; rfl
  by_cases h20 : s.size ≤ 20
  case neg =>
    rw [name_short (by omega)]
    clear hlen hg
    go_enter Tryd.func19, Tryd.ntmps19
    go_wp2
    go_ret
    exact ⟨rfl, Below.refl _ _⟩
  have HO := Lib.hid (fun w' => own_any s w')
  rw [own_n] at HO
  cases ho : ownN s.data.toList with
  | true =>
    rw [name_own ho]
    rw [ho] at HO
    clear hlen hg ho
    go_enter Tryd.func19, Tryd.ntmps19
    go_wp2_with fail
    refine (HO.out _).mono ?_
    rintro e w1 ⟨rfl, rfl⟩
    go_wp2
    go_ret
    exact ⟨rfl, Below.refl _ _⟩
  | false =>
    rw [ho] at HO
    have HW := Lib.hid (words_any s m w (by omega) hg)
    unfold WordsPost at HW
    obtain ⟨R, hR⟩ : ∃ R, nameC s.data.toList = R := ⟨_, rfl⟩
    rw [hR]
    obtain ⟨l, hl⟩ : ∃ l, wL s.data.toList = l := ⟨_, rfl⟩
    obtain ⟨q, hq⟩ : ∃ q, wE s.data.toList = q := ⟨_, rfl⟩
    obtain ⟨p, hp⟩ : ∃ p, wP s.data.toList = p := ⟨_, rfl⟩
    rw [hl, hq, hp] at HW
    rw [name_words2 ho, hl] at hR
    have HR := Lib.hid hR
    clear hlen hg ho hR hl hq hp
    go_enter Tryd.func19, Tryd.ntmps19
    go_wp2_with fail
    refine (HO.out _).mono ?_
    rintro e w1' ⟨rfl, rfl⟩
    go_wp2_with fail
    refine HW.out.mono ?_
    rintro e w1 ⟨A, cap, rfl, hat, hb⟩
    have B1 := Lib.hid hb
    have AT := Lib.hid hat
    clear hb hat
    rcases list_one l with rfl | ⟨a, rfl⟩ | h2
    · have hr : R = false := by rw [← HR.out]; rfl
      subst hr
      go_wp2
      go_ret
      exact ⟨rfl, B1.out⟩
    · obtain ⟨k, t, pos⟩ := a
      obtain ⟨ad, rfl, hab, c0, c1, c2⟩ := at_word AT.out 0 (by simp)
      have ea : ad.add (0 * 3) = ad := by simp [Addr.add]
      rw [ea] at c0 c1 c2
      simp only [List.getElem_cons_zero] at c0 c1 c2
      have hr : R = (k == 0 && (t == s.data.toList && pos == 0)) := by rw [← HR.out]; rfl
      by_cases hk : k = 0
      case neg =>
        have e2 : (k == 0) = false := by simpa using hk
        have hr2 : R = false := by rw [hr, e2]; rfl
        subst hr2
        clear hr
        go_wp2
        go_ret
        exact ⟨by simp, B1.out⟩
      subst hk
      by_cases ht : t = s.data.toList
      case neg =>
        obtain ⟨T, hT⟩ : ∃ T : ByteArray, ⟨t.toArray⟩ = T := ⟨_, rfl⟩
        have e3 : (T.toList == s.toList) = false := by rw [ByteArray.toList_eq, ByteArray.toList_eq, ← hT]; simpa using ht
        have hr2 : R = false := by rw [hr]; simp [ht]
        rw [hT] at c1
        subst hr2
        clear ht hr hT
        go_wp2
        go_ret
        exact ⟨by simp, B1.out⟩
      subst ht
      rw [Lib.mk_data] at c1
      by_cases hp : pos = 0
      · subst hp
        have hr2 : R = true := by rw [hr]; simp
        subst hr2
        clear hr
        go_wp2
        go_ret
        exact ⟨by simp, B1.out⟩
      · have e4 : (pos == 0) = false := by simpa using hp
        have hr2 : R = false := by rw [hr, e4]; simp
        subst hr2
        clear hr
        go_wp2
        go_ret
        exact ⟨by simp, B1.out⟩
    · have hr : R = false := by
        rw [← HR.out]
        match l, h2 with
        | a :: b :: l, _ => rfl
      obtain ⟨N, hN⟩ : ∃ N, l.length = N := ⟨_, rfl⟩
      rw [hN] at h2
      have e4 : ((N : Int) == 1) = false := by simp; omega
      subst hr
      rw [hN]
      clear hN
      go_wp2
      go_ret
      exact ⟨by simp, B1.out⟩
end Go.Proofs.YtajnnkclonjcoaaDoor.Code
