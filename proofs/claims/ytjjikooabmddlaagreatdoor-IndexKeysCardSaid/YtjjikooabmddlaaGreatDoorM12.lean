/-
  The document's index: places and items; what Find and Range answer.
-/
import Derived.Test.YtjjikooabmddlaaGreatDoorM11
import Derived.Test.YtjjikooabmddlaaGreatDoorM10
namespace Go.Proofs.YtjjikooabmddlaaGreatDoor.Items
open Go.ChangeShapes Go.WideShapes Go.ChangeAt Go.RowKit Val Go.Proofs.YtjjikooabmddlaaGreatDoor.Code Go.Proofs.YtjjikooabmddlaaGreatDoor.Elems Go.Proofs.YtjjikooabmddlaaGreatDoor.ZP
set_option linter.unusedVariables false
set_option maxRecDepth 100000

/-- the document's index in block g: where its places lie, and its items -/
structure RIdx (w : World) (g : Nat) (C : Option Addr) (cc : Nat) (l : List Int) (A : Option Addr) (ca : Nat) (S : List It) : Prop where
  blk : w.heap[g]? = some (.cells #[.slice C l.length cc, .slice A S.length ca] 35 (0, 0))
  ints : Ints w w.heap.size C l
  items : Items w w.heap.size A S
section
variable {w w' : World} {g : Nat} {C : Option Addr} {cc : Nat} {l : List Int} {A : Option Addr} {ca : Nat} {S : List It}
theorem RIdx.lt (h : RIdx w g C cc l A ca S) : g < w.heap.size := (Array.getElem?_eq_some_iff.1 h.blk).1
theorem RIdx.places (h : RIdx w g C cc l A ca S) : w.cell? ⟨g, 0, none⟩ = some (.slice C l.length cc) := cell_of_row w g 0 _ _ _ h.blk
theorem RIdx.set (h : RIdx w g C cc l A ca S) : w.cell? ⟨g, 1, none⟩ = some (.slice A S.length ca) := cell_of_row w g 1 _ _ _ h.blk
theorem RIdx.below (h : RIdx w g C cc l A ca S) (hb : Below w.heap.size w w') : RIdx w' g C cc l A ca S :=
  ⟨(hb.block g h.lt).trans h.blk, (h.ints.below hb).more hb.size, (h.items.below hb).more hb.size⟩
end
theorem pickL_le (r : List (Int × Int × ByteArray)) (l : List Int) : (pickL r l).length ≤ l.length := by
  unfold pickL
  split
  · rw [valsP_length]; exact Nat.le_refl _
  · exact Nat.zero_le _
/-- the items that a question answers yes -/
def pickI (q : List (Int × Int × ByteArray) → Bool) (S : List It) : List It := S.filter fun x => q x.2.2.1
theorem pickI_yes (q : List (Int × Int × ByteArray) → Bool) (S : List It) (k : Nat) (h : k < S.length) (g : q S[k].2.2.1 = true) : pickI q (S.take (k + 1)) = pickI q (S.take k) ++ [S[k]] := by
  unfold pickI
  rw [List.take_succ_eq_append_getElem h, List.filter_append]
  simp [g]
theorem pickI_not (q : List (Int × Int × ByteArray) → Bool) (S : List It) (k : Nat) (h : k < S.length) (g : q S[k].2.2.1 = false) : pickI q (S.take (k + 1)) = pickI q (S.take k) := by
  unfold pickI
  rw [List.take_succ_eq_append_getElem h, List.filter_append]
  simp [g]
theorem pickI_le (q : List (Int × Int × ByteArray) → Bool) (S : List It) : (pickI q S).length ≤ S.length := List.length_filter_le _ _
theorem pickI_mem {q : List (Int × Int × ByteArray) → Bool} {S : List It} {x : It} (h : x ∈ pickI q S) : x ∈ S := (List.mem_filter.1 h).1
/-- just this key -/
def keyQ (l : List Int) (key : List (Int × Int × ByteArray)) (r : List (Int × Int × ByteArray)) : Bool := decide (pickL r l = key)
set_option maxHeartbeats 4000000 in
theorem ifind_any (g : Nat) (C : Option Addr) (cc : Nat) (l : List Int) (A : Option Addr) (ca : Nat) (S : List It) (K : Option Addr) (ck : Nat) (key : List (Int × Int × ByteArray)) (w : World) (hX : RIdx w g C cc l A ca S) (hK : Vals w w.heap.size K key) (hl : l.length ≤ 1000000) (hS : S.length ≤ 1000000) (hr : ∀ x ∈ S, x.2.2.1.length ≤ 1000000) (hk : key.length ≤ 140737488355328) :
    Calls Tryz.prog 34 #[.pointer (some ⟨g, 0, none⟩), .slice K key.length ck] w (ItemsPost w (pickI (keyQ l key) S)) := by
  have HX := Lib.hid hX
  have HK := Lib.hid hK
  have HR := Lib.hid hr
  clear hX hK hr
  obtain ⟨i0, hi0, hz0, hz1, hz2⟩ := info_parts info_item
  go_enter Tryz.func34, Tryz.ntmps34
  go_wp2
  go_loopw [5, 6] (fun v i wr => ∃ k : Nat, k ≤ S.length ∧ i = .int .i64 k ∧ Hid (wr.ownsRow w.heap.size 48 2 v (pickI (keyQ l key) (S.take k)).length (flatC cellsI (pickI (keyQ l key) (S.take k)))) ∧ Hid (Below w.heap.size w wr)) (fun _ i _ => S.length - (intOf i).toNat)
  case atStart => exact ⟨0, by omega, rfl, Lib.hid (World.ownsRow_nil _ _ _ _), Lib.hid (Below.refl _ _)⟩
  case round =>
    obtain ⟨k, hkS, rfl, HO, HL⟩ := hrel
    have hsz := HL.out.size
    have RX := Lib.hid (HX.out.below HL.out)
    have q1 := RX.out.set
    by_cases hlt : k < S.length
    · have q0 := RX.out.places
      obtain ⟨ad, hA, ha, c0, c1, v0⟩ := RX.out.items.at k hlt
      subst hA
      have hll := HR.out _ (List.getElem_mem hlt)
      have hX0 : (pickI (keyQ l key) (S.take k)).length ≤ k := Nat.le_trans (pickI_le _ _) (by rw [List.length_take_of_le hkS]; exact Nat.le_refl _)
      have HY := Lib.hid (pickI_yes (keyQ l key) S k hlt)
      have HN := Lib.hid (pickI_not (keyQ l key) S k hlt)
      obtain ⟨x, hx⟩ : ∃ x, S[k] = x := ⟨_, rfl⟩
      rw [hx] at c0 c1 v0 hll HY HN
      clear hx
      obtain ⟨x1, x2, x3, x4⟩ := x
      simp only at c0 c1 v0 hll HY HN
      have V0 := Lib.hid v0
      have hc := fun w' (h : Below wr.heap.size wr w') => rpick_any x1 C x2 cc x3 l w' ((V0.out.below h).more h.size) ((RX.out.ints.below h).more h.size) hll hl
      unfold RPickPost at hc
      have hpl := pickL_le x3 l
      have hkq : keyQ l key x3 = decide (pickL x3 l = key) := rfl
      obtain ⟨D, hD⟩ : ∃ D, pickL x3 l = D := ⟨_, rfl⟩
      obtain ⟨E, hE⟩ : ∃ E, pickE x3 l = E := ⟨_, rfl⟩
      simp only [hD, hE] at hc
      rw [hD] at hpl hkq
      have HC := Lib.hid hc
      obtain ⟨z, hz⟩ : ∃ z, decide (D = key) = z := ⟨_, rfl⟩
      rw [hz] at hkq
      have HQ := Lib.hid hkq
      have HZ := Lib.hid hz
      have hz0' : (ad.add (k * 2)).block < wr.heap.size := by rw [add_block]; exact ha
      have hg0 := RX.out.lt
      clear hc hD hE hkq hz v0
      obtain ⟨N, hN⟩ : ∃ N, pickI (keyQ l key) (S.take k) = N := ⟨_, rfl⟩
      rw [hN] at HO HY HN hX0
      clear hN
      obtain ⟨p, hp⟩ : ∃ p, ad.add (k * 2) = p := ⟨_, rfl⟩
      go_wp2_with fail
      rw [hp] at c0 c1 hz0'
      go_region_held3 (fun w' => (w'.cell? p = some (.slice x1 x3.length x2) ∧ w'.cell? ⟨g, 0, none⟩ = some (.slice C l.length cc) ∧ w'.cell? ⟨g, 1, none⟩ = some (.slice (some ad) S.length ca)) ∧ Below wr.heap.size wr w')
        (first | assumption | (refine keepP hb5 (by assumption) ?_; intro kk; exact ⟨(kk p hz0').trans c0, (kk ⟨g, 0, none⟩ hg0).trans q0, (kk ⟨g, 1, none⟩ hg0).trans q1⟩) | (exact ⟨⟨c0, q0, q1⟩, Below.drew (Below.refl _ _)⟩))
        (first | (go_at_call 32; with_reducible refine (HC.out _ ?cv).mono ?_; (case cv => exact (by assumption : _ ∧ Below wr.heap.size wr _).2); rintro e w5 ⟨Z, cz, rfl, hv5, hb5⟩))
      have M2 := Lib.hid (show Below wr.heap.size wr w5 by rename_i hS; exact hS.2)
      have V2 := Lib.hid hv5
      clear hb5 hv5 HC
      have hs := rrowSame_any Z K cz ck D key w5 V2.out ((HK.out.below (bnext HL.out hsz M2.out)).more (bnext HL.out hsz M2.out).size) (by omega) hk
      rw [HZ.out] at hs
      have HS := Lib.hid hs
      clear hs
      go_wp2_with fail
      refine HS.out.mono ?_
      rintro e w3 ⟨rfl, hb⟩
      have M3 := Lib.hid (bnext M2.out M2.out.size hb)
      have L3 := Lib.hid (bnext HL.out hsz M3.out)
      have O3 := Lib.hid (HO.out.kept (row := none) ⟨M3.out.os, M3.out.tape, M3.out.output, M3.out.size, fun j hj _ => M3.out.block j hj⟩ (Decidable.em _))
      have z3 := L3.out.size
      have f0 := (M3.out.cell (p := p) hz0').trans c0
      have f1 := (M3.out.cell (p := ⟨p.block, p.off + 1, none⟩) hz0').trans c1
      have f2 := (M3.out.cell (p := ⟨g, 1, none⟩) hg0).trans q1
      clear hb HS M2 V2 c0 c1 q0 q1 HO
      cases z
      · have HE2 := Lib.hid (HN.out HQ.out)
        go_wp2
        go_roundw
        case rel => exact ⟨k + 1, by omega, by go_num, Lib.hid (by rw [HE2.out]; exact O3.out), L3⟩
        case measure => simp [intOf]; omega
      · have HE2 := Lib.hid (HY.out HQ.out)
        go_wp2_with (at_builtin; refine wpList_append_own _ rfl _ _ 33 rfl w.heap.size 48 i0 (.agg #[.slice none 0 0, .int .i64 0]) 2 32 Tryz.underlying33 hi0 hz0 hz1 hz2 rfl (by decide) _ _ _ rfl (O3.out.alloc _) ⟨w3.heap.size, 0, none⟩ 1 1 (cellsI (x1, x2, x3, x4)) rfl rfl ?c1 ?c2 ?c3 ?c4 ?c5 ?_)
        case c1 => exact fun j u hu => World.news_of_block (heap_alloc_new w3 _) _ _ (by simpa [cellsI] using hu)
        case c2 => exact cellsI_one _
        case c3 => unfold maxLen; omega
        case c4 => omega
        case c5 => first | omega | (simp; omega)
        intro v' w4 hown' hgrow _
        have O4 := Lib.hid (show w4.ownsRow w.heap.size 48 2 v' (pickI (keyQ l key) (S.take (k + 1))).length (flatC cellsI (pickI (keyQ l key) (S.take (k + 1)))) by rw [HE2.out, flatC_snoc, List.length_append]; exact hown')
        have L4 := Lib.hid ((L3.out.alloc z3 _).grown hgrow (by simp; omega) (fun j hj => (O3.out.lt j hj).1))
        clear hown' hgrow
        go_wp2
        go_roundw
        case rel => exact ⟨k + 1, by omega, by go_num, O4, L4⟩
        case measure => simp [intOf]; omega
    · obtain rfl : k = S.length := by omega
      rw [List.take_length] at HO
      go_wp2
      go_ret
      exact itemsPost_own HO.out (fun x hx => HX.out.items.2 x (pickI_mem hx)) HL.out
/-- from one key on, before another -/
def rangeQ (l : List Int) (key to : List (Int × Int × ByteArray)) (r : List (Int × Int × ByteArray)) : Bool := decide (0 ≤ cmpL (pickL r l) key) && decide (cmpL (pickL r l) to < 0)
set_option maxHeartbeats 4000000 in
theorem irange_any (g : Nat) (C : Option Addr) (cc : Nat) (l : List Int) (A : Option Addr) (ca : Nat) (S : List It) (K : Option Addr) (ck : Nat) (key : List (Int × Int × ByteArray)) (U : Option Addr) (cu : Nat) (to : List (Int × Int × ByteArray)) (w : World) (hX : RIdx w g C cc l A ca S) (hK : Vals w w.heap.size K key) (hU : Vals w w.heap.size U to) (hl : l.length ≤ 1000000) (hS : S.length ≤ 1000000) (hr : ∀ x ∈ S, x.2.2.1.length ≤ 1000000) (hk : key.length ≤ 140737488355328) (hu : to.length ≤ 140737488355328) :
    Calls Tryz.prog 35 #[.pointer (some ⟨g, 0, none⟩), .slice K key.length ck, .slice U to.length cu] w (ItemsPost w (pickI (rangeQ l key to) S)) := by
  have HX := Lib.hid hX
  have HK := Lib.hid hK
  have HU := Lib.hid hU
  have HR := Lib.hid hr
  clear hX hK hU hr
  obtain ⟨i0, hi0, hz0, hz1, hz2⟩ := info_parts info_item
  go_enter Tryz.func35, Tryz.ntmps35
  go_wp2
  go_loopw [7, 8] (fun v i wr => ∃ k : Nat, k ≤ S.length ∧ i = .int .i64 k ∧ Hid (wr.ownsRow w.heap.size 48 2 v (pickI (rangeQ l key to) (S.take k)).length (flatC cellsI (pickI (rangeQ l key to) (S.take k)))) ∧ Hid (Below w.heap.size w wr)) (fun _ i _ => S.length - (intOf i).toNat)
  case atStart => exact ⟨0, by omega, rfl, Lib.hid (World.ownsRow_nil _ _ _ _), Lib.hid (Below.refl _ _)⟩
  case round =>
    obtain ⟨k, hkS, rfl, HO, HL⟩ := hrel
    have hsz := HL.out.size
    have RX := Lib.hid (HX.out.below HL.out)
    have q1 := RX.out.set
    by_cases hlt : k < S.length
    · have q0 := RX.out.places
      obtain ⟨ad, hA, ha, c0, c1, v0⟩ := RX.out.items.at k hlt
      subst hA
      have hll := HR.out _ (List.getElem_mem hlt)
      have hX0 : (pickI (rangeQ l key to) (S.take k)).length ≤ k := Nat.le_trans (pickI_le _ _) (by rw [List.length_take_of_le hkS]; exact Nat.le_refl _)
      have HY := Lib.hid (pickI_yes (rangeQ l key to) S k hlt)
      have HN := Lib.hid (pickI_not (rangeQ l key to) S k hlt)
      obtain ⟨x, hx⟩ : ∃ x, S[k] = x := ⟨_, rfl⟩
      rw [hx] at c0 c1 v0 hll HY HN
      clear hx
      obtain ⟨x1, x2, x3, x4⟩ := x
      simp only at c0 c1 v0 hll HY HN
      have V0 := Lib.hid v0
      have hc := fun w' (h : Below wr.heap.size wr w') => rpick_any x1 C x2 cc x3 l w' ((V0.out.below h).more h.size) ((RX.out.ints.below h).more h.size) hll hl
      unfold RPickPost at hc
      have hpl := pickL_le x3 l
      have hkq : rangeQ l key to x3 = (decide (0 ≤ cmpL (pickL x3 l) key) && decide (cmpL (pickL x3 l) to < 0)) := rfl
      obtain ⟨D, hD⟩ : ∃ D, pickL x3 l = D := ⟨_, rfl⟩
      obtain ⟨E, hE⟩ : ∃ E, pickE x3 l = E := ⟨_, rfl⟩
      simp only [hD, hE] at hc
      rw [hD] at hpl hkq
      have HC := Lib.hid hc
      obtain ⟨m, hm⟩ : ∃ m, cmpL D key = m := ⟨_, rfl⟩
      obtain ⟨n, hn⟩ : ∃ n, cmpL D to = n := ⟨_, rfl⟩
      have hmr := cmpL_range D key
      have hnr := cmpL_range D to
      rw [hm] at hkq hmr
      rw [hn] at hkq hnr
      have HQ := Lib.hid hkq
      have HM := Lib.hid hm
      have HNN := Lib.hid hn
      have hz0' : (ad.add (k * 2)).block < wr.heap.size := by rw [add_block]; exact ha
      have hg0 := RX.out.lt
      clear hc hD hE hkq hm hn v0
      obtain ⟨N, hN⟩ : ∃ N, pickI (rangeQ l key to) (S.take k) = N := ⟨_, rfl⟩
      rw [hN] at HO HY HN hX0
      clear hN
      obtain ⟨p, hp⟩ : ∃ p, ad.add (k * 2) = p := ⟨_, rfl⟩
      go_wp2_with fail
      rw [hp] at c0 c1 hz0'
      go_region_held3 (fun w' => (w'.cell? p = some (.slice x1 x3.length x2) ∧ w'.cell? ⟨g, 0, none⟩ = some (.slice C l.length cc) ∧ w'.cell? ⟨g, 1, none⟩ = some (.slice (some ad) S.length ca)) ∧ Below wr.heap.size wr w')
        (first | assumption | (refine keepP hb5 (by assumption) ?_; intro kk; exact ⟨(kk p hz0').trans c0, (kk ⟨g, 0, none⟩ hg0).trans q0, (kk ⟨g, 1, none⟩ hg0).trans q1⟩) | (exact ⟨⟨c0, q0, q1⟩, Below.drew (Below.refl _ _)⟩))
        (first | (go_at_call 32; with_reducible refine (HC.out _ ?cv).mono ?_; (case cv => exact (by assumption : _ ∧ Below wr.heap.size wr _).2); rintro e w5 ⟨Z, cz, rfl, hv5, hb5⟩))
      have M2 := Lib.hid (show Below wr.heap.size wr w5 by rename_i hS; exact hS.2)
      have V2 := Lib.hid hv5
      clear hb5 hv5 HC
      have hs := rrowCompare_any Z K cz ck D key w5 V2.out ((HK.out.below (bnext HL.out hsz M2.out)).more (bnext HL.out hsz M2.out).size) (by omega) hk
      rw [HM.out] at hs
      have HS := Lib.hid hs
      clear hs
      go_wp2_with fail
      refine HS.out.mono ?_
      rintro e w3 ⟨rfl, hb⟩
      have M3 := Lib.hid (bnext M2.out M2.out.size hb)
      have V3 := Lib.hid ((V2.out.below hb).more hb.size)
      have hs := fun w' (h : Below w3.heap.size w3 w') => rrowCompare_any Z U cz cu D to w' ((V3.out.below h).more h.size) ((HU.out.below (bnext HL.out hsz (bnext M3.out M3.out.size h))).more (bnext HL.out hsz (bnext M3.out M3.out.size h)).size) (by omega) hu
      rw [HNN.out] at hs
      have HS2 := Lib.hid (hs w3 (Below.refl _ _))
      clear hb hs HS M2 V2
      rcases hmr with rfl | rfl | rfl
      · skip
        have L3 := Lib.hid (bnext HL.out hsz M3.out)
        have O3 := Lib.hid (HO.out.kept (row := none) ⟨M3.out.os, M3.out.tape, M3.out.output, M3.out.size, fun j hj _ => M3.out.block j hj⟩ (Decidable.em _))
        have z3 := L3.out.size
        have f0 := (M3.out.cell (p := p) hz0').trans c0
        have f1 := (M3.out.cell (p := ⟨p.block, p.off + 1, none⟩) hz0').trans c1
        have f2 := (M3.out.cell (p := ⟨g, 1, none⟩) hg0).trans q1
        clear c0 c1 q0 q1 HO
        have HE2 := Lib.hid (HN.out (by rw [HQ.out]; rfl))
        go_wp2
        go_roundw
        case rel => exact ⟨k + 1, by omega, by go_num, Lib.hid (by rw [HE2.out]; exact O3.out), L3⟩
        case measure => simp [intOf]; omega
      · go_wp2_with fail
        refine HS2.out.mono ?_
        rintro e w4 ⟨rfl, hb⟩
        have M4 := Lib.hid (bnext M3.out M3.out.size hb)
        clear hb
        rcases hnr with rfl | rfl | rfl
        · skip
          have L3 := Lib.hid (bnext HL.out hsz M4.out)
          have O3 := Lib.hid (HO.out.kept (row := none) ⟨M4.out.os, M4.out.tape, M4.out.output, M4.out.size, fun j hj _ => M4.out.block j hj⟩ (Decidable.em _))
          have z3 := L3.out.size
          have f0 := (M4.out.cell (p := p) hz0').trans c0
          have f1 := (M4.out.cell (p := ⟨p.block, p.off + 1, none⟩) hz0').trans c1
          have f2 := (M4.out.cell (p := ⟨g, 1, none⟩) hg0).trans q1
          clear c0 c1 q0 q1 HO
          have HE2 := Lib.hid (HY.out (by rw [HQ.out]; rfl))
          go_wp2_with (at_builtin; refine wpList_append_own _ rfl _ _ 33 rfl w.heap.size 48 i0 (.agg #[.slice none 0 0, .int .i64 0]) 2 32 Tryz.underlying33 hi0 hz0 hz1 hz2 rfl (by decide) _ _ _ rfl (O3.out.alloc _) ⟨w4.heap.size, 0, none⟩ 1 1 (cellsI (x1, x2, x3, x4)) rfl rfl ?c1 ?c2 ?c3 ?c4 ?c5 ?_)
          case c1 => exact fun j u hu => World.news_of_block (heap_alloc_new w4 _) _ _ (by simpa [cellsI] using hu)
          case c2 => exact cellsI_one _
          case c3 => unfold maxLen; omega
          case c4 => omega
          case c5 => first | omega | (simp; omega)
          intro v' w9 hown' hgrow _
          have O4 := Lib.hid (show w9.ownsRow w.heap.size 48 2 v' (pickI (rangeQ l key to) (S.take (k + 1))).length (flatC cellsI (pickI (rangeQ l key to) (S.take (k + 1)))) by rw [HE2.out, flatC_snoc, List.length_append]; exact hown')
          have L4 := Lib.hid ((L3.out.alloc z3 _).grown hgrow (by simp; omega) (fun j hj => (O3.out.lt j hj).1))
          clear hown' hgrow
          go_wp2
          go_roundw
          case rel => exact ⟨k + 1, by omega, by go_num, O4, L4⟩
          case measure => simp [intOf]; omega
        · skip
          have L3 := Lib.hid (bnext HL.out hsz M4.out)
          have O3 := Lib.hid (HO.out.kept (row := none) ⟨M4.out.os, M4.out.tape, M4.out.output, M4.out.size, fun j hj _ => M4.out.block j hj⟩ (Decidable.em _))
          have z3 := L3.out.size
          have f0 := (M4.out.cell (p := p) hz0').trans c0
          have f1 := (M4.out.cell (p := ⟨p.block, p.off + 1, none⟩) hz0').trans c1
          have f2 := (M4.out.cell (p := ⟨g, 1, none⟩) hg0).trans q1
          clear c0 c1 q0 q1 HO
          have HE2 := Lib.hid (HN.out (by rw [HQ.out]; rfl))
          go_wp2
          go_roundw
          case rel => exact ⟨k + 1, by omega, by go_num, Lib.hid (by rw [HE2.out]; exact O3.out), L3⟩
          case measure => simp [intOf]; omega
        · skip
          have L3 := Lib.hid (bnext HL.out hsz M4.out)
          have O3 := Lib.hid (HO.out.kept (row := none) ⟨M4.out.os, M4.out.tape, M4.out.output, M4.out.size, fun j hj _ => M4.out.block j hj⟩ (Decidable.em _))
          have z3 := L3.out.size
          have f0 := (M4.out.cell (p := p) hz0').trans c0
          have f1 := (M4.out.cell (p := ⟨p.block, p.off + 1, none⟩) hz0').trans c1
          have f2 := (M4.out.cell (p := ⟨g, 1, none⟩) hg0).trans q1
          clear c0 c1 q0 q1 HO
          have HE2 := Lib.hid (HN.out (by rw [HQ.out]; rfl))
          go_wp2
          go_roundw
          case rel => exact ⟨k + 1, by omega, by go_num, Lib.hid (by rw [HE2.out]; exact O3.out), L3⟩
          case measure => simp [intOf]; omega
      · go_wp2_with fail
        refine HS2.out.mono ?_
        rintro e w4 ⟨rfl, hb⟩
        have M4 := Lib.hid (bnext M3.out M3.out.size hb)
        clear hb
        rcases hnr with rfl | rfl | rfl
        · skip
          have L3 := Lib.hid (bnext HL.out hsz M4.out)
          have O3 := Lib.hid (HO.out.kept (row := none) ⟨M4.out.os, M4.out.tape, M4.out.output, M4.out.size, fun j hj _ => M4.out.block j hj⟩ (Decidable.em _))
          have z3 := L3.out.size
          have f0 := (M4.out.cell (p := p) hz0').trans c0
          have f1 := (M4.out.cell (p := ⟨p.block, p.off + 1, none⟩) hz0').trans c1
          have f2 := (M4.out.cell (p := ⟨g, 1, none⟩) hg0).trans q1
          clear c0 c1 q0 q1 HO
          have HE2 := Lib.hid (HY.out (by rw [HQ.out]; rfl))
          go_wp2_with (at_builtin; refine wpList_append_own _ rfl _ _ 33 rfl w.heap.size 48 i0 (.agg #[.slice none 0 0, .int .i64 0]) 2 32 Tryz.underlying33 hi0 hz0 hz1 hz2 rfl (by decide) _ _ _ rfl (O3.out.alloc _) ⟨w4.heap.size, 0, none⟩ 1 1 (cellsI (x1, x2, x3, x4)) rfl rfl ?c1 ?c2 ?c3 ?c4 ?c5 ?_)
          case c1 => exact fun j u hu => World.news_of_block (heap_alloc_new w4 _) _ _ (by simpa [cellsI] using hu)
          case c2 => exact cellsI_one _
          case c3 => unfold maxLen; omega
          case c4 => omega
          case c5 => first | omega | (simp; omega)
          intro v' w9 hown' hgrow _
          have O4 := Lib.hid (show w9.ownsRow w.heap.size 48 2 v' (pickI (rangeQ l key to) (S.take (k + 1))).length (flatC cellsI (pickI (rangeQ l key to) (S.take (k + 1)))) by rw [HE2.out, flatC_snoc, List.length_append]; exact hown')
          have L4 := Lib.hid ((L3.out.alloc z3 _).grown hgrow (by simp; omega) (fun j hj => (O3.out.lt j hj).1))
          clear hown' hgrow
          go_wp2
          go_roundw
          case rel => exact ⟨k + 1, by omega, by go_num, O4, L4⟩
          case measure => simp [intOf]; omega
        · skip
          have L3 := Lib.hid (bnext HL.out hsz M4.out)
          have O3 := Lib.hid (HO.out.kept (row := none) ⟨M4.out.os, M4.out.tape, M4.out.output, M4.out.size, fun j hj _ => M4.out.block j hj⟩ (Decidable.em _))
          have z3 := L3.out.size
          have f0 := (M4.out.cell (p := p) hz0').trans c0
          have f1 := (M4.out.cell (p := ⟨p.block, p.off + 1, none⟩) hz0').trans c1
          have f2 := (M4.out.cell (p := ⟨g, 1, none⟩) hg0).trans q1
          clear c0 c1 q0 q1 HO
          have HE2 := Lib.hid (HN.out (by rw [HQ.out]; rfl))
          go_wp2
          go_roundw
          case rel => exact ⟨k + 1, by omega, by go_num, Lib.hid (by rw [HE2.out]; exact O3.out), L3⟩
          case measure => simp [intOf]; omega
        · skip
          have L3 := Lib.hid (bnext HL.out hsz M4.out)
          have O3 := Lib.hid (HO.out.kept (row := none) ⟨M4.out.os, M4.out.tape, M4.out.output, M4.out.size, fun j hj _ => M4.out.block j hj⟩ (Decidable.em _))
          have z3 := L3.out.size
          have f0 := (M4.out.cell (p := p) hz0').trans c0
          have f1 := (M4.out.cell (p := ⟨p.block, p.off + 1, none⟩) hz0').trans c1
          have f2 := (M4.out.cell (p := ⟨g, 1, none⟩) hg0).trans q1
          clear c0 c1 q0 q1 HO
          have HE2 := Lib.hid (HN.out (by rw [HQ.out]; rfl))
          go_wp2
          go_roundw
          case rel => exact ⟨k + 1, by omega, by go_num, Lib.hid (by rw [HE2.out]; exact O3.out), L3⟩
          case measure => simp [intOf]; omega
    · obtain rfl : k = S.length := by omega
      rw [List.take_length] at HO
      go_wp2
      go_ret
      exact itemsPost_own HO.out (fun x hx => HX.out.items.2 x (pickI_mem hx)) HL.out
end Go.Proofs.YtjjikooabmddlaaGreatDoor.Items
