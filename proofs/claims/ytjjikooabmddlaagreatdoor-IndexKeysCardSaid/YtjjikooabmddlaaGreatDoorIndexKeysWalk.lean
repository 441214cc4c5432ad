/-
  The walk of instarlaw07.IndexKeys.
-/
import Derived.Test.YtjjikooabmddlaaGreatDoorIdxCount
import Derived.Test.YtjjikooabmddlaaGreatDoorM32
import Derived.Test.YtjjikooabmddlaaGreatDoorZGet
import Derived.Test.YtjjikooabmddlaaGreatDoorZNeg
import Derived.Deep.AppendLies
namespace Go.Proofs.YtjjikooabmddlaaGreatDoor.indexKeys
open Go.ChangeShapes Go.WideShapes Go.ChangeAt Go.RowKit Val Go.Proofs.YtjjikooabmddlaaGreatDoor.Code Go.Proofs.YtjjikooabmddlaaGreatDoor.Elems Go.Proofs.YtjjikooabmddlaaGreatDoor.ZP Go.Proofs.YtjjikooabmddlaaGreatDoor.MapSl Go.Proofs.YtjjikooabmddlaaGreatDoor.Items
set_option linter.unusedVariables false
set_option maxRecDepth 100000
/-- a sum of small items, and what is known of it -/
theorem of_small {L s : List It} (hF : FitI L) (h : ofL L = s) (hs : smallI L = true) : FitI s ∧ s.length ≤ 30 ∧ RightP (pl s) ∧ IsSet (pl s) := by
  subst h
  have h1 := rightI_set (ofL_right L)
  refine ⟨fun y hy => ⟨ofL_rows (P := FitL) (fun z hz => (hF z hz).1) y hy, ofL_weights _ y hy⟩, Nat.le_trans (ofL_length _) (smallI_le hs), fun x hx => ?_, h1.2⟩
  obtain ⟨y, hy, rfl⟩ := List.mem_map.1 hx
  exact h1.1 y hy
theorem right_24 {s : List It} (h : RightP (pl s)) : ∀ x ∈ s, x.2.2.1.length ≤ 24 := fun x hx => by
  have := h (pu x) (List.mem_map.2 ⟨x, hx, rfl⟩)
  unfold rightR at this
  rw [Bool.and_eq_true, decide_eq_true_eq] at this
  exact this.1
/-- the first set is put: either it has a row without a place, or it is the set -/
theorem put_first {w w' : World} {p : Nat} {C : Option Addr} {cc : Nat} {l : List Int} {s : List It} {e : Ending} (hF : FitI s) (hR : RightP (pl s)) (hS : IsSet (pl s)) (hX : Idx w p none C cc l []) (h : PutPost w p none C cc l [] s e w') :
    (okI l s = false ∧ e = .returned (.int .i64 51) ∧ Idx w' p none C cc l [] ∧ Below w.heap.size w w') ∨ (okI l s = true ∧ e = .returned (.int .i64 0) ∧ ∃ mo, Idx w' p mo C cc l (pl s) ∧ Chg w w' (badOf p none) ∧ (∀ b, mo = some b → w.heap.size ≤ b)) := by
  rcases h with ⟨h1, h2, h3⟩ | ⟨_, h2, _⟩ | ⟨h1, _, h3, T, mo, hT, hX', hc, hd⟩
  · exact .inl ⟨h1, h2, hX.below h3, h3⟩
  · exfalso
    refine h2 ?_
    rw [List.nil_append]
    exact set_fit hS fun x hx => by
      obtain ⟨y, hy, rfl⟩ := List.mem_map.1 hx
      exact (hF y hy).2
  · rw [List.nil_append] at hT
    have : T = pl s := hT.eq (sum_self hS)
    rw [this] at hX'
    refine .inr ⟨h1, h3, mo, hX', hc, fun b e => ?_⟩
    rcases hd with h | ⟨_, h⟩
    · rw [h] at e; cases e
    · exact h b e
/-- two lists of one item -/
theorem same_one (w : World) (a b : It) (va : Vals w w.heap.size a.1 a.2.2.1) (vb : Vals w w.heap.size b.1 b.2.2.1) (la : a.2.2.1.length ≤ 24) (lb : b.2.2.1.length ≤ 24) : ∀ (V : World) (i j : Nat), Below w.heap.size w V → V.heap[i]? = some (.cells #[.slice a.1 a.2.2.1.length a.2.1, .int .i64 a.2.2.2] 48 (0, 0)) → V.heap[j]? = some (.cells #[.slice b.1 b.2.2.1.length b.2.1, .int .i64 b.2.2.2] 48 (0, 0)) →
    Calls Tryz.prog 19 #[.slice (some ⟨i, 0, none⟩) 1 1, .slice (some ⟨j, 0, none⟩) 1 1] V fun e w' => e = .returned (.bool (decide (pu a = pu b))) ∧ Below V.heap.size V w' := by
  intro V i j hb hi hj
  have one : ∀ (i : Nat) (a : It), Vals w w.heap.size a.1 a.2.2.1 → V.heap[i]? = some (.cells #[.slice a.1 a.2.2.1.length a.2.1, .int .i64 a.2.2.2] 48 (0, 0)) → Items V V.heap.size (some ⟨i, 0, none⟩) [a] := by
    intro i a va hi
    have hlt : i < V.heap.size := (Array.getElem?_eq_some_iff.1 hi).1
    refine ⟨fun k hk => ⟨_, rfl, hlt, fun j u hu => ?_⟩, fun x hx => ?_⟩
    · match k, hk with
      | 0, _ => match j, hu with
        | 0, hu => exact (cell_of_row V i 0 _ _ _ hi).trans hu
        | 1, hu => exact (cell_of_row V i 1 _ _ _ hi).trans hu
    · rw [List.mem_singleton.1 hx]
      exact (va.below hb).more hb.size
  have h := isame_any (some ⟨i, 0, none⟩) (some ⟨j, 0, none⟩) 1 1 [a] [b] V (one i a va hi) (one j b vb hj) (by simp) (by simp) (fun x hx => by rw [List.mem_singleton.1 hx]; omega) (fun x hx => by rw [List.mem_singleton.1 hx]; omega)
  have e : decide (pl [a] = pl [b]) = decide (pu a = pu b) := by
    refine decide_eq_decide.2 ?_
    simp [pl]
  rw [e] at h
  exact h
theorem two_first (w : World) (o1 o2 : Obj) : (((w.alloc o1).alloc o2).drew).heap[w.heap.size]? = some o1 := by
  show ((w.alloc o1).alloc o2).heap[w.heap.size]? = some o1
  exact (Below.heap_alloc _ _ _ (by simp)).trans (heap_alloc_new w o1)
theorem two_second (w : World) (o1 o2 : Obj) : (((w.alloc o1).alloc o2).drew).heap[w.heap.size + 1]? = some o2 := by
  show ((w.alloc o1).alloc o2).heap[w.heap.size + 1]? = some o2
  have := heap_alloc_new (w.alloc o1) o2
  rwa [World.size_alloc] at this
/-- what a row adds to the count -/
theorem first_is {S G : PL} {l : List Int} {x m0 : List (Int × Int × ByteArray) × Int} {M : PL} (hG : G = S.filter fun y => keyQ l (pickL x.1 l) y.1) (hM : G = m0 :: M) : firstN (fun y => pickL y.1 l) S x = if decide (m0 = x) = true then G.length else 0 := by
  unfold firstN
  have e : (S.filter fun y => decide (pickL y.1 l = pickL x.1 l)) = G := by rw [hG]; rfl
  rw [e, hM]
  by_cases h : m0 = x <;> simp [h]
/-- the set turned about: nothing of it, or all of it -/
theorem neg_of {s N : List It} (hF : FitI s) (hN : pl N = pl (negI s)) : (negIE s = 0 ∧ pl N = negP (pl s) ∧ FitI N ∧ N.length = s.length) ∨ (negIE s = 11 ∧ N = []) := by
  unfold negI at hN
  unfold negIE
  by_cases h : okN s = true
  · rw [if_pos h] at hN ⊢
    rw [pl_neg] at hN
    refine .inl ⟨rfl, hN, fun x hx => ?_, ?_⟩
    · have h1 : pu x ∈ negP (pl s) := by rw [← hN]; exact List.mem_map.2 ⟨x, hx, rfl⟩
      obtain ⟨y, hy, e⟩ := List.mem_map.1 h1
      obtain ⟨z, hz, rfl⟩ := List.mem_map.1 hy
      have h2 := hF z hz
      have h3 := List.all_eq_true.1 h z hz
      rw [decide_eq_true_eq] at h3
      have e1 : x.2.2.1 = z.2.2.1 := (congrArg Prod.fst e).symm
      have e2 : x.2.2.2 = -z.2.2.2 := (congrArg Prod.snd e).symm
      rw [e1, e2]
      refine ⟨h2.1, ?_⟩
      have h4 := h2.2
      unfold fits at h4 ⊢
      omega
    · rw [← pl_length N, hN]
      unfold negP
      rw [List.length_map, pl_length]
  · rw [if_neg h] at hN ⊢
    refine .inr ⟨rfl, ?_⟩
    have := congrArg List.length hN
    rw [pl_length] at this
    exact List.eq_nil_of_length_eq_zero (by simpa [pl] using this)
theorem neg_rows {s N : List It} {l : List Int} (hN : pl N = negP (pl s)) (hok : okI l s = true) (hr : RightP (pl s)) : okI l N = true ∧ ∀ x ∈ N, x.2.2.1.length ≤ 24 := by
  have hm : ∀ x ∈ N, ∃ z ∈ s, x.2.2.1 = z.2.2.1 := fun x hx => by
    have h1 : pu x ∈ negP (pl s) := by rw [← hN]; exact List.mem_map.2 ⟨x, hx, rfl⟩
    obtain ⟨y, hy, e⟩ := List.mem_map.1 h1
    obtain ⟨z, hz, rfl⟩ := List.mem_map.1 hy
    exact ⟨z, hz, (congrArg Prod.fst e).symm⟩
  constructor
  · unfold okI at hok ⊢
    rw [List.all_eq_true] at hok ⊢
    intro x hx
    obtain ⟨z, hz, e⟩ := hm x hx
    have := hok z hz
    unfold okX at this ⊢
    rwa [e]
  · intro x hx
    obtain ⟨z, hz, e⟩ := hm x hx
    rw [e]
    exact right_24 hr z hz
/-- what was put is put turned about: nothing is left -/
theorem put_neg {w w' : World} {p : Nat} {mo : Option Nat} {C : Option Addr} {cc : Nat} {l : List Int} {s N : List It} {e : Ending} (hN : pl N = negP (pl s)) (hok : okI l s = true) (hr : RightP (pl s)) (h : PutPost w p mo C cc l (pl s) N e w') :
    e = .returned (.int .i64 0) ∧ ∃ mo', Idx w' p mo' C cc l [] ∧ Chg w w' (badOf p mo) := by
  have hz : ∀ r, weightP (pl s ++ pl N) r = 0 := fun r => by rw [weightP_append, hN, neg_weight]; omega
  rcases h with ⟨h, _⟩ | ⟨_, h, _⟩ | ⟨_, _, he, T, mo', hT, hX, hc, _⟩
  · rw [(neg_rows hN hok hr).1] at h; cases h
  · exact absurd (fun r => by rw [hz r]; unfold fits; omega) h
  · have : T = [] := hT.eq ⟨IsSet.nil, fun r => by rw [hz r]; rfl⟩
    rw [this] at hX
    exact ⟨he, mo', hX, hc⟩
theorem put_some {w w' : World} {p : Nat} {mo : Option Nat} {C : Option Addr} {cc : Nat} {l : List Int} {S : PL} {N : List It} {e : Ending} (h : PutPost w p mo C cc l S N e w') : ∃ v, e = .returned (.int .i64 v) ∧ Chg w w' (badOf p mo) := by
  rcases h with ⟨_, he, hb⟩ | ⟨_, _, he, hb⟩ | ⟨_, _, he, _, _, _, _, hc, _⟩
  · exact ⟨_, he, Chg.of hb _⟩
  · exact ⟨_, he, Chg.of hb _⟩
  · exact ⟨_, he, hc⟩
set_option maxHeartbeats 16000000 in
theorem walk (A0 : Option Addr) (c0 : Nat) (l : List Int) (A1 : Option Addr) (c1 : Nat) (L1 : List It) (m : Int) (w : World)
    (x0 : Ints w w.heap.size A0 l ∧ l.length ≤ 17592186044416) (x1 : Items w w.heap.size A1 L1 ∧ FitI L1 ∧ LongI L1 ∧ L1.length ≤ 4398046510976)
    (hm : w.cell? ⟨0, 0, none⟩ = some (.int .i64 m)) :
    Calls Tryz.prog 4 #[.slice A0 l.length c0, .slice A1 L1.length c1] w fun e w' => e = .returned (.bool true) ∧ Below w.heap.size w w' := by
  obtain ⟨hi, hi2⟩ := x0
  obtain ⟨hI1, hF1, hL1, hn1⟩ := x1
  have HI := Lib.hid hi
  have HM := Lib.hid hm
  have HS1 := Lib.hid (smallI_any A1 c1 L1 w hI1 hL1 (by omega))
  have hof := iof_any A1 c1 L1 w hI1 hF1 hn1 (fun y hy => Nat.le_trans (hL1 y hy).1 (by omega))
  obtain ⟨b0, hb0⟩ : ∃ b, smallI L1 = b := ⟨_, rfl⟩
  rw [hb0] at HS1
  obtain ⟨s, hs1⟩ : ∃ s, ofL L1 = s := ⟨_, rfl⟩
  obtain ⟨E1, hE1⟩ : ∃ E, ofE L1 = E := ⟨_, rfl⟩
  rw [hs1, hE1] at hof
  have HO1 := Lib.hid hof
  have HT1 := Lib.hid (fun h : b0 = true => of_small hF1 hs1 (hb0.trans h))
  clear hof hi hI1 hF1 hL1 hm hb0 hs1 hE1
  obtain ⟨n, hn⟩ : ∃ n, s.length = n := ⟨_, rfl⟩
  go_enter Tryz.func4, Tryz.ntmps4
  go_wp2_with fail
  refine HS1.out.mono ?_
  rintro e w1 ⟨rfl, rfl⟩
  clear HS1
  go_wp2_with fail
  refine HO1.out.mono ?_
  rintro e w1 ⟨B1, cb1, rfl, i1, lb1⟩
  rw [hn]
  have LB1 := Lib.hid lb1
  have I1 := Lib.hid i1
  have HNW := Lib.hid (new_any A0 c0 l w1 ((HI.out.below lb1).more lb1.size) hi2)
  clear lb1 i1 HO1
  go_wp2_with fail
  refine HNW.out.mono ?_
  rintro e w3 ⟨p, C, cc, rfl, hp, hX, lb3⟩
  have LB3 := Lib.hid (bnext LB1.out LB1.out.size lb3)
  have J1 := Lib.hid (I1.out.next lb3)
  have X3 := Lib.hid hX
  have HP := Lib.hid (Nat.le_trans LB1.out.size hp)
  have HM3 := Lib.hid ((LB3.out.cell (p := ⟨0, 0, none⟩) (World.block_lt_of_cell? _ _ HM.out)).trans HM.out)
  clear hX hp lb3 HNW I1 LB1
  by_cases hgo : (b0 && (E1 == 0)) = true ∧ l.length ≤ 12
  · obtain ⟨hbb, hl12⟩ := hgo
    simp only [Bool.and_eq_true, beq_iff_eq] at hbb
    obtain ⟨rfl, rfl⟩ := hbb
    have hd : decide (12 < l.length) = false := by simpa using hl12
    obtain ⟨fs1, ns1, rp1, st1⟩ := HT1.out rfl
    have HFS := Lib.hid fs1
    have HRP := Lib.hid rp1
    have HST := Lib.hid st1
    have hPut := xput_any p none C cc l [] B1 cb1 s m w3 X3.out J1.out fs1 (by omega) (by simp) (fun x hx => Nat.le_trans (right_24 rp1 x hx) (by omega)) (by omega) HM3.out
    rw [hn] at hPut
    have HPut := Lib.hid hPut
    clear hPut fs1 rp1 st1
    go_wp2_with fail
    refine HPut.out.mono ?_
    rintro e w4 hP4
    rcases put_first HFS.out HRP.out HST.out X3.out hP4 with ⟨hok, he4, x4, lb4⟩ | ⟨hok, he4, mo, x4, hc4, hmo⟩
    · obtain ⟨E4, hE4, hne4⟩ : ∃ E : Int, E = 51 ∧ (E != 0) = true := ⟨51, rfl, rfl⟩
      have heq4 : (E4 == 51) = true := by rw [hE4]; rfl
      rw [← hE4] at he4
      subst he4
      have LB4 := Lib.hid (bnext LB3.out LB3.out.size lb4)
      have X4 := Lib.hid x4
      have HAL := Lib.hid (ialive_any m w4 ((LB4.out.cell (p := ⟨0, 0, none⟩) (World.block_lt_of_cell? _ _ HM.out)).trans HM.out))
      clear hP4 hok x4 lb4 hE4 HPut
      go_wp2_with fail
      refine HAL.out.mono ?_
      rintro e w5 ⟨rfl, lb5⟩
      have LB5 := Lib.hid (bnext LB4.out LB4.out.size lb5)
      have X5 := Lib.hid (X4.out.below lb5)
      have HA6 := Lib.hid (all_any own_does p none C cc l [] w5 X5.out (by omega) (by simp))
      clear lb5 HAL X4 LB4
      go_wp2_with fail
      refine HA6.out.mono ?_
      rintro e w6 hT6
      obtain ⟨A6, c6, he6, lb6⟩ := tell_n hT6
      subst he6
      have LB6 := Lib.hid (bnext LB5.out LB5.out.size lb6)
      have X6 := Lib.hid (X5.out.below lb6)
      have HK7 := Lib.hid (keys_any p none C cc l [] w6 X6.out)
      clear hT6 lb6 HA6 X5 LB5
      go_wp2_with fail
      refine HK7.out.mono ?_
      rintro e w7 ⟨rfl, rfl⟩
      go_wp2
      go_ret
      exact ⟨rfl, LB6.out⟩
    · subst he4
      have hbl4 : ∀ k, badOf p none k → w.heap.size ≤ k := fun k hk => by
        rcases hk with rfl | hk
        · exact HP.out
        · cases hk
      have LB4 := Lib.hid (LB3.out.trans (hc4.below LB3.out.size hbl4))
      have J4 := Lib.hid (items_but J1.out hc4 X3.out.plain)
      have X4 := Lib.hid x4
      have HMO := Lib.hid (fun b e => Nat.le_trans LB3.out.size (hmo b e))
      have HOK := Lib.hid hok
      clear hP4 hok x4 hc4 hmo hbl4 HPut X3 J1 LB3
      obtain ⟨W, hW⟩ : ∃ W, w4.alloc (.cells #[.slice A0 l.length c0, .slice B1 n cb1] 35) = W := ⟨_, rfl⟩
      have lbW : Below w4.heap.size w4 W := hW ▸ below_alloc w4 _
      have hRW : RIdx W w4.heap.size A0 c0 l B1 cb1 s := ⟨by rw [← hW, hn]; exact heap_alloc_new w4 _, ((HI.out.below LB4.out).more LB4.out.size).below lbW |>.more lbW.size, J4.out.next lbW⟩
      have HR := Lib.hid hRW
      have HX := Lib.hid (X4.out.below lbW)
      have LBW := Lib.hid (bnext LB4.out LB4.out.size lbW)
      obtain ⟨g, hg⟩ : ∃ g, w4.heap.size = g := ⟨_, rfl⟩
      rw [hg] at HR
      have HGB := Lib.hid (show w.heap.size ≤ g from hg ▸ LB4.out.size)
      clear lbW hRW X4 J4 LB4
      go_wp2_with fail
      go_loopw [11, 12] (fun c i wr => ∃ k : Nat, k ≤ n ∧ i = .int .i64 k ∧ c = .int .i64 ((sumN (firstN (fun x => pickL x.1 l) (pl s)) ((pl s).take k) : Nat) : Int) ∧ Hid (Below W.heap.size W wr)) (fun _ i _ => n - (intOf i).toNat)
      case atStart => exact ⟨0, by omega, rfl, rfl, Lib.hid (Below.refl _ _)⟩
      case round =>
        obtain ⟨k, hkn, rfl, rfl, HL⟩ := hrel
        by_cases hlt : k < n
        · have hks : k < s.length := by omega
          obtain ⟨ad, hA, ha, d0, d1, v0⟩ := HR.out.items.at k hks
          subst hA
          have hx24 := right_24 HRP.out _ (List.getElem_mem hks)
          have hok := List.all_eq_true.1 HOK.out _ (List.getElem_mem hks)
          have hfx := (HFS.out _ (List.getElem_mem hks)).1
          have hxs := List.getElem_mem hks
          have hsn := pl_snoc s k hks
          obtain ⟨x, hx⟩ : ∃ x, s[k] = x := ⟨_, rfl⟩
          rw [hx] at d0 d1 v0 hx24 hok hfx hxs hsn
          clear hx
          obtain ⟨x1, x2, x3, x4⟩ := x
          simp only at d0 d1 v0 hx24 hfx
          unfold okX at hok
          simp only [Bool.and_eq_true] at hok
          have HOP := Lib.hid hok.1
          have HFX := Lib.hid hfx
          have HXS := Lib.hid hxs
          have HSN := Lib.hid hsn
          have V0 := Lib.hid v0
          obtain ⟨cn, hcn⟩ : ∃ cn, sumN (firstN (fun x => pickL x.1 l) (pl s)) ((pl s).take k) = cn := ⟨_, rfl⟩
          rw [hcn]
          have HCN := Lib.hid hcn
          have D0 := Lib.hid (fun (w' : World) (h : Below W.heap.size W w') => (h.cell (p := ad.add (k * 2)) (by rw [add_block]; exact ha)).trans d0)
          have D1 := Lib.hid (fun (w' : World) (h : Below W.heap.size W w') => (h.cell (p := ⟨(ad.add (k * 2)).block, (ad.add (k * 2)).off + 1, none⟩) (by show (ad.add (k * 2)).block < _; rw [add_block]; exact ha)).trans d1)
          obtain ⟨q, hq⟩ : ∃ q, ad.add (k * 2) = q := ⟨_, rfl⟩
          rw [hq] at D0 D1
          clear hok hfx hxs hsn hcn v0 d0 d1
          go_wp2_with fail
          go_loopw [13] (fun i wv => ∃ j : Nat, j ≤ l.length ∧ i = .int .i64 j ∧ Hid (Below W.heap.size W wv)) (fun i _ => l.length - (intOf i).toNat)
          case atStart => exact ⟨0, by omega, rfl, HL⟩
          case round =>
            obtain ⟨j, hj, rfl, HV⟩ := hrel
            have q0 := D0.out _ HV.out
            by_cases hjl : j < l.length
            · obtain ⟨ae, hA, hae, h0⟩ := HR.out.ints j hjl
              subst hA
              have q1 := (HV.out.cell (p := ae.add j) (by rw [add_block]; exact hae)).trans h0
              have hin := HOP.out
              unfold okP at hin
              rw [List.all_eq_true] at hin
              have hin2 := hin _ (List.getElem_mem hjl)
              rw [Bool.and_eq_true, decide_eq_true_eq, decide_eq_true_eq] at hin2
              obtain ⟨nj, hnj⟩ : ∃ nj, l[j] = nj := ⟨_, rfl⟩
              rw [hnj] at q1 hin2
              obtain ⟨hj0, hj1⟩ := hin2
              have e0 : decide (nj < 0) = false := by simp; omega
              have e1 : decide ((x3.length : Int) ≤ nj) = false := by simp; omega
              clear hin hnj h0
              obtain ⟨qa, hqa⟩ : ∃ qa, ae.add j = qa := ⟨_, rfl⟩
              rw [hqa] at q1
              go_wp2_with fail
              go_quiet (fail)
              go_wp2
              go_roundw
              case rel => exact ⟨j + 1, by omega, by go_num, Lib.hid (Bits.below_drewN HV.out _)⟩
              case measure => simp [intOf]; omega
            · obtain rfl : j = l.length := by omega
              clear q0
              rename World => w6
              have hsz6 := HV.out.size
              go_wp2_with fail
              go_loopw [14, 15] (fun v i wv => ∃ j : Nat, j ≤ l.length ∧ i = .int .i64 j ∧ Hid (wv.ownsRow W.heap.size 51 3 v j (flat (valsP x3 (l.take j)))) ∧ Hid (Below W.heap.size W wv)) (fun _ i _ => l.length - (intOf i).toNat)
              case atStart => exact ⟨0, by omega, rfl, Lib.hid (World.ownsRow_nil _ _ _ _), HV⟩
              case round =>
                obtain ⟨j, hj, rfl, HO, HU⟩ := hrel
                have q0 := D0.out _ HU.out
                by_cases hjl : j < l.length
                · obtain ⟨ae, hA, hae, h0⟩ := HR.out.ints j hjl
                  subst hA
                  have q1 := (HU.out.cell (p := ae.add j) (by rw [add_block]; exact hae)).trans h0
                  have hin := HOP.out
                  unfold okP at hin
                  rw [List.all_eq_true] at hin
                  have hin2 := hin _ (List.getElem_mem hjl)
                  rw [Bool.and_eq_true, decide_eq_true_eq, decide_eq_true_eq] at hin2
                  obtain ⟨nj, hnj⟩ : ∃ nj, l[j] = nj := ⟨_, rfl⟩
                  rw [hnj] at q1 hin2
                  obtain ⟨mj, rfl⟩ : ∃ mj : Nat, nj = mj := ⟨nj.toNat, by omega⟩
                  have hmx : mj < x3.length := by omega
                  have HVS := Lib.hid (valsP_snoc x3 l j mj hjl hnj hmx)
                  have hnj2 : l[j] = (mj : Int) := hnj
                  obtain ⟨af, hAf, haf, r0, r1, r2⟩ := V0.out mj hmx
                  subst hAf
                  obtain ⟨y, hy⟩ : ∃ y, x3[mj] = y := ⟨_, rfl⟩
                  rw [hy] at r0 r1 r2 HVS
                  obtain ⟨y1, y2, y3⟩ := y
                  simp only at r0 r1 r2
                  obtain ⟨qa, hqa⟩ : ∃ qa, ae.add j = qa := ⟨_, rfl⟩
                  obtain ⟨qf, hqf⟩ : ∃ qf, af.add (mj * 3) = qf := ⟨_, rfl⟩
                  have hba : qa.block < W.heap.size := by rw [← hqa, add_block]; exact hae
                  have hbf : qf.block < W.heap.size := by rw [← hqf, add_block]; exact haf
                  rw [hqa] at h0
                  rw [hqf] at r0 r1 r2
                  have FQ := Lib.hid (fun (w' : World) (h : Below W.heap.size W w') => show w'.cell? q = some (.slice (some af) x3.length x2) ∧ w'.cell? qa = some (.int .i64 (mj : Int)) ∧ w'.cell? qf = some (.int .i64 y1) ∧ w'.cell? ⟨qf.block, qf.off + 1, none⟩ = some (.int .i64 y2) ∧ w'.cell? ⟨qf.block, qf.off + 2, none⟩ = some (.string y3) from
                    ⟨D0.out w' h, (h.cell (p := qa) hba).trans (h0.trans (by rw [hnj2])), (h.cell (p := qf) hbf).trans r0, (h.cell (p := ⟨qf.block, qf.off + 1, none⟩) hbf).trans r1, (h.cell (p := ⟨qf.block, qf.off + 2, none⟩) hbf).trans r2⟩)
                  obtain ⟨k0, k1, k2, k3, k4⟩ := FQ.out _ HU.out
                  have hszU := HU.out.size
                  have bi0 : (0 : Int) ≤ (mj : Int) := by omega
                  have bi1 : (mj : Int) < (x3.length : Int) := by omega
                  have bi2 : (0 : Int) ≤ (j : Int) := by omega
                  have bi3 : (j : Int) < (l.length : Int) := by omega
                  have bi4 : (0 : Int) ≤ (k : Int) := by omega
                  have bi5 : (k : Int) < (n : Int) := by omega
                  clear hin hin2 h0 r0 r1 r2 hy q0 q1
                  obtain ⟨j0, hj0, hy0, hy1, hy2⟩ := info_parts info_val
                  go_wp2_with fail
                  go_region_held3 (fun w' => (w'.cell? q = some (.slice (some af) x3.length x2) ∧ w'.cell? qa = some (.int .i64 (mj : Int)) ∧ w'.cell? qf = some (.int .i64 y1) ∧ w'.cell? ⟨qf.block, qf.off + 1, none⟩ = some (.int .i64 y2) ∧ w'.cell? ⟨qf.block, qf.off + 2, none⟩ = some (.string y3)) ∧ Below W.heap.size W w')
                    (first | assumption | (exact ⟨FQ.out _ HU.out.drew, HU.out.drew⟩) | (exact ⟨FQ.out _ (HU.out.alloc hszU _).drew, (HU.out.alloc hszU _).drew⟩) | (have hB := ((HU.out.alloc hszU _).drew).grown hgrow (by simp; omega) (fun j hj => (HO.out.lt j hj).1); exact ⟨FQ.out _ hB, hB⟩))
                    ((refine step_append_lies _ (by rfl) _ _ _ (by rfl) W.heap.size 51 j0 _ 3 32 Tryz.underlying25 hj0 hy0 hy1 hy2 rfl (by omega) u14 j (flat (valsP x3 (l.take j))) (by rfl) ((HO.out.alloc _).drew) ⟨wr.heap.size, 0, none⟩ 1 1 [.int .i64 y1, .int .i64 y2, .string y3] (by rfl) (by rfl) (World.news_of_block (cs := #[.int .i64 y1, .int .i64 y2, .string y3]) (t := 51) (fr := (0, 0)) (heap_alloc_new wr _)) (by simp [Value.oneCell']) (by omega) (by unfold maxLen; omega) (by omega) (by simp; omega) (wr.heap.size + 1) (by simp) ?_; intro gg cap9 w9 hown9 hgrow hat hlt9))
                  have B9 := Lib.hid (show Below W.heap.size W w9 by rename_i hS; exact hS.2)
                  have O9 := Lib.hid (show w9.ownsRow W.heap.size 51 3 (.slice (some ⟨gg, 0, none⟩) (j + 1) cap9) (j + 1) (flat (valsP x3 (l.take (j + 1)))) by rw [HVS.out, flat_snoc]; exact hown9)
                  clear hown9 hgrow hat hlt9 k0 k1 k2 k3 k4 FQ HVS
                  go_wp2
                  go_roundw
                  case rel => exact ⟨j + 1, by omega, by go_num, O9, B9⟩
                  case measure => simp [intOf]; omega
                · obtain rfl : j = l.length := by omega
                  rename World => w7
                  have hD0 : pickL x3 l = valsP x3 l := by unfold pickL; rw [HOP.out]; rfl
                  have hO := HO.out
                  rw [List.take_length] at hO
                  have hvl : (valsP x3 l).length = l.length := valsP_length x3 l
                  have hfd : FitL (pickL x3 l) := pick_fit HFX.out
                  rw [← hvl] at hO
                  obtain ⟨Z, cz, hu, hvz⟩ := own_vals hO
                  have HG0 := Lib.hid (rfl : ((pl s).filter fun y => keyQ l (pickL x3 l) y.1) = (pl s).filter fun y => keyQ l (pickL x3 l) y.1)
                  rw [← hD0] at hu hvz hvl
                  obtain ⟨D, hD⟩ : ∃ D, pickL x3 l = D := ⟨_, rfl⟩
                  rw [hD] at hu hvz hvl hfd HG0
                  subst hu
                  have HDD := Lib.hid hD
                  have HF8 := Lib.hid (find_any p mo C cc l (pl s) Z cz D m w7 (HX.out.below HU.out) (by omega) (by rw [pl_length]; omega) hvz hfd (by omega) ((HU.out.cell (p := ⟨0, 0, none⟩) (by exact Nat.lt_of_lt_of_le (World.block_lt_of_cell? _ _ HM.out) LBW.out.size)).trans ((LBW.out.cell (p := ⟨0, 0, none⟩) (World.block_lt_of_cell? _ _ HM.out)).trans HM.out)))
                  have HVL := Lib.hid hvl
                  clear hD0 hO hfd hvz hD HO q0 hvl
                  go_wp2_with fail
                  refine HF8.out.mono ?_
                  rintro e w8 hT8
                  obtain ⟨A8, c8, M8, rfl, i8, _, q8, lb8⟩ := hT8.items
                  have L8 := Lib.hid (bnext HU.out HU.out.size lb8)
                  have hmem : (x3, x4) ∈ pl M8 := by
                    rw [q8, List.mem_filter]
                    exact ⟨List.mem_map.2 ⟨_, HXS.out, rfl⟩, by unfold keyQ; rw [HDD.out]; simp⟩
                  have hset8 : IsSet (pl M8) := by rw [q8]; exact set_sub HST.out List.filter_sublist
                  have hw8 : weightP (pl M8) x3 = x4 := mem_weight hset8 (x3, x4) hmem
                  have hr8 : RightP (pl M8) := by rw [q8]; exact right_filter HRP.out _
                  have hl8 : M8.length ≤ 30 := by
                    rw [← pl_length M8, q8]
                    refine Nat.le_trans (List.length_filter_le _ _) ?_
                    rw [pl_length]
                    omega
                  have hget := fun w' (h : Below w8.heap.size w8 w') => zget_any A8 x1 c8 x2 M8 x3 w' (i8.next h) (((V0.out.below L8.out).more L8.out.size).below h |>.more h.size) hset8 (right_len hr8) (by omega) (by omega)
                  rw [hw8] at hget
                  obtain ⟨m0, M', rfl⟩ : ∃ m0 M', M8 = m0 :: M' := by
                    cases M8 with
                    | nil => cases hmem
                    | cons m0 M' => exact ⟨m0, M', rfl⟩
                  have hm24 := right_24 hr8 m0 (by simp)
                  have hfi := first_is (S := pl s) (G := pl (m0 :: M')) (l := l) (x := (x3, x4)) (m0 := pu m0) (M := pl M') (by rw [q8]; simp only [HDD.out]) rfl
                  rw [pl_length] at hfi
                  obtain ⟨n8, hn8⟩ : ∃ n8, (m0 :: M').length = n8 := ⟨_, rfl⟩
                  have hn8p : 0 < n8 := by rw [← hn8]; simp
                  rw [hn8] at hget hl8 hfi ⊢
                  obtain ⟨a8, hA8, ha8, b0, b1, vb⟩ := i8.at 0 (by simp)
                  subst hA8
                  obtain ⟨y1, y2, y3, y4⟩ := m0
                  simp only [List.getElem_cons_zero] at b0 b1 vb hm24
                  have haa : a8.add (0 * 2) = a8 := by simp [Addr.add]
                  rw [haa] at b0 b1
                  have HGT := Lib.hid hget
                  have HFI := Lib.hid hfi
                  have VB := Lib.hid vb
                  have g0 := D0.out _ L8.out
                  have g1 := D1.out _ L8.out
                  have hqW : q.block < W.heap.size := by rw [← hq, add_block]; exact ha
                  have hq8 : q.block < w8.heap.size := Nat.lt_of_lt_of_le hqW L8.out.size
                  clear hT8 i8 q8 lb8 hmem hset8 hw8 hr8 hget hfi haa vb HF8 hn8
                  go_wp2_with fail
                  go_region_held3 (fun w' => (w'.cell? q = some (.slice x1 x3.length x2) ∧ w'.cell? ⟨q.block, q.off + 1, none⟩ = some (.int .i64 x4)) ∧ Below w8.heap.size w8 w')
                    (first | assumption | (refine keepP hb9 (by assumption) ?_; intro kk; exact ⟨(kk q hq8).trans g0, (kk ⟨q.block, q.off + 1, none⟩ hq8).trans g1⟩) | (exact ⟨⟨g0, g1⟩, Below.drew (Below.refl _ _)⟩))
                    (first | (go_at_call 18; with_reducible refine (HGT.out _ ?cv).mono ?_; (case cv => exact (by assumption : _ ∧ Below w8.heap.size w8 _).2); rintro e w9 ⟨rfl, hb9⟩))
                  have B89 := Lib.hid (show Below w8.heap.size w8 w9 by rename_i hS; exact hS.2)
                  have L9 := Lib.hid (bnext L8.out L8.out.size B89.out)
                  have HS1 := Lib.hid (same_one w9 (y1, y2, y3, y4) (x1, x2, x3, x4) ((VB.out.below B89.out).more B89.out.size) ((V0.out.below L9.out).more L9.out.size) hm24 hx24)
                  have e0 := (B89.out.cell (p := a8) ha8).trans b0
                  have e1 := (B89.out.cell (p := ⟨a8.block, a8.off + 1, none⟩) ha8).trans b1
                  have e2 := (B89.out.cell (p := q) hq8).trans g0
                  have e3 := (B89.out.cell (p := ⟨q.block, q.off + 1, none⟩) hq8).trans g1
                  have ha9 : a8.block < w9.heap.size := Nat.lt_of_lt_of_le ha8 B89.out.size
                  have hq9 : q.block < w9.heap.size := Nat.lt_of_lt_of_le hq8 B89.out.size
                  have hgt : decide ((0 : Int) < (n8 : Int)) = true := by simp; omega
                  have hgt2 : decide (0 < n8) = true := by simp; omega
                  obtain ⟨z, hz⟩ : ∃ z, decide (pu (y1, y2, y3, y4) = pu (x1, x2, x3, x4)) = z := ⟨_, rfl⟩
                  rw [hz] at HS1
                  have HZ := Lib.hid hz
                  clear hb9 HGT b0 b1 g0 g1 hz
                  go_wp2_with fail
                  go_region_held3 (fun w' => (w'.cell? a8 = some (.slice y1 y3.length y2) ∧ w'.cell? ⟨a8.block, a8.off + 1, none⟩ = some (.int .i64 y4) ∧ w'.cell? q = some (.slice x1 x3.length x2) ∧ w'.cell? ⟨q.block, q.off + 1, none⟩ = some (.int .i64 x4)) ∧ Below w9.heap.size w9 w')
                    (first | assumption | (refine keepP hb10 (by assumption) ?_; intro kk; exact ⟨(kk a8 ha9).trans e0, (kk ⟨a8.block, a8.off + 1, none⟩ ha9).trans e1, (kk q hq9).trans e2, (kk ⟨q.block, q.off + 1, none⟩ hq9).trans e3⟩) | (refine keepP (below_alloc _ _) (by assumption) ?_; intro kk; exact ⟨(kk a8 ha9).trans e0, (kk ⟨a8.block, a8.off + 1, none⟩ ha9).trans e1, (kk q hq9).trans e2, (kk ⟨q.block, q.off + 1, none⟩ hq9).trans e3⟩) | (refine keepP ((below_alloc _ _).drew) (by assumption) ?_; intro kk; exact ⟨(kk a8 ha9).trans e0, (kk ⟨a8.block, a8.off + 1, none⟩ ha9).trans e1, (kk q hq9).trans e2, (kk ⟨q.block, q.off + 1, none⟩ hq9).trans e3⟩) | (exact ⟨⟨e0, e1, e2, e3⟩, Below.drew (Below.refl _ _)⟩))
                    (first | (go_at_call 19; with_reducible refine (HS1.out _ _ _ ?ca ?cb ?cc).mono ?_; (case ca => exact (by assumption : _ ∧ Below w9.heap.size w9 _).2); (case cb => first | exact two_first _ _ _ | exact two_second _ _ _); (case cc => first | exact two_first _ _ _ | exact two_second _ _ _); rintro e w10 ⟨rfl, hb10⟩))
                  all_goals
                    have L10 := Lib.hid (bnext L9.out L9.out.size (show Below w9.heap.size w9 w10 by rename_i hS; exact hS.2))
                    have hcnle : cn ≤ 30 := by
                      have h1 := count_all (fun y : List (Int × Int × ByteArray) × Int => pickL y.1 l) (pl s).length (pl s) (Nat.le_refl _) (set_nodup HST.out)
                      have h2 := sumN_append (firstN (fun y : List (Int × Int × ByteArray) × Int => pickL y.1 l) (pl s)) ((pl s).drop k) ((pl s).take k)
                      rw [List.take_append_drop, h1, pl_length, HCN.out] at h2
                      omega
                    have hsum : sumN (firstN (fun x => pickL x.1 l) (pl s)) ((pl s).take (k + 1)) = cn + (if z = true then n8 else 0) := by
                      rw [← pl_take, HSN.out, sumN_append, pl_take, HCN.out]
                      show cn + (firstN (fun x => pickL x.1 l) (pl s) (x3, x4) + 0) = _
                      rw [HFI.out, show decide (pu (y1, y2, y3, y4) = ((x3, x4) : List (Int × Int × ByteArray) × Int)) = z from HZ.out]
                      omega
                    have HSU := Lib.hid hsum
                    clear hsum hb10 e0 e1 e2 e3 HS1
                    cases z
                    · go_wp2
                      go_roundw
                      case rel => exact ⟨k + 1, by omega, by go_num, by rw [HSU.out]; rfl, L10⟩
                      case measure => simp [intOf]; omega
                    · go_wp2
                      go_roundw
                      case rel => exact ⟨k + 1, by omega, by go_num, by rw [HSU.out]; simp, L10⟩
                      case measure => simp [intOf]; omega
        · obtain rfl : k = n := by omega
          have hcount : sumN (firstN (fun x => pickL x.1 l) (pl s)) ((pl s).take k) = k := by
            rw [List.take_of_length_le (by rw [pl_length]; omega), count_all _ (pl s).length (pl s) (Nat.le_refl _) (set_nodup HST.out), pl_length]
            exact hn
          rw [hcount]
          clear hcount
          rename World => w6
          have L6 := Lib.hid (bnext LBW.out LBW.out.size HL.out)
          have hng := znegX_any B1 cb1 s w6 ((HR.out.items.below HL.out).more HL.out.size) HFS.out (right_len HRP.out) (by omega) (rightI_of (fun x hx => HRP.out (pu x) (List.mem_map.2 ⟨x, hx, rfl⟩)) HST.out)
          rw [hn] at hng
          have HNG := Lib.hid hng
          have X6 := Lib.hid (HX.out.below HL.out)
          have R6 := Lib.hid (HR.out.below HL.out)
          clear hng HL
          go_wp2_with fail
          refine HNG.out.mono ?_
          rintro e w7 ⟨A7, c7, N, rfl, ha7, hr7, hq7, hb7⟩
          have L7 := Lib.hid (bnext L6.out L6.out.size hb7)
          have X7 := Lib.hid (X6.out.below hb7)
          have R7 := Lib.hid (R6.out.below hb7)
          have HM7 := Lib.hid ((L7.out.cell (p := ⟨0, 0, none⟩) (World.block_lt_of_cell? _ _ HM.out)).trans HM.out)
          have hbl : ∀ k, badOf p mo k → w.heap.size ≤ k := fun k hk => by
            rcases hk with rfl | hk
            · exact HP.out
            · exact HMO.out k hk.symm
          have hneg := neg_of HFS.out hq7
          rcases hneg with ⟨hE, hN, hfN, hlN⟩ | ⟨hE, rfl⟩
          · obtain ⟨hokN, h24N⟩ := neg_rows (l := l) hN HOK.out HRP.out
            have hPut := xput_any p mo C cc l (pl s) A7 c7 N m w7 X7.out ⟨ha7, hr7.vals⟩ hfN (by omega) (by rw [pl_length]; omega) (fun x hx => Nat.le_trans (h24N x hx) (by omega)) (by omega) HM7.out
            rw [hE]
            obtain ⟨nN, hnN⟩ : ∃ nN, N.length = nN := ⟨_, rfl⟩
            rw [hnN] at hPut ⊢
            have HPut := Lib.hid (hPut.mono fun e w' h => put_neg hN HOK.out HRP.out h)
            clear hPut ha7 hr7 hq7 hb7 hE hN hfN hlN hokN h24N hnN HNG X6 R6 L6
            go_wp2_with fail
            refine HPut.out.mono ?_
            rintro e w8 ⟨rfl, mo8, x8, hc8⟩
            have L8 := Lib.hid (L7.out.trans (hc8.below L7.out.size hbl))
            have R8 := Lib.hid (R7.out.but X7.out hc8)
            have X8 := Lib.hid x8
            have HAL := Lib.hid (ialive_any m w8 ((L8.out.cell (p := ⟨0, 0, none⟩) (World.block_lt_of_cell? _ _ HM.out)).trans HM.out))
            clear x8 hc8 HPut L7 X7 R7
            go_wp2_with fail
            refine HAL.out.mono ?_
            rintro e w9 ⟨rfl, lb9⟩
            have L9 := Lib.hid (bnext L8.out L8.out.size lb9)
            have X9 := Lib.hid (X8.out.below lb9)
            have R9 := Lib.hid (R8.out.below lb9)
            have hks := ikeys_any g A0 c0 l B1 cb1 s w9 R9.out (by omega) (by omega) (fun x hx => Nat.le_trans (right_24 HRP.out x hx) (by omega))
            have hkl := keysL_le l s s.length
            rw [List.take_length] at hkl
            obtain ⟨kk, hkk⟩ : ∃ kk, (keysL l s).length = kk := ⟨_, rfl⟩
            rw [hkk] at hks hkl
            have hle1 : decide ((kk : Int) ≤ (k : Int)) = true := by simp; omega
            have hle2 : decide (kk ≤ k) = true := by simp; omega
            have hle3 : (kk : Int) ≤ (k : Int) := by omega
            have HKS := Lib.hid hks
            clear hks hkl hkk lb9 HAL X8 R8 L8
            go_wp2_with fail
            refine HKS.out.mono ?_
            rintro e w10 ⟨rfl, lb10⟩
            have L10 := Lib.hid (bnext L9.out L9.out.size lb10)
            have X10 := Lib.hid (X9.out.below lb10)
            have HA11 := Lib.hid (all_any own_does p mo8 C cc l [] w10 X10.out (by omega) (by simp))
            clear lb10 HKS X9 R9 L9
            go_wp2_with fail
            refine HA11.out.mono ?_
            rintro e w11 hT11
            obtain ⟨A11, c11, he11, lb11⟩ := tell_n hT11
            subst he11
            have L11 := Lib.hid (bnext L10.out L10.out.size lb11)
            have HK12 := Lib.hid (keys_any p mo8 C cc l [] w11 (X10.out.below lb11))
            clear hT11 lb11 HA11 X10 L10
            go_wp2_with fail
            refine HK12.out.mono ?_
            rintro e w12 ⟨rfl, rfl⟩
            go_wp2
            go_ret
            exact ⟨rfl, L11.out⟩
          · have hPut := xput_any p mo C cc l (pl s) A7 c7 [] m w7 X7.out ⟨ha7, hr7.vals⟩ (fun x hx => by cases hx) (by simp) (by rw [pl_length]; omega) (fun x hx => by cases hx) (by omega) HM7.out
            have HPut := Lib.hid (hPut.mono fun e w' h => put_some h)
            obtain ⟨E7, hE7⟩ : ∃ E, negIE s = E := ⟨_, rfl⟩
            have hne7 : (E7 != 0) = true := by rw [← hE7, hE]; rfl
            rw [hE7]
            clear hPut ha7 hr7 hq7 hb7 hE hE7 HNG X6 R6 L6
            go_wp2_with fail
            refine HPut.out.mono ?_
            rintro e w8 ⟨v8, rfl, hc8⟩
            have L8 := Lib.hid (L7.out.trans (hc8.below L7.out.size hbl))
            have R8 := Lib.hid (R7.out.but X7.out hc8)
            have HAL := Lib.hid (ialive_any m w8 ((L8.out.cell (p := ⟨0, 0, none⟩) (World.block_lt_of_cell? _ _ HM.out)).trans HM.out))
            clear hc8 HPut L7 X7 R7
            go_wp2_with fail
            refine HAL.out.mono ?_
            rintro e w9 ⟨rfl, lb9⟩
            have L9 := Lib.hid (bnext L8.out L8.out.size lb9)
            have R9 := Lib.hid (R8.out.below lb9)
            have hks := ikeys_any g A0 c0 l B1 cb1 s w9 R9.out (by omega) (by omega) (fun x hx => Nat.le_trans (right_24 HRP.out x hx) (by omega))
            have hkl := keysL_le l s s.length
            rw [List.take_length] at hkl
            obtain ⟨kk, hkk⟩ : ∃ kk, (keysL l s).length = kk := ⟨_, rfl⟩
            rw [hkk] at hks hkl
            have hle1 : decide ((kk : Int) ≤ (k : Int)) = true := by simp; omega
            have hle2 : decide (kk ≤ k) = true := by simp; omega
            have hle3 : (kk : Int) ≤ (k : Int) := by omega
            have HKS := Lib.hid hks
            clear hks hkl hkk lb9 HAL R8 L8
            go_wp2_with fail
            refine HKS.out.mono ?_
            rintro e w10 ⟨rfl, lb10⟩
            have L10 := Lib.hid (bnext L9.out L9.out.size lb10)
            clear lb10 HKS R9 L9
            go_wp2
            go_ret
            exact ⟨rfl, L10.out⟩
  · have HAL := Lib.hid (ialive_any m w3 HM3.out)
    obtain ⟨d, hd⟩ : ∃ d, decide (12 < l.length) = d := ⟨_, rfl⟩
    have hd2 : decide ((12 : Int) < (l.length : Int)) = d := by rw [← hd]; exact decide_eq_decide.2 (by omega)
    have hd3 : decide ((l.length : Int) ≤ 12) = !d := by rw [← hd, ← decide_not]; exact decide_eq_decide.2 (by omega)
    obtain ⟨e1, he1⟩ : ∃ e, (E1 != 0) = e := ⟨_, rfl⟩
    have hor : (b0 && !e1 && !d) = false := by
      rw [Bool.eq_false_iff]
      intro h
      simp only [Bool.and_eq_true, Bool.not_eq_true'] at h
      refine hgo ⟨?_, ?_⟩
      · have h1 := he1.trans h.1.2
        simp only [bne_eq_false_iff_eq] at h1
        simp [h.1.1, h1]
      · have h2 := hd.trans h.2
        simpa using h2
    clear hgo
    cases b0 <;> cases d <;> cases e1 <;> first | (exact absurd hor (by decide)) | skip
    all_goals
      clear hor
      go_wp2_with fail
      refine HAL.out.mono ?_
      rintro e w4 ⟨rfl, hb4⟩
      have X := Lib.hid (bnext LB3.out LB3.out.size hb4)
      clear hb4 HAL
      go_wp2
      go_ret
      exact ⟨rfl, X.out⟩
end Go.Proofs.YtjjikooabmddlaaGreatDoor.indexKeys
