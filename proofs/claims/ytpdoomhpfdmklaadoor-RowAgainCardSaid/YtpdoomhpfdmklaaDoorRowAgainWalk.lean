/- The walk of RowAgain. -/
import Derived.Test.YtpdoomhpfdmklaaDoorRowTellsWalk
import Derived.Test.YtpdoomhpfdmklaaDoorRowJoin
namespace Go.Proofs.YtpdoomhpfdmklaaDoor.rowAgain
open Go.ChangeShapes Go.WideShapes Go.ChangeAt Go.RowKit Val Go.Proofs.YtpdoomhpfdmklaaDoor.Code Go.Proofs.YtpdoomhpfdmklaaDoor.RowOpen rowTells
set_option linter.unusedVariables false

/-- so many numbers from one on -/
def rng (s n : Nat) : List Int := (List.range n).map fun i => ((s + i : Nat) : Int)
theorem rng_length (s n : Nat) : (rng s n).length = n := by simp [rng]
theorem rng_snoc (s n : Nat) : rng s (n + 1) = rng s n ++ [((s + n : Nat) : Int)] := by
  unfold rng
  rw [List.range_succ, List.map_append]
  rfl
theorem valsP_rng (c : List (Int × Int × ByteArray)) : ∀ (n s : Nat), s + n ≤ c.length → valsP c (rng s n) = (c.drop s).take n ∧ okP c (rng s n) = true
  | 0, s, _ => ⟨by simp [rng, valsP], by simp [rng, okP]⟩
  | n + 1, s, h => by
    obtain ⟨h1, h2⟩ := valsP_rng c n s (by omega)
    have hsn : s + n < c.length := by omega
    refine ⟨?_, ?_⟩
    · rw [rng_snoc, show valsP c (rng s n ++ [((s + n : Nat) : Int)]) = valsP c (rng s n) ++ valsP c [((s + n : Nat) : Int)] from List.map_append, h1]
      rw [List.take_succ_eq_append_getElem (by rw [List.length_drop]; omega), List.getElem_drop]
      simp only [valsP, List.map_cons, List.map_nil, Int.toNat_natCast]
      rw [List.getD_eq_getElem?_getD, List.getElem?_eq_getElem hsn]
      rfl
    · rw [rng_snoc, show okP c (rng s n ++ [((s + n : Nat) : Int)]) = (okP c (rng s n) && okP c [((s + n : Nat) : Int)]) from List.all_append, h2]
      simp only [okP, List.all_cons, List.all_nil]
      simp
      omega
theorem pick_is (A C : Option Addr) (ca cc : Nat) (r : List (Int × Int × ByteArray)) (l : List Int) (n : Nat) (hn : l.length = n) (x : List (Int × Int × ByteArray)) (E : Int) (hx : pickL r l = x) (hE : pickE r l = E) (w : World) (hv : Vals w w.heap.size A r) (hi : Ints w w.heap.size C l) (hr : r.length ≤ 1000000) (hl : l.length ≤ 1000000) :
    Calls Tryd.prog 21 #[.slice A r.length ca, .slice C n cc] w fun e w' => ∃ X cap, e = .returned (.tuple #[.slice X x.length cap, .int .i64 E]) ∧ Own w.heap.size w' X x ∧ Below w.heap.size w w' := by
  subst hn
  have := pick_any A C ca cc r l w hv hi hr hl
  unfold PickPost at this
  rw [hx, hE] at this
  exact this
theorem pick_part (c : List (Int × Int × ByteArray)) (s n : Nat) (h : s + n ≤ c.length) : pickL c (rng s n) = (c.drop s).take n ∧ pickE c (rng s n) = 0 := by
  obtain ⟨h1, h2⟩ := valsP_rng c n s h
  unfold pickL pickE
  rw [h2, h1]
  exact ⟨rfl, rfl⟩
theorem pick_out (c : List (Int × Int × ByteArray)) (n : Nat) (h : c.length ≤ n) : pickL c [(n : Int)] = [] ∧ pickE c [(n : Int)] = 51 := by
  have h2 : okP c [(n : Int)] = false := by simp [okP]; omega
  unfold pickL pickE
  rw [h2]
  exact ⟨rfl, rfl⟩
theorem join2 (A B : Option Addr) (ca cb : Nat) (a b c : List (Int × Int × ByteArray)) (hc : a ++ b = c) (W : World) (t : TypeId) (g : Nat) (hg : g = W.heap.size) (vA : Vals W W.heap.size A a) (vB : Vals W W.heap.size B b) (lA : a.length ≤ 30) (lB : b.length ≤ 30) :
    Calls Tryd.prog 23 #[.slice (some ⟨g, 0, none⟩) 2 2] (W.alloc (.cells #[.slice A a.length ca, .slice B b.length cb] t)) fun e w' => ∃ h, e = .returned (.slice (some ⟨h, 0, none⟩) c.length c.length) ∧ Blk w' h c ∧ Below W.heap.size W w' := by
  subst hg
  have hcat : catL [(A, ca, a), (B, cb, b)] = c := by rw [← hc]; simp [catL]
  have hl : c.length = a.length + b.length := by rw [← hc, List.length_append]
  have hn := heap_alloc_new W (.cells #[.slice A a.length ca, .slice B b.length cb] t)
  have hb := below_alloc W (.cells #[.slice A a.length ca, .slice B b.length cb] t)
  have hz : (W.alloc (.cells #[.slice A a.length ca, .slice B b.length cb] t)).heap.size = W.heap.size + 1 := by simp
  have hR : RowsAt (W.alloc (.cells #[.slice A a.length ca, .slice B b.length cb] t)) (W.alloc (.cells #[.slice A a.length ca, .slice B b.length cb] t)).heap.size (some ⟨W.heap.size, 0, none⟩) [(A, ca, a), (B, cb, b)] := by
    intro i hi
    match i, hi with
    | 0, _ => exact ⟨⟨⟨W.heap.size, 0, none⟩, rfl, by rw [hz]; exact Nat.lt_succ_self _, by rw [Addr.add_lit]; simp only [World.cell?, hn]; rfl⟩, (vA.below hb).more (by rw [hz]; omega)⟩
    | 1, _ => exact ⟨⟨⟨W.heap.size, 0, none⟩, rfl, by rw [hz]; exact Nat.lt_succ_self _, by rw [Addr.add_lit]; simp only [World.cell?, hn]; rfl⟩, (vB.below hb).more (by rw [hz]; omega)⟩
  have := join_any (some ⟨W.heap.size, 0, none⟩) 2 [(A, ca, a), (B, cb, b)] _ hR (by show 2 ≤ 1000000; omega) (by rw [hcat]; omega)
  rw [hcat] at this
  refine this.mono ?_
  rintro e w' ⟨h, he, _, hB, hb2⟩
  exact ⟨h, he, hB, bnext hb (by rw [hz]; omega) hb2⟩
theorem info_int : (Tryd.prog.info? 3).map (fun i => (i.zero, i.size, i.bytes)) = some (some (.int .i64 0), 1, 8) := by kernel_rfl
def Loop (w wr : World) (na k B2 : Nat) (v1 v2 : Value) : Prop :=
  w.heap.size ≤ B2 ∧ B2 ≤ wr.heap.size ∧ wr.ownsRow w.heap.size 3 1 v1 (min k na) ((rng 0 (min k na)).map (Value.int .i64)) ∧ wr.ownsRow B2 3 1 v2 (k - na) ((rng na (k - na)).map (Value.int .i64)) ∧ (∀ g, v1.ownBlock = some g → g < B2) ∧ Below w.heap.size w wr
set_option maxHeartbeats 8000000 in
set_option maxRecDepth 100000 in
theorem walkX (A B : Option Addr) (ca cb : Nat) (a b : List (Int × Int × ByteArray)) (m : Int) (w : World) (iA : RowIn w A a) (iB : RowIn w B b) (hg : Glob w.heap.size m w) (pA : smallB a = true) (pB : smallB b = true) :
    Calls Tryd.prog 6 #[.slice A a.length ca, .slice B b.length cb] w fun e w' => e = .returned (.bool true) ∧ Below w.heap.size w w' := by
  obtain ⟨hA, fA, sA, lA⟩ := iA
  obtain ⟨hB, fB, sB, lB⟩ := iB
  have lA2 := small_le pA
  have lB2 := small_le pB
  have TA := Lib.hid (small_is A ca a true pA w hA sA (by omega))
  have TB := Lib.hid (small_is B cb b true pB w hB sB (by omega))
  have VA := Lib.hid hA
  have VB := Lib.hid hB
  have HG := Lib.hid hg
  obtain ⟨c, hc⟩ : ∃ c, a ++ b = c := ⟨_, rfl⟩
  have hcl : c.length = a.length + b.length := by rw [← hc, List.length_append]
  have HC := Lib.hid hc
  have HCL := Lib.hid hcl
  have HP1 := Lib.hid (show pickL c (rng 0 a.length) = a ∧ pickE c (rng 0 a.length) = 0 by
    have := pick_part c 0 a.length (by omega)
    rw [List.drop_zero] at this
    have e : c.take a.length = a := by rw [← hc, List.take_left]
    rwa [e] at this)
  have HP2 := Lib.hid (show pickL c (rng a.length b.length) = b ∧ pickE c (rng a.length b.length) = 0 by
    have := pick_part c a.length b.length (by omega)
    have e : (c.drop a.length).take b.length = b := by rw [← hc, List.drop_left, List.take_of_length_le (Nat.le_refl _)]
    rwa [e] at this)
  have HP3 := Lib.hid (pick_out c (a.length + b.length) (by omega))
  have HSA := Lib.hid (show (cmpL a a == 0) = true by rw [cmpL_self]; rfl)
  have HSB := Lib.hid (show (cmpL b b == 0) = true by rw [cmpL_self]; rfl)
  obtain ⟨i0, hi, hz0, hz1, hz2⟩ := info_parts info_int
  clear hA fA sA hB fB sB pA pB hg hc hcl lA lB
  go_enter Tryd.func6, Tryd.ntmps6
  go_wp2_with fail
  refine TA.out.mono ?_
  rintro e w' ⟨rfl, rfl⟩
  go_wp2_with fail
  refine TB.out.mono ?_
  rintro e w' ⟨rfl, rfl⟩
  clear TA TB
  go_wp2
  go_loopw [7, 8, 9] (fun v1 v2 i wr => ∃ (k B2 : Nat), k ≤ a.length + b.length ∧ i = .int .i64 k ∧ (k ≤ a.length → v2 = .slice none 0 0) ∧ Hid (Loop w wr a.length k B2 v1 v2)) (fun _ _ i _ => a.length + b.length - (intOf i).toNat)
  case atStart => exact ⟨0, w.heap.size, by omega, rfl, fun _ => rfl, Lib.hid ⟨Nat.le_refl _, Nat.le_refl _, by simpa [rng] using World.ownsRow_nil w w.heap.size 3 1, by simpa [rng] using World.ownsRow_nil w w.heap.size 3 1, fun g h => by simp [Value.ownBlock] at h, Below.refl _ _⟩⟩
  case round =>
    obtain ⟨k, B2, hk, rfl, hnone, HLP⟩ := hrel
    by_cases hka : k < a.length
    · have hv2 := hnone (by omega)
      subst hv2
      clear hnone
      have hkt : k < a.length + b.length := by omega
      have HO := Lib.hid (show wr.ownsRow w.heap.size 3 1 u7 k ((rng 0 k).map (Value.int .i64)) by have := HLP.out.2.2.1; rwa [Nat.min_eq_left (by omega)] at this)
      have HL := Lib.hid HLP.out.2.2.2.2.2
      have hsz := HL.out.size
      have HLP2 := Lib.hid HLP.out
      clear HLP
      go_wp2_with (at_builtin; refine wpList_append_own _ rfl _ _ 34 rfl w.heap.size 3 i0 (.int .i64 0) 1 8 Tryd.underlying34 hi hz0 hz1 hz2 rfl (by decide) _ _ _ rfl (HO.out.alloc _) ⟨wr.heap.size, 0, none⟩ 1 1 [.int .i64 k] rfl rfl ?c1 ?c2 ?c3 ?c4 ?c5 ?_)
      case c1 => exact cell_one_new _ _ _
      case c2 => simp [Value.oneCell']
      case c3 => unfold maxLen; omega
      case c4 => omega
      case c5 => simp; omega
      intro v' w2 hown' hgrow _
      have O2 := Lib.hid (show w2.ownsRow w.heap.size 3 1 v' (k + 1) ((rng 0 (k + 1)).map (Value.int .i64)) by rw [rng_snoc, List.map_append, Nat.zero_add]; exact hown')
      have L2 := Lib.hid ((HL.out.alloc hsz _).grown hgrow (by simp; omega) (fun g hg => (HO.out.lt g hg).1))
      clear hown' hgrow
      go_wp2
      go_roundw
      case rel => exact ⟨k + 1, w2.heap.size, by omega, by go_num, fun _ => rfl, Lib.hid ⟨L2.out.size, Nat.le_refl _, by rw [Nat.min_eq_left (by omega)]; exact O2.out, by rw [show k + 1 - a.length = 0 by omega]; exact World.ownsRow_nil _ _ _ _, fun g hg => (O2.out.lt g hg).2, L2.out⟩⟩
      case measure => simp [intOf]; omega
    · by_cases hkt : k < a.length + b.length
      · clear hnone
        obtain ⟨j, rfl⟩ : ∃ j, k = a.length + j := ⟨k - a.length, by omega⟩
        have HO := Lib.hid (show wr.ownsRow B2 3 1 u8 j ((rng a.length j).map (Value.int .i64)) by have := HLP.out.2.2.2.1; rwa [Nat.add_sub_cancel_left] at this)
        have HO1 := Lib.hid (show wr.ownsRow w.heap.size 3 1 u7 a.length ((rng 0 a.length).map (Value.int .i64)) by have := HLP.out.2.2.1; rwa [Nat.min_eq_right (by omega)] at this)
        have HL := Lib.hid HLP.out.2.2.2.2.2
        have HV1 := Lib.hid HLP.out.2.2.2.2.1
        have hB2 := HLP.out.1
        have hB3 := HLP.out.2.1
        have hsz := HL.out.size
        clear HLP
        go_wp2_with (at_builtin; refine wpList_append_own _ rfl _ _ 34 rfl B2 3 i0 (.int .i64 0) 1 8 Tryd.underlying34 hi hz0 hz1 hz2 rfl (by decide) _ _ _ rfl (HO.out.alloc _) ⟨wr.heap.size, 0, none⟩ 1 1 [.int .i64 (a.length + j)] rfl rfl ?c1 ?c2 ?c3 ?c4 ?c5 ?_)
        case c1 => exact cell_one_new _ _ _
        case c2 => simp [Value.oneCell']
        case c3 => unfold maxLen; omega
        case c4 => omega
        case c5 => simp; omega
        intro v' w2 hown' hgrow _
        have O2 := Lib.hid (show w2.ownsRow B2 3 1 v' (j + 1) ((rng a.length (j + 1)).map (Value.int .i64)) by rw [rng_snoc, List.map_append]; simpa using hown')
        have O1 := Lib.hid ((HO1.out.alloc _).kept hgrow (by
          cases h1 : u7.ownBlock with
          | none => exact .inl rfl
          | some g1 =>
            right
            intro h2
            have l1 := HV1.out g1 h1
            have l2 := (HO.out.lt g1 h2.symm).1
            omega))
        have hz2' := hgrow.size
        have L2 := Lib.hid ((HL.out.alloc hsz _).grown hgrow (by simp; omega) (fun g hg => by have := (HO.out.lt g hg).1; omega))
        clear hown' hgrow
        go_wp2
        go_roundw
        case rel => exact ⟨a.length + j + 1, B2, by omega, by go_num, fun h => by omega, Lib.hid ⟨hB2, by simp at hz2'; omega, by rw [Nat.min_eq_right (by omega)]; exact O1.out, by rw [show a.length + j + 1 - a.length = j + 1 by omega]; exact O2.out, HV1.out, L2.out⟩⟩
        case measure => simp [intOf]; omega
      · obtain rfl : k = a.length + b.length := by omega
        clear hnone
        have ho1 : wr.ownsRow w.heap.size 3 1 u7 (rng 0 a.length).length ((rng 0 a.length).map (Value.int .i64)) := by have := HLP.out.2.2.1; rw [Nat.min_eq_right (by omega)] at this; rw [rng_length]; exact this
        have ho2 : wr.ownsRow B2 3 1 u8 (rng a.length b.length).length ((rng a.length b.length).map (Value.int .i64)) := by have := HLP.out.2.2.2.1; rw [Nat.add_sub_cancel_left] at this; rw [rng_length]; exact this
        obtain ⟨P, cp, hp, hP⟩ := own_ints ho1
        obtain ⟨R, cr, hr, hR⟩ := own_ints ho2
        rw [rng_length] at hp hr
        subst hp
        subst hr
        have VP := Lib.hid hP
        have VR := Lib.hid hR
        have L0 := Lib.hid HLP.out.2.2.2.2.2
        have z0 := L0.out.size
        have VA0 := Lib.hid ((VA.out.below L0.out).more z0)
        have VB0 := Lib.hid ((VB.out.below L0.out).more z0)
        clear hP hR ho1 ho2 HLP
        go_wp2_with fail
        refine (join2 A B ca cb a b c HC.out wr _ _ rfl VA0.out VB0.out lA2 lB2).mono ?_
        rintro e w1 ⟨h, rfl, hJ, hb1⟩
        have J1 := Lib.hid hJ
        have L1 := Lib.hid (bnext L0.out z0 hb1)
        have VP1 := Lib.hid ((VP.out.below hb1).more hb1.size)
        have VR1 := Lib.hid ((VR.out.below hb1).more hb1.size)
        clear hb1 hJ VP VR
        go_wp2_with fail
        refine (pick_is _ P _ cp c (rng 0 a.length) a.length (rng_length _ _) a 0 HP1.out.1 HP1.out.2 _ J1.out.vals VP1.out (by have := HCL.out; omega) (by rw [rng_length]; omega)).mono ?_
        rintro e w2 ⟨X, cx, rfl, hX, hb2⟩
        have L2 := Lib.hid (bnext L1.out L1.out.size hb2)
        have J2 := Lib.hid (J1.out.call hb2)
        have X2 := Lib.hid hX
        have VR2 := Lib.hid ((VR1.out.below hb2).more hb2.size)
        clear hb2 hX J1 VP1 VR1
        go_wp2_with fail
        refine (pick_is _ R _ cr c (rng a.length b.length) b.length (rng_length _ _) b 0 HP2.out.1 HP2.out.2 _ J2.out.vals VR2.out (by have := HCL.out; omega) (by rw [rng_length]; omega)).mono ?_
        rintro e w3 ⟨Y, cy, rfl, hY, hb3⟩
        have L3 := Lib.hid (bnext L2.out L2.out.size hb3)
        have J3 := Lib.hid (J2.out.call hb3)
        have X3 := Lib.hid (X2.out.call hb3)
        have Y3 := Lib.hid hY
        have z3 := L3.out.size
        clear hb3 hY J2 X2 VR2
        go_wp2_with fail
        refine (pick_is _ (some ⟨w3.heap.size, 0, none⟩) _ 1 c [((a.length + b.length : Nat) : Int)] 1 rfl [] 51 HP3.out.1 HP3.out.2 _ (J3.out.alloc _).vals (ints_new w3 [((a.length + b.length : Nat) : Int)] 3 _ rfl) (by have := HCL.out; omega) (by show 1 ≤ 1000000; omega)).mono ?_
        rintro e w4 ⟨Z, cz, rfl, _, hb4⟩
        have hb34 := bnext (below_alloc w3 _) (by simp) hb4
        have L4 := Lib.hid (bnext L3.out z3 hb34)
        have X4 := Lib.hid (X3.out.call hb34)
        have Y4 := Lib.hid (Y3.out.call hb34)
        clear hb4 hb34 J3 X3 Y3
        go_wp2_with fail
        refine (alive_any m _ (HG.out.next L4.out)).mono ?_
        rintro e w5 ⟨rfl, hb5⟩
        have L5 := Lib.hid (bnext L4.out L4.out.size hb5)
        have X5 := Lib.hid (X4.out.call hb5)
        have Y5 := Lib.hid (Y4.out.call hb5)
        have hce : ((c.length : Int) == (a.length : Int) + (b.length : Int)) = true := by have := HCL.out; simp; omega
        clear hb5 X4 Y4
        go_wp2_with fail
        refine (rowSame_is X A cx ca a a true HSA.out _ X5.out.vals ((VA.out.below L5.out).more L5.out.size) (by omega) (by omega)).mono ?_
        rintro e w6 ⟨rfl, hb6⟩
        have L6 := Lib.hid (bnext L5.out L5.out.size hb6)
        have Y6 := Lib.hid (Y5.out.call hb6)
        clear hb6 Y5
        go_wp2_with fail
        refine (rowSame_is Y B cy cb b b true HSB.out _ Y6.out.vals ((VB.out.below L6.out).more L6.out.size) (by omega) (by omega)).mono ?_
        rintro e w7 ⟨rfl, hb7⟩
        have L7 := Lib.hid (bnext L6.out L6.out.size hb7)
        clear hb7
        go_wp2
        go_ret
        exact ⟨by first | rfl | simp, L7.out⟩
set_option maxHeartbeats 4000000 in
/-- the walk where one is not gone through -/
theorem walkN (A B : Option Addr) (ca cb : Nat) (a b : List (Int × Int × ByteArray)) (m : Int) (w : World) (iA : RowIn w A a) (iB : RowIn w B b) (hg : Glob w.heap.size m w) (p q : Bool) (pA : smallB a = p) (pB : smallB b = q) (hne : ¬ (p = true ∧ q = true)) :
    Calls Tryd.prog 6 #[.slice A a.length ca, .slice B b.length cb] w fun e w' => e = .returned (.bool true) ∧ Below w.heap.size w w' := by
  obtain ⟨hA, fA, sA, lA⟩ := iA
  obtain ⟨hB, fB, sB, lB⟩ := iB
  have TA := Lib.hid (small_is A ca a p pA w hA sA (by omega))
  have TB := Lib.hid (small_is B cb b q pB w hB sB (by omega))
  have HV := Lib.hid (alive_any m w hg)
  have HN := Lib.hid hne
  clear hA fA sA hB fB sB pA pB hg hne
  go_enter Tryd.func6, Tryd.ntmps6
  go_wp2_with fail
  refine TA.out.mono ?_
  rintro e w' ⟨rfl, rfl⟩
  go_wp2_with fail
  refine TB.out.mono ?_
  rintro e w' ⟨rfl, rfl⟩
  clear TA TB
  cases p <;> cases q
  all_goals first
    | (exfalso; exact HN.out ⟨rfl, rfl⟩)
    | (clear HN
       go_wp2_with fail
       refine HV.out.mono ?_
       rintro e w4 ⟨rfl, hb4⟩
       have L4 := Lib.hid hb4
       clear hb4
       go_wp2
       go_ret
       exact ⟨rfl, L4.out⟩)
theorem walk (A : Option Addr) (ca : Nat) (a : List (Int × Int × ByteArray)) (B : Option Addr) (cb : Nat) (b : List (Int × Int × ByteArray)) (m : Int) (w : World) (iA : RowIn w A a) (iB : RowIn w B b) (hg : Glob w.heap.size m w) :
    Calls Tryd.prog 6 #[.slice A a.length ca, .slice B b.length cb] w fun e w' => e = .returned (.bool true) ∧ Below w.heap.size w w' := by
  by_cases h : smallB a = true ∧ smallB b = true
  · exact walkX A B ca cb a b m w iA iB hg h.1 h.2
  · exact walkN A B ca cb a b m w iA iB hg _ _ rfl rfl h
end Go.Proofs.YtpdoomhpfdmklaaDoor.rowAgain
