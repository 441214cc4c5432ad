/- The walk of RowPicks. -/
import Derived.Test.YtpdoomhpfdmklaaDoorRowTellsWalk
import Derived.Test.YtpdoomhpfdmklaaDoorRowJoin
namespace Go.Proofs.YtpdoomhpfdmklaaDoor.rowPicks
open Go.ChangeShapes Go.WideShapes Go.ChangeAt Go.RowKit Val Go.Proofs.YtpdoomhpfdmklaaDoor.Code Go.Proofs.YtpdoomhpfdmklaaDoor.RowOpen rowTells
set_option linter.unusedVariables false

theorem grown_set {w w' : World} {b : Nat} (h : w.grownBy w' (some b)) (i : Nat) (v : Value) : w.grownBy (w'.setCell ⟨b, i, none⟩ v) (some b) := by
  refine ⟨h.os, h.tape, h.output, by simpa using h.size, fun k hk hne => ?_⟩
  have hkb : ¬ b = k := fun e => hne (by rw [e])
  rw [← h.block k hk hne]
  simp [World.setCell, Array.getElem?_modify, hkb]
theorem rrowSame_yes (A B : Option Addr) (ca cb : Nat) (a : List (Int × Int × ByteArray)) (w : World) (hA : Vals w w.heap.size A a) (hB : Vals w w.heap.size B a) (hl : a.length ≤ 140737488355328) :
    Calls Tryd.prog 20 #[.slice A a.length ca, .slice B a.length cb] w fun e w' => e = .returned (.bool true) ∧ Below w.heap.size w w' :=
  rrowSame_is A B ca cb a a true (by simp) w hA hB hl hl
theorem pick_is (A C : Option Addr) (ca cc : Nat) (r : List (Int × Int × ByteArray)) (l : List Int) (x : List (Int × Int × ByteArray)) (E : Int) (hx : pickL r l = x) (hE : pickE r l = E) (w : World) (hv : Vals w w.heap.size A r) (hi : Ints w w.heap.size C l) (hr : r.length ≤ 1000000) (hl : l.length ≤ 1000000) :
    Calls Tryd.prog 21 #[.slice A r.length ca, .slice C l.length cc] w fun e w' => ∃ X cap, e = .returned (.tuple #[.slice X x.length cap, .int .i64 E]) ∧ Own w.heap.size w' X x ∧ Below w.heap.size w w' := by
  have := pick_any A C ca cc r l w hv hi hr hl
  unfold PickPost at this
  rw [hx, hE] at this
  exact this
theorem rpick_is (A C : Option Addr) (ca cc : Nat) (r : List (Int × Int × ByteArray)) (l : List Int) (x : List (Int × Int × ByteArray)) (E : Int) (hx : pickL r l = x) (hE : pickE r l = E) (w : World) (hv : Vals w w.heap.size A r) (hi : Ints w w.heap.size C l) (hr : r.length ≤ 1000000) (hl : l.length ≤ 1000000) :
    Calls Tryd.prog 22 #[.slice A r.length ca, .slice C l.length cc] w fun e w' => ∃ X cap, e = .returned (.tuple #[.slice X x.length cap, .int .i64 E]) ∧ Vals w' w'.heap.size X x ∧ Below w.heap.size w w' := by
  have := rpick_any A C ca cc r l w hv hi hr hl
  unfold RPickPost at this
  rw [hx, hE] at this
  exact this
theorem own_vals' {w : World} {B : Nat} {A : Option Addr} {cap : Nat} {l : List (Int × Int × ByteArray)} (h : w.ownsRow B 41 3 (.slice A l.length cap) l.length (flat l)) : Vals w w.heap.size A l := by
  obtain ⟨A', cap', he, hv⟩ := own_vals h
  injection he with h1 _ _
  rw [h1]
  exact hv
theorem cat_small : ∀ {L : List (Option Addr × Nat × List (Int × Int × ByteArray))}, (∀ x ∈ L, smallB x.2.2 = true) → (catL L).length ≤ 30 * L.length
  | [], _ => Nat.zero_le _
  | x :: L, h => by
    have h1 := small_le (h x (by simp))
    have h2 := cat_small (L := L) (fun y hy => h y (by simp [hy]))
    show (x.2.2 ++ catL L).length ≤ _
    rw [List.length_append, List.length_cons]
    omega
theorem picked_small {r : List (Int × Int × ByteArray)} {l : List Int} (h : l.length ≤ 30) : (pickL r l).length ≤ 30 := by
  unfold pickL
  split
  · rw [valsP_length]; exact h
  · exact Nat.zero_le _
set_option maxHeartbeats 16000000 in
set_option maxRecDepth 100000 in
theorem walkX (A C : Option Addr) (ca cc : Nat) (L : List (Option Addr × Nat × List (Int × Int × ByteArray))) (at_ : List Int) (m : Int) (w : World) (hR : RowsAt w w.heap.size A L) (iR : ∀ x ∈ L, RowIn w x.1 x.2.2) (hC : Ints w w.heap.size C at_) (lL : L.length ≤ 30) (lC : at_.length ≤ 30) (hg : Glob w.heap.size m w) :
    Calls Tryd.prog 4 #[.slice A L.length ca, .slice C at_.length cc] w fun e w' => e = .returned (.bool true) ∧ Below w.heap.size w w' := by
  have HR := Lib.hid hR
  have HI := Lib.hid iR
  have HC := Lib.hid hC
  have HG := Lib.hid hg
  have e1 : decide ((30 : Int) < (L.length : Int)) = false := by simp; omega
  have e2 : decide ((30 : Int) < (at_.length : Int)) = false := by simp; omega
  obtain ⟨i0, hi, hz0, hz1, hz2⟩ := info_parts info_val
  clear hR iR hC hg
  go_enter Tryd.func4, Tryd.ntmps4
  go_wp2
  go_loopw [5] (fun i wr => ∃ k : Nat, k ≤ L.length ∧ i = .int .i64 k ∧ Hid (∀ x ∈ L.take k, smallB x.2.2 = true) ∧ Hid (Below w.heap.size w wr)) (fun i _ => L.length - (intOf i).toNat)
  case atStart => exact ⟨0, by omega, rfl, Lib.hid (fun x hx => by simp at hx), Lib.hid (Below.refl _ _)⟩
  case round =>
    obtain ⟨k, hk, rfl, HS, HL⟩ := hrel
    have hsz := HL.out.size
    by_cases hkl : k < L.length
    · obtain ⟨⟨ad, hA, ha, c0⟩, v0⟩ := (HR.out.below HL.out) k hkl
      subst hA
      have HV := Lib.hid (v0.more hsz)
      obtain ⟨_, hf, hs, hll⟩ := HI.out L[k] (List.getElem_mem hkl)
      have HF := Lib.hid hf
      have had : (ad.add k).block < w.heap.size := by rw [add_block]; exact ha
      obtain ⟨R, hRow⟩ : ∃ R, L[k].2.2 = R := ⟨_, rfl⟩
      obtain ⟨D, hD⟩ : ∃ D, L[k].1 = D := ⟨_, rfl⟩
      obtain ⟨cp, hcp⟩ : ∃ cp, L[k].2.1 = cp := ⟨_, rfl⟩
      rw [hRow, hD, hcp] at c0
      rw [hRow, hD] at HV
      rw [hRow] at HF hs hll
      have HROW := Lib.hid hRow
      clear hRow hD hcp v0 hf
      obtain ⟨p, hp⟩ : ∃ p, smallB R = p := ⟨_, rfl⟩
      have HT := Lib.hid (small_is D cp R p hp wr HV.out hs (by omega))
      have HP := Lib.hid hp
      clear hp hs
      have c0' : ∀ (w' : World), Below wr.heap.size wr w' → w'.cell? (ad.add k) = some (.slice D R.length cp) := fun _ hb => (hb.cell (p := ad.add k) (by omega)).trans c0
      have C0 := Lib.hid c0'
      clear c0'
      cases p
      · go_wp2_with fail
        refine HT.out.mono ?_
        rintro e w' ⟨rfl, rfl⟩
        go_wp2_with fail
        refine (alive_any m _ (HG.out.next HL.out)).mono ?_
        rintro e w1 ⟨rfl, hb1⟩
        have L1 := Lib.hid (bnext HL.out hsz hb1)
        clear hb1
        go_wp2
        go_ret
        exact ⟨rfl, L1.out⟩
      · have hR30 := small_le HP.out
        have HS2 := Lib.hid (show ∀ x ∈ L.take (k + 1), smallB x.2.2 = true by
          intro x hx
          rw [List.take_succ_eq_append_getElem hkl, List.mem_append] at hx
          rcases hx with hx | hx
          · exact HS.out x hx
          · rw [List.mem_singleton.1 hx, HROW.out]
            exact HP.out)
        obtain ⟨x, hx⟩ : ∃ x, pickL R at_ = x := ⟨_, rfl⟩
        obtain ⟨E, hE⟩ : ∃ E, pickE R at_ = E := ⟨_, rfl⟩
        have hx30 : x.length ≤ 30 := by rw [← hx]; exact picked_small lC
        have HX := Lib.hid hx
        have HE := Lib.hid hE
        clear hx hE
        go_wp2_with fail
        refine HT.out.mono ?_
        rintro e w' ⟨rfl, rfl⟩
        clear HT
        have HV0 := HV
        go_wp2_with fail
        refine (pick_is D C cp cc R at_ x E HX.out HE.out _ HV.out ((HC.out.below HL.out).more hsz) (by omega) (by omega)).mono ?_
        rintro e w1 ⟨X, cx, rfl, hX, hb1⟩
        have M1 := Lib.hid hb1
        have X1 := Lib.hid hX
        have L1 := Lib.hid (bnext HL.out hsz hb1)
        have c1 := C0.out _ M1.out
        clear hb1 hX c0
        go_wp2_with fail
        refine (rpick_is D C cp cc R at_ x E HX.out HE.out _ ((HV.out.below M1.out).more M1.out.size) ((HC.out.below L1.out).more L1.out.size) (by omega) (by omega)).mono ?_
        rintro e w2 ⟨Y, cy, rfl, hY, hb2⟩
        have M2 := Lib.hid (bnext M1.out M1.out.size hb2)
        have X2 := Lib.hid (X1.out.call hb2)
        have Y2 := Lib.hid hY
        have L2 := Lib.hid (bnext L1.out L1.out.size hb2)
        clear hb2 hY c1 X1
        go_wp2_with fail
        refine (rrowSame_yes X Y cx cy x _ X2.out.vals Y2.out (by omega)).mono ?_
        rintro e w3 ⟨rfl, hb3⟩
        have M3 := Lib.hid (bnext M2.out M2.out.size hb3)
        have X3 := Lib.hid (X2.out.call hb3)
        have L3 := Lib.hid (bnext L2.out L2.out.size hb3)
        have z3 := M3.out.size
        have c3 := C0.out _ (M3.out.alloc z3 (.cells #[] 41))
        have l3 := L3.out.size
        clear hb3 X2 Y2
        have V3 := Lib.hid (((HV.out.below M3.out).more z3).below (below_alloc w3 (.cells #[] 41)))
        go_wp2_with (at_builtin; refine wpList_append_vals rfl _ _ 23 rfl w3.heap.size 41 i0 (.agg #[.int .i64 0, .int .i64 0, .string ByteArray.empty]) 32 Tryd.underlying23 hi hz0 hz1 hz2 rfl _ _ _ rfl (own_empty w3) w3.heap.size D cp R rfl V3.out ?c3 ?c4 ?c5 ?_)
        case c3 => unfold maxLen; omega
        case c4 => omega
        case c5 => simp
        intro v4 w4 hown4 hgrow4
        have N4 := Lib.hid ((below_alloc w3 (.cells #[] 41)).grown hgrow4 (by simp) (fun g hg => ((own_empty w3).lt g hg).1))
        have ho4 : w4.ownsRow w3.heap.size 41 3 v4 R.length (flat R) := by simpa using hown4
        obtain ⟨Z, cz, hv4, _⟩ := own_vals ho4
        subst hv4
        have O4 := Lib.hid ho4
        have z4 := N4.out.size
        have M4 := Lib.hid (bnext M3.out z3 N4.out)
        have L4 := Lib.hid (bnext L3.out l3 N4.out)
        have z14 := M4.out.size
        clear hown4 hgrow4 ho4 V3 c3
        by_cases hx0 : 0 < x.length
        · obtain ⟨g, hXg, hgB, hg3⟩ := X3.out hx0
          subst hXg
          have hglt := hg3.lt
          have B4 := Lib.hid (hg3.call N4.out)
          clear hg3 X3
          go_wp2
          go_loopw [12] (fun i wv => ∃ (j : Nat) (D' : List (Int × Int × ByteArray)), j ≤ x.length ∧ i = .int .i64 j ∧ D'.length = x.length ∧ Hid (Blk wv g D') ∧ Hid (w4.grownBy wv (some g))) (fun i _ => x.length - (intOf i).toNat)
          case atStart => exact ⟨0, x, by omega, rfl, rfl, B4, Lib.hid (World.grownBy.refl _ _)⟩
          case round =>
            obtain ⟨j, D', hj, rfl, hD', HB, HGR⟩ := hrel
            by_cases hjx : j < x.length
            · obtain ⟨b0, b1, b2⟩ := HB.out.at j (by omega)
              have f0 := HB.out.free (j * 3)
              have f1 := HB.out.free (j * 3 + 1)
              have f2 := HB.out.free (j * 3 + 2)
              go_wp2
              go_roundw
              case rel => exact ⟨j + 1, D'.set j (4, 0, ⟨#[109, 105, 110, 101]⟩), by omega, by go_num, by rw [List.length_set]; exact hD', Lib.hid (HB.out.set j (by omega) (4, 0, ⟨#[109, 105, 110, 101]⟩)), Lib.hid (grown_set (grown_set (grown_set HGR.out _ _) _ _) _ _)⟩
              case measure => simp [intOf]; omega
            · have O5 := Lib.hid (O4.out.kept HGR.out (.inr (by
                intro h
                have := (O4.out.lt g h).1
                omega)))
              have M5 := Lib.hid (M4.out.grown HGR.out z14 (fun g' hg' => by cases hg'; exact hgB))
              have L5 := Lib.hid (L4.out.grown HGR.out (by omega) (fun g' hg' => by cases hg'; omega))
              have V5 := Lib.hid (own_vals' O5.out)
              have c5 := C0.out _ M5.out
              have z5 := M5.out.size
              clear O5 HGR HB
              go_wp2_with fail
              refine (rrowSame_yes Z D cz cp R _ V5.out ((HV.out.below M5.out).more z5) (by omega)).mono ?_
              rintro e w6 ⟨rfl, hb6⟩
              have L6 := Lib.hid (bnext L5.out L5.out.size hb6)
              clear hb6 c5
              go_wp2
              go_roundw
              case rel => exact ⟨k + 1, by omega, by go_num, HS2, L6⟩
              case measure => simp [intOf]; omega
        · obtain rfl : x = [] := List.eq_nil_of_length_eq_zero (by omega)
          clear X3
          go_wp2
          go_loopw [12] (fun i wv => i = .int .i64 0 ∧ w4 = wv) (fun i _ => 0)
          case atStart => exact ⟨rfl, rfl⟩
          case round =>
            obtain ⟨rfl, rfl⟩ := hrel
            have V5 := Lib.hid (own_vals' O4.out)
            have c5 := C0.out _ M4.out
            go_wp2_with fail
            refine (rrowSame_yes Z D cz cp R _ V5.out ((HV.out.below M4.out).more z14) (by omega)).mono ?_
            rintro e w6 ⟨rfl, hb6⟩
            have L6 := Lib.hid (bnext L4.out L4.out.size hb6)
            clear hb6 c5
            go_wp2
            go_roundw
            case rel => exact ⟨k + 1, by omega, by go_num, HS2, L6⟩
            case measure => simp [intOf]; omega
    · obtain rfl : k = L.length := by omega
      rw [List.take_length] at HS
      have hcl := cat_small HS.out
      go_wp2_with fail
      refine (alive_any m _ (HG.out.next HL.out)).mono ?_
      rintro e w1 ⟨rfl, hb1⟩
      have L1 := Lib.hid (bnext HL.out hsz hb1)
      clear hb1
      go_wp2_with fail
      refine (join_any A ca L _ ((HR.out.below L1.out).more L1.out.size) (by omega) (by omega)).mono ?_
      rintro e w2 ⟨g, rfl, _, hB, hb2⟩
      have L2 := Lib.hid (bnext L1.out L1.out.size hb2)
      have B2 := Lib.hid hB
      clear hb2 hB
      go_wp2_with fail
      refine (rjoin_any A ca L _ ((HR.out.below L2.out).more L2.out.size) (by omega) (by omega)).mono ?_
      rintro e w3 ⟨Y, cy, rfl, hY, hb3⟩
      have L3 := Lib.hid (bnext L2.out L2.out.size hb3)
      have B3 := Lib.hid (B2.out.call hb3)
      have Y3 := Lib.hid hY
      clear hb3 hY B2
      go_wp2_with fail
      refine (rrowSame_yes _ Y _ cy (catL L) _ B3.out.vals Y3.out (by omega)).mono ?_
      rintro e w4 ⟨rfl, hb4⟩
      have L4 := Lib.hid (bnext L3.out L3.out.size hb4)
      clear hb4
      go_wp2
      go_ret
      exact ⟨rfl, L4.out⟩
set_option maxHeartbeats 4000000 in
/-- the walk where there are too many -/
theorem walkN (A C : Option Addr) (ca cc : Nat) (n k : Nat) (m : Int) (w : World) (hn : n ≤ 5864062014806) (hk : k ≤ 17592186044416) (h : 30 < n ∨ 30 < k) (hg : Glob w.heap.size m w) :
    Calls Tryd.prog 4 #[.slice A n ca, .slice C k cc] w fun e w' => e = .returned (.bool true) ∧ Below w.heap.size w w' := by
  have HV := Lib.hid (alive_any m w hg)
  clear hg
  by_cases h1 : 30 < n
  · have e1 : decide ((30 : Int) < (n : Int)) = true := by simp; omega
    clear h
    go_enter Tryd.func4, Tryd.ntmps4
    go_wp2_with fail
    refine HV.out.mono ?_
    rintro e w4 ⟨rfl, hb4⟩
    have L4 := Lib.hid hb4
    clear hb4
    go_wp2
    go_ret
    exact ⟨rfl, L4.out⟩
  · have h2 : 30 < k := by omega
    have e1 : decide ((30 : Int) < (n : Int)) = false := by simp; omega
    have e2 : decide ((30 : Int) < (k : Int)) = true := by simp; omega
    clear h
    go_enter Tryd.func4, Tryd.ntmps4
    go_wp2_with fail
    refine HV.out.mono ?_
    rintro e w4 ⟨rfl, hb4⟩
    have L4 := Lib.hid hb4
    clear hb4
    go_wp2
    go_ret
    exact ⟨rfl, L4.out⟩
theorem walk (A : Option Addr) (ca : Nat) (L : List (Option Addr × Nat × List (Int × Int × ByteArray))) (C : Option Addr) (cc : Nat) (at_ : List Int) (m : Int) (w : World) (iA : RowsAt w w.heap.size A L ∧ (∀ x ∈ L, RowIn w x.1 x.2.2) ∧ L.length ≤ 5864062014806) (iC : Ints w w.heap.size C at_ ∧ at_.length ≤ 17592186044416) (hg : Glob w.heap.size m w) :
    Calls Tryd.prog 4 #[.slice A L.length ca, .slice C at_.length cc] w fun e w' => e = .returned (.bool true) ∧ Below w.heap.size w w' := by
  by_cases h : L.length ≤ 30 ∧ at_.length ≤ 30
  · exact walkX A C ca cc L at_ m w iA.1 iA.2.1 iC.1 h.1 h.2 hg
  · exact walkN A C ca cc _ _ m w iA.2.2 iC.2 (by omega) hg
end Go.Proofs.YtpdoomhpfdmklaaDoor.rowPicks
