/-
  The walk of instarlaw07.IndexPlays.
-/
import Derived.Test.YtjjikooabmddlaaGreatDoorM31
import Derived.Test.YtjjikooabmddlaaGreatDoorM32
import Derived.Test.YtjjikooabmddlaaGreatDoorM9
namespace Go.Proofs.YtjjikooabmddlaaGreatDoor.Items
open Go.ChangeShapes Go.WideShapes Go.ChangeAt Go.RowKit Val Go.Proofs.YtjjikooabmddlaaGreatDoor.Code Go.Proofs.YtjjikooabmddlaaGreatDoor.Elems Go.Proofs.YtjjikooabmddlaaGreatDoor.ZP Go.Proofs.YtjjikooabmddlaaGreatDoor.MapSl
set_option linter.unusedVariables false
set_option maxRecDepth 100000

/-- both indexes, the keys, and what came in -/
structure PlaysAt (w : World) (k0 p g : Nat) (C A0 : Option Addr) (cc c0 : Nat) (l : List Int) (K U : Option Addr) (ck cu nk nu : Nat) (i : Nat) (wr : World) (mo : Option Nat) (S : List It) (A' : Option Addr) (ca' : Nat) : Prop where
  X : Idx wr p mo C cc l (pl S)
  R : RIdx wr g A0 c0 l A' ca' S
  box : wr.heap[k0]? = some (.cells #[.slice K nk ck, .slice U nu cu] 26 (0, 0))
  bel : Below w.heap.size w wr
  pB : w.heap.size ≤ p
  gB : w.heap.size ≤ g
  moB : ∀ b, mo = some b → w.heap.size ≤ b
  fit : FitI S
  len : S.length ≤ 30 * i
section
variable {w wr w3 w4 w5 : World} {k0 p g : Nat} {C A0 : Option Addr} {cc c0 : Nat} {l : List Int} {K U : Option Addr} {ck cu nk nu : Nat} {i : Nat} {mo mo' : Option Nat} {S : List It} {A' : Option Addr} {ca' : Nat}
theorem PlaysAt.next (h : PlaysAt w k0 p g C A0 cc c0 l K U ck cu nk nu i wr mo S A' ca') (hb : Below wr.heap.size wr w3) {j : Nat} (hj : i ≤ j) : PlaysAt w k0 p g C A0 cc c0 l K U ck cu nk nu j w3 mo S A' ca' where
  X := h.X.below hb
  R := h.R.below hb
  box := (hb.block k0 (Array.getElem?_eq_some_iff.1 h.box).1).trans h.box
  bel := bnext h.bel h.bel.size hb
  pB := h.pB
  gB := h.gB
  moB := h.moB
  fit := h.fit
  len := Nat.le_trans h.len (Nat.mul_le_mul_left 30 hj)
/-- both have put -/
theorem PlaysAt.put (h : PlaysAt w k0 p g C A0 cc c0 l K U ck cu nk nu i wr mo S A' ca') {s : List It} (fs : FitI s) (hs : s.length ≤ 30) (hX : Idx w4 p mo' C cc l (pl (putS l S s))) (hc : Chg wr w4 (badOf p mo)) (hm : mo' = mo ∨ mo = none ∧ ∀ b, mo' = some b → wr.heap.size ≤ b)
    {A5 : Option Addr} {ca5 : Nat} (hR : RIdx w5 g A0 c0 l A5 ca5 (putS l S s)) (hg : w4.grownBy w5 (some g)) : PlaysAt w k0 p g C A0 cc c0 l K U ck cu nk nu (i + 1) w5 mo' (putS l S s) A5 ca5 where
  X := hX.ref (h.R.but h.X hc) hg
  R := hR
  box := by
    have h1 := hc.block k0 (Array.getElem?_eq_some_iff.1 h.box).1 (idx_bad h.X h.box (by decide))
    have h2 := h1.trans h.box
    exact (hg.block k0 (Array.getElem?_eq_some_iff.1 h2).1 (fun e => blk_not h2 (h.R.but h.X hc).blk (by decide) (Option.some.inj e))).trans h2
  bel := (h.bel.trans (hc.below h.bel.size fun k hk => by
    rcases hk with rfl | hk
    · exact h.pB
    · exact h.moB k hk.symm)).grown hg (Nat.le_trans h.bel.size hc.size) fun j hj => by cases hj; exact h.gB
  pB := h.pB
  gB := h.gB
  moB := by
    rcases hm with hm | ⟨_, hm⟩
    · rw [hm]; exact h.moB
    · exact fun b e => Nat.le_trans h.bel.size (hm b e)
  fit := putS_fit h.fit fs
  len := Nat.le_trans putS_len (by have := h.len; omega)
end
end Go.Proofs.YtjjikooabmddlaaGreatDoor.Items
namespace Go.Proofs.YtjjikooabmddlaaGreatDoor.indexPlays
open Go.ChangeShapes Go.WideShapes Go.ChangeAt Go.RowKit Val Go.Proofs.YtjjikooabmddlaaGreatDoor.Code Go.Proofs.YtjjikooabmddlaaGreatDoor.Elems Go.Proofs.YtjjikooabmddlaaGreatDoor.ZP Go.Proofs.YtjjikooabmddlaaGreatDoor.MapSl Go.Proofs.YtjjikooabmddlaaGreatDoor.Items Go.Proofs.YtjjikooabmddlaaGreatDoor.RowOpen
set_option linter.unusedVariables false
set_option maxRecDepth 100000
set_option maxHeartbeats 8000000 in
theorem walk (A0 : Option Addr) (c0 : Nat) (l : List Int) (A1 : Option Addr) (c1 : Nat) (L : List (Option Addr × Nat × List It)) (K : Option Addr) (ck : Nat) (key : List (Int × Int × ByteArray)) (U : Option Addr) (cu : Nat) (to : List (Int × Int × ByteArray)) (m : Int) (w : World)
    (x0 : Ints w w.heap.size A0 l ∧ l.length ≤ 17592186044416) (x1 : SetsIn w A1 L ∧ (∀ x ∈ L, Items w w.heap.size x.1 x.2.2 ∧ FitI x.2.2 ∧ LongI x.2.2 ∧ x.2.2.length ≤ 4398046510976) ∧ L.length ≤ 5864062014806) (x2 : RowIn w K key) (y2 : RowIn w U to)
    (hm : w.cell? ⟨0, 0, none⟩ = some (.int .i64 m)) :
    Calls Tryz.prog 3 #[.slice A0 l.length c0, .slice A1 L.length c1, .agg #[.slice K key.length ck, .slice U to.length cu]] w fun e w' => e = .returned (.bool true) ∧ Below w.heap.size w w' := by
  obtain ⟨hi, hi2⟩ := x0
  obtain ⟨hA1, hL1, hl1⟩ := x1
  obtain ⟨vk, fk, sk, lk⟩ := x2
  obtain ⟨vu, fu, su, lu⟩ := y2
  obtain ⟨w1, hw1⟩ : ∃ w1, w.alloc (.cells #[.slice K key.length ck, .slice U to.length cu] 26) = w1 := ⟨_, rfl⟩
  have hb1 : Below w.heap.size w w1 := hw1 ▸ below_alloc w _
  have hbox : w1.heap[w.heap.size]? = some (.cells #[.slice K key.length ck, .slice U to.length cu] 26 (0, 0)) := hw1 ▸ heap_alloc_new w _
  have q0 : w1.cell? ⟨w.heap.size, 0, none⟩ = some (.slice K key.length ck) := cell_of_row w1 w.heap.size 0 _ _ _ hbox
  have q1 : w1.cell? ⟨w.heap.size, 1, none⟩ = some (.slice U to.length cu) := cell_of_row w1 w.heap.size 1 _ _ _ hbox
  have HB1 := Lib.hid hb1
  have HBX := Lib.hid hbox
  have HI := Lib.hid hi
  have HA := Lib.hid hA1
  have HL := Lib.hid hL1
  have HVK := Lib.hid vk
  have HVU := Lib.hid vu
  have HFK := Lib.hid fk
  have HM := Lib.hid hm
  have HFI := Lib.hid (fits_any A1 c1 L w1 (fun i hi => by
    obtain ⟨ad, e, h1, h2⟩ := hA1 i hi
    exact ⟨ad, e, Nat.lt_of_lt_of_le h1 hb1.size, (hb1.cell (by rw [add_block]; exact h1)).trans h2⟩) (fun x hx => ⟨(hL1 x hx).1.next hb1, (hL1 x hx).2⟩) hl1)
  have HSK := Lib.hid (small_any K ck key w1 ((vk.below hb1).more hb1.size) sk (by omega))
  have HSU := Lib.hid (small_any U cu to w1 ((vu.below hb1).more hb1.size) su (by omega))
  have HNW := Lib.hid (new_any A0 c0 l w1 (fun i h => by
    obtain ⟨ad, e, h1, h2⟩ := hi i h
    exact ⟨ad, e, Nat.lt_of_lt_of_le h1 hb1.size, (hb1.cell (by rw [add_block]; exact h1)).trans h2⟩) hi2)
  obtain ⟨b0, hb0⟩ : ∃ b, fitsS L = b := ⟨_, rfl⟩
  obtain ⟨b2, hb2⟩ : ∃ b, smallB key = b := ⟨_, rfl⟩
  obtain ⟨b3, hb3⟩ : ∃ b, smallB to = b := ⟨_, rfl⟩
  rw [hb0] at HFI
  rw [hb2] at HSK
  rw [hb3] at HSU
  have HB0 := Lib.hid hb0
  have HB2 := Lib.hid hb2
  have HB3 := Lib.hid hb3
  clear hb0 hb2 hb3 hi hA1 hL1 vk vu fk fu sk su lk lu hm hb1 hbox
  go_enter Tryz.func3, Tryz.ntmps3
  go_wp2_with fail
  refine HFI.out.mono ?_
  rintro e w2 ⟨rfl, rfl⟩
  clear HFI hw1
  go_wp2_with fail
  refine HSK.out.mono ?_
  rintro e w2 ⟨rfl, rfl⟩
  clear HSK
  go_wp2_with fail
  refine HSU.out.mono ?_
  rintro e w2 ⟨rfl, rfl⟩
  clear HSU
  go_wp2_with fail
  refine HNW.out.mono ?_
  rintro e w2 ⟨p, C, cc, rfl, hp, hX, hb2⟩
  have HX := Lib.hid hX
  have HL2 := Lib.hid (bnext HB1.out HB1.out.size hb2)
  have HBX2 := Lib.hid ((hb2.block w.heap.size (Array.getElem?_eq_some_iff.1 HBX.out).1).trans HBX.out)
  have HP := Lib.hid (show w.heap.size ≤ p from Nat.le_trans HB1.out.size hp)
  clear hX hb2 hp HNW HB1 HBX q0 q1
  by_cases hgo : (b0 && b2 && b3) = true ∧ l.length ≤ 12
  · obtain ⟨hbb, hl12⟩ := hgo
    simp only [Bool.and_eq_true] at hbb
    obtain ⟨⟨rfl, rfl⟩, rfl⟩ := hbb
    have hd : decide (12 < l.length) = false := by simpa using hl12
    have hgg := Lib.hid (below_alloc w2 (.cells #[.slice A0 l.length c0, .slice none 0 0] 35))
    obtain ⟨w3, hw3⟩ : ∃ w3, w2.alloc (.cells #[.slice A0 l.length c0, .slice none 0 0] 35) = w3 := ⟨_, rfl⟩
    have hb3 : Below w2.heap.size w2 w3 := hw3 ▸ hgg.out
    have hR : RIdx w3 w2.heap.size A0 c0 l none 0 [] := ⟨hw3 ▸ heap_alloc_new w2 _, ((HI.out.below HL2.out).more HL2.out.size).below hb3 |>.more hb3.size, ⟨At.nil _ _ _, fun x hx => by cases hx⟩⟩
    have HS := Lib.hid (show PlaysAt w w.heap.size p w2.heap.size C A0 cc c0 l K U ck cu key.length to.length 0 w3 none [] none 0 from
      { X := HX.out.below hb3, R := hR, box := (hb3.block w.heap.size (Array.getElem?_eq_some_iff.1 HBX2.out).1).trans HBX2.out, bel := bnext HL2.out HL2.out.size hb3, pB := HP.out, gB := HL2.out.size, moB := fun b e => (by cases e), fit := fun x hx => (by cases hx), len := by simp })
    obtain ⟨g, hg⟩ : ∃ g, w2.heap.size = g := ⟨_, rfl⟩
    rw [hg] at HS
    clear hgg hb3 hR HBX2 HX HL2
    go_wp2_with fail
    go_loopw [12] (fun i wr => ∃ (k : Nat) (mo : Option Nat) (S : List It) (A' : Option Addr) (ca' : Nat), k ≤ L.length ∧ i = .int .i64 k ∧ Hid (PlaysAt w w.heap.size p g C A0 cc c0 l K U ck cu key.length to.length k wr mo S A' ca')) (fun i _ => L.length - (intOf i).toNat)
    case atStart => exact ⟨0, none, [], none, 0, by omega, rfl, HS⟩
    case round =>
      obtain ⟨k, mo, S, A', ca', hkL, rfl, HPL⟩ := hrel
      have hL12 := fitsS_le HB0.out
      have hm3 := (HPL.out.bel.cell (p := ⟨0, 0, none⟩) (World.block_lt_of_cell? _ _ HM.out)).trans HM.out
      by_cases hlt : k < L.length
      · obtain ⟨ad, hA, ha, d0⟩ := HA.out k hlt
        subst hA
        have e0 := (HPL.out.bel.cell (p := ad.add k) (by rw [add_block]; exact ha)).trans d0
        obtain ⟨hIx, hFx, hLx, hnx⟩ := HL.out _ (List.getElem_mem hlt)
        have hsm := fitsS_all HB0.out _ (List.getElem_mem hlt)
        obtain ⟨x, hx⟩ : ∃ x, L[k] = x := ⟨_, rfl⟩
        rw [hx] at e0 hIx hFx hLx hnx hsm
        obtain ⟨a, c, Lk⟩ := x
        simp only at e0 hIx hFx hLx hnx hsm
        have hof := iof_any a c Lk wr ((hIx.below HPL.out.bel).more HPL.out.bel.size) hFx hnx (fun y hy => Nat.le_trans (hLx y hy).1 (by omega))
        have hs30 : (ofL Lk).length ≤ 30 := Nat.le_trans (ofL_length _) (smallI_le hsm)
        have hrl : ∀ y ∈ ofL Lk, y.2.2.1.length ≤ 1000000 := fun y hy => by
          have := (rightI_set (ofL_right Lk)).1 y hy
          unfold rightR at this
          rw [Bool.and_eq_true, decide_eq_true_eq] at this
          have h2 : y.2.2.1.length ≤ 24 := this.1
          omega
        have hfs : FitI (ofL Lk) := fun y hy => ⟨ofL_rows (P := FitL) (fun z hz => (hFx z hz).1) y hy, ofL_weights _ y hy⟩
        obtain ⟨s, hs⟩ : ∃ s, ofL Lk = s := ⟨_, rfl⟩
        obtain ⟨E, hE⟩ : ∃ E, ofE Lk = E := ⟨_, rfl⟩
        rw [hs] at hof hs30 hrl hfs
        rw [hE] at hof
        have HOF := Lib.hid hof
        have HFS := Lib.hid hfs
        have HRL := Lib.hid hrl
        clear hof hIx hFx hLx hnx hsm hx hs hE hfs hrl d0
        obtain ⟨ns, hns⟩ : ∃ ns, s.length = ns := ⟨_, rfl⟩
        go_wp2_with fail
        refine HOF.out.mono ?_
        rintro e w3 ⟨B, cb, rfl, i3, b3⟩
        have H3 := Lib.hid (HPL.out.next b3 (Nat.le_refl k))
        have I3 := Lib.hid i3
        have hlenS := H3.out.len
        by_cases hE0 : E = 0
        · subst hE0
          have hPut := xput_any p mo C cc l (pl S) B cb s m w3 H3.out.X I3.out HFS.out (by omega) (by rw [pl_length]; omega) HRL.out (by omega) ((H3.out.bel.cell (p := ⟨0, 0, none⟩) (World.block_lt_of_cell? _ _ HM.out)).trans HM.out)
          rw [hns] at hPut ⊢
          have HPut := Lib.hid hPut
          clear hPut i3 b3 e0 HOF
          go_wp2_with fail
          refine HPut.out.mono ?_
          rintro e w4 hP
          obtain ⟨he, mo', hX4, hc4, hd4⟩ := put_doc H3.out.X hP
          subst he
          have hDoc := iput_any g A0 c0 l A' ca' S B cb s w4 (H3.out.R.but H3.out.X hc4) (items_but I3.out hc4 H3.out.X.plain) H3.out.fit HFS.out (by omega) (by omega) (fun y hy => by
            have := (H3.out.X.rows (pu y) (List.mem_map.2 ⟨y, hy, rfl⟩)).1
            unfold rightR at this
            rw [Bool.and_eq_true, decide_eq_true_eq] at this
            have h2 : y.2.2.1.length ≤ 24 := this.1
            omega) HRL.out
          rw [hns] at hDoc
          unfold PutEnd at hDoc
          have hput := fun (A5 : Option Addr) (ca5 : Nat) (w5 : World) => H3.out.put (w5 := w5) (A5 := A5) (ca5 := ca5) HFS.out (by omega) hX4 hc4 hd4
          obtain ⟨S', hS'⟩ : ∃ S', putS l S s = S' := ⟨_, rfl⟩
          obtain ⟨E2, hE2⟩ : ∃ E2, putE l S s = E2 := ⟨_, rfl⟩
          rw [hS', hE2] at hDoc
          rw [hS'] at hput
          rw [hE2]
          have HDoc := Lib.hid hDoc
          have HPP := Lib.hid hput
          clear hDoc hput hX4 hc4 hd4 hP HPut hS' hE2 I3
          go_wp2_with fail
          refine HDoc.out.mono ?_
          rintro e w5 ⟨A5, ca5, rfl, hR5, hg5⟩
          have H5 := Lib.hid (HPP.out A5 ca5 w5 hR5 hg5)
          have q0 : w5.cell? ⟨w.heap.size, 0, none⟩ = some (.slice K key.length ck) := cell_of_row w5 w.heap.size 0 _ _ _ H5.out.box
          have q1 : w5.cell? ⟨w.heap.size, 1, none⟩ = some (.slice U to.length cu) := cell_of_row w5 w.heap.size 1 _ _ _ H5.out.box
          have hlen5 := H5.out.len
          have hsk : key.length ≤ 1000000 := by
            have := HB2.out
            unfold smallB at this
            rw [Bool.and_eq_true, decide_eq_true_eq] at this
            omega
          have hsu : to.length ≤ 1000000 := by
            have := HB3.out
            unfold smallB at this
            rw [Bool.and_eq_true, decide_eq_true_eq] at this
            omega
          have HSame := Lib.hid (isSame_any p mo' C cc l S' g A0 c0 A5 ca5 K U ck cu key to m w5 H5.out.X H5.out.R (by omega) (by omega) ((HVK.out.below H5.out.bel).more H5.out.bel.size) HFK.out hsk ((HVU.out.below H5.out.bel).more H5.out.bel.size) hsu ((H5.out.bel.cell (p := ⟨0, 0, none⟩) (World.block_lt_of_cell? _ _ HM.out)).trans HM.out))
          clear hR5 hg5 HDoc HPP hsk hsu
          go_wp2_with fail
          refine HSame.out.mono ?_
          rintro e w6 ⟨rfl, b6⟩
          have H6 := Lib.hid (H5.out.next b6 (Nat.le_refl _))
          clear b6 HSame q0 q1 H5
          go_wp2
          go_roundw
          case rel => exact ⟨k + 1, mo', S', A5, ca5, by omega, by go_num, H6⟩
          case measure => simp [intOf]; omega
        · have hne : (E != 0) = true := by simpa using hE0
          have H4 := Lib.hid (HPL.out.next b3 (Nat.le_succ k))
          clear i3 b3 e0 HOF hE0 HPL H3
          go_wp2
          go_roundw
          case rel => exact ⟨k + 1, mo, S, A', ca', by omega, by go_num, H4⟩
          case measure => simp [intOf]; omega
      · obtain rfl : k = L.length := by omega
        have HAL := Lib.hid (ialive_any m wr hm3)
        clear hm3
        go_wp2_with fail
        refine HAL.out.mono ?_
        rintro e w3 ⟨rfl, hb3⟩
        have X := Lib.hid (bnext HPL.out.bel HPL.out.bel.size hb3)
        clear hb3 HAL
        go_wp2
        go_ret
        exact ⟨rfl, X.out⟩
  · have HAL := Lib.hid (ialive_any m w2 ((HL2.out.cell (p := ⟨0, 0, none⟩) (World.block_lt_of_cell? _ _ HM.out)).trans HM.out))
    obtain ⟨d, hd⟩ : ∃ d, decide (12 < l.length) = d := ⟨_, rfl⟩
    have hd2 : decide ((12 : Int) < (l.length : Int)) = d := by rw [← hd]; exact decide_eq_decide.2 (by omega)
    have hd3 : decide ((l.length : Int) ≤ 12) = !d := by rw [← hd, ← decide_not]; exact decide_eq_decide.2 (by omega)
    have hor : (b0 && b2 && b3 && !d) = false := by
      rw [Bool.eq_false_iff]
      intro h
      simp only [Bool.and_eq_true, Bool.not_eq_true'] at h
      refine hgo ⟨by simp [h.1], ?_⟩
      have h2 := hd.trans h.2
      simpa using h2
    clear hgo
    cases b0 <;> cases b2 <;> cases b3 <;> cases d <;> first | (exact absurd hor (by decide)) | skip
    all_goals
      clear hor
      go_wp2_with fail
      refine HAL.out.mono ?_
      rintro e w3 ⟨rfl, hb3⟩
      have X := Lib.hid (bnext HL2.out HL2.out.size hb3)
      clear hb3 HAL
      go_wp2
      go_ret
      exact ⟨rfl, X.out⟩
end Go.Proofs.YtjjikooabmddlaaGreatDoor.indexPlays
