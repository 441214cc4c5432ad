/-
  The walk of LexJoins.
-/
import Derived.Test.YthkdpfadjbhmoaaDoorLexMore
namespace Go.Proofs.YthkdpfadjbhmoaaDoor.lexJoins
open Go.ChangeShapes Go.WideShapes Go.ChangeAt Go.RowKit Val Elems Go.Proofs.YthkdpfadjbhmoaaDoor.Code
set_option linter.unusedVariables false
theorem onW_get (d : Int) (l : List W) (i : Nat) (h : i < l.length) : (onW d l)[i]? = some (l[i].1, l[i].2.1, l[i].2.2 + d) := by
  unfold onW
  rw [List.getElem?_map, List.getElem?_eq_getElem h]
  rfl
theorem wE_ok {s : List UInt8} (h : wE s = 0) : ∃ l, wordsL s 0 = .ok l := by
  unfold wE at h
  cases hw : wordsL s 0 with
  | ok l => exact ⟨l, rfl⟩
  | error j => rw [hw] at h; cases h
/-- the words of both texts, and where the second ones stand -/
theorem join_get {la lb lc : List W} {n : Int} (h : lc = la ++ onW n lb) : lc.length = la.length + lb.length ∧ (∀ (i : Nat) (hi : i < la.length) (hc : i < lc.length), lc[i] = la[i]) ∧ (∀ (i j : Nat) (hj : j < lb.length) (hc : i < lc.length), i = la.length + j → lc[i] = (lb[j].1, lb[j].2.1, lb[j].2.2 + n)) := by
  subst h
  refine ⟨by rw [List.length_append, onW_length], fun i hi hc => List.getElem_append_left hi, fun i j hj hc e => ?_⟩
  have h1 : (la ++ onW n lb)[i]? = some (lb[j].1, lb[j].2.1, lb[j].2.2 + n) := by
    rw [List.getElem?_append_right (by omega), show i - la.length = j by omega]
    exact onW_get n lb j hj
  rw [List.getElem?_eq_getElem hc] at h1
  exact Option.some.inj h1
set_option maxHeartbeats 8000000 in
set_option maxRecDepth 100000 in
theorem walk (a b : ByteArray) (m : Int) (w : World) (ha : a.size ≤ 1048576) (hb : b.size ≤ 1048576) (hg : Glob w.heap.size m w) :
    Calls Tryd.prog 6 #[.string a, .string b] w fun e w' => e = .returned (.bool true) ∧ Below w.heap.size w w' := by
  have HG := Lib.hid hg
  clear hg
  have hCl : (a ++ ⟨#[32]⟩ ++ b).data.toList = a.data.toList ++ 32 :: b.data.toList := by rw [Go.Joins.data_append, Go.Joins.data_append]; simp
  have hCs : (a ++ ⟨#[32]⟩ ++ b).size = a.size + 1 + b.size := by rw [ByteArray.size_append, ByteArray.size_append]; rfl
  have HWA := Lib.hid (fun w hm => words_any a m w (by omega) hm)
  have HWB := Lib.hid (fun w hm => words_any b m w (by omega) hm)
  have HWC := Lib.hid (fun w hm => words_any (a ++ ⟨#[32]⟩ ++ b) m w (by omega) hm)
  unfold WordsPost at HWA HWB HWC
  rw [hCl] at HWC
  have hca := wL_count a.data.toList
  have hcb := wL_count b.data.toList
  rw [← size_list] at hca hcb
  clear hCl hCs
  by_cases hbig : 300 < a.size ∨ 300 < b.size ∨ wE a.data.toList ≠ 0
  · obtain ⟨pa, hpa⟩ : ∃ pa, wP a.data.toList = pa := ⟨_, rfl⟩
    obtain ⟨ea, hea⟩ : ∃ ea, wE a.data.toList = ea := ⟨_, rfl⟩
    obtain ⟨eb, heb⟩ : ∃ eb, wE b.data.toList = eb := ⟨_, rfl⟩
    obtain ⟨ec, hec⟩ : ∃ ec, wE (a.data.toList ++ 32 :: b.data.toList) = ec := ⟨_, rfl⟩
    obtain ⟨pb, hpb⟩ : ∃ pb, wP b.data.toList = pb := ⟨_, rfl⟩
    obtain ⟨pc, hpc⟩ : ∃ pc, wP (a.data.toList ++ 32 :: b.data.toList) = pc := ⟨_, rfl⟩
    obtain ⟨la, hla⟩ : ∃ la, wL a.data.toList = la := ⟨_, rfl⟩
    obtain ⟨lb, hlb⟩ : ∃ lb, wL b.data.toList = lb := ⟨_, rfl⟩
    obtain ⟨lc, hlc⟩ : ∃ lc, wL (a.data.toList ++ 32 :: b.data.toList) = lc := ⟨_, rfl⟩
    rw [hpa, hea, hla] at HWA
    rw [hpb, heb, hlb] at HWB
    rw [hpc, hec, hlc] at HWC
    rw [hea] at hbig
    clear hpa hea heb hec hpb hpc hla hlb hlc hca hcb
    by_cases hx : 300 < a.size
    · clear hbig
      go_enter Tryd.func6, Tryd.ntmps6
      go_wp2_with fail
      refine (HWA.out _ HG.out.cell).mono ?_
      rintro e w1 ⟨A1, c1, rfl, v1, hb1⟩
      have L1 := Lib.hid hb1
      have V1 := Lib.hid v1
      clear hb1 v1
      go_wp2_with fail
      refine (HWB.out _ (HG.out.next L1.out).cell).mono ?_
      rintro e w2 ⟨A2, c2, rfl, v2, hb2⟩
      have L2 := Lib.hid (bnext L1.out L1.out.size hb2)
      have V12 := Lib.hid ((V1.out.below hb2).more hb2.size)
      have V2 := Lib.hid v2
      clear hb2 v2 V1
      go_wp2_with fail
      refine (HWC.out _ (HG.out.next L2.out).cell).mono ?_
      rintro e w3 ⟨A3, c3, rfl, v3, hb3⟩
      have L3 := Lib.hid (bnext L2.out L2.out.size hb3)
      have V13 := Lib.hid ((V12.out.below hb3).more hb3.size)
      have V23 := Lib.hid ((V2.out.below hb3).more hb3.size)
      have V3 := Lib.hid v3
      clear hb3 v3 V12 V2
      go_wp2_with fail
      refine (alive_any m _ (HG.out.next L3.out)).mono ?_
      rintro e w4 ⟨rfl, hb4⟩
      have L4 := Lib.hid (bnext L3.out L3.out.size hb4)
      clear hb4
      go_wp2
      go_ret
      exact ⟨rfl, L4.out⟩
    by_cases hy : 300 < b.size
    · clear hbig
      go_enter Tryd.func6, Tryd.ntmps6
      go_wp2_with fail
      refine (HWA.out _ HG.out.cell).mono ?_
      rintro e w1 ⟨A1, c1, rfl, v1, hb1⟩
      have L1 := Lib.hid hb1
      have V1 := Lib.hid v1
      clear hb1 v1
      go_wp2_with fail
      refine (HWB.out _ (HG.out.next L1.out).cell).mono ?_
      rintro e w2 ⟨A2, c2, rfl, v2, hb2⟩
      have L2 := Lib.hid (bnext L1.out L1.out.size hb2)
      have V12 := Lib.hid ((V1.out.below hb2).more hb2.size)
      have V2 := Lib.hid v2
      clear hb2 v2 V1
      go_wp2_with fail
      refine (HWC.out _ (HG.out.next L2.out).cell).mono ?_
      rintro e w3 ⟨A3, c3, rfl, v3, hb3⟩
      have L3 := Lib.hid (bnext L2.out L2.out.size hb3)
      have V13 := Lib.hid ((V12.out.below hb3).more hb3.size)
      have V23 := Lib.hid ((V2.out.below hb3).more hb3.size)
      have V3 := Lib.hid v3
      clear hb3 v3 V12 V2
      go_wp2_with fail
      refine (alive_any m _ (HG.out.next L3.out)).mono ?_
      rintro e w4 ⟨rfl, hb4⟩
      have L4 := Lib.hid (bnext L3.out L3.out.size hb4)
      clear hb4
      go_wp2
      go_ret
      exact ⟨rfl, L4.out⟩
    · have hz : ea ≠ 0 := by
        rcases hbig with h | h | h
        · exact absurd h hx
        · exact absurd h hy
        · exact h
      have e0 : (ea != 0) = true := by simpa using hz
      clear hbig hz
      go_enter Tryd.func6, Tryd.ntmps6
      go_wp2_with fail
      refine (HWA.out _ HG.out.cell).mono ?_
      rintro e w1 ⟨A1, c1, rfl, v1, hb1⟩
      have L1 := Lib.hid hb1
      have V1 := Lib.hid v1
      clear hb1 v1
      go_wp2_with fail
      refine (HWB.out _ (HG.out.next L1.out).cell).mono ?_
      rintro e w2 ⟨A2, c2, rfl, v2, hb2⟩
      have L2 := Lib.hid (bnext L1.out L1.out.size hb2)
      have V12 := Lib.hid ((V1.out.below hb2).more hb2.size)
      have V2 := Lib.hid v2
      clear hb2 v2 V1
      go_wp2_with fail
      refine (HWC.out _ (HG.out.next L2.out).cell).mono ?_
      rintro e w3 ⟨A3, c3, rfl, v3, hb3⟩
      have L3 := Lib.hid (bnext L2.out L2.out.size hb3)
      have V13 := Lib.hid ((V12.out.below hb3).more hb3.size)
      have V23 := Lib.hid ((V2.out.below hb3).more hb3.size)
      have V3 := Lib.hid v3
      clear hb3 v3 V12 V2
      go_wp2_with fail
      refine (alive_any m _ (HG.out.next L3.out)).mono ?_
      rintro e w4 ⟨rfl, hb4⟩
      have L4 := Lib.hid (bnext L3.out L3.out.size hb4)
      clear hb4
      go_wp2
      go_ret
      exact ⟨rfl, L4.out⟩
  · have hea0 : wE a.data.toList = 0 := by
      by_cases h : wE a.data.toList = 0
      · exact h
      · exact absurd (.inr (.inr h)) hbig
    have hxa : ¬ 300 < a.size := fun h => hbig (.inl h)
    have hxb : ¬ 300 < b.size := fun h => hbig (.inr (.inl h))
    clear hbig
    obtain ⟨la, hwa⟩ := wE_ok hea0
    have hJ := words_join b.data.toList a.data.toList 0 la hwa
    have hON := words_on b.data.toList 0 ((a.data.toList.length : Int) + 1)
    rw [show (0 : Int) + (a.data.toList.length : Int) + 1 = 0 + ((a.data.toList.length : Int) + 1) by omega, hON] at hJ
    have hIB := words_within b.data.toList 0
    rw [← size_list] at hJ hIB
    obtain ⟨x1, x2, x3⟩ := words_ok hwa
    rw [x1, x2, x3] at HWA
    rw [x1] at hca
    clear x1 x2 x3 hON hwa hea0
    cases hwb : wordsL b.data.toList 0 with
    | error j =>
      obtain ⟨hj0, hj1⟩ := hIB.1 j hwb
      rw [hwb] at hJ
      obtain ⟨y1, y2, y3⟩ := words_err hwb
      obtain ⟨z1, z2, z3⟩ := words_err hJ
      rw [y1, y2, y3] at HWB
      rw [z1, z2, z3, show j + ((a.size : Int) + 1) = j + (a.size : Int) + 1 by omega] at HWC
      clear y1 y2 y3 z1 z2 z3 hJ hwb hIB hcb
      go_enter Tryd.func6, Tryd.ntmps6
      go_wp2_with fail
      refine (HWA.out _ HG.out.cell).mono ?_
      rintro e w1 ⟨A1, c1, rfl, v1, hb1⟩
      have L1 := Lib.hid hb1
      have V1 := Lib.hid v1
      clear hb1 v1
      go_wp2_with fail
      refine (HWB.out _ (HG.out.next L1.out).cell).mono ?_
      rintro e w2 ⟨A2, c2, rfl, v2, hb2⟩
      have L2 := Lib.hid (bnext L1.out L1.out.size hb2)
      have V12 := Lib.hid ((V1.out.below hb2).more hb2.size)
      have V2 := Lib.hid v2
      clear hb2 v2 V1
      go_wp2_with fail
      refine (HWC.out _ (HG.out.next L2.out).cell).mono ?_
      rintro e w3 ⟨A3, c3, rfl, v3, hb3⟩
      have L3 := Lib.hid (bnext L2.out L2.out.size hb3)
      have V13 := Lib.hid ((V12.out.below hb3).more hb3.size)
      have V23 := Lib.hid ((V2.out.below hb3).more hb3.size)
      have V3 := Lib.hid v3
      clear hb3 v3 V12 V2
      go_wp2_with fail
      refine (alive_any m _ (HG.out.next L3.out)).mono ?_
      rintro e w4 ⟨rfl, hb4⟩
      have L4 := Lib.hid (bnext L3.out L3.out.size hb4)
      clear hb4
      go_wp2
      go_ret
      exact ⟨by simp, L4.out⟩
    | ok lb =>
      have hIN := hIB.2 lb hwb
      rw [hwb] at hJ
      obtain ⟨y1, y2, y3⟩ := words_ok hwb
      obtain ⟨z1, z2, z3⟩ := words_ok hJ
      rw [y1, y2, y3] at HWB
      rw [z1, z2, z3] at HWC
      rw [y1] at hcb
      obtain ⟨lc, hlc⟩ : ∃ lc, la ++ onW ((a.size : Int) + 1) lb = lc := ⟨_, rfl⟩
      obtain ⟨g1, g2, g3⟩ := join_get hlc.symm
      rw [hlc, g1] at HWC
      have HG1 := Lib.hid g1
      have HG2 := Lib.hid g2
      have HG3 := Lib.hid g3
      have HIN := Lib.hid hIN
      clear y1 y2 y3 z1 z2 z3 hJ hwb hIB g1 g2 g3 hlc hIN
      go_enter Tryd.func6, Tryd.ntmps6
      go_wp2_with fail
      refine (HWA.out _ HG.out.cell).mono ?_
      rintro e w1 ⟨A1, c1, rfl, v1, hb1⟩
      have L1 := Lib.hid hb1
      have V1 := Lib.hid v1
      clear hb1 v1
      go_wp2_with fail
      refine (HWB.out _ (HG.out.next L1.out).cell).mono ?_
      rintro e w2 ⟨A2, c2, rfl, v2, hb2⟩
      have L2 := Lib.hid (bnext L1.out L1.out.size hb2)
      have V12 := Lib.hid ((V1.out.below hb2).more hb2.size)
      have V2 := Lib.hid v2
      clear hb2 v2 V1
      go_wp2_with fail
      refine (HWC.out _ (HG.out.next L2.out).cell).mono ?_
      rintro e w3 ⟨A3, c3, rfl, v3, hb3⟩
      have L3 := Lib.hid (bnext L2.out L2.out.size hb3)
      have V13 := Lib.hid ((V12.out.below hb3).more hb3.size)
      have V23 := Lib.hid ((V2.out.below hb3).more hb3.size)
      have V3 := Lib.hid v3
      clear hb3 v3 V12 V2
      go_wp2
      go_loopw [14] (fun t wr => ∃ i : Nat, i ≤ la.length + lb.length ∧ t = .int .i64 i ∧ Below w3.heap.size w3 wr) (fun t _ => la.length + lb.length - (intOf t).toNat)
      case atStart => exact ⟨0, by omega, rfl, Below.refl _ _⟩
      case round =>
        obtain ⟨i, hi, rfl, hbel⟩ := hrel
        have hsz := hbel.size
        have HL := Lib.hid hbel
        have VA := Lib.hid (V13.out.below hbel)
        have VB := Lib.hid (V23.out.below hbel)
        have VC := Lib.hid (V3.out.below hbel)
        have L4 := Lib.hid (bnext L3.out L3.out.size hbel)
        clear hbel
        by_cases hil : i < la.length + lb.length
        · have hic : i < lc.length := by rw [HG1.out]; exact hil
          obtain ⟨cd, rfl, gc, q0, q1, q2⟩ := at_word VC.out i hic
          by_cases hia : i < la.length
          · obtain ⟨ad, rfl, ga, d0, d1, d2⟩ := at_word VA.out i hia
            rw [HG2.out i hia hic] at q0 q1 q2
            obtain ⟨x, hx⟩ : ∃ x, la[i] = x := ⟨_, rfl⟩
            rw [hx] at q0 q1 q2 d0 d1 d2
            obtain ⟨k, t, p⟩ := x
            obtain ⟨U, hU⟩ : ∃ U : ByteArray, ⟨t.toArray⟩ = U := ⟨_, rfl⟩
            dsimp only at q0 q1 q2 d0 d1 d2
            rw [hU] at q1 d1
            have gc2 : cd.block < wr.heap.size := Nat.lt_of_lt_of_le gc hsz
            have ga2 : ad.block < wr.heap.size := Nat.lt_of_lt_of_le ga hsz
            have Q0 := fun o => ((below_alloc wr o).cell (p := cd.add (i * 3)) (by rw [add_block]; exact gc2)).trans q0
            have Q1 := fun o => ((below_alloc wr o).cell (p := ⟨(cd.add (i * 3)).block, (cd.add (i * 3)).off + 1, none⟩) (by show (cd.add (i * 3)).block < _; rw [add_block]; exact gc2)).trans q1
            have Q2 := fun o => ((below_alloc wr o).cell (p := ⟨(cd.add (i * 3)).block, (cd.add (i * 3)).off + 2, none⟩) (by show (cd.add (i * 3)).block < _; rw [add_block]; exact gc2)).trans q2
            have D0 := fun o => ((below_alloc wr o).cell (p := ad.add (i * 3)) (by rw [add_block]; exact ga2)).trans d0
            have D1 := fun o => ((below_alloc wr o).cell (p := ⟨(ad.add (i * 3)).block, (ad.add (i * 3)).off + 1, none⟩) (by show (ad.add (i * 3)).block < _; rw [add_block]; exact ga2)).trans d1
            have D2 := fun o => ((below_alloc wr o).cell (p := ⟨(ad.add (i * 3)).block, (ad.add (i * 3)).off + 2, none⟩) (by show (ad.add (i * 3)).block < _; rw [add_block]; exact ga2)).trans d2
            have L5 := Lib.hid (HL.out.alloc hsz (.cells #[.int .i64 k, .string U, .int .i64 p] 35))
            clear hU hx hic q0 q1 q2 d0 d1 d2
            go_wp2
            go_quiet (fail)
            go_wp2
            go_roundw
            case rel => exact ⟨i + 1, by omega, by go_num, drewN_below L5.out _⟩
            case measure => simp [intOf]; omega
          · obtain ⟨j, hj⟩ : ∃ j, i = la.length + j := ⟨i - la.length, by omega⟩
            have hjb : j < lb.length := by omega
            obtain ⟨bd, rfl, ga, d0, d1, d2⟩ := at_word VB.out j hjb
            rw [HG3.out i j hjb hic hj] at q0 q1 q2
            have hp := HIN.out lb[j] (List.getElem_mem hjb)
            obtain ⟨x, hx⟩ : ∃ x, lb[j] = x := ⟨_, rfl⟩
            rw [hx] at q0 q1 q2 d0 d1 d2 hp
            obtain ⟨k, t, p⟩ := x
            obtain ⟨U, hU⟩ : ∃ U : ByteArray, ⟨t.toArray⟩ = U := ⟨_, rfl⟩
            dsimp only at q0 q1 q2 d0 d1 d2 hp
            rw [hU] at q1 d1
            rw [show p + ((a.size : Int) + 1) = p + (a.size : Int) + 1 by omega] at q2
            have gc2 : cd.block < wr.heap.size := Nat.lt_of_lt_of_le gc hsz
            have ga2 : bd.block < wr.heap.size := Nat.lt_of_lt_of_le ga hsz
            have Q0 := fun o => ((below_alloc wr o).cell (p := cd.add (i * 3)) (by rw [add_block]; exact gc2)).trans q0
            have Q1 := fun o => ((below_alloc wr o).cell (p := ⟨(cd.add (i * 3)).block, (cd.add (i * 3)).off + 1, none⟩) (by show (cd.add (i * 3)).block < _; rw [add_block]; exact gc2)).trans q1
            have Q2 := fun o => ((below_alloc wr o).cell (p := ⟨(cd.add (i * 3)).block, (cd.add (i * 3)).off + 2, none⟩) (by show (cd.add (i * 3)).block < _; rw [add_block]; exact gc2)).trans q2
            have D0 := fun o => ((below_alloc wr o).cell (p := bd.add (j * 3)) (by rw [add_block]; exact ga2)).trans d0
            have D1 := fun o => ((below_alloc wr o).cell (p := ⟨(bd.add (j * 3)).block, (bd.add (j * 3)).off + 1, none⟩) (by show (bd.add (j * 3)).block < _; rw [add_block]; exact ga2)).trans d1
            have D2 := fun o => ((below_alloc wr o).cell (p := ⟨(bd.add (j * 3)).block, (bd.add (j * 3)).off + 2, none⟩) (by show (bd.add (j * 3)).block < _; rw [add_block]; exact ga2)).trans d2
            have L5 := Lib.hid (HL.out.alloc hsz (.cells #[.int .i64 k, .string U, .int .i64 (p + (a.size : Int) + 1)] 35))
            have s0 : (i : Int) - (la.length : Int) = (j : Int) := by omega
            have hp0 : 0 ≤ p := hp.1
            have hp1 : p < (b.size : Int) := by have := hp.2; omega
            clear hU hx hic q0 q1 q2 d0 d1 d2 hp hj
            go_wp2
            go_quiet (fail)
            go_wp2
            go_roundw
            case rel => exact ⟨i + 1, by omega, by go_num, drewN_below L5.out _⟩
            case measure => simp [intOf]; omega
        · obtain rfl : i = la.length + lb.length := by omega
          go_wp2_with fail
          refine (alive_any m _ (HG.out.next L4.out)).mono ?_
          rintro e w5 ⟨rfl, hb5⟩
          have L5 := Lib.hid (bnext L4.out L4.out.size hb5)
          clear hb5
          go_wp2
          go_ret
          exact ⟨rfl, L5.out⟩
end Go.Proofs.YthkdpfadjbhmoaaDoor.lexJoins
