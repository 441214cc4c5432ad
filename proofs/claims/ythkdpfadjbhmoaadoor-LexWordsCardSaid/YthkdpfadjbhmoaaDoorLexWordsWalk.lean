/-
  The walk of LexWords.
-/
import Derived.Test.YthkdpfadjbhmoaaDoorLexMore
namespace Go.Proofs.YthkdpfadjbhmoaaDoor.lexWords
open Go.ChangeShapes Go.WideShapes Go.ChangeAt Go.RowKit Val Elems Go.Proofs.YthkdpfadjbhmoaaDoor.Code
set_option linter.unusedVariables false
set_option maxHeartbeats 4000000 in
set_option maxRecDepth 100000 in
theorem walk (s : ByteArray) (m : Int) (w : World) (hs : s.size ≤ maxLen) (hg : Glob w.heap.size m w) :
    Calls Tryd.prog 3 #[.string s] w fun e w' => e = .returned (.bool true) ∧ Below w.heap.size w w' := by
  have HG := Lib.hid hg
  clear hg
  by_cases hbig : 600 < s.size
  · go_enter Tryd.func3, Tryd.ntmps3
    go_wp2_with fail
    refine (alive_any m _ HG.out).mono ?_
    rintro e w1 ⟨rfl, hb1⟩
    have L1 := Lib.hid hb1
    clear hb1
    go_wp2
    go_ret
    exact ⟨rfl, L1.out⟩
  · have HWD := Lib.hid (fun w hm => words_any s m w (by omega) hm)
    have HRW := Lib.hid (fun w => rwords_any s w (by omega))
    have HO := Lib.hid (fun w => own_any s w)
    have HRO := Lib.hid (fun w => rown_any s w)
    have hcnt := wL_count s.data.toList
    rw [← size_list] at hcnt
    obtain ⟨l, hl⟩ : ∃ l, wL s.data.toList = l := ⟨_, rfl⟩
    obtain ⟨P, hP⟩ : ∃ P, wP s.data.toList = P := ⟨_, rfl⟩
    obtain ⟨E, hE⟩ : ∃ E, wE s.data.toList = E := ⟨_, rfl⟩
    obtain ⟨ow, how⟩ : ∃ ow, ownB s.toList = ow := ⟨_, rfl⟩
    unfold WordsPost at HWD HRW
    rw [hl, hP, hE] at HWD HRW
    rw [how] at HO HRO
    rw [hl] at hcnt
    clear hl hP hE how
    go_enter Tryd.func3, Tryd.ntmps3
    go_wp2_with fail
    refine (HWD.out _ HG.out.cell).mono ?_
    rintro e w1 ⟨A1, c1, rfl, v1, hb1⟩
    have L1 := Lib.hid hb1
    have V1 := Lib.hid v1
    clear hb1 v1
    go_wp2_with fail
    refine (HRW.out _).mono ?_
    rintro e w2 ⟨A2, c2, rfl, v2, hb2⟩
    have L2 := Lib.hid (bnext L1.out L1.out.size hb2)
    have V12 := Lib.hid ((V1.out.below hb2).more hb2.size)
    have V2 := Lib.hid v2
    clear hb2 v2 V1
    go_wp2_with fail
    refine (to_any A1 c1 l _ V12.out (by omega)).mono ?_
    rintro e w3 ⟨A3, c3, rfl, v3, hb3⟩
    have L3 := Lib.hid (bnext L2.out L2.out.size hb3)
    have V23 := Lib.hid ((V2.out.below hb3).more hb3.size)
    have V3 := Lib.hid v3
    clear hb3 v3 V2 V12
    go_wp2_with fail
    refine (same_words A3 A2 c3 c2 l _ V3.out V23.out (by omega)).mono ?_
    rintro e w4 ⟨rfl, hb4⟩
    have L4 := Lib.hid (bnext L3.out L3.out.size hb4)
    clear hb4 V3 V23
    go_wp2_with fail
    refine (alive_any m _ (HG.out.next L4.out)).mono ?_
    rintro e w5 ⟨rfl, hb5⟩
    have L5 := Lib.hid (bnext L4.out L4.out.size hb5)
    clear hb5
    go_wp2_with fail
    refine (HO.out _).mono ?_
    rintro e w6 ⟨rfl, rfl⟩
    go_wp2_with fail
    refine (HRO.out _).mono ?_
    rintro e w6 ⟨rfl, rfl⟩
    go_wp2
    go_ret
    exact ⟨by simp, L5.out⟩
end Go.Proofs.YthkdpfadjbhmoaaDoor.lexWords
