/-
  The contract of package index's where: the items of the keys that a function asks for.
-/
import Derived.Test.YtjjikooabmddlaaGreatDoorM17
import Derived.Test.YtjjikooabmddlaaGreatDoorM19
import Derived.Shelf.Abstract
import Derived.Test.YtjjikooabmddlaaGreatDoorM23
import Derived.Test.YtjjikooabmddlaaGreatDoorM6
import Derived.Test.YtjjikooabmddlaaGreatDoorM26
namespace Go.Proofs.YtjjikooabmddlaaGreatDoor.Items
open Go.ChangeShapes Go.WideShapes Go.ChangeAt Go.RowKit Val Go.Proofs.YtjjikooabmddlaaGreatDoor.Code Go.Proofs.YtjjikooabmddlaaGreatDoor.Elems Go.Proofs.YtjjikooabmddlaaGreatDoor.ZP Go.Proofs.YtjjikooabmddlaaGreatDoor.MapSl
set_option linter.unusedVariables false
set_option maxRecDepth 100000

/-- what is asked of a key -/
def Asks (w : World) (fn : Nat) (cap : Array Value) (q : List (Int × Int × ByteArray) → Bool) : Prop := ∀ (A : Option Addr) (c : Nat) (r : List (Int × Int × ByteArray)) (w1 : World), Below w.heap.size w w1 → Vals w1 w1.heap.size A r → r.length ≤ 24 →
  Calls Tryz.prog fn (#[.slice A r.length c] ++ cap) w1 fun e w2 => e = .returned (.bool (q r)) ∧ Below w1.heap.size w1 w2
set_option maxHeartbeats 4000000 in
theorem where_any (HO : OwnDoes) (fn : Nat) (cap : Array Value) (q : List (Int × Int × ByteArray) → Bool) (eg : ∀ args w, (callFunc fn args).run Tryz.prog w = .ok (.enter fn args) w) (p : Nat) (mo : Option Nat) (C : Option Addr) (cc : Nat) (l : List Int) (S : PL) (w : World) (hX : Idx w p mo C cc l S) (hl : l.length ≤ 24) (hS : S.length ≤ 1000) (hq : Asks w fn cap q) :
    Calls Tryz.prog 36 #[.pointer (some ⟨p, 0, none⟩), .func (.func fn) #[] cap] w (TellE w (S.filter fun x => q (pickL x.1 l))) := by
  obtain ⟨f, hf, hg⟩ := hX.map
  have HX := Lib.hid hX
  have HF := Lib.hid hf
  have HG := Lib.hid hg
  have HQ := Lib.hid hq
  have q1 := hX.sets
  have hpl := hX.lt
  clear hX hf hg hq
  obtain ⟨i0, hi0, iz0, iz1, iz2⟩ := info_parts info_set
  go_enter Tryz.func36, Tryz.ntmps36
  go_wp2_with (at_range; refine wpList_rngO _ rfl _ rfl mo S.length f rfl HF.out ?_)
  intro w1 cnt hrng hle hbel
  have hst := whereAt_start (w := w) (l := l) (S := S) (q := q) hrng hle hbel (Nat.le_refl _)
  have HS0 := Lib.hid hst
  obtain ⟨r, hr⟩ : ∃ r, w.heap.size = r := ⟨_, rfl⟩
  have HR := Lib.hid hr
  rw [hr] at HS0 ⊢
  clear hst hrng hbel hr
  go_wp2
  go_loopw [5] (fun v wr => ∃ left cnt LS, Hid (WhereAt w mo r S.length f l S q left cnt LS v wr)) (fun _ wr => leftO mo r wr)
  case atStart => exact ⟨_, _, _, HS0⟩
  case round =>
    obtain ⟨left, cnt1, LS, HW⟩ := hrel
    go_wp2_with (at_next; refine MapSl.wpList_stepO _ rfl _ rfl mo r S.length f left cnt1 rfl HW.out.rng ?done ?more)
    case done =>
      intro hdone
      obtain ⟨G, cap2, rfl, a1, a2, a3, a4, a5, a6, a7⟩ := whereAt_end HW.out HG.out HX.out.rows HX.out.set hS hS hdone
      have HC := Lib.hid ((HO G cap2 LS wr _ a1 a2 a3 a4 a5 a6 a7).mono fun e w2 h => h.next HW.out.bel)
      clear a1 a2 a3 a4 a5 a6 a7
      go_wp2_with fail
      refine HC.out.mono ?_
      rintro e w2 hT
      obtain ⟨A, c, M, rfl, hT2⟩ := hT
      have X := Lib.hid (show TellE w (S.filter fun x => q (pickL x.1 l)) (.returned (.slice A M.length c)) w2 from ⟨A, c, M, rfl, hT2⟩)
      clear hT2 HC
      go_wp2
      go_ret
      exact X.out
    case more =>
      intro k sa sn sc w3 cnt2 hk hlk hgk hr3 hlt hgr hsz hen
      have hM := whereMid_of HW.out hr3 hlk hlt hgr
      have HM := Lib.hid hM
      have hcnt := HW.out.rng.left_eq
      clear hr3 hM HW
      obtain ⟨_, L, hL0, hI, hp⟩ := (HG.out k).2 _ hgk
      simp only at hL0 hI
      obtain ⟨x, L', rfl⟩ : ∃ x L', L = x :: L' := by
        cases L with
        | nil => exact absurd hp.symm (by assumption)
        | cons x L' => exact ⟨x, L', rfl⟩
      have hx : pu x ∈ grpP l k S := by rw [← hp]; exact List.mem_map.2 ⟨x, by simp, rfl⟩
      obtain ⟨b1, b2, b3, b4⟩ := HX.out.rows _ (grp_mem.1 hx).1
      obtain ⟨ad, hA, ha, c0, c1, v0⟩ := hI.at 0 (by simp)
      subst hA
      obtain ⟨x1, x2, x3, x4⟩ := x
      simp only [List.getElem_cons_zero, pu] at c0 c1 v0 b1 b2 b4 hx
      have hx3 : x3.length ≤ 24 := by
        unfold rightR at b1
        rw [Bool.and_eq_true, decide_eq_true_eq] at b1
        exact b1.1
      have hsn : 0 < sn := by rw [hL0]; simp
      have HB := Lib.hid HM.out.bel
      have hz0 : (ad.add (0 * 2)).block < w.heap.size := by rw [add_block]; exact ha
      have q0 := (HX.out.below HB.out).places
      have had : ad.add (0 * 2) = ad := by simp [Addr.add]
      rw [had] at c0 hz0
      have e0 := (HB.out.cell (p := ad) hz0).trans c0
      have hz5 : ad.block < w3.heap.size := by have := HB.out.size; omega
      have hz3 : w.heap.size ≤ w3.heap.size := HB.out.size
      have hg0 : p < w3.heap.size := by omega
      have HIL := Lib.hid hI
      have HP := Lib.hid hp
      have HL0 := Lib.hid hL0
      have HXX := Lib.hid hx
      have V0 := Lib.hid ((v0.below HB.out).more HB.out.size)
      have hc := fun w' (h : Below w3.heap.size w3 w') => pick_any x1 C x2 cc x3 l w' ((V0.out.below h).more h.size) (((HX.out.below HB.out).ints.below h).more h.size) (by omega) (by omega)
      unfold PickPost at hc
      have HC := Lib.hid hc
      clear had hI hp hL0 hx c0 c1 v0 b1 b2 b3 b4 hc
      go_wp2_with fail
      go_region_held3 (fun w' => (w'.cell? ad = some (.slice x1 x3.length x2) ∧ w'.cell? ⟨p, 0, none⟩ = some (.slice C l.length cc)) ∧ Below w3.heap.size w3 w')
        (first | assumption | (refine keepP hb5 (by assumption) ?_; intro kk; exact ⟨(kk ad hz5).trans e0, (kk ⟨p, 0, none⟩ hg0).trans q0⟩) | (exact ⟨⟨e0, q0⟩, Below.drew (Below.refl _ _)⟩))
        (first | (go_at_call 53; with_reducible refine (HC.out _ ?cv).mono ?_; (case cv => exact (by assumption : _ ∧ Below w3.heap.size w3 _).2); rintro e w5 ⟨Z, cz, rfl, hv5, hb5⟩))
      have M2 := Lib.hid (show Below w3.heap.size w3 w5 by rename_i hS; exact hS.2)
      have hpl := pickL_le x3 l
      have hs := HQ.out Z cz (pickL x3 l) w5 (bnext HB.out HB.out.size M2.out) hv5.vals (by omega)
      obtain ⟨z, hz⟩ : ∃ z, q (pickL x3 l) = z := ⟨_, rfl⟩
      rw [hz] at hs
      have HS := Lib.hid hs
      have HZ := Lib.hid hz
      obtain ⟨D, hD⟩ : ∃ D, pickL x3 l = D := ⟨_, rfl⟩
      rw [hD] at HS ⊢
      clear hb5 hv5 HC hs hz hD hpl e0 q0
      go_wp2_with fail
      refine HS.out.mono ?_
      rintro e w6 ⟨rfl, hb6⟩
      have M3 := Lib.hid (bnext M2.out M2.out.size hb6)
      clear hb6 M2 HS
      cases z
      · have HN := Lib.hid (whereAt_no (HM.out.next HX.out.molt M3.out) HX.out.rows HX.out.set hl HXX.out HZ.out)
        go_wp2
        go_roundw
        case rel => exact ⟨_, _, _, HN⟩
        case measure => rw [HN.out.rng.left_eq, hcnt]; exact hlt
      · have HM6 := Lib.hid (HM.out.next HX.out.molt M3.out)
        have hO6 := HM6.out.own
        have HO6 := Lib.hid hO6
        clear hO6
        have hlen := HM6.out.len
        have hr6 : r + 1 ≤ w6.heap.size := HM6.out.rng.lt
        go_wp2_with (at_builtin; refine wpList_append_own _ rfl _ _ 100 rfl (r + 1) 40 i0 (.slice none 0 0) 1 24 Tryz.underlying100 hi0 iz0 iz1 iz2 rfl (by decide) _ _ _ rfl (HO6.out.alloc _) ⟨w6.heap.size, 0, none⟩ 1 1 [.slice (some ad) sn sc] rfl rfl ?c1 ?c2 ?c3 ?c4 ?c5 ?_)
        case c1 => exact fun j u hu => World.news_of_block (heap_alloc_new w6 _) _ _ (by simpa using hu)
        case c2 => exact fun u hu => by simp at hu; subst hu; rfl
        case c3 => unfold maxLen; omega
        case c4 => omega
        case c5 => first | omega | (simp; omega)
        intro v' w4 hown' hgrow _
        rw [HL0.out] at hown'
        have HN := Lib.hid (whereAt_yes (c := sc) HM6.out HX.out.molt HX.out.rows HX.out.set hl HXX.out HZ.out HIL.out HP.out hown' (below_alloc w6 _) hgrow)
        clear hown' hgrow
        go_wp2
        go_roundw
        case rel => exact ⟨_, _, _, HN⟩
        case measure => rw [HN.out.rng.left_eq, hcnt]; exact hlt
end Go.Proofs.YtjjikooabmddlaaGreatDoor.Items

/-
  The contracts of package index's All, Range, Keys.
-/
namespace Go.Proofs.YtjjikooabmddlaaGreatDoor.Items
open Go.ChangeShapes Go.WideShapes Go.ChangeAt Go.RowKit Val Go.Proofs.YtjjikooabmddlaaGreatDoor.Code Go.Proofs.YtjjikooabmddlaaGreatDoor.Elems Go.Proofs.YtjjikooabmddlaaGreatDoor.ZP Go.Proofs.YtjjikooabmddlaaGreatDoor.MapSl Go.Shelf
set_option linter.unusedVariables false
set_option maxRecDepth 100000

theorem allQ_any (w : World) : Asks w 37 #[] fun _ => true := by
  intro A c r w1 hb hv hl
  show Calls Tryz.prog 37 #[.slice A r.length c] w1 _
  go_enter Tryz.func37, Tryz.ntmps37
  go_wp2
  go_ret
  exact ⟨rfl, Below.refl _ _⟩
set_option maxHeartbeats 1000000 in
theorem all_any (HO : OwnDoes) (p : Nat) (mo : Option Nat) (C : Option Addr) (cc : Nat) (l : List Int) (S : PL) (w : World) (hX : Idx w p mo C cc l S) (hl : l.length ≤ 24) (hS : S.length ≤ 1000) :
    Calls Tryz.prog 15 #[.pointer (some ⟨p, 0, none⟩)] w (TellE w S) := by
  have h := where_any HO 37 #[] (fun _ => true) (enters_of Tryz.func37 (by kernel_rfl) rfl) p mo C cc l S w hX hl hS (allQ_any w)
  rw [show (S.filter fun _ => true) = S from List.filter_eq_self.2 fun _ _ => rfl] at h
  have H := Lib.hid h
  clear h hX
  go_enter Tryz.func15, Tryz.ntmps15
  go_wp2_with fail
  refine H.out.mono ?_
  rintro e w1 ⟨A, c, M, rfl, hT⟩
  have X := Lib.hid (show TellE w S (.returned (.slice A M.length c)) w1 from ⟨A, c, M, rfl, hT⟩)
  clear hT H
  go_wp2
  go_ret
  exact X.out
/-- from one key on, before another -/
def betw (key to k : List (Int × Int × ByteArray)) : Bool := decide (0 ≤ cmpL k key) && decide (cmpL k to < 0)
set_option maxHeartbeats 1000000 in
theorem rangeF_any (K U : Option Addr) (ck cu : Nat) (key to : List (Int × Int × ByteArray)) (w : World) (hK : Vals w w.heap.size K key) (hU : Vals w w.heap.size U to) (hk : key.length ≤ 140737488355328) (hu : to.length ≤ 140737488355328) (g1 g2 : Nat) (c1 : w.cell? ⟨g1, 0, none⟩ = some (.slice K key.length ck)) (c2 : w.cell? ⟨g2, 0, none⟩ = some (.slice U to.length cu)) :
    Asks w 46 #[.pointer (some ⟨g1, 0, none⟩), .pointer (some ⟨g2, 0, none⟩)] (betw key to) := by
  intro A c r w1 hb hv hl
  show Calls Tryz.prog 46 #[.slice A r.length c, .pointer (some ⟨g1, 0, none⟩), .pointer (some ⟨g2, 0, none⟩)] w1 _
  have hc := fun w' (h : Below w1.heap.size w1 w') => rowCompareD_any A K c ck r key w' ((hv.below h).more h.size) (((hK.below hb).more hb.size).below h |>.more h.size) (by omega) hk
  have hd := fun w' (h : Below w1.heap.size w1 w') => rowCompareD_any A U c cu r to w' ((hv.below h).more h.size) (((hU.below hb).more hb.size).below h |>.more h.size) (by omega) hu
  have d1 := (hb.cell (p := ⟨g1, 0, none⟩) (World.block_lt_of_cell? _ _ c1)).trans c1
  have d2 := (hb.cell (p := ⟨g2, 0, none⟩) (World.block_lt_of_cell? _ _ c2)).trans c2
  obtain ⟨x, hx⟩ : ∃ x, cmpL r key = x := ⟨_, rfl⟩
  obtain ⟨y, hy⟩ : ∃ y, cmpL r to = y := ⟨_, rfl⟩
  have hq : betw key to r = (decide (0 ≤ x) && decide (y < 0)) := by unfold betw; rw [hx, hy]
  rw [hq]
  simp only [hx] at hc
  simp only [hy] at hd
  have HC := Lib.hid hc
  have HD := Lib.hid hd
  clear hc hd hx hy hq hK hU hv hb c1 c2
  go_enter Tryz.func46, Tryz.ntmps46
  go_wp2_with fail
  refine (HC.out _ (Below.refl _ _)).mono ?_
  rintro e w2 ⟨rfl, hb2, _⟩
  have e2 := (hb2.cell (p := ⟨g2, 0, none⟩) (World.block_lt_of_cell? _ _ d2)).trans d2
  have L2 := Lib.hid hb2
  clear hb2 HC d1 d2
  by_cases h0 : 0 ≤ x
  · have h0' : decide (0 ≤ x) = true := by simpa using h0
    go_wp2_with fail
    refine (HD.out _ L2.out).mono ?_
    rintro e w3 ⟨rfl, hb3, _⟩
    have L3 := Lib.hid (bnext L2.out L2.out.size hb3)
    clear hb3 HD
    go_wp2
    go_ret
    exact ⟨by simp [h0], L3.out⟩
  · have h0' : decide (0 ≤ x) = false := by simpa using h0
    go_wp2
    go_ret
    exact ⟨by simp; omega, L2.out⟩
set_option maxHeartbeats 1000000 in
theorem range_any (HO : OwnDoes) (p : Nat) (mo : Option Nat) (C : Option Addr) (cc : Nat) (l : List Int) (S : PL) (K U : Option Addr) (ck cu : Nat) (key to : List (Int × Int × ByteArray)) (w : World) (hX : Idx w p mo C cc l S) (hl : l.length ≤ 24) (hS : S.length ≤ 1000) (hK : Vals w w.heap.size K key) (hU : Vals w w.heap.size U to) (hk : key.length ≤ 140737488355328) (hu : to.length ≤ 140737488355328) :
    Calls Tryz.prog 24 #[.pointer (some ⟨p, 0, none⟩), .slice K key.length ck, .slice U to.length cu] w (TellE w (S.filter fun x => rangeQ l key to x.1)) := by
  have hb1 := below_alloc w (.cells #[.slice K key.length ck] 25)
  have hb2 := hb1.alloc (by simp) (.cells #[.slice U to.length cu] 25)
  have h := where_any HO 46 #[.pointer (some ⟨w.heap.size, 0, none⟩), .pointer (some ⟨w.heap.size + 1, 0, none⟩)] (betw key to) (enters_of Tryz.func46 (by kernel_rfl) rfl) p mo C cc l S ((w.alloc (.cells #[.slice K key.length ck] 25)).alloc (.cells #[.slice U to.length cu] 25)) (hX.below hb2) hl hS
    (rangeF_any K U ck cu key to _ ((hK.below hb2).more hb2.size) ((hU.below hb2).more hb2.size) hk hu _ _ (((below_alloc (w.alloc (.cells #[.slice K key.length ck] 25)) _).cell (p := ⟨w.heap.size, 0, none⟩) (by simp)).trans (by simp)) (by simp))
  have H := Lib.hid (h.mono fun e w' g => g.next hb2)
  clear h hX hK hU
  go_enter Tryz.func24, Tryz.ntmps24
  go_wp2_with fail
  refine H.out.mono ?_
  rintro e w1 ⟨A, c, M, rfl, hT⟩
  have X := Lib.hid (show TellE w (S.filter fun x => rangeQ l key to x.1) (.returned (.slice A M.length c)) w1 from ⟨A, c, M, rfl, hT⟩)
  clear hT H
  go_wp2
  go_ret
  exact X.out
set_option maxHeartbeats 1000000 in
theorem keys_any (p : Nat) (mo : Option Nat) (C : Option Addr) (cc : Nat) (l : List Int) (S : PL) (w : World) (hX : Idx w p mo C cc l S) :
    Calls Tryz.prog 16 #[.pointer (some ⟨p, 0, none⟩)] w fun e w' => e = .returned (.int .i64 ((keysB l S).length : Int)) ∧ w = w' := by
  obtain ⟨f, hf, hg⟩ := hX.map
  have HF := Lib.hid hf
  have HG := Lib.hid hg
  have q1 := hX.sets
  clear hX hf hg
  go_enter Tryz.func16, Tryz.ntmps16
  go_wp2_with (at_len; refine wpList_sizeO _ rfl _ rfl mo S.length f rfl HF.out (keysB_nodup (l := l) (S := S)) (fun k => (HG.out.some k).trans keysB_mem.symm) keysB_max _ rfl ?_)
  go_wp2
  go_ret
  exact ⟨rfl, rfl⟩
theorem where_nil (v : Value) (w : World) : Calls Tryz.prog 36 #[.pointer none, v] w fun e w' => e = .returned (.slice none 0 0) ∧ w = w' := by
  go_enter Tryz.func36, Tryz.ntmps36
  go_wp2
  go_ret
  exact ⟨rfl, rfl⟩
theorem all_nil (w : World) : Calls Tryz.prog 15 #[.pointer none] w fun e w' => e = .returned (.slice none 0 0) ∧ w = w' := by
  go_enter Tryz.func15, Tryz.ntmps15
  go_wp2_with fail
  refine (where_nil _ w).mono ?_
  rintro e w1 ⟨rfl, rfl⟩
  go_wp2
  go_ret
  exact ⟨rfl, rfl⟩
theorem keys_nil (w : World) : Calls Tryz.prog 16 #[.pointer none] w fun e w' => e = .returned (.int .i64 0) ∧ w = w' := by
  go_enter Tryz.func16, Tryz.ntmps16
  go_wp2
  go_ret
  exact ⟨rfl, rfl⟩
end Go.Proofs.YtjjikooabmddlaaGreatDoor.Items

/-
  The contracts of package index's own and Find.
-/
namespace Go.Proofs.YtjjikooabmddlaaGreatDoor.Items
open Go.ChangeShapes Go.WideShapes Go.ChangeAt Go.RowKit Val Go.Proofs.YtjjikooabmddlaaGreatDoor.Code Go.Proofs.YtjjikooabmddlaaGreatDoor.Elems Go.Proofs.YtjjikooabmddlaaGreatDoor.ZP Go.Proofs.YtjjikooabmddlaaGreatDoor.MapSl
set_option linter.unusedVariables false
set_option maxRecDepth 100000

set_option maxHeartbeats 1000000 in
theorem own_does : OwnDoes := by
  intro G cap LS w T hA hF hR hl hc hT hW
  have hcase := of_cases hR
  have hok : ofE (catS LS) = 0 ∧ pl (ofL (catS LS)) = T := by
    rcases hcase with ⟨h1, _, h3⟩ | ⟨_, h2⟩
    · exact ⟨h1, h3.eq hT⟩
    · exact absurd (fun r => by rw [← hT.2 r]; exact hW r) h2
  have H := zadd_any G cap LS w hA hF (fun x hx => by
    have := hR (pu x) (List.mem_map.2 ⟨x, hx, rfl⟩)
    unfold rightR at this
    rw [Bool.and_eq_true, decide_eq_true_eq] at this
    have h2 : x.2.2.1.length ≤ 24 := this.1
    omega) hl hc
  rw [hok.1, hok.2] at H
  have HH := Lib.hid H
  clear H hA hF hR hT hW hcase hok
  go_enter Tryz.func39, Tryz.ntmps39
  go_wp2_with fail
  refine HH.out.mono ?_
  rintro e w1 ⟨A, c1, M, rfl, ha, hr, hq, hb⟩
  have X := Lib.hid (show TellE w T (.returned (.slice A M.length c1)) w1 from ⟨A, c1, M, rfl, ha, hr, hq, hb⟩)
  clear ha hr hq hb HH
  go_wp2
  go_ret
  exact X.out
theorem grp_key {l : List Int} {S : PL} (hS : RowsOk l S) (hl : l.length ≤ 24) {key : List (Int × Int × ByteArray)} (hr : rightR key = true) (hf : FitL key) : grpP l (keyS key) S = S.filter fun x => keyQ l key x.1 := by
  unfold grpP
  refine List.filter_congr fun x hx => ?_
  obtain ⟨a, b, _, d⟩ := hS x hx
  unfold keyQ keyB
  by_cases e : pickL x.1 l = key
  · rw [e]; simp
  · have : keyS (pickL x.1 l) ≠ keyS key := fun h => e (key_inj (pick_right d a hl) hr (pick_fit b) hf h)
    simp [e, this]
theorem grp_wrong {l : List Int} {S : PL} (hS : RowsOk l S) (hl : l.length ≤ 24) {key : List (Int × Int × ByteArray)} (hr : rightR key = false) : (S.filter fun x => keyQ l key x.1) = [] := by
  rw [List.filter_eq_nil_iff]
  intro x hx h
  obtain ⟨a, b, _, d⟩ := hS x hx
  unfold keyQ at h
  rw [decide_eq_true_eq] at h
  have := pick_right d a hl
  rw [h, hr] at this
  cases this
theorem grp_items2 {l : List Int} {k : ByteArray} {S : PL} {L : List It} (h : pl L = grpP l k S) (hS : RowsOk l S) : FitI L ∧ RightP (pl L) ∧ L.length ≤ S.length := by
  have hm : ∀ x ∈ L, pu x ∈ S := fun x hx => by
    have : pu x ∈ pl L := List.mem_map.2 ⟨x, hx, rfl⟩
    rw [h] at this
    exact (grp_mem.1 this).1
  refine ⟨fun x hx => ?_, fun x hx => ?_, ?_⟩
  · obtain ⟨_, b, c, _⟩ := hS _ (hm x hx)
    exact ⟨b, c⟩
  · obtain ⟨y, hy, rfl⟩ := List.mem_map.1 hx
    exact (hS _ (hm y hy)).1
  · rw [← pl_length L, h]
    exact List.length_filter_le _ _
theorem tell_nil {w w' : World} (hb : Below w.heap.size w w') : TellE w [] (.returned (.slice none 0 0)) w' := ⟨none, 0, [], rfl, At.nil _ _ _, OwnRows.nil _ _, rfl, hb⟩
theorem look_run {w : World} {mo : Option Nat} {n : Nat} {f : ByteArray → Option Sl} (h : MapO w mo n f) {k : ByteArray} (hk : k.size ≤ maxLen) {a : Option Addr} {m c : Nat} (hs : (f k).getD (none, 0, 0) = (a, m, c)) :
    (Instr.lookup 61 (.map mo) (.string k) false).run Tryz.prog w = .ok (.slice a m c) w := by
  cases mo with
  | none =>
    have hrun := Maps.look_nil (w := w) false law mapT (zeroE w) (keyIs hk)
    simp only [Bool.false_eq_true, if_false] at hrun
    rw [show f k = none from h k] at hs
    cases hs
    exact hrun
  | some b =>
    obtain ⟨D, h1, h2⟩ := h
    obtain ⟨v, ps, hrun, hv⟩ := h1.lookup law mapT (zeroE w) (slR_mk (none, 0, 0)) (keyIs hk)
    obtain ⟨s2, rfl, e⟩ := slR_inv hv
    have h3 := h2 k hk
    have e2 : slV s2 = .slice a m c := by
      cases hf : f k with
      | none =>
        rw [hf] at h3 hs
        have := Maps.atKey_of_not_has h3.1 (.held (slV (none, 0, 0)) : DataW Value)
        rw [this] at e
        simp only [Prod.mk.injEq, DataW.held.injEq] at e
        rw [← e.1]
        cases hs
        rfl
      | some s3 =>
        rw [hf] at hs
        have := h3.2 s3 hf (.held (slV (none, 0, 0)))
        rw [this] at e
        simp only [Prod.mk.injEq, DataW.held.injEq] at e
        rw [← e.1, show s3 = (a, m, c) from hs]
        rfl
    rw [e2] at hrun
    exact hrun
set_option maxHeartbeats 4000000 in
theorem find_any (p : Nat) (mo : Option Nat) (C : Option Addr) (cc : Nat) (l : List Int) (S : PL) (K : Option Addr) (ck : Nat) (key : List (Int × Int × ByteArray)) (m : Int) (w : World) (hX : Idx w p mo C cc l S) (hl : l.length ≤ 24) (hS : S.length ≤ 1000) (hK : Vals w w.heap.size K key) (hf : FitL key) (hk : key.length ≤ 300000000000)
    (hm : w.cell? ⟨0, 0, none⟩ = some (.int .i64 m)) :
    Calls Tryz.prog 17 #[.pointer (some ⟨p, 0, none⟩), .slice K key.length ck] w (TellE w (S.filter fun x => keyQ l key x.1)) := by
  obtain ⟨b, hb⟩ : ∃ b, rightR key = b := ⟨_, rfl⟩
  have HR := Lib.hid (rowRight_is K ck key b hb w hK hf (by omega))
  have HB := Lib.hid hb
  have HX := Lib.hid hX
  have HK := Lib.hid hK
  have HFL := Lib.hid hf
  have HM := Lib.hid hm
  have hpl := hX.lt
  clear hb hX hK hf hm
  go_enter Tryz.func17, Tryz.ntmps17
  go_wp2_with fail
  refine HR.out.mono ?_
  rintro e w1 ⟨rfl, hb1⟩
  have L0 := Lib.hid hb1
  clear hb1 HR
  cases b
  · have X := Lib.hid (show TellE w (S.filter fun x => keyQ l key x.1) (.returned (.slice none 0 0)) w1 by rw [grp_wrong HX.out.rows hl HB.out]; exact tell_nil L0.out)
    go_wp2
    go_ret
    exact X.out
  · have X1 := Lib.hid (HX.out.below L0.out)
    have q1 := X1.out.sets
    have hp1 := X1.out.lt
    have hm1 := (L0.out.cell (p := ⟨0, 0, none⟩) (World.block_lt_of_cell? _ _ HM.out)).trans HM.out
    have HM1 := Lib.hid hm1
    have hky := fun w' (h : Below w1.heap.size w1 w') => rowKey_any K ck key m w' (((HK.out.below L0.out).more L0.out.size).below h |>.more h.size) HFL.out hk ((h.cell (p := ⟨0, 0, none⟩) (World.block_lt_of_cell? _ _ HM1.out)).trans HM1.out)
    have HKY := Lib.hid hky
    obtain ⟨f, hf, hg⟩ := X1.out.map
    obtain ⟨A1, c1, L1, hlook, hI1, hL1⟩ := hg.look (keyS key)
    obtain ⟨fi1, ri1, le1⟩ := grp_items2 hL1 HX.out.rows
    have hkm := key_max key
    obtain ⟨kk, hkk⟩ : ∃ kk, keyS key = kk := ⟨_, rfl⟩
    have hT : pl L1 = S.filter fun x => keyQ l key x.1 := by rw [hL1]; exact grp_key HX.out.rows hl HB.out HFL.out
    have how : ∀ W', Below w1.heap.size w1 W' → Calls Tryz.prog 39 #[.slice (some ⟨W'.heap.size, 0, none⟩) 1 1] (W'.alloc (.cells #[.slice A1 L1.length c1] 40)) (fun e w2 => ∃ (A : Option Addr) (n c : Nat), e = .returned (.slice A n c) ∧ TellE w (S.filter fun x => keyQ l key x.1) (.returned (.slice A n c)) w2 ∧ Below w1.heap.size w1 w2) := fun W' hW => by
      have hb := below_alloc W' (.cells #[.slice A1 L1.length c1] 40)
      refine (own_does (some ⟨W'.heap.size, 0, none⟩) 1 [(A1, c1, L1)] _ _ (setsAt_one W' A1 c1 L1 40 (hI1.next hW)) (by rw [catS_one]; exact fi1) (by rw [catS_one]; exact ri1) (by simp) (by rw [catS_one]; omega) (by rw [catS_one, hT]; exact sum_self (set_sub HX.out.set List.filter_sublist)) (set_fit (set_sub HX.out.set List.filter_sublist) fun x hx => (HX.out.rows x (List.mem_filter.1 hx).1).2.2.1)).mono fun e w2 h => by
        obtain ⟨A, c, M, rfl, h2⟩ := h
        have h3 : TellE (W'.alloc (.cells #[.slice A1 L1.length c1] 40)) (S.filter fun x => keyQ l key x.1) (.returned (.slice A M.length c)) w2 := ⟨A, c, M, rfl, h2⟩
        exact ⟨A, _, c, rfl, h3.next (bnext (bnext L0.out L0.out.size hW) (bnext L0.out L0.out.size hW).size hb), bnext (bnext hW hW.size hb) (bnext hW hW.size hb).size h2.2.2.2⟩
    have hlk : ∀ W', Below w1.heap.size w1 W' → (Instr.lookup 61 (.map mo) (.string kk) false).run Tryz.prog W' = .ok (.slice A1 L1.length c1) W' := fun W' hW => look_run (hf.below hW) (hkk ▸ hkm) (by rw [← hkk]; exact hlook)
    rw [hkk] at HKY hkm
    obtain ⟨n1, hn1⟩ : ∃ n1, L1.length = n1 := ⟨_, rfl⟩
    rw [hn1] at how hlk
    have HOW := Lib.hid how
    have HLK := Lib.hid hlk
    clear hky hm1 hf hg hlook hI1 hL1 fi1 ri1 le1 hkk hT how hlk hn1
    go_wp2_with fail
    go_region_held3 (fun w' => (w'.cell? ⟨p, 1, none⟩ = some (.map mo)) ∧ Below w1.heap.size w1 w')
      (first | assumption | (refine keepP hb5 (by assumption) ?_; intro kk; exact (kk ⟨p, 1, none⟩ hp1).trans q1) | (refine keepA _ (by assumption) ?_; intro kk; exact (kk p 1 hp1).trans q1) | (exact ⟨(hb6.cell (p := ⟨p, 1, none⟩) hp1).trans q1, hb6⟩) | (exact ⟨q1, Below.drew (Below.refl _ _)⟩))
      (first | (go_at_call 40; with_reducible refine (HKY.out _ ?cv).mono ?_; (case cv => exact (by assumption : _ ∧ Below w1.heap.size w1 _).2); rintro e w5 ⟨rfl, hb5⟩; have M5 := Lib.hid (keepP (W := w1) (C' := True) hb5 (by assumption) fun _ => trivial).2; have hlk5 := HLK.out w5 M5.out) | (go_at_call 39; with_reducible refine (HOW.out _ ?cv).mono ?_; (case cv => exact M5.out); rintro e w6 ⟨A6, n6, c6, rfl, hT6, hb6⟩))
    have X := Lib.hid hT6
    clear hT6 hb6 HKY HOW hlk5 HLK
    go_wp2
    go_ret
    exact X.out
theorem find_nil (v : Value) (w : World) : Calls Tryz.prog 17 #[.pointer none, v] w fun e w' => e = .returned (.slice none 0 0) ∧ w = w' := by
  go_enter Tryz.func17, Tryz.ntmps17
  go_wp2
  go_ret
  exact ⟨rfl, rfl⟩
end Go.Proofs.YtjjikooabmddlaaGreatDoor.Items
