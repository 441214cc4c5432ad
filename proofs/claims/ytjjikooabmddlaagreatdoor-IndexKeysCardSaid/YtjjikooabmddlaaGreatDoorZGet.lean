/-
  The contract of Get of package zset, of a set: by a search in its rows, which rise.
-/
import Derived.Test.YtjjikooabmddlaaGreatDoorM10
import Derived.Test.YtjjikooabmddlaaGreatDoorM21
namespace Go.Proofs.YtjjikooabmddlaaGreatDoor.Items
open Go.ChangeShapes Go.WideShapes Go.ChangeAt Go.RowKit Val Go.Proofs.YtjjikooabmddlaaGreatDoor.Code Go.Proofs.YtjjikooabmddlaaGreatDoor.Elems Go.Proofs.YtjjikooabmddlaaGreatDoor.ZP Go.Proofs.YtjjikooabmddlaaGreatDoor.Bits
set_option linter.unusedVariables false
set_option maxRecDepth 100000

set_option maxHeartbeats 2000000 in
theorem getC_any (x1 y1 : Option Addr) (x2 y2 : Nat) (x3 y3 : List (Int × Int × ByteArray)) (x4 : Int) (w : World) (hx : Vals w w.heap.size x1 x3) (hy : Vals w w.heap.size y1 y3) (lx : x3.length ≤ 140737488355328) (ly : y3.length ≤ 140737488355328) :
    Calls Tryz.prog 42 #[.agg #[.slice x1 x3.length x2, .int .i64 x4], .slice y1 y3.length y2] w fun e w' => e = .returned (.int .i64 (cmpL x3 y3)) ∧ Below w.heap.size w w' := by
  have hb := below_alloc w (.cells #[.slice x1 x3.length x2, .int .i64 x4] 48)
  have HB := Lib.hid hb
  have HC := Lib.hid (rowCompare_any x1 y1 x2 y2 x3 y3 _ ((hx.below hb).more hb.size) ((hy.below hb).more hb.size) lx ly)
  clear hx hy hb
  obtain ⟨c, hc⟩ : ∃ c, cmpL x3 y3 = c := ⟨_, rfl⟩
  rw [hc] at HC ⊢
  clear hc
  go_enter Tryz.func42, Tryz.ntmps42
  go_wp2_with fail
  refine HC.out.mono ?_
  rintro e w1 ⟨rfl, hb1⟩
  have L1 := Lib.hid (bnext HB.out HB.out.size hb1)
  clear hb1
  go_wp2
  go_ret
  exact ⟨rfl, L1.out⟩
/-- i is the place of r -/
def PlaceI (L : List It) (r : List (Int × Int × ByteArray)) (i : Nat) : Prop := i ≤ L.length ∧ (∀ k (h : k < L.length), k < i → cmpL L[k].2.2.1 r = -1) ∧ (∀ k (h : k < L.length), i ≤ k → cmpL L[k].2.2.1 r ≠ -1)
def foundI (L : List It) (r : List (Int × Int × ByteArray)) (i : Nat) : Bool := if h : i < L.length then cmpL L[i].2.2.1 r == 0 else false

theorem rise_at {L : List It} (hs : IsSet (pl L)) {i k : Nat} (hi : i < L.length) (hk : k < L.length) (h : i < k) : cmpL L[i].2.2.1 L[k].2.2.1 = -1 := by
  have h1 := hs.1
  unfold Rising pl at h1
  rw [List.pairwise_map, List.pairwise_iff_getElem] at h1
  exact h1 i k hi hk h
theorem place_up {L : List It} (hs : IsSet (pl L)) {r : List (Int × Int × ByteArray)} {m k : Nat} (hm : m < L.length) (h : cmpL L[m].2.2.1 r = -1) (hk : k < L.length) (hkm : k < m + 1) : cmpL L[k].2.2.1 r = -1 := by
  by_cases e : k = m
  · subst e; exact h
  · exact cmpL_lt_trans (rise_at hs hk hm (by omega)) h
theorem place_down {L : List It} (hs : IsSet (pl L)) {r : List (Int × Int × ByteArray)} {m k : Nat} (hm : m < L.length) (h : cmpL L[m].2.2.1 r ≠ -1) (hk : k < L.length) (hkm : m ≤ k) : cmpL L[k].2.2.1 r ≠ -1 := by
  by_cases e : k = m
  · subst e; exact h
  · exact fun g => h (cmpL_lt_trans (rise_at hs hm hk (by omega)) g)
set_option maxHeartbeats 4000000 in
theorem zsearch_any (A R : Option Addr) (cap cr : Nat) (L : List It) (r : List (Int × Int × ByteArray)) (w : World) (hI : Items w w.heap.size A L) (hR : Vals w w.heap.size R r) (hset : IsSet (pl L)) (hs : ∀ x ∈ L, x.2.2.1.length ≤ 140737488355328) (hr : r.length ≤ 140737488355328) (hl : L.length ≤ 1000000) :
    Calls Tryz.prog 41 #[.slice A L.length cap, .slice R r.length cr, .func (.func 42) #[] #[]] w fun e w' => ∃ i, PlaceI L r i ∧ e = .returned (.tuple #[.int .i64 i, .bool (foundI L r i)]) ∧ Below w.heap.size w w' := by
  have HI := Lib.hid hI
  have HR := Lib.hid hR
  have HS := Lib.hid hs
  have HT := Lib.hid hset
  clear hI hR hs hset
  go_enter Tryz.func41, Tryz.ntmps41
  go_wp2
  go_loopw [9, 10] (fun u v wr => ∃ i j : Nat, i ≤ j ∧ j ≤ L.length ∧ u = .int .i64 i ∧ v = .int .i64 j ∧ Hid (∀ k (h : k < L.length), k < i → cmpL L[k].2.2.1 r = -1) ∧ Hid (∀ k (h : k < L.length), j ≤ k → cmpL L[k].2.2.1 r ≠ -1) ∧ Hid (Below w.heap.size w wr)) (fun u v _ => (intOf v).toNat - (intOf u).toNat)
  case atStart => exact ⟨0, L.length, by omega, by omega, rfl, rfl, Lib.hid (fun k h h2 => absurd h2 (Nat.not_lt_zero _)), Lib.hid (fun k h h2 => absurd h (by omega)), Lib.hid (Below.refl _ _)⟩
  case round =>
    obtain ⟨i, j, hij, hj, rfl, rfl, H1, H2, HL⟩ := hrel
    have hsz := HL.out.size
    have HA1 := Lib.hid (HI.out.below HL.out)
    have VR := Lib.hid ((HR.out.below HL.out).more hsz)
    by_cases hlt : i < j
    · obtain ⟨m, hm⟩ : ∃ m : Nat, m = (i + j) / 2 := ⟨_, rfl⟩
      have hm2 : ((i : Int) + (j : Int)) / 2 = (m : Int) := by omega
      have him : i ≤ m := by omega
      have hmj : m < j := by omega
      have hml : m < L.length := by omega
      clear hm
      obtain ⟨ad, rfl, ha, c0, c1, v0⟩ := HA1.out.at m hml
      have hlx := HS.out _ (List.getElem_mem hml)
      have HUp := Lib.hid (fun (h : cmpL L[m].2.2.1 r = -1) k (hk : k < L.length) (hkm : k < m + 1) => place_up HT.out hml h hk hkm)
      have HDn := Lib.hid (fun (h : cmpL L[m].2.2.1 r ≠ -1) k (hk : k < L.length) (hkm : m ≤ k) => place_down HT.out hml h hk hkm)
      have hcr := cmpL_range L[m].2.2.1 r
      obtain ⟨x, hx⟩ : ∃ x, L[m] = x := ⟨_, rfl⟩
      rw [hx] at c0 c1 v0 hlx HUp HDn hcr
      clear hx
      obtain ⟨x1, x2, x3, x4⟩ := x
      simp only at c0 c1 v0 hlx hcr
      obtain ⟨c, hc⟩ : ∃ c, cmpL x3 r = c := ⟨_, rfl⟩
      have hcall := getC_any x1 R x2 cr x3 r x4 wr (v0.more hsz) VR.out hlx hr
      simp only [hc] at hcall hcr HUp HDn
      have HC := Lib.hid hcall
      clear hcall hc v0
      go_wp2_with fail
      refine HC.out.mono ?_
      rintro e w1 ⟨rfl, hb1⟩
      have L1 := Lib.hid (bnext HL.out hsz hb1)
      clear hb1 HC
      rcases hcr with rfl | rfl | rfl
      · have HU := Lib.hid (HUp.out rfl)
        clear HUp HDn
        go_wp2
        go_roundw
        case rel => exact ⟨m + 1, j, by omega, hj, by go_num, rfl, HU, H2, L1⟩
        case measure => simp [intOf]; omega
      · have HD := Lib.hid (HDn.out (by decide))
        clear HUp HDn
        go_wp2
        go_roundw
        case rel => exact ⟨i, m, by omega, by omega, rfl, rfl, H1, HD, L1⟩
        case measure => simp [intOf]; omega
      · have HD := Lib.hid (HDn.out (by decide))
        clear HUp HDn
        go_wp2
        go_roundw
        case rel => exact ⟨i, m, by omega, by omega, rfl, rfl, H1, HD, L1⟩
        case measure => simp [intOf]; omega
    · obtain rfl : i = j := by omega
      have HP := Lib.hid (show PlaceI L r i from ⟨hj, H1.out, H2.out⟩)
      by_cases hil : i < L.length
      · obtain ⟨ad, rfl, ha, c0, c1, v0⟩ := HA1.out.at i hil
        have hlx := HS.out _ (List.getElem_mem hil)
        have HFd := Lib.hid (show foundI L r i = (cmpL L[i].2.2.1 r == 0) by unfold foundI; rw [dif_pos hil])
        obtain ⟨x, hx⟩ : ∃ x, L[i] = x := ⟨_, rfl⟩
        rw [hx] at c0 c1 v0 hlx HFd
        clear hx
        obtain ⟨x1, x2, x3, x4⟩ := x
        simp only at c0 c1 v0 hlx
        obtain ⟨c, hc⟩ : ∃ c, cmpL x3 r = c := ⟨_, rfl⟩
        have hcall := getC_any x1 R x2 cr x3 r x4 wr (v0.more hsz) VR.out hlx hr
        simp only [hc] at hcall HFd
        have HC := Lib.hid hcall
        clear hcall hc v0
        go_wp2_with fail
        refine HC.out.mono ?_
        rintro e w1 ⟨rfl, hb1⟩
        have L1 := Lib.hid (bnext HL.out hsz hb1)
        clear hb1 HC
        go_wp2
        go_ret2
        exact ⟨i, HP.out, by rw [HFd.out]; simp, L1.out⟩
      · obtain rfl : i = L.length := by omega
        have HFd := Lib.hid (show foundI L r L.length = false by unfold foundI; rw [dif_neg (by omega)])
        go_wp2
        go_ret2
        exact ⟨L.length, HP.out, by rw [HFd.out]; simp, HL.out⟩
theorem place_weight {L : List It} {r : List (Int × Int × ByteArray)} {i : Nat} (hs : IsSet (pl L)) (hp : PlaceI L r i) : (∀ h : i < L.length, cmpL L[i].2.2.1 r = 0 → weightP (pl L) r = L[i].2.2.2) ∧ (foundI L r i = false → weightP (pl L) r = 0) := by
  obtain ⟨hi, h1, h2⟩ := hp
  constructor
  · intro h h0
    have e := cmpL_zero h0
    rw [← e]
    exact mem_weight hs (pu L[i]) (List.mem_map.2 ⟨_, List.getElem_mem h, rfl⟩)
  · intro hf
    refine weightP_out fun x hx e => ?_
    obtain ⟨y, hy, rfl⟩ := List.mem_map.1 hx
    obtain ⟨k, hk, rfl⟩ := List.mem_iff_getElem.1 hy
    simp only [pu] at e
    by_cases hki : k < i
    · have := h1 k hk hki
      rw [e, cmpL_self] at this
      exact absurd this (by decide)
    · have hil : i < L.length := by omega
      have h3 := h2 i hil (Nat.le_refl _)
      unfold foundI at hf
      rw [dif_pos hil] at hf
      by_cases hk2 : k = i
      · subst hk2
        rw [e, cmpL_self] at hf
        simp at hf
      · have h4 := rise_at hs hil hk (by omega)
        rw [e] at h4
        exact h3 h4
set_option maxHeartbeats 2000000 in
theorem zget_any (A R : Option Addr) (cap cr : Nat) (L : List It) (r : List (Int × Int × ByteArray)) (w : World) (hI : Items w w.heap.size A L) (hR : Vals w w.heap.size R r) (hset : IsSet (pl L)) (hs : ∀ x ∈ L, x.2.2.1.length ≤ 140737488355328) (hr : r.length ≤ 140737488355328) (hl : L.length ≤ 1000000) :
    Calls Tryz.prog 18 #[.slice A L.length cap, .slice R r.length cr] w fun e w' => e = .returned (.int .i64 (weightP (pl L) r)) ∧ Below w.heap.size w w' := by
  have HC := Lib.hid (zsearch_any A R cap cr L r w hI hR hset hs hr hl)
  have HI := Lib.hid hI
  have HT := Lib.hid hset
  clear hI hR hset hs
  go_enter Tryz.func18, Tryz.ntmps18
  go_wp2_with fail
  refine HC.out.mono ?_
  rintro e w1 ⟨i, hp, rfl, hb1⟩
  have L1 := Lib.hid hb1
  obtain ⟨hw1, hw2⟩ := place_weight HT.out hp
  have HW1 := Lib.hid hw1
  have HW2 := Lib.hid hw2
  obtain ⟨b, hb⟩ : ∃ b, foundI L r i = b := ⟨_, rfl⟩
  have HB := Lib.hid hb
  rw [hb]
  have hil : b = true → i < L.length := fun h => by
    rw [h] at hb
    unfold foundI at hb
    split at hb
    · assumption
    · cases hb
  clear hb hw1 hw2 hp HC
  cases b
  · go_wp2
    go_ret
    exact ⟨by rw [HW2.out HB.out]; rfl, L1.out⟩
  · have hil2 := hil rfl
    clear hil
    obtain ⟨ad, rfl, ha, c0, c1, v0⟩ := (HI.out.below L1.out).at i hil2
    have HX := Lib.hid (HW1.out hil2 (by
      have := HB.out
      unfold foundI at this
      rw [dif_pos hil2] at this
      simpa using this))
    obtain ⟨x, hx⟩ : ∃ x, L[i] = x := ⟨_, rfl⟩
    rw [hx] at c0 c1 HX
    clear hx v0
    go_wp2
    go_ret
    exact ⟨by rw [HX.out]; rfl, L1.out⟩
end Go.Proofs.YtjjikooabmddlaaGreatDoor.Items

