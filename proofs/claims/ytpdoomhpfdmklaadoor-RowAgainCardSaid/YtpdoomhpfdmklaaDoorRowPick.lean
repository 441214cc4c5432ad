/-
  Contracts of row.Pick and of the document's Pick.
-/
import Derived.Test.YtpdoomhpfdmklaaDoorRowMem
namespace Go.Proofs.YtpdoomhpfdmklaaDoor.Code
open Go.ChangeShapes Go.WideShapes Go.ChangeAt Go.RowKit Val
set_option linter.unusedVariables false

def okP (r : List (Int × Int × ByteArray)) (at_ : List Int) : Bool := at_.all fun n => decide (0 ≤ n) && decide (n < r.length)
def valsP (r : List (Int × Int × ByteArray)) (at_ : List Int) : List (Int × Int × ByteArray) := at_.map fun n => r.getD n.toNat zV
def pickL (r : List (Int × Int × ByteArray)) (at_ : List Int) : List (Int × Int × ByteArray) := if okP r at_ then valsP r at_ else []
def pickE (r : List (Int × Int × ByteArray)) (at_ : List Int) : Int := if okP r at_ then 0 else 51
theorem okP_snoc (r : List (Int × Int × ByteArray)) (l : List Int) (k : Nat) (h : k < l.length) : okP r (l.take (k + 1)) = (okP r (l.take k) && (decide (0 ≤ l[k]) && decide (l[k] < r.length))) := by
  unfold okP
  rw [List.take_succ_eq_append_getElem h, List.all_append]
  simp
theorem okP_not {r : List (Int × Int × ByteArray)} {l : List Int} {k : Nat} (h : k < l.length) (g : l[k] < 0 ∨ (r.length : Int) ≤ l[k]) : okP r l = false := by
  unfold okP
  rw [List.all_eq_false]
  exact ⟨l[k], List.getElem_mem h, by simp; omega⟩
theorem valsP_snoc (r : List (Int × Int × ByteArray)) (l : List Int) (k m : Nat) (h : k < l.length) (hm : l[k] = (m : Int)) (hr : m < r.length) : valsP r (l.take (k + 1)) = valsP r (l.take k) ++ [r[m]] := by
  unfold valsP
  rw [List.take_succ_eq_append_getElem h, List.map_append]
  simp [hm, hr]
theorem valsP_length (r : List (Int × Int × ByteArray)) (l : List Int) : (valsP r l).length = l.length := by simp [valsP]
/-- a list of the call's own, its block no longer than it -/
def Own (B : Nat) (w : World) (A : Option Addr) (l : List (Int × Int × ByteArray)) : Prop := 0 < l.length → ∃ g, A = some ⟨g, 0, none⟩ ∧ B ≤ g ∧ Blk w g l
theorem Own.vals {B : Nat} {w : World} {A : Option Addr} {l : List (Int × Int × ByteArray)} (h : Own B w A l) : Vals w w.heap.size A l := by
  intro i hi
  obtain ⟨g, rfl, _, hb⟩ := h (by omega)
  exact hb.vals i hi
theorem Own.call {B : Nat} {w w' : World} {A : Option Addr} {l : List (Int × Int × ByteArray)} (h : Own B w A l) (hb : Below w.heap.size w w') : Own B w' A l := by
  intro hl
  obtain ⟨g, e, hB, hg⟩ := h hl
  exact ⟨g, e, hB, hg.call hb⟩
def PickPost (w : World) (r : List (Int × Int × ByteArray)) (l : List Int) (e : Ending) (w' : World) : Prop :=
  ∃ (A : Option Addr) (cap : Nat), e = .returned (.tuple #[.slice A (pickL r l).length cap, .int .i64 (pickE r l)]) ∧ Own w.heap.size w' A (pickL r l) ∧ Below w.heap.size w w'
theorem pick_none {w w' : World} {r : List (Int × Int × ByteArray)} {l : List Int} (h : okP r l = false) (hb : Below w.heap.size w w') : PickPost w r l (.returned (.tuple #[.slice none 0 0, .int .i64 51])) w' := by
  have h1 : pickL r l = [] := by unfold pickL; rw [h]; rfl
  have h2 : pickE r l = 51 := by unfold pickE; rw [h]; rfl
  exact ⟨none, 0, by rw [h1, h2]; rfl, by rw [h1]; exact fun h => absurd h (Nat.lt_irrefl 0), hb⟩
theorem pick_some {w w' : World} {r : List (Int × Int × ByteArray)} {l : List Int} {g n : Nat} (h : okP r l = true) (hn : n = l.length) (hg : w.heap.size ≤ g) (hB : Blk w' g (valsP r l)) (hb : Below w.heap.size w w') : PickPost w r l (.returned (.tuple #[.slice (some ⟨g, 0, none⟩) n n, .int .i64 0])) w' := by
  have h1 : pickL r l = valsP r l := by unfold pickL; rw [h]; rfl
  have h2 : pickE r l = 0 := by unfold pickE; rw [h]; rfl
  exact ⟨some ⟨g, 0, none⟩, n, by rw [h1, h2, valsP_length, hn], by rw [h1]; exact fun _ => ⟨g, rfl, hg, hB⟩, hb⟩
theorem fill_set (X : List (Int × Int × ByteArray)) (n : Nat) (hn : 0 < n) (v : Int × Int × ByteArray) : (X ++ List.replicate n zV).set X.length v = (X ++ [v]) ++ List.replicate (n - 1) zV := by
  obtain ⟨m, rfl⟩ : ∃ m, n = m + 1 := ⟨n - 1, by omega⟩
  rw [List.set_append_right _ _ (Nat.le_refl _), Nat.sub_self, List.replicate_succ, List.set_cons_zero, Nat.add_sub_cancel, List.append_assoc]
  rfl
set_option maxHeartbeats 4000000 in
set_option maxRecDepth 100000 in
theorem pick_any (A C : Option Addr) (ca cc : Nat) (r : List (Int × Int × ByteArray)) (l : List Int) (w : World) (hv : Vals w w.heap.size A r) (hi : Ints w w.heap.size C l) (hr : r.length ≤ 1000000) (hl : l.length ≤ 1000000) :
    Calls Tryd.prog 21 #[.slice A r.length ca, .slice C l.length cc] w (PickPost w r l) := by
  have HV := Lib.hid hv
  have HI := Lib.hid hi
  clear hv hi
  obtain ⟨i0, hi0, hz0, hz1, hz2⟩ := info_parts info_val
  go_enter Tryd.func21, Tryd.ntmps21
  go_wp2_with (at_make; refine wpList_make_vals _ rfl _ _ 23 rfl 41 i0 Tryd.underlying23 hi0 hz0 hz1 hz2 _ _ _ _ l.length rfl rfl rfl rfl (by omega) ?_)
  have HB0 := Lib.hid (Blk.fresh w (List.replicate l.length zV))
  have HL0 := Lib.hid (below_alloc w (.cells (flat (List.replicate l.length zV)).toArray 41))
  go_wp2
  go_loopw [13] (fun i wr => ∃ k : Nat, k ≤ l.length ∧ i = .int .i64 k ∧ Hid (okP r (l.take k) = true) ∧ Blk wr w.heap.size (valsP r (l.take k) ++ List.replicate (l.length - k) zV) ∧ Below w.heap.size w wr) (fun i _ => l.length - (intOf i).toNat)
  case atStart => exact ⟨0, by omega, rfl, Lib.hid rfl, by simpa [valsP] using HB0.out, HL0.out⟩
  case round =>
    obtain ⟨k, hk, rfl, HK, hblk, hbel⟩ := hrel
    have hsz := hbel.size
    have hlt := hblk.lt
    have HL := Lib.hid hbel
    have HB := Lib.hid hblk
    have VA := Lib.hid (HV.out.below hbel)
    have VI := Lib.hid (HI.out.below hbel)
    clear hbel hblk
    by_cases hkl : k < l.length
    · obtain ⟨cd, rfl, hc, d0⟩ := VI.out k hkl
      obtain ⟨n, hn⟩ : ∃ n, l[k] = n := ⟨_, rfl⟩
      rw [hn] at d0
      by_cases h0 : n < 0
      · have HX := Lib.hid (okP_not (r := r) hkl (.inl (by omega)))
        have e0 : decide (n < 0) = true := by simp; omega
        clear hn
        go_wp2
        go_ret2
        exact pick_none HX.out HL.out
      · have e0 : decide (n < 0) = false := by simp; omega
        by_cases h1 : n < r.length
        · have e1 : decide ((r.length : Int) ≤ n) = false := by simp; omega
          obtain ⟨m, rfl⟩ : ∃ m : Nat, n = m := ⟨n.toNat, by omega⟩
          have hmr : m < r.length := by omega
          have hmr2 : m < 1000000 := by omega
          obtain ⟨ad, rfl, ha, c0, c1, c2⟩ := VA.out m hmr
          have HK2 := Lib.hid (show okP r (l.take (k + 1)) = true by rw [okP_snoc r l k hkl, HK.out, hn]; simp; omega)
          have HS := Lib.hid (valsP_snoc r l k m hkl hn hmr)
          have hlen : (valsP r (l.take k) ++ List.replicate (l.length - k) zV).length = l.length := by rw [List.length_append, valsP_length]; simp; omega
          obtain ⟨b0, b1, b2⟩ := HB.out.at k (by omega)
          have f0 := HB.out.free (k * 3)
          have f1 := HB.out.free (k * 3 + 1)
          have f2 := HB.out.free (k * 3 + 2)
          clear hn
          have HX := Lib.hid (show (valsP r (l.take k)).length = k by rw [valsP_length, List.length_take_of_le hk])
          have HE := Lib.hid (show (valsP r (l.take k) ++ List.replicate (l.length - k) zV).set k r[m] = valsP r (l.take (k + 1)) ++ List.replicate (l.length - (k + 1)) zV by
            have e := fill_set (valsP r (l.take k)) (l.length - k) (by omega) r[m]
            rw [HX.out, Nat.sub_sub] at e
            rw [e, HS.out])
          go_wp2
          go_roundw
          case rel => exact ⟨k + 1, by omega, by go_num, HK2, by have h := HB.out.set k (by omega) r[m]; rw [HE.out] at h; exact h, below_set3 HL.out (Nat.le_refl _)⟩
          case measure => simp [intOf]; omega
        · have e1 : decide ((r.length : Int) ≤ n) = true := by simp; omega
          have HX := Lib.hid (okP_not (r := r) hkl (.inr (by omega)))
          clear hn
          go_wp2
          go_ret2
          exact pick_none HX.out HL.out
    · obtain rfl : k = l.length := by omega
      rw [List.take_length] at HK HB
      go_wp2
      go_ret2
      exact pick_some HK.out rfl (Nat.le_refl _) (by simpa using HB.out) HL.out

/-- the document's answer: values that lie somewhere -/
def RPickPost (w : World) (r : List (Int × Int × ByteArray)) (l : List Int) (e : Ending) (w' : World) : Prop :=
  ∃ (A : Option Addr) (cap : Nat), e = .returned (.tuple #[.slice A (pickL r l).length cap, .int .i64 (pickE r l)]) ∧ Vals w' w'.heap.size A (pickL r l) ∧ Below w.heap.size w w'
theorem rpick_none {w w' : World} {r : List (Int × Int × ByteArray)} {l : List Int} (h : okP r l = false) (hb : Below w.heap.size w w') : RPickPost w r l (.returned (.tuple #[.slice none 0 0, .int .i64 51])) w' := by
  have h1 : pickL r l = [] := by unfold pickL; rw [h]; rfl
  have h2 : pickE r l = 51 := by unfold pickE; rw [h]; rfl
  exact ⟨none, 0, by rw [h1, h2]; rfl, by rw [h1]; exact fun i hi => absurd hi (Nat.not_lt_zero _), hb⟩
theorem rpick_some {w w' : World} {r : List (Int × Int × ByteArray)} {l : List Int} {v : Value} (h : okP r l = true) (ho : w'.ownsRow w.heap.size 41 3 v (valsP r l).length (flat (valsP r l))) (hb : Below w.heap.size w w') : RPickPost w r l (.returned (.tuple #[v, .int .i64 0])) w' := by
  have h1 : pickL r l = valsP r l := by unfold pickL; rw [h]; rfl
  have h2 : pickE r l = 0 := by unfold pickE; rw [h]; rfl
  obtain ⟨A, cap, hv, hV⟩ := own_vals ho
  exact ⟨A, cap, by rw [h1, h2, hv], by rw [h1]; exact hV, hb⟩
theorem row1_new (w : World) (k n : Int) (t : ByteArray) (ty : TypeId) : ∀ (j : Nat) (u : Value), (cells3 (k, n, t))[j]? = some u → (w.alloc (.cells #[.int .i64 k, .int .i64 n, .string t] ty)).cell? ((⟨w.heap.size, 0, none⟩ : Addr).add j) = some u :=
  World.news_of_block (heap_alloc_new w (.cells #[.int .i64 k, .int .i64 n, .string t] ty))
set_option maxHeartbeats 4000000 in
set_option maxRecDepth 100000 in
theorem rpick_any (A C : Option Addr) (ca cc : Nat) (r : List (Int × Int × ByteArray)) (l : List Int) (w : World) (hv : Vals w w.heap.size A r) (hi : Ints w w.heap.size C l) (hr : r.length ≤ 1000000) (hl : l.length ≤ 1000000) :
    Calls Tryd.prog 22 #[.slice A r.length ca, .slice C l.length cc] w (RPickPost w r l) := by
  have HV := Lib.hid hv
  have HI := Lib.hid hi
  clear hv hi
  obtain ⟨i0, hi0, hz0, hz1, hz2⟩ := info_parts info_val
  go_enter Tryd.func22, Tryd.ntmps22
  go_wp2
  go_loopw [6, 7] (fun v i wr => ∃ k : Nat, k ≤ l.length ∧ i = .int .i64 k ∧ Hid (okP r (l.take k) = true) ∧ wr.ownsRow w.heap.size 41 3 v (valsP r (l.take k)).length (flat (valsP r (l.take k))) ∧ Below w.heap.size w wr) (fun _ i _ => l.length - (intOf i).toNat)
  case atStart => exact ⟨0, by omega, rfl, Lib.hid rfl, World.ownsRow_nil _ _ _ _, Below.refl _ _⟩
  case round =>
    obtain ⟨k, hk, rfl, HK, hown, hbel⟩ := hrel
    have hsz := hbel.size
    have HL := Lib.hid hbel
    have HO := Lib.hid hown
    have VA := Lib.hid (HV.out.below hbel)
    have VI := Lib.hid (HI.out.below hbel)
    have hX : (valsP r (l.take k)).length = k := by rw [valsP_length, List.length_take_of_le hk]
    clear hbel hown
    by_cases hkl : k < l.length
    · obtain ⟨cd, rfl, hc, d0⟩ := VI.out k hkl
      obtain ⟨n, hn⟩ : ∃ n, l[k] = n := ⟨_, rfl⟩
      rw [hn] at d0
      by_cases h0 : n < 0
      · have HX := Lib.hid (okP_not (r := r) hkl (.inl (by omega)))
        have e0 : decide (n < 0) = true := by simp; omega
        clear hn hX
        go_wp2
        go_ret2
        exact rpick_none HX.out HL.out
      · have e0 : decide (n < 0) = false := by simp; omega
        by_cases h1 : n < r.length
        · have e1 : decide ((r.length : Int) ≤ n) = false := by simp; omega
          obtain ⟨m, rfl⟩ : ∃ m : Nat, n = m := ⟨n.toNat, by omega⟩
          have hmr : m < r.length := by omega
          have hmr2 : m < 1000000 := by omega
          obtain ⟨ad, rfl, ha, c0, c1, c2⟩ := VA.out m hmr
          have HK2 := Lib.hid (show okP r (l.take (k + 1)) = true by rw [okP_snoc r l k hkl, HK.out, hn]; simp; omega)
          have HS := Lib.hid (valsP_snoc r l k m hkl hn hmr)
          clear hn
          go_wp2_with (at_builtin; refine wpList_append_own _ rfl _ _ 23 rfl w.heap.size 41 i0 (.agg #[.int .i64 0, .int .i64 0, .string ByteArray.empty]) 3 32 Tryd.underlying23 hi0 hz0 hz1 hz2 rfl (by decide) _ _ _ rfl (HO.out.alloc _) ⟨wr.heap.size, 0, none⟩ 1 1 (cells3 (r[m].1, r[m].2.1, r[m].2.2)) rfl rfl ?c1 ?c2 ?c3 ?c4 ?c5 ?_)
          case c1 => intro j u hu; simpa [cells3] using hu
          case c2 => simp [cells3, Value.oneCell']
          case c3 => unfold maxLen; omega
          case c4 => omega
          case c5 => omega
          intro v' w2 hown' hgrow _
          have O2 := Lib.hid (show w2.ownsRow w.heap.size 41 3 v' (valsP r (l.take (k + 1))).length (flat (valsP r (l.take (k + 1)))) by rw [HS.out, flat_snoc, List.length_append, hX]; exact hown')
          have L2 := Lib.hid ((HL.out.alloc hsz _).grown hgrow (by simp; omega) (fun g hg => (HO.out.lt g hg).1))
          clear hown' hgrow
          go_wp2
          go_roundw
          case rel => exact ⟨k + 1, by omega, by go_num, HK2, O2.out, L2.out⟩
          case measure => simp [intOf]; omega
        · have e1 : decide ((r.length : Int) ≤ n) = true := by simp; omega
          have HX := Lib.hid (okP_not (r := r) hkl (.inr (by omega)))
          clear hn hX
          go_wp2
          go_ret2
          exact rpick_none HX.out HL.out
    · obtain rfl : k = l.length := by omega
      rw [List.take_length] at HK HO
      go_wp2
      go_ret2
      exact rpick_some HK.out HO.out HL.out
end Go.Proofs.YtpdoomhpfdmklaaDoor.Code
