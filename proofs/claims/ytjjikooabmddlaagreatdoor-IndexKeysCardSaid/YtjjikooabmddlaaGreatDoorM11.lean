/-
  The contract of the document's Pick.
-/
import Derived.Test.YtjjikooabmddlaaGreatDoorM4
namespace Go.Proofs.YtjjikooabmddlaaGreatDoor.Code
open Go.ChangeShapes Go.WideShapes Go.ChangeAt Go.RowKit Val
set_option linter.unusedVariables false

def okP (r : List (Int × Int × ByteArray)) (at_ : List Int) : Bool := at_.all fun n => decide (0 ≤ n) && decide (n < r.length)
def valsP (r : List (Int × Int × ByteArray)) (at_ : List Int) : List (Int × Int × ByteArray) := at_.map fun n => r.getD n.toNat zV
def pickL (r : List (Int × Int × ByteArray)) (at_ : List Int) : List (Int × Int × ByteArray) := if okP r at_ then valsP r at_ else []
def pickE (r : List (Int × Int × ByteArray)) (at_ : List Int) : Int := if okP r at_ then 0 else 51
theorem okP_snoc (r : List (Int × Int × ByteArray)) (l : List Int) (k : Nat) (h : k < l.length) : okP r (l.take (k + 1)) = (okP r (l.take k) && (decide (0 ≤ l[k]) && decide (l[k] < r.length))) := by
  unfold okP
  rw [List.take_succ_eq_append_getElem h, List.all_append]
  simp
theorem okP_not {r : List (Int × Int × ByteArray)} {l : List Int} {k : Nat} (h : k < l.length) (g : l[k] < 0 ∨ (r.length : Int) ≤ l[k]) : okP r l = false := by
  unfold okP
  rw [List.all_eq_false]
  exact ⟨l[k], List.getElem_mem h, by simp; omega⟩
theorem valsP_snoc (r : List (Int × Int × ByteArray)) (l : List Int) (k m : Nat) (h : k < l.length) (hm : l[k] = (m : Int)) (hr : m < r.length) : valsP r (l.take (k + 1)) = valsP r (l.take k) ++ [r[m]] := by
  unfold valsP
  rw [List.take_succ_eq_append_getElem h, List.map_append]
  simp [hm, hr]
theorem valsP_length (r : List (Int × Int × ByteArray)) (l : List Int) : (valsP r l).length = l.length := by simp [valsP]
/-- the document's answer: a row of the call's own -/
def RPickOwn (w : World) (r : List (Int × Int × ByteArray)) (l : List Int) (e : Ending) (w' : World) : Prop :=
  ∃ (A : Option Addr) (cap : Nat), e = .returned (.tuple #[.slice A (pickL r l).length cap, .int .i64 (pickE r l)]) ∧ w'.ownsRow w.heap.size 51 3 (.slice A (pickL r l).length cap) (pickL r l).length (flat (pickL r l)) ∧ Below w.heap.size w w'
theorem rpick_none {w w' : World} {r : List (Int × Int × ByteArray)} {l : List Int} (h : okP r l = false) (hb : Below w.heap.size w w') : RPickOwn w r l (.returned (.tuple #[.slice none 0 0, .int .i64 51])) w' := by
  have h1 : pickL r l = [] := by unfold pickL; rw [h]; rfl
  have h2 : pickE r l = 51 := by unfold pickE; rw [h]; rfl
  exact ⟨none, 0, by rw [h1, h2]; rfl, by rw [h1]; exact World.ownsRow_nil _ _ _ _, hb⟩
theorem rpick_some {w w' : World} {r : List (Int × Int × ByteArray)} {l : List Int} {v : Value} (h : okP r l = true) (ho : w'.ownsRow w.heap.size 51 3 v (valsP r l).length (flat (valsP r l))) (hb : Below w.heap.size w w') : RPickOwn w r l (.returned (.tuple #[v, .int .i64 0])) w' := by
  have h1 : pickL r l = valsP r l := by unfold pickL; rw [h]; rfl
  have h2 : pickE r l = 0 := by unfold pickE; rw [h]; rfl
  obtain ⟨A, cap, hv, hV⟩ := own_vals ho
  subst hv
  exact ⟨A, cap, by rw [h1, h2], by rw [h1]; exact ho, hb⟩
/-- the document's answer: values that lie somewhere -/
def RPickPost (w : World) (r : List (Int × Int × ByteArray)) (l : List Int) (e : Ending) (w' : World) : Prop :=
  ∃ (A : Option Addr) (cap : Nat), e = .returned (.tuple #[.slice A (pickL r l).length cap, .int .i64 (pickE r l)]) ∧ Vals w' w'.heap.size A (pickL r l) ∧ Below w.heap.size w w'
theorem own_values {w : World} {B : Nat} {A : Option Addr} {cap : Nat} {l : List (Int × Int × ByteArray)} (h : w.ownsRow B 51 3 (.slice A l.length cap) l.length (flat l)) : Vals w w.heap.size A l := by
  obtain ⟨A', cap', he, hv⟩ := own_vals h
  injection he with h1 _ _
  rw [h1]
  exact hv
theorem row1_new (w : World) (k n : Int) (t : ByteArray) (ty : TypeId) : ∀ (j : Nat) (u : Value), (cells3 (k, n, t))[j]? = some u → (w.alloc (.cells #[.int .i64 k, .int .i64 n, .string t] ty)).cell? ((⟨w.heap.size, 0, none⟩ : Addr).add j) = some u :=
  World.news_of_block (heap_alloc_new w (.cells #[.int .i64 k, .int .i64 n, .string t] ty))
set_option maxHeartbeats 4000000 in
set_option maxRecDepth 100000 in
theorem rpick_own (A C : Option Addr) (ca cc : Nat) (r : List (Int × Int × ByteArray)) (l : List Int) (w : World) (hv : Vals w w.heap.size A r) (hi : Ints w w.heap.size C l) (hr : r.length ≤ 1000000) (hl : l.length ≤ 1000000) :
    Calls Tryz.prog 32 #[.slice A r.length ca, .slice C l.length cc] w (RPickOwn w r l) := by
  have HV := Lib.hid hv
  have HI := Lib.hid hi
  clear hv hi
  obtain ⟨i0, hi0, hz0, hz1, hz2⟩ := info_parts info_val
  go_enter Tryz.func32, Tryz.ntmps32
  go_wp2
  go_loopw [6, 7] (fun v i wr => ∃ k : Nat, k ≤ l.length ∧ i = .int .i64 k ∧ Hid (okP r (l.take k) = true) ∧ wr.ownsRow w.heap.size 51 3 v (valsP r (l.take k)).length (flat (valsP r (l.take k))) ∧ Below w.heap.size w wr) (fun _ i _ => l.length - (intOf i).toNat)
  case atStart => exact ⟨0, by omega, rfl, Lib.hid rfl, World.ownsRow_nil _ _ _ _, Below.refl _ _⟩
  case round =>
    obtain ⟨k, hk, rfl, HK, hown, hbel⟩ := hrel
    have hsz := hbel.size
    have HL := Lib.hid hbel
    have HO := Lib.hid hown
    have VA := Lib.hid (HV.out.below hbel)
    have VI := Lib.hid (HI.out.below hbel)
    have hX : (valsP r (l.take k)).length = k := by rw [valsP_length, List.length_take_of_le hk]
    clear hbel hown
    by_cases hkl : k < l.length
    · obtain ⟨cd, rfl, hc, d0⟩ := VI.out k hkl
      obtain ⟨n, hn⟩ : ∃ n, l[k] = n := ⟨_, rfl⟩
      rw [hn] at d0
      by_cases h0 : n < 0
      · have HX := Lib.hid (okP_not (r := r) hkl (.inl (by omega)))
        have e0 : decide (n < 0) = true := by simp; omega
        clear hn hX
        go_wp2
        go_ret2
        exact rpick_none HX.out HL.out
      · have e0 : decide (n < 0) = false := by simp; omega
        by_cases h1 : n < r.length
        · have e1 : decide ((r.length : Int) ≤ n) = false := by simp; omega
          obtain ⟨m, rfl⟩ : ∃ m : Nat, n = m := ⟨n.toNat, by omega⟩
          have hmr : m < r.length := by omega
          have hmr2 : m < 1000000 := by omega
          obtain ⟨ad, rfl, ha, c0, c1, c2⟩ := VA.out m hmr
          have HK2 := Lib.hid (show okP r (l.take (k + 1)) = true by rw [okP_snoc r l k hkl, HK.out, hn]; simp; omega)
          have HS := Lib.hid (valsP_snoc r l k m hkl hn hmr)
          clear hn
          go_wp2_with (at_builtin; refine wpList_append_own _ rfl _ _ 25 rfl w.heap.size 51 i0 (.agg #[.int .i64 0, .int .i64 0, .string ByteArray.empty]) 3 32 Tryz.underlying25 hi0 hz0 hz1 hz2 rfl (by decide) _ _ _ rfl (HO.out.alloc _) ⟨wr.heap.size, 0, none⟩ 1 1 (cells3 (r[m].1, r[m].2.1, r[m].2.2)) rfl rfl ?c1 ?c2 ?c3 ?c4 ?c5 ?_)
          case c1 => intro j u hu; simpa [cells3] using hu
          case c2 => simp [cells3, Value.oneCell']
          case c3 => unfold maxLen; omega
          case c4 => omega
          case c5 => omega
          intro v' w2 hown' hgrow _
          have O2 := Lib.hid (show w2.ownsRow w.heap.size 51 3 v' (valsP r (l.take (k + 1))).length (flat (valsP r (l.take (k + 1)))) by rw [HS.out, flat_snoc, List.length_append, hX]; exact hown')
          have L2 := Lib.hid ((HL.out.alloc hsz _).grown hgrow (by simp; omega) (fun g hg => (HO.out.lt g hg).1))
          clear hown' hgrow
          go_wp2
          go_roundw
          case rel => exact ⟨k + 1, by omega, by go_num, HK2, O2.out, L2.out⟩
          case measure => simp [intOf]; omega
        · have e1 : decide ((r.length : Int) ≤ n) = true := by simp; omega
          have HX := Lib.hid (okP_not (r := r) hkl (.inr (by omega)))
          clear hn hX
          go_wp2
          go_ret2
          exact rpick_none HX.out HL.out
    · obtain rfl : k = l.length := by omega
      rw [List.take_length] at HK HO
      go_wp2
      go_ret2
      exact rpick_some HK.out HO.out HL.out

theorem rpick_any (A C : Option Addr) (ca cc : Nat) (r : List (Int × Int × ByteArray)) (l : List Int) (w : World) (hv : Vals w w.heap.size A r) (hi : Ints w w.heap.size C l) (hr : r.length ≤ 1000000) (hl : l.length ≤ 1000000) :
    Calls Tryz.prog 32 #[.slice A r.length ca, .slice C l.length cc] w (RPickPost w r l) :=
  (rpick_own A C ca cc r l w hv hi hr hl).mono fun _ _ ⟨A', c', he, ho, hb⟩ => ⟨A', c', he, own_values ho, hb⟩
end Go.Proofs.YtjjikooabmddlaaGreatDoor.Code
