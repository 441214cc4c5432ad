/-
  Lists of values in memory, and contracts of fits and of the document's Same and Compare over them.
-/
import Derived.Test.YtmaecoidoejipaaDoorCodeVal
import Derived.Test.YtmaecoidoejipaaDoorCodePure
import Derived.Laws.OwnMore
import Derived.Deep.AppendLies
import Derived.Deep.Draws
import Derived.Deep.QuietTactic
import Derived.BigQuiet
namespace Go.Proofs.YtmaecoidoejipaaDoor.Code
open Go.ChangeShapes Go.WideShapes Go.ChangeAt Go.RowKit Val
set_option linter.unusedVariables false

theorem add_block (a : Addr) (n : Nat) : (a.add n).block = a.block := by unfold Addr.add; split <;> rfl
theorem add_next (a : Addr) (n j : Nat) : a.add (n + (j + 1)) = ⟨(a.add n).block, (a.add n).off + (j + 1), none⟩ := by
  unfold Addr.add
  rw [if_neg (by omega)]
  by_cases h : n = 0
  · rw [if_pos h, h, Nat.zero_add]
  · rw [if_neg h, Nat.add_assoc]
/-- the slice at A holds these values, and lies below B -/
def Vals (w : World) (B : Nat) (A : Option Addr) (l : List (Int × Int × ByteArray)) : Prop :=
  ∀ (i : Nat) (h : i < l.length), ∃ ad : Addr, A = some ad ∧ ad.block < B ∧ w.cell? (ad.add (i * 3)) = some (.int .i64 l[i].1) ∧ w.cell? ⟨(ad.add (i * 3)).block, (ad.add (i * 3)).off + 1, none⟩ = some (.int .i64 l[i].2.1) ∧ w.cell? ⟨(ad.add (i * 3)).block, (ad.add (i * 3)).off + 2, none⟩ = some (.string l[i].2.2)
theorem Vals.keep {w w' : World} {B : Nat} {A : Option Addr} {l : List (Int × Int × ByteArray)} (h : Vals w B A l) (hk : ∀ p : Addr, p.block < B → w'.cell? p = w.cell? p) : Vals w' B A l := by
  intro i hi
  obtain ⟨ad, e, hb, h0, h1, h2⟩ := h i hi
  exact ⟨ad, e, hb, (hk _ (by rw [add_block]; exact hb)).trans h0, (hk _ (by rw [add_block]; exact hb)).trans h1, (hk _ (by rw [add_block]; exact hb)).trans h2⟩
theorem Vals.below {w w' : World} {B : Nat} {A : Option Addr} {l : List (Int × Int × ByteArray)} (h : Vals w B A l) (hb : Below B w w') : Vals w' B A l := h.keep fun _ hp => hb.cell hp
theorem Vals.more {w : World} {B B' : Nat} {A : Option Addr} {l : List (Int × Int × ByteArray)} (h : Vals w B A l) (hB : B ≤ B') : Vals w B' A l := by
  intro i hi
  obtain ⟨ad, e, hb, h0⟩ := h i hi
  exact ⟨ad, e, by omega, h0⟩

/-- how long the texts are together -/
def sizes (l : List (Int × Int × ByteArray)) : Nat := (l.map fun v => v.2.2.size).sum
theorem sizes_snoc (l : List (Int × Int × ByteArray)) (k : Nat) (h : k < l.length) : sizes (l.take (k + 1)) = sizes (l.take k) + l[k].2.2.size := by
  unfold sizes
  rw [List.take_succ_eq_append_getElem h, List.map_append, List.sum_append]
  simp
def Short (l : List (Int × Int × ByteArray)) : Prop := ∀ v ∈ l, v.2.2.size ≤ 140737488355328
theorem sizes_le {l : List (Int × Int × ByteArray)} (h : Short l) : ∀ k : Nat, sizes (l.take k) ≤ k * 140737488355328
  | 0 => Nat.zero_le _
  | k + 1 => by
    have ih := sizes_le h k
    rw [Nat.add_mul, Nat.one_mul]
    by_cases hk : k < l.length
    · rw [sizes_snoc l k hk]
      exact Nat.add_le_add ih (h l[k] (List.getElem_mem hk))
    · rw [List.take_of_length_le (by omega)] at ih
      rw [List.take_of_length_le (by omega)]
      exact Nat.le_trans ih (Nat.le_add_right _ _)
def fitsB (l : List (Int × Int × ByteArray)) : Bool := decide (l.length ≤ 20) && decide (sizes l ≤ 600)

set_option maxHeartbeats 1000000 in
theorem fits_any (A : Option Addr) (cap : Nat) (l : List (Int × Int × ByteArray)) (w : World) (hv : Vals w w.heap.size A l) (hs : Short l) (hl : l.length ≤ 140737488355328) :
    Calls Tryd.prog 7 #[.slice A l.length cap] w fun e w' => e = .returned (.bool (fitsB l)) ∧ w = w' := by
  have HV := Lib.hid hv
  have HS := Lib.hid hs
  clear hv hs
  go_enter Tryd.func7, Tryd.ntmps7
  go_wp2
  go_loop [3, 4] (fun n i => ∃ k : Nat, k ≤ l.length ∧ k ≤ 21 ∧ i = .int .i64 k ∧ n = .int .i64 (sizes (l.take k) : Nat)) (fun _ i => 22 - (intOf i).toNat)
  case atStart => exact ⟨0, by omega, by omega, rfl, rfl⟩
  case round =>
    obtain ⟨k, hk, hk2, rfl, rfl⟩ := hrel
    have hz := sizes_le HS.out k
    by_cases hlt : k < l.length
    · by_cases h20 : k ≤ 20
      · obtain ⟨ad, rfl, hb, c0, c1, c2⟩ := HV.out k hlt
        have hz1 := HS.out l[k] (List.getElem_mem hlt)
        have HZ := Lib.hid (sizes_snoc l k hlt)
        go_wp2
        go_round
        case rel => exact ⟨k + 1, by omega, by omega, by go_num, by rw [HZ.out]; go_num⟩
        case measure => simp [intOf]; omega
      · have h20' : decide ((k : Int) ≤ 20) = false := by simp; omega
        have hb20 : decide ((l.length : Int) ≤ 20) = false := by simp; omega
        have HF := Lib.hid (show fitsB l = false by unfold fitsB; rw [decide_eq_false (by omega)]; rfl)
        go_wp2
        go_ret
        exact ⟨retB HF.out.symm, rfl⟩
    · obtain rfl : k = l.length := by omega
      rw [List.take_length] at *
      by_cases h20 : l.length ≤ 20
      · have h20' : decide ((l.length : Int) ≤ 20) = true := by simp; omega
        have HF := Lib.hid (show fitsB l = decide (sizes l ≤ 600) by unfold fitsB; rw [decide_eq_true h20]; rfl)
        go_wp2
        go_ret
        exact ⟨retB (by rw [HF.out]; exact decide_eq_decide.2 (by omega)), rfl⟩
      · have hb20 : decide ((l.length : Int) ≤ 20) = false := by simp; omega
        have HF := Lib.hid (show fitsB l = false by unfold fitsB; rw [decide_eq_false (by omega)]; rfl)
        go_wp2
        go_ret
        exact ⟨retB HF.out.symm, rfl⟩


theorem take_snoc (l : List (Int × Int × ByteArray)) (k : Nat) (h : k < l.length) : l.take (k + 1) = l.take k ++ [l[k]] := List.take_succ_eq_append_getElem h
theorem drewN_below {B : Nat} {a w : World} (h : Below B a w) (n : Nat) : Below B a (w.drewN n) := ⟨h.os, h.tape, h.output, h.size, h.block⟩
theorem toList_ne {s t : ByteArray} (h : s ≠ t) : (s.toList == t.toList) = false := by
  rw [beq_eq_false_iff_ne]
  intro e
  rw [ByteArray.toList_eq, ByteArray.toList_eq] at e
  apply h
  obtain ⟨⟨a⟩⟩ := s
  obtain ⟨⟨b⟩⟩ := t
  simp at e
  rw [e]
set_option maxHeartbeats 2000000 in
theorem same_any (A B : Option Addr) (ca cb : Nat) (a b : List (Int × Int × ByteArray)) (w : World) (hA : Vals w w.heap.size A a) (hB : Vals w w.heap.size B b) (hl : a.length ≤ 140737488355328) (hl2 : b.length ≤ 140737488355328) :
    Calls Tryd.prog 13 #[.slice A a.length ca, .slice B b.length cb] w fun e w' => e = .returned (.bool (decide (a = b))) ∧ Below w.heap.size w w' := by
  have HA := Lib.hid hA
  have HB := Lib.hid hB
  clear hA hB
  by_cases hlen : a.length = b.length
  · have el : ((a.length : Int) == (b.length : Int)) = true := by rw [hlen]; simp
    have HLEN := Lib.hid hlen
    have hlenA : a.length ≤ b.length := by omega
    have hlenB : b.length ≤ a.length := by omega
    clear hlen
    go_enter Tryd.func13, Tryd.ntmps13
    go_wp2
    go_loopw [5] (fun i wr => ∃ k : Nat, k ≤ a.length ∧ i = .int .i64 k ∧ Hid (a.take k = b.take k) ∧ Below w.heap.size w wr) (fun i _ => a.length - (intOf i).toNat)
    case atStart => exact ⟨0, by omega, rfl, Lib.hid rfl, Below.refl _ _⟩
    case round =>
      obtain ⟨k, hk, rfl, HK, hbel⟩ := hrel
      have HL := Lib.hid hbel
      have VA := Lib.hid (HA.out.below hbel)
      have VB := Lib.hid (HB.out.below hbel)
      clear hbel
      by_cases hlt : k < a.length
      · have hlt2 : k < b.length := by omega
        obtain ⟨ad, rfl, hb, c0, c1, c2⟩ := VA.out k hlt
        obtain ⟨bd, rfl, hb', d0, d1, d2⟩ := VB.out k hlt2
        obtain ⟨x, hx⟩ : ∃ x, a[k] = x := ⟨_, rfl⟩
        obtain ⟨y, hy⟩ : ∃ y, b[k] = y := ⟨_, rfl⟩
        rw [hx] at c0 c1 c2
        rw [hy] at d0 d1 d2
        have HX := Lib.hid hx
        have HY := Lib.hid hy
        clear hx hy
        obtain ⟨k1, n1, s1⟩ := x
        obtain ⟨k2, n2, s2⟩ := y
        simp only at c0 c1 c2 d0 d1 d2
        by_cases e0 : k1 = k2
        · subst e0
          by_cases e1 : n1 = n2
          · subst e1
            by_cases e2 : s1 = s2
            · subst e2
              have HS := Lib.hid (show a.take (k + 1) = b.take (k + 1) by rw [take_snoc a k hlt, take_snoc b k hlt2, HK.out, HX.out, HY.out])
              go_wp2
              go_quiet (fail)
              go_wp2
              go_roundw
              case rel => exact ⟨k + 1, by omega, by go_num, HS, drewN_below HL.out _⟩
              case measure => simp [intOf]; omega
            · have f2 := toList_ne e2
              have HD := Lib.hid (show ¬ a = b by intro h; subst h; have h2 := HX.out.symm.trans HY.out; simp at h2; exact e2 h2)
              clear e2
              go_wp2
              go_quiet (fail)
              go_wp2
              go_ret
              exact ⟨retB (decide_eq_false HD.out).symm, drewN_below HL.out _⟩
          · have f1 : (n1 == n2) = false := by simpa using e1
            have HD := Lib.hid (show ¬ a = b by intro h; subst h; have h2 := HX.out.symm.trans HY.out; simp at h2; exact e1 h2.1)
            clear e1
            go_wp2
            go_quiet (fail)
            go_wp2
            go_ret
            exact ⟨retB (decide_eq_false HD.out).symm, drewN_below HL.out _⟩
        · have f0 : (k1 == k2) = false := by simpa using e0
          have HD := Lib.hid (show ¬ a = b by intro h; subst h; have h2 := HX.out.symm.trans HY.out; simp at h2; exact e0 h2.1)
          clear e0
          go_wp2
          go_quiet (fail)
          go_wp2
          go_ret
          exact ⟨retB (decide_eq_false HD.out).symm, drewN_below HL.out _⟩
      · have HS := Lib.hid (show a = b by have h := HK.out; rw [List.take_of_length_le (by omega), List.take_of_length_le (by omega)] at h; exact h)
        go_wp2
        go_ret
        exact ⟨retB (decide_eq_true HS.out).symm, HL.out⟩
  · have el : ((a.length : Int) == (b.length : Int)) = false := by simp; omega
    have HS := Lib.hid (show ¬ a = b by intro h; subst h; exact hlen rfl)
    clear hlen
    go_enter Tryd.func13, Tryd.ntmps13
    go_wp2
    go_ret
    exact ⟨retB (decide_eq_false HS.out).symm, Below.refl _ _⟩
end Go.Proofs.YtmaecoidoejipaaDoor.Code
