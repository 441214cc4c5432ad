/-
  The iterator each of package zset: a set's rows with their weights, in their order.
-/
import Derived.Test.YtlejhimcaidbeaaRange
import Derived.Test.YtlejhimcaidbeaaItemsAll
import Derived.Shelf.Abstract
import Derived.Shelf.RegionOpen
import Derived.OwnWalkIn
import Derived.TacticsInMore
import Derived.LoopNIn
import Derived.LoopIn
namespace Go.Proofs.Ytlejhimcaidbeaa.Items
open Go.ChangeShapes Go.WideShapes Go.ChangeAt Go.RowKit Val Go.Proofs.Ytlejhimcaidbeaa.Code Go.Proofs.Ytlejhimcaidbeaa.Elems Go.Proofs.Ytlejhimcaidbeaa.ZP Go.Proofs.Ytlejhimcaidbeaa.Bits Go.Proofs.Ytlejhimcaidbeaa.Range
set_option linter.unusedVariables false
set_option maxRecDepth 100000
attribute [local go_sem] Oper.semAt_some

/-- what a round of each is handed -/
def encI (x : It) : Array Value := #[.slice x.1 x.2.2.1.length x.2.1, .int .i64 x.2.2.2]
theorem prefix_take {α : Type} (L : List α) (k : Nat) (h : k < L.length) : L.take k ++ [L[k]] <+: L := by
  rw [← List.take_succ_eq_append_getElem h]
  exact List.take_prefix _ _

set_option maxHeartbeats 2000000 in
theorem each_seq (A : Option Addr) (cap n₀ : Nat) (L : List It) (w : World) (hn : n₀ ≤ w.heap.size) (hI : Items w n₀ A L) (hl : L.length ≤ 140737488355328) :
    SeqM Try.prog 45 #[.slice A L.length cap] encI n₀ L w := by
  intro l J Jx W hW hJ hY h0
  have HI := Lib.hid (hI.below (hW.mono hn))
  have HY := Lib.hid hY
  clear hI hY
  refine callsIn_of_wp Try.func45 rfl trivial ?_ rfl
  simp only [Try.ntmps45, List.size_toArray, List.length_cons, List.length_nil, Nat.reduceAdd, Nat.reduceSub, Array.replicate_succ, Array.replicate_zero, List.push_toArray, List.append_toArray, List.nil_append, List.cons_append]
  gi_wp2
  gi_loopw [8] (fun i wr => ∃ k : Nat, k ≤ L.length ∧ i = .int .i64 k ∧ J (L.take k) wr ∧ Items wr n₀ A L ∧ n₀ ≤ wr.heap.size) (fun i _ => L.length - (intOf i).toNat)
  case atStart => exact ⟨0, by omega, rfl, by simpa using h0, HI.out, Nat.le_trans hn hW.size⟩
  case round =>
    obtain ⟨k, hk, rfl, hj, hi, hz⟩ := hrel
    have HJ := Lib.hid hj
    have H1 := Lib.hid hi
    clear hj
    by_cases hlt : k < L.length
    · obtain ⟨ad, rfl, hb, c0, c1, _⟩ := hi.at k hlt
      have c1' := c1
      clear hi
      have hnew := hJ _ _ _ HJ.out (World.grownBy_alloc wr (.cells #[.slice L[k].1 L[k].2.2.1.length L[k].2.1, .int .i64 L[k].2.2.2] 48) none)
      obtain ⟨fn, tmps, assign, body, hy, hR⟩ := HY.out (L.take k) L[k] _ hnew (prefix_take L k hlt)
      have HR := Lib.hid hR
      clear hR
      dsimp only [encI] at hy
      gi_wp2
      refine ⟨rfl, HR.out.mono ?_⟩
      clear HR hy
      rintro e w3 (⟨rfl, hj3, hb3⟩ | ⟨rfl, hjx⟩)
      · have J3 := Lib.hid hj3
        have I3 := Lib.hid ((H1.out.below ((below_alloc wr (.cells #[.slice L[k].1 L[k].2.2.1.length L[k].2.1, .int .i64 L[k].2.2.2] 48)).mono (by omega))).below hb3)
        have z3 : n₀ ≤ w3.heap.size := by
          have := hb3.size
          rw [World.size_alloc] at this
          omega
        clear hj3 hb3 hnew
        gi_wp2
        go_roundw
        case rel => exact ⟨k + 1, by omega, by go_num, by rw [List.take_succ_eq_append_getElem hlt]; exact J3.out, I3.out, z3⟩
        case measure => simp [intOf]; omega
      · have JX := Lib.hid hjx
        clear hjx hnew
        gi_wp2
        refine bodyPost_ret (results_none rfl _ _ _) rfl ?_
        exact ⟨⟨_, rfl⟩, .inr ⟨_, prefix_take L k hlt, JX.out⟩⟩
    · obtain rfl : k = L.length := by omega
      rw [List.take_length] at HJ
      gi_wp2
      go_end0
      exact ⟨⟨_, rfl⟩, .inl HJ.out⟩
end Go.Proofs.Ytlejhimcaidbeaa.Items
