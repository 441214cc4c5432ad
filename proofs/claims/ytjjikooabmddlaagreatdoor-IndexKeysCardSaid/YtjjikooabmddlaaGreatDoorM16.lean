/-
  The contract of row.Join.
-/
import Derived.Test.YtjjikooabmddlaaGreatDoorM4
import Derived.RangeFuncNested
import Derived.RangeFuncBound
import Derived.RangeFuncCalls
import Derived.RangeFuncLeaves
import Derived.RangeFuncBox
import Derived.Test.YtjjikooabmddlaaGreatDoorM3
import Derived.Test.YtjjikooabmddlaaGreatDoorM10
import Derived.Maps.AppendAt
namespace Go.Proofs.YtjjikooabmddlaaGreatDoor.Code
open Go.ChangeShapes Go.WideShapes Go.ChangeAt Go.RowKit Val
set_option linter.unusedVariables false

theorem fill_copy (X l : List (Int × Int × ByteArray)) (n N : Nat) (hn : n = X.length) (h : n + l.length ≤ N) :
    (X ++ List.replicate (N - n) zV).take n ++ (l ++ (X ++ List.replicate (N - n) zV).drop (n + l.length)) = (X ++ l) ++ List.replicate (N - (n + l.length)) zV := by
  subst hn
  rw [List.take_left, List.drop_append, List.drop_of_length_le (by omega), List.nil_append, Nat.add_sub_cancel_left, List.drop_replicate, Nat.sub_sub, List.append_assoc]
theorem size_val : (Tryz.prog.info? 51).map (·.size) = some 3 := by
  obtain ⟨i0, hi, _, hz1, _⟩ := info_parts info_val
  rw [hi]
  exact congrArg some hz1
/-- a list of the call's own cut from a place on -/
theorem cut_row (g n N : Nat) (h : n ≤ N) (w : World) :
    (Instr.slice 25 (.slice (some ⟨g, 0, none⟩) N N) (some (.int .i64 n)) none none).run Tryz.prog w = .ok (.slice (some (if n = N then ⟨g, 0, none⟩ else ⟨g, n * 3, none⟩)) (N - n) (N - n)) w := by
  have hu : Tryz.prog.underlying 25 = some (.slice (Tryz.prog.elem 25)) := by kernel_rfl
  have hz : ∀ w, (sizeOf (Tryz.prog.elem 25)).run Tryz.prog w = .ok 3 w := fun w => by kernel_rfl
  rw [run_slice_l w 25 _ _ _ hu .i64 n (by omega) (by omega), hz]
  simp only [Result.andThen, sliced, Int.toNat_natCast]
  by_cases e : n = N
  · subst e
    simp
  · rw [if_neg e, if_neg (fun h => e h.symm)]
    simp [Addr.add_lit]
set_option maxHeartbeats 4000000 in
set_option maxRecDepth 100000 in
theorem join_any (A : Option Addr) (cap : Nat) (L : List (Option Addr × Nat × List (Int × Int × ByteArray))) (w : World) (hr : RowsAt w w.heap.size A L) (hl : L.length ≤ 1000000) (hc : (catL L).length ≤ 1000000) :
    Calls Tryz.prog 88 #[.slice A L.length cap] w fun e w' => ∃ g, e = .returned (.slice (some ⟨g, 0, none⟩) (catL L).length (catL L).length) ∧ w.heap.size ≤ g ∧ Blk w' g (catL L) ∧ Below w.heap.size w w' := by
  have HR := Lib.hid hr
  clear hr
  obtain ⟨i0, hi0, hz0, hz1, hz2⟩ := info_parts info_val
  have hsv := size_val
  go_enter Tryz.func88, Tryz.ntmps88
  go_wp2
  go_loop [3, 9] (fun n i => ∃ (k m : Nat), k ≤ L.length ∧ m ≤ 1000000 ∧ i = .int .i64 k ∧ n = .int .i64 m ∧ Hid (m = (catL (L.take k)).length)) (fun _ i => L.length - (intOf i).toNat)
  case atStart => exact ⟨0, 0, by omega, by omega, rfl, rfl, Lib.hid rfl⟩
  case round =>
    obtain ⟨k, m, hk, hm, rfl, rfl, HM⟩ := hrel
    by_cases hkl : k < L.length
    · obtain ⟨⟨ad, rfl, ha, c0⟩, _⟩ := HR.out k hkl
      have HC := Lib.hid (catL_snoc L k hkl)
      have hle := catL_le L (k + 1)
      rw [HC.out, List.length_append, ← HM.out] at hle
      go_wp2
      go_round
      case rel => exact ⟨k + 1, m + L[k].2.2.length, by omega, by omega, by go_num, by go_num, Lib.hid (by rw [HC.out, List.length_append, ← HM.out])⟩
      case measure => simp [intOf]; omega
    · obtain rfl : k = L.length := by omega
      rw [List.take_length] at HM
      obtain ⟨N, rfl⟩ : ∃ N, N = m := ⟨_, rfl⟩
      have hN : (catL L).length = N := HM.out.symm
      have HN := Lib.hid hN
      clear hN hc
      go_wp2_with (at_make; refine wpList_make_vals _ rfl _ _ 25 rfl 51 i0 Tryz.underlying25 hi0 hz0 hz1 hz2 _ _ _ _ N rfl rfl rfl rfl (by omega) ?_)
      have HB0 := Lib.hid (Blk.fresh w (List.replicate N zV))
      have HL0 := Lib.hid (below_alloc w (.cells (flat (List.replicate N zV)).toArray 51))
      go_wp2
      go_loopw [3, 24] (fun n i wr => ∃ (k m : Nat), k ≤ L.length ∧ m ≤ N ∧ i = .int .i64 k ∧ n = .int .i64 m ∧ Hid (m = (catL (L.take k)).length) ∧ Blk wr w.heap.size (catL (L.take k) ++ List.replicate (N - m) zV) ∧ Below w.heap.size w wr) (fun _ i _ => L.length - (intOf i).toNat)
      case atStart => exact ⟨0, 0, by omega, by omega, rfl, rfl, Lib.hid rfl, by simpa [catL] using HB0.out, HL0.out⟩
      case round =>
        obtain ⟨k, m, hk, hm, rfl, rfl, HM, hblk, hbel⟩ := hrel
        have hsz := hbel.size
        have hlt := hblk.lt
        have HL := Lib.hid hbel
        have HB := Lib.hid hblk
        have VR := Lib.hid (HR.out.below hbel)
        clear hbel hblk
        by_cases hkl : k < L.length
        · obtain ⟨⟨ad, rfl, ha, c0⟩, v0⟩ := VR.out k hkl
          have V0 := Lib.hid v0
          have HC := Lib.hid (catL_snoc L k hkl)
          have hle := catL_le L (k + 1)
          rw [HC.out, List.length_append, ← HM.out, HN.out] at hle
          have hcut := cut_row w.heap.size m N hm
          have hlen : (catL (L.take k) ++ List.replicate (N - m) zV).length = N := by rw [List.length_append, ← HM.out]; simp; omega
          have HF := Lib.hid (fill_copy (catL (L.take k)) L[k].2.2 m N HM.out hle)
          clear v0
          go_wp2_with fail
          go_region_law (refine step_copy_vals rfl _ _ 25 25 rfl 51 Tryz.underlying25 hsv _ _ _ _ _ w.heap.size m _ L[k].2.2 rfl rfl HB.out (by omega) (by intro h; rw [if_neg (by omega)]) w.heap.size V0.out (by omega) w (Below.drew HL.out) (Nat.le_refl _) ?_; intro w4 hg4 hb4)
          have HB4 := Lib.hid (show Blk w4 w.heap.size (catL (L.take (k + 1)) ++ List.replicate (N - (m + L[k].2.2.length)) zV) by rw [HC.out, ← HF.out]; exact hg4.out)
          clear hg4
          go_wp2
          go_roundw
          case rel => exact ⟨k + 1, m + L[k].2.2.length, by omega, by omega, by go_num, by go_num, Lib.hid (by rw [HC.out, List.length_append, ← HM.out]), HB4.out, hb4.out⟩
          case measure => simp [intOf]; omega
        · obtain rfl : k = L.length := by omega
          rw [List.take_length] at HM HB
          obtain rfl : N = m := by rw [HM.out, HN.out]
          go_wp2
          go_ret
          exact ⟨w.heap.size, by rw [HN.out]; rfl, Nat.le_refl _, by simpa using HB.out, HL.out⟩
end Go.Proofs.YtjjikooabmddlaaGreatDoor.Code

/-
  A range over a method value (the receiver is bound in the function value): the law of the statement, for plain walks. No function of the program is named.
-/
namespace Go.Proofs.YtjjikooabmddlaaGreatDoor.Range
open Go.ChangeShapes Go.WideShapes Go.ChangeAt Go.RowKit
set_option linter.unusedVariables false

/-- the iterator gf, bound to ms, yields xs in their order, whatever the rounds do that keep what lay below n₀ -/
def SeqM {α : Type} (P : Program) (gf : Nat) (ms : Array Value) (encs : α → Array Value) (n₀ : Nat) (xs : List α) (w0 : World) : Prop :=
  ∀ (l : Nat) (J Jx : List α → World → Prop) (W : World), Below w0.heap.size w0 W →
    (∀ pre A B, J pre A → A.grownBy B none → J pre B) →
    (∀ pre x W1, J pre W1 → pre ++ [x] <+: xs → YieldAt Fence.wide 0 P l (encs x) W1 fun e W' =>
      (e = .returned (.bool true) ∧ J (pre ++ [x]) W' ∧ Below n₀ W1 W') ∨ (e = .returned (.bool false) ∧ Jx (pre ++ [x]) W')) →
    J [] W →
    CallsIn Fence.wide 0 P gf (ms ++ #[.func (.yield l) #[] #[]]) W fun e W' => (∃ v, e = .returned v) ∧ (J xs W' ∨ ∃ pre, pre <+: xs ∧ Jx pre W')

/-- a body's end -/
abbrev RoundEnd {α : Type} (B n₀ : Nat) (I : List α → World → Prop) (Ix : Code → List α → World → Prop) (xs : List α) (W : World) : Exit → Act → World → Prop := ownPostG B (Below n₀) I Ix xs W

set_option maxHeartbeats 1000000 in
theorem wp_range {α : Type} {P : Program} {g : Operand} {ps : Array Tmp} {assign body : Code} {Q : Exit → Act → World → Prop} {a : Act} {w : World} {gf : Nat} {ms : Array Value}
    (hg : a.eval g = .func (.func gf) ms #[]) (eg : ∀ args w, (callFunc gf args).run P w = .ok (.enter gf args) w)
    {encs : α → Array Value} {n₀ : Nat} {xs : List α} (hn : n₀ ≤ w.heap.size) (hps : ∀ x, (encs x).size = ps.size) (hseq : SeqM P gf ms encs n₀ xs w)
    (I : List α → World → Prop) (Ix : Code → List α → World → Prop) (hI : OwnFrom w.heap.size I) (hIx : ∀ c, OwnFrom w.heap.size (Ix c)) (h0 : I [] w)
    (Ax : α → Act → World → Prop) (hAx : ∀ x a', OwnFrom w.heap.size (fun (_ : Unit) W => Ax x a' W))
    (hassign : ∀ (l : Nat) (pre : List α) (x : α) (W : World) (K : Act → World → Prop), w.heap.size ≤ W.heap.size → I pre W → (∀ a' W', KeepsFrom w.heap.size W W' → Below n₀ W W' → I pre W' → Ax x a' W' → K a' W') →
      assign.wpIn (Fence.wide.inRound l) 0 P (Exit.then K (fun _ _ _ => False)) { tmps := (ps.zip (encs x)).foldl (fun t (p, v) => t.setIfInBounds p v) a.tmps, defers := [] } W)
    (hbody : ∀ (l : Nat) (pre : List α) (x : α) (a' : Act) (W : World), w.heap.size ≤ W.heap.size → I pre W → Ax x a' W → pre ++ [x] <+: xs → body.wpIn (Fence.wide.inRound l) 0 P (RoundEnd w.heap.size n₀ I Ix (pre ++ [x]) W) a' W)
    (hdone : ∀ (D : Nat) (W : World), w.heap.size ≤ D → I xs W → W.heap[D]? = some (.deferred (some [])) → Q .normal { a with defers := { target := .collected D, args := #[] } :: a.defers } W)
    (hstop : ∀ (D : Nat) (c : Code) (pre : List α) (W : World), w.heap.size ≤ D → pre <+: xs → Ix c pre W → W.heap[D]? = some (.deferred (some [])) → c.wp P Q { a with defers := { target := .collected D, args := #[] } :: a.defers } W) :
    (Code.rangeFunc g ps assign body).wp P Q a w := by
  refine (wpIn_wide (n := 0)).1 (wpIn_rangeFunc fun fn hfn => ?_)
  obtain ⟨D, hD⟩ : ∃ D, D = w.heap.size := ⟨_, rfl⟩
  rw [← hD] at hn hI hIx
  simp only [← hD] at hAx hassign hbody hdone hstop
  obtain ⟨R, hR⟩ : ∃ R : LoopState → Option Code → Loop, R = fun s j => { state := s, pending := j, fn, tmps := a.tmps, params := ps, assign, body, defers := D } := ⟨_, rfl⟩
  have hent : (Instr.enterLoop fn a.tmps ps assign body Fence.wide.round).run P w = .ok (D + 1, [{ target := .collected D, args := #[] }]) ((w.alloc (.deferred (some []))).alloc (.loop (R .ready none))) := by
    rw [hR, hD]
    exact run_enterLoop_outer _ _ _ _ _
  have hk1 : ((w.alloc (.deferred (some []))).alloc (.loop (R .ready none))).heap[D]? = some (.deferred (some [])) := by
    rw [Below.heap_alloc _ _ _ (by simp; omega), hD]
    exact World.alloc_heap_new w _
  have hl1 : ((w.alloc (.deferred (some []))).alloc (.loop (R .ready none))).heap[D + 1]? = some (.loop (R .ready none)) := by
    have h := World.alloc_heap_new (w.alloc (.deferred (some []))) (.loop (R .ready none))
    rwa [World.size_alloc, ← hD] at h
  have hi1 := hI.alloc (.loop (R .ready none)) (hI.alloc (.deferred (some [])) h0)
  have hb1 : Below w.heap.size w ((w.alloc (.deferred (some []))).alloc (.loop (R .ready none))) := ((Below.refl _ w).alloc (Nat.le_refl _) _).alloc (by simp) _
  have hz1 : D + 2 ≤ ((w.alloc (.deferred (some []))).alloc (.loop (R .ready none))).heap.size := by simp; omega
  generalize (w.alloc (.deferred (some []))).alloc (.loop (R .ready none)) = W1 at *
  refine ⟨D + 1, [{ target := .collected D, args := #[] }], W1, { target := .fn (.func gf) #[], args := ms ++ #[.func (.yield (D + 1)) #[] #[]] }, W1, gf, ms ++ #[.func (.yield (D + 1)) #[] #[]], W1, hent, ?_, fun f' _ => trivial, ?_, fun h => by simp [Fence.wide] at h, ?_⟩
  · simp only [resolve, hg]
    simp [go_sem]
  · simp [invoke, go_sem, eg]
  refine (hseq (D + 1)
    (fun pre W => I pre W ∧ W.heap[D + 1]? = some (.loop (R .ready none)) ∧ W.heap[D]? = some (.deferred (some [])))
    (fun pre W => ∃ c, Ix c pre W ∧ W.heap[D + 1]? = some (.loop (R .done (some c))) ∧ W.heap[D]? = some (.deferred (some []))) W1 hb1 ?_ ?_ ⟨hi1, hl1, hk1⟩).mono ?_
  · rintro pre A B ⟨hi, hl, hk⟩ hg
    exact ⟨hI pre A B none hi hg (fun r e => by cases e), (hg.block _ (Array.getElem?_eq_some_iff.1 hl).1 (by simp)).trans hl, (hg.block _ (Array.getElem?_eq_some_iff.1 hk).1 (by simp)).trans hk⟩
  · rintro pre x W ⟨hi, hl, hk⟩ hpre
    have hy := run_yield (P := P) (args := encs x) hl (by rw [hR]; exact hps x)
    rw [hR] at hy
    have hlt := (Array.getElem?_eq_some_iff.1 hl).1
    refine ⟨fn, _, assign, body, hy, roundIn_of_wpIn hfn (hassign (D + 1) pre x W _ (by omega) hi fun a' W2 hkf hbn hi2 hax => ?_)⟩
    clear hy
    have hl2 := hkf.same _ _ (by omega) hl rfl
    have hk2 := hkf.same _ _ (Nat.le_refl _) hk rfl
    have hlt2 := (Array.getElem?_eq_some_iff.1 hl2).1
    refine ⟨_, run_beginRound hl2 (by rw [hR]), ?_⟩
    have hi3 := hI.putObj (.loop { R .ready none with state := .busy }) hi2 (by omega) hl2 rfl
    have hax3 := (hAx x a').putObj (s := ()) (.loop { R .ready none with state := .busy }) hax (by omega) hl2 rfl
    have hl3 : (W2.putObj (D + 1) (.loop { R .ready none with state := .busy })).heap[D + 1]? = some (.loop { R .ready none with state := .busy }) := World.putObj_heap_same hlt2
    have hk3 : (W2.putObj (D + 1) (.loop { R .ready none with state := .busy })).heap[D]? = some (.deferred (some [])) := (World.putObj_heap_other (by omega)).trans hk2
    have hb3 : Below n₀ W2 (W2.putObj (D + 1) (.loop { R .ready none with state := .busy })) := belowK_b (w := w) (by omega) W2 (D + 1) _ _ (by omega) hl2 rfl rfl
    have hz3 : D ≤ (W2.putObj (D + 1) (.loop { R .ready none with state := .busy })).heap.size := by
      have := hb3.size
      omega
    generalize W2.putObj (D + 1) (.loop { R .ready none with state := .busy }) = W3 at *
    refine wpIn_mono (hbody (D + 1) pre x a' W3 hz3 hi3 hax3 hpre) ?_
    have fin : ∀ (j : Option Code) (W4 : World), KeepsFrom D W3 W4 →
        W4.heap[D + 1]? = some (.loop { R .ready none with state := .busy }) ∧
        (Instr.endRound (D + 1) j).run P W4 = .ok (.bool j.isNone) (W4.putObj (D + 1) (.loop (R (if j.isNone then .ready else .done) j))) ∧
        (W4.putObj (D + 1) (.loop (R (if j.isNone then .ready else .done) j))).heap[D + 1]? = some (.loop (R (if j.isNone then .ready else .done) j)) ∧
        (W4.putObj (D + 1) (.loop (R (if j.isNone then .ready else .done) j))).heap[D]? = some (.deferred (some [])) := by
      intro j W4 h4
      have e4 := h4.same _ _ (by omega) hl3 rfl
      have er := run_endRound (P := P) j e4
      rw [hR] at er e4 ⊢
      exact ⟨e4, er, World.putObj_heap_same (Array.getElem?_eq_some_iff.1 e4).1, (World.putObj_heap_other (by omega)).trans (h4.same _ _ (Nat.le_refl _) hk3 rfl)⟩
    rintro e a4 W4 hp
    cases e with
    | normal =>
      obtain ⟨h4, hb4, hi4⟩ := hp
      obtain ⟨e4, er, el, ek⟩ := fin none W4 h4
      exact ⟨_, _, er, .inl ⟨rfl, ⟨hI.putObj _ hi4 (by omega) e4 rfl, el, ek⟩, hbn.trans (hb3.trans (hb4.trans (belowK_b (w := w) (by omega) W4 (D + 1) _ _ (by omega) e4 rfl rfl)))⟩⟩
    | ret =>
      obtain ⟨h4, hi4⟩ := hp
      obtain ⟨e4, er, el, ek⟩ := fin (some .ret) W4 h4
      exact ⟨_, _, er, .inr ⟨rfl, .ret, (hIx _).putObj _ hi4 (by omega) e4 rfl, el, ek⟩⟩
    | exit id =>
      obtain ⟨h4, hi4⟩ := hp
      obtain ⟨e4, er, el, ek⟩ := fin (some (.exit id)) W4 h4
      exact ⟨_, _, er, .inr ⟨rfl, .exit id, (hIx _).putObj _ hi4 (by omega) e4 rfl, el, ek⟩⟩
    | goto t =>
      obtain ⟨h4, hi4⟩ := hp
      obtain ⟨e4, er, el, ek⟩ := fin (some (.goto t)) W4 h4
      exact ⟨_, _, er, .inr ⟨rfl, .goto t, (hIx _).putObj _ hi4 (by omega) e4 rfl, el, ek⟩⟩
    | panic c => exact hp.elim
    | outgrown => exact hp.elim
  · rintro e W2 ⟨⟨v, rfl⟩, h⟩
    rcases h with ⟨hi, hl, hk⟩ | ⟨pre, hpre, c, hi, hl, hk⟩
    · have er := run_endLoop (P := P) hl (by rw [hR]; simp)
      rw [hR] at er
      exact ⟨none, _, er, hdone D _ (Nat.le_refl _) (hI.putObj _ hi (by omega) hl rfl) ((World.putObj_heap_other (by omega)).trans hk)⟩
    · have er := run_endLoop (P := P) hl (by rw [hR]; simp)
      rw [hR] at er
      exact ⟨some c, _, er, (wpIn_wide (n := 0)).2 (hstop D c pre _ (Nat.le_refl _) hpre ((hIx c).putObj _ hi (by omega) hl rfl) ((World.putObj_heap_other (by omega)).trans hk))⟩

/-- what the law's book-keeping leaves: every cell, every block of cells -/
theorem turn_block {W W' : World} {row : Option Nat} {B : Nat} (hg : W.grownBy W' row) (hr : ∀ r, row = some r → B ≤ r ∧ ∃ o : Obj, W.heap[r]? = some o ∧ o.isCells = false) {k : Nat} {cs : Array Value} {t : TypeId} {f : Nat × Nat} (h : W.heap[k]? = some (.cells cs t f)) : W'.heap[k]? = W.heap[k]? := by
  refine hg.block k (Array.getElem?_eq_some_iff.1 h).1 fun e => ?_
  obtain ⟨_, o, ho, hc⟩ := hr k e.symm
  rw [h] at ho
  cases ho
  simp [Obj.isCells] at hc
theorem turn_cell {W W' : World} {row : Option Nat} {B : Nat} (hg : W.grownBy W' row) (hr : ∀ r, row = some r → B ≤ r ∧ ∃ o : Obj, W.heap[r]? = some o ∧ o.isCells = false) {p : Addr} {v : Value} (h : W.cell? p = some v) : W'.cell? p = some v ∧ W'.frozen? p = W.frozen? p := by
  have e : W'.heap[p.block]? = W.heap[p.block]? := by
    rcases ho : W.heap[p.block]? with _ | o
    · simp [World.cell?, ho] at h
    · cases o with
      | cells cs t f => rw [← ho]; exact turn_block hg hr ho
      | _ => simp [World.cell?, ho] at h
  exact ⟨(World.cell?_of_block e).trans h, World.frozen?_of_block e⟩
theorem turn_below {W0 W W' : World} {n₀ : Nat} {row : Option Nat} {B : Nat} (hg : W.grownBy W' row) (hr : ∀ r, row = some r → B ≤ r ∧ ∃ o : Obj, W.heap[r]? = some o ∧ o.isCells = false) (hn : n₀ ≤ W0.heap.size) (hB : n₀ ≤ B) (h : Below n₀ W0 W) : Below n₀ W0 W' :=
  h.grown hg (Nat.le_trans hn h.size) (fun k e => Nat.le_trans hB (hr k e).1)
/-- a row of the call's own is one behind the book-keeping -/
theorem turn_own {W W' : World} {row : Option Nat} {B base size n : Nat} {e : TypeId} {v : Value} {xs : List Value} (hg : W.grownBy W' row) (hr : ∀ r, row = some r → B ≤ r ∧ ∃ o : Obj, W.heap[r]? = some o ∧ o.isCells = false) (h : W.ownsRow base e size v n xs) : W'.ownsRow base e size v n xs := by
  refine h.kept hg ?_
  rcases h.2 with ⟨rfl, _⟩ | ⟨g, cap, cur, rfl, _, hgb, _⟩
  · exact .inl rfl
  · refine .inr fun he => ?_
    simp [Value.ownBlock] at he
    obtain ⟨_, o, ho, hc⟩ := hr g he.symm
    rw [hgb] at ho
    cases ho
    simp [Obj.isCells] at hc

/-- a return, no loop having laid a mark -/
theorem leave_plain {P : Program} {fn : Func} {R : Ending → World → Prop} {tmps : Array Value} {w : World} {v : Value} (hr : (results fn tmps).run P w = .ok v w) (h : R (.returned v) w) :
    bodyPostM Fence.wide 0 P fn R .ret { tmps := tmps, defers := [] } w := by
  simp only [bodyPostM, LeavesInM]
  exact ⟨v, hr, h⟩
/-- a return behind a loop: its mark is taken -/
theorem leave_mark {P : Program} {fn : Func} {R : Ending → World → Prop} {tmps : Array Value} {w : World} {D n₀ : Nat} (hK : w.heap[D]? = some (.deferred (some []))) (hB : n₀ ≤ D)
    (h : ∀ W', (∀ p, W'.cell? p = w.cell? p) → W'.heap.size = w.heap.size → Below n₀ w W' → (∀ k, k ≠ D → W'.heap[k]? = w.heap[k]?) → ∃ v, (results fn tmps).run P W' = .ok v W' ∧ R (.returned v) W') :
    bodyPostM Fence.wide 0 P fn R .ret { tmps := tmps, defers := [{ target := .collected D, args := #[] }] } w := by
  have hlt := (Array.getElem?_eq_some_iff.1 hK).1
  have ho : ∀ k, k ≠ D → (w.putObj D (.deferred none)).heap[k]? = w.heap[k]? := fun k hk => World.putObj_heap_other (by omega)
  have hs : (w.putObj D (.deferred none)).heap.size = w.heap.size := by
    simp [World.putObj]
  have hd : (w.putObj D (.deferred none)).heap[D]? = some (.deferred none) := World.putObj_heap_same hlt
  obtain ⟨v, h1, h2⟩ := h (w.putObj D (.deferred none)) (fun p => by
    by_cases e : p.block = D
    · simp [World.cell?, e, hd, hK]
    · exact World.cell?_of_block (ho _ e)) hs ⟨rfl, rfl, rfl, by omega, fun k hk => ho k (by omega)⟩ ho
  simp only [bodyPostM, LeavesInM]
  exact ⟨by simp, .inl ⟨_, _, rfl, run_takeDeferred hK, ⟨v, h1, h2⟩⟩⟩
/-- a function whose body holds such loops, opened for a plain walk -/
theorem calls_marks {P : Program} {f : FuncId} {fn : Func} {c : Code} {args : Array Value} {w : World} {R : Ending → World → Prop} (hf : P.funcs[f]? = some fn) (hb : fn.body = some c)
    (h : c.wp P (bodyPostM Fence.wide 0 P fn R) { tmps := args ++ Array.replicate (fn.ntmps - args.size) undef, defers := [] } w) : Calls P f args w R :=
  (callsIn_wide (n := 0)).1 (callsIn_of_wp_marks hf hb trivial ((wpIn_wide (n := 0)).2 h))
/-- a call in a round, by a plain contract -/
theorem in_round {P : Program} {f : FuncId} {args : Array Value} {w : World} {R R' : Ending → World → Prop} {l : Nat} (h : Calls P f args w R) (hr : ∀ e w', R e w' → R' e w') :
    Fence.wide.fn f ∧ Fence.wide.depth = none ∧ CallsIn (Fence.wide.inRound l) 0 P f args w R' :=
  ⟨trivial, rfl, (CallsIn.inRound l ((callsIn_wide (n := 0)).2 h)).mono hr⟩
theorem in_wide {P : Program} {f : FuncId} {args : Array Value} {w : World} {R R' : Ending → World → Prop} (h : Calls P f args w R) (hr : ∀ e w', R e w' → R' e w') :
    Fence.wide.fn f ∧ Fence.wide.depth = none ∧ CallsIn Fence.wide 0 P f args w R' :=
  ⟨trivial, rfl, ((callsIn_wide (n := 0)).2 h).mono hr⟩
end Go.Proofs.YtjjikooabmddlaaGreatDoor.Range

/-
  The contract of with of package zset: one row more, a copy, at the end of a list of the call's own.
-/
namespace Go.Proofs.YtjjikooabmddlaaGreatDoor.Items
open Go.ChangeShapes Go.WideShapes Go.ChangeAt Go.RowKit Val Go.Proofs.YtjjikooabmddlaaGreatDoor.Code Go.Proofs.YtjjikooabmddlaaGreatDoor.Elems Go.Proofs.YtjjikooabmddlaaGreatDoor.ZP Go.Proofs.YtjjikooabmddlaaGreatDoor.Bits
set_option linter.unusedVariables false
set_option maxRecDepth 100000

theorem rowsAt_one (w : World) (A : Option Addr) (c : Nat) (r : List (Int × Int × ByteArray)) (t : TypeId) (hA : Vals w w.heap.size A r) :
    RowsAt (w.alloc (.cells #[.slice A r.length c] t)) (w.alloc (.cells #[.slice A r.length c] t)).heap.size (some ⟨w.heap.size, 0, none⟩) [(A, c, r)] := by
  have hb := below_alloc w (.cells #[.slice A r.length c] t)
  have hn := World.news_of_block (heap_alloc_new w (.cells #[.slice A r.length c] t))
  have hz : w.heap.size < (w.alloc (.cells #[.slice A r.length c] t)).heap.size := by simp
  intro i hi
  match i, hi with
  | 0, _ => exact ⟨⟨_, rfl, hz, hn 0 _ rfl⟩, (hA.below hb).more hb.size⟩
theorem catL_one (A : Option Addr) (c : Nat) (r : List (Int × Int × ByteArray)) : catL [(A, c, r)] = r := by simp [catL]
theorem below_grown {w w' : World} (h : Below w.heap.size w w') (row : Option Nat) : w.grownBy w' row := ⟨h.os, h.tape, h.output, h.size, fun k hk _ => h.block k hk⟩
/-- rows that lie in blocks of their own, made since B -/
def OwnRows (w : World) (B : Nat) (M : List It) : Prop := ∀ x ∈ M, ∃ g, x.1 = some ⟨g, 0, none⟩ ∧ B ≤ g ∧ x.2.1 = x.2.2.1.length ∧ Blk w g x.2.2.1
theorem OwnRows.nil (w : World) (B : Nat) : OwnRows w B [] := fun x hx => by cases hx
theorem OwnRows.keep {w w' : World} {B : Nat} {M : List It} (h : OwnRows w B M) (hk : ∀ (g : Nat) (D : List (Int × Int × ByteArray)), B ≤ g → Blk w g D → Blk w' g D) : OwnRows w' B M := by
  intro x hx
  obtain ⟨g, e, hb, hc, hB⟩ := h x hx
  exact ⟨g, e, hb, hc, hk g _ hb hB⟩
theorem OwnRows.call {w w' : World} {B : Nat} {M : List It} (h : OwnRows w B M) (hb : Below w.heap.size w w') : OwnRows w' B M := h.keep fun g D _ hB => hB.call hb
theorem OwnRows.snoc {w : World} {B : Nat} {M : List It} (h : OwnRows w B M) {g : Nat} {r : List (Int × Int × ByteArray)} (hB : B ≤ g) (hg : Blk w g r) (n : Int) : OwnRows w B (M ++ [(some ⟨g, 0, none⟩, r.length, r, n)]) := by
  intro x hx
  rcases List.mem_append.1 hx with h1 | h1
  · exact h x h1
  · rw [List.mem_singleton.1 h1]
    exact ⟨g, rfl, hB, rfl, hg⟩
theorem OwnRows.vals {w : World} {B : Nat} {M : List It} (h : OwnRows w B M) : ∀ x ∈ M, Vals w w.heap.size x.1 x.2.2.1 := by
  intro x hx
  obtain ⟨g, e, _, _, hb⟩ := h x hx
  rw [e]
  exact hb.vals
/-- a block of values is not the block of a list of items -/
theorem blk_not_own {w : World} {base n g : Nat} {v : Value} {xs : List Value} {D : List (Int × Int × ByteArray)} (hB : Blk w g D) (ho : w.ownsRow base 48 2 v n xs) : some g ≠ v.ownBlock := by
  rcases ho.2 with ⟨rfl, _⟩ | ⟨h, cap, cur, rfl, _, hgb, _⟩
  · simp [Value.ownBlock]
  · intro e
    have e' : g = h := by simpa [Value.ownBlock] using e
    subst e'
    have h1 := (show w.heap[g]? = _ from hB).symm.trans hgb
    simp at h1
theorem OwnRows.grown {w w' : World} {B base n : Nat} {M : List It} {v : Value} {xs : List Value} (h : OwnRows w B M) (ho : w.ownsRow base 48 2 v n xs) (hg : w.grownBy w' v.ownBlock) : OwnRows w' B M :=
  h.keep fun g D _ hB => hB.keep (hg.block g hB.lt (blk_not_own hB ho))

set_option maxHeartbeats 2000000 in
theorem with_any (base : Nat) (v : Value) (M : List It) (A : Option Addr) (cap : Nat) (r : List (Int × Int × ByteArray)) (n : Int) (w : World) (ho : w.ownsRow base 48 2 v M.length (flatC cellsI M)) (hr : Vals w w.heap.size A r) (hbase : base ≤ w.heap.size) (hrl : r.length ≤ 1000000) (hM : M.length + 1 ≤ 4398046511104) :
    Calls Tryz.prog 66 #[v, .slice A r.length cap, .int .i64 n] w fun e w' => ∃ v' g, e = .returned v' ∧ w'.ownsRow base 48 2 v' (M.length + 1) (flatC cellsI (M ++ [(some ⟨g, 0, none⟩, r.length, r, n)])) ∧ Blk w' g r ∧ w.heap.size ≤ g ∧ w.grownBy w' v.ownBlock := by
  have HO := Lib.hid ho
  have HR := Lib.hid hr
  clear ho hr
  obtain ⟨i0, hi0, hz0, hz1, hz2⟩ := info_parts info_item
  go_enter Tryz.func66, Tryz.ntmps66
  go_wp2_with fail
  have hbz := below_alloc w (.cells #[.slice A r.length cap] 25)
  have hj := join_any (some ⟨w.heap.size, 0, none⟩) 1 [(A, cap, r)] _ (rowsAt_one w A cap r 25 HR.out) (by simp) (by rw [catL_one]; exact hrl)
  rw [catL_one] at hj
  refine hj.mono ?_
  rintro e w1 ⟨g, rfl, hg, hB, hb1⟩
  rw [World.size_alloc] at hg
  have hb01 := hbz.trans (hb1.mono hbz.size)
  have O1 := Lib.hid (HO.out.kept (below_grown hb01 none) (Decidable.em (v.ownBlock = none)))
  have B1 := Lib.hid hB
  have L1 := Lib.hid hb01
  have s1 : base ≤ w1.heap.size := Nat.le_trans hbase hb01.size
  clear hb01 hb1 hbz hB HR HO hj
  go_wp2_with (at_builtin; refine wpList_append_at (k := 2) (c := cellsI) cellsI_length (by decide) cellsI_one rfl _ _ 40 rfl base 48 i0 (.agg #[.slice none 0 0, .int .i64 0]) 32 Tryz.underlying40 hi0 hz0 hz1 hz2 rfl _ _ _ rfl (O1.out.alloc _) (w1.heap.size + 1) (some ⟨w1.heap.size, 0, none⟩) 1 [(some ⟨g, 0, none⟩, r.length, r, n)] rfl ?c2 ?c3 ?c4 ?c5 ?_)
  case c2 =>
    intro i hi
    match i, hi with
    | 0, _ => exact ⟨_, rfl, by simp, fun j u hu => World.news_of_block (heap_alloc_new w1 _) _ _ (by simpa [cellsI] using hu)⟩
  case c3 => unfold maxLen; simp; omega
  case c4 => simp; omega
  case c5 => simp; omega
  intro v' w2 hown' hgrow
  have O2 := Lib.hid hown'
  have G2 := Lib.hid hgrow
  clear hown' hgrow
  go_wp2
  go_ret
  refine ⟨v', g, rfl, ?_, ?_, by omega, ?_⟩
  · have := O2.out
    rw [flatC_snoc]
    simpa [flatC] using this
  · have b2 := B1.out.alloc (.cells #[.slice (some ⟨g, 0, none⟩) r.length r.length, .int .i64 n] 48)
    have o2 := O1.out.alloc (.cells #[.slice (some ⟨g, 0, none⟩) r.length r.length, .int .i64 n] 48)
    exact b2.keep (G2.out.block g b2.lt (blk_not_own b2 o2))
  · exact (((below_grown L1.out v.ownBlock).trans (World.grownBy_alloc w1 _ v.ownBlock))).trans G2.out
end Go.Proofs.YtjjikooabmddlaaGreatDoor.Items
