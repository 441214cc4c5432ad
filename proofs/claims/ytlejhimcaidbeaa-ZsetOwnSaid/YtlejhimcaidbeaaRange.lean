/-
  A range over a method value (the receiver is bound in the function value): the law of the statement, for plain walks. No function of the program is named.
-/
import Derived.RangeFuncNested
import Derived.RangeFuncBound
import Derived.RangeFuncCalls
import Derived.RangeFuncLeaves
import Derived.RangeFuncBox
import Derived.Test.YtlejhimcaidbeaaRowLib
namespace Go.Proofs.Ytlejhimcaidbeaa.Range
open Go.ChangeShapes Go.WideShapes Go.ChangeAt Go.RowKit
set_option linter.unusedVariables false

/-- the iterator gf, bound to ms, yields xs in their order, whatever the rounds do that keep what lay below n₀ -/
def SeqM {α : Type} (P : Program) (gf : Nat) (ms : Array Value) (encs : α → Array Value) (n₀ : Nat) (xs : List α) (w0 : World) : Prop :=
  ∀ (l : Nat) (J Jx : List α → World → Prop) (W : World), Below w0.heap.size w0 W →
    (∀ pre A B, J pre A → A.grownBy B none → J pre B) →
    (∀ pre x W1, J pre W1 → pre ++ [x] <+: xs → YieldAt Fence.wide 0 P l (encs x) W1 fun e W' =>
      (e = .returned (.bool true) ∧ J (pre ++ [x]) W' ∧ Below n₀ W1 W') ∨ (e = .returned (.bool false) ∧ Jx (pre ++ [x]) W')) →
    J [] W →
    CallsIn Fence.wide 0 P gf (ms ++ #[.func (.yield l) #[] #[]]) W fun e W' => (∃ v, e = .returned v) ∧ (J xs W' ∨ ∃ pre, pre <+: xs ∧ Jx pre W')

/-- a body's end -/
abbrev RoundEnd {α : Type} (B n₀ : Nat) (I : List α → World → Prop) (Ix : Code → List α → World → Prop) (xs : List α) (W : World) : Exit → Act → World → Prop := ownPostG B (Below n₀) I Ix xs W

set_option maxHeartbeats 1000000 in
theorem wp_range {α : Type} {P : Program} {g : Operand} {ps : Array Tmp} {assign body : Code} {Q : Exit → Act → World → Prop} {a : Act} {w : World} {gf : Nat} {ms : Array Value}
    (hg : a.eval g = .func (.func gf) ms #[]) (eg : ∀ args w, (callFunc gf args).run P w = .ok (.enter gf args) w)
    {encs : α → Array Value} {n₀ : Nat} {xs : List α} (hn : n₀ ≤ w.heap.size) (hps : ∀ x, (encs x).size = ps.size) (hseq : SeqM P gf ms encs n₀ xs w)
    (I : List α → World → Prop) (Ix : Code → List α → World → Prop) (hI : OwnFrom w.heap.size I) (hIx : ∀ c, OwnFrom w.heap.size (Ix c)) (h0 : I [] w)
    (Ax : α → Act → World → Prop) (hAx : ∀ x a', OwnFrom w.heap.size (fun (_ : Unit) W => Ax x a' W))
    (hassign : ∀ (l : Nat) (pre : List α) (x : α) (W : World) (K : Act → World → Prop), w.heap.size ≤ W.heap.size → I pre W → (∀ a' W', KeepsFrom w.heap.size W W' → Below n₀ W W' → I pre W' → Ax x a' W' → K a' W') →
      assign.wpIn (Fence.wide.inRound l) 0 P (Exit.then K (fun _ _ _ => False)) { tmps := (ps.zip (encs x)).foldl (fun t (p, v) => t.setIfInBounds p v) a.tmps, defers := [] } W)
    (hbody : ∀ (l : Nat) (pre : List α) (x : α) (a' : Act) (W : World), w.heap.size ≤ W.heap.size → I pre W → Ax x a' W → pre ++ [x] <+: xs → body.wpIn (Fence.wide.inRound l) 0 P (RoundEnd w.heap.size n₀ I Ix (pre ++ [x]) W) a' W)
    (hdone : ∀ (D : Nat) (W : World), w.heap.size ≤ D → I xs W → W.heap[D]? = some (.deferred (some [])) → Q .normal { a with defers := { target := .collected D, args := #[] } :: a.defers } W)
    (hstop : ∀ (D : Nat) (c : Code) (pre : List α) (W : World), w.heap.size ≤ D → pre <+: xs → Ix c pre W → W.heap[D]? = some (.deferred (some [])) → c.wp P Q { a with defers := { target := .collected D, args := #[] } :: a.defers } W) :
    (Code.rangeFunc g ps assign body).wp P Q a w := by
  refine (wpIn_wide (n := 0)).1 (wpIn_rangeFunc fun fn hfn => ?_)
  obtain ⟨D, hD⟩ : ∃ D, D = w.heap.size := ⟨_, rfl⟩
  rw [← hD] at hn hI hIx
  simp only [← hD] at hAx hassign hbody hdone hstop
  obtain ⟨R, hR⟩ : ∃ R : LoopState → Option Code → Loop, R = fun s j => { state := s, pending := j, fn, tmps := a.tmps, params := ps, assign, body, defers := D } := ⟨_, rfl⟩
  have hent : (Instr.enterLoop fn a.tmps ps assign body Fence.wide.round).run P w = .ok (D + 1, [{ target := .collected D, args := #[] }]) ((w.alloc (.deferred (some []))).alloc (.loop (R .ready none))) := by
    rw [hR, hD]
    exact run_enterLoop_outer _ _ _ _ _
  have hk1 : ((w.alloc (.deferred (some []))).alloc (.loop (R .ready none))).heap[D]? = some (.deferred (some [])) := by
    rw [Below.heap_alloc _ _ _ (by simp; omega), hD]
    exact World.alloc_heap_new w _
  have hl1 : ((w.alloc (.deferred (some []))).alloc (.loop (R .ready none))).heap[D + 1]? = some (.loop (R .ready none)) := by
    have h := World.alloc_heap_new (w.alloc (.deferred (some []))) (.loop (R .ready none))
    rwa [World.size_alloc, ← hD] at h
  have hi1 := hI.alloc (.loop (R .ready none)) (hI.alloc (.deferred (some [])) h0)
  have hb1 : Below w.heap.size w ((w.alloc (.deferred (some []))).alloc (.loop (R .ready none))) := ((Below.refl _ w).alloc (Nat.le_refl _) _).alloc (by simp) _
  have hz1 : D + 2 ≤ ((w.alloc (.deferred (some []))).alloc (.loop (R .ready none))).heap.size := by simp; omega
  generalize (w.alloc (.deferred (some []))).alloc (.loop (R .ready none)) = W1 at *
  refine ⟨D + 1, [{ target := .collected D, args := #[] }], W1, { target := .fn (.func gf) #[], args := ms ++ #[.func (.yield (D + 1)) #[] #[]] }, W1, gf, ms ++ #[.func (.yield (D + 1)) #[] #[]], W1, hent, ?_, fun f' _ => trivial, ?_, fun h => by simp [Fence.wide] at h, ?_⟩
  · simp only [resolve, hg]
    simp [go_sem]
  · simp [invoke, go_sem, eg]
  refine (hseq (D + 1)
    (fun pre W => I pre W ∧ W.heap[D + 1]? = some (.loop (R .ready none)) ∧ W.heap[D]? = some (.deferred (some [])))
    (fun pre W => ∃ c, Ix c pre W ∧ W.heap[D + 1]? = some (.loop (R .done (some c))) ∧ W.heap[D]? = some (.deferred (some []))) W1 hb1 ?_ ?_ ⟨hi1, hl1, hk1⟩).mono ?_
  · rintro pre A B ⟨hi, hl, hk⟩ hg
    exact ⟨hI pre A B none hi hg (fun r e => by cases e), (hg.block _ (Array.getElem?_eq_some_iff.1 hl).1 (by simp)).trans hl, (hg.block _ (Array.getElem?_eq_some_iff.1 hk).1 (by simp)).trans hk⟩
  · rintro pre x W ⟨hi, hl, hk⟩ hpre
    have hy := run_yield (P := P) (args := encs x) hl (by rw [hR]; exact hps x)
    rw [hR] at hy
    have hlt := (Array.getElem?_eq_some_iff.1 hl).1
    refine ⟨fn, _, assign, body, hy, roundIn_of_wpIn hfn (hassign (D + 1) pre x W _ (by omega) hi fun a' W2 hkf hbn hi2 hax => ?_)⟩
    clear hy
    have hl2 := hkf.same _ _ (by omega) hl rfl
    have hk2 := hkf.same _ _ (Nat.le_refl _) hk rfl
    have hlt2 := (Array.getElem?_eq_some_iff.1 hl2).1
    refine ⟨_, run_beginRound hl2 (by rw [hR]), ?_⟩
    have hi3 := hI.putObj (.loop { R .ready none with state := .busy }) hi2 (by omega) hl2 rfl
    have hax3 := (hAx x a').putObj (s := ()) (.loop { R .ready none with state := .busy }) hax (by omega) hl2 rfl
    have hl3 : (W2.putObj (D + 1) (.loop { R .ready none with state := .busy })).heap[D + 1]? = some (.loop { R .ready none with state := .busy }) := World.putObj_heap_same hlt2
    have hk3 : (W2.putObj (D + 1) (.loop { R .ready none with state := .busy })).heap[D]? = some (.deferred (some [])) := (World.putObj_heap_other (by omega)).trans hk2
    have hb3 : Below n₀ W2 (W2.putObj (D + 1) (.loop { R .ready none with state := .busy })) := belowK_b (w := w) (by omega) W2 (D + 1) _ _ (by omega) hl2 rfl rfl
    have hz3 : D ≤ (W2.putObj (D + 1) (.loop { R .ready none with state := .busy })).heap.size := by
      have := hb3.size
      omega
    generalize W2.putObj (D + 1) (.loop { R .ready none with state := .busy }) = W3 at *
    refine wpIn_mono (hbody (D + 1) pre x a' W3 hz3 hi3 hax3 hpre) ?_
    have fin : ∀ (j : Option Code) (W4 : World), KeepsFrom D W3 W4 →
        W4.heap[D + 1]? = some (.loop { R .ready none with state := .busy }) ∧
        (Instr.endRound (D + 1) j).run P W4 = .ok (.bool j.isNone) (W4.putObj (D + 1) (.loop (R (if j.isNone then .ready else .done) j))) ∧
        (W4.putObj (D + 1) (.loop (R (if j.isNone then .ready else .done) j))).heap[D + 1]? = some (.loop (R (if j.isNone then .ready else .done) j)) ∧
        (W4.putObj (D + 1) (.loop (R (if j.isNone then .ready else .done) j))).heap[D]? = some (.deferred (some [])) := by
      intro j W4 h4
      have e4 := h4.same _ _ (by omega) hl3 rfl
      have er := run_endRound (P := P) j e4
      rw [hR] at er e4 ⊢
      exact ⟨e4, er, World.putObj_heap_same (Array.getElem?_eq_some_iff.1 e4).1, (World.putObj_heap_other (by omega)).trans (h4.same _ _ (Nat.le_refl _) hk3 rfl)⟩
    rintro e a4 W4 hp
    cases e with
    | normal =>
      obtain ⟨h4, hb4, hi4⟩ := hp
      obtain ⟨e4, er, el, ek⟩ := fin none W4 h4
      exact ⟨_, _, er, .inl ⟨rfl, ⟨hI.putObj _ hi4 (by omega) e4 rfl, el, ek⟩, hbn.trans (hb3.trans (hb4.trans (belowK_b (w := w) (by omega) W4 (D + 1) _ _ (by omega) e4 rfl rfl)))⟩⟩
    | ret =>
      obtain ⟨h4, hi4⟩ := hp
      obtain ⟨e4, er, el, ek⟩ := fin (some .ret) W4 h4
      exact ⟨_, _, er, .inr ⟨rfl, .ret, (hIx _).putObj _ hi4 (by omega) e4 rfl, el, ek⟩⟩
    | exit id =>
      obtain ⟨h4, hi4⟩ := hp
      obtain ⟨e4, er, el, ek⟩ := fin (some (.exit id)) W4 h4
      exact ⟨_, _, er, .inr ⟨rfl, .exit id, (hIx _).putObj _ hi4 (by omega) e4 rfl, el, ek⟩⟩
    | goto t =>
      obtain ⟨h4, hi4⟩ := hp
      obtain ⟨e4, er, el, ek⟩ := fin (some (.goto t)) W4 h4
      exact ⟨_, _, er, .inr ⟨rfl, .goto t, (hIx _).putObj _ hi4 (by omega) e4 rfl, el, ek⟩⟩
    | panic c => exact hp.elim
    | outgrown => exact hp.elim
  · rintro e W2 ⟨⟨v, rfl⟩, h⟩
    rcases h with ⟨hi, hl, hk⟩ | ⟨pre, hpre, c, hi, hl, hk⟩
    · have er := run_endLoop (P := P) hl (by rw [hR]; simp)
      rw [hR] at er
      exact ⟨none, _, er, hdone D _ (Nat.le_refl _) (hI.putObj _ hi (by omega) hl rfl) ((World.putObj_heap_other (by omega)).trans hk)⟩
    · have er := run_endLoop (P := P) hl (by rw [hR]; simp)
      rw [hR] at er
      exact ⟨some c, _, er, (wpIn_wide (n := 0)).2 (hstop D c pre _ (Nat.le_refl _) hpre ((hIx c).putObj _ hi (by omega) hl rfl) ((World.putObj_heap_other (by omega)).trans hk))⟩

/-- what the law's book-keeping leaves: every cell, every block of cells -/
theorem turn_block {W W' : World} {row : Option Nat} {B : Nat} (hg : W.grownBy W' row) (hr : ∀ r, row = some r → B ≤ r ∧ ∃ o : Obj, W.heap[r]? = some o ∧ o.isCells = false) {k : Nat} {cs : Array Value} {t : TypeId} {f : Nat × Nat} (h : W.heap[k]? = some (.cells cs t f)) : W'.heap[k]? = W.heap[k]? := by
  refine hg.block k (Array.getElem?_eq_some_iff.1 h).1 fun e => ?_
  obtain ⟨_, o, ho, hc⟩ := hr k e.symm
  rw [h] at ho
  cases ho
  simp [Obj.isCells] at hc
theorem turn_cell {W W' : World} {row : Option Nat} {B : Nat} (hg : W.grownBy W' row) (hr : ∀ r, row = some r → B ≤ r ∧ ∃ o : Obj, W.heap[r]? = some o ∧ o.isCells = false) {p : Addr} {v : Value} (h : W.cell? p = some v) : W'.cell? p = some v ∧ W'.frozen? p = W.frozen? p := by
  have e : W'.heap[p.block]? = W.heap[p.block]? := by
    rcases ho : W.heap[p.block]? with _ | o
    · simp [World.cell?, ho] at h
    · cases o with
      | cells cs t f => rw [← ho]; exact turn_block hg hr ho
      | _ => simp [World.cell?, ho] at h
  exact ⟨(World.cell?_of_block e).trans h, World.frozen?_of_block e⟩
theorem turn_below {W0 W W' : World} {n₀ : Nat} {row : Option Nat} {B : Nat} (hg : W.grownBy W' row) (hr : ∀ r, row = some r → B ≤ r ∧ ∃ o : Obj, W.heap[r]? = some o ∧ o.isCells = false) (hn : n₀ ≤ W0.heap.size) (hB : n₀ ≤ B) (h : Below n₀ W0 W) : Below n₀ W0 W' :=
  h.grown hg (Nat.le_trans hn h.size) (fun k e => Nat.le_trans hB (hr k e).1)
/-- a row of the call's own is one behind the book-keeping -/
theorem turn_own {W W' : World} {row : Option Nat} {B base size n : Nat} {e : TypeId} {v : Value} {xs : List Value} (hg : W.grownBy W' row) (hr : ∀ r, row = some r → B ≤ r ∧ ∃ o : Obj, W.heap[r]? = some o ∧ o.isCells = false) (h : W.ownsRow base e size v n xs) : W'.ownsRow base e size v n xs := by
  refine h.kept hg ?_
  rcases h.2 with ⟨rfl, _⟩ | ⟨g, cap, cur, rfl, _, hgb, _⟩
  · exact .inl rfl
  · refine .inr fun he => ?_
    simp [Value.ownBlock] at he
    obtain ⟨_, o, ho, hc⟩ := hr g he.symm
    rw [hgb] at ho
    cases ho
    simp [Obj.isCells] at hc

/-- a return, no loop having laid a mark -/
theorem leave_plain {P : Program} {fn : Func} {R : Ending → World → Prop} {tmps : Array Value} {w : World} {v : Value} (hr : (results fn tmps).run P w = .ok v w) (h : R (.returned v) w) :
    bodyPostM Fence.wide 0 P fn R .ret { tmps := tmps, defers := [] } w := by
  simp only [bodyPostM, LeavesInM]
  exact ⟨v, hr, h⟩
/-- a return behind a loop: its mark is taken -/
theorem leave_mark {P : Program} {fn : Func} {R : Ending → World → Prop} {tmps : Array Value} {w : World} {D n₀ : Nat} (hK : w.heap[D]? = some (.deferred (some []))) (hB : n₀ ≤ D)
    (h : ∀ W', (∀ p, W'.cell? p = w.cell? p) → W'.heap.size = w.heap.size → Below n₀ w W' → (∀ k, k ≠ D → W'.heap[k]? = w.heap[k]?) → ∃ v, (results fn tmps).run P W' = .ok v W' ∧ R (.returned v) W') :
    bodyPostM Fence.wide 0 P fn R .ret { tmps := tmps, defers := [{ target := .collected D, args := #[] }] } w := by
  have hlt := (Array.getElem?_eq_some_iff.1 hK).1
  have ho : ∀ k, k ≠ D → (w.putObj D (.deferred none)).heap[k]? = w.heap[k]? := fun k hk => World.putObj_heap_other (by omega)
  have hs : (w.putObj D (.deferred none)).heap.size = w.heap.size := by
    simp [World.putObj]
  have hd : (w.putObj D (.deferred none)).heap[D]? = some (.deferred none) := World.putObj_heap_same hlt
  obtain ⟨v, h1, h2⟩ := h (w.putObj D (.deferred none)) (fun p => by
    by_cases e : p.block = D
    · simp [World.cell?, e, hd, hK]
    · exact World.cell?_of_block (ho _ e)) hs ⟨rfl, rfl, rfl, by omega, fun k hk => ho k (by omega)⟩ ho
  simp only [bodyPostM, LeavesInM]
  exact ⟨by simp, .inl ⟨_, _, rfl, run_takeDeferred hK, ⟨v, h1, h2⟩⟩⟩
/-- a function whose body holds such loops, opened for a plain walk -/
theorem calls_marks {P : Program} {f : FuncId} {fn : Func} {c : Code} {args : Array Value} {w : World} {R : Ending → World → Prop} (hf : P.funcs[f]? = some fn) (hb : fn.body = some c)
    (h : c.wp P (bodyPostM Fence.wide 0 P fn R) { tmps := args ++ Array.replicate (fn.ntmps - args.size) undef, defers := [] } w) : Calls P f args w R :=
  (callsIn_wide (n := 0)).1 (callsIn_of_wp_marks hf hb trivial ((wpIn_wide (n := 0)).2 h))
/-- a call in a round, by a plain contract -/
theorem in_round {P : Program} {f : FuncId} {args : Array Value} {w : World} {R R' : Ending → World → Prop} {l : Nat} (h : Calls P f args w R) (hr : ∀ e w', R e w' → R' e w') :
    Fence.wide.fn f ∧ Fence.wide.depth = none ∧ CallsIn (Fence.wide.inRound l) 0 P f args w R' :=
  ⟨trivial, rfl, (CallsIn.inRound l ((callsIn_wide (n := 0)).2 h)).mono hr⟩
theorem in_wide {P : Program} {f : FuncId} {args : Array Value} {w : World} {R R' : Ending → World → Prop} (h : Calls P f args w R) (hr : ∀ e w', R e w' → R' e w') :
    Fence.wide.fn f ∧ Fence.wide.depth = none ∧ CallsIn Fence.wide 0 P f args w R' :=
  ⟨trivial, rfl, ((callsIn_wide (n := 0)).2 h).mono hr⟩
end Go.Proofs.Ytlejhimcaidbeaa.Range
