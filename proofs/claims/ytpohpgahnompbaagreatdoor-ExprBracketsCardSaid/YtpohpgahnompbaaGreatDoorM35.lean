/-
  The live question of layer 9 and the program's Parse and Same, as the two walks want them.
-/
import Derived.Test.YtpohpgahnompbaaGreatDoorM29
import Derived.Test.YtpohpgahnompbaaGreatDoorM30
import Derived.Test.YtpohpgahnompbaaGreatDoorM28
import Derived.Test.YtpohpgahnompbaaGreatDoorM34
import Derived.Test.YtpohpgahnompbaaGreatDoorM20
import Derived.Test.YtpohpgahnompbaaGreatDoorM21
import Derived.Test.YtpohpgahnompbaaGreatDoorM6
import Derived.Carry
import Derived.ChangeOld
import Derived.ChangeSame
import Derived.OpenShut
import Derived.ProofKit
import Derived.Lib.SmallJoins
import Derived.LaidMore
import Derived.Lay
import Derived.Stop.Joined
import Derived.Shelf.Vars
namespace Go.Proofs.YtpohpgahnompbaaGreatDoor.Code
open Go.ChangeShapes Go.WideShapes Go.ChangeAt Go.RowKit Val Elems
set_option linter.unusedVariables false
theorem Env.on {B : Nat} {m : Int} {w w' : World} (h : Env B m w) (hB : B ≤ w'.heap.size) (hb : Below B w w') : Env w'.heap.size m w' := h.next hb
theorem ealive (m : Int) (w : World) (he : Env w.heap.size m w) : Calls Tryz.prog 5 #[] w fun e w' => e = .returned (.bool true) ∧ Below w.heap.size w w' := by
  refine alive_of w (fun t ht w0 hb => eparse_any t (by omega) m w0 (he.next hb)) (fun S op tx X n k w hS hn => ?_) (fun S op tx X n k w0 hb hS hn => ?_)
  · have h := edeep_any aliveT.deep aliveT (Nat.le_refl _) (by rw [alive_deep]; omega) S op tx X n k w hS hn
    rw [alive_deep] at h
    exact h
  · have h := eshow_any aliveT alive_okay (by rw [alive_sh]; decide) (by rw [alive_sh]; decide) m S op tx X n k w0 (he.next hb) hS hn
    rw [alive_sh] at h
    exact h
theorem esame_all (x : Tr) : SaysSame x := esame_any x.deep x (Nat.le_refl _)
end Go.Proofs.YtpohpgahnompbaaGreatDoor.Code

/-
  The walk of ExprBrackets, with the program's Parse and Same and the live question by their contracts.
-/
namespace Go.Proofs.YtpohpgahnompbaaGreatDoor.exprBrackets
open Go.ChangeShapes Go.WideShapes Go.ChangeAt Go.RowKit Val Elems Go.Proofs.YtpohpgahnompbaaGreatDoor.Code
set_option linter.unusedVariables false
set_option linter.unusedSimpArgs false
set_option maxHeartbeats 4000000 in
set_option maxRecDepth 100000 in
theorem walk_good (s : ByteArray) (w : World) (hs : s.size ≤ 400) (x : Tr) (ee : Int) (hee : ee = 0 ∨ ee = 92) (T : ByteArray) (hT : (⟨#[40, 40]⟩ : ByteArray) ++ s ++ ⟨#[41, 41]⟩ = T) (hTs : T.size ≤ 404)
    (hA : ∀ w0, Below w.heap.size w w0 → w.heap.size ≤ w0.heap.size → Calls Tryz.prog 5 #[] w0 (fun e w' => e = .returned (.bool true) ∧ Below w0.heap.size w0 w'))
    (hP : ∀ w0, Below w.heap.size w w0 → Calls Tryz.prog 6 #[.string s] w0 (ParsePost w0 (x, 0, ee)))
    (hP2 : ∀ w0, Below w.heap.size w w0 → Calls Tryz.prog 6 #[.string T] w0 (ParsePost w0 (x, 0, ee)))
    (hS : ∀ (S : Nat → Prop) (op tx : ByteArray) (X : Option Addr) (n m : Nat) (op' tx' : ByteArray) (X' : Option Addr) (n' m' : Nat) (w : World), (∀ g, S g → g < w.heap.size) → NIn w S x (.string op) (.string tx) (.slice X n m) → NIn w S x (.string op') (.string tx') (.slice X' n' m') →
      Calls Tryz.prog 9 #[.agg #[.string op, .string tx, .slice X n m], .agg #[.string op', .string tx', .slice X' n' m']] w (SamePost w true)) :
    Calls Tryz.prog 4 #[.string s] w fun e w' => e = .returned (.bool true) ∧ Below w.heap.size w w' := by
  have HA := Lib.hid hA
  have HP := Lib.hid hP
  have HQ := Lib.hid hP2
  have HS := Lib.hid hS
  unfold ParsePost at HP HQ
  unfold SamePost at HS
  clear hA hP hP2 hS
  rcases hee with rfl | rfl
  all_goals
    go_enter Tryz.func4, Tryz.ntmps4
    go_wp2_with fail
    refine (HP.out _ (Below.refl _ _)).mono ?_
    rintro e w1 ⟨op, tx, X, n, m, rfl, hn1, hb1⟩
    have L1 := Lib.hid (hb1.alloc hb1.size (.cells #[.string op, .string tx, .slice X n m] 25))
    have I1 := Lib.hid (hn1.alloc (fun g hg => hg.2) (.cells #[.string op, .string tx, .slice X n m] 25))
    have V1 := Lib.hid (NBox.fresh w1 (.string op) (.string tx) (.slice X n m) 25)
    have z1 := hb1.size
    clear hb1 hn1
    go_wp2_with fail
    try rw [hT]
    refine (HQ.out _ L1.out).mono ?_
    rintro e w2 ⟨op2, tx2, X2, n2, m2, rfl, hn2, hb2⟩
    have z2 : w1.heap.size < w2.heap.size := by have := hb2.size; simp at this; omega
    have L2 := Lib.hid ((L1.out.trans (hb2.mono (by simp; omega))).alloc (by omega) (.cells #[.string op2, .string tx2, .slice X2 n2 m2] 25))
    have I2 := Lib.hid (((I1.out.below (fun g hg => by have := hg.2; simp; omega) hb2).imp (S' := fun g => g < w2.heap.size) (fun g hg => by have := hg.2; omega)).alloc (fun g hg => hg) (.cells #[.string op2, .string tx2, .slice X2 n2 m2] 25))
    have J2 := Lib.hid ((hn2.imp (S' := fun g => g < w2.heap.size) (fun g hg => hg.2)).alloc (fun g hg => hg) (.cells #[.string op2, .string tx2, .slice X2 n2 m2] 25))
    have V2 := Lib.hid ((V1.out.below hb2).alloc (.cells #[.string op2, .string tx2, .slice X2 n2 m2] 25))
    have U2 := Lib.hid (NBox.fresh w2 (.string op2) (.string tx2) (.slice X2 n2 m2) 25)
    clear hb2 hn2
    go_wp2_with fail
    refine (HA.out _ L2.out (by simp; omega)).mono ?_
    rintro e w3 ⟨rfl, hb3⟩
    have L3 := Lib.hid (L2.out.trans (hb3.mono (by simp; omega)))
    have z3 : w2.heap.size < w3.heap.size := by have := hb3.size; simp at this; omega
    have I3 := Lib.hid (I2.out.below (fun g hg => by have : g < w2.heap.size := hg; simp; omega) hb3)
    have J3 := Lib.hid (J2.out.below (fun g hg => by have : g < w2.heap.size := hg; simp; omega) hb3)
    obtain ⟨v0, v1, v2, vf⟩ := V2.out.below hb3
    obtain ⟨u0, u1, u2, uf⟩ := U2.out.below hb3
    clear hb3
    go_wp2_with fail
    refine (HS.out _ _ _ _ _ _ _ _ _ _ _ _ (fun g hg => by have : g < w2.heap.size := hg; omega) I3.out J3.out).mono ?_
    rintro e w4 ⟨rfl, hb4⟩
    have L4 := Lib.hid (bnext L3.out (by omega) hb4)
    clear hb4
    go_wp2
    go_ret
    exact ⟨by simp, L4.out⟩
end Go.Proofs.YtpohpgahnompbaaGreatDoor.exprBrackets

/-
  The walk of ExprBrackets: a text that has no node.
-/
namespace Go.Proofs.YtpohpgahnompbaaGreatDoor.exprBrackets
open Go.ChangeShapes Go.WideShapes Go.ChangeAt Go.RowKit Val Elems Go.Proofs.YtpohpgahnompbaaGreatDoor.Code
set_option linter.unusedVariables false
set_option linter.unusedSimpArgs false
theorem push_one {X : ByteArray} {l : List UInt8} (h : X.data.toList = l) (c : UInt8) : (X ++ ⟨#[c]⟩).data.toList = l ++ [c] := by
  subst h
  simp [ByteArray.data_append]
set_option maxHeartbeats 4000000 in
set_option maxRecDepth 100000 in
theorem walk_bad (s : ByteArray) (w : World) (hs : s.size ≤ 400) (p : Int) (hp0 : 0 ≤ p) (hp1 : p ≤ s.size) (y : Tr) (p2 e2 ee : Int) (hee : ee = 91 ∨ (ee = 81 ∧ p2 = p + 2 ∧ e2 = 81)) (T : ByteArray) (hT : (⟨#[40, 40]⟩ : ByteArray) ++ s ++ ⟨#[41, 41]⟩ = T) (hTs : T.size ≤ 404)
    (hA : ∀ w0, Below w.heap.size w w0 → w.heap.size ≤ w0.heap.size → Calls Tryz.prog 5 #[] w0 (fun e w' => e = .returned (.bool true) ∧ Below w0.heap.size w0 w'))
    (hP : ∀ w0, Below w.heap.size w w0 → Calls Tryz.prog 6 #[.string s] w0 (ParsePost w0 (zeroT, p, ee)))
    (hP2 : ∀ w0, Below w.heap.size w w0 → Calls Tryz.prog 6 #[.string T] w0 (ParsePost w0 (y, p2, e2)))
    (hP3 : ∀ (X : ByteArray), X.data.toList = List.replicate 21 45 ++ [49] → ∀ w0, Below w.heap.size w w0 → Calls Tryz.prog 6 #[.string X] w0 (ParsePost w0 (zeroT, 0, 92))) :
    Calls Tryz.prog 4 #[.string s] w fun e w' => e = .returned (.bool true) ∧ Below w.heap.size w w' := by
  have HA := Lib.hid hA
  have HP := Lib.hid hP
  have HQ := Lib.hid hP2
  have HT := Lib.hid hP3
  unfold ParsePost at HP HQ HT
  have kw : IntKind.i64.wrap (p + 2) = p + 2 := by rw [IntKind.wrap_i64]; omega
  clear hA hP hP2 hP3
  rcases hee with rfl | ⟨rfl, rfl, rfl⟩
  all_goals
    go_enter Tryz.func4, Tryz.ntmps4
    go_wp2_with fail
    refine (HP.out _ (Below.refl _ _)).mono ?_
    rintro e w1 ⟨op, tx, X, n, m, rfl, ⟨hc0, hc1, hc2⟩, hb1⟩
    cases hc2
    have L1 := Lib.hid (hb1.alloc hb1.size (.cells #[.string op, .string tx, .slice none 0 0] 25))
    have V1 := Lib.hid (NBox.fresh w1 (.string op) (.string tx) (.slice none 0 0) 25)
    have z1 := hb1.size
    clear hb1 hc0 hc1
    go_wp2_with fail
    try rw [hT]
    refine (HQ.out _ L1.out).mono ?_
    rintro e w2 ⟨op2, tx2, X2, n2, m2, rfl, hn2, hb2⟩
    have z2 : w1.heap.size < w2.heap.size := by have := hb2.size; simp at this; omega
    have L2 := Lib.hid ((L1.out.trans (hb2.mono (by simp; omega))).alloc (by omega) (.cells #[.string op2, .string tx2, .slice X2 n2 m2] 25))
    have V2 := Lib.hid ((V1.out.below hb2).alloc (.cells #[.string op2, .string tx2, .slice X2 n2 m2] 25))
    clear hb2 hn2
    go_wp2
    go_loop [9, 10] (fun v t => ∃ (k : Nat) (Q : ByteArray), k ≤ 20 ∧ t = .int .i64 k ∧ v = .string Q ∧ Hid (Q.data.toList = List.replicate (k + 1) 45) ∧ Q.size = k + 1) (fun _ t => 20 - (intOf t).toNat)
    case atStart => exact ⟨0, ⟨#[45]⟩, by omega, rfl, rfl, Lib.hid rfl, rfl⟩
    case round =>
      obtain ⟨k, Q, hk, rfl, rfl, HX, hsz⟩ := hrel
      by_cases hlt : k < 20
      · have H2 := Lib.hid (push_one HX.out 45)
        have hsz2 : (Q ++ ⟨#[45]⟩).size = k + 1 + 1 := by rw [ByteArray.size_append, hsz]; rfl
        go_wp2
        go_round
        case rel => exact ⟨k + 1, Q ++ ⟨#[45]⟩, by omega, by go_num, rfl, Lib.hid (by rw [H2.out, ← List.replicate_succ']), hsz2⟩
        case measure => simp [intOf]; omega
      · obtain rfl : k = 20 := by omega
        have H2 := Lib.hid (push_one HX.out 49)
        go_wp2_with fail
        refine (HT.out _ H2.out _ L2.out).mono ?_
        rintro e w3 ⟨op3, tx3, X3, n3, m3, rfl, hn3, hb3⟩
        have z3 : w2.heap.size < w3.heap.size := by have := hb3.size; simp at this; omega
        have L3 := Lib.hid ((L2.out.trans (hb3.mono (by simp; omega))).alloc (by omega) (.cells #[.string op3, .string tx3, .slice X3 n3 m3] 25))
        have V3 := Lib.hid ((V2.out.below hb3).alloc (.cells #[.string op3, .string tx3, .slice X3 n3 m3] 25))
        clear hb3 hn3
        go_wp2_with fail
        refine (HA.out _ L3.out (by simp; omega)).mono ?_
        rintro e w4 ⟨rfl, hb4⟩
        have L4 := Lib.hid (L3.out.trans (hb4.mono (by simp; omega)))
        obtain ⟨v0, v1, v2, vf⟩ := V3.out.below hb4
        clear hb4
        go_wp2
        go_ret
        exact ⟨by simp <;> omega, L4.out⟩
end Go.Proofs.YtpohpgahnompbaaGreatDoor.exprBrackets

/-
  The walk of ExprBrackets, put together, with the program's Parse and Same and the live question by their contracts.
-/
namespace Go.Proofs.YtpohpgahnompbaaGreatDoor.exprBrackets
open Go.ChangeShapes Go.WideShapes Go.ChangeAt Go.RowKit Val Elems Go.Proofs.YtpohpgahnompbaaGreatDoor.Code
set_option linter.unusedVariables false
set_option linter.unusedSimpArgs false
theorem signs_list : (List.replicate 21 45 ++ [49] : List UInt8) = [45, 45, 45, 45, 45, 45, 45, 45, 45, 45, 45, 45, 45, 45, 45, 45, 45, 45, 45, 45, 45, 49] := rfl
theorem in_brackets (s : ByteArray) : ((⟨#[40, 40]⟩ : ByteArray) ++ s ++ ⟨#[41, 41]⟩).data.toList = 40 :: 40 :: (s.data.toList ++ [41, 41]) := by
  rw [ByteArray.data_append, ByteArray.data_append, Array.toList_append, Array.toList_append]
  rfl
set_option maxHeartbeats 4000000 in
set_option maxRecDepth 100000 in
theorem walk_of (s : ByteArray) (w : World) (hs : s.size ≤ 9223372036854775807)
    (hA : ∀ w0, Below w.heap.size w w0 → w.heap.size ≤ w0.heap.size → Calls Tryz.prog 5 #[] w0 (fun e w' => e = .returned (.bool true) ∧ Below w0.heap.size w0 w'))
    (hP : ∀ t : ByteArray, t.size ≤ 404 → ∀ w0, Below w.heap.size w w0 → Calls Tryz.prog 6 #[.string t] w0 (ParsePost w0 (parseL t.data.toList)))
    (hS : ∀ (x : Tr) (S : Nat → Prop) (op tx : ByteArray) (X : Option Addr) (n m : Nat) (op' tx' : ByteArray) (X' : Option Addr) (n' m' : Nat) (w : World), (∀ g, S g → g < w.heap.size) → NIn w S x (.string op) (.string tx) (.slice X n m) → NIn w S x (.string op') (.string tx') (.slice X' n' m') →
      Calls Tryz.prog 9 #[.agg #[.string op, .string tx, .slice X n m], .agg #[.string op', .string tx', .slice X' n' m']] w (SamePost w true)) :
    Calls Tryz.prog 4 #[.string s] w fun e w' => e = .returned (.bool true) ∧ Below w.heap.size w w' := by
  by_cases hbig : 400 < s.size
  · have HA := Lib.hid hA
    clear hA hP hS
    go_enter Tryz.func4, Tryz.ntmps4
    go_wp2_with fail
    refine (HA.out _ (Below.refl _ _) (Nat.le_refl _)).mono ?_
    rintro e w1 ⟨rfl, hb1⟩
    have L1 := Lib.hid hb1
    clear hb1
    go_wp2
    go_ret
    exact ⟨rfl, L1.out⟩
  · have hz : s.size ≤ 400 := by omega
    have hTz : ((⟨#[40, 40]⟩ : ByteArray) ++ s ++ ⟨#[41, 41]⟩).size ≤ 404 := by
      rw [ByteArray.size_append, ByteArray.size_append]
      show 2 + s.size + 2 ≤ 404
      omega
    have h1 := hP s (by omega)
    have h2 := hP _ hTz
    rw [in_brackets] at h2
    have h3 : ∀ (X : ByteArray), X.data.toList = List.replicate 21 45 ++ [49] → ∀ w0, Below w.heap.size w w0 → Calls Tryz.prog 6 #[.string X] w0 (ParsePost w0 (zeroT, 0, 92)) := by
      intro X hX w0 hb
      have hl : X.size = 22 := by rw [← bytes_len, hX]; rfl
      have h := hP X (by omega) w0 hb
      rw [hX, signs_list, parse_signs] at h
      exact h
    have hat := parse_at s.data.toList
    have hbr := parse_brackets s.data.toList
    obtain ⟨res, hres⟩ : ∃ res, parseL s.data.toList = res := ⟨_, rfl⟩
    obtain ⟨res2, hres2⟩ : ∃ res2, parseL (40 :: 40 :: (s.data.toList ++ [41, 41])) = res2 := ⟨_, rfl⟩
    rw [hres, hres2] at hbr
    rw [hres, bytes_len] at hat
    rw [hres] at h1
    rw [hres2] at h2
    clear hres hres2
    obtain ⟨x, p, ee⟩ := res
    obtain ⟨y, p2, e2⟩ := res2
    obtain ⟨a1, a2, a3, a4, a5⟩ := hat
    obtain ⟨b1, b2⟩ := hbr
    dsimp only at a1 a2 a3 a4 a5 b1 b2
    by_cases hg : ee = 0 ∨ ee = 92
    · have hp := a5 hg
      subst hp
      rw [b1 hg] at h2
      exact walk_good s w hz x ee hg _ rfl hTz hA h1 h2 (fun S => hS x S)
    · have hx : x = zeroT := a3 (by omega)
      subst hx
      have hc : ee = 91 ∨ (ee = 81 ∧ p2 = p + 2 ∧ e2 = 81) := by
        rcases a4 with h | h | h | h
        · exact absurd (Or.inl h) hg
        · have hb := b2 h
          injection hb with hb1 hb2
          exact Or.inr ⟨h, hb1, hb2⟩
        · exact Or.inl h
        · exact absurd (Or.inr h) hg
      exact walk_bad s w hz p a1 a2 y p2 e2 ee hc _ rfl hTz hA h1 h2 h3
end Go.Proofs.YtpohpgahnompbaaGreatDoor.exprBrackets

/-
  How a law's row is shut, whatever its arguments are: where a law returns true and nothing that was there has changed ('Below'), each argument reads behind the call as it read before.
-/
namespace Go.Proofs.YtpohpgahnompbaaGreatDoor.Law
open Go.ChangeShapes Go.WideShapes Go.WideElems Go.RowKit
section
variable {H : Type} {enc : TypeId × Value → H} {P : Program}

/-- each type of the list can be read, and is a row of the table -/
def rowed (P : Program) (ts : List TypeId) : Bool := ts.all fun t => P.readableRec t && decide (t < P.types.size)

theorem stays (hl : laidOutB P = true) {W W' : World} (hb : Below W.heap.size W W') : ∀ {ts : List TypeId} {vs : List Value} {ds : List (DataW H)} {ps : List MemPlace},
    rowed P ts = true → DataW.TrodAll enc P W 0 (fun _ => true) true ts vs ds ps → (∀ p ∈ ps, p.block < W.heap.size) →
    DataW.TrodAll enc P W' 0 (fun b => decide (b < W.heap.size)) true ts vs ds ps
  | [], _, _, _, _, h, _ => by
    obtain ⟨rfl, rfl, rfl⟩ := trodAll_nil h
    exact rfl
  | t :: ts, _, _, _, hr, h, hlt => by
    obtain ⟨v, vs, d, ds, p, q, rfl, rfl, rfl, ⟨fuel, h1⟩, h2⟩ := trodAll_cons h
    simp only [rowed, List.all_cons, Bool.and_eq_true, decide_eq_true_eq] at hr
    have hp : ∀ x ∈ p, x.block < W.heap.size := fun x hx => hlt x (List.mem_append_left _ hx)
    refine ⟨p, q, ⟨fuel, ?_⟩, stays hl hb (by simpa [rowed] using hr.2) h2 (fun x hx => hlt x (List.mem_append_right _ hx)), rfl⟩
    exact DataW.trod_stays (kids_book hl hr.1.1) (book_sized hr.1.1) (fun h => by cases h) ⟨hr.1.2, book_self t⟩ h1 (fun x hx => hb.same (hp x hx)) (fun x hx => by simpa using hp x hx)

/-- The law's own end: it answered true, and below the heap's old size all is as it was. -/
theorem post_true (hl : laidOutB P = true) {f : Func} (hr : rowed P f.params.toList = true) {s : ChangeSpec} (hs : s.vars = []) {tb : TypeId} (hres : f.resultTypes = #[tb]) (hbool : P.underlying tb = some .bool)
    {W W' : World} {args : Array Value} {ds gs : List (DataW H)} {before : List MemPlace} (hW : DataW.Whole enc P f.params.toList s.vars false W args.toList ds gs before)
    (hfn : s.fn H (ds ++ gs) = { results := [.lit (.bool true)], args := ds }) (hb : Below W.heap.size W W') :
    s.post enc P f false true false false W args (.bool true) W' := by
  have hlt : ∀ p ∈ before, p.block < W.heap.size := fun p hp => hW.lt p hp
  have hW2 := hW
  obtain ⟨p, q, hA, hV, rfl, _, _⟩ := hW2
  refine ⟨ds, gs, p ++ q, [], p, [], hW, ?_, ?_, ?_, ?_, ?_⟩
  · rw [hfn, hres]
    exact trodAll_cons_mk (shut_bool hbool true) trodAll_mk0
  · rw [hfn]
    exact stays hl hb hr hA (fun x hx => hlt x (List.mem_append_left _ hx))
  · rw [hfn, hs]
    exact rfl
  · exact hb.frame _
  · intro h
    cases h
end
end Go.Proofs.YtpohpgahnompbaaGreatDoor.Law

/-
  A law whose row lists package-level variables: how it is lifted, the world's shape kept beside what is listed; and a value's three parts opened.
-/
namespace Go.Proofs.YtpohpgahnompbaaGreatDoor.Law
open Go.Joins Go.ChangeShapes Go.WideShapes Go.WideElems Go.RowKit Go.Deep
section
variable {H : Type} {enc : TypeId × Value → H}
/-- a law's row is lifted: what is listed (X) and the world's shape are both at hand -/
theorem lift_laid {a : Assume} {C : Checked} {os : Os} {f : FuncId} {fn : Func} {s : ChangeSpec} {conds : List PathCond} {apart fresh handsOn again : Bool} {X : World → Array Value → Prop}
    (hX : ∀ (w w' : World) (args : Array Value), w.heap = w'.heap → X w args → X w' args)
    (own : ownKnob C.prog.godebug = none) (started : os.Started) (noInit : C.prog.inits.idxOf? f = none) (hfn : C.prog.funcs[f]? = some fn)
    (witness : ∃ (w : World) (tape : Tape) (i : Input), w.os = os ∧ (w.forCall tape i).Shaped C.prog ∧ i.vars = [] ∧ Input.okWide C.prog (w.forCall tape i) .any w.heap.size f i ∧
      ((s.pre enc C.prog fn conds apart (w.forCall tape i).memory i.args ∧ X (w.forCall tape i).memory i.args) ∧ sizedMet enc C.prog fn (OpenSpec.ofChange s) apart (w.forCall tape i).memory i.args) ∧ a.holds C.prog (lone (Frame.enter C.prog f i.args .normal) [] (w.forCall tape i)))
    (walk : ∀ (W : World) (base : Nat) (args : Array Value) (ds gs : List (DataW H)) (before : List MemPlace),
      (∀ (j : Nat) t v, fn.params[j]? = some t → args[j]? = some v → Value.okWide C.prog W .any base t v) →
      DataW.Whole enc C.prog fn.params.toList s.vars apart W args.toList ds gs before → W.ShapedOpen C.prog → X W args →
      Calls C.prog f args W fun e W' => ∃ v, e = .returned v ∧ s.post enc C.prog fn apart fresh handsOn again W args v W') :
    ReturnsInHanded a C os f .any (fun w args => (s.pre enc C.prog fn conds apart w args ∧ X w args) ∧ sizedMet enc C.prog fn (OpenSpec.ofChange s) apart w args) (s.post enc C.prog fn apart fresh handsOn again) := by
  refine returnsInHanded_of_calls own started noInit witness ?_
  intro w tape i _ hsh _ hok hpre _
  obtain ⟨_, _, _, fn', hfn', _, _, _, _, hval⟩ := hok
  obtain rfl : fn' = fn := Option.some.inj (hfn'.symm.trans hfn)
  obtain ⟨⟨⟨ds, gs, before, hw, _⟩, hx⟩, _⟩ := hpre
  refine (walk (w.forCall tape i) w.heap.size i.args ds gs before hval (DataW.Whole.of_heap (w' := w.forCall tape i) (by rfl) hw) hsh (hX _ _ _ (by rfl) hx)).mono fun e W' ⟨v, he, hp⟩ => ?_
  subst he
  exact ChangeSpec.post_blind hp
end
section
variable {H : Type} {enc : TypeId × Value → H} {P : Program} {w : World} {base : Nat} {spare : Nat → Bool} {held : Bool}
theorem open_value {r : Reach} {b0 : Nat} {t : TypeId} {f0 f1 f2 : Field} {v : Value} {d : DataW H} {p : List MemPlace} (hs : P.underlying t = some (.struct #[f0, f1, f2])) (hone : oneCellFields P #[f0, f1, f2] = true) (hC : P.cellsOf t = 3)
    (e0 : P.underlying f0.type = some (.int .i64)) (e1 : P.underlying f1.type = some (.int .i64)) (e2 : P.underlying f2.type = some .string) (hv : Value.okWide P w r b0 t v) (h : DataW.Trod enc P w base spare held t v d p) :
    ∃ (a b : Int) (s : ByteArray), v = .agg #[.int .i64 a, .int .i64 b, .string s] ∧ (Lit.int .i64 a).wf = true ∧ (Lit.int .i64 b).wf = true ∧ s.size ≤ maxLen := by
  obtain ⟨v0, v1, v2, y0, y1, y2, n, rfl, _, _, g0, g1, g2⟩ := open_agg3 hs hone hC hv h
  obtain ⟨a, ea, _, wa⟩ := DataW.trod_int e0 g0
  obtain ⟨b, eb, _, wb⟩ := DataW.trod_int e1 g1
  obtain ⟨s, es, _, ws⟩ := DataW.trod_string e2 g2
  simp only [List.cons.injEq, and_true] at ea eb es
  exact ⟨a, b, s, by rw [ea, eb, es], wa, wb, ws⟩
end
end Go.Proofs.YtpohpgahnompbaaGreatDoor.Law
