/-
  The program's small questions of kinds: is one a truth's, a number's; are all; is one there; which is the widest; can values of them be held against each other.
-/
import Derived.Test.YtkibacolnagkcaaM18
namespace Go.Proofs.Ytkibacolnagkcaa.Code
open Go.ChangeShapes Go.WideShapes Go.ChangeAt Go.RowKit Val Elems
set_option linter.unusedVariables false
set_option linter.unusedSimpArgs false
theorem isTruth_any (k : Int) (w : World) : Calls Try.prog 21 #[.int .i64 k] w fun e w' => e = .returned (.bool (truK k)) ∧ w = w' := by
  by_cases h0 : k = 0
  · subst h0
    go_enter Try.func21, Try.ntmps21
    go_wp2
    go_ret
    exact ⟨rfl, rfl⟩
  by_cases h1 : k = 1
  · subst h1
    go_enter Try.func21, Try.ntmps21
    go_wp2
    go_ret
    exact ⟨rfl, rfl⟩
  have e : truK k = false := by unfold truK; simp [h0, h1]
  have e0 : (k == 0) = false := by simpa using h0
  have e1 : (k == 1) = false := by simpa using h1
  rw [e]
  clear e h0 h1
  go_enter Try.func21, Try.ntmps21
  go_wp2
  go_ret
  exact ⟨rfl, rfl⟩
theorem isNumber_any (k : Int) (w : World) : Calls Try.prog 46 #[.int .i64 k] w fun e w' => e = .returned (.bool (numK k)) ∧ w = w' := by
  by_cases h0 : k = 0
  · subst h0
    go_enter Try.func46, Try.ntmps46
    go_wp2
    go_ret
    exact ⟨rfl, rfl⟩
  by_cases h1 : k = 2
  · subst h1
    go_enter Try.func46, Try.ntmps46
    go_wp2
    go_ret
    exact ⟨rfl, rfl⟩
  by_cases h2 : k = 3
  · subst h2
    go_enter Try.func46, Try.ntmps46
    go_wp2
    go_ret
    exact ⟨rfl, rfl⟩
  have e : numK k = false := by unfold numK; simp [h0, h1, h2]
  have e0 : (k == 0) = false := by simpa using h0
  have e1 : (k == 2) = false := by simpa using h1
  have e2 : (k == 3) = false := by simpa using h2
  rw [e]
  clear e h0 h1 h2
  go_enter Try.func46, Try.ntmps46
  go_wp2
  go_ret
  exact ⟨rfl, rfl⟩
/-- what a function that is handed in tells of any kind -/
def AskI (fn : Nat) (cps : Array Value) (p : Int → Bool) (w : World) : Prop :=
  ∀ (k : Int) (w' : World), Below w.heap.size w w' → Calls Try.prog fn (#[.int .i64 k] ++ cps) w' fun e w'' => e = .returned (.bool (p k)) ∧ Below w'.heap.size w' w''
theorem truth_ask (w : World) : AskI 21 #[] truK w := fun k w' _ => (isTruth_any k w').mono fun e w'' h => ⟨h.1, h.2 ▸ Below.refl _ _⟩
theorem number_ask (w : World) : AskI 46 #[] numK w := fun k w' _ => (isNumber_any k w').mono fun e w'' h => ⟨h.1, h.2 ▸ Below.refl _ _⟩
theorem AskI.later {fn : Nat} {cps : Array Value} {p : Int → Bool} {w w' : World} (h : AskI fn cps p w) (hb : Below w.heap.size w w') : AskI fn cps p w' := fun k w'' hb2 => h k w'' (hb.trans (hb2.mono hb.size))
theorem any_no {l : List Int} {p : Int → Bool} (h : ∀ j (hj : j < l.length), p l[j] = false) : l.any p = false := by
  rw [List.any_eq_false]
  intro x hx
  obtain ⟨j, hj, rfl⟩ := List.getElem_of_mem hx
  rw [h j hj]
  decide
theorem any_yes {l : List Int} {p : Int → Bool} {i : Nat} (hi : i < l.length) (h : p l[i] = true) : l.any p = true := List.any_eq_true.2 ⟨_, List.getElem_mem hi, h⟩
set_option maxHeartbeats 4000000 in
set_option maxRecDepth 100000 in
theorem kindexF_any (fn : Nat) (en : ∀ args w, (callFunc fn args).run Try.prog w = .ok (.enter fn args) w) (cps : Array Value) (p : Int → Bool) (A : Option Addr) (cap : Nat) (l : List Int) (w : World) (hv : Ints w w.heap.size A l) (hl : l.length ≤ 2600000000000) (ha : AskI fn cps p w) :
    Calls Try.prog 75 #[.slice A l.length cap, .func (.func fn) #[] cps] w fun e w' => ∃ z : Int, e = .returned (.int .i64 z) ∧ decide (0 ≤ z) = l.any p ∧ Below w.heap.size w w' := by
  have HV := Lib.hid hv
  have HA := Lib.hid ha
  clear hv ha
  go_enter Try.func75, Try.ntmps75
  go_wp2
  go_loopw [8] (fun t wr => ∃ i : Nat, i ≤ l.length ∧ t = .int .i64 i ∧ (∀ j (hj : j < l.length), j < i → p l[j] = false) ∧ Below w.heap.size w wr) (fun t _ => l.length - (intOf t).toNat)
  case atStart => exact ⟨0, by omega, rfl, fun j _ h => absurd h (by omega), Below.refl _ _⟩
  case round =>
    obtain ⟨i, hi, rfl, hno, hbel⟩ := hrel
    have HL := Lib.hid hbel
    have HNO := Lib.hid hno
    have VA := Lib.hid (HV.out.below hbel)
    clear hbel hno
    by_cases hil : i < l.length
    · obtain ⟨ad, rfl, ga, c0⟩ := VA.out i hil
      have HN2 := Lib.hid (fun (h : p l[i] = false) => show ∀ j (hj : j < l.length), j < i + 1 → p l[j] = false from fun j hj h2 => if e : j = i then by subst e; exact h else HNO.out j hj (by omega))
      have HY := Lib.hid (fun (h : p l[i] = true) => any_yes hil h)
      obtain ⟨x, hx⟩ : ∃ x, l[i] = x := ⟨_, rfl⟩
      rw [hx] at c0 HN2 HY
      have HC := Lib.hid (HA.out x wr HL.out)
      obtain ⟨b, hb⟩ : ∃ b, p x = b := ⟨_, rfl⟩
      rw [hb] at HC HY HN2
      clear hx hb
      go_wp2_with fail
      refine HC.out.mono ?_
      rintro e w1 ⟨rfl, hb1⟩
      have L1 := Lib.hid (HL.out.trans (hb1.mono HL.out.size))
      clear hb1 HC c0
      cases b
      · go_wp2
        go_roundw
        case rel => exact ⟨i + 1, by omega, by go_num, HN2.out (by first | exact rfl | exact trivial), L1.out⟩
        case measure => simp [intOf]; omega
      · have HI := Lib.hid (HY.out (by first | exact rfl | exact trivial))
        go_wp2
        go_ret
        exact ⟨_, rfl, by rw [HI.out]; simp, L1.out⟩
    · obtain rfl : i = l.length := by omega
      have HI := Lib.hid (any_no (p := p) (fun j hj => HNO.out j hj hj))
      go_wp2
      go_ret
      exact ⟨_, rfl, by rw [HI.out]; rfl, HL.out⟩
set_option maxRecDepth 100000 in
theorem kcontF_any (fn : Nat) (en : ∀ args w, (callFunc fn args).run Try.prog w = .ok (.enter fn args) w) (cps : Array Value) (p : Int → Bool) (A : Option Addr) (cap : Nat) (l : List Int) (w : World) (hv : Ints w w.heap.size A l) (hl : l.length ≤ 2600000000000) (ha : AskI fn cps p w) :
    Calls Try.prog 48 #[.slice A l.length cap, .func (.func fn) #[] cps] w fun e w' => e = .returned (.bool (l.any p)) ∧ Below w.heap.size w w' := by
  have HI := Lib.hid (kindexF_any fn en cps p A cap l w hv hl ha)
  obtain ⟨b, hb⟩ : ∃ b, l.any p = b := ⟨_, rfl⟩
  rw [hb] at HI
  rw [hb]
  clear hv ha hb hl
  go_enter Try.func48, Try.ntmps48
  go_wp2_with fail
  refine HI.out.mono ?_
  rintro e w1 ⟨z, rfl, hz, hb1⟩
  have L1 := Lib.hid hb1
  clear hb1
  go_wp2
  go_ret
  exact ⟨rfl, L1.out⟩
theorem all_ask (fn : Nat) (en : ∀ args w, (callFunc fn args).run Try.prog w = .ok (.enter fn args) w) (cps : Array Value) (p : Int → Bool) (g : Nat) (w : World) (hc : w.cell? ⟨g, 0, none⟩ = some (.func (.func fn) #[] cps)) (hg : g < w.heap.size) (ha : AskI fn cps p w) : AskI 49 #[.pointer (some ⟨g, 0, none⟩)] (fun k => !p k) w := by
  intro k w1 hb
  have c0 := (hb.cell (p := ⟨g, 0, none⟩) hg).trans hc
  have HC := Lib.hid (ha k w1 hb)
  obtain ⟨b, hbe⟩ : ∃ b, p k = b := ⟨_, rfl⟩
  rw [hbe] at HC
  dsimp only
  rw [hbe]
  clear hb ha hbe
  go_enter Try.func49, Try.ntmps49
  go_wp2_with fail
  refine HC.out.mono ?_
  rintro e w2 ⟨rfl, hb2⟩
  have L1 := Lib.hid hb2
  clear hb2
  go_wp2
  go_ret
  exact ⟨rfl, L1.out⟩
theorem all_not (l : List Int) (p : Int → Bool) : (!l.any fun k => !p k) = l.all p := by
  induction l with
  | nil => rfl
  | cons x l ih =>
    rw [List.any_cons, List.all_cons, ← ih]
    cases p x <;> simp
set_option maxRecDepth 100000 in
theorem all_any (fn : Nat) (en : ∀ args w, (callFunc fn args).run Try.prog w = .ok (.enter fn args) w) (cps : Array Value) (p : Int → Bool) (A : Option Addr) (cap : Nat) (l : List Int) (w : World) (hv : Ints w w.heap.size A l) (hl : l.length ≤ 2600000000000) (ha : AskI fn cps p w) :
    Calls Try.prog 33 #[.slice A l.length cap, .func (.func fn) #[] cps] w fun e w' => e = .returned (.bool (l.all p)) ∧ Below w.heap.size w w' := by
  obtain ⟨w0, hw0⟩ : ∃ w0, w.alloc (.cells #[.func (.func fn) #[] cps] 58) = w0 := ⟨_, rfl⟩
  have B0 := Lib.hid (show Below w.heap.size w w0 by rw [← hw0]; exact below_alloc w _)
  have c0 : w0.cell? ⟨w.heap.size, 0, none⟩ = some (.func (.func fn) #[] cps) := by rw [← hw0]; simp
  have HI := Lib.hid (kcontF_any 49 (enters_of Try.func49 (by kernel_rfl) rfl) #[.pointer (some ⟨w.heap.size, 0, none⟩)] (fun k => !p k) A cap l w0 ((hv.below B0.out).more B0.out.size) hl (all_ask fn en cps p w.heap.size w0 c0 (by rw [← hw0]; simp) (ha.later B0.out)))
  have HE := Lib.hid (all_not l p)
  obtain ⟨b, hb⟩ : ∃ b, (l.any fun k => !p k) = b := ⟨_, rfl⟩
  rw [hb] at HI HE
  rw [← HE.out]
  have HW0 := Lib.hid hw0
  clear hv ha hb hl hw0 c0 HE
  go_enter Try.func33, Try.ntmps33
  go_upto_region 1 with fail
  rw [HW0.out]
  go_wp2_with fail
  refine HI.out.mono ?_
  rintro e w1 ⟨rfl, hb1⟩
  have L1 := Lib.hid (B0.out.trans (hb1.mono B0.out.size))
  clear hb1
  go_wp2
  go_ret
  exact ⟨rfl, L1.out⟩
set_option maxHeartbeats 4000000 in
set_option maxRecDepth 100000 in
theorem kindex_any (k : Int) (A : Option Addr) (cap : Nat) (l : List Int) (w : World) (hv : Ints w w.heap.size A l) (hl : l.length ≤ 2600000000000) :
    Calls Try.prog 76 #[.slice A l.length cap, .int .i64 k] w fun e w' => ∃ z : Int, e = .returned (.int .i64 z) ∧ decide (0 ≤ z) = l.any (fun x => k == x) ∧ w = w' := by
  have HV := Lib.hid hv
  clear hv
  go_enter Try.func76, Try.ntmps76
  go_wp2
  go_loopw [8] (fun t wr => ∃ i : Nat, i ≤ l.length ∧ t = .int .i64 i ∧ (∀ j (hj : j < l.length), j < i → (k == l[j]) = false) ∧ w = wr) (fun t _ => l.length - (intOf t).toNat)
  case atStart => exact ⟨0, by omega, rfl, fun j _ h => absurd h (by omega), rfl⟩
  case round =>
    obtain ⟨i, hi, rfl, hno, rfl⟩ := hrel
    have HNO := Lib.hid hno
    clear hno
    by_cases hil : i < l.length
    · obtain ⟨ad, rfl, ga, c0⟩ := HV.out i hil
      have HN2 := Lib.hid (fun (h : (k == l[i]) = false) => show ∀ j (hj : j < l.length), j < i + 1 → (k == l[j]) = false from fun j hj h2 => if e : j = i then by subst e; exact h else HNO.out j hj (by omega))
      have HY := Lib.hid (fun (h : (k == l[i]) = true) => any_yes (p := fun x => k == x) hil h)
      obtain ⟨x, hx⟩ : ∃ x, l[i] = x := ⟨_, rfl⟩
      rw [hx] at c0 HN2 HY
      clear hx
      obtain ⟨b, hb⟩ : ∃ b, (k == x) = b := ⟨_, rfl⟩
      rw [hb] at HY HN2
      cases b
      · go_wp2
        go_roundw
        case rel => exact ⟨i + 1, by omega, by go_num, HN2.out (by first | exact rfl | exact trivial), by first | exact rfl | exact trivial⟩
        case measure => simp [intOf]; omega
      · have HI := Lib.hid (HY.out (by first | exact rfl | exact trivial))
        go_wp2
        go_ret
        exact ⟨_, rfl, by rw [HI.out]; simp, rfl⟩
    · obtain rfl : i = l.length := by omega
      have HI := Lib.hid (any_no (p := fun x => k == x) (fun j hj => HNO.out j hj hj))
      go_wp2
      go_ret
      exact ⟨_, rfl, by rw [HI.out]; rfl, rfl⟩
set_option maxRecDepth 100000 in
theorem kcont_any (k : Int) (A : Option Addr) (cap : Nat) (l : List Int) (w : World) (hv : Ints w w.heap.size A l) (hl : l.length ≤ 2600000000000) :
    Calls Try.prog 50 #[.slice A l.length cap, .int .i64 k] w fun e w' => e = .returned (.bool (l.any fun x => k == x)) ∧ w = w' := by
  have HI := Lib.hid (kindex_any k A cap l w hv hl)
  obtain ⟨b, hb⟩ : ∃ b, (l.any fun x => k == x) = b := ⟨_, rfl⟩
  rw [hb] at HI
  rw [hb]
  clear hv hb hl
  go_enter Try.func50, Try.ntmps50
  go_wp2_with fail
  refine HI.out.mono ?_
  rintro e w1 ⟨z, rfl, hz, rfl⟩
  go_wp2
  go_ret
  exact ⟨rfl, rfl⟩
/-- the widest of kinds -/
def widestK (l : List Int) : Int := l.foldl (fun a k => if widerB k a = true then k else a) 0
theorem widest_take (l : List Int) (i : Nat) (h : i < l.length) : widestK (l.take (i + 1)) = if widerB l[i] (widestK (l.take i)) = true then l[i] else widestK (l.take i) := by
  unfold widestK
  rw [List.take_succ_eq_append_getElem h, List.foldl_append]
  rfl
set_option maxHeartbeats 4000000 in
set_option maxRecDepth 100000 in
theorem cwider_any (A : Option Addr) (cap : Nat) (l : List Int) (w : World) (hv : Ints w w.heap.size A l) (hl : l.length ≤ 2600000000000) :
    Calls Try.prog 47 #[.slice A l.length cap] w fun e w' => e = .returned (.int .i64 (widestK l)) ∧ w = w' := by
  have HV := Lib.hid hv
  clear hv
  go_enter Try.func47, Try.ntmps47
  go_wp2
  go_loopw [3, 8] (fun a t wr => ∃ i : Nat, i ≤ l.length ∧ t = .int .i64 i ∧ a = .int .i64 (widestK (l.take i)) ∧ w = wr) (fun _ t _ => l.length - (intOf t).toNat)
  case atStart => exact ⟨0, by omega, rfl, rfl, rfl⟩
  case round =>
    obtain ⟨i, hi, rfl, rfl, rfl⟩ := hrel
    by_cases hil : i < l.length
    · obtain ⟨ad, rfl, ga, c0⟩ := HV.out i hil
      have HT := Lib.hid (widest_take l i hil)
      obtain ⟨x, hx⟩ : ∃ x, l[i] = x := ⟨_, rfl⟩
      obtain ⟨a, ha⟩ : ∃ a, widestK (l.take i) = a := ⟨_, rfl⟩
      rw [hx] at c0 HT
      rw [ha] at HT ⊢
      have HC := Lib.hid (Val.wider_any x a w)
      obtain ⟨b, hb⟩ : ∃ b, widerB x a = b := ⟨_, rfl⟩
      rw [hb] at HT HC
      clear hx ha hb
      go_wp2_with fail
      refine HC.out.mono ?_
      rintro e w1 ⟨rfl, rfl⟩
      cases b
      · go_wp2
        go_roundw
        case rel => exact ⟨i + 1, by omega, by go_num, by rw [HT.out]; rfl, by first | exact rfl | exact trivial⟩
        case measure => simp [intOf]; omega
      · go_wp2
        go_roundw
        case rel => exact ⟨i + 1, by omega, by go_num, by rw [HT.out]; rfl, by first | exact rfl | exact trivial⟩
        case measure => simp [intOf]; omega
    · obtain rfl : i = l.length := by omega
      rw [List.take_length]
      go_wp2
      go_ret
      exact ⟨rfl, rfl⟩
set_option maxRecDepth 100000 in
theorem cnumber_any (A : Option Addr) (cap : Nat) (l : List Int) (w : World) (hv : Ints w w.heap.size A l) (hl : l.length ≤ 2600000000000) :
    Calls Try.prog 32 #[.slice A l.length cap] w fun e w' => e = .returned (.tuple #[.int .i64 (if l.all numK = true then widestK l else 0), .int .i64 (if l.all numK = true then 0 else 131)]) ∧ Below w.heap.size w w' := by
  have HI := Lib.hid (all_any 46 (enters_of Try.func46 (by kernel_rfl) rfl) #[] numK A cap l w hv hl (number_ask w))
  have HW := Lib.hid (fun (w' : World) (hb : Below w.heap.size w w') => cwider_any A cap l w' ((hv.below hb).more hb.size) hl)
  obtain ⟨b, hb⟩ : ∃ b, l.all numK = b := ⟨_, rfl⟩
  rw [hb] at HI ⊢
  clear hv hb hl
  cases b
  · go_enter Try.func32, Try.ntmps32
    go_wp2_with fail
    refine HI.out.mono ?_
    rintro e w1 ⟨rfl, hb1⟩
    have L1 := Lib.hid hb1
    clear hb1
    go_wp2
    go_ret2
    exact ⟨rfl, L1.out⟩
  · go_enter Try.func32, Try.ntmps32
    go_wp2_with fail
    refine HI.out.mono ?_
    rintro e w1 ⟨rfl, hb1⟩
    have L1 := Lib.hid hb1
    clear hb1
    go_wp2_with fail
    refine (HW.out w1 L1.out).mono ?_
    rintro e w2 ⟨rfl, rfl⟩
    go_wp2
    go_ret2
    exact ⟨rfl, L1.out⟩
theorem alike_ask (h : Int) (A : Option Addr) (n cap g : Nat) (w : World) (hc : w.cell? ⟨g, 0, none⟩ = some (.slice A n cap)) (hg : g < w.heap.size) (hn : 0 < n) (ha : ∃ ad : Addr, A = some ad ∧ ad.block < w.heap.size ∧ w.cell? (ad.add 0) = some (.int .i64 h)) : AskI 51 #[.pointer (some ⟨g, 0, none⟩)] (fun k => k == h) w := by
  intro k w1 hb
  obtain ⟨ad, rfl, hlt, c1⟩ := ha
  have c0 := (hb.cell (p := ⟨g, 0, none⟩) hg).trans hc
  have c2 := (hb.cell (p := ad.add 0) (by rw [add_block]; exact hlt)).trans c1
  rw [show ad.add 0 = ad by simp [Addr.add]] at c2
  have B0 := Lib.hid (Below.refl w1.heap.size w1)
  obtain ⟨b, hbe⟩ : ∃ b, (k == h) = b := ⟨_, rfl⟩
  dsimp only
  rw [hbe]
  clear hb c1 hc
  go_enter Try.func51, Try.ntmps51
  go_wp2
  go_ret
  exact ⟨by simp [hbe], B0.out⟩
/-- can values of these kinds be held against each other? -/
def alikeK (l : List Int) : Bool := (l.any fun x => (0 : Int) == x) || l.all numK || l.all fun k => k == l.getD 0 0
set_option maxHeartbeats 4000000 in
set_option maxRecDepth 100000 in
theorem alike_any (A : Option Addr) (cap : Nat) (l : List Int) (w : World) (hv : Ints w w.heap.size A l) (hl : l.length ≤ 2600000000000) :
    Calls Try.prog 34 #[.slice A l.length cap] w fun e w' => e = .returned (.bool (alikeK l)) ∧ Below w.heap.size w w' := by
  obtain ⟨w0, hw0⟩ : ∃ w0, w.alloc (.cells #[.slice A l.length cap] 53) = w0 := ⟨_, rfl⟩
  have B0 := Lib.hid (show Below w.heap.size w w0 by rw [← hw0]; exact below_alloc w _)
  have c0 : w0.cell? ⟨w.heap.size, 0, none⟩ = some (.slice A l.length cap) := by rw [← hw0]; simp
  have hz : w.heap.size < w0.heap.size := by rw [← hw0]; simp
  have V0 := Lib.hid ((hv.below B0.out).more B0.out.size)
  have HC := Lib.hid (kcont_any 0 A cap l w0 V0.out hl)
  have HI := Lib.hid (all_any 46 (enters_of Try.func46 (by kernel_rfl) rfl) #[] numK A cap l w0 V0.out hl (number_ask w0))
  have HX := Lib.hid (fun (w' : World) (hb : Below w0.heap.size w0 w') (hpos : 0 < l.length) => all_any 51 (enters_of Try.func51 (by kernel_rfl) rfl) #[.pointer (some ⟨w.heap.size, 0, none⟩)] (fun k => k == l.getD 0 0) A cap l w' ((V0.out.below hb).more hb.size) hl
    (alike_ask (l.getD 0 0) A l.length cap w.heap.size w' ((hb.cell (p := ⟨w.heap.size, 0, none⟩) hz).trans c0) (Nat.lt_of_lt_of_le hz hb.size) hpos (by
      obtain ⟨ad, e, h1, h2⟩ := (V0.out.below hb).more hb.size 0 hpos
      refine ⟨ad, e, h1, ?_⟩
      rw [h2, List.getD_eq_getElem?_getD, List.getElem?_eq_getElem hpos]
      rfl)))
  have HP := Lib.hid (show l.all numK = false → 0 < l.length by cases l with | nil => intro h; cases h | cons x l => intro _; simp)
  have HE := Lib.hid (show alikeK l = ((l.any fun x => (0 : Int) == x) || l.all numK || l.all fun k => k == l.getD 0 0) from rfl)
  obtain ⟨a, ha⟩ : ∃ a, (l.any fun x => (0 : Int) == x) = a := ⟨_, rfl⟩
  obtain ⟨b, hb⟩ : ∃ b, l.all numK = b := ⟨_, rfl⟩
  obtain ⟨c, hc⟩ : ∃ c, (l.all fun k => k == l.getD 0 0) = c := ⟨_, rfl⟩
  rw [ha] at HC HE
  rw [hb] at HI HE HP
  rw [hc] at HX HE
  rw [HE.out]
  have HW0 := Lib.hid hw0
  clear hv ha hb hc hw0 HE hl
  cases a
  · go_enter Try.func34, Try.ntmps34
    go_upto_region 1 with fail
    rw [HW0.out]
    go_wp2_with fail
    refine HC.out.mono ?_
    rintro e w1 ⟨rfl, rfl⟩
    go_wp2_with fail
    refine HI.out.mono ?_
    rintro e w1 ⟨rfl, hb1⟩
    have L1 := Lib.hid hb1
    have d0 := (hb1.cell (p := ⟨w.heap.size, 0, none⟩) hz).trans c0
    clear hb1
    cases b
    · have HPO := Lib.hid (HP.out (by first | exact rfl | exact trivial))
      go_wp2_with fail
      refine (HX.out w1 L1.out HPO.out).mono ?_
      rintro e w2 ⟨rfl, hb2⟩
      have L2 := Lib.hid (B0.out.trans ((L1.out.trans (hb2.mono L1.out.size)).mono B0.out.size))
      clear hb2
      go_wp2
      go_ret
      exact ⟨by simp, L2.out⟩
    · have L2 := Lib.hid (B0.out.trans (L1.out.mono B0.out.size))
      go_wp2
      go_ret
      exact ⟨by simp, L2.out⟩
  · go_enter Try.func34, Try.ntmps34
    go_upto_region 1 with fail
    rw [HW0.out]
    go_wp2_with fail
    refine HC.out.mono ?_
    rintro e w1 ⟨rfl, rfl⟩
    go_wp2
    go_ret
    exact ⟨by simp, B0.out⟩
end Go.Proofs.Ytkibacolnagkcaa.Code
