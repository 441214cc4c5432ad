/-
  The walk of CalcKinds, over what the program's Type and Value answer.
-/
import Derived.Test.YtkibacolnagkcaaM10
import Derived.Test.YtkibacolnagkcaaM13
import Derived.Test.YtkibacolnagkcaaM16
import Derived.Test.YtkibacolnagkcaaM36
import Derived.Deep.DeepCutAuto
namespace Go.Proofs.Ytkibacolnagkcaa.calcKinds
open Go.ChangeShapes Go.WideShapes Go.ChangeAt Go.RowKit Val Elems Go.Proofs.Ytkibacolnagkcaa.Code Go.Proofs.Ytkibacolnagkcaa.RowOpen
set_option linter.unusedVariables false
set_option linter.unusedSimpArgs false
/-- what Type answers, of a node that is not too large, over columns that are not too many -/
def TypeC (t : Nod) (op tx : ByteArray) (X : Option Addr) (n k : Nat) (A : Option Addr) (ca : Nat) (l : List W) (w : World) : Prop :=
  Calls Try.prog 10 #[.agg #[.string op, .string tx, .slice X n k], .slice A l.length ca] w fun e w' => e = .returned (.tuple #[.int .i64 (typeE l t).1, .int .i64 (typeE l t).2]) ∧ Below w.heap.size w w'
/-- what Value answers -/
def ValueC (t : Nod) (op tx : ByteArray) (X : Option Addr) (n k : Nat) (A : Option Addr) (ca : Nat) (l : List W) (B : Option Addr) (cb : Nat) (r : List CV) (w : World) : Prop :=
  Calls Try.prog 11 #[.agg #[.string op, .string tx, .slice X n k], .slice A l.length ca, .slice B r.length cb] w fun e w' => e = .returned (.tuple #[.agg #[.int .i64 (valueK l r t).1.1, .int .i64 (valueK l r t).1.2.1, .string (valueK l r t).1.2.2], .int .i64 (valueK l r t).2]) ∧ Below w.heap.size w w'
set_option maxHeartbeats 16000000 in
set_option maxRecDepth 100000 in
theorem walk_of (t : Nod) (S : Nat → Prop) (op tx : ByteArray) (X : Option Addr) (n k : Nat) (A : Option Addr) (ca : Nat) (l : List W) (B : Option Addr) (cb : Nat) (r : List CV) (w : World) (hS : ∀ g, S g → g < w.heap.size) (hn : RIn w S t (op, tx, X, n, k))
    (ha : At wc 3 w w.heap.size A l) (hla : l.length ≤ 4398046511104) (hr : RowIn w B r)
    (hA : ∀ w0, Below w.heap.size w w0 → Calls Try.prog 9 #[] w0 (fun e w' => e = .returned (.bool true) ∧ Below w0.heap.size w0 w'))
    (hT : smallC l = true → ∀ w0, Below w.heap.size w w0 → TypeC t op tx X n k A ca l w0)
    (hV : smallC l = true → smallB r = true → ∀ w0, Below w.heap.size w w0 → ValueC t op tx X n k A ca l B cb r w0) :
    Calls Try.prog 3 #[.agg #[.string op, .string tx, .slice X n k], .slice A l.length ca, .slice B r.length cb] w fun e w' => e = .returned (.bool true) ∧ Below w.heap.size w w' := by
  have HA := Lib.hid hA
  have HT := Lib.hid hT
  have HV := Lib.hid hV
  have HSZ := Lib.hid (fun (w' : World) (hb : Below w.heap.size w w') => sizeF_any t.deep t (Nat.le_refl _) S op tx X n k w' (fun g hg => Nat.lt_of_lt_of_le (hS g hg) hb.size) (hn.bel hS hb))
  have HP := Lib.hid (fun (w' : World) (hb : Below w.heap.size w w') => smallc_any A ca l w' ((ha.below hb).more hb.size) (by unfold maxLen; omega))
  have HQ := Lib.hid (fun (w' : World) (hb : Below w.heap.size w w') => small_any B cb r w' ((hr.1.below hb).more hb.size) hr.2.2.1 (by have := hr.2.2.2; omega))
  obtain ⟨p, hp⟩ : ∃ p, smallC l = p := ⟨_, rfl⟩
  obtain ⟨q, hq⟩ : ∃ q, smallB r = q := ⟨_, rfl⟩
  rw [hp] at HT HV HP
  rw [hq] at HV HQ
  have HK := Lib.hid (value_kinds l r t)
  have HN := Lib.hid (fun h => typeE_none (cols := l) (e := t) h)
  unfold TypeC at HT
  unfold ValueC at HV
  obtain ⟨T, hTT⟩ : ∃ T, typeE l t = T := ⟨_, rfl⟩
  obtain ⟨V, hVV⟩ : ∃ V, valueK l r t = V := ⟨_, rfl⟩
  rw [hTT] at HT HK HN
  rw [hVV] at HV HK
  obtain ⟨tk, tf⟩ := T
  obtain ⟨⟨vk, vn, vs⟩, vg⟩ := V
  dsimp only at HT HV HK HN
  clear hA hT hV hS hn ha hla hr hp hq hTT hVV
  go_enter Try.func3, Try.ntmps3
  obtain ⟨w0, hw0⟩ : ∃ w0, w.alloc (.cells #[.string op, .string tx, .slice X n k] 24) = w0 := ⟨_, rfl⟩
  have B0 := Lib.hid (show Below w.heap.size w w0 by rw [← hw0]; exact below_alloc w _)
  have N0 := Lib.hid (show NBox w0 w.heap.size (.string op) (.string tx) (.slice X n k) by rw [← hw0]; exact NBox.fresh _ _ _ _ _)
  have HW0 := Lib.hid hw0
  have hz0 : w.heap.size < w0.heap.size := by rw [← hw0]; simp
  clear hw0
  go_upto_region 1 with fail
  rw [HW0.out]
  go_wp2_with fail
  refine (HP.out w0 B0.out).mono ?_
  rintro e w1 ⟨rfl, hb⟩
  have B1 := Lib.hid (B0.out.trans (hb.mono (by omega)))
  have N1 := Lib.hid (N0.out.below hb)
  clear hb HP
  go_wp2_with fail
  refine (HQ.out w1 B1.out).mono ?_
  rintro e w1' ⟨rfl, rfl⟩
  clear HQ
  by_cases hbad : p = false ∨ q = false
  · have hpq : p = false ∨ (p = true ∧ q = false) := by
      rcases hbad with h | h
      · exact .inl h
      · cases p
        · exact .inl rfl
        · exact .inr ⟨rfl, h⟩
    clear hbad
    rcases hpq with rfl | ⟨rfl, rfl⟩
    all_goals
      go_wp2_with fail
      refine (HA.out _ B1.out).mono ?_
      rintro e w2 ⟨rfl, hb2⟩
      have L2 := Lib.hid (B1.out.trans (hb2.mono B1.out.size))
      clear hb2
      go_wp2
      go_ret
      exact ⟨rfl, L2.out⟩
  obtain ⟨rfl, rfl⟩ : p = true ∧ q = true := by
    constructor
    · cases p <;> simp_all
    · cases q <;> simp_all
  clear hbad
  obtain ⟨c0, c1, c2, cf⟩ := N1.out
  have z1 : w.heap.size < w1.heap.size := by have := B1.out.size; have := N1.out.lt; omega
  go_wp2_with fail
  refine (HSZ.out w1 B1.out).mono ?_
  rintro e w2 ⟨K, rfl, hb⟩
  have B2 := Lib.hid (B1.out.trans (hb.mono B1.out.size))
  have N2 := Lib.hid (N1.out.below hb)
  clear hb c0 c1 c2 cf
  by_cases hbig : 400 < K
  · have e1 : decide ((400 : Int) < K) = true := by simpa using hbig
    go_wp2_with fail
    refine (HA.out _ B2.out).mono ?_
    rintro e w3 ⟨rfl, hb2⟩
    have L2 := Lib.hid (B2.out.trans (hb2.mono B2.out.size))
    clear hb2
    go_wp2
    go_ret
    exact ⟨rfl, L2.out⟩
  have e1 : decide ((400 : Int) < K) = false := by simpa using hbig
  clear hbig
  obtain ⟨c0, c1, c2, cf⟩ := N2.out
  go_wp2_with fail
  refine (HT.out (by first | exact rfl | exact trivial) w2 B2.out).mono ?_
  rintro e w3 ⟨rfl, hb⟩
  have B3 := Lib.hid (B2.out.trans (hb.mono B2.out.size))
  have N3 := Lib.hid (N2.out.below hb)
  clear hb c0 c1 c2 cf
  obtain ⟨c0, c1, c2, cf⟩ := N3.out
  go_wp2_with fail
  refine (HV.out (by first | exact rfl | exact trivial) (by first | exact rfl | exact trivial) w3 B3.out).mono ?_
  rintro e w4 ⟨rfl, hb⟩
  have B4 := Lib.hid (B3.out.trans (hb.mono B3.out.size))
  clear hb c0 c1 c2 cf HT HV HSZ N0 N1 N2 N3 B0 B1 B2 B3
  have LB := Lib.hid (fun o => B4.out.alloc B4.out.size o)
  have z4 := B4.out.size
  by_cases hf : tf = 0
  case neg =>
    have e5 : (tf != 0) = true := by simpa using hf
    obtain ⟨h1, h2⟩ := HK.out.1 hf
    have h3 := HN.out hf
    (try dsimp only at h1 h2 h3)
    unfold nulV at h2
    simp only [Prod.mk.injEq] at h2
    obtain ⟨rfl, rfl, rfl⟩ := h2
    subst h1 h3
    clear HK HN hf B4
    go_wp2_with fail
    refine (HA.out _ (LB.out _)).mono ?_
    rintro e w5 ⟨rfl, hb⟩
    have B5 := Lib.hid ((LB.out _).trans (hb.mono (LB.out _).size))
    have d0 : w5.cell? ⟨w4.heap.size, 0, none⟩ = some (.int .i64 0) := (hb.cell (p := ⟨w4.heap.size, 0, none⟩) (by simp)).trans (by simp)
    have d1 : w5.cell? ⟨w4.heap.size, 1, none⟩ = some (.int .i64 0) := (hb.cell (p := ⟨w4.heap.size, 1, none⟩) (by simp)).trans (by simp)
    have d2 : w5.cell? ⟨w4.heap.size, 2, none⟩ = some (.string ⟨#[]⟩) := (hb.cell (p := ⟨w4.heap.size, 2, none⟩) (by simp)).trans (by simp)
    clear hb
    go_wp2
    go_ret
    exact ⟨by simp, B5.out⟩
  subst hf
  obtain ⟨h1, h2, h3⟩ := HK.out.2 rfl
  (try dsimp only at h1 h2 h3)
  by_cases hz : ((vk, vn, vs) : CV) = nulV
  · unfold nulV at hz
    simp only [Prod.mk.injEq] at hz
    obtain ⟨rfl, rfl, rfl⟩ := hz
    clear HK HN B4 h1 h3
    rcases h2 with rfl | rfl | rfl
    all_goals
      go_wp2_with fail
      refine (HA.out _ (LB.out _)).mono ?_
      rintro e w5 ⟨rfl, hb⟩
      have B5 := Lib.hid ((LB.out _).trans (hb.mono (LB.out _).size))
      have d0 : w5.cell? ⟨w4.heap.size, 0, none⟩ = some (.int .i64 0) := (hb.cell (p := ⟨w4.heap.size, 0, none⟩) (by simp)).trans (by simp)
      have d1 : w5.cell? ⟨w4.heap.size, 1, none⟩ = some (.int .i64 0) := (hb.cell (p := ⟨w4.heap.size, 1, none⟩) (by simp)).trans (by simp)
      have d2 : w5.cell? ⟨w4.heap.size, 2, none⟩ = some (.string ⟨#[]⟩) := (hb.cell (p := ⟨w4.heap.size, 2, none⟩) (by simp)).trans (by simp)
      clear hb
      go_wp2
      go_ret
      exact ⟨by simp, B5.out⟩
  · have hk : vk = tk := h1.resolve_left hz
    have hg : vg = 0 := h3.resolve_right hz
    subst hk hg
    have hz3 : (vk == 0) = false ∨ (vk = 0 ∧ (vn == 0) = false) ∨ (vk = 0 ∧ vn = 0 ∧ (vs.toList == []) = false) := by
      by_cases a : vk = 0
      · by_cases b : vn = 0
        · right; right
          refine ⟨a, b, ?_⟩
          rw [beq_eq_false_iff_ne]
          intro c
          apply hz
          rw [ByteArray.toList_eq] at c
          obtain ⟨⟨d⟩⟩ := vs
          have c : d = [] := c
          subst a b c
          rfl
        · right; left
          exact ⟨a, by simpa using b⟩
      · left
        simpa using a
    clear HK HN B4 h1 h2 h3 hz
    rcases hz3 with e7 | ⟨rfl, e7⟩ | ⟨rfl, rfl, e7⟩
    all_goals
      go_wp2_with fail
      refine (HA.out _ (LB.out _)).mono ?_
      rintro e w5 ⟨rfl, hb⟩
      have B5 := Lib.hid ((LB.out _).trans (hb.mono (LB.out _).size))
      have d0 := (hb.cell (p := ⟨w4.heap.size, 0, none⟩) (by simp)).trans (show _ = some _ by simp; rfl)
      have d1 := (hb.cell (p := ⟨w4.heap.size, 1, none⟩) (by simp)).trans (show _ = some _ by simp; rfl)
      have d2 := (hb.cell (p := ⟨w4.heap.size, 2, none⟩) (by simp)).trans (show _ = some (.string vs) by simp)
      clear hb
      go_wp2
      go_ret
      exact ⟨by simp, B5.out⟩
theorem small_le {l : List W} (h : smallC l = true) : l.length ≤ 20 := by
  unfold smallC at h
  simp at h
  omega
theorem walk (t : Nod) (op tx : ByteArray) (X : Option Addr) (n k : Nat) (A : Option Addr) (ca : Nat) (l : List W) (B : Option Addr) (cb : Nat) (r : List CV) (w : World) (hn : RIn w (fun g => g < w.heap.size) t (op, tx, X, n, k))
    (ha : At wc 3 w w.heap.size A l) (_ : ∀ x ∈ l, x.2.1.length ≤ 140737488355328) (hla : l.length ≤ 4398046511104) (_ : l.length ≤ ca) (hr : RowIn w B r) :
    Calls Try.prog 3 #[.agg #[.string op, .string tx, .slice X n k], .slice A l.length ca, .slice B r.length cb] w fun e w' => e = .returned (.bool true) ∧ Below w.heap.size w w' := by
  refine walk_of t (fun g => g < w.heap.size) op tx X n k A ca l B cb r w (fun g h => h) hn ha hla hr (fun w0 hb => alive13 w0) (fun hp w0 hb => ?_) (fun hp hq w0 hb => ?_)
  · exact type_any A ca l (by have := small_le hp; omega) t.deep t (Nat.le_refl _) (fun g => g < w.heap.size) op tx X n k w0 (fun g h => Nat.lt_of_lt_of_le h hb.size) (hn.bel (fun g h => h) hb) ((ha.below hb).more hb.size)
  · exact cvalue_any A ca l (by have := small_le hp; omega) B cb r (by have := hr.2.2.2; omega) hr.2.1 t (fun g => g < w.heap.size) op tx X n k w0 (fun g h => Nat.lt_of_lt_of_le h hb.size) (hn.bel (fun g h => h) hb) ((ha.below hb).more hb.size) ((hr.1.below hb).more hb.size)
end Go.Proofs.Ytkibacolnagkcaa.calcKinds
