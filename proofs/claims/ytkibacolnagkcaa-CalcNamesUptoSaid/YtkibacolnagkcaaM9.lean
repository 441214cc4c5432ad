/-
  Contracts of num.Narrow, value.holds and value.Right, for every argument (cut out of CodeVal).
-/
import Derived.Test.YtkibacolnagkcaaM7
import Derived.Test.YtkibacolnagkcaaM8
import Derived.Test.YtkibacolnagkcaaM4
import Derived.Test.YtkibacolnagkcaaM1
namespace Go.Proofs.Ytkibacolnagkcaa.Val
open Go.ChangeShapes Go.WideShapes Go.ChangeAt Go.RowKit
set_option linter.unusedVariables false

def nrE (n : Int) : Int := if -2147483648 ≤ n ∧ n ≤ 2147483647 then 0 else 12
def nrV (n : Int) : Int := if -2147483648 ≤ n ∧ n ≤ 2147483647 then n else 0

theorem narrow_any (a : Int) (w : World) (ha : fits a) :
    Calls Try.prog 100 #[.int .i64 a] w fun e w' => e = .returned (.tuple #[.int .i32 (nrV a), .int .i64 (nrE a)]) ∧ w = w' := by
  unfold fits at ha
  go_enter Try.func100, Try.ntmps100
  go_wp2
  all_goals go_ret2
  all_goals refine ⟨ret2 ?_ ?_, rfl⟩
  all_goals (try unfold wrap64 at *)
  all_goals (try unfold wrap32 at *)
  all_goals (first | unfold nrV | unfold nrE)
  all_goals ((try simp at *) <;> omega)

set_option maxHeartbeats 400000 in
theorem holds_any (k n : Int) (w : World) (hn : fits n) :
    Calls Try.prog 90 #[.int .i64 k, .int .i64 n] w fun e w' => e = .returned (.bool (holdsB k n)) ∧ w = w' := by
  by_cases h1 : k = 1
  · subst h1
    unfold fits at hn
    go_enter Try.func90, Try.ntmps90
    go_wp2
    go_ret
    exact ⟨retB (by unfold holdsB; rw [if_pos rfl]; refine decide_eq_decide.2 ?_; rw [IntKind.wrap_u64]; omega), rfl⟩
  by_cases h2 : k = 2
  · subst h2
    go_enter Try.func90, Try.ntmps90
    go_wp2_with (go_at_call 100; refine (narrow_any _ _ hn).mono ?_; rintro e w' ⟨rfl, rfl⟩)
    go_ret
    exact ⟨retB (by unfold holdsB nrE; by_cases h : -2147483648 ≤ n ∧ n ≤ 2147483647 <;> simp [h]), rfl⟩
  · have e1 : (k == 1) = false := by simpa using h1
    have e2 : (k == 2) = false := by simpa using h2
    go_enter Try.func90, Try.ntmps90
    go_wp2
    go_ret
    exact ⟨retB (by unfold holdsB; by_cases h3 : k = 3 <;> simp [h1, h2, h3]), rfl⟩

set_option maxHeartbeats 1000000 in
theorem right_any (k n : Int) (s : ByteArray) (w : World) (hn : fits n) :
    Calls Try.prog 78 #[.agg #[.int .i64 k, .int .i64 n, .string s]] w fun e w' => e = .returned (.bool (rightB k n s)) ∧ Below w.heap.size w w' := by
  have hb0 : ∀ o, Below w.heap.size w (w.alloc o) := fun o => (Below.refl _ _).alloc (Nat.le_refl _) o
  by_cases h4 : k = 4
  · subst h4
    by_cases hl : s.size ≤ 200
    · have hl' : decide (200 < s.size) = false := by simpa using hl
      by_cases h0 : n = 0
      all_goals
        go_enter Try.func78, Try.ntmps78
        go_wp2
        go_ret
        exact ⟨retB (by unfold rightB; simp [h0, hl]), by first | exact hb0 _ | exact (hb0 _).setCell (by simp) _⟩
    · have hl' : 200 < s.size := by omega
      go_enter Try.func78, Try.ntmps78
      go_wp2
      go_ret
      exact ⟨retB (by unfold rightB; simp; omega), by first | exact hb0 _ | exact (hb0 _).setCell (by simp) _⟩
  by_cases hk0 : k = 0
  · subst hk0
    by_cases hs : s.size = 0
    · obtain rfl := size0 hs
      by_cases h0 : n = 0
      all_goals
        go_enter Try.func78, Try.ntmps78
        go_wp2
        go_ret
        exact ⟨retB (by unfold rightB; simp [h0]; try rfl), hb0 _⟩
    · obtain ⟨e1, e2, e3⟩ := size_pos hs
      by_cases h0 : n = 0
      all_goals
        go_enter Try.func78, Try.ntmps78
        go_wp2
        go_ret
        exact ⟨retB (by unfold rightB; simp [h0, hs]), hb0 _⟩
  have k4 : (k == 4) = false := by simpa using h4
  have k0 : (k == 0) = false := by simpa using hk0
  by_cases hs : s.size = 0
  · obtain rfl := size0 hs
    go_enter Try.func78, Try.ntmps78
    go_wp2_with (go_at_call 90; refine (holds_any _ _ _ hn).mono ?_; rintro e w' ⟨rfl, rfl⟩)
    all_goals go_ret
    all_goals exact ⟨retB (by unfold rightB; simp [h4, hk0]; try (intro _; rfl)), hb0 _⟩
  · obtain ⟨e1, e2, e3⟩ := size_pos hs
    go_enter Try.func78, Try.ntmps78
    go_wp2_with (go_at_call 90; refine (holds_any _ _ _ hn).mono ?_; rintro e w' ⟨rfl, rfl⟩)
    all_goals go_ret
    all_goals exact ⟨retB (by unfold rightB; simp [h4, hk0, hs]), hb0 _⟩

end Go.Proofs.Ytkibacolnagkcaa.Val
namespace Go.Proofs.Ytkibacolnagkcaa.Code
open Go.ChangeShapes Go.WideShapes Go.ChangeAt Go.RowKit Val
theorem right_is (k n : Int) (s : ByteArray) (b : Bool) (hn : fits n) (h : rightB k n s = b) (w : World) :
    Calls Try.prog 78 #[.agg #[.int .i64 k, .int .i64 n, .string s]] w fun e w' => e = .returned (.bool b) ∧ Below w.heap.size w w' := by
  have := right_any k n s w hn
  rw [h] at this
  exact this

end Go.Proofs.Ytkibacolnagkcaa.Code
namespace Go.Proofs.Ytkibacolnagkcaa.Val
end Go.Proofs.Ytkibacolnagkcaa.Val

/-
  The contract of row.Right.
-/
namespace Go.Proofs.Ytkibacolnagkcaa.Code
open Go.ChangeShapes Go.WideShapes Go.ChangeAt Go.RowKit Val
set_option linter.unusedVariables false

end Go.Proofs.Ytkibacolnagkcaa.Code
/-
  Contracts of value.Fits and of the document's Fits of one value.
-/
namespace Go.Proofs.Ytkibacolnagkcaa.Val
open Go.ChangeShapes Go.WideShapes Go.ChangeAt Go.RowKit
set_option linter.unusedVariables false

theorem column_any (k : Int) (w : World) :
    Calls Try.prog 77 #[.int .i64 k] w fun e w' => e = .returned (.bool (columnB k)) ∧ w = w' := by
  by_cases h : 1 ≤ k
  all_goals
    go_enter Try.func77, Try.ntmps77
    go_wp2
    go_ret
    exact ⟨retB (by unfold columnB; simp; try omega), rfl⟩
theorem rcolumn_any (k : Int) (w : World) :
    Calls Try.prog 40 #[.int .i64 k] w fun e w' => e = .returned (.bool (columnB k)) ∧ w = w' := by
  by_cases h : 1 ≤ k
  all_goals
    go_enter Try.func40, Try.ntmps40
    go_wp2
    go_ret
    exact ⟨retB (by unfold columnB; simp; try omega), rfl⟩

/-- whether a value may be in a column of a kind -/
def fitV1 (k n : Int) (s : ByteArray) (c : Int) : Bool := columnB c && (rightB k n s && (k == 0 || k == c))
set_option maxHeartbeats 2000000 in
theorem vfits_any (k n : Int) (s : ByteArray) (c : Int) (hn : fits n) (w : World) :
    Calls Try.prog 52 #[.agg #[.int .i64 k, .int .i64 n, .string s], .int .i64 c] w fun e w' => e = .returned (.bool (fitV1 k n s c)) ∧ Below w.heap.size w w' := by
  have hc := fun w => column_any c w
  have hr := fun w => right_any k n s w hn
  have hx : fitV1 k n s c = (columnB c && (rightB k n s && (k == 0 || k == c))) := rfl
  generalize columnB c = p at hc hx
  generalize rightB k n s = q at hr hx
  have HC := Lib.hid hc
  have HR := Lib.hid hr
  have HX := Lib.hid hx
  clear hc hr hx
  rcases Bool.eq_false_or_eq_true (k == 0) with e0 | e0 <;> rcases Bool.eq_false_or_eq_true (k == c) with e1 | e1 <;> cases p <;> cases q
  all_goals
    rw [e0, e1] at HX
    go_enter Try.func52, Try.ntmps52
    go_wp2_with (first | (go_at_call 77; refine (HC.out _).mono ?_; rintro e w' ⟨rfl, rfl⟩) | (go_at_call 78; refine (HR.out _).mono ?_; rintro e w1 ⟨rfl, hb1⟩; obtain ⟨x0, x1, x2, xz⟩ := (Box.fresh w k n s 38).call hb1; have L1 := Lib.hid (bnext (below_alloc w _) (by simp) hb1); clear hb1))
    all_goals go_ret
    all_goals exact ⟨retB HX.out.symm, by first | exact L1.out | exact below_alloc w _⟩
end Go.Proofs.Ytkibacolnagkcaa.Val
/-
  Contracts of row.Fits and of the document's Fits of rows.
-/
namespace Go.Proofs.Ytkibacolnagkcaa.Code
open Go.ChangeShapes Go.WideShapes Go.ChangeAt Go.RowKit Val
set_option linter.unusedVariables false

def fitZ (l : List (Int × Int × ByteArray)) (ks : List Int) : List Bool := List.zipWith (fun v c => fitV1 v.1 v.2.1 v.2.2 c) l ks
/-- whether a row may be in a table of kinds -/
def rowFits (l : List (Int × Int × ByteArray)) (ks : List Int) : Bool := decide (l.length = ks.length) && (decide (l.length ≤ 24) && (fitZ l ks).all id)
theorem fitZ_snoc (l : List (Int × Int × ByteArray)) (ks : List Int) (k : Nat) (h : k < l.length) (g : k < ks.length) :
    ((fitZ l ks).take (k + 1)).all id = (((fitZ l ks).take k).all id && fitV1 l[k].1 l[k].2.1 l[k].2.2 ks[k]) := by
  have hz : k < (fitZ l ks).length := by unfold fitZ; rw [List.length_zipWith]; omega
  rw [List.take_succ_eq_append_getElem hz, List.all_append]
  simp [fitZ]
theorem fitZ_no {l : List (Int × Int × ByteArray)} {ks : List Int} {k : Nat} (h : k < l.length) (g : k < ks.length) (hf : fitV1 l[k].1 l[k].2.1 l[k].2.2 ks[k] = false) : rowFits l ks = false := by
  have : (fitZ l ks).all id = false := by
    have hz : k < (fitZ l ks).length := by unfold fitZ; rw [List.length_zipWith]; omega
    rw [List.all_eq_false]
    exact ⟨(fitZ l ks)[k], List.getElem_mem hz, by simp [fitZ, hf]⟩
  unfold rowFits
  rw [this]
  simp
theorem fitV1_right {k n : Int} {s : ByteArray} {c : Int} (h : fitV1 k n s c = true) : rightB k n s = true := by
  unfold fitV1 at h
  simp only [Bool.and_eq_true] at h
  exact h.2.1
theorem fits_right {l : List (Int × Int × ByteArray)} {ks : List Int} (h : rowFits l ks = true) : rightR l = true := by
  unfold rowFits at h
  simp only [Bool.and_eq_true, decide_eq_true_eq, List.all_eq_true] at h
  obtain ⟨h1, h2, h3⟩ := h
  unfold rightR rightL
  rw [Bool.and_eq_true, decide_eq_true_eq, List.all_eq_true]
  refine ⟨h2, fun v hv => ?_⟩
  obtain ⟨i, hi, rfl⟩ := List.getElem_of_mem hv
  have hz : i < (fitZ l ks).length := by unfold fitZ; rw [List.length_zipWith]; omega
  have := h3 _ (List.getElem_mem hz)
  simp only [fitZ, List.getElem_zipWith, id] at this
  exact fitV1_right this
theorem vfits_is (k n : Int) (s : ByteArray) (c : Int) (b : Bool) (h : fitV1 k n s c = b) (hn : fits n) (w : World) :
    Calls Try.prog 52 #[.agg #[.int .i64 k, .int .i64 n, .string s], .int .i64 c] w fun e w' => e = .returned (.bool b) ∧ Below w.heap.size w w' := by
  have := vfits_any k n s c hn w
  rw [h] at this
  exact this
set_option maxHeartbeats 4000000 in
theorem rowFits_any (A C : Option Addr) (ca cc : Nat) (l : List (Int × Int × ByteArray)) (ks : List Int) (w : World) (hv : Vals w w.heap.size A l) (hi : Ints w w.heap.size C ks) (hf : FitL l) (hl : l.length ≤ 140737488355328) (hk : ks.length ≤ 140737488355328) :
    Calls Try.prog 35 #[.slice A l.length ca, .slice C ks.length cc] w fun e w' => e = .returned (.bool (rowFits l ks)) ∧ Below w.heap.size w w' := by
  have HV := Lib.hid hv
  have HI := Lib.hid hi
  have HF := Lib.hid hf
  clear hv hi hf
  by_cases h1 : l.length = ks.length
  · have e1 : ((l.length : Int) != (ks.length : Int)) = false := by simp; omega
    by_cases h2 : l.length ≤ 24
    · have e2 : decide ((24 : Int) < (l.length : Int)) = false := by simp; omega
      have HD := Lib.hid (show rowFits l ks = (fitZ l ks).all id by unfold rowFits; rw [decide_eq_true h1, decide_eq_true h2]; rfl)
      have H1 := Lib.hid h1
      clear h1
      have hle : l.length ≤ ks.length := by have := H1.out; omega
      go_enter Try.func35, Try.ntmps35
      go_wp2
      go_loopw [18] (fun i wr => ∃ k : Nat, k ≤ l.length ∧ i = .int .i64 k ∧ Hid (((fitZ l ks).take k).all id = true) ∧ Below w.heap.size w wr) (fun i _ => l.length - (intOf i).toNat)
      case atStart => exact ⟨0, by omega, rfl, Lib.hid rfl, Below.refl _ _⟩
      case round =>
        obtain ⟨k, hk2, rfl, HK, hbel⟩ := hrel
        have hsz := hbel.size
        have HL := Lib.hid hbel
        have VA := Lib.hid (HV.out.below hbel)
        have VI := Lib.hid (HI.out.below hbel)
        clear hbel
        by_cases hkl : k < l.length
        · have hkl2 : k < ks.length := by omega
          obtain ⟨ad, rfl, ha, c0, c1, c2⟩ := VA.out k hkl
          obtain ⟨cd, rfl, hc, d0⟩ := VI.out k hkl2
          have HN := Lib.hid (HF.out l[k] (List.getElem_mem hkl))
          have HZ := Lib.hid (fitZ_snoc l ks k hkl hkl2)
          have za : (ad.add (k * 3)).block < wr.heap.size := by rw [add_block]; omega
          have zc : (cd.add k).block < wr.heap.size := by rw [add_block]; omega
          obtain ⟨p, hp⟩ : ∃ p, ad.add (k * 3) = p := ⟨_, rfl⟩
          obtain ⟨q, hq⟩ : ∃ q, cd.add k = q := ⟨_, rfl⟩
          obtain ⟨b, hb⟩ : ∃ b, fitV1 l[k].1 l[k].2.1 l[k].2.2 ks[k] = b := ⟨_, rfl⟩
          have HC := Lib.hid (vfits_is l[k].1 l[k].2.1 l[k].2.2 ks[k] b hb HN.out)
          have HB := Lib.hid hb
          clear hb
          cases b
          all_goals
            go_wp2_with fail
            rw [hp] at c0 c1 c2 za
            rw [hq] at d0 zc
            go_region_held3 (fun w' => (w'.cell? p = some (.int .i64 l[k].1) ∧ w'.cell? ⟨p.block, p.off + 1, none⟩ = some (.int .i64 l[k].2.1) ∧ w'.cell? ⟨p.block, p.off + 2, none⟩ = some (.string l[k].2.2) ∧ w'.cell? q = some (.int .i64 ks[k])) ∧ Below wr.heap.size wr w')
              (first | assumption | (refine keepP hb5 (by assumption) ?_; intro kk; exact ⟨(kk p za).trans c0, (kk ⟨p.block, p.off + 1, none⟩ za).trans c1, (kk ⟨p.block, p.off + 2, none⟩ za).trans c2, (kk q zc).trans d0⟩) | (exact ⟨⟨c0, c1, c2, d0⟩, Below.drew (Below.refl _ _)⟩))
              (first | (go_at_call 52; refine (HC.out _).mono ?_; rintro e w5 ⟨rfl, hb5⟩))
            all_goals
              have M1 := Lib.hid (show Below wr.heap.size wr _ by rename_i hS; exact hS.2)
              go_wp2
              first
                | (go_ret
                   exact ⟨retB (fitZ_no hkl hkl2 HB.out).symm, bnext HL.out hsz M1.out⟩)
                | (go_roundw
                   case rel => exact ⟨k + 1, by omega, by go_num, Lib.hid (by rw [HZ.out, HK.out, HB.out]; rfl), bnext HL.out hsz M1.out⟩
                   case measure => simp [intOf]; omega)
        · have HX := Lib.hid (show (fitZ l ks).all id = true by have := HK.out; rwa [List.take_of_length_le (by unfold fitZ; rw [List.length_zipWith]; omega)] at this)
          go_wp2
          go_ret
          exact ⟨retB (by rw [HD.out, HX.out]), HL.out⟩
    · have e2 : decide ((24 : Int) < (l.length : Int)) = true := by simp; omega
      have HD := Lib.hid (show rowFits l ks = false by unfold rowFits; rw [decide_eq_false h2]; simp)
      clear h1
      go_enter Try.func35, Try.ntmps35
      go_wp2
      go_ret
      exact ⟨retB HD.out.symm, Below.refl _ _⟩
  · have e1 : ((l.length : Int) != (ks.length : Int)) = true := by simp; omega
    have HD := Lib.hid (show rowFits l ks = false by unfold rowFits; rw [decide_eq_false h1]; rfl)
    clear h1
    go_enter Try.func35, Try.ntmps35
    go_wp2
    go_ret
    exact ⟨retB HD.out.symm, Below.refl _ _⟩
end Go.Proofs.Ytkibacolnagkcaa.Code
/-
  Columns of tables in plain words: a column is its number, its name, its kind; whether columns are a schema, what is found, what is changed. No program is named here.
-/
namespace Go.Proofs.Ytkibacolnagkcaa.Code
open Val
set_option linter.unusedVariables false
def ownN (s : List UInt8) : Bool := s == [116, 114, 117, 101] || (s == [102, 97, 108, 115, 101] || (s == [110, 117, 108, 108] || (s == [97, 110, 100] || (s == [111, 114] || (s == [110, 111, 116] || s == [105, 115])))))
/-- may a text be a name? -/
def nameC (s : List UInt8) : Bool := match wordsL s 0 with | .ok [w] => w.1 == 0 && (w.2.1 == s && !ownN s) | _ => false
/-- may a column be, by itself? -/
def colC (c : W) : Bool := nameC c.2.1 && (columnB c.2.2 && decide (1 ≤ c.1))
/-- is a column apart from some: neither number nor name is there? -/
def apartC (c : W) (l : List W) : Bool := l.all fun x => x.1 != c.1 && x.2.1 != c.2.1
/-- columns behind others: each may be, and is apart from those ahead -/
def schL : List W → List W → Bool
  | _, [] => true
  | a, c :: l => colC c && (apartC c a && schL (a ++ [c]) l)
def schC (l : List W) : Bool := schL [] l && (decide (1 ≤ l.length) && decide (l.length ≤ 12))
/-- the first place of a name -/
def findC (l : List W) (s : List UInt8) : Option Nat := l.findIdx? fun c => c.2.1 == s
def findZ (l : List W) (s : List UInt8) : Int := match findC l s with | some i => (i : Int) | none => -1
def kindsC (l : List W) : List Int := l.map fun c => c.2.2
def alikeC : List W → List W → Bool
  | [], [] => true
  | a :: l, b :: m => (a.2.1 == b.2.1 && a.2.2 == b.2.2) && alikeC l m
  | _, _ => false
def addC (l : List W) (c : W) : List W × Int :=
  if (colC c && l.all fun x => x.1 != c.1) = false then ([], 1) else if (findC l c.2.1).isSome = true then ([], 122) else if 12 ≤ l.length then ([], 62) else (l ++ [c], 0)
def dropC (l : List W) (s : List UInt8) : List W × Int := match findC l s with
  | none => ([], 121)
  | some k => if l.length = 1 then ([], 191) else (l.eraseIdx k, 0)
def renameC (l : List W) (s to : List UInt8) : List W × Int := match findC l s with
  | none => ([], 121)
  | some k => if nameC to = false then ([], 1) else if (findC l to).isSome = true then ([], 122) else (l.modify k fun c => (c.1, to, c.2.2), 0)
def widenC (l : List W) (s : List UInt8) (k : Int) : List W × Int := match findC l s with
  | none => ([], 121)
  | some i => if columnB k = false then ([], 1) else if widerB k (l.getD i (0, [], 0)).2.2 = false then ([], 12) else (l.modify i fun c => (c.1, c.2.1, k), 0)
theorem find_some {l : List W} {s : List UInt8} {i : Nat} (h : findC l s = some i) : ∃ hi : i < l.length, l[i].2.1 = s ∧ ∀ j (hj : j < i), (l[j]'(by omega)).2.1 ≠ s := by
  obtain ⟨hi, h1, h2⟩ := List.findIdx?_eq_some_iff_getElem.1 h
  exact ⟨hi, by simpa using h1, fun j hj => by simpa using h2 j hj⟩
theorem find_none {l : List W} {s : List UInt8} (h : findC l s = none) : ∀ c ∈ l, c.2.1 ≠ s := by
  have := List.findIdx?_eq_none_iff.1 h
  intro c hc
  simpa using this c hc
theorem find_at {l : List W} {s : List UInt8} {i : Nat} (hi : i < l.length) (h1 : l[i].2.1 = s) (h2 : ∀ j (hj : j < i), (l[j]'(by omega)).2.1 ≠ s) : findC l s = some i :=
  List.findIdx?_eq_some_iff_getElem.2 ⟨hi, by simpa using h1, fun j hj => by simpa using h2 j hj⟩
theorem find_no {l : List W} {s : List UInt8} (h : ∀ c ∈ l, c.2.1 ≠ s) : findC l s = none :=
  List.findIdx?_eq_none_iff.2 fun c hc => by simpa using h c hc
/-- columns behind others, one after the other -/
theorem schL_app (m : List W) : ∀ (l a : List W), schL a (l ++ m) = (schL a l && schL (a ++ l) m)
  | [], a => by rw [List.nil_append, schL, List.append_nil, Bool.true_and]
  | c :: l, a => by
    rw [List.cons_append, schL, schL, schL_app m l, List.append_assoc]
    simp [Bool.and_assoc]
theorem schL_one (a : List W) (c : W) : schL a [c] = (colC c && apartC c a) := by rw [schL, schL, Bool.and_true]
theorem schL_take (l : List W) (i : Nat) (hi : i < l.length) : schL [] (l.take (i + 1)) = (schL [] (l.take i) && (colC l[i] && apartC l[i] (l.take i))) := by
  rw [List.take_succ_eq_append_getElem hi, schL_app, schL_one, List.nil_append]
theorem schL_false {l : List W} (i : Nat) (h : schL [] (l.take i) = false) : schL [] l = false := by
  have := schL_app (l.drop i) (l.take i) []
  rw [List.take_append_drop, h, Bool.false_and] at this
  exact this
end Go.Proofs.Ytkibacolnagkcaa.Code
/-
  Of a schema another one comes, in plain words. No program is named here.
-/
namespace Go.Proofs.Ytkibacolnagkcaa.Code
open Val
set_option linter.unusedVariables false
def Two (x y : W) : Prop := x.1 ≠ y.1 ∧ x.2.1 ≠ y.2.1
theorem apart_iff (c : W) (l : List W) : apartC c l = true ↔ ∀ x ∈ l, Two x c := by
  unfold apartC Two
  rw [List.all_eq_true]
  simp
theorem schL_iff : ∀ (l a : List W), schL a l = true ↔ (∀ c ∈ l, colC c = true) ∧ (∀ x ∈ a, ∀ c ∈ l, Two x c) ∧ l.Pairwise Two
  | [], a => by simp [schL]
  | c :: l, a => by
    rw [schL, Bool.and_eq_true, Bool.and_eq_true, apart_iff, schL_iff l]
    constructor
    · rintro ⟨h1, h2, h3, h4, h5⟩
      refine ⟨fun d hd => ?_, fun x hx d hd => ?_, List.Pairwise.cons (fun d hd => h4 c (List.mem_append_right _ (List.mem_singleton.2 rfl)) d hd) h5⟩
      · rcases List.mem_cons.1 hd with rfl | hd
        · exact h1
        · exact h3 d hd
      · rcases List.mem_cons.1 hd with rfl | hd
        · exact h2 x hx
        · exact h4 x (List.mem_append_left _ hx) d hd
    · rintro ⟨h1, h2, h3⟩
      have h4 := List.pairwise_cons.1 h3
      refine ⟨h1 c (List.mem_cons_self ..), fun x hx => h2 x hx c (List.mem_cons_self ..), fun d hd => h1 d (List.mem_cons_of_mem _ hd), fun x hx d hd => ?_, h4.2⟩
      rcases List.mem_append.1 hx with hx | hx
      · exact h2 x hx d (List.mem_cons_of_mem _ hd)
      · obtain rfl := List.mem_singleton.1 hx
        exact h4.1 d hd
theorem sch_iff (l : List W) : schC l = true ↔ ((∀ c ∈ l, colC c = true) ∧ l.Pairwise Two) ∧ 1 ≤ l.length ∧ l.length ≤ 12 := by
  unfold schC
  rw [Bool.and_eq_true, schL_iff, Bool.and_eq_true]
  simp
theorem add_stays {l a : List W} {c : W} (h : schC l = true) (ha : addC l c = (a, 0)) : schC a = true ∧ a = l ++ [c] := by
  rw [sch_iff] at h
  unfold addC at ha
  split at ha
  · cases ha
  rename_i h1
  split at ha
  · cases ha
  rename_i h2
  split at ha
  · cases ha
  rename_i h3
  cases ha
  refine ⟨?_, rfl⟩
  simp only [Bool.not_eq_false, Bool.and_eq_true, List.all_eq_true] at h1
  have hn : findC l c.2.1 = none := by
    cases e : findC l c.2.1 with
    | none => rfl
    | some k => rw [e] at h2; exact absurd rfl h2
  rw [sch_iff]
  refine ⟨⟨fun d hd => ?_, List.pairwise_append.2 ⟨h.1.2, List.pairwise_singleton _ _, fun x hx d hd => ?_⟩⟩, by simp, by simp; omega⟩
  · rcases List.mem_append.1 hd with hd | hd
    · exact h.1.1 d hd
    · obtain rfl := List.mem_singleton.1 hd
      exact h1.1
  · obtain rfl := List.mem_singleton.1 hd
    exact ⟨by simpa using h1.2 x hx, find_none hn x hx⟩
theorem names_apart {l : List W} (h : l.Pairwise Two) {i j : Nat} (hi : i < l.length) (hj : j < l.length) (hne : i ≠ j) : l[i].1 ≠ l[j].1 ∧ l[i].2.1 ≠ l[j].2.1 := by
  have hp := List.pairwise_iff_getElem.1 h
  rcases Nat.lt_or_gt_of_ne hne with hlt | hlt
  · exact hp i j hi hj hlt
  · have := hp j i hj hi hlt
    exact ⟨fun e => this.1 e.symm, fun e => this.2 e.symm⟩
theorem drop_stays {l d : List W} {s : List UInt8} (h : schC l = true) (hd : dropC l s = (d, 0)) : schC d = true ∧ d.length = l.length - 1 ∧ findC d s = none := by
  rw [sch_iff] at h
  unfold dropC at hd
  split at hd
  · cases hd
  rename_i k hk
  split at hd
  · cases hd
  rename_i h1
  cases hd
  obtain ⟨hi, hs, _⟩ := find_some hk
  have hl : (l.eraseIdx k).length = l.length - 1 := List.length_eraseIdx_of_lt hi
  refine ⟨?_, hl, find_no fun c hc => ?_⟩
  · rw [sch_iff]
    exact ⟨⟨fun c hc => h.1.1 c (List.mem_of_mem_eraseIdx hc), h.1.2.sublist (List.eraseIdx_sublist ..)⟩, by omega, by omega⟩
  · obtain ⟨j, hj, hne, e⟩ := List.mem_eraseIdx_iff_getElem.1 hc
    rw [← e, ← hs]
    exact (names_apart h.1.2 hj hi hne).2
theorem modify_get {l : List W} {k : Nat} {f : W → W} {i : Nat} (hi : i < (l.modify k f).length) : (l.modify k f)[i] = if k = i then f (l[i]'(by simpa using hi)) else l[i]'(by simpa using hi) := List.getElem_modify ..
theorem rename_stays {l r : List W} {s to : List UInt8} (h : schC l = true) (hr : renameC l s to = (r, 0)) : schC r = true ∧ r.length = l.length ∧ (∀ (i : Nat) (hi : i < l.length) (hi' : i < r.length), r[i].1 = l[i].1) ∧ findC r s = none ∧ (findC r to).isSome = true := by
  rw [sch_iff] at h
  unfold renameC at hr
  split at hr
  · cases hr
  rename_i k hk
  split at hr
  · cases hr
  rename_i h1
  split at hr
  · cases hr
  rename_i h2
  cases hr
  obtain ⟨hi, hs, _⟩ := find_some hk
  have hn : findC l to = none := by
    cases e : findC l to with
    | none => rfl
    | some k => rw [e] at h2; exact absurd rfl h2
  have hl : (l.modify k fun c => (c.1, to, c.2.2)).length = l.length := by simp
  have hto : ∀ (i : Nat) (hi : i < l.length), l[i].2.1 ≠ to := fun i hi => find_none hn _ (List.getElem_mem hi)
  have hcol : ∀ c ∈ (l.modify k fun c => (c.1, to, c.2.2)), colC c = true := by
    intro c hc
    obtain ⟨j, hj, rfl⟩ := List.getElem_of_mem hc
    have hj' : j < l.length := by omega
    have h9 := h.1.1 l[j] (List.getElem_mem hj')
    rw [modify_get]
    split
    · unfold colC at h9 ⊢
      simp only [Bool.and_eq_true] at h9 ⊢
      exact ⟨by simpa using h1, h9.2⟩
    · exact h9
  refine ⟨?_, hl, ?_, ?_, ?_⟩
  · rw [sch_iff]
    refine ⟨⟨hcol, List.pairwise_iff_getElem.2 fun i j hi hj hij => ?_⟩, by omega, by omega⟩
    have hi' : i < l.length := by omega
    have hj' : j < l.length := by omega
    have h9 := names_apart h.1.2 hi' hj' (by omega)
    rw [modify_get, modify_get]
    by_cases e1 : k = i
    · rw [if_pos e1, if_neg (by omega)]
      exact ⟨h9.1, fun e => hto j hj' e.symm⟩
    · rw [if_neg e1]
      by_cases e2 : k = j
      · rw [if_pos e2]
        exact ⟨h9.1, fun e => hto i hi' e⟩
      · rw [if_neg e2]
        exact h9
  · intro i hi hi'
    rw [modify_get]
    split <;> rfl
  · refine find_no fun c hc => ?_
    obtain ⟨j, hj, rfl⟩ := List.getElem_of_mem hc
    have hj' : j < l.length := by omega
    rw [modify_get]
    by_cases e1 : k = j
    · rw [if_pos e1, ← hs]
      exact fun e => hto k hi e.symm
    · rw [if_neg e1, ← hs]
      exact (names_apart h.1.2 hj' hi (fun e => e1 e.symm)).2
  · cases e : findC (l.modify k fun c => (c.1, to, c.2.2)) to with
    | some q => rfl
    | none =>
      have := find_none e (l.modify k fun c => (c.1, to, c.2.2))[k] (List.getElem_mem (by omega))
      rw [modify_get, if_pos rfl] at this
      exact absurd rfl this
theorem widen_stays {l r : List W} {s : List UInt8} {k : Int} (h : schC l = true) (hr : widenC l s k = (r, 0)) : schC r = true ∧ r.length = l.length ∧ (∀ (i : Nat) (hi : i < l.length) (hi' : i < r.length), r[i].1 = l[i].1 ∧ r[i].2.1 = l[i].2.1) := by
  rw [sch_iff] at h
  unfold widenC at hr
  split at hr
  · cases hr
  rename_i q hq
  split at hr
  · cases hr
  rename_i h1
  split at hr
  · cases hr
  rename_i h2
  cases hr
  have hl : (l.modify q fun c => (c.1, c.2.1, k)).length = l.length := by simp
  refine ⟨?_, hl, ?_⟩
  · rw [sch_iff]
    refine ⟨⟨fun c hc => ?_, List.pairwise_iff_getElem.2 fun i j hi hj hij => ?_⟩, by omega, by omega⟩
    · obtain ⟨j, hj, rfl⟩ := List.getElem_of_mem hc
      have hj' : j < l.length := by omega
      have h9 := h.1.1 l[j] (List.getElem_mem hj')
      rw [modify_get]
      split
      · unfold colC at h9 ⊢
        simp only [Bool.and_eq_true] at h9 ⊢
        exact ⟨h9.1, by simpa using h1, h9.2.2⟩
      · exact h9
    · have hi' : i < l.length := by omega
      have hj' : j < l.length := by omega
      have h9 := names_apart h.1.2 hi' hj' (by omega)
      rw [modify_get, modify_get]
      split <;> split <;> exact h9
  · intro i hi hi'
    rw [modify_get]
    split <;> exact ⟨rfl, rfl⟩
end Go.Proofs.Ytkibacolnagkcaa.Code
