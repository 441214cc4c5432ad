/-
  Contracts of lex's functions of a byte, and of the document's: which is a blank, a figure, a letter, a name's; how long a word may be.
-/
import Derived.Test.YtpohpgahnompbaaGreatDoorM4
import Derived.Test.YtpohpgahnompbaaGreatDoorM8
import Derived.Test.YtpohpgahnompbaaGreatDoorM6
import Derived.Test.YtpohpgahnompbaaGreatDoorM7
import Derived.Laws.CopyOwn
import Derived.Laws.MakeOwn
import Derived.Laws.Tables
import Derived.Deep.RegionLaw
namespace Go.Proofs.YtpohpgahnompbaaGreatDoor.Code
open Go.ChangeShapes Go.WideShapes Go.ChangeAt Go.RowKit Val
set_option linter.unusedVariables false
set_option linter.unusedSimpArgs false
theorem blank_any (c : UInt8) (w : World) :
    Calls Tryz.prog 22 #[.int .u8 c.toNat] w fun e w' => e = .returned (.bool (blankB c)) ∧ w = w' := by
  go_enter Tryz.func22, Tryz.ntmps22
  go_wp2
  all_goals go_ret
  all_goals (refine ⟨retB ?_, rfl⟩; rw [Bool.eq_iff_iff]; unfold blankB; simp only [Bool.or_eq_true, Bool.and_eq_true, decide_eq_true_eq, beq_iff_eq]; first | omega | (simp; omega))
theorem figure_any (c : UInt8) (w : World) :
    Calls Tryz.prog 53 #[.int .u8 c.toNat] w fun e w' => e = .returned (.bool (figB c)) ∧ w = w' := by
  go_enter Tryz.func53, Tryz.ntmps53
  go_wp2
  all_goals go_ret
  all_goals (refine ⟨retB ?_, rfl⟩; rw [Bool.eq_iff_iff]; unfold figB; simp only [Bool.or_eq_true, Bool.and_eq_true, decide_eq_true_eq, beq_iff_eq]; first | omega | (simp; omega))
theorem letter_any (c : UInt8) (w : World) :
    Calls Tryz.prog 55 #[.int .u8 c.toNat] w fun e w' => e = .returned (.bool (letB c)) ∧ w = w' := by
  go_enter Tryz.func55, Tryz.ntmps55
  go_wp2
  all_goals go_ret
  all_goals (refine ⟨retB ?_, rfl⟩; rw [Bool.eq_iff_iff]; unfold letB; simp only [Bool.or_eq_true, Bool.and_eq_true, decide_eq_true_eq, beq_iff_eq]; first | omega | (simp; omega))
theorem rfigure_any (c : UInt8) (w : World) :
    Calls Tryz.prog 38 #[.int .u8 c.toNat] w fun e w' => e = .returned (.bool (figB c)) ∧ w = w' := by
  go_enter Tryz.func38, Tryz.ntmps38
  go_wp2
  all_goals go_ret
  all_goals (refine ⟨retB ?_, rfl⟩; rw [Bool.eq_iff_iff]; unfold figB; simp only [Bool.or_eq_true, Bool.and_eq_true, decide_eq_true_eq, beq_iff_eq]; first | omega | (simp; omega))
theorem rletter_any (c : UInt8) (w : World) :
    Calls Tryz.prog 37 #[.int .u8 c.toNat] w fun e w' => e = .returned (.bool (letB c)) ∧ w = w' := by
  go_enter Tryz.func37, Tryz.ntmps37
  go_wp2
  all_goals go_ret
  all_goals (refine ⟨retB ?_, rfl⟩; rw [Bool.eq_iff_iff]; unfold letB; simp only [Bool.or_eq_true, Bool.and_eq_true, decide_eq_true_eq, beq_iff_eq]; first | omega | (simp; omega))
theorem inName_any (c : UInt8) (w : World) :
    Calls Tryz.prog 56 #[.int .u8 c.toNat] w fun e w' => e = .returned (.bool (nameB c)) ∧ w = w' := by
  go_enter Tryz.func56, Tryz.ntmps56
  go_wp2_with fail
  refine (letter_any c _).mono ?_
  rintro e w1 ⟨rfl, rfl⟩
  have HL := Lib.hid (show nameB c = (letB c || figB c || decide (c.toNat = 95)) by rfl)
  cases hl : letB c
  · have HL := Lib.hid (HL.out.trans (by rw [hl]) : nameB c = (false || figB c || decide (c.toNat = 95)))
    go_wp2_with fail
    refine (figure_any c _).mono ?_
    rintro e w1 ⟨rfl, rfl⟩
    cases hf : figB c
    · have HL := Lib.hid (HL.out.trans (by rw [hf]) : nameB c = (false || false || decide (c.toNat = 95)))
      go_wp2
      all_goals go_ret
      all_goals (refine ⟨retB ?_, rfl⟩; rw [HL.out, Bool.eq_iff_iff]; simp only [Bool.false_or, decide_eq_true_eq, beq_iff_eq]; first | omega | (simp; omega))
    · have HL := Lib.hid (HL.out.trans (by rw [hf]; rfl) : nameB c = true)
      go_wp2
      all_goals go_ret
      all_goals (refine ⟨retB ?_, rfl⟩; rw [HL.out])
  · have HL := Lib.hid (HL.out.trans (by rw [hl]; rfl) : nameB c = true)
    go_wp2
    all_goals go_ret
    all_goals (refine ⟨retB ?_, rfl⟩; rw [HL.out])
/-- how many bytes a kind's text may have -/
def longK (k : Int) : Int := if k = 0 then 20 else if k = 1 then 19 else if k = 2 then 200 else 2
theorem longest_any (k : Int) (w : World) :
    Calls Tryz.prog 33 #[.int .i64 k] w fun e w' => e = .returned (.int .i64 (longK k)) ∧ w = w' := by
  by_cases h0 : k = 0
  · subst h0
    go_enter Tryz.func33, Tryz.ntmps33
    go_wp2
    go_ret
    exact ⟨rfl, rfl⟩
  by_cases h1 : k = 1
  · subst h1
    go_enter Tryz.func33, Tryz.ntmps33
    go_wp2
    go_ret
    exact ⟨rfl, rfl⟩
  by_cases h2 : k = 2
  · subst h2
    go_enter Tryz.func33, Tryz.ntmps33
    go_wp2
    go_ret
    exact ⟨rfl, rfl⟩
  have HK := Lib.hid (show longK k = 2 by unfold longK; rw [if_neg h0, if_neg h1, if_neg h2])
  have e0 : (k == 0) = false := by simpa using h0
  have e1 : (k == 1) = false := by simpa using h1
  have e2 : (k == 2) = false := by simpa using h2
  clear h0 h1 h2
  go_enter Tryz.func33, Tryz.ntmps33
  go_wp2
  go_ret
  exact ⟨ret1 HK.out.symm, rfl⟩
end Go.Proofs.YtpohpgahnompbaaGreatDoor.Code

/-
  Lists of values that a call makes: made whole, copied into, stored into; lists of numbers, and lists of rows, in memory. No function of the program is named.
-/
namespace Go.Proofs.YtpohpgahnompbaaGreatDoor.Code
open Go.ChangeShapes Go.WideShapes Go.ChangeAt Go.RowKit Val
set_option linter.unusedVariables false

theorem flat_take : ∀ (D : List (Int × Int × ByteArray)) (n : Nat), (flat D).take (n * 3) = flat (D.take n)
  | [], n => by simp [flat]
  | v :: D, 0 => by simp [flat]
  | v :: D, n + 1 => by
    show (cells3 v ++ flat D).take ((n + 1) * 3) = cells3 v ++ flat (D.take n)
    rw [List.take_append, List.take_of_length_le (by show 3 ≤ _; omega), show (n + 1) * 3 - (cells3 v).length = n * 3 by show (n + 1) * 3 - 3 = _; omega, flat_take D n]
theorem flat_drop : ∀ (D : List (Int × Int × ByteArray)) (n : Nat), (flat D).drop (n * 3) = flat (D.drop n)
  | [], n => by simp [flat]
  | v :: D, 0 => by simp [flat]
  | v :: D, n + 1 => by
    show (cells3 v ++ flat D).drop ((n + 1) * 3) = flat (D.drop n)
    rw [List.drop_append, List.drop_of_length_le (by show 3 ≤ _; omega), show (n + 1) * 3 - (cells3 v).length = n * 3 by show (n + 1) * 3 - 3 = _; omega, flat_drop D n]
    rfl
theorem flat_set : ∀ (D : List (Int × Int × ByteArray)) (k : Nat) (v : Int × Int × ByteArray), k < D.length →
    flat (D.set k v) = (((flat D).set (k * 3) (.int .i64 v.1)).set (k * 3 + 1) (.int .i64 v.2.1)).set (k * 3 + 2) (.string v.2.2)
  | x :: D, 0, v, _ => rfl
  | x :: D, k + 1, v, h => by
    have ih := flat_set D k v (by simpa using h)
    show cells3 x ++ flat (D.set k v) = _
    rw [ih, show flat (x :: D) = cells3 x ++ flat D from rfl, show (k + 1) * 3 = k * 3 + 1 + 1 + 1 by omega]
    simp [cells3]
def zV : Int × Int × ByteArray := (0, 0, ByteArray.empty)
theorem made_vals (n : Nat) : madeCells #[.int .i64 0, .int .i64 0, .string ByteArray.empty] (n * 3) = (flat (List.replicate n zV)).toArray := by
  apply Array.toList_inj.1
  apply List.ext_getElem?
  intro j
  by_cases hj : j < n * 3
  · obtain ⟨i, r, hr, rfl⟩ : ∃ i r, r < 3 ∧ j = i * 3 + r := ⟨j / 3, j % 3, Nat.mod_lt _ (by decide), by omega⟩
    rw [flat_at _ i (by simp; omega) r hr]
    have e : (i * 3 + r) % 3 = r := by omega
    simp [madeCells, hj, e, zV, cells3]
    match r, hr with
    | 0, _ => rfl
    | 1, _ => rfl
    | 2, _ => rfl
  · rw [List.getElem?_eq_none (by simp [madeCells]; omega), List.getElem?_eq_none (by rw [flat_length]; simp; omega)]
/-- 'make', of values: a new block of zeros -/
theorem wpList_make_vals {P : Program} (w : World) {ops : Array Oper} {rest : List Oper} {o : Oper} {a : Act} {Q : Exit → Act → World → Prop}
    (hg : o.guard = none) (l c : Operand) (t : TypeId) (hop : o.op = Op.makeSlice t l c) (e : TypeId) (i : TypeInfo) (h1 : P.underlying t = some (.slice e)) (h2 : P.info? e = some i)
    (h3 : i.zero = some (.agg #[.int .i64 0, .int .i64 0, .string ByteArray.empty])) (h4 : i.size = 3) (h5 : i.bytes = 32)
    (kl kc : IntKind) (L C : Int) (n : Nat) (hl : a.eval l = .int kl L) (hc : a.eval c = .int kc C) (hL : L = (n : Int)) (hC : C = (n : Int)) (b : n ≤ 8796093022208)
    (hK : wpList P ops Q rest (a.put o.dst (.slice (some ⟨w.heap.size, 0, none⟩) n n)) (w.alloc (.cells (flat (List.replicate n zV)).toArray e))) :
    wpList P ops Q (o :: rest) a w := by
  refine wpList_plain hg fun K hK' => ?_
  have hr := run_make (P := P) w t e i _ h1 h2 h3 kl kc n n (by omega) (Int.le_refl _) (by rw [h5]; omega) (by omega)
  rw [Int.toNat_natCast, h4, show (Value.agg #[.int .i64 0, .int .i64 0, .string ByteArray.empty]).cells = #[.int .i64 0, .int .i64 0, .string ByteArray.empty] by rfl, made_vals] at hr
  subst hL
  subst hC
  unfold Oper.wp
  simp [execOp, hop, hl, hc, hr, Result.andThen]
  exact hK' _ _ hK

/-- the block holds these values, and no more -/
def Blk (w : World) (g : Nat) (D : List (Int × Int × ByteArray)) : Prop := w.heap[g]? = some (.cells (flat D).toArray 85 (0, 0))
theorem Blk.lt {w : World} {g : Nat} {D : List (Int × Int × ByteArray)} (h : Blk w g D) : g < w.heap.size := (Array.getElem?_eq_some_iff.1 h).1
theorem Blk.fresh (w : World) (D : List (Int × Int × ByteArray)) : Blk (w.alloc (.cells (flat D).toArray 85)) w.heap.size D := heap_alloc_new w _
theorem Blk.keep {w w' : World} {g : Nat} {D : List (Int × Int × ByteArray)} (h : Blk w g D) (hb : w'.heap[g]? = w.heap[g]?) : Blk w' g D := hb.trans h
theorem Blk.call {w w' : World} {g : Nat} {D : List (Int × Int × ByteArray)} (h : Blk w g D) (hb : Below w.heap.size w w') : Blk w' g D := h.keep (hb.block g h.lt)
theorem Blk.alloc {w : World} {g : Nat} {D : List (Int × Int × ByteArray)} (h : Blk w g D) (o : Obj) : Blk (w.alloc o) g D := h.call (below_alloc w o)
theorem Blk.drew {w : World} {g : Nat} {D : List (Int × Int × ByteArray)} (h : Blk w g D) (n : Nat) : Blk (w.drewN n) g D := h
theorem Blk.at {w : World} {g : Nat} {D : List (Int × Int × ByteArray)} (h : Blk w g D) (k : Nat) (hk : k < D.length) :
    w.cell? ⟨g, k * 3, none⟩ = some (.int .i64 D[k].1) ∧ w.cell? ⟨g, k * 3 + 1, none⟩ = some (.int .i64 D[k].2.1) ∧ w.cell? ⟨g, k * 3 + 2, none⟩ = some (.string D[k].2.2) := by
  unfold Blk at h
  have e := fun r hr => flat_at D k hk r hr
  refine ⟨?_, ?_, ?_⟩
  · have := e 0 (by omega)
    simp [World.cell?, h]
    simpa [cells3] using this
  · have := e 1 (by omega)
    simp [World.cell?, h, this, cells3]
  · have := e 2 (by omega)
    simp [World.cell?, h, this, cells3]
theorem Blk.free {w : World} {g : Nat} {D : List (Int × Int × ByteArray)} (h : Blk w g D) (j : Nat) : w.frozen? ⟨g, j, none⟩ = false := by
  unfold Blk at h
  simp [World.frozen?, h]
theorem Blk.vals {w : World} {g : Nat} {D : List (Int × Int × ByteArray)} (h : Blk w g D) : Vals w w.heap.size (some ⟨g, 0, none⟩) D := by
  intro i hi
  obtain ⟨c0, c1, c2⟩ := h.at i hi
  refine ⟨⟨g, 0, none⟩, rfl, h.lt, ?_, ?_, ?_⟩
  · rw [Addr.add_lit, Nat.zero_add]; exact c0
  · rw [Addr.add_lit, Nat.zero_add]; exact c1
  · rw [Addr.add_lit, Nat.zero_add]; exact c2
theorem Blk.set {w : World} {g : Nat} {D : List (Int × Int × ByteArray)} (h : Blk w g D) (k : Nat) (hk : k < D.length) (v : Int × Int × ByteArray) :
    Blk (((w.setCell ⟨g, k * 3, none⟩ (.int .i64 v.1)).setCell ⟨g, k * 3 + 1, none⟩ (.int .i64 v.2.1)).setCell ⟨g, k * 3 + 2, none⟩ (.string v.2.2)) g (D.set k v) := by
  unfold Blk at *
  rw [setCell_eq_setRow w g _ _ _ _ _ h]
  have h1 := setRow_heap w g _ ((flat D).toArray.setIfInBounds (k * 3) (.int .i64 v.1)) _ _ h
  rw [setCell_eq_setRow _ g _ _ _ _ _ h1]
  have h2 := setRow_heap _ g _ (((flat D).toArray.setIfInBounds (k * 3) (.int .i64 v.1)).setIfInBounds (k * 3 + 1) (.int .i64 v.2.1)) _ _ h1
  rw [setCell_eq_setRow _ g _ _ _ _ _ h2, setRow_heap _ g _ _ _ _ h2, flat_set D k v hk]
  simp
theorem below_set3 {B : Nat} {w0 w : World} {g i j k : Nat} {x y z : Value} (h : Below B w0 w) (hg : B ≤ g) : Below B w0 (((w.setCell ⟨g, i, none⟩ x).setCell ⟨g, j, none⟩ y).setCell ⟨g, k, none⟩ z) :=
  ((h.setCell hg _).setCell hg _).setCell hg _

theorem run_copy_rowK {P : Program} (w : World) (dT sT ty elem : TypeId) (g o dLen dCap : Nat) (a : Addr) (sLen sCap : Nat) (cur : Array Value) (t : TypeId) (cs : List Value) (k : Nat)
    (hu : P.underlying dT = some (.slice elem)) (hs : (P.info? elem).map (·.size) = some k)
    (hg : w.heap[g]? = some (.cells cur t (0, 0))) (hn : cs.length = Nat.min sLen dLen * k)
    (hsrc : ∀ j v, cs[j]? = some v → w.cell? (a.add j) = some v) (hfit : o + cs.length ≤ cur.size) (h1 : ∀ v ∈ cs, v.oneCell' = true) :
    (Builtin.copy_ #[dT, sT] ty #[.slice (some ⟨g, o, none⟩) dLen dCap, .slice (some a) sLen sCap]).run P w =
      .ok (goInt (Nat.min sLen dLen)) (w.setRow g (cur.toList.take o ++ cs ++ cur.toList.drop (o + cs.length)).toArray) := by
  have hl := run_loadCells_list (P := P) w a cs hsrc
  have hst := run_storeCells_at P g o t cs 0 cur w hg (by simpa using hfit) h1
  cases hq : P.info? elem with
  | none => simp [hq] at hs
  | some i =>
    have hi : i.size = k := by simpa [hq] using hs
    simp [Builtin.copy_, run_underlying hu, Builtin.lenOf, Builtin.firstCells, sizeOf, typeInfo, hq, hi, ← hn, hl, hst]
theorem run_copy_noneK {P : Program} (w : World) (dT sT ty elem : TypeId) (d a : Option Addr) (dLen dCap sLen sCap k : Nat) (hu : P.underlying dT = some (.slice elem)) (hs : (P.info? elem).map (·.size) = some k) (hn : Nat.min sLen dLen = 0) :
    (Builtin.copy_ #[dT, sT] ty #[.slice d dLen dCap, .slice a sLen sCap]).run P w = .ok (goInt 0) w := by
  cases hq : P.info? elem with
  | none => simp [hq] at hs
  | some i =>
    have hl : ∀ (x : Addr), (loadCells x 0).run P w = .ok #[] w := fun x => by simpa using run_loadCells_list (P := P) w x [] (by simp)
    cases d <;> cases a <;> simp [Builtin.copy_, run_underlying hu, Builtin.lenOf, Builtin.firstCells, sizeOf, typeInfo, hq, hn, storeCells, hl]
/-- 'copy', of values, into a block of the call's own -/
theorem run_copy_vals {P : Program} {w : World} (dT sT ty elem : TypeId) (hu : P.underlying dT = some (.slice elem)) (hsz : (P.info? elem).map (·.size) = some 3)
    (dp sp : Option Addr) (dLen dCap sCap : Nat) (g n : Nat) (D l : List (Int × Int × ByteArray)) (hg : Blk w g D) (hle : l.length ≤ dLen)
    (hpos : 0 < l.length → dp = some ⟨g, n * 3, none⟩) (B : Nat) (hv : Vals w B sp l) (hfit : n + l.length ≤ D.length) (w0 : World) (hb : Below B w0 w) (hBg : B ≤ g) :
    ∃ w', (Builtin.copy_ #[dT, sT] ty #[.slice dp dLen dCap, .slice sp l.length sCap]).run P w = .ok (goInt l.length) w' ∧ Blk w' g (D.take n ++ (l ++ D.drop (n + l.length))) ∧ Below B w0 w' ∧ w'.heap.size = w.heap.size := by
  rcases Nat.eq_zero_or_pos l.length with h0 | h0
  · obtain rfl := List.eq_nil_of_length_eq_zero h0
    refine ⟨w, run_copy_noneK w dT sT ty elem dp sp dLen dCap _ sCap 3 hu hsz (Nat.zero_min _), ?_, hb, rfl⟩
    simpa using hg
  · obtain rfl := hpos h0
    obtain ⟨ad, rfl, _⟩ := hv 0 h0
    have hm : Nat.min l.length dLen = l.length := Nat.min_eq_left hle
    have hr := run_copy_rowK (P := P) w dT sT ty elem g (n * 3) dLen dCap ad l.length sCap (flat D).toArray _ (flat l) 3 hu hsz hg (by rw [hm, flat_length]) (vals_news hv) (by simp [flat_length]; omega) (flat_one l)
    rw [hm] at hr
    refine ⟨_, hr, ?_, below_setRow hb hBg _, by simp⟩
    unfold Blk
    rw [setRow_heap w g _ _ _ _ hg]
    rw [flat_append, flat_append, flat_length]
    rw [show n * 3 + l.length * 3 = (n + l.length) * 3 by omega]
    rw [List.toList_toArray, flat_take, flat_drop, List.append_assoc]
/-- .. as one step of a region that draws its order -/
theorem step_copy_vals {P : Program} {ops : Array Oper} {o : Oper} {a : Act} {w : World} {K : Act → World → Prop} {Q : Exit → Act → World → Prop} {E : Prop} (hgd : o.guard = none) (d s : Operand) (dT sT : TypeId)
    (ho : o.op = .call { callee := .builtin .copy, args := #[d, s], argTypes := #[dT, sT] }) (elem : TypeId) (hu : P.underlying dT = some (.slice elem)) (hsz : (P.info? elem).map (·.size) = some 3)
    (dp sp : Option Addr) (dLen dCap sCap : Nat) (g n : Nat) (D l : List (Int × Int × ByteArray)) (hd : a.eval d = .slice dp dLen dCap) (hs : a.eval s = .slice sp l.length sCap) (hg : Blk w g D) (hle : l.length ≤ dLen)
    (hpos : 0 < l.length → dp = some ⟨g, n * 3, none⟩) (B : Nat) (hv : Vals w B sp l) (hfit : n + l.length ≤ D.length) (w0 : World) (hb : Below B w0 w) (hBg : B ≤ g)
    (h : ∀ w', Hid (Blk w' g (D.take n ++ (l ++ D.drop (n + l.length)))) → Hid (Below B w0 w') → K (a.put o.dst (goInt l.length)) w') :
    if Region.wanted o (yielded ops a.tmps) = true then Oper.wp P o a w K Q else E := by
  have hw : Region.wanted o (yielded ops a.tmps) = true := by simp [Region.wanted, hgd]
  rw [if_pos hw]
  obtain ⟨w', hrun, h1, h2, _⟩ := run_copy_vals (P := P) dT sT o.type elem hu hsz dp sp dLen dCap sCap g n D l hg hle hpos B hv hfit w0 hb hBg
  unfold Oper.wp
  simp [execOp, ho, resolve, invoke, builtin, hd, hs, hrun, Result.andThen]
  exact h _ h1 h2

/-- numbers in memory -/
def Ints (w : World) (B : Nat) (A : Option Addr) (l : List Int) : Prop := ∀ (i : Nat) (h : i < l.length), ∃ ad : Addr, A = some ad ∧ ad.block < B ∧ w.cell? (ad.add i) = some (.int .i64 l[i])
theorem Ints.keep {w w' : World} {B : Nat} {A : Option Addr} {l : List Int} (h : Ints w B A l) (hk : ∀ p : Addr, p.block < B → w'.cell? p = w.cell? p) : Ints w' B A l := by
  intro i hi
  obtain ⟨ad, e, hb, h0⟩ := h i hi
  exact ⟨ad, e, hb, (hk _ (by rw [add_block]; exact hb)).trans h0⟩
theorem Ints.below {w w' : World} {B : Nat} {A : Option Addr} {l : List Int} (h : Ints w B A l) (hb : Below B w w') : Ints w' B A l := h.keep fun _ hp => hb.cell hp
theorem Ints.more {w : World} {B B' : Nat} {A : Option Addr} {l : List Int} (h : Ints w B A l) (hB : B ≤ B') : Ints w B' A l := by
  intro i hi
  obtain ⟨ad, e, hb, h0⟩ := h i hi
  exact ⟨ad, e, by omega, h0⟩
theorem own_ints {w : World} {B : Nat} {e : TypeId} {v : Value} {l : List Int} (h : w.ownsRow B e 1 v l.length (l.map (Value.int .i64))) : ∃ A cap, v = .slice A l.length cap ∧ Ints w w.heap.size A l := by
  rcases Nat.eq_zero_or_pos l.length with h0 | h0
  · have hn := List.eq_nil_of_length_eq_zero h0
    subst hn
    rcases h.2 with ⟨rfl, _⟩ | ⟨g, cap, cur, rfl, _⟩
    · exact ⟨none, 0, rfl, fun i hi => absurd hi (Nat.not_lt_zero _)⟩
    · exact ⟨some ⟨g, 0, none⟩, cap, rfl, fun i hi => absurd hi (Nat.not_lt_zero _)⟩
  · obtain ⟨g, cap, hv, hg, hlt⟩ := h.form h0
    have hc := h.cells (g := g) (by rw [hv]; rfl)
    exact ⟨some ⟨g, 0, none⟩, cap, hv, fun i hi => ⟨⟨g, 0, none⟩, rfl, hlt, hc i _ (by simp [hi])⟩⟩

/-- rows in memory: where each lies, its capacity, its values -/
def RowsAt (w : World) (B : Nat) (A : Option Addr) (L : List (Option Addr × Nat × List (Int × Int × ByteArray))) : Prop :=
  ∀ (i : Nat) (h : i < L.length), (∃ ad : Addr, A = some ad ∧ ad.block < B ∧ w.cell? (ad.add i) = some (.slice L[i].1 L[i].2.2.length L[i].2.1)) ∧ Vals w B L[i].1 L[i].2.2
theorem RowsAt.keep {w w' : World} {B : Nat} {A : Option Addr} {L : List (Option Addr × Nat × List (Int × Int × ByteArray))} (h : RowsAt w B A L) (hk : ∀ p : Addr, p.block < B → w'.cell? p = w.cell? p) : RowsAt w' B A L := by
  intro i hi
  obtain ⟨⟨ad, e, hb, h0⟩, hv⟩ := h i hi
  exact ⟨⟨ad, e, hb, (hk _ (by rw [add_block]; exact hb)).trans h0⟩, hv.keep hk⟩
theorem RowsAt.below {w w' : World} {B : Nat} {A : Option Addr} {L : List (Option Addr × Nat × List (Int × Int × ByteArray))} (h : RowsAt w B A L) (hb : Below B w w') : RowsAt w' B A L := h.keep fun _ hp => hb.cell hp
theorem RowsAt.more {w : World} {B B' : Nat} {A : Option Addr} {L : List (Option Addr × Nat × List (Int × Int × ByteArray))} (h : RowsAt w B A L) (hB : B ≤ B') : RowsAt w B' A L := by
  intro i hi
  obtain ⟨⟨ad, e, hb, h0⟩, hv⟩ := h i hi
  exact ⟨⟨ad, e, by omega, h0⟩, hv.more hB⟩
/-- all rows' values -/
def catL (L : List (Option Addr × Nat × List (Int × Int × ByteArray))) : List (Int × Int × ByteArray) := L.flatMap (·.2.2)
theorem catL_snoc (L : List (Option Addr × Nat × List (Int × Int × ByteArray))) (k : Nat) (h : k < L.length) : catL (L.take (k + 1)) = catL (L.take k) ++ L[k].2.2 := by
  unfold catL
  rw [List.take_succ_eq_append_getElem h, List.flatMap_append]
  simp
theorem catL_le (L : List (Option Addr × Nat × List (Int × Int × ByteArray))) (k : Nat) : (catL (L.take k)).length ≤ (catL L).length := by
  conv => rhs; rw [← List.take_append_drop k L]
  unfold catL
  rw [List.flatMap_append, List.length_append]
  omega
end Go.Proofs.YtpohpgahnompbaaGreatDoor.Code

/-
  The contract of the document's Right of a value, for every argument (cut out of CodeVal).
-/
namespace Go.Proofs.YtpohpgahnompbaaGreatDoor.Val
open Go.ChangeShapes Go.WideShapes Go.ChangeAt Go.RowKit
set_option linter.unusedVariables false

end Go.Proofs.YtpohpgahnompbaaGreatDoor.Val
namespace Go.Proofs.YtpohpgahnompbaaGreatDoor.Code
open Go.ChangeShapes Go.WideShapes Go.ChangeAt Go.RowKit Val
end Go.Proofs.YtpohpgahnompbaaGreatDoor.Code
namespace Go.Proofs.YtpohpgahnompbaaGreatDoor.Val
end Go.Proofs.YtpohpgahnompbaaGreatDoor.Val

/-
  The contract of the document's Right of rows.
-/
namespace Go.Proofs.YtpohpgahnompbaaGreatDoor.Code
open Go.ChangeShapes Go.WideShapes Go.ChangeAt Go.RowKit Val
set_option linter.unusedVariables false

theorem rightL_snoc (l : List (Int × Int × ByteArray)) (k : Nat) (h : k < l.length) : rightL (l.take (k + 1)) = (rightL (l.take k) && rightV l[k]) := by
  unfold rightL
  rw [List.take_succ_eq_append_getElem h, List.all_append]
  simp
theorem rightL_not {l : List (Int × Int × ByteArray)} {k : Nat} (h : k < l.length) (g : rightV l[k] = false) : rightL l = false := by
  unfold rightL
  rw [List.all_eq_false]
  exact ⟨l[k], List.getElem_mem h, by simp [g]⟩
/-- whether a row is right -/
def rightR (l : List (Int × Int × ByteArray)) : Bool := decide (l.length ≤ 24) && rightL l
end Go.Proofs.YtpohpgahnompbaaGreatDoor.Code

/-
  Contracts of num.Narrow, value.holds and value.Right, for every argument (cut out of CodeVal).
-/
namespace Go.Proofs.YtpohpgahnompbaaGreatDoor.Val
open Go.ChangeShapes Go.WideShapes Go.ChangeAt Go.RowKit
set_option linter.unusedVariables false

def nrE (n : Int) : Int := if -2147483648 ≤ n ∧ n ≤ 2147483647 then 0 else 12
def nrV (n : Int) : Int := if -2147483648 ≤ n ∧ n ≤ 2147483647 then n else 0

theorem narrow_any (a : Int) (w : World) (ha : fits a) :
    Calls Tryz.prog 83 #[.int .i64 a] w fun e w' => e = .returned (.tuple #[.int .i32 (nrV a), .int .i64 (nrE a)]) ∧ w = w' := by
  unfold fits at ha
  go_enter Tryz.func83, Tryz.ntmps83
  go_wp2
  all_goals go_ret2
  all_goals refine ⟨ret2 ?_ ?_, rfl⟩
  all_goals (try unfold wrap64 at *)
  all_goals (try unfold wrap32 at *)
  all_goals (first | unfold nrV | unfold nrE)
  all_goals ((try simp at *) <;> omega)

set_option maxHeartbeats 400000 in
theorem holds_any (k n : Int) (w : World) (hn : fits n) :
    Calls Tryz.prog 68 #[.int .i64 k, .int .i64 n] w fun e w' => e = .returned (.bool (holdsB k n)) ∧ w = w' := by
  by_cases h1 : k = 1
  · subst h1
    unfold fits at hn
    go_enter Tryz.func68, Tryz.ntmps68
    go_wp2
    go_ret
    exact ⟨retB (by unfold holdsB; rw [if_pos rfl]; refine decide_eq_decide.2 ?_; rw [IntKind.wrap_u64]; omega), rfl⟩
  by_cases h2 : k = 2
  · subst h2
    go_enter Tryz.func68, Tryz.ntmps68
    go_wp2_with (go_at_call 83; refine (narrow_any _ _ hn).mono ?_; rintro e w' ⟨rfl, rfl⟩)
    go_ret
    exact ⟨retB (by unfold holdsB nrE; by_cases h : -2147483648 ≤ n ∧ n ≤ 2147483647 <;> simp [h]), rfl⟩
  · have e1 : (k == 1) = false := by simpa using h1
    have e2 : (k == 2) = false := by simpa using h2
    go_enter Tryz.func68, Tryz.ntmps68
    go_wp2
    go_ret
    exact ⟨retB (by unfold holdsB; by_cases h3 : k = 3 <;> simp [h1, h2, h3]), rfl⟩

set_option maxHeartbeats 1000000 in
theorem right_any (k n : Int) (s : ByteArray) (w : World) (hn : fits n) :
    Calls Tryz.prog 47 #[.agg #[.int .i64 k, .int .i64 n, .string s]] w fun e w' => e = .returned (.bool (rightB k n s)) ∧ Below w.heap.size w w' := by
  have hb0 : ∀ o, Below w.heap.size w (w.alloc o) := fun o => (Below.refl _ _).alloc (Nat.le_refl _) o
  by_cases h4 : k = 4
  · subst h4
    by_cases hl : s.size ≤ 200
    · have hl' : decide (200 < s.size) = false := by simpa using hl
      by_cases h0 : n = 0
      all_goals
        go_enter Tryz.func47, Tryz.ntmps47
        go_wp2
        go_ret
        exact ⟨retB (by unfold rightB; simp [h0, hl]), by first | exact hb0 _ | exact (hb0 _).setCell (by simp) _⟩
    · have hl' : 200 < s.size := by omega
      go_enter Tryz.func47, Tryz.ntmps47
      go_wp2
      go_ret
      exact ⟨retB (by unfold rightB; simp; omega), by first | exact hb0 _ | exact (hb0 _).setCell (by simp) _⟩
  by_cases hk0 : k = 0
  · subst hk0
    by_cases hs : s.size = 0
    · obtain rfl := size0 hs
      by_cases h0 : n = 0
      all_goals
        go_enter Tryz.func47, Tryz.ntmps47
        go_wp2
        go_ret
        exact ⟨retB (by unfold rightB; simp [h0]; try rfl), hb0 _⟩
    · obtain ⟨e1, e2, e3⟩ := size_pos hs
      by_cases h0 : n = 0
      all_goals
        go_enter Tryz.func47, Tryz.ntmps47
        go_wp2
        go_ret
        exact ⟨retB (by unfold rightB; simp [h0, hs]), hb0 _⟩
  have k4 : (k == 4) = false := by simpa using h4
  have k0 : (k == 0) = false := by simpa using hk0
  by_cases hs : s.size = 0
  · obtain rfl := size0 hs
    go_enter Tryz.func47, Tryz.ntmps47
    go_wp2_with (go_at_call 68; refine (holds_any _ _ _ hn).mono ?_; rintro e w' ⟨rfl, rfl⟩)
    all_goals go_ret
    all_goals exact ⟨retB (by unfold rightB; simp [h4, hk0]; try (intro _; rfl)), hb0 _⟩
  · obtain ⟨e1, e2, e3⟩ := size_pos hs
    go_enter Tryz.func47, Tryz.ntmps47
    go_wp2_with (go_at_call 68; refine (holds_any _ _ _ hn).mono ?_; rintro e w' ⟨rfl, rfl⟩)
    all_goals go_ret
    all_goals exact ⟨retB (by unfold rightB; simp [h4, hk0, hs]), hb0 _⟩

end Go.Proofs.YtpohpgahnompbaaGreatDoor.Val
namespace Go.Proofs.YtpohpgahnompbaaGreatDoor.Code
open Go.ChangeShapes Go.WideShapes Go.ChangeAt Go.RowKit Val
theorem right_is (k n : Int) (s : ByteArray) (b : Bool) (hn : fits n) (h : rightB k n s = b) (w : World) :
    Calls Tryz.prog 47 #[.agg #[.int .i64 k, .int .i64 n, .string s]] w fun e w' => e = .returned (.bool b) ∧ Below w.heap.size w w' := by
  have := right_any k n s w hn
  rw [h] at this
  exact this

end Go.Proofs.YtpohpgahnompbaaGreatDoor.Code
namespace Go.Proofs.YtpohpgahnompbaaGreatDoor.Val
end Go.Proofs.YtpohpgahnompbaaGreatDoor.Val

/-
  The contract of row.Right.
-/
namespace Go.Proofs.YtpohpgahnompbaaGreatDoor.Code
open Go.ChangeShapes Go.WideShapes Go.ChangeAt Go.RowKit Val
set_option linter.unusedVariables false

end Go.Proofs.YtpohpgahnompbaaGreatDoor.Code
