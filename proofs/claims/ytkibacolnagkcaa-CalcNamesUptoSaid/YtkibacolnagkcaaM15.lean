/-
  Contracts of the document's reader of words: which kind comes, a name, the marks of a level, that of some marks that comes, a number.
-/
import Derived.Test.YtkibacolnagkcaaM14
namespace Go.Proofs.Ytkibacolnagkcaa.Code
open Go.ChangeShapes Go.WideShapes Go.ChangeAt Go.RowKit Val Elems
set_option linter.unusedVariables false
set_option linter.unusedSimpArgs false
/-- a text as the cell of a row -/
def sc (s : List UInt8) : List Value := [.string ⟨s.toArray⟩]
theorem sc_length (s : List UInt8) : (sc s).length = 1 := rfl
theorem at_but {α : Type} {c : α → List Value} {k : Nat} {w w' : World} {r B : Nat} {A : Option Addr} {l : List α} (h : At c k w B A l) (hb : But w w' r) (hB : B ≤ w.heap.size) (hne : ∀ ad, A = some ad → ad.block ≠ r) : At c k w' B A l := by
  intro i hi
  obtain ⟨ad, e, hlt, h0⟩ := h i hi
  exact ⟨ad, e, hlt, fun j u hu => (hb.cell (q := ad.add (i * k + j)) (by rw [add_block]; omega) (by rw [add_block]; exact hne ad e)).trans (h0 j u hu)⟩
theorem at_text {w : World} {B : Nat} {A : Option Addr} {l : List (List UInt8)} (h : At sc 1 w B A l) (i : Nat) (hi : i < l.length) : ∃ ad : Addr, A = some ad ∧ ad.block < B ∧ w.cell? (ad.add i) = some (.string ⟨l[i].toArray⟩) := by
  obtain ⟨ad, e, hb, h0⟩ := h i hi
  refine ⟨ad, e, hb, ?_⟩
  have := h0 0 _ rfl
  rwa [Nat.mul_one, Nat.add_zero] at this
theorem texts_new (w : World) (l : List (List UInt8)) (t : TypeId) (o : Obj) (ho : o = .cells (l.map fun s => Value.string ⟨s.toArray⟩).toArray t) : At sc 1 (w.alloc o) (w.heap.size + 1) (some ⟨w.heap.size, 0, none⟩) l := by
  intro i hi
  refine ⟨⟨w.heap.size, 0, none⟩, rfl, by simp, fun j u hu => ?_⟩
  have hj : j = 0 := by
    have := (List.getElem?_eq_some_iff.1 hu).1
    rw [sc_length] at this
    omega
  subst hj
  cases hu
  subst ho
  rw [Nat.mul_one, Nat.add_zero]
  exact World.news_of_block (heap_alloc_new w _) i _ (by simp [hi])
theorem isK_len {l : List W} {i : Nat} {b : Bool} {k : Int} (h : isK (bare l) i b k = true) : i < l.length := by
  have := (isK_lt h).1
  rwa [bare_length] at this
set_option maxHeartbeats 4000000 in
set_option maxRecDepth 100000 in
theorem rkind_any (r : Nat) (A : Option Addr) (cap : Nat) (l : List W) (i : Nat) (b : Bool) (k : Int) (w : World) (h : Rdr w r A cap l i b) (hi : i ≤ l.length) (hl : l.length ≤ 4194304) :
    Calls Try.prog 84 #[.pointer (some ⟨r, 0, none⟩), .int .i64 k] w fun e w' => e = .returned (.bool (isK (bare l) i b k)) ∧ Below w.heap.size w w' := by
  have HW := Lib.hid h.ws
  obtain ⟨c0, c1, c2, -, -⟩ := h
  cases b
  · by_cases hil : i < l.length
    · have hx := isK_at hil false k
      obtain ⟨ad, rfl, ha, d0, d1, d2⟩ := at_word HW.out i hil
      obtain ⟨x, hxx⟩ : ∃ x, l[i].1 = x := ⟨_, rfl⟩
      rw [hxx] at d0 hx
      have hx2 : isK (bare l) i false k = (x == k) := by rw [hx]; simp
      rw [hx2]
      have e0 : decide ((l.length : Int) ≤ (i : Int)) = false := by simp; omega
      have e1 : decide (i < l.length) = true := by simp; omega
      have e2 : decide ((i : Int) < 0) = false := by simp
      have e3 : decide ((0 : Int) ≤ (i : Int)) = true := by simp
      have e4 : decide ((i : Int) < (l.length : Int)) = true := by simp; omega
      clear hx hx2 hxx d1 d2
      go_enter Try.func84, Try.ntmps84
      go_wp2
      go_quiet (fail)
      go_wp2
      go_ret
      exact ⟨retB (by simp), drewN_below (Below.refl _ _) _⟩
    · rw [isK_off hil]
      have e0 : decide ((i : Int) < (l.length : Int)) = false := by simp; omega
      have e1 : decide (i < l.length) = false := by simp; omega
      have e3 : decide ((0 : Int) ≤ (i : Int)) = true := by simp
      clear hil
      go_enter Try.func84, Try.ntmps84
      go_wp2
      refine wp_region_quiet_lit (by kernel_rfl) (by kernel_rfl) ?_
      repeat (with_reducible refine wpQuiet_step ?_; intro K hK; go_simp; with_reducible refine hK _ ?_; clear hK K)
      refine wpQuiet_nil ?_
      intro _ hw'
      obtain ⟨nq, hw''⟩ := hw'
      subst hw''
      go_wp2
      go_ret
      exact ⟨rfl, drewN_below (Below.refl _ _) _⟩
  · rw [isK_bad]
    go_enter Try.func84, Try.ntmps84
    go_wp2
    refine wp_region_quiet_lit (by kernel_rfl) (by kernel_rfl) ?_
    repeat (with_reducible refine wpQuiet_step ?_; intro K hK; go_simp; with_reducible refine hK _ ?_; clear hK K)
    refine wpQuiet_nil ?_
    intro _ hw'
    obtain ⟨nq, hw''⟩ := hw'
    subst hw''
    go_wp2
    go_ret
    exact ⟨rfl, drewN_below (Below.refl _ _) _⟩
theorem txt_at {l : List W} {i : Nat} (h : i < l.length) : txt (bare l) i = l[i].2.1 := by
  unfold txt
  rw [bare_get h]
set_option maxHeartbeats 4000000 in
set_option maxRecDepth 100000 in
theorem rname_any (r : Nat) (A : Option Addr) (cap : Nat) (l : List W) (i : Nat) (b : Bool) (w : World) (h : Rdr w r A cap l i b) (hi : i ≤ l.length) (hl : l.length ≤ 4194304) (q : Bool) (hq : (isK (bare l) i b 0 && !ownL (txt (bare l) i)) = q) :
    Calls Try.prog 86 #[.pointer (some ⟨r, 0, none⟩)] w fun e w' => e = .returned (.string ⟨(if q = true then txt (bare l) i else []).toArray⟩) ∧ But w w' r ∧ Rdr w' r A cap l (if q = true then i + 1 else i) (if q = true then b else true) := by
  have HK := Lib.hid (rkind_any r A cap l i b 0 w h hi hl)
  have HR := Lib.hid h
  clear h
  obtain ⟨kk, hkk⟩ : ∃ kk, isK (bare l) i b 0 = kk := ⟨_, rfl⟩
  rw [hkk] at HK hq
  cases kk
  · obtain rfl : q = false := by rw [← hq]; rfl
    clear hq hkk
    go_enter Try.func86, Try.ntmps86
    go_wp2_with fail
    refine HK.out.mono ?_
    rintro e w1 ⟨rfl, hb1⟩
    have R1 := Lib.hid (HR.out.below hb1)
    have B1 := Lib.hid (But.of hb1 r)
    have c2 := R1.out.c2
    have fr := R1.out.fr 2
    clear hb1
    go_wp2
    go_ret
    exact ⟨rfl, B1.out.setCell 2 _, R1.out.wrong⟩
  · have hil := isK_len hkk
    obtain rfl : b = false := (isK_lt hkk).2
    rw [txt_at hil] at hq ⊢
    have HWS := Lib.hid HR.out.ws
    obtain ⟨ad, rfl, ha, d0, d1, d2⟩ := at_word HWS.out i hil
    obtain ⟨t, htt⟩ : ∃ t, l[i].2.1 = t := ⟨_, rfl⟩
    rw [htt] at d1 hq ⊢
    obtain ⟨T, hT⟩ : ∃ T : ByteArray, ⟨t.toArray⟩ = T := ⟨_, rfl⟩
    have hTt : t = T.data.toList := by rw [← hT]
    rw [hT] at d1
    rw [hTt] at hq
    have HO := Lib.hid (fun w => (rown_any T w).mono (R' := fun e w' => e = .returned (.bool (!q)) ∧ w' = w) (by
      rintro e w' ⟨h1, h2⟩
      refine ⟨?_, h2.symm⟩
      rw [h1, own_list, ← hq]
      simp))
    have hlr := HR.out.lt
    have HD := Lib.hid (fun (w' : World) (hb : Below w.heap.size w w') => show w'.cell? ⟨(ad.add (i * 3)).block, (ad.add (i * 3)).off + 1, none⟩ = some (.string T) from (hb.cell (p := ⟨(ad.add (i * 3)).block, (ad.add (i * 3)).off + 1, none⟩) (by show (ad.add (i * 3)).block < _; rw [add_block]; omega)).trans d1)
    clear hkk htt d0 d1 d2 hq
    go_enter Try.func86, Try.ntmps86
    go_wp2_with fail
    refine HK.out.mono ?_
    rintro e w1 ⟨rfl, hb1⟩
    have R1 := Lib.hid (HR.out.below hb1)
    have B1 := Lib.hid (But.of hb1 r)
    have c0 := R1.out.c0
    have c1 := R1.out.c1
    have c2 := R1.out.c2
    have f1 := R1.out.fr 1
    have f2 := R1.out.fr 2
    have d1 := HD.out _ hb1
    have e0 : decide ((i : Int) < (l.length : Int)) = true := by simp; omega
    clear hb1
    go_wp2
    go_quiet (refine Calls.quiet_of_same (HO.out _))
    have hb2 : Below w1.heap.size w1 (w1.drewN nq) := drewN_below (Below.refl _ _) nq
    have R2 := Lib.hid (R1.out.below hb2)
    have B2 := Lib.hid (B1.out.next hb2)
    clear hb2
    cases q
    · go_wp2
      go_ret
      exact ⟨rfl, B2.out.setCell 2 _, R2.out.wrong⟩
    · have R3 := Lib.hid (R2.out.at (i + 1))
      rw [Int.natCast_add] at R3
      have B3 := Lib.hid (B2.out.setCell 1 (.int .i64 ((i : Int) + ((1 : Nat) : Int))))
      have d3 : ((w1.drewN nq).setCell ⟨r, 1, none⟩ (.int .i64 ((i : Int) + ((1 : Nat) : Int)))).cell? ⟨(ad.add (i * 3)).block, (ad.add (i * 3)).off + 1, none⟩ = some (.string T) := by
        rw [World.cell?_setCell_other _ _ _ _ (by
          intro e
          have : r = (ad.add (i * 3)).block := congrArg Addr.block e
          rw [add_block] at this
          omega)]
        exact d1
      clear c0 c1 c2 f1 f2
      have c1 := R1.out.c1
      have f1 := R1.out.fr 1
      go_wp2
      generalize hw2 : (w1.drewN nq).setCell ⟨r, 1, none⟩ (.int .i64 ((i : Int) + ((1 : Nat) : Int))) = w2 at R3 B3 d3
      clear hw2 c1 f1 d1
      have c0 := R3.out.c0
      have c1 : w2.cell? ⟨r, 1, none⟩ = some (.int .i64 ((i : Int) + 1)) := R3.out.c1
      have f4 : IntKind.i64.wrap ((i : Int) + 1 - 1) = (i : Int) := by rw [IntKind.wrap_i64]; omega
      have f5 : (i : Int) + 1 - 1 = (i : Int) := by omega
      have e1 : (i : Int) < (l.length : Int) := by omega
      go_quiet (fail)
      go_wp2
      go_ret
      exact ⟨retS (by first | exact hT.symm | rfl), B3.out.next (drewN_below (Below.refl _ _) _), R3.out.below (drewN_below (Below.refl _ _) _)⟩
end Go.Proofs.Ytkibacolnagkcaa.Code
/-
  Contracts of the document's reader of words: the marks of a level, that of some marks that comes, a number.
-/
namespace Go.Proofs.Ytkibacolnagkcaa.Code
open Go.ChangeShapes Go.WideShapes Go.ChangeAt Go.RowKit Val Elems
set_option linter.unusedVariables false
set_option linter.unusedSimpArgs false
/-- a list of texts in a new block -/
def Strs (w w' : World) (e : Ending) (l : List (List UInt8)) : Prop := ∃ (A : Option Addr) (cap : Nat), e = .returned (.slice A l.length cap) ∧ At sc 1 w' w'.heap.size A l ∧ (∀ ad, A = some ad → w.heap.size ≤ ad.block) ∧ Below w.heap.size w w'
theorem strs_new (w : World) (l : List (List UInt8)) (t : TypeId) (cs : Array Value) (hc : cs = (l.map fun s => Value.string ⟨s.toArray⟩).toArray) : Strs w (w.alloc (.cells cs t)) (.returned (.slice (some ⟨w.heap.size, 0, none⟩) l.length l.length)) l := by
  refine ⟨_, _, rfl, ?_, ?_, (Below.refl _ _).alloc (Nat.le_refl _) _⟩
  · subst hc
    have := texts_new w l t _ rfl
    rw [show ∀ o, (w.alloc o).heap.size = w.heap.size + 1 from fun o => by simp]
    exact this
  · intro ad e
    cases e
    exact Nat.le_refl _
theorem strs_nil (w : World) : Strs w w (.returned (.slice none 0 0)) [] := ⟨none, 0, rfl, At.nil _ _ _, fun ad e => (by cases e), Below.refl _ _⟩
set_option maxHeartbeats 4000000 in
theorem rops_any (lv : Nat) (hl : lv ≤ 7) (w : World) :
    Calls Try.prog 71 #[.int .i64 lv] w fun e w' => Strs w w' e (opsL lv) := by
  have hc : lv = 0 ∨ lv = 1 ∨ lv = 2 ∨ lv = 3 ∨ lv = 4 ∨ lv = 5 ∨ lv = 6 ∨ lv = 7 := by omega
  rcases hc with rfl | rfl | rfl | rfl | rfl | rfl | rfl | rfl
  all_goals
    go_enter Try.func71, Try.ntmps71
    go_wp2
    go_ret
    first | exact strs_nil w | exact strs_new w (opsL 1) _ _ rfl | exact strs_new w (opsL 2) _ _ rfl | exact strs_new w (opsL 4) _ _ rfl | exact strs_new w (opsL 5) _ _ rfl | exact strs_new w (opsL 6) _ _ rfl
theorem oneL_step {L : List V} {i : Nat} {b : Bool} : ∀ (ls : List (List UInt8)) (k : Nat) (h : k < ls.length), (∀ j (hj : j < ls.length), j < k → isW L i b ls[j] = false) → isW L i b ls[k] = true → oneL L i b ls = ls[k]
  | [], k, h, _, _ => absurd h (Nat.not_lt_zero _)
  | s :: ls, 0, h, _, hw => by
    rw [oneL, if_pos (show isW L i b s = true from hw)]
    rfl
  | s :: ls, k + 1, h, hb, hw => by
    have h0 := hb 0 (by simp) (by omega)
    rw [oneL, if_neg (by rw [show isW L i b s = false from h0]; decide)]
    exact oneL_step ls k (by simpa using h) (fun j hj hjk => hb (j + 1) (by simpa using hj) (by omega)) hw
set_option maxHeartbeats 4000000 in
set_option maxRecDepth 100000 in
theorem rone_any (r : Nat) (A : Option Addr) (cap : Nat) (l : List W) (i : Nat) (b : Bool) (S : Option Addr) (sc' : Nat) (ls : List (List UInt8)) (w : World) (h : Rdr w r A cap l i b) (hi : i ≤ l.length) (hl : l.length ≤ 4194304)
    (hs : At sc 1 w w.heap.size S ls) (hne : ∀ ad, S = some ad → ad.block ≠ r) (hls : ls.length ≤ 100) (hn0 : [] ∉ ls) (q : List UInt8) (hq : oneL (bare l) i b ls = q) :
    Calls Try.prog 70 #[.pointer (some ⟨r, 0, none⟩), .slice S ls.length sc'] w fun e w' => e = .returned (.string ⟨q.toArray⟩) ∧ But w w' r ∧ Rdr w' r A cap l (if q = [] then i else i + 1) b := by
  have HR := Lib.hid h
  have HS := Lib.hid hs
  have HNE := Lib.hid hne
  have HN0 := Lib.hid hn0
  have HQ := Lib.hid hq
  clear h hs hne hn0 hq
  go_enter Try.func70, Try.ntmps70
  go_wp2
  go_loopw [5] (fun t wr => ∃ k : Nat, k ≤ ls.length ∧ t = .int .i64 k ∧ Hid (∀ j (hj : j < ls.length), j < k → isW (bare l) i b ls[j] = false) ∧ But w wr r ∧ Rdr wr r A cap l i b) (fun t _ => ls.length - (intOf t).toNat)
  case atStart => exact ⟨0, by omega, rfl, Lib.hid (fun j hj h => absurd h (Nat.not_lt_zero _)), But.refl _ _, HR.out⟩
  case round =>
    obtain ⟨k, hk, rfl, HB, hbut, hrd⟩ := hrel
    have HBU := Lib.hid hbut
    have HRD := Lib.hid hrd
    have VS := Lib.hid (at_but HS.out hbut (Nat.le_refl _) HNE.out)
    clear hbut hrd
    by_cases hkl : k < ls.length
    · obtain ⟨ad, rfl, ha, c0⟩ := at_text VS.out k hkl
      obtain ⟨s, hsx⟩ : ∃ s, ls[k] = s := ⟨_, rfl⟩
      obtain ⟨T, hT⟩ : ∃ T : ByteArray, ⟨s.toArray⟩ = T := ⟨_, rfl⟩
      have hTs : T.data.toList = s := by rw [← hT]
      rw [hsx, hT] at c0
      obtain ⟨g, hg⟩ : ∃ g, isW (bare l) i b s = g := ⟨_, rfl⟩
      have HTK := Lib.hid (rtake_any r A cap l i b T g (by rw [hTs]; exact hg) wr HRD.out hi hl)
      have HNB := Lib.hid (HNE.out ad rfl)
      cases g
      · have HB2 := Lib.hid (show ∀ j (hj : j < ls.length), j < k + 1 → isW (bare l) i b ls[j] = false by
          intro j hj hjk
          by_cases e : j = k
          · subst e; rw [hsx]; exact hg
          · exact HB.out j hj (by omega))
        clear hg hsx hT hTs
        go_wp2_with fail
        refine HTK.out.mono ?_
        rintro e w1 ⟨rfl, hb1, hr1⟩
        have B1 := Lib.hid (HBU.out.trans hb1)
        have R1 := Lib.hid hr1
        clear hb1 hr1 c0 HTK
        go_wp2
        go_roundw
        case rel => exact ⟨k + 1, by omega, by go_num, HB2, B1.out, R1.out⟩
        case measure => simp [intOf]; omega
      · have hx := oneL_step ls k hkl HB.out (by rw [hsx]; exact hg)
        rw [HQ.out, hsx] at hx
        subst hx
        have hq0 : q ≠ [] := by
          intro e
          subst e
          exact HN0.out (hsx ▸ List.getElem_mem hkl)
        have HC := Lib.hid (fun (w' : World) (hb : But wr w' r) => show w'.cell? (ad.add k) = some (.string T) from (hb.cell (q := ad.add k) (by rw [add_block]; exact Nat.lt_of_lt_of_le ha HBU.out.size) (by rw [add_block]; exact HNB.out)).trans c0)
        have HT := Lib.hid hT
        clear hg hsx hT hTs
        go_wp2_with fail
        refine HTK.out.mono ?_
        rintro e w1 ⟨rfl, hb1, hr1⟩
        have B1 := Lib.hid (HBU.out.trans hb1)
        have R1 := Lib.hid hr1
        have c1 := HC.out _ hb1
        clear hb1 hr1 c0 HTK
        go_wp2
        go_ret
        refine ⟨retS HT.out.symm, B1.out, ?_⟩
        first | exact R1.out | (rw [if_neg hq0]; exact R1.out)
    · have hx : oneL (bare l) i b ls = [] := oneL_none fun s hs => by
        obtain ⟨j, hj, rfl⟩ := List.mem_iff_getElem.1 hs
        exact HB.out j hj (by omega)
      rw [HQ.out] at hx
      subst hx
      go_wp2
      go_ret
      exact ⟨rfl, HBU.out, HRD.out⟩
end Go.Proofs.Ytkibacolnagkcaa.Code
/-
  Contract of the document's Number: a figure's, as a node.
-/
namespace Go.Proofs.Ytkibacolnagkcaa.Code
open Go.ChangeShapes Go.WideShapes Go.ChangeAt Go.RowKit Val Elems
set_option linter.unusedVariables false
set_option linter.unusedSimpArgs false
def FigS (s : List UInt8) : Prop := ∀ c ∈ s, figB c = true
/-- how far a number's figures are gone through -/
def numI (s : List UInt8) (i : Nat) (n : Int) : Prop := numF s 0 = numF (s.drop i) n
theorem numI_start (s : List UInt8) : numI s 0 0 := rfl
theorem numI_big {s : List UInt8} {i : Nat} {n : Int} (h : numI s i n) (hi : i < s.length) (hb : (9223372036854775807 - ((s[i].toNat : Int) - 48)) / 10 < n) : numF s 0 = none := by
  unfold numI at h
  rw [h, List.drop_eq_getElem_cons hi, numF, if_pos hb]
theorem numI_step {s : List UInt8} {i : Nat} {n : Int} (h : numI s i n) (hi : i < s.length) (hb : ¬ (9223372036854775807 - ((s[i].toNat : Int) - 48)) / 10 < n) : numI s (i + 1) (10 * n + ((s[i].toNat : Int) - 48)) := by
  unfold numI at *
  rw [h, List.drop_eq_getElem_cons hi, numF, if_neg hb]
theorem numI_end {s : List UInt8} {i : Nat} {n : Int} (h : numI s i n) (hi : s.length ≤ i) : numF s 0 = some n := by
  unfold numI at h
  rw [h, List.drop_eq_nil_of_le hi, numF]
def numOk (s : List UInt8) : Bool := (numL s).isSome
def numTx (s : List UInt8) : List UInt8 := (numL s).getD []
def numOp (s : List UInt8) : List UInt8 := if (numL s).isSome = true then sNum else []
theorem num_no {s : List UInt8} (h : numF s 0 = none) : numOk s = false ∧ numTx s = [] ∧ numOp s = [] := by
  unfold numOk numTx numOp numL
  rw [h]
  exact ⟨rfl, rfl, rfl⟩
theorem num_yes {s : List UInt8} {n : Int} (h : numF s 0 = some n) : numOk s = true ∧ numTx s = Lib.itoa n ∧ numOp s = sNum := by
  unfold numOk numTx numOp numL
  rw [h]
  exact ⟨rfl, rfl, rfl⟩
set_option maxHeartbeats 4000000 in
set_option maxRecDepth 100000 in
theorem rnumber_any (s : ByteArray) (hf : FigS s.data.toList) (hs : s.size ≤ 4194304) (w : World) :
    Calls Try.prog 85 #[.string s] w fun e w' => e = .returned (.tuple #[.agg #[.string ⟨(numOp s.data.toList).toArray⟩, .string ⟨(numTx s.data.toList).toArray⟩, .slice none 0 0], .bool (numOk s.data.toList)]) ∧ Below w.heap.size w w' := by
  have HF := Lib.hid hf
  clear hf
  go_enter Try.func85, Try.ntmps85
  go_wp2
  go_loop [4, 5] (fun v t => ∃ (i : Nat) (n : Int), i ≤ s.size ∧ t = .int .i64 i ∧ v = .int .i64 n ∧ 0 ≤ n ∧ n ≤ 9223372036854775807 ∧ Hid (numI s.data.toList i n)) (fun _ t => s.size - (intOf t).toNat)
  case atStart => exact ⟨0, 0, by omega, rfl, rfl, by omega, by omega, Lib.hid (numI_start _)⟩
  case round =>
    obtain ⟨i, n, hi, rfl, rfl, hn0, hn1, HI⟩ := hrel
    by_cases hil : i < s.size
    · obtain ⟨c, hc⟩ : ∃ c, s[i] = c := ⟨_, rfl⟩
      have hg := (list_get s i hil hil).trans hc
      have hfig := HF.out s.data.toList[i] (List.getElem_mem hil)
      rw [hg] at hfig
      have hc48 : 48 ≤ c.toNat ∧ c.toNat ≤ 57 := by
        unfold figB at hfig
        simpa using hfig
      obtain ⟨d, hd⟩ : ∃ d : Int, (c.toNat : Int) - 48 = d := ⟨_, rfl⟩
      have hd0 : 0 ≤ d ∧ d ≤ 9 := by omega
      obtain ⟨Q, hQ⟩ : ∃ Q : Int, (9223372036854775807 - d) / 10 = Q := ⟨_, rfl⟩
      have hQ2 : (9223372036854775807 - d).tdiv 10 = Q := by rw [Int.tdiv_eq_ediv_of_nonneg (by omega)]; exact hQ
      have hw : IntKind.u8.wrap ((c.toNat : Int) - 48) = d := by
        rw [hd]
        show d % 256 = d
        omega
      by_cases hbig : Q < n
      · have HD := Lib.hid (num_no (numI_big HI.out hil (by rw [hg, hd, hQ]; exact hbig)))
        clear hg hfig hd
        go_wp2
        exact bodyPost_ret (v := .tuple #[.agg #[.string ⟨#[]⟩, .string ⟨#[]⟩, .slice none 0 0], .bool false]) (by simp [results, Try.results85, go_sem, World.cell?_setCell_other]) rfl ⟨by rw [HD.out.1, HD.out.2.1, HD.out.2.2], below_alloc w _⟩
      · have HD := Lib.hid (numI_step HI.out hil (by rw [hg, hd, hQ]; exact hbig))
        rw [hg, hd] at HD
        clear hg hfig hd
        go_wp2
        go_round
        case rel => exact ⟨i + 1, 10 * n + d, by omega, by go_num, rfl, by omega, by omega, HD⟩
        case measure => simp [intOf]; omega
    · have hx := numI_end HI.out (by rw [← size_list]; omega)
      have HD := Lib.hid (num_yes hx)
      have HFG := Lib.hid (figures_any n (by unfold fits; omega))
      go_wp2_with fail
      refine (HFG.out _).mono ?_
      rintro e w1 ⟨rfl, hb1⟩
      have L1 := Lib.hid (bnext (below_alloc w (.cells #[.string ⟨#[]⟩, .string ⟨#[]⟩, .slice none 0 0] 24)) (by simp) hb1)
      have hz := hb1.size
      have x0 := (bcell hb1).1 w.heap.size 0 (by simp)
      have x1 := (bcell hb1).1 w.heap.size 1 (by simp)
      have x2 := (bcell hb1).1 w.heap.size 2 (by simp)
      have xf := (bcell hb1).2
      have xz : w.heap.size < w1.heap.size := by simp at hz; omega
      have y0 : w1.cell? ⟨w.heap.size, 0, none⟩ = some (.string ⟨#[]⟩) := by rw [x0]; simp [go_sem]
      have y1 : w1.cell? ⟨w.heap.size, 1, none⟩ = some (.string ⟨#[]⟩) := by rw [x1]; simp [go_sem]
      have y2 : w1.cell? ⟨w.heap.size, 2, none⟩ = some (.slice none 0 0) := by rw [x2]; simp [go_sem]
      have yf : ∀ j, w1.frozen? ⟨w.heap.size, j, none⟩ = false := fun j => by rw [xf _ _ (by simp)]; simp [go_sem]
      clear hb1 x0 x1 x2 xf hz hx
      go_wp2
      exact bodyPost_ret (v := .tuple #[.agg #[.string ⟨sNum.toArray⟩, .string ⟨(Lib.itoa n).toArray⟩, .slice none 0 0], .bool true]) (by simp [results, Try.results85, go_sem, World.cell?_setCell_other, y0, y1, y2, sNum]) rfl ⟨by rw [HD.out.1, HD.out.2.1, HD.out.2.2], ((L1.out.setCell (by simp) _).setCell (by simp) _).setCell (by simp) _⟩
end Go.Proofs.Ytkibacolnagkcaa.Code
/-
  What the document's reader of expressions does, step by step; its sign.
-/
namespace Go.Proofs.Ytkibacolnagkcaa.Code
open Go.ChangeShapes Go.WideShapes Go.ChangeAt Go.RowKit Val Elems
set_option linter.unusedVariables false
set_option linter.unusedSimpArgs false
theorem NIn.form {w : World} {S : Nat → Prop} {t : Tr} {a b c : Value} (h : NIn w S t a b c) : ∃ (X : Option Addr) (n m : Nat), c = .slice X n m := by
  cases t with
  | leaf op tx => exact ⟨_, _, _, h.2.2⟩
  | one op x => obtain ⟨_, _, g, cap, x0, x1, x2, h3, _⟩ := h; exact ⟨_, _, _, h3⟩
  | two op x y => obtain ⟨_, _, g, cap, x0, x1, x2, y0, y1, y2, h3, _⟩ := h; exact ⟨_, _, _, h3⟩
def New (w w' : World) (g : Nat) : Prop := w.heap.size ≤ g ∧ g < w'.heap.size
/-- what a reader answers: the node, in these blocks and new ones, and where it is then -/
def Reads (r : Nat) (A : Option Addr) (cap : Nat) (l : List W) (w : World) (S : Nat → Prop) (res : Tr × Nat × Bool) (e : Ending) (w' : World) : Prop :=
  ∃ (op tx : ByteArray) (X : Option Addr) (n m : Nat), e = .returned (.agg #[.string op, .string tx, .slice X n m]) ∧ NIn w' (fun g => S g ∨ New w w' g) res.1 (.string op) (.string tx) (.slice X n m) ∧ But w w' r ∧ Rdr w' r A cap l res.2.1 res.2.2
def NoB (g : Nat) : Prop := False
/-- the reader does as it should, with so many steps -/
structure Does (r : Nat) (A : Option Addr) (cap : Nat) (l : List W) (f : Nat) : Prop where
  expr : ∀ (lv i : Nat) (b : Bool) (w : World), 1 ≤ lv → lv ≤ 7 → i ≤ l.length → mu (bare l) (.expr lv) i < f → Rdr w r A cap l i b →
    Calls Try.prog 42 #[.pointer (some ⟨r, 0, none⟩), .int .i64 lv] w (Reads r A cap l w NoB (P (bare l) f (.expr lv) i b))
  sign : ∀ (i : Nat) (b : Bool) (w : World), i ≤ l.length → mu (bare l) .sign i < f → Rdr w r A cap l i b →
    Calls Try.prog 67 #[.pointer (some ⟨r, 0, none⟩)] w (Reads r A cap l w NoB (P (bare l) f .sign i b))
  test : ∀ (S : Nat → Prop) (t : Tr) (op tx : ByteArray) (X : Option Addr) (n m : Nat) (i : Nat) (b : Bool) (w : World), (∀ g, S g → g < w.heap.size ∧ g ≠ r) → NIn w S t (.string op) (.string tx) (.slice X n m) → i ≤ l.length → mu (bare l) (.test t) i < f → Rdr w r A cap l i b →
    Calls Try.prog 69 #[.pointer (some ⟨r, 0, none⟩), .agg #[.string op, .string tx, .slice X n m]] w (Reads r A cap l w S (P (bare l) f (.test t) i b))
/-- a variable is given a node -/
def W3 (w : World) (g : Nat) (a b c : Value) : World := ((w.setCell ⟨g, 0, none⟩ a).setCell ⟨g, 1, none⟩ b).setCell ⟨g, 2, none⟩ c
theorem W3.size (w : World) (g : Nat) (a b c : Value) : (W3 w g a b c).heap.size = w.heap.size := by simp [W3]
theorem W3.but {w w1 : World} {r g : Nat} (h : But w w1 r) (hg : w.heap.size ≤ g) (a b c : Value) : But w (W3 w1 g a b c) r := ((h.new _ hg _).new _ hg _).new _ hg _
theorem W3.rdr {w : World} {r : Nat} {A : Option Addr} {cap : Nat} {l : List W} {i : Nat} {b : Bool} (h : Rdr w r A cap l i b) {g : Nat} (hg : r < g) (x y z : Value) : Rdr (W3 w g x y z) r A cap l i b := ((h.new _ hg _).new _ hg _).new _ hg _
theorem W3.nin {w : World} {S : Nat → Prop} {t : Tr} {a b c : Value} (h : NIn w S t a b c) {g : Nat} (hg : ¬ S g) (x y z : Value) : NIn (W3 w g x y z) S t a b c := ((h.setCell _ hg _).setCell _ hg _).setCell _ hg _
theorem W3.box {w : World} {g : Nat} {a b c : Value} (h : NBox w g a b c) (x y z : Value) : NBox (W3 w g x y z) g x y z := h.set x y z
section
variable {r : Nat} {A : Option Addr} {cap : Nat} {l : List W} {w w2 : World} {S S2 : Nat → Prop} {x y : Tr} {j : Nat} {b : Bool} {op tx op2 tx2 : ByteArray} {X X2 : Option Addr} {n m n2 m2 : Nat}
/-- a node with one Kid is told -/
theorem ret_one (o : ByteArray) (hn : NIn w2 S2 x (.string op) (.string tx) (.slice X n m)) (hS : ∀ g, S2 g → g < w2.heap.size ∧ g ≠ w.heap.size ∧ (S g ∨ w.heap.size ≤ g)) (hb : But w w2 r) (hr : Rdr w2 r A cap l j b) (hrl : r < w.heap.size) (o1 : Obj) (t : TypeId) :
    Reads r A cap l w S (.one o.data.toList x, j, b) (.returned (.agg #[.string o, .string ⟨#[]⟩, .slice (some ⟨w2.heap.size + 1, 0, none⟩) 1 1])) (((W3 w2 w.heap.size (.string o) (.string ⟨#[]⟩) (.slice (some ⟨w2.heap.size + 1, 0, none⟩) 1 1)).alloc o1).alloc (.cells #[.string op, .string tx, .slice X n m] t)) := by
  have hz := hb.size
  obtain ⟨W, hW⟩ : ∃ W, W3 w2 w.heap.size (.string o) (.string ⟨#[]⟩) (.slice (some ⟨w2.heap.size + 1, 0, none⟩) 1 1) = W := ⟨_, rfl⟩
  have hs : W.heap.size = w2.heap.size := by rw [← hW, W3.size]
  have h1 : NIn W S2 x (.string op) (.string tx) (.slice X n m) := by rw [← hW]; exact W3.nin hn (fun h => (hS _ h).2.1 rfl) _ _ _
  have hB : But w W r := by rw [← hW]; exact W3.but hb (Nat.le_refl _) _ _ _
  have hR : Rdr W r A cap l j b := by rw [← hW]; exact W3.rdr hr hrl _ _ _
  rw [hW]
  have hs1 : (W.alloc o1).heap.size = w2.heap.size + 1 := by simp [hs]
  have h2 := NIn.one o (h1.alloc (fun g hg => by have := (hS g hg).1; omega) o1) (fun g hg => by have := (hS g hg).1; omega) (S' := fun g => S g ∨ New w ((W.alloc o1).alloc (.cells #[.string op, .string tx, .slice X n m] t)) g) (fun g hg => by
    obtain ⟨a1, a2, a3⟩ := hS g hg
    rcases a3 with a3 | a3
    · exact .inl a3
    · exact .inr ⟨a3, by simp [hs]; omega⟩) (.inr ⟨by rw [hs1]; omega, by simp⟩) t
  rw [hs1] at h2
  exact ⟨o, ⟨#[]⟩, _, 1, 1, rfl, h2, (hB.alloc _).alloc _, (hR.alloc _).alloc _⟩
/-- .. with two, of variables -/
theorem ret_two (o : ByteArray) (hn : NIn w2 S2 x (.string op) (.string tx) (.slice X n m)) (hn2 : NIn w2 S2 y (.string op2) (.string tx2) (.slice X2 n2 m2)) (hS : ∀ g, S2 g → g < w2.heap.size ∧ g ≠ w.heap.size ∧ (S g ∨ w.heap.size ≤ g)) (hb : But w w2 r) (hr : Rdr w2 r A cap l j b) (hrl : r < w.heap.size) (o1 : Obj) (t : TypeId) (g2 : Nat) (hg2 : w.heap.size ≤ g2) (hg3 : ¬ S2 g2) :
    Reads r A cap l w S (.two o.data.toList x y, j, b) (.returned (.agg #[.string o, .string ⟨#[]⟩, .slice (some ⟨w2.heap.size + 1, 0, none⟩) 2 2])) (((W3 w2 g2 (.string o) (.string ⟨#[]⟩) (.slice (some ⟨w2.heap.size + 1, 0, none⟩) 2 2)).alloc o1).alloc (.cells #[.string op, .string tx, .slice X n m, .string op2, .string tx2, .slice X2 n2 m2] t)) := by
  have hz := hb.size
  obtain ⟨W, hW⟩ : ∃ W, W3 w2 g2 (.string o) (.string ⟨#[]⟩) (.slice (some ⟨w2.heap.size + 1, 0, none⟩) 2 2) = W := ⟨_, rfl⟩
  have hs : W.heap.size = w2.heap.size := by rw [← hW, W3.size]
  have h1 : NIn W S2 x (.string op) (.string tx) (.slice X n m) := by rw [← hW]; exact W3.nin hn hg3 _ _ _
  have h1b : NIn W S2 y (.string op2) (.string tx2) (.slice X2 n2 m2) := by rw [← hW]; exact W3.nin hn2 hg3 _ _ _
  have hB : But w W r := by rw [← hW]; exact W3.but hb hg2 _ _ _
  have hR : Rdr W r A cap l j b := by rw [← hW]; exact W3.rdr hr (by omega) _ _ _
  rw [hW]
  have hs1 : (W.alloc o1).heap.size = w2.heap.size + 1 := by simp [hs]
  have h2 := NIn.two o (h1.alloc (fun g hg => by have := (hS g hg).1; omega) o1) (h1b.alloc (fun g hg => by have := (hS g hg).1; omega) o1) (fun g hg => by have := (hS g hg).1; omega) (S' := fun g => S g ∨ New w ((W.alloc o1).alloc (.cells #[.string op, .string tx, .slice X n m, .string op2, .string tx2, .slice X2 n2 m2] t)) g) (fun g hg => by
    obtain ⟨a1, a2, a3⟩ := hS g hg
    rcases a3 with a3 | a3
    · exact .inl a3
    · exact .inr ⟨a3, by simp [hs]; omega⟩) (.inr ⟨by rw [hs1]; omega, by simp⟩) t
  rw [hs1] at h2
  exact ⟨o, ⟨#[]⟩, _, 2, 2, rfl, h2, (hB.alloc _).alloc _, (hR.alloc _).alloc _⟩
/-- a node as it is -/
theorem ret_same (hn : NIn w2 S2 x (.string op) (.string tx) (.slice X n m)) (hS : ∀ g, S2 g → g < w2.heap.size ∧ g ≠ w.heap.size ∧ (S g ∨ w.heap.size ≤ g)) (hb : But w w2 r) (hr : Rdr w2 r A cap l j b) (hrl : r < w.heap.size) :
    Reads r A cap l w S (x, j, b) (.returned (.agg #[.string op, .string tx, .slice X n m])) (W3 w2 w.heap.size (.string op) (.string tx) (.slice X n m)) := by
  have hz := hb.size
  refine ⟨op, tx, X, n, m, rfl, ?_, W3.but hb (Nat.le_refl _) _ _ _, W3.rdr hr hrl _ _ _⟩
  refine (W3.nin hn (fun h => (hS _ h).2.1 rfl) _ _ _).imp fun g hg => ?_
  obtain ⟨a1, a2, a3⟩ := hS g hg
  rcases a3 with a3 | a3
  · exact .inl a3
  · exact .inr ⟨a3, by rw [W3.size]; exact a1⟩
end
set_option maxHeartbeats 8000000 in
set_option maxRecDepth 100000 in
theorem sign_neg {r : Nat} {A : Option Addr} {cap : Nat} {l : List W} {f : Nat} (D : Does r A cap l f) (i : Nat) (b : Bool) (w : World) (hi : i ≤ l.length) (hl : l.length ≤ 4194304) (hm : mu (bare l) .sign i < f + 1) (h : Rdr w r A cap l i b) (hq : isW (bare l) i b [45] = true) :
    Calls Try.prog 67 #[.pointer (some ⟨r, 0, none⟩)] w (Reads r A cap l w NoB (P (bare l) (f + 1) .sign i b)) := by
  have hil := isW_len hq
  obtain ⟨x, j, b', hx⟩ : ∃ x j b', P (bare l) f .sign (i + 1) b = (x, j, b') := ⟨_, _, _, rfl⟩
  have hP : P (bare l) (f + 1) .sign i b = (.one sNeg x, j, b') := by rw [P, if_pos hq, hx]
  have hmu := mu_next (L := bare l) (by rw [bare_length]; exact hil) .sign .sign trivial (Nat.le_refl 1)
  rw [hP]
  have HI := Lib.hid (fun w1 hr => D.sign (i + 1) b w1 (by omega) (by omega) hr)
  rw [hx] at HI
  have HR := Lib.hid h
  have hrl := h.lt
  have HT := Lib.hid (fun w1 hr => rtake_any r A cap l i b ⟨#[45]⟩ true hq w1 hr hi hl)
  clear h hP hmu hx hq hm D
  go_enter Try.func67, Try.ntmps67
  go_wp2_with fail
  refine (HT.out _ (HR.out.alloc _)).mono ?_
  rintro e w1 ⟨rfl, hb1, hr1⟩
  have N1 := Lib.hid ((NBox.fresh w (.string ⟨#[]⟩) (.string ⟨#[]⟩) (.slice none 0 0) 24).but (by omega) hb1)
  have B1 := Lib.hid (((But.refl w r).alloc _).trans hb1)
  have R1 := Lib.hid hr1
  have hlt1 : w.heap.size < w1.heap.size := N1.out.lt
  clear hb1 hr1
  go_wp2_with fail
  refine (HI.out _ R1.out).mono ?_
  rintro e w2 ⟨op, tx, X, n, m, rfl, hn2, hb2, hr2⟩
  have N2 := Lib.hid (N1.out.but (by omega) hb2)
  have B2 := Lib.hid (B1.out.trans hb2)
  have R2 := Lib.hid hr2
  have I2 := Lib.hid hn2
  have z2 := N2.out.lt
  obtain ⟨x0, x1, x2, xf⟩ := N2.out
  clear hb2 hr2 hn2
  go_wp2
  have Y := ((N2.out.set (.string ⟨#[110, 101, 103]⟩) (.string ⟨#[]⟩) (.slice (some ⟨w2.heap.size + 1, 0, none⟩) 1 1)).alloc (.cells #[.string op, .string tx, .slice X n m] 24)).alloc (.cells #[.string op, .string tx, .slice X n m] 24)
  exact bodyPost_ret (v := .agg #[.string ⟨#[110, 101, 103]⟩, .string ⟨#[]⟩, .slice (some ⟨w2.heap.size + 1, 0, none⟩) 1 1]) (by simp [results, Try.results67, go_sem, Y.c0, Y.c1, Y.c2]) rfl
    (ret_one ⟨#[110, 101, 103]⟩ I2.out (fun g hg => by rcases hg with hg | hg; exact hg.elim; exact ⟨hg.2, by have := hg.1; omega, .inr (by have := hg.1; omega)⟩) B2.out R2.out hrl _ _)
end Go.Proofs.Ytkibacolnagkcaa.Code
