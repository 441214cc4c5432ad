/-
  Contracts of the document's reader of words: which kind comes, a name, the marks of a level, that of some marks that comes, a number.
-/
import Derived.Test.YtpohpgahnompbaaGreatDoorM14
namespace Go.Proofs.YtpohpgahnompbaaGreatDoor.Code
open Go.ChangeShapes Go.WideShapes Go.ChangeAt Go.RowKit Val Elems
set_option linter.unusedVariables false
set_option linter.unusedSimpArgs false
/-- a text as the cell of a row -/
def sc (s : List UInt8) : List Value := [.string ⟨s.toArray⟩]
theorem sc_length (s : List UInt8) : (sc s).length = 1 := rfl
theorem at_but {α : Type} {c : α → List Value} {k : Nat} {w w' : World} {r B : Nat} {A : Option Addr} {l : List α} (h : At c k w B A l) (hb : But w w' r) (hB : B ≤ w.heap.size) (hne : ∀ ad, A = some ad → ad.block ≠ r) : At c k w' B A l := by
  intro i hi
  obtain ⟨ad, e, hlt, h0⟩ := h i hi
  exact ⟨ad, e, hlt, fun j u hu => (hb.cell (q := ad.add (i * k + j)) (by rw [add_block]; omega) (by rw [add_block]; exact hne ad e)).trans (h0 j u hu)⟩
theorem at_text {w : World} {B : Nat} {A : Option Addr} {l : List (List UInt8)} (h : At sc 1 w B A l) (i : Nat) (hi : i < l.length) : ∃ ad : Addr, A = some ad ∧ ad.block < B ∧ w.cell? (ad.add i) = some (.string ⟨l[i].toArray⟩) := by
  obtain ⟨ad, e, hb, h0⟩ := h i hi
  refine ⟨ad, e, hb, ?_⟩
  have := h0 0 _ rfl
  rwa [Nat.mul_one, Nat.add_zero] at this
theorem texts_new (w : World) (l : List (List UInt8)) (t : TypeId) (o : Obj) (ho : o = .cells (l.map fun s => Value.string ⟨s.toArray⟩).toArray t) : At sc 1 (w.alloc o) (w.heap.size + 1) (some ⟨w.heap.size, 0, none⟩) l := by
  intro i hi
  refine ⟨⟨w.heap.size, 0, none⟩, rfl, by simp, fun j u hu => ?_⟩
  have hj : j = 0 := by
    have := (List.getElem?_eq_some_iff.1 hu).1
    rw [sc_length] at this
    omega
  subst hj
  cases hu
  subst ho
  rw [Nat.mul_one, Nat.add_zero]
  exact World.news_of_block (heap_alloc_new w _) i _ (by simp [hi])
theorem isK_len {l : List W} {i : Nat} {b : Bool} {k : Int} (h : isK (bare l) i b k = true) : i < l.length := by
  have := (isK_lt h).1
  rwa [bare_length] at this
set_option maxHeartbeats 4000000 in
set_option maxRecDepth 100000 in
theorem rkind_any (r : Nat) (A : Option Addr) (cap : Nat) (l : List W) (i : Nat) (b : Bool) (k : Int) (w : World) (h : Rdr w r A cap l i b) (hi : i ≤ l.length) (hl : l.length ≤ 4194304) :
    Calls Tryz.prog 63 #[.pointer (some ⟨r, 0, none⟩), .int .i64 k] w fun e w' => e = .returned (.bool (isK (bare l) i b k)) ∧ Below w.heap.size w w' := by
  have HW := Lib.hid h.ws
  obtain ⟨c0, c1, c2, -, -⟩ := h
  cases b
  · by_cases hil : i < l.length
    · have hx := isK_at hil false k
      obtain ⟨ad, rfl, ha, d0, d1, d2⟩ := at_word HW.out i hil
      obtain ⟨x, hxx⟩ : ∃ x, l[i].1 = x := ⟨_, rfl⟩
      rw [hxx] at d0 hx
      have hx2 : isK (bare l) i false k = (x == k) := by rw [hx]; simp
      rw [hx2]
      have e0 : decide ((l.length : Int) ≤ (i : Int)) = false := by simp; omega
      have e1 : decide (i < l.length) = true := by simp; omega
      have e2 : decide ((i : Int) < 0) = false := by simp
      have e3 : decide ((0 : Int) ≤ (i : Int)) = true := by simp
      have e4 : decide ((i : Int) < (l.length : Int)) = true := by simp; omega
      clear hx hx2 hxx d1 d2
      go_enter Tryz.func63, Tryz.ntmps63
      go_wp2
      go_quiet (fail)
      go_wp2
      go_ret
      exact ⟨retB (by simp), drewN_below (Below.refl _ _) _⟩
    · rw [isK_off hil]
      have e0 : decide ((i : Int) < (l.length : Int)) = false := by simp; omega
      have e1 : decide (i < l.length) = false := by simp; omega
      have e3 : decide ((0 : Int) ≤ (i : Int)) = true := by simp
      clear hil
      go_enter Tryz.func63, Tryz.ntmps63
      go_wp2
      refine wp_region_quiet_lit (by kernel_rfl) (by kernel_rfl) ?_
      repeat (with_reducible refine wpQuiet_step ?_; intro K hK; go_simp; with_reducible refine hK _ ?_; clear hK K)
      refine wpQuiet_nil ?_
      intro _ hw'
      obtain ⟨nq, hw''⟩ := hw'
      subst hw''
      go_wp2
      go_ret
      exact ⟨rfl, drewN_below (Below.refl _ _) _⟩
  · rw [isK_bad]
    go_enter Tryz.func63, Tryz.ntmps63
    go_wp2
    refine wp_region_quiet_lit (by kernel_rfl) (by kernel_rfl) ?_
    repeat (with_reducible refine wpQuiet_step ?_; intro K hK; go_simp; with_reducible refine hK _ ?_; clear hK K)
    refine wpQuiet_nil ?_
    intro _ hw'
    obtain ⟨nq, hw''⟩ := hw'
    subst hw''
    go_wp2
    go_ret
    exact ⟨rfl, drewN_below (Below.refl _ _) _⟩
theorem txt_at {l : List W} {i : Nat} (h : i < l.length) : txt (bare l) i = l[i].2.1 := by
  unfold txt
  rw [bare_get h]
set_option maxHeartbeats 4000000 in
set_option maxRecDepth 100000 in
theorem rname_any (r : Nat) (A : Option Addr) (cap : Nat) (l : List W) (i : Nat) (b : Bool) (w : World) (h : Rdr w r A cap l i b) (hi : i ≤ l.length) (hl : l.length ≤ 4194304) (q : Bool) (hq : (isK (bare l) i b 0 && !ownL (txt (bare l) i)) = q) :
    Calls Tryz.prog 65 #[.pointer (some ⟨r, 0, none⟩)] w fun e w' => e = .returned (.string ⟨(if q = true then txt (bare l) i else []).toArray⟩) ∧ But w w' r ∧ Rdr w' r A cap l (if q = true then i + 1 else i) (if q = true then b else true) := by
  have HK := Lib.hid (rkind_any r A cap l i b 0 w h hi hl)
  have HR := Lib.hid h
  clear h
  obtain ⟨kk, hkk⟩ : ∃ kk, isK (bare l) i b 0 = kk := ⟨_, rfl⟩
  rw [hkk] at HK hq
  cases kk
  · obtain rfl : q = false := by rw [← hq]; rfl
    clear hq hkk
    go_enter Tryz.func65, Tryz.ntmps65
    go_wp2_with fail
    refine HK.out.mono ?_
    rintro e w1 ⟨rfl, hb1⟩
    have R1 := Lib.hid (HR.out.below hb1)
    have B1 := Lib.hid (But.of hb1 r)
    have c2 := R1.out.c2
    have fr := R1.out.fr 2
    clear hb1
    go_wp2
    go_ret
    exact ⟨rfl, B1.out.setCell 2 _, R1.out.wrong⟩
  · have hil := isK_len hkk
    obtain rfl : b = false := (isK_lt hkk).2
    rw [txt_at hil] at hq ⊢
    have HWS := Lib.hid HR.out.ws
    obtain ⟨ad, rfl, ha, d0, d1, d2⟩ := at_word HWS.out i hil
    obtain ⟨t, htt⟩ : ∃ t, l[i].2.1 = t := ⟨_, rfl⟩
    rw [htt] at d1 hq ⊢
    obtain ⟨T, hT⟩ : ∃ T : ByteArray, ⟨t.toArray⟩ = T := ⟨_, rfl⟩
    have hTt : t = T.data.toList := by rw [← hT]
    rw [hT] at d1
    rw [hTt] at hq
    have HO := Lib.hid (fun w => (rown_any T w).mono (R' := fun e w' => e = .returned (.bool (!q)) ∧ w' = w) (by
      rintro e w' ⟨h1, h2⟩
      refine ⟨?_, h2.symm⟩
      rw [h1, own_list, ← hq]
      simp))
    have hlr := HR.out.lt
    have HD := Lib.hid (fun (w' : World) (hb : Below w.heap.size w w') => show w'.cell? ⟨(ad.add (i * 3)).block, (ad.add (i * 3)).off + 1, none⟩ = some (.string T) from (hb.cell (p := ⟨(ad.add (i * 3)).block, (ad.add (i * 3)).off + 1, none⟩) (by show (ad.add (i * 3)).block < _; rw [add_block]; omega)).trans d1)
    clear hkk htt d0 d1 d2 hq
    go_enter Tryz.func65, Tryz.ntmps65
    go_wp2_with fail
    refine HK.out.mono ?_
    rintro e w1 ⟨rfl, hb1⟩
    have R1 := Lib.hid (HR.out.below hb1)
    have B1 := Lib.hid (But.of hb1 r)
    have c0 := R1.out.c0
    have c1 := R1.out.c1
    have c2 := R1.out.c2
    have f1 := R1.out.fr 1
    have f2 := R1.out.fr 2
    have d1 := HD.out _ hb1
    have e0 : decide ((i : Int) < (l.length : Int)) = true := by simp; omega
    clear hb1
    go_wp2
    go_quiet (refine Calls.quiet_of_same (HO.out _))
    have hb2 : Below w1.heap.size w1 (w1.drewN nq) := drewN_below (Below.refl _ _) nq
    have R2 := Lib.hid (R1.out.below hb2)
    have B2 := Lib.hid (B1.out.next hb2)
    clear hb2
    cases q
    · go_wp2
      go_ret
      exact ⟨rfl, B2.out.setCell 2 _, R2.out.wrong⟩
    · have R3 := Lib.hid (R2.out.at (i + 1))
      rw [Int.natCast_add] at R3
      have B3 := Lib.hid (B2.out.setCell 1 (.int .i64 ((i : Int) + ((1 : Nat) : Int))))
      have d3 : ((w1.drewN nq).setCell ⟨r, 1, none⟩ (.int .i64 ((i : Int) + ((1 : Nat) : Int)))).cell? ⟨(ad.add (i * 3)).block, (ad.add (i * 3)).off + 1, none⟩ = some (.string T) := by
        rw [World.cell?_setCell_other _ _ _ _ (by
          intro e
          have : r = (ad.add (i * 3)).block := congrArg Addr.block e
          rw [add_block] at this
          omega)]
        exact d1
      clear c0 c1 c2 f1 f2
      have c1 := R1.out.c1
      have f1 := R1.out.fr 1
      go_wp2
      generalize hw2 : (w1.drewN nq).setCell ⟨r, 1, none⟩ (.int .i64 ((i : Int) + ((1 : Nat) : Int))) = w2 at R3 B3 d3
      clear hw2 c1 f1 d1
      have c0 := R3.out.c0
      have c1 : w2.cell? ⟨r, 1, none⟩ = some (.int .i64 ((i : Int) + 1)) := R3.out.c1
      have f4 : IntKind.i64.wrap ((i : Int) + 1 - 1) = (i : Int) := by rw [IntKind.wrap_i64]; omega
      have f5 : (i : Int) + 1 - 1 = (i : Int) := by omega
      have e1 : (i : Int) < (l.length : Int) := by omega
      go_quiet (fail)
      go_wp2
      go_ret
      exact ⟨retS (by first | exact hT.symm | rfl), B3.out.next (drewN_below (Below.refl _ _) _), R3.out.below (drewN_below (Below.refl _ _) _)⟩
end Go.Proofs.YtpohpgahnompbaaGreatDoor.Code

/-
  Contracts of the document's reader of words: the marks of a level, that of some marks that comes, a number.
-/
namespace Go.Proofs.YtpohpgahnompbaaGreatDoor.Code
open Go.ChangeShapes Go.WideShapes Go.ChangeAt Go.RowKit Val Elems
set_option linter.unusedVariables false
set_option linter.unusedSimpArgs false
/-- a list of texts in a new block -/
def Strs (w w' : World) (e : Ending) (l : List (List UInt8)) : Prop := ∃ (A : Option Addr) (cap : Nat), e = .returned (.slice A l.length cap) ∧ At sc 1 w' w'.heap.size A l ∧ (∀ ad, A = some ad → w.heap.size ≤ ad.block) ∧ Below w.heap.size w w'
theorem strs_new (w : World) (l : List (List UInt8)) (t : TypeId) (cs : Array Value) (hc : cs = (l.map fun s => Value.string ⟨s.toArray⟩).toArray) : Strs w (w.alloc (.cells cs t)) (.returned (.slice (some ⟨w.heap.size, 0, none⟩) l.length l.length)) l := by
  refine ⟨_, _, rfl, ?_, ?_, (Below.refl _ _).alloc (Nat.le_refl _) _⟩
  · subst hc
    have := texts_new w l t _ rfl
    rw [show ∀ o, (w.alloc o).heap.size = w.heap.size + 1 from fun o => by simp]
    exact this
  · intro ad e
    cases e
    exact Nat.le_refl _
theorem strs_nil (w : World) : Strs w w (.returned (.slice none 0 0)) [] := ⟨none, 0, rfl, At.nil _ _ _, fun ad e => (by cases e), Below.refl _ _⟩
set_option maxHeartbeats 4000000 in
theorem rops_any (lv : Nat) (hl : lv ≤ 7) (w : World) :
    Calls Tryz.prog 45 #[.int .i64 lv] w fun e w' => Strs w w' e (opsL lv) := by
  have hc : lv = 0 ∨ lv = 1 ∨ lv = 2 ∨ lv = 3 ∨ lv = 4 ∨ lv = 5 ∨ lv = 6 ∨ lv = 7 := by omega
  rcases hc with rfl | rfl | rfl | rfl | rfl | rfl | rfl | rfl
  all_goals
    go_enter Tryz.func45, Tryz.ntmps45
    go_wp2
    go_ret
    first | exact strs_nil w | exact strs_new w (opsL 1) _ _ rfl | exact strs_new w (opsL 2) _ _ rfl | exact strs_new w (opsL 4) _ _ rfl | exact strs_new w (opsL 5) _ _ rfl | exact strs_new w (opsL 6) _ _ rfl
theorem oneL_step {L : List V} {i : Nat} {b : Bool} : ∀ (ls : List (List UInt8)) (k : Nat) (h : k < ls.length), (∀ j (hj : j < ls.length), j < k → isW L i b ls[j] = false) → isW L i b ls[k] = true → oneL L i b ls = ls[k]
  | [], k, h, _, _ => absurd h (Nat.not_lt_zero _)
  | s :: ls, 0, h, _, hw => by
    rw [oneL, if_pos (show isW L i b s = true from hw)]
    rfl
  | s :: ls, k + 1, h, hb, hw => by
    have h0 := hb 0 (by simp) (by omega)
    rw [oneL, if_neg (by rw [show isW L i b s = false from h0]; decide)]
    exact oneL_step ls k (by simpa using h) (fun j hj hjk => hb (j + 1) (by simpa using hj) (by omega)) hw
set_option maxHeartbeats 4000000 in
set_option maxRecDepth 100000 in
theorem rone_any (r : Nat) (A : Option Addr) (cap : Nat) (l : List W) (i : Nat) (b : Bool) (S : Option Addr) (sc' : Nat) (ls : List (List UInt8)) (w : World) (h : Rdr w r A cap l i b) (hi : i ≤ l.length) (hl : l.length ≤ 4194304)
    (hs : At sc 1 w w.heap.size S ls) (hne : ∀ ad, S = some ad → ad.block ≠ r) (hls : ls.length ≤ 100) (hn0 : [] ∉ ls) (q : List UInt8) (hq : oneL (bare l) i b ls = q) :
    Calls Tryz.prog 44 #[.pointer (some ⟨r, 0, none⟩), .slice S ls.length sc'] w fun e w' => e = .returned (.string ⟨q.toArray⟩) ∧ But w w' r ∧ Rdr w' r A cap l (if q = [] then i else i + 1) b := by
  have HR := Lib.hid h
  have HS := Lib.hid hs
  have HNE := Lib.hid hne
  have HN0 := Lib.hid hn0
  have HQ := Lib.hid hq
  clear h hs hne hn0 hq
  go_enter Tryz.func44, Tryz.ntmps44
  go_wp2
  go_loopw [5] (fun t wr => ∃ k : Nat, k ≤ ls.length ∧ t = .int .i64 k ∧ Hid (∀ j (hj : j < ls.length), j < k → isW (bare l) i b ls[j] = false) ∧ But w wr r ∧ Rdr wr r A cap l i b) (fun t _ => ls.length - (intOf t).toNat)
  case atStart => exact ⟨0, by omega, rfl, Lib.hid (fun j hj h => absurd h (Nat.not_lt_zero _)), But.refl _ _, HR.out⟩
  case round =>
    obtain ⟨k, hk, rfl, HB, hbut, hrd⟩ := hrel
    have HBU := Lib.hid hbut
    have HRD := Lib.hid hrd
    have VS := Lib.hid (at_but HS.out hbut (Nat.le_refl _) HNE.out)
    clear hbut hrd
    by_cases hkl : k < ls.length
    · obtain ⟨ad, rfl, ha, c0⟩ := at_text VS.out k hkl
      obtain ⟨s, hsx⟩ : ∃ s, ls[k] = s := ⟨_, rfl⟩
      obtain ⟨T, hT⟩ : ∃ T : ByteArray, ⟨s.toArray⟩ = T := ⟨_, rfl⟩
      have hTs : T.data.toList = s := by rw [← hT]
      rw [hsx, hT] at c0
      obtain ⟨g, hg⟩ : ∃ g, isW (bare l) i b s = g := ⟨_, rfl⟩
      have HTK := Lib.hid (rtake_any r A cap l i b T g (by rw [hTs]; exact hg) wr HRD.out hi hl)
      have HNB := Lib.hid (HNE.out ad rfl)
      cases g
      · have HB2 := Lib.hid (show ∀ j (hj : j < ls.length), j < k + 1 → isW (bare l) i b ls[j] = false by
          intro j hj hjk
          by_cases e : j = k
          · subst e; rw [hsx]; exact hg
          · exact HB.out j hj (by omega))
        clear hg hsx hT hTs
        go_wp2_with fail
        refine HTK.out.mono ?_
        rintro e w1 ⟨rfl, hb1, hr1⟩
        have B1 := Lib.hid (HBU.out.trans hb1)
        have R1 := Lib.hid hr1
        clear hb1 hr1 c0 HTK
        go_wp2
        go_roundw
        case rel => exact ⟨k + 1, by omega, by go_num, HB2, B1.out, R1.out⟩
        case measure => simp [intOf]; omega
      · have hx := oneL_step ls k hkl HB.out (by rw [hsx]; exact hg)
        rw [HQ.out, hsx] at hx
        subst hx
        have hq0 : q ≠ [] := by
          intro e
          subst e
          exact HN0.out (hsx ▸ List.getElem_mem hkl)
        have HC := Lib.hid (fun (w' : World) (hb : But wr w' r) => show w'.cell? (ad.add k) = some (.string T) from (hb.cell (q := ad.add k) (by rw [add_block]; exact Nat.lt_of_lt_of_le ha HBU.out.size) (by rw [add_block]; exact HNB.out)).trans c0)
        have HT := Lib.hid hT
        clear hg hsx hT hTs
        go_wp2_with fail
        refine HTK.out.mono ?_
        rintro e w1 ⟨rfl, hb1, hr1⟩
        have B1 := Lib.hid (HBU.out.trans hb1)
        have R1 := Lib.hid hr1
        have c1 := HC.out _ hb1
        clear hb1 hr1 c0 HTK
        go_wp2
        go_ret
        refine ⟨retS HT.out.symm, B1.out, ?_⟩
        first | exact R1.out | (rw [if_neg hq0]; exact R1.out)
    · have hx : oneL (bare l) i b ls = [] := oneL_none fun s hs => by
        obtain ⟨j, hj, rfl⟩ := List.mem_iff_getElem.1 hs
        exact HB.out j hj (by omega)
      rw [HQ.out] at hx
      subst hx
      go_wp2
      go_ret
      exact ⟨rfl, HBU.out, HRD.out⟩
end Go.Proofs.YtpohpgahnompbaaGreatDoor.Code

/-
  Contract of the document's Number: a figure's, as a node.
-/
namespace Go.Proofs.YtpohpgahnompbaaGreatDoor.Code
open Go.ChangeShapes Go.WideShapes Go.ChangeAt Go.RowKit Val Elems
set_option linter.unusedVariables false
set_option linter.unusedSimpArgs false
def FigS (s : List UInt8) : Prop := ∀ c ∈ s, figB c = true
/-- how far a number's figures are gone through -/
def numI (s : List UInt8) (i : Nat) (n : Int) : Prop := numF s 0 = numF (s.drop i) n
theorem numI_start (s : List UInt8) : numI s 0 0 := rfl
theorem numI_big {s : List UInt8} {i : Nat} {n : Int} (h : numI s i n) (hi : i < s.length) (hb : (9223372036854775807 - ((s[i].toNat : Int) - 48)) / 10 < n) : numF s 0 = none := by
  unfold numI at h
  rw [h, List.drop_eq_getElem_cons hi, numF, if_pos hb]
theorem numI_step {s : List UInt8} {i : Nat} {n : Int} (h : numI s i n) (hi : i < s.length) (hb : ¬ (9223372036854775807 - ((s[i].toNat : Int) - 48)) / 10 < n) : numI s (i + 1) (10 * n + ((s[i].toNat : Int) - 48)) := by
  unfold numI at *
  rw [h, List.drop_eq_getElem_cons hi, numF, if_neg hb]
theorem numI_end {s : List UInt8} {i : Nat} {n : Int} (h : numI s i n) (hi : s.length ≤ i) : numF s 0 = some n := by
  unfold numI at h
  rw [h, List.drop_eq_nil_of_le hi, numF]
def numOk (s : List UInt8) : Bool := (numL s).isSome
def numTx (s : List UInt8) : List UInt8 := (numL s).getD []
def numOp (s : List UInt8) : List UInt8 := if (numL s).isSome = true then sNum else []
theorem num_no {s : List UInt8} (h : numF s 0 = none) : numOk s = false ∧ numTx s = [] ∧ numOp s = [] := by
  unfold numOk numTx numOp numL
  rw [h]
  exact ⟨rfl, rfl, rfl⟩
theorem num_yes {s : List UInt8} {n : Int} (h : numF s 0 = some n) : numOk s = true ∧ numTx s = Lib.itoa n ∧ numOp s = sNum := by
  unfold numOk numTx numOp numL
  rw [h]
  exact ⟨rfl, rfl, rfl⟩
set_option maxHeartbeats 4000000 in
set_option maxRecDepth 100000 in
theorem rnumber_any (s : ByteArray) (hf : FigS s.data.toList) (hs : s.size ≤ 4194304) (w : World) :
    Calls Tryz.prog 64 #[.string s] w fun e w' => e = .returned (.tuple #[.agg #[.string ⟨(numOp s.data.toList).toArray⟩, .string ⟨(numTx s.data.toList).toArray⟩, .slice none 0 0], .bool (numOk s.data.toList)]) ∧ Below w.heap.size w w' := by
  have HF := Lib.hid hf
  clear hf
  go_enter Tryz.func64, Tryz.ntmps64
  go_wp2
  go_loop [4, 5] (fun v t => ∃ (i : Nat) (n : Int), i ≤ s.size ∧ t = .int .i64 i ∧ v = .int .i64 n ∧ 0 ≤ n ∧ n ≤ 9223372036854775807 ∧ Hid (numI s.data.toList i n)) (fun _ t => s.size - (intOf t).toNat)
  case atStart => exact ⟨0, 0, by omega, rfl, rfl, by omega, by omega, Lib.hid (numI_start _)⟩
  case round =>
    obtain ⟨i, n, hi, rfl, rfl, hn0, hn1, HI⟩ := hrel
    by_cases hil : i < s.size
    · obtain ⟨c, hc⟩ : ∃ c, s[i] = c := ⟨_, rfl⟩
      have hg := (list_get s i hil hil).trans hc
      have hfig := HF.out s.data.toList[i] (List.getElem_mem hil)
      rw [hg] at hfig
      have hc48 : 48 ≤ c.toNat ∧ c.toNat ≤ 57 := by
        unfold figB at hfig
        simpa using hfig
      obtain ⟨d, hd⟩ : ∃ d : Int, (c.toNat : Int) - 48 = d := ⟨_, rfl⟩
      have hd0 : 0 ≤ d ∧ d ≤ 9 := by omega
      obtain ⟨Q, hQ⟩ : ∃ Q : Int, (9223372036854775807 - d) / 10 = Q := ⟨_, rfl⟩
      have hQ2 : (9223372036854775807 - d).tdiv 10 = Q := by rw [Int.tdiv_eq_ediv_of_nonneg (by omega)]; exact hQ
      have hw : IntKind.u8.wrap ((c.toNat : Int) - 48) = d := by
        rw [hd]
        show d % 256 = d
        omega
      by_cases hbig : Q < n
      · have HD := Lib.hid (num_no (numI_big HI.out hil (by rw [hg, hd, hQ]; exact hbig)))
        clear hg hfig hd
        go_wp2
        exact bodyPost_ret (v := .tuple #[.agg #[.string ⟨#[]⟩, .string ⟨#[]⟩, .slice none 0 0], .bool false]) (by simp [results, Tryz.results64, go_sem, World.cell?_setCell_other]) rfl ⟨by rw [HD.out.1, HD.out.2.1, HD.out.2.2], below_alloc w _⟩
      · have HD := Lib.hid (numI_step HI.out hil (by rw [hg, hd, hQ]; exact hbig))
        rw [hg, hd] at HD
        clear hg hfig hd
        go_wp2
        go_round
        case rel => exact ⟨i + 1, 10 * n + d, by omega, by go_num, rfl, by omega, by omega, HD⟩
        case measure => simp [intOf]; omega
    · have hx := numI_end HI.out (by rw [← size_list]; omega)
      have HD := Lib.hid (num_yes hx)
      have HFG := Lib.hid (figures_any n (by unfold fits; omega))
      go_wp2_with fail
      refine (HFG.out _).mono ?_
      rintro e w1 ⟨rfl, hb1⟩
      have L1 := Lib.hid (bnext (below_alloc w (.cells #[.string ⟨#[]⟩, .string ⟨#[]⟩, .slice none 0 0] 25)) (by simp) hb1)
      have hz := hb1.size
      have x0 := (bcell hb1).1 w.heap.size 0 (by simp)
      have x1 := (bcell hb1).1 w.heap.size 1 (by simp)
      have x2 := (bcell hb1).1 w.heap.size 2 (by simp)
      have xf := (bcell hb1).2
      have xz : w.heap.size < w1.heap.size := by simp at hz; omega
      have y0 : w1.cell? ⟨w.heap.size, 0, none⟩ = some (.string ⟨#[]⟩) := by rw [x0]; simp [go_sem]
      have y1 : w1.cell? ⟨w.heap.size, 1, none⟩ = some (.string ⟨#[]⟩) := by rw [x1]; simp [go_sem]
      have y2 : w1.cell? ⟨w.heap.size, 2, none⟩ = some (.slice none 0 0) := by rw [x2]; simp [go_sem]
      have yf : ∀ j, w1.frozen? ⟨w.heap.size, j, none⟩ = false := fun j => by rw [xf _ _ (by simp)]; simp [go_sem]
      clear hb1 x0 x1 x2 xf hz hx
      go_wp2
      exact bodyPost_ret (v := .tuple #[.agg #[.string ⟨sNum.toArray⟩, .string ⟨(Lib.itoa n).toArray⟩, .slice none 0 0], .bool true]) (by simp [results, Tryz.results64, go_sem, World.cell?_setCell_other, y0, y1, y2, sNum]) rfl ⟨by rw [HD.out.1, HD.out.2.1, HD.out.2.2], ((L1.out.setCell (by simp) _).setCell (by simp) _).setCell (by simp) _⟩
end Go.Proofs.YtpohpgahnompbaaGreatDoor.Code
