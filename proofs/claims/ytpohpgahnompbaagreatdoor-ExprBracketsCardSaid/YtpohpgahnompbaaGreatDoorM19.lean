/-
  The document's reader of expressions: a sign: texts.
-/
import Derived.Test.YtpohpgahnompbaaGreatDoorM16
import Derived.Deep.DeepCutAuto
import Derived.Test.YtpohpgahnompbaaGreatDoorM17
import Derived.Test.YtpohpgahnompbaaGreatDoorM18
import Derived.Test.YtpohpgahnompbaaGreatDoorM6
import Derived.Test.YtpohpgahnompbaaGreatDoorM14
import Derived.Deep.RegionHeld3
namespace Go.Proofs.YtpohpgahnompbaaGreatDoor.Code
open Go.ChangeShapes Go.WideShapes Go.ChangeAt Go.RowKit Val Elems
set_option linter.unusedVariables false
set_option linter.unusedSimpArgs false
theorem Reads.drew {r : Nat} {A : Option Addr} {cap : Nat} {l : List W} {w : World} {S : Nat → Prop} {res : Tr × Nat × Bool} {e : Ending} {w' : World} (h : Reads r A cap l w S res e w') : Reads r A cap l w S res e w'.drew := by
  obtain ⟨op, tx, X, n, m, he, hn, hb, hr⟩ := h
  exact ⟨op, tx, X, n, m, he, NIn.keep (w := w') (w' := w'.drew) (S' := fun g => S g ∨ New w w'.drew g) (fun _ h => h) (fun _ _ _ => rfl) _ _ _ _ hn, ⟨hb.os, hb.tape, hb.output, hb.size, hb.block⟩, ⟨hr.c0, hr.c1, hr.c2, hr.fr, hr.ws⟩⟩
set_option maxHeartbeats 8000000 in
set_option maxRecDepth 100000 in
theorem sign_text {r : Nat} {A : Option Addr} {cap : Nat} {l : List W} {f : Nat} (i : Nat) (b : Bool) (w : World) (hi : i ≤ l.length) (hl : l.length ≤ 4194304) (h : Rdr w r A cap l i b) (hq1 : isW (bare l) i b [45] = false) (hq2 : isW (bare l) i b [40] = false) (q : List UInt8) (hq : oneL (bare l) i b [sTrue, sFalse, sNull] = q) (hq0 : q = []) (k1 : isK (bare l) i b 1 = false) (k2 : isK (bare l) i b 2 = true) :
    Calls Tryz.prog 41 #[.pointer (some ⟨r, 0, none⟩)] w (Reads r A cap l w NoB (P (bare l) (f + 1) .sign i b)) := by
  have hil := isK_len k2
  obtain rfl : b = false := (isK_lt k2).2
  have HWS := Lib.hid h.ws
  obtain ⟨ad, hA, ha, d0, d1, d2⟩ := at_word HWS.out i hil
  have htx := txt_at hil
  obtain ⟨t, htt⟩ : ∃ t, l[i].2.1 = t := ⟨_, rfl⟩
  rw [htt] at d1 htx
  obtain ⟨T, hT⟩ : ∃ T : ByteArray, ⟨t.toArray⟩ = T := ⟨_, rfl⟩
  have hTt : t = T.data.toList := by rw [← hT]
  rw [hT] at d1
  rw [hTt] at htx
  have hP : P (bare l) (f + 1) .sign i false = (.leaf sText T.data.toList, i + 1, false) := by
    rw [P, if_neg (by rw [hq1]; decide), if_neg (by rw [hq2]; decide), hq, if_pos hq0, if_neg (by rw [k1]; decide), if_pos k2, htx]
  rw [hP]
  have HR := Lib.hid h
  have hrl := h.lt
  have HT1 := Lib.hid (fun w1 hr => rtake_any r A cap l i false ⟨#[45]⟩ false hq1 w1 hr hi hl)
  have HT2 := Lib.hid (fun w1 hr => rtake_any r A cap l i false ⟨#[40]⟩ false hq2 w1 hr hi hl)
  have HT3 := Lib.hid (fun (w1 : World) (t : TypeId) (hr : Rdr w1 r A cap l i false) => (show Calls Tryz.prog 44 #[.pointer (some ⟨r, 0, none⟩), .slice (some ⟨w1.heap.size, 0, none⟩) 3 3] (w1.alloc (.cells #[.string ⟨#[116, 114, 117, 101]⟩, .string ⟨#[102, 97, 108, 115, 101]⟩, .string ⟨#[110, 117, 108, 108]⟩] t)) _ from
    rone_any r A cap l i false (some ⟨w1.heap.size, 0, none⟩) 3 [sTrue, sFalse, sNull] (w1.alloc (.cells #[.string ⟨#[116, 114, 117, 101]⟩, .string ⟨#[102, 97, 108, 115, 101]⟩, .string ⟨#[110, 117, 108, 108]⟩] t)) (hr.alloc _) hi hl
      (by rw [show ∀ o, (w1.alloc o).heap.size = w1.heap.size + 1 from fun o => by simp]; exact texts_new w1 [sTrue, sFalse, sNull] t _ rfl) (fun ad e => by cases e; have := hr.lt; show w1.heap.size ≠ r; omega) (by decide) (by decide) q hq))
  have HK1 := Lib.hid (fun w1 hr => rkind_any r A cap l i false 1 w1 hr hi hl)
  rw [k1] at HK1
  have HK2 := Lib.hid (fun w1 hr => rkind_any r A cap l i false 2 w1 hr hi hl)
  rw [k2] at HK2
  subst hq
  rw [if_pos hq0] at HT3
  rw [hq0] at HT3
  have HD := Lib.hid (fun (w' : World) (hb : But w w' r) => show w'.cell? ⟨(ad.add (i * 3)).block, (ad.add (i * 3)).off + 1, none⟩ = some (.string T) from (hb.cell (q := ⟨(ad.add (i * 3)).block, (ad.add (i * 3)).off + 1, none⟩) (by show (ad.add (i * 3)).block < _; rw [add_block]; omega) (by show (ad.add (i * 3)).block ≠ _; rw [add_block]; omega)).trans d1)
  have hda : (ad.add (i * 3)).block < r := by rw [add_block]; exact ha
  subst hA
  clear h hP hq1 hq2 k1 k2 htx htt hT hTt d0 d1 d2 hq0
  go_enter Tryz.func41, Tryz.ntmps41
  have N0 := Lib.hid (NBox.fresh w (.string ⟨#[]⟩) (.string ⟨#[]⟩) (.slice none 0 0) 25)
  have B0 := Lib.hid ((But.refl w r).alloc (.cells #[.string ⟨#[]⟩, .string ⟨#[]⟩, .slice none 0 0] 25))
  go_wp2_with fail
  refine (HT1.out _ (HR.out.alloc _)).mono ?_
  rintro e w1 ⟨rfl, hb1, hr1⟩
  have N1 := Lib.hid (N0.out.but (by omega) hb1)
  have B1 := Lib.hid (B0.out.trans hb1)
  have R1 := Lib.hid hr1
  clear hb1 hr1
  go_wp2_with fail
  refine (HT2.out _ R1.out).mono ?_
  rintro e w2 ⟨rfl, hb2, hr2⟩
  have N2 := Lib.hid (N1.out.but (by omega) hb2)
  have B2 := Lib.hid (B1.out.trans hb2)
  have R2 := Lib.hid hr2
  clear hb2 hr2
  go_wp2_with fail
  refine (HT3.out w2 _ R2.out).mono ?_
  rintro e w3 ⟨rfl, hb3, hr3⟩
  have N3 := Lib.hid ((N2.out.alloc _).but (by omega) hb3)
  have B3 := Lib.hid ((B2.out.alloc _).trans hb3)
  have R3 := Lib.hid hr3
  have hlt3 : w.heap.size < w3.heap.size := N3.out.lt
  clear hb3 hr3
  go_wp2_with fail
  refine (HK1.out _ R3.out).mono ?_
  rintro e w4 ⟨rfl, hb4⟩
  have N4 := Lib.hid (N3.out.below hb4)
  have B4 := Lib.hid (B3.out.next hb4)
  have R4 := Lib.hid (R3.out.below hb4)
  clear hb4
  go_wp2_with fail
  refine (HK2.out _ R4.out).mono ?_
  rintro e w5 ⟨rfl, hb5⟩
  have N5 := Lib.hid (N4.out.below hb5)
  have B5 := Lib.hid (B4.out.next hb5)
  have R5 := Lib.hid (R4.out.below hb5)
  clear hb5
  have c1 := R5.out.c1
  have f1 := R5.out.fr 1
  go_upto_region 22 with fail
  have R6 := Lib.hid (R5.out.at (i + 1))
  have N6 := Lib.hid (N5.out.but (r := r) (by omega) ((But.refl w5 r).setCell 1 (.int .i64 ((i + 1 : Nat) : Int))))
  have B6 := Lib.hid (B5.out.setCell 1 (.int .i64 ((i + 1 : Nat) : Int)))
  rw [Int.natCast_add] at R6 N6 B6
  generalize hw6 : w5.setCell ⟨r, 1, none⟩ (.int .i64 ((i : Int) + ((1 : Nat) : Int))) = w6 at R6 N6 B6
  clear hw6 c1 f1
  have c0 := R6.out.c0
  have c1 : w6.cell? ⟨r, 1, none⟩ = some (.int .i64 ((i : Int) + 1)) := by have := R6.out.c1; rwa [Int.natCast_add] at this
  have d1 := HD.out _ B6.out
  obtain ⟨x0, x1, x2, xf⟩ := N6.out
  have zd : (ad.add (i * 3)).block < w.heap.size := by omega
  have zr : r < w.heap.size := hrl
  have e1 : (i : Int) < (l.length : Int) := by omega
  have e0 : (0 : Int) ≤ (i : Int) := by omega
  have f4 : IntKind.i64.wrap ((i : Int) + 1 - 1) = (i : Int) := by rw [IntKind.wrap_i64]; omega
  have f6 : IntKind.i64.wrap (i : Int) = (i : Int) := by rw [IntKind.wrap_i64]; omega
  have f5 : (i : Int) + 1 - 1 = (i : Int) := by omega
  have FQ := Lib.hid (fun (w' : World) (hb : Below w.heap.size w6 w') => show w'.cell? ⟨r, 0, none⟩ = some (.slice (some ad) l.length cap) ∧ w'.cell? ⟨r, 1, none⟩ = some (.int .i64 ((i : Int) + 1)) ∧ w'.cell? ⟨(ad.add (i * 3)).block, (ad.add (i * 3)).off + 1, none⟩ = some (.string T) from
    ⟨(hb.cell (p := ⟨r, 0, none⟩) zr).trans c0, (hb.cell (p := ⟨r, 1, none⟩) zr).trans c1, (hb.cell (p := ⟨(ad.add (i * 3)).block, (ad.add (i * 3)).off + 1, none⟩) zd).trans d1⟩)
  have HB := Lib.hid (Below.refl w.heap.size w6)
  have k0 := FQ.out _ HB.out
  go_region_held3 (fun w' => (w'.cell? ⟨r, 0, none⟩ = some (.slice (some ad) l.length cap) ∧ w'.cell? ⟨r, 1, none⟩ = some (.int .i64 ((i : Int) + 1)) ∧ w'.cell? ⟨(ad.add (i * 3)).block, (ad.add (i * 3)).off + 1, none⟩ = some (.string T)) ∧ Below w.heap.size w6 w')
    (first | assumption | (exact ⟨FQ.out _ HB.out.drew, HB.out.drew⟩) | (exact ⟨FQ.out _ HB.out, HB.out⟩) | (refine (fun hS9 : Below w.heap.size w6 _ => ⟨FQ.out _ hS9, hS9⟩) (((HB.out.setCell (Nat.le_refl _) _).setCell (Nat.le_refl _) _).setCell (Nat.le_refl _) _).drew))
    (fail)
  go_wp2
  have Y := N6.out.set (.string ⟨#[116, 101, 120, 116]⟩) (.string T) (.slice none 0 0)
  exact bodyPost_ret (v := .agg #[.string ⟨#[116, 101, 120, 116]⟩, .string T, .slice none 0 0]) (by simp [results, Tryz.results41, go_sem, Y.c0, Y.c1, Y.c2]) rfl
    (ret_same (S2 := NoB) (NIn.leaf w6 NoB ⟨#[116, 101, 120, 116]⟩ T) (fun g hg => hg.elim) B6.out R6.out hrl).drew
end Go.Proofs.YtpohpgahnompbaaGreatDoor.Code

/-
  The document's reader of expressions does as it should, with any number of steps.
-/
namespace Go.Proofs.YtpohpgahnompbaaGreatDoor.Code
open Go.ChangeShapes Go.WideShapes Go.ChangeAt Go.RowKit Val Elems
set_option linter.unusedVariables false
/-- the numbers among the words are figures, and not too many -/
def FigW (l : List W) : Prop := ∀ w ∈ l, w.1 = 1 → FigS w.2.1 ∧ w.2.1.length ≤ 4194304
section
variable {r : Nat} {A : Option Addr} {cap : Nat} {l : List W} {f : Nat}
theorem sign_does (D : Does r A cap l f) (i : Nat) (b : Bool) (w : World) (hi : i ≤ l.length) (hl : l.length ≤ 4194304) (hfg : FigW l) (hm : mu (bare l) .sign i < f + 1) (h : Rdr w r A cap l i b) :
    Calls Tryz.prog 41 #[.pointer (some ⟨r, 0, none⟩)] w (Reads r A cap l w NoB (P (bare l) (f + 1) .sign i b)) := by
  cases q1 : isW (bare l) i b [45] with
  | true => exact sign_neg D i b w hi hl hm h q1
  | false =>
    cases q2 : isW (bare l) i b [40] with
    | true => exact sign_open D i b w hi hl hm h q1 q2
    | false =>
      by_cases q0 : oneL (bare l) i b [sTrue, sFalse, sNull] = []
      · cases k1 : isK (bare l) i b 1 with
        | true => exact sign_num i b w hi hl hfg h q1 q2 _ rfl q0 k1
        | false =>
          cases k2 : isK (bare l) i b 2 with
          | true => exact sign_text i b w hi hl h q1 q2 _ rfl q0 k1 k2
          | false => exact sign_name i b w hi hl h q1 q2 _ rfl q0 k1 k2
      · exact sign_word i b w hi hl h q1 q2 _ rfl q0
theorem does (hl : l.length ≤ 4194304) (hfg : FigW l) : ∀ f, Does r A cap l f
  | 0 => ⟨fun _ _ _ _ _ _ _ h => absurd h (Nat.not_lt_zero _), fun _ _ _ _ h => absurd h (Nat.not_lt_zero _), fun _ _ _ _ _ _ _ _ _ _ _ _ _ h => absurd h (Nat.not_lt_zero _)⟩
  | f + 1 => by
    have D := does hl hfg f
    refine ⟨fun lv i b w h1 h7 hi hm h => ?_, fun i b w hi hm h => sign_does D i b w hi hl hfg hm h, fun S t op tx X n m i b w hS hn hi hm h => test_does D S t op tx X n m i b w hS hn hi hl hm h⟩
    have hc : (lv = 1 ∨ lv = 2 ∨ lv = 5 ∨ lv = 6) ∨ lv = 3 ∨ lv = 4 ∨ lv = 7 := by omega
    rcases hc with hc | rfl | rfl | rfl
    · exact expr_loop D lv hc i b w hi hl hm h
    · exact expr_not D i b w hi hl hm h
    · exact expr_test D i b w hi hm h
    · exact expr_sign D i b w hi hm h
/-- what is read from a place on -/
def fromP (L : List V) (i : Nat) : Tr × Nat × Bool := P L (stepsN L) (.expr 1) i false
theorem from_top (L : List V) : fromP L 0 = topP L := rfl
/-- an expression, from a place on -/
theorem expr_any (hl : l.length ≤ 4194304) (hfg : FigW l) (i : Nat) (w : World) (hi : i ≤ l.length) (h : Rdr w r A cap l i false) :
    Calls Tryz.prog 26 #[.pointer (some ⟨r, 0, none⟩), .int .i64 1] w (Reads r A cap l w NoB (fromP (bare l) i)) := by
  have hd := (does (r := r) (A := A) (cap := cap) hl hfg (stepsN (bare l))).expr 1 i false w (by omega) (by omega) hi (by
    have e : mu (bare l) (.expr 1) i = 16 * ((bare l).length - i) + 15 := rfl
    unfold stepsN
    omega) h
  exact hd
end
end Go.Proofs.YtpohpgahnompbaaGreatDoor.Code

/-
  How deep what is read is nested; the numbers among a text's words; how many words a text has. No program is named here.
-/
namespace Go.Proofs.YtpohpgahnompbaaGreatDoor.Code
open Val
set_option linter.unusedVariables false
def m0 : Mode → Nat
  | .loop _ a => a.deep
  | .test a => a.deep
  | _ => 1
theorem deep_pos (t : Tr) : 1 ≤ t.deep := by cases t <;> simp [Tr.deep]
theorem m0_pos (m : Mode) : 1 ≤ m0 m := by cases m <;> first | exact Nat.le_refl _ | exact deep_pos _
theorem deep_one (o : List UInt8) (a : Tr) : (Tr.one o a).deep = a.deep + 1 := rfl
theorem deep_two (o : List UInt8) (a b : Tr) : (Tr.two o a b).deep = max a.deep b.deep + 1 := rfl
theorem deep_leaf (o x : List UInt8) : (Tr.leaf o x).deep = 1 := rfl
/-- no node is nested deeper than it has words -/
theorem P_deep (L : List V) : ∀ (f : Nat) (m : Mode) (i : Nat) (b : Bool), i ≤ L.length → (P L f m i b).1.deep + i ≤ m0 m + (P L f m i b).2.1
  | 0, m, i, b, _ => by
    have := m0_pos m
    show 1 + i ≤ m0 m + i
    omega
  | f + 1, .expr l, i, b, h => by
    rw [P]
    split
    · exact P_deep L f .sign i b h
    split
    · split
      · rename_i hs
        have h1 := isW_lt hs
        have ih := P_deep L f (.expr 3) (i + 1) b (by omega)
        simp only [m0, deep_one] at ih ⊢
        omega
      · exact P_deep L f (.expr 4) i b h
    split
    · have ih := P_deep L f (.expr 5) i b h
      have he := P_ends L f (.expr 5) i b h
      have ih2 := P_deep L f (.test (P L f (.expr 5) i b).1) (P L f (.expr 5) i b).2.1 (P L f (.expr 5) i b).2.2 he.2.1
      simp only [m0] at ih ih2 ⊢
      omega
    · have ih := P_deep L f (.expr (l + 1)) i b h
      have he := P_ends L f (.expr (l + 1)) i b h
      have ih2 := P_deep L f (.loop l (P L f (.expr (l + 1)) i b).1) (P L f (.expr (l + 1)) i b).2.1 (P L f (.expr (l + 1)) i b).2.2 he.2.1
      simp only [m0] at ih ih2 ⊢
      omega
  | f + 1, .loop l a, i, b, h => by
    rw [P]
    split
    · simp only [m0]; omega
    · rename_i ho
      obtain ⟨h1, h2⟩ := oneL_lt ho
      have ih := P_deep L f (.expr (l + 1)) (i + 1) b (by omega)
      have he := P_ends L f (.expr (l + 1)) (i + 1) b (by omega)
      have ih2 := P_deep L f (.loop l (.two (oneL L i b (opsL l)) a (P L f (.expr (l + 1)) (i + 1) b).1)) (P L f (.expr (l + 1)) (i + 1) b).2.1 (P L f (.expr (l + 1)) (i + 1) b).2.2 he.2.1
      have hp := deep_pos a
      simp only [m0, deep_two] at ih ih2 ⊢
      omega
  | f + 1, .test a, i, b, h => by
    have hp := deep_pos a
    rw [P]
    split
    · split
      · rename_i hs
        have h1 := isW_lt hs
        split
        · simp only [m0, deep_one]; omega
        · simp only [m0, deep_one]; omega
      · simp only [m0]; omega
    · rename_i ho
      obtain ⟨h1, h2⟩ := oneL_lt ho
      have ih := P_deep L f (.expr 5) (i + 1) b (by omega)
      have he := P_ends L f (.expr 5) (i + 1) b (by omega)
      simp only [m0, deep_two] at ih ⊢
      omega
  | f + 1, .sign, i, b, h => by
    rw [P]
    split
    · rename_i hs
      have h1 := isW_lt hs
      have ih := P_deep L f .sign (i + 1) b (by omega)
      simp only [m0, deep_one] at ih ⊢
      omega
    split
    · rename_i hs
      have h1 := isW_lt hs
      have ih := P_deep L f (.expr 1) (i + 1) b (by omega)
      split
      · simp only [m0] at ih ⊢; omega
      · simp only [m0] at ih ⊢; omega
    split
    · split
      · split
        · simp only [m0, deep_leaf]; omega
        · show 1 + i ≤ 1 + i; omega
      split
      · simp only [m0, deep_leaf]; omega
      split
      · simp only [m0, deep_leaf]; omega
      · simp only [m0, deep_leaf]; omega
    · simp only [m0, deep_leaf]; omega
theorem top_deep (L : List V) : (topP L).1.deep ≤ 1 + L.length := by
  have h := P_deep L (stepsN L) (.expr 1) 0 false (Nat.zero_le _)
  have he := P_ends L (stepsN L) (.expr 1) 0 false (Nat.zero_le _)
  simp only [m0] at h
  unfold topP
  omega
theorem run_fig {p : UInt8 → Bool} : ∀ (s : List UInt8), ∀ c ∈ s.take (runL p s), p c = true
  | [], c, h => by simp at h
  | d :: s, c, h => by
    by_cases hd : p d = true
    · rw [runL, if_pos hd, List.take_succ_cons] at h
      rcases List.mem_cons.1 h with rfl | h
      · exact hd
      · exact run_fig s c h
    · rw [runL, if_neg hd] at h
      simp at h
theorem came_fig {l : List W} (h : CameB l) : ∀ w ∈ l, w.1 = 1 → (∀ c ∈ w.2.1, figB c = true) ∧ w.2.1.length ≤ 19 := by
  intro w hw hk
  have hf := h w hw
  rw [hk, show showW 1 w.2.1 = w.2.1 from rfl] at hf
  rcases first_cases hf with ⟨c, r, _, _, e, _⟩ | ⟨c, r, e1, e2, e3, _, ht, hn, hn2⟩ | ⟨r, _, e, _⟩ | ⟨c, d, r, _, _, _, _, _, e, _⟩ | ⟨c, r, _, _, _, _, _, _, e, _⟩
  · exact absurd e (by decide)
  · refine ⟨fun c hc => ?_, hn2⟩
    rw [ht] at hc
    exact run_fig _ c hc
  · exact absurd e (by decide)
  · exact absurd e (by decide)
  · exact absurd e (by decide)
theorem words_len (s : List UInt8) : ∀ (i : Int) (l : List W), wordsL s i = .ok l → l.length ≤ s.length := by
  refine words_way (Q := fun s => ∀ (i : Int) (l : List W), wordsL s i = .ok l → l.length ≤ s.length) ?_ ?_ ?_ ?_ s
  · intro i l h; cases h; exact Nat.le_refl _
  · intro c s hb ih i l h
    rw [wordsL_blank hb] at h
    have := ih _ l h
    simp only [List.length_cons]
    omega
  · intro c s hb hf i l h
    rw [wordsL_none hb hf] at h
    cases h
  · intro c s k t n hf ih i l h
    have hn := first_n hf
    rw [wordsL_one hf] at h
    cases hw : wordsL ((c :: s).drop n) (i + n) with
    | error j' => rw [hw] at h; cases h
    | ok l' =>
      rw [hw] at h
      cases h
      have := ih _ l' hw
      rw [List.length_drop] at this
      simp only [List.length_cons] at this hn ⊢
      omega
end Go.Proofs.YtpohpgahnompbaaGreatDoor.Code

/-
  Contracts of the document's reader: where a word stands; the expression that comes.
-/
namespace Go.Proofs.YtpohpgahnompbaaGreatDoor.Code
open Go.ChangeShapes Go.WideShapes Go.ChangeAt Go.RowKit Val Elems
set_option linter.unusedVariables false
set_option linter.unusedSimpArgs false
set_option maxHeartbeats 4000000 in
set_option maxRecDepth 100000 in
theorem rplace_any (s : ByteArray) (A : Option Addr) (cap : Nat) (l : List W) (i : Nat) (w : World) (h : At wc 3 w w.heap.size A l) (hl : l.length ≤ 4194304) (hi : i ≤ l.length) :
    Calls Tryz.prog 16 #[.string s, .slice A l.length cap, .int .i64 i] w fun e w' => e = .returned (.int .i64 (placeL s.size l i)) ∧ Below w.heap.size w w' := by
  have e3 : decide ((0 : Int) ≤ (i : Int)) = true := by simp
  by_cases hil : i < l.length
  · obtain ⟨ad, rfl, ha, d0, d1, d2⟩ := at_word h i hil
    have hp : placeL s.size l i = l[i].2.2 := by unfold placeL; rw [List.getElem?_eq_getElem hil]
    rw [hp]
    clear hp h
    go_enter Tryz.func16, Tryz.ntmps16
    go_wp2
    go_ret
    exact ⟨rfl, Below.refl _ _⟩
  · have hp : placeL s.size l i = s.size := by unfold placeL; rw [List.getElem?_eq_none (by omega)]
    rw [hp]
    clear hp h
    go_enter Tryz.func16, Tryz.ntmps16
    go_wp2
    go_ret
    exact ⟨rfl, Below.refl _ _⟩
/-- all but one block is as it was -/
def Oth (g : Nat) (w w' : World) : Prop := ∀ p : Addr, p.block ≠ g → w'.cell? p = w.cell? p
theorem Oth.refl (g : Nat) (w : World) : Oth g w w := fun _ _ => rfl
theorem Oth.setCell {g : Nat} {w w' : World} (h : Oth g w w') (p : Addr) (hp : p.block = g) (v : Value) : Oth g w (w'.setCell p v) := fun q hq => (World.cell?_setCell_other _ _ _ _ (fun e => hq (by rw [← e]; exact hp))).trans (h q hq)
theorem Oth.drew {g : Nat} {w w' : World} (h : Oth g w w') : Oth g w w'.drew := fun q hq => h q hq
theorem Rdr.fresh (w : World) (A : Option Addr) (cap : Nat) (l : List W) (i : Nat) (t : TypeId) (h : At wc 3 w w.heap.size A l) : Rdr (w.alloc (.cells #[.slice A l.length cap, .int .i64 i, .bool false] t)) w.heap.size A cap l i false :=
  ⟨by simp [go_sem], by simp [go_sem], by simp [go_sem], fun k => by simp [go_sem], h.below ((Below.refl _ _).alloc (Nat.le_refl _) _)⟩
/-- the expression from a place on, the place behind it, or what is wrong -/
def readN (l : List W) (i : Nat) : Tr × Nat × Int := if (fromP (bare l) i).2.2 = true then (zeroT, (fromP (bare l) i).2.1, 91) else ((fromP (bare l) i).1, (fromP (bare l) i).2.1, 0)
def ReadPost (w : World) (res : Tr × Nat × Int) (e : Ending) (w' : World) : Prop :=
  ∃ (op tx : ByteArray) (X : Option Addr) (n m : Nat), e = .returned (.tuple #[.agg #[.string op, .string tx, .slice X n m], .int .i64 res.2.1, .int .i64 res.2.2]) ∧ NIn w' (New w w') res.1 (.string op) (.string tx) (.slice X n m) ∧ Below w.heap.size w w'
set_option maxHeartbeats 1000000 in
set_option maxRecDepth 100000 in
theorem rread_any (A : Option Addr) (cap : Nat) (l : List W) (i : Nat) (w : World) (h : At wc 3 w w.heap.size A l) (hl : l.length ≤ 4194304) (hfg : FigW l) (hi : i < l.length) :
    Calls Tryz.prog 15 #[.slice A l.length cap, .int .i64 i] w (ReadPost w (readN l i)) := by
  obtain ⟨R, hx⟩ : ∃ R, fromP (bare l) i = R := ⟨_, rfl⟩
  obtain ⟨x, j, b⟩ := R
  have hrd : readN l i = if b = true then (zeroT, j, 91) else (x, j, 0) := by unfold readN; rw [hx]
  rw [hrd]
  obtain ⟨q, hq⟩ : ∃ q, (if b = true then (zeroT, j, (91 : Int)) else (x, j, 0)) = q := ⟨_, rfl⟩
  rw [hq]
  have HQ := Lib.hid hq
  have HA := Lib.hid h
  have HX0 := Lib.hid (fun w1 hr => expr_any (r := w.heap.size + 1) (A := A) (cap := cap) hl hfg i w1 (by omega) hr)
  rw [hx] at HX0
  have e1 : (i : Int) < (l.length : Int) := by omega
  have e0 : (0 : Int) ≤ (i : Int) := by omega
  have e2 : decide ((i : Int) < 0) = false := by simp
  have e3 : decide ((l.length : Int) ≤ (i : Int)) = false := by simp; omega
  clear h hx hrd hfg hq
  go_enter Tryz.func15, Tryz.ntmps15
  obtain ⟨w1, hw1⟩ : ∃ w1, (w.alloc (.cells #[.string ⟨#[]⟩, .string ⟨#[]⟩, .slice none 0 0] 25)).alloc (.cells #[.slice A l.length cap, .int .i64 i, .bool false] 69) = w1 := ⟨_, rfl⟩
  have hz1 : w1.heap.size = w.heap.size + 2 := by rw [← hw1]; simp
  have N1 := Lib.hid (show NBox w1 w.heap.size (.string ⟨#[]⟩) (.string ⟨#[]⟩) (.slice none 0 0) by rw [← hw1]; exact (NBox.fresh _ _ _ _ _).alloc _)
  have B1 := Lib.hid (show Below w.heap.size w w1 by rw [← hw1]; exact ((Below.refl _ _).alloc (Nat.le_refl _) _).alloc (by simp) _)
  have R1 := Lib.hid (show Rdr w1 (w.heap.size + 1) A cap l i false by
    rw [← hw1, show w.heap.size + 1 = (w.alloc (.cells #[.string ⟨#[]⟩, .string ⟨#[]⟩, .slice none 0 0] 25)).heap.size by simp]
    exact Rdr.fresh _ A cap l i 69 ((HA.out.below ((Below.refl _ _).alloc (Nat.le_refl _) _)).more (by simp)))
  go_wp2_with fail
  try rw [hw1]
  refine (HX0.out _ R1.out).mono ?_
  rintro e w2 ⟨op, tx, X, n, m, rfl, hn2, hb2, hr2⟩
  have N2 := Lib.hid ((N1.out.but (by omega) hb2).alloc (.cells #[.string op, .string tx, .slice X n m] 25))
  have R2 := Lib.hid (hr2.alloc (.cells #[.string op, .string tx, .slice X n m] 25))
  have hz2 : w1.heap.size ≤ w2.heap.size := hb2.size
  have I2 := Lib.hid ((hn2.imp (S' := fun g => w.heap.size < g ∧ g < w2.heap.size) (fun g hg => by rcases hg with hg | hg; exact hg.elim; exact ⟨by have := hg.1; omega, hg.2⟩)).alloc (fun g hg => hg.2) (.cells #[.string op, .string tx, .slice X n m] 25))
  have B2 := Lib.hid ((B1.out.trans (hb2.below (B := w.heap.size) (by omega) (by omega))).alloc (by omega) (.cells #[.string op, .string tx, .slice X n m] 25))
  have V2 := Lib.hid (NBox.fresh w2 (.string op) (.string tx) (.slice X n m) 25)
  have zn := N2.out.lt
  have zr := R2.out.lt
  clear hb2 hr2 hn2
  obtain ⟨x0, x1, x2, xf⟩ := N2.out
  have c2 := R2.out.c2
  obtain ⟨w6, hw6⟩ : ∃ w6, w2.alloc (.cells #[.string op, .string tx, .slice X n m] 25) = w6 := ⟨_, rfl⟩
  rw [hw6] at N2 R2 I2 B2 V2 zn zr x0 x1 x2 xf c2
  obtain ⟨v0, v1, v2, vf⟩ := V2.out
  have c1 := R2.out.c1
  have HO := Lib.hid (Oth.refl w.heap.size w6)
  have FQ := Lib.hid (fun w' (h : Oth w.heap.size w6 w') => show w'.cell? ⟨w.heap.size + 1, 1, none⟩ = some (.int .i64 j) ∧ w'.cell? ⟨w2.heap.size, 0, none⟩ = some (.string op) ∧ w'.cell? ⟨w2.heap.size, 1, none⟩ = some (.string tx) ∧ w'.cell? ⟨w2.heap.size, 2, none⟩ = some (.slice X n m) from
    ⟨(h ⟨w.heap.size + 1, 1, none⟩ (by simp)).trans c1, (h ⟨w2.heap.size, 0, none⟩ (by simp; omega)).trans v0, (h ⟨w2.heap.size, 1, none⟩ (by simp; omega)).trans v1, (h ⟨w2.heap.size, 2, none⟩ (by simp; omega)).trans v2⟩)
  cases b
  · go_upto_region 7 with fail
    go_region_held3 (fun w' => (w'.cell? ⟨w.heap.size + 1, 1, none⟩ = some (.int .i64 j) ∧ w'.cell? ⟨w2.heap.size, 0, none⟩ = some (.string op) ∧ w'.cell? ⟨w2.heap.size, 1, none⟩ = some (.string tx) ∧ w'.cell? ⟨w2.heap.size, 2, none⟩ = some (.slice X n m)) ∧ Oth w.heap.size w6 w')
      (first | assumption | (exact ⟨FQ.out _ HO.out.drew, HO.out.drew⟩) | (exact ⟨FQ.out _ HO.out, HO.out⟩) | (refine (fun hS9 : Oth w.heap.size w6 _ => ⟨FQ.out _ hS9, hS9⟩) (((HO.out.setCell _ rfl _).setCell _ rfl _).setCell _ rfl _).drew))
      (fail)
    go_wp2
    obtain rfl : q = (x, j, 0) := by have := HQ.out; simpa using this.symm
    have Y := N2.out.set (.string op) (.string tx) (.slice X n m)
    have h6 : w6.heap.size = w2.heap.size + 1 := by rw [← hw6]; simp
    exact bodyPost_ret (v := .tuple #[.agg #[.string op, .string tx, .slice X n m], .int .i64 j, .int .i64 0]) (by simp [results, Tryz.results15, go_sem, Y.c0, Y.c1, Y.c2]) rfl
      ⟨op, tx, X, n, m, rfl, NIn.keep (w := W3 w6 w.heap.size (.string op) (.string tx) (.slice X n m)) (w' := (W3 w6 w.heap.size (.string op) (.string tx) (.slice X n m)).drew) (fun g hg => ⟨by have := hg.1; omega, by show g < (W3 w6 w.heap.size (.string op) (.string tx) (.slice X n m)).heap.size; rw [W3.size, h6]; have := hg.2; omega⟩) (fun _ _ _ => rfl) _ _ _ _ (W3.nin I2.out (fun hg => Nat.lt_irrefl _ hg.1) _ _ _), (((B2.out.setCell (Nat.le_refl _) _).setCell (Nat.le_refl _) _).setCell (Nat.le_refl _) _).drew⟩
  · go_upto_region 6 with fail
    go_region_held3 (fun w' => (w'.cell? ⟨w.heap.size + 1, 1, none⟩ = some (.int .i64 j) ∧ w'.cell? ⟨w2.heap.size, 0, none⟩ = some (.string op) ∧ w'.cell? ⟨w2.heap.size, 1, none⟩ = some (.string tx) ∧ w'.cell? ⟨w2.heap.size, 2, none⟩ = some (.slice X n m)) ∧ Oth w.heap.size w6 w')
      (first | assumption | (exact ⟨FQ.out _ HO.out.drew, HO.out.drew⟩) | (exact ⟨FQ.out _ HO.out, HO.out⟩) | (refine (fun hS9 : Oth w.heap.size w6 _ => ⟨FQ.out _ hS9, hS9⟩) (((HO.out.setCell _ rfl _).setCell _ rfl _).setCell _ rfl _).drew))
      (fail)
    go_wp2
    obtain rfl : q = (zeroT, j, 91) := by have := HQ.out; simpa using this.symm
    have Y := N2.out.set (.string ⟨#[]⟩) (.string ⟨#[]⟩) (.slice none 0 0)
    exact bodyPost_ret (v := .tuple #[.agg #[.string ⟨#[]⟩, .string ⟨#[]⟩, .slice none 0 0], .int .i64 j, .int .i64 91]) (by simp [results, Tryz.results15, go_sem, Y.c0, Y.c1, Y.c2]) rfl
      ⟨⟨#[]⟩, ⟨#[]⟩, none, 0, 0, rfl, ⟨rfl, rfl, rfl⟩, (((B2.out.setCell (Nat.le_refl _) _).setCell (Nat.le_refl _) _).setCell (Nat.le_refl _) _).drew⟩
end Go.Proofs.YtpohpgahnompbaaGreatDoor.Code
