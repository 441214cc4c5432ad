/-
  Contracts of the program's reader of words: the word that comes, a mark's or name's kind, what is taken.
-/
import Derived.Test.YtjbpkpfmgbhlpaaGreatDoorMs9
import Derived.Test.YtjbpkpfmgbhlpaaGreatDoorMs3
import Derived.Deep.DeepCutAuto
import Derived.Test.YtjbpkpfmgbhlpaaGreatDoorShelfNum
import Derived.Test.YtjbpkpfmgbhlpaaGreatDoorMs13
import Derived.Test.YtjbpkpfmgbhlpaaGreatDoorMs4
set_option maxRecDepth 100000
set_option maxHeartbeats 16000000
open Go.Lib (hid)
namespace Go.Proofs.YtjbpkpfmgbhlpaaGreatDoor.Code
open Go.ChangeShapes Go.WideShapes Go.ChangeAt Go.RowKit Val Elems
set_option linter.unusedVariables false
set_option linter.unusedSimpArgs false
section
variable {r : Nat} {m : Int} {A : Option Addr} {cap : Nat} {l : List W}
theorem eword_any (i : Nat) (w : World) (h : Rd w r m A cap l i) (hi : i ≤ l.length) (hl : l.length ≤ 4194304) :
  Calls Tryz.prog 167 #[.pointer (some ⟨r, 0, none⟩)] w fun e w' => e = .returned (.agg #[.int .i64 (wd l i).1, .string ⟨(wd l i).2.1.toArray⟩, .int .i64 (wd l i).2.2]) ∧ Below w.heap.size w w' := by
 have HW := hid h.ws
 have hrl := h.lt
 obtain ⟨c0, c1, -, -, -⟩ := h
 by_cases hil : i < l.length
 ·rw [wd_in hil]
  obtain ⟨ad, rfl, ha, d0, d1, d2⟩ := at_word HW.out i hil
  obtain ⟨x, hxx⟩ : ∃ x, l[i] = x := ⟨_, rfl⟩
  rw [hxx] at d0 d1 d2 ⊢
  obtain ⟨k, t, p⟩ := x
  dsimp only at d0 d1 d2 ⊢
  obtain ⟨T, hT⟩ : ∃ T : ByteArray, ⟨t.toArray⟩ = T := ⟨_, rfl⟩
  rw [hT] at d1 ⊢
  obtain ⟨q, hq⟩ : ∃ q, ad.add (i * 3) = q := ⟨_, rfl⟩
  have hbq : q.block < w.heap.size := by rw [← hq, add_block]; omega
  rw [hq] at d0 d1 d2
  clear hxx hT
  have e1 : decide ((i : Int) < (l.length : Int)) = true := by simp; omega
  have e2 : decide (i < l.length) = true := by simp; omega
  have e3 : (i : Int) < (l.length : Int) := by omega
  have e4 : (0 : Int) ≤ (i : Int) := by omega
  go_enter Tryz.func167, Tryz.ntmps167
  go_wp2
  go_quiet (fail)
  obtain ⟨W6, hW6⟩ : ∃ W6, (w.alloc (.cells #[.int .i64 0, .string ⟨#[]⟩, .int .i64 0] 48)).drewN nq = W6 := ⟨_, rfl⟩
  have L6 := hid (show Below w.heap.size w W6 by rw [← hW6]; exact drewN_below ((Below.refl _ _).alloc (Nat.le_refl _) _) _)
  have N6 := hid (show NBox W6 w.heap.size (.int .i64 0) (.string ⟨#[]⟩) (.int .i64 0) by rw [← hW6]; exact (NBox.fresh w _ _ _ _).below (drewN_below (Below.refl _ _) _))
  have HO := hid (Ox.refl w.heap.size W6)
  have FQ := hid (fun w' (h : Ox w.heap.size W6 w') => show w'.cell? ⟨r, 0, none⟩ = some (.slice (some ad) l.length cap) ∧ w'.cell? ⟨r, 1, none⟩ = some (.int .i64 i) ∧ w'.cell? q = some (.int .i64 k) ∧ w'.cell? ⟨q.block, q.off + 1, none⟩ = some (.string T) ∧ w'.cell? ⟨q.block, q.off + 2, none⟩ = some (.int .i64 p) from
   ⟨((h.2 _ (by simp; omega)).trans (L6.out.cell (p := ⟨r, 0, none⟩) hrl)).trans c0, ((h.2 _ (by simp; omega)).trans (L6.out.cell (p := ⟨r, 1, none⟩) hrl)).trans c1, ((h.2 _ (by omega)).trans (L6.out.cell (p := q) hbq)).trans d0, ((h.2 _ (by simp; omega)).trans (L6.out.cell (p := ⟨q.block, q.off + 1, none⟩) hbq)).trans d1, ((h.2 _ (by simp; omega)).trans (L6.out.cell (p := ⟨q.block, q.off + 2, none⟩) hbq)).trans d2⟩)
  obtain ⟨k0, k1, k2, k3, k4⟩ := FQ.out _ HO.out
  obtain ⟨x0, x1, x2, xf⟩ := N6.out
  clear c0 c1 d0 d1 d2
  rw [hW6]
  go_upto_region 2 with fail
  go_region_held3 (fun w' => (w'.cell? ⟨r, 0, none⟩ = some (.slice (some ad) l.length cap) ∧ w'.cell? ⟨r, 1, none⟩ = some (.int .i64 i) ∧ w'.cell? q = some (.int .i64 k) ∧ w'.cell? ⟨q.block, q.off + 1, none⟩ = some (.string T) ∧ w'.cell? ⟨q.block, q.off + 2, none⟩ = some (.int .i64 p)) ∧ Ox w.heap.size W6 w')
   (first | assumption | (exact ⟨FQ.out _ HO.out.drew, HO.out.drew⟩) | (exact ⟨FQ.out _ HO.out, HO.out⟩) | (refine (fun hS9 : Ox w.heap.size W6 _ => ⟨FQ.out _ hS9, hS9⟩) (((HO.out.setCell _ rfl _).setCell _ rfl _).setCell _ rfl _).drew))
   (fail)
  go_wp2
  have Y := N6.out.set (.int .i64 k) (.string T) (.int .i64 p)
  exact bodyPost_ret (v := .agg #[.int .i64 k, .string T, .int .i64 p]) (by simp [results, Tryz.results167, go_sem, Y.c0, Y.c1, Y.c2]) rfl
   ⟨rfl, (((L6.out.setCell (Nat.le_refl _) _).setCell (Nat.le_refl _) _).setCell (Nat.le_refl _) _).drew⟩
 ·rw [wd_out hil]
  have e1 : decide ((i : Int) < (l.length : Int)) = false := by simp; omega
  have e2 : decide (i < l.length) = false := by simp; omega
  clear hil
  go_enter Tryz.func167, Tryz.ntmps167
  go_wp2
  go_quiet (fail)
  go_wp2
  have Y := ((NBox.fresh w (.int .i64 0) (.string ⟨#[]⟩) (.int .i64 0) 48).below (drewN_below (Below.refl _ _) nq)).set (.int .i64 0) (.string ⟨#[]⟩) (.int .i64 0)
  exact bodyPost_ret (v := .agg #[.int .i64 0, .string ⟨#[]⟩, .int .i64 0]) (by simp [results, Tryz.results167, go_sem, Y.c0, Y.c1, Y.c2]) rfl
   ⟨rfl, (((drewN_below ((Below.refl _ _).alloc (Nat.le_refl _) _) _).setCell (Nat.le_refl _) _).setCell (Nat.le_refl _) _).setCell (Nat.le_refl _) _⟩
theorem ekind_any (s : ByteArray) (w : World) :
  Calls Tryz.prog 168 #[.string s] w fun e w' => e = .returned (.int .i64 (kindL s.data.toList)) ∧ w = w' := by
 obtain ⟨ow, how⟩ : ∃ ow, ownL s.data.toList = ow := ⟨_, rfl⟩
 have HO := hid (fun w => own_any s w)
 rw [show ownB s.toList = ow by rw [← how, ByteArray.toList_eq]; rfl] at HO
 have hk : kindL s.data.toList = if ow = true then 0 else 3 := by unfold kindL; rw [how]
 rw [hk]
 clear hk how
 cases ow
 all_goals
  go_enter Tryz.func168, Tryz.ntmps168
  go_wp2_with fail
  refine (HO.out _).mono ?_
  rintro e w1 ⟨rfl, rfl⟩
  go_wp2
  go_ret
  exact ⟨rfl, rfl⟩
theorem isW_wd (hm : MarkW l) (i : Nat) (s : List UInt8) (hs : s ≠ []) : isW (bare l) i false s = ((wd l i).2.1 == s && (wd l i).1 == kindL s) := by
 by_cases hi : i < l.length
 ·rw [isW_in hm hi, wd_in hi]
 ·rw [isW_out hi, wd_out hi]
  cases s with
  | nil => exact absurd rfl hs
  | cons c s => rfl
theorem first_step {L : List V} {i : Nat} {b : Bool} : ∀ (ls : List (List UInt8)) (k : Nat) (h : k < ls.length), (∀ j (hj : j < ls.length), j < k → isW L i b ls[j] = false) → isW L i b ls[k] = true → oneL L i b ls = ls[k]
 | [], k, h, _, _ => absurd h (Nat.not_lt_zero _)
 | s :: ls, 0, h, _, hw => by
  rw [oneL, if_pos (show isW L i b s = true from hw)]
  rfl
 | s :: ls, k + 1, h, hb, hw => by
  have h0 := hb 0 (by simp) (by omega)
  rw [oneL, if_neg (by rw [show isW L i b s = false from h0]; decide)]
  exact first_step ls k (by simpa using h) (fun j hj hjk => hb (j + 1) (by simpa using hj) (by omega)) hw
theorem etake_any (hg : Good l) (i : Nat) (S : Option Addr) (sc' : Nat) (ls : List (List UInt8)) (w : World) (h : Rd w r m A cap l i) (hi : i ≤ l.length)
  (hs : At sc 1 w w.heap.size S ls) (hne : ∀ ad, S = some ad → ad.block ≠ r) (hls : ls.length ≤ 100) (hn0 : [] ∉ ls) (q : List UInt8) (hq : oneL (bare l) i false ls = q) :
  Calls Tryz.prog 161 #[.pointer (some ⟨r, 0, none⟩), .slice S ls.length sc'] w fun e w' => e = .returned (.string ⟨q.toArray⟩) ∧ But w w' r ∧ Rd w' r m A cap l (if q = [] then i else i + 1) := by
 have hlen := hg.len
 have HWD := hid (fun w0 (hr : Rd w0 r m A cap l i) => eword_any i w0 hr hi hlen)
 have HIS := hid (fun (k : Nat) (hk : k < ls.length) => isW_wd (came_mark hg.came) i ls[k] (fun e => hn0 (e ▸ List.getElem_mem hk)))
 obtain ⟨x, hx⟩ : ∃ x, wd l i = x := ⟨_, rfl⟩
 rw [hx] at HWD HIS
 obtain ⟨wk, wt, wp⟩ := x
 dsimp only at HWD HIS
 obtain ⟨T, hT⟩ : ∃ T : ByteArray, ⟨wt.toArray⟩ = T := ⟨_, rfl⟩
 obtain rfl : wt = T.data.toList := by rw [← hT]
 rw [hT] at HWD
 have HR := hid h
 have hrl := h.lt
 have HS := hid hs
 have HNE := hid hne
 have HN0 := hid hn0
 have HQ := hid hq
 clear h hs hne hn0 hq hx hT hg
 go_enter Tryz.func161, Tryz.ntmps161
 go_wp2_with fail
 refine (HWD.out _ HR.out).mono ?_
 rintro e w1 ⟨rfl, hb1⟩
 have B1 := hid ((But.of hb1 r).alloc (.cells #[.int .i64 wk, .string T, .int .i64 wp] 48))
 have R1 := hid ((HR.out.below hb1).alloc (.cells #[.int .i64 wk, .string T, .int .i64 wp] 48))
 have N1 := hid (NBox.fresh w1 (.int .i64 wk) (.string T) (.int .i64 wp) 48)
 have z1 := hb1.size
 clear hb1
 go_wp2
 go_loopw [12] (fun t wr => ∃ k : Nat, k ≤ ls.length ∧ t = .int .i64 k ∧ Hid (∀ j (hj : j < ls.length), j < k → isW (bare l) i false ls[j] = false) ∧ But w wr r ∧ Rd wr r m A cap l i ∧ NBox wr w1.heap.size (.int .i64 wk) (.string T) (.int .i64 wp)) (fun t _ => ls.length - (intOf t).toNat)
 case atStart => exact ⟨0, by omega, rfl, hid (fun j hj h => absurd h (Nat.not_lt_zero _)), B1.out, R1.out, N1.out⟩
 case round =>
  obtain ⟨k, hk, rfl, HB, hbut, hrd, hnb⟩ := hrel
  have HBU := hid hbut
  have HRD := hid hrd
  have HNB := hid hnb
  have VS := hid (at_but HS.out hbut (Nat.le_refl _) HNE.out)
  obtain ⟨x0, x1, x2, xf⟩ := hnb
  clear hbut hrd
  by_cases hkl : k < ls.length
  ·obtain ⟨ad, rfl, ha, c0⟩ := at_text VS.out k hkl
   have hisk := HIS.out k hkl
   obtain ⟨s, hsx⟩ : ∃ s, ls[k] = s := ⟨_, rfl⟩
   obtain ⟨U, hU⟩ : ∃ U : ByteArray, ⟨s.toArray⟩ = U := ⟨_, rfl⟩
   obtain rfl : s = U.data.toList := by rw [← hU]
   rw [hsx, hU] at c0
   rw [hsx] at hisk
   have HNW := hid (show isW (bare l) i false ls[k] = false → ∀ j (hj : j < ls.length), j < k + 1 → isW (bare l) i false ls[j] = false by
    intro hg j hj hjk
    by_cases e : j = k
    ·subst e; exact hg
    ·exact HB.out j hj (by omega))
   rw [hsx] at HNW
   by_cases hts : T = U
   ·subst hts
    have hk2 : isW (bare l) i false T.data.toList = (wk == kindL T.data.toList) := by rw [hisk]; simp
    have HK := hid (fun w => ekind_any T w)
    obtain ⟨kl, hkl2⟩ : ∃ kl, kindL T.data.toList = kl := ⟨_, rfl⟩
    rw [hkl2] at HK hk2
    obtain ⟨g, hg⟩ : ∃ g, (wk == kl) = g := ⟨_, rfl⟩
    rw [hg] at hk2
    have HK2 := hid hk2
    have HSX := hid hsx
    clear hk2 hkl2 hisk hU hsx
    cases g
    ·go_wp2
     go_quiet (refine Calls.quiet_of_same ((HK.out _).mono (by rintro e w' ⟨h1, h2⟩; exact ⟨h1, h2.symm⟩)))
     have hb2 : Below wr.heap.size wr (wr.drewN nq) := drewN_below (Below.refl _ _) nq
     have B3 := hid (HBU.out.next hb2)
     have R3 := hid (HRD.out.below hb2)
     have N3 := hid (HNB.out.below hb2)
     clear hb2
     go_wp2
     go_roundw
     case rel => exact ⟨k + 1, by omega, by go_num, hid (HNW.out HK2.out), B3.out, R3.out, N3.out⟩
     case measure => simp [intOf]; omega
    ·go_wp2
     go_quiet (refine Calls.quiet_of_same ((HK.out _).mono (by rintro e w' ⟨h1, h2⟩; exact ⟨h1, h2.symm⟩)))
     have hb2 : Below wr.heap.size wr (wr.drewN nq) := drewN_below (Below.refl _ _) nq
     have B3 := hid (HBU.out.next hb2)
     have R3 := hid (HRD.out.below hb2)
     have c1 := R3.out.c1
     have fr := R3.out.fr 1
     have hx := first_step (L := bare l) (i := i) (b := false) ls k hkl HB.out (by rw [HSX.out]; exact HK2.out)
     rw [HQ.out, HSX.out] at hx
     have hq0 : q ≠ [] := by
      intro e
      rw [e] at hx
      exact HN0.out (hx ▸ HSX.out ▸ List.getElem_mem hkl)
     have HQT := hid (show (⟨q.toArray⟩ : ByteArray) = T by rw [hx, Lib.mk_data])
     clear hb2 hx
     go_wp2
     go_ret
     refine ⟨retS HQT.out.symm, B3.out.setCell 1 _, ?_⟩
     have := R3.out.at (i + 1)
     rw [Int.natCast_add] at this
     first | exact this | (rw [if_neg hq0]; exact this)
   ·have f2 := toList_ne hts
    have hk2 : isW (bare l) i false U.data.toList = false := by
     rw [hisk]
     have : ¬ T.data.toList = U.data.toList := fun e => hts (by rw [← Lib.mk_data T, e, Lib.mk_data])
     rw [show (T.data.toList == U.data.toList) = false from beq_eq_false_iff_ne.2 this]
     rfl
    have HK2 := hid hk2
    clear hk2 hisk hU hsx
    go_wp2
    refine wp_region_quiet_lit (by kernel_rfl) (by kernel_rfl) ?_
    repeat (with_reducible refine wpQuiet_step ?_; intro K hK; go_simp; with_reducible refine hK _ ?_; clear hK K)
    refine wpQuiet_nil ?_
    intro _ hw'
    obtain ⟨nq, hw''⟩ := hw'
    subst hw''
    have hb2 : Below wr.heap.size wr (wr.drewN nq) := drewN_below (Below.refl _ _) nq
    have B3 := hid (HBU.out.next hb2)
    have R3 := hid (HRD.out.below hb2)
    have N3 := hid (HNB.out.below hb2)
    clear hb2
    go_wp2
    go_roundw
    case rel => exact ⟨k + 1, by omega, by go_num, hid (HNW.out HK2.out), B3.out, R3.out, N3.out⟩
    case measure => simp [intOf]; omega
  ·have hx : oneL (bare l) i false ls = [] := oneL_none fun s hs => by
    obtain ⟨j, hj, rfl⟩ := List.mem_iff_getElem.1 hs
    exact HB.out j hj (by omega)
   rw [HQ.out] at hx
   subst hx
   go_wp2
   go_ret
   exact ⟨rfl, HBU.out, HRD.out⟩
end
theorem words_good {s : List UInt8} {l : List W} (h : wordsL s 0 = .ok l) : wL s = l ∧ wP s = 0 ∧ wE s = 0 := by
 unfold wL wP wE
 rw [h]
 exact ⟨rfl, rfl, rfl⟩
theorem at_one (w : World) (k p : Int) (T : ByteArray) (t : TypeId) : At wc 3 (w.alloc (.cells #[.int .i64 k, .string T, .int .i64 p] t)) (w.alloc (.cells #[.int .i64 k, .string T, .int .i64 p] t)).heap.size (some ⟨w.heap.size, 0, none⟩) [(k, T.data.toList, p)] := by
 intro i hi
 have hi0 : i = 0 := by simp at hi; omega
 subst hi0
 refine ⟨⟨w.heap.size, 0, none⟩, rfl, by simp, fun j u hu => ?_⟩
 have h := World.news_of_block (heap_alloc_new w (.cells #[.int .i64 k, .string T, .int .i64 p] t))
 rw [show 0 * 3 + j = j by omega]
 refine h j u ?_
 simpa [wc, Lib.mk_data] using hu
theorem text_one (k p : Int) (T : ByteArray) (m : Int) (X : ByteArray) (hX : X.data.toList = showW k T.data.toList) (ht : T.size ≤ 4194304) (A : Option Addr) (w : World) (hv : At wc 3 w w.heap.size A [(k, T.data.toList, p)]) (hg : Glob w.heap.size m w) :
  Calls Tryz.prog 189 #[.slice A 1 1] w fun e w' => e = .returned (.string X) ∧ Below w.heap.size w w' := by
 have h := text_any A 1 [(k, T.data.toList, p)] m w hv (fun v hv => by obtain rfl := List.mem_singleton.1 hv; exact ht) (by simp) hg
 rw [textL_one] at h
 rw [show (⟨(showW (k, T.data.toList, p).1 (k, T.data.toList, p).2.1).toArray⟩ : ByteArray) = X by rw [← Lib.mk_data X, hX]] at h
 exact h
theorem eright_yes (k p : Int) (T : ByteArray) (m : Int) (w : World) (hf : firstL (showW k T.data.toList) = some (k, T.data.toList, (showW k T.data.toList).length)) (ht : T.size ≤ 4194304) (hg : Glob w.heap.size m w) :
  Calls Tryz.prog 187 #[.agg #[.int .i64 k, .string T, .int .i64 p]] w fun e w' => e = .returned (.bool true) ∧ Below w.heap.size w w' := by
 obtain ⟨X, hXe⟩ : ∃ X : ByteArray, ⟨(showW k T.data.toList).toArray⟩ = X := ⟨_, rfl⟩
 have hX : X.data.toList = showW k T.data.toList := by rw [← hXe]
 have hXs : X.size ≤ 4194304 := by
  have := showW_le (k := k) (t := T.data.toList) ht
  rw [← hX] at this
  exact this
 have hw := words_good (words_alone hf 0)
 have HT := hid (fun A w0 hv hg => text_one k p T m X hX ht A w0 hv hg)
 have HW := hid (fun w0 hm => (words_any X m w0 hXs hm).mono (R' := fun e w' => ∃ (A : Option Addr) (cap : Nat), e = .returned (.tuple #[.slice A 1 cap, .int .i64 0, .int .i64 0]) ∧ At wc 3 w' w'.heap.size A [(k, T.data.toList, 0)] ∧ Below w0.heap.size w0 w') (by
  rintro e w' ⟨A, cap, he, hv, hb⟩
  rw [hX, hw.1] at hv
  refine ⟨A, cap, ?_, hv, hb⟩
  rw [he, hX, hw.1, hw.2.1, hw.2.2]
  rfl))
 have HG := hid hg
 clear hg hw hX hXs hXe hf
 go_enter Tryz.func187, Tryz.ntmps187
 go_wp2_with fail
 obtain ⟨W0, hW0⟩ : ∃ W0, w.alloc (.cells #[.int .i64 k, .string T, .int .i64 p] 48) = W0 := ⟨_, rfl⟩
 have L0 := hid (show Below w.heap.size w W0 by rw [← hW0]; exact below_alloc w _)
 have N0 := hid (show NBox W0 w.heap.size (.int .i64 k) (.string T) (.int .i64 p) by rw [← hW0]; exact NBox.fresh w _ _ _ _)
 have z0 : W0.heap.size = w.heap.size + 1 := by rw [← hW0]; simp
 try rw [hW0]
 have HA := hid (at_one W0 k p T 48)
 rw [z0] at HA
 have L1 := hid (L0.out.alloc (by omega) (.cells #[.int .i64 k, .string T, .int .i64 p] 48))
 have N1 := hid (N0.out.alloc (.cells #[.int .i64 k, .string T, .int .i64 p] 48))
 refine (HT.out _ _ HA.out (HG.out.next L1.out)).mono ?_
 rintro e w2 ⟨rfl, hb2⟩
 have L2 := hid (bnext L1.out L1.out.size hb2)
 have N2 := hid (N1.out.below hb2)
 clear hb2
 go_wp2_with fail
 refine (HW.out _ (HG.out.next L2.out).cell).mono ?_
 rintro e w3 ⟨A, cap', rfl, hv, hb3⟩
 have L3 := hid (bnext L2.out L2.out.size hb3)
 have N3 := hid (N2.out.below hb3)
 obtain ⟨x0, x1, x2, xf⟩ := N3.out
 obtain ⟨ad, rfl, ha, d0, d1, d2⟩ := at_word hv 0 (by simp)
 rw [Nat.zero_mul] at d0 d1 d2
 have e0 : ad.add 0 = ad := by cases ad; simp [Addr.add]
 rw [e0] at d0 d1 d2
 dsimp only [List.getElem_cons_zero] at d0 d1 d2
 rw [Lib.mk_data] at d1
 clear hb3 hv d2
 go_wp2
 go_quiet (fail)
 go_wp2
 go_ret
 exact ⟨rfl, drewN_below L3.out _⟩
theorem eright_no (m : Int) (w : World) (hg : Glob w.heap.size m w) :
  Calls Tryz.prog 187 #[.agg #[.int .i64 0, .string ⟨#[]⟩, .int .i64 0]] w fun e w' => e = .returned (.bool false) ∧ Below w.heap.size w w' := by
 have hX : (⟨#[]⟩ : ByteArray).data.toList = showW 0 (⟨#[]⟩ : ByteArray).data.toList := rfl
 have hw := words_good (s := []) (l := []) rfl
 have HT := hid (fun A w0 hv hg => text_one 0 0 ⟨#[]⟩ m ⟨#[]⟩ hX (by decide) A w0 hv hg)
 have HW := hid (fun w0 hm => (words_any ⟨#[]⟩ m w0 (by decide) hm).mono (R' := fun e w' => ∃ (A : Option Addr) (cap : Nat), e = .returned (.tuple #[.slice A 0 cap, .int .i64 0, .int .i64 0]) ∧ Below w0.heap.size w0 w') (by
  rintro e w' ⟨A, cap, he, hv, hb⟩
  refine ⟨A, cap, ?_, hb⟩
  rw [he, show (⟨#[]⟩ : ByteArray).data.toList = [] from rfl, hw.1, hw.2.1, hw.2.2]
  rfl))
 have HG := hid hg
 clear hg hw hX
 go_enter Tryz.func187, Tryz.ntmps187
 go_wp2_with fail
 obtain ⟨W0, hW0⟩ : ∃ W0, w.alloc (.cells #[.int .i64 0, .string ⟨#[]⟩, .int .i64 0] 48) = W0 := ⟨_, rfl⟩
 have L0 := hid (show Below w.heap.size w W0 by rw [← hW0]; exact below_alloc w _)
 have z0 : W0.heap.size = w.heap.size + 1 := by rw [← hW0]; simp
 try rw [hW0]
 have HA := hid (at_one W0 0 0 ⟨#[]⟩ 48)
 rw [z0] at HA
 have L1 := hid (L0.out.alloc (by omega) (.cells #[.int .i64 0, .string ⟨#[]⟩, .int .i64 0] 48))
 refine (HT.out _ _ HA.out (HG.out.next L1.out)).mono ?_
 rintro e w2 ⟨rfl, hb2⟩
 have L2 := hid (bnext L1.out L1.out.size hb2)
 clear hb2
 go_wp2_with fail
 refine (HW.out _ (HG.out.next L2.out).cell).mono ?_
 rintro e w3 ⟨A, cap', rfl, hb3⟩
 have L3 := hid (bnext L2.out L2.out.size hb3)
 clear hb3
 go_wp2
 refine wp_region_quiet_lit (by kernel_rfl) (by kernel_rfl) ?_
 repeat (with_reducible refine wpQuiet_step ?_; intro K hK; go_simp; with_reducible refine hK _ ?_; clear hK K)
 refine wpQuiet_nil ?_
 intro _ hw'
 obtain ⟨nq, hw''⟩ := hw'
 subst hw''
 go_wp2
 go_ret
 exact ⟨rfl, drewN_below L3.out _⟩
theorem eoper_zero (m : Int) (w : World) (hg : Env w.heap.size m w) :
  Calls Tryz.prog 186 #[.agg #[.int .i64 0, .string ⟨#[]⟩, .int .i64 0]] w fun e w' => e = .returned (.tuple #[.agg #[.string ⟨#[]⟩, .string ⟨#[]⟩, .slice none 0 0], .bool false]) ∧ Below w.heap.size w w' := by
 have HRT := hid (fun w0 hg0 => eright_no m w0 hg0)
 have HG := hid hg
 clear hg
 go_enter Tryz.func186, Tryz.ntmps186
 obtain ⟨w0, hw0⟩ : ∃ w0, (w.alloc (.cells #[.int .i64 0, .string ⟨#[]⟩, .int .i64 0] 48)).alloc (.cells #[.string ⟨#[]⟩, .string ⟨#[]⟩, .slice none 0 0] 25) = w0 := ⟨_, rfl⟩
 have L0 := hid (show Below w.heap.size w w0 by rw [← hw0]; exact ((Below.refl _ _).alloc (Nat.le_refl _) _).alloc (by simp) _)
 have N0 := hid (show NBox w0 w.heap.size (.int .i64 0) (.string ⟨#[]⟩) (.int .i64 0) by rw [← hw0]; exact (NBox.fresh _ _ _ _ _).alloc _)
 have M0 := hid (show NBox w0 (w.heap.size + 1) (.string ⟨#[]⟩) (.string ⟨#[]⟩) (.slice none 0 0) by
  rw [← hw0, show w.heap.size + 1 = (w.alloc (.cells #[.int .i64 0, .string ⟨#[]⟩, .int .i64 0] 48)).heap.size by simp]; exact NBox.fresh _ _ _ _ _)
 obtain ⟨x0, x1, x2, xf⟩ := N0.out
 go_wp2_with fail
 try rw [hw0]
 refine (HRT.out _ (HG.out.gl.next L0.out)).mono ?_
 rintro e w1 ⟨rfl, hb1⟩
 have L1 := hid (bnext L0.out L0.out.size hb1)
 have N1 := hid (N0.out.below hb1)
 have M1 := hid (M0.out.below hb1)
 have zl := M1.out.lt
 clear hb1 x0 x1 x2 xf
 obtain ⟨x0, x1, x2, xf⟩ := N1.out
 obtain ⟨y0, y1, y2, yf⟩ := M1.out
 go_wp2
 have Y := M1.out.set (.string ⟨#[]⟩) (.string ⟨#[]⟩) (.slice none 0 0)
 exact bodyPost_ret (v := .tuple #[.agg #[.string ⟨#[]⟩, .string ⟨#[]⟩, .slice none 0 0], .bool false]) (by simp [results, Tryz.results186, go_sem, Y.c0, Y.c1, Y.c2]) rfl
  ⟨rfl, ((L1.out.setCell (p := ⟨w.heap.size + 1, 0, none⟩) (by simp) _).setCell (p := ⟨w.heap.size + 1, 1, none⟩) (by simp) _).setCell (p := ⟨w.heap.size + 1, 2, none⟩) (by simp) _⟩
theorem eoper_mark (p : Int) (T : ByteArray) (m : Int) (w : World) (hf : firstL (showW 3 T.data.toList) = some (3, T.data.toList, (showW 3 T.data.toList).length)) (ht : T.size ≤ 4194304) (hg : Env w.heap.size m w) :
  Calls Tryz.prog 186 #[.agg #[.int .i64 3, .string T, .int .i64 p]] w fun e w' => e = .returned (.tuple #[.agg #[.string ⟨#[]⟩, .string ⟨#[]⟩, .slice none 0 0], .bool false]) ∧ Below w.heap.size w w' := by
 have HRT := hid (fun w0 hg0 => eright_yes 3 p T m w0 hf ht hg0)
 have HG := hid hg
 clear hg hf
 go_enter Tryz.func186, Tryz.ntmps186
 obtain ⟨w0, hw0⟩ : ∃ w0, (w.alloc (.cells #[.int .i64 3, .string T, .int .i64 p] 48)).alloc (.cells #[.string ⟨#[]⟩, .string ⟨#[]⟩, .slice none 0 0] 25) = w0 := ⟨_, rfl⟩
 have L0 := hid (show Below w.heap.size w w0 by rw [← hw0]; exact ((Below.refl _ _).alloc (Nat.le_refl _) _).alloc (by simp) _)
 have N0 := hid (show NBox w0 w.heap.size (.int .i64 3) (.string T) (.int .i64 p) by rw [← hw0]; exact (NBox.fresh _ _ _ _ _).alloc _)
 have M0 := hid (show NBox w0 (w.heap.size + 1) (.string ⟨#[]⟩) (.string ⟨#[]⟩) (.slice none 0 0) by
  rw [← hw0, show w.heap.size + 1 = (w.alloc (.cells #[.int .i64 3, .string T, .int .i64 p] 48)).heap.size by simp]; exact NBox.fresh _ _ _ _ _)
 obtain ⟨x0, x1, x2, xf⟩ := N0.out
 go_wp2_with fail
 try rw [hw0]
 refine (HRT.out _ (HG.out.gl.next L0.out)).mono ?_
 rintro e w1 ⟨rfl, hb1⟩
 have L1 := hid (bnext L0.out L0.out.size hb1)
 have N1 := hid (N0.out.below hb1)
 have M1 := hid (M0.out.below hb1)
 have zl := M1.out.lt
 clear hb1 x0 x1 x2 xf
 obtain ⟨x0, x1, x2, xf⟩ := N1.out
 obtain ⟨y0, y1, y2, yf⟩ := M1.out
 go_wp2
 have Y := M1.out.set (.string ⟨#[]⟩) (.string ⟨#[]⟩) (.slice none 0 0)
 exact bodyPost_ret (v := .tuple #[.agg #[.string ⟨#[]⟩, .string ⟨#[]⟩, .slice none 0 0], .bool false]) (by simp [results, Tryz.results186, go_sem, Y.c0, Y.c1, Y.c2]) rfl
  ⟨rfl, ((L1.out.setCell (p := ⟨w.heap.size + 1, 0, none⟩) (by simp) _).setCell (p := ⟨w.heap.size + 1, 1, none⟩) (by simp) _).setCell (p := ⟨w.heap.size + 1, 2, none⟩) (by simp) _⟩
theorem eoper_text (p : Int) (T : ByteArray) (m : Int) (w : World) (hf : firstL (showW 2 T.data.toList) = some (2, T.data.toList, (showW 2 T.data.toList).length)) (ht : T.size ≤ 4194304) (hg : Env w.heap.size m w) :
  Calls Tryz.prog 186 #[.agg #[.int .i64 2, .string T, .int .i64 p]] w fun e w' => e = .returned (.tuple #[.agg #[.string ⟨#[116, 101, 120, 116]⟩, .string T, .slice none 0 0], .bool true]) ∧ Below w.heap.size w w' := by
 have HRT := hid (fun w0 hg0 => eright_yes 2 p T m w0 hf ht hg0)
 have HG := hid hg
 clear hg hf
 go_enter Tryz.func186, Tryz.ntmps186
 obtain ⟨w0, hw0⟩ : ∃ w0, (w.alloc (.cells #[.int .i64 2, .string T, .int .i64 p] 48)).alloc (.cells #[.string ⟨#[]⟩, .string ⟨#[]⟩, .slice none 0 0] 25) = w0 := ⟨_, rfl⟩
 have L0 := hid (show Below w.heap.size w w0 by rw [← hw0]; exact ((Below.refl _ _).alloc (Nat.le_refl _) _).alloc (by simp) _)
 have N0 := hid (show NBox w0 w.heap.size (.int .i64 2) (.string T) (.int .i64 p) by rw [← hw0]; exact (NBox.fresh _ _ _ _ _).alloc _)
 have M0 := hid (show NBox w0 (w.heap.size + 1) (.string ⟨#[]⟩) (.string ⟨#[]⟩) (.slice none 0 0) by
  rw [← hw0, show w.heap.size + 1 = (w.alloc (.cells #[.int .i64 2, .string T, .int .i64 p] 48)).heap.size by simp]; exact NBox.fresh _ _ _ _ _)
 obtain ⟨x0, x1, x2, xf⟩ := N0.out
 go_wp2_with fail
 try rw [hw0]
 refine (HRT.out _ (HG.out.gl.next L0.out)).mono ?_
 rintro e w1 ⟨rfl, hb1⟩
 have L1 := hid (bnext L0.out L0.out.size hb1)
 have N1 := hid (N0.out.below hb1)
 have M1 := hid (M0.out.below hb1)
 have zl := M1.out.lt
 clear hb1 x0 x1 x2 xf
 obtain ⟨x0, x1, x2, xf⟩ := N1.out
 obtain ⟨y0, y1, y2, yf⟩ := M1.out
 go_wp2
 have Y := M1.out.set (.string ⟨#[116, 101, 120, 116]⟩) (.string T) (.slice none 0 0)
 exact bodyPost_ret (v := .tuple #[.agg #[.string ⟨#[116, 101, 120, 116]⟩, .string T, .slice none 0 0], .bool true]) (by simp [results, Tryz.results186, go_sem, Y.c0, Y.c1, Y.c2]) rfl
  ⟨rfl, ((L1.out.setCell (p := ⟨w.heap.size + 1, 0, none⟩) (by simp) _).setCell (p := ⟨w.heap.size + 1, 1, none⟩) (by simp) _).setCell (p := ⟨w.heap.size + 1, 2, none⟩) (by simp) _⟩
theorem eoper_num (p : Int) (T : ByteArray) (m : Int) (w : World) (hf : firstL (showW 1 T.data.toList) = some (1, T.data.toList, (showW 1 T.data.toList).length)) (ht : T.size ≤ 4194304) (hg : Env w.heap.size m w) (v : Int) (hv : Lib.parseIntB 64 T.data.toList = .ok v) (hv0 : 0 ≤ v) (hv1 : v ≤ 9223372036854775807) :
  Calls Tryz.prog 186 #[.agg #[.int .i64 1, .string T, .int .i64 p]] w fun e w' => e = .returned (.tuple #[.agg #[.string ⟨#[110, 117, 109]⟩, .string ⟨(Lib.itoa v).toArray⟩, .slice none 0 0], .bool true]) ∧ Below w.heap.size w w' := by
 have HRT := hid (fun w0 hg0 => eright_yes 1 p T m w0 hf ht hg0)
 have HPI := hid (fun w0 => Tryz.strconv_ParseInt_10_at64_ok T (by omega) v hv w0)
 have HFI := hid (fun w0 ht => fint_any v w0 (by unfold fits; omega) ht)
 clear hv
 have HG := hid hg
 clear hg hf
 go_enter Tryz.func186, Tryz.ntmps186
 obtain ⟨w0, hw0⟩ : ∃ w0, (w.alloc (.cells #[.int .i64 1, .string T, .int .i64 p] 48)).alloc (.cells #[.string ⟨#[]⟩, .string ⟨#[]⟩, .slice none 0 0] 25) = w0 := ⟨_, rfl⟩
 have L0 := hid (show Below w.heap.size w w0 by rw [← hw0]; exact ((Below.refl _ _).alloc (Nat.le_refl _) _).alloc (by simp) _)
 have N0 := hid (show NBox w0 w.heap.size (.int .i64 1) (.string T) (.int .i64 p) by rw [← hw0]; exact (NBox.fresh _ _ _ _ _).alloc _)
 have M0 := hid (show NBox w0 (w.heap.size + 1) (.string ⟨#[]⟩) (.string ⟨#[]⟩) (.slice none 0 0) by
  rw [← hw0, show w.heap.size + 1 = (w.alloc (.cells #[.int .i64 1, .string T, .int .i64 p] 48)).heap.size by simp]; exact NBox.fresh _ _ _ _ _)
 obtain ⟨x0, x1, x2, xf⟩ := N0.out
 go_wp2_with fail
 try rw [hw0]
 refine (HRT.out _ (HG.out.gl.next L0.out)).mono ?_
 rintro e w1 ⟨rfl, hb1⟩
 have L1 := hid (bnext L0.out L0.out.size hb1)
 have N1 := hid (N0.out.below hb1)
 have M1 := hid (M0.out.below hb1)
 have zl := M1.out.lt
 clear hb1 x0 x1 x2 xf
 obtain ⟨x0, x1, x2, xf⟩ := N1.out
 obtain ⟨y0, y1, y2, yf⟩ := M1.out
 go_wp2_with fail
 refine (HPI.out _).mono ?_
 rintro e w2 ⟨rfl, hw2⟩
 have hb2 : Below w1.heap.size w1 w2 := by
  rcases hw2 with rfl | ⟨t, rfl⟩
  ·exact Below.refl _ _
  ·exact Lib.bytesWorld_below _ _ _
 have L2 := hid (bnext L1.out L1.out.size hb2)
 have M2 := hid (M1.out.below hb2)
 clear hb2 hw2 x0 x1 x2 xf y0 y1 y2 yf
 go_wp2_with fail
 refine (HFI.out _ (HG.out.gl.next L2.out).tab).mono ?_
 rintro e w3 ⟨rfl, hb3⟩
 have L3 := hid (bnext L2.out L2.out.size hb3)
 have M3 := hid (M2.out.below hb3)
 have zl3 := M3.out.lt
 clear hb3
 obtain ⟨y0, y1, y2, yf⟩ := M3.out
 go_wp2
 have Y := M3.out.set (.string ⟨#[110, 117, 109]⟩) (.string ⟨(Lib.itoa v).toArray⟩) (.slice none 0 0)
 exact bodyPost_ret (v := .tuple #[.agg #[.string ⟨#[110, 117, 109]⟩, .string ⟨(Lib.itoa v).toArray⟩, .slice none 0 0], .bool true]) (by simp [results, Tryz.results186, go_sem, Y.c0, Y.c1, Y.c2]) rfl
  ⟨rfl, ((L3.out.setCell (p := ⟨w.heap.size + 1, 0, none⟩) (by simp) _).setCell (p := ⟨w.heap.size + 1, 1, none⟩) (by simp) _).setCell (p := ⟨w.heap.size + 1, 2, none⟩) (by simp) _⟩
theorem eoper_much (p : Int) (T : ByteArray) (m : Int) (w : World) (hf : firstL (showW 1 T.data.toList) = some (1, T.data.toList, (showW 1 T.data.toList).length)) (ht : T.size ≤ 4194304) (hg : Env w.heap.size m w) (hv : Lib.parseIntB 64 T.data.toList = .range) :
  Calls Tryz.prog 186 #[.agg #[.int .i64 1, .string T, .int .i64 p]] w fun e w' => e = .returned (.tuple #[.agg #[.string ⟨#[]⟩, .string ⟨#[]⟩, .slice none 0 0], .bool false]) ∧ Below w.heap.size w w' := by
 have HRT := hid (fun w0 hg0 => eright_yes 1 p T m w0 hf ht hg0)
 have HPI := hid (fun w0 (he : Env w0.heap.size m w0) => show Calls Tryz.prog 188 #[.string T, .int .i64 10, .int .i64 64] w0 (fun e w' => (∃ (a : Int) (t : TypeId) (v : Value), e = .returned (.tuple #[.int .i64 a, .iface t v])) ∧ Below w0.heap.size w0 w') from by
  obtain ⟨te, pe, hc⟩ := he.ec
  refine (Tryz.strconv_ParseInt_10_at64_range T (by omega) hv (.iface te pe) w0 hc (.inr ⟨te, pe, rfl⟩)).mono ?_
  rintro e w' ⟨N, h1, h2, h3, h4⟩
  exact ⟨⟨_, _, _, h1⟩, h4⟩)
 clear hv
 have HG := hid hg
 clear hg hf
 go_enter Tryz.func186, Tryz.ntmps186
 obtain ⟨w0, hw0⟩ : ∃ w0, (w.alloc (.cells #[.int .i64 1, .string T, .int .i64 p] 48)).alloc (.cells #[.string ⟨#[]⟩, .string ⟨#[]⟩, .slice none 0 0] 25) = w0 := ⟨_, rfl⟩
 have L0 := hid (show Below w.heap.size w w0 by rw [← hw0]; exact ((Below.refl _ _).alloc (Nat.le_refl _) _).alloc (by simp) _)
 have N0 := hid (show NBox w0 w.heap.size (.int .i64 1) (.string T) (.int .i64 p) by rw [← hw0]; exact (NBox.fresh _ _ _ _ _).alloc _)
 have M0 := hid (show NBox w0 (w.heap.size + 1) (.string ⟨#[]⟩) (.string ⟨#[]⟩) (.slice none 0 0) by
  rw [← hw0, show w.heap.size + 1 = (w.alloc (.cells #[.int .i64 1, .string T, .int .i64 p] 48)).heap.size by simp]; exact NBox.fresh _ _ _ _ _)
 obtain ⟨x0, x1, x2, xf⟩ := N0.out
 go_wp2_with fail
 try rw [hw0]
 refine (HRT.out _ (HG.out.gl.next L0.out)).mono ?_
 rintro e w1 ⟨rfl, hb1⟩
 have L1 := hid (bnext L0.out L0.out.size hb1)
 have N1 := hid (N0.out.below hb1)
 have M1 := hid (M0.out.below hb1)
 have zl := M1.out.lt
 clear hb1 x0 x1 x2 xf
 obtain ⟨x0, x1, x2, xf⟩ := N1.out
 obtain ⟨y0, y1, y2, yf⟩ := M1.out
 go_wp2_with fail
 refine (HPI.out _ (HG.out.next L1.out)).mono ?_
 rintro e w2 ⟨⟨a, t, v, rfl⟩, hb2⟩
 have L2 := hid (bnext L1.out L1.out.size hb2)
 have M2 := hid (M1.out.below hb2)
 have zl2 := M2.out.lt
 clear hb2 x0 x1 x2 xf y0 y1 y2 yf
 obtain ⟨y0, y1, y2, yf⟩ := M2.out
 go_wp2
 have Y := M2.out.set (.string ⟨#[]⟩) (.string ⟨#[]⟩) (.slice none 0 0)
 exact bodyPost_ret (v := .tuple #[.agg #[.string ⟨#[]⟩, .string ⟨#[]⟩, .slice none 0 0], .bool false]) (by simp [results, Tryz.results186, go_sem, Y.c0, Y.c1, Y.c2]) rfl
  ⟨rfl, ((L2.out.setCell (p := ⟨w.heap.size + 1, 0, none⟩) (by simp) _).setCell (p := ⟨w.heap.size + 1, 1, none⟩) (by simp) _).setCell (p := ⟨w.heap.size + 1, 2, none⟩) (by simp) _⟩
theorem eoper_name (p : Int) (T : ByteArray) (m : Int) (w : World) (hf : firstL (showW 0 T.data.toList) = some (0, T.data.toList, (showW 0 T.data.toList).length)) (ht : T.size ≤ 4194304) (hg : Env w.heap.size m w) (b : Bool) (hb : ownL T.data.toList = b) :
  Calls Tryz.prog 186 #[.agg #[.int .i64 0, .string T, .int .i64 p]] w fun e w' => e = .returned (.tuple #[.agg #[.string ⟨#[99, 111, 108]⟩, .string T, .slice none 0 0], .bool (!b)]) ∧ Below w.heap.size w w' := by
 have HRT := hid (fun w0 hg0 => eright_yes 0 p T m w0 hf ht hg0)
 have HOW := hid (fun w0 => own_any T w0)
 rw [show ownB T.toList = b by rw [← hb, ByteArray.toList_eq]; rfl] at HOW
 clear hb
 have HG := hid hg
 clear hg hf
 go_enter Tryz.func186, Tryz.ntmps186
 obtain ⟨w0, hw0⟩ : ∃ w0, (w.alloc (.cells #[.int .i64 0, .string T, .int .i64 p] 48)).alloc (.cells #[.string ⟨#[]⟩, .string ⟨#[]⟩, .slice none 0 0] 25) = w0 := ⟨_, rfl⟩
 have L0 := hid (show Below w.heap.size w w0 by rw [← hw0]; exact ((Below.refl _ _).alloc (Nat.le_refl _) _).alloc (by simp) _)
 have N0 := hid (show NBox w0 w.heap.size (.int .i64 0) (.string T) (.int .i64 p) by rw [← hw0]; exact (NBox.fresh _ _ _ _ _).alloc _)
 have M0 := hid (show NBox w0 (w.heap.size + 1) (.string ⟨#[]⟩) (.string ⟨#[]⟩) (.slice none 0 0) by
  rw [← hw0, show w.heap.size + 1 = (w.alloc (.cells #[.int .i64 0, .string T, .int .i64 p] 48)).heap.size by simp]; exact NBox.fresh _ _ _ _ _)
 obtain ⟨x0, x1, x2, xf⟩ := N0.out
 go_wp2_with fail
 try rw [hw0]
 refine (HRT.out _ (HG.out.gl.next L0.out)).mono ?_
 rintro e w1 ⟨rfl, hb1⟩
 have L1 := hid (bnext L0.out L0.out.size hb1)
 have N1 := hid (N0.out.below hb1)
 have M1 := hid (M0.out.below hb1)
 have zl := M1.out.lt
 clear hb1 x0 x1 x2 xf
 obtain ⟨x0, x1, x2, xf⟩ := N1.out
 obtain ⟨y0, y1, y2, yf⟩ := M1.out
 have HO := hid (Ox.refl (w.heap.size + 1) w1)
 have FQ := hid (fun w' (h : Ox (w.heap.size + 1) w1 w') => show w'.cell? ⟨w.heap.size, 1, none⟩ = some (.string T) from (h.2 ⟨w.heap.size, 1, none⟩ (by simp)).trans x1)
 go_upto_region 12 with fail
 go_region_held3 (fun w' => (w'.cell? ⟨w.heap.size, 1, none⟩ = some (.string T)) ∧ Ox (w.heap.size + 1) w1 w')
  (first | assumption | (exact ⟨FQ.out _ HO.out.drew, HO.out.drew⟩) | (exact ⟨FQ.out _ HO.out, HO.out⟩) | (refine (fun hS9 : Ox (w.heap.size + 1) w1 _ => ⟨FQ.out _ hS9, hS9⟩) (((HO.out.setCell _ rfl _).setCell _ rfl _).setCell _ rfl _).drew))
  (first | (go_at_call 125; with_reducible refine (HOW.out _).mono ?_; rintro e w5 ⟨rfl, rfl⟩))
 go_wp2
 have Y := M1.out.set (.string ⟨#[99, 111, 108]⟩) (.string T) (.slice none 0 0)
 exact bodyPost_ret (v := .tuple #[.agg #[.string ⟨#[99, 111, 108]⟩, .string T, .slice none 0 0], .bool (!b)]) (by simp [results, Tryz.results186, go_sem, Y.c0, Y.c1, Y.c2]) rfl
  ⟨rfl, (((L1.out.setCell (p := ⟨w.heap.size + 1, 0, none⟩) (by simp) _).setCell (p := ⟨w.heap.size + 1, 1, none⟩) (by simp) _).setCell (p := ⟨w.heap.size + 1, 2, none⟩) (by simp) _).drew⟩
def fv (f : Nat) : Value := .func (.func f) #[] #[]
def queriesF : ByteArray → Option Value :=
 mput (mput (mput (mput (mput (mput (fun _ => none) ⟨#[102, 105, 108, 116, 101, 114]⟩ (fv 45)) ⟨#[112, 114, 111, 106, 101, 99, 116]⟩ (fv 46)) ⟨#[106, 111, 105, 110]⟩ (fv 47))
  ⟨#[117, 110, 105, 111, 110]⟩ (fv 48)) ⟨#[100, 105, 115, 116, 105, 110, 99, 116]⟩ (fv 49)) ⟨#[103, 114, 111, 117, 112]⟩ (fv 50)
def aggsF : ByteArray → Option Value :=
 mput (mput (mput (mput (fun _ => none) ⟨#[99, 111, 117, 110, 116]⟩ (fv 51)) ⟨#[115, 117, 109]⟩ (fv 52)) ⟨#[109, 105, 110]⟩ (fv 52)) ⟨#[109, 97, 120]⟩ (fv 52)
structure Rq (w : World) (r : Nat) (m : Int) (A : Option Addr) (cap : Nat) (l : List W) (qb qa : Nat) (i : Nat) : Prop where
 rd : Rd w r m A cap l i
 c2 : w.cell? ⟨r, 2, none⟩ = some (.map (some qb))
 c3 : w.cell? ⟨r, 3, none⟩ = some (.map (some qa))
 mq : MapR w qb 6 queriesF
 ma : MapR w qa 4 aggsF
 nq : qb ≠ r
 na : qa ≠ r
section
variable {w w' : World} {r : Nat} {m : Int} {A : Option Addr} {cap : Nat} {l : List W} {qb qa i : Nat}
theorem Rq.lt (h : Rq w r m A cap l qb qa i) : r < w.heap.size := h.rd.lt
theorem Rq.below (h : Rq w r m A cap l qb qa i) (hb : Below w.heap.size w w') : Rq w' r m A cap l qb qa i := by
 have hl := h.lt
 exact ⟨h.rd.below hb, (hb.cell (p := ⟨r, 2, none⟩) hl).trans h.c2, (hb.cell (p := ⟨r, 3, none⟩) hl).trans h.c3, h.mq.below hb, h.ma.below hb, h.nq, h.na⟩
theorem Rq.alloc (h : Rq w r m A cap l qb qa i) (o : Obj) : Rq (w.alloc o) r m A cap l qb qa i := h.below (below_alloc w o)
theorem Rq.new (h : Rq w r m A cap l qb qa i) (p : Addr) (hp : r < p.block) (hq : p.block ≠ qb) (ha : p.block ≠ qa) (u : Value) : Rq (w.setCell p u) r m A cap l qb qa i := by
 have hn : ∀ j : Nat, p ≠ ⟨r, j, none⟩ := fun j e => by rw [e] at hp; exact absurd hp (Nat.lt_irrefl _)
 exact ⟨h.rd.new p hp u, (World.cell?_setCell_other _ _ _ _ (hn 2)).trans h.c2, (World.cell?_setCell_other _ _ _ _ (hn 3)).trans h.c3, h.mq.heap (Below.heap_setCell w p u qb (fun e => hq e.symm)), h.ma.heap (Below.heap_setCell w p u qa (fun e => ha e.symm)), h.nq, h.na⟩
theorem Rq.at (h : Rq w r m A cap l qb qa i) (j : Nat) : Rq (w.setCell ⟨r, 1, none⟩ (.int .i64 j)) r m A cap l qb qa j :=
 ⟨h.rd.at j, (World.cell?_setCell_other _ _ _ _ (by simp)).trans h.c2, (World.cell?_setCell_other _ _ _ _ (by simp)).trans h.c3, h.mq.heap (Below.heap_setCell w ⟨r, 1, none⟩ _ qb h.nq), h.ma.heap (Below.heap_setCell w ⟨r, 1, none⟩ _ qa h.na), h.nq, h.na⟩
theorem Rq.ltq (h : Rq w r m A cap l qb qa i) : qb < w.heap.size := h.mq.lt
theorem Rq.lta (h : Rq w r m A cap l qb qa i) : qa < w.heap.size := h.ma.lt
end
def wv (x : W) : Value := .agg #[.int .i64 x.1, .string ⟨x.2.1.toArray⟩, .int .i64 x.2.2]
section
variable {r : Nat} {m : Int} {A : Option Addr} {cap : Nat} {l : List W} {qb qa : Nat}
theorem pword_any (i d : Nat) (w : World) (h : Rq w r m A cap l qb qa i) (hi : i ≤ l.length) (hl : l.length ≤ 4194304) (hd : d ≤ 100) :
  Calls Tryz.prog 53 #[.pointer (some ⟨r, 0, none⟩), .int .i64 d] w fun e w' => e = .returned (wv (wd l (i + d))) ∧ Below w.heap.size w w' := by
 have HW := hid h.rd.ws
 have hrl := h.lt
 obtain ⟨⟨c0, c1, -, -, -⟩, -, -, -, -, -, -⟩ := h
 obtain ⟨j, hj⟩ : ∃ j, i + d = j := ⟨_, rfl⟩
 have ej : IntKind.i64.wrap ((i : Int) + (d : Int)) = (j : Int) := by rw [IntKind.wrap_i64]; omega
 rw [hj]
 unfold wv
 by_cases hil : j < l.length
 ·rw [wd_in hil]
  obtain ⟨ad, rfl, ha, d0, d1, d2⟩ := at_word HW.out j hil
  obtain ⟨x, hxx⟩ : ∃ x, l[j] = x := ⟨_, rfl⟩
  rw [hxx] at d0 d1 d2 ⊢
  obtain ⟨k, t, p⟩ := x
  dsimp only at d0 d1 d2 ⊢
  obtain ⟨T, hT⟩ : ∃ T : ByteArray, ⟨t.toArray⟩ = T := ⟨_, rfl⟩
  rw [hT] at d1 ⊢
  have e1 : decide ((j : Int) < (l.length : Int)) = true := by simp; omega
  have e2 : decide (j < l.length) = true := by simp; omega
  have e3 : (j : Int) < (l.length : Int) := by omega
  have e4 : (0 : Int) ≤ (j : Int) := by omega
  obtain ⟨q, hq⟩ : ∃ q, ad.add (j * 3) = q := ⟨_, rfl⟩
  have hbq : q.block < w.heap.size := by rw [← hq, add_block]; omega
  rw [hq] at d0 d1 d2
  have D0 : ∀ o, (w.alloc o).cell? q = some (.int .i64 k) := fun o => ((below_alloc w o).cell hbq).trans d0
  have D1 : ∀ o, (w.alloc o).cell? ⟨q.block, q.off + 1, none⟩ = some (.string T) := fun o => ((below_alloc w o).cell (p := ⟨q.block, q.off + 1, none⟩) hbq).trans d1
  have D2 : ∀ o, (w.alloc o).cell? ⟨q.block, q.off + 2, none⟩ = some (.int .i64 p) := fun o => ((below_alloc w o).cell (p := ⟨q.block, q.off + 2, none⟩) hbq).trans d2
  clear hxx hT hj hl d0 d1 d2
  go_enter Tryz.func53, Tryz.ntmps53
  go_wp2
  have Y := NBox.fresh w (.int .i64 k) (.string T) (.int .i64 p) 48
  exact bodyPost_ret (v := .agg #[.int .i64 k, .string T, .int .i64 p]) (by simp [results, Tryz.results53, go_sem, Y.c0, Y.c1, Y.c2]) rfl
   ⟨rfl, below_alloc w _⟩
 ·rw [wd_out hil]
  have e1 : decide ((j : Int) < (l.length : Int)) = false := by simp; omega
  have e2 : decide (j < l.length) = false := by simp; omega
  clear hil hj hl
  go_enter Tryz.func53, Tryz.ntmps53
  go_wp2
  have Y := NBox.fresh w (.int .i64 0) (.string ⟨#[]⟩) (.int .i64 0) 48
  exact bodyPost_ret (v := .agg #[.int .i64 0, .string ⟨#[]⟩, .int .i64 0]) (by simp [results, Tryz.results53, go_sem, Y.c0, Y.c1, Y.c2]) rfl
   ⟨rfl, below_alloc w _⟩
def markW (l : List W) (i : Nat) (s : List UInt8) : Bool := (wd l i).1 == 3 && (wd l i).2.1 == s
theorem mark_isW (i : Nat) (s : List UInt8) (ho : ownL s = false) : markW l i s = isW (bare l) i false s := by
 unfold markW
 by_cases hi : i < l.length
 ·rw [wd_in hi]
  unfold isW
  rw [bare_in hi, ho]
  dsimp only
  simp [Bool.and_comm]
 ·rw [wd_out hi, isW_out hi]
  rfl
theorem pmark_any (i d : Nat) (s : ByteArray) (w : World) (h : Rq w r m A cap l qb qa i) (hi : i ≤ l.length) (hl : l.length ≤ 4194304) (hd : d ≤ 100) (ho : ownL s.data.toList = false) (b : Bool) (hb : isW (bare l) (i + d) false s.data.toList = b) :
  Calls Tryz.prog 54 #[.pointer (some ⟨r, 0, none⟩), .int .i64 d, .string s] w fun e w' => e = .returned (.bool b) ∧ Below w.heap.size w w' := by
 have HWD := hid (pword_any i d w h hi hl hd)
 rw [← mark_isW _ _ ho] at hb
 unfold markW at hb
 unfold wv at HWD
 obtain ⟨x, hx⟩ : ∃ x, wd l (i + d) = x := ⟨_, rfl⟩
 rw [hx] at HWD hb
 obtain ⟨k, t, p⟩ := x
 dsimp only at HWD hb
 obtain ⟨T, hT⟩ : ∃ T : ByteArray, ⟨t.toArray⟩ = T := ⟨_, rfl⟩
 obtain rfl : t = T.data.toList := by rw [← hT]
 rw [hT] at HWD
 rw [← ByteArray.toList_eq, ← ByteArray.toList_eq] at hb
 clear h hT hx ho hl hi hd
 obtain ⟨q, hq⟩ : ∃ q, (T.toList == s.toList) = q := ⟨_, rfl⟩
 rw [hq] at hb
 cases hk : k == 3
 all_goals
  rw [hk] at hb
  subst hb
  go_enter Tryz.func54, Tryz.ntmps54
  go_wp2_with fail
  refine HWD.out.mono ?_
  rintro e w1 ⟨rfl, hb1⟩
  have L1 := hid (hb1.alloc hb1.size (.cells #[.int .i64 k, .string T, .int .i64 p] 48))
  clear hb1
  go_wp2
  go_ret
  exact ⟨by simp [hq], L1.out⟩
theorem ptake_any (i : Nat) (s : ByteArray) (w : World) (h : Rq w r m A cap l qb qa i) (hi : i ≤ l.length) (hl : l.length ≤ 4194304) (ho : ownL s.data.toList = false) (b : Bool) (hb : isW (bare l) i false s.data.toList = b) :
  Calls Tryz.prog 94 #[.pointer (some ⟨r, 0, none⟩), .string s] w fun e w' => e = .returned (.bool b) ∧ But w w' r ∧ Rq w' r m A cap l qb qa (if b = true then i + 1 else i) := by
 have HM := hid (pmark_any i 0 s w h hi hl (by decide) ho b hb)
 have HR := hid h
 have hrl := h.lt
 clear h ho hb
 cases b
 ·go_enter Tryz.func94, Tryz.ntmps94
  go_wp2_with fail
  refine HM.out.mono ?_
  rintro e w1 ⟨rfl, hb1⟩
  have B1 := hid (But.of hb1 r)
  have R1 := hid (HR.out.below hb1)
  clear hb1
  go_wp2
  go_ret
  exact ⟨rfl, B1.out, R1.out⟩
 ·have e2 : IntKind.i64.wrap ((i : Int) + 1) = ((i + 1 : Nat) : Int) := by rw [IntKind.wrap_i64]; omega
  obtain ⟨j, hj⟩ : ∃ j, i + 1 = j := ⟨_, rfl⟩
  rw [hj] at e2
  rw [if_pos rfl, hj]
  clear hj hi hl
  go_enter Tryz.func94, Tryz.ntmps94
  go_wp2_with fail
  refine HM.out.mono ?_
  rintro e w1 ⟨rfl, hb1⟩
  have B1 := hid (But.of hb1 r)
  have R1 := hid (HR.out.below hb1)
  have c1 := R1.out.rd.c1
  have f1 := R1.out.rd.fr 1
  clear hb1
  go_wp2
  go_ret
  exact ⟨rfl, B1.out.setCell 1 _, R1.out.at j⟩
end
end Go.Proofs.YtjbpkpfmgbhlpaaGreatDoor.Code
