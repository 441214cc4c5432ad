/-
  The program's agg.
-/
import Derived.Test.YtjbpkpfmgbhlpaaGreatDoorMs22
import Derived.Test.YtjbpkpfmgbhlpaaGreatDoorMs19
import Derived.Test.YtjbpkpfmgbhlpaaGreatDoorMs21
set_option maxRecDepth 100000
set_option maxHeartbeats 16000000
open Go.Lib (hid)
namespace Go.Proofs.YtjbpkpfmgbhlpaaGreatDoor.Code
open Go.ChangeShapes Go.WideShapes Go.ChangeAt Go.RowKit Val Elems
set_option linter.unusedVariables false
set_option linter.unusedSimpArgs false
section
variable {r : Nat} {m : Int} {A : Option Addr} {cap : Nat} {l : List W} {qb qa : Nat}
theorem mput_get (f : ByteArray → Option Value) (k : ByteArray) (s : Value) (x : ByteArray) : mput f k s x = if x = k then some s else f x := rfl
theorem bytesEq9 {T : ByteArray} {s : List UInt8} : T = ⟨s.toArray⟩ ↔ T.data.toList = s := ⟨fun e => by rw [e], fun e => by rw [← e, Lib.mk_data]⟩
theorem aggs_none {T : ByteArray} (h : T.data.toList ∉ aggOps) : aggsF T = none := by
 simp only [aggOps, List.mem_cons, List.not_mem_nil, or_false, not_or] at h
 obtain ⟨h1, h2, h3, h4⟩ := h
 unfold aggsF
 rw [mput_get, if_neg (fun e => h4 (by rw [e]; rfl)), mput_get, if_neg (fun e => h3 (by rw [e]; rfl)), mput_get, if_neg (fun e => h2 (by rw [e]; rfl)), mput_get, if_neg (fun e => h1 (by rw [e]; rfl))]
theorem agg_fn (hg : Good l) {T : ByteArray} (h : T.data.toList ∈ aggOps) : ∃ fn, aggsF T = some (.func (.func fn) #[] #[]) ∧ (∀ args w, (callFunc fn args).run Tryz.prog w = .ok (.enter fn args) w) ∧
  ∀ (j : Nat) (w1 : World), j ≤ l.length → Rq w1 r m A cap l qb qa j → Calls Tryz.prog fn #[.pointer (some ⟨r, 0, none⟩)] w1 (GiveN r m A cap l qb qa w1 ((if T.data.toList = sCount then noneP (Code.bare l) else nameP (Code.bare l) sCol) j)) := by
 have hn := enters_of Tryz.func51 (by kernel_rfl) rfl
 have hc := enters_of Tryz.func52 (by kernel_rfl) rfl
 simp only [aggOps, List.mem_cons, List.not_mem_nil, or_false] at h
 rcases h with h | h | h | h
 all_goals
  obtain rfl := bytesEq9.2 h
 ·refine ⟨_, rfl, hn, fun j w1 hj hr => ?_⟩
  rw [if_pos rfl]
  exact pnothing_any j w1 hr
 all_goals
  refine ⟨_, rfl, hc, fun j w1 hj hr => ?_⟩
  rw [if_neg (by decide)]
  exact pcolumn_any hg j w1 hr hj
theorem pagg_none (hg : Good l) (i : Nat) (w : World) (h : Rq w r m A cap l qb qa i) (hi : i ≤ l.length) (hT0 : (wd l i).2.1 ∉ aggOps) :
  Calls Tryz.prog 92 #[.pointer (some ⟨r, 0, none⟩)] w (GiveN r m A cap l qb qa w (zeroN, i, true)) := by
 have hll := hg.len
 have HWD := hid (fun w0 (h0 : Rq w0 r m A cap l qb qa i) => pword_any i 0 w0 h0 hi hll (by decide))
 rw [Nat.add_zero] at HWD
 unfold wv at HWD
 obtain ⟨x, hx⟩ : ∃ x, wd l i = x := ⟨_, rfl⟩
 have hfit : x.2.1.length ≤ 4194304 := by
  rw [← hx]
  by_cases hil : i < l.length
  ·rw [wd_in hil]; exact hg.fit l[i] (List.getElem_mem hil)
  ·rw [wd_out hil]; simp
 rw [hx] at HWD hT0
 obtain ⟨wk, wt, wp⟩ := x
 dsimp only at HWD hfit hT0
 obtain ⟨T, hT⟩ : ∃ T : ByteArray, ⟨wt.toArray⟩ = T := ⟨_, rfl⟩
 obtain rfl : wt = T.data.toList := by rw [← hT]
 rw [hT] at HWD
 have hTl : T.size ≤ maxLen := by have : T.size ≤ 4194304 := hfit; unfold maxLen; omega
 have hfd0 := fun w0 => field0 wk wp T w0
 have hfd1 := fun w0 => field1 wk wp T w0
 have hu9 := aggs_none hT0
 have HR := hid h
 have hrl := h.lt
 have hql := h.ltq
 have hal := h.lta
 clear h hx hT hg hT0
 go_enter Tryz.func92, Tryz.ntmps92
 obtain ⟨w0, hw0, hz0, N0, B0⟩ := made0 w r
 have R0 := hid (show Rq w0 r m A cap l qb qa i by rw [← hw0]; exact HR.out.alloc _)
 go_upto_region 1 with fail
 try rw [hw0]
 refine wp_region_held_drew (S := fun w' => w'.cell? ⟨r, 3, none⟩ = some (.map (some qa)) ∧ MapR w' qa 4 aggsF) (by kernel_rfl) ⟨R0.out.c3, R0.out.ma⟩ (fun hHeld => ?_)
 refine take1 (v := ?_) 0 7 rfl ?_ ?_; rotate_left; (intro w hSw; (try dsimp only at hSw); go_simp; try with_reducible rfl); (try simp only [Act.put, List.setIfInBounds_toArray, List.set_cons_zero, List.set_cons_succ])
 refine take1 (v := ?_) 1 8 rfl ?_ ?_; rotate_left; (intro w hSw; (try dsimp only at hSw); go_simp; try with_reducible rfl); (try simp only [Act.put, List.setIfInBounds_toArray, List.set_cons_zero, List.set_cons_succ])
 refine take1 (v := ?_) 2 9 rfl ?_ ?_; rotate_left; (intro w hSw; (try dsimp only at hSw); go_simp; try with_reducible rfl); (try simp only [Act.put, List.setIfInBounds_toArray, List.set_cons_zero, List.set_cons_succ])
 refine take1 (v := ?_) 3 10 rfl ?_ ?_; rotate_left; (intro w hSw; (try dsimp only at hSw); go_simp; try with_reducible rfl); (try simp only [Act.put, List.setIfInBounds_toArray, List.set_cons_zero, List.set_cons_succ])
 refine take1 (v := ?_) 4 11 rfl ?_ ?_; rotate_left; (intro w hSw; (try dsimp only at hSw); go_simp; try with_reducible rfl); (try simp only [Act.put, List.setIfInBounds_toArray, List.set_cons_zero, List.set_cons_succ])
 refine wpAnyH_ready (rs := [5]) (by kernel_rfl) (by simp) ?_
 refine AllReadyH.cons (o := ⟨some 12, _, _, _, _, _⟩) rfl (fun K hK => ?_) AllReadyH.nil
 go_simp
 refine (HWD.out _ (R0.out.below (Below.drew (Below.refl _ _)))).mono ?_
 rintro e w1 ⟨rfl, hb1⟩
 have R1 := hid ((R0.out.below (Below.drew (Below.refl _ _))).below hb1)
 have zb1 : w0.heap.size ≤ w1.heap.size := hb1.size
 have N1 := hid ((N0.out.below (Below.drew (Below.refl _ _))).below hb1)
 have B1 := hid ((B0.out.next (Below.drew (Below.refl _ _))).next hb1)
 clear hb1
 refine hK.out _ _ ⟨R1.out.c3, R1.out.ma⟩ (fun hHeld2 => ?_)
 clear hK K
 (try simp only [Act.put, List.setIfInBounds_toArray, List.set_cons_zero, List.set_cons_succ])
 refine take1 (v := ?_) 6 13 rfl ?_ ?_; rotate_left; (intro w hSw; (try dsimp only at hSw); go_simp; try with_reducible rfl); (try simp only [Act.put, List.setIfInBounds_toArray, List.set_cons_zero, List.set_cons_succ])
 refine take1 (v := ?_) 7 14 rfl ?_ ?_; rotate_left; (intro w hSw; (try dsimp only at hSw); have hlk := run_lookq w _ _ _ hSw.2 T hTl _ hu9; go_simp; try with_reducible rfl); (try simp only [Act.put, List.setIfInBounds_toArray, List.set_cons_zero, List.set_cons_succ])
 refine take1 (v := ?_) 8 6 rfl ?_ ?_; rotate_left; (intro w hSw; (try dsimp only at hSw); go_simp; try with_reducible rfl); (try simp only [Act.put, List.setIfInBounds_toArray, List.set_cons_zero, List.set_cons_succ])
 refine take1 (v := ?_) 9 15 rfl ?_ ?_; rotate_left; (intro w hSw; (try dsimp only at hSw); go_simp; try with_reducible rfl); (try simp only [Act.put, List.setIfInBounds_toArray, List.set_cons_zero, List.set_cons_succ])
 refine take1 (v := ?_) 10 16 rfl ?_ ?_; rotate_left; (intro w hSw; (try dsimp only at hSw); go_simp; try with_reducible rfl); (try simp only [Act.put, List.setIfInBounds_toArray, List.set_cons_zero, List.set_cons_succ])
 refine take1 (v := ?_) 11 4 rfl ?_ ?_; rotate_left; (intro w hSw; (try dsimp only at hSw); go_simp; try with_reducible rfl); (try simp only [Act.put, List.setIfInBounds_toArray, List.set_cons_zero, List.set_cons_succ])
 refine take1 (v := ?_) 12 5 rfl ?_ ?_; rotate_left; (intro w hSw; (try dsimp only at hSw); go_simp; try with_reducible rfl); (try simp only [Act.put, List.setIfInBounds_toArray, List.set_cons_zero, List.set_cons_succ])
 refine wpAnyH_done (by kernel_rfl) ?_ _
 obtain ⟨x0, x1, x2, xf⟩ := N1.out
 have zn := N1.out.lt
 go_wp2
 have Y := N1.out.set (.string ⟨#[]⟩) (.string ⟨#[]⟩) (.slice none 0 0)
 exact bodyPost_ret (v := .tuple #[.agg #[.string ⟨#[]⟩, .string ⟨#[]⟩, .slice none 0 0], .bool (!true)]) (by simp [results, Tryz.results92, go_sem, Y.c0, Y.c1, Y.c2]) rfl
  (giveN_ret (b := true) (fun h => (by cases h)) B1.out R1.out hrl hql hal)
theorem pagg_kind (hg : Good l) (i : Nat) (w : World) (h : Rq w r m A cap l qb qa i) (hi : i ≤ l.length) (hT0 : (wd l i).2.1 ∈ aggOps) (hk : (wd l i).1 ≠ 0) :
  Calls Tryz.prog 92 #[.pointer (some ⟨r, 0, none⟩)] w (GiveN r m A cap l qb qa w (zeroN, i, true)) := by
 have hll := hg.len
 have HWD := hid (fun w0 (h0 : Rq w0 r m A cap l qb qa i) => pword_any i 0 w0 h0 hi hll (by decide))
 rw [Nat.add_zero] at HWD
 unfold wv at HWD
 obtain ⟨x, hx⟩ : ∃ x, wd l i = x := ⟨_, rfl⟩
 have hfit : x.2.1.length ≤ 4194304 := by
  rw [← hx]
  by_cases hil : i < l.length
  ·rw [wd_in hil]; exact hg.fit l[i] (List.getElem_mem hil)
  ·rw [wd_out hil]; simp
 rw [hx] at HWD hT0 hk
 obtain ⟨wk, wt, wp⟩ := x
 dsimp only at HWD hfit hT0 hk
 obtain ⟨T, hT⟩ : ∃ T : ByteArray, ⟨wt.toArray⟩ = T := ⟨_, rfl⟩
 obtain rfl : wt = T.data.toList := by rw [← hT]
 rw [hT] at HWD
 have hTl : T.size ≤ maxLen := by have : T.size ≤ 4194304 := hfit; unfold maxLen; omega
 have hfd0 := fun w0 => field0 wk wp T w0
 have hfd1 := fun w0 => field1 wk wp T w0
 obtain ⟨fn, hu9, -, -⟩ := agg_fn (r := r) (m := m) (A := A) (cap := cap) (qb := qb) (qa := qa) hg hT0
 have e0 : (wk == 0) = false := by simpa using hk
 have e0' : (wk != 0) = true := by simp [bne, e0]
 have HR := hid h
 have hrl := h.lt
 have hql := h.ltq
 have hal := h.lta
 clear h hx hT hg hT0 hk
 go_enter Tryz.func92, Tryz.ntmps92
 obtain ⟨w0, hw0, hz0, N0, B0⟩ := made0 w r
 have R0 := hid (show Rq w0 r m A cap l qb qa i by rw [← hw0]; exact HR.out.alloc _)
 go_upto_region 1 with fail
 try rw [hw0]
 refine wp_region_held_drew (S := fun w' => w'.cell? ⟨r, 3, none⟩ = some (.map (some qa)) ∧ MapR w' qa 4 aggsF) (by kernel_rfl) ⟨R0.out.c3, R0.out.ma⟩ (fun hHeld => ?_)
 refine take1 (v := ?_) 0 7 rfl ?_ ?_; rotate_left; (intro w hSw; (try dsimp only at hSw); go_simp; try with_reducible rfl); (try simp only [Act.put, List.setIfInBounds_toArray, List.set_cons_zero, List.set_cons_succ])
 refine take1 (v := ?_) 1 8 rfl ?_ ?_; rotate_left; (intro w hSw; (try dsimp only at hSw); go_simp; try with_reducible rfl); (try simp only [Act.put, List.setIfInBounds_toArray, List.set_cons_zero, List.set_cons_succ])
 refine take1 (v := ?_) 2 9 rfl ?_ ?_; rotate_left; (intro w hSw; (try dsimp only at hSw); go_simp; try with_reducible rfl); (try simp only [Act.put, List.setIfInBounds_toArray, List.set_cons_zero, List.set_cons_succ])
 refine take1 (v := ?_) 3 10 rfl ?_ ?_; rotate_left; (intro w hSw; (try dsimp only at hSw); go_simp; try with_reducible rfl); (try simp only [Act.put, List.setIfInBounds_toArray, List.set_cons_zero, List.set_cons_succ])
 refine take1 (v := ?_) 4 11 rfl ?_ ?_; rotate_left; (intro w hSw; (try dsimp only at hSw); go_simp; try with_reducible rfl); (try simp only [Act.put, List.setIfInBounds_toArray, List.set_cons_zero, List.set_cons_succ])
 refine wpAnyH_ready (rs := [5]) (by kernel_rfl) (by simp) ?_
 refine AllReadyH.cons (o := ⟨some 12, _, _, _, _, _⟩) rfl (fun K hK => ?_) AllReadyH.nil
 go_simp
 refine (HWD.out _ (R0.out.below (Below.drew (Below.refl _ _)))).mono ?_
 rintro e w1 ⟨rfl, hb1⟩
 have R1 := hid ((R0.out.below (Below.drew (Below.refl _ _))).below hb1)
 have zb1 : w0.heap.size ≤ w1.heap.size := hb1.size
 have N1 := hid ((N0.out.below (Below.drew (Below.refl _ _))).below hb1)
 have B1 := hid ((B0.out.next (Below.drew (Below.refl _ _))).next hb1)
 clear hb1
 refine hK.out _ _ ⟨R1.out.c3, R1.out.ma⟩ (fun hHeld2 => ?_)
 clear hK K
 (try simp only [Act.put, List.setIfInBounds_toArray, List.set_cons_zero, List.set_cons_succ])
 refine take1 (v := ?_) 6 13 rfl ?_ ?_; rotate_left; (intro w hSw; (try dsimp only at hSw); go_simp; try with_reducible rfl); (try simp only [Act.put, List.setIfInBounds_toArray, List.set_cons_zero, List.set_cons_succ])
 refine take1 (v := ?_) 7 14 rfl ?_ ?_; rotate_left; (intro w hSw; (try dsimp only at hSw); have hlk := run_lookq w _ _ _ hSw.2 T hTl _ hu9; go_simp; try with_reducible rfl); (try simp only [Act.put, List.setIfInBounds_toArray, List.set_cons_zero, List.set_cons_succ])
 refine take1 (v := ?_) 8 6 rfl ?_ ?_; rotate_left; (intro w hSw; (try dsimp only at hSw); go_simp; try with_reducible rfl); (try simp only [Act.put, List.setIfInBounds_toArray, List.set_cons_zero, List.set_cons_succ])
 refine take1 (v := ?_) 9 15 rfl ?_ ?_; rotate_left; (intro w hSw; (try dsimp only at hSw); go_simp; try with_reducible rfl); (try simp only [Act.put, List.setIfInBounds_toArray, List.set_cons_zero, List.set_cons_succ])
 refine take1 (v := ?_) 10 16 rfl ?_ ?_; rotate_left; (intro w hSw; (try dsimp only at hSw); go_simp; try with_reducible rfl); (try simp only [Act.put, List.setIfInBounds_toArray, List.set_cons_zero, List.set_cons_succ])
 refine take1 (v := ?_) 11 4 rfl ?_ ?_; rotate_left; (intro w hSw; (try dsimp only at hSw); go_simp; try with_reducible rfl); (try simp only [Act.put, List.setIfInBounds_toArray, List.set_cons_zero, List.set_cons_succ])
 refine take1 (v := ?_) 12 5 rfl ?_ ?_; rotate_left; (intro w hSw; (try dsimp only at hSw); go_simp; try with_reducible rfl); (try simp only [Act.put, List.setIfInBounds_toArray, List.set_cons_zero, List.set_cons_succ])
 refine wpAnyH_done (by kernel_rfl) ?_ _
 go_wp2_with fail
 refine (HWD.out _ R1.out).mono ?_
 rintro e w2 ⟨rfl, hb2⟩
 have zb2 := hb2.size
 have N2 := hid (N1.out.below hb2)
 have B2 := hid (B1.out.next hb2)
 have R2 := hid (R1.out.below hb2)
 clear hb2
 obtain ⟨x0, x1, x2, xf⟩ := N2.out
 have zn := N2.out.lt
 go_wp2
 have Y := N2.out.set (.string ⟨#[]⟩) (.string ⟨#[]⟩) (.slice none 0 0)
 exact bodyPost_ret (v := .tuple #[.agg #[.string ⟨#[]⟩, .string ⟨#[]⟩, .slice none 0 0], .bool (!true)]) (by simp [results, Tryz.results92, go_sem, Y.c0, Y.c1, Y.c2]) rfl
  (giveN_ret (b := true) (fun h => (by cases h)) B2.out R2.out hrl hql hal)
theorem pagg_call (hg : Good l) (i : Nat) (w : World) (h : Rq w r m A cap l qb qa i) (hi : i ≤ l.length) (hil : i < l.length) (hT0 : (wd l i).2.1 ∈ aggOps) (hk : (wd l i).1 = 0) (res : Res) (hres : callP (Code.bare l) (if txt (Code.bare l) i = sCount then noneP (Code.bare l) else nameP (Code.bare l) sCol) i = res) :
  Calls Tryz.prog 92 #[.pointer (some ⟨r, 0, none⟩)] w (GiveN r m A cap l qb qa w res) := by
 rw [txt_wd] at hres
 have hll := hg.len
 have HWD := hid (fun w0 (h0 : Rq w0 r m A cap l qb qa i) => pword_any i 0 w0 h0 hi hll (by decide))
 rw [Nat.add_zero] at HWD
 unfold wv at HWD
 obtain ⟨x, hx⟩ : ∃ x, wd l i = x := ⟨_, rfl⟩
 have hfit : x.2.1.length ≤ 4194304 := by
  rw [← hx]
  by_cases hil : i < l.length
  ·rw [wd_in hil]; exact hg.fit l[i] (List.getElem_mem hil)
  ·rw [wd_out hil]; simp
 rw [hx] at HWD hT0 hk hres
 obtain ⟨wk, wt, wp⟩ := x
 dsimp only at HWD hfit hT0 hk hres
 obtain ⟨T, hT⟩ : ∃ T : ByteArray, ⟨wt.toArray⟩ = T := ⟨_, rfl⟩
 obtain rfl : wt = T.data.toList := by rw [← hT]
 rw [hT] at HWD
 have hTl : T.size ≤ maxLen := by have : T.size ≤ 4194304 := hfit; unfold maxLen; omega
 have hfd0 := fun w0 => field0 wk wp T w0
 have hfd1 := fun w0 => field1 wk wp T w0
 subst hk
 obtain ⟨fn, hu9, en, HPF⟩ := agg_fn (r := r) (m := m) (A := A) (cap := cap) (qb := qb) (qa := qa) hg hT0
 have HCA := hid (fun w0 (h0 : Rq w0 r m A cap l qb qa i) => pcall_any hg fn en (if T.data.toList = sCount then noneP (Code.bare l) else nameP (Code.bare l) sCol) i w0 h0 hil (fun h2 w1 hr1 => HPF (i + 2) w1 h2 hr1) (fun h2 => by
  split
  ·exact h2
  ·unfold nameP
   split
   ·rename_i hs
    have := (isK_lt (Bool.and_eq_true _ _ ▸ hs).1).1
    rw [bare_length] at this
    exact this
   ·exact h2))
 rw [hres] at HCA
 obtain ⟨TT, j, b⟩ := res
 have HR := hid h
 have hrl := h.lt
 have hql := h.ltq
 have hal := h.lta
 clear h hx hT hg hT0 hres
 go_enter Tryz.func92, Tryz.ntmps92
 obtain ⟨w0, hw0, hz0, N0, B0⟩ := made0 w r
 have R0 := hid (show Rq w0 r m A cap l qb qa i by rw [← hw0]; exact HR.out.alloc _)
 go_upto_region 1 with fail
 try rw [hw0]
 refine wp_region_held_drew (S := fun w' => w'.cell? ⟨r, 3, none⟩ = some (.map (some qa)) ∧ MapR w' qa 4 aggsF) (by kernel_rfl) ⟨R0.out.c3, R0.out.ma⟩ (fun hHeld => ?_)
 refine take1 (v := ?_) 0 7 rfl ?_ ?_; rotate_left; (intro w hSw; (try dsimp only at hSw); go_simp; try with_reducible rfl); (try simp only [Act.put, List.setIfInBounds_toArray, List.set_cons_zero, List.set_cons_succ])
 refine take1 (v := ?_) 1 8 rfl ?_ ?_; rotate_left; (intro w hSw; (try dsimp only at hSw); go_simp; try with_reducible rfl); (try simp only [Act.put, List.setIfInBounds_toArray, List.set_cons_zero, List.set_cons_succ])
 refine take1 (v := ?_) 2 9 rfl ?_ ?_; rotate_left; (intro w hSw; (try dsimp only at hSw); go_simp; try with_reducible rfl); (try simp only [Act.put, List.setIfInBounds_toArray, List.set_cons_zero, List.set_cons_succ])
 refine take1 (v := ?_) 3 10 rfl ?_ ?_; rotate_left; (intro w hSw; (try dsimp only at hSw); go_simp; try with_reducible rfl); (try simp only [Act.put, List.setIfInBounds_toArray, List.set_cons_zero, List.set_cons_succ])
 refine take1 (v := ?_) 4 11 rfl ?_ ?_; rotate_left; (intro w hSw; (try dsimp only at hSw); go_simp; try with_reducible rfl); (try simp only [Act.put, List.setIfInBounds_toArray, List.set_cons_zero, List.set_cons_succ])
 refine wpAnyH_ready (rs := [5]) (by kernel_rfl) (by simp) ?_
 refine AllReadyH.cons (o := ⟨some 12, _, _, _, _, _⟩) rfl (fun K hK => ?_) AllReadyH.nil
 go_simp
 refine (HWD.out _ (R0.out.below (Below.drew (Below.refl _ _)))).mono ?_
 rintro e w1 ⟨rfl, hb1⟩
 have R1 := hid ((R0.out.below (Below.drew (Below.refl _ _))).below hb1)
 have zb1 : w0.heap.size ≤ w1.heap.size := hb1.size
 have N1 := hid ((N0.out.below (Below.drew (Below.refl _ _))).below hb1)
 have B1 := hid ((B0.out.next (Below.drew (Below.refl _ _))).next hb1)
 clear hb1
 refine hK.out _ _ ⟨R1.out.c3, R1.out.ma⟩ (fun hHeld2 => ?_)
 clear hK K
 (try simp only [Act.put, List.setIfInBounds_toArray, List.set_cons_zero, List.set_cons_succ])
 refine take1 (v := ?_) 6 13 rfl ?_ ?_; rotate_left; (intro w hSw; (try dsimp only at hSw); go_simp; try with_reducible rfl); (try simp only [Act.put, List.setIfInBounds_toArray, List.set_cons_zero, List.set_cons_succ])
 refine take1 (v := ?_) 7 14 rfl ?_ ?_; rotate_left; (intro w hSw; (try dsimp only at hSw); have hlk := run_lookq w _ _ _ hSw.2 T hTl _ hu9; go_simp; try with_reducible rfl); (try simp only [Act.put, List.setIfInBounds_toArray, List.set_cons_zero, List.set_cons_succ])
 refine take1 (v := ?_) 8 6 rfl ?_ ?_; rotate_left; (intro w hSw; (try dsimp only at hSw); go_simp; try with_reducible rfl); (try simp only [Act.put, List.setIfInBounds_toArray, List.set_cons_zero, List.set_cons_succ])
 refine take1 (v := ?_) 9 15 rfl ?_ ?_; rotate_left; (intro w hSw; (try dsimp only at hSw); go_simp; try with_reducible rfl); (try simp only [Act.put, List.setIfInBounds_toArray, List.set_cons_zero, List.set_cons_succ])
 refine take1 (v := ?_) 10 16 rfl ?_ ?_; rotate_left; (intro w hSw; (try dsimp only at hSw); go_simp; try with_reducible rfl); (try simp only [Act.put, List.setIfInBounds_toArray, List.set_cons_zero, List.set_cons_succ])
 refine take1 (v := ?_) 11 4 rfl ?_ ?_; rotate_left; (intro w hSw; (try dsimp only at hSw); go_simp; try with_reducible rfl); (try simp only [Act.put, List.setIfInBounds_toArray, List.set_cons_zero, List.set_cons_succ])
 refine take1 (v := ?_) 12 5 rfl ?_ ?_; rotate_left; (intro w hSw; (try dsimp only at hSw); go_simp; try with_reducible rfl); (try simp only [Act.put, List.setIfInBounds_toArray, List.set_cons_zero, List.set_cons_succ])
 refine wpAnyH_done (by kernel_rfl) ?_ _
 go_wp2_with fail
 refine (HWD.out _ R1.out).mono ?_
 rintro e w2 ⟨rfl, hb2⟩
 have zb2 := hb2.size
 have N2 := hid (N1.out.below hb2)
 have B2 := hid (B1.out.next hb2)
 have R2 := hid (R1.out.below hb2)
 clear hb2
 go_wp2_with fail
 refine (HCA.out _ R2.out).mono ?_
 rintro e w3 ⟨o1, t1, X, n, k, rfl, hn1, hb1, hr1⟩
 dsimp only at hn1 hr1
 have I3 := hid (giveN_pass (w := w) hn1 (by omega))
 have B3 := hid (B2.out.trans hb1)
 have R3 := hid hr1
 have N3 := hid (N2.out.but (by omega) hb1)
 clear hn1 hb1 hr1
 obtain ⟨x0, x1, x2, xf⟩ := N3.out
 have zn := N3.out.lt
 obtain ⟨q, hq⟩ : ∃ q, (!b) = q := ⟨_, rfl⟩
 go_wp2
 have Y := N3.out.set (.string o1) (.string t1) (.slice X n k)
 exact bodyPost_ret (v := .tuple #[.agg #[.string o1, .string t1, .slice X n k], .bool (!b)]) (by simp [results, Tryz.results92, go_sem, Y.c0, Y.c1, Y.c2, hq]) rfl
  (giveN_ret I3.out B3.out R3.out hrl hql hal)
theorem pagg_any (hg : Good l) (i : Nat) (w : World) (h : Rq w r m A cap l qb qa i) (hi : i ≤ l.length) :
  Calls Tryz.prog 92 #[.pointer (some ⟨r, 0, none⟩)] w (GiveN r m A cap l qb qa w (aggC (Code.bare l) i)) := by
 obtain ⟨res, hres⟩ : ∃ res, aggC (Code.bare l) i = res := ⟨_, rfl⟩
 rw [hres]
 unfold aggC at hres
 by_cases hT0 : (wd l i).2.1 ∈ aggOps
 ·have e1 : aggOps.contains (txt (Code.bare l) i) = true := by rw [txt_wd]; simpa using hT0
  rw [e1] at hres
  by_cases hil : i < l.length
  ·rw [isK_wd hil] at hres
   by_cases hk : (wd l i).1 = 0
   ·rw [if_pos (by simp [hk])] at hres
    exact pagg_call hg i w h hi hil hT0 hk res hres
   ·rw [if_neg (by simp [hk])] at hres
    subst hres
    exact pagg_kind hg i w h hi hT0 hk
  ·rw [wd_out hil] at hT0
   exact absurd hT0 (by decide)
 ·have e1 : aggOps.contains (txt (Code.bare l) i) = false := by rw [txt_wd]; simpa using hT0
  rw [e1, if_neg (by simp)] at hres
  subst hres
  exact pagg_none hg i w h hi hT0
end
section
variable {r : Nat} {m : Int} {A : Option Addr} {cap : Nat} {l : List W} {qb qa : Nat}
theorem pitem_any (hg : Good l) (i : Nat) (w : World) (h : Rq w r m A cap l qb qa i) (hi : i ≤ l.length) :
  Calls Tryz.prog 86 #[.pointer (some ⟨r, 0, none⟩), .string ⟨#[105, 116, 101, 109]⟩, .func (.func 84) #[] #[]] w (GiveN r m A cap l qb qa w (itemP (Code.bare l) i)) :=
 pnamed_any hg ⟨#[105, 116, 101, 109]⟩ _ (enters_of Tryz.func84 (by kernel_rfl) rfl) (exprP (Code.bare l)) i w h hi (fun h2 w1 h1 => pexpr_any hg (i + 2) w1 h1 h2)
theorem pon_any (hg : Good l) (i : Nat) (w : World) (h : Rq w r m A cap l qb qa i) (hi : i ≤ l.length) :
  Calls Tryz.prog 86 #[.pointer (some ⟨r, 0, none⟩), .string ⟨#[111, 110]⟩, .func (.func 52) #[] #[]] w (GiveN r m A cap l qb qa w (onP (Code.bare l) i)) :=
 pnamed_any hg ⟨#[111, 110]⟩ _ (enters_of Tryz.func52 (by kernel_rfl) rfl) (nameP (Code.bare l) sCol) i w h hi (fun h2 w1 h1 => pcolumn_any hg (i + 2) w1 h1 h2)
theorem pclo_filter_q (hg : Good l) (k i rb : Nat) (w : World) (h : Rq w r m A cap l qb qa i) (hi : i ≤ l.length) (hcb : w.cell? ⟨rb, 0, none⟩ = some (.pointer (some ⟨r, 0, none⟩))) (q : Nat → Res) (HQ : ∀ w1, Rq w1 r m A cap l qb qa i → Calls Tryz.prog 30 #[.pointer (some ⟨r, 0, none⟩)] w1 (GiveN r m A cap l qb qa w1 (q i))) (hk : k < 1) :
  Calls Tryz.prog 83 #[.int .i64 k, .pointer (some ⟨rb, 0, none⟩)] w (GiveN r m A cap l qb qa w (q i)) := by
 obtain ⟨res, hres⟩ : ∃ res, (q i) = res := ⟨_, rfl⟩
 have HC := hid HQ
 clear HQ
 rw [hres] at HC
 rw [hres]
 obtain ⟨T, j, b⟩ := res
 have HR := hid h
 have hrl := h.lt
 have hql := h.ltq
 have hal := h.lta
 have e1 : decide ((k : Int) < 1) = true := by simp; omega
 have e1n : decide (k < 1) = true := by simp; omega
 clear hk
 have zrb := World.block_lt_of_cell? _ _ hcb
 have cb : ∀ o, (w.alloc o).cell? ⟨rb, 0, none⟩ = some (.pointer (some ⟨r, 0, none⟩)) := fun o => ((below_alloc w o).cell (p := ⟨rb, 0, none⟩) zrb).trans hcb
 clear h hres hg hcb
 go_enter Tryz.func83, Tryz.ntmps83
 obtain ⟨w0, hw0, hz0, N0, B0⟩ := made0 w r
 have R0 := hid (show Rq w0 r m A cap l qb qa i by rw [← hw0]; exact HR.out.alloc _)
 have cb := cb (.cells #[.string ⟨#[]⟩, .string ⟨#[]⟩, .slice none 0 0] 25)
 rw [hw0] at cb
 go_wp2_with fail
 try rw [hw0]
 refine (HC.out _ R0.out).mono ?_
 rintro e w2 ⟨o1, t1, X, n, c, rfl, hn1, hb1, hr1⟩
 dsimp only at hn1 hr1
 have I2 := hid (giveN_pass (w := w) hn1 (by omega))
 have B2 := hid (B0.out.trans hb1)
 have R2 := hid hr1
 have N2 := hid (N0.out.but (by omega) hb1)
 clear hn1 hb1 hr1 cb
 obtain ⟨x0, x1, x2, xf⟩ := N2.out
 have zn := N2.out.lt
 obtain ⟨q, hq⟩ : ∃ q, (!b) = q := ⟨_, rfl⟩
 go_wp2
 have Y := N2.out.set (.string o1) (.string t1) (.slice X n c)
 exact bodyPost_ret (v := .tuple #[.agg #[.string o1, .string t1, .slice X n c], .bool (!b)]) (by simp [results, Tryz.results83, go_sem, Y.c0, Y.c1, Y.c2, hq]) rfl
  (giveN_ret I2.out B2.out R2.out hrl hql hal)
theorem pclo_filter_e (hg : Good l) (k i rb : Nat) (w : World) (h : Rq w r m A cap l qb qa i) (hi : i ≤ l.length) (hcb : w.cell? ⟨rb, 0, none⟩ = some (.pointer (some ⟨r, 0, none⟩))) (hk : 1 ≤ k) :
  Calls Tryz.prog 83 #[.int .i64 k, .pointer (some ⟨rb, 0, none⟩)] w (GiveN r m A cap l qb qa w (exprP (Code.bare l) i)) := by
 obtain ⟨res, hres⟩ : ∃ res, (exprP (Code.bare l) i) = res := ⟨_, rfl⟩
 have HC := hid (fun w0 (h0 : Rq w0 r m A cap l qb qa i) => pexpr_any hg i w0 h0 hi)
 rw [hres] at HC
 rw [hres]
 obtain ⟨T, j, b⟩ := res
 have HR := hid h
 have hrl := h.lt
 have hql := h.ltq
 have hal := h.lta
 have e1 : decide ((k : Int) < 1) = false := by simp; omega
 have e1n : decide (k < 1) = false := by simp; omega
 clear hk
 have zrb := World.block_lt_of_cell? _ _ hcb
 have cb : ∀ o, (w.alloc o).cell? ⟨rb, 0, none⟩ = some (.pointer (some ⟨r, 0, none⟩)) := fun o => ((below_alloc w o).cell (p := ⟨rb, 0, none⟩) zrb).trans hcb
 clear h hres hg hcb
 go_enter Tryz.func83, Tryz.ntmps83
 obtain ⟨w0, hw0, hz0, N0, B0⟩ := made0 w r
 have R0 := hid (show Rq w0 r m A cap l qb qa i by rw [← hw0]; exact HR.out.alloc _)
 have cb := cb (.cells #[.string ⟨#[]⟩, .string ⟨#[]⟩, .slice none 0 0] 25)
 rw [hw0] at cb
 go_wp2_with fail
 try rw [hw0]
 refine (HC.out _ R0.out).mono ?_
 rintro e w2 ⟨o1, t1, X, n, c, rfl, hn1, hb1, hr1⟩
 dsimp only at hn1 hr1
 have I2 := hid (giveN_pass (w := w) hn1 (by omega))
 have B2 := hid (B0.out.trans hb1)
 have R2 := hid hr1
 have N2 := hid (N0.out.but (by omega) hb1)
 clear hn1 hb1 hr1 cb
 obtain ⟨x0, x1, x2, xf⟩ := N2.out
 have zn := N2.out.lt
 obtain ⟨q, hq⟩ : ∃ q, (!b) = q := ⟨_, rfl⟩
 go_wp2
 have Y := N2.out.set (.string o1) (.string t1) (.slice X n c)
 exact bodyPost_ret (v := .tuple #[.agg #[.string o1, .string t1, .slice X n c], .bool (!b)]) (by simp [results, Tryz.results83, go_sem, Y.c0, Y.c1, Y.c2, hq]) rfl
  (giveN_ret I2.out B2.out R2.out hrl hql hal)
theorem pclo_project_q (hg : Good l) (k i rb : Nat) (w : World) (h : Rq w r m A cap l qb qa i) (hi : i ≤ l.length) (hcb : w.cell? ⟨rb, 0, none⟩ = some (.pointer (some ⟨r, 0, none⟩))) (q : Nat → Res) (HQ : ∀ w1, Rq w1 r m A cap l qb qa i → Calls Tryz.prog 30 #[.pointer (some ⟨r, 0, none⟩)] w1 (GiveN r m A cap l qb qa w1 (q i))) (hk : k < 1) :
  Calls Tryz.prog 85 #[.int .i64 k, .pointer (some ⟨rb, 0, none⟩)] w (GiveN r m A cap l qb qa w (q i)) := by
 obtain ⟨res, hres⟩ : ∃ res, (q i) = res := ⟨_, rfl⟩
 have HC := hid HQ
 clear HQ
 rw [hres] at HC
 rw [hres]
 obtain ⟨T, j, b⟩ := res
 have HR := hid h
 have hrl := h.lt
 have hql := h.ltq
 have hal := h.lta
 have e1 : decide ((k : Int) < 1) = true := by simp; omega
 have e1n : decide (k < 1) = true := by simp; omega
 clear hk
 have zrb := World.block_lt_of_cell? _ _ hcb
 have cb : ∀ o, (w.alloc o).cell? ⟨rb, 0, none⟩ = some (.pointer (some ⟨r, 0, none⟩)) := fun o => ((below_alloc w o).cell (p := ⟨rb, 0, none⟩) zrb).trans hcb
 clear h hres hg hcb
 go_enter Tryz.func85, Tryz.ntmps85
 obtain ⟨w0, hw0, hz0, N0, B0⟩ := made0 w r
 have R0 := hid (show Rq w0 r m A cap l qb qa i by rw [← hw0]; exact HR.out.alloc _)
 have cb := cb (.cells #[.string ⟨#[]⟩, .string ⟨#[]⟩, .slice none 0 0] 25)
 rw [hw0] at cb
 go_wp2_with fail
 try rw [hw0]
 refine (HC.out _ R0.out).mono ?_
 rintro e w2 ⟨o1, t1, X, n, c, rfl, hn1, hb1, hr1⟩
 dsimp only at hn1 hr1
 have I2 := hid (giveN_pass (w := w) hn1 (by omega))
 have B2 := hid (B0.out.trans hb1)
 have R2 := hid hr1
 have N2 := hid (N0.out.but (by omega) hb1)
 clear hn1 hb1 hr1 cb
 obtain ⟨x0, x1, x2, xf⟩ := N2.out
 have zn := N2.out.lt
 obtain ⟨q, hq⟩ : ∃ q, (!b) = q := ⟨_, rfl⟩
 go_wp2
 have Y := N2.out.set (.string o1) (.string t1) (.slice X n c)
 exact bodyPost_ret (v := .tuple #[.agg #[.string o1, .string t1, .slice X n c], .bool (!b)]) (by simp [results, Tryz.results85, go_sem, Y.c0, Y.c1, Y.c2, hq]) rfl
  (giveN_ret I2.out B2.out R2.out hrl hql hal)
theorem pclo_project_e (hg : Good l) (k i rb : Nat) (w : World) (h : Rq w r m A cap l qb qa i) (hi : i ≤ l.length) (hcb : w.cell? ⟨rb, 0, none⟩ = some (.pointer (some ⟨r, 0, none⟩))) (hk : 1 ≤ k) :
  Calls Tryz.prog 85 #[.int .i64 k, .pointer (some ⟨rb, 0, none⟩)] w (GiveN r m A cap l qb qa w (itemP (Code.bare l) i)) := by
 obtain ⟨res, hres⟩ : ∃ res, (itemP (Code.bare l) i) = res := ⟨_, rfl⟩
 have HC := hid (fun w0 (h0 : Rq w0 r m A cap l qb qa i) => pitem_any hg i w0 h0 hi)
 rw [hres] at HC
 rw [hres]
 obtain ⟨T, j, b⟩ := res
 have HR := hid h
 have hrl := h.lt
 have hql := h.ltq
 have hal := h.lta
 have e1 : decide ((k : Int) < 1) = false := by simp; omega
 have e1n : decide (k < 1) = false := by simp; omega
 clear hk
 have zrb := World.block_lt_of_cell? _ _ hcb
 have cb : ∀ o, (w.alloc o).cell? ⟨rb, 0, none⟩ = some (.pointer (some ⟨r, 0, none⟩)) := fun o => ((below_alloc w o).cell (p := ⟨rb, 0, none⟩) zrb).trans hcb
 clear h hres hg hcb
 go_enter Tryz.func85, Tryz.ntmps85
 obtain ⟨w0, hw0, hz0, N0, B0⟩ := made0 w r
 have R0 := hid (show Rq w0 r m A cap l qb qa i by rw [← hw0]; exact HR.out.alloc _)
 have cb := cb (.cells #[.string ⟨#[]⟩, .string ⟨#[]⟩, .slice none 0 0] 25)
 rw [hw0] at cb
 go_wp2_with fail
 try rw [hw0]
 refine (HC.out _ R0.out).mono ?_
 rintro e w2 ⟨o1, t1, X, n, c, rfl, hn1, hb1, hr1⟩
 dsimp only at hn1 hr1
 have I2 := hid (giveN_pass (w := w) hn1 (by omega))
 have B2 := hid (B0.out.trans hb1)
 have R2 := hid hr1
 have N2 := hid (N0.out.but (by omega) hb1)
 clear hn1 hb1 hr1 cb
 obtain ⟨x0, x1, x2, xf⟩ := N2.out
 have zn := N2.out.lt
 obtain ⟨q, hq⟩ : ∃ q, (!b) = q := ⟨_, rfl⟩
 go_wp2
 have Y := N2.out.set (.string o1) (.string t1) (.slice X n c)
 exact bodyPost_ret (v := .tuple #[.agg #[.string o1, .string t1, .slice X n c], .bool (!b)]) (by simp [results, Tryz.results85, go_sem, Y.c0, Y.c1, Y.c2, hq]) rfl
  (giveN_ret I2.out B2.out R2.out hrl hql hal)
theorem pclo_join_q (hg : Good l) (k i rb : Nat) (w : World) (h : Rq w r m A cap l qb qa i) (hi : i ≤ l.length) (hcb : w.cell? ⟨rb, 0, none⟩ = some (.pointer (some ⟨r, 0, none⟩))) (q : Nat → Res) (HQ : ∀ w1, Rq w1 r m A cap l qb qa i → Calls Tryz.prog 30 #[.pointer (some ⟨r, 0, none⟩)] w1 (GiveN r m A cap l qb qa w1 (q i))) (hk : k < 2) :
  Calls Tryz.prog 87 #[.int .i64 k, .pointer (some ⟨rb, 0, none⟩)] w (GiveN r m A cap l qb qa w (q i)) := by
 obtain ⟨res, hres⟩ : ∃ res, (q i) = res := ⟨_, rfl⟩
 have HC := hid HQ
 clear HQ
 rw [hres] at HC
 rw [hres]
 obtain ⟨T, j, b⟩ := res
 have HR := hid h
 have hrl := h.lt
 have hql := h.ltq
 have hal := h.lta
 have e1 : decide ((k : Int) < 2) = true := by simp; omega
 have e1n : decide (k < 2) = true := by simp; omega
 clear hk
 have zrb := World.block_lt_of_cell? _ _ hcb
 have cb : ∀ o, (w.alloc o).cell? ⟨rb, 0, none⟩ = some (.pointer (some ⟨r, 0, none⟩)) := fun o => ((below_alloc w o).cell (p := ⟨rb, 0, none⟩) zrb).trans hcb
 clear h hres hg hcb
 go_enter Tryz.func87, Tryz.ntmps87
 obtain ⟨w0, hw0, hz0, N0, B0⟩ := made0 w r
 have R0 := hid (show Rq w0 r m A cap l qb qa i by rw [← hw0]; exact HR.out.alloc _)
 have cb := cb (.cells #[.string ⟨#[]⟩, .string ⟨#[]⟩, .slice none 0 0] 25)
 rw [hw0] at cb
 go_wp2_with fail
 try rw [hw0]
 refine (HC.out _ R0.out).mono ?_
 rintro e w2 ⟨o1, t1, X, n, c, rfl, hn1, hb1, hr1⟩
 dsimp only at hn1 hr1
 have I2 := hid (giveN_pass (w := w) hn1 (by omega))
 have B2 := hid (B0.out.trans hb1)
 have R2 := hid hr1
 have N2 := hid (N0.out.but (by omega) hb1)
 clear hn1 hb1 hr1 cb
 obtain ⟨x0, x1, x2, xf⟩ := N2.out
 have zn := N2.out.lt
 obtain ⟨q, hq⟩ : ∃ q, (!b) = q := ⟨_, rfl⟩
 go_wp2
 have Y := N2.out.set (.string o1) (.string t1) (.slice X n c)
 exact bodyPost_ret (v := .tuple #[.agg #[.string o1, .string t1, .slice X n c], .bool (!b)]) (by simp [results, Tryz.results87, go_sem, Y.c0, Y.c1, Y.c2, hq]) rfl
  (giveN_ret I2.out B2.out R2.out hrl hql hal)
theorem pclo_join_e (hg : Good l) (k i rb : Nat) (w : World) (h : Rq w r m A cap l qb qa i) (hi : i ≤ l.length) (hcb : w.cell? ⟨rb, 0, none⟩ = some (.pointer (some ⟨r, 0, none⟩))) (hk : 2 ≤ k) :
  Calls Tryz.prog 87 #[.int .i64 k, .pointer (some ⟨rb, 0, none⟩)] w (GiveN r m A cap l qb qa w (onP (Code.bare l) i)) := by
 obtain ⟨res, hres⟩ : ∃ res, (onP (Code.bare l) i) = res := ⟨_, rfl⟩
 have HC := hid (fun w0 (h0 : Rq w0 r m A cap l qb qa i) => pon_any hg i w0 h0 hi)
 rw [hres] at HC
 rw [hres]
 obtain ⟨T, j, b⟩ := res
 have HR := hid h
 have hrl := h.lt
 have hql := h.ltq
 have hal := h.lta
 have e1 : decide ((k : Int) < 2) = false := by simp; omega
 have e1n : decide (k < 2) = false := by simp; omega
 clear hk
 have zrb := World.block_lt_of_cell? _ _ hcb
 have cb : ∀ o, (w.alloc o).cell? ⟨rb, 0, none⟩ = some (.pointer (some ⟨r, 0, none⟩)) := fun o => ((below_alloc w o).cell (p := ⟨rb, 0, none⟩) zrb).trans hcb
 clear h hres hg hcb
 go_enter Tryz.func87, Tryz.ntmps87
 obtain ⟨w0, hw0, hz0, N0, B0⟩ := made0 w r
 have R0 := hid (show Rq w0 r m A cap l qb qa i by rw [← hw0]; exact HR.out.alloc _)
 have cb := cb (.cells #[.string ⟨#[]⟩, .string ⟨#[]⟩, .slice none 0 0] 25)
 rw [hw0] at cb
 go_wp2_with fail
 try rw [hw0]
 refine (HC.out _ R0.out).mono ?_
 rintro e w2 ⟨o1, t1, X, n, c, rfl, hn1, hb1, hr1⟩
 dsimp only at hn1 hr1
 have I2 := hid (giveN_pass (w := w) hn1 (by omega))
 have B2 := hid (B0.out.trans hb1)
 have R2 := hid hr1
 have N2 := hid (N0.out.but (by omega) hb1)
 clear hn1 hb1 hr1 cb
 obtain ⟨x0, x1, x2, xf⟩ := N2.out
 have zn := N2.out.lt
 obtain ⟨q, hq⟩ : ∃ q, (!b) = q := ⟨_, rfl⟩
 go_wp2
 have Y := N2.out.set (.string o1) (.string t1) (.slice X n c)
 exact bodyPost_ret (v := .tuple #[.agg #[.string o1, .string t1, .slice X n c], .bool (!b)]) (by simp [results, Tryz.results87, go_sem, Y.c0, Y.c1, Y.c2, hq]) rfl
  (giveN_ret I2.out B2.out R2.out hrl hql hal)
theorem pclo_union (hg : Good l) (k i rb : Nat) (w : World) (h : Rq w r m A cap l qb qa i) (hi : i ≤ l.length) (hcb : w.cell? ⟨rb, 0, none⟩ = some (.pointer (some ⟨r, 0, none⟩))) (q : Nat → Res) (HQ : ∀ w1, Rq w1 r m A cap l qb qa i → Calls Tryz.prog 30 #[.pointer (some ⟨r, 0, none⟩)] w1 (GiveN r m A cap l qb qa w1 (q i))) :
  Calls Tryz.prog 88 #[.int .i64 k, .pointer (some ⟨rb, 0, none⟩)] w (GiveN r m A cap l qb qa w (q i)) := by
 obtain ⟨res, hres⟩ : ∃ res, (q i) = res := ⟨_, rfl⟩
 have HC := hid HQ
 clear HQ
 rw [hres] at HC
 rw [hres]
 obtain ⟨T, j, b⟩ := res
 have HR := hid h
 have hrl := h.lt
 have hql := h.ltq
 have hal := h.lta
 have zrb := World.block_lt_of_cell? _ _ hcb
 have cb : ∀ o, (w.alloc o).cell? ⟨rb, 0, none⟩ = some (.pointer (some ⟨r, 0, none⟩)) := fun o => ((below_alloc w o).cell (p := ⟨rb, 0, none⟩) zrb).trans hcb
 clear h hres hg hcb
 go_enter Tryz.func88, Tryz.ntmps88
 obtain ⟨w0, hw0, hz0, N0, B0⟩ := made0 w r
 have R0 := hid (show Rq w0 r m A cap l qb qa i by rw [← hw0]; exact HR.out.alloc _)
 have cb := cb (.cells #[.string ⟨#[]⟩, .string ⟨#[]⟩, .slice none 0 0] 25)
 rw [hw0] at cb
 go_wp2_with fail
 try rw [hw0]
 refine (HC.out _ R0.out).mono ?_
 rintro e w2 ⟨o1, t1, X, n, c, rfl, hn1, hb1, hr1⟩
 dsimp only at hn1 hr1
 have I2 := hid (giveN_pass (w := w) hn1 (by omega))
 have B2 := hid (B0.out.trans hb1)
 have R2 := hid hr1
 have N2 := hid (N0.out.but (by omega) hb1)
 clear hn1 hb1 hr1 cb
 obtain ⟨x0, x1, x2, xf⟩ := N2.out
 have zn := N2.out.lt
 obtain ⟨q, hq⟩ : ∃ q, (!b) = q := ⟨_, rfl⟩
 go_wp2
 have Y := N2.out.set (.string o1) (.string t1) (.slice X n c)
 exact bodyPost_ret (v := .tuple #[.agg #[.string o1, .string t1, .slice X n c], .bool (!b)]) (by simp [results, Tryz.results88, go_sem, Y.c0, Y.c1, Y.c2, hq]) rfl
  (giveN_ret I2.out B2.out R2.out hrl hql hal)
theorem pclo_distinct (hg : Good l) (k i rb : Nat) (w : World) (h : Rq w r m A cap l qb qa i) (hi : i ≤ l.length) (hcb : w.cell? ⟨rb, 0, none⟩ = some (.pointer (some ⟨r, 0, none⟩))) (q : Nat → Res) (HQ : ∀ w1, Rq w1 r m A cap l qb qa i → Calls Tryz.prog 30 #[.pointer (some ⟨r, 0, none⟩)] w1 (GiveN r m A cap l qb qa w1 (q i))) :
  Calls Tryz.prog 89 #[.int .i64 k, .pointer (some ⟨rb, 0, none⟩)] w (GiveN r m A cap l qb qa w (q i)) := by
 obtain ⟨res, hres⟩ : ∃ res, (q i) = res := ⟨_, rfl⟩
 have HC := hid HQ
 clear HQ
 rw [hres] at HC
 rw [hres]
 obtain ⟨T, j, b⟩ := res
 have HR := hid h
 have hrl := h.lt
 have hql := h.ltq
 have hal := h.lta
 have zrb := World.block_lt_of_cell? _ _ hcb
 have cb : ∀ o, (w.alloc o).cell? ⟨rb, 0, none⟩ = some (.pointer (some ⟨r, 0, none⟩)) := fun o => ((below_alloc w o).cell (p := ⟨rb, 0, none⟩) zrb).trans hcb
 clear h hres hg hcb
 go_enter Tryz.func89, Tryz.ntmps89
 obtain ⟨w0, hw0, hz0, N0, B0⟩ := made0 w r
 have R0 := hid (show Rq w0 r m A cap l qb qa i by rw [← hw0]; exact HR.out.alloc _)
 have cb := cb (.cells #[.string ⟨#[]⟩, .string ⟨#[]⟩, .slice none 0 0] 25)
 rw [hw0] at cb
 go_wp2_with fail
 try rw [hw0]
 refine (HC.out _ R0.out).mono ?_
 rintro e w2 ⟨o1, t1, X, n, c, rfl, hn1, hb1, hr1⟩
 dsimp only at hn1 hr1
 have I2 := hid (giveN_pass (w := w) hn1 (by omega))
 have B2 := hid (B0.out.trans hb1)
 have R2 := hid hr1
 have N2 := hid (N0.out.but (by omega) hb1)
 clear hn1 hb1 hr1 cb
 obtain ⟨x0, x1, x2, xf⟩ := N2.out
 have zn := N2.out.lt
 obtain ⟨q, hq⟩ : ∃ q, (!b) = q := ⟨_, rfl⟩
 go_wp2
 have Y := N2.out.set (.string o1) (.string t1) (.slice X n c)
 exact bodyPost_ret (v := .tuple #[.agg #[.string o1, .string t1, .slice X n c], .bool (!b)]) (by simp [results, Tryz.results89, go_sem, Y.c0, Y.c1, Y.c2, hq]) rfl
  (giveN_ret I2.out B2.out R2.out hrl hql hal)
end
end Go.Proofs.YtjbpkpfmgbhlpaaGreatDoor.Code
