/-
  The program's by: what a group is by.
-/
import Derived.Test.YtjbpkpfmgbhlpaaGreatDoorMs19
import Derived.Test.YtjbpkpfmgbhlpaaGreatDoorMs21
import Derived.Test.YtjbpkpfmgbhlpaaGreatDoorMs18
set_option maxRecDepth 100000
set_option maxHeartbeats 16000000
open Go.Lib (hid)
namespace Go.Proofs.YtjbpkpfmgbhlpaaGreatDoor.Code
open Go.ChangeShapes Go.WideShapes Go.ChangeAt Go.RowKit Val Elems
set_option linter.unusedVariables false
set_option linter.unusedSimpArgs false
section
variable {r : Nat} {m : Int} {A : Option Addr} {cap : Nat} {l : List W} {qb qa : Nat}
theorem pby_kind (hg : Good l) (i : Nat) (w : World) (h : Rq w r m A cap l qb qa i) (hi : i ≤ l.length) (hk : (wd l i).1 ≠ 0) :
  Calls Tryz.prog 91 #[.pointer (some ⟨r, 0, none⟩)] w (GiveN r m A cap l qb qa w (.mk sBy [] [], i, false)) := by
 have hll := hg.len
 have HWD := hid (fun w0 (h0 : Rq w0 r m A cap l qb qa i) => pword_any i 0 w0 h0 hi hll (by decide))
 rw [Nat.add_zero] at HWD
 unfold wv at HWD
 obtain ⟨x, hx⟩ : ∃ x, wd l i = x := ⟨_, rfl⟩
 rw [hx] at HWD hk
 obtain ⟨wk, wt, wp⟩ := x
 dsimp only at HWD hk
 obtain ⟨T, hT⟩ : ∃ T : ByteArray, ⟨wt.toArray⟩ = T := ⟨_, rfl⟩
 obtain rfl : wt = T.data.toList := by rw [← hT]
 rw [hT] at HWD
 have hfd0 := fun w0 => field0 wk wp T w0
 have hfd1 := fun w0 => field1 wk wp T w0
 have e0 : (wk == 0) = false := by simpa using hk
 have e0' : (wk != 0) = true := by simp [bne, e0]
 have HR := hid h
 have hrl := h.lt
 have hql := h.ltq
 have hal := h.lta
 clear h hx hT hg hk
 go_enter Tryz.func91, Tryz.ntmps91
 obtain ⟨wa, hwa⟩ : ∃ wa, w.alloc (.cells #[.string ⟨#[]⟩, .string ⟨#[]⟩, .slice none 0 0] 25) = wa := ⟨_, rfl⟩
 obtain ⟨w0, hw0⟩ : ∃ w0, wa.alloc (.cells #[.string ⟨#[98, 121]⟩, .string ⟨#[]⟩, .slice none 0 0] 25) = w0 := ⟨_, rfl⟩
 have hza : wa.heap.size = w.heap.size + 1 := by rw [← hwa]; simp
 have hz0 : w0.heap.size = w.heap.size + 2 := by rw [← hw0, ← hwa]; simp
 have N0 := hid (show NBox w0 w.heap.size (.string ⟨#[]⟩) (.string ⟨#[]⟩) (.slice none 0 0) by rw [← hw0, ← hwa]; exact (NBox.fresh _ _ _ _ _).alloc _)
 have M0 := hid (show NBox w0 (w.heap.size + 1) (.string ⟨#[98, 121]⟩) (.string ⟨#[]⟩) (.slice none 0 0) by rw [← hw0, ← hza]; exact NBox.fresh _ _ _ _ _)
 have R0 := hid (show Rq w0 r m A cap l qb qa i by rw [← hw0, ← hwa]; exact (HR.out.alloc _).alloc _)
 have B0 := hid (show But w w0 r by rw [← hw0, ← hwa]; exact ((But.refl w r).alloc _).alloc _)
 rw [← hwa] at hw0
 have HW0 := hid hw0
 clear hwa hza hw0 wa
 go_upto_region 2 with fail
 rw [HW0.out]
 go_wp2_with fail
 refine (HWD.out _ R0.out).mono ?_
 rintro e w1 ⟨rfl, hb1⟩
 have zb1 := hb1.size
 have N1 := hid (N0.out.below hb1)
 have M1 := hid (M0.out.below hb1)
 have R1 := hid (R0.out.below hb1)
 have B1 := hid (B0.out.next hb1)
 clear hb1
 obtain ⟨x0, x1, x2, xf⟩ := N1.out
 obtain ⟨y0, y1, y2, yf⟩ := M1.out
 have zn := N1.out.lt
 have zm := M1.out.lt
 go_wp2
 have Y := N1.out.set (.string ⟨#[98, 121]⟩) (.string ⟨#[]⟩) (.slice none 0 0)
 exact bodyPost_ret (v := .tuple #[.agg #[.string ⟨#[98, 121]⟩, .string ⟨#[]⟩, .slice none 0 0], .bool (!false)]) (by simp [results, Tryz.results91, go_sem, Y.c0, Y.c1, Y.c2]) rfl
  (giveN_ret (b := false) (fun _ => RIn.leafN _ _ ⟨#[98, 121]⟩ ⟨#[]⟩) B1.out R1.out hrl hql hal)
theorem pby_other (hg : Good l) (i : Nat) (w : World) (h : Rq w r m A cap l qb qa i) (hi : i ≤ l.length) (hk : (wd l i).1 = 0) (ht : (wd l i).2.1 ≠ sBy) :
  Calls Tryz.prog 91 #[.pointer (some ⟨r, 0, none⟩)] w (GiveN r m A cap l qb qa w (.mk sBy [] [], i, false)) := by
 have hll := hg.len
 have HWD := hid (fun w0 (h0 : Rq w0 r m A cap l qb qa i) => pword_any i 0 w0 h0 hi hll (by decide))
 rw [Nat.add_zero] at HWD
 unfold wv at HWD
 obtain ⟨x, hx⟩ : ∃ x, wd l i = x := ⟨_, rfl⟩
 rw [hx] at HWD hk ht
 obtain ⟨wk, wt, wp⟩ := x
 dsimp only at HWD hk ht
 obtain ⟨T, hT⟩ : ∃ T : ByteArray, ⟨wt.toArray⟩ = T := ⟨_, rfl⟩
 obtain rfl : wt = T.data.toList := by rw [← hT]
 rw [hT] at HWD
 have hfd0 := fun w0 => field0 wk wp T w0
 have hfd1 := fun w0 => field1 wk wp T w0
 subst hk
 have hne : T ≠ ⟨#[98, 121]⟩ := fun e => ht (by rw [e]; rfl)
 have f2 : (T.toList == [98, 121]) = false := by
  have h := toList_ne hne
  rw [ByteArray.toList_eq ⟨#[98, 121]⟩] at h
  exact h
 have f3 : (T.toList != [98, 121]) = true := by simp [bne, f2]
 have HR := hid h
 have hrl := h.lt
 have hql := h.ltq
 have hal := h.lta
 clear h hx hT hg ht hne
 go_enter Tryz.func91, Tryz.ntmps91
 obtain ⟨wa, hwa⟩ : ∃ wa, w.alloc (.cells #[.string ⟨#[]⟩, .string ⟨#[]⟩, .slice none 0 0] 25) = wa := ⟨_, rfl⟩
 obtain ⟨w0, hw0⟩ : ∃ w0, wa.alloc (.cells #[.string ⟨#[98, 121]⟩, .string ⟨#[]⟩, .slice none 0 0] 25) = w0 := ⟨_, rfl⟩
 have hza : wa.heap.size = w.heap.size + 1 := by rw [← hwa]; simp
 have hz0 : w0.heap.size = w.heap.size + 2 := by rw [← hw0, ← hwa]; simp
 have N0 := hid (show NBox w0 w.heap.size (.string ⟨#[]⟩) (.string ⟨#[]⟩) (.slice none 0 0) by rw [← hw0, ← hwa]; exact (NBox.fresh _ _ _ _ _).alloc _)
 have M0 := hid (show NBox w0 (w.heap.size + 1) (.string ⟨#[98, 121]⟩) (.string ⟨#[]⟩) (.slice none 0 0) by rw [← hw0, ← hza]; exact NBox.fresh _ _ _ _ _)
 have R0 := hid (show Rq w0 r m A cap l qb qa i by rw [← hw0, ← hwa]; exact (HR.out.alloc _).alloc _)
 have B0 := hid (show But w w0 r by rw [← hw0, ← hwa]; exact ((But.refl w r).alloc _).alloc _)
 rw [← hwa] at hw0
 have HW0 := hid hw0
 clear hwa hza hw0 wa
 go_upto_region 2 with fail
 rw [HW0.out]
 go_wp2_with fail
 refine (HWD.out _ R0.out).mono ?_
 rintro e w1 ⟨rfl, hb1⟩
 have zb1 := hb1.size
 have N1 := hid (N0.out.below hb1)
 have M1 := hid (M0.out.below hb1)
 have R1 := hid (R0.out.below hb1)
 have B1 := hid (B0.out.next hb1)
 clear hb1
 go_wp2_with fail
 refine (HWD.out _ R1.out).mono ?_
 rintro e w2 ⟨rfl, hb2⟩
 have zb2 := hb2.size
 have N2 := hid (N1.out.below hb2)
 have M2 := hid (M1.out.below hb2)
 have R2 := hid (R1.out.below hb2)
 have B2 := hid (B1.out.next hb2)
 clear hb2
 obtain ⟨x0, x1, x2, xf⟩ := N2.out
 obtain ⟨y0, y1, y2, yf⟩ := M2.out
 have zn := N2.out.lt
 have zm := M2.out.lt
 go_wp2
 have Y := N2.out.set (.string ⟨#[98, 121]⟩) (.string ⟨#[]⟩) (.slice none 0 0)
 exact bodyPost_ret (v := .tuple #[.agg #[.string ⟨#[98, 121]⟩, .string ⟨#[]⟩, .slice none 0 0], .bool (!false)]) (by simp [results, Tryz.results91, go_sem, Y.c0, Y.c1, Y.c2]) rfl
  (giveN_ret (b := false) (fun _ => RIn.leafN _ _ ⟨#[98, 121]⟩ ⟨#[]⟩) B2.out R2.out hrl hql hal)
theorem pby_mark (hg : Good l) (i : Nat) (w : World) (h : Rq w r m A cap l qb qa i) (hi : i ≤ l.length) (hk : (wd l i).1 = 0) (ht : (wd l i).2.1 = sBy) (hm : isW (bare l) (i + 1) false [61] = true) :
  Calls Tryz.prog 91 #[.pointer (some ⟨r, 0, none⟩)] w (GiveN r m A cap l qb qa w (.mk sBy [] [], i, false)) := by
 have hll := hg.len
 have HWD := hid (fun w0 (h0 : Rq w0 r m A cap l qb qa i) => pword_any i 0 w0 h0 hi hll (by decide))
 rw [Nat.add_zero] at HWD
 unfold wv at HWD
 have HMK := hid (fun w0 (h0 : Rq w0 r m A cap l qb qa i) => pmark_any i 1 ⟨#[61]⟩ w0 h0 hi hll (by decide) (by decide) true hm)
 obtain ⟨x, hx⟩ : ∃ x, wd l i = x := ⟨_, rfl⟩
 rw [hx] at HWD hk ht
 obtain ⟨wk, wt, wp⟩ := x
 dsimp only at HWD hk ht
 obtain ⟨T, hT⟩ : ∃ T : ByteArray, ⟨wt.toArray⟩ = T := ⟨_, rfl⟩
 obtain rfl : wt = T.data.toList := by rw [← hT]
 rw [hT] at HWD
 have hfd0 := fun w0 => field0 wk wp T w0
 have hfd1 := fun w0 => field1 wk wp T w0
 subst hk
 obtain rfl : T = ⟨#[98, 121]⟩ := by rw [← Lib.mk_data T, ht]; rfl
 have f2 : ((⟨#[98, 121]⟩ : ByteArray).toList == [98, 121]) = true := by rw [ByteArray.toList_eq]; rfl
 have f3 : ((⟨#[98, 121]⟩ : ByteArray).toList != [98, 121]) = false := by simp [bne, f2]
 have HR := hid h
 have hrl := h.lt
 have hql := h.ltq
 have hal := h.lta
 clear h hx hT hg ht hm
 go_enter Tryz.func91, Tryz.ntmps91
 obtain ⟨wa, hwa⟩ : ∃ wa, w.alloc (.cells #[.string ⟨#[]⟩, .string ⟨#[]⟩, .slice none 0 0] 25) = wa := ⟨_, rfl⟩
 obtain ⟨w0, hw0⟩ : ∃ w0, wa.alloc (.cells #[.string ⟨#[98, 121]⟩, .string ⟨#[]⟩, .slice none 0 0] 25) = w0 := ⟨_, rfl⟩
 have hza : wa.heap.size = w.heap.size + 1 := by rw [← hwa]; simp
 have hz0 : w0.heap.size = w.heap.size + 2 := by rw [← hw0, ← hwa]; simp
 have N0 := hid (show NBox w0 w.heap.size (.string ⟨#[]⟩) (.string ⟨#[]⟩) (.slice none 0 0) by rw [← hw0, ← hwa]; exact (NBox.fresh _ _ _ _ _).alloc _)
 have M0 := hid (show NBox w0 (w.heap.size + 1) (.string ⟨#[98, 121]⟩) (.string ⟨#[]⟩) (.slice none 0 0) by rw [← hw0, ← hza]; exact NBox.fresh _ _ _ _ _)
 have R0 := hid (show Rq w0 r m A cap l qb qa i by rw [← hw0, ← hwa]; exact (HR.out.alloc _).alloc _)
 have B0 := hid (show But w w0 r by rw [← hw0, ← hwa]; exact ((But.refl w r).alloc _).alloc _)
 rw [← hwa] at hw0
 have HW0 := hid hw0
 clear hwa hza hw0 wa
 go_upto_region 2 with fail
 rw [HW0.out]
 go_wp2_with fail
 refine (HWD.out _ R0.out).mono ?_
 rintro e w1 ⟨rfl, hb1⟩
 have zb1 := hb1.size
 have N1 := hid (N0.out.below hb1)
 have M1 := hid (M0.out.below hb1)
 have R1 := hid (R0.out.below hb1)
 have B1 := hid (B0.out.next hb1)
 clear hb1
 go_wp2_with fail
 refine (HWD.out _ R1.out).mono ?_
 rintro e w2 ⟨rfl, hb2⟩
 have zb2 := hb2.size
 have N2 := hid (N1.out.below hb2)
 have M2 := hid (M1.out.below hb2)
 have R2 := hid (R1.out.below hb2)
 have B2 := hid (B1.out.next hb2)
 clear hb2
 go_wp2_with fail
 refine (HMK.out _ R2.out).mono ?_
 rintro e w3 ⟨rfl, hb3⟩
 have zb3 := hb3.size
 have N3 := hid (N2.out.below hb3)
 have M3 := hid (M2.out.below hb3)
 have R3 := hid (R2.out.below hb3)
 have B3 := hid (B2.out.next hb3)
 clear hb3
 obtain ⟨x0, x1, x2, xf⟩ := N3.out
 obtain ⟨y0, y1, y2, yf⟩ := M3.out
 have zn := N3.out.lt
 have zm := M3.out.lt
 go_wp2
 have Y := N3.out.set (.string ⟨#[98, 121]⟩) (.string ⟨#[]⟩) (.slice none 0 0)
 exact bodyPost_ret (v := .tuple #[.agg #[.string ⟨#[98, 121]⟩, .string ⟨#[]⟩, .slice none 0 0], .bool (!false)]) (by simp [results, Tryz.results91, go_sem, Y.c0, Y.c1, Y.c2]) rfl
  (giveN_ret (b := false) (fun _ => RIn.leafN _ _ ⟨#[98, 121]⟩ ⟨#[]⟩) B3.out R3.out hrl hql hal)
end
section
variable {r : Nat} {m : Int} {A : Option Addr} {cap : Nat} {l : List W} {qb qa : Nat}
theorem named_no {L : List V} {o : List UInt8} {el : Nat → Res} {i : Nat} (h : nmOk L i = false) : namedP L o el i = (zeroN, i, true) := by unfold namedP; rw [h]; rfl
theorem named_noeq {L : List V} {o : List UInt8} {el : Nat → Res} {i : Nat} (h : nmOk L i = true) (h1 : isW L (i + 1) false [61] = false) : namedP L o el i = (zeroN, i + 1, true) := by unfold namedP; rw [h, h1]; rfl
theorem named_yes {L : List V} {o : List UInt8} {el : Nat → Res} {i : Nat} (h : nmOk L i = true) (h1 : isW L (i + 1) false [61] = true) : namedP L o el i = (.mk o (txt L i) [(el (i + 2)).1], (el (i + 2)).2) := by unfold namedP; rw [h, h1]; rfl
theorem nameP_no {L : List V} {o : List UInt8} {i : Nat} (h : nmOk L i = false) : nameP L o i = (zeroN, i, true) := by unfold nameP; rw [h]; rfl
theorem nameP_yes {L : List V} {o : List UInt8} {i : Nat} (h : nmOk L i = true) : nameP L o i = (.mk o (txt L i) [], i + 1, false) := by unfold nameP; rw [h]; rfl
theorem RIn.kidded {w : World} {S : Nat → Prop} {o t : List UInt8} {op tx : ByteArray} {X Y : Option Addr} {n k n' k' g : Nat} {op' tx' : ByteArray} {T : Nod} (h : RIn w S (.mk o t []) (op, tx, X, n, k)) (hT : RIn w S T (op', tx', Y, n', k')) (hb : NBox w g (.string op') (.string tx') (.slice Y n' k')) (hg : S g) : RIn w S (.mk o t [T]) (op, tx, some ⟨g, 0, none⟩, 1, 1) := by
 obtain ⟨e1, e2, -, -⟩ := h.texts
 dsimp only [Nod.op, Nod.tx] at e1 e2
 subst e1 e2
 have := RIn.made 1 ⟨o.toArray⟩ ⟨t.toArray⟩ (nat_box hb hg) (RAll.one hT) (by simp) (by simp)
 exact this
theorem pnamed_any (hg : Good l) (o : ByteArray) (fn : Nat) (en : ∀ args w, (callFunc fn args).run Tryz.prog w = .ok (.enter fn args) w) (el : Nat → Res) (i : Nat) (w : World) (h : Rq w r m A cap l qb qa i) (hi : i ≤ l.length)
  (HP : i + 2 ≤ l.length → ∀ w1, Rq w1 r m A cap l qb qa (i + 2) → Calls Tryz.prog fn #[.pointer (some ⟨r, 0, none⟩)] w1 (GiveN r m A cap l qb qa w1 (el (i + 2)))) :
  Calls Tryz.prog 86 #[.pointer (some ⟨r, 0, none⟩), .string o, .func (.func fn) #[] #[]] w (GiveN r m A cap l qb qa w (namedP (bare l) o.data.toList el i)) := by
 have HC := hid (fun w0 (h0 : Rq w0 r m A cap l qb qa i) => pname_any hg o i w0 h0 hi)
 have hll := hg.len
 have HR := hid h
 have hrl := h.lt
 have hql := h.ltq
 have hal := h.lta
 cases hnm : nmOk (bare l) i with
 | false =>
  rw [named_no hnm]
  rw [nameP_no hnm] at HC
  clear h HP hg hnm
  go_enter Tryz.func86, Tryz.ntmps86
  obtain ⟨w0, hw0, hz0, N0, B0⟩ := made0 w r
  have R0 := hid (show Rq w0 r m A cap l qb qa i by rw [← hw0]; exact HR.out.alloc _)
  go_wp2_with fail
  try rw [hw0]
  refine (HC.out _ R0.out).mono ?_
  rintro e w2 ⟨op, tx, X, n, k, rfl, hn1, hb1, hr1⟩
  dsimp only at hn1 hr1
  have z2 := hb1.size
  obtain ⟨w3, hw3⟩ : ∃ w3, w2.alloc (.cells #[.string op, .string tx, .slice X n k] 25) = w3 := ⟨_, rfl⟩
  have B3 := hid (show But w w3 r by rw [← hw3]; exact (B0.out.trans hb1).alloc _)
  have R3 := hid (show Rq w3 r m A cap l qb qa i by rw [← hw3]; exact hr1.alloc _)
  have N3 := hid (show NBox w3 w.heap.size (.string ⟨#[]⟩) (.string ⟨#[]⟩) (.slice none 0 0) by rw [← hw3]; exact (N0.out.but (by omega) hb1).alloc _)
  have V3 := hid (show NBox w3 w2.heap.size (.string op) (.string tx) (.slice X n k) by rw [← hw3]; exact NBox.fresh _ _ _ _ _)
  have HW3 := hid hw3
  clear hb1 hr1 hn1 hw3
  go_upto_region 2 with fail
  rw [HW3.out]
  obtain ⟨x0, x1, x2, xf⟩ := N3.out
  obtain ⟨v0, v1, v2, vf⟩ := V3.out
  have zn := N3.out.lt
  have zv := V3.out.lt
  go_wp2
  have Y := N3.out.set (.string op) (.string tx) (.slice X n k)
  exact bodyPost_ret (v := .tuple #[.agg #[.string op, .string tx, .slice X n k], .bool (!true)]) (by simp [results, Tryz.results86, go_sem, Y.c0, Y.c1, Y.c2]) rfl
   (giveN_ret (b := true) (fun h => (by cases h)) B3.out R3.out hrl hql hal)
 | true =>
  have hil : i + 1 ≤ l.length := by have := (isK_lt (Bool.and_eq_true _ _ ▸ hnm).1).1; rw [bare_length] at this; exact this
  obtain ⟨c, hc⟩ : ∃ c, isW (bare l) (i + 1) false [61] = c := ⟨_, rfl⟩
  have HT := hid (fun w0 (h0 : Rq w0 r m A cap l qb qa (i + 1)) => ptake_any (i + 1) ⟨#[61]⟩ w0 h0 hil hll (by decide) c hc)
  rw [nameP_yes hnm] at HC
  obtain ⟨txi, htxi⟩ : ∃ txi, txt (bare l) i = txi := ⟨_, rfl⟩
  rw [htxi] at HC
  cases c with
  | false =>
   rw [named_noeq hnm hc]
   clear h HP hg hnm hc
   go_enter Tryz.func86, Tryz.ntmps86
   obtain ⟨w0, hw0, hz0, N0, B0⟩ := made0 w r
   have R0 := hid (show Rq w0 r m A cap l qb qa i by rw [← hw0]; exact HR.out.alloc _)
   go_wp2_with fail
   try rw [hw0]
   refine (HC.out _ R0.out).mono ?_
   rintro e w2 ⟨op, tx, X, n, k, rfl, hn1, hb1, hr1⟩
   dsimp only at hn1 hr1
   have z2 := hb1.size
   obtain ⟨w3, hw3⟩ : ∃ w3, w2.alloc (.cells #[.string op, .string tx, .slice X n k] 25) = w3 := ⟨_, rfl⟩
   have z3 : w3.heap.size = w2.heap.size + 1 := by rw [← hw3]; simp
   have B3 := hid (show But w w3 r by rw [← hw3]; exact (B0.out.trans hb1).alloc _)
   have R3 := hid (show Rq w3 r m A cap l qb qa (i + 1) by rw [← hw3]; exact hr1.alloc _)
   have N3 := hid (show NBox w3 w.heap.size (.string ⟨#[]⟩) (.string ⟨#[]⟩) (.slice none 0 0) by rw [← hw3]; exact (N0.out.but (by omega) hb1).alloc _)
   have V3 := hid (show NBox w3 w2.heap.size (.string op) (.string tx) (.slice X n k) by rw [← hw3]; exact NBox.fresh _ _ _ _ _)
   have HW3 := hid hw3
   have hr2 : r < w2.heap.size := hr1.lt
   clear hb1 hr1 hn1 hw3
   go_upto_region 2 with fail
   rw [HW3.out]
   go_wp2_with fail
   refine (HT.out _ R3.out).mono ?_
   rintro e w4 ⟨rfl, hb4, hr4⟩
   rw [if_neg (by simp)] at hr4
   have z4 := hb4.size
   have N4 := hid (N3.out.but (by omega) hb4)
   have V4 := hid (V3.out.but (by omega) hb4)
   have B4 := hid (B3.out.trans hb4)
   have R4 := hid hr4
   clear hb4 hr4
   obtain ⟨x0, x1, x2, xf⟩ := N4.out
   obtain ⟨v0, v1, v2, vf⟩ := V4.out
   have zn := N4.out.lt
   have zv := V4.out.lt
   go_wp2
   have Y := N4.out.set (.string op) (.string tx) (.slice X n k)
   exact bodyPost_ret (v := .tuple #[.agg #[.string op, .string tx, .slice X n k], .bool (!true)]) (by simp [results, Tryz.results86, go_sem, Y.c0, Y.c1, Y.c2]) rfl
    (giveN_ret (b := true) (fun h => (by cases h)) B4.out R4.out hrl hql hal)
  | true =>
   have hil2 : i + 2 ≤ l.length := by have := isW_lt hc; rw [bare_length] at this; exact this
   have HPP := hid (HP hil2)
   rw [named_yes hnm hc, htxi]
   obtain ⟨q, hq⟩ : ∃ q, el (i + 2) = q := ⟨_, rfl⟩
   obtain ⟨T, j, b⟩ := q
   rw [hq] at HPP
   rw [hq]
   clear h HP hg hnm hc hq
   go_enter Tryz.func86, Tryz.ntmps86
   obtain ⟨w0, hw0, hz0, N0, B0⟩ := made0 w r
   have R0 := hid (show Rq w0 r m A cap l qb qa i by rw [← hw0]; exact HR.out.alloc _)
   go_wp2_with fail
   try rw [hw0]
   refine (HC.out _ R0.out).mono ?_
   rintro e w2 ⟨op, tx, X, n, k, rfl, hn1, hb1, hr1⟩
   dsimp only at hn1 hr1
   have z2 := hb1.size
   obtain ⟨w3, hw3⟩ : ∃ w3, w2.alloc (.cells #[.string op, .string tx, .slice X n k] 25) = w3 := ⟨_, rfl⟩
   have z3 : w3.heap.size = w2.heap.size + 1 := by rw [← hw3]; simp
   have B3 := hid (show But w w3 r by rw [← hw3]; exact (B0.out.trans hb1).alloc _)
   have R3 := hid (show Rq w3 r m A cap l qb qa (i + 1) by rw [← hw3]; exact hr1.alloc _)
   have N3 := hid (show NBox w3 w.heap.size (.string ⟨#[]⟩) (.string ⟨#[]⟩) (.slice none 0 0) by rw [← hw3]; exact (N0.out.but (by omega) hb1).alloc _)
   have V3 := hid (show NBox w3 w2.heap.size (.string op) (.string tx) (.slice X n k) by rw [← hw3]; exact NBox.fresh _ _ _ _ _)
   have I3 := hid (show RIn w3 (New w0 w2) (.mk o.data.toList txi []) (op, tx, X, n, k) by rw [← hw3]; exact (hn1 (by first | rfl | trivial)).alloc (fun g hg => hg.2) _)
   have HW3 := hid hw3
   have hr2 : r < w2.heap.size := hr1.lt
   clear hb1 hr1 hn1 hw3
   go_upto_region 2 with fail
   rw [HW3.out]
   go_wp2_with fail
   refine (HT.out _ R3.out).mono ?_
   rintro e w4 ⟨rfl, hb4, hr4⟩
   rw [if_pos (by simp)] at hr4
   have z4 := hb4.size
   have N4 := hid (N3.out.but (by omega) hb4)
   have V4 := hid (V3.out.but (by omega) hb4)
   have I4 := hid (I3.out.but (fun g hg => ⟨by have := hg.2; omega, by have := hg.1; omega⟩) hb4)
   have B4 := hid (B3.out.trans hb4)
   have R4 := hid hr4
   clear hb4 hr4
   go_wp2_with fail
   refine (HPP.out _ R4.out).mono ?_
   rintro e w5 ⟨op5, tx5, X5, n5, k5, rfl, hn5, hb5, hr5⟩
   dsimp only at hn5 hr5
   have z5 := hb5.size
   have N5 := hid (N4.out.but (by omega) hb5)
   have V5 := hid (V4.out.but (by omega) hb5)
   have I5 := hid (I4.out.but (fun g hg => ⟨by have := hg.2; omega, by have := hg.1; omega⟩) hb5)
   have B5 := hid (B4.out.trans hb5)
   have R5 := hid hr5
   have J5 := hid hn5
   clear hb5 hr5 hn5
   obtain ⟨w6, hw6⟩ : ∃ w6, w5.alloc (.cells #[.string op5, .string tx5, .slice X5 n5 k5] 25) = w6 := ⟨_, rfl⟩
   have z6 : w6.heap.size = w5.heap.size + 1 := by rw [← hw6]; simp
   have E6 := hid (show NBox w6 w5.heap.size (.string op5) (.string tx5) (.slice X5 n5 k5) by rw [← hw6]; exact NBox.fresh _ _ _ _ _)
   have HW6 := hid hw6
   go_upto_region 5 with fail
   try rw [HW6.out]
   obtain ⟨w7, hw7⟩ : ∃ w7, w6.alloc (.cells #[.string op5, .string tx5, .slice X5 n5 k5] 25) = w7 := ⟨_, rfl⟩
   have z7 : w7.heap.size = w5.heap.size + 2 := by rw [← hw7]; simp [z6]
   have V7 := hid (show NBox w7 w2.heap.size (.string op) (.string tx) (.slice X n k) by rw [← hw7, ← hw6]; exact (V5.out.alloc _).alloc _)
   obtain ⟨w8, hw8⟩ : ∃ w8, w7.setCell ⟨w2.heap.size, 2, none⟩ (.slice (some ⟨w5.heap.size + 1, 0, none⟩) 1 1) = w8 := ⟨_, rfl⟩
   have z8 : w8.heap.size = w5.heap.size + 2 := by rw [← hw8]; simp [z7]
   have V8 := hid (show NBox w8 w2.heap.size (.string op) (.string tx) (.slice (some ⟨w5.heap.size + 1, 0, none⟩) 1 1) by rw [← hw8]; exact V7.out.kid _)
   have N8 := hid (show NBox w8 w.heap.size (.string ⟨#[]⟩) (.string ⟨#[]⟩) (.slice none 0 0) by rw [← hw8, ← hw7, ← hw6]; exact ((N5.out.alloc _).alloc _).far _ (by show w2.heap.size ≠ _; omega) _)
   have B8 := hid (show But w w8 r by rw [← hw8, ← hw7, ← hw6]; exact ((B5.out.alloc _).alloc _).new _ (by show w.heap.size ≤ w2.heap.size; omega) _)
   have R8 := hid (show Rq w8 r m A cap l qb qa j by rw [← hw8, ← hw7, ← hw6]; exact ((R5.out.alloc _).alloc _).new _ (by show r < w2.heap.size; omega) (by show w2.heap.size ≠ qb; omega) (by show w2.heap.size ≠ qa; omega) _)
   have I8 := hid (show b = false → RIn w8 (fun g => w.heap.size < g ∧ g < w8.heap.size) (.mk o.data.toList txi [T]) (op, tx, some ⟨w5.heap.size + 1, 0, none⟩, 1, 1) by
    intro e
    have h1 : RIn w8 (fun g => w.heap.size < g ∧ g < w8.heap.size) (.mk o.data.toList txi []) (op, tx, X, n, k) := by
     rw [← hw8, ← hw7, ← hw6]
     exact (((I5.out.alloc (fun g hg => by have := hg.2; omega) _).alloc (fun g hg => by have := hg.2; simp; omega) _).setCell _ (fun hg => by have := hg.2; dsimp only at this; omega) _).imp (fun g hg => ⟨by have := hg.1; omega, by have := hg.2; simp; omega⟩)
    have h2 : RIn w8 (fun g => w.heap.size < g ∧ g < w8.heap.size) T (op5, tx5, X5, n5, k5) := by
     rw [← hw8, ← hw7, ← hw6]
     exact ((((J5.out e).alloc (fun g hg => hg.2) _).alloc (fun g hg => by have := hg.2; simp; omega) _).setCell _ (fun hg => by have := hg.1; dsimp only at this; omega) _).imp (fun g hg => ⟨by have := hg.1; omega, by have := hg.2; simp; omega⟩)
    have h3 : NBox w8 (w5.heap.size + 1) (.string op5) (.string tx5) (.slice X5 n5 k5) := by
     have h4 := NBox.fresh w6 (.string op5) (.string tx5) (.slice X5 n5 k5) 25
     rw [z6, hw7] at h4
     rw [← hw8]
     exact h4.far _ (by show w2.heap.size ≠ _; omega) _
    exact h1.kidded h2 h3 ⟨by omega, by omega⟩)
   obtain ⟨e0, e1, e2, ef⟩ := E6.out
   have V6 := hid (show NBox w6 w2.heap.size (.string op) (.string tx) (.slice X n k) by rw [← hw6]; exact V5.out.alloc _)
   have v0 := V7.out.c0
   have v1 := V7.out.c1
   have v2 := V7.out.c2
   have vf := V7.out.fr 2
   rw [← hw7] at v0 v1 v2 vf
   have HW7 := hid hw7
   have HW8 := hid hw8
   have zv6 := V6.out.lt
   clear hw6 hw7 hw8
   go_upto_region 6 with fail
   rw [HW7.out]
   rw [HW8.out]
   clear v0 v1 v2 vf e0 e1 e2 ef
   obtain ⟨x0, x1, x2, xf⟩ := N8.out
   obtain ⟨v0, v1, v2, vf⟩ := V8.out
   have zn := N8.out.lt
   have zv := V8.out.lt
   obtain ⟨qq, hqq⟩ : ∃ qq, (!b) = qq := ⟨_, rfl⟩
   go_wp2
   have Y := N8.out.set (.string op) (.string tx) (.slice (some ⟨w5.heap.size + 1, 0, none⟩) 1 1)
   exact bodyPost_ret (v := .tuple #[.agg #[.string op, .string tx, .slice (some ⟨w5.heap.size + 1, 0, none⟩) 1 1], .bool (!b)]) (by simp [results, Tryz.results86, go_sem, Y.c0, Y.c1, Y.c2, hqq]) rfl
    (giveN_ret I8.out B8.out R8.out hrl hql hal)
end
theorem RIn.bare {w w' : World} {S S' : Nat → Prop} {o t : List UInt8} {x : NV} (h : RIn w S (.mk o t []) x) : RIn w' S' (.mk o t []) x := by
 cases h with
 | mk op tx ks X cap l hl hb hc hat hks =>
  exact .mk o t [] X cap [] rfl (by decide) (Nat.zero_le _) (fun i h => absurd h (Nat.not_lt_zero _)) (fun i h => absurd h (Nat.not_lt_zero _))
section
variable {r : Nat} {m : Int} {A : Option Addr} {cap : Nat} {l : List W} {qb qa : Nat}
def BYI (r : Nat) (m : Int) (A : Option Addr) (cap : Nat) (l : List W) (qb qa : Nat) (R : List Nod × Nat) (w wr : World) : Prop :=
 ∃ (f j : Nat) (ks : List Nod) (xs : List NV) (X : Option Addr) (cp : Nat), NBox wr w.heap.size (.string ⟨#[]⟩) (.string ⟨#[]⟩) (.slice none 0 0) ∧ NBox wr (w.heap.size + 1) (.string ⟨#[98, 121]⟩) (.string ⟨#[]⟩) (.slice X xs.length cp) ∧ wr.ownsRow (w.heap.size + 2) 25 3 (.slice X xs.length cp) xs.length (flatC nc xs) ∧ RAll wr (fun _ => False) ks xs ∧
  j ≤ l.length ∧ l.length - j < f ∧ ks.length ≤ j ∧ Hid (R = (ks ++ (namesP (Code.bare l) f j).1, (namesP (Code.bare l) f j).2)) ∧ But w wr r ∧ Rq wr r m A cap l qb qa j ∧ (ks.length = 0 → nmOk (Code.bare l) j = true)
theorem pby_none (hg : Good l) (i : Nat) (w : World) (h : Rq w r m A cap l qb qa i) (hi : i ≤ l.length) (hk : (wd l i).1 = 0) (ht : (wd l i).2.1 = sBy) (hil : i < l.length) (hm : isW (Code.bare l) (i + 1) false [61] = false) (hn : nmOk (Code.bare l) (i + 1) = false) :
  Calls Tryz.prog 91 #[.pointer (some ⟨r, 0, none⟩)] w (GiveN r m A cap l qb qa w (zeroN, i + 1, true)) := by
 have hll := hg.len
 have HWD := hid (fun w0 (h0 : Rq w0 r m A cap l qb qa i) => pword_any i 0 w0 h0 hi hll (by decide))
 rw [Nat.add_zero] at HWD
 unfold wv at HWD
 have HMK := hid (fun w0 (h0 : Rq w0 r m A cap l qb qa i) => pmark_any i 1 ⟨#[61]⟩ w0 h0 hi hll (by decide) (by decide) false hm)
 obtain ⟨x, hx⟩ : ∃ x, wd l i = x := ⟨_, rfl⟩
 rw [hx] at HWD hk ht
 obtain ⟨wk, wt, wp⟩ := x
 dsimp only at HWD hk ht
 obtain ⟨T, hT⟩ : ∃ T : ByteArray, ⟨wt.toArray⟩ = T := ⟨_, rfl⟩
 obtain rfl : wt = T.data.toList := by rw [← hT]
 rw [hT] at HWD
 have hfd0 := fun w0 => field0 wk wp T w0
 have hfd1 := fun w0 => field1 wk wp T w0
 subst hk
 obtain rfl : T = ⟨#[98, 121]⟩ := by rw [← Lib.mk_data T, ht]; rfl
 have f2 : ((⟨#[98, 121]⟩ : ByteArray).toList == [98, 121]) = true := by rw [ByteArray.toList_eq]; rfl
 have f3 : ((⟨#[98, 121]⟩ : ByteArray).toList != [98, 121]) = false := by simp [bne, f2]
 have HR := hid h
 have hrl := h.lt
 have hql := h.ltq
 have hal := h.lta
 have HCL := hid (fun w0 (h0 : Rq w0 r m A cap l qb qa (i + 1)) => pcolumn_any hg (i + 1) w0 h0 hil)
 rw [nameP_no hn] at HCL
 clear h hx hT hg ht hm hn
 go_enter Tryz.func91, Tryz.ntmps91
 obtain ⟨wa, hwa⟩ : ∃ wa, w.alloc (.cells #[.string ⟨#[]⟩, .string ⟨#[]⟩, .slice none 0 0] 25) = wa := ⟨_, rfl⟩
 obtain ⟨w0, hw0⟩ : ∃ w0, wa.alloc (.cells #[.string ⟨#[98, 121]⟩, .string ⟨#[]⟩, .slice none 0 0] 25) = w0 := ⟨_, rfl⟩
 have hza : wa.heap.size = w.heap.size + 1 := by rw [← hwa]; simp
 have hz0 : w0.heap.size = w.heap.size + 2 := by rw [← hw0, ← hwa]; simp
 have N0 := hid (show NBox w0 w.heap.size (.string ⟨#[]⟩) (.string ⟨#[]⟩) (.slice none 0 0) by rw [← hw0, ← hwa]; exact (NBox.fresh _ _ _ _ _).alloc _)
 have M0 := hid (show NBox w0 (w.heap.size + 1) (.string ⟨#[98, 121]⟩) (.string ⟨#[]⟩) (.slice none 0 0) by rw [← hw0, ← hza]; exact NBox.fresh _ _ _ _ _)
 have R0 := hid (show Rq w0 r m A cap l qb qa i by rw [← hw0, ← hwa]; exact (HR.out.alloc _).alloc _)
 have B0 := hid (show But w w0 r by rw [← hw0, ← hwa]; exact ((But.refl w r).alloc _).alloc _)
 rw [← hwa] at hw0
 have HW0 := hid hw0
 clear hwa hza hw0 wa
 go_upto_region 2 with fail
 rw [HW0.out]
 go_wp2_with fail
 refine (HWD.out _ R0.out).mono ?_
 rintro e w1 ⟨rfl, hb1⟩
 have zb1 := hb1.size
 have N1 := hid (N0.out.below hb1)
 have M1 := hid (M0.out.below hb1)
 have R1 := hid (R0.out.below hb1)
 have B1 := hid (B0.out.next hb1)
 clear hb1
 go_wp2_with fail
 refine (HWD.out _ R1.out).mono ?_
 rintro e w2 ⟨rfl, hb2⟩
 have zb2 := hb2.size
 have N2 := hid (N1.out.below hb2)
 have M2 := hid (M1.out.below hb2)
 have R2 := hid (R1.out.below hb2)
 have B2 := hid (B1.out.next hb2)
 clear hb2
 go_wp2_with fail
 refine (HMK.out _ R2.out).mono ?_
 rintro e w3 ⟨rfl, hb3⟩
 have zb3 := hb3.size
 have N3 := hid (N2.out.below hb3)
 have M3 := hid (M2.out.below hb3)
 have R3 := hid (R2.out.below hb3)
 have B3 := hid (B2.out.next hb3)
 clear hb3
 have c1 := R3.out.rd.c1
 have f1 := R3.out.rd.fr 1
 have zr3 := R3.out.lt
 obtain ⟨i1, hi1⟩ : ∃ i1, i + 1 = i1 := ⟨_, rfl⟩
 have e2 : IntKind.i64.wrap ((i : Int) + 1) = (i1 : Int) := by rw [IntKind.wrap_i64]; omega
 obtain ⟨w4, hw4⟩ : ∃ w4, w3.setCell ⟨r, 1, none⟩ (.int .i64 (i1 : Int)) = w4 := ⟨_, rfl⟩
 have z4 : w4.heap.size = w3.heap.size := by rw [← hw4]; simp
 have R4 := hid (show Rq w4 r m A cap l qb qa i1 by rw [← hw4]; exact R3.out.at i1)
 have B4 := hid (show But w w4 r by rw [← hw4]; exact B3.out.setCell 1 _)
 have N4 := hid (show NBox w4 w.heap.size (.string ⟨#[]⟩) (.string ⟨#[]⟩) (.slice none 0 0) by rw [← hw4]; exact N3.out.far _ (by show r ≠ _; omega) _)
 have M4 := hid (show NBox w4 (w.heap.size + 1) (.string ⟨#[98, 121]⟩) (.string ⟨#[]⟩) (.slice none 0 0) by rw [← hw4]; exact M3.out.far _ (by show r ≠ _; omega) _)
 have HW4 := hid hw4
 have HI1 := hid hi1
 clear hw4 hi1
 go_wp2
 rw [HW4.out]
 clear c1 f1
 go_loopw [6] (fun _ wr => NBox wr w.heap.size (.string ⟨#[]⟩) (.string ⟨#[]⟩) (.slice none 0 0) ∧ NBox wr (w.heap.size + 1) (.string ⟨#[98, 121]⟩) (.string ⟨#[]⟩) (.slice none 0 0) ∧ But w wr r ∧ Rq wr r m A cap l qb qa i1) (fun _ _ => 0)
 case atStart => exact ⟨N4.out, M4.out, B4.out, R4.out⟩
 case round =>
  obtain ⟨N5', M5', B5', R5'⟩ := hrel
  have N5 := hid N5'
  have M5 := hid M5'
  have B5 := hid B5'
  have R5 := hid R5'
  have y2 := M5'.c2
  have yf := M5'.fr 2
  have zm5 := M5'.lt
  have zr5 := R5'.lt
  have zb5 := B5'.size
  rw [← HI1.out] at R5
  clear N5' M5' B5' R5'
  go_wp2_with fail
  refine (HCL.out _ R5.out).mono ?_
  rintro e w6 ⟨op, tx, Y, n, c6, rfl, hn6, hb6, hr6⟩
  dsimp only at hn6 hr6
  have zb6 := hb6.size
  obtain ⟨w7, hw7⟩ : ∃ w7, w6.alloc (.cells #[.string op, .string tx, .slice Y n c6] 25) = w7 := ⟨_, rfl⟩
  have N7 := hid (show NBox w7 w.heap.size (.string ⟨#[]⟩) (.string ⟨#[]⟩) (.slice none 0 0) by rw [← hw7]; exact (N5.out.but (by omega) hb6).alloc _)
  have M7 := hid (show NBox w7 (w.heap.size + 1) (.string ⟨#[98, 121]⟩) (.string ⟨#[]⟩) (.slice none 0 0) by rw [← hw7]; exact (M5.out.but (by omega) hb6).alloc _)
  have B7 := hid (show But w w7 r by rw [← hw7]; exact (B5.out.trans hb6).alloc _)
  have R7 := hid (show Rq w7 r m A cap l qb qa (i + 1) by rw [← hw7]; exact hr6.alloc _)
  have HW7 := hid hw7
  clear hb6 hr6 hn6 hw7 y2 yf
  go_upto_region 7 with fail
  rw [HW7.out]
  obtain ⟨x0, x1, x2, xf⟩ := N7.out
  obtain ⟨v0, v1, v2, vf⟩ := M7.out
  have zn := N7.out.lt
  have zv := M7.out.lt
  go_wp2
  have Y := N7.out.set (.string ⟨#[98, 121]⟩) (.string ⟨#[]⟩) (.slice none 0 0)
  exact bodyPost_ret (v := .tuple #[.agg #[.string ⟨#[98, 121]⟩, .string ⟨#[]⟩, .slice none 0 0], .bool (!true)]) (by simp [results, Tryz.results91, go_sem, Y.c0, Y.c1, Y.c2]) rfl
   (giveN_ret (b := true) (fun h => (by cases h)) B7.out R7.out hrl hql hal)
theorem pby_names (hg : Good l) (i : Nat) (w : World) (h : Rq w r m A cap l qb qa i) (hi : i ≤ l.length) (hk : (wd l i).1 = 0) (ht : (wd l i).2.1 = sBy) (hil : i < l.length) (hm : isW (Code.bare l) (i + 1) false [61] = false) (hn : nmOk (Code.bare l) (i + 1) = true) (res : Res) (hres : (if isW (Code.bare l) (namesP (Code.bare l) ((Code.bare l).length + 1) (i + 1)).2 false [44] = true then ((Nod.mk sBy [] (namesP (Code.bare l) ((Code.bare l).length + 1) (i + 1)).1, (namesP (Code.bare l) ((Code.bare l).length + 1) (i + 1)).2 + 1, false) : Res) else (zeroN, (namesP (Code.bare l) ((Code.bare l).length + 1) (i + 1)).2, true)) = res) :
  Calls Tryz.prog 91 #[.pointer (some ⟨r, 0, none⟩)] w (GiveN r m A cap l qb qa w res) := by
 have hll := hg.len
 have HWD := hid (fun w0 (h0 : Rq w0 r m A cap l qb qa i) => pword_any i 0 w0 h0 hi hll (by decide))
 rw [Nat.add_zero] at HWD
 unfold wv at HWD
 have HMK := hid (fun w0 (h0 : Rq w0 r m A cap l qb qa i) => pmark_any i 1 ⟨#[61]⟩ w0 h0 hi hll (by decide) (by decide) false hm)
 obtain ⟨x, hx⟩ : ∃ x, wd l i = x := ⟨_, rfl⟩
 rw [hx] at HWD hk ht
 obtain ⟨wk, wt, wp⟩ := x
 dsimp only at HWD hk ht
 obtain ⟨T, hT⟩ : ∃ T : ByteArray, ⟨wt.toArray⟩ = T := ⟨_, rfl⟩
 obtain rfl : wt = T.data.toList := by rw [← hT]
 rw [hT] at HWD
 have hfd0 := fun w0 => field0 wk wp T w0
 have hfd1 := fun w0 => field1 wk wp T w0
 subst hk
 obtain rfl : T = ⟨#[98, 121]⟩ := by rw [← Lib.mk_data T, ht]; rfl
 have f2 : ((⟨#[98, 121]⟩ : ByteArray).toList == [98, 121]) = true := by rw [ByteArray.toList_eq]; rfl
 have f3 : ((⟨#[98, 121]⟩ : ByteArray).toList != [98, 121]) = false := by simp [bne, f2]
 have HR := hid h
 have hrl := h.lt
 have hql := h.ltq
 have hal := h.lta
 obtain ⟨R, hR⟩ : ∃ R, namesP (Code.bare l) ((Code.bare l).length + 1) (i + 1) = R := ⟨_, rfl⟩
 rw [hR] at hres
 have HRS := hid hres
 have HRR := hid hR
 have HG9 := hid hg
 have HN1 := hid hn
 obtain ⟨zi, hi0, hz0', hz1, hz2⟩ := info_parts info_node
 clear h hx hT hg ht hm hn hres hR
 go_enter Tryz.func91, Tryz.ntmps91
 obtain ⟨wa, hwa⟩ : ∃ wa, w.alloc (.cells #[.string ⟨#[]⟩, .string ⟨#[]⟩, .slice none 0 0] 25) = wa := ⟨_, rfl⟩
 obtain ⟨w0, hw0⟩ : ∃ w0, wa.alloc (.cells #[.string ⟨#[98, 121]⟩, .string ⟨#[]⟩, .slice none 0 0] 25) = w0 := ⟨_, rfl⟩
 have hza : wa.heap.size = w.heap.size + 1 := by rw [← hwa]; simp
 have hz0 : w0.heap.size = w.heap.size + 2 := by rw [← hw0, ← hwa]; simp
 have N0 := hid (show NBox w0 w.heap.size (.string ⟨#[]⟩) (.string ⟨#[]⟩) (.slice none 0 0) by rw [← hw0, ← hwa]; exact (NBox.fresh _ _ _ _ _).alloc _)
 have M0 := hid (show NBox w0 (w.heap.size + 1) (.string ⟨#[98, 121]⟩) (.string ⟨#[]⟩) (.slice none 0 0) by rw [← hw0, ← hza]; exact NBox.fresh _ _ _ _ _)
 have R0 := hid (show Rq w0 r m A cap l qb qa i by rw [← hw0, ← hwa]; exact (HR.out.alloc _).alloc _)
 have B0 := hid (show But w w0 r by rw [← hw0, ← hwa]; exact ((But.refl w r).alloc _).alloc _)
 rw [← hwa] at hw0
 have HW0 := hid hw0
 clear hwa hza hw0 wa
 go_upto_region 2 with fail
 rw [HW0.out]
 go_wp2_with fail
 refine (HWD.out _ R0.out).mono ?_
 rintro e w1 ⟨rfl, hb1⟩
 have zb1 := hb1.size
 have N1 := hid (N0.out.below hb1)
 have M1 := hid (M0.out.below hb1)
 have R1 := hid (R0.out.below hb1)
 have B1 := hid (B0.out.next hb1)
 clear hb1
 go_wp2_with fail
 refine (HWD.out _ R1.out).mono ?_
 rintro e w2 ⟨rfl, hb2⟩
 have zb2 := hb2.size
 have N2 := hid (N1.out.below hb2)
 have M2 := hid (M1.out.below hb2)
 have R2 := hid (R1.out.below hb2)
 have B2 := hid (B1.out.next hb2)
 clear hb2
 go_wp2_with fail
 refine (HMK.out _ R2.out).mono ?_
 rintro e w3 ⟨rfl, hb3⟩
 have zb3 := hb3.size
 have N3 := hid (N2.out.below hb3)
 have M3 := hid (M2.out.below hb3)
 have R3 := hid (R2.out.below hb3)
 have B3 := hid (B2.out.next hb3)
 clear hb3
 have c1 := R3.out.rd.c1
 have f1 := R3.out.rd.fr 1
 have zr3 := R3.out.lt
 obtain ⟨i1, hi1⟩ : ∃ i1, i + 1 = i1 := ⟨_, rfl⟩
 have e2 : IntKind.i64.wrap ((i : Int) + 1) = (i1 : Int) := by rw [IntKind.wrap_i64]; omega
 obtain ⟨w4, hw4⟩ : ∃ w4, w3.setCell ⟨r, 1, none⟩ (.int .i64 (i1 : Int)) = w4 := ⟨_, rfl⟩
 have z4 : w4.heap.size = w3.heap.size := by rw [← hw4]; simp
 have R4 := hid (show Rq w4 r m A cap l qb qa i1 by rw [← hw4]; exact R3.out.at i1)
 have B4 := hid (show But w w4 r by rw [← hw4]; exact B3.out.setCell 1 _)
 have N4 := hid (show NBox w4 w.heap.size (.string ⟨#[]⟩) (.string ⟨#[]⟩) (.slice none 0 0) by rw [← hw4]; exact N3.out.far _ (by show r ≠ _; omega) _)
 have M4 := hid (show NBox w4 (w.heap.size + 1) (.string ⟨#[98, 121]⟩) (.string ⟨#[]⟩) (.slice none 0 0) by rw [← hw4]; exact M3.out.far _ (by show r ≠ _; omega) _)
 have HW4 := hid hw4
 have HI1 := hid hi1
 clear hw4 hi1
 go_wp2
 rw [HW4.out]
 clear c1 f1
 go_loopw [6] (fun _ wr => BYI r m A cap l qb qa R w wr) (fun _ wr => l.length - atOf wr r)
 case atStart =>
  have hi1 := HI1.out
  refine ⟨(Code.bare l).length + 1, i1, [], [], none, 0, N4.out, M4.out, World.ownsRow_nil _ _ _ _, RAll.nil _ _, by omega, by rw [bare_length]; omega, by simp, hid ?_, B4.out, R4.out, fun _ => by rw [← hi1]; exact HN1.out⟩
  rw [← HRR.out, hi1]
  rfl
 case round =>
  obtain ⟨f, j, ks, xs, X, cp, hn5, hm5, hown, hall, hj, hf, hkj, HE, hbut, hqr, hfst⟩ := hrel
  have N5 := hid hn5
  have HO := hid hown
  have HA := hid hall
  have HB := hid hbut
  have R5 := hid hqr
  have HAT := hid hqr.rd.atOf
  have zr5 := hqr.lt
  have zb5 := hbut.size
  have hks := hall.1
  obtain ⟨N, hN⟩ : ∃ N, xs.length = N := ⟨_, rfl⟩
  rw [hN] at hm5 HO
  have M5 := hid hm5
  have HKS := hid (show ks.length = N by omega)
  have HN := hid hN
  have HFS := hid hfst
  have hNj : N ≤ j := by omega
  obtain ⟨f', rfl⟩ : ∃ f', f = f' + 1 := ⟨f - 1, by omega⟩
  have y2 := hm5.c2
  have yf := hm5.fr 2
  have zm5 := hm5.lt
  have HWJ := hid (fun w0 (h0 : Rq w0 r m A cap l qb qa j) => pword_any j 0 w0 h0 hj hll (by decide))
  rw [Nat.add_zero] at HWJ
  have HCL := hid (fun w0 (h0 : Rq w0 r m A cap l qb qa j) => pcolumn_any HG9.out j w0 h0 hj)
  have HNM := hid (fun w0 (he : Env w0.heap.size m w0) => pisname_any (m := m) HG9.out j w0 he)
  clear hn5 hm5 hown hall hbut hqr hks hN hfst hkj
  obtain ⟨ok, hok⟩ : ∃ ok, nmOk (Code.bare l) j = ok := ⟨_, rfl⟩
  rw [hok] at HNM
  by_cases hN0 : N = 0
  ·have hok1 := HFS.out (by rw [HKS.out]; exact hN0)
   have hjl : j < l.length := by have := (isK_lt (Bool.and_eq_true _ _ ▸ hok1).1).1; rw [bare_length] at this; exact this
   have HE5 := hid (show R = (ks ++ [Nod.mk sCol (txt (Code.bare l) j) []] ++ (namesP (Code.bare l) f' (j + 1)).1, (namesP (Code.bare l) f' (j + 1)).2) by rw [HE.out, namesP, if_pos hok1]; simp)
   rw [nameP_yes hok1] at HCL
   have e0 : ((N : Int) == 0) = true := by simp [hN0]
   have e0n : (N == 0) = true := by simp [hN0]
   have HN0 := hid hN0
   clear hok hok1 hN0 HE
   go_wp2_with fail
   refine (HCL.out _ R5.out).mono ?_
   rintro e w6 ⟨op, tx, Y, n, c6, rfl, hn6, hb6, hr6⟩
   dsimp only at hn6 hr6
   have zb6 := hb6.size
   have N6 := hid (N5.out.but (by omega) hb6)
   have M6 := hid (M5.out.but (by omega) hb6)
   have O6 := hid (own_but HO.out hb6 (by omega))
   have B6 := hid (HB.out.trans hb6)
   have R6 := hid hr6
   have I6 := hid (hn6 (by first | rfl | trivial))
   clear hb6 hr6 hn6 y2 yf
   obtain ⟨w7, hw7⟩ : ∃ w7, w6.alloc (.cells #[.string op, .string tx, .slice Y n c6] 25) = w7 := ⟨_, rfl⟩
   have z7 : w7.heap.size = w6.heap.size + 1 := by rw [← hw7]; simp
   have N7 := hid (show NBox w7 w.heap.size (.string ⟨#[]⟩) (.string ⟨#[]⟩) (.slice none 0 0) by rw [← hw7]; exact N6.out.alloc _)
   have M7 := hid (show NBox w7 (w.heap.size + 1) (.string ⟨#[98, 121]⟩) (.string ⟨#[]⟩) (.slice X N cp) by rw [← hw7]; exact M6.out.alloc _)
   have O7 := hid (show w7.ownsRow (w.heap.size + 2) 25 3 (.slice X N cp) N (flatC nc xs) by rw [← hw7]; exact own_call O6.out (below_alloc _ _))
   have B7 := hid (show But w w7 r by rw [← hw7]; exact B6.out.alloc _)
   have R7 := hid (show Rq w7 r m A cap l qb qa (j + 1) by rw [← hw7]; exact R6.out.alloc _)
   have V7 := hid (show NBox w7 w6.heap.size (.string op) (.string tx) (.slice Y n c6) by rw [← hw7]; exact NBox.fresh _ _ _ _ _)
   have y2 := M7.out.c2
   obtain ⟨v0, v1, v2, vf⟩ := V7.out
   rw [← hw7] at y2 v0 v1 v2
   have HW7 := hid hw7
   clear hw7 vf
   go_wp2_with (at_builtin; rw [HW7.out]; refine wpList_append_lies _ rfl _ _ _ rfl (w.heap.size + 2) 25 zi _ 3 56 Tryz.underlying23 hi0 hz0' hz1 hz2 rfl (by omega) _ N (flatC nc xs) rfl ?ca ⟨w6.heap.size + 1, 0, none⟩ 1 1 [.string op, .string tx, .slice Y n c6] rfl rfl ?cn ?co (by omega) ?cm ?cb ?cs (w6.heap.size + 1 + 1) ?ch ?_)
   case ca => exact own_call O7.out (below_alloc _ _)
   case cn => have h := World.news_of_block (heap_alloc_new w7 (.cells #[.string op, .string tx, .slice Y n c6] 25)); rw [z7] at h; exact h
   case co => exact nc_one (op, tx, Y, n, c6)
   case cm => unfold maxLen; omega
   case cb => omega
   case cs => simp; omega
   case ch => simp [z7]
   intro gg cap9 w9 hown9 hgrow hat hlt9
   obtain ⟨w8, hw8⟩ : ∃ w8, w7.alloc (.cells #[.string op, .string tx, .slice Y n c6] 25) = w8 := ⟨_, rfl⟩
   have z8 : w8.heap.size = w6.heap.size + 1 + 1 := by rw [← hw8]; simp [z7]
   have BA := hid (show Below w7.heap.size w7 w8 by rw [← hw8]; exact below_alloc _ _)
   rw [hw8] at hgrow
   have hrow : ∀ k, (Value.slice X N cp).ownBlock = some k → w.heap.size + 2 ≤ k := fun k e => (O7.out.lt k e).1
   have hz9 := hgrow.size
   have N9 := hid ((N7.out.below BA.out).grown hgrow (fun e => by have := hrow _ e; omega))
   have M9 := hid ((M7.out.below BA.out).grown hgrow (fun e => by have := hrow _ e; omega))
   have B9 := hid ((B7.out.next BA.out).grown hgrow (fun k e => by have := hrow _ e; omega))
   have R9 := hid ((R7.out.below BA.out).under (B := w.heap.size) ⟨hgrow.os, hgrow.tape, hgrow.output, hgrow.size, fun k hk => hgrow.block k (by have := B7.out.size; omega) (fun e => by have := hrow _ e.symm; omega)⟩ hrl hql hal)
   have y2' := M9.out.c2
   have yf' := M9.out.fr 2
   have hsz := M9.out.lt
   have zwb : (w9.setCell ⟨w.heap.size + 1, 2, none⟩ (.slice (some ⟨gg, 0, none⟩) (N + 1) cap9)).heap.size = w9.heap.size := by simp
   have R10 := (R9.out.new ⟨w.heap.size + 1, 2, none⟩ (by show r < w.heap.size + 1; omega) (by show w.heap.size + 1 ≠ qb; omega) (by show w.heap.size + 1 ≠ qa; omega) (.slice (some ⟨gg, 0, none⟩) (N + 1) cap9))
   have IV := hid (show BYI r m A cap l qb qa R w (w9.setCell ⟨w.heap.size + 1, 2, none⟩ (.slice (some ⟨gg, 0, none⟩) (N + 1) cap9)) from by
    have hl1 : (xs ++ [(op, tx, Y, n, c6)]).length = N + 1 := by simp [HN.out]
    have hfl : flatC nc (xs ++ [(op, tx, Y, n, c6)]) = flatC nc xs ++ nc (op, tx, Y, n, c6) := flatC_snoc xs _
    refine ⟨f', j + 1, ks ++ [.mk sCol (txt (bare l) j) []], xs ++ [(op, tx, Y, n, c6)], some ⟨gg, 0, none⟩, cap9, N9.out.far _ (by show w.heap.size + 1 ≠ _; omega) _, by rw [hl1]; exact M9.out.kid _, by rw [hl1, hfl]; exact own_set hown9 _ (by show w.heap.size + 1 < _; omega) _, ?_, by omega, by omega, by rw [List.length_append, HKS.out]; simp; omega, HE5, B9.out.new _ (by show w.heap.size ≤ w.heap.size + 1; omega) _, R10, fun e => by rw [List.length_append] at e; simp at e⟩
    exact (HA.out.keep (fun g h => h) (fun p h => h.elim)).snoc I6.out.bare)
   have hms : l.length - atOf (w9.setCell ⟨w.heap.size + 1, 2, none⟩ (.slice (some ⟨gg, 0, none⟩) (N + 1) cap9)) r < l.length - atOf wr r := by
    rw [R10.rd.atOf, HAT.out]
    omega
   clear hgrow hat hown9 hlt9 R10
   go_wp2
   go_roundw
   case rel => exact IV.out
   case measure => exact hms
  ·have e0 : ((N : Int) == 0) = false := by simp; omega
   have e0n : (N == 0) = false := by simp; omega
   cases ok with
   | false =>
    obtain ⟨cc, hcc⟩ : ∃ cc, isW (Code.bare l) j false [44] = cc := ⟨_, rfl⟩
    have HTK := hid (fun w0 (h0 : Rq w0 r m A cap l qb qa j) => ptake_any j ⟨#[44]⟩ w0 h0 hj hll (by decide) cc hcc)
    have HCC := hid hcc
    clear hcc
    have HEE := hid (show R = (ks, j) by rw [HE.out, namesP, if_neg (by rw [hok]; decide)]; simp)
    clear HE
    go_wp2_with fail
    refine (HWJ.out _ R5.out).mono ?_
    rintro e w6 ⟨rfl, hb6⟩
    have zb6 := hb6.size
    have N6 := hid (N5.out.below hb6)
    have M6 := hid (M5.out.below hb6)
    have O6 := hid (own_call HO.out hb6)
    have B6 := hid (HB.out.next hb6)
    have R6 := hid (R5.out.below hb6)
    clear hb6 y2 yf
    go_wp2_with fail
    refine (HNM.out _ R6.out.rd.env).mono ?_
    rintro e w7 ⟨rfl, hb7⟩
    have zb7 := hb7.size
    have N7 := hid (N6.out.below hb7)
    have M7 := hid (M6.out.below hb7)
    have O7 := hid (own_call O6.out hb7)
    have B7 := hid (B6.out.next hb7)
    have R7 := hid (R6.out.below hb7)
    clear hb7
    obtain ⟨v0, v1, v2, vf⟩ := M7.out
    obtain ⟨x0, x1, x2, xf⟩ := N7.out
    have zn := N7.out.lt
    have zv := M7.out.lt
    go_upto_region 10 with fail
    refine wp_region_held_drew (S := fun w' => w'.cell? ⟨w.heap.size + 1, 0, none⟩ = some (.string ⟨#[98, 121]⟩) ∧ w'.cell? ⟨w.heap.size + 1, 1, none⟩ = some (.string ⟨#[]⟩) ∧ w'.cell? ⟨w.heap.size + 1, 2, none⟩ = some (.slice X N cp)) (by kernel_rfl) ⟨v0, v1, v2⟩ (fun hHeld => ?_)
    refine take1 (v := ?_) 0 53 rfl ?_ ?_; rotate_left; (intro w hSw; (try dsimp only at hSw); go_simp; try with_reducible rfl); (try simp only [Act.put, List.setIfInBounds_toArray, List.set_cons_zero, List.set_cons_succ])
    refine take1 (v := ?_) 1 54 rfl ?_ ?_; rotate_left; (intro w hSw; (try dsimp only at hSw); go_simp; try with_reducible rfl); (try simp only [Act.put, List.setIfInBounds_toArray, List.set_cons_zero, List.set_cons_succ])
    refine wpAnyH_ready (rs := [2]) (by kernel_rfl) (by simp) ?_
    refine AllReadyH.cons (o := ⟨some 55, _, _, _, _, _⟩) rfl (fun K hK => ?_) AllReadyH.nil
    go_simp
    refine (HTK.out _ (R7.out.below (Below.drew (Below.refl _ _)))).mono ?_
    rintro e w8 ⟨rfl, hb8, hr8⟩
    have zb8 : w7.heap.size ≤ w8.heap.size := hb8.size
    have M8 := hid ((M7.out.below (Below.drew (Below.refl _ _))).but (by omega) hb8)
    have N8 := hid ((N7.out.below (Below.drew (Below.refl _ _))).but (by omega) hb8)
    have O8 := hid (own_but (own_call O7.out (Below.drew (Below.refl _ _))) hb8 (by omega))
    have B8 := hid ((B7.out.next (Below.drew (Below.refl _ _))).trans hb8)
    have R8 := hid hr8
    refine hK.out _ _ ⟨M8.out.c0, M8.out.c1, M8.out.c2⟩ (fun hHeld2 => ?_)
    clear hK K hb8 hr8
    obtain ⟨y0, y1, y2, yf⟩ := N8.out
    have zn8 := N8.out.lt
    (try simp only [Act.put, List.setIfInBounds_toArray, List.set_cons_zero, List.set_cons_succ])
    have VV := ((M8.out.far ⟨w.heap.size, 0, none⟩ (by show w.heap.size ≠ _; omega) (.string ⟨#[98, 121]⟩)).far ⟨w.heap.size, 1, none⟩ (by show w.heap.size ≠ _; omega) (.string ⟨#[]⟩)).far ⟨w.heap.size, 2, none⟩ (by show w.heap.size ≠ _; omega) (.slice X N cp)
    refine wpAnyH_ready (rs := [3]) (by kernel_rfl) (by simp) ?_
    refine AllReadyH.cons (o := ⟨none, _, _, _, _, _⟩) rfl (fun K hK => ?_) AllReadyH.nil
    go_simp
    refine hK.out _ _ ⟨VV.c0, VV.c1, VV.c2⟩ (fun hHeld3 => ?_)
    clear hK K
    (try simp only [Act.put, List.setIfInBounds_toArray, List.set_cons_zero, List.set_cons_succ])
    refine take1 (v := ?_) 4 3 rfl ?_ ?_; rotate_left; (intro w hSw; (try dsimp only at hSw); go_simp; try with_reducible rfl); (try simp only [Act.put, List.setIfInBounds_toArray, List.set_cons_zero, List.set_cons_succ])
    refine wpAnyH_done (by kernel_rfl) ?_ _
    go_wp2
    have Y := N8.out.set (.string ⟨#[98, 121]⟩) (.string ⟨#[]⟩) (.slice X N cp)
    refine bodyPost_ret (v := .tuple #[.agg #[.string ⟨#[98, 121]⟩, .string ⟨#[]⟩, .slice X N cp], .bool cc]) (by simp [results, Tryz.results91, go_sem, Y.c0, Y.c1, Y.c2]) rfl ?_
    have R9 := R8.out
    have hres := HRS.out
    rw [HEE.out] at hres
    dsimp only at hres
    rw [HCC.out] at hres
    cases cc with
    | true =>
     rw [ift] at hres
     subst hres
     rw [if_pos (by simp)] at R9
     exact giveN_ret (b := false) (fun _ => by
      have hO8 := O8.out
      rw [← HN.out] at hO8
      obtain ⟨A', cap', e, hat, hcp⟩ := own_nat hO8
      injection e with e _ e2
      subst e e2
      have h1 := RIn.made cp ⟨#[98, 121]⟩ ⟨#[]⟩ (hat.keep (S' := fun k => w.heap.size < k ∧ k < w8.heap.size) (fun k hk => ⟨by have := hk.1; omega, hk.2⟩) (fun _ _ => rfl)) (HA.out.keep (S' := fun k => w.heap.size < k ∧ k < w8.heap.size) (fun _ h => h.elim) (fun _ h => h.elim)) (by rw [HKS.out]; omega) (by rw [← HA.out.1]; exact hcp)
      rw [HKS.out] at h1
      exact h1) B8.out R9 hrl hql hal
    | false =>
     rw [iff'] at hres
     subst hres
     rw [if_neg (by simp)] at R9
     exact giveN_ret (b := true) (fun h => (by cases h)) B8.out R9 hrl hql hal
   | true =>
    have hjl : j < l.length := by have := (isK_lt (Bool.and_eq_true _ _ ▸ hok).1).1; rw [bare_length] at this; exact this
    have HE5 := hid (show R = (ks ++ [Nod.mk sCol (txt (Code.bare l) j) []] ++ (namesP (Code.bare l) f' (j + 1)).1, (namesP (Code.bare l) f' (j + 1)).2) by rw [HE.out, namesP, if_pos hok]; simp)
    rw [nameP_yes hok] at HCL
    clear hok HE
    go_wp2_with fail
    refine (HWJ.out _ R5.out).mono ?_
    rintro e wb ⟨rfl, hb6⟩
    have zbb := hb6.size
    have Nb := hid (N5.out.below hb6)
    have Mb := hid (M5.out.below hb6)
    have Ob := hid (own_call HO.out hb6)
    have Bb := hid (HB.out.next hb6)
    have Rb := hid (R5.out.below hb6)
    clear hb6 y2 yf
    go_wp2_with fail
    refine (HNM.out _ Rb.out.rd.env).mono ?_
    rintro e wc ⟨rfl, hb7⟩
    have zbc := hb7.size
    have Nc := hid (Nb.out.below hb7)
    have Mc := hid (Mb.out.below hb7)
    have Oc := hid (own_call Ob.out hb7)
    have Bc := hid (Bb.out.next hb7)
    have Rc := hid (Rb.out.below hb7)
    clear hb7
    have y2 := Mc.out.c2
    have yf := Mc.out.fr 2
    go_wp2_with fail
    refine (HCL.out _ Rc.out).mono ?_
    rintro e w6 ⟨op, tx, Y, n, c6, rfl, hn6, hb6, hr6⟩
    dsimp only at hn6 hr6
    have zb6 := hb6.size
    have N6 := hid (Nc.out.but (by omega) hb6)
    have M6 := hid (Mc.out.but (by omega) hb6)
    have O6 := hid (own_but Oc.out hb6 (by omega))
    have B6 := hid (Bc.out.trans hb6)
    have R6 := hid hr6
    have I6 := hid (hn6 (by first | rfl | trivial))
    clear hb6 hr6 hn6 y2 yf
    obtain ⟨w7, hw7⟩ : ∃ w7, w6.alloc (.cells #[.string op, .string tx, .slice Y n c6] 25) = w7 := ⟨_, rfl⟩
    have z7 : w7.heap.size = w6.heap.size + 1 := by rw [← hw7]; simp
    have N7 := hid (show NBox w7 w.heap.size (.string ⟨#[]⟩) (.string ⟨#[]⟩) (.slice none 0 0) by rw [← hw7]; exact N6.out.alloc _)
    have M7 := hid (show NBox w7 (w.heap.size + 1) (.string ⟨#[98, 121]⟩) (.string ⟨#[]⟩) (.slice X N cp) by rw [← hw7]; exact M6.out.alloc _)
    have O7 := hid (show w7.ownsRow (w.heap.size + 2) 25 3 (.slice X N cp) N (flatC nc xs) by rw [← hw7]; exact own_call O6.out (below_alloc _ _))
    have B7 := hid (show But w w7 r by rw [← hw7]; exact B6.out.alloc _)
    have R7 := hid (show Rq w7 r m A cap l qb qa (j + 1) by rw [← hw7]; exact R6.out.alloc _)
    have V7 := hid (show NBox w7 w6.heap.size (.string op) (.string tx) (.slice Y n c6) by rw [← hw7]; exact NBox.fresh _ _ _ _ _)
    have y2 := M7.out.c2
    obtain ⟨v0, v1, v2, vf⟩ := V7.out
    rw [← hw7] at y2 v0 v1 v2
    have HW7 := hid hw7
    clear hw7 vf
    go_wp2_with (at_builtin; rw [HW7.out]; refine wpList_append_lies _ rfl _ _ _ rfl (w.heap.size + 2) 25 zi _ 3 56 Tryz.underlying23 hi0 hz0' hz1 hz2 rfl (by omega) _ N (flatC nc xs) rfl ?ca ⟨w6.heap.size + 1, 0, none⟩ 1 1 [.string op, .string tx, .slice Y n c6] rfl rfl ?cn ?co (by omega) ?cm ?cb ?cs (w6.heap.size + 1 + 1) ?ch ?_)
    case ca => exact own_call O7.out (below_alloc _ _)
    case cn => have h := World.news_of_block (heap_alloc_new w7 (.cells #[.string op, .string tx, .slice Y n c6] 25)); rw [z7] at h; exact h
    case co => exact nc_one (op, tx, Y, n, c6)
    case cm => unfold maxLen; omega
    case cb => omega
    case cs => simp; omega
    case ch => simp [z7]
    intro gg cap9 w9 hown9 hgrow hat hlt9
    obtain ⟨w8, hw8⟩ : ∃ w8, w7.alloc (.cells #[.string op, .string tx, .slice Y n c6] 25) = w8 := ⟨_, rfl⟩
    have z8 : w8.heap.size = w6.heap.size + 1 + 1 := by rw [← hw8]; simp [z7]
    have BA := hid (show Below w7.heap.size w7 w8 by rw [← hw8]; exact below_alloc _ _)
    rw [hw8] at hgrow
    have hrow : ∀ k, (Value.slice X N cp).ownBlock = some k → w.heap.size + 2 ≤ k := fun k e => (O7.out.lt k e).1
    have hz9 := hgrow.size
    have N9 := hid ((N7.out.below BA.out).grown hgrow (fun e => by have := hrow _ e; omega))
    have M9 := hid ((M7.out.below BA.out).grown hgrow (fun e => by have := hrow _ e; omega))
    have B9 := hid ((B7.out.next BA.out).grown hgrow (fun k e => by have := hrow _ e; omega))
    have R9 := hid ((R7.out.below BA.out).under (B := w.heap.size) ⟨hgrow.os, hgrow.tape, hgrow.output, hgrow.size, fun k hk => hgrow.block k (by have := B7.out.size; omega) (fun e => by have := hrow _ e.symm; omega)⟩ hrl hql hal)
    have y2' := M9.out.c2
    have yf' := M9.out.fr 2
    have hsz := M9.out.lt
    have zwb : (w9.setCell ⟨w.heap.size + 1, 2, none⟩ (.slice (some ⟨gg, 0, none⟩) (N + 1) cap9)).heap.size = w9.heap.size := by simp
    have R10 := (R9.out.new ⟨w.heap.size + 1, 2, none⟩ (by show r < w.heap.size + 1; omega) (by show w.heap.size + 1 ≠ qb; omega) (by show w.heap.size + 1 ≠ qa; omega) (.slice (some ⟨gg, 0, none⟩) (N + 1) cap9))
    have IV := hid (show BYI r m A cap l qb qa R w (w9.setCell ⟨w.heap.size + 1, 2, none⟩ (.slice (some ⟨gg, 0, none⟩) (N + 1) cap9)) from by
     have hl1 : (xs ++ [(op, tx, Y, n, c6)]).length = N + 1 := by simp [HN.out]
     have hfl : flatC nc (xs ++ [(op, tx, Y, n, c6)]) = flatC nc xs ++ nc (op, tx, Y, n, c6) := flatC_snoc xs _
     refine ⟨f', j + 1, ks ++ [.mk sCol (txt (bare l) j) []], xs ++ [(op, tx, Y, n, c6)], some ⟨gg, 0, none⟩, cap9, N9.out.far _ (by show w.heap.size + 1 ≠ _; omega) _, by rw [hl1]; exact M9.out.kid _, by rw [hl1, hfl]; exact own_set hown9 _ (by show w.heap.size + 1 < _; omega) _, ?_, by omega, by omega, by rw [List.length_append, HKS.out]; simp; omega, HE5, B9.out.new _ (by show w.heap.size ≤ w.heap.size + 1; omega) _, R10, fun e => by rw [List.length_append] at e; simp at e⟩
     exact (HA.out.keep (fun g h => h) (fun p h => h.elim)).snoc I6.out.bare)
    have hms : l.length - atOf (w9.setCell ⟨w.heap.size + 1, 2, none⟩ (.slice (some ⟨gg, 0, none⟩) (N + 1) cap9)) r < l.length - atOf wr r := by
     rw [R10.rd.atOf, HAT.out]
     omega
    clear hgrow hat hown9 hlt9 R10
    go_wp2
    go_roundw
    case rel => exact IV.out
    case measure => exact hms
end
end Go.Proofs.YtjbpkpfmgbhlpaaGreatDoor.Code
/-
  The program's by, whatever comes.
-/
namespace Go.Proofs.YtjbpkpfmgbhlpaaGreatDoor.Code
open Go.ChangeShapes Go.WideShapes Go.ChangeAt Go.RowKit Val Elems
set_option linter.unusedVariables false
section
variable {r : Nat} {m : Int} {A : Option Addr} {cap : Nat} {l : List W} {qb qa : Nat}
theorem isK_wd {i : Nat} (h : i < l.length) (k : Int) : isK (Code.bare l) i false k = ((wd l i).1 == k) := by rw [isK_in h, wd_in h]
theorem txt_wd (i : Nat) : txt (Code.bare l) i = (wd l i).2.1 := by
 by_cases hil : i < l.length
 ·rw [txt_in hil, wd_in hil]
 ·rw [wd_out hil]; unfold txt; rw [bare_out hil]
theorem pby_any (hg : Good l) (i : Nat) (w : World) (h : Rq w r m A cap l qb qa i) (hi : i ≤ l.length) :
  Calls Tryz.prog 91 #[.pointer (some ⟨r, 0, none⟩)] w (GiveN r m A cap l qb qa w (byP (Code.bare l) i)) := by
 unfold byP hasP
 rw [txt_wd]
 by_cases hil : i < l.length
 ·rw [isK_wd hil]
  by_cases hk : (wd l i).1 = 0
  ·by_cases ht : (wd l i).2.1 = sBy
   ·have e1 : ((wd l i).1 == 0) = true := by simp [hk]
    have e2 : ((wd l i).2.1 == sBy) = true := by simp [ht]
    rw [e1, e2]
    cases hm : isW (Code.bare l) (i + 1) false [61] with
    | true => exact pby_mark hg i w h hi hk ht hm
    | false =>
     cases hn : nmOk (Code.bare l) (i + 1) with
     | false => exact pby_none hg i w h hi hk ht hil hm hn
     | true => exact pby_names hg i w h hi hk ht hil hm hn _ rfl
   ·have e2 : ((wd l i).2.1 == sBy) = false := by simp [ht]
    rw [e2]
    have := pby_other hg i w h hi hk ht
    simpa using this
  ·have e1 : ((wd l i).1 == 0) = false := by simp [hk]
   rw [e1]
   have := pby_kind hg i w h hi hk
   simpa using this
 ·rw [isK_out hil]
  have h0 := wd_out hil
  have := pby_other hg i w h hi (by rw [h0]) (by rw [h0]; decide)
  simpa using this
end
end Go.Proofs.YtjbpkpfmgbhlpaaGreatDoor.Code
