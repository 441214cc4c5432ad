/-
  Go's slices.Insert of one node at place 1 of a list of the call's own.
-/
import Derived.Test.YtjbpkpfmgbhlpaaGreatDoorMs25
import Derived.Test.YtjbpkpfmgbhlpaaGreatDoorMs14
import Derived.Test.YtjbpkpfmgbhlpaaGreatDoorMs18
import Derived.Deep.AppendLies
set_option maxRecDepth 100000
set_option maxHeartbeats 16000000
open Go.Lib (hid)
namespace Go.Proofs.YtjbpkpfmgbhlpaaGreatDoor.Code
open Go.ChangeShapes Go.WideShapes Go.ChangeAt Go.RowKit Val Elems Go.Lib
set_option linter.unusedVariables false
set_option linter.unusedSimpArgs false
theorem flat_ins (x y : NV) (xs : List NV) : flatC nc ((x :: xs).take 1 ++ y :: (x :: xs).drop 1) = (flatC nc (x :: xs)).take 3 ++ nc y ++ (flatC nc (x :: xs)).drop 3 := by
 have e : ∀ z : NV, ∀ zs : List NV, flatC nc (z :: zs) = nc z ++ flatC nc zs := fun z zs => by rw [show z :: zs = [z] ++ zs from rfl, flatC_append]; simp [flatC]
 rw [show (x :: xs).take 1 ++ y :: (x :: xs).drop 1 = x :: y :: xs from rfl, e x (y :: xs), e y xs, e x xs, show (nc x ++ flatC nc xs).take 3 = nc x from rfl, show (nc x ++ flatC nc xs).drop 3 = flatC nc xs from rfl, List.append_assoc]
theorem pins_any {w : World} {B n c vb : Nat} {X : Option Addr} {xs : List NV} {y : NV} (h : w.ownsRow B 25 3 (.slice X n c) n (flatC nc xs)) (hn : n = xs.length) (h2 : 2 ≤ n) (hbig : n ≤ 1000000000) (hB : B ≤ w.heap.size)
  (hv : w.heap[vb]? = some (.cells #[.string y.1, .string y.2.1, .slice y.2.2.1 y.2.2.2.1 y.2.2.2.2] 25 (0, 0))) (hne : (Value.slice X n c).ownBlock ≠ some vb) :
  Calls Tryz.prog 93 #[.slice X n c, .int .i64 1, .slice (some ⟨vb, 0, none⟩) 1 1] w fun e w' => ∃ g' c', e = .returned (.slice (some ⟨g', 0, none⟩) (n + 1) c') ∧ w'.ownsRow B 25 3 (.slice (some ⟨g', 0, none⟩) (n + 1) c') (n + 1) (flatC nc (xs.take 1 ++ y :: xs.drop 1)) ∧
   w.grownBy w' (Value.slice X n c).ownBlock ∧ ((Value.slice X n c).ownBlock = some g' ∨ g' = w.heap.size) := by
 obtain ⟨x, xs', rfl⟩ : ∃ x xs', xs = x :: xs' := by
  cases xs with
  | nil => simp at hn; omega
  | cons x xs' => exact ⟨x, xs', rfl⟩
 rcases h.2 with ⟨-, h0⟩ | ⟨g, cap, cur, e, hBg, hg, hnc, hcm, hcs, hxs⟩
 ·omega
 injection e with e1 _ e3
 subst e1 e3
 have hne' : vb ≠ g := fun e => hne (by rw [e]; rfl)
 have hlt : g < w.heap.size := (Array.getElem?_eq_some_iff.1 hg).1
 have hfl : (flatC nc (x :: xs')).length = n * 3 := h.1
 have hins : (flatC nc ((x :: xs').take 1 ++ y :: (x :: xs').drop 1)).length = (n + 1) * 3 := by
  rw [flatC_length nc_length, hn]
  simp
 by_cases hroom : n + 1 ≤ c
 ·refine (pins_room g vb n c cur _ y w h2 hroom hcm hg hcs hxs (flatC_one nc_one _) hv hne').mono fun e w' hp => ?_
  obtain ⟨he, R1, hR1, hw⟩ := hp
  refine ⟨g, c, he, ⟨hins, .inr ⟨g, c, (R1.toList.take 3 ++ nc y ++ R1.toList.drop 6).toArray, rfl, hBg, ?_, hroom, hcm, ?_, ?_⟩⟩, ?_, .inl rfl⟩
  ·rw [hw]
   exact setRow_heap _ g _ _ _ _ (setRow_heap w.drew g _ R1 _ _ hg)
  ·have hR1s : R1.size = c * 3 := by
    rw [hR1]
    simp only [List.size_toArray, List.length_append, List.length_take, List.length_drop, Array.length_toList, hcs, hfl]
    omega
   simp only [List.size_toArray, List.length_append, List.length_take, List.length_drop, Array.length_toList, hR1s, nc_length]
   omega
  ·rw [flat_ins]
   have hc3 : cur.toList.take 3 = (flatC nc (x :: xs')).take 3 := by rw [← hxs, List.take_take, Nat.min_eq_left (by omega)]
   have h3 : R1.toList.take 3 = (flatC nc (x :: xs')).take 3 := by
    rw [hR1, List.toList_toArray, List.append_assoc, List.take_append_of_le_length (by rw [List.length_take, Array.length_toList, hcs]; omega), List.take_take, Nat.min_eq_left (by omega), hc3]
   have h6 : R1.toList.drop 6 = (flatC nc (x :: xs')).drop 3 ++ cur.toList.drop (6 + ((flatC nc (x :: xs')).drop 3).length) := by
    rw [hR1, List.toList_toArray, List.append_assoc, List.drop_append_of_le_length (by rw [List.length_take, Array.length_toList, hcs]; omega), List.drop_of_length_le (by rw [List.length_take]; omega), List.nil_append]
   rw [h3, h6, List.toList_toArray, ← List.append_assoc, List.take_append_of_le_length (by simp only [List.length_append, List.length_take, List.length_drop, hfl, nc_length]; omega), List.take_of_length_le (by simp only [List.length_append, List.length_take, List.length_drop, hfl, nc_length]; omega)]
  ·rw [hw]
   exact ⟨rfl, rfl, rfl, by simp, fun k hk hn => by
    have hkg : k ≠ g := fun e => hn (by rw [e]; rfl)
    rw [setRow_other _ g k _ hkg, setRow_other _ g k _ hkg]
    rfl⟩
 ·refine (pins_grow g vb n c cur _ y w h2 hnc (by omega) (by omega) hg hcs hxs (flatC_one nc_one _) hv hne').mono fun e w' hp => ?_
  obtain ⟨G, Z, -, he, hGn, hGm, hl, hh, hb⟩ := hp
  refine ⟨w.heap.size, G, he, ⟨hins, .inr ⟨w.heap.size, G, _, rfl, hB, hh, hGn, hGm, by simpa using hl, ?_⟩⟩, ⟨hb.os, hb.tape, hb.output, hb.size, fun k hk _ => hb.block k hk⟩, .inr rfl⟩
  rw [flat_ins, List.toList_toArray, List.take_append_of_le_length (by simp only [List.length_append, List.length_take, List.length_drop, hfl, nc_length]; omega), List.take_of_length_le (by simp only [List.length_append, List.length_take, List.length_drop, hfl, nc_length]; omega)]
end Go.Proofs.YtjbpkpfmgbhlpaaGreatDoor.Code
/-
  The program's group.
-/
namespace Go.Proofs.YtjbpkpfmgbhlpaaGreatDoor.Code
open Go.ChangeShapes Go.WideShapes Go.ChangeAt Go.RowKit Val Elems
set_option linter.unusedVariables false
set_option linter.unusedSimpArgs false
theorem sim_ends {L : List V} {i : Nat} {a b : Res} (h : Sim a b) (he : Ends L.length i false a.2) : i ≤ b.2.1 ∧ b.2.1 ≤ L.length := by rw [← h.1]; exact ⟨he.1, he.2.1⟩
theorem byP_ends {L : List V} {i : Nat} (h : i ≤ L.length) : i ≤ (byP L i).2.1 ∧ (byP L i).2.1 ≤ L.length := sim_ends (by_sim i) (by_ends h)
theorem aggP_ends {L : List V} {i : Nat} (h : i ≤ L.length) : i ≤ (aggP L i).2.1 ∧ (aggP L i).2.1 ≤ L.length := sim_ends (agg_sim i) (agg_ends h)
theorem first_ends {L : List V} {i : Nat} (h : i ≤ L.length) : i ≤ (firstG L i).2.1 ∧ (firstG L i).2.1 ≤ L.length := by
 have h1 := byP_ends h
 unfold firstG
 split
 ·exact h1
 ·have h2 := aggP_ends h1.2
  exact ⟨Nat.le_trans h1.1 h2.1, h2.2⟩
theorem ls_len {L : List V} {least most : Nat} {el : Nat → Nat → Res} : ∀ (f k i : Nat), (lsP L least most el f k i).2.2 = false → least ≤ k + (lsP L least most el f k i).1.length
 | 0, k, i, h => by simp [lsP] at h
 | f + 1, k, i, h => by
  rw [lsP] at h ⊢
  generalize (if k = 0 then i else i + 1) = i' at h ⊢
  by_cases h1 : k < least ∨ (k < most ∧ isW L i false [44] = true)
  ·rw [if_pos h1] at h ⊢
   by_cases h2 : 0 < k ∧ isW L i false [44] = false
   ·rw [if_pos h2] at h
    simp at h
   ·rw [if_neg h2] at h ⊢
    by_cases h3 : (el k i').2.2 = true
    ·rw [if_pos h3] at h
     simp at h
    ·rw [if_neg h3] at h ⊢
     have := ls_len f _ _ h
     simp only [List.length_cons]
     omega
  ·rw [if_neg h1]
   simp only [not_or] at h1
   simp only [List.length_nil]
   omega
theorem ls_few {L : List V} {least most : Nat} {el : Nat → Nat → Res} : ∀ (f k i : Nat), (lsP L least most el f k i).1.length ≤ f
 | 0, k, i => Nat.le_refl _
 | f + 1, k, i => by
  rw [lsP]
  generalize (if k = 0 then i else i + 1) = i'
  by_cases h1 : k < least ∨ (k < most ∧ isW L i false [44] = true)
  ·rw [if_pos h1]
   by_cases h2 : 0 < k ∧ isW L i false [44] = false
   ·rw [if_pos h2]
    exact Nat.zero_le _
   ·rw [if_neg h2]
    by_cases h3 : (el k i').2.2 = true
    ·rw [if_pos h3]
     exact Nat.zero_le _
    ·rw [if_neg h3]
     have := ls_few (L := L) (least := least) (most := most) (el := el) f (k + 1) (el k i').2.1
     simp only [List.length_cons]
     omega
  ·rw [if_neg h1]
   exact Nat.zero_le _
theorem RAll.ins {w : World} {S : Nat → Prop} {ks : List Nod} {xs : List NV} {t : Nod} {y : NV} (h : RAll w S ks xs) (hx : RIn w S t y) (hn : 0 < ks.length) : RAll w S (ks.take 1 ++ t :: ks.drop 1) (xs.take 1 ++ y :: xs.drop 1) := by
 cases ks with
 | nil => simp at hn
 | cons k0 ks =>
  cases xs with
  | nil => have := h.1; simp at this
  | cons x0 xs =>
   have h1 : RAll w S [k0] [x0] := RAll.one (h.2 0 (by simp) (by simp))
   have h2 : RAll w S ks xs := ⟨by have := h.1; simpa using this, fun i hi hi' => h.2 (i + 1) (by simpa using hi) (by simpa using hi')⟩
   exact (h1.append (RAll.one hx)).append h2
theorem But2.old {w w0 w1 : World} {r g : Nat} (h : But w w0 r) (k : But2 w0 w1 r g) (hg : w.heap.size ≤ g) : But w w1 r :=
 ⟨k.os.trans h.os, k.tape.trans h.tape, k.output.trans h.output, Nat.le_trans h.size k.size, fun j hj hn => (k.block j (Nat.lt_of_lt_of_le hj h.size) hn (by omega)).trans (h.block j hj hn)⟩
section
variable {r : Nat} {m : Int} {A : Option Addr} {cap : Nat} {l : List W} {qb qa : Nat}
theorem pgroup_any (hg : Good l) (i : Nat) (w : World) (h : Rq w r m A cap l qb qa i) (hi : i ≤ l.length) (q : Nat → Res) (hqe : ∀ j, i ≤ j → j ≤ l.length → j ≤ (q j).2.1 ∧ (q j).2.1 ≤ l.length)
  (HQ : ∀ (j : Nat) (w1 : World), i ≤ j → j ≤ l.length → Rq w1 r m A cap l qb qa j → Calls Tryz.prog 30 #[.pointer (some ⟨r, 0, none⟩)] w1 (GiveN r m A cap l qb qa w1 (q j))) :
  Calls Tryz.prog 50 #[.pointer (some ⟨r, 0, none⟩)] w (GiveN r m A cap l qb qa w (.mk [] [] (groupP (Code.bare l) q i).1, (groupP (Code.bare l) q i).2)) := by
 have hll := hg.len
 have hbl := bare_length l
 have hends : ∀ k j, i ≤ j → j ≤ l.length → j ≤ ((fun (k j : Nat) => if k < 1 then q j else if k = 1 then firstG (Code.bare l) j else aggP (Code.bare l) j) k j).2.1 ∧ ((fun (k j : Nat) => if k < 1 then q j else if k = 1 then firstG (Code.bare l) j else aggP (Code.bare l) j) k j).2.1 ≤ l.length := by
  intro k j hij hj
  try dsimp only
  split
  ·exact hqe j hij hj
  split
  ·have := first_ends (L := Code.bare l) (i := j) (by rw [bare_length]; exact hj); rw [bare_length] at this; exact this
  ·have := aggP_ends (L := Code.bare l) (i := j) (by rw [bare_length]; exact hj); rw [bare_length] at this; exact this
 have HC := hid (fun (w0 : World) (h0 : Rq w0 r m A cap l qb qa i) (rb gb : Nat) (hrb : rb ≠ r) (hrg : r < gb) (hgq : gb ≠ qb) (hga : gb ≠ qa) (hrbg : rb ≠ gb) (hcb : w0.cell? ⟨rb, 0, none⟩ = some (.pointer (some ⟨r, 0, none⟩))) (y0 : NV) (hy0 : NVBox w0 gb y0) =>
  (plist_any hg (g := gb) (T := some fun j => (byP (Code.bare l) j).1) (Pre := fun w1 => w1.cell? ⟨rb, 0, none⟩ = some (.pointer (some ⟨r, 0, none⟩)) ∧ ∃ y : NV, NVBox w1 gb y) 90 (enters_of Tryz.func90 (by kernel_rfl) rfl) #[.pointer (some ⟨rb, 0, none⟩), .pointer (some ⟨gb, 0, none⟩)] i (fun (k j : Nat) => if k < 1 then q j else if k = 1 then firstG (Code.bare l) j else aggP (Code.bare l) j) 2 9223372036854775807 w0 (by decide) (by decide) (by decide)
   hends (fun k j w1 hij hj hk hr1 hp1 => by
    obtain ⟨hc1, y1, hy1⟩ := hp1
    have hlt1 := World.block_lt_of_cell? _ _ hc1
    have hlt2 := hy1.lt
    by_cases hk1 : k = 1
    ·have hx := pclo_group_1 hg k j rb gb w1 hr1 hj hc1 hk1 y1 hy1 hrg hgq hga hrb hrbg (by have := (byP_ends (L := Code.bare l) (i := j) (by rw [bare_length]; exact hj)).2; rw [bare_length] at this; exact this)
     dsimp only
     rw [if_neg (by omega), if_pos hk1]
     exact hx
    ·have hx : Calls Tryz.prog 90 #[.int .i64 k, .pointer (some ⟨rb, 0, none⟩), .pointer (some ⟨gb, 0, none⟩)] w1 (GiveN r m A cap l qb qa w1 ((fun (k j : Nat) => if k < 1 then q j else if k = 1 then firstG (Code.bare l) j else aggP (Code.bare l) j) k j)) := by
      try dsimp only
      by_cases hk0 : k < 1
      ·rw [if_pos hk0]
       exact pclo_group_q hg k j rb gb w1 hr1 hj hc1 q (fun w2 h2 => HQ j w2 hij hj h2) hk0
      ·rw [if_neg hk0, if_neg hk1]
       exact pclo_group_n hg k j rb gb w1 hr1 hj hc1 (by omega)
     exact hx.mono fun e w' hp => hp.part' (by
      obtain ⟨op, tx, X, n, c, he, hn, hb, hr⟩ := hp
      exact ⟨(hb.cell (q := ⟨rb, 0, none⟩) hlt1 hrb).trans hc1, y1, hy1.but (by omega) hb⟩) hk1)
   h0 hi ⟨hcb, y0, hy0⟩ (fun w1 w2 hk h1 => by
    obtain ⟨h1, y, h2⟩ := h1
    have k1 := hk rb (World.block_lt_of_cell? _ _ hcb) hrb
    have k2 := hk gb hy0.lt (by omega)
    refine ⟨?_, y, ?_⟩
    ·unfold World.cell? at h1 ⊢
     dsimp only at h1 ⊢
     rw [k1]
     exact h1
    ·obtain ⟨a0, a1, a2, af⟩ := h2
     refine ⟨?_, ?_, ?_, fun j => ?_⟩
     ·unfold World.cell? at a0 ⊢; dsimp only at a0 ⊢; rw [k2]; exact a0
     ·unfold World.cell? at a1 ⊢; dsimp only at a1 ⊢; rw [k2]; exact a1
     ·unfold World.cell? at a2 ⊢; dsimp only at a2 ⊢; rw [k2]; exact a2
     ·have := af j; unfold World.frozen? at this ⊢; dsimp only at this ⊢; rw [k2]; exact this) hy0.lt (fun t e => by omega)))
 obtain ⟨bn, hbn⟩ : ∃ bn, (byP (Code.bare l) ((q i).2.1 + 1)).1 = bn := ⟨_, rfl⟩
 obtain ⟨t9, ht9⟩ : ∃ t9 : Nat → Nod, (fun j => (byP (Code.bare l) j).1) = t9 := ⟨_, rfl⟩
 have HBN := hid (show t9 ((q i).2.1 + 1) = bn by rw [← ht9, ← hbn])
 obtain ⟨R, hR⟩ : ∃ R, groupsP (Code.bare l) q i = R := ⟨_, rfl⟩
 have HLN := hid (show R.2.2 = false → 2 ≤ R.1.length from fun e => by rw [← hR] at e ⊢; have := ls_len _ _ _ e; rw [Nat.zero_add] at this; exact this)
 have HFW := hid (show R.1.length ≤ l.length + 8 by rw [← hR, ← hbl]; exact ls_few _ _ _)
 rw [show lsP (Code.bare l) 2 9223372036854775807 (fun (k j : Nat) => if k < 1 then q j else if k = 1 then firstG (Code.bare l) j else aggP (Code.bare l) j) ((Code.bare l).length + 8) 0 i = groupsP (Code.bare l) q i from rfl, hR, ht9, show ((fun (k j : Nat) => if k < 1 then q j else if k = 1 then firstG (Code.bare l) j else aggP (Code.bare l) j) 0 i).2.1 + 1 = (q i).2.1 + 1 from rfl] at HC
 unfold groupP
 rw [hR, hbn]
 obtain ⟨ks, j, b⟩ := R
 dsimp only at HLN HFW
 dsimp only
 have HR := hid h
 have hrl := h.lt
 have hql := h.ltq
 have hal := h.lta
 clear h hg HQ hqe hR hbn ht9 hends hbl
 go_enter Tryz.func50, Tryz.ntmps50
 obtain ⟨wb, hwb⟩ : ∃ wb, w.alloc (.cells #[.pointer (some ⟨r, 0, none⟩)] 92) = wb := ⟨_, rfl⟩
 obtain ⟨wa, hwa⟩ : ∃ wa, wb.alloc (.cells #[.string ⟨#[]⟩, .string ⟨#[]⟩, .slice none 0 0] 25) = wa := ⟨_, rfl⟩
 obtain ⟨w0, hw0⟩ : ∃ w0, wa.alloc (.cells #[.string ⟨#[]⟩, .string ⟨#[]⟩, .slice none 0 0] 25) = w0 := ⟨_, rfl⟩
 have hzb : wb.heap.size = w.heap.size + 1 := by rw [← hwb]; simp
 have hza : wa.heap.size = w.heap.size + 2 := by rw [← hwa]; simp [hzb]
 have hz0 : w0.heap.size = w.heap.size + 3 := by rw [← hw0]; simp [hza]
 have N0 := hid (show NBox w0 (w.heap.size + 1) (.string ⟨#[]⟩) (.string ⟨#[]⟩) (.slice none 0 0) by rw [← hw0, ← hwa, ← hzb]; exact (NBox.fresh _ _ _ _ _).alloc _)
 have G0 := hid (show NVBox w0 (w.heap.size + 2) (⟨#[]⟩, ⟨#[]⟩, none, 0, 0) by rw [← hw0, ← hza]; exact NBox.fresh _ _ _ _ _)
 have B0 := hid (show But w w0 r by rw [← hw0, ← hwa, ← hwb]; exact (((But.refl w r).alloc _).alloc _).alloc _)
 have R0 := hid (show Rq w0 r m A cap l qb qa i by rw [← hw0, ← hwa, ← hwb]; exact ((HR.out.alloc _).alloc _).alloc _)
 have cb : w0.cell? ⟨w.heap.size, 0, none⟩ = some (.pointer (some ⟨r, 0, none⟩)) := by rw [← hw0, ← hwa, ← hwb]; simp [go_sem]
 rw [← hwa, ← hwb] at hw0
 have HW0 := hid hw0
 clear hwb hzb hw0 hwa hza wa wb
 go_upto_region 2 with fail
 rw [HW0.out]
 go_wp2_with fail
 refine (HC.out _ R0.out w.heap.size (w.heap.size + 2) (by omega) (by omega) (by omega) (by omega) (by omega) cb _ G0.out).mono ?_
 rintro e w1 ⟨op, tx, X, n, c, rfl, hn1, hb1, hr1, -, ho1, hx1⟩
 dsimp only at hn1 hr1 ho1 hx1
 have zb1 := hb1.size
 have B1 := hid (But2.old B0.out hb1 (by omega))
 have R1 := hid hr1
 have N1 := hid (N0.out.but2 (by omega) (by omega) hb1)
 have I1 := hid hn1
 have O1 := hid ho1
 have X1 := hid hx1
 obtain ⟨w2, hw2⟩ : ∃ w2, w1.alloc (.cells #[.string op, .string tx, .slice X n c] 25) = w2 := ⟨_, rfl⟩
 have z2 : w2.heap.size = w1.heap.size + 1 := by rw [← hw2]; simp
 have N2 := hid (show NBox w2 (w.heap.size + 1) (.string ⟨#[]⟩) (.string ⟨#[]⟩) (.slice none 0 0) by rw [← hw2]; exact N1.out.alloc _)
 have B2 := hid (show But w w2 r by rw [← hw2]; exact B1.out.alloc _)
 have R2 := hid (show Rq w2 r m A cap l qb qa j by rw [← hw2]; exact R1.out.alloc _)
 have V2 := hid (show NBox w2 w1.heap.size (.string op) (.string tx) (.slice X n c) by rw [← hw2]; exact NBox.fresh _ _ _ _ _)
 have HW2 := hid hw2
 clear hn1 hb1 hr1 ho1 hx1 cb
 cases b with
 | true =>
  clear hw2
  go_upto_region 3 with fail
  rw [HW2.out]
  obtain ⟨x0, x1, x2, xf⟩ := N2.out
  obtain ⟨v0, v1, v2, vf⟩ := V2.out
  have zn := N2.out.lt
  have zv := V2.out.lt
  go_wp2
  have Y := N2.out.set (.string op) (.string tx) (.slice X n c)
  exact bodyPost_ret (v := .tuple #[.agg #[.string op, .string tx, .slice X n c], .bool (!true)]) (by simp [results, Tryz.results50, go_sem, Y.c0, Y.c1, Y.c2]) rfl
   ⟨op, tx, X, n, c, rfl, fun e => (by cases e), W3.but B2.out (by omega) _ _ _, R2.out.w3 (by omega) (by omega) (by omega) _ _ _⟩
 | false =>
  obtain ⟨xs, hnx, hown, hall⟩ := O1.out (by first | rfl | trivial)
  have hk2 := HLN.out (by first | rfl | trivial)
  obtain ⟨y, hy, hyi⟩ := X1.out t9 rfl (by first | rfl | trivial) hk2
  rw [HBN.out] at hyi
  have hlen := hall.1
  have hfw := HFW.out
  obtain ⟨hop, htx, -, -⟩ := (I1.out (by first | rfl | trivial)).texts
  dsimp only [Nod.op, Nod.tx] at hop htx
  have hown0 : ∀ k, (Value.slice X n c).ownBlock = some k → w0.heap.size ≤ k ∧ k < w1.heap.size := fun k e => hown.lt k e
  obtain ⟨w3, hw3⟩ : ∃ w3, w2.alloc (.cells #[.string y.1, .string y.2.1, .slice y.2.2.1 y.2.2.2.1 y.2.2.2.2] 25) = w3 := ⟨_, rfl⟩
  have z3 : w3.heap.size = w1.heap.size + 2 := by rw [← hw3]; simp [z2]
  have HIN := hid (pins_any (w := w3) (B := w0.heap.size) (n := n) (c := c) (vb := w1.heap.size + 1) (X := X) (xs := xs) (y := y) (by rw [← hw3, ← hw2]; exact own_call (own_call hown (below_alloc _ _)) (below_alloc _ _)) hnx (by omega) (by omega) (by omega)
   (by rw [← hw3, ← z2]; exact heap_alloc_new w2 _) (fun e => by have := hown0 _ e; omega))
  have G2 := hid (show NBox w2 (w.heap.size + 2) (.string y.1) (.string y.2.1) (.slice y.2.2.1 y.2.2.2.1 y.2.2.2.2) by rw [← hw2]; exact hy.alloc _)
  have HW3 := hid hw3
  have HAL := hid hall
  have HYI := hid hyi
  have HOP := hid hop
  have HTX := hid htx
  have HOW := hid hown0
  have HLX := hid hlen
  have HNX := hid hnx
  clear hall hyi hy hop htx hown hw3 hw2 hlen hnx hown0
  go_upto_region 3 with fail
  rw [HW2.out]
  obtain ⟨g0, g1, g2, gf⟩ := G2.out
  obtain ⟨v0, v1, v2, vf⟩ := V2.out
  have zv := V2.out.lt
  have zg := G2.out.lt
  go_wp2_with fail
  try rw [HW3.out]
  refine HIN.out.mono ?_
  rintro e w4 ⟨g4, c4, rfl, hown4, hgr, hat⟩
  have z4 := hgr.size
  have hrow : ∀ k, (Value.slice X n c).ownBlock = some k → w0.heap.size ≤ k ∧ k < w1.heap.size := HOW.out
  have B34 : Below w.heap.size w3 w4 := ⟨hgr.os, hgr.tape, hgr.output, hgr.size, fun k hk => hgr.block k (by omega) (fun e => by have := (hrow k e.symm).1; omega)⟩
  have R4 := hid (show Rq w4 r m A cap l qb qa j from by
   have h3 : Rq w3 r m A cap l qb qa j := by rw [← HW3.out]; exact R2.out.alloc _
   exact h3.under B34 hrl hql hal)
  have B4 := hid (show But w w4 r from by
   have h3 : But w w3 r := by rw [← HW3.out]; exact B2.out.alloc _
   exact h3.grown hgr (fun k e => by have := (hrow k e).1; omega))
  have V4 := hid (show NBox w4 w1.heap.size (.string op) (.string tx) (.slice X n c) from by
   have h3 : NBox w3 w1.heap.size (.string op) (.string tx) (.slice X n c) := by rw [← HW3.out]; exact V2.out.alloc _
   exact h3.grown hgr (fun e => by have := hrow _ e; omega))
  have N4 := hid (show NBox w4 (w.heap.size + 1) (.string ⟨#[]⟩) (.string ⟨#[]⟩) (.slice none 0 0) from by
   have h3 : NBox w3 (w.heap.size + 1) (.string ⟨#[]⟩) (.string ⟨#[]⟩) (.slice none 0 0) := by rw [← HW3.out]; exact N2.out.alloc _
   exact h3.grown hgr (fun e => by have := hrow _ e; omega))
  have A4 := hid (show RAll w4 (fun k => w0.heap.size ≤ k ∧ k < w1.heap.size) (ks.take 1 ++ bn :: ks.drop 1) (xs.take 1 ++ y :: xs.drop 1) from by
   have hkeep : ∀ p : Addr, Apart w0 w1 X p.block → w4.cell? p = w1.cell? p := fun p hp => by
    have h1 : w4.heap[p.block]? = w3.heap[p.block]? := hgr.block _ (by have := hp.2.1; omega) (fun e => by
     cases X with
     | none => cases e
     | some ad => exact hp.2.2 ad rfl (Option.some.inj e.symm))
    have h2 : w3.heap[p.block]? = w1.heap[p.block]? := by
     rw [← HW3.out, ← HW2.out]
     rw [(below_alloc (w1.alloc _) _).block p.block (by have := hp.2.1; simp; omega)]
     exact (below_alloc w1 _).block p.block hp.2.1
    unfold World.cell?
    rw [h1, h2]
   exact ((HAL.out.keep (S' := fun k => w0.heap.size ≤ k ∧ k < w1.heap.size) (fun k hk => ⟨hk.1, hk.2.1⟩) hkeep)).ins (HYI.out.keep (S' := fun k => w0.heap.size ≤ k ∧ k < w1.heap.size) (fun k hk => ⟨hk.1, hk.2.1⟩) hkeep) (by omega))
  have O4 := hid hown4
  have HG4 := hid (show w0.heap.size ≤ g4 ∧ g4 ≠ w1.heap.size from by
   refine ⟨(hown4.lt g4 rfl).1, ?_⟩
   rcases hat with e | e
   ·have := (hrow _ e).2; omega
   ·omega)
  clear hown4 hgr hat g0 g1 g2 gf v0 v1 v2 vf B34
  obtain ⟨w5, hw5⟩ : ∃ w5, w4.setCell ⟨w1.heap.size, 2, none⟩ (.slice (some ⟨g4, 0, none⟩) (n + 1) c4) = w5 := ⟨_, rfl⟩
  have z5 : w5.heap.size = w4.heap.size := by rw [← hw5]; simp
  have V5 := hid (show NBox w5 w1.heap.size (.string op) (.string tx) (.slice (some ⟨g4, 0, none⟩) (n + 1) c4) by rw [← hw5]; exact V4.out.kid _)
  have N5 := hid (show NBox w5 (w.heap.size + 1) (.string ⟨#[]⟩) (.string ⟨#[]⟩) (.slice none 0 0) by rw [← hw5]; exact N4.out.far _ (by show w1.heap.size ≠ _; omega) _)
  have B5 := hid (show But w w5 r by rw [← hw5]; exact B4.out.new _ (by show w.heap.size ≤ w1.heap.size; omega) _)
  have R5 := hid (show Rq w5 r m A cap l qb qa j by rw [← hw5]; exact R4.out.new _ (by show r < w1.heap.size; omega) (by show w1.heap.size ≠ qb; omega) (by show w1.heap.size ≠ qa; omega) _)
  have I5 := hid (show RIn w5 (fun k => w.heap.size + 1 < k ∧ k < w5.heap.size) (.mk [] [] (ks.take 1 ++ bn :: ks.drop 1)) (op, tx, some ⟨g4, 0, none⟩, n + 1, c4) from by
   have hl4 : (ks.take 1 ++ bn :: ks.drop 1).length = n + 1 := by
    have := HLX.out
    have := HNX.out
    simp only [List.length_append, List.length_cons, List.length_take, List.length_drop]
    omega
   have hx4 : (xs.take 1 ++ y :: xs.drop 1).length = n + 1 := by
    have := HNX.out
    simp only [List.length_append, List.length_cons, List.length_take, List.length_drop]
    omega
   have hO : w5.ownsRow w0.heap.size 25 3 (.slice (some ⟨g4, 0, none⟩) (n + 1) c4) (n + 1) (flatC nc (xs.take 1 ++ y :: xs.drop 1)) := by
    rw [← hw5]
    exact O4.out.kept (row := some w1.heap.size) ⟨rfl, rfl, rfl, by simp, fun k hk hn => Below.heap_setCell w4 ⟨w1.heap.size, 2, none⟩ _ k (fun e => hn (by rw [e]))⟩ (.inr (fun e => HG4.out.2 (Option.some.inj e)))
   rw [← hx4] at hO
   obtain ⟨A', cap', e, hat, hcp⟩ := own_nat hO
   injection e with e _ e2
   subst e e2
   have hA5 : RAll w5 (fun k => w.heap.size + 1 < k ∧ k < w5.heap.size) (ks.take 1 ++ bn :: ks.drop 1) (xs.take 1 ++ y :: xs.drop 1) := A4.out.keep (fun k hk => ⟨by have := hk.1; omega, by have := hk.2; omega⟩) (fun p hp => by
    rw [← hw5]
    exact World.cell?_setCell_other _ _ _ _ (fun e => by have := hp.2; rw [← e] at this; exact Nat.lt_irrefl _ this))
   have h9 := RIn.made c4 op tx (hat.keep (S' := fun k => w.heap.size + 1 < k ∧ k < w5.heap.size) (fun k hk => ⟨by have := hk.1; omega, hk.2⟩) (fun _ _ => rfl)) hA5 (by rw [hl4]; have h1 := HNX.out; have h2 := HLX.out; have h3 := HFW.out; omega) (by rw [← hA5.1]; exact hcp)
   rw [hl4, HOP.out, HTX.out] at h9
   rw [HOP.out, HTX.out]
   exact h9)
  have HW5 := hid hw5
  have v2 := V4.out.c2
  have vf := V4.out.fr 2
  have zv4 := V4.out.lt
  clear hw5
  go_upto_region 5 with fail
  rw [HW5.out]
  clear v2 vf
  obtain ⟨x0, x1, x2, xf⟩ := N5.out
  obtain ⟨v0, v1, v2, vf⟩ := V5.out
  have zn5 := N5.out.lt
  have zv5 := V5.out.lt
  go_wp2
  have Y := N5.out.set (.string op) (.string tx) (.slice (some ⟨g4, 0, none⟩) (n + 1) c4)
  exact bodyPost_ret (v := .tuple #[.agg #[.string op, .string tx, .slice (some ⟨g4, 0, none⟩) (n + 1) c4], .bool (!false)]) (by simp [results, Tryz.results50, go_sem, Y.c0, Y.c1, Y.c2]) rfl
   ⟨op, tx, some ⟨g4, 0, none⟩, n + 1, c4, rfl, fun e => (I5.out.w3 (g := w.heap.size + 1) (fun hg => by have := hg.1; omega) _ _ _).imp (fun g hg => ⟨by have := hg.1; omega, by show g < (W3 w5 _ _ _ _).heap.size; rw [W3.size]; exact hg.2⟩), W3.but B5.out (by omega) _ _ _, R5.out.w3 (by omega) (by omega) (by omega) _ _ _⟩
end
theorem ls_ends {L : List V} {least most : Nat} {el : Nat → Nat → Res} {i0 : Nat} (he : ∀ k j, i0 ≤ j → j ≤ L.length → j ≤ (el k j).2.1 ∧ (el k j).2.1 ≤ L.length) : ∀ (f k i : Nat), i0 ≤ i → i ≤ L.length → (lsP L least most el f k i).2.1 ≤ L.length
 | 0, k, i, h0, h => h
 | f + 1, k, i, h0, h => by
  rw [lsP]
  by_cases h1 : k < least ∨ (k < most ∧ isW L i false [44] = true)
  ·rw [if_pos h1]
   by_cases h2 : 0 < k ∧ isW L i false [44] = false
   ·rw [if_pos h2]
    exact h
   ·rw [if_neg h2]
    have hi' : i0 ≤ (if k = 0 then i else i + 1) ∧ (if k = 0 then i else i + 1) ≤ L.length := by
     split
     ·exact ⟨h0, h⟩
     ·rename_i hk
      have hc : isW L i false [44] = true := by
       cases hc : isW L i false [44] with
       | true => rfl
       | false => exact absurd ⟨by omega, hc⟩ h2
      have := isW_lt hc
      exact ⟨by omega, this⟩
    generalize (if k = 0 then i else i + 1) = i' at hi' ⊢
    have h4 := he k i' hi'.1 hi'.2
    by_cases h3 : (el k i').2.2 = true
    ·rw [if_pos h3]
     exact h4.2
    ·rw [if_neg h3]
     exact ls_ends he f (k + 1) (el k i').2.1 (by omega) h4.2
  ·rw [if_neg h1]
   exact h
theorem body_ends {L : List V} {q : Nat → Res} {o : List UInt8} {i : Nat} (hi : i ≤ L.length) (hq : ∀ j, i ≤ j → j ≤ L.length → j ≤ (q j).2.1 ∧ (q j).2.1 ≤ L.length) : (bodyG L q o i).2.1 ≤ L.length := by
 have h2 : ∀ (K : Nat) (e : Nat → Res), (∀ j, j ≤ L.length → j ≤ (e j).2.1 ∧ (e j).2.1 ≤ L.length) → ∀ k j, i ≤ j → j ≤ L.length → j ≤ ((fun k j => if k < K then q j else e j) k j).2.1 ∧ ((fun k j => if k < K then q j else e j) k j).2.1 ≤ L.length := by
  intro K e he k j hij hj
  dsimp only
  split
  ·exact hq j hij hj
  ·exact he j hj
 unfold bodyG
 split
 ·exact ls_ends (h2 1 (exprP L) (fun j h => exprP_ends h)) _ _ _ (Nat.le_refl _) hi
 split
 ·exact ls_ends (h2 1 (itemP L) (fun j h => named_ends h (fun _ h => exprP_ends h))) _ _ _ (Nat.le_refl _) hi
 split
 ·exact ls_ends (h2 2 (onP L) (fun j h => named_ends h (fun _ h => name_ends h))) _ _ _ (Nat.le_refl _) hi
 split
 ·exact ls_ends (fun k j h1 h2 => hq j h1 h2) _ _ _ (Nat.le_refl _) hi
 split
 ·exact ls_ends (fun k j h1 h2 => hq j h1 h2) _ _ _ (Nat.le_refl _) hi
 ·refine ls_ends (fun k j h1 h2 => ?_) _ _ _ (Nat.le_refl _) hi
  split
  ·exact hq j h1 h2
  split
  ·exact first_ends h2
  ·exact aggP_ends h2
section
variable {r : Nat} {m : Int} {A : Option Addr} {cap : Nat} {l : List W} {qb qa : Nat}
theorem queries_none {T : ByteArray} (h : T.data.toList ∉ opsQ) : queriesF T = none := by
 simp only [opsQ, List.mem_cons, List.not_mem_nil, or_false, not_or] at h
 obtain ⟨h1, h2, h3, h4, h5, h6⟩ := h
 unfold queriesF
 rw [mput_get, if_neg (fun e => h6 (by rw [e]; rfl)), mput_get, if_neg (fun e => h5 (by rw [e]; rfl)), mput_get, if_neg (fun e => h4 (by rw [e]; rfl)), mput_get, if_neg (fun e => h3 (by rw [e]; rfl)), mput_get, if_neg (fun e => h2 (by rw [e]; rfl)), mput_get, if_neg (fun e => h1 (by rw [e]; rfl))]
theorem query_fn (hg : Good l) {T : ByteArray} (h : T.data.toList ∈ opsQ) (i0 : Nat) (q : Nat → Res) (hqe : ∀ j, i0 ≤ j → j ≤ l.length → j ≤ (q j).2.1 ∧ (q j).2.1 ≤ l.length)
  (HQ : ∀ (j : Nat) (w1 : World), i0 ≤ j → j ≤ l.length → Rq w1 r m A cap l qb qa j → Calls Tryz.prog 30 #[.pointer (some ⟨r, 0, none⟩)] w1 (GiveN r m A cap l qb qa w1 (q j))) :
  ∃ fn, queriesF T = some (.func (.func fn) #[] #[]) ∧ (∀ args w, (callFunc fn args).run Tryz.prog w = .ok (.enter fn args) w) ∧
  ∀ (w1 : World), i0 ≤ l.length → Rq w1 r m A cap l qb qa i0 → Calls Tryz.prog fn #[.pointer (some ⟨r, 0, none⟩)] w1 (GiveN r m A cap l qb qa w1 (partG (Code.bare l) q T.data.toList i0)) := by
 simp only [opsQ, List.mem_cons, List.not_mem_nil, or_false] at h
 rcases h with h | h | h | h | h | h
 all_goals
  obtain rfl := bytesEq9.2 h
 ·exact ⟨_, rfl, enters_of Tryz.func45 (by kernel_rfl) rfl, fun w1 hi0 hr => pfilter_any hg i0 w1 hr hi0 q hqe HQ⟩
 ·exact ⟨_, rfl, enters_of Tryz.func46 (by kernel_rfl) rfl, fun w1 hi0 hr => pproject_any hg i0 w1 hr hi0 q hqe HQ⟩
 ·exact ⟨_, rfl, enters_of Tryz.func47 (by kernel_rfl) rfl, fun w1 hi0 hr => pjoin_any hg i0 w1 hr hi0 q hqe HQ⟩
 ·exact ⟨_, rfl, enters_of Tryz.func48 (by kernel_rfl) rfl, fun w1 hi0 hr => punion_any hg i0 w1 hr hi0 q hqe HQ⟩
 ·exact ⟨_, rfl, enters_of Tryz.func49 (by kernel_rfl) rfl, fun w1 hi0 hr => pdistinct_any hg i0 w1 hr hi0 q hqe HQ⟩
 ·exact ⟨_, rfl, enters_of Tryz.func50 (by kernel_rfl) rfl, fun w1 hi0 hr => pgroup_any hg i0 w1 hr hi0 q hqe HQ⟩
theorem pquery_kind (hg : Good l) (i : Nat) (w : World) (h : Rq w r m A cap l qb qa i) (hi : i ≤ l.length) (hk : (wd l i).1 ≠ 0) :
  Calls Tryz.prog 30 #[.pointer (some ⟨r, 0, none⟩)] w (GiveN r m A cap l qb qa w (nameP (Code.bare l) sFrom i)) := by
 have HNM := hid (fun w0 (h0 : Rq w0 r m A cap l qb qa i) => pname_any hg ⟨#[102, 114, 111, 109]⟩ i w0 h0 hi)
 rw [show (⟨#[102, 114, 111, 109]⟩ : ByteArray).data.toList = sFrom from rfl] at HNM
 obtain ⟨res, hres⟩ : ∃ res, nameP (Code.bare l) sFrom i = res := ⟨_, rfl⟩
 rw [hres] at HNM
 rw [hres]
 obtain ⟨TT, j, b⟩ := res
 have hll := hg.len
 have HWD := hid (fun w0 (h0 : Rq w0 r m A cap l qb qa i) => pword_any i 0 w0 h0 hi hll (by decide))
 rw [Nat.add_zero] at HWD
 unfold wv at HWD
 obtain ⟨x, hx⟩ : ∃ x, wd l i = x := ⟨_, rfl⟩
 have hfit : x.2.1.length ≤ 4194304 := by
  rw [← hx]
  by_cases hil : i < l.length
  ·rw [wd_in hil]; exact hg.fit l[i] (List.getElem_mem hil)
  ·rw [wd_out hil]; simp
 rw [hx] at HWD hk
 obtain ⟨wk, wt, wp⟩ := x
 dsimp only at HWD hfit hk
 obtain ⟨T, hT⟩ : ∃ T : ByteArray, ⟨wt.toArray⟩ = T := ⟨_, rfl⟩
 obtain rfl : wt = T.data.toList := by rw [← hT]
 rw [hT] at HWD
 have hTl : T.size ≤ maxLen := by have : T.size ≤ 4194304 := hfit; unfold maxLen; omega
 have hfd0 := fun w0 => field0 wk wp T w0
 have hfd1 := fun w0 => field1 wk wp T w0
 have e0 : (wk == 0) = false := by simpa using hk
 have HR := hid h
 have hrl := h.lt
 have hql := h.ltq
 have hal := h.lta
 clear h hx hT hg hk hres
 go_enter Tryz.func30, Tryz.ntmps30
 obtain ⟨w0, hw0, hz0, N0, B0⟩ := made0 w r
 have R0 := hid (show Rq w0 r m A cap l qb qa i by rw [← hw0]; exact HR.out.alloc _)
 go_wp2_with fail
 try rw [hw0]
 refine (HWD.out _ R0.out).mono ?_
 rintro e w1 ⟨rfl, hb1⟩
 have zb1 : w0.heap.size ≤ w1.heap.size := hb1.size
 have N1 := hid (N0.out.below hb1)
 have B1 := hid (B0.out.next hb1)
 have R1 := hid (R0.out.below hb1)
 clear hb1
 go_wp2_with fail
 refine (HNM.out _ R1.out).mono ?_
 rintro e w2 ⟨o1, t1, X, n, k, rfl, hn1, hb1, hr1⟩
 dsimp only at hn1 hr1
 have I2 := hid (giveN_pass (w := w) hn1 (by omega))
 have B2 := hid (B1.out.trans hb1)
 have R2 := hid hr1
 have N2 := hid (N1.out.but (by omega) hb1)
 clear hn1 hb1 hr1
 obtain ⟨x0, x1, x2, xf⟩ := N2.out
 have zn := N2.out.lt
 obtain ⟨q9, hq⟩ : ∃ q9, (!b) = q9 := ⟨_, rfl⟩
 go_wp2
 have Y := N2.out.set (.string o1) (.string t1) (.slice X n k)
 exact bodyPost_ret (v := .tuple #[.agg #[.string o1, .string t1, .slice X n k], .bool (!b)]) (by simp [results, Tryz.results30, go_sem, Y.c0, Y.c1, Y.c2, hq]) rfl
  (giveN_ret I2.out B2.out R2.out hrl hql hal)
theorem pquery_nomark (hg : Good l) (i : Nat) (w : World) (h : Rq w r m A cap l qb qa i) (hi : i ≤ l.length) (hk : (wd l i).1 = 0) (hm : isW (Code.bare l) (i + 1) false [40] = false) :
  Calls Tryz.prog 30 #[.pointer (some ⟨r, 0, none⟩)] w (GiveN r m A cap l qb qa w (nameP (Code.bare l) sFrom i)) := by
 have HNM := hid (fun w0 (h0 : Rq w0 r m A cap l qb qa i) => pname_any hg ⟨#[102, 114, 111, 109]⟩ i w0 h0 hi)
 rw [show (⟨#[102, 114, 111, 109]⟩ : ByteArray).data.toList = sFrom from rfl] at HNM
 obtain ⟨res, hres⟩ : ∃ res, nameP (Code.bare l) sFrom i = res := ⟨_, rfl⟩
 rw [hres] at HNM
 rw [hres]
 obtain ⟨TT, j, b⟩ := res
 have HMK := hid (fun w0 (h0 : Rq w0 r m A cap l qb qa i) => pmark_any i 1 ⟨#[40]⟩ w0 h0 hi hg.len (by decide) (by decide) false hm)
 have hll := hg.len
 have HWD := hid (fun w0 (h0 : Rq w0 r m A cap l qb qa i) => pword_any i 0 w0 h0 hi hll (by decide))
 rw [Nat.add_zero] at HWD
 unfold wv at HWD
 obtain ⟨x, hx⟩ : ∃ x, wd l i = x := ⟨_, rfl⟩
 have hfit : x.2.1.length ≤ 4194304 := by
  rw [← hx]
  by_cases hil : i < l.length
  ·rw [wd_in hil]; exact hg.fit l[i] (List.getElem_mem hil)
  ·rw [wd_out hil]; simp
 rw [hx] at HWD hk
 obtain ⟨wk, wt, wp⟩ := x
 dsimp only at HWD hfit hk
 obtain ⟨T, hT⟩ : ∃ T : ByteArray, ⟨wt.toArray⟩ = T := ⟨_, rfl⟩
 obtain rfl : wt = T.data.toList := by rw [← hT]
 rw [hT] at HWD
 have hTl : T.size ≤ maxLen := by have : T.size ≤ 4194304 := hfit; unfold maxLen; omega
 have hfd0 := fun w0 => field0 wk wp T w0
 have hfd1 := fun w0 => field1 wk wp T w0
 subst hk
 have HR := hid h
 have hrl := h.lt
 have hql := h.ltq
 have hal := h.lta
 clear h hx hT hg hm hres
 go_enter Tryz.func30, Tryz.ntmps30
 obtain ⟨w0, hw0, hz0, N0, B0⟩ := made0 w r
 have R0 := hid (show Rq w0 r m A cap l qb qa i by rw [← hw0]; exact HR.out.alloc _)
 go_wp2_with fail
 try rw [hw0]
 refine (HWD.out _ R0.out).mono ?_
 rintro e w1 ⟨rfl, hb1⟩
 have zb1 : w0.heap.size ≤ w1.heap.size := hb1.size
 have N1 := hid (N0.out.below hb1)
 have B1 := hid (B0.out.next hb1)
 have R1 := hid (R0.out.below hb1)
 clear hb1
 go_wp2_with fail
 refine (HMK.out _ R1.out).mono ?_
 rintro e w2 ⟨rfl, hb2⟩
 have zb2 := hb2.size
 have N2 := hid (N1.out.below hb2)
 have B2 := hid (B1.out.next hb2)
 have R2 := hid (R1.out.below hb2)
 clear hb2
 go_wp2_with fail
 refine (HNM.out _ R2.out).mono ?_
 rintro e w3 ⟨o1, t1, X, n, k, rfl, hn1, hb1, hr1⟩
 dsimp only at hn1 hr1
 have I3 := hid (giveN_pass (w := w) hn1 (by omega))
 have B3 := hid (B2.out.trans hb1)
 have R3 := hid hr1
 have N3 := hid (N2.out.but (by omega) hb1)
 clear hn1 hb1 hr1
 obtain ⟨x0, x1, x2, xf⟩ := N3.out
 have zn := N3.out.lt
 obtain ⟨q9, hq⟩ : ∃ q9, (!b) = q9 := ⟨_, rfl⟩
 go_wp2
 have Y := N3.out.set (.string o1) (.string t1) (.slice X n k)
 exact bodyPost_ret (v := .tuple #[.agg #[.string o1, .string t1, .slice X n k], .bool (!b)]) (by simp [results, Tryz.results30, go_sem, Y.c0, Y.c1, Y.c2, hq]) rfl
  (giveN_ret I3.out B3.out R3.out hrl hql hal)
theorem pquery_other (hg : Good l) (i : Nat) (w : World) (h : Rq w r m A cap l qb qa i) (hi : i ≤ l.length) (hk : (wd l i).1 = 0) (hm : isW (Code.bare l) (i + 1) false [40] = true) (hT0 : (wd l i).2.1 ∉ opsQ) :
  Calls Tryz.prog 30 #[.pointer (some ⟨r, 0, none⟩)] w (GiveN r m A cap l qb qa w (nameP (Code.bare l) sFrom i)) := by
 have HNM := hid (fun w0 (h0 : Rq w0 r m A cap l qb qa i) => pname_any hg ⟨#[102, 114, 111, 109]⟩ i w0 h0 hi)
 rw [show (⟨#[102, 114, 111, 109]⟩ : ByteArray).data.toList = sFrom from rfl] at HNM
 obtain ⟨res, hres⟩ : ∃ res, nameP (Code.bare l) sFrom i = res := ⟨_, rfl⟩
 rw [hres] at HNM
 rw [hres]
 obtain ⟨TT, j, b⟩ := res
 have HMK := hid (fun w0 (h0 : Rq w0 r m A cap l qb qa i) => pmark_any i 1 ⟨#[40]⟩ w0 h0 hi hg.len (by decide) (by decide) true hm)
 have hll := hg.len
 have HWD := hid (fun w0 (h0 : Rq w0 r m A cap l qb qa i) => pword_any i 0 w0 h0 hi hll (by decide))
 rw [Nat.add_zero] at HWD
 unfold wv at HWD
 obtain ⟨x, hx⟩ : ∃ x, wd l i = x := ⟨_, rfl⟩
 have hfit : x.2.1.length ≤ 4194304 := by
  rw [← hx]
  by_cases hil : i < l.length
  ·rw [wd_in hil]; exact hg.fit l[i] (List.getElem_mem hil)
  ·rw [wd_out hil]; simp
 rw [hx] at HWD hk hT0
 obtain ⟨wk, wt, wp⟩ := x
 dsimp only at HWD hfit hk hT0
 obtain ⟨T, hT⟩ : ∃ T : ByteArray, ⟨wt.toArray⟩ = T := ⟨_, rfl⟩
 obtain rfl : wt = T.data.toList := by rw [← hT]
 rw [hT] at HWD
 have hTl : T.size ≤ maxLen := by have : T.size ≤ 4194304 := hfit; unfold maxLen; omega
 have hfd0 := fun w0 => field0 wk wp T w0
 have hfd1 := fun w0 => field1 wk wp T w0
 subst hk
 have hu9 := queries_none hT0
 have HR := hid h
 have hrl := h.lt
 have hql := h.ltq
 have hal := h.lta
 clear h hx hT hg hm hT0 hres
 go_enter Tryz.func30, Tryz.ntmps30
 obtain ⟨w0, hw0, hz0, N0, B0⟩ := made0 w r
 have R0 := hid (show Rq w0 r m A cap l qb qa i by rw [← hw0]; exact HR.out.alloc _)
 go_wp2_with fail
 try rw [hw0]
 refine (HWD.out _ R0.out).mono ?_
 rintro e w1 ⟨rfl, hb1⟩
 have zb1 : w0.heap.size ≤ w1.heap.size := hb1.size
 have N1 := hid (N0.out.below hb1)
 have B1 := hid (B0.out.next hb1)
 have R1 := hid (R0.out.below hb1)
 clear hb1
 go_wp2_with fail
 refine (HMK.out _ R1.out).mono ?_
 rintro e w2 ⟨rfl, hb2⟩
 have zb2 := hb2.size
 have N2 := hid (N1.out.below hb2)
 have B2 := hid (B1.out.next hb2)
 have R2 := hid (R1.out.below hb2)
 clear hb2
 go_upto_region 2 with fail
 refine wp_region_held_drew (S := fun w' => w'.cell? ⟨r, 2, none⟩ = some (.map (some qb)) ∧ MapR w' qb 6 queriesF) (by kernel_rfl) ⟨R2.out.c2, R2.out.mq⟩ (fun hHeld => ?_)
 refine take1 (v := ?_) 0 15 rfl ?_ ?_; rotate_left; (intro w hSw; (try dsimp only at hSw); go_simp; try with_reducible rfl); (try simp only [Act.put, List.setIfInBounds_toArray, List.set_cons_zero, List.set_cons_succ])
 refine take1 (v := ?_) 1 16 rfl ?_ ?_; rotate_left; (intro w hSw; (try dsimp only at hSw); go_simp; try with_reducible rfl); (try simp only [Act.put, List.setIfInBounds_toArray, List.set_cons_zero, List.set_cons_succ])
 refine take1 (v := ?_) 2 17 rfl ?_ ?_; rotate_left; (intro w hSw; (try dsimp only at hSw); go_simp; try with_reducible rfl); (try simp only [Act.put, List.setIfInBounds_toArray, List.set_cons_zero, List.set_cons_succ])
 refine take1 (v := ?_) 3 18 rfl ?_ ?_; rotate_left; (intro w hSw; (try dsimp only at hSw); go_simp; try with_reducible rfl); (try simp only [Act.put, List.setIfInBounds_toArray, List.set_cons_zero, List.set_cons_succ])
 refine take1 (v := ?_) 4 19 rfl ?_ ?_; rotate_left; (intro w hSw; (try dsimp only at hSw); go_simp; try with_reducible rfl); (try simp only [Act.put, List.setIfInBounds_toArray, List.set_cons_zero, List.set_cons_succ])
 refine wpAnyH_ready (rs := [5]) (by kernel_rfl) (by simp) ?_
 refine AllReadyH.cons (o := ⟨some 20, _, _, _, _, _⟩) rfl (fun K hK => ?_) AllReadyH.nil
 go_simp
 refine (HWD.out _ (R2.out.below (Below.drew (Below.refl _ _)))).mono ?_
 rintro e w3 ⟨rfl, hb3⟩
 have R3 := hid ((R2.out.below (Below.drew (Below.refl _ _))).below hb3)
 have zb3 : w2.heap.size ≤ w3.heap.size := hb3.size
 have N3 := hid ((N2.out.below (Below.drew (Below.refl _ _))).below hb3)
 have B3 := hid ((B2.out.next (Below.drew (Below.refl _ _))).next hb3)
 clear hb3
 refine hK.out _ _ ⟨R3.out.c2, R3.out.mq⟩ (fun hHeld2 => ?_)
 clear hK K
 (try simp only [Act.put, List.setIfInBounds_toArray, List.set_cons_zero, List.set_cons_succ])
 refine take1 (v := ?_) 6 21 rfl ?_ ?_; rotate_left; (intro w hSw; (try dsimp only at hSw); go_simp; try with_reducible rfl); (try simp only [Act.put, List.setIfInBounds_toArray, List.set_cons_zero, List.set_cons_succ])
 refine take1 (v := ?_) 7 22 rfl ?_ ?_; rotate_left; (intro w hSw; (try dsimp only at hSw); have hlk := run_lookq w _ _ _ hSw.2 T hTl _ hu9; go_simp; try with_reducible rfl); (try simp only [Act.put, List.setIfInBounds_toArray, List.set_cons_zero, List.set_cons_succ])
 refine take1 (v := ?_) 8 14 rfl ?_ ?_; rotate_left; (intro w hSw; (try dsimp only at hSw); go_simp; try with_reducible rfl); (try simp only [Act.put, List.setIfInBounds_toArray, List.set_cons_zero, List.set_cons_succ])
 refine take1 (v := ?_) 9 23 rfl ?_ ?_; rotate_left; (intro w hSw; (try dsimp only at hSw); go_simp; try with_reducible rfl); (try simp only [Act.put, List.setIfInBounds_toArray, List.set_cons_zero, List.set_cons_succ])
 refine take1 (v := ?_) 10 24 rfl ?_ ?_; rotate_left; (intro w hSw; (try dsimp only at hSw); go_simp; try with_reducible rfl); (try simp only [Act.put, List.setIfInBounds_toArray, List.set_cons_zero, List.set_cons_succ])
 refine take1 (v := ?_) 11 4 rfl ?_ ?_; rotate_left; (intro w hSw; (try dsimp only at hSw); go_simp; try with_reducible rfl); (try simp only [Act.put, List.setIfInBounds_toArray, List.set_cons_zero, List.set_cons_succ])
 refine take1 (v := ?_) 12 5 rfl ?_ ?_; rotate_left; (intro w hSw; (try dsimp only at hSw); go_simp; try with_reducible rfl); (try simp only [Act.put, List.setIfInBounds_toArray, List.set_cons_zero, List.set_cons_succ])
 refine wpAnyH_done (by kernel_rfl) ?_ _
 go_wp2_with fail
 refine (HNM.out _ R3.out).mono ?_
 rintro e w4 ⟨o1, t1, X, n, k, rfl, hn1, hb1, hr1⟩
 dsimp only at hn1 hr1
 have I4 := hid (giveN_pass (w := w) hn1 (by omega))
 have B4 := hid (B3.out.trans hb1)
 have R4 := hid hr1
 have N4 := hid (N3.out.but (by omega) hb1)
 clear hn1 hb1 hr1
 obtain ⟨x0, x1, x2, xf⟩ := N4.out
 have zn := N4.out.lt
 obtain ⟨q9, hq⟩ : ∃ q9, (!b) = q9 := ⟨_, rfl⟩
 go_wp2
 have Y := N4.out.set (.string o1) (.string t1) (.slice X n k)
 exact bodyPost_ret (v := .tuple #[.agg #[.string o1, .string t1, .slice X n k], .bool (!b)]) (by simp [results, Tryz.results30, go_sem, Y.c0, Y.c1, Y.c2, hq]) rfl
  (giveN_ret I4.out B4.out R4.out hrl hql hal)
theorem pquery_call (hg : Good l) (i : Nat) (w : World) (h : Rq w r m A cap l qb qa i) (hi : i ≤ l.length) (hil : i < l.length) (hk : (wd l i).1 = 0) (hm : isW (Code.bare l) (i + 1) false [40] = true) (hT0 : (wd l i).2.1 ∈ opsQ) (q : Nat → Res) (hqe : ∀ j, i + 2 ≤ j → j ≤ l.length → j ≤ (q j).2.1 ∧ (q j).2.1 ≤ l.length)
  (HQ : ∀ (j : Nat) (w1 : World), i + 2 ≤ j → j ≤ l.length → Rq w1 r m A cap l qb qa j → Calls Tryz.prog 30 #[.pointer (some ⟨r, 0, none⟩)] w1 (GiveN r m A cap l qb qa w1 (q j))) (res : Res) (hres : callP (Code.bare l) (partG (Code.bare l) q (txt (Code.bare l) i)) i = res) :
  Calls Tryz.prog 30 #[.pointer (some ⟨r, 0, none⟩)] w (GiveN r m A cap l qb qa w res) := by
 rw [txt_wd] at hres
 have HMK := hid (fun w0 (h0 : Rq w0 r m A cap l qb qa i) => pmark_any i 1 ⟨#[40]⟩ w0 h0 hi hg.len (by decide) (by decide) true hm)
 have hll := hg.len
 have HWD := hid (fun w0 (h0 : Rq w0 r m A cap l qb qa i) => pword_any i 0 w0 h0 hi hll (by decide))
 rw [Nat.add_zero] at HWD
 unfold wv at HWD
 obtain ⟨x, hx⟩ : ∃ x, wd l i = x := ⟨_, rfl⟩
 have hfit : x.2.1.length ≤ 4194304 := by
  rw [← hx]
  by_cases hil : i < l.length
  ·rw [wd_in hil]; exact hg.fit l[i] (List.getElem_mem hil)
  ·rw [wd_out hil]; simp
 rw [hx] at HWD hk hT0 hres
 obtain ⟨wk, wt, wp⟩ := x
 dsimp only at HWD hfit hk hT0 hres
 obtain ⟨T, hT⟩ : ∃ T : ByteArray, ⟨wt.toArray⟩ = T := ⟨_, rfl⟩
 obtain rfl : wt = T.data.toList := by rw [← hT]
 rw [hT] at HWD
 have hTl : T.size ≤ maxLen := by have : T.size ≤ 4194304 := hfit; unfold maxLen; omega
 have hfd0 := fun w0 => field0 wk wp T w0
 have hfd1 := fun w0 => field1 wk wp T w0
 subst hk
 obtain ⟨fn, hu9, en, HPF⟩ := query_fn (r := r) (m := m) (A := A) (cap := cap) (qb := qb) (qa := qa) hg hT0 (i + 2) q hqe HQ
 have HCA := hid (fun w0 (h0 : Rq w0 r m A cap l qb qa i) => pcall_any hg fn en (partG (Code.bare l) q T.data.toList) i w0 h0 hil (fun h2 w1 hr1 => HPF w1 h2 hr1) (fun h2 => by
  have := body_ends (L := Code.bare l) (q := q) (o := T.data.toList) (i := i + 2) (by rw [bare_length]; exact h2) (fun j h1 h3 => by rw [bare_length] at h3 ⊢; exact hqe j h1 h3)
  rw [bare_length] at this
  exact this))
 rw [hres] at HCA
 obtain ⟨TT, j, b⟩ := res
 have HR := hid h
 have hrl := h.lt
 have hql := h.ltq
 have hal := h.lta
 clear h hx hT hg hm hT0 hres hqe HQ
 go_enter Tryz.func30, Tryz.ntmps30
 obtain ⟨w0, hw0, hz0, N0, B0⟩ := made0 w r
 have R0 := hid (show Rq w0 r m A cap l qb qa i by rw [← hw0]; exact HR.out.alloc _)
 go_wp2_with fail
 try rw [hw0]
 refine (HWD.out _ R0.out).mono ?_
 rintro e w1 ⟨rfl, hb1⟩
 have zb1 : w0.heap.size ≤ w1.heap.size := hb1.size
 have N1 := hid (N0.out.below hb1)
 have B1 := hid (B0.out.next hb1)
 have R1 := hid (R0.out.below hb1)
 clear hb1
 go_wp2_with fail
 refine (HMK.out _ R1.out).mono ?_
 rintro e w2 ⟨rfl, hb2⟩
 have zb2 := hb2.size
 have N2 := hid (N1.out.below hb2)
 have B2 := hid (B1.out.next hb2)
 have R2 := hid (R1.out.below hb2)
 clear hb2
 go_upto_region 2 with fail
 refine wp_region_held_drew (S := fun w' => w'.cell? ⟨r, 2, none⟩ = some (.map (some qb)) ∧ MapR w' qb 6 queriesF) (by kernel_rfl) ⟨R2.out.c2, R2.out.mq⟩ (fun hHeld => ?_)
 refine take1 (v := ?_) 0 15 rfl ?_ ?_; rotate_left; (intro w hSw; (try dsimp only at hSw); go_simp; try with_reducible rfl); (try simp only [Act.put, List.setIfInBounds_toArray, List.set_cons_zero, List.set_cons_succ])
 refine take1 (v := ?_) 1 16 rfl ?_ ?_; rotate_left; (intro w hSw; (try dsimp only at hSw); go_simp; try with_reducible rfl); (try simp only [Act.put, List.setIfInBounds_toArray, List.set_cons_zero, List.set_cons_succ])
 refine take1 (v := ?_) 2 17 rfl ?_ ?_; rotate_left; (intro w hSw; (try dsimp only at hSw); go_simp; try with_reducible rfl); (try simp only [Act.put, List.setIfInBounds_toArray, List.set_cons_zero, List.set_cons_succ])
 refine take1 (v := ?_) 3 18 rfl ?_ ?_; rotate_left; (intro w hSw; (try dsimp only at hSw); go_simp; try with_reducible rfl); (try simp only [Act.put, List.setIfInBounds_toArray, List.set_cons_zero, List.set_cons_succ])
 refine take1 (v := ?_) 4 19 rfl ?_ ?_; rotate_left; (intro w hSw; (try dsimp only at hSw); go_simp; try with_reducible rfl); (try simp only [Act.put, List.setIfInBounds_toArray, List.set_cons_zero, List.set_cons_succ])
 refine wpAnyH_ready (rs := [5]) (by kernel_rfl) (by simp) ?_
 refine AllReadyH.cons (o := ⟨some 20, _, _, _, _, _⟩) rfl (fun K hK => ?_) AllReadyH.nil
 go_simp
 refine (HWD.out _ (R2.out.below (Below.drew (Below.refl _ _)))).mono ?_
 rintro e w3 ⟨rfl, hb3⟩
 have R3 := hid ((R2.out.below (Below.drew (Below.refl _ _))).below hb3)
 have zb3 : w2.heap.size ≤ w3.heap.size := hb3.size
 have N3 := hid ((N2.out.below (Below.drew (Below.refl _ _))).below hb3)
 have B3 := hid ((B2.out.next (Below.drew (Below.refl _ _))).next hb3)
 clear hb3
 refine hK.out _ _ ⟨R3.out.c2, R3.out.mq⟩ (fun hHeld2 => ?_)
 clear hK K
 (try simp only [Act.put, List.setIfInBounds_toArray, List.set_cons_zero, List.set_cons_succ])
 refine take1 (v := ?_) 6 21 rfl ?_ ?_; rotate_left; (intro w hSw; (try dsimp only at hSw); go_simp; try with_reducible rfl); (try simp only [Act.put, List.setIfInBounds_toArray, List.set_cons_zero, List.set_cons_succ])
 refine take1 (v := ?_) 7 22 rfl ?_ ?_; rotate_left; (intro w hSw; (try dsimp only at hSw); have hlk := run_lookq w _ _ _ hSw.2 T hTl _ hu9; go_simp; try with_reducible rfl); (try simp only [Act.put, List.setIfInBounds_toArray, List.set_cons_zero, List.set_cons_succ])
 refine take1 (v := ?_) 8 14 rfl ?_ ?_; rotate_left; (intro w hSw; (try dsimp only at hSw); go_simp; try with_reducible rfl); (try simp only [Act.put, List.setIfInBounds_toArray, List.set_cons_zero, List.set_cons_succ])
 refine take1 (v := ?_) 9 23 rfl ?_ ?_; rotate_left; (intro w hSw; (try dsimp only at hSw); go_simp; try with_reducible rfl); (try simp only [Act.put, List.setIfInBounds_toArray, List.set_cons_zero, List.set_cons_succ])
 refine take1 (v := ?_) 10 24 rfl ?_ ?_; rotate_left; (intro w hSw; (try dsimp only at hSw); go_simp; try with_reducible rfl); (try simp only [Act.put, List.setIfInBounds_toArray, List.set_cons_zero, List.set_cons_succ])
 refine take1 (v := ?_) 11 4 rfl ?_ ?_; rotate_left; (intro w hSw; (try dsimp only at hSw); go_simp; try with_reducible rfl); (try simp only [Act.put, List.setIfInBounds_toArray, List.set_cons_zero, List.set_cons_succ])
 refine take1 (v := ?_) 12 5 rfl ?_ ?_; rotate_left; (intro w hSw; (try dsimp only at hSw); go_simp; try with_reducible rfl); (try simp only [Act.put, List.setIfInBounds_toArray, List.set_cons_zero, List.set_cons_succ])
 refine wpAnyH_done (by kernel_rfl) ?_ _
 go_wp2_with fail
 refine (HCA.out _ R3.out).mono ?_
 rintro e w4 ⟨o1, t1, X, n, k, rfl, hn1, hb1, hr1⟩
 dsimp only at hn1 hr1
 have I4 := hid (giveN_pass (w := w) hn1 (by omega))
 have B4 := hid (B3.out.trans hb1)
 have R4 := hid hr1
 have N4 := hid (N3.out.but (by omega) hb1)
 clear hn1 hb1 hr1
 obtain ⟨x0, x1, x2, xf⟩ := N4.out
 have zn := N4.out.lt
 obtain ⟨q9, hq⟩ : ∃ q9, (!b) = q9 := ⟨_, rfl⟩
 go_wp2
 have Y := N4.out.set (.string o1) (.string t1) (.slice X n k)
 exact bodyPost_ret (v := .tuple #[.agg #[.string o1, .string t1, .slice X n k], .bool (!b)]) (by simp [results, Tryz.results30, go_sem, Y.c0, Y.c1, Y.c2, hq]) rfl
  (giveN_ret I4.out B4.out R4.out hrl hql hal)
theorem pquery_step (hg : Good l) (i : Nat) (w : World) (h : Rq w r m A cap l qb qa i) (hi : i ≤ l.length) (q : Nat → Res) (hqe : ∀ j, i + 2 ≤ j → j ≤ l.length → j ≤ (q j).2.1 ∧ (q j).2.1 ≤ l.length)
  (HQ : ∀ (j : Nat) (w1 : World), i + 2 ≤ j → j ≤ l.length → Rq w1 r m A cap l qb qa j → Calls Tryz.prog 30 #[.pointer (some ⟨r, 0, none⟩)] w1 (GiveN r m A cap l qb qa w1 (q j))) :
  Calls Tryz.prog 30 #[.pointer (some ⟨r, 0, none⟩)] w (GiveN r m A cap l qb qa w (queryP (Code.bare l) q i)) := by
 obtain ⟨res, hres⟩ : ∃ res, queryP (Code.bare l) q i = res := ⟨_, rfl⟩
 rw [hres]
 unfold queryP at hres
 by_cases hil : i < l.length
 ·rw [isK_wd hil] at hres
  by_cases hk : (wd l i).1 = 0
  ·have e1 : ((wd l i).1 == 0) = true := by simp [hk]
   rw [e1, Bool.true_and] at hres
   cases hm : isW (Code.bare l) (i + 1) false [40] with
   | false =>
    rw [hm, if_neg (by simp)] at hres
    subst hres
    exact pquery_nomark hg i w h hi hk hm
   | true =>
    rw [hm, Bool.true_and] at hres
    by_cases hT0 : (wd l i).2.1 ∈ opsQ
    ·rw [if_pos (by rw [txt_wd]; simpa using hT0)] at hres
     exact pquery_call hg i w h hi hil hk hm hT0 q hqe HQ res hres
    ·rw [if_neg (by rw [txt_wd]; simpa using hT0)] at hres
     subst hres
     exact pquery_other hg i w h hi hk hm hT0
  ·have e1 : ((wd l i).1 == 0) = false := by simp [hk]
   rw [e1, if_neg (by simp)] at hres
   subst hres
   exact pquery_kind hg i w h hi hk
 ·rw [isK_out hil, if_neg (by simp)] at hres
  subst hres
  have h0 := wd_out hil
  exact pquery_nomark hg i w h hi (by rw [h0]) (isW_out (by omega) _ _)
theorem pquery_all (hg : Good l) : ∀ (f i : Nat) (w : World), Rq w r m A cap l qb qa i → i ≤ l.length → l.length - i < f → Calls Tryz.prog 30 #[.pointer (some ⟨r, 0, none⟩)] w (GiveN r m A cap l qb qa w (qq (Code.bare l) f i false))
 | 0, _, _, _, _, h => absurd h (Nat.not_lt_zero _)
 | f + 1, i, w, h, hi, hf => by
  have hb := bare_length l
  refine (pquery_step hg i w h hi (fun j => qq (Code.bare l) f j false) (fun j h1 h2 => ?_) (fun j w1 h1 h2 h3 => pquery_all hg f j w1 h3 h2 (by omega))).mono fun e w' hp => hp.sim (query_sim f (by rw [hb]; exact hi) (by rw [hb]; exact hg.len)).symm
  have := qq_ends (Code.bare l) f j false (by rw [hb]; exact h2)
  exact ⟨this.1, by rw [← hb]; exact this.2.1⟩
end
end Go.Proofs.YtjbpkpfmgbhlpaaGreatDoor.Code
/-
  The program's maps of what a word begins.
-/
namespace Go.Proofs.YtjbpkpfmgbhlpaaGreatDoor.Code
open Go.ChangeMaps Go.MapKept Go.ChangeShapes Go.WideShapes Go.ChangeAt Go.RowKit Val Elems
set_option linter.unusedVariables false
set_option linter.unusedSimpArgs false
theorem pqueries_any (w : World) :
  Calls Tryz.prog 28 #[] w fun e w' => ∃ mb, e = .returned (.map (some mb)) ∧ MapR w' mb 6 queriesF ∧ w.heap.size ≤ mb ∧ Below w.heap.size w w' := by
 have hmm := @run_makeMap Tryz.prog
 have M0 := hid (mapR_made w)
 have L0 := hid (below_alloc w (.map #[] 0))
 go_enter Tryz.func28, Tryz.ntmps28
 go_wp2_with (refine wpList_insp _ rfl _ _ _ rfl w.heap.size 0 _ rfl M0.out (by decide) ⟨#[102, 105, 108, 116, 101, 114]⟩ rfl (by decide) _ rfl ?_)
 intro w1 m1 g1 s1
 have M1 := hid m1
 have L1 := hid (L0.out.grown g1 L0.out.size (fun k hk => by cases hk; exact Nat.le_refl _))
 clear m1 g1 s1
 go_wp2_with (refine wpList_insp _ rfl _ _ _ rfl w.heap.size 1 _ rfl M1.out (by decide) ⟨#[112, 114, 111, 106, 101, 99, 116]⟩ rfl (by decide) _ rfl ?_)
 intro w2 m2 g2 s2
 have M2 := hid m2
 have L2 := hid (L1.out.grown g2 L1.out.size (fun k hk => by cases hk; exact Nat.le_refl _))
 clear m2 g2 s2
 go_wp2_with (refine wpList_insp _ rfl _ _ _ rfl w.heap.size 2 _ rfl M2.out (by decide) ⟨#[106, 111, 105, 110]⟩ rfl (by decide) _ rfl ?_)
 intro w3 m3 g3 s3
 have M3 := hid m3
 have L3 := hid (L2.out.grown g3 L2.out.size (fun k hk => by cases hk; exact Nat.le_refl _))
 clear m3 g3 s3
 go_wp2_with (refine wpList_insp _ rfl _ _ _ rfl w.heap.size 3 _ rfl M3.out (by decide) ⟨#[117, 110, 105, 111, 110]⟩ rfl (by decide) _ rfl ?_)
 intro w4 m4 g4 s4
 have M4 := hid m4
 have L4 := hid (L3.out.grown g4 L3.out.size (fun k hk => by cases hk; exact Nat.le_refl _))
 clear m4 g4 s4
 go_wp2_with (refine wpList_insp _ rfl _ _ _ rfl w.heap.size 4 _ rfl M4.out (by decide) ⟨#[100, 105, 115, 116, 105, 110, 99, 116]⟩ rfl (by decide) _ rfl ?_)
 intro w5 m5 g5 s5
 have M5 := hid m5
 have L5 := hid (L4.out.grown g5 L4.out.size (fun k hk => by cases hk; exact Nat.le_refl _))
 clear m5 g5 s5
 go_wp2_with (refine wpList_insp _ rfl _ _ _ rfl w.heap.size 5 _ rfl M5.out (by decide) ⟨#[103, 114, 111, 117, 112]⟩ rfl (by decide) _ rfl ?_)
 intro w6 m6 g6 s6
 have M6 := hid m6
 have L6 := hid (L5.out.grown g6 L5.out.size (fun k hk => by cases hk; exact Nat.le_refl _))
 clear m6 g6 s6
 go_wp2
 go_ret
 exact ⟨w.heap.size, rfl, M6.out, Nat.le_refl _, L6.out⟩
theorem paggs_any (w : World) :
  Calls Tryz.prog 29 #[] w fun e w' => ∃ mb, e = .returned (.map (some mb)) ∧ MapR w' mb 4 aggsF ∧ w.heap.size ≤ mb ∧ Below w.heap.size w w' := by
 have hmm := @run_makeMap Tryz.prog
 have M0 := hid (mapR_made w)
 have L0 := hid (below_alloc w (.map #[] 0))
 go_enter Tryz.func29, Tryz.ntmps29
 go_wp2_with (refine wpList_insp _ rfl _ _ _ rfl w.heap.size 0 _ rfl M0.out (by decide) ⟨#[99, 111, 117, 110, 116]⟩ rfl (by decide) _ rfl ?_)
 intro w1 m1 g1 s1
 have M1 := hid m1
 have L1 := hid (L0.out.grown g1 L0.out.size (fun k hk => by cases hk; exact Nat.le_refl _))
 clear m1 g1 s1
 go_wp2_with (refine wpList_insp _ rfl _ _ _ rfl w.heap.size 1 _ rfl M1.out (by decide) ⟨#[115, 117, 109]⟩ rfl (by decide) _ rfl ?_)
 intro w2 m2 g2 s2
 have M2 := hid m2
 have L2 := hid (L1.out.grown g2 L1.out.size (fun k hk => by cases hk; exact Nat.le_refl _))
 clear m2 g2 s2
 go_wp2_with (refine wpList_insp _ rfl _ _ _ rfl w.heap.size 2 _ rfl M2.out (by decide) ⟨#[109, 105, 110]⟩ rfl (by decide) _ rfl ?_)
 intro w3 m3 g3 s3
 have M3 := hid m3
 have L3 := hid (L2.out.grown g3 L2.out.size (fun k hk => by cases hk; exact Nat.le_refl _))
 clear m3 g3 s3
 go_wp2_with (refine wpList_insp _ rfl _ _ _ rfl w.heap.size 3 _ rfl M3.out (by decide) ⟨#[109, 97, 120]⟩ rfl (by decide) _ rfl ?_)
 intro w4 m4 g4 s4
 have M4 := hid m4
 have L4 := hid (L3.out.grown g4 L3.out.size (fun k hk => by cases hk; exact Nat.le_refl _))
 clear m4 g4 s4
 go_wp2
 go_ret
 exact ⟨w.heap.size, rfl, M4.out, Nat.le_refl _, L4.out⟩
end Go.Proofs.YtjbpkpfmgbhlpaaGreatDoor.Code
/-
  The document's reader of queries: an Agg.
-/
namespace Go.Proofs.YtjbpkpfmgbhlpaaGreatDoor.Code
open Go.ChangeShapes Go.WideShapes Go.ChangeAt Go.RowKit Val Elems
set_option linter.unusedVariables false
set_option linter.unusedSimpArgs false
section
variable {r q : Nat} {A : Option Addr} {cap : Nat} {l : List W} {w w' w8 : World} {gn : Nat} {o : ByteArray} {ks : List Nod} {xs : List NV} {g cp j : Nat} {c : Bool}
end
end Go.Proofs.YtjbpkpfmgbhlpaaGreatDoor.Code
