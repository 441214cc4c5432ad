/-
  The document's reader of queries: a by.
-/
import Derived.Test.YthpmgnfmeldkjaaGreatDoorSm18
import Derived.Test.YthpmgnfmeldkjaaGreatDoorSm7
import Derived.Test.YthpmgnfmeldkjaaGreatDoorSm10
set_option maxRecDepth 100000
set_option maxHeartbeats 16000000
set_option linter.unusedVariables false
set_option linter.unusedSimpArgs false
open Go.Lib (hid)
namespace Go.Proofs.YthpmgnfmeldkjaaGreatDoor.Code
open Go.ChangeShapes Go.WideShapes Go.ChangeAt Go.RowKit Val Elems
def by0Q (L : List V) (i : Nat) (b : Bool) : Res := if hasQ L i b = true then (.mk sBy [] (namesQ L (L.length + 1) (i + 1) b).1, (namesQ L (L.length + 1) (i + 1) b).2) else (.mk sBy [] [], i, b)
def GetB (r q : Nat) (A : Option Addr) (cap : Nat) (l : List W) (w : World) (has : Bool) (res : Res) (e : Ending) (w' : World) : Prop :=
 ∃ (op tx : ByteArray) (X : Option Addr) (n k : Nat), e = .returned (.tuple #[.agg #[.string op, .string tx, .slice X n k], .bool has]) ∧ RIn w' (New w w') res.1 (op, tx, X, n, k) ∧ But w w' r ∧ QRd w' r q A cap l res.2.1 res.2.2
theorem by_none {r q : Nat} {A : Option Addr} {cap : Nat} {l : List W} {w w' : World} {i : Nat} {b : Bool} (hb : But w w' r) (hr : QRd w' r q A cap l i b) : GetB r q A cap l w false (.mk sBy [] [], i, b) (.returned (.tuple #[.agg #[.string ⟨#[98, 121]⟩, .string ⟨#[]⟩, .slice none 0 0], .bool false])) w' :=
 ⟨_, _, _, _, _, rfl, RIn.leafN _ _ ⟨#[98, 121]⟩ ⟨#[]⟩, hb, hr⟩
theorem qby_none (r q : Nat) (A : Option Addr) (cap : Nat) (l : List W) (i : Nat) (b : Bool) (w : World) (h : QRd w r q A cap l i b) (hi : i ≤ l.length) (hl : l.length ≤ 4194304) (hk : isK (bare l) i b 0 = false) :
  Calls Tryz.prog 183 #[.pointer (some ⟨q, 0, none⟩)] w (GetB r q A cap l w false (.mk sBy [] [], i, b)) := by
 have HR := hid h
 have zr := h.lt
 have zq := h.ltq
 have HK := hid (fun (w' : World) (h' : QRd w' r q A cap l i b) => rkind_any r A cap l i b 0 w' h'.rd hi hl)
 rw [hk] at HK
 clear h hk
 go_enter Tryz.func183, Tryz.ntmps183
 obtain ⟨wa, hwa⟩ : ∃ wa, w.alloc (.cells #[.string ⟨#[]⟩, .string ⟨#[]⟩, .slice none 0 0] 24) = wa := ⟨_, rfl⟩
 obtain ⟨w0, hw0⟩ : ∃ w0, wa.alloc (.cells #[.string ⟨#[98, 121]⟩, .string ⟨#[]⟩, .slice none 0 0] 24) = w0 := ⟨_, rfl⟩
 have hza : wa.heap.size = w.heap.size + 1 := by rw [← hwa]; simp
 have hz0 : w0.heap.size = w.heap.size + 2 := by rw [← hw0, ← hwa]; simp
 have N0 := hid (show NBox w0 w.heap.size (.string ⟨#[]⟩) (.string ⟨#[]⟩) (.slice none 0 0) by rw [← hw0, ← hwa]; exact (NBox.fresh _ _ _ _ _).alloc _)
 have M0 := hid (show NBox w0 (w.heap.size + 1) (.string ⟨#[98, 121]⟩) (.string ⟨#[]⟩) (.slice none 0 0) by rw [← hw0, ← hza]; exact NBox.fresh _ _ _ _ _)
 have R0 := hid (show QRd w0 r q A cap l i b by rw [← hw0, ← hwa]; exact (HR.out.alloc _).alloc _)
 have B0 := hid (show But w w0 r by rw [← hw0, ← hwa]; exact ((But.refl w r).alloc _).alloc _)
 rw [← hwa] at hw0
 have cq := R0.out.cq
 rw [← hw0] at cq
 have HW0 := hid hw0
 clear hwa hza hw0 wa
 go_wp2_with fail
 rw [HW0.out]
 refine (HK.out _ R0.out).mono ?_
 rintro e w1 ⟨rfl, hb1⟩
 have zb1 := hb1.size
 have N1 := hid (N0.out.below hb1)
 have M1 := hid (M0.out.below hb1)
 have R1 := hid (R0.out.below hb1)
 have B1 := hid (B0.out.next hb1)
 clear hb1 cq HW0
 go_wp2
 refine wp_region_quiet_lit (by kernel_rfl) (by kernel_rfl) ?_
 repeat (with_reducible refine wpQuiet_step ?_; intro K hK; go_simp; with_reducible refine hK _ ?_; clear hK K)
 refine wpQuiet_nil ?_
 intro _ hw'
 obtain ⟨nq, hw''⟩ := hw'
 subst hw''
 obtain ⟨w2, hw2⟩ : ∃ w2, w1.drewN nq = w2 := ⟨_, rfl⟩
 have hbd : Below w1.heap.size w1 w2 := by rw [← hw2]; exact drewN_below (Below.refl _ _) _
 have zb2 := hbd.size
 have N2 := hid (N1.out.below hbd)
 have M2 := hid (M1.out.below hbd)
 have R2 := hid (R1.out.below hbd)
 have B2 := hid (B1.out.next hbd)
 rw [hw2]
 clear hw2 hbd
 obtain ⟨x0, x1, x2, xf⟩ := N2.out
 obtain ⟨y0, y1, y2, yf⟩ := M2.out
 go_wp2
 have Y := N2.out.set (.string ⟨#[98, 121]⟩) (.string ⟨#[]⟩) (.slice none 0 0)
 exact bodyPost_ret (v := .tuple #[.agg #[.string ⟨#[98, 121]⟩, .string ⟨#[]⟩, .slice none 0 0], .bool false]) (by simp [results, Tryz.results183, go_sem, Y.c0, Y.c1, Y.c2]) rfl
  (by_none (W3.but B2.out (Nat.le_refl _) _ _ _) (R2.out.w3 zr (by omega) _ _ _))
theorem qby_other (r q : Nat) (A : Option Addr) (cap : Nat) (l : List W) (i : Nat) (b : Bool) (w : World) (h : QRd w r q A cap l i b) (hi : i ≤ l.length) (hl : l.length ≤ 4194304) (hk : isK (bare l) i b 0 = true) (hil : i < l.length) (htx : l[i].2.1 ≠ sBy) :
  Calls Tryz.prog 183 #[.pointer (some ⟨q, 0, none⟩)] w (GetB r q A cap l w false (.mk sBy [] [], i, b)) := by
 have HR := hid h
 have zr := h.lt
 have zq := h.ltq
 have HK := hid (fun (w' : World) (h' : QRd w' r q A cap l i b) => rkind_any r A cap l i b 0 w' h'.rd hi hl)
 obtain ⟨ad, rfl, ha, d0, d1, d2⟩ := at_word h.rd.ws i hil
 obtain ⟨t, htt⟩ : ∃ t, l[i].2.1 = t := ⟨_, rfl⟩
 rw [htt] at d1
 obtain ⟨T, hT⟩ : ∃ T : ByteArray, ⟨t.toArray⟩ = T := ⟨_, rfl⟩
 have hTt : t = T.data.toList := by rw [← hT]
 rw [hT] at d1
 have za : (ad.add (i * 3)).block < w.heap.size := by rw [add_block]; omega
 have HD := hid (fun (w' : World) (hb : But w w' r) => show w'.cell? ⟨(ad.add (i * 3)).block, (ad.add (i * 3)).off + 1, none⟩ = some (.string T) from (hb.cell (q := ⟨(ad.add (i * 3)).block, (ad.add (i * 3)).off + 1, none⟩) za (by show (ad.add (i * 3)).block ≠ r; rw [add_block]; omega)).trans d1)
 have e3 : (i : Int) < (l.length : Int) := by omega
 have hTs : T ≠ ⟨#[98, 121]⟩ := fun e => htx (by rw [htt, hTt, e]; rfl)
 have f2 : (T.toList == [98, 121]) = false := by
  have h := toList_ne hTs
  rw [ByteArray.toList_eq ⟨#[98, 121]⟩] at h
  exact h
 rw [hk] at HK
 clear h hk htx d0 d1 d2 hTt hT htt hTs
 go_enter Tryz.func183, Tryz.ntmps183
 obtain ⟨wa, hwa⟩ : ∃ wa, w.alloc (.cells #[.string ⟨#[]⟩, .string ⟨#[]⟩, .slice none 0 0] 24) = wa := ⟨_, rfl⟩
 obtain ⟨w0, hw0⟩ : ∃ w0, wa.alloc (.cells #[.string ⟨#[98, 121]⟩, .string ⟨#[]⟩, .slice none 0 0] 24) = w0 := ⟨_, rfl⟩
 have hza : wa.heap.size = w.heap.size + 1 := by rw [← hwa]; simp
 have hz0 : w0.heap.size = w.heap.size + 2 := by rw [← hw0, ← hwa]; simp
 have N0 := hid (show NBox w0 w.heap.size (.string ⟨#[]⟩) (.string ⟨#[]⟩) (.slice none 0 0) by rw [← hw0, ← hwa]; exact (NBox.fresh _ _ _ _ _).alloc _)
 have M0 := hid (show NBox w0 (w.heap.size + 1) (.string ⟨#[98, 121]⟩) (.string ⟨#[]⟩) (.slice none 0 0) by rw [← hw0, ← hza]; exact NBox.fresh _ _ _ _ _)
 have R0 := hid (show QRd w0 r q (some ad) cap l i b by rw [← hw0, ← hwa]; exact (HR.out.alloc _).alloc _)
 have B0 := hid (show But w w0 r by rw [← hw0, ← hwa]; exact ((But.refl w r).alloc _).alloc _)
 rw [← hwa] at hw0
 have cq := R0.out.cq
 rw [← hw0] at cq
 have HW0 := hid hw0
 clear hwa hza hw0 wa
 go_wp2_with fail
 rw [HW0.out]
 refine (HK.out _ R0.out).mono ?_
 rintro e w1 ⟨rfl, hb1⟩
 have zb1 := hb1.size
 have N1 := hid (N0.out.below hb1)
 have M1 := hid (M0.out.below hb1)
 have R1 := hid (R0.out.below hb1)
 have B1 := hid (B0.out.next hb1)
 clear hb1 cq HW0
 have c0 := R1.out.rd.c0
 have c1 := R1.out.rd.c1
 have cq := R1.out.cq
 have d1 := HD.out _ B1.out
 go_wp2
 go_quiet (fail)
 obtain ⟨w2, hw2⟩ : ∃ w2, w1.drewN nq = w2 := ⟨_, rfl⟩
 have hbd : Below w1.heap.size w1 w2 := by rw [← hw2]; exact drewN_below (Below.refl _ _) _
 have zb2 := hbd.size
 have N2 := hid (N1.out.below hbd)
 have M2 := hid (M1.out.below hbd)
 have R2 := hid (R1.out.below hbd)
 have B2 := hid (B1.out.next hbd)
 rw [hw2]
 clear hw2 hbd
 clear c0 c1 cq d1
 obtain ⟨x0, x1, x2, xf⟩ := N2.out
 obtain ⟨y0, y1, y2, yf⟩ := M2.out
 go_wp2
 have Y := N2.out.set (.string ⟨#[98, 121]⟩) (.string ⟨#[]⟩) (.slice none 0 0)
 exact bodyPost_ret (v := .tuple #[.agg #[.string ⟨#[98, 121]⟩, .string ⟨#[]⟩, .slice none 0 0], .bool false]) (by simp [results, Tryz.results183, go_sem, Y.c0, Y.c1, Y.c2]) rfl
  (by_none (W3.but B2.out (Nat.le_refl _) _ _ _) (R2.out.w3 zr (by omega) _ _ _))
theorem qby_agg (r q : Nat) (A : Option Addr) (cap : Nat) (l : List W) (i : Nat) (b : Bool) (w : World) (h : QRd w r q A cap l i b) (hi : i ≤ l.length) (hl : l.length ≤ 4194304) (hk : isK (bare l) i b 0 = true) (hil : i < l.length) (htx : l[i].2.1 = sBy) (hw : wordQ (bare l) i b sBy [61] = true) :
  Calls Tryz.prog 183 #[.pointer (some ⟨q, 0, none⟩)] w (GetB r q A cap l w false (.mk sBy [] [], i, b)) := by
 have HR := hid h
 have zr := h.lt
 have zq := h.ltq
 have HK := hid (fun (w' : World) (h' : QRd w' r q A cap l i b) => rkind_any r A cap l i b 0 w' h'.rd hi hl)
 obtain ⟨ad, rfl, ha, d0, d1, d2⟩ := at_word h.rd.ws i hil
 obtain ⟨t, htt⟩ : ∃ t, l[i].2.1 = t := ⟨_, rfl⟩
 rw [htt] at d1
 obtain ⟨T, hT⟩ : ∃ T : ByteArray, ⟨t.toArray⟩ = T := ⟨_, rfl⟩
 have hTt : t = T.data.toList := by rw [← hT]
 rw [hT] at d1
 have za : (ad.add (i * 3)).block < w.heap.size := by rw [add_block]; omega
 have HD := hid (fun (w' : World) (hb : But w w' r) => show w'.cell? ⟨(ad.add (i * 3)).block, (ad.add (i * 3)).off + 1, none⟩ = some (.string T) from (hb.cell (q := ⟨(ad.add (i * 3)).block, (ad.add (i * 3)).off + 1, none⟩) za (by show (ad.add (i * 3)).block ≠ r; rw [add_block]; omega)).trans d1)
 have e3 : (i : Int) < (l.length : Int) := by omega
 obtain rfl : T = ⟨#[98, 121]⟩ := by rw [← hT, ← htt, htx]; rfl
 rw [hk] at HK
 have HW := hid (fun (w' : World) (h' : QRd w' r q (some ad) cap l i b) => qword_any r q (some ad) cap l i b ⟨#[98, 121]⟩ ⟨#[61]⟩ w' h' hi hl)
 rw [show (⟨#[98, 121]⟩ : ByteArray).data.toList = sBy from rfl, show (⟨#[61]⟩ : ByteArray).data.toList = [61] from rfl, hw] at HW
 clear h hk htx hw d0 d1 d2 hTt hT htt
 go_enter Tryz.func183, Tryz.ntmps183
 obtain ⟨wa, hwa⟩ : ∃ wa, w.alloc (.cells #[.string ⟨#[]⟩, .string ⟨#[]⟩, .slice none 0 0] 24) = wa := ⟨_, rfl⟩
 obtain ⟨w0, hw0⟩ : ∃ w0, wa.alloc (.cells #[.string ⟨#[98, 121]⟩, .string ⟨#[]⟩, .slice none 0 0] 24) = w0 := ⟨_, rfl⟩
 have hza : wa.heap.size = w.heap.size + 1 := by rw [← hwa]; simp
 have hz0 : w0.heap.size = w.heap.size + 2 := by rw [← hw0, ← hwa]; simp
 have N0 := hid (show NBox w0 w.heap.size (.string ⟨#[]⟩) (.string ⟨#[]⟩) (.slice none 0 0) by rw [← hw0, ← hwa]; exact (NBox.fresh _ _ _ _ _).alloc _)
 have M0 := hid (show NBox w0 (w.heap.size + 1) (.string ⟨#[98, 121]⟩) (.string ⟨#[]⟩) (.slice none 0 0) by rw [← hw0, ← hza]; exact NBox.fresh _ _ _ _ _)
 have R0 := hid (show QRd w0 r q (some ad) cap l i b by rw [← hw0, ← hwa]; exact (HR.out.alloc _).alloc _)
 have B0 := hid (show But w w0 r by rw [← hw0, ← hwa]; exact ((But.refl w r).alloc _).alloc _)
 rw [← hwa] at hw0
 have cq := R0.out.cq
 rw [← hw0] at cq
 have HW0 := hid hw0
 clear hwa hza hw0 wa
 go_wp2_with fail
 rw [HW0.out]
 refine (HK.out _ R0.out).mono ?_
 rintro e w1 ⟨rfl, hb1⟩
 have zb1 := hb1.size
 have N1 := hid (N0.out.below hb1)
 have M1 := hid (M0.out.below hb1)
 have R1 := hid (R0.out.below hb1)
 have B1 := hid (B0.out.next hb1)
 clear hb1 cq HW0
 have c0 := R1.out.rd.c0
 have c1 := R1.out.rd.c1
 have cq := R1.out.cq
 have d1 := HD.out _ B1.out
 go_wp2
 go_quiet (fail)
 obtain ⟨w2, hw2⟩ : ∃ w2, w1.drewN nq = w2 := ⟨_, rfl⟩
 have hbd : Below w1.heap.size w1 w2 := by rw [← hw2]; exact drewN_below (Below.refl _ _) _
 have zb2 := hbd.size
 have N2 := hid (N1.out.below hbd)
 have M2 := hid (M1.out.below hbd)
 have R2 := hid (R1.out.below hbd)
 have B2 := hid (B1.out.next hbd)
 rw [hw2]
 clear hw2 hbd
 clear c0 c1 cq d1
 have cq := R2.out.cq
 go_wp2_with fail
 refine (HW.out _ R2.out).mono ?_
 rintro e w3 ⟨rfl, hb3⟩
 have zb3 := hb3.size
 have N3 := hid (N2.out.below hb3)
 have M3 := hid (M2.out.below hb3)
 have R3 := hid (R2.out.below hb3)
 have B3 := hid (B2.out.next hb3)
 clear hb3 cq
 obtain ⟨x0, x1, x2, xf⟩ := N3.out
 obtain ⟨y0, y1, y2, yf⟩ := M3.out
 go_wp2
 have Y := N3.out.set (.string ⟨#[98, 121]⟩) (.string ⟨#[]⟩) (.slice none 0 0)
 exact bodyPost_ret (v := .tuple #[.agg #[.string ⟨#[98, 121]⟩, .string ⟨#[]⟩, .slice none 0 0], .bool false]) (by simp [results, Tryz.results183, go_sem, Y.c0, Y.c1, Y.c2]) rfl
  (by_none (W3.but B3.out (Nat.le_refl _) _ _ _) (R3.out.w3 zr (by omega) _ _ _))
theorem at1 {w : World} {r : Nat} {A : Option Addr} {cap : Nat} {l : List W} {i : Nat} {b : Bool} (h : Rdr w r A cap l i b) : Rdr (w.setCell ⟨r, 1, none⟩ (.int .i64 ((i : Int) + 1))) r A cap l (i + 1) b := by
 have := h.at (i + 1)
 rw [Int.natCast_add] at this
 exact this
def moreOf : Value → Nat
 | .bool true => 1
 | _ => 0
def BInv (r q : Nat) (A : Option Addr) (cap : Nat) (l : List W) (w : World) (R : Ress) (v : Value) (wr : World) : Prop :=
 ∃ (f j : Nat) (c m : Bool) (ks : List Nod) (xs : List NV) (X : Option Addr) (cp : Nat), v = .bool m ∧ NBox wr w.heap.size (.string ⟨#[]⟩) (.string ⟨#[]⟩) (.slice none 0 0) ∧ NBox wr (w.heap.size + 1) (.string ⟨#[98, 121]⟩) (.string ⟨#[]⟩) (.slice X xs.length cp) ∧
  wr.ownsRow (w.heap.size + 2) 24 3 (.slice X xs.length cp) xs.length (flatC nc xs) ∧ RAll wr (fun _ => False) ks xs ∧ j ≤ l.length ∧ (m = true → l.length - j < f) ∧ ks.length + moreOf v ≤ j + 1 ∧
  Hid (R = (ks ++ (if m = true then (namesQ (bare l) f j c).1 else []), if m = true then (namesQ (bare l) f j c).2 else (j, c))) ∧ But w wr r ∧ QRd wr r q A cap l j c
theorem names_go {L : List V} {f j : Nat} {c : Bool} (hf : L.length - j < f) (hj : j ≤ L.length) : ∃ f', f = f' + 1 ∧ (isK L (nmQ L j c).2.1 (nmQ L j c).2.2 0 = true → L.length - (nmQ L j c).2.1 < f' ∧ j + 1 ≤ (nmQ L j c).2.1) ∧
  namesQ L f j c = (.mk sCol (nmQ L j c).1 [] :: (if isK L (nmQ L j c).2.1 (nmQ L j c).2.2 0 = true then (namesQ L f' (nmQ L j c).2.1 (nmQ L j c).2.2).1 else []), if isK L (nmQ L j c).2.1 (nmQ L j c).2.2 0 = true then (namesQ L f' (nmQ L j c).2.1 (nmQ L j c).2.2).2 else (nmQ L j c).2) := by
 obtain ⟨f', rfl⟩ : ∃ f', f = f' + 1 := ⟨f - 1, by omega⟩
 refine ⟨f', rfl, fun hk => ?_, ?_⟩
 ·have h1 := (isK_lt hk).2
  have h3 := (isK_lt hk).1
  have h2 : j + 1 ≤ (nmQ L j c).2.1 := by
   unfold nmQ at h1 ⊢
   split at h1
   ·rename_i hs
    rw [if_pos hs]
    exact Nat.le_refl _
   ·cases h1
  exact ⟨by omega, h2⟩
 ·rw [namesQ]
  split <;> rfl
theorem NBox.grown {w w9 : World} {g : Nat} {a b c : Value} {row : Option Nat} (h : NBox w g a b c) (hg : w.grownBy w9 row) (hn : row ≠ some g) : NBox w9 g a b c := by
 have hk : ∀ j, w9.cell? ⟨g, j, none⟩ = w.cell? ⟨g, j, none⟩ := fun j => by
  unfold World.cell?
  rw [hg.block g h.lt hn.symm]
 have hf : ∀ j, w9.frozen? ⟨g, j, none⟩ = w.frozen? ⟨g, j, none⟩ := fun j => by
  unfold World.frozen?
  rw [hg.block g h.lt hn.symm]
 exact ⟨(hk 0).trans h.c0, (hk 1).trans h.c1, (hk 2).trans h.c2, fun j => (hf j).trans (h.fr j)⟩
theorem NBox.kid {w : World} {g : Nat} {a b c : Value} (h : NBox w g a b c) (z : Value) : NBox (w.setCell ⟨g, 2, none⟩ z) g a b z :=
 ⟨(World.cell?_setCell_other _ _ _ _ (by simp)).trans h.c0, (World.cell?_setCell_other _ _ _ _ (by simp)).trans h.c1, World.cell?_setCell_same _ _ _ h.c2, fun j => by rw [World.frozen?_setCell]; exact h.fr j⟩
theorem NBox.far {w : World} {g : Nat} {a b c : Value} (h : NBox w g a b c) (p : Addr) (hp : p.block ≠ g) (z : Value) : NBox (w.setCell p z) g a b c :=
 ⟨(World.cell?_setCell_other _ _ _ _ (fun e => hp (by rw [e]))).trans h.c0, (World.cell?_setCell_other _ _ _ _ (fun e => hp (by rw [e]))).trans h.c1, (World.cell?_setCell_other _ _ _ _ (fun e => hp (by rw [e]))).trans h.c2, fun j => by rw [World.frozen?_setCell]; exact h.fr j⟩
theorem own_set {w : World} {B n k : Nat} {e : TypeId} {v : Value} {xs : List Value} (h : w.ownsRow B e k v n xs) (p : Addr) (hp : p.block < B) (u : Value) : (w.setCell p u).ownsRow B e k v n xs :=
 h.kept (row := some p.block) ⟨rfl, rfl, rfl, by simp, fun j hj hn => Below.heap_setCell w p u j (fun e => hn (by rw [e]))⟩ (by
  by_cases hv : v.ownBlock = some p.block
  ·have := (h.lt _ hv).1
   omega
  ·exact .inr hv)
theorem by_told {r q : Nat} {A : Option Addr} {cap : Nat} {l : List W} {w wr : World} {ks : List Nod} {xs : List NV} {X : Option Addr} {cp j : Nat} {c : Bool} (hq : q < w.heap.size) (hr : r < w.heap.size) (ho : wr.ownsRow (w.heap.size + 2) 24 3 (.slice X xs.length cp) xs.length (flatC nc xs)) (ha : RAll wr (fun _ => False) ks xs) (hk : ks.length ≤ 1000000000) (hb : But w wr r) (hQ : QRd wr r q A cap l j c) :
  GetB r q A cap l w true (.mk sBy [] ks, j, c) (.returned (.tuple #[.agg #[.string ⟨#[98, 121]⟩, .string ⟨#[]⟩, .slice X xs.length cp], .bool true])) (W3 wr w.heap.size (.string ⟨#[98, 121]⟩) (.string ⟨#[]⟩) (.slice X xs.length cp)) := by
 obtain ⟨A', cap', e, hat, hcp⟩ := own_nat ho
 injection e with e _ e2
 subst e e2
 refine ⟨⟨#[98, 121]⟩, ⟨#[]⟩, X, xs.length, cp, rfl, ?_, W3.but hb (Nat.le_refl _) _ _ _, hQ.w3 hr (by omega) _ _ _⟩
 rw [ha.1]
 have h := RIn.made cp ⟨#[98, 121]⟩ ⟨#[]⟩ hat (ha.keep (S' := fun g => w.heap.size + 2 ≤ g ∧ g < wr.heap.size) (fun g h => h.elim) (fun p h => h.elim)) (Nat.le_trans hk (by decide)) (by rw [← ha.1]; exact hcp)
 exact (h.w3 (g := w.heap.size) (fun h => by have := h.1; omega) _ _ _).imp (fun g hg => ⟨by have := hg.1; omega, by show g < (W3 wr w.heap.size _ _ _).heap.size; rw [W3.size]; exact hg.2⟩)
theorem qby_names (r q : Nat) (A : Option Addr) (cap : Nat) (l : List W) (i : Nat) (b : Bool) (w : World) (h : QRd w r q A cap l i b) (hi : i ≤ l.length) (hl : l.length ≤ 4194304) (hk : isK (bare l) i b 0 = true) (hil : i < l.length) (htx : l[i].2.1 = sBy) (hw : wordQ (bare l) i b sBy [61] = false) :
  Calls Tryz.prog 183 #[.pointer (some ⟨q, 0, none⟩)] w (GetB r q A cap l w true (.mk sBy [] (namesQ (bare l) ((bare l).length + 1) (i + 1) b).1, (namesQ (bare l) ((bare l).length + 1) (i + 1) b).2)) := by
 have HR := hid h
 have zr := h.lt
 have zq := h.ltq
 have HK := hid (fun (w' : World) (h' : QRd w' r q A cap l i b) => rkind_any r A cap l i b 0 w' h'.rd hi hl)
 obtain ⟨ad, rfl, ha, d0, d1, d2⟩ := at_word h.rd.ws i hil
 obtain ⟨t, htt⟩ : ∃ t, l[i].2.1 = t := ⟨_, rfl⟩
 rw [htt] at d1
 obtain ⟨T, hT⟩ : ∃ T : ByteArray, ⟨t.toArray⟩ = T := ⟨_, rfl⟩
 have hTt : t = T.data.toList := by rw [← hT]
 rw [hT] at d1
 have za : (ad.add (i * 3)).block < w.heap.size := by rw [add_block]; omega
 have HD := hid (fun (w' : World) (hb : But w w' r) => show w'.cell? ⟨(ad.add (i * 3)).block, (ad.add (i * 3)).off + 1, none⟩ = some (.string T) from (hb.cell (q := ⟨(ad.add (i * 3)).block, (ad.add (i * 3)).off + 1, none⟩) za (by show (ad.add (i * 3)).block ≠ r; rw [add_block]; omega)).trans d1)
 have e3 : (i : Int) < (l.length : Int) := by omega
 obtain rfl : T = ⟨#[98, 121]⟩ := by rw [← hT, ← htt, htx]; rfl
 rw [hk] at HK
 have HW := hid (fun (w' : World) (h' : QRd w' r q (some ad) cap l i b) => qword_any r q (some ad) cap l i b ⟨#[98, 121]⟩ ⟨#[61]⟩ w' h' hi hl)
 rw [show (⟨#[98, 121]⟩ : ByteArray).data.toList = sBy from rfl, show (⟨#[61]⟩ : ByteArray).data.toList = [61] from rfl, hw] at HW
 obtain ⟨R, hR⟩ : ∃ R, namesQ (bare l) ((bare l).length + 1) (i + 1) b = R := ⟨_, rfl⟩
 have HRR := hid hR
 rw [hR]
 obtain ⟨i0, hi0, hz0', hz1, hz2⟩ := info_parts info_node
 clear h hk htx hw d0 d1 d2 hTt hT htt hR
 go_enter Tryz.func183, Tryz.ntmps183
 obtain ⟨wa, hwa⟩ : ∃ wa, w.alloc (.cells #[.string ⟨#[]⟩, .string ⟨#[]⟩, .slice none 0 0] 24) = wa := ⟨_, rfl⟩
 obtain ⟨w0, hw0⟩ : ∃ w0, wa.alloc (.cells #[.string ⟨#[98, 121]⟩, .string ⟨#[]⟩, .slice none 0 0] 24) = w0 := ⟨_, rfl⟩
 have hza : wa.heap.size = w.heap.size + 1 := by rw [← hwa]; simp
 have hz0 : w0.heap.size = w.heap.size + 2 := by rw [← hw0, ← hwa]; simp
 have N0 := hid (show NBox w0 w.heap.size (.string ⟨#[]⟩) (.string ⟨#[]⟩) (.slice none 0 0) by rw [← hw0, ← hwa]; exact (NBox.fresh _ _ _ _ _).alloc _)
 have M0 := hid (show NBox w0 (w.heap.size + 1) (.string ⟨#[98, 121]⟩) (.string ⟨#[]⟩) (.slice none 0 0) by rw [← hw0, ← hza]; exact NBox.fresh _ _ _ _ _)
 have R0 := hid (show QRd w0 r q (some ad) cap l i b by rw [← hw0, ← hwa]; exact (HR.out.alloc _).alloc _)
 have B0 := hid (show But w w0 r by rw [← hw0, ← hwa]; exact ((But.refl w r).alloc _).alloc _)
 rw [← hwa] at hw0
 have cq := R0.out.cq
 rw [← hw0] at cq
 have HW0 := hid hw0
 clear hwa hza hw0 wa
 go_wp2_with fail
 rw [HW0.out]
 refine (HK.out _ R0.out).mono ?_
 rintro e w1 ⟨rfl, hb1⟩
 have zb1 := hb1.size
 have N1 := hid (N0.out.below hb1)
 have M1 := hid (M0.out.below hb1)
 have R1 := hid (R0.out.below hb1)
 have B1 := hid (B0.out.next hb1)
 clear hb1 cq HW0
 have c0 := R1.out.rd.c0
 have c1 := R1.out.rd.c1
 have cq := R1.out.cq
 have d1 := HD.out _ B1.out
 go_wp2
 go_quiet (fail)
 obtain ⟨w2, hw2⟩ : ∃ w2, w1.drewN nq = w2 := ⟨_, rfl⟩
 have hbd : Below w1.heap.size w1 w2 := by rw [← hw2]; exact drewN_below (Below.refl _ _) _
 have zb2 := hbd.size
 have N2 := hid (N1.out.below hbd)
 have M2 := hid (M1.out.below hbd)
 have R2 := hid (R1.out.below hbd)
 have B2 := hid (B1.out.next hbd)
 rw [hw2]
 clear hw2 hbd
 clear c0 c1 cq d1
 have cq := R2.out.cq
 go_wp2_with fail
 refine (HW.out _ R2.out).mono ?_
 rintro e w3 ⟨rfl, hb3⟩
 have zb3 := hb3.size
 have N3 := hid (N2.out.below hb3)
 have M3 := hid (M2.out.below hb3)
 have R3 := hid (R2.out.below hb3)
 have B3 := hid (B2.out.next hb3)
 clear hb3 cq
 have c1 := R3.out.rd.c1
 have cq := R3.out.cq
 have f1 := R3.out.rd.fr 1
 have e1 : IntKind.i64.wrap ((i : Int) + 1) = (i : Int) + 1 := by rw [IntKind.wrap_i64]; omega
 obtain ⟨w4, hw4⟩ : ∃ w4, w3.setCell ⟨r, 1, none⟩ (.int .i64 ((i : Int) + 1)) = w4 := ⟨_, rfl⟩
 have zb4 : w4.heap.size = w3.heap.size := by rw [← hw4]; simp
 have N4 := hid (show NBox w4 w.heap.size (.string ⟨#[]⟩) (.string ⟨#[]⟩) (.slice none 0 0) by rw [← hw4]; exact N3.out.far _ (by show r ≠ _; omega) _)
 have M4 := hid (show NBox w4 (w.heap.size + 1) (.string ⟨#[98, 121]⟩) (.string ⟨#[]⟩) (.slice none 0 0) by rw [← hw4]; exact M3.out.far _ (by show r ≠ _; omega) _)
 have R4 := hid (show QRd w4 r q (some ad) cap l (i + 1) b by rw [← hw4]; exact ⟨at1 R3.out.rd, (World.cell?_setCell_other _ _ _ _ (fun e => R3.out.ne (congrArg Addr.block e).symm)).trans R3.out.cq, R3.out.ne⟩)
 have B4 := hid (show But w w4 r by rw [← hw4]; exact B3.out.setCell 1 _)
 have HW4 := hid hw4
 clear hw4
 go_wp2
 rw [HW4.out]
 clear cq c1 f1 HW4
 go_loopw [7] (fun v wr => BInv r q (some ad) cap l w R v wr) (fun v wr => (l.length - atOf wr r) + moreOf v)
 case atStart =>
  refine ⟨(bare l).length + 1, i + 1, b, true, [], [], none, 0, rfl, N4.out, M4.out, World.ownsRow_nil _ _ _ _, RAll.nil _ _, by omega, fun _ => by rw [bare_length]; omega, by simp [moreOf], hid ?_, B4.out, R4.out⟩
  rw [← HRR.out]
  rfl
 case round =>
  obtain ⟨f, j, c, m, ks, xs, X, cp, rfl, hn, hm, hown, hall, hj, hf, hkj, HE, hbut, hqr⟩ := hrel
  have N5 := hid hn
  have M5 := hid hm
  have HO := hid hown
  have HA := hid hall
  have HB := hid hbut
  have HQ := hid hqr
  have hz := hbut.size
  have HAT := hid (atq hqr)
  have hlm := hm.lt
  have hks := hall.1
  clear hn hm hown hall hbut hqr
  cases m with
  | false =>
   have HEE := hid (show R = (ks, j, c) by rw [HE.out]; simp)
   have hkk : ks.length ≤ 1000000000 := by simp [moreOf] at hkj; omega
   obtain ⟨N, hN⟩ : ∃ N, xs.length = N := ⟨_, rfl⟩
   obtain ⟨x0, x1, x2, xf⟩ := N5.out
   obtain ⟨y0, y1, y2, yf⟩ := M5.out
   rw [hN] at y2
   have HN := hid hN
   clear hN hks HE hf hkj
   go_wp2
   have Y := N5.out.set (.string ⟨#[98, 121]⟩) (.string ⟨#[]⟩) (.slice X N cp)
   have hg := by_told zq zr HO.out HA.out hkk HB.out HQ.out
   rw [HN.out] at hg
   rw [HEE.out]
   exact bodyPost_ret (v := .tuple #[.agg #[.string ⟨#[98, 121]⟩, .string ⟨#[]⟩, .slice X N cp], .bool true]) (by simp [results, Tryz.results183, go_sem, Y.c0, Y.c1, Y.c2]) rfl hg
  | true =>
   obtain ⟨f', rfl, hadv, hgo⟩ := names_go (L := bare l) (c := c) (by rw [bare_length]; exact hf rfl) (by rw [bare_length]; exact hj)
   have E1 := nm_ends (L := bare l) (i := j) (b := c) (by rw [bare_length]; exact hj)
   obtain ⟨n0, hn0⟩ : ∃ n0, nmQ (bare l) j c = n0 := ⟨_, rfl⟩
   rw [hn0] at E1 hadv hgo
   obtain ⟨m', hm'⟩ : ∃ m', isK (bare l) n0.2.1 n0.2.2 0 = m' := ⟨_, rfl⟩
   rw [hm'] at hadv hgo
   rw [bare_length] at hadv
   have HE2 := hid (show R = (ks ++ [.mk sCol n0.1 []] ++ (if m' = true then (namesQ (bare l) f' n0.2.1 n0.2.2).1 else []), if m' = true then (namesQ (bare l) f' n0.2.1 n0.2.2).2 else (n0.2.1, n0.2.2)) by
    rw [HE.out, hgo]
    simp)
   have H1 := hid (fun (w' : World) (h' : QRd w' r q (some ad) cap l j c) => qname_any r q (some ad) cap l j c w' h' hj hl)
   rw [hn0] at H1
   have hp1 : j ≤ n0.2.1 := E1.1
   have hp2 : n0.2.1 ≤ l.length := by have := E1.2.1; rw [bare_length] at this; exact this
   have H2 := hid (fun (w' : World) (h' : QRd w' r q (some ad) cap l n0.2.1 n0.2.2) => rkind_any r (some ad) cap l n0.2.1 n0.2.2 0 w' h'.rd hp2 hl)
   rw [hm'] at H2
   obtain ⟨T, hT⟩ : ∃ T : ByteArray, ⟨n0.1.toArray⟩ = T := ⟨_, rfl⟩
   have HTT := hid (show n0.1 = T.data.toList by rw [← hT])
   rw [hT] at H1
   have HADV := hid hadv
   have hkk : ks.length ≤ j := by simp [moreOf] at hkj; omega
   obtain ⟨N, hN⟩ : ∃ N, xs.length = N := ⟨_, rfl⟩
   have hNj : N ≤ j := by omega
   have HKS := hid (show ks.length = N by omega)
   have HN := hid hN
   rw [hN] at HO M5
   clear hgo HE hn0 hm' hT E1 hadv hks hkj hf hN
   have cq := HQ.out.cq
   go_wp2_with fail
   refine (H1.out _ HQ.out).mono ?_
   rintro e w6 ⟨rfl, hb6, hr6⟩
   have zb6 := hb6.size
   have O6 := hid (own_but HO.out hb6 (by omega))
   have N6 := hid (N5.out.but (by omega) hb6)
   have M6 := hid (M5.out.but (by omega) hb6)
   have R6 := hid hr6
   have B6 := hid (HB.out.trans hb6)
   clear hb6 hr6 cq H1
   have y2 := M6.out.c2
   go_wp2_with (at_builtin; refine wpList_append_lies _ rfl _ _ _ rfl (w.heap.size + 2) 24 i0 _ 3 56 Tryz.underlying22 hi0 hz0' hz1 hz2 rfl (by omega) _ N (flatC nc xs) rfl ?ca ⟨w6.heap.size, 0, none⟩ 1 1 [.string ⟨#[99, 111, 108]⟩, .string T, .slice none 0 0] rfl rfl ?cn ?co (by omega) ?cm ?cb ?cs (w6.heap.size + 1) ?ch ?_)
   case ca => exact own_call O6.out (below_alloc _ _)
   case cn => exact World.news_of_block (heap_alloc_new w6 _)
   case co => exact nc_one (⟨#[99, 111, 108]⟩, T, none, 0, 0)
   case cm => unfold maxLen; omega
   case cb => omega
   case cs => simp; omega
   case ch => simp
   intro gg cap9 w9 hown9 hgrow hat hlt9
   obtain ⟨W8, hW8⟩ : ∃ W8, w6.alloc (.cells #[.string ⟨#[99, 111, 108]⟩, .string T, .slice none 0 0] 24) = W8 := ⟨_, rfl⟩
   have hz8 : W8.heap.size = w6.heap.size + 1 := by rw [← hW8]; simp
   have BA := hid (show Below w6.heap.size w6 W8 by rw [← hW8]; exact (Below.refl _ _).alloc (Nat.le_refl _) _)
   rw [hW8] at hgrow
   have hrow : ∀ k, (Value.slice X N cp).ownBlock = some k → w.heap.size + 2 ≤ k := fun k e => (O6.out.lt k e).1
   have hz9 := hgrow.size
   have N9 := hid ((N6.out.below BA.out).grown hgrow (fun e => by have := hrow _ e; omega))
   have M9 := hid ((M6.out.below BA.out).grown hgrow (fun e => by have := hrow _ e; omega))
   have B9 := hid ((B6.out.next BA.out).grown hgrow (fun k e => by have := hrow _ e; omega))
   have R9 := hid ((R6.out.below BA.out).under (B := w.heap.size) ⟨hgrow.os, hgrow.tape, hgrow.output, hgrow.size, fun k hk => hgrow.block k (by omega) (fun e => by have := hrow _ e.symm; omega)⟩ zr zq)
   have O9 := hid hown9
   clear hown9 hgrow hat hlt9 hW8 y2 hrow
   have y2 := M9.out.c2
   have yf := M9.out.fr 2
   obtain ⟨wb, hwb⟩ : ∃ wb, w9.setCell ⟨w.heap.size + 1, 2, none⟩ (.slice (some ⟨gg, 0, none⟩) (N + 1) cap9) = wb := ⟨_, rfl⟩
   have zbb : wb.heap.size = w9.heap.size := by rw [← hwb]; simp
   have NB := hid (show NBox wb w.heap.size (.string ⟨#[]⟩) (.string ⟨#[]⟩) (.slice none 0 0) by rw [← hwb]; exact N9.out.far _ (by show w.heap.size + 1 ≠ w.heap.size; omega) _)
   have MB := hid (show NBox wb (w.heap.size + 1) (.string ⟨#[98, 121]⟩) (.string ⟨#[]⟩) (.slice (some ⟨gg, 0, none⟩) (N + 1) cap9) by rw [← hwb]; exact M9.out.kid _)
   have BB := hid (show But w wb r by rw [← hwb]; exact B9.out.new _ (by show w.heap.size ≤ w.heap.size + 1; omega) _)
   have RB := hid (show QRd wb r q (some ad) cap l n0.2.1 n0.2.2 by rw [← hwb]; exact R9.out.new _ (by show r < w.heap.size + 1; omega) (by show q ≠ w.heap.size + 1; omega) _)
   have OB := hid (show wb.ownsRow (w.heap.size + 2) 24 3 (.slice (some ⟨gg, 0, none⟩) (N + 1) cap9) (N + 1) (flatC nc xs ++ nc (⟨#[99, 111, 108]⟩, T, none, 0, 0)) by rw [← hwb]; exact own_set O9.out _ (by show w.heap.size + 1 < w.heap.size + 2; omega) _)
   have cq := RB.out.cq
   rw [← hwb] at cq
   have HWB := hid hwb
   clear hwb
   go_wp2_with fail
   rw [HWB.out]
   refine (H2.out _ RB.out).mono ?_
   rintro e w10 ⟨rfl, hb10⟩
   have z10 := hb10.size
   have NC := hid (NB.out.below hb10)
   have MC := hid (MB.out.below hb10)
   have RC := hid (RB.out.below hb10)
   have BC := hid (BB.out.next hb10)
   have OC := hid (own_call OB.out hb10)
   clear hb10 cq y2 yf HWB
   have hat10 := atq RC.out
   have hat0 := HAT.out
   have IV := hid (show BInv r q (some ad) cap l w R (.bool m') w10 from by
    have hl1 : (xs ++ [((⟨#[99, 111, 108]⟩ : ByteArray), T, (none : Option Addr), 0, 0)]).length = N + 1 := by simp [HN.out]
    have hfl : flatC nc (xs ++ [((⟨#[99, 111, 108]⟩ : ByteArray), T, (none : Option Addr), 0, 0)]) = flatC nc xs ++ nc (⟨#[99, 111, 108]⟩, T, none, 0, 0) := flatC_snoc xs _
    refine ⟨f', n0.2.1, n0.2.2, m', ks ++ [.mk sCol n0.1 []], xs ++ [(⟨#[99, 111, 108]⟩, T, none, 0, 0)], some ⟨gg, 0, none⟩, cap9, rfl, NC.out, by rw [hl1]; exact MC.out, by rw [hl1, hfl]; exact OC.out, ?_, hp2, fun e => (HADV.out e).1, ?_, HE2, BC.out, RC.out⟩
    ·refine (HA.out.keep (fun g h => h.elim) (fun p h => h.elim)).snoc ?_
     rw [HTT.out]
     exact RIn.leafN _ _ ⟨#[99, 111, 108]⟩ T
    ·have := HKS.out
     rw [List.length_append]
     cases m' with
     | false => simp [moreOf]; omega
     | true => have := (HADV.out rfl).2; simp [moreOf]; omega)
   have hms : (l.length - atOf w10 r) + moreOf (.bool m') < (l.length - atOf wr r) + moreOf (.bool true) := by
    rw [hat10, hat0]
    cases m' with
    | false => simp [moreOf]; omega
    | true => have := (HADV.out rfl).2; have := (HADV.out rfl).1; simp [moreOf]; omega
   go_wp2
   go_roundw
   case rel => exact IV.out
   case measure => exact hms
theorem qby_any (r q : Nat) (A : Option Addr) (cap : Nat) (l : List W) (i : Nat) (b : Bool) (w : World) (h : QRd w r q A cap l i b) (hi : i ≤ l.length) (hl : l.length ≤ 4194304) :
  Calls Tryz.prog 183 #[.pointer (some ⟨q, 0, none⟩)] w (GetB r q A cap l w (hasQ (bare l) i b) (by0Q (bare l) i b)) := by
 unfold by0Q
 by_cases hk : isK (bare l) i b 0 = true
 ·have hil := isK_len hk
  by_cases htx : l[i].2.1 = sBy
  ·by_cases hw : wordQ (bare l) i b sBy [61] = true
   ·have hh : hasQ (bare l) i b = false := by unfold hasQ; rw [hw]; simp
    rw [hh, if_neg (by decide)]
    exact qby_agg r q A cap l i b w h hi hl hk hil htx hw
   ·have hw := Bool.eq_false_iff.2 hw
    have hh : hasQ (bare l) i b = true := by unfold hasQ; rw [hw, hk, txt_at hil, htx]; simp
    rw [hh, if_pos rfl]
    exact qby_names r q A cap l i b w h hi hl hk hil htx hw
  ·have hh : hasQ (bare l) i b = false := by
    unfold hasQ
    rw [txt_at hil]
    have : (l[i].2.1 == sBy) = false := by simpa using htx
    rw [this]
    simp
   rw [hh, if_neg (by decide)]
   exact qby_other r q A cap l i b w h hi hl hk hil htx
 ·have hk := Bool.eq_false_iff.2 hk
  have hh : hasQ (bare l) i b = false := by unfold hasQ; rw [hk]; simp
  rw [hh, if_neg (by decide)]
  exact qby_none r q A cap l i b w h hi hl hk
theorem by_is (L : List V) (i : Nat) (b : Bool) : byQ L i b = if hasQ L i b = true then ((by0Q L i b).1, mustQ L (by0Q L i b).2.1 (by0Q L i b).2.2 [44]) else by0Q L i b := by
 unfold byQ by0Q
 split <;> rfl
theorem info_strQ : (Tryz.prog.info? 9).map (fun i => (i.zero, i.size, i.bytes)) = some (some (.string ByteArray.empty), 1, 16) := by kernel_rfl
theorem sc_one : ∀ s : List UInt8, ∀ u ∈ sc s, u.oneCell' = true := by
 intro s u hu
 simp [sc] at hu
 subst hu
 rfl
theorem leavess_take (l : List Nod) (k : Nat) : (leavessQ (l.take k)).length ≤ (leavessQ l).length := by
 induction l generalizing k with
 | nil => simp [leavessQ]
 | cons n l ih =>
  cases k with
  | zero => simp [leavessQ]
  | succ k =>
   have := ih k
   simp only [List.take_succ_cons, leavessQ, List.length_append]
   omega
theorem leaves_is (t : Nod) : leavesQ t = (if t.op = sFrom then [t.tx] else []) ++ leavessQ t.ks := by
 cases t with
 | mk o x ks => exact leavesQ.eq_1 o x ks
theorem leavess_mem {x : Nod} : ∀ {l : List Nod}, x ∈ l → (leavesQ x).length ≤ (leavessQ l).length
 | [], h => absurd h (by simp)
 | t :: l, h => by
  simp only [leavessQ, List.length_append]
  rcases List.mem_cons.1 h with rfl | h
  ·omega
  ·have := leavess_mem h
   omega
theorem pleaves_any : ∀ (d : Nat) (t : Nod), t.deep ≤ d → ∀ (S : Nat → Prop) (op tx : ByteArray) (X : Option Addr) (n m : Nat) (w : World) (B : Nat), B ≤ w.heap.size → ∀ (Q : List (List UInt8)) (v : Value), w.ownsRow B 9 1 v Q.length (flatC sc Q) → (∀ g, S g → g < B) → RIn w S t (op, tx, X, n, m) → Q.length + (leavesQ t).length ≤ 100000000 →
  Calls Tryz.prog 98 #[v, .agg #[.string op, .string tx, .slice X n m]] w fun e w' => ∃ v', e = .returned v' ∧ w'.ownsRow B 9 1 v' (Q ++ leavesQ t).length (flatC sc (Q ++ leavesQ t)) ∧ Below B w w'
 | 0, t, h, _, _, _, _, _, _, _, _, _, _, _, _, _, _, _ => absurd h (by rw [deep_ks]; omega)
 | d + 1, t, h, S, op, tx, X, n, m, w, B, hBw, Q, v, hv, hS, hn, hln => by
  have hlv := leaves_is t
  have ih := hid (fun k (hk : k < t.ks.length) => pleaves_any d t.ks[k] (by have := deepL_mem (List.getElem_mem hk); rw [deep_ks] at h; omega))
  have ihl := hid (fun k (hk : k < t.ks.length) => (leavess_mem (List.getElem_mem hk) : (leavesQ t.ks[k]).length ≤ (leavessQ t.ks).length))
  obtain ⟨eo, et, en, hkl⟩ := hn.texts
  dsimp only at eo et en
  obtain ⟨i0, hi0, hz0, hz1, hz2⟩ := info_parts info_strQ
  obtain ⟨P0, hP0⟩ : ∃ P0, Q ++ (if t.op = sFrom then [t.tx] else []) = P0 := ⟨_, rfl⟩
  have hlv2 : Q ++ leavesQ t = P0 ++ leavessQ t.ks := by rw [hlv, ← List.append_assoc, hP0]
  have HS := hid hS
  have HLV := hid hlv2
  have HLN := hid (show P0.length + (leavessQ t.ks).length ≤ 100000000 by rw [← List.length_append, ← hlv2, List.length_append]; exact hln)
  subst en
  have HN := hid hn
  have HV := hid hv
  obtain ⟨w0, hw0⟩ : ∃ w0, w.alloc (.cells #[.string op, .string tx, .slice X t.ks.length m] 24) = w0 := ⟨_, rfl⟩
  have N0 := hid (show NBox w0 w.heap.size (.string op) (.string tx) (.slice X t.ks.length m) by rw [← hw0]; exact NBox.fresh _ _ _ _ _)
  have B0 := hid (show Below B w w0 by rw [← hw0]; exact (Below.refl _ _).alloc hBw _)
  have O0 := hid (show w0.ownsRow B 9 1 v Q.length (flatC sc Q) by rw [← hw0]; exact own_call hv (below_alloc _ _))
  have zw0 : w0.heap.size = w.heap.size + 1 := by rw [← hw0]; simp
  have HW0 := hid hw0
  by_cases hf : t.op = sFrom
  ·rw [if_pos hf] at hP0
   have ho : op = ⟨#[102, 114, 111, 109]⟩ := by rw [eo, hf]; rfl
   subst ho
   have HP0 := hid (show P0.length = Q.length + 1 by rw [← hP0]; simp)
   have HPQ := hid hP0
   have HT := hid et
   have hqs : Q.length ≤ 100000000 := by omega
   clear h hln hS hn hlv hlv2 hP0 eo et hf hw0 hv
   go_enter Tryz.func98, Tryz.ntmps98
   go_wp2_with (at_builtin; rw [HW0.out]; refine wpList_append_lies _ rfl _ _ _ rfl B 9 i0 _ 1 16 Tryz.underlying43 hi0 hz0 hz1 hz2 rfl (by omega) _ Q.length (flatC sc Q) rfl ?ca ⟨w.heap.size + 1, 0, none⟩ 1 1 [.string tx] rfl rfl ?cn ?co (by omega) ?cm ?cb ?cz9 (w.heap.size + 1 + 1) ?ch ?_)
   case ca => exact own_call O0.out (below_alloc _ _)
   case cn => exact World.news_of_block (cs := #[.string tx]) (t := 9) (fr := (0, 0)) (by rw [← zw0]; exact heap_alloc_new w0 _)
   case co =>
    intro u hu
    simp at hu
    subst hu
    rfl
   case cm => unfold maxLen; omega
   case cb => omega
   case cz9 => simp; omega
   case ch => simp [zw0]
   intro gg cap9 w9 hown9 hgrow hat hlt9
   have hrow : ∀ k, v.ownBlock = some k → B ≤ k := fun k e => (O0.out.lt k e).1
   have B1 := hid (show Below B w w9 from B0.out.trans (((Below.refl B w0).alloc (by omega) _).trans ⟨hgrow.os, hgrow.tape, hgrow.output, hgrow.size, fun j hj => hgrow.block j (by simp; omega) (fun e => by have := hrow j e.symm; omega)⟩))
   have Z1 : w.heap.size < w9.heap.size := by have := hgrow.size; simp at this; omega
   have N1 := hid ((N0.out.alloc (.cells #[.string tx] 9)).grown hgrow (fun e => by have := (HV.out.lt _ e).2; omega))
   have O1 := hid (show w9.ownsRow B 9 1 (.slice (some ⟨gg, 0, none⟩) (Q.length + 1) cap9) (P0 ++ leavessQ (t.ks.take 0)).length (flatC sc (P0 ++ leavessQ (t.ks.take 0))) by
    have e : P0 ++ leavessQ (t.ks.take 0) = Q ++ [t.tx] := by simp [leavessQ, HPQ.out]
    rw [e, flatC_append]
    have e2 : flatC sc [t.tx] = [.string tx] := by simp [flatC, sc, ← HT.out]
    rw [e2, List.length_append]
    exact hown9)
   clear hown9 hgrow hat hlt9 HW0 hrow
   obtain ⟨x0, x1, x2, xf⟩ := N1.out
   go_wp2
   go_loopw [0, 18] (fun v t' wr => ∃ (k : Nat), k ≤ t.ks.length ∧ t' = .int .i64 k ∧ wr.ownsRow B 9 1 v (P0 ++ leavessQ (t.ks.take k)).length (flatC sc (P0 ++ leavessQ (t.ks.take k))) ∧ Below B w wr ∧ w.heap.size < wr.heap.size) (fun _ t' _ => t.ks.length - (intOf t').toNat)
   case atStart => exact ⟨0, by omega, rfl, O1.out, B1.out, Z1⟩
   case round =>
    obtain ⟨k, hk, rfl, hown, hb, hz⟩ := hrel
    have HB := hid hb
    have HO := hid hown
    have HK := hid (HN.out.keep (w' := wr) (fun _ h => h) (fun p hp => hb.cell (HS.out _ hp)))
    clear hb hown
    by_cases hlt : k < t.ks.length
    ·obtain ⟨ad, ⟨op', tx', X', n', m'⟩, eA, hS', q0, q1, q2, hk'⟩ := HK.out.kid k hlt
     dsimp only at eA q0 q1 q2
     subst eA
     have had := HS.out _ hS'
     have HDT := hid (leavessQ_take t.ks k hlt)
     have hb1 : (P0 ++ leavessQ (t.ks.take k)).length + (leavesQ t.ks[k]).length ≤ 100000000 := by
      have h1 := leavess_take t.ks (k + 1)
      rw [leavessQ_take t.ks k hlt, List.length_append] at h1
      have := HLN.out
      rw [List.length_append]
      omega
     obtain ⟨Q0, hQ0⟩ : ∃ Q0, P0 ++ leavessQ (t.ks.take k) = Q0 := ⟨_, rfl⟩
     rw [hQ0] at hb1 HO
     have HQ0 := hid hQ0
     obtain ⟨Y, hY⟩ : ∃ Y, leavesQ t.ks[k] = Y := ⟨_, rfl⟩
     obtain ⟨w6, hw6⟩ : ∃ w6, wr.alloc (.cells #[.string op', .string tx', .slice X' n' m'] 24) = w6 := ⟨_, rfl⟩
     have z6 : w6.heap.size = wr.heap.size + 1 := by rw [← hw6]; simp
     have HI := hid (fun v (hv : w6.ownsRow B 9 1 v Q0.length (flatC sc Q0)) => ih.out k hlt S op' tx' X' n' m' w6 B (by omega) Q0 v hv HS.out (hk'.keep (w' := w6) (fun _ h => h) (fun p hp => by rw [← hw6]; exact (below_alloc wr _).cell (by have := HS.out _ hp; omega))) hb1)
     rw [hY] at hb1 HI HDT
     have O6 := hid (show w6.ownsRow B 9 1 _ Q0.length (flatC sc Q0) by rw [← hw6]; exact own_call HO.out (below_alloc _ _))
     have B6 := hid (show Below B w w6 by rw [← hw6]; exact HB.out.alloc (by omega) _)
     have V6 := hid (NBox.fresh wr (.string op') (.string tx') (.slice X' n' m') 24)
     rw [hw6] at V6
     have HW6 := hid hw6
     clear hk' hQ0 hY hw6
     go_upto_region 6 with fail
     rw [HW6.out]
     clear q0 q1 q2
     obtain ⟨v0, v1, v2, vf⟩ := V6.out
     go_wp2_with fail
     refine (HI.out _ O6.out).mono ?_
     rintro e w7 ⟨v7, rfl, ho7, hb7⟩
     have O7 := hid (show w7.ownsRow B 9 1 v7 (P0 ++ leavessQ (t.ks.take (k + 1))).length (flatC sc (P0 ++ leavessQ (t.ks.take (k + 1)))) by
      rw [HDT.out, ← List.append_assoc, HQ0.out]
      exact ho7)
     have B7 := hid (B6.out.trans hb7)
     have z7 : w.heap.size < w7.heap.size := by have := hb7.size; omega
     clear ho7 hb7 v0 v1 v2 vf HI
     go_wp2
     go_roundw
     case rel => exact ⟨k + 1, by omega, by go_num, O7.out, B7.out, z7⟩
     case measure => simp [intOf]; omega
    ·obtain rfl : k = t.ks.length := by omega
     rw [List.take_length] at HO
     go_wp2
     go_ret
     exact ⟨_, rfl, by rw [HLV.out]; exact HO.out, HB.out⟩
  ·rw [if_neg hf, List.append_nil] at hP0
   have hne : op ≠ ⟨#[102, 114, 111, 109]⟩ := fun e => hf (by have h9 := eo; rw [e] at h9; have := congrArg (fun b => b.data.toList) h9; exact this.symm)
   have f2 : (op.toList == [102, 114, 111, 109]) = false := by
    have h := toList_ne hne
    rw [ByteArray.toList_eq ⟨#[102, 114, 111, 109]⟩] at h
    exact h
   have HP0 := hid (show Q.length ≤ P0.length by rw [← hP0]; exact Nat.le_refl _)
   have B1 := B0
   have Z1 : w.heap.size < w0.heap.size := by omega
   have O1 := hid (show w0.ownsRow B 9 1 v (P0 ++ leavessQ (t.ks.take 0)).length (flatC sc (P0 ++ leavessQ (t.ks.take 0))) by
    have e : P0 ++ leavessQ (t.ks.take 0) = Q := by simp [leavessQ, ← hP0]
    rw [e]
    exact O0.out)
   clear h hln hS hn hlv hlv2 hP0 eo et hf hw0 hv hne
   go_enter Tryz.func98, Tryz.ntmps98
   go_upto_region 3 with fail
   try rw [HW0.out]
   obtain ⟨x0, x1, x2, xf⟩ := N0.out
   go_wp2
   go_loopw [0, 18] (fun v t' wr => ∃ (k : Nat), k ≤ t.ks.length ∧ t' = .int .i64 k ∧ wr.ownsRow B 9 1 v (P0 ++ leavessQ (t.ks.take k)).length (flatC sc (P0 ++ leavessQ (t.ks.take k))) ∧ Below B w wr ∧ w.heap.size < wr.heap.size) (fun _ t' _ => t.ks.length - (intOf t').toNat)
   case atStart => exact ⟨0, by omega, rfl, O1.out, B1.out, Z1⟩
   case round =>
    obtain ⟨k, hk, rfl, hown, hb, hz⟩ := hrel
    have HB := hid hb
    have HO := hid hown
    have HK := hid (HN.out.keep (w' := wr) (fun _ h => h) (fun p hp => hb.cell (HS.out _ hp)))
    clear hb hown
    by_cases hlt : k < t.ks.length
    ·obtain ⟨ad, ⟨op', tx', X', n', m'⟩, eA, hS', q0, q1, q2, hk'⟩ := HK.out.kid k hlt
     dsimp only at eA q0 q1 q2
     subst eA
     have had := HS.out _ hS'
     have HDT := hid (leavessQ_take t.ks k hlt)
     have hb1 : (P0 ++ leavessQ (t.ks.take k)).length + (leavesQ t.ks[k]).length ≤ 100000000 := by
      have h1 := leavess_take t.ks (k + 1)
      rw [leavessQ_take t.ks k hlt, List.length_append] at h1
      have := HLN.out
      rw [List.length_append]
      omega
     obtain ⟨Q0, hQ0⟩ : ∃ Q0, P0 ++ leavessQ (t.ks.take k) = Q0 := ⟨_, rfl⟩
     rw [hQ0] at hb1 HO
     have HQ0 := hid hQ0
     obtain ⟨Y, hY⟩ : ∃ Y, leavesQ t.ks[k] = Y := ⟨_, rfl⟩
     obtain ⟨w6, hw6⟩ : ∃ w6, wr.alloc (.cells #[.string op', .string tx', .slice X' n' m'] 24) = w6 := ⟨_, rfl⟩
     have z6 : w6.heap.size = wr.heap.size + 1 := by rw [← hw6]; simp
     have HI := hid (fun v (hv : w6.ownsRow B 9 1 v Q0.length (flatC sc Q0)) => ih.out k hlt S op' tx' X' n' m' w6 B (by omega) Q0 v hv HS.out (hk'.keep (w' := w6) (fun _ h => h) (fun p hp => by rw [← hw6]; exact (below_alloc wr _).cell (by have := HS.out _ hp; omega))) hb1)
     rw [hY] at hb1 HI HDT
     have O6 := hid (show w6.ownsRow B 9 1 _ Q0.length (flatC sc Q0) by rw [← hw6]; exact own_call HO.out (below_alloc _ _))
     have B6 := hid (show Below B w w6 by rw [← hw6]; exact HB.out.alloc (by omega) _)
     have V6 := hid (NBox.fresh wr (.string op') (.string tx') (.slice X' n' m') 24)
     rw [hw6] at V6
     have HW6 := hid hw6
     clear hk' hQ0 hY hw6
     go_upto_region 6 with fail
     rw [HW6.out]
     clear q0 q1 q2
     obtain ⟨v0, v1, v2, vf⟩ := V6.out
     go_wp2_with fail
     refine (HI.out _ O6.out).mono ?_
     rintro e w7 ⟨v7, rfl, ho7, hb7⟩
     have O7 := hid (show w7.ownsRow B 9 1 v7 (P0 ++ leavessQ (t.ks.take (k + 1))).length (flatC sc (P0 ++ leavessQ (t.ks.take (k + 1)))) by
      rw [HDT.out, ← List.append_assoc, HQ0.out]
      exact ho7)
     have B7 := hid (B6.out.trans hb7)
     have z7 : w.heap.size < w7.heap.size := by have := hb7.size; omega
     clear ho7 hb7 v0 v1 v2 vf HI
     go_wp2
     go_roundw
     case rel => exact ⟨k + 1, by omega, by go_num, O7.out, B7.out, z7⟩
     case measure => simp [intOf]; omega
    ·obtain rfl : k = t.ks.length := by omega
     rw [List.take_length] at HO
     go_wp2
     go_ret
     exact ⟨_, rfl, by rw [HLV.out]; exact HO.out, HB.out⟩
theorem pLeaves_any (t : Nod) (S : Nat → Prop) (op tx : ByteArray) (X : Option Addr) (n m : Nat) (w : World) (hS : ∀ g, S g → g < w.heap.size) (hn : RIn w S t (op, tx, X, n, m)) (hln : (leavesQ t).length ≤ 100000000) :
  Calls Tryz.prog 60 #[.agg #[.string op, .string tx, .slice X n m]] w fun e w' => ∃ (A : Option Addr) (cap : Nat), e = .returned (.slice A (leavesQ t).length cap) ∧ At sc 1 w' w'.heap.size A (leavesQ t) ∧ Below w.heap.size w w' := by
 have HL := hid (fun w0 (hb : Below w.heap.size w w0) (hw : w.heap.size ≤ w0.heap.size) => pleaves_any t.deep t (Nat.le_refl _) S op tx X n m w0 w.heap.size hw [] (.slice none 0 0) (World.ownsRow_nil _ _ _ _) hS (hn.bel hS hb) (by simpa using hln))
 clear hn hS
 go_enter Tryz.func60, Tryz.ntmps60
 obtain ⟨w0, hw0⟩ : ∃ w0, w.alloc (.cells #[.string op, .string tx, .slice X n m] 24) = w0 := ⟨_, rfl⟩
 have N0 := hid (show NBox w0 w.heap.size (.string op) (.string tx) (.slice X n m) by rw [← hw0]; exact NBox.fresh _ _ _ _ _)
 have B0 := hid (show Below w.heap.size w w0 by rw [← hw0]; exact below_alloc _ _)
 have HW0 := hid hw0
 clear hw0
 obtain ⟨x0, x1, x2, xf⟩ := N0.out
 go_wp2_with fail
 try rw [HW0.out]
 refine (HL.out _ B0.out B0.out.size).mono ?_
 rintro e w1 ⟨v', rfl, ho, hb⟩
 rw [List.nil_append] at ho
 obtain ⟨A', cap', rfl, hv'⟩ := own_at sc_length ho
 have L1 := hid (B0.out.trans hb)
 have HV := hid hv'
 clear ho hb hv' x0 x1 x2 xf
 obtain ⟨N, hN⟩ : ∃ N, (leavesQ t).length = N := ⟨_, rfl⟩
 have HNN := hid hN
 rw [hN]
 go_wp2
 go_ret
 exact ⟨A', cap', congrArg (fun n9 => Ending.returned (.slice A' n9 cap')) HNN.out.symm, HV.out, L1.out⟩
end Go.Proofs.YthpmgnfmeldkjaaGreatDoor.Code
