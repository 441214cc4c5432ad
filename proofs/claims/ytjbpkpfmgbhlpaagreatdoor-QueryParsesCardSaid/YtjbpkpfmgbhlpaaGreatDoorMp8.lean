/-
  The document's reader of queries: a by.
-/
import Derived.Test.YtjbpkpfmgbhlpaaGreatDoorMp7
set_option maxRecDepth 100000
set_option maxHeartbeats 16000000
open Go.Lib (hid)
namespace Go.Proofs.YtjbpkpfmgbhlpaaGreatDoor.Code
open Go.ChangeShapes Go.WideShapes Go.ChangeAt Go.RowKit Val Elems
set_option linter.unusedVariables false
set_option linter.unusedSimpArgs false
def by0Q (L : List V) (i : Nat) (b : Bool) : Res := if hasQ L i b = true then (.mk sBy [] (namesQ L (L.length + 1) (i + 1) b).1, (namesQ L (L.length + 1) (i + 1) b).2) else (.mk sBy [] [], i, b)
def GetB (r q : Nat) (A : Option Addr) (cap : Nat) (l : List W) (w : World) (has : Bool) (res : Res) (e : Ending) (w' : World) : Prop :=
 ∃ (op tx : ByteArray) (X : Option Addr) (n k : Nat), e = .returned (.tuple #[.agg #[.string op, .string tx, .slice X n k], .bool has]) ∧ RIn w' (New w w') res.1 (op, tx, X, n, k) ∧ But w w' r ∧ QRd w' r q A cap l res.2.1 res.2.2
theorem by_none {r q : Nat} {A : Option Addr} {cap : Nat} {l : List W} {w w' : World} {i : Nat} {b : Bool} (hb : But w w' r) (hr : QRd w' r q A cap l i b) : GetB r q A cap l w false (.mk sBy [] [], i, b) (.returned (.tuple #[.agg #[.string ⟨#[98, 121]⟩, .string ⟨#[]⟩, .slice none 0 0], .bool false])) w' :=
 ⟨_, _, _, _, _, rfl, RIn.leafN _ _ ⟨#[98, 121]⟩ ⟨#[]⟩, hb, hr⟩
theorem qby_none (r q : Nat) (A : Option Addr) (cap : Nat) (l : List W) (i : Nat) (b : Bool) (w : World) (h : QRd w r q A cap l i b) (hi : i ≤ l.length) (hl : l.length ≤ 4194304) (hk : isK (bare l) i b 0 = false) :
  Calls Tryz.prog 102 #[.pointer (some ⟨q, 0, none⟩)] w (GetB r q A cap l w false (.mk sBy [] [], i, b)) := by
 have HR := hid h
 have zr := h.lt
 have zq := h.ltq
 have HK := hid (fun (w' : World) (h' : QRd w' r q A cap l i b) => rkind_any r A cap l i b 0 w' h'.rd hi hl)
 rw [hk] at HK
 clear h hk
 go_enter Tryz.func102, Tryz.ntmps102
 obtain ⟨wa, hwa⟩ : ∃ wa, w.alloc (.cells #[.string ⟨#[]⟩, .string ⟨#[]⟩, .slice none 0 0] 25) = wa := ⟨_, rfl⟩
 obtain ⟨w0, hw0⟩ : ∃ w0, wa.alloc (.cells #[.string ⟨#[98, 121]⟩, .string ⟨#[]⟩, .slice none 0 0] 25) = w0 := ⟨_, rfl⟩
 have hza : wa.heap.size = w.heap.size + 1 := by rw [← hwa]; simp
 have hz0 : w0.heap.size = w.heap.size + 2 := by rw [← hw0, ← hwa]; simp
 have N0 := hid (show NBox w0 w.heap.size (.string ⟨#[]⟩) (.string ⟨#[]⟩) (.slice none 0 0) by rw [← hw0, ← hwa]; exact (NBox.fresh _ _ _ _ _).alloc _)
 have M0 := hid (show NBox w0 (w.heap.size + 1) (.string ⟨#[98, 121]⟩) (.string ⟨#[]⟩) (.slice none 0 0) by rw [← hw0, ← hza]; exact NBox.fresh _ _ _ _ _)
 have R0 := hid (show QRd w0 r q A cap l i b by rw [← hw0, ← hwa]; exact (HR.out.alloc _).alloc _)
 have B0 := hid (show But w w0 r by rw [← hw0, ← hwa]; exact ((But.refl w r).alloc _).alloc _)
 rw [← hwa] at hw0
 have cq := R0.out.cq
 rw [← hw0] at cq
 have HW0 := hid hw0
 clear hwa hza hw0 wa
 go_wp2_with fail
 rw [HW0.out]
 refine (HK.out _ R0.out).mono ?_
 rintro e w1 ⟨rfl, hb1⟩
 have zb1 := hb1.size
 have N1 := hid (N0.out.below hb1)
 have M1 := hid (M0.out.below hb1)
 have R1 := hid (R0.out.below hb1)
 have B1 := hid (B0.out.next hb1)
 clear hb1 cq HW0
 go_wp2
 refine wp_region_quiet_lit (by kernel_rfl) (by kernel_rfl) ?_
 repeat (with_reducible refine wpQuiet_step ?_; intro K hK; go_simp; with_reducible refine hK _ ?_; clear hK K)
 refine wpQuiet_nil ?_
 intro _ hw'
 obtain ⟨nq, hw''⟩ := hw'
 subst hw''
 obtain ⟨w2, hw2⟩ : ∃ w2, w1.drewN nq = w2 := ⟨_, rfl⟩
 have hbd : Below w1.heap.size w1 w2 := by rw [← hw2]; exact drewN_below (Below.refl _ _) _
 have zb2 := hbd.size
 have N2 := hid (N1.out.below hbd)
 have M2 := hid (M1.out.below hbd)
 have R2 := hid (R1.out.below hbd)
 have B2 := hid (B1.out.next hbd)
 rw [hw2]
 clear hw2 hbd
 obtain ⟨x0, x1, x2, xf⟩ := N2.out
 obtain ⟨y0, y1, y2, yf⟩ := M2.out
 go_wp2
 have Y := N2.out.set (.string ⟨#[98, 121]⟩) (.string ⟨#[]⟩) (.slice none 0 0)
 exact bodyPost_ret (v := .tuple #[.agg #[.string ⟨#[98, 121]⟩, .string ⟨#[]⟩, .slice none 0 0], .bool false]) (by simp [results, Tryz.results102, go_sem, Y.c0, Y.c1, Y.c2]) rfl
  (by_none (W3.but B2.out (Nat.le_refl _) _ _ _) (R2.out.w3 zr (by omega) _ _ _))
theorem qby_other (r q : Nat) (A : Option Addr) (cap : Nat) (l : List W) (i : Nat) (b : Bool) (w : World) (h : QRd w r q A cap l i b) (hi : i ≤ l.length) (hl : l.length ≤ 4194304) (hk : isK (bare l) i b 0 = true) (hil : i < l.length) (htx : l[i].2.1 ≠ sBy) :
  Calls Tryz.prog 102 #[.pointer (some ⟨q, 0, none⟩)] w (GetB r q A cap l w false (.mk sBy [] [], i, b)) := by
 have HR := hid h
 have zr := h.lt
 have zq := h.ltq
 have HK := hid (fun (w' : World) (h' : QRd w' r q A cap l i b) => rkind_any r A cap l i b 0 w' h'.rd hi hl)
 obtain ⟨ad, rfl, ha, d0, d1, d2⟩ := at_word h.rd.ws i hil
 obtain ⟨t, htt⟩ : ∃ t, l[i].2.1 = t := ⟨_, rfl⟩
 rw [htt] at d1
 obtain ⟨T, hT⟩ : ∃ T : ByteArray, ⟨t.toArray⟩ = T := ⟨_, rfl⟩
 have hTt : t = T.data.toList := by rw [← hT]
 rw [hT] at d1
 have za : (ad.add (i * 3)).block < w.heap.size := by rw [add_block]; omega
 have HD := hid (fun (w' : World) (hb : But w w' r) => show w'.cell? ⟨(ad.add (i * 3)).block, (ad.add (i * 3)).off + 1, none⟩ = some (.string T) from (hb.cell (q := ⟨(ad.add (i * 3)).block, (ad.add (i * 3)).off + 1, none⟩) za (by show (ad.add (i * 3)).block ≠ r; rw [add_block]; omega)).trans d1)
 have e3 : (i : Int) < (l.length : Int) := by omega
 have hTs : T ≠ ⟨#[98, 121]⟩ := fun e => htx (by rw [htt, hTt, e]; rfl)
 have f2 : (T.toList == [98, 121]) = false := by
  have h := toList_ne hTs
  rw [ByteArray.toList_eq ⟨#[98, 121]⟩] at h
  exact h
 rw [hk] at HK
 clear h hk htx d0 d1 d2 hTt hT htt hTs
 go_enter Tryz.func102, Tryz.ntmps102
 obtain ⟨wa, hwa⟩ : ∃ wa, w.alloc (.cells #[.string ⟨#[]⟩, .string ⟨#[]⟩, .slice none 0 0] 25) = wa := ⟨_, rfl⟩
 obtain ⟨w0, hw0⟩ : ∃ w0, wa.alloc (.cells #[.string ⟨#[98, 121]⟩, .string ⟨#[]⟩, .slice none 0 0] 25) = w0 := ⟨_, rfl⟩
 have hza : wa.heap.size = w.heap.size + 1 := by rw [← hwa]; simp
 have hz0 : w0.heap.size = w.heap.size + 2 := by rw [← hw0, ← hwa]; simp
 have N0 := hid (show NBox w0 w.heap.size (.string ⟨#[]⟩) (.string ⟨#[]⟩) (.slice none 0 0) by rw [← hw0, ← hwa]; exact (NBox.fresh _ _ _ _ _).alloc _)
 have M0 := hid (show NBox w0 (w.heap.size + 1) (.string ⟨#[98, 121]⟩) (.string ⟨#[]⟩) (.slice none 0 0) by rw [← hw0, ← hza]; exact NBox.fresh _ _ _ _ _)
 have R0 := hid (show QRd w0 r q (some ad) cap l i b by rw [← hw0, ← hwa]; exact (HR.out.alloc _).alloc _)
 have B0 := hid (show But w w0 r by rw [← hw0, ← hwa]; exact ((But.refl w r).alloc _).alloc _)
 rw [← hwa] at hw0
 have cq := R0.out.cq
 rw [← hw0] at cq
 have HW0 := hid hw0
 clear hwa hza hw0 wa
 go_wp2_with fail
 rw [HW0.out]
 refine (HK.out _ R0.out).mono ?_
 rintro e w1 ⟨rfl, hb1⟩
 have zb1 := hb1.size
 have N1 := hid (N0.out.below hb1)
 have M1 := hid (M0.out.below hb1)
 have R1 := hid (R0.out.below hb1)
 have B1 := hid (B0.out.next hb1)
 clear hb1 cq HW0
 have c0 := R1.out.rd.c0
 have c1 := R1.out.rd.c1
 have cq := R1.out.cq
 have d1 := HD.out _ B1.out
 go_wp2
 go_quiet (fail)
 obtain ⟨w2, hw2⟩ : ∃ w2, w1.drewN nq = w2 := ⟨_, rfl⟩
 have hbd : Below w1.heap.size w1 w2 := by rw [← hw2]; exact drewN_below (Below.refl _ _) _
 have zb2 := hbd.size
 have N2 := hid (N1.out.below hbd)
 have M2 := hid (M1.out.below hbd)
 have R2 := hid (R1.out.below hbd)
 have B2 := hid (B1.out.next hbd)
 rw [hw2]
 clear hw2 hbd
 clear c0 c1 cq d1
 obtain ⟨x0, x1, x2, xf⟩ := N2.out
 obtain ⟨y0, y1, y2, yf⟩ := M2.out
 go_wp2
 have Y := N2.out.set (.string ⟨#[98, 121]⟩) (.string ⟨#[]⟩) (.slice none 0 0)
 exact bodyPost_ret (v := .tuple #[.agg #[.string ⟨#[98, 121]⟩, .string ⟨#[]⟩, .slice none 0 0], .bool false]) (by simp [results, Tryz.results102, go_sem, Y.c0, Y.c1, Y.c2]) rfl
  (by_none (W3.but B2.out (Nat.le_refl _) _ _ _) (R2.out.w3 zr (by omega) _ _ _))
theorem qby_agg (r q : Nat) (A : Option Addr) (cap : Nat) (l : List W) (i : Nat) (b : Bool) (w : World) (h : QRd w r q A cap l i b) (hi : i ≤ l.length) (hl : l.length ≤ 4194304) (hk : isK (bare l) i b 0 = true) (hil : i < l.length) (htx : l[i].2.1 = sBy) (hw : wordQ (bare l) i b sBy [61] = true) :
  Calls Tryz.prog 102 #[.pointer (some ⟨q, 0, none⟩)] w (GetB r q A cap l w false (.mk sBy [] [], i, b)) := by
 have HR := hid h
 have zr := h.lt
 have zq := h.ltq
 have HK := hid (fun (w' : World) (h' : QRd w' r q A cap l i b) => rkind_any r A cap l i b 0 w' h'.rd hi hl)
 obtain ⟨ad, rfl, ha, d0, d1, d2⟩ := at_word h.rd.ws i hil
 obtain ⟨t, htt⟩ : ∃ t, l[i].2.1 = t := ⟨_, rfl⟩
 rw [htt] at d1
 obtain ⟨T, hT⟩ : ∃ T : ByteArray, ⟨t.toArray⟩ = T := ⟨_, rfl⟩
 have hTt : t = T.data.toList := by rw [← hT]
 rw [hT] at d1
 have za : (ad.add (i * 3)).block < w.heap.size := by rw [add_block]; omega
 have HD := hid (fun (w' : World) (hb : But w w' r) => show w'.cell? ⟨(ad.add (i * 3)).block, (ad.add (i * 3)).off + 1, none⟩ = some (.string T) from (hb.cell (q := ⟨(ad.add (i * 3)).block, (ad.add (i * 3)).off + 1, none⟩) za (by show (ad.add (i * 3)).block ≠ r; rw [add_block]; omega)).trans d1)
 have e3 : (i : Int) < (l.length : Int) := by omega
 obtain rfl : T = ⟨#[98, 121]⟩ := by rw [← hT, ← htt, htx]; rfl
 rw [hk] at HK
 have HW := hid (fun (w' : World) (h' : QRd w' r q (some ad) cap l i b) => qword_any r q (some ad) cap l i b ⟨#[98, 121]⟩ ⟨#[61]⟩ w' h' hi hl)
 rw [show (⟨#[98, 121]⟩ : ByteArray).data.toList = sBy from rfl, show (⟨#[61]⟩ : ByteArray).data.toList = [61] from rfl, hw] at HW
 clear h hk htx hw d0 d1 d2 hTt hT htt
 go_enter Tryz.func102, Tryz.ntmps102
 obtain ⟨wa, hwa⟩ : ∃ wa, w.alloc (.cells #[.string ⟨#[]⟩, .string ⟨#[]⟩, .slice none 0 0] 25) = wa := ⟨_, rfl⟩
 obtain ⟨w0, hw0⟩ : ∃ w0, wa.alloc (.cells #[.string ⟨#[98, 121]⟩, .string ⟨#[]⟩, .slice none 0 0] 25) = w0 := ⟨_, rfl⟩
 have hza : wa.heap.size = w.heap.size + 1 := by rw [← hwa]; simp
 have hz0 : w0.heap.size = w.heap.size + 2 := by rw [← hw0, ← hwa]; simp
 have N0 := hid (show NBox w0 w.heap.size (.string ⟨#[]⟩) (.string ⟨#[]⟩) (.slice none 0 0) by rw [← hw0, ← hwa]; exact (NBox.fresh _ _ _ _ _).alloc _)
 have M0 := hid (show NBox w0 (w.heap.size + 1) (.string ⟨#[98, 121]⟩) (.string ⟨#[]⟩) (.slice none 0 0) by rw [← hw0, ← hza]; exact NBox.fresh _ _ _ _ _)
 have R0 := hid (show QRd w0 r q (some ad) cap l i b by rw [← hw0, ← hwa]; exact (HR.out.alloc _).alloc _)
 have B0 := hid (show But w w0 r by rw [← hw0, ← hwa]; exact ((But.refl w r).alloc _).alloc _)
 rw [← hwa] at hw0
 have cq := R0.out.cq
 rw [← hw0] at cq
 have HW0 := hid hw0
 clear hwa hza hw0 wa
 go_wp2_with fail
 rw [HW0.out]
 refine (HK.out _ R0.out).mono ?_
 rintro e w1 ⟨rfl, hb1⟩
 have zb1 := hb1.size
 have N1 := hid (N0.out.below hb1)
 have M1 := hid (M0.out.below hb1)
 have R1 := hid (R0.out.below hb1)
 have B1 := hid (B0.out.next hb1)
 clear hb1 cq HW0
 have c0 := R1.out.rd.c0
 have c1 := R1.out.rd.c1
 have cq := R1.out.cq
 have d1 := HD.out _ B1.out
 go_wp2
 go_quiet (fail)
 obtain ⟨w2, hw2⟩ : ∃ w2, w1.drewN nq = w2 := ⟨_, rfl⟩
 have hbd : Below w1.heap.size w1 w2 := by rw [← hw2]; exact drewN_below (Below.refl _ _) _
 have zb2 := hbd.size
 have N2 := hid (N1.out.below hbd)
 have M2 := hid (M1.out.below hbd)
 have R2 := hid (R1.out.below hbd)
 have B2 := hid (B1.out.next hbd)
 rw [hw2]
 clear hw2 hbd
 clear c0 c1 cq d1
 have cq := R2.out.cq
 go_wp2_with fail
 refine (HW.out _ R2.out).mono ?_
 rintro e w3 ⟨rfl, hb3⟩
 have zb3 := hb3.size
 have N3 := hid (N2.out.below hb3)
 have M3 := hid (M2.out.below hb3)
 have R3 := hid (R2.out.below hb3)
 have B3 := hid (B2.out.next hb3)
 clear hb3 cq
 obtain ⟨x0, x1, x2, xf⟩ := N3.out
 obtain ⟨y0, y1, y2, yf⟩ := M3.out
 go_wp2
 have Y := N3.out.set (.string ⟨#[98, 121]⟩) (.string ⟨#[]⟩) (.slice none 0 0)
 exact bodyPost_ret (v := .tuple #[.agg #[.string ⟨#[98, 121]⟩, .string ⟨#[]⟩, .slice none 0 0], .bool false]) (by simp [results, Tryz.results102, go_sem, Y.c0, Y.c1, Y.c2]) rfl
  (by_none (W3.but B3.out (Nat.le_refl _) _ _ _) (R3.out.w3 zr (by omega) _ _ _))
theorem at1 {w : World} {r : Nat} {A : Option Addr} {cap : Nat} {l : List W} {i : Nat} {b : Bool} (h : Rdr w r A cap l i b) : Rdr (w.setCell ⟨r, 1, none⟩ (.int .i64 ((i : Int) + 1))) r A cap l (i + 1) b := by
 have := h.at (i + 1)
 rw [Int.natCast_add] at this
 exact this
def moreOf : Value → Nat
 | .bool true => 1
 | _ => 0
def BInv (r q : Nat) (A : Option Addr) (cap : Nat) (l : List W) (w : World) (R : Ress) (v : Value) (wr : World) : Prop :=
 ∃ (f j : Nat) (c m : Bool) (ks : List Nod) (xs : List NV) (X : Option Addr) (cp : Nat), v = .bool m ∧ NBox wr w.heap.size (.string ⟨#[]⟩) (.string ⟨#[]⟩) (.slice none 0 0) ∧ NBox wr (w.heap.size + 1) (.string ⟨#[98, 121]⟩) (.string ⟨#[]⟩) (.slice X xs.length cp) ∧
  wr.ownsRow (w.heap.size + 2) 25 3 (.slice X xs.length cp) xs.length (flatC nc xs) ∧ RAll wr (fun _ => False) ks xs ∧ j ≤ l.length ∧ (m = true → l.length - j < f) ∧ ks.length + moreOf v ≤ j + 1 ∧
  Hid (R = (ks ++ (if m = true then (namesQ (bare l) f j c).1 else []), if m = true then (namesQ (bare l) f j c).2 else (j, c))) ∧ But w wr r ∧ QRd wr r q A cap l j c
theorem names_go {L : List V} {f j : Nat} {c : Bool} (hf : L.length - j < f) (hj : j ≤ L.length) : ∃ f', f = f' + 1 ∧ (isK L (nmQ L j c).2.1 (nmQ L j c).2.2 0 = true → L.length - (nmQ L j c).2.1 < f' ∧ j + 1 ≤ (nmQ L j c).2.1) ∧
  namesQ L f j c = (.mk sCol (nmQ L j c).1 [] :: (if isK L (nmQ L j c).2.1 (nmQ L j c).2.2 0 = true then (namesQ L f' (nmQ L j c).2.1 (nmQ L j c).2.2).1 else []), if isK L (nmQ L j c).2.1 (nmQ L j c).2.2 0 = true then (namesQ L f' (nmQ L j c).2.1 (nmQ L j c).2.2).2 else (nmQ L j c).2) := by
 obtain ⟨f', rfl⟩ : ∃ f', f = f' + 1 := ⟨f - 1, by omega⟩
 refine ⟨f', rfl, fun hk => ?_, ?_⟩
 ·have h1 := (isK_lt hk).2
  have h3 := (isK_lt hk).1
  have h2 : j + 1 ≤ (nmQ L j c).2.1 := by
   unfold nmQ at h1 ⊢
   split at h1
   ·rename_i hs
    rw [if_pos hs]
    exact Nat.le_refl _
   ·cases h1
  exact ⟨by omega, h2⟩
 ·rw [namesQ]
  split <;> rfl
theorem NBox.grown {w w9 : World} {g : Nat} {a b c : Value} {row : Option Nat} (h : NBox w g a b c) (hg : w.grownBy w9 row) (hn : row ≠ some g) : NBox w9 g a b c := by
 have hk : ∀ j, w9.cell? ⟨g, j, none⟩ = w.cell? ⟨g, j, none⟩ := fun j => by
  unfold World.cell?
  rw [hg.block g h.lt hn.symm]
 have hf : ∀ j, w9.frozen? ⟨g, j, none⟩ = w.frozen? ⟨g, j, none⟩ := fun j => by
  unfold World.frozen?
  rw [hg.block g h.lt hn.symm]
 exact ⟨(hk 0).trans h.c0, (hk 1).trans h.c1, (hk 2).trans h.c2, fun j => (hf j).trans (h.fr j)⟩
theorem NBox.kid {w : World} {g : Nat} {a b c : Value} (h : NBox w g a b c) (z : Value) : NBox (w.setCell ⟨g, 2, none⟩ z) g a b z :=
 ⟨(World.cell?_setCell_other _ _ _ _ (by simp)).trans h.c0, (World.cell?_setCell_other _ _ _ _ (by simp)).trans h.c1, World.cell?_setCell_same _ _ _ h.c2, fun j => by rw [World.frozen?_setCell]; exact h.fr j⟩
theorem NBox.far {w : World} {g : Nat} {a b c : Value} (h : NBox w g a b c) (p : Addr) (hp : p.block ≠ g) (z : Value) : NBox (w.setCell p z) g a b c :=
 ⟨(World.cell?_setCell_other _ _ _ _ (fun e => hp (by rw [e]))).trans h.c0, (World.cell?_setCell_other _ _ _ _ (fun e => hp (by rw [e]))).trans h.c1, (World.cell?_setCell_other _ _ _ _ (fun e => hp (by rw [e]))).trans h.c2, fun j => by rw [World.frozen?_setCell]; exact h.fr j⟩
theorem own_set {w : World} {B n k : Nat} {e : TypeId} {v : Value} {xs : List Value} (h : w.ownsRow B e k v n xs) (p : Addr) (hp : p.block < B) (u : Value) : (w.setCell p u).ownsRow B e k v n xs :=
 h.kept (row := some p.block) ⟨rfl, rfl, rfl, by simp, fun j hj hn => Below.heap_setCell w p u j (fun e => hn (by rw [e]))⟩ (by
  by_cases hv : v.ownBlock = some p.block
  ·have := (h.lt _ hv).1
   omega
  ·exact .inr hv)
theorem by_told {r q : Nat} {A : Option Addr} {cap : Nat} {l : List W} {w wr : World} {ks : List Nod} {xs : List NV} {X : Option Addr} {cp j : Nat} {c : Bool} (hq : q < w.heap.size) (hr : r < w.heap.size) (ho : wr.ownsRow (w.heap.size + 2) 25 3 (.slice X xs.length cp) xs.length (flatC nc xs)) (ha : RAll wr (fun _ => False) ks xs) (hk : ks.length ≤ 1000000000) (hb : But w wr r) (hQ : QRd wr r q A cap l j c) :
  GetB r q A cap l w true (.mk sBy [] ks, j, c) (.returned (.tuple #[.agg #[.string ⟨#[98, 121]⟩, .string ⟨#[]⟩, .slice X xs.length cp], .bool true])) (W3 wr w.heap.size (.string ⟨#[98, 121]⟩) (.string ⟨#[]⟩) (.slice X xs.length cp)) := by
 obtain ⟨A', cap', e, hat, hcp⟩ := own_nat ho
 injection e with e _ e2
 subst e e2
 refine ⟨⟨#[98, 121]⟩, ⟨#[]⟩, X, xs.length, cp, rfl, ?_, W3.but hb (Nat.le_refl _) _ _ _, hQ.w3 hr (by omega) _ _ _⟩
 rw [ha.1]
 have h := RIn.made cp ⟨#[98, 121]⟩ ⟨#[]⟩ hat (ha.keep (S' := fun g => w.heap.size + 2 ≤ g ∧ g < wr.heap.size) (fun g h => h.elim) (fun p h => h.elim)) hk (by rw [← ha.1]; exact hcp)
 exact (h.w3 (g := w.heap.size) (fun h => by have := h.1; omega) _ _ _).imp (fun g hg => ⟨by have := hg.1; omega, by show g < (W3 wr w.heap.size _ _ _).heap.size; rw [W3.size]; exact hg.2⟩)
theorem qby_names (r q : Nat) (A : Option Addr) (cap : Nat) (l : List W) (i : Nat) (b : Bool) (w : World) (h : QRd w r q A cap l i b) (hi : i ≤ l.length) (hl : l.length ≤ 4194304) (hk : isK (bare l) i b 0 = true) (hil : i < l.length) (htx : l[i].2.1 = sBy) (hw : wordQ (bare l) i b sBy [61] = false) :
  Calls Tryz.prog 102 #[.pointer (some ⟨q, 0, none⟩)] w (GetB r q A cap l w true (.mk sBy [] (namesQ (bare l) ((bare l).length + 1) (i + 1) b).1, (namesQ (bare l) ((bare l).length + 1) (i + 1) b).2)) := by
 have HR := hid h
 have zr := h.lt
 have zq := h.ltq
 have HK := hid (fun (w' : World) (h' : QRd w' r q A cap l i b) => rkind_any r A cap l i b 0 w' h'.rd hi hl)
 obtain ⟨ad, rfl, ha, d0, d1, d2⟩ := at_word h.rd.ws i hil
 obtain ⟨t, htt⟩ : ∃ t, l[i].2.1 = t := ⟨_, rfl⟩
 rw [htt] at d1
 obtain ⟨T, hT⟩ : ∃ T : ByteArray, ⟨t.toArray⟩ = T := ⟨_, rfl⟩
 have hTt : t = T.data.toList := by rw [← hT]
 rw [hT] at d1
 have za : (ad.add (i * 3)).block < w.heap.size := by rw [add_block]; omega
 have HD := hid (fun (w' : World) (hb : But w w' r) => show w'.cell? ⟨(ad.add (i * 3)).block, (ad.add (i * 3)).off + 1, none⟩ = some (.string T) from (hb.cell (q := ⟨(ad.add (i * 3)).block, (ad.add (i * 3)).off + 1, none⟩) za (by show (ad.add (i * 3)).block ≠ r; rw [add_block]; omega)).trans d1)
 have e3 : (i : Int) < (l.length : Int) := by omega
 obtain rfl : T = ⟨#[98, 121]⟩ := by rw [← hT, ← htt, htx]; rfl
 rw [hk] at HK
 have HW := hid (fun (w' : World) (h' : QRd w' r q (some ad) cap l i b) => qword_any r q (some ad) cap l i b ⟨#[98, 121]⟩ ⟨#[61]⟩ w' h' hi hl)
 rw [show (⟨#[98, 121]⟩ : ByteArray).data.toList = sBy from rfl, show (⟨#[61]⟩ : ByteArray).data.toList = [61] from rfl, hw] at HW
 obtain ⟨R, hR⟩ : ∃ R, namesQ (bare l) ((bare l).length + 1) (i + 1) b = R := ⟨_, rfl⟩
 have HRR := hid hR
 rw [hR]
 obtain ⟨i0, hi0, hz0', hz1, hz2⟩ := info_parts info_node
 clear h hk htx hw d0 d1 d2 hTt hT htt hR
 go_enter Tryz.func102, Tryz.ntmps102
 obtain ⟨wa, hwa⟩ : ∃ wa, w.alloc (.cells #[.string ⟨#[]⟩, .string ⟨#[]⟩, .slice none 0 0] 25) = wa := ⟨_, rfl⟩
 obtain ⟨w0, hw0⟩ : ∃ w0, wa.alloc (.cells #[.string ⟨#[98, 121]⟩, .string ⟨#[]⟩, .slice none 0 0] 25) = w0 := ⟨_, rfl⟩
 have hza : wa.heap.size = w.heap.size + 1 := by rw [← hwa]; simp
 have hz0 : w0.heap.size = w.heap.size + 2 := by rw [← hw0, ← hwa]; simp
 have N0 := hid (show NBox w0 w.heap.size (.string ⟨#[]⟩) (.string ⟨#[]⟩) (.slice none 0 0) by rw [← hw0, ← hwa]; exact (NBox.fresh _ _ _ _ _).alloc _)
 have M0 := hid (show NBox w0 (w.heap.size + 1) (.string ⟨#[98, 121]⟩) (.string ⟨#[]⟩) (.slice none 0 0) by rw [← hw0, ← hza]; exact NBox.fresh _ _ _ _ _)
 have R0 := hid (show QRd w0 r q (some ad) cap l i b by rw [← hw0, ← hwa]; exact (HR.out.alloc _).alloc _)
 have B0 := hid (show But w w0 r by rw [← hw0, ← hwa]; exact ((But.refl w r).alloc _).alloc _)
 rw [← hwa] at hw0
 have cq := R0.out.cq
 rw [← hw0] at cq
 have HW0 := hid hw0
 clear hwa hza hw0 wa
 go_wp2_with fail
 rw [HW0.out]
 refine (HK.out _ R0.out).mono ?_
 rintro e w1 ⟨rfl, hb1⟩
 have zb1 := hb1.size
 have N1 := hid (N0.out.below hb1)
 have M1 := hid (M0.out.below hb1)
 have R1 := hid (R0.out.below hb1)
 have B1 := hid (B0.out.next hb1)
 clear hb1 cq HW0
 have c0 := R1.out.rd.c0
 have c1 := R1.out.rd.c1
 have cq := R1.out.cq
 have d1 := HD.out _ B1.out
 go_wp2
 go_quiet (fail)
 obtain ⟨w2, hw2⟩ : ∃ w2, w1.drewN nq = w2 := ⟨_, rfl⟩
 have hbd : Below w1.heap.size w1 w2 := by rw [← hw2]; exact drewN_below (Below.refl _ _) _
 have zb2 := hbd.size
 have N2 := hid (N1.out.below hbd)
 have M2 := hid (M1.out.below hbd)
 have R2 := hid (R1.out.below hbd)
 have B2 := hid (B1.out.next hbd)
 rw [hw2]
 clear hw2 hbd
 clear c0 c1 cq d1
 have cq := R2.out.cq
 go_wp2_with fail
 refine (HW.out _ R2.out).mono ?_
 rintro e w3 ⟨rfl, hb3⟩
 have zb3 := hb3.size
 have N3 := hid (N2.out.below hb3)
 have M3 := hid (M2.out.below hb3)
 have R3 := hid (R2.out.below hb3)
 have B3 := hid (B2.out.next hb3)
 clear hb3 cq
 have c1 := R3.out.rd.c1
 have cq := R3.out.cq
 have f1 := R3.out.rd.fr 1
 have e1 : IntKind.i64.wrap ((i : Int) + 1) = (i : Int) + 1 := by rw [IntKind.wrap_i64]; omega
 obtain ⟨w4, hw4⟩ : ∃ w4, w3.setCell ⟨r, 1, none⟩ (.int .i64 ((i : Int) + 1)) = w4 := ⟨_, rfl⟩
 have zb4 : w4.heap.size = w3.heap.size := by rw [← hw4]; simp
 have N4 := hid (show NBox w4 w.heap.size (.string ⟨#[]⟩) (.string ⟨#[]⟩) (.slice none 0 0) by rw [← hw4]; exact N3.out.far _ (by show r ≠ _; omega) _)
 have M4 := hid (show NBox w4 (w.heap.size + 1) (.string ⟨#[98, 121]⟩) (.string ⟨#[]⟩) (.slice none 0 0) by rw [← hw4]; exact M3.out.far _ (by show r ≠ _; omega) _)
 have R4 := hid (show QRd w4 r q (some ad) cap l (i + 1) b by rw [← hw4]; exact ⟨at1 R3.out.rd, (World.cell?_setCell_other _ _ _ _ (fun e => R3.out.ne (congrArg Addr.block e).symm)).trans R3.out.cq, R3.out.ne⟩)
 have B4 := hid (show But w w4 r by rw [← hw4]; exact B3.out.setCell 1 _)
 have HW4 := hid hw4
 clear hw4
 go_wp2
 rw [HW4.out]
 clear cq c1 f1 HW4
 go_loopw [7] (fun v wr => BInv r q (some ad) cap l w R v wr) (fun v wr => (l.length - atOf wr r) + moreOf v)
 case atStart =>
  refine ⟨(bare l).length + 1, i + 1, b, true, [], [], none, 0, rfl, N4.out, M4.out, World.ownsRow_nil _ _ _ _, RAll.nil _ _, by omega, fun _ => by rw [bare_length]; omega, by simp [moreOf], hid ?_, B4.out, R4.out⟩
  rw [← HRR.out]
  rfl
 case round =>
  obtain ⟨f, j, c, m, ks, xs, X, cp, rfl, hn, hm, hown, hall, hj, hf, hkj, HE, hbut, hqr⟩ := hrel
  have N5 := hid hn
  have M5 := hid hm
  have HO := hid hown
  have HA := hid hall
  have HB := hid hbut
  have HQ := hid hqr
  have hz := hbut.size
  have HAT := hid (atq hqr)
  have hlm := hm.lt
  have hks := hall.1
  clear hn hm hown hall hbut hqr
  cases m with
  | false =>
   have HEE := hid (show R = (ks, j, c) by rw [HE.out]; simp)
   have hkk : ks.length ≤ 1000000000 := by simp [moreOf] at hkj; omega
   obtain ⟨N, hN⟩ : ∃ N, xs.length = N := ⟨_, rfl⟩
   obtain ⟨x0, x1, x2, xf⟩ := N5.out
   obtain ⟨y0, y1, y2, yf⟩ := M5.out
   rw [hN] at y2
   have HN := hid hN
   clear hN hks HE hf hkj
   go_wp2
   have Y := N5.out.set (.string ⟨#[98, 121]⟩) (.string ⟨#[]⟩) (.slice X N cp)
   have hg := by_told zq zr HO.out HA.out hkk HB.out HQ.out
   rw [HN.out] at hg
   rw [HEE.out]
   exact bodyPost_ret (v := .tuple #[.agg #[.string ⟨#[98, 121]⟩, .string ⟨#[]⟩, .slice X N cp], .bool true]) (by simp [results, Tryz.results102, go_sem, Y.c0, Y.c1, Y.c2]) rfl hg
  | true =>
   obtain ⟨f', rfl, hadv, hgo⟩ := names_go (L := bare l) (c := c) (by rw [bare_length]; exact hf rfl) (by rw [bare_length]; exact hj)
   have E1 := nm_ends (L := bare l) (i := j) (b := c) (by rw [bare_length]; exact hj)
   obtain ⟨n0, hn0⟩ : ∃ n0, nmQ (bare l) j c = n0 := ⟨_, rfl⟩
   rw [hn0] at E1 hadv hgo
   obtain ⟨m', hm'⟩ : ∃ m', isK (bare l) n0.2.1 n0.2.2 0 = m' := ⟨_, rfl⟩
   rw [hm'] at hadv hgo
   rw [bare_length] at hadv
   have HE2 := hid (show R = (ks ++ [.mk sCol n0.1 []] ++ (if m' = true then (namesQ (bare l) f' n0.2.1 n0.2.2).1 else []), if m' = true then (namesQ (bare l) f' n0.2.1 n0.2.2).2 else (n0.2.1, n0.2.2)) by
    rw [HE.out, hgo]
    simp)
   have H1 := hid (fun (w' : World) (h' : QRd w' r q (some ad) cap l j c) => qname_any r q (some ad) cap l j c w' h' hj hl)
   rw [hn0] at H1
   have hp1 : j ≤ n0.2.1 := E1.1
   have hp2 : n0.2.1 ≤ l.length := by have := E1.2.1; rw [bare_length] at this; exact this
   have H2 := hid (fun (w' : World) (h' : QRd w' r q (some ad) cap l n0.2.1 n0.2.2) => rkind_any r (some ad) cap l n0.2.1 n0.2.2 0 w' h'.rd hp2 hl)
   rw [hm'] at H2
   obtain ⟨T, hT⟩ : ∃ T : ByteArray, ⟨n0.1.toArray⟩ = T := ⟨_, rfl⟩
   have HTT := hid (show n0.1 = T.data.toList by rw [← hT])
   rw [hT] at H1
   have HADV := hid hadv
   have hkk : ks.length ≤ j := by simp [moreOf] at hkj; omega
   obtain ⟨N, hN⟩ : ∃ N, xs.length = N := ⟨_, rfl⟩
   have hNj : N ≤ j := by omega
   have HKS := hid (show ks.length = N by omega)
   have HN := hid hN
   rw [hN] at HO M5
   clear hgo HE hn0 hm' hT E1 hadv hks hkj hf hN
   have cq := HQ.out.cq
   go_wp2_with fail
   refine (H1.out _ HQ.out).mono ?_
   rintro e w6 ⟨rfl, hb6, hr6⟩
   have zb6 := hb6.size
   have O6 := hid (own_but HO.out hb6 (by omega))
   have N6 := hid (N5.out.but (by omega) hb6)
   have M6 := hid (M5.out.but (by omega) hb6)
   have R6 := hid hr6
   have B6 := hid (HB.out.trans hb6)
   clear hb6 hr6 cq H1
   have y2 := M6.out.c2
   go_wp2_with (at_builtin; refine wpList_append_lies _ rfl _ _ _ rfl (w.heap.size + 2) 25 i0 _ 3 56 Tryz.underlying23 hi0 hz0' hz1 hz2 rfl (by omega) _ N (flatC nc xs) rfl ?ca ⟨w6.heap.size, 0, none⟩ 1 1 [.string ⟨#[99, 111, 108]⟩, .string T, .slice none 0 0] rfl rfl ?cn ?co (by omega) ?cm ?cb ?cs (w6.heap.size + 1) ?ch ?_)
   case ca => exact own_call O6.out (below_alloc _ _)
   case cn => exact World.news_of_block (heap_alloc_new w6 _)
   case co => exact nc_one (⟨#[99, 111, 108]⟩, T, none, 0, 0)
   case cm => unfold maxLen; omega
   case cb => omega
   case cs => simp; omega
   case ch => simp
   intro gg cap9 w9 hown9 hgrow hat hlt9
   obtain ⟨W8, hW8⟩ : ∃ W8, w6.alloc (.cells #[.string ⟨#[99, 111, 108]⟩, .string T, .slice none 0 0] 25) = W8 := ⟨_, rfl⟩
   have hz8 : W8.heap.size = w6.heap.size + 1 := by rw [← hW8]; simp
   have BA := hid (show Below w6.heap.size w6 W8 by rw [← hW8]; exact (Below.refl _ _).alloc (Nat.le_refl _) _)
   rw [hW8] at hgrow
   have hrow : ∀ k, (Value.slice X N cp).ownBlock = some k → w.heap.size + 2 ≤ k := fun k e => (O6.out.lt k e).1
   have hz9 := hgrow.size
   have N9 := hid ((N6.out.below BA.out).grown hgrow (fun e => by have := hrow _ e; omega))
   have M9 := hid ((M6.out.below BA.out).grown hgrow (fun e => by have := hrow _ e; omega))
   have B9 := hid ((B6.out.next BA.out).grown hgrow (fun k e => by have := hrow _ e; omega))
   have R9 := hid ((R6.out.below BA.out).under (B := w.heap.size) ⟨hgrow.os, hgrow.tape, hgrow.output, hgrow.size, fun k hk => hgrow.block k (by omega) (fun e => by have := hrow _ e.symm; omega)⟩ zr zq)
   have O9 := hid hown9
   clear hown9 hgrow hat hlt9 hW8 y2 hrow
   have y2 := M9.out.c2
   have yf := M9.out.fr 2
   obtain ⟨wb, hwb⟩ : ∃ wb, w9.setCell ⟨w.heap.size + 1, 2, none⟩ (.slice (some ⟨gg, 0, none⟩) (N + 1) cap9) = wb := ⟨_, rfl⟩
   have zbb : wb.heap.size = w9.heap.size := by rw [← hwb]; simp
   have NB := hid (show NBox wb w.heap.size (.string ⟨#[]⟩) (.string ⟨#[]⟩) (.slice none 0 0) by rw [← hwb]; exact N9.out.far _ (by show w.heap.size + 1 ≠ w.heap.size; omega) _)
   have MB := hid (show NBox wb (w.heap.size + 1) (.string ⟨#[98, 121]⟩) (.string ⟨#[]⟩) (.slice (some ⟨gg, 0, none⟩) (N + 1) cap9) by rw [← hwb]; exact M9.out.kid _)
   have BB := hid (show But w wb r by rw [← hwb]; exact B9.out.new _ (by show w.heap.size ≤ w.heap.size + 1; omega) _)
   have RB := hid (show QRd wb r q (some ad) cap l n0.2.1 n0.2.2 by rw [← hwb]; exact R9.out.new _ (by show r < w.heap.size + 1; omega) (by show q ≠ w.heap.size + 1; omega) _)
   have OB := hid (show wb.ownsRow (w.heap.size + 2) 25 3 (.slice (some ⟨gg, 0, none⟩) (N + 1) cap9) (N + 1) (flatC nc xs ++ nc (⟨#[99, 111, 108]⟩, T, none, 0, 0)) by rw [← hwb]; exact own_set O9.out _ (by show w.heap.size + 1 < w.heap.size + 2; omega) _)
   have cq := RB.out.cq
   rw [← hwb] at cq
   have HWB := hid hwb
   clear hwb
   go_wp2_with fail
   rw [HWB.out]
   refine (H2.out _ RB.out).mono ?_
   rintro e w10 ⟨rfl, hb10⟩
   have z10 := hb10.size
   have NC := hid (NB.out.below hb10)
   have MC := hid (MB.out.below hb10)
   have RC := hid (RB.out.below hb10)
   have BC := hid (BB.out.next hb10)
   have OC := hid (own_call OB.out hb10)
   clear hb10 cq y2 yf HWB
   have hat10 := atq RC.out
   have hat0 := HAT.out
   have IV := hid (show BInv r q (some ad) cap l w R (.bool m') w10 from by
    have hl1 : (xs ++ [((⟨#[99, 111, 108]⟩ : ByteArray), T, (none : Option Addr), 0, 0)]).length = N + 1 := by simp [HN.out]
    have hfl : flatC nc (xs ++ [((⟨#[99, 111, 108]⟩ : ByteArray), T, (none : Option Addr), 0, 0)]) = flatC nc xs ++ nc (⟨#[99, 111, 108]⟩, T, none, 0, 0) := flatC_snoc xs _
    refine ⟨f', n0.2.1, n0.2.2, m', ks ++ [.mk sCol n0.1 []], xs ++ [(⟨#[99, 111, 108]⟩, T, none, 0, 0)], some ⟨gg, 0, none⟩, cap9, rfl, NC.out, by rw [hl1]; exact MC.out, by rw [hl1, hfl]; exact OC.out, ?_, hp2, fun e => (HADV.out e).1, ?_, HE2, BC.out, RC.out⟩
    ·refine (HA.out.keep (fun g h => h.elim) (fun p h => h.elim)).snoc ?_
     rw [HTT.out]
     exact RIn.leafN _ _ ⟨#[99, 111, 108]⟩ T
    ·have := HKS.out
     rw [List.length_append]
     cases m' with
     | false => simp [moreOf]; omega
     | true => have := (HADV.out rfl).2; simp [moreOf]; omega)
   have hms : (l.length - atOf w10 r) + moreOf (.bool m') < (l.length - atOf wr r) + moreOf (.bool true) := by
    rw [hat10, hat0]
    cases m' with
    | false => simp [moreOf]; omega
    | true => have := (HADV.out rfl).2; have := (HADV.out rfl).1; simp [moreOf]; omega
   go_wp2
   go_roundw
   case rel => exact IV.out
   case measure => exact hms
theorem qby_any (r q : Nat) (A : Option Addr) (cap : Nat) (l : List W) (i : Nat) (b : Bool) (w : World) (h : QRd w r q A cap l i b) (hi : i ≤ l.length) (hl : l.length ≤ 4194304) :
  Calls Tryz.prog 102 #[.pointer (some ⟨q, 0, none⟩)] w (GetB r q A cap l w (hasQ (bare l) i b) (by0Q (bare l) i b)) := by
 unfold by0Q
 by_cases hk : isK (bare l) i b 0 = true
 ·have hil := isK_len hk
  by_cases htx : l[i].2.1 = sBy
  ·by_cases hw : wordQ (bare l) i b sBy [61] = true
   ·have hh : hasQ (bare l) i b = false := by unfold hasQ; rw [hw]; simp
    rw [hh, if_neg (by decide)]
    exact qby_agg r q A cap l i b w h hi hl hk hil htx hw
   ·have hw := Bool.eq_false_iff.2 hw
    have hh : hasQ (bare l) i b = true := by unfold hasQ; rw [hw, hk, txt_at hil, htx]; simp
    rw [hh, if_pos rfl]
    exact qby_names r q A cap l i b w h hi hl hk hil htx hw
  ·have hh : hasQ (bare l) i b = false := by
    unfold hasQ
    rw [txt_at hil]
    have : (l[i].2.1 == sBy) = false := by simpa using htx
    rw [this]
    simp
   rw [hh, if_neg (by decide)]
   exact qby_other r q A cap l i b w h hi hl hk hil htx
 ·have hk := Bool.eq_false_iff.2 hk
  have hh : hasQ (bare l) i b = false := by unfold hasQ; rw [hk]; simp
  rw [hh, if_neg (by decide)]
  exact qby_none r q A cap l i b w h hi hl hk
theorem by_is (L : List V) (i : Nat) (b : Bool) : byQ L i b = if hasQ L i b = true then ((by0Q L i b).1, mustQ L (by0Q L i b).2.1 (by0Q L i b).2.2 [44]) else by0Q L i b := by
 unfold byQ by0Q
 split <;> rfl
theorem kindQ_none {L : List V} {i : Nat} {b : Bool} : ∀ {l : List (List UInt8)}, (∀ s ∈ l, (isK L i b 0 && txt L i == s) = false) → kindQ L i b l = []
 | [], _ => rfl
 | s :: l, h => by rw [kindQ, if_neg (by rw [h s (List.mem_cons_self ..)]; decide)]; exact kindQ_none fun t ht => h t (List.mem_cons_of_mem _ ht)
theorem kindQ_step {L : List V} {i : Nat} {b : Bool} : ∀ (ls : List (List UInt8)) (k : Nat) (h : k < ls.length), (∀ j (hj : j < ls.length), j < k → (isK L i b 0 && txt L i == ls[j]) = false) → (isK L i b 0 && txt L i == ls[k]) = true → kindQ L i b ls = ls[k]
 | [], k, h, _, _ => absurd h (Nat.not_lt_zero _)
 | s :: ls, 0, h, _, hw => by
  rw [kindQ, if_pos (show (isK L i b 0 && txt L i == s) = true from hw)]
  rfl
 | s :: ls, k + 1, h, hb, hw => by
  have h0 := hb 0 (by simp) (by omega)
  rw [kindQ, if_neg (by rw [show (isK L i b 0 && txt L i == s) = false from h0]; decide)]
  exact kindQ_step ls k (by simpa using h) (fun j hj hjk => hb (j + 1) (by simpa using hj) (by omega)) hw
theorem nat_new (w : World) (op tx : ByteArray) (Y : Option Addr) (n k : Nat) (ty : TypeId) (S : Nat → Prop) (hS : S w.heap.size) : NAt (w.alloc (.cells #[.string op, .string tx, .slice Y n k] ty)) S (some ⟨w.heap.size, 0, none⟩) [(op, tx, Y, n, k)] := by
 have h := NBox.fresh w (.string op) (.string tx) (.slice Y n k) ty
 intro i hi
 obtain rfl : i = 0 := by simp at hi; exact hi
 exact ⟨_, rfl, hS, h.c0, h.c1, h.c2⟩
theorem leaf_made (w : World) (a b c d : ByteArray) : RIn (w.alloc (.cells #[.string a, .string b, .slice none 0 0] 25)) (fun g => w.heap.size ≤ g ∧ g < w.heap.size + 1) (.mk c.data.toList d.data.toList [.mk a.data.toList b.data.toList []]) (c, d, some ⟨w.heap.size, 0, none⟩, 1, 1) :=
 RIn.made (ks := [.mk a.data.toList b.data.toList []]) 1 c d (nat_new w a b none 0 0 _ (fun g => w.heap.size ≤ g ∧ g < w.heap.size + 1) ⟨Nat.le_refl _, by omega⟩) (RAll.one (RIn.leafN _ _ a b)) (by simp) (by simp)
theorem agg_told {r q : Nat} {A : Option Addr} {cap : Nat} {l : List W} {w w7 : World} {j : Nat} {c : Bool} (hr : r < w.heap.size) (hq : q < w.heap.size) (a b d : ByteArray) {res : Res} (hres : res = (.mk sAgg d.data.toList [.mk a.data.toList b.data.toList []], j, c)) (hb : But w w7 r) (hlt : w.heap.size < w7.heap.size) (hQ : QRd w7 r q A cap l j c) :
  GetN r q A cap l w res (.returned (.agg #[.string ⟨#[97, 103, 103]⟩, .string d, .slice (some ⟨w7.heap.size, 0, none⟩) 1 1])) (W3 (w7.alloc (.cells #[.string a, .string b, .slice none 0 0] 25)) w.heap.size (.string ⟨#[97, 103, 103]⟩) (.string d) (.slice (some ⟨w7.heap.size, 0, none⟩) 1 1)) := by
 subst hres
 exact ⟨_, _, _, _, _, rfl, ((leaf_made w7 a b ⟨#[97, 103, 103]⟩ d).w3 (g := w.heap.size) (fun h => by have := h.1; omega) _ _ _).imp (fun g hg => ⟨by have := hg.1; omega, by show g < (W3 _ w.heap.size _ _ _).heap.size; rw [W3.size]; have := hg.2; simp; omega⟩), W3.but (hb.alloc _) (Nat.le_refl _) _ _ _, (hQ.alloc _).w3 hr (by omega) _ _ _⟩
theorem QRd.at1 {w : World} {r q : Nat} {A : Option Addr} {cap : Nat} {l : List W} {i : Nat} {b : Bool} (h : QRd w r q A cap l i b) : QRd (w.setCell ⟨r, 1, none⟩ (.int .i64 ((i : Int) + 1))) r q A cap l (i + 1) b :=
 ⟨Code.at1 h.rd, (World.cell?_setCell_other _ _ _ _ (fun e => h.ne (congrArg Addr.block e).symm)).trans h.cq, h.ne⟩
theorem QRd.wrong {w : World} {r q : Nat} {A : Option Addr} {cap : Nat} {l : List W} {i : Nat} {b : Bool} (h : QRd w r q A cap l i b) : QRd (w.setCell ⟨r, 2, none⟩ (.bool true)) r q A cap l i true :=
 ⟨h.rd.wrong, (World.cell?_setCell_other _ _ _ _ (fun e => h.ne (congrArg Addr.block e).symm)).trans h.cq, h.ne⟩
theorem NBox.text {w : World} {g : Nat} {a b c : Value} (h : NBox w g a b c) (z : Value) : NBox (w.setCell ⟨g, 1, none⟩ z) g a z c :=
 ⟨(World.cell?_setCell_other _ _ _ _ (by simp)).trans h.c0, World.cell?_setCell_same _ _ _ h.c1, (World.cell?_setCell_other _ _ _ _ (by simp)).trans h.c2, fun j => by rw [World.frozen?_setCell]; exact h.fr j⟩
theorem kind_ne {s : List UInt8} (hs : s ∈ aggOps) : s ≠ [] := by
 intro e
 subst e
 revert hs
 decide
theorem qagg_any (r q : Nat) (A : Option Addr) (cap : Nat) (l : List W) (i : Nat) (b : Bool) (w : World) (h : QRd w r q A cap l i b) (hi : i ≤ l.length) (hl : l.length ≤ 4194304) :
  Calls Tryz.prog 103 #[.pointer (some ⟨q, 0, none⟩)] w (GetN r q A cap l w (aggQ (bare l) i b)) := by
 have HR := hid h
 have zr := h.lt
 have zq := h.ltq
 have E1 := nm_ends (L := bare l) (i := i) (b := b) (by rw [bare_length]; omega)
 obtain ⟨n0, hn0⟩ : ∃ n0, nmQ (bare l) i b = n0 := ⟨_, rfl⟩
 rw [hn0] at E1
 have E2 := must_ends (L := bare l) (i := n0.2.1) (b := n0.2.2) (s := [61]) E1.2.1
 obtain ⟨m0, hm0⟩ : ∃ m0, mustQ (bare l) n0.2.1 n0.2.2 [61] = m0 := ⟨_, rfl⟩
 rw [hm0] at E2
 have hres : aggQ (bare l) i b = agg2Q (bare l) n0.1 m0.1 m0.2 := by unfold aggQ; rw [hn0, hm0]
 rw [hres]
 have H1 := hid (fun (w' : World) (h' : QRd w' r q A cap l i b) => qname_any r q A cap l i b w' h' hi hl)
 have H2 := hid (fun (w' : World) (h' : QRd w' r q A cap l n0.2.1 n0.2.2) => qmust_any r q A cap l n0.2.1 n0.2.2 ⟨#[61]⟩ w' h' (by have := E1.2.1; rw [bare_length] at this; exact this) hl)
 rw [hn0] at H1
 rw [show (⟨#[61]⟩ : ByteArray).data.toList = [61] from rfl, hm0] at H2
 obtain ⟨i1, b1⟩ := m0
 have hi1 : i1 ≤ l.length := by have := E2.2.1; rw [bare_length] at this; exact this
 have HK := hid (fun (w' : World) (h' : QRd w' r q A cap l i1 b1) => rkind_any r A cap l i1 b1 0 w' h'.rd hi1 hl)
 obtain ⟨T, hT⟩ : ∃ T : ByteArray, ⟨n0.1.toArray⟩ = T := ⟨_, rfl⟩
 have HTT := hid (show n0.1 = T.data.toList by rw [← hT])
 rw [hT] at H1
 obtain ⟨kk, hkk⟩ : ∃ kk, isK (bare l) i1 b1 0 = kk := ⟨_, rfl⟩
 rw [hkk] at HK
 obtain ⟨RES, hRES⟩ : ∃ RES, agg2Q (bare l) n0.1 i1 b1 = RES := ⟨_, rfl⟩
 rw [hRES]
 have HRE := hid hRES
 have HKK := hid hkk
 dsimp only at H2
 clear h hn0 hm0 hT hres E1 E2 hRES hkk
 go_enter Tryz.func103, Tryz.ntmps103
 obtain ⟨w0, hw0, hz0, N0, B0⟩ := made0 w r
 have R0 := hid (show QRd w0 r q A cap l i b by rw [← hw0]; exact HR.out.alloc _)
 have cq := R0.out.cq
 rw [← hw0] at cq
 have HW0 := hid hw0
 clear hw0
 go_wp2_with fail
 rw [HW0.out]
 refine (H1.out _ R0.out).mono ?_
 rintro e w1 ⟨rfl, hb1, hr1⟩
 have zb1 := hb1.size
 have N1 := hid (N0.out.but (by omega) hb1)
 have B1 := hid (B0.out.trans hb1)
 have R1 := hid hr1
 clear hb1 hr1 cq HW0 H1
 have cq := R1.out.cq
 go_wp2_with fail
 refine (H2.out _ R1.out).mono ?_
 rintro e w2 ⟨rfl, hb2, hr2⟩
 have zb2 := hb2.size
 have N2 := hid (N1.out.but (by omega) hb2)
 have B2 := hid (B1.out.trans hb2)
 have R2 := hid hr2
 clear hb2 hr2 cq H2
 obtain ⟨gl, hgl⟩ : ∃ gl, w2.heap.size = gl := ⟨_, rfl⟩
 obtain ⟨w3, hw3⟩ : ∃ w3, w2.alloc (.cells #[.string ⟨#[99, 111, 117, 110, 116]⟩, .string ⟨#[115, 117, 109]⟩, .string ⟨#[109, 105, 110]⟩, .string ⟨#[109, 97, 120]⟩] 9) = w3 := ⟨_, rfl⟩
 have hz3 : w3.heap.size = gl + 1 := by rw [← hw3]; simp [hgl]
 have VS := hid (show At sc 1 w3 w3.heap.size (some ⟨gl, 0, none⟩) aggOps by rw [hz3, ← hgl, ← hw3]; exact texts_new w2 aggOps _ _ rfl)
 have R3 := hid (show QRd w3 r q A cap l i1 b1 by rw [← hw3]; exact R2.out.alloc _)
 have N3 := hid (show NBox w3 w.heap.size (.string ⟨#[]⟩) (.string ⟨#[]⟩) (.slice none 0 0) by rw [← hw3]; exact N2.out.alloc _)
 have B3 := hid (show But w w3 r by rw [← hw3]; exact B2.out.alloc _)
 have HW3 := hid hw3
 clear hw3
 go_wp2
 rw [HW3.out]
 try rw [hgl]
 clear HW3
 go_loopw [5] (fun t wr => ∃ k : Nat, k ≤ 4 ∧ t = .int .i64 k ∧ Hid (∀ j (hj : j < aggOps.length), j < k → (isK (bare l) i1 b1 0 && txt (bare l) i1 == aggOps[j]) = false) ∧ Below w3.heap.size w3 wr) (fun t _ => 4 - (intOf t).toNat)
 case atStart => exact ⟨0, by omega, rfl, hid (fun j hj hjk => absurd hjk (Nat.not_lt_zero _)), Below.refl _ _⟩
 case round =>
  obtain ⟨k, hk, rfl, HB, hbel⟩ := hrel
  have HBE := hid hbel
  have HRD := hid (R3.out.below hbel)
  have VS2 := hid (VS.out.below hbel)
  have NR := hid (N3.out.below hbel)
  have BR := hid (B3.out.next hbel)
  have hz := hbel.size
  clear hbel
  by_cases hkl : k < 4
  ·obtain ⟨ad0, e0, ha0, c0⟩ := at_text VS2.out k (show k < aggOps.length from hkl)
   obtain rfl : (⟨gl, 0, none⟩ : Addr) = ad0 := Option.some.inj e0
   obtain ⟨s, hsx⟩ : ∃ s, aggOps[k]'(show k < aggOps.length from hkl) = s := ⟨_, rfl⟩
   obtain ⟨S, hS⟩ : ∃ S : ByteArray, ⟨s.toArray⟩ = S := ⟨_, rfl⟩
   have hSs : S.data.toList = s := by rw [← hS]
   rw [hsx, hS, add_zero] at c0
   have HV := hid (fun (w' : World) (hb : Below wr.heap.size wr w') => show w'.cell? ⟨gl, k, none⟩ = some (.string S) from (hb.cell (p := ⟨gl, k, none⟩) (by show gl < _; omega)).trans c0)
   clear c0
   have cq := HRD.out.cq
   cases kk
   ·have HB2 := hid (show ∀ j (hj : j < aggOps.length), j < k + 1 → (isK (bare l) i1 b1 0 && txt (bare l) i1 == aggOps[j]) = false by
     intro j hj hjk
     rw [HKK.out]
     rfl)
    clear hsx hS hSs HV
    go_wp2_with fail
    refine (HK.out _ HRD.out).mono ?_
    rintro e w4 ⟨rfl, hb4⟩
    have HB4 := hid (bnext HBE.out hz hb4)
    have zb4 := hb4.size
    clear hb4 cq
    go_wp2
    refine wp_region_quiet_lit (by kernel_rfl) (by kernel_rfl) ?_
    repeat (with_reducible refine wpQuiet_step ?_; intro K hK; go_simp; with_reducible refine hK _ ?_; clear hK K)
    refine wpQuiet_nil ?_
    intro _ hw'
    obtain ⟨nq, hw''⟩ := hw'
    subst hw''
    go_wp2
    go_roundw
    case rel => exact ⟨k + 1, by omega, by go_num, HB2, bnext HB4.out HB4.out.size (drewN_below (Below.refl _ _) _)⟩
    case measure => simp [intOf]; omega
   ·have hil := isK_len HKK.out
    obtain ⟨ad, rfl, ha, d0, d1, d2⟩ := at_word HRD.out.rd.ws i1 hil
    obtain ⟨t, htt⟩ : ∃ t, l[i1].2.1 = t := ⟨_, rfl⟩
    rw [htt] at d1
    obtain ⟨X, hX⟩ : ∃ X : ByteArray, ⟨t.toArray⟩ = X := ⟨_, rfl⟩
    have hXt : t = X.data.toList := by rw [← hX]
    rw [hX] at d1
    have za : (ad.add (i1 * 3)).block < wr.heap.size := by rw [add_block]; omega
    have HD := hid (fun (w' : World) (hb : Below wr.heap.size wr w') => show w'.cell? ⟨(ad.add (i1 * 3)).block, (ad.add (i1 * 3)).off + 1, none⟩ = some (.string X) from (hb.cell (p := ⟨(ad.add (i1 * 3)).block, (ad.add (i1 * 3)).off + 1, none⟩) za).trans d1)
    have e3 : (i1 : Int) < (l.length : Int) := by omega
    have e4 : (k : Int) < 4 := by omega
    have htx : txt (bare l) i1 = X.data.toList := by rw [txt_at hil, htt, hXt]
    have hp : (isK (bare l) i1 b1 0 && txt (bare l) i1 == aggOps[k]'(show k < aggOps.length from hkl)) = (X.data.toList == S.data.toList) := by rw [HKK.out, htx, hsx, hSs]; rfl
    obtain ⟨g, hg⟩ : ∃ g, (X.data.toList == S.data.toList) = g := ⟨_, rfl⟩
    have f2 : (X.toList == S.toList) = g := by rw [ByteArray.toList_eq, ByteArray.toList_eq]; exact hg
    rw [hg] at hp
    have HP := hid hp
    have HSX := hid hsx
    have HSS := hid hSs
    clear d0 d1 d2 hX hXt htt htx hg hp hsx hS hSs
    go_wp2_with fail
    refine (HK.out _ HRD.out).mono ?_
    rintro e w4 ⟨rfl, hb4⟩
    have R4 := hid (HRD.out.below hb4)
    have N4 := hid (NR.out.below hb4)
    have B4 := hid (BR.out.next hb4)
    have HB4 := hid hb4
    have zb4 := hb4.size
    clear hb4 cq
    have c0 := R4.out.rd.c0
    have c1 := R4.out.rd.c1
    have cq := R4.out.cq
    have d1 := HD.out _ HB4.out
    have v1 := HV.out _ HB4.out
    cases g
    ·have HB2 := hid (show ∀ j (hj : j < aggOps.length), j < k + 1 → (isK (bare l) i1 b1 0 && txt (bare l) i1 == aggOps[j]) = false by
      intro j hj hjk
      by_cases e : j = k
      ·subst e; exact HP.out
      ·exact HB.out j hj (by omega))
     go_wp2
     go_quiet (fail)
     clear c0 c1 cq d1 v1
     go_wp2
     go_roundw
     case rel => exact ⟨k + 1, by omega, by go_num, HB2, bnext (bnext HBE.out hz HB4.out) (by omega) (drewN_below (Below.refl _ _) _)⟩
     case measure => simp [intOf]; omega
    ·have hx := kindQ_step aggOps k (show k < aggOps.length from hkl) HB.out HP.out
     rw [HSX.out] at hx
     have hlt := isK_lt HKK.out
     obtain rfl : b1 = false := hlt.2
     have hne : s ≠ [] := kind_ne (HSX.out ▸ List.getElem_mem _)
     have hE1 := must_ends (L := bare l) (i := i1 + 1) (b := false) (s := [40]) (by rw [bare_length]; omega)
     obtain ⟨a0, ha0'⟩ : ∃ a0, mustQ (bare l) (i1 + 1) false [40] = a0 := ⟨_, rfl⟩
     rw [ha0'] at hE1
     have hE2 := arg_ends (L := bare l) (i := a0.1) (b := a0.2) (o := s) hE1.2.1
     obtain ⟨d0, hd0⟩ : ∃ d0, argQ (bare l) s a0.1 a0.2 = d0 := ⟨_, rfl⟩
     rw [hd0] at hE2
     obtain ⟨z0, hz0'⟩ : ∃ z0, mustQ (bare l) d0.2.1 d0.2.2 [41] = z0 := ⟨_, rfl⟩
     have hres : RES = (.mk sAgg n0.1 [.mk s d0.1 []], z0) := by
      rw [← HRE.out]
      unfold agg2Q
      rw [if_neg (by rw [hx]; exact hne), hx]
      unfold callQ
      rw [ha0', hd0, hz0']
     have H4 := hid (fun (w' : World) (h' : QRd w' r q (some ad) cap l (i1 + 1) false) => qmust_any r q (some ad) cap l (i1 + 1) false ⟨#[40]⟩ w' h' (by omega) hl)
     have H5 := hid (fun (w' : World) (h' : QRd w' r q (some ad) cap l a0.1 a0.2) => qname_any r q (some ad) cap l a0.1 a0.2 w' h' (by have := hE1.2.1; rw [bare_length] at this; exact this) hl)
     have H6 := hid (fun (w' : World) (h' : QRd w' r q (some ad) cap l d0.2.1 d0.2.2) => qmust_any r q (some ad) cap l d0.2.1 d0.2.2 ⟨#[41]⟩ w' h' (by have := hE2.2.1; rw [bare_length] at this; exact this) hl)
     rw [show (⟨#[40]⟩ : ByteArray).data.toList = [40] from rfl, ha0'] at H4
     rw [show (⟨#[41]⟩ : ByteArray).data.toList = [41] from rfl, hz0'] at H6
     have HDD := hid hd0
     have HRS := hid hres
     clear hres hx hlt hne hE1 hE2 ha0' hd0 hz0'
     go_wp2
     go_quiet (fail)
     obtain ⟨wq, hwq⟩ : ∃ wq, w4.drewN nq = wq := ⟨_, rfl⟩
     have hbd : Below w4.heap.size w4 wq := by rw [← hwq]; exact drewN_below (Below.refl _ _) _
     have zbq : w3.heap.size ≤ wq.heap.size := by have := hbd.size; omega
     have HBQ := hid (bnext HB4.out (by omega) hbd)
     have RQ := hid (R4.out.below hbd)
     have NQ := hid (N4.out.below hbd)
     have BQ := hid (B4.out.next hbd)
     rw [hwq]
     clear hwq hbd c0 c1 cq d1 v1 R4 N4 B4 HB4 zb4
     by_cases hk0 : k = 0
     ·have hs0 : s = sCount := by rw [← HSX.out]; subst hk0; rfl
      have hd : d0 = ([], a0.1, a0.2) := by rw [← HDD.out, hs0]; rfl
      subst hd
      have HRES := hid (show RES = (.mk sAgg T.data.toList [.mk S.data.toList (⟨#[]⟩ : ByteArray).data.toList []], z0.1, z0.2) by rw [HRS.out, HTT.out, HSS.out])
      subst hk0
      clear H5 HDD hs0 HRS HP HB
      dsimp only at H6
      have c1 := RQ.out.rd.c1
      have cq := RQ.out.cq
      have f1 := RQ.out.rd.fr 1
      have e1 : IntKind.i64.wrap ((i1 : Int) + 1) = (i1 : Int) + 1 := by rw [IntKind.wrap_i64]; omega
      obtain ⟨w5, hw5⟩ : ∃ w5, wq.setCell ⟨r, 1, none⟩ (.int .i64 ((i1 : Int) + 1)) = w5 := ⟨_, rfl⟩
      have zb5 : w5.heap.size = wq.heap.size := by rw [← hw5]; simp
      have N5 := hid (show NBox w5 w.heap.size (.string ⟨#[]⟩) (.string ⟨#[]⟩) (.slice none 0 0) by rw [← hw5]; exact NQ.out.far _ (by show r ≠ _; omega) _)
      have R5 := hid (show QRd w5 r q (some ad) cap l (i1 + 1) false by rw [← hw5]; exact RQ.out.at1)
      have B5 := hid (show But w w5 r by rw [← hw5]; exact BQ.out.setCell 1 _)
      have v5 : w5.cell? ⟨gl, 0, none⟩ = some (.string S) := by
       rw [← hw5, World.cell?_setCell_other _ _ _ _ (by intro e; have h2 : r = gl := congrArg Addr.block e; omega)]
       exact HV.out _ HBQ.out
      rw [← hw5] at v5
      obtain ⟨w6, hw6⟩ : ∃ w6, w5.alloc (.cells #[.string S, .string ⟨#[]⟩, .slice none 0 0] 25) = w6 := ⟨_, rfl⟩
      have zb6 : w6.heap.size = w5.heap.size + 1 := by rw [← hw6]; simp
      obtain ⟨gn, hgn⟩ : ∃ gn, wq.heap.size = gn := ⟨_, rfl⟩
      have hgn5 : w5.heap.size = gn := by omega
      have N6 := hid (show NBox w6 w.heap.size (.string ⟨#[]⟩) (.string ⟨#[]⟩) (.slice none 0 0) by rw [← hw6]; exact N5.out.alloc _)
      have M6 := hid (show NBox w6 gn (.string S) (.string ⟨#[]⟩) (.slice none 0 0) by rw [← hw6, ← hgn5]; exact NBox.fresh _ _ _ _ _)
      have R6 := hid (show QRd w6 r q (some ad) cap l (i1 + 1) false by rw [← hw6]; exact R5.out.alloc _)
      have B6 := hid (show But w w6 r by rw [← hw6]; exact B5.out.alloc _)
      rw [← hw5] at hw6
      have d5 := R6.out.cq
      rw [← hw6] at d5
      have HW6 := hid hw6
      clear hw5 hw6 N5 R5 B5 zb5 hgn5
      go_wp2_with fail
      rw [HW6.out]
      refine (H4.out _ R6.out).mono ?_
      rintro e w7 ⟨rfl, hb7, hr7⟩
      have zb7 := hb7.size
      have N7 := hid (N6.out.but (by omega) hb7)
      have M7 := hid (M6.out.but (by omega) hb7)
      have B7 := hid (B6.out.trans hb7)
      have R7 := hid hr7
      clear hb7 hr7 d5 v5 cq c1 f1 HW6
      have cq := R7.out.cq
      go_wp2_with fail
      refine (H6.out _ R7.out).mono ?_
      rintro e w9 ⟨rfl, hb9, hr9⟩
      have zb9 := hb9.size
      have N9 := hid (N7.out.but (by omega) hb9)
      have M9 := hid (M7.out.but (by omega) hb9)
      have B9 := hid (B7.out.trans hb9)
      have R9 := hid hr9
      clear hb9 hr9 cq
      obtain ⟨y0, y1, y2, yf⟩ := M9.out
      have NX := hid (N9.out.alloc (.cells #[.string S, .string ⟨#[]⟩, .slice none 0 0] 25))
      obtain ⟨x0, x1, x2, xf⟩ := NX.out
      go_wp2
      have Y := NX.out.set (.string ⟨#[97, 103, 103]⟩) (.string T) (.slice (some ⟨w9.heap.size, 0, none⟩) 1 1)
      exact bodyPost_ret (v := .agg #[.string ⟨#[97, 103, 103]⟩, .string T, .slice (some ⟨w9.heap.size, 0, none⟩) 1 1]) (by simp [results, Tryz.results103, go_sem, Y.c0, Y.c1, Y.c2]) rfl
       (agg_told zr zq S ⟨#[]⟩ T HRES.out B9.out N9.out.lt R9.out)
     ·have hs0 : s ≠ sCount := by
       rw [← HSX.out]
       have hc : k = 1 ∨ k = 2 ∨ k = 3 := by omega
       rcases hc with rfl | rfl | rfl
       ·exact show sSum ≠ sCount by decide
       ·exact show sMin ≠ sCount by decide
       ·exact show sMax ≠ sCount by decide
      have hd : nmQ (bare l) a0.1 a0.2 = d0 := by
       rw [← HDD.out]
       unfold argQ
       rw [if_neg hs0]
      rw [hd] at H5
      obtain ⟨U, hU⟩ : ∃ U : ByteArray, ⟨d0.1.toArray⟩ = U := ⟨_, rfl⟩
      have HUU := hid (show d0.1 = U.data.toList by rw [← hU])
      rw [hU] at H5
      have HRES := hid (show RES = (.mk sAgg T.data.toList [.mk S.data.toList U.data.toList []], z0.1, z0.2) by rw [HRS.out, HTT.out, HSS.out, HUU.out])
      have k1 : decide ((0 : Int) < (k : Int)) = true := by simp; omega
      have k2 : decide (0 < k) = true := by simp; omega
      have k3 : (0 : Int) < (k : Int) := by omega
      have k4 : 0 < k := by omega
      clear hd hU hs0 HDD HRS HP HB
      have c1 := RQ.out.rd.c1
      have cq := RQ.out.cq
      have f1 := RQ.out.rd.fr 1
      have e1 : IntKind.i64.wrap ((i1 : Int) + 1) = (i1 : Int) + 1 := by rw [IntKind.wrap_i64]; omega
      obtain ⟨w5, hw5⟩ : ∃ w5, wq.setCell ⟨r, 1, none⟩ (.int .i64 ((i1 : Int) + 1)) = w5 := ⟨_, rfl⟩
      have zb5 : w5.heap.size = wq.heap.size := by rw [← hw5]; simp
      have N5 := hid (show NBox w5 w.heap.size (.string ⟨#[]⟩) (.string ⟨#[]⟩) (.slice none 0 0) by rw [← hw5]; exact NQ.out.far _ (by show r ≠ _; omega) _)
      have R5 := hid (show QRd w5 r q (some ad) cap l (i1 + 1) false by rw [← hw5]; exact RQ.out.at1)
      have B5 := hid (show But w w5 r by rw [← hw5]; exact BQ.out.setCell 1 _)
      have v5 : w5.cell? ⟨gl, k, none⟩ = some (.string S) := by
       rw [← hw5, World.cell?_setCell_other _ _ _ _ (by intro e; have h2 : r = gl := congrArg Addr.block e; omega)]
       exact HV.out _ HBQ.out
      rw [← hw5] at v5
      obtain ⟨w6, hw6⟩ : ∃ w6, w5.alloc (.cells #[.string S, .string ⟨#[]⟩, .slice none 0 0] 25) = w6 := ⟨_, rfl⟩
      have zb6 : w6.heap.size = w5.heap.size + 1 := by rw [← hw6]; simp
      obtain ⟨gn, hgn⟩ : ∃ gn, wq.heap.size = gn := ⟨_, rfl⟩
      have hgn5 : w5.heap.size = gn := by omega
      have N6 := hid (show NBox w6 w.heap.size (.string ⟨#[]⟩) (.string ⟨#[]⟩) (.slice none 0 0) by rw [← hw6]; exact N5.out.alloc _)
      have M6 := hid (show NBox w6 gn (.string S) (.string ⟨#[]⟩) (.slice none 0 0) by rw [← hw6, ← hgn5]; exact NBox.fresh _ _ _ _ _)
      have R6 := hid (show QRd w6 r q (some ad) cap l (i1 + 1) false by rw [← hw6]; exact R5.out.alloc _)
      have B6 := hid (show But w w6 r by rw [← hw6]; exact B5.out.alloc _)
      rw [← hw5] at hw6
      have d5 := R6.out.cq
      rw [← hw6] at d5
      have HW6 := hid hw6
      clear hw5 hw6 N5 R5 B5 zb5 hgn5
      go_wp2_with fail
      rw [HW6.out]
      refine (H4.out _ R6.out).mono ?_
      rintro e w7 ⟨rfl, hb7, hr7⟩
      have zb7 := hb7.size
      have N7 := hid (N6.out.but (by omega) hb7)
      have M7 := hid (M6.out.but (by omega) hb7)
      have B7 := hid (B6.out.trans hb7)
      have R7 := hid hr7
      clear hb7 hr7 d5 v5 cq c1 f1 HW6
      have cq := R7.out.cq
      go_wp2_with fail
      refine (H5.out _ R7.out).mono ?_
      rintro e w8 ⟨rfl, hb8, hr8⟩
      have zb8 := hb8.size
      have N8 := hid (N7.out.but (by omega) hb8)
      have M8 := hid (M7.out.but (by omega) hb8)
      have B8 := hid (B7.out.trans hb8)
      have R8 := hid hr8
      clear hb8 hr8 cq
      have y1 := M8.out.c1
      have yf := M8.out.fr 1
      obtain ⟨wb, hwb⟩ : ∃ wb, w8.setCell ⟨gn, 1, none⟩ (.string U) = wb := ⟨_, rfl⟩
      have zbb : wb.heap.size = w8.heap.size := by rw [← hwb]; simp
      have NB := hid (show NBox wb w.heap.size (.string ⟨#[]⟩) (.string ⟨#[]⟩) (.slice none 0 0) by rw [← hwb]; exact N8.out.far _ (by show gn ≠ w.heap.size; omega) _)
      have MB := hid (show NBox wb gn (.string S) (.string U) (.slice none 0 0) by rw [← hwb]; exact M8.out.text _)
      have BB := hid (show But w wb r by rw [← hwb]; exact B8.out.new _ (by show w.heap.size ≤ gn; omega) _)
      have RB := hid (show QRd wb r q (some ad) cap l d0.2.1 d0.2.2 by rw [← hwb]; exact R8.out.new _ (by show r < gn; omega) (by show q ≠ gn; omega) _)
      have cq := RB.out.cq
      rw [← hwb] at cq
      have HWB := hid hwb
      clear hwb
      go_wp2_with fail
      rw [HWB.out]
      refine (H6.out _ RB.out).mono ?_
      rintro e w9 ⟨rfl, hb9, hr9⟩
      have zb9 := hb9.size
      have N9 := hid (NB.out.but (by omega) hb9)
      have M9 := hid (MB.out.but (by omega) hb9)
      have B9 := hid (BB.out.trans hb9)
      have R9 := hid hr9
      clear hb9 hr9 cq HWB y1 yf
      obtain ⟨y0, y1, y2, yf⟩ := M9.out
      have NX := hid (N9.out.alloc (.cells #[.string S, .string U, .slice none 0 0] 25))
      obtain ⟨x0, x1, x2, xf⟩ := NX.out
      go_wp2
      have Y := NX.out.set (.string ⟨#[97, 103, 103]⟩) (.string T) (.slice (some ⟨w9.heap.size, 0, none⟩) 1 1)
      exact bodyPost_ret (v := .agg #[.string ⟨#[97, 103, 103]⟩, .string T, .slice (some ⟨w9.heap.size, 0, none⟩) 1 1]) (by simp [results, Tryz.results103, go_sem, Y.c0, Y.c1, Y.c2]) rfl
       (agg_told zr zq S U T HRES.out B9.out N9.out.lt R9.out)
  ·obtain rfl : k = 4 := by omega
   have hx : kindQ (bare l) i1 b1 aggOps = [] := kindQ_none fun s hs => by
    obtain ⟨j, hj, rfl⟩ := List.mem_iff_getElem.1 hs
    exact HB.out j hj (by have : j < 4 := hj; omega)
   have hres : RES = (.mk (⟨#[]⟩ : ByteArray).data.toList (⟨#[]⟩ : ByteArray).data.toList [], i1, true) := by
    rw [← HRE.out]
    unfold agg2Q
    rw [if_pos hx]
    rfl
   subst hres
   clear hx HB HRE
   have cq := HRD.out.cq
   have c2 := HRD.out.rd.c2
   have f2 := HRD.out.rd.fr 2
   have NX := hid (NR.out.far ⟨r, 2, none⟩ (by show r ≠ w.heap.size; omega) (.bool true))
   obtain ⟨x0, x1, x2, xf⟩ := NX.out
   go_wp2
   have Y := NX.out.set (.string ⟨#[]⟩) (.string ⟨#[]⟩) (.slice none 0 0)
   exact bodyPost_ret (v := .agg #[.string ⟨#[]⟩, .string ⟨#[]⟩, .slice none 0 0]) (by simp [results, Tryz.results103, go_sem, Y.c0, Y.c1, Y.c2]) rfl
    ⟨_, _, _, _, _, rfl, RIn.leafN _ _ ⟨#[]⟩ ⟨#[]⟩, W3.but (BR.out.setCell 2 _) (Nat.le_refl _) _ _ _, HRD.out.wrong.w3 zr (by omega) _ _ _⟩
end Go.Proofs.YtjbpkpfmgbhlpaaGreatDoor.Code
