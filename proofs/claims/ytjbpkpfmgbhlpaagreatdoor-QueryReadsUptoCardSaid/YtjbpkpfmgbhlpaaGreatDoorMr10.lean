/-
  The document's reader of queries: a by.
-/
import Derived.Test.YtjbpkpfmgbhlpaaGreatDoorMr9
import Derived.Test.YtjbpkpfmgbhlpaaGreatDoorMr7
set_option maxRecDepth 100000
set_option maxHeartbeats 16000000
open Go.Lib (hid)
namespace Go.Proofs.YtjbpkpfmgbhlpaaGreatDoor.Code
open Go.ChangeShapes Go.WideShapes Go.ChangeAt Go.RowKit Val Elems
set_option linter.unusedVariables false
set_option linter.unusedSimpArgs false
def by0Q (L : List V) (i : Nat) (b : Bool) : Res := if hasQ L i b = true then (.mk sBy [] (namesQ L (L.length + 1) (i + 1) b).1, (namesQ L (L.length + 1) (i + 1) b).2) else (.mk sBy [] [], i, b)
def GetB (r q : Nat) (A : Option Addr) (cap : Nat) (l : List W) (w : World) (has : Bool) (res : Res) (e : Ending) (w' : World) : Prop :=
 ∃ (op tx : ByteArray) (X : Option Addr) (n k : Nat), e = .returned (.tuple #[.agg #[.string op, .string tx, .slice X n k], .bool has]) ∧ RIn w' (New w w') res.1 (op, tx, X, n, k) ∧ But w w' r ∧ QRd w' r q A cap l res.2.1 res.2.2
theorem by_none {r q : Nat} {A : Option Addr} {cap : Nat} {l : List W} {w w' : World} {i : Nat} {b : Bool} (hb : But w w' r) (hr : QRd w' r q A cap l i b) : GetB r q A cap l w false (.mk sBy [] [], i, b) (.returned (.tuple #[.agg #[.string ⟨#[98, 121]⟩, .string ⟨#[]⟩, .slice none 0 0], .bool false])) w' :=
 ⟨_, _, _, _, _, rfl, RIn.leafN _ _ ⟨#[98, 121]⟩ ⟨#[]⟩, hb, hr⟩
theorem qby_none (r q : Nat) (A : Option Addr) (cap : Nat) (l : List W) (i : Nat) (b : Bool) (w : World) (h : QRd w r q A cap l i b) (hi : i ≤ l.length) (hl : l.length ≤ 4194304) (hk : isK (bare l) i b 0 = false) :
  Calls Tryz.prog 102 #[.pointer (some ⟨q, 0, none⟩)] w (GetB r q A cap l w false (.mk sBy [] [], i, b)) := by
 have HR := hid h
 have zr := h.lt
 have zq := h.ltq
 have HK := hid (fun (w' : World) (h' : QRd w' r q A cap l i b) => rkind_any r A cap l i b 0 w' h'.rd hi hl)
 rw [hk] at HK
 clear h hk
 go_enter Tryz.func102, Tryz.ntmps102
 obtain ⟨wa, hwa⟩ : ∃ wa, w.alloc (.cells #[.string ⟨#[]⟩, .string ⟨#[]⟩, .slice none 0 0] 25) = wa := ⟨_, rfl⟩
 obtain ⟨w0, hw0⟩ : ∃ w0, wa.alloc (.cells #[.string ⟨#[98, 121]⟩, .string ⟨#[]⟩, .slice none 0 0] 25) = w0 := ⟨_, rfl⟩
 have hza : wa.heap.size = w.heap.size + 1 := by rw [← hwa]; simp
 have hz0 : w0.heap.size = w.heap.size + 2 := by rw [← hw0, ← hwa]; simp
 have N0 := hid (show NBox w0 w.heap.size (.string ⟨#[]⟩) (.string ⟨#[]⟩) (.slice none 0 0) by rw [← hw0, ← hwa]; exact (NBox.fresh _ _ _ _ _).alloc _)
 have M0 := hid (show NBox w0 (w.heap.size + 1) (.string ⟨#[98, 121]⟩) (.string ⟨#[]⟩) (.slice none 0 0) by rw [← hw0, ← hza]; exact NBox.fresh _ _ _ _ _)
 have R0 := hid (show QRd w0 r q A cap l i b by rw [← hw0, ← hwa]; exact (HR.out.alloc _).alloc _)
 have B0 := hid (show But w w0 r by rw [← hw0, ← hwa]; exact ((But.refl w r).alloc _).alloc _)
 rw [← hwa] at hw0
 have cq := R0.out.cq
 rw [← hw0] at cq
 have HW0 := hid hw0
 clear hwa hza hw0 wa
 go_wp2_with fail
 rw [HW0.out]
 refine (HK.out _ R0.out).mono ?_
 rintro e w1 ⟨rfl, hb1⟩
 have zb1 := hb1.size
 have N1 := hid (N0.out.below hb1)
 have M1 := hid (M0.out.below hb1)
 have R1 := hid (R0.out.below hb1)
 have B1 := hid (B0.out.next hb1)
 clear hb1 cq HW0
 go_wp2
 refine wp_region_quiet_lit (by kernel_rfl) (by kernel_rfl) ?_
 repeat (with_reducible refine wpQuiet_step ?_; intro K hK; go_simp; with_reducible refine hK _ ?_; clear hK K)
 refine wpQuiet_nil ?_
 intro _ hw'
 obtain ⟨nq, hw''⟩ := hw'
 subst hw''
 obtain ⟨w2, hw2⟩ : ∃ w2, w1.drewN nq = w2 := ⟨_, rfl⟩
 have hbd : Below w1.heap.size w1 w2 := by rw [← hw2]; exact drewN_below (Below.refl _ _) _
 have zb2 := hbd.size
 have N2 := hid (N1.out.below hbd)
 have M2 := hid (M1.out.below hbd)
 have R2 := hid (R1.out.below hbd)
 have B2 := hid (B1.out.next hbd)
 rw [hw2]
 clear hw2 hbd
 obtain ⟨x0, x1, x2, xf⟩ := N2.out
 obtain ⟨y0, y1, y2, yf⟩ := M2.out
 go_wp2
 have Y := N2.out.set (.string ⟨#[98, 121]⟩) (.string ⟨#[]⟩) (.slice none 0 0)
 exact bodyPost_ret (v := .tuple #[.agg #[.string ⟨#[98, 121]⟩, .string ⟨#[]⟩, .slice none 0 0], .bool false]) (by simp [results, Tryz.results102, go_sem, Y.c0, Y.c1, Y.c2]) rfl
  (by_none (W3.but B2.out (Nat.le_refl _) _ _ _) (R2.out.w3 zr (by omega) _ _ _))
theorem qby_other (r q : Nat) (A : Option Addr) (cap : Nat) (l : List W) (i : Nat) (b : Bool) (w : World) (h : QRd w r q A cap l i b) (hi : i ≤ l.length) (hl : l.length ≤ 4194304) (hk : isK (bare l) i b 0 = true) (hil : i < l.length) (htx : l[i].2.1 ≠ sBy) :
  Calls Tryz.prog 102 #[.pointer (some ⟨q, 0, none⟩)] w (GetB r q A cap l w false (.mk sBy [] [], i, b)) := by
 have HR := hid h
 have zr := h.lt
 have zq := h.ltq
 have HK := hid (fun (w' : World) (h' : QRd w' r q A cap l i b) => rkind_any r A cap l i b 0 w' h'.rd hi hl)
 obtain ⟨ad, rfl, ha, d0, d1, d2⟩ := at_word h.rd.ws i hil
 obtain ⟨t, htt⟩ : ∃ t, l[i].2.1 = t := ⟨_, rfl⟩
 rw [htt] at d1
 obtain ⟨T, hT⟩ : ∃ T : ByteArray, ⟨t.toArray⟩ = T := ⟨_, rfl⟩
 have hTt : t = T.data.toList := by rw [← hT]
 rw [hT] at d1
 have za : (ad.add (i * 3)).block < w.heap.size := by rw [add_block]; omega
 have HD := hid (fun (w' : World) (hb : But w w' r) => show w'.cell? ⟨(ad.add (i * 3)).block, (ad.add (i * 3)).off + 1, none⟩ = some (.string T) from (hb.cell (q := ⟨(ad.add (i * 3)).block, (ad.add (i * 3)).off + 1, none⟩) za (by show (ad.add (i * 3)).block ≠ r; rw [add_block]; omega)).trans d1)
 have e3 : (i : Int) < (l.length : Int) := by omega
 have hTs : T ≠ ⟨#[98, 121]⟩ := fun e => htx (by rw [htt, hTt, e]; rfl)
 have f2 : (T.toList == [98, 121]) = false := by
  have h := toList_ne hTs
  rw [ByteArray.toList_eq ⟨#[98, 121]⟩] at h
  exact h
 rw [hk] at HK
 clear h hk htx d0 d1 d2 hTt hT htt hTs
 go_enter Tryz.func102, Tryz.ntmps102
 obtain ⟨wa, hwa⟩ : ∃ wa, w.alloc (.cells #[.string ⟨#[]⟩, .string ⟨#[]⟩, .slice none 0 0] 25) = wa := ⟨_, rfl⟩
 obtain ⟨w0, hw0⟩ : ∃ w0, wa.alloc (.cells #[.string ⟨#[98, 121]⟩, .string ⟨#[]⟩, .slice none 0 0] 25) = w0 := ⟨_, rfl⟩
 have hza : wa.heap.size = w.heap.size + 1 := by rw [← hwa]; simp
 have hz0 : w0.heap.size = w.heap.size + 2 := by rw [← hw0, ← hwa]; simp
 have N0 := hid (show NBox w0 w.heap.size (.string ⟨#[]⟩) (.string ⟨#[]⟩) (.slice none 0 0) by rw [← hw0, ← hwa]; exact (NBox.fresh _ _ _ _ _).alloc _)
 have M0 := hid (show NBox w0 (w.heap.size + 1) (.string ⟨#[98, 121]⟩) (.string ⟨#[]⟩) (.slice none 0 0) by rw [← hw0, ← hza]; exact NBox.fresh _ _ _ _ _)
 have R0 := hid (show QRd w0 r q (some ad) cap l i b by rw [← hw0, ← hwa]; exact (HR.out.alloc _).alloc _)
 have B0 := hid (show But w w0 r by rw [← hw0, ← hwa]; exact ((But.refl w r).alloc _).alloc _)
 rw [← hwa] at hw0
 have cq := R0.out.cq
 rw [← hw0] at cq
 have HW0 := hid hw0
 clear hwa hza hw0 wa
 go_wp2_with fail
 rw [HW0.out]
 refine (HK.out _ R0.out).mono ?_
 rintro e w1 ⟨rfl, hb1⟩
 have zb1 := hb1.size
 have N1 := hid (N0.out.below hb1)
 have M1 := hid (M0.out.below hb1)
 have R1 := hid (R0.out.below hb1)
 have B1 := hid (B0.out.next hb1)
 clear hb1 cq HW0
 have c0 := R1.out.rd.c0
 have c1 := R1.out.rd.c1
 have cq := R1.out.cq
 have d1 := HD.out _ B1.out
 go_wp2
 go_quiet (fail)
 obtain ⟨w2, hw2⟩ : ∃ w2, w1.drewN nq = w2 := ⟨_, rfl⟩
 have hbd : Below w1.heap.size w1 w2 := by rw [← hw2]; exact drewN_below (Below.refl _ _) _
 have zb2 := hbd.size
 have N2 := hid (N1.out.below hbd)
 have M2 := hid (M1.out.below hbd)
 have R2 := hid (R1.out.below hbd)
 have B2 := hid (B1.out.next hbd)
 rw [hw2]
 clear hw2 hbd
 clear c0 c1 cq d1
 obtain ⟨x0, x1, x2, xf⟩ := N2.out
 obtain ⟨y0, y1, y2, yf⟩ := M2.out
 go_wp2
 have Y := N2.out.set (.string ⟨#[98, 121]⟩) (.string ⟨#[]⟩) (.slice none 0 0)
 exact bodyPost_ret (v := .tuple #[.agg #[.string ⟨#[98, 121]⟩, .string ⟨#[]⟩, .slice none 0 0], .bool false]) (by simp [results, Tryz.results102, go_sem, Y.c0, Y.c1, Y.c2]) rfl
  (by_none (W3.but B2.out (Nat.le_refl _) _ _ _) (R2.out.w3 zr (by omega) _ _ _))
theorem qby_agg (r q : Nat) (A : Option Addr) (cap : Nat) (l : List W) (i : Nat) (b : Bool) (w : World) (h : QRd w r q A cap l i b) (hi : i ≤ l.length) (hl : l.length ≤ 4194304) (hk : isK (bare l) i b 0 = true) (hil : i < l.length) (htx : l[i].2.1 = sBy) (hw : wordQ (bare l) i b sBy [61] = true) :
  Calls Tryz.prog 102 #[.pointer (some ⟨q, 0, none⟩)] w (GetB r q A cap l w false (.mk sBy [] [], i, b)) := by
 have HR := hid h
 have zr := h.lt
 have zq := h.ltq
 have HK := hid (fun (w' : World) (h' : QRd w' r q A cap l i b) => rkind_any r A cap l i b 0 w' h'.rd hi hl)
 obtain ⟨ad, rfl, ha, d0, d1, d2⟩ := at_word h.rd.ws i hil
 obtain ⟨t, htt⟩ : ∃ t, l[i].2.1 = t := ⟨_, rfl⟩
 rw [htt] at d1
 obtain ⟨T, hT⟩ : ∃ T : ByteArray, ⟨t.toArray⟩ = T := ⟨_, rfl⟩
 have hTt : t = T.data.toList := by rw [← hT]
 rw [hT] at d1
 have za : (ad.add (i * 3)).block < w.heap.size := by rw [add_block]; omega
 have HD := hid (fun (w' : World) (hb : But w w' r) => show w'.cell? ⟨(ad.add (i * 3)).block, (ad.add (i * 3)).off + 1, none⟩ = some (.string T) from (hb.cell (q := ⟨(ad.add (i * 3)).block, (ad.add (i * 3)).off + 1, none⟩) za (by show (ad.add (i * 3)).block ≠ r; rw [add_block]; omega)).trans d1)
 have e3 : (i : Int) < (l.length : Int) := by omega
 obtain rfl : T = ⟨#[98, 121]⟩ := by rw [← hT, ← htt, htx]; rfl
 rw [hk] at HK
 have HW := hid (fun (w' : World) (h' : QRd w' r q (some ad) cap l i b) => qword_any r q (some ad) cap l i b ⟨#[98, 121]⟩ ⟨#[61]⟩ w' h' hi hl)
 rw [show (⟨#[98, 121]⟩ : ByteArray).data.toList = sBy from rfl, show (⟨#[61]⟩ : ByteArray).data.toList = [61] from rfl, hw] at HW
 clear h hk htx hw d0 d1 d2 hTt hT htt
 go_enter Tryz.func102, Tryz.ntmps102
 obtain ⟨wa, hwa⟩ : ∃ wa, w.alloc (.cells #[.string ⟨#[]⟩, .string ⟨#[]⟩, .slice none 0 0] 25) = wa := ⟨_, rfl⟩
 obtain ⟨w0, hw0⟩ : ∃ w0, wa.alloc (.cells #[.string ⟨#[98, 121]⟩, .string ⟨#[]⟩, .slice none 0 0] 25) = w0 := ⟨_, rfl⟩
 have hza : wa.heap.size = w.heap.size + 1 := by rw [← hwa]; simp
 have hz0 : w0.heap.size = w.heap.size + 2 := by rw [← hw0, ← hwa]; simp
 have N0 := hid (show NBox w0 w.heap.size (.string ⟨#[]⟩) (.string ⟨#[]⟩) (.slice none 0 0) by rw [← hw0, ← hwa]; exact (NBox.fresh _ _ _ _ _).alloc _)
 have M0 := hid (show NBox w0 (w.heap.size + 1) (.string ⟨#[98, 121]⟩) (.string ⟨#[]⟩) (.slice none 0 0) by rw [← hw0, ← hza]; exact NBox.fresh _ _ _ _ _)
 have R0 := hid (show QRd w0 r q (some ad) cap l i b by rw [← hw0, ← hwa]; exact (HR.out.alloc _).alloc _)
 have B0 := hid (show But w w0 r by rw [← hw0, ← hwa]; exact ((But.refl w r).alloc _).alloc _)
 rw [← hwa] at hw0
 have cq := R0.out.cq
 rw [← hw0] at cq
 have HW0 := hid hw0
 clear hwa hza hw0 wa
 go_wp2_with fail
 rw [HW0.out]
 refine (HK.out _ R0.out).mono ?_
 rintro e w1 ⟨rfl, hb1⟩
 have zb1 := hb1.size
 have N1 := hid (N0.out.below hb1)
 have M1 := hid (M0.out.below hb1)
 have R1 := hid (R0.out.below hb1)
 have B1 := hid (B0.out.next hb1)
 clear hb1 cq HW0
 have c0 := R1.out.rd.c0
 have c1 := R1.out.rd.c1
 have cq := R1.out.cq
 have d1 := HD.out _ B1.out
 go_wp2
 go_quiet (fail)
 obtain ⟨w2, hw2⟩ : ∃ w2, w1.drewN nq = w2 := ⟨_, rfl⟩
 have hbd : Below w1.heap.size w1 w2 := by rw [← hw2]; exact drewN_below (Below.refl _ _) _
 have zb2 := hbd.size
 have N2 := hid (N1.out.below hbd)
 have M2 := hid (M1.out.below hbd)
 have R2 := hid (R1.out.below hbd)
 have B2 := hid (B1.out.next hbd)
 rw [hw2]
 clear hw2 hbd
 clear c0 c1 cq d1
 have cq := R2.out.cq
 go_wp2_with fail
 refine (HW.out _ R2.out).mono ?_
 rintro e w3 ⟨rfl, hb3⟩
 have zb3 := hb3.size
 have N3 := hid (N2.out.below hb3)
 have M3 := hid (M2.out.below hb3)
 have R3 := hid (R2.out.below hb3)
 have B3 := hid (B2.out.next hb3)
 clear hb3 cq
 obtain ⟨x0, x1, x2, xf⟩ := N3.out
 obtain ⟨y0, y1, y2, yf⟩ := M3.out
 go_wp2
 have Y := N3.out.set (.string ⟨#[98, 121]⟩) (.string ⟨#[]⟩) (.slice none 0 0)
 exact bodyPost_ret (v := .tuple #[.agg #[.string ⟨#[98, 121]⟩, .string ⟨#[]⟩, .slice none 0 0], .bool false]) (by simp [results, Tryz.results102, go_sem, Y.c0, Y.c1, Y.c2]) rfl
  (by_none (W3.but B3.out (Nat.le_refl _) _ _ _) (R3.out.w3 zr (by omega) _ _ _))
theorem at1 {w : World} {r : Nat} {A : Option Addr} {cap : Nat} {l : List W} {i : Nat} {b : Bool} (h : Rdr w r A cap l i b) : Rdr (w.setCell ⟨r, 1, none⟩ (.int .i64 ((i : Int) + 1))) r A cap l (i + 1) b := by
 have := h.at (i + 1)
 rw [Int.natCast_add] at this
 exact this
def moreOf : Value → Nat
 | .bool true => 1
 | _ => 0
def BInv (r q : Nat) (A : Option Addr) (cap : Nat) (l : List W) (w : World) (R : Ress) (v : Value) (wr : World) : Prop :=
 ∃ (f j : Nat) (c m : Bool) (ks : List Nod) (xs : List NV) (X : Option Addr) (cp : Nat), v = .bool m ∧ NBox wr w.heap.size (.string ⟨#[]⟩) (.string ⟨#[]⟩) (.slice none 0 0) ∧ NBox wr (w.heap.size + 1) (.string ⟨#[98, 121]⟩) (.string ⟨#[]⟩) (.slice X xs.length cp) ∧
  wr.ownsRow (w.heap.size + 2) 25 3 (.slice X xs.length cp) xs.length (flatC nc xs) ∧ RAll wr (fun _ => False) ks xs ∧ j ≤ l.length ∧ (m = true → l.length - j < f) ∧ ks.length + moreOf v ≤ j + 1 ∧
  Hid (R = (ks ++ (if m = true then (namesQ (bare l) f j c).1 else []), if m = true then (namesQ (bare l) f j c).2 else (j, c))) ∧ But w wr r ∧ QRd wr r q A cap l j c
theorem names_go {L : List V} {f j : Nat} {c : Bool} (hf : L.length - j < f) (hj : j ≤ L.length) : ∃ f', f = f' + 1 ∧ (isK L (nmQ L j c).2.1 (nmQ L j c).2.2 0 = true → L.length - (nmQ L j c).2.1 < f' ∧ j + 1 ≤ (nmQ L j c).2.1) ∧
  namesQ L f j c = (.mk sCol (nmQ L j c).1 [] :: (if isK L (nmQ L j c).2.1 (nmQ L j c).2.2 0 = true then (namesQ L f' (nmQ L j c).2.1 (nmQ L j c).2.2).1 else []), if isK L (nmQ L j c).2.1 (nmQ L j c).2.2 0 = true then (namesQ L f' (nmQ L j c).2.1 (nmQ L j c).2.2).2 else (nmQ L j c).2) := by
 obtain ⟨f', rfl⟩ : ∃ f', f = f' + 1 := ⟨f - 1, by omega⟩
 refine ⟨f', rfl, fun hk => ?_, ?_⟩
 ·have h1 := (isK_lt hk).2
  have h3 := (isK_lt hk).1
  have h2 : j + 1 ≤ (nmQ L j c).2.1 := by
   unfold nmQ at h1 ⊢
   split at h1
   ·rename_i hs
    rw [if_pos hs]
    exact Nat.le_refl _
   ·cases h1
  exact ⟨by omega, h2⟩
 ·rw [namesQ]
  split <;> rfl
theorem NBox.grown {w w9 : World} {g : Nat} {a b c : Value} {row : Option Nat} (h : NBox w g a b c) (hg : w.grownBy w9 row) (hn : row ≠ some g) : NBox w9 g a b c := by
 have hk : ∀ j, w9.cell? ⟨g, j, none⟩ = w.cell? ⟨g, j, none⟩ := fun j => by
  unfold World.cell?
  rw [hg.block g h.lt hn.symm]
 have hf : ∀ j, w9.frozen? ⟨g, j, none⟩ = w.frozen? ⟨g, j, none⟩ := fun j => by
  unfold World.frozen?
  rw [hg.block g h.lt hn.symm]
 exact ⟨(hk 0).trans h.c0, (hk 1).trans h.c1, (hk 2).trans h.c2, fun j => (hf j).trans (h.fr j)⟩
theorem NBox.kid {w : World} {g : Nat} {a b c : Value} (h : NBox w g a b c) (z : Value) : NBox (w.setCell ⟨g, 2, none⟩ z) g a b z :=
 ⟨(World.cell?_setCell_other _ _ _ _ (by simp)).trans h.c0, (World.cell?_setCell_other _ _ _ _ (by simp)).trans h.c1, World.cell?_setCell_same _ _ _ h.c2, fun j => by rw [World.frozen?_setCell]; exact h.fr j⟩
theorem NBox.far {w : World} {g : Nat} {a b c : Value} (h : NBox w g a b c) (p : Addr) (hp : p.block ≠ g) (z : Value) : NBox (w.setCell p z) g a b c :=
 ⟨(World.cell?_setCell_other _ _ _ _ (fun e => hp (by rw [e]))).trans h.c0, (World.cell?_setCell_other _ _ _ _ (fun e => hp (by rw [e]))).trans h.c1, (World.cell?_setCell_other _ _ _ _ (fun e => hp (by rw [e]))).trans h.c2, fun j => by rw [World.frozen?_setCell]; exact h.fr j⟩
theorem own_set {w : World} {B n k : Nat} {e : TypeId} {v : Value} {xs : List Value} (h : w.ownsRow B e k v n xs) (p : Addr) (hp : p.block < B) (u : Value) : (w.setCell p u).ownsRow B e k v n xs :=
 h.kept (row := some p.block) ⟨rfl, rfl, rfl, by simp, fun j hj hn => Below.heap_setCell w p u j (fun e => hn (by rw [e]))⟩ (by
  by_cases hv : v.ownBlock = some p.block
  ·have := (h.lt _ hv).1
   omega
  ·exact .inr hv)
theorem by_told {r q : Nat} {A : Option Addr} {cap : Nat} {l : List W} {w wr : World} {ks : List Nod} {xs : List NV} {X : Option Addr} {cp j : Nat} {c : Bool} (hq : q < w.heap.size) (hr : r < w.heap.size) (ho : wr.ownsRow (w.heap.size + 2) 25 3 (.slice X xs.length cp) xs.length (flatC nc xs)) (ha : RAll wr (fun _ => False) ks xs) (hk : ks.length ≤ 1000000000) (hb : But w wr r) (hQ : QRd wr r q A cap l j c) :
  GetB r q A cap l w true (.mk sBy [] ks, j, c) (.returned (.tuple #[.agg #[.string ⟨#[98, 121]⟩, .string ⟨#[]⟩, .slice X xs.length cp], .bool true])) (W3 wr w.heap.size (.string ⟨#[98, 121]⟩) (.string ⟨#[]⟩) (.slice X xs.length cp)) := by
 obtain ⟨A', cap', e, hat, hcp⟩ := own_nat ho
 injection e with e _ e2
 subst e e2
 refine ⟨⟨#[98, 121]⟩, ⟨#[]⟩, X, xs.length, cp, rfl, ?_, W3.but hb (Nat.le_refl _) _ _ _, hQ.w3 hr (by omega) _ _ _⟩
 rw [ha.1]
 have h := RIn.made cp ⟨#[98, 121]⟩ ⟨#[]⟩ hat (ha.keep (S' := fun g => w.heap.size + 2 ≤ g ∧ g < wr.heap.size) (fun g h => h.elim) (fun p h => h.elim)) hk (by rw [← ha.1]; exact hcp)
 exact (h.w3 (g := w.heap.size) (fun h => by have := h.1; omega) _ _ _).imp (fun g hg => ⟨by have := hg.1; omega, by show g < (W3 wr w.heap.size _ _ _).heap.size; rw [W3.size]; exact hg.2⟩)
theorem qby_names (r q : Nat) (A : Option Addr) (cap : Nat) (l : List W) (i : Nat) (b : Bool) (w : World) (h : QRd w r q A cap l i b) (hi : i ≤ l.length) (hl : l.length ≤ 4194304) (hk : isK (bare l) i b 0 = true) (hil : i < l.length) (htx : l[i].2.1 = sBy) (hw : wordQ (bare l) i b sBy [61] = false) :
  Calls Tryz.prog 102 #[.pointer (some ⟨q, 0, none⟩)] w (GetB r q A cap l w true (.mk sBy [] (namesQ (bare l) ((bare l).length + 1) (i + 1) b).1, (namesQ (bare l) ((bare l).length + 1) (i + 1) b).2)) := by
 have HR := hid h
 have zr := h.lt
 have zq := h.ltq
 have HK := hid (fun (w' : World) (h' : QRd w' r q A cap l i b) => rkind_any r A cap l i b 0 w' h'.rd hi hl)
 obtain ⟨ad, rfl, ha, d0, d1, d2⟩ := at_word h.rd.ws i hil
 obtain ⟨t, htt⟩ : ∃ t, l[i].2.1 = t := ⟨_, rfl⟩
 rw [htt] at d1
 obtain ⟨T, hT⟩ : ∃ T : ByteArray, ⟨t.toArray⟩ = T := ⟨_, rfl⟩
 have hTt : t = T.data.toList := by rw [← hT]
 rw [hT] at d1
 have za : (ad.add (i * 3)).block < w.heap.size := by rw [add_block]; omega
 have HD := hid (fun (w' : World) (hb : But w w' r) => show w'.cell? ⟨(ad.add (i * 3)).block, (ad.add (i * 3)).off + 1, none⟩ = some (.string T) from (hb.cell (q := ⟨(ad.add (i * 3)).block, (ad.add (i * 3)).off + 1, none⟩) za (by show (ad.add (i * 3)).block ≠ r; rw [add_block]; omega)).trans d1)
 have e3 : (i : Int) < (l.length : Int) := by omega
 obtain rfl : T = ⟨#[98, 121]⟩ := by rw [← hT, ← htt, htx]; rfl
 rw [hk] at HK
 have HW := hid (fun (w' : World) (h' : QRd w' r q (some ad) cap l i b) => qword_any r q (some ad) cap l i b ⟨#[98, 121]⟩ ⟨#[61]⟩ w' h' hi hl)
 rw [show (⟨#[98, 121]⟩ : ByteArray).data.toList = sBy from rfl, show (⟨#[61]⟩ : ByteArray).data.toList = [61] from rfl, hw] at HW
 obtain ⟨R, hR⟩ : ∃ R, namesQ (bare l) ((bare l).length + 1) (i + 1) b = R := ⟨_, rfl⟩
 have HRR := hid hR
 rw [hR]
 obtain ⟨i0, hi0, hz0', hz1, hz2⟩ := info_parts info_node
 clear h hk htx hw d0 d1 d2 hTt hT htt hR
 go_enter Tryz.func102, Tryz.ntmps102
 obtain ⟨wa, hwa⟩ : ∃ wa, w.alloc (.cells #[.string ⟨#[]⟩, .string ⟨#[]⟩, .slice none 0 0] 25) = wa := ⟨_, rfl⟩
 obtain ⟨w0, hw0⟩ : ∃ w0, wa.alloc (.cells #[.string ⟨#[98, 121]⟩, .string ⟨#[]⟩, .slice none 0 0] 25) = w0 := ⟨_, rfl⟩
 have hza : wa.heap.size = w.heap.size + 1 := by rw [← hwa]; simp
 have hz0 : w0.heap.size = w.heap.size + 2 := by rw [← hw0, ← hwa]; simp
 have N0 := hid (show NBox w0 w.heap.size (.string ⟨#[]⟩) (.string ⟨#[]⟩) (.slice none 0 0) by rw [← hw0, ← hwa]; exact (NBox.fresh _ _ _ _ _).alloc _)
 have M0 := hid (show NBox w0 (w.heap.size + 1) (.string ⟨#[98, 121]⟩) (.string ⟨#[]⟩) (.slice none 0 0) by rw [← hw0, ← hza]; exact NBox.fresh _ _ _ _ _)
 have R0 := hid (show QRd w0 r q (some ad) cap l i b by rw [← hw0, ← hwa]; exact (HR.out.alloc _).alloc _)
 have B0 := hid (show But w w0 r by rw [← hw0, ← hwa]; exact ((But.refl w r).alloc _).alloc _)
 rw [← hwa] at hw0
 have cq := R0.out.cq
 rw [← hw0] at cq
 have HW0 := hid hw0
 clear hwa hza hw0 wa
 go_wp2_with fail
 rw [HW0.out]
 refine (HK.out _ R0.out).mono ?_
 rintro e w1 ⟨rfl, hb1⟩
 have zb1 := hb1.size
 have N1 := hid (N0.out.below hb1)
 have M1 := hid (M0.out.below hb1)
 have R1 := hid (R0.out.below hb1)
 have B1 := hid (B0.out.next hb1)
 clear hb1 cq HW0
 have c0 := R1.out.rd.c0
 have c1 := R1.out.rd.c1
 have cq := R1.out.cq
 have d1 := HD.out _ B1.out
 go_wp2
 go_quiet (fail)
 obtain ⟨w2, hw2⟩ : ∃ w2, w1.drewN nq = w2 := ⟨_, rfl⟩
 have hbd : Below w1.heap.size w1 w2 := by rw [← hw2]; exact drewN_below (Below.refl _ _) _
 have zb2 := hbd.size
 have N2 := hid (N1.out.below hbd)
 have M2 := hid (M1.out.below hbd)
 have R2 := hid (R1.out.below hbd)
 have B2 := hid (B1.out.next hbd)
 rw [hw2]
 clear hw2 hbd
 clear c0 c1 cq d1
 have cq := R2.out.cq
 go_wp2_with fail
 refine (HW.out _ R2.out).mono ?_
 rintro e w3 ⟨rfl, hb3⟩
 have zb3 := hb3.size
 have N3 := hid (N2.out.below hb3)
 have M3 := hid (M2.out.below hb3)
 have R3 := hid (R2.out.below hb3)
 have B3 := hid (B2.out.next hb3)
 clear hb3 cq
 have c1 := R3.out.rd.c1
 have cq := R3.out.cq
 have f1 := R3.out.rd.fr 1
 have e1 : IntKind.i64.wrap ((i : Int) + 1) = (i : Int) + 1 := by rw [IntKind.wrap_i64]; omega
 obtain ⟨w4, hw4⟩ : ∃ w4, w3.setCell ⟨r, 1, none⟩ (.int .i64 ((i : Int) + 1)) = w4 := ⟨_, rfl⟩
 have zb4 : w4.heap.size = w3.heap.size := by rw [← hw4]; simp
 have N4 := hid (show NBox w4 w.heap.size (.string ⟨#[]⟩) (.string ⟨#[]⟩) (.slice none 0 0) by rw [← hw4]; exact N3.out.far _ (by show r ≠ _; omega) _)
 have M4 := hid (show NBox w4 (w.heap.size + 1) (.string ⟨#[98, 121]⟩) (.string ⟨#[]⟩) (.slice none 0 0) by rw [← hw4]; exact M3.out.far _ (by show r ≠ _; omega) _)
 have R4 := hid (show QRd w4 r q (some ad) cap l (i + 1) b by rw [← hw4]; exact ⟨at1 R3.out.rd, (World.cell?_setCell_other _ _ _ _ (fun e => R3.out.ne (congrArg Addr.block e).symm)).trans R3.out.cq, R3.out.ne⟩)
 have B4 := hid (show But w w4 r by rw [← hw4]; exact B3.out.setCell 1 _)
 have HW4 := hid hw4
 clear hw4
 go_wp2
 rw [HW4.out]
 clear cq c1 f1 HW4
 go_loopw [7] (fun v wr => BInv r q (some ad) cap l w R v wr) (fun v wr => (l.length - atOf wr r) + moreOf v)
 case atStart =>
  refine ⟨(bare l).length + 1, i + 1, b, true, [], [], none, 0, rfl, N4.out, M4.out, World.ownsRow_nil _ _ _ _, RAll.nil _ _, by omega, fun _ => by rw [bare_length]; omega, by simp [moreOf], hid ?_, B4.out, R4.out⟩
  rw [← HRR.out]
  rfl
 case round =>
  obtain ⟨f, j, c, m, ks, xs, X, cp, rfl, hn, hm, hown, hall, hj, hf, hkj, HE, hbut, hqr⟩ := hrel
  have N5 := hid hn
  have M5 := hid hm
  have HO := hid hown
  have HA := hid hall
  have HB := hid hbut
  have HQ := hid hqr
  have hz := hbut.size
  have HAT := hid (atq hqr)
  have hlm := hm.lt
  have hks := hall.1
  clear hn hm hown hall hbut hqr
  cases m with
  | false =>
   have HEE := hid (show R = (ks, j, c) by rw [HE.out]; simp)
   have hkk : ks.length ≤ 1000000000 := by simp [moreOf] at hkj; omega
   obtain ⟨N, hN⟩ : ∃ N, xs.length = N := ⟨_, rfl⟩
   obtain ⟨x0, x1, x2, xf⟩ := N5.out
   obtain ⟨y0, y1, y2, yf⟩ := M5.out
   rw [hN] at y2
   have HN := hid hN
   clear hN hks HE hf hkj
   go_wp2
   have Y := N5.out.set (.string ⟨#[98, 121]⟩) (.string ⟨#[]⟩) (.slice X N cp)
   have hg := by_told zq zr HO.out HA.out hkk HB.out HQ.out
   rw [HN.out] at hg
   rw [HEE.out]
   exact bodyPost_ret (v := .tuple #[.agg #[.string ⟨#[98, 121]⟩, .string ⟨#[]⟩, .slice X N cp], .bool true]) (by simp [results, Tryz.results102, go_sem, Y.c0, Y.c1, Y.c2]) rfl hg
  | true =>
   obtain ⟨f', rfl, hadv, hgo⟩ := names_go (L := bare l) (c := c) (by rw [bare_length]; exact hf rfl) (by rw [bare_length]; exact hj)
   have E1 := nm_ends (L := bare l) (i := j) (b := c) (by rw [bare_length]; exact hj)
   obtain ⟨n0, hn0⟩ : ∃ n0, nmQ (bare l) j c = n0 := ⟨_, rfl⟩
   rw [hn0] at E1 hadv hgo
   obtain ⟨m', hm'⟩ : ∃ m', isK (bare l) n0.2.1 n0.2.2 0 = m' := ⟨_, rfl⟩
   rw [hm'] at hadv hgo
   rw [bare_length] at hadv
   have HE2 := hid (show R = (ks ++ [.mk sCol n0.1 []] ++ (if m' = true then (namesQ (bare l) f' n0.2.1 n0.2.2).1 else []), if m' = true then (namesQ (bare l) f' n0.2.1 n0.2.2).2 else (n0.2.1, n0.2.2)) by
    rw [HE.out, hgo]
    simp)
   have H1 := hid (fun (w' : World) (h' : QRd w' r q (some ad) cap l j c) => qname_any r q (some ad) cap l j c w' h' hj hl)
   rw [hn0] at H1
   have hp1 : j ≤ n0.2.1 := E1.1
   have hp2 : n0.2.1 ≤ l.length := by have := E1.2.1; rw [bare_length] at this; exact this
   have H2 := hid (fun (w' : World) (h' : QRd w' r q (some ad) cap l n0.2.1 n0.2.2) => rkind_any r (some ad) cap l n0.2.1 n0.2.2 0 w' h'.rd hp2 hl)
   rw [hm'] at H2
   obtain ⟨T, hT⟩ : ∃ T : ByteArray, ⟨n0.1.toArray⟩ = T := ⟨_, rfl⟩
   have HTT := hid (show n0.1 = T.data.toList by rw [← hT])
   rw [hT] at H1
   have HADV := hid hadv
   have hkk : ks.length ≤ j := by simp [moreOf] at hkj; omega
   obtain ⟨N, hN⟩ : ∃ N, xs.length = N := ⟨_, rfl⟩
   have hNj : N ≤ j := by omega
   have HKS := hid (show ks.length = N by omega)
   have HN := hid hN
   rw [hN] at HO M5
   clear hgo HE hn0 hm' hT E1 hadv hks hkj hf hN
   have cq := HQ.out.cq
   go_wp2_with fail
   refine (H1.out _ HQ.out).mono ?_
   rintro e w6 ⟨rfl, hb6, hr6⟩
   have zb6 := hb6.size
   have O6 := hid (own_but HO.out hb6 (by omega))
   have N6 := hid (N5.out.but (by omega) hb6)
   have M6 := hid (M5.out.but (by omega) hb6)
   have R6 := hid hr6
   have B6 := hid (HB.out.trans hb6)
   clear hb6 hr6 cq H1
   have y2 := M6.out.c2
   go_wp2_with (at_builtin; refine wpList_append_lies _ rfl _ _ _ rfl (w.heap.size + 2) 25 i0 _ 3 56 Tryz.underlying23 hi0 hz0' hz1 hz2 rfl (by omega) _ N (flatC nc xs) rfl ?ca ⟨w6.heap.size, 0, none⟩ 1 1 [.string ⟨#[99, 111, 108]⟩, .string T, .slice none 0 0] rfl rfl ?cn ?co (by omega) ?cm ?cb ?cs (w6.heap.size + 1) ?ch ?_)
   case ca => exact own_call O6.out (below_alloc _ _)
   case cn => exact World.news_of_block (heap_alloc_new w6 _)
   case co => exact nc_one (⟨#[99, 111, 108]⟩, T, none, 0, 0)
   case cm => unfold maxLen; omega
   case cb => omega
   case cs => simp; omega
   case ch => simp
   intro gg cap9 w9 hown9 hgrow hat hlt9
   obtain ⟨W8, hW8⟩ : ∃ W8, w6.alloc (.cells #[.string ⟨#[99, 111, 108]⟩, .string T, .slice none 0 0] 25) = W8 := ⟨_, rfl⟩
   have hz8 : W8.heap.size = w6.heap.size + 1 := by rw [← hW8]; simp
   have BA := hid (show Below w6.heap.size w6 W8 by rw [← hW8]; exact (Below.refl _ _).alloc (Nat.le_refl _) _)
   rw [hW8] at hgrow
   have hrow : ∀ k, (Value.slice X N cp).ownBlock = some k → w.heap.size + 2 ≤ k := fun k e => (O6.out.lt k e).1
   have hz9 := hgrow.size
   have N9 := hid ((N6.out.below BA.out).grown hgrow (fun e => by have := hrow _ e; omega))
   have M9 := hid ((M6.out.below BA.out).grown hgrow (fun e => by have := hrow _ e; omega))
   have B9 := hid ((B6.out.next BA.out).grown hgrow (fun k e => by have := hrow _ e; omega))
   have R9 := hid ((R6.out.below BA.out).under (B := w.heap.size) ⟨hgrow.os, hgrow.tape, hgrow.output, hgrow.size, fun k hk => hgrow.block k (by omega) (fun e => by have := hrow _ e.symm; omega)⟩ zr zq)
   have O9 := hid hown9
   clear hown9 hgrow hat hlt9 hW8 y2 hrow
   have y2 := M9.out.c2
   have yf := M9.out.fr 2
   obtain ⟨wb, hwb⟩ : ∃ wb, w9.setCell ⟨w.heap.size + 1, 2, none⟩ (.slice (some ⟨gg, 0, none⟩) (N + 1) cap9) = wb := ⟨_, rfl⟩
   have zbb : wb.heap.size = w9.heap.size := by rw [← hwb]; simp
   have NB := hid (show NBox wb w.heap.size (.string ⟨#[]⟩) (.string ⟨#[]⟩) (.slice none 0 0) by rw [← hwb]; exact N9.out.far _ (by show w.heap.size + 1 ≠ w.heap.size; omega) _)
   have MB := hid (show NBox wb (w.heap.size + 1) (.string ⟨#[98, 121]⟩) (.string ⟨#[]⟩) (.slice (some ⟨gg, 0, none⟩) (N + 1) cap9) by rw [← hwb]; exact M9.out.kid _)
   have BB := hid (show But w wb r by rw [← hwb]; exact B9.out.new _ (by show w.heap.size ≤ w.heap.size + 1; omega) _)
   have RB := hid (show QRd wb r q (some ad) cap l n0.2.1 n0.2.2 by rw [← hwb]; exact R9.out.new _ (by show r < w.heap.size + 1; omega) (by show q ≠ w.heap.size + 1; omega) _)
   have OB := hid (show wb.ownsRow (w.heap.size + 2) 25 3 (.slice (some ⟨gg, 0, none⟩) (N + 1) cap9) (N + 1) (flatC nc xs ++ nc (⟨#[99, 111, 108]⟩, T, none, 0, 0)) by rw [← hwb]; exact own_set O9.out _ (by show w.heap.size + 1 < w.heap.size + 2; omega) _)
   have cq := RB.out.cq
   rw [← hwb] at cq
   have HWB := hid hwb
   clear hwb
   go_wp2_with fail
   rw [HWB.out]
   refine (H2.out _ RB.out).mono ?_
   rintro e w10 ⟨rfl, hb10⟩
   have z10 := hb10.size
   have NC := hid (NB.out.below hb10)
   have MC := hid (MB.out.below hb10)
   have RC := hid (RB.out.below hb10)
   have BC := hid (BB.out.next hb10)
   have OC := hid (own_call OB.out hb10)
   clear hb10 cq y2 yf HWB
   have hat10 := atq RC.out
   have hat0 := HAT.out
   have IV := hid (show BInv r q (some ad) cap l w R (.bool m') w10 from by
    have hl1 : (xs ++ [((⟨#[99, 111, 108]⟩ : ByteArray), T, (none : Option Addr), 0, 0)]).length = N + 1 := by simp [HN.out]
    have hfl : flatC nc (xs ++ [((⟨#[99, 111, 108]⟩ : ByteArray), T, (none : Option Addr), 0, 0)]) = flatC nc xs ++ nc (⟨#[99, 111, 108]⟩, T, none, 0, 0) := flatC_snoc xs _
    refine ⟨f', n0.2.1, n0.2.2, m', ks ++ [.mk sCol n0.1 []], xs ++ [(⟨#[99, 111, 108]⟩, T, none, 0, 0)], some ⟨gg, 0, none⟩, cap9, rfl, NC.out, by rw [hl1]; exact MC.out, by rw [hl1, hfl]; exact OC.out, ?_, hp2, fun e => (HADV.out e).1, ?_, HE2, BC.out, RC.out⟩
    ·refine (HA.out.keep (fun g h => h.elim) (fun p h => h.elim)).snoc ?_
     rw [HTT.out]
     exact RIn.leafN _ _ ⟨#[99, 111, 108]⟩ T
    ·have := HKS.out
     rw [List.length_append]
     cases m' with
     | false => simp [moreOf]; omega
     | true => have := (HADV.out rfl).2; simp [moreOf]; omega)
   have hms : (l.length - atOf w10 r) + moreOf (.bool m') < (l.length - atOf wr r) + moreOf (.bool true) := by
    rw [hat10, hat0]
    cases m' with
    | false => simp [moreOf]; omega
    | true => have := (HADV.out rfl).2; have := (HADV.out rfl).1; simp [moreOf]; omega
   go_wp2
   go_roundw
   case rel => exact IV.out
   case measure => exact hms
theorem qby_any (r q : Nat) (A : Option Addr) (cap : Nat) (l : List W) (i : Nat) (b : Bool) (w : World) (h : QRd w r q A cap l i b) (hi : i ≤ l.length) (hl : l.length ≤ 4194304) :
  Calls Tryz.prog 102 #[.pointer (some ⟨q, 0, none⟩)] w (GetB r q A cap l w (hasQ (bare l) i b) (by0Q (bare l) i b)) := by
 unfold by0Q
 by_cases hk : isK (bare l) i b 0 = true
 ·have hil := isK_len hk
  by_cases htx : l[i].2.1 = sBy
  ·by_cases hw : wordQ (bare l) i b sBy [61] = true
   ·have hh : hasQ (bare l) i b = false := by unfold hasQ; rw [hw]; simp
    rw [hh, if_neg (by decide)]
    exact qby_agg r q A cap l i b w h hi hl hk hil htx hw
   ·have hw := Bool.eq_false_iff.2 hw
    have hh : hasQ (bare l) i b = true := by unfold hasQ; rw [hw, hk, txt_at hil, htx]; simp
    rw [hh, if_pos rfl]
    exact qby_names r q A cap l i b w h hi hl hk hil htx hw
  ·have hh : hasQ (bare l) i b = false := by
    unfold hasQ
    rw [txt_at hil]
    have : (l[i].2.1 == sBy) = false := by simpa using htx
    rw [this]
    simp
   rw [hh, if_neg (by decide)]
   exact qby_other r q A cap l i b w h hi hl hk hil htx
 ·have hk := Bool.eq_false_iff.2 hk
  have hh : hasQ (bare l) i b = false := by unfold hasQ; rw [hk]; simp
  rw [hh, if_neg (by decide)]
  exact qby_none r q A cap l i b w h hi hl hk
theorem by_is (L : List V) (i : Nat) (b : Bool) : byQ L i b = if hasQ L i b = true then ((by0Q L i b).1, mustQ L (by0Q L i b).2.1 (by0Q L i b).2.2 [44]) else by0Q L i b := by
 unfold byQ by0Q
 split <;> rfl
abbrev NVBox (w : World) (g : Nat) (y : NV) : Prop := NBox w g (.string y.1) (.string y.2.1) (.slice y.2.2.1 y.2.2.2.1 y.2.2.2.2)
section
variable {r : Nat} {m : Int} {A : Option Addr} {cap : Nat} {l : List W} {qb qa : Nat}
def GiveE (r : Nat) (m : Int) (A : Option Addr) (cap : Nat) (l : List W) (qb qa g : Nat) (T : Option (Nat → Nod)) (Pre : World → Prop) (k i : Nat) (w : World) (res : Res) (e : Ending) (w' : World) : Prop :=
 ∃ (op tx : ByteArray) (X : Option Addr) (n c : Nat), e = .returned (.tuple #[.agg #[.string op, .string tx, .slice X n c], .bool (!res.2.2)]) ∧ (res.2.2 = false → RIn w' (New w w') res.1 (op, tx, X, n, c)) ∧ But2 w w' r g ∧ Rq w' r m A cap l qb qa res.2.1 ∧ Pre w' ∧ (k ≠ 1 → But w w' r) ∧
  (∀ t, T = some t → k = 1 → res.2.2 = false → ∃ y : NV, NVBox w' g y ∧ RIn w' (New w w') (t i) y)
theorem GiveN.part {g : Nat} {Pre : World → Prop} {k i : Nat} {w w' : World} {res : Res} {e : Ending} (h : GiveN r m A cap l qb qa w res e w') (hp : Pre w') : GiveE r m A cap l qb qa g none Pre k i w res e w' := by
 obtain ⟨op, tx, X, n, c, he, hn, hb, hr⟩ := h
 exact ⟨op, tx, X, n, c, he, hn, hb.two g, hr, hp, fun _ => hb, fun t h => by cases h⟩
theorem GiveN.part' {g : Nat} {T : Option (Nat → Nod)} {Pre : World → Prop} {k i : Nat} {w w' : World} {res : Res} {e : Ending} (h : GiveN r m A cap l qb qa w res e w') (hp : Pre w') (hk : k ≠ 1) : GiveE r m A cap l qb qa g T Pre k i w res e w' := by
 obtain ⟨op, tx, X, n, c, he, hn, hb, hr⟩ := h
 exact ⟨op, tx, X, n, c, he, hn, hb.two g, hr, hp, fun _ => hb, fun t _ h => absurd h hk⟩
def ElemC (fn : Nat) (cps : Array Value) (r : Nat) (m : Int) (A : Option Addr) (cap : Nat) (l : List W) (qb qa g : Nat) (T : Option (Nat → Nod)) (Pre : World → Prop) (i0 : Nat) (el : Nat → Nat → Res) : Prop :=
 ∀ (k i : Nat) (w : World), i0 ≤ i → i ≤ l.length → k ≤ 4194306 → Rq w r m A cap l qb qa i → Pre w → Calls Tryz.prog fn (#[.int .i64 k] ++ cps) w (GiveE r m A cap l qb qa g T Pre k i w (el k i))
def GiveL (r : Nat) (m : Int) (A : Option Addr) (cap : Nat) (l : List W) (qb qa g : Nat) (T : Option (Nat → Nod)) (Pre : World → Prop) (j1 : Nat) (w : World) (R : Ress) (e : Ending) (w' : World) : Prop :=
 ∃ (op tx : ByteArray) (X : Option Addr) (n c : Nat), e = .returned (.tuple #[.agg #[.string op, .string tx, .slice X n c], .bool (!R.2.2)]) ∧ (R.2.2 = false → RIn w' (New w w') (.mk [] [] R.1) (op, tx, X, n, c)) ∧ But2 w w' r g ∧ Rq w' r m A cap l qb qa R.2.1 ∧ Pre w' ∧
  (R.2.2 = false → ∃ xs : List NV, n = xs.length ∧ w'.ownsRow w.heap.size 25 3 (.slice X n c) n (flatC nc xs) ∧ RAll w' (Apart w w' X) R.1 xs) ∧
  (∀ t, T = some t → R.2.2 = false → 2 ≤ R.1.length → ∃ y : NV, NVBox w' g y ∧ RIn w' (Apart w w' X) (t j1) y)
def LS (w wr : World) (X : Option Addr) (k : Nat) : Prop := w.heap.size + 1 < k ∧ k < wr.heap.size ∧ ∀ ad, X = some ad → ad.block ≠ k
structure LsK (r : Nat) (m : Int) (A : Option Addr) (cap : Nat) (l : List W) (qb qa g : Nat) (T : Option (Nat → Nod)) (Pre : World → Prop) (j1 : Nat) (w : World) (j : Nat) (ks : List Nod) (xs : List NV) (X : Option Addr) (cp : Nat) (w' : World) : Prop where
 nb : NBox w' w.heap.size (.string ⟨#[]⟩) (.string ⟨#[]⟩) (.slice none 0 0)
 mb : NBox w' (w.heap.size + 1) (.string ⟨#[]⟩) (.string ⟨#[]⟩) (.slice X xs.length cp)
 own : w'.ownsRow (w.heap.size + 2) 25 3 (.slice X xs.length cp) xs.length (flatC nc xs)
 all : RAll w' (LS w w' X) ks xs
 but : But2 w w' r g
 rd : Rq w' r m A cap l qb qa j
 pre : Pre w'
 ex : ∀ t, T = some t → 2 ≤ ks.length → ∃ y : NV, NVBox w' g y ∧ RIn w' (LS w w' X) (t j1) y
theorem NBox.but2 {w w' : World} {g r h : Nat} {a b c : Value} (hb : NBox w g a b c) (hg : g ≠ r) (hh : g ≠ h) (hbb : But2 w w' r h) : NBox w' g a b c := by
 have hl := hb.lt
 exact ⟨(hbb.cell (q := ⟨g, 0, none⟩) hl hg hh).trans hb.c0, (hbb.cell (q := ⟨g, 1, none⟩) hl hg hh).trans hb.c1, (hbb.cell (q := ⟨g, 2, none⟩) hl hg hh).trans hb.c2, fun j => (hbb.frozen (q := ⟨g, j, none⟩) hl hg hh).trans (hb.fr j)⟩
theorem own_but2 {w w' : World} {B r g n k : Nat} {e : TypeId} {v : Value} {xs : List Value} (h : w.ownsRow B e k v n xs) (hb : But2 w w' r g) (hB : r < B) (hg : g < B) : w'.ownsRow B e k v n xs := by
 refine ⟨h.1, ?_⟩
 rcases h.2 with hn | ⟨o, cap, cur, e, hb', hgg, rest⟩
 ·exact .inl hn
 ·refine .inr ⟨o, cap, cur, e, hb', ?_, rest⟩
  rw [hb.block o (Array.getElem?_eq_some_iff.1 hgg).1 (by omega) (by omega)]
  exact hgg
theorem But2.grown {w w8 w9 : World} {r g : Nat} {row : Option Nat} (h : But2 w w8 r g) (hg : w8.grownBy w9 row) (hrow : ∀ k, row = some k → w.heap.size ≤ k) : But2 w w9 r g :=
 ⟨hg.os.trans h.os, hg.tape.trans h.tape, hg.output.trans h.output, Nat.le_trans h.size hg.size, fun k hk hn hm => (hg.block k (Nat.lt_of_lt_of_le hk h.size) (fun e => by have := hrow k e.symm; omega)).trans (h.block k hk hn hm)⟩
theorem Rq.under {w w' : World} {B i : Nat} (h : Rq w r m A cap l qb qa i) (hb : Below B w w') (hr : r < B) (hq : qb < B) (ha : qa < B) : Rq w' r m A cap l qb qa i :=
 ⟨⟨(hb.cell (p := ⟨r, 0, none⟩) hr).trans h.rd.c0, (hb.cell (p := ⟨r, 1, none⟩) hr).trans h.rd.c1, fun j => (hb.frozen (p := ⟨r, j, none⟩) hr).trans (h.rd.fr j), h.rd.ws.below (hb.mono (Nat.le_of_lt hr)), h.rd.ev.below (hb.mono (Nat.le_of_lt hr))⟩, (hb.cell (p := ⟨r, 2, none⟩) hr).trans h.c2, (hb.cell (p := ⟨r, 3, none⟩) hr).trans h.c3, h.mq.heap (hb.block _ hq), h.ma.heap (hb.block _ ha), h.nq, h.na⟩
def Firm (r : Nat) (Pre : World → Prop) (w : World) : Prop := ∀ w1 w2 : World, (∀ k, k < w.heap.size → k ≠ r → w2.heap[k]? = w1.heap[k]?) → Pre w1 → Pre w2
section
variable {g : Nat} {T : Option (Nat → Nod)} {Pre : World → Prop} {j1 : Nat} {w w' w8 : World} {j j' : Nat} {ks : List Nod} {xs : List NV} {X : Option Addr} {cp : Nat}
theorem LsK.next (h : LsK r m A cap l qb qa g T Pre j1 w j ks xs X cp w') (hr : r < w.heap.size) (hT : ∀ t, T = some t → g ≠ r) (hP : Firm r Pre w) (hb : But w' w8 r) (hQ : Rq w8 r m A cap l qb qa j') : LsK r m A cap l qb qa g T Pre j1 w j' ks xs X cp w8 := by
 have hs : ∀ k, LS w w' X k → LS w w8 X k := fun k hk => ⟨hk.1, Nat.lt_of_lt_of_le hk.2.1 hb.size, hk.2.2⟩
 have hc : ∀ p : Addr, LS w w' X p.block → w8.cell? p = w'.cell? p := fun p hp => hb.cell hp.2.1 (by have := hp.1; omega)
 have hz := h.but.size
 refine ⟨h.nb.but (by omega) hb, h.mb.but (by omega) hb, own_but h.own hb (by omega), h.all.keep hs hc, h.but.trans (hb.two g), hQ, hP _ _ (fun k hk hn => hb.block k (by omega) hn) h.pre, fun t ht h2 => ?_⟩
 obtain ⟨y, hy, hi⟩ := h.ex t ht h2
 exact ⟨y, hy.but (hT t ht) hb, hi.keep hs hc⟩
theorem LsK.part (h : LsK r m A cap l qb qa g T Pre j1 w j ks xs X cp w') (hr : r < w.heap.size) (hg : g < w.heap.size) (hT : ∀ t, T = some t → g ≠ r) (hb : But2 w' w8 r g) (hQ : Rq w8 r m A cap l qb qa j') (hp : Pre w8) (hk : ks.length ≠ 1 → But w' w8 r) : LsK r m A cap l qb qa g T Pre j1 w j' ks xs X cp w8 := by
 have hs : ∀ k, LS w w' X k → LS w w8 X k := fun k hk => ⟨hk.1, Nat.lt_of_lt_of_le hk.2.1 hb.size, hk.2.2⟩
 have hc : ∀ p : Addr, LS w w' X p.block → w8.cell? p = w'.cell? p := fun p hp => hb.cell hp.2.1 (by have := hp.1; omega) (by have := hp.1; omega)
 refine ⟨h.nb.but2 (by omega) (by omega) hb, h.mb.but2 (by omega) (by omega) hb, own_but2 h.own hb (by omega) (by omega), h.all.keep hs hc, h.but.trans hb, hQ, hp, fun t ht h2 => ?_⟩
 obtain ⟨y, hy, hi⟩ := h.ex t ht h2
 exact ⟨y, hy.but (hT t ht) (hk (by omega)), hi.keep hs hc⟩
theorem LsK.add {w9 : World} {t0 : Nod} {y0 : NV} {N gg cap9 : Nat} (h : LsK r m A cap l qb qa g T Pre j1 w j ks xs X cp w8) (hr : r < w.heap.size) (hq : qb < w.heap.size) (ha : qa < w.heap.size) (hgl : g < w.heap.size) (hP : Firm r Pre w) (hN : xs.length = N)
  (hy0 : RIn w8 (LS w w8 X) t0 y0) (hx : ∀ t, T = some t → ks.length = 1 → ∃ y : NV, NVBox w8 g y ∧ RIn w8 (LS w w8 X) (t j1) y)
  (hown9 : w9.ownsRow (w.heap.size + 2) 25 3 (.slice (some ⟨gg, 0, none⟩) (N + 1) cap9) (N + 1) (flatC nc xs ++ nc y0)) (hg : w8.grownBy w9 (Value.slice X N cp).ownBlock) (hat : (Value.slice X N cp).ownBlock = some gg ∨ gg = w8.heap.size) :
  LsK r m A cap l qb qa g T Pre j1 w j (ks ++ [t0]) (xs ++ [y0]) (some ⟨gg, 0, none⟩) cap9 (w9.setCell ⟨w.heap.size + 1, 2, none⟩ (.slice (some ⟨gg, 0, none⟩) (N + 1) cap9)) := by
 subst hN
 have hl : (xs ++ [y0]).length = xs.length + 1 := by simp
 have hfl : flatC nc (xs ++ [y0]) = flatC nc xs ++ nc y0 := flatC_snoc xs y0
 have hrow : ∀ k, (Value.slice X xs.length cp).ownBlock = some k → w.heap.size + 2 ≤ k := fun k e => (h.own.lt k e).1
 have h0 := h.but.size
 have hz := hg.size
 have hgn := h.mb.lt
 have hgg : w.heap.size + 2 ≤ gg := by
  rcases hat with e | e
  ·exact hrow _ e
  ·omega
 have hB : Below w.heap.size w8 w9 := ⟨hg.os, hg.tape, hg.output, hg.size, fun k hk => hg.block k (by omega) (fun e => by have := hrow k e.symm; omega)⟩
 have hne : ∀ k, LS w w8 X k → (Value.slice X xs.length cp).ownBlock ≠ some k := by
  intro k hk e
  cases X with
  | none => cases e
  | some ad => exact hk.2.2 ad rfl (Option.some.inj e)
 have hk : ∀ p : Addr, LS w w8 X p.block → (w9.setCell ⟨w.heap.size + 1, 2, none⟩ (.slice (some ⟨gg, 0, none⟩) (xs.length + 1) cap9)).cell? p = w8.cell? p := by
  intro p hp
  rw [World.cell?_setCell_other _ _ _ _ (fun e => by have := hp.1; rw [← e] at this; simp at this)]
  unfold World.cell?
  rw [hg.block p.block hp.2.1 (hne _ hp).symm]
 have hs : ∀ k, LS w w8 X k → LS w (w9.setCell ⟨w.heap.size + 1, 2, none⟩ (.slice (some ⟨gg, 0, none⟩) (xs.length + 1) cap9)) (some ⟨gg, 0, none⟩) k := fun k hk => by
  refine ⟨hk.1, by have := hk.2.1; simp; omega, fun ad e => ?_⟩
  cases e
  rcases hat with e | e
  ·exact fun e' => hne k hk (by rw [e, ← e'])
  ·have := hk.2.1
   show gg ≠ k
   omega
 refine ⟨(h.nb.grown hg (fun e => by have := hrow _ e; omega)).far _ (by show w.heap.size + 1 ≠ _; omega) _, ?_, ?_, ?_, ?_, ?_, ?_, ?_⟩
 ·rw [hl]
  exact (h.mb.grown hg (fun e => by have := hrow _ e; omega)).kid _
 ·rw [hl, hfl]
  exact own_set hown9 _ (by show w.heap.size + 1 < w.heap.size + 2; omega) _
 ·exact (h.all.keep hs hk).snoc (hy0.keep hs hk)
 ·exact (h.but.grown hg (fun k e => by have := hrow k e; omega)).new _ (by show w.heap.size ≤ w.heap.size + 1; omega) _
 ·exact (h.rd.under hB hr hq ha).new _ (by show r < w.heap.size + 1; omega) (by show w.heap.size + 1 ≠ qb; omega) (by show w.heap.size + 1 ≠ qa; omega) _
 ·refine hP _ _ (fun k hk hn => ?_) h.pre
  rw [Below.heap_setCell w9 ⟨w.heap.size + 1, 2, none⟩ _ k (by show k ≠ w.heap.size + 1; omega)]
  exact hB.block k hk
 ·intro t ht h2
  have hbg : ∀ y : NV, NVBox w8 g y → NVBox (w9.setCell ⟨w.heap.size + 1, 2, none⟩ (.slice (some ⟨gg, 0, none⟩) (xs.length + 1) cap9)) g y := fun y hy =>
   (hy.grown hg (fun e => by have := hrow _ e; omega)).far _ (by show w.heap.size + 1 ≠ g; omega) _
  have hlen : ks.length = 1 ∨ 2 ≤ ks.length := by rw [List.length_append, List.length_singleton] at h2; omega
  rcases hlen with h1 | h1
  ·obtain ⟨y, hy, hi⟩ := hx t ht h1
   exact ⟨y, hbg y hy, hi.keep hs hk⟩
  ·obtain ⟨y, hy, hi⟩ := h.ex t ht h1
   exact ⟨y, hbg y hy, hi.keep hs hk⟩
theorem own_base {w : World} {B B' n k : Nat} {e : TypeId} {v : Value} {xs : List Value} (h : w.ownsRow B e k v n xs) (hB : B' ≤ B) : w.ownsRow B' e k v n xs := by
 refine ⟨h.1, ?_⟩
 rcases h.2 with hn | ⟨o, cap, cur, e, hb', rest⟩
 ·exact .inl hn
 ·exact .inr ⟨o, cap, cur, e, Nat.le_trans hB hb', rest⟩
theorem LsK.told (h : LsK r m A cap l qb qa g T Pre j1 w j ks xs X cp w') (hr : r < w.heap.size) (hq : qb < w.heap.size) (ha : qa < w.heap.size) (hgl : g < w.heap.size) (hP : Firm r Pre w) (hk : ks.length ≤ 1000000000) {N : Nat} (hN : xs.length = N) :
  GiveL r m A cap l qb qa g T Pre j1 w (ks, j, false) (.returned (.tuple #[.agg #[.string ⟨#[]⟩, .string ⟨#[]⟩, .slice X N cp], .bool true])) (W3 w' w.heap.size (.string ⟨#[]⟩) (.string ⟨#[]⟩) (.slice X N cp)) := by
 subst hN
 have hown := h.own
 obtain ⟨A', cap', e, hat, hcp⟩ := own_nat h.own
 injection e with e _ e2
 subst e e2
 have hw3 : ∀ k, New w (W3 w' w.heap.size (.string ⟨#[]⟩) (.string ⟨#[]⟩) (.slice X xs.length cp)) k ↔ New w w' k := fun k => by unfold New; rw [W3.size]
 have hap : ∀ k, LS w w' X k → Apart w (W3 w' w.heap.size (.string ⟨#[]⟩) (.string ⟨#[]⟩) (.slice X xs.length cp)) X k := fun k hk => ⟨by have := hk.1; omega, by rw [W3.size]; exact hk.2.1, hk.2.2⟩
 have hcc : ∀ p : Addr, LS w w' X p.block → (W3 w' w.heap.size (.string ⟨#[]⟩) (.string ⟨#[]⟩) (.slice X xs.length cp)).cell? p = w'.cell? p := fun p hp => by
  unfold W3
  rw [World.cell?_setCell_other _ _ _ _ (fun e => by have := hp.1; rw [← e] at this; dsimp only at this; omega), World.cell?_setCell_other _ _ _ _ (fun e => by have := hp.1; rw [← e] at this; dsimp only at this; omega), World.cell?_setCell_other _ _ _ _ (fun e => by have := hp.1; rw [← e] at this; dsimp only at this; omega)]
 have hg : ¬ (fun k => w.heap.size < k ∧ k < w'.heap.size) w.heap.size := fun h => Nat.lt_irrefl _ h.1
 have hs : ∀ k, (fun k => w.heap.size < k ∧ k < w'.heap.size) k → New w (W3 w' w.heap.size (.string ⟨#[]⟩) (.string ⟨#[]⟩) (.slice X xs.length cp)) k := fun k hk => ⟨Nat.le_of_lt hk.1, by rw [W3.size]; exact hk.2⟩
 have hls : ∀ k, LS w w' X k → w.heap.size < k ∧ k < w'.heap.size := fun k hk => ⟨by have := hk.1; omega, hk.2.1⟩
 have h1 := RIn.made cp ⟨#[]⟩ ⟨#[]⟩ (hat.keep (S' := fun k => w.heap.size < k ∧ k < w'.heap.size) (fun k hk => ⟨by have := hk.1; omega, hk.2⟩) (fun _ _ => rfl)) (h.all.keep (S' := fun k => w.heap.size < k ∧ k < w'.heap.size) hls (fun _ _ => rfl)) hk (by rw [← h.all.1]; exact hcp)
 rw [← h.all.1] at h1
 refine ⟨⟨#[]⟩, ⟨#[]⟩, X, xs.length, cp, rfl, fun _ => (h1.w3 hg _ _ _).imp hs, ((h.but.new _ (Nat.le_refl _) _).new _ (Nat.le_refl _) _).new _ (Nat.le_refl _) _, h.rd.w3 hr (by omega) (by omega) _ _ _, ?_, fun _ => ⟨xs, rfl, ?_, h.all.keep hap hcc⟩, fun t ht _ h2 => ?_⟩
 ·refine hP _ _ (fun k hk hn => ?_) h.pre
  unfold W3
  rw [Below.heap_setCell _ ⟨w.heap.size, 2, none⟩ _ k (by show k ≠ w.heap.size; omega), Below.heap_setCell _ ⟨w.heap.size, 1, none⟩ _ k (by show k ≠ w.heap.size; omega), Below.heap_setCell _ ⟨w.heap.size, 0, none⟩ _ k (by show k ≠ w.heap.size; omega)]
 ·exact own_base (own_set (own_set (own_set hown _ (by show w.heap.size < w.heap.size + 2; omega) _) _ (by show w.heap.size < w.heap.size + 2; omega) _) _ (by show w.heap.size < w.heap.size + 2; omega) _) (by omega)
 ·obtain ⟨y, hy, hi⟩ := h.ex t ht h2
  exact ⟨y, ((hy.far ⟨w.heap.size, 0, none⟩ (by show w.heap.size ≠ g; omega) _).far ⟨w.heap.size, 1, none⟩ (by show w.heap.size ≠ g; omega) _).far ⟨w.heap.size, 2, none⟩ (by show w.heap.size ≠ g; omega) _, hi.keep hap hcc⟩
theorem LsK.wrong (h : LsK r m A cap l qb qa g T Pre j1 w j ks xs X cp w') (hr : r < w.heap.size) (hq : qb < w.heap.size) (ha : qa < w.heap.size) (hP : Firm r Pre w) (zs : List Nod) :
  GiveL r m A cap l qb qa g T Pre j1 w (zs, j, true) (.returned (.tuple #[.agg #[.string ⟨#[]⟩, .string ⟨#[]⟩, .slice none 0 0], .bool false])) (W3 w' w.heap.size (.string ⟨#[]⟩) (.string ⟨#[]⟩) (.slice none 0 0)) := by
 refine ⟨⟨#[]⟩, ⟨#[]⟩, none, 0, 0, rfl, (fun e => by cases e), ((h.but.new _ (Nat.le_refl _) _).new _ (Nat.le_refl _) _).new _ (Nat.le_refl _) _, h.rd.w3 hr (by omega) (by omega) _ _ _, ?_, (fun e => by cases e), (fun t ht e => by cases e)⟩
 refine hP _ _ (fun k hk hn => ?_) h.pre
 unfold W3
 rw [Below.heap_setCell _ ⟨w.heap.size, 2, none⟩ _ k (by show k ≠ w.heap.size; omega), Below.heap_setCell _ ⟨w.heap.size, 1, none⟩ _ k (by show k ≠ w.heap.size; omega), Below.heap_setCell _ ⟨w.heap.size, 0, none⟩ _ k (by show k ≠ w.heap.size; omega)]
end
theorem GiveL.node {w w' : World} {Pre : World → Prop} {j1 : Nat} {R : Ress} {e : Ending} (h : GiveL r m A cap l qb qa r none Pre j1 w R e w') : GiveN r m A cap l qb qa w (.mk [] [] R.1, R.2) e w' := by
 obtain ⟨op, tx, X, n, c, he, hn, hb, hr, -⟩ := h
 exact ⟨op, tx, X, n, c, he, hn, hb.one, hr⟩
def lenOf (w : World) (g : Nat) : Nat := match w.cell? ⟨g, 2, none⟩ with | some (.slice _ n _) => n | _ => 0
theorem NBox.lenOf {w : World} {g : Nat} {a b : Value} {X : Option Addr} {n c : Nat} (h : NBox w g a b (.slice X n c)) : Code.lenOf w g = n := by
 unfold Code.lenOf
 rw [h.c2]
end
end Go.Proofs.YtjbpkpfmgbhlpaaGreatDoor.Code
