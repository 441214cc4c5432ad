/-
  What the program's Show asks of a query's parts.
-/
import Derived.Test.YtjbpkpfmgbhlpaaGreatDoorMs13
import Derived.Test.YtjbpkpfmgbhlpaaGreatDoorMs6
import Derived.Test.YtjbpkpfmgbhlpaaGreatDoorMs14
import Derived.Test.YtjbpkpfmgbhlpaaGreatDoorMs9
import Derived.Test.YtjbpkpfmgbhlpaaGreatDoorMs12
set_option maxRecDepth 100000
set_option maxHeartbeats 16000000
open Go.Lib (hid)
namespace Go.Proofs.YtjbpkpfmgbhlpaaGreatDoor.Code
open Go.ChangeShapes Go.WideShapes Go.ChangeAt Go.RowKit Val Elems
set_option linter.unusedVariables false
set_option linter.unusedSimpArgs false
def TellsN (fn : Nat) (good : Nod → Bool) : Prop := ∀ (t : Nod) (S : Nat → Prop) (op tx : ByteArray) (X : Option Addr) (n k : Nat) (w : World), (∀ g, S g → g < w.heap.size) → RIn w S t (op, tx, X, n, k) →
  Calls Tryz.prog fn #[.agg #[.string op, .string tx, .slice X n k]] w fun e w' => e = .returned (.bool (good t)) ∧ Below w.heap.size w w'
theorem pisColumn : TellsN 131 isColB := by
 intro t S op tx X n k w hS hn
 obtain ⟨eo, et, en, hkl⟩ := hn.texts
 dsimp only at eo et en
 subst en
 have hg : isColB t = (op.toList == [99, 111, 108] && t.ks.length == 0) := by
  unfold isColB isE
  rw [eo, ByteArray.toList_eq]
  rfl
 rw [hg]
 clear hg eo et hn hS
 obtain ⟨p, hp⟩ : ∃ p, (op.toList == [99, 111, 108]) = p := ⟨_, rfl⟩
 obtain ⟨q, hq⟩ : ∃ q, (t.ks.length == 0) = q := ⟨_, rfl⟩
 have hq2 : ((t.ks.length : Int) == 0) = q := by
  rw [← hq, Bool.eq_iff_iff]
  simp <;> omega
 rw [hp, hq]
 have HB := hid (fun (o : Obj) => below_alloc w o)
 cases p
 ·go_enter Tryz.func131, Tryz.ntmps131
  go_wp2
  go_ret
  exact ⟨retB (by simp [*]), HB.out _⟩
 ·go_enter Tryz.func131, Tryz.ntmps131
  go_wp2
  go_ret
  exact ⟨retB (by simp [*]), HB.out _⟩
theorem pisItem : TellsN 105 isItemB := by
 intro t S op tx X n k w hS hn
 obtain ⟨eo, et, en, hkl⟩ := hn.texts
 dsimp only at eo et en
 subst en
 have hg : isItemB t = (op.toList == [105, 116, 101, 109] && t.ks.length == 1) := by
  unfold isItemB isE
  rw [eo, ByteArray.toList_eq]
  rfl
 rw [hg]
 clear hg eo et hn hS
 obtain ⟨p, hp⟩ : ∃ p, (op.toList == [105, 116, 101, 109]) = p := ⟨_, rfl⟩
 obtain ⟨q, hq⟩ : ∃ q, (t.ks.length == 1) = q := ⟨_, rfl⟩
 have hq2 : ((t.ks.length : Int) == 1) = q := by
  rw [← hq, Bool.eq_iff_iff]
  simp <;> omega
 rw [hp, hq]
 have HB := hid (fun (o : Obj) => below_alloc w o)
 cases p
 ·go_enter Tryz.func105, Tryz.ntmps105
  go_wp2
  go_ret
  exact ⟨retB (by simp [*]), HB.out _⟩
 ·go_enter Tryz.func105, Tryz.ntmps105
  go_wp2
  go_ret
  exact ⟨retB (by simp [*]), HB.out _⟩
theorem pisCall : TellsN 132 isCallB := by
 intro t S op tx X n k w hS hn
 obtain ⟨eo, et, en, hkl⟩ := hn.texts
 dsimp only at eo et en
 subst en
 have HB := hid (fun (o : Obj) => below_alloc w o)
 have eo' : t.op = op.data.toList := by rw [eo]
 have et' : t.tx = tx.data.toList := by rw [et]
 have hg : isCallB t = (t.ks.length == 0 && (op.data.toList == sSum || op.data.toList == sMin || op.data.toList == sMax || (op.data.toList == sCount && tx.data.toList == []))) := by
  unfold isCallB
  rw [eo', et']
 rw [hg]
 clear hg eo et eo' et' hn hS
 obtain ⟨q, hq⟩ : ∃ q, (t.ks.length == 0) = q := ⟨_, rfl⟩
 have hq2 : ((t.ks.length : Int) == 0) = q := by
  rw [← hq, Bool.eq_iff_iff]
  simp
 rw [hq]
 by_cases h0 : op.data.toList = sCount
 ·obtain rfl : op = ⟨#[99, 111, 117, 110, 116]⟩ := by rw [← Lib.mk_data op, h0]; rfl
  rw [h0, show (sCount == sSum) = false by decide, show (sCount == sMin) = false by decide, show (sCount == sMax) = false by decide, show (sCount == sCount) = true by decide, Bool.false_or, Bool.false_or, Bool.false_or, Bool.true_and]
  have ht : (tx.data.toList == []) = (tx.toList == []) := by rw [ByteArray.toList_eq]
  obtain ⟨p, hp⟩ : ∃ p, (tx.toList == []) = p := ⟨_, rfl⟩
  rw [ht, hp]
  clear h0 ht
  cases q
  ·rw [Bool.false_and]
   go_enter Tryz.func132, Tryz.ntmps132
   go_wp2
   go_ret
   exact ⟨retB (by simp [*]), HB.out _⟩
  ·rw [Bool.true_and]
   go_enter Tryz.func132, Tryz.ntmps132
   go_wp2
   go_ret
   exact ⟨retB (by simp [*]), HB.out _⟩
 by_cases h1 : op.data.toList = sSum
 ·obtain rfl : op = ⟨#[115, 117, 109]⟩ := by rw [← Lib.mk_data op, h1]; rfl
  rw [h1, show (q && (sSum == sSum || sSum == sMin || sSum == sMax || (sSum == sCount && tx.data.toList == []))) = q by rw [show (sSum == sSum) = true by decide]; simp]
  clear h1 h0
  go_enter Tryz.func132, Tryz.ntmps132
  go_wp2
  go_ret
  exact ⟨retB (by simp [*]), HB.out _⟩
 by_cases h2 : op.data.toList = sMin
 ·obtain rfl : op = ⟨#[109, 105, 110]⟩ := by rw [← Lib.mk_data op, h2]; rfl
  rw [h2, show (q && (sMin == sSum || sMin == sMin || sMin == sMax || (sMin == sCount && tx.data.toList == []))) = q by rw [show (sMin == sMin) = true by decide]; simp]
  clear h2 h0 h1
  go_enter Tryz.func132, Tryz.ntmps132
  go_wp2
  go_ret
  exact ⟨retB (by simp [*]), HB.out _⟩
 by_cases h3 : op.data.toList = sMax
 ·obtain rfl : op = ⟨#[109, 97, 120]⟩ := by rw [← Lib.mk_data op, h3]; rfl
  rw [h3, show (q && (sMax == sSum || sMax == sMin || sMax == sMax || (sMax == sCount && tx.data.toList == []))) = q by rw [show (sMax == sMax) = true by decide]; simp]
  clear h3 h0 h1 h2
  go_enter Tryz.func132, Tryz.ntmps132
  go_wp2
  go_ret
  exact ⟨retB (by simp [*]), HB.out _⟩
 have f0 := lit_ne h0
 have f1 := lit_ne h1
 have f2 := lit_ne h2
 have f3 := lit_ne h3
 have hf : (q && (op.data.toList == sSum || op.data.toList == sMin || op.data.toList == sMax || (op.data.toList == sCount && tx.data.toList == []))) = false := by simp [h0, h1, h2, h3]
 rw [hf]
 unfold sCount at f0
 unfold sSum at f1
 unfold sMin at f2
 unfold sMax at f3
 clear hf h0 h1 h2 h3
 go_enter Tryz.func132, Tryz.ntmps132
 go_wp2
 go_ret
 exact ⟨rfl, HB.out _⟩
theorem pisOn : TellsN 106 isOnB := by
 intro t S op tx X n k w hS hn
 obtain ⟨eo, et, en, hkl⟩ := hn.texts
 dsimp only at eo et en
 subst en
 have hg : isOnB t = ((op.toList == [111, 110] && t.ks.length == 1) && isColB (nthN t.ks 0)) := by
  unfold isOnB isE
  rw [eo, ByteArray.toList_eq]
  rfl
 rw [hg]
 have HN := hid hn
 have HS := hid hS
 clear hg eo et hn hS
 obtain ⟨p, hp⟩ : ∃ p, (op.toList == [111, 110]) = p := ⟨_, rfl⟩
 rw [hp]
 obtain ⟨w1, hw1⟩ : ∃ w1, w.alloc (.cells #[.string op, .string tx, .slice X t.ks.length k] 25) = w1 := ⟨_, rfl⟩
 have B1 := hid (show Below w.heap.size w w1 by rw [← hw1]; exact below_alloc w _)
 have V1 := hid (show NBox w1 w.heap.size (.string op) (.string tx) (.slice X t.ks.length k) by rw [← hw1]; exact NBox.fresh _ _ _ _ _)
 have z1 : w.heap.size ≤ w1.heap.size := by rw [← hw1]; simp
 have HW1 := hid hw1
 clear hw1
 cases p
 ·rw [Bool.false_and, Bool.false_and]
  go_enter Tryz.func106, Tryz.ntmps106
  go_upto_region 1 with fail
  rw [HW1.out]
  obtain ⟨x0, x1, x2, xf⟩ := V1.out
  go_wp2
  go_ret
  exact ⟨rfl, B1.out⟩
 ·by_cases hl : t.ks.length = 1
  ·have HL := hid hl
   obtain ⟨N, hN⟩ : ∃ N, t.ks.length = N := ⟨_, rfl⟩
   have hk1 : (t.ks.length == 1) = true := by simpa using hl
   obtain ⟨ad, ⟨op', tx', X', n', m'⟩, eA, hS', q0, q1, q2, hk'⟩ := (HN.out.bel HS.out B1.out).kid 0 (by omega)
   dsimp only at eA q0 q1 q2
   rw [Nat.zero_mul, show ad.add 0 = ad by simp [Addr.add]] at q0 q1 q2
   subst eA
   have hz : nthN t.ks 0 = t.ks[0]'(by omega) := by unfold nthN; rw [List.getD_eq_getElem?_getD, List.getElem?_eq_getElem]; rfl
   obtain ⟨b, hb⟩ : ∃ b, isColB (t.ks[0]'(by omega)) = b := ⟨_, rfl⟩
   have HC := hid (pisColumn (t.ks[0]'(by omega)) S op' tx' X' n' m' w1 (fun g hg => Nat.lt_of_lt_of_le (HS.out g hg) z1) hk')
   rw [hb] at HC
   rw [hz, hk1, hb, Bool.and_self, Bool.true_and]
   clear hb hk1 hz hk' hN
   rw [hl] at V1 HW1
   go_enter Tryz.func106, Tryz.ntmps106
   go_upto_region 1 with fail
   try rw [HL.out]
   rw [HW1.out]
   obtain ⟨x0, x1, x2, xf⟩ := V1.out
   go_wp2_with fail
   refine HC.out.mono ?_
   rintro e w2 ⟨rfl, hb2⟩
   have B2 := hid (B1.out.trans (hb2.mono z1))
   clear hb2
   go_wp2
   go_ret
   exact ⟨rfl, B2.out⟩
  ·have hk1 : (t.ks.length == 1) = false := by simpa using hl
   have hk2 : ((t.ks.length : Int) == 1) = false := by simp; omega
   rw [hk1, Bool.and_false, Bool.false_and]
   go_enter Tryz.func106, Tryz.ntmps106
   go_upto_region 1 with fail
   rw [HW1.out]
   obtain ⟨x0, x1, x2, xf⟩ := V1.out
   go_wp2
   go_ret
   exact ⟨rfl, B1.out⟩
theorem pisAgg : TellsN 108 isAggB := by
 intro t S op tx X n k w hS hn
 obtain ⟨eo, et, en, hkl⟩ := hn.texts
 dsimp only at eo et en
 subst en
 have hg : isAggB t = ((op.toList == [97, 103, 103] && t.ks.length == 1) && isCallB (nthN t.ks 0)) := by
  unfold isAggB isE
  rw [eo, ByteArray.toList_eq]
  rfl
 rw [hg]
 have HN := hid hn
 have HS := hid hS
 clear hg eo et hn hS
 obtain ⟨p, hp⟩ : ∃ p, (op.toList == [97, 103, 103]) = p := ⟨_, rfl⟩
 rw [hp]
 obtain ⟨w1, hw1⟩ : ∃ w1, w.alloc (.cells #[.string op, .string tx, .slice X t.ks.length k] 25) = w1 := ⟨_, rfl⟩
 have B1 := hid (show Below w.heap.size w w1 by rw [← hw1]; exact below_alloc w _)
 have V1 := hid (show NBox w1 w.heap.size (.string op) (.string tx) (.slice X t.ks.length k) by rw [← hw1]; exact NBox.fresh _ _ _ _ _)
 have z1 : w.heap.size ≤ w1.heap.size := by rw [← hw1]; simp
 have HW1 := hid hw1
 clear hw1
 cases p
 ·rw [Bool.false_and, Bool.false_and]
  go_enter Tryz.func108, Tryz.ntmps108
  go_upto_region 1 with fail
  rw [HW1.out]
  obtain ⟨x0, x1, x2, xf⟩ := V1.out
  go_wp2
  go_ret
  exact ⟨rfl, B1.out⟩
 ·by_cases hl : t.ks.length = 1
  ·have HL := hid hl
   obtain ⟨N, hN⟩ : ∃ N, t.ks.length = N := ⟨_, rfl⟩
   have hk1 : (t.ks.length == 1) = true := by simpa using hl
   obtain ⟨ad, ⟨op', tx', X', n', m'⟩, eA, hS', q0, q1, q2, hk'⟩ := (HN.out.bel HS.out B1.out).kid 0 (by omega)
   dsimp only at eA q0 q1 q2
   rw [Nat.zero_mul, show ad.add 0 = ad by simp [Addr.add]] at q0 q1 q2
   subst eA
   have hz : nthN t.ks 0 = t.ks[0]'(by omega) := by unfold nthN; rw [List.getD_eq_getElem?_getD, List.getElem?_eq_getElem]; rfl
   obtain ⟨b, hb⟩ : ∃ b, isCallB (t.ks[0]'(by omega)) = b := ⟨_, rfl⟩
   have HC := hid (pisCall (t.ks[0]'(by omega)) S op' tx' X' n' m' w1 (fun g hg => Nat.lt_of_lt_of_le (HS.out g hg) z1) hk')
   rw [hb] at HC
   rw [hz, hk1, hb, Bool.and_self, Bool.true_and]
   clear hb hk1 hz hk' hN
   rw [hl] at V1 HW1
   go_enter Tryz.func108, Tryz.ntmps108
   go_upto_region 1 with fail
   try rw [HL.out]
   rw [HW1.out]
   obtain ⟨x0, x1, x2, xf⟩ := V1.out
   go_wp2_with fail
   refine HC.out.mono ?_
   rintro e w2 ⟨rfl, hb2⟩
   have B2 := hid (B1.out.trans (hb2.mono z1))
   clear hb2
   go_wp2
   go_ret
   exact ⟨rfl, B2.out⟩
  ·have hk1 : (t.ks.length == 1) = false := by simpa using hl
   have hk2 : ((t.ks.length : Int) == 1) = false := by simp; omega
   rw [hk1, Bool.and_false, Bool.false_and]
   go_enter Tryz.func108, Tryz.ntmps108
   go_upto_region 1 with fail
   rw [HW1.out]
   obtain ⟨x0, x1, x2, xf⟩ := V1.out
   go_wp2
   go_ret
   exact ⟨rfl, B1.out⟩
def KAt (w : World) (S : Nat → Prop) (A : Option Addr) (ks : List Nod) : Prop := ∀ (k : Nat) (hk : k < ks.length), ∃ (ad : Addr) (y : NV), A = some ad ∧ S ad.block ∧ w.cell? (ad.add (k * 3)) = some (.string y.1) ∧ w.cell? ⟨(ad.add (k * 3)).block, (ad.add (k * 3)).off + 1, none⟩ = some (.string y.2.1) ∧ w.cell? ⟨(ad.add (k * 3)).block, (ad.add (k * 3)).off + 2, none⟩ = some (.slice y.2.2.1 y.2.2.2.1 y.2.2.2.2) ∧ RIn w S ks[k] y
theorem RIn.kat {w : World} {S : Nat → Prop} {t : Nod} {x : NV} (h : RIn w S t x) : KAt w S x.2.2.1 t.ks := fun k hk => h.kid k hk
theorem KAt.bel {w w' : World} {S : Nat → Prop} {A : Option Addr} {ks : List Nod} (h : KAt w S A ks) (hS : ∀ g, S g → g < w.heap.size) (hb : Below w.heap.size w w') : KAt w' S A ks := by
 intro k hk
 obtain ⟨ad, y, e, hs, c0, c1, c2, hr⟩ := h k hk
 have hl : (ad.add (k * 3)).block < w.heap.size := by rw [add_block]; exact hS _ hs
 exact ⟨ad, y, e, hs, (hb.cell hl).trans c0, (hb.cell (p := ⟨(ad.add (k * 3)).block, (ad.add (k * 3)).off + 1, none⟩) hl).trans c1, (hb.cell (p := ⟨(ad.add (k * 3)).block, (ad.add (k * 3)).off + 2, none⟩) hl).trans c2, hr.bel hS hb⟩
theorem addr_add (a : Addr) (m n : Nat) : (a.add m).add n = a.add (m + n) := by
 by_cases hn : n = 0
 ·subst hn
  simp [Addr.add]
 ·by_cases hm : m = 0
  ·subst hm
   simp [Addr.add]
  ·simp [Addr.add, hn, hm, Nat.add_assoc]
theorem KAt.drop {w : World} {S : Nat → Prop} {ad : Addr} {ks : List Nod} (h : KAt w S (some ad) ks) (c : Nat) : KAt w S (some (ad.add (c * 3))) (ks.drop c) := by
 intro k hk
 obtain ⟨ad', y, e, hs, c0, c1, c2, hr⟩ := h (c + k) (by rw [List.length_drop] at hk; omega)
 injection e with e
 subst e
 refine ⟨_, y, rfl, by rw [add_block]; exact hs, ?_, ?_, ?_, by rw [List.getElem_drop]; exact hr⟩
 ·rw [addr_add, show c * 3 + k * 3 = (c + k) * 3 by omega]; exact c0
 ·rw [addr_add, show c * 3 + k * 3 = (c + k) * 3 by omega]; exact c1
 ·rw [addr_add, show c * 3 + k * 3 = (c + k) * 3 by omega]; exact c2
theorem pall_any (fn : Nat) (en : ∀ args w, (callFunc fn args).run Tryz.prog w = .ok (.enter fn args) w) (good : Nod → Bool) (hf : TellsN fn good) (ks : List Nod) (hl : ks.length ≤ 1000000000) (A : Option Addr) (cap : Nat) (S : Nat → Prop) (w : World) (hS : ∀ g, S g → g < w.heap.size) (h : KAt w S A ks) :
  Calls Tryz.prog 104 #[.slice A ks.length cap, .func (.func fn) #[] #[]] w fun e w' => e = .returned (.bool (ks.all good)) ∧ Below w.heap.size w w' := by
 have HK := hid h
 have HS := hid hS
 have HF := hid hf
 obtain ⟨res, hres⟩ : ∃ res, ks.all good = res := ⟨_, rfl⟩
 rw [hres]
 have HR := hid hres
 clear h hS hf hres
 go_enter Tryz.func104, Tryz.ntmps104
 go_wp2
 go_loopw [9] (fun t' wr => ∃ k : Nat, k ≤ ks.length ∧ t' = .int .i64 k ∧ Hid ((ks.take k).all good = true) ∧ Below w.heap.size w wr) (fun t' _ => ks.length - (intOf t').toNat)
 case atStart => exact ⟨0, by omega, rfl, hid (by simp), Below.refl _ _⟩
 case round =>
  obtain ⟨k, hk, rfl, HG, hb⟩ := hrel
  have HB := hid hb
  have hz := hb.size
  have HK' := hid (HK.out.bel HS.out hb)
  clear hb
  by_cases hlt : k < ks.length
  ·obtain ⟨ad, ⟨op', tx', X', n', m'⟩, eA, hS', q0, q1, q2, hk'⟩ := HK'.out k hlt
   dsimp only at eA q0 q1 q2
   subst eA
   have had := HS.out _ hS'
   obtain ⟨w6, hw6⟩ : ∃ w6, wr.alloc (.cells #[.string op', .string tx', .slice X' n' m'] 25) = w6 := ⟨_, rfl⟩
   have z6 : w.heap.size ≤ w6.heap.size := by rw [← hw6]; simp; omega
   have B6 := hid (show Below w.heap.size w w6 by rw [← hw6]; exact HB.out.alloc hz _)
   have V6 := hid (show NBox w6 wr.heap.size (.string op') (.string tx') (.slice X' n' m') by rw [← hw6]; exact NBox.fresh _ _ _ _ _)
   obtain ⟨b, hb⟩ : ∃ b, good ks[k] = b := ⟨_, rfl⟩
   have HC := hid (HF.out ks[k] S op' tx' X' n' m' w6 (fun g hg => Nat.lt_of_lt_of_le (HS.out g hg) z6) (hk'.bel (fun g hg => Nat.lt_of_lt_of_le (HS.out g hg) hz) (by rw [← hw6]; exact below_alloc wr _)))
   rw [hb] at HC
   have HGD := hid hb
   have HTK := hid (List.take_succ_eq_append_getElem hlt)
   have HW6 := hid hw6
   have HLT := hid hlt
   clear hk' hb hw6
   go_upto_region 4 with fail
   rw [HW6.out]
   clear q0 q1 q2
   obtain ⟨v0, v1, v2, vf⟩ := V6.out
   go_wp2_with fail
   refine HC.out.mono ?_
   rintro e w7 ⟨rfl, hb7⟩
   have B7 := hid (B6.out.trans (hb7.mono z6))
   clear hb7 v0 v1 v2 vf
   cases b with
   | false =>
    have hr9 : res = false := by
     rw [← HR.out]
     simp only [List.all_eq_false]
     exact ⟨_, List.getElem_mem HLT.out, by rw [HGD.out]; simp⟩
    subst hr9
    go_wp2
    go_ret
    exact ⟨rfl, B7.out⟩
   | true =>
    go_wp2
    go_roundw
    case rel => exact ⟨k + 1, by omega, by go_num, hid (by rw [HTK.out, List.all_append, HG.out]; simp [HGD.out]), B7.out⟩
    case measure => simp [intOf]; omega
  ·obtain rfl : k = ks.length := by omega
   have hr9 : res = true := by rw [← HR.out]; have h9 := HG.out; rw [List.take_length] at h9; exact h9
   subst hr9
   go_wp2
   go_ret
   exact ⟨rfl, HB.out⟩
theorem pisBy : TellsN 107 isByB := by
 intro t S op tx X n k w hS hn
 obtain ⟨eo, et, en, hkl⟩ := hn.texts
 dsimp only at eo et en
 subst en
 have hg : isByB t = ((op.toList == [98, 121] && tx.toList == []) && t.ks.all isColB) := by
  unfold isByB
  rw [eo, et, ByteArray.toList_eq, ByteArray.toList_eq]
  rfl
 rw [hg]
 have HN := hid hn
 have HS := hid hS
 clear hg eo et hn hS
 obtain ⟨p, hp⟩ : ∃ p, (op.toList == [98, 121]) = p := ⟨_, rfl⟩
 obtain ⟨q, hq⟩ : ∃ q, (tx.toList == []) = q := ⟨_, rfl⟩
 rw [hp, hq]
 obtain ⟨w1, hw1⟩ : ∃ w1, w.alloc (.cells #[.string op, .string tx, .slice X t.ks.length k] 25) = w1 := ⟨_, rfl⟩
 have B1 := hid (show Below w.heap.size w w1 by rw [← hw1]; exact below_alloc w _)
 have V1 := hid (show NBox w1 w.heap.size (.string op) (.string tx) (.slice X t.ks.length k) by rw [← hw1]; exact NBox.fresh _ _ _ _ _)
 have z1 : w.heap.size ≤ w1.heap.size := by rw [← hw1]; simp
 obtain ⟨b, hb⟩ : ∃ b, t.ks.all isColB = b := ⟨_, rfl⟩
 have HC := hid (pall_any 131 (enters_of Tryz.func131 (by kernel_rfl) rfl) isColB pisColumn t.ks hkl X k S w1 (fun g hg => Nat.lt_of_lt_of_le (HS.out g hg) z1) (HN.out.bel HS.out B1.out).kat)
 rw [hb] at HC
 rw [hb]
 have HW1 := hid hw1
 clear hw1 hb
 cases p
 ·rw [Bool.false_and, Bool.false_and]
  go_enter Tryz.func107, Tryz.ntmps107
  go_upto_region 1 with fail
  rw [HW1.out]
  obtain ⟨x0, x1, x2, xf⟩ := V1.out
  go_wp2
  go_ret
  exact ⟨rfl, B1.out⟩
 ·cases q
  ·rw [Bool.and_false, Bool.false_and]
   go_enter Tryz.func107, Tryz.ntmps107
   go_upto_region 1 with fail
   rw [HW1.out]
   obtain ⟨x0, x1, x2, xf⟩ := V1.out
   go_wp2
   go_ret
   exact ⟨rfl, B1.out⟩
  ·rw [Bool.and_self, Bool.true_and]
   go_enter Tryz.func107, Tryz.ntmps107
   go_upto_region 1 with fail
   rw [HW1.out]
   obtain ⟨x0, x1, x2, xf⟩ := V1.out
   go_wp2_with fail
   refine HC.out.mono ?_
   rintro e w2 ⟨rfl, hb2⟩
   have B2 := hid (B1.out.trans (hb2.mono z1))
   clear hb2
   go_wp2
   go_ret
   exact ⟨rfl, B2.out⟩
theorem run_cut (ad : Addr) (n k c : Nat) (h : c < n) (hk : n ≤ k) (w : World) :
  (Instr.slice 23 (.slice (some ad) n k) (some (.int .i64 (c : Nat))) none none).run Tryz.prog w = .ok (.slice (some (ad.add (c * 3))) (n - c) (k - c)) w := by
 have hu : Tryz.prog.underlying 23 = some (.slice (Tryz.prog.elem 23)) := by kernel_rfl
 have hz : ∀ w, (sizeOf (Tryz.prog.elem 23)).run Tryz.prog w = .ok 3 w := fun w => by kernel_rfl
 rw [run_slice_l w 23 _ _ _ hu .i64 c (by omega) (by omega), hz]
 simp only [Result.andThen, sliced, Int.toNat_natCast]
 rw [if_neg (by omega)]
 rfl
theorem pinner_any (t : Nod) (S : Nat → Prop) (op tx : ByteArray) (X : Option Addr) (n k : Nat) (w : World) (hn : RIn w S t (op, tx, X, n, k)) :
  Calls Tryz.prog 110 #[.agg #[.string op, .string tx, .slice X n k]] w fun e w' => e = .returned (.int .i64 (innerQ t)) ∧ Below w.heap.size w w' := by
 obtain ⟨eo, et, en, hkl⟩ := hn.texts
 dsimp only at eo et en
 subst en
 have HB := hid (fun (o : Obj) => below_alloc w o)
 have eo' : t.op = op.data.toList := by rw [eo]
 unfold innerQ
 rw [eo']
 clear eo eo' et hn
 by_cases h0 : op.data.toList = sUnion
 ·obtain rfl : op = ⟨#[117, 110, 105, 111, 110]⟩ := by rw [← Lib.mk_data op, h0]; rfl
  rw [h0, if_pos rfl]
  clear h0
  go_enter Tryz.func110, Tryz.ntmps110
  go_wp2
  go_ret
  exact ⟨rfl, HB.out _⟩
 by_cases h1 : op.data.toList = sJoin
 ·obtain rfl : op = ⟨#[106, 111, 105, 110]⟩ := by rw [← Lib.mk_data op, h1]; rfl
  rw [h1, if_neg (show sJoin ≠ sUnion by decide), if_pos rfl]
  clear h1 h0
  go_enter Tryz.func110, Tryz.ntmps110
  go_wp2
  go_ret
  exact ⟨rfl, HB.out _⟩
 rw [if_neg h0, if_neg h1]
 have f0 := lit_ne h0
 have f1 := lit_ne h1
 unfold sUnion at f0
 unfold sJoin at f1
 clear h0 h1
 go_enter Tryz.func110, Tryz.ntmps110
 go_wp2
 go_ret
 exact ⟨rfl, HB.out _⟩
theorem pright_any : TellsN 65 rightQ := by
 intro t S op tx X n k w hS hn
 obtain ⟨eo, et, en, hkl⟩ := hn.texts
 dsimp only at eo et en
 subst en
 have eo' : t.op = op.data.toList := by rw [eo]
 have et' : t.tx = tx.data.toList := by rw [et]
 have hcap := hn.cap
 dsimp only at hcap
 have HN := hid hn
 have HS := hid hS
 unfold rightQ
 rw [eo', et']
 clear eo eo' et et' hn hS
 obtain ⟨w1, hw1⟩ : ∃ w1, w.alloc (.cells #[.string op, .string tx, .slice X t.ks.length k] 25) = w1 := ⟨_, rfl⟩
 have B1 := hid (show Below w.heap.size w w1 by rw [← hw1]; exact below_alloc w _)
 have V1 := hid (show NBox w1 w.heap.size (.string op) (.string tx) (.slice X t.ks.length k) by rw [← hw1]; exact NBox.fresh _ _ _ _ _)
 have z1 : w.heap.size ≤ w1.heap.size := by rw [← hw1]; simp
 have HW1 := hid hw1
 clear hw1
 by_cases h0 : op.data.toList = sFrom
 ·obtain rfl : op = ⟨#[102, 114, 111, 109]⟩ := by rw [← Lib.mk_data op, h0]; rfl
  rw [h0, if_neg (fun h => h.2 rfl), if_pos rfl]
  obtain ⟨p, hp⟩ : ∃ p, (tx.toList == []) = p := ⟨_, rfl⟩
  clear h0
  obtain ⟨v, hv⟩ : ∃ v, (t.ks.length == 0) = v := ⟨_, rfl⟩
  have hv2 : ((t.ks.length : Int) == 0) = v := by
   rw [← hv, Bool.eq_iff_iff]
   simp <;> omega
  rw [hv]
  cases p
  ·go_enter Tryz.func65, Tryz.ntmps65
   go_upto_region 1 with fail
   try rw [HW1.out]
   obtain ⟨x0, x1, x2, xf⟩ := V1.out
   go_wp2
   go_ret
   exact ⟨retB (by simp [*]), B1.out⟩
  ·go_enter Tryz.func65, Tryz.ntmps65
   go_upto_region 1 with fail
   try rw [HW1.out]
   obtain ⟨x0, x1, x2, xf⟩ := V1.out
   go_wp2
   go_ret
   exact ⟨retB (by simp [*]), B1.out⟩
 have f0 := lit_ne h0
 unfold sFrom at f0
 by_cases ht : ¬ tx.data.toList = []
 ·rw [if_pos ⟨ht, h0⟩]
  have hp : (tx.toList == []) = false := lit_ne ht
  clear ht h0
  go_enter Tryz.func65, Tryz.ntmps65
  go_upto_region 1 with fail
  try rw [HW1.out]
  obtain ⟨x0, x1, x2, xf⟩ := V1.out
  go_wp2
  go_ret
  exact ⟨rfl, B1.out⟩
 have ht := Decidable.of_not_not ht
 have hp : (tx.toList == []) = true := by rw [ByteArray.toList_eq, ht]; rfl
 rw [if_neg (fun h => h.1 ht), if_neg h0]
 clear ht
 by_cases h1 : op.data.toList = sFilter
 ·obtain rfl : op = ⟨#[102, 105, 108, 116, 101, 114]⟩ := by rw [← Lib.mk_data op, h1]; rfl
  rw [h1, if_pos rfl]
  clear h0 h1
  obtain ⟨v, hv⟩ : ∃ v, (t.ks.length == 2) = v := ⟨_, rfl⟩
  have hv2 : ((t.ks.length : Int) == 2) = v := by
   rw [← hv, Bool.eq_iff_iff]
   simp <;> omega
  rw [hv]
  go_enter Tryz.func65, Tryz.ntmps65
  go_upto_region 1 with fail
  try rw [HW1.out]
  obtain ⟨x0, x1, x2, xf⟩ := V1.out
  go_wp2
  go_ret
  exact ⟨retB (by simp [*]), B1.out⟩
 by_cases h2 : op.data.toList = sProject
 ·obtain rfl : op = ⟨#[112, 114, 111, 106, 101, 99, 116]⟩ := by rw [← Lib.mk_data op, h2]; rfl
  rw [h2, if_neg (show sProject ≠ sFilter by decide), if_pos rfl]
  clear h0 h2 h1
  by_cases hl : 2 ≤ t.ks.length
  ·have hl1 : decide (2 ≤ t.ks.length) = true := by simpa using hl
   have hl2 : decide ((2 : Int) ≤ (t.ks.length : Int)) = true := by simp; omega
   obtain ⟨ad, ⟨op', tx', X', n', m'⟩, eA, hS', q0, q1, q2, hk'⟩ := (HN.out.bel HS.out B1.out).kid 1 (by omega)
   dsimp only at eA q0 q1 q2
   subst eA
   have HSL : ∀ w, (Instr.slice 23 (.slice (some ad) t.ks.length k) (some (.int .i64 1)) none none).run Tryz.prog w = .ok (.slice (some (ad.add 3)) (t.ks.length - 1) (k - 1)) w := fun w => run_cut ad t.ks.length k 1 (by omega) hcap w
   have HC := hid (fun (w2 : World) (hb : Below w.heap.size w w2) => pall_any 105 (enters_of Tryz.func105 (by kernel_rfl) rfl) isItemB pisItem (t.ks.drop 1) (by rw [List.length_drop]; omega) (some (ad.add (1 * 3))) (k - 1) S w2 (fun g hg => Nat.lt_of_lt_of_le (HS.out g hg) hb.size) ((HN.out.bel HS.out hb).kat.drop 1))
   rw [List.length_drop] at HC
   obtain ⟨b, hb⟩ : ∃ b, (t.ks.drop 1).all isItemB = b := ⟨_, rfl⟩
   rw [hb] at HC
   rw [hl1, hb, Bool.true_and]
   clear hb hl1
   go_enter Tryz.func65, Tryz.ntmps65
   go_upto_region 1 with fail
   try rw [HW1.out]
   obtain ⟨x0, x1, x2, xf⟩ := V1.out
   go_wp2_with fail
   refine (HC.out w1 B1.out).mono ?_
   rintro e w2 ⟨rfl, hb2⟩
   have B2 := hid (B1.out.trans (hb2.mono z1))
   clear hb2
   go_wp2
   go_ret
   exact ⟨rfl, B2.out⟩
  ·have hl1 : decide (2 ≤ t.ks.length) = false := by simpa using hl
   have hl2 : decide ((2 : Int) ≤ (t.ks.length : Int)) = false := by simp; omega
   rw [hl1]
   rw [Bool.false_and]
   go_enter Tryz.func65, Tryz.ntmps65
   go_upto_region 1 with fail
   try rw [HW1.out]
   obtain ⟨x0, x1, x2, xf⟩ := V1.out
   go_wp2
   go_ret
   exact ⟨rfl, B1.out⟩
 by_cases h3 : op.data.toList = sJoin
 ·obtain rfl : op = ⟨#[106, 111, 105, 110]⟩ := by rw [← Lib.mk_data op, h3]; rfl
  rw [h3, if_neg (show sJoin ≠ sFilter by decide), if_neg (show sJoin ≠ sProject by decide), if_pos rfl]
  clear h0 h3 h1 h2
  by_cases hl : 3 ≤ t.ks.length
  ·have hl1 : decide (3 ≤ t.ks.length) = true := by simpa using hl
   have hl2 : decide ((3 : Int) ≤ (t.ks.length : Int)) = true := by simp; omega
   obtain ⟨ad, ⟨op', tx', X', n', m'⟩, eA, hS', q0, q1, q2, hk'⟩ := (HN.out.bel HS.out B1.out).kid 1 (by omega)
   dsimp only at eA q0 q1 q2
   subst eA
   have HSL : ∀ w, (Instr.slice 23 (.slice (some ad) t.ks.length k) (some (.int .i64 2)) none none).run Tryz.prog w = .ok (.slice (some (ad.add 6)) (t.ks.length - 2) (k - 2)) w := fun w => run_cut ad t.ks.length k 2 (by omega) hcap w
   have HC := hid (fun (w2 : World) (hb : Below w.heap.size w w2) => pall_any 106 (enters_of Tryz.func106 (by kernel_rfl) rfl) isOnB pisOn (t.ks.drop 2) (by rw [List.length_drop]; omega) (some (ad.add (2 * 3))) (k - 2) S w2 (fun g hg => Nat.lt_of_lt_of_le (HS.out g hg) hb.size) ((HN.out.bel HS.out hb).kat.drop 2))
   rw [List.length_drop] at HC
   obtain ⟨b, hb⟩ : ∃ b, (t.ks.drop 2).all isOnB = b := ⟨_, rfl⟩
   rw [hb] at HC
   rw [hl1, hb, Bool.true_and]
   clear hb hl1
   go_enter Tryz.func65, Tryz.ntmps65
   go_upto_region 1 with fail
   try rw [HW1.out]
   obtain ⟨x0, x1, x2, xf⟩ := V1.out
   go_wp2_with fail
   refine (HC.out w1 B1.out).mono ?_
   rintro e w2 ⟨rfl, hb2⟩
   have B2 := hid (B1.out.trans (hb2.mono z1))
   clear hb2
   go_wp2
   go_ret
   exact ⟨rfl, B2.out⟩
  ·have hl1 : decide (3 ≤ t.ks.length) = false := by simpa using hl
   have hl2 : decide ((3 : Int) ≤ (t.ks.length : Int)) = false := by simp; omega
   rw [hl1]
   rw [Bool.false_and]
   go_enter Tryz.func65, Tryz.ntmps65
   go_upto_region 1 with fail
   try rw [HW1.out]
   obtain ⟨x0, x1, x2, xf⟩ := V1.out
   go_wp2
   go_ret
   exact ⟨rfl, B1.out⟩
 by_cases h4 : op.data.toList = sUnion
 ·obtain rfl : op = ⟨#[117, 110, 105, 111, 110]⟩ := by rw [← Lib.mk_data op, h4]; rfl
  rw [h4, if_neg (show sUnion ≠ sFilter by decide), if_neg (show sUnion ≠ sProject by decide), if_neg (show sUnion ≠ sJoin by decide), if_pos rfl]
  clear h0 h4 h1 h2 h3
  obtain ⟨v, hv⟩ : ∃ v, decide (2 ≤ t.ks.length) = v := ⟨_, rfl⟩
  have hv2 : decide ((2 : Int) ≤ (t.ks.length : Int)) = v := by
   rw [← hv, Bool.eq_iff_iff]
   simp <;> omega
  rw [hv]
  go_enter Tryz.func65, Tryz.ntmps65
  go_upto_region 1 with fail
  try rw [HW1.out]
  obtain ⟨x0, x1, x2, xf⟩ := V1.out
  go_wp2
  go_ret
  exact ⟨retB (by simp [*]), B1.out⟩
 by_cases h5 : op.data.toList = sDistinct
 ·obtain rfl : op = ⟨#[100, 105, 115, 116, 105, 110, 99, 116]⟩ := by rw [← Lib.mk_data op, h5]; rfl
  rw [h5, if_neg (show sDistinct ≠ sFilter by decide), if_neg (show sDistinct ≠ sProject by decide), if_neg (show sDistinct ≠ sJoin by decide), if_neg (show sDistinct ≠ sUnion by decide), if_pos rfl]
  clear h0 h5 h1 h2 h3 h4
  obtain ⟨v, hv⟩ : ∃ v, (t.ks.length == 1) = v := ⟨_, rfl⟩
  have hv2 : ((t.ks.length : Int) == 1) = v := by
   rw [← hv, Bool.eq_iff_iff]
   simp <;> omega
  rw [hv]
  go_enter Tryz.func65, Tryz.ntmps65
  go_upto_region 1 with fail
  try rw [HW1.out]
  obtain ⟨x0, x1, x2, xf⟩ := V1.out
  go_wp2
  go_ret
  exact ⟨retB (by simp [*]), B1.out⟩
 by_cases h6 : op.data.toList = sGroup
 ·obtain rfl : op = ⟨#[103, 114, 111, 117, 112]⟩ := by rw [← Lib.mk_data op, h6]; rfl
  rw [h6, if_neg (show sGroup ≠ sFilter by decide), if_neg (show sGroup ≠ sProject by decide), if_neg (show sGroup ≠ sJoin by decide), if_neg (show sGroup ≠ sUnion by decide), if_neg (show sGroup ≠ sDistinct by decide), if_pos rfl]
  clear h0 h6 h1 h2 h3 h4 h5
  by_cases hl : 3 ≤ t.ks.length
  ·have hl1 : decide (3 ≤ t.ks.length) = true := by simpa using hl
   have hl2 : decide ((3 : Int) ≤ (t.ks.length : Int)) = true := by simp; omega
   obtain ⟨ad, ⟨op', tx', X', n', m'⟩, eA, hS', q0, q1, q2, hk'⟩ := (HN.out.bel HS.out B1.out).kid 1 (by omega)
   dsimp only at eA q0 q1 q2
   subst eA
   have HSL : ∀ w, (Instr.slice 23 (.slice (some ad) t.ks.length k) (some (.int .i64 2)) none none).run Tryz.prog w = .ok (.slice (some (ad.add 6)) (t.ks.length - 2) (k - 2)) w := fun w => run_cut ad t.ks.length k 2 (by omega) hcap w
   have HC := hid (fun (w2 : World) (hb : Below w.heap.size w w2) => pall_any 108 (enters_of Tryz.func108 (by kernel_rfl) rfl) isAggB pisAgg (t.ks.drop 2) (by rw [List.length_drop]; omega) (some (ad.add (2 * 3))) (k - 2) S w2 (fun g hg => Nat.lt_of_lt_of_le (HS.out g hg) hb.size) ((HN.out.bel HS.out hb).kat.drop 2))
   rw [List.length_drop] at HC
   obtain ⟨b, hb⟩ : ∃ b, (t.ks.drop 2).all isAggB = b := ⟨_, rfl⟩
   rw [hb] at HC
   rw [hl1, hb, Bool.true_and]
   clear hb hl1
   rw [show ad.add (1 * 3) = ⟨ad.block, ad.off + 3, none⟩ by simp [Addr.add]] at q0 q1 q2
   have hz : nthN t.ks 1 = t.ks[1]'(by omega) := by unfold nthN; rw [List.getD_eq_getElem?_getD, List.getElem?_eq_getElem]; rfl
   obtain ⟨p9, hp9⟩ : ∃ p9, isByB (t.ks[1]'(by omega)) = p9 := ⟨_, rfl⟩
   have HY := hid (pisBy (t.ks[1]'(by omega)) S op' tx' X' n' m' w1 (fun g hg => Nat.lt_of_lt_of_le (HS.out g hg) z1) hk')
   rw [hp9] at HY
   rw [hz, hp9]
   clear hz hp9 hk'
   cases p9
   ·rw [Bool.false_and]
    go_enter Tryz.func65, Tryz.ntmps65
    go_upto_region 1 with fail
    try rw [HW1.out]
    obtain ⟨x0, x1, x2, xf⟩ := V1.out
    go_wp2_with fail
    refine HY.out.mono ?_
    rintro e w2 ⟨rfl, hb2⟩
    have B2 := hid (B1.out.trans (hb2.mono z1))
    clear hb2
    go_wp2
    go_ret
    exact ⟨rfl, B2.out⟩
   ·rw [Bool.true_and]
    go_enter Tryz.func65, Tryz.ntmps65
    go_upto_region 1 with fail
    try rw [HW1.out]
    obtain ⟨x0, x1, x2, xf⟩ := V1.out
    go_wp2_with fail
    refine HY.out.mono ?_
    rintro e w2 ⟨rfl, hb2⟩
    have z2 : w.heap.size ≤ w2.heap.size := Nat.le_trans z1 hb2.size
    have B2 := hid (B1.out.trans (hb2.mono z1))
    clear hb2
    go_wp2_with fail
    refine (HC.out w2 B2.out).mono ?_
    rintro e w3 ⟨rfl, hb3⟩
    have B3 := hid (B2.out.trans (hb3.mono z2))
    clear hb3
    go_wp2
    go_ret
    exact ⟨rfl, B3.out⟩
  ·have hl1 : decide (3 ≤ t.ks.length) = false := by simpa using hl
   have hl2 : decide ((3 : Int) ≤ (t.ks.length : Int)) = false := by simp; omega
   rw [hl1]
   rw [Bool.false_and]
   rw [Bool.false_and]
   go_enter Tryz.func65, Tryz.ntmps65
   go_upto_region 1 with fail
   try rw [HW1.out]
   obtain ⟨x0, x1, x2, xf⟩ := V1.out
   go_wp2
   go_ret
   exact ⟨rfl, B1.out⟩
 have f1 := lit_ne h1
 unfold sFilter at f1
 have f2 := lit_ne h2
 unfold sProject at f2
 have f3 := lit_ne h3
 unfold sJoin at f3
 have f4 := lit_ne h4
 unfold sUnion at f4
 have f5 := lit_ne h5
 unfold sDistinct at f5
 have f6 := lit_ne h6
 unfold sGroup at f6
 rw [if_neg h1, if_neg h2, if_neg h3, if_neg h4, if_neg h5, if_neg h6]
 clear h0 h1 h2 h3 h4 h5 h6
 go_enter Tryz.func65, Tryz.ntmps65
 go_upto_region 1 with fail
 try rw [HW1.out]
 obtain ⟨x0, x1, x2, xf⟩ := V1.out
 go_wp2
 go_ret
 exact ⟨rfl, B1.out⟩
structure qWrAt (w : World) (b : Nat) (p : Value) (bs : List UInt8) : Prop where
 ex : ∃ v, HB w b #[p, v] 75 ∧ w.ownsRow b 5 1 v bs.length (Lib.byteCells bs) ∧ v.ownBlock ≠ some b
def qWr (w : World) (b : Nat) (bs : List UInt8) : Prop := qWrAt w b (.pointer none) bs ∨ qWrAt w b (.pointer (some ⟨b, 0, none⟩)) bs
theorem qWr.lt {w : World} {b : Nat} {bs : List UInt8} (h : qWr w b bs) : b < w.heap.size := by rcases h with ⟨_, h, _⟩ | ⟨_, h, _⟩ <;> exact h.lt
theorem qWrAt.below {w w' : World} {b : Nat} {p : Value} {bs : List UInt8} (h : qWrAt w b p bs) (hb : Below w.heap.size w w') : qWrAt w' b p bs := by
 obtain ⟨v, h1, h2, h3⟩ := h
 exact ⟨v, h1.below hb, h2.kept (row := none) ⟨hb.os, hb.tape, hb.output, hb.size, fun k hk _ => hb.block k hk⟩ (by cases v.ownBlock <;> simp), h3⟩
theorem qWr.below {w w' : World} {b : Nat} {bs : List UInt8} (h : qWr w b bs) (hb : Below w.heap.size w w') : qWr w' b bs := h.elim (fun h => .inl (h.below hb)) (fun h => .inr (h.below hb))
theorem qlies_at : liesAt Tryz.prog Tryz.prog.depth 75 (2 / Tryz.prog.cellsOf 75) 0 73 1 = true := by kernel_rfl
theorem qecopy_fresh (b : Nat) (bs : List UInt8) (w : World) (h : qWrAt w b (.pointer none) bs) :
  Calls Tryz.prog 109 #[.pointer (some ⟨b, 0, none⟩)] w fun e w' => e = .returned (.tuple #[]) ∧ w' = w.setCell ⟨b, 0, none⟩ (.pointer (some ⟨b, 0, none⟩)) := by
 obtain ⟨v, h1, h2, h3⟩ := h
 obtain ⟨j, hj, hjs⟩ := Option.map_eq_some_iff.1 info_builder
 have c1 : w.cell? ⟨b, 0, none⟩ = some (.pointer none) := h1.cell 0
 have f1 : w.frozen? ⟨b, 0, none⟩ = false := h1.free 0
 have hsh : w.shape? b = some (75, 2) := by
  have : w.heap[b]? = some (.cells #[.pointer none, v] 75 (0, 0)) := h1
  simp [World.shape?, this]
 clear h1 h2 h3
 go_enter Tryz.func109, Tryz.ntmps109
 go_wp2
 rw [Lib.run_to_unsafe w ⟨b, 0, none⟩ Tryz.underlying70 Tryz.underlying137 hj (by rw [hjs]; decide) hsh (by show 0 < 2; decide)]
 simp only [Result.andThen]
 rw [Oper.upon_value]
 go_wp2
 rw [run_callFunc_extern Tryz.func133 (by kernel_rfl) (by kernel_rfl) (by kernel_rfl) (e := Extern.AbiNoEscape.same) (by kernel_rfl)]
 rw [Lib.run_noEscape]
 simp only [Result.andThen]
 rw [Oper.upon_value]
 go_wp2
 rw [Lib.run_from_unsafe w ⟨b, 0, none⟩ Tryz.underlying137 Tryz.underlying70 hj hsh qlies_at]
 simp only [Result.andThen]
 rw [Oper.upon_value]
 go_wp2
 go_end0
 exact ⟨rfl, rfl⟩
theorem qecopy_used (b : Nat) (bs : List UInt8) (w : World) (h : qWrAt w b (.pointer (some ⟨b, 0, none⟩)) bs) :
  Calls Tryz.prog 109 #[.pointer (some ⟨b, 0, none⟩)] w fun e w' => e = .returned (.tuple #[]) ∧ w' = w := by
 obtain ⟨v, h1, h2, h3⟩ := h
 obtain ⟨j, hj, hjs⟩ := Option.map_eq_some_iff.1 info_builder
 have c1 : w.cell? ⟨b, 0, none⟩ = some (.pointer (some ⟨b, 0, none⟩)) := h1.cell 0
 have hneq := Lib.run_neq_ptr_same w (P := Tryz.prog) ⟨b, 0, none⟩ Tryz.underlying70 hj
 clear h1 h2 h3
 go_enter Tryz.func109, Tryz.ntmps109
 go_wp2
 go_end0
 exact ⟨rfl, rfl⟩
theorem qecopy_any (b : Nat) (bs : List UInt8) (w : World) (h : qWr w b bs) :
  Calls Tryz.prog 109 #[.pointer (some ⟨b, 0, none⟩)] w fun e w' => e = .returned (.tuple #[]) ∧ qWrAt w' b (.pointer (some ⟨b, 0, none⟩)) bs ∧ Kp b w w' ∧ w'.heap.size = w.heap.size := by
 rcases h with h | h
 ·refine (qecopy_fresh b bs w h).mono ?_
  rintro e w' ⟨rfl, rfl⟩
  obtain ⟨v, h1, h2, h3⟩ := h
  refine ⟨rfl, ⟨v, h1.set 0 _, ?_, h3⟩, ⟨(Below.refl b w).setCell (Nat.le_refl _) _, (Lib.OthersKept.refl _ _ w).setCell ⟨b, 0, none⟩ rfl _⟩, World.size_setCell _ _ _⟩
  exact h2.kept (grown_set w b 0 _) (.inr h3)
 ·refine (qecopy_used b bs w h).mono ?_
  rintro e w' ⟨rfl, rfl⟩
  exact ⟨rfl, h, Kp.refl _ _, rfl⟩
theorem qewrite_any (b : Nat) (bs : List UInt8) (s : ByteArray) (w : World) (h : qWr w b bs) (hl : bs.length + s.size ≤ 1000000) :
  Calls Tryz.prog 66 #[.pointer (some ⟨b, 0, none⟩), .string s] w fun e w' => e = .returned (.tuple #[.int .i64 s.size, .nilIface]) ∧ qWr w' b (bs ++ s.data.toList) ∧ Kp b w w' := by
 obtain ⟨i0, hi, hz0, hz1, hz2⟩ := info_parts info_byte
 have HC := hid (qecopy_any b bs w h)
 have hbl := h.lt
 clear h
 go_enter Tryz.func66, Tryz.ntmps66
 go_wp2_with fail
 refine HC.out.mono ?_
 rintro e w1 ⟨rfl, ⟨v, h1, h2, h3⟩, hk1, hs1⟩
 have c1 : w1.cell? ⟨b, 0, none⟩ = some (.pointer (some ⟨b, 0, none⟩)) := h1.cell 0
 have c2 : w1.cell? ⟨b, 1, none⟩ = some v := h1.cell 1
 go_wp2_with (at_builtin; refine Lib.wpList_append_own_string _ rfl _ _ 71 9 rfl b 5 i0 Tryz.underlying71 Tryz.underlying9 hi hz0 hz1 hz2 _ _ _ rfl h2 s rfl ?c3 ?c4 ?c5 ?_)
 case c3 => unfold maxLen; omega
 case c4 => omega
 case c5 => omega
 intro v' w2 hown' hgrow _
 have h4 : HB w2 b #[.pointer (some ⟨b, 0, none⟩), v] 75 := (hgrow.block b h1.lt (fun e => h3 e.symm)).trans h1
 have d2 : w2.cell? ⟨b, 1, none⟩ = some v := h4.cell 1
 have f2 : w2.frozen? ⟨b, 1, none⟩ = false := h4.free 1
 obtain ⟨ao, n', cap, rfl⟩ : ∃ ao n' cap, v' = .slice ao n' cap := by
  rcases hown'.2 with ⟨hv, _⟩ | ⟨g, cap, cur, hv, _⟩
  ·exact ⟨_, _, _, hv⟩
  ·exact ⟨_, _, _, hv⟩
 have hne' : (Value.slice ao n' cap).ownBlock ≠ some b := by
  intro e
  obtain ⟨c, fz, hc⟩ := Lib.ownsRow_kind hown' b e
  have h4' : w2.heap[b]? = some (.cells #[.pointer (some ⟨b, 0, none⟩), v] 75 (0, 0)) := h4
  rw [h4'] at hc
  injection hc with hc
  injection hc with _ hc2
  exact absurd hc2 (by decide)
 go_wp2
 go_ret2
 refine ⟨rfl, .inr ⟨_, h4.set 1 _, ?_, hne'⟩, hk1.trans ⟨((Below.refl b w1).grown hgrow (by omega) (fun k hk => (h2.lt k hk).1)).setCell (p := ⟨b, 1, none⟩) (Nat.le_refl _) _, ((Lib.OthersKept.refl _ _ w1).grown hgrow (Lib.ownsRow_kind h2)).setCell ⟨b, 1, none⟩ rfl _⟩⟩
 have := hown'.kept (grown_set w2 b 1 (.slice ao n' cap)) (.inr hne')
 rw [List.length_append, Array.length_toList]
 rw [show Lib.byteCells (bs ++ s.data.toList) = Lib.byteCells bs ++ Lib.strCells s by rw [Lib.strCells_eq]; unfold Lib.byteCells; rw [List.map_append]]
 exact this
theorem qestring_any (b : Nat) (l : List UInt8) (w : World) (h : qWr w b l) (h0 : l ≠ []) :
  Calls Tryz.prog 33 #[.pointer (some ⟨b, 0, none⟩)] w fun e w' => e = .returned (.string ⟨l.toArray⟩) ∧ Below b w w' := by
 obtain ⟨p, v, hbk, hown, hne⟩ : ∃ p, qWrAt w b p l := by
  rcases h with h | h
  ·exact ⟨_, h⟩
  ·exact ⟨_, h⟩
 have hl0 : l.length ≠ 0 := by simpa using h0
 obtain ⟨g, cap, cur, rfl, hbg, hg, hnc, hcm, hcs, htake⟩ : ∃ g cap cur, v = .slice (some ⟨g, 0, none⟩) l.length cap ∧ b ≤ g ∧ w.heap[g]? = some (.cells cur 5 (0, 0)) ∧ l.length ≤ cap ∧ cap ≤ maxLen ∧ cur.size = cap * 1 ∧ cur.toList.take (l.length * 1) = Lib.byteCells l := by
  rcases hown.2 with ⟨_, hz⟩ | ⟨g, cap, cur, hv, r⟩
  ·exact absurd hz hl0
  ·exact ⟨g, cap, cur, hv, r⟩
 have c1 : w.drew.cell? ⟨b, 1, none⟩ = some (.slice (some ⟨g, 0, none⟩) l.length cap) := hbk.cell 1
 have hSD : (Builtin.unsafeSliceData_ #[71] 106 #[.slice (some ⟨g, 0, none⟩) l.length cap]).run Tryz.prog w.drew = .ok (.pointer (some ⟨g, 0, none⟩)) w.drew :=
  Lib.run_unsafeSliceData_row _ _ _ _ _ _ (by omega)
 have hUS : (Builtin.unsafeString_ #[106, 3] 9 #[.pointer (some ⟨g, 0, none⟩), .int .i64 l.length]).run Tryz.prog w.drew = .ok (.string ⟨l.toArray⟩) (w.drew.freeze ⟨g, 0, none⟩ l.length) := by
  refine Lib.run_unsafeString_row w.drew 106 3 9 5 Tryz.underlying106 cells_byte g cur.size (by have hg' : w.drew.heap[g]? = some (.cells cur 5 (0, 0)) := hg; simp [World.shape?, hg']) l h0 (by omega) (by unfold maxLen at hcm; omega) ?_
  intro j x hx
  have := hown.cells (g := g) rfl j (.int .u8 x.toNat) (by simp [Lib.byteCells, hx])
  exact this
 have HF := hid (show Below b w (w.drew.freeze ⟨g, 0, none⟩ l.length) from Lib.below_freeze (Below.drew (Below.refl b w)) (p := ⟨g, 0, none⟩) hbg _)
 have mixed : Tryz.prog.follows .mixedOrders = true := by kernel_rfl
 clear hbk hown hne htake hcs hcm hg h
 go_enter Tryz.func33, Tryz.ntmps33
 go_wp2
 go_region_o
 all_goals (go_wp2; go_ret; exact ⟨rfl, HF.out⟩)
theorem qestring_of (b : Nat) (w : World) (v : Value) (n : Nat) (T : ByteArray) (hlt : b < w.heap.size) (c1 : w.drew.cell? ⟨b, 1, none⟩ = some v) (p : Value) (wS : World) (hSD : (Builtin.unsafeSliceData_ #[71] 106 #[v]).run Tryz.prog w.drew = .ok p wS) (hcS : wS.cell? ⟨b, 1, none⟩ = some v)
  (hv : ∃ a c, v = .slice a n c) (w2 : World) (hUS : (Builtin.unsafeString_ #[106, 3] 9 #[p, .int .i64 n]).run Tryz.prog wS = .ok (.string T) w2) (hb : Below b w w2) :
  Calls Tryz.prog 33 #[.pointer (some ⟨b, 0, none⟩)] w fun e w' => e = .returned (.string T) ∧ Below b w w' := by
 obtain ⟨a, c, rfl⟩ := hv
 have HF := hid hb
 have mixed : Tryz.prog.follows .mixedOrders = true := by kernel_rfl
 clear hb hlt
 go_enter Tryz.func33, Tryz.ntmps33
 go_wp2
 go_region_o
 all_goals (go_wp2; go_ret; exact ⟨rfl, HF.out⟩)
theorem qestring_nil (b : Nat) (w : World) (h : qWr w b []) :
  Calls Tryz.prog 33 #[.pointer (some ⟨b, 0, none⟩)] w fun e w' => e = .returned (.string ⟨#[]⟩) ∧ Below b w w' := by
 have hlt := h.lt
 obtain ⟨p, v, hbk, hown, hne⟩ : ∃ p, qWrAt w b p [] := by
  rcases h with h | h
  ·exact ⟨_, h⟩
  ·exact ⟨_, h⟩
 have c1 : w.drew.cell? ⟨b, 1, none⟩ = some v := hbk.cell 1
 have hB : Below b w w.drew := (Below.refl b w).drew
 rcases hown.2 with ⟨hv, _⟩ | ⟨g, cap, cur, hv, hg, hhp, _⟩
 ·subst hv
  exact qestring_of b w _ 0 ⟨#[]⟩ hlt c1 (.pointer none) w.drew (Lib.run_unsafeSliceData_nil _ _ _ _ _) c1 ⟨_, _, rfl⟩ w.drew (Lib.run_unsafeString_none _ _ _ _ _) hB
 ·subst hv
  by_cases hc : cap = 0
  ·subst hc
   exact qestring_of b w _ 0 ⟨#[]⟩ hlt c1 (.pointer (some ⟨w.drew.heap.size, 0, none⟩)) (w.drew.alloc (.view ⟨g, 0, none⟩ 5)) (Lib.run_unsafeSliceData_zero _ _ _ 5 Tryz.underlying106 ⟨g, 0, none⟩ 0 (5, cur.size) (by have hg' : w.drew.heap[g]? = some (.cells cur 5 (0, 0)) := hhp; simp [World.shape?, hg'])) ((World.cell?_alloc_some _ _ _ (by rw [c1]; rfl)).trans c1) ⟨_, _, rfl⟩ (w.drew.alloc (.view ⟨g, 0, none⟩ 5)) (Lib.run_unsafeString_none _ _ _ _ _) (hB.alloc (Nat.le_of_lt hlt) _)
  ·exact qestring_of b w _ 0 ⟨#[]⟩ hlt c1 (.pointer (some ⟨g, 0, none⟩)) w.drew (Lib.run_unsafeSliceData_row _ _ _ _ _ _ hc) c1 ⟨_, _, rfl⟩ w.drew (Lib.run_unsafeString_none _ _ _ _ _) hB
theorem qestringE (b : Nat) (l : List UInt8) (w : World) (h : qWr w b l) :
  Calls Tryz.prog 33 #[.pointer (some ⟨b, 0, none⟩)] w fun e w' => e = .returned (.string ⟨l.toArray⟩) ∧ Below b w w' := by
 by_cases h0 : l = []
 ·subst h0
  exact qestring_nil b w h
 ·exact qestring_any b l w h h0
theorem qwr_freshE (w : World) : qWr (w.alloc (.cells #[.pointer none, .slice none 0 0] 75)) w.heap.size [] :=
 .inl ⟨_, HB.fresh w _ _, by show World.ownsRow _ _ _ _ _ 0 _; exact World.ownsRow_nil _ _ _ _, by simp [Value.ownBlock]⟩
end Go.Proofs.YtjbpkpfmgbhlpaaGreatDoor.Code
