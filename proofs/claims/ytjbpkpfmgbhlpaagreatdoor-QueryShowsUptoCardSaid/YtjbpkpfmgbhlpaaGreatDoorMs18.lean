/-
  The program's isName, name, column, nothing: is a word a name, its node.
-/
import Derived.Test.YtjbpkpfmgbhlpaaGreatDoorMs14
import Derived.Test.YtjbpkpfmgbhlpaaGreatDoorMs13
import Derived.Test.YtjbpkpfmgbhlpaaGreatDoorMs4
import Derived.Deep.DeepCutAuto
import Derived.Test.YtjbpkpfmgbhlpaaGreatDoorMs1
import Derived.Deep.RegionHeld3
set_option maxRecDepth 100000
set_option maxHeartbeats 16000000
open Go.Lib (hid)
namespace Go.Proofs.YtjbpkpfmgbhlpaaGreatDoor.Code
open Go.ChangeShapes Go.WideShapes Go.ChangeAt Go.RowKit Val Elems
set_option linter.unusedVariables false
set_option linter.unusedSimpArgs false
theorem pisname_kind (k p : Int) (T : ByteArray) (w : World) (hk : k ≠ 0) :
  Calls Tryz.prog 95 #[.agg #[.int .i64 k, .string T, .int .i64 p]] w fun e w' => e = .returned (.bool false) ∧ Below w.heap.size w w' := by
 have e1 : (k == 0) = false := by simpa using hk
 go_enter Tryz.func95, Tryz.ntmps95
 go_wp2
 go_ret
 exact ⟨rfl, below_alloc w _⟩
theorem pisname_own (p : Int) (T : ByteArray) (w : World) (ho : ownL T.data.toList = true) :
  Calls Tryz.prog 95 #[.agg #[.int .i64 0, .string T, .int .i64 p]] w fun e w' => e = .returned (.bool false) ∧ Below w.heap.size w w' := by
 have HO := hid (fun w => own_any T w)
 rw [show ownB T.toList = true by rw [ByteArray.toList_eq]; exact ho] at HO
 clear ho
 go_enter Tryz.func95, Tryz.ntmps95
 go_wp2_with fail
 refine (HO.out _).mono ?_
 rintro e w1 ⟨rfl, rfl⟩
 go_wp2
 go_ret
 exact ⟨rfl, below_alloc w _⟩
theorem pisname_yes (p : Int) (T : ByteArray) (m : Int) (w : World) (hf : firstL T.data.toList = some (0, T.data.toList, T.data.toList.length)) (ht : T.size ≤ 4194304) (ho : ownL T.data.toList = false) (hg : Env w.heap.size m w) :
  Calls Tryz.prog 95 #[.agg #[.int .i64 0, .string T, .int .i64 p]] w fun e w' => e = .returned (.bool true) ∧ Below w.heap.size w w' := by
 have hw := words_good (words_alone (k := 0) (t := T.data.toList) hf 0)
 rw [show showW 0 T.data.toList = T.data.toList from rfl] at hw
 have HO := hid (fun w => own_any T w)
 rw [show ownB T.toList = false by rw [ByteArray.toList_eq]; exact ho] at HO
 have HW := hid (fun w0 hm => (words_any T m w0 ht hm).mono (R' := fun e w' => ∃ (A : Option Addr) (cap : Nat), e = .returned (.tuple #[.slice A 1 cap, .int .i64 0, .int .i64 0]) ∧ At wc 3 w' w'.heap.size A [(0, T.data.toList, 0)] ∧ Below w0.heap.size w0 w') (by
  rintro e w' ⟨A, cap, he, hv, hb⟩
  rw [hw.1] at hv
  refine ⟨A, cap, ?_, hv, hb⟩
  rw [he, hw.1, hw.2.1, hw.2.2]
  rfl))
 have HG := hid hg
 clear hg hw hf ho ht
 go_enter Tryz.func95, Tryz.ntmps95
 go_wp2_with fail
 refine (HO.out _).mono ?_
 rintro e w1 ⟨rfl, rfl⟩
 obtain ⟨W0, hW0⟩ : ∃ W0, w.alloc (.cells #[.int .i64 0, .string T, .int .i64 p] 48) = W0 := ⟨_, rfl⟩
 have L0 := hid (show Below w.heap.size w W0 by rw [← hW0]; exact below_alloc w _)
 have N0 := hid (show NBox W0 w.heap.size (.int .i64 0) (.string T) (.int .i64 p) by rw [← hW0]; exact NBox.fresh w _ _ _ _)
 obtain ⟨x0, x1, x2, xf⟩ := N0.out
 try rw [hW0]
 go_wp2_with fail
 try rw [hW0]
 refine (HW.out _ (HG.out.next L0.out).gl.cell).mono ?_
 rintro e w3 ⟨A, cap', rfl, hv, hb3⟩
 have L3 := hid (bnext L0.out L0.out.size hb3)
 have N3 := hid (N0.out.below hb3)
 clear x0 x1 x2 xf
 obtain ⟨x0, x1, x2, xf⟩ := N3.out
 obtain ⟨ad, rfl, ha, d0, d1, d2⟩ := at_word hv 0 (by simp)
 rw [Nat.zero_mul] at d0 d1 d2
 have e0 : ad.add 0 = ad := by cases ad; simp [Addr.add]
 rw [e0] at d0 d1 d2
 dsimp only [List.getElem_cons_zero] at d0 d1 d2
 rw [Lib.mk_data] at d1
 clear hb3 hv d2
 go_wp2
 go_quiet (fail)
 go_wp2
 go_ret
 exact ⟨rfl, drewN_below L3.out _⟩
theorem pisname_none (m : Int) (w : World) (hg : Env w.heap.size m w) :
  Calls Tryz.prog 95 #[.agg #[.int .i64 0, .string ⟨#[]⟩, .int .i64 0]] w fun e w' => e = .returned (.bool false) ∧ Below w.heap.size w w' := by
 have hw := words_good (s := []) (l := []) rfl
 have HO := hid (fun w => own_any ⟨#[]⟩ w)
 rw [show ownB (⟨#[]⟩ : ByteArray).toList = false by rw [ByteArray.toList_eq]; rfl] at HO
 have HW := hid (fun w0 hm => (words_any ⟨#[]⟩ m w0 (by decide) hm).mono (R' := fun e w' => ∃ (A : Option Addr) (cap : Nat), e = .returned (.tuple #[.slice A 0 cap, .int .i64 0, .int .i64 0]) ∧ Below w0.heap.size w0 w') (by
  rintro e w' ⟨A, cap, he, hv, hb⟩
  refine ⟨A, cap, ?_, hb⟩
  rw [he, show (⟨#[]⟩ : ByteArray).data.toList = [] from rfl, hw.1, hw.2.1, hw.2.2]
  rfl))
 have HG := hid hg
 clear hg hw
 go_enter Tryz.func95, Tryz.ntmps95
 go_wp2_with fail
 refine (HO.out _).mono ?_
 rintro e w1 ⟨rfl, rfl⟩
 obtain ⟨W0, hW0⟩ : ∃ W0, w.alloc (.cells #[.int .i64 0, .string ⟨#[]⟩, .int .i64 0] 48) = W0 := ⟨_, rfl⟩
 have L0 := hid (show Below w.heap.size w W0 by rw [← hW0]; exact below_alloc w _)
 have N0 := hid (show NBox W0 w.heap.size (.int .i64 0) (.string ⟨#[]⟩) (.int .i64 0) by rw [← hW0]; exact NBox.fresh w _ _ _ _)
 obtain ⟨x0, x1, x2, xf⟩ := N0.out
 try rw [hW0]
 go_wp2_with fail
 try rw [hW0]
 refine (HW.out _ (HG.out.next L0.out).gl.cell).mono ?_
 rintro e w3 ⟨A, cap', rfl, hb3⟩
 have L3 := hid (bnext L0.out L0.out.size hb3)
 clear hb3 x0 x1 x2 xf
 go_wp2
 refine wp_region_quiet_lit (by kernel_rfl) (by kernel_rfl) ?_
 repeat (with_reducible refine wpQuiet_step ?_; intro K hK; go_simp; with_reducible refine hK _ ?_; clear hK K)
 refine wpQuiet_nil ?_
 intro _ hw'
 obtain ⟨nq, hw''⟩ := hw'
 subst hw''
 go_wp2
 go_ret
 exact ⟨rfl, drewN_below L3.out _⟩
section
variable {r : Nat} {m : Int} {A : Option Addr} {cap : Nat} {l : List W} {qb qa : Nat}
theorem pisname_any (hg : Good l) (i : Nat) (w : World) (he : Env w.heap.size m w) :
  Calls Tryz.prog 95 #[wv (wd l i)] w fun e w' => e = .returned (.bool (nmOk (bare l) i)) ∧ Below w.heap.size w w' := by
 unfold nmOk wv
 by_cases hil : i < l.length
 ·have hc := hg.came l[i] (List.getElem_mem hil)
  have hft := hg.fit l[i] (List.getElem_mem hil)
  rw [isK_in hil, txt_in hil, wd_in hil]
  obtain ⟨v, hv⟩ : ∃ v, l[i] = v := ⟨_, rfl⟩
  rw [hv] at hc hft ⊢
  obtain ⟨k, t, p⟩ := v
  obtain ⟨T, rfl⟩ : ∃ T : ByteArray, t = T.data.toList := ⟨⟨t.toArray⟩, rfl⟩
  have hT : (⟨T.data.toList.toArray⟩ : ByteArray) = T := Lib.mk_data T
  have hts : T.size ≤ 4194304 := hft
  dsimp only at hc ⊢
  rw [hT]
  by_cases hk : k = 0
  ·subst hk
   cases ho : ownL T.data.toList with
   | true => exact pisname_own p T w ho
   | false => exact pisname_yes p T m w hc hts ho he
  ·have e1 : (k == 0) = false := by simpa using hk
   rw [e1]
   exact pisname_kind k p T w hk
 ·rw [isK_out hil, wd_out hil]
  exact pisname_none m w he
structure But2 (w w' : World) (r g : Nat) : Prop where
 os : w'.os = w.os
 tape : w'.tape = w.tape
 output : w'.output = w.output
 size : w.heap.size ≤ w'.heap.size
 block : ∀ k, k < w.heap.size → k ≠ r → k ≠ g → w'.heap[k]? = w.heap[k]?
theorem But2.one {w w' : World} {r : Nat} (h : But2 w w' r r) : But w w' r := ⟨h.os, h.tape, h.output, h.size, fun k hk hn => h.block k hk hn hn⟩
theorem But.two {w w' : World} {r : Nat} (h : But w w' r) (g : Nat) : But2 w w' r g := ⟨h.os, h.tape, h.output, h.size, fun k hk hn _ => h.block k hk hn⟩
theorem But2.trans {w w1 w2 : World} {r g : Nat} (h : But2 w w1 r g) (k : But2 w1 w2 r g) : But2 w w2 r g :=
 ⟨k.os.trans h.os, k.tape.trans h.tape, k.output.trans h.output, Nat.le_trans h.size k.size, fun j hj hr hg => (k.block j (Nat.lt_of_lt_of_le hj h.size) hr hg).trans (h.block j hj hr hg)⟩
theorem But2.new {w w1 : World} {r g : Nat} (h : But2 w w1 r g) (p : Addr) (hp : w.heap.size ≤ p.block) (u : Value) : But2 w (w1.setCell p u) r g :=
 ⟨h.os, h.tape, h.output, by simpa using h.size, fun k hk hb hg => (Below.heap_setCell w1 p u k (by omega)).trans (h.block k hk hb hg)⟩
theorem But2.cell {w w' : World} {r g : Nat} (h : But2 w w' r g) {q : Addr} (hq : q.block < w.heap.size) (hn : q.block ≠ r) (hg : q.block ≠ g) : w'.cell? q = w.cell? q := by
 unfold World.cell?
 rw [h.block _ hq hn hg]
theorem But2.frozen {w w' : World} {r g : Nat} (h : But2 w w' r g) {q : Addr} (hq : q.block < w.heap.size) (hn : q.block ≠ r) (hg : q.block ≠ g) : w'.frozen? q = w.frozen? q := by
 unfold World.frozen?
 rw [h.block _ hq hn hg]
def GiveN (r : Nat) (m : Int) (A : Option Addr) (cap : Nat) (l : List W) (qb qa : Nat) (w : World) (res : Res) (e : Ending) (w' : World) : Prop :=
 ∃ (op tx : ByteArray) (X : Option Addr) (n k : Nat), e = .returned (.tuple #[.agg #[.string op, .string tx, .slice X n k], .bool (!res.2.2)]) ∧ (res.2.2 = false → RIn w' (New w w') res.1 (op, tx, X, n, k)) ∧ But w w' r ∧ Rq w' r m A cap l qb qa res.2.1
theorem GiveN.sim {w w' : World} {res res' : Res} {e : Ending} (h : GiveN r m A cap l qb qa w res e w') (hs : Sim res res') : GiveN r m A cap l qb qa w res' e w' := by
 obtain ⟨op, tx, X, n, k, he, hn, hb, hr⟩ := h
 obtain ⟨h1, h2⟩ := hs
 rw [h1] at he hn hr
 exact ⟨op, tx, X, n, k, he, fun e => by rw [← h2 (by rw [h1]; exact e)]; exact hn e, hb, hr⟩
theorem Rq.w3 {w : World} {i : Nat} (h : Rq w r m A cap l qb qa i) {g : Nat} (hp : r < g) (hq : g ≠ qb) (ha : g ≠ qa) (x y z : Value) : Rq (W3 w g x y z) r m A cap l qb qa i := ((h.new ⟨g, 0, none⟩ hp hq ha _).new ⟨g, 1, none⟩ hp hq ha _).new ⟨g, 2, none⟩ hp hq ha _
theorem giveN_ret {w w3 : World} {T : Nod} {j : Nat} {b : Bool} {op tx : ByteArray} {X : Option Addr} {n k : Nat} (hn : b = false → RIn w3 (fun g => w.heap.size < g ∧ g < w3.heap.size) T (op, tx, X, n, k)) (hb : But w w3 r) (hr : Rq w3 r m A cap l qb qa j) (hrl : r < w.heap.size) (hq : qb < w.heap.size) (ha : qa < w.heap.size) :
  GiveN r m A cap l qb qa w (T, j, b) (.returned (.tuple #[.agg #[.string op, .string tx, .slice X n k], .bool (!b)])) (W3 w3 w.heap.size (.string op) (.string tx) (.slice X n k)) :=
 ⟨op, tx, X, n, k, rfl, fun e => ((hn e).w3 (g := w.heap.size) (fun h => Nat.lt_irrefl _ h.1) _ _ _).imp (fun g hg => ⟨Nat.le_of_lt hg.1, by show g < (W3 w3 w.heap.size _ _ _).heap.size; rw [W3.size]; exact hg.2⟩), W3.but hb (Nat.le_refl _) _ _ _, hr.w3 hrl (by omega) (by omega) _ _ _⟩
theorem pname_any (hg : Good l) (o : ByteArray) (i : Nat) (w : World) (h : Rq w r m A cap l qb qa i) (hi : i ≤ l.length) :
  Calls Tryz.prog 56 #[.pointer (some ⟨r, 0, none⟩), .string o] w (GiveN r m A cap l qb qa w (nameP (bare l) o.data.toList i)) := by
 have HWD := hid (fun w0 h0 => pword_any i 0 w0 (h := (h0 : Rq w0 r m A cap l qb qa i)) hi hg.len (by decide))
 have HN := hid (fun w0 he => pisname_any (m := m) hg i w0 he)
 have ht : txt (bare l) i = (wd l i).2.1 := by
  by_cases hil : i < l.length
  ·rw [txt_in hil, wd_in hil]
  ·rw [wd_out hil]; unfold txt; rw [bare_out hil]
 rw [Nat.add_zero] at HWD
 unfold nameP
 obtain ⟨b, hb⟩ : ∃ b, nmOk (bare l) i = b := ⟨_, rfl⟩
 rw [hb] at HN
 rw [hb, ht]
 unfold wv at HWD HN
 obtain ⟨x, hx⟩ : ∃ x, wd l i = x := ⟨_, rfl⟩
 rw [hx] at HWD HN ⊢
 obtain ⟨k, t, p⟩ := x
 dsimp only at HWD HN ⊢
 obtain ⟨T, hT⟩ : ∃ T : ByteArray, ⟨t.toArray⟩ = T := ⟨_, rfl⟩
 obtain rfl : t = T.data.toList := by rw [← hT]
 rw [hT] at HWD HN
 have HR := hid h
 have hrl := h.lt
 have hql := h.ltq
 have hal := h.lta
 have hil : b = true → i < l.length := fun e => by rw [e] at hb; have := (isK_lt (Bool.and_eq_true _ _ ▸ hb).1).1; rw [bare_length] at this; exact this
 have hll := hg.len
 obtain ⟨res, hres⟩ : ∃ res, (if b = true then ((Nod.mk o.data.toList T.data.toList [], i + 1, false) : Res) else (zeroN, i, true)) = res := ⟨_, rfl⟩
 rw [hres]
 have HRS := hid hres
 have HIL := hid hil
 clear h hT hx hg ht hb hres hil
 go_enter Tryz.func56, Tryz.ntmps56
 obtain ⟨w0, hw0, hz0, N0, B0⟩ := made0 w r
 have R0 := hid (show Rq w0 r m A cap l qb qa i by rw [← hw0]; exact HR.out.alloc _)
 go_wp2_with fail
 try rw [hw0]
 refine (HWD.out _ R0.out).mono ?_
 rintro e w1 ⟨rfl, hb1⟩
 have z1 := hb1.size
 have N1 := hid ((N0.out.below hb1).alloc (.cells #[.int .i64 k, .string T, .int .i64 p] 48))
 have B1 := hid ((B0.out.next hb1).alloc (.cells #[.int .i64 k, .string T, .int .i64 p] 48))
 have R1 := hid ((R0.out.below hb1).alloc (.cells #[.int .i64 k, .string T, .int .i64 p] 48))
 have V1 := hid (NBox.fresh w1 (.int .i64 k) (.string T) (.int .i64 p) 48)
 clear hb1
 go_wp2_with fail
 refine (HN.out _ R1.out.rd.env).mono ?_
 rintro e w2 ⟨rfl, hb2⟩
 have z2 : w1.heap.size + 1 ≤ w2.heap.size := by have := hb2.size; simpa using this
 have N2 := hid (N1.out.below hb2)
 have B2 := hid (B1.out.next hb2)
 have R2 := hid (R1.out.below hb2)
 have V2 := hid (V1.out.below hb2)
 clear hb2
 obtain ⟨x0, x1, x2, xf⟩ := N2.out
 obtain ⟨v0, v1, v2, vf⟩ := V2.out
 have zn := N2.out.lt
 have zr := R2.out.lt
 cases b
 ·obtain rfl : res = (zeroN, i, true) := by have := HRS.out; rw [iff'] at this; exact this.symm
  go_wp2
  have Y := N2.out.set (.string ⟨#[]⟩) (.string ⟨#[]⟩) (.slice none 0 0)
  exact bodyPost_ret (v := .tuple #[.agg #[.string ⟨#[]⟩, .string ⟨#[]⟩, .slice none 0 0], .bool (!true)]) (by simp [results, Tryz.results56, go_sem, Y.c0, Y.c1, Y.c2]) rfl
   (giveN_ret (b := true) (fun h => (by cases h)) B2.out R2.out hrl hql hal)
 ·have c1 := R2.out.rd.c1
  have f1 := R2.out.rd.fr 1
  have hil := HIL.out rfl
  have e2 : IntKind.i64.wrap ((i : Int) + 1) = ((i + 1 : Nat) : Int) := by rw [IntKind.wrap_i64]; omega
  obtain ⟨j, hj⟩ : ∃ j, i + 1 = j := ⟨_, rfl⟩
  rw [hj] at e2
  obtain rfl : res = (.mk o.data.toList T.data.toList [], j, false) := by have := HRS.out; rw [ift, hj] at this; exact this.symm
  clear hj hil hi hll
  have N3 := hid (N2.out.but (r := r) (by omega) ((But.refl w2 r).setCell 1 (.int .i64 j)))
  have R3 := hid (R2.out.at j)
  have B3 := hid (B2.out.setCell 1 (.int .i64 j))
  go_wp2
  have Y := N3.out.set (.string o) (.string T) (.slice none 0 0)
  exact bodyPost_ret (v := .tuple #[.agg #[.string o, .string T, .slice none 0 0], .bool (!false)]) (by simp [results, Tryz.results56, go_sem, Y.c0, Y.c1, Y.c2]) rfl
   (giveN_ret (b := false) (fun _ => RIn.leafN _ _ o T) B3.out R3.out hrl hql hal)
end
section
variable {r : Nat} {m : Int} {A : Option Addr} {cap : Nat} {l : List W} {qb qa : Nat}
theorem giveN_pass {w w0 w3 : World} {T : Nod} {b : Bool} {v : NV} (hn : b = false → RIn w3 (New w0 w3) T v) (h0 : w.heap.size < w0.heap.size) : b = false → RIn w3 (fun g => w.heap.size < g ∧ g < w3.heap.size) T v :=
 fun hq => (hn hq).imp (fun g hg => ⟨Nat.lt_of_lt_of_le h0 hg.1, hg.2⟩)
theorem nat_box {w : World} {S : Nat → Prop} {g : Nat} {op tx : ByteArray} {Y : Option Addr} {n k : Nat} (h : NBox w g (.string op) (.string tx) (.slice Y n k)) (hS : S g) : NAt w S (some ⟨g, 0, none⟩) [(op, tx, Y, n, k)] := by
 intro i hi
 obtain rfl : i = 0 := by simp at hi; exact hi
 exact ⟨_, rfl, hS, h.c0, h.c1, h.c2⟩
theorem RIn.opped {w : World} {S : Nat → Prop} {o t : List UInt8} {ks : List Nod} {op tx : ByteArray} {X : Option Addr} {n k : Nat} (h : RIn w S (.mk o t ks) (op, tx, X, n, k)) (p : ByteArray) : RIn w S (.mk p.data.toList t ks) (p, tx, X, n, k) := by
 cases h with
 | mk op tx ks X cap l hl hb hc hat hks =>
  have := RIn.mk (w := w) (S := S) p.data.toList t ks X k l hl hb hc hat hks
  rwa [Lib.mk_data] at this
theorem nodEta (t : Nod) : t = .mk t.op t.tx t.ks := by cases t; rfl
theorem pcolumn_any (hg : Good l) (i : Nat) (w : World) (h : Rq w r m A cap l qb qa i) (hi : i ≤ l.length) :
  Calls Tryz.prog 52 #[.pointer (some ⟨r, 0, none⟩)] w (GiveN r m A cap l qb qa w (nameP (bare l) sCol i)) := by
 obtain ⟨res, hres⟩ : ∃ res, nameP (bare l) sCol i = res := ⟨_, rfl⟩
 have HC := hid (fun w0 (h0 : Rq w0 r m A cap l qb qa i) => pname_any hg ⟨#[99, 111, 108]⟩ i w0 h0 hi)
 rw [show (⟨#[99, 111, 108]⟩ : ByteArray).data.toList = sCol from rfl, hres] at HC
 rw [hres]
 obtain ⟨T, j, b⟩ := res
 have HR := hid h
 have hrl := h.lt
 have hql := h.ltq
 have hal := h.lta
 clear h hres hg
 go_enter Tryz.func52, Tryz.ntmps52
 obtain ⟨w0, hw0, hz0, N0, B0⟩ := made0 w r
 have R0 := hid (show Rq w0 r m A cap l qb qa i by rw [← hw0]; exact HR.out.alloc _)
 go_wp2_with fail
 try rw [hw0]
 refine (HC.out _ R0.out).mono ?_
 rintro e w2 ⟨o1, t1, X, n, k, rfl, hn1, hb1, hr1⟩
 dsimp only at hn1 hr1
 have I2 := hid (giveN_pass (w := w) hn1 (by omega))
 have B2 := hid (B0.out.trans hb1)
 have R2 := hid hr1
 have N2 := hid (N0.out.but (by omega) hb1)
 clear hn1 hb1 hr1
 obtain ⟨x0, x1, x2, xf⟩ := N2.out
 have zn := N2.out.lt
 obtain ⟨q, hq⟩ : ∃ q, (!b) = q := ⟨_, rfl⟩
 go_wp2
 have Y := N2.out.set (.string o1) (.string t1) (.slice X n k)
 exact bodyPost_ret (v := .tuple #[.agg #[.string o1, .string t1, .slice X n k], .bool (!b)]) (by simp [results, Tryz.results52, go_sem, Y.c0, Y.c1, Y.c2, hq]) rfl
  (giveN_ret I2.out B2.out R2.out hrl hql hal)
theorem pnothing_any (i : Nat) (w : World) (h : Rq w r m A cap l qb qa i) :
  Calls Tryz.prog 51 #[.pointer (some ⟨r, 0, none⟩)] w (GiveN r m A cap l qb qa w (noneP (bare l) i)) := by
 have HR := hid h
 have hrl := h.lt
 have hql := h.ltq
 have hal := h.lta
 clear h
 go_enter Tryz.func51, Tryz.ntmps51
 go_wp2
 have Y := NBox.fresh w (.string ⟨#[]⟩) (.string ⟨#[]⟩) (.slice none 0 0) 25
 exact bodyPost_ret (v := .tuple #[.agg #[.string ⟨#[]⟩, .string ⟨#[]⟩, .slice none 0 0], .bool (!false)]) (by simp [results, Tryz.results51, go_sem, Y.c0, Y.c1, Y.c2]) rfl
  ⟨_, _, _, _, _, rfl, fun _ => RIn.leafN _ _ ⟨#[]⟩ ⟨#[]⟩, (But.refl w r).alloc _, HR.out.alloc _⟩
end
end Go.Proofs.YtjbpkpfmgbhlpaaGreatDoor.Code
/-
  The program's reader of queries in plain words reads what the document says: a group, a query.
-/
namespace Go.Proofs.YtjbpkpfmgbhlpaaGreatDoor.Code
open Val
set_option linter.unusedVariables false
section
variable {L : List V} {q : Nat → Bool → Res} {i : Nat}
theorem shut_more {n : Nod} {R R' : Ress} (h : Sim R (shutP L R')) : Sim (n :: R.1, R.2) (shutP L (n :: R'.1, R'.2)) := by
 obtain ⟨h1, h2⟩ := h
 unfold shutP at h1 h2 ⊢
 dsimp only
 split
 ·rename_i hb
  rw [if_pos hb] at h1 h2
  exact ⟨h1, fun e => by rw [h2 e]⟩
 ·rename_i hb
  rw [if_neg hb] at h1 h2
  exact ⟨h1, fun e => by rw [h2 e]⟩
theorem shut_bad {l l' : List Nod} {j : Nat} : Sim (l, j, true) (shutP L (l', j, true)) := ⟨rfl, fun e => by cases e⟩
theorem group_sim (hq : ∀ j c, j ≤ L.length → Ends L.length j c (q j c).2) (hi : i ≤ L.length) (hL : L.length ≤ 4194304) :
  Sim ((q i false).1 :: (tailQ L q sGroup (q i false).2.1 (q i false).2.2).1, (tailQ L q sGroup (q i false).2.1 (q i false).2.2).2) (shutP L (groupP L (fun j => q j false) i)) := by
 have hE := hq i false hi
 have ht : ∀ j b, tailQ L q sGroup j b = groupQ L (mustQ L j b [44]).1 (mustQ L j b [44]).2 := fun j b => by
  unfold tailQ
  rw [if_neg (by decide), if_neg (by decide), if_neg (by decide), if_neg (by decide), if_neg (by decide)]
 unfold groupP groupsP
 rw [ls_first (L.length + 7) (by decide)]
 dsimp only
 rw [show ∀ j, (if 0 < 1 then q j false else if 0 = 1 then firstG L j else aggP L j) = q j false from fun _ => rfl]
 generalize q i false = E at hE ⊢
 obtain ⟨n, j, b⟩ := E
 have hj := hE.2.1
 dsimp only at hj ⊢
 cases b with
 | true =>
  have hw := tail_wrong hq sGroup hj
  rw [ift]
  refine ⟨hw, fun e => ?_⟩
  rw [show ∀ x : List Nod, (x, (tailQ L q sGroup j true).2).2 = (tailQ L q sGroup j true).2 from fun _ => rfl, hw] at e
  cases e
 | false =>
  rw [iff', ht, ls_must (L.length + 6) (by decide) (by decide)]
  cases c : isW L j false [44] with
  | false =>
   have hw := (group_ends (L := L) (i := j) (b := true) hj).2.2 rfl
   rw [must_no c, ifft]
   refine ⟨hw, fun e => ?_⟩
   dsimp only at e
   rw [hw] at e
   cases e
  | true =>
   rw [must_yes c, iftf]
   dsimp only
   rw [show ∀ j, (if 1 < 1 then q j false else if 1 = 1 then firstG L j else aggP L j) = firstG L j from fun _ => rfl]
   have hjl := isW_lt c
   unfold groupQ firstG
   have hs := by_sim (L := L) (j + 1)
   have hB := by_ends (L := L) (i := j + 1) (b := false) (by omega)
   generalize byP L (j + 1) = B at hs ⊢
   generalize byQ L (j + 1) false = B' at hs hB ⊢
   obtain ⟨bn, bj, bb⟩ := B
   obtain ⟨bn', bj', bb'⟩ := B'
   obtain ⟨s1, s2⟩ := hs
   dsimp only at s1 s2 hB ⊢
   cases s1
   have hbj := hB.2.1
   dsimp only at hbj
   cases bb with
   | true =>
    have hw := (agg_ends (L := L) (i := bj) (b := true) hbj).2.2 rfl
    rw [ift]
    dsimp only
    rw [ift]
    generalize aggQ L bj true = G at hw ⊢
    obtain ⟨g1, g2, g3⟩ := G
    cases hw
    rw [loop_wrong]
    exact shut_bad
   | false =>
    rw [iff']
    have hs2 := agg_sim (L := L) bj
    have hG := agg_ends (L := L) (i := bj) (b := false) hbj
    generalize aggP L bj = G at hs2 ⊢
    generalize aggQ L bj false = G' at hs2 hG ⊢
    obtain ⟨gn, gj, gb⟩ := G
    obtain ⟨gn', gj', gb'⟩ := G'
    obtain ⟨t1, t2⟩ := hs2
    dsimp only at t1 t2 hG ⊢
    cases t1
    have hgj := hG.2.1
    dsimp only at hgj
    cases gb with
    | true =>
     rw [loop_wrong, ift]
     exact shut_bad
    | false =>
     rw [iff', loop_fuel (fun j c hj => agg_ends hj) false hgj (L.length + 6) (by omega)]
     have h := ls_loop (L := L) (el := fun k j => if k < 1 then q j false else if k = 1 then firstG L j else aggP L j) (least := 2) (most := many) (fun j c hj => agg_ends hj) (fun k j h => by rw [if_neg (by omega), if_neg (by omega)]; exact agg_sim j) (L.length + 6) 2 gj (by decide) (by decide) (by unfold many; omega) hgj (by omega)
     have e1 := s2 rfl
     have e2 := t2 rfl
     subst e1 e2
     have h3 := shut_more (n := n) (shut_more (n := bn') (shut_more (n := gn') h))
     exact h3
def partG (L : List V) (q : Nat → Res) (o : List UInt8) (i : Nat) : Res := (.mk [] [] (bodyG L q o i).1, (bodyG L q o i).2)
def queryP (L : List V) (q : Nat → Res) (i : Nat) : Res :=
 if (isK L i false 0 && (isW L (i + 1) false [40] && opsQ.contains (txt L i))) = true then callP L (partG L q (txt L i)) i else nameP L sFrom i
theorem body_sim (hq : ∀ j c, j ≤ L.length → Ends L.length j c (q j c).2) (hi : i ≤ L.length) (hL : L.length ≤ 4194304) {o : List UInt8} (ho : o ∈ opsQ) :
  Sim ((q i false).1 :: (tailQ L q o (q i false).2.1 (q i false).2.2).1, (tailQ L q o (q i false).2.1 (q i false).2.2).2) (shutP L (bodyG L (fun j => q j false) o i)) := by
 unfold bodyG
 simp only [opsQ, List.mem_cons, List.not_mem_nil, or_false] at ho
 rcases ho with rfl | rfl | rfl | rfl | rfl | rfl
 ·rw [if_pos rfl]; exact filter_sim hq hi
 ·rw [if_neg (by decide), if_pos rfl]; exact project_sim hq hi hL
 ·rw [if_neg (by decide), if_neg (by decide), if_pos rfl]; exact join_sim hq hi hL
 ·rw [if_neg (by decide), if_neg (by decide), if_neg (by decide), if_pos rfl]; exact union_sim hq hi hL
 ·rw [if_neg (by decide), if_neg (by decide), if_neg (by decide), if_neg (by decide), if_pos rfl]; exact distinct_sim hq hi
 ·rw [if_neg (by decide), if_neg (by decide), if_neg (by decide), if_neg (by decide), if_neg (by decide)]; exact group_sim hq hi hL
theorem isW_mark (k : Nat) (s : List UInt8) (ho : ownL s = false) : isW L k false s = (L[k]? == some (3, s)) := by
 unfold isW
 cases hx : L[k]? with
 | none => rfl
 | some w =>
  obtain ⟨k, t⟩ := w
  rw [ho]
  rw [Bool.eq_iff_iff]
  simp
  constructor
  ·rintro ⟨h1, h2⟩; exact ⟨h2, h1⟩
  ·rintro ⟨h1, h2⟩; exact ⟨h2, h1⟩
theorem op_of : ∀ l : List (List UInt8), opQ L i false l = if (isK L i false 0 && (isW L (i + 1) false [40] && l.contains (txt L i))) = true then txt L i else []
 | [] => by simp [opQ]
 | s :: l => by
  rw [opQ, op_of l]
  unfold wordQ
  rw [isW_mark (i + 1) [40] (by decide)]
  cases hk : isK L i false 0 with
  | false => simp
  | true =>
   cases hm : L[i + 1]? == some (3, [40]) with
   | false => simp
   | true =>
    by_cases e : txt L i = s
    ·rw [e]
     simp
    ·rw [if_neg (by simp [e])]
     have : (s :: l).contains (txt L i) = l.contains (txt L i) := by simp [e]
     rw [this]
theorem call_sim {o : List UInt8} {R R' : Ress} {T : Nat → Res} (hb : isW L (i + 1) false [40] = true) (ho : txt L i = o) (hR' : T (i + 2) = (.mk [] [] R'.1, R'.2)) (h : Sim R (shutP L R')) : Sim (.mk o [] R.1, R.2) (callP L T i) := by
 unfold callP
 rw [hb, iftf, hR']
 obtain ⟨l', j', b'⟩ := R'
 obtain ⟨l, j, b⟩ := R
 obtain ⟨h1, h2⟩ := h
 unfold shutP at h1 h2
 dsimp only [Nod.tx, Nod.ks] at h1 h2 ⊢
 cases b' with
 | true =>
  rw [ift] at h1 h2 ⊢
  cases h1
  exact Sim.bad
 | false =>
  rw [iff'] at h1 h2 ⊢
  cases c : isW L j' false [41] with
  | true =>
   rw [must_yes c] at h1 h2
   cases h1
   rw [ift, ho, h2 rfl]
   exact Sim.refl _
  | false =>
   rw [must_no c] at h1 h2
   cases h1
   rw [iff']
   exact Sim.bad
theorem query_sim (f : Nat) (hi : i ≤ L.length) (hL : L.length ≤ 4194304) : Sim (qq L (f + 1) i false) (queryP L (fun j => qq L f j false) i) := by
 rw [qq]
 unfold queryP
 rw [op_of]
 cases c : (isK L i false 0 && (isW L (i + 1) false [40] && opsQ.contains (txt L i))) with
 | false =>
  rw [iff', iff', if_pos rfl]
  unfold nameP
  cases cn : nmOk L i with
  | false => rw [nm_no cn, iff']; exact Sim.bad
  | true => rw [nm_yes cn, ift]; exact Sim.refl _
 | true =>
  rw [ift, ift]
  simp only [Bool.and_eq_true] at c
  obtain ⟨c1, c2, c3⟩ := c
  have hm : txt L i ∈ opsQ := by simpa using c3
  have hne : txt L i ≠ [] := by intro e; rw [e] at hm; revert hm; decide
  rw [if_neg hne]
  have hil := isW_lt c2
  exact call_sim c2 rfl rfl (body_sim (fun j c hj => qq_ends L f j c hj) (by omega) hL hm)
end
end Go.Proofs.YtjbpkpfmgbhlpaaGreatDoor.Code
/-
  The document's reader of expressions: the other half of a test.
-/
namespace Go.Proofs.YtjbpkpfmgbhlpaaGreatDoor.Code
open Go.ChangeShapes Go.WideShapes Go.ChangeAt Go.RowKit Val Elems
set_option linter.unusedVariables false
set_option linter.unusedSimpArgs false
section
variable {r : Nat} {A : Option Addr} {cap : Nat} {l : List W} {f : Nat}
end
def atOf (w : World) (r : Nat) : Nat := match w.cell? ⟨r, 1, none⟩ with | some (.int _ n) => n.toNat | _ => 0
section
variable {r : Nat} {A : Option Addr} {cap : Nat} {l : List W} {f : Nat}
end
section
variable {r : Nat} {A : Option Addr} {cap : Nat} {l : List W} {f : Nat}
theorem loop_end {lv : Nat} {t : Tr} {j : Nat} {b : Bool} (n : Nat) (hq : oneL (bare l) j b (opsL lv) = []) : P (bare l) (n + 2) (.loop lv t) j b = (t, j, b) := by rw [P, if_pos hq]
theorem loop_next {lv : Nat} (hlv : 1 ≤ lv ∧ lv ≤ 6) {t y : Tr} {j j2 : Nat} {b b2 : Bool} {q : List UInt8} (hj : j < l.length) (hq : oneL (bare l) j b (opsL lv) = q) (hq0 : q ≠ []) (hf : mu (bare l) (.expr (lv + 1)) (j + 1) < f) (hx : P (bare l) f (.expr (lv + 1)) (j + 1) b = (y, j2, b2)) :
  P (bare l) (16 * (l.length - j) + 2) (.loop lv t) j b = P (bare l) (16 * (l.length - j2) + 2) (.loop lv (.two q t y)) j2 b2 ∧ j + 1 ≤ j2 ∧ j2 ≤ l.length := by
 have he := P_ends (bare l) f (.expr (lv + 1)) (j + 1) b (by rw [bare_length]; omega)
 rw [hx, bare_length] at he
 have hm := mu_next (L := bare l) (by rw [bare_length]; exact hj) (.expr (lv + 1)) (.loop lv t) ⟨by omega, by omega⟩ (Nat.le_refl 1)
 have e1 : mu (bare l) (.loop lv t) j = 16 * ((bare l).length - j) + 1 := rfl
 have e2 : mu (bare l) (.loop lv (.two q t y)) j2 = 16 * ((bare l).length - j2) + 1 := rfl
 rw [bare_length] at e1 e2
 have hs := P_steps (bare l) (16 * (l.length - j) + 1) f (.expr (lv + 1)) (j + 1) b (by rw [bare_length]; omega) ⟨by omega, by omega⟩ (by omega) hf
 rw [hx] at hs
 refine ⟨?_, he.1, he.2.1⟩
 rw [show 16 * (l.length - j) + 2 = (16 * (l.length - j) + 1) + 1 from rfl, P, hq, if_neg hq0, hs]
 have h1 : j + 1 ≤ j2 := he.1
 have h2 : j2 ≤ l.length := he.2.1
 exact P_steps _ _ _ _ _ _ (by rw [bare_length]; exact he.2.1) ⟨by omega, by omega⟩ (by rw [e2]; omega) (by rw [e2]; omega)
theorem loop_begin {lv : Nat} (hlv : lv = 1 ∨ lv = 2 ∨ lv = 5 ∨ lv = 6) {x : Tr} {i j : Nat} {b b2 : Bool} (hi : i ≤ l.length) (hm : mu (bare l) (.expr lv) i < f + 1) (hx : P (bare l) f (.expr (lv + 1)) i b = (x, j, b2)) : P (bare l) (16 * (l.length - j) + 2) (.loop lv x) j b2 = P (bare l) (f + 1) (.expr lv) i b ∧ j ≤ l.length := by
 have he := P_ends (bare l) f (.expr (lv + 1)) i b (by rw [bare_length]; exact hi)
 rw [hx, bare_length] at he
 have h1 : i ≤ j := he.1
 have h2 : j ≤ l.length := he.2.1
 have e0 : mu (bare l) (.expr lv) i = 16 * ((bare l).length - i) + (17 - 2 * lv) := rfl
 have e1 : mu (bare l) (.loop lv x) j = 16 * ((bare l).length - j) + 1 := rfl
 rw [bare_length] at e0 e1
 refine ⟨?_, h2⟩
 rw [P, if_neg (by omega), if_neg (by omega), if_neg (by omega), hx]
 exact P_steps _ _ _ _ _ _ (by rw [bare_length]; exact h2) ⟨by omega, by omega⟩ (by rw [e1]; omega) (by rw [e1]; omega)
theorem opsL_few {lv : Nat} (hlv : lv = 1 ∨ lv = 2 ∨ lv = 5 ∨ lv = 6) : (opsL lv).length ≤ 100 ∧ [] ∉ opsL lv := by
 rcases hlv with rfl | rfl | rfl | rfl <;> exact ⟨by decide, by decide⟩
end
theorem swapO {B : Nat} {a w : World} {o o' : Obj} (h : Below B a (w.alloc o)) (hB : B ≤ w.heap.size) : Below B a (w.alloc o') :=
 ⟨h.os, h.tape, h.output, by have := h.size; simp at *; omega, fun k hk => (Below.heap_alloc w o' k (by omega)).trans ((Below.heap_alloc w o k (by omega)).symm.trans (h.block k hk))⟩
end Go.Proofs.YtjbpkpfmgbhlpaaGreatDoor.Code
/-
  The document's reader of expressions does as it should, with any number of steps.
-/
namespace Go.Proofs.YtjbpkpfmgbhlpaaGreatDoor.Code
open Go.ChangeShapes Go.WideShapes Go.ChangeAt Go.RowKit Val Elems
set_option linter.unusedVariables false
section
variable {r : Nat} {A : Option Addr} {cap : Nat} {l : List W} {f : Nat}
def fromP (L : List V) (i : Nat) : Tr × Nat × Bool := P L (stepsN L) (.expr 1) i false
end
end Go.Proofs.YtjbpkpfmgbhlpaaGreatDoor.Code
/-
  The document's reader of queries in memory; whether a word comes with a mark behind it.
-/
namespace Go.Proofs.YtjbpkpfmgbhlpaaGreatDoor.Code
open Go.ChangeShapes Go.WideShapes Go.ChangeAt Go.RowKit Val Elems
set_option linter.unusedVariables false
set_option linter.unusedSimpArgs false
section
variable {w w' : World} {r q : Nat} {A : Option Addr} {cap : Nat} {l : List W} {i j : Nat} {b c : Bool}
end
theorem info_node : (Tryz.prog.info? 25).map (fun i => (i.zero, i.size, i.bytes)) = some (some (.agg #[.string ByteArray.empty, .string ByteArray.empty, .slice none 0 0]), 3, 56) := by kernel_rfl
def Apart (w wr : World) (X : Option Addr) (g : Nat) : Prop := w.heap.size ≤ g ∧ g < wr.heap.size ∧ ∀ ad, X = some ad → ad.block ≠ g
theorem own_but {w w' : World} {B r n k : Nat} {e : TypeId} {v : Value} {xs : List Value} (h : w.ownsRow B e k v n xs) (hb : But w w' r) (hB : r < B) : w'.ownsRow B e k v n xs :=
 h.kept (row := some r) ⟨hb.os, hb.tape, hb.output, hb.size, fun j hj hn => hb.block j hj (fun e => hn (by rw [e]))⟩ (by
  by_cases hv : v.ownBlock = some r
  ·have := (h.lt r hv).1
   omega
  ·exact .inr hv)
theorem But.grown {w w8 w9 : World} {r : Nat} {row : Option Nat} (h : But w w8 r) (hg : w8.grownBy w9 row) (hrow : ∀ k, row = some k → w.heap.size ≤ k) : But w w9 r :=
 ⟨hg.os.trans h.os, hg.tape.trans h.tape, hg.output.trans h.output, Nat.le_trans h.size hg.size, fun k hk hn => (hg.block k (Nat.lt_of_lt_of_le hk h.size) (fun e => by have := hrow k e.symm; omega)).trans (h.block k hk hn)⟩
theorem NBox.grown {w w9 : World} {g : Nat} {a b c : Value} {row : Option Nat} (h : NBox w g a b c) (hg : w.grownBy w9 row) (hn : row ≠ some g) : NBox w9 g a b c := by
 have hk : ∀ j, w9.cell? ⟨g, j, none⟩ = w.cell? ⟨g, j, none⟩ := fun j => by
  unfold World.cell?
  rw [hg.block g h.lt hn.symm]
 have hf : ∀ j, w9.frozen? ⟨g, j, none⟩ = w.frozen? ⟨g, j, none⟩ := fun j => by
  unfold World.frozen?
  rw [hg.block g h.lt hn.symm]
 exact ⟨(hk 0).trans h.c0, (hk 1).trans h.c1, (hk 2).trans h.c2, fun j => (hf j).trans (h.fr j)⟩
theorem NBox.kid {w : World} {g : Nat} {a b c : Value} (h : NBox w g a b c) (z : Value) : NBox (w.setCell ⟨g, 2, none⟩ z) g a b z :=
 ⟨(World.cell?_setCell_other _ _ _ _ (by simp)).trans h.c0, (World.cell?_setCell_other _ _ _ _ (by simp)).trans h.c1, World.cell?_setCell_same _ _ _ h.c2, fun j => by rw [World.frozen?_setCell]; exact h.fr j⟩
theorem NBox.far {w : World} {g : Nat} {a b c : Value} (h : NBox w g a b c) (p : Addr) (hp : p.block ≠ g) (z : Value) : NBox (w.setCell p z) g a b c :=
 ⟨(World.cell?_setCell_other _ _ _ _ (fun e => hp (by rw [e]))).trans h.c0, (World.cell?_setCell_other _ _ _ _ (fun e => hp (by rw [e]))).trans h.c1, (World.cell?_setCell_other _ _ _ _ (fun e => hp (by rw [e]))).trans h.c2, fun j => by rw [World.frozen?_setCell]; exact h.fr j⟩
theorem own_set {w : World} {B n k : Nat} {e : TypeId} {v : Value} {xs : List Value} (h : w.ownsRow B e k v n xs) (p : Addr) (hp : p.block < B) (u : Value) : (w.setCell p u).ownsRow B e k v n xs :=
 h.kept (row := some p.block) ⟨rfl, rfl, rfl, by simp, fun j hj hn => Below.heap_setCell w p u j (fun e => hn (by rw [e]))⟩ (by
  by_cases hv : v.ownBlock = some p.block
  ·have := (h.lt _ hv).1
   omega
  ·exact .inr hv)
abbrev NVBox (w : World) (g : Nat) (y : NV) : Prop := NBox w g (.string y.1) (.string y.2.1) (.slice y.2.2.1 y.2.2.2.1 y.2.2.2.2)
section
variable {r : Nat} {m : Int} {A : Option Addr} {cap : Nat} {l : List W} {qb qa : Nat}
def GiveE (r : Nat) (m : Int) (A : Option Addr) (cap : Nat) (l : List W) (qb qa g : Nat) (T : Option (Nat → Nod)) (Pre : World → Prop) (k i : Nat) (w : World) (res : Res) (e : Ending) (w' : World) : Prop :=
 ∃ (op tx : ByteArray) (X : Option Addr) (n c : Nat), e = .returned (.tuple #[.agg #[.string op, .string tx, .slice X n c], .bool (!res.2.2)]) ∧ (res.2.2 = false → RIn w' (New w w') res.1 (op, tx, X, n, c)) ∧ But2 w w' r g ∧ Rq w' r m A cap l qb qa res.2.1 ∧ Pre w' ∧ (k ≠ 1 → But w w' r) ∧
  (∀ t, T = some t → k = 1 → res.2.2 = false → ∃ y : NV, NVBox w' g y ∧ RIn w' (New w w') (t i) y)
theorem GiveN.part {g : Nat} {Pre : World → Prop} {k i : Nat} {w w' : World} {res : Res} {e : Ending} (h : GiveN r m A cap l qb qa w res e w') (hp : Pre w') : GiveE r m A cap l qb qa g none Pre k i w res e w' := by
 obtain ⟨op, tx, X, n, c, he, hn, hb, hr⟩ := h
 exact ⟨op, tx, X, n, c, he, hn, hb.two g, hr, hp, fun _ => hb, fun t h => by cases h⟩
theorem GiveN.part' {g : Nat} {T : Option (Nat → Nod)} {Pre : World → Prop} {k i : Nat} {w w' : World} {res : Res} {e : Ending} (h : GiveN r m A cap l qb qa w res e w') (hp : Pre w') (hk : k ≠ 1) : GiveE r m A cap l qb qa g T Pre k i w res e w' := by
 obtain ⟨op, tx, X, n, c, he, hn, hb, hr⟩ := h
 exact ⟨op, tx, X, n, c, he, hn, hb.two g, hr, hp, fun _ => hb, fun t _ h => absurd h hk⟩
def ElemC (fn : Nat) (cps : Array Value) (r : Nat) (m : Int) (A : Option Addr) (cap : Nat) (l : List W) (qb qa g : Nat) (T : Option (Nat → Nod)) (Pre : World → Prop) (i0 : Nat) (el : Nat → Nat → Res) : Prop :=
 ∀ (k i : Nat) (w : World), i0 ≤ i → i ≤ l.length → k ≤ 4194306 → Rq w r m A cap l qb qa i → Pre w → Calls Tryz.prog fn (#[.int .i64 k] ++ cps) w (GiveE r m A cap l qb qa g T Pre k i w (el k i))
def GiveL (r : Nat) (m : Int) (A : Option Addr) (cap : Nat) (l : List W) (qb qa g : Nat) (T : Option (Nat → Nod)) (Pre : World → Prop) (j1 : Nat) (w : World) (R : Ress) (e : Ending) (w' : World) : Prop :=
 ∃ (op tx : ByteArray) (X : Option Addr) (n c : Nat), e = .returned (.tuple #[.agg #[.string op, .string tx, .slice X n c], .bool (!R.2.2)]) ∧ (R.2.2 = false → RIn w' (New w w') (.mk [] [] R.1) (op, tx, X, n, c)) ∧ But2 w w' r g ∧ Rq w' r m A cap l qb qa R.2.1 ∧ Pre w' ∧
  (R.2.2 = false → ∃ xs : List NV, n = xs.length ∧ w'.ownsRow w.heap.size 25 3 (.slice X n c) n (flatC nc xs) ∧ RAll w' (Apart w w' X) R.1 xs) ∧
  (∀ t, T = some t → R.2.2 = false → 2 ≤ R.1.length → ∃ y : NV, NVBox w' g y ∧ RIn w' (Apart w w' X) (t j1) y)
def LS (w wr : World) (X : Option Addr) (k : Nat) : Prop := w.heap.size + 1 < k ∧ k < wr.heap.size ∧ ∀ ad, X = some ad → ad.block ≠ k
structure LsK (r : Nat) (m : Int) (A : Option Addr) (cap : Nat) (l : List W) (qb qa g : Nat) (T : Option (Nat → Nod)) (Pre : World → Prop) (j1 : Nat) (w : World) (j : Nat) (ks : List Nod) (xs : List NV) (X : Option Addr) (cp : Nat) (w' : World) : Prop where
 nb : NBox w' w.heap.size (.string ⟨#[]⟩) (.string ⟨#[]⟩) (.slice none 0 0)
 mb : NBox w' (w.heap.size + 1) (.string ⟨#[]⟩) (.string ⟨#[]⟩) (.slice X xs.length cp)
 own : w'.ownsRow (w.heap.size + 2) 25 3 (.slice X xs.length cp) xs.length (flatC nc xs)
 all : RAll w' (LS w w' X) ks xs
 but : But2 w w' r g
 rd : Rq w' r m A cap l qb qa j
 pre : Pre w'
 ex : ∀ t, T = some t → 2 ≤ ks.length → ∃ y : NV, NVBox w' g y ∧ RIn w' (LS w w' X) (t j1) y
theorem NBox.but2 {w w' : World} {g r h : Nat} {a b c : Value} (hb : NBox w g a b c) (hg : g ≠ r) (hh : g ≠ h) (hbb : But2 w w' r h) : NBox w' g a b c := by
 have hl := hb.lt
 exact ⟨(hbb.cell (q := ⟨g, 0, none⟩) hl hg hh).trans hb.c0, (hbb.cell (q := ⟨g, 1, none⟩) hl hg hh).trans hb.c1, (hbb.cell (q := ⟨g, 2, none⟩) hl hg hh).trans hb.c2, fun j => (hbb.frozen (q := ⟨g, j, none⟩) hl hg hh).trans (hb.fr j)⟩
theorem own_but2 {w w' : World} {B r g n k : Nat} {e : TypeId} {v : Value} {xs : List Value} (h : w.ownsRow B e k v n xs) (hb : But2 w w' r g) (hB : r < B) (hg : g < B) : w'.ownsRow B e k v n xs := by
 refine ⟨h.1, ?_⟩
 rcases h.2 with hn | ⟨o, cap, cur, e, hb', hgg, rest⟩
 ·exact .inl hn
 ·refine .inr ⟨o, cap, cur, e, hb', ?_, rest⟩
  rw [hb.block o (Array.getElem?_eq_some_iff.1 hgg).1 (by omega) (by omega)]
  exact hgg
theorem But2.grown {w w8 w9 : World} {r g : Nat} {row : Option Nat} (h : But2 w w8 r g) (hg : w8.grownBy w9 row) (hrow : ∀ k, row = some k → w.heap.size ≤ k) : But2 w w9 r g :=
 ⟨hg.os.trans h.os, hg.tape.trans h.tape, hg.output.trans h.output, Nat.le_trans h.size hg.size, fun k hk hn hm => (hg.block k (Nat.lt_of_lt_of_le hk h.size) (fun e => by have := hrow k e.symm; omega)).trans (h.block k hk hn hm)⟩
theorem Rq.under {w w' : World} {B i : Nat} (h : Rq w r m A cap l qb qa i) (hb : Below B w w') (hr : r < B) (hq : qb < B) (ha : qa < B) : Rq w' r m A cap l qb qa i :=
 ⟨⟨(hb.cell (p := ⟨r, 0, none⟩) hr).trans h.rd.c0, (hb.cell (p := ⟨r, 1, none⟩) hr).trans h.rd.c1, fun j => (hb.frozen (p := ⟨r, j, none⟩) hr).trans (h.rd.fr j), h.rd.ws.below (hb.mono (Nat.le_of_lt hr)), h.rd.ev.below (hb.mono (Nat.le_of_lt hr))⟩, (hb.cell (p := ⟨r, 2, none⟩) hr).trans h.c2, (hb.cell (p := ⟨r, 3, none⟩) hr).trans h.c3, h.mq.heap (hb.block _ hq), h.ma.heap (hb.block _ ha), h.nq, h.na⟩
def Firm (r : Nat) (Pre : World → Prop) (w : World) : Prop := ∀ w1 w2 : World, (∀ k, k < w.heap.size → k ≠ r → w2.heap[k]? = w1.heap[k]?) → Pre w1 → Pre w2
section
variable {g : Nat} {T : Option (Nat → Nod)} {Pre : World → Prop} {j1 : Nat} {w w' w8 : World} {j j' : Nat} {ks : List Nod} {xs : List NV} {X : Option Addr} {cp : Nat}
theorem LsK.next (h : LsK r m A cap l qb qa g T Pre j1 w j ks xs X cp w') (hr : r < w.heap.size) (hT : ∀ t, T = some t → g ≠ r) (hP : Firm r Pre w) (hb : But w' w8 r) (hQ : Rq w8 r m A cap l qb qa j') : LsK r m A cap l qb qa g T Pre j1 w j' ks xs X cp w8 := by
 have hs : ∀ k, LS w w' X k → LS w w8 X k := fun k hk => ⟨hk.1, Nat.lt_of_lt_of_le hk.2.1 hb.size, hk.2.2⟩
 have hc : ∀ p : Addr, LS w w' X p.block → w8.cell? p = w'.cell? p := fun p hp => hb.cell hp.2.1 (by have := hp.1; omega)
 have hz := h.but.size
 refine ⟨h.nb.but (by omega) hb, h.mb.but (by omega) hb, own_but h.own hb (by omega), h.all.keep hs hc, h.but.trans (hb.two g), hQ, hP _ _ (fun k hk hn => hb.block k (by omega) hn) h.pre, fun t ht h2 => ?_⟩
 obtain ⟨y, hy, hi⟩ := h.ex t ht h2
 exact ⟨y, hy.but (hT t ht) hb, hi.keep hs hc⟩
theorem LsK.part (h : LsK r m A cap l qb qa g T Pre j1 w j ks xs X cp w') (hr : r < w.heap.size) (hg : g < w.heap.size) (hT : ∀ t, T = some t → g ≠ r) (hb : But2 w' w8 r g) (hQ : Rq w8 r m A cap l qb qa j') (hp : Pre w8) (hk : ks.length ≠ 1 → But w' w8 r) : LsK r m A cap l qb qa g T Pre j1 w j' ks xs X cp w8 := by
 have hs : ∀ k, LS w w' X k → LS w w8 X k := fun k hk => ⟨hk.1, Nat.lt_of_lt_of_le hk.2.1 hb.size, hk.2.2⟩
 have hc : ∀ p : Addr, LS w w' X p.block → w8.cell? p = w'.cell? p := fun p hp => hb.cell hp.2.1 (by have := hp.1; omega) (by have := hp.1; omega)
 refine ⟨h.nb.but2 (by omega) (by omega) hb, h.mb.but2 (by omega) (by omega) hb, own_but2 h.own hb (by omega) (by omega), h.all.keep hs hc, h.but.trans hb, hQ, hp, fun t ht h2 => ?_⟩
 obtain ⟨y, hy, hi⟩ := h.ex t ht h2
 exact ⟨y, hy.but (hT t ht) (hk (by omega)), hi.keep hs hc⟩
theorem LsK.add {w9 : World} {t0 : Nod} {y0 : NV} {N gg cap9 : Nat} (h : LsK r m A cap l qb qa g T Pre j1 w j ks xs X cp w8) (hr : r < w.heap.size) (hq : qb < w.heap.size) (ha : qa < w.heap.size) (hgl : g < w.heap.size) (hP : Firm r Pre w) (hN : xs.length = N)
  (hy0 : RIn w8 (LS w w8 X) t0 y0) (hx : ∀ t, T = some t → ks.length = 1 → ∃ y : NV, NVBox w8 g y ∧ RIn w8 (LS w w8 X) (t j1) y)
  (hown9 : w9.ownsRow (w.heap.size + 2) 25 3 (.slice (some ⟨gg, 0, none⟩) (N + 1) cap9) (N + 1) (flatC nc xs ++ nc y0)) (hg : w8.grownBy w9 (Value.slice X N cp).ownBlock) (hat : (Value.slice X N cp).ownBlock = some gg ∨ gg = w8.heap.size) :
  LsK r m A cap l qb qa g T Pre j1 w j (ks ++ [t0]) (xs ++ [y0]) (some ⟨gg, 0, none⟩) cap9 (w9.setCell ⟨w.heap.size + 1, 2, none⟩ (.slice (some ⟨gg, 0, none⟩) (N + 1) cap9)) := by
 subst hN
 have hl : (xs ++ [y0]).length = xs.length + 1 := by simp
 have hfl : flatC nc (xs ++ [y0]) = flatC nc xs ++ nc y0 := flatC_snoc xs y0
 have hrow : ∀ k, (Value.slice X xs.length cp).ownBlock = some k → w.heap.size + 2 ≤ k := fun k e => (h.own.lt k e).1
 have h0 := h.but.size
 have hz := hg.size
 have hgn := h.mb.lt
 have hgg : w.heap.size + 2 ≤ gg := by
  rcases hat with e | e
  ·exact hrow _ e
  ·omega
 have hB : Below w.heap.size w8 w9 := ⟨hg.os, hg.tape, hg.output, hg.size, fun k hk => hg.block k (by omega) (fun e => by have := hrow k e.symm; omega)⟩
 have hne : ∀ k, LS w w8 X k → (Value.slice X xs.length cp).ownBlock ≠ some k := by
  intro k hk e
  cases X with
  | none => cases e
  | some ad => exact hk.2.2 ad rfl (Option.some.inj e)
 have hk : ∀ p : Addr, LS w w8 X p.block → (w9.setCell ⟨w.heap.size + 1, 2, none⟩ (.slice (some ⟨gg, 0, none⟩) (xs.length + 1) cap9)).cell? p = w8.cell? p := by
  intro p hp
  rw [World.cell?_setCell_other _ _ _ _ (fun e => by have := hp.1; rw [← e] at this; simp at this)]
  unfold World.cell?
  rw [hg.block p.block hp.2.1 (hne _ hp).symm]
 have hs : ∀ k, LS w w8 X k → LS w (w9.setCell ⟨w.heap.size + 1, 2, none⟩ (.slice (some ⟨gg, 0, none⟩) (xs.length + 1) cap9)) (some ⟨gg, 0, none⟩) k := fun k hk => by
  refine ⟨hk.1, by have := hk.2.1; simp; omega, fun ad e => ?_⟩
  cases e
  rcases hat with e | e
  ·exact fun e' => hne k hk (by rw [e, ← e'])
  ·have := hk.2.1
   show gg ≠ k
   omega
 refine ⟨(h.nb.grown hg (fun e => by have := hrow _ e; omega)).far _ (by show w.heap.size + 1 ≠ _; omega) _, ?_, ?_, ?_, ?_, ?_, ?_, ?_⟩
 ·rw [hl]
  exact (h.mb.grown hg (fun e => by have := hrow _ e; omega)).kid _
 ·rw [hl, hfl]
  exact own_set hown9 _ (by show w.heap.size + 1 < w.heap.size + 2; omega) _
 ·exact (h.all.keep hs hk).snoc (hy0.keep hs hk)
 ·exact (h.but.grown hg (fun k e => by have := hrow k e; omega)).new _ (by show w.heap.size ≤ w.heap.size + 1; omega) _
 ·exact (h.rd.under hB hr hq ha).new _ (by show r < w.heap.size + 1; omega) (by show w.heap.size + 1 ≠ qb; omega) (by show w.heap.size + 1 ≠ qa; omega) _
 ·refine hP _ _ (fun k hk hn => ?_) h.pre
  rw [Below.heap_setCell w9 ⟨w.heap.size + 1, 2, none⟩ _ k (by show k ≠ w.heap.size + 1; omega)]
  exact hB.block k hk
 ·intro t ht h2
  have hbg : ∀ y : NV, NVBox w8 g y → NVBox (w9.setCell ⟨w.heap.size + 1, 2, none⟩ (.slice (some ⟨gg, 0, none⟩) (xs.length + 1) cap9)) g y := fun y hy =>
   (hy.grown hg (fun e => by have := hrow _ e; omega)).far _ (by show w.heap.size + 1 ≠ g; omega) _
  have hlen : ks.length = 1 ∨ 2 ≤ ks.length := by rw [List.length_append, List.length_singleton] at h2; omega
  rcases hlen with h1 | h1
  ·obtain ⟨y, hy, hi⟩ := hx t ht h1
   exact ⟨y, hbg y hy, hi.keep hs hk⟩
  ·obtain ⟨y, hy, hi⟩ := h.ex t ht h1
   exact ⟨y, hbg y hy, hi.keep hs hk⟩
theorem own_base {w : World} {B B' n k : Nat} {e : TypeId} {v : Value} {xs : List Value} (h : w.ownsRow B e k v n xs) (hB : B' ≤ B) : w.ownsRow B' e k v n xs := by
 refine ⟨h.1, ?_⟩
 rcases h.2 with hn | ⟨o, cap, cur, e, hb', rest⟩
 ·exact .inl hn
 ·exact .inr ⟨o, cap, cur, e, Nat.le_trans hB hb', rest⟩
theorem LsK.told (h : LsK r m A cap l qb qa g T Pre j1 w j ks xs X cp w') (hr : r < w.heap.size) (hq : qb < w.heap.size) (ha : qa < w.heap.size) (hgl : g < w.heap.size) (hP : Firm r Pre w) (hk : ks.length ≤ 1000000000) {N : Nat} (hN : xs.length = N) :
  GiveL r m A cap l qb qa g T Pre j1 w (ks, j, false) (.returned (.tuple #[.agg #[.string ⟨#[]⟩, .string ⟨#[]⟩, .slice X N cp], .bool true])) (W3 w' w.heap.size (.string ⟨#[]⟩) (.string ⟨#[]⟩) (.slice X N cp)) := by
 subst hN
 have hown := h.own
 obtain ⟨A', cap', e, hat, hcp⟩ := own_nat h.own
 injection e with e _ e2
 subst e e2
 have hw3 : ∀ k, New w (W3 w' w.heap.size (.string ⟨#[]⟩) (.string ⟨#[]⟩) (.slice X xs.length cp)) k ↔ New w w' k := fun k => by unfold New; rw [W3.size]
 have hap : ∀ k, LS w w' X k → Apart w (W3 w' w.heap.size (.string ⟨#[]⟩) (.string ⟨#[]⟩) (.slice X xs.length cp)) X k := fun k hk => ⟨by have := hk.1; omega, by rw [W3.size]; exact hk.2.1, hk.2.2⟩
 have hcc : ∀ p : Addr, LS w w' X p.block → (W3 w' w.heap.size (.string ⟨#[]⟩) (.string ⟨#[]⟩) (.slice X xs.length cp)).cell? p = w'.cell? p := fun p hp => by
  unfold W3
  rw [World.cell?_setCell_other _ _ _ _ (fun e => by have := hp.1; rw [← e] at this; dsimp only at this; omega), World.cell?_setCell_other _ _ _ _ (fun e => by have := hp.1; rw [← e] at this; dsimp only at this; omega), World.cell?_setCell_other _ _ _ _ (fun e => by have := hp.1; rw [← e] at this; dsimp only at this; omega)]
 have hg : ¬ (fun k => w.heap.size < k ∧ k < w'.heap.size) w.heap.size := fun h => Nat.lt_irrefl _ h.1
 have hs : ∀ k, (fun k => w.heap.size < k ∧ k < w'.heap.size) k → New w (W3 w' w.heap.size (.string ⟨#[]⟩) (.string ⟨#[]⟩) (.slice X xs.length cp)) k := fun k hk => ⟨Nat.le_of_lt hk.1, by rw [W3.size]; exact hk.2⟩
 have hls : ∀ k, LS w w' X k → w.heap.size < k ∧ k < w'.heap.size := fun k hk => ⟨by have := hk.1; omega, hk.2.1⟩
 have h1 := RIn.made cp ⟨#[]⟩ ⟨#[]⟩ (hat.keep (S' := fun k => w.heap.size < k ∧ k < w'.heap.size) (fun k hk => ⟨by have := hk.1; omega, hk.2⟩) (fun _ _ => rfl)) (h.all.keep (S' := fun k => w.heap.size < k ∧ k < w'.heap.size) hls (fun _ _ => rfl)) hk (by rw [← h.all.1]; exact hcp)
 rw [← h.all.1] at h1
 refine ⟨⟨#[]⟩, ⟨#[]⟩, X, xs.length, cp, rfl, fun _ => (h1.w3 hg _ _ _).imp hs, ((h.but.new _ (Nat.le_refl _) _).new _ (Nat.le_refl _) _).new _ (Nat.le_refl _) _, h.rd.w3 hr (by omega) (by omega) _ _ _, ?_, fun _ => ⟨xs, rfl, ?_, h.all.keep hap hcc⟩, fun t ht _ h2 => ?_⟩
 ·refine hP _ _ (fun k hk hn => ?_) h.pre
  unfold W3
  rw [Below.heap_setCell _ ⟨w.heap.size, 2, none⟩ _ k (by show k ≠ w.heap.size; omega), Below.heap_setCell _ ⟨w.heap.size, 1, none⟩ _ k (by show k ≠ w.heap.size; omega), Below.heap_setCell _ ⟨w.heap.size, 0, none⟩ _ k (by show k ≠ w.heap.size; omega)]
 ·exact own_base (own_set (own_set (own_set hown _ (by show w.heap.size < w.heap.size + 2; omega) _) _ (by show w.heap.size < w.heap.size + 2; omega) _) _ (by show w.heap.size < w.heap.size + 2; omega) _) (by omega)
 ·obtain ⟨y, hy, hi⟩ := h.ex t ht h2
  exact ⟨y, ((hy.far ⟨w.heap.size, 0, none⟩ (by show w.heap.size ≠ g; omega) _).far ⟨w.heap.size, 1, none⟩ (by show w.heap.size ≠ g; omega) _).far ⟨w.heap.size, 2, none⟩ (by show w.heap.size ≠ g; omega) _, hi.keep hap hcc⟩
theorem LsK.wrong (h : LsK r m A cap l qb qa g T Pre j1 w j ks xs X cp w') (hr : r < w.heap.size) (hq : qb < w.heap.size) (ha : qa < w.heap.size) (hP : Firm r Pre w) (zs : List Nod) :
  GiveL r m A cap l qb qa g T Pre j1 w (zs, j, true) (.returned (.tuple #[.agg #[.string ⟨#[]⟩, .string ⟨#[]⟩, .slice none 0 0], .bool false])) (W3 w' w.heap.size (.string ⟨#[]⟩) (.string ⟨#[]⟩) (.slice none 0 0)) := by
 refine ⟨⟨#[]⟩, ⟨#[]⟩, none, 0, 0, rfl, (fun e => by cases e), ((h.but.new _ (Nat.le_refl _) _).new _ (Nat.le_refl _) _).new _ (Nat.le_refl _) _, h.rd.w3 hr (by omega) (by omega) _ _ _, ?_, (fun e => by cases e), (fun t ht e => by cases e)⟩
 refine hP _ _ (fun k hk hn => ?_) h.pre
 unfold W3
 rw [Below.heap_setCell _ ⟨w.heap.size, 2, none⟩ _ k (by show k ≠ w.heap.size; omega), Below.heap_setCell _ ⟨w.heap.size, 1, none⟩ _ k (by show k ≠ w.heap.size; omega), Below.heap_setCell _ ⟨w.heap.size, 0, none⟩ _ k (by show k ≠ w.heap.size; omega)]
end
theorem GiveL.node {w w' : World} {Pre : World → Prop} {j1 : Nat} {R : Ress} {e : Ending} (h : GiveL r m A cap l qb qa r none Pre j1 w R e w') : GiveN r m A cap l qb qa w (.mk [] [] R.1, R.2) e w' := by
 obtain ⟨op, tx, X, n, c, he, hn, hb, hr, -⟩ := h
 exact ⟨op, tx, X, n, c, he, hn, hb.one, hr⟩
def lenOf (w : World) (g : Nat) : Nat := match w.cell? ⟨g, 2, none⟩ with | some (.slice _ n _) => n | _ => 0
theorem NBox.lenOf {w : World} {g : Nat} {a b : Value} {X : Option Addr} {n c : Nat} (h : NBox w g a b (.slice X n c)) : Code.lenOf w g = n := by
 unfold Code.lenOf
 rw [h.c2]
end
end Go.Proofs.YtjbpkpfmgbhlpaaGreatDoor.Code
