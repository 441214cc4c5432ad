/-
  The program's reader of queries in memory; the word that comes, a mark, what is taken; whether a word is a name; a name as a node.
-/
import Derived.Test.YtjbpkpfmgbhlpaaGreatDoorMr5
import Derived.Test.YtjbpkpfmgbhlpaaGreatDoorMr6
set_option maxRecDepth 100000
set_option maxHeartbeats 16000000
open Go.Lib (hid)
namespace Go.Proofs.YtjbpkpfmgbhlpaaGreatDoor.Code
open Go.ChangeShapes Go.WideShapes Go.ChangeAt Go.RowKit Val Elems
set_option linter.unusedVariables false
set_option linter.unusedSimpArgs false
def fv (f : Nat) : Value := .func (.func f) #[] #[]
def queriesF : ByteArray → Option Value :=
 mput (mput (mput (mput (mput (mput (fun _ => none) ⟨#[102, 105, 108, 116, 101, 114]⟩ (fv 45)) ⟨#[112, 114, 111, 106, 101, 99, 116]⟩ (fv 46)) ⟨#[106, 111, 105, 110]⟩ (fv 47))
  ⟨#[117, 110, 105, 111, 110]⟩ (fv 48)) ⟨#[100, 105, 115, 116, 105, 110, 99, 116]⟩ (fv 49)) ⟨#[103, 114, 111, 117, 112]⟩ (fv 50)
def aggsF : ByteArray → Option Value :=
 mput (mput (mput (mput (fun _ => none) ⟨#[99, 111, 117, 110, 116]⟩ (fv 51)) ⟨#[115, 117, 109]⟩ (fv 52)) ⟨#[109, 105, 110]⟩ (fv 52)) ⟨#[109, 97, 120]⟩ (fv 52)
structure Rq (w : World) (r : Nat) (m : Int) (A : Option Addr) (cap : Nat) (l : List W) (qb qa : Nat) (i : Nat) : Prop where
 rd : Rd w r m A cap l i
 c2 : w.cell? ⟨r, 2, none⟩ = some (.map (some qb))
 c3 : w.cell? ⟨r, 3, none⟩ = some (.map (some qa))
 mq : MapR w qb 6 queriesF
 ma : MapR w qa 4 aggsF
 nq : qb ≠ r
 na : qa ≠ r
section
variable {w w' : World} {r : Nat} {m : Int} {A : Option Addr} {cap : Nat} {l : List W} {qb qa i : Nat}
theorem Rq.lt (h : Rq w r m A cap l qb qa i) : r < w.heap.size := h.rd.lt
theorem Rq.below (h : Rq w r m A cap l qb qa i) (hb : Below w.heap.size w w') : Rq w' r m A cap l qb qa i := by
 have hl := h.lt
 exact ⟨h.rd.below hb, (hb.cell (p := ⟨r, 2, none⟩) hl).trans h.c2, (hb.cell (p := ⟨r, 3, none⟩) hl).trans h.c3, h.mq.below hb, h.ma.below hb, h.nq, h.na⟩
theorem Rq.alloc (h : Rq w r m A cap l qb qa i) (o : Obj) : Rq (w.alloc o) r m A cap l qb qa i := h.below (below_alloc w o)
theorem Rq.new (h : Rq w r m A cap l qb qa i) (p : Addr) (hp : r < p.block) (hq : p.block ≠ qb) (ha : p.block ≠ qa) (u : Value) : Rq (w.setCell p u) r m A cap l qb qa i := by
 have hn : ∀ j : Nat, p ≠ ⟨r, j, none⟩ := fun j e => by rw [e] at hp; exact absurd hp (Nat.lt_irrefl _)
 exact ⟨h.rd.new p hp u, (World.cell?_setCell_other _ _ _ _ (hn 2)).trans h.c2, (World.cell?_setCell_other _ _ _ _ (hn 3)).trans h.c3, h.mq.heap (Below.heap_setCell w p u qb (fun e => hq e.symm)), h.ma.heap (Below.heap_setCell w p u qa (fun e => ha e.symm)), h.nq, h.na⟩
theorem Rq.at (h : Rq w r m A cap l qb qa i) (j : Nat) : Rq (w.setCell ⟨r, 1, none⟩ (.int .i64 j)) r m A cap l qb qa j :=
 ⟨h.rd.at j, (World.cell?_setCell_other _ _ _ _ (by simp)).trans h.c2, (World.cell?_setCell_other _ _ _ _ (by simp)).trans h.c3, h.mq.heap (Below.heap_setCell w ⟨r, 1, none⟩ _ qb h.nq), h.ma.heap (Below.heap_setCell w ⟨r, 1, none⟩ _ qa h.na), h.nq, h.na⟩
theorem Rq.ltq (h : Rq w r m A cap l qb qa i) : qb < w.heap.size := h.mq.lt
theorem Rq.lta (h : Rq w r m A cap l qb qa i) : qa < w.heap.size := h.ma.lt
end
def wv (x : W) : Value := .agg #[.int .i64 x.1, .string ⟨x.2.1.toArray⟩, .int .i64 x.2.2]
section
variable {r : Nat} {m : Int} {A : Option Addr} {cap : Nat} {l : List W} {qb qa : Nat}
theorem pword_any (i d : Nat) (w : World) (h : Rq w r m A cap l qb qa i) (hi : i ≤ l.length) (hl : l.length ≤ 4194304) (hd : d ≤ 100) :
  Calls Tryz.prog 53 #[.pointer (some ⟨r, 0, none⟩), .int .i64 d] w fun e w' => e = .returned (wv (wd l (i + d))) ∧ Below w.heap.size w w' := by
 have HW := hid h.rd.ws
 have hrl := h.lt
 obtain ⟨⟨c0, c1, -, -, -⟩, -, -, -, -, -, -⟩ := h
 obtain ⟨j, hj⟩ : ∃ j, i + d = j := ⟨_, rfl⟩
 have ej : IntKind.i64.wrap ((i : Int) + (d : Int)) = (j : Int) := by rw [IntKind.wrap_i64]; omega
 rw [hj]
 unfold wv
 by_cases hil : j < l.length
 ·rw [wd_in hil]
  obtain ⟨ad, rfl, ha, d0, d1, d2⟩ := at_word HW.out j hil
  obtain ⟨x, hxx⟩ : ∃ x, l[j] = x := ⟨_, rfl⟩
  rw [hxx] at d0 d1 d2 ⊢
  obtain ⟨k, t, p⟩ := x
  dsimp only at d0 d1 d2 ⊢
  obtain ⟨T, hT⟩ : ∃ T : ByteArray, ⟨t.toArray⟩ = T := ⟨_, rfl⟩
  rw [hT] at d1 ⊢
  have e1 : decide ((j : Int) < (l.length : Int)) = true := by simp; omega
  have e2 : decide (j < l.length) = true := by simp; omega
  have e3 : (j : Int) < (l.length : Int) := by omega
  have e4 : (0 : Int) ≤ (j : Int) := by omega
  obtain ⟨q, hq⟩ : ∃ q, ad.add (j * 3) = q := ⟨_, rfl⟩
  have hbq : q.block < w.heap.size := by rw [← hq, add_block]; omega
  rw [hq] at d0 d1 d2
  have D0 : ∀ o, (w.alloc o).cell? q = some (.int .i64 k) := fun o => ((below_alloc w o).cell hbq).trans d0
  have D1 : ∀ o, (w.alloc o).cell? ⟨q.block, q.off + 1, none⟩ = some (.string T) := fun o => ((below_alloc w o).cell (p := ⟨q.block, q.off + 1, none⟩) hbq).trans d1
  have D2 : ∀ o, (w.alloc o).cell? ⟨q.block, q.off + 2, none⟩ = some (.int .i64 p) := fun o => ((below_alloc w o).cell (p := ⟨q.block, q.off + 2, none⟩) hbq).trans d2
  clear hxx hT hj hl d0 d1 d2
  go_enter Tryz.func53, Tryz.ntmps53
  go_wp2
  have Y := NBox.fresh w (.int .i64 k) (.string T) (.int .i64 p) 48
  exact bodyPost_ret (v := .agg #[.int .i64 k, .string T, .int .i64 p]) (by simp [results, Tryz.results53, go_sem, Y.c0, Y.c1, Y.c2]) rfl
   ⟨rfl, below_alloc w _⟩
 ·rw [wd_out hil]
  have e1 : decide ((j : Int) < (l.length : Int)) = false := by simp; omega
  have e2 : decide (j < l.length) = false := by simp; omega
  clear hil hj hl
  go_enter Tryz.func53, Tryz.ntmps53
  go_wp2
  have Y := NBox.fresh w (.int .i64 0) (.string ⟨#[]⟩) (.int .i64 0) 48
  exact bodyPost_ret (v := .agg #[.int .i64 0, .string ⟨#[]⟩, .int .i64 0]) (by simp [results, Tryz.results53, go_sem, Y.c0, Y.c1, Y.c2]) rfl
   ⟨rfl, below_alloc w _⟩
def markW (l : List W) (i : Nat) (s : List UInt8) : Bool := (wd l i).1 == 3 && (wd l i).2.1 == s
theorem mark_isW (i : Nat) (s : List UInt8) (ho : ownL s = false) : markW l i s = isW (bare l) i false s := by
 unfold markW
 by_cases hi : i < l.length
 ·rw [wd_in hi]
  unfold isW
  rw [bare_in hi, ho]
  dsimp only
  simp [Bool.and_comm]
 ·rw [wd_out hi, isW_out hi]
  rfl
theorem pmark_any (i d : Nat) (s : ByteArray) (w : World) (h : Rq w r m A cap l qb qa i) (hi : i ≤ l.length) (hl : l.length ≤ 4194304) (hd : d ≤ 100) (ho : ownL s.data.toList = false) (b : Bool) (hb : isW (bare l) (i + d) false s.data.toList = b) :
  Calls Tryz.prog 54 #[.pointer (some ⟨r, 0, none⟩), .int .i64 d, .string s] w fun e w' => e = .returned (.bool b) ∧ Below w.heap.size w w' := by
 have HWD := hid (pword_any i d w h hi hl hd)
 rw [← mark_isW _ _ ho] at hb
 unfold markW at hb
 unfold wv at HWD
 obtain ⟨x, hx⟩ : ∃ x, wd l (i + d) = x := ⟨_, rfl⟩
 rw [hx] at HWD hb
 obtain ⟨k, t, p⟩ := x
 dsimp only at HWD hb
 obtain ⟨T, hT⟩ : ∃ T : ByteArray, ⟨t.toArray⟩ = T := ⟨_, rfl⟩
 obtain rfl : t = T.data.toList := by rw [← hT]
 rw [hT] at HWD
 rw [← ByteArray.toList_eq, ← ByteArray.toList_eq] at hb
 clear h hT hx ho hl hi hd
 obtain ⟨q, hq⟩ : ∃ q, (T.toList == s.toList) = q := ⟨_, rfl⟩
 rw [hq] at hb
 cases hk : k == 3
 all_goals
  rw [hk] at hb
  subst hb
  go_enter Tryz.func54, Tryz.ntmps54
  go_wp2_with fail
  refine HWD.out.mono ?_
  rintro e w1 ⟨rfl, hb1⟩
  have L1 := hid (hb1.alloc hb1.size (.cells #[.int .i64 k, .string T, .int .i64 p] 48))
  clear hb1
  go_wp2
  go_ret
  exact ⟨by simp [hq], L1.out⟩
theorem ptake_any (i : Nat) (s : ByteArray) (w : World) (h : Rq w r m A cap l qb qa i) (hi : i ≤ l.length) (hl : l.length ≤ 4194304) (ho : ownL s.data.toList = false) (b : Bool) (hb : isW (bare l) i false s.data.toList = b) :
  Calls Tryz.prog 94 #[.pointer (some ⟨r, 0, none⟩), .string s] w fun e w' => e = .returned (.bool b) ∧ But w w' r ∧ Rq w' r m A cap l qb qa (if b = true then i + 1 else i) := by
 have HM := hid (pmark_any i 0 s w h hi hl (by decide) ho b hb)
 have HR := hid h
 have hrl := h.lt
 clear h ho hb
 cases b
 ·go_enter Tryz.func94, Tryz.ntmps94
  go_wp2_with fail
  refine HM.out.mono ?_
  rintro e w1 ⟨rfl, hb1⟩
  have B1 := hid (But.of hb1 r)
  have R1 := hid (HR.out.below hb1)
  clear hb1
  go_wp2
  go_ret
  exact ⟨rfl, B1.out, R1.out⟩
 ·have e2 : IntKind.i64.wrap ((i : Int) + 1) = ((i + 1 : Nat) : Int) := by rw [IntKind.wrap_i64]; omega
  obtain ⟨j, hj⟩ : ∃ j, i + 1 = j := ⟨_, rfl⟩
  rw [hj] at e2
  rw [if_pos rfl, hj]
  clear hj hi hl
  go_enter Tryz.func94, Tryz.ntmps94
  go_wp2_with fail
  refine HM.out.mono ?_
  rintro e w1 ⟨rfl, hb1⟩
  have B1 := hid (But.of hb1 r)
  have R1 := hid (HR.out.below hb1)
  have c1 := R1.out.rd.c1
  have f1 := R1.out.rd.fr 1
  clear hb1
  go_wp2
  go_ret
  exact ⟨rfl, B1.out.setCell 1 _, R1.out.at j⟩
end
theorem pisname_kind (k p : Int) (T : ByteArray) (w : World) (hk : k ≠ 0) :
  Calls Tryz.prog 95 #[.agg #[.int .i64 k, .string T, .int .i64 p]] w fun e w' => e = .returned (.bool false) ∧ Below w.heap.size w w' := by
 have e1 : (k == 0) = false := by simpa using hk
 go_enter Tryz.func95, Tryz.ntmps95
 go_wp2
 go_ret
 exact ⟨rfl, below_alloc w _⟩
theorem pisname_own (p : Int) (T : ByteArray) (w : World) (ho : ownL T.data.toList = true) :
  Calls Tryz.prog 95 #[.agg #[.int .i64 0, .string T, .int .i64 p]] w fun e w' => e = .returned (.bool false) ∧ Below w.heap.size w w' := by
 have HO := hid (fun w => own_any T w)
 rw [show ownB T.toList = true by rw [ByteArray.toList_eq]; exact ho] at HO
 clear ho
 go_enter Tryz.func95, Tryz.ntmps95
 go_wp2_with fail
 refine (HO.out _).mono ?_
 rintro e w1 ⟨rfl, rfl⟩
 go_wp2
 go_ret
 exact ⟨rfl, below_alloc w _⟩
theorem pisname_yes (p : Int) (T : ByteArray) (m : Int) (w : World) (hf : firstL T.data.toList = some (0, T.data.toList, T.data.toList.length)) (ht : T.size ≤ 4194304) (ho : ownL T.data.toList = false) (hg : Env w.heap.size m w) :
  Calls Tryz.prog 95 #[.agg #[.int .i64 0, .string T, .int .i64 p]] w fun e w' => e = .returned (.bool true) ∧ Below w.heap.size w w' := by
 have hw := words_good (words_alone (k := 0) (t := T.data.toList) hf 0)
 rw [show showW 0 T.data.toList = T.data.toList from rfl] at hw
 have HO := hid (fun w => own_any T w)
 rw [show ownB T.toList = false by rw [ByteArray.toList_eq]; exact ho] at HO
 have HW := hid (fun w0 hm => (words_any T m w0 ht hm).mono (R' := fun e w' => ∃ (A : Option Addr) (cap : Nat), e = .returned (.tuple #[.slice A 1 cap, .int .i64 0, .int .i64 0]) ∧ At wc 3 w' w'.heap.size A [(0, T.data.toList, 0)] ∧ Below w0.heap.size w0 w') (by
  rintro e w' ⟨A, cap, he, hv, hb⟩
  rw [hw.1] at hv
  refine ⟨A, cap, ?_, hv, hb⟩
  rw [he, hw.1, hw.2.1, hw.2.2]
  rfl))
 have HG := hid hg
 clear hg hw hf ho ht
 go_enter Tryz.func95, Tryz.ntmps95
 go_wp2_with fail
 refine (HO.out _).mono ?_
 rintro e w1 ⟨rfl, rfl⟩
 obtain ⟨W0, hW0⟩ : ∃ W0, w.alloc (.cells #[.int .i64 0, .string T, .int .i64 p] 48) = W0 := ⟨_, rfl⟩
 have L0 := hid (show Below w.heap.size w W0 by rw [← hW0]; exact below_alloc w _)
 have N0 := hid (show NBox W0 w.heap.size (.int .i64 0) (.string T) (.int .i64 p) by rw [← hW0]; exact NBox.fresh w _ _ _ _)
 obtain ⟨x0, x1, x2, xf⟩ := N0.out
 try rw [hW0]
 go_wp2_with fail
 try rw [hW0]
 refine (HW.out _ (HG.out.next L0.out).gl.cell).mono ?_
 rintro e w3 ⟨A, cap', rfl, hv, hb3⟩
 have L3 := hid (bnext L0.out L0.out.size hb3)
 have N3 := hid (N0.out.below hb3)
 clear x0 x1 x2 xf
 obtain ⟨x0, x1, x2, xf⟩ := N3.out
 obtain ⟨ad, rfl, ha, d0, d1, d2⟩ := at_word hv 0 (by simp)
 rw [Nat.zero_mul] at d0 d1 d2
 have e0 : ad.add 0 = ad := by cases ad; simp [Addr.add]
 rw [e0] at d0 d1 d2
 dsimp only [List.getElem_cons_zero] at d0 d1 d2
 rw [Lib.mk_data] at d1
 clear hb3 hv d2
 go_wp2
 go_quiet (fail)
 go_wp2
 go_ret
 exact ⟨rfl, drewN_below L3.out _⟩
theorem pisname_none (m : Int) (w : World) (hg : Env w.heap.size m w) :
  Calls Tryz.prog 95 #[.agg #[.int .i64 0, .string ⟨#[]⟩, .int .i64 0]] w fun e w' => e = .returned (.bool false) ∧ Below w.heap.size w w' := by
 have hw := words_good (s := []) (l := []) rfl
 have HO := hid (fun w => own_any ⟨#[]⟩ w)
 rw [show ownB (⟨#[]⟩ : ByteArray).toList = false by rw [ByteArray.toList_eq]; rfl] at HO
 have HW := hid (fun w0 hm => (words_any ⟨#[]⟩ m w0 (by decide) hm).mono (R' := fun e w' => ∃ (A : Option Addr) (cap : Nat), e = .returned (.tuple #[.slice A 0 cap, .int .i64 0, .int .i64 0]) ∧ Below w0.heap.size w0 w') (by
  rintro e w' ⟨A, cap, he, hv, hb⟩
  refine ⟨A, cap, ?_, hb⟩
  rw [he, show (⟨#[]⟩ : ByteArray).data.toList = [] from rfl, hw.1, hw.2.1, hw.2.2]
  rfl))
 have HG := hid hg
 clear hg hw
 go_enter Tryz.func95, Tryz.ntmps95
 go_wp2_with fail
 refine (HO.out _).mono ?_
 rintro e w1 ⟨rfl, rfl⟩
 obtain ⟨W0, hW0⟩ : ∃ W0, w.alloc (.cells #[.int .i64 0, .string ⟨#[]⟩, .int .i64 0] 48) = W0 := ⟨_, rfl⟩
 have L0 := hid (show Below w.heap.size w W0 by rw [← hW0]; exact below_alloc w _)
 have N0 := hid (show NBox W0 w.heap.size (.int .i64 0) (.string ⟨#[]⟩) (.int .i64 0) by rw [← hW0]; exact NBox.fresh w _ _ _ _)
 obtain ⟨x0, x1, x2, xf⟩ := N0.out
 try rw [hW0]
 go_wp2_with fail
 try rw [hW0]
 refine (HW.out _ (HG.out.next L0.out).gl.cell).mono ?_
 rintro e w3 ⟨A, cap', rfl, hb3⟩
 have L3 := hid (bnext L0.out L0.out.size hb3)
 clear hb3 x0 x1 x2 xf
 go_wp2
 refine wp_region_quiet_lit (by kernel_rfl) (by kernel_rfl) ?_
 repeat (with_reducible refine wpQuiet_step ?_; intro K hK; go_simp; with_reducible refine hK _ ?_; clear hK K)
 refine wpQuiet_nil ?_
 intro _ hw'
 obtain ⟨nq, hw''⟩ := hw'
 subst hw''
 go_wp2
 go_ret
 exact ⟨rfl, drewN_below L3.out _⟩
section
variable {r : Nat} {m : Int} {A : Option Addr} {cap : Nat} {l : List W} {qb qa : Nat}
theorem pisname_any (hg : Good l) (i : Nat) (w : World) (he : Env w.heap.size m w) :
  Calls Tryz.prog 95 #[wv (wd l i)] w fun e w' => e = .returned (.bool (nmOk (bare l) i)) ∧ Below w.heap.size w w' := by
 unfold nmOk wv
 by_cases hil : i < l.length
 ·have hc := hg.came l[i] (List.getElem_mem hil)
  have hft := hg.fit l[i] (List.getElem_mem hil)
  rw [isK_in hil, txt_in hil, wd_in hil]
  obtain ⟨v, hv⟩ : ∃ v, l[i] = v := ⟨_, rfl⟩
  rw [hv] at hc hft ⊢
  obtain ⟨k, t, p⟩ := v
  obtain ⟨T, rfl⟩ : ∃ T : ByteArray, t = T.data.toList := ⟨⟨t.toArray⟩, rfl⟩
  have hT : (⟨T.data.toList.toArray⟩ : ByteArray) = T := Lib.mk_data T
  have hts : T.size ≤ 4194304 := hft
  dsimp only at hc ⊢
  rw [hT]
  by_cases hk : k = 0
  ·subst hk
   cases ho : ownL T.data.toList with
   | true => exact pisname_own p T w ho
   | false => exact pisname_yes p T m w hc hts ho he
  ·have e1 : (k == 0) = false := by simpa using hk
   rw [e1]
   exact pisname_kind k p T w hk
 ·rw [isK_out hil, wd_out hil]
  exact pisname_none m w he
structure But2 (w w' : World) (r g : Nat) : Prop where
 os : w'.os = w.os
 tape : w'.tape = w.tape
 output : w'.output = w.output
 size : w.heap.size ≤ w'.heap.size
 block : ∀ k, k < w.heap.size → k ≠ r → k ≠ g → w'.heap[k]? = w.heap[k]?
theorem But2.one {w w' : World} {r : Nat} (h : But2 w w' r r) : But w w' r := ⟨h.os, h.tape, h.output, h.size, fun k hk hn => h.block k hk hn hn⟩
theorem But.two {w w' : World} {r : Nat} (h : But w w' r) (g : Nat) : But2 w w' r g := ⟨h.os, h.tape, h.output, h.size, fun k hk hn _ => h.block k hk hn⟩
theorem But2.trans {w w1 w2 : World} {r g : Nat} (h : But2 w w1 r g) (k : But2 w1 w2 r g) : But2 w w2 r g :=
 ⟨k.os.trans h.os, k.tape.trans h.tape, k.output.trans h.output, Nat.le_trans h.size k.size, fun j hj hr hg => (k.block j (Nat.lt_of_lt_of_le hj h.size) hr hg).trans (h.block j hj hr hg)⟩
theorem But2.new {w w1 : World} {r g : Nat} (h : But2 w w1 r g) (p : Addr) (hp : w.heap.size ≤ p.block) (u : Value) : But2 w (w1.setCell p u) r g :=
 ⟨h.os, h.tape, h.output, by simpa using h.size, fun k hk hb hg => (Below.heap_setCell w1 p u k (by omega)).trans (h.block k hk hb hg)⟩
theorem But2.cell {w w' : World} {r g : Nat} (h : But2 w w' r g) {q : Addr} (hq : q.block < w.heap.size) (hn : q.block ≠ r) (hg : q.block ≠ g) : w'.cell? q = w.cell? q := by
 unfold World.cell?
 rw [h.block _ hq hn hg]
theorem But2.frozen {w w' : World} {r g : Nat} (h : But2 w w' r g) {q : Addr} (hq : q.block < w.heap.size) (hn : q.block ≠ r) (hg : q.block ≠ g) : w'.frozen? q = w.frozen? q := by
 unfold World.frozen?
 rw [h.block _ hq hn hg]
def GiveN (r : Nat) (m : Int) (A : Option Addr) (cap : Nat) (l : List W) (qb qa : Nat) (w : World) (res : Res) (e : Ending) (w' : World) : Prop :=
 ∃ (op tx : ByteArray) (X : Option Addr) (n k : Nat), e = .returned (.tuple #[.agg #[.string op, .string tx, .slice X n k], .bool (!res.2.2)]) ∧ (res.2.2 = false → RIn w' (New w w') res.1 (op, tx, X, n, k)) ∧ But w w' r ∧ Rq w' r m A cap l qb qa res.2.1
theorem GiveN.sim {w w' : World} {res res' : Res} {e : Ending} (h : GiveN r m A cap l qb qa w res e w') (hs : Sim res res') : GiveN r m A cap l qb qa w res' e w' := by
 obtain ⟨op, tx, X, n, k, he, hn, hb, hr⟩ := h
 obtain ⟨h1, h2⟩ := hs
 rw [h1] at he hn hr
 exact ⟨op, tx, X, n, k, he, fun e => by rw [← h2 (by rw [h1]; exact e)]; exact hn e, hb, hr⟩
theorem Rq.w3 {w : World} {i : Nat} (h : Rq w r m A cap l qb qa i) {g : Nat} (hp : r < g) (hq : g ≠ qb) (ha : g ≠ qa) (x y z : Value) : Rq (W3 w g x y z) r m A cap l qb qa i := ((h.new ⟨g, 0, none⟩ hp hq ha _).new ⟨g, 1, none⟩ hp hq ha _).new ⟨g, 2, none⟩ hp hq ha _
theorem giveN_ret {w w3 : World} {T : Nod} {j : Nat} {b : Bool} {op tx : ByteArray} {X : Option Addr} {n k : Nat} (hn : b = false → RIn w3 (fun g => w.heap.size < g ∧ g < w3.heap.size) T (op, tx, X, n, k)) (hb : But w w3 r) (hr : Rq w3 r m A cap l qb qa j) (hrl : r < w.heap.size) (hq : qb < w.heap.size) (ha : qa < w.heap.size) :
  GiveN r m A cap l qb qa w (T, j, b) (.returned (.tuple #[.agg #[.string op, .string tx, .slice X n k], .bool (!b)])) (W3 w3 w.heap.size (.string op) (.string tx) (.slice X n k)) :=
 ⟨op, tx, X, n, k, rfl, fun e => ((hn e).w3 (g := w.heap.size) (fun h => Nat.lt_irrefl _ h.1) _ _ _).imp (fun g hg => ⟨Nat.le_of_lt hg.1, by show g < (W3 w3 w.heap.size _ _ _).heap.size; rw [W3.size]; exact hg.2⟩), W3.but hb (Nat.le_refl _) _ _ _, hr.w3 hrl (by omega) (by omega) _ _ _⟩
theorem pname_any (hg : Good l) (o : ByteArray) (i : Nat) (w : World) (h : Rq w r m A cap l qb qa i) (hi : i ≤ l.length) :
  Calls Tryz.prog 56 #[.pointer (some ⟨r, 0, none⟩), .string o] w (GiveN r m A cap l qb qa w (nameP (bare l) o.data.toList i)) := by
 have HWD := hid (fun w0 h0 => pword_any i 0 w0 (h := (h0 : Rq w0 r m A cap l qb qa i)) hi hg.len (by decide))
 have HN := hid (fun w0 he => pisname_any (m := m) hg i w0 he)
 have ht : txt (bare l) i = (wd l i).2.1 := by
  by_cases hil : i < l.length
  ·rw [txt_in hil, wd_in hil]
  ·rw [wd_out hil]; unfold txt; rw [bare_out hil]
 rw [Nat.add_zero] at HWD
 unfold nameP
 obtain ⟨b, hb⟩ : ∃ b, nmOk (bare l) i = b := ⟨_, rfl⟩
 rw [hb] at HN
 rw [hb, ht]
 unfold wv at HWD HN
 obtain ⟨x, hx⟩ : ∃ x, wd l i = x := ⟨_, rfl⟩
 rw [hx] at HWD HN ⊢
 obtain ⟨k, t, p⟩ := x
 dsimp only at HWD HN ⊢
 obtain ⟨T, hT⟩ : ∃ T : ByteArray, ⟨t.toArray⟩ = T := ⟨_, rfl⟩
 obtain rfl : t = T.data.toList := by rw [← hT]
 rw [hT] at HWD HN
 have HR := hid h
 have hrl := h.lt
 have hql := h.ltq
 have hal := h.lta
 have hil : b = true → i < l.length := fun e => by rw [e] at hb; have := (isK_lt (Bool.and_eq_true _ _ ▸ hb).1).1; rw [bare_length] at this; exact this
 have hll := hg.len
 obtain ⟨res, hres⟩ : ∃ res, (if b = true then ((Nod.mk o.data.toList T.data.toList [], i + 1, false) : Res) else (zeroN, i, true)) = res := ⟨_, rfl⟩
 rw [hres]
 have HRS := hid hres
 have HIL := hid hil
 clear h hT hx hg ht hb hres hil
 go_enter Tryz.func56, Tryz.ntmps56
 obtain ⟨w0, hw0, hz0, N0, B0⟩ := made0 w r
 have R0 := hid (show Rq w0 r m A cap l qb qa i by rw [← hw0]; exact HR.out.alloc _)
 go_wp2_with fail
 try rw [hw0]
 refine (HWD.out _ R0.out).mono ?_
 rintro e w1 ⟨rfl, hb1⟩
 have z1 := hb1.size
 have N1 := hid ((N0.out.below hb1).alloc (.cells #[.int .i64 k, .string T, .int .i64 p] 48))
 have B1 := hid ((B0.out.next hb1).alloc (.cells #[.int .i64 k, .string T, .int .i64 p] 48))
 have R1 := hid ((R0.out.below hb1).alloc (.cells #[.int .i64 k, .string T, .int .i64 p] 48))
 have V1 := hid (NBox.fresh w1 (.int .i64 k) (.string T) (.int .i64 p) 48)
 clear hb1
 go_wp2_with fail
 refine (HN.out _ R1.out.rd.env).mono ?_
 rintro e w2 ⟨rfl, hb2⟩
 have z2 : w1.heap.size + 1 ≤ w2.heap.size := by have := hb2.size; simpa using this
 have N2 := hid (N1.out.below hb2)
 have B2 := hid (B1.out.next hb2)
 have R2 := hid (R1.out.below hb2)
 have V2 := hid (V1.out.below hb2)
 clear hb2
 obtain ⟨x0, x1, x2, xf⟩ := N2.out
 obtain ⟨v0, v1, v2, vf⟩ := V2.out
 have zn := N2.out.lt
 have zr := R2.out.lt
 cases b
 ·obtain rfl : res = (zeroN, i, true) := by have := HRS.out; rw [iff'] at this; exact this.symm
  go_wp2
  have Y := N2.out.set (.string ⟨#[]⟩) (.string ⟨#[]⟩) (.slice none 0 0)
  exact bodyPost_ret (v := .tuple #[.agg #[.string ⟨#[]⟩, .string ⟨#[]⟩, .slice none 0 0], .bool (!true)]) (by simp [results, Tryz.results56, go_sem, Y.c0, Y.c1, Y.c2]) rfl
   (giveN_ret (b := true) (fun h => (by cases h)) B2.out R2.out hrl hql hal)
 ·have c1 := R2.out.rd.c1
  have f1 := R2.out.rd.fr 1
  have hil := HIL.out rfl
  have e2 : IntKind.i64.wrap ((i : Int) + 1) = ((i + 1 : Nat) : Int) := by rw [IntKind.wrap_i64]; omega
  obtain ⟨j, hj⟩ : ∃ j, i + 1 = j := ⟨_, rfl⟩
  rw [hj] at e2
  obtain rfl : res = (.mk o.data.toList T.data.toList [], j, false) := by have := HRS.out; rw [ift, hj] at this; exact this.symm
  clear hj hil hi hll
  have N3 := hid (N2.out.but (r := r) (by omega) ((But.refl w2 r).setCell 1 (.int .i64 j)))
  have R3 := hid (R2.out.at j)
  have B3 := hid (B2.out.setCell 1 (.int .i64 j))
  go_wp2
  have Y := N3.out.set (.string o) (.string T) (.slice none 0 0)
  exact bodyPost_ret (v := .tuple #[.agg #[.string o, .string T, .slice none 0 0], .bool (!false)]) (by simp [results, Tryz.results56, go_sem, Y.c0, Y.c1, Y.c2]) rfl
   (giveN_ret (b := false) (fun _ => RIn.leafN _ _ o T) B3.out R3.out hrl hql hal)
end
section
variable {r : Nat} {m : Int} {A : Option Addr} {cap : Nat} {l : List W} {qb qa : Nat}
theorem giveN_pass {w w0 w3 : World} {T : Nod} {b : Bool} {v : NV} (hn : b = false → RIn w3 (New w0 w3) T v) (h0 : w.heap.size < w0.heap.size) : b = false → RIn w3 (fun g => w.heap.size < g ∧ g < w3.heap.size) T v :=
 fun hq => (hn hq).imp (fun g hg => ⟨Nat.lt_of_lt_of_le h0 hg.1, hg.2⟩)
theorem nat_box {w : World} {S : Nat → Prop} {g : Nat} {op tx : ByteArray} {Y : Option Addr} {n k : Nat} (h : NBox w g (.string op) (.string tx) (.slice Y n k)) (hS : S g) : NAt w S (some ⟨g, 0, none⟩) [(op, tx, Y, n, k)] := by
 intro i hi
 obtain rfl : i = 0 := by simp at hi; exact hi
 exact ⟨_, rfl, hS, h.c0, h.c1, h.c2⟩
theorem RIn.opped {w : World} {S : Nat → Prop} {o t : List UInt8} {ks : List Nod} {op tx : ByteArray} {X : Option Addr} {n k : Nat} (h : RIn w S (.mk o t ks) (op, tx, X, n, k)) (p : ByteArray) : RIn w S (.mk p.data.toList t ks) (p, tx, X, n, k) := by
 cases h with
 | mk op tx ks X cap l hl hb hc hat hks =>
  have := RIn.mk (w := w) (S := S) p.data.toList t ks X k l hl hb hc hat hks
  rwa [Lib.mk_data] at this
theorem nodEta (t : Nod) : t = .mk t.op t.tx t.ks := by cases t; rfl
theorem pcolumn_any (hg : Good l) (i : Nat) (w : World) (h : Rq w r m A cap l qb qa i) (hi : i ≤ l.length) :
  Calls Tryz.prog 52 #[.pointer (some ⟨r, 0, none⟩)] w (GiveN r m A cap l qb qa w (nameP (bare l) sCol i)) := by
 obtain ⟨res, hres⟩ : ∃ res, nameP (bare l) sCol i = res := ⟨_, rfl⟩
 have HC := hid (fun w0 (h0 : Rq w0 r m A cap l qb qa i) => pname_any hg ⟨#[99, 111, 108]⟩ i w0 h0 hi)
 rw [show (⟨#[99, 111, 108]⟩ : ByteArray).data.toList = sCol from rfl, hres] at HC
 rw [hres]
 obtain ⟨T, j, b⟩ := res
 have HR := hid h
 have hrl := h.lt
 have hql := h.ltq
 have hal := h.lta
 clear h hres hg
 go_enter Tryz.func52, Tryz.ntmps52
 obtain ⟨w0, hw0, hz0, N0, B0⟩ := made0 w r
 have R0 := hid (show Rq w0 r m A cap l qb qa i by rw [← hw0]; exact HR.out.alloc _)
 go_wp2_with fail
 try rw [hw0]
 refine (HC.out _ R0.out).mono ?_
 rintro e w2 ⟨o1, t1, X, n, k, rfl, hn1, hb1, hr1⟩
 dsimp only at hn1 hr1
 have I2 := hid (giveN_pass (w := w) hn1 (by omega))
 have B2 := hid (B0.out.trans hb1)
 have R2 := hid hr1
 have N2 := hid (N0.out.but (by omega) hb1)
 clear hn1 hb1 hr1
 obtain ⟨x0, x1, x2, xf⟩ := N2.out
 have zn := N2.out.lt
 obtain ⟨q, hq⟩ : ∃ q, (!b) = q := ⟨_, rfl⟩
 go_wp2
 have Y := N2.out.set (.string o1) (.string t1) (.slice X n k)
 exact bodyPost_ret (v := .tuple #[.agg #[.string o1, .string t1, .slice X n k], .bool (!b)]) (by simp [results, Tryz.results52, go_sem, Y.c0, Y.c1, Y.c2, hq]) rfl
  (giveN_ret I2.out B2.out R2.out hrl hql hal)
theorem pnothing_any (i : Nat) (w : World) (h : Rq w r m A cap l qb qa i) :
  Calls Tryz.prog 51 #[.pointer (some ⟨r, 0, none⟩)] w (GiveN r m A cap l qb qa w (noneP (bare l) i)) := by
 have HR := hid h
 have hrl := h.lt
 have hql := h.ltq
 have hal := h.lta
 clear h
 go_enter Tryz.func51, Tryz.ntmps51
 go_wp2
 have Y := NBox.fresh w (.string ⟨#[]⟩) (.string ⟨#[]⟩) (.slice none 0 0) 25
 exact bodyPost_ret (v := .tuple #[.agg #[.string ⟨#[]⟩, .string ⟨#[]⟩, .slice none 0 0], .bool (!false)]) (by simp [results, Tryz.results51, go_sem, Y.c0, Y.c1, Y.c2]) rfl
  ⟨_, _, _, _, _, rfl, fun _ => RIn.leafN _ _ ⟨#[]⟩ ⟨#[]⟩, (But.refl w r).alloc _, HR.out.alloc _⟩
end
end Go.Proofs.YtjbpkpfmgbhlpaaGreatDoor.Code
/-
  The program's reader of queries in plain words reads what the document says: a group, a query.
-/
namespace Go.Proofs.YtjbpkpfmgbhlpaaGreatDoor.Code
open Val
set_option linter.unusedVariables false
section
variable {L : List V} {q : Nat → Bool → Res} {i : Nat}
theorem shut_more {n : Nod} {R R' : Ress} (h : Sim R (shutP L R')) : Sim (n :: R.1, R.2) (shutP L (n :: R'.1, R'.2)) := by
 obtain ⟨h1, h2⟩ := h
 unfold shutP at h1 h2 ⊢
 dsimp only
 split
 ·rename_i hb
  rw [if_pos hb] at h1 h2
  exact ⟨h1, fun e => by rw [h2 e]⟩
 ·rename_i hb
  rw [if_neg hb] at h1 h2
  exact ⟨h1, fun e => by rw [h2 e]⟩
theorem shut_bad {l l' : List Nod} {j : Nat} : Sim (l, j, true) (shutP L (l', j, true)) := ⟨rfl, fun e => by cases e⟩
theorem group_sim (hq : ∀ j c, j ≤ L.length → Ends L.length j c (q j c).2) (hi : i ≤ L.length) (hL : L.length ≤ 4194304) :
  Sim ((q i false).1 :: (tailQ L q sGroup (q i false).2.1 (q i false).2.2).1, (tailQ L q sGroup (q i false).2.1 (q i false).2.2).2) (shutP L (groupP L (fun j => q j false) i)) := by
 have hE := hq i false hi
 have ht : ∀ j b, tailQ L q sGroup j b = groupQ L (mustQ L j b [44]).1 (mustQ L j b [44]).2 := fun j b => by
  unfold tailQ
  rw [if_neg (by decide), if_neg (by decide), if_neg (by decide), if_neg (by decide), if_neg (by decide)]
 unfold groupP groupsP
 rw [ls_first (L.length + 7) (by decide)]
 dsimp only
 rw [show ∀ j, (if 0 < 1 then q j false else if 0 = 1 then firstG L j else aggP L j) = q j false from fun _ => rfl]
 generalize q i false = E at hE ⊢
 obtain ⟨n, j, b⟩ := E
 have hj := hE.2.1
 dsimp only at hj ⊢
 cases b with
 | true =>
  have hw := tail_wrong hq sGroup hj
  rw [ift]
  refine ⟨hw, fun e => ?_⟩
  rw [show ∀ x : List Nod, (x, (tailQ L q sGroup j true).2).2 = (tailQ L q sGroup j true).2 from fun _ => rfl, hw] at e
  cases e
 | false =>
  rw [iff', ht, ls_must (L.length + 6) (by decide) (by decide)]
  cases c : isW L j false [44] with
  | false =>
   have hw := (group_ends (L := L) (i := j) (b := true) hj).2.2 rfl
   rw [must_no c, ifft]
   refine ⟨hw, fun e => ?_⟩
   dsimp only at e
   rw [hw] at e
   cases e
  | true =>
   rw [must_yes c, iftf]
   dsimp only
   rw [show ∀ j, (if 1 < 1 then q j false else if 1 = 1 then firstG L j else aggP L j) = firstG L j from fun _ => rfl]
   have hjl := isW_lt c
   unfold groupQ firstG
   have hs := by_sim (L := L) (j + 1)
   have hB := by_ends (L := L) (i := j + 1) (b := false) (by omega)
   generalize byP L (j + 1) = B at hs ⊢
   generalize byQ L (j + 1) false = B' at hs hB ⊢
   obtain ⟨bn, bj, bb⟩ := B
   obtain ⟨bn', bj', bb'⟩ := B'
   obtain ⟨s1, s2⟩ := hs
   dsimp only at s1 s2 hB ⊢
   cases s1
   have hbj := hB.2.1
   dsimp only at hbj
   cases bb with
   | true =>
    have hw := (agg_ends (L := L) (i := bj) (b := true) hbj).2.2 rfl
    rw [ift]
    dsimp only
    rw [ift]
    generalize aggQ L bj true = G at hw ⊢
    obtain ⟨g1, g2, g3⟩ := G
    cases hw
    rw [loop_wrong]
    exact shut_bad
   | false =>
    rw [iff']
    have hs2 := agg_sim (L := L) bj
    have hG := agg_ends (L := L) (i := bj) (b := false) hbj
    generalize aggP L bj = G at hs2 ⊢
    generalize aggQ L bj false = G' at hs2 hG ⊢
    obtain ⟨gn, gj, gb⟩ := G
    obtain ⟨gn', gj', gb'⟩ := G'
    obtain ⟨t1, t2⟩ := hs2
    dsimp only at t1 t2 hG ⊢
    cases t1
    have hgj := hG.2.1
    dsimp only at hgj
    cases gb with
    | true =>
     rw [loop_wrong, ift]
     exact shut_bad
    | false =>
     rw [iff', loop_fuel (fun j c hj => agg_ends hj) false hgj (L.length + 6) (by omega)]
     have h := ls_loop (L := L) (el := fun k j => if k < 1 then q j false else if k = 1 then firstG L j else aggP L j) (least := 2) (most := many) (fun j c hj => agg_ends hj) (fun k j h => by rw [if_neg (by omega), if_neg (by omega)]; exact agg_sim j) (L.length + 6) 2 gj (by decide) (by decide) (by unfold many; omega) hgj (by omega)
     have e1 := s2 rfl
     have e2 := t2 rfl
     subst e1 e2
     have h3 := shut_more (n := n) (shut_more (n := bn') (shut_more (n := gn') h))
     exact h3
def partG (L : List V) (q : Nat → Res) (o : List UInt8) (i : Nat) : Res := (.mk [] [] (bodyG L q o i).1, (bodyG L q o i).2)
def queryP (L : List V) (q : Nat → Res) (i : Nat) : Res :=
 if (isK L i false 0 && (isW L (i + 1) false [40] && opsQ.contains (txt L i))) = true then callP L (partG L q (txt L i)) i else nameP L sFrom i
theorem body_sim (hq : ∀ j c, j ≤ L.length → Ends L.length j c (q j c).2) (hi : i ≤ L.length) (hL : L.length ≤ 4194304) {o : List UInt8} (ho : o ∈ opsQ) :
  Sim ((q i false).1 :: (tailQ L q o (q i false).2.1 (q i false).2.2).1, (tailQ L q o (q i false).2.1 (q i false).2.2).2) (shutP L (bodyG L (fun j => q j false) o i)) := by
 unfold bodyG
 simp only [opsQ, List.mem_cons, List.not_mem_nil, or_false] at ho
 rcases ho with rfl | rfl | rfl | rfl | rfl | rfl
 ·rw [if_pos rfl]; exact filter_sim hq hi
 ·rw [if_neg (by decide), if_pos rfl]; exact project_sim hq hi hL
 ·rw [if_neg (by decide), if_neg (by decide), if_pos rfl]; exact join_sim hq hi hL
 ·rw [if_neg (by decide), if_neg (by decide), if_neg (by decide), if_pos rfl]; exact union_sim hq hi hL
 ·rw [if_neg (by decide), if_neg (by decide), if_neg (by decide), if_neg (by decide), if_pos rfl]; exact distinct_sim hq hi
 ·rw [if_neg (by decide), if_neg (by decide), if_neg (by decide), if_neg (by decide), if_neg (by decide)]; exact group_sim hq hi hL
theorem isW_mark (k : Nat) (s : List UInt8) (ho : ownL s = false) : isW L k false s = (L[k]? == some (3, s)) := by
 unfold isW
 cases hx : L[k]? with
 | none => rfl
 | some w =>
  obtain ⟨k, t⟩ := w
  rw [ho]
  rw [Bool.eq_iff_iff]
  simp
  constructor
  ·rintro ⟨h1, h2⟩; exact ⟨h2, h1⟩
  ·rintro ⟨h1, h2⟩; exact ⟨h2, h1⟩
theorem op_of : ∀ l : List (List UInt8), opQ L i false l = if (isK L i false 0 && (isW L (i + 1) false [40] && l.contains (txt L i))) = true then txt L i else []
 | [] => by simp [opQ]
 | s :: l => by
  rw [opQ, op_of l]
  unfold wordQ
  rw [isW_mark (i + 1) [40] (by decide)]
  cases hk : isK L i false 0 with
  | false => simp
  | true =>
   cases hm : L[i + 1]? == some (3, [40]) with
   | false => simp
   | true =>
    by_cases e : txt L i = s
    ·rw [e]
     simp
    ·rw [if_neg (by simp [e])]
     have : (s :: l).contains (txt L i) = l.contains (txt L i) := by simp [e]
     rw [this]
theorem call_sim {o : List UInt8} {R R' : Ress} {T : Nat → Res} (hb : isW L (i + 1) false [40] = true) (ho : txt L i = o) (hR' : T (i + 2) = (.mk [] [] R'.1, R'.2)) (h : Sim R (shutP L R')) : Sim (.mk o [] R.1, R.2) (callP L T i) := by
 unfold callP
 rw [hb, iftf, hR']
 obtain ⟨l', j', b'⟩ := R'
 obtain ⟨l, j, b⟩ := R
 obtain ⟨h1, h2⟩ := h
 unfold shutP at h1 h2
 dsimp only [Nod.tx, Nod.ks] at h1 h2 ⊢
 cases b' with
 | true =>
  rw [ift] at h1 h2 ⊢
  cases h1
  exact Sim.bad
 | false =>
  rw [iff'] at h1 h2 ⊢
  cases c : isW L j' false [41] with
  | true =>
   rw [must_yes c] at h1 h2
   cases h1
   rw [ift, ho, h2 rfl]
   exact Sim.refl _
  | false =>
   rw [must_no c] at h1 h2
   cases h1
   rw [iff']
   exact Sim.bad
theorem query_sim (f : Nat) (hi : i ≤ L.length) (hL : L.length ≤ 4194304) : Sim (qq L (f + 1) i false) (queryP L (fun j => qq L f j false) i) := by
 rw [qq]
 unfold queryP
 rw [op_of]
 cases c : (isK L i false 0 && (isW L (i + 1) false [40] && opsQ.contains (txt L i))) with
 | false =>
  rw [iff', iff', if_pos rfl]
  unfold nameP
  cases cn : nmOk L i with
  | false => rw [nm_no cn, iff']; exact Sim.bad
  | true => rw [nm_yes cn, ift]; exact Sim.refl _
 | true =>
  rw [ift, ift]
  simp only [Bool.and_eq_true] at c
  obtain ⟨c1, c2, c3⟩ := c
  have hm : txt L i ∈ opsQ := by simpa using c3
  have hne : txt L i ≠ [] := by intro e; rw [e] at hm; revert hm; decide
  rw [if_neg hne]
  have hil := isW_lt c2
  exact call_sim c2 rfl rfl (body_sim (fun j c hj => qq_ends L f j c hj) (by omega) hL hm)
end
end Go.Proofs.YtjbpkpfmgbhlpaaGreatDoor.Code
/-
  The document's reader of expressions: the other half of a test.
-/
namespace Go.Proofs.YtjbpkpfmgbhlpaaGreatDoor.Code
open Go.ChangeShapes Go.WideShapes Go.ChangeAt Go.RowKit Val Elems
set_option linter.unusedVariables false
set_option linter.unusedSimpArgs false
theorem Reads.since {r : Nat} {A : Option Addr} {cap : Nat} {l : List W} {w : World} {S : Nat → Prop} {res : Tr × Nat × Bool} {e : Ending} {w' : World} {o : Obj} (h : Reads r A cap l (w.alloc o) S res e w') : Reads r A cap l w S res e w' := by
 obtain ⟨op, tx, X, n, m, he, hn, hb, hr⟩ := h
 refine ⟨op, tx, X, n, m, he, hn.imp fun g hg => ?_, ((But.refl w r).alloc o).trans hb, hr⟩
 rcases hg with hg | hg
 ·exact .inl hg
 ·exact .inr ⟨by have := hg.1; simp at this; omega, hg.2⟩
theorem ret_one0 {r : Nat} {A : Option Addr} {cap : Nat} {l : List W} {w w2 : World} {S S2 : Nat → Prop} {x : Tr} {j : Nat} {b : Bool} {op tx : ByteArray} {X : Option Addr} {n m : Nat} (o : ByteArray) (hn : NIn w2 S2 x (.string op) (.string tx) (.slice X n m)) (hS : ∀ g, S2 g → g < w2.heap.size ∧ g ≠ w.heap.size ∧ (S g ∨ w.heap.size ≤ g)) (hb : But w w2 r) (hr : Rdr w2 r A cap l j b) (hrl : r < w.heap.size) (t : TypeId) :
  Reads r A cap l w S (.one o.data.toList x, j, b) (.returned (.agg #[.string o, .string ⟨#[]⟩, .slice (some ⟨w2.heap.size, 0, none⟩) 1 1])) ((W3 w2 w.heap.size (.string o) (.string ⟨#[]⟩) (.slice (some ⟨w2.heap.size, 0, none⟩) 1 1)).alloc (.cells #[.string op, .string tx, .slice X n m] t)) := by
 have hz := hb.size
 obtain ⟨W, hW⟩ : ∃ W, W3 w2 w.heap.size (.string o) (.string ⟨#[]⟩) (.slice (some ⟨w2.heap.size, 0, none⟩) 1 1) = W := ⟨_, rfl⟩
 have hs : W.heap.size = w2.heap.size := by rw [← hW, W3.size]
 have h1 : NIn W S2 x (.string op) (.string tx) (.slice X n m) := by rw [← hW]; exact W3.nin hn (fun h => (hS _ h).2.1 rfl) _ _ _
 have hB : But w W r := by rw [← hW]; exact W3.but hb (Nat.le_refl _) _ _ _
 have hR : Rdr W r A cap l j b := by rw [← hW]; exact W3.rdr hr hrl _ _ _
 rw [hW]
 have h2 := NIn.one o h1 (fun g hg => by have := (hS g hg).1; omega) (S' := fun g => S g ∨ New w (W.alloc (.cells #[.string op, .string tx, .slice X n m] t)) g) (fun g hg => by
  obtain ⟨a1, a2, a3⟩ := hS g hg
  rcases a3 with a3 | a3
  ·exact .inl a3
  ·exact .inr ⟨a3, by simp [hs]; omega⟩) (.inr ⟨by rw [hs]; omega, by simp⟩) t
 rw [hs] at h2
 exact ⟨o, ⟨#[]⟩, _, 1, 1, rfl, h2, hB.alloc _, hR.alloc _⟩
section
variable {r : Nat} {A : Option Addr} {cap : Nat} {l : List W} {f : Nat}
theorem test_does (D : Does r A cap l f) (S : Nat → Prop) (t : Tr) (op tx : ByteArray) (X : Option Addr) (n m : Nat) (i : Nat) (b : Bool) (w : World) (hS : ∀ g, S g → g < w.heap.size ∧ g ≠ r) (hn : NIn w S t (.string op) (.string tx) (.slice X n m)) (hi : i ≤ l.length) (hl : l.length ≤ 4194304) (hm : mu (bare l) (.test t) i < f + 1) (h : Rdr w r A cap l i b) :
  Calls Tryz.prog 128 #[.pointer (some ⟨r, 0, none⟩), .agg #[.string op, .string tx, .slice X n m]] w (Reads r A cap l w S (P (bare l) (f + 1) (.test t) i b)) := by
 obtain ⟨w0, hw0⟩ : ∃ w0, w.alloc (.cells #[.string op, .string tx, .slice X n m] 25) = w0 := ⟨_, rfl⟩
 have hz0 : w0.heap.size = w.heap.size + 1 := by rw [← hw0]; simp
 have V0 := hid (show NBox w0 w.heap.size (.string op) (.string tx) (.slice X n m) by rw [← hw0]; exact NBox.fresh _ _ _ _ _)
 have H0 := hid (show Rdr w0 r A cap l i b by rw [← hw0]; exact h.alloc _)
 have K0 := hid (show NIn w0 S t (.string op) (.string tx) (.slice X n m) by rw [← hw0]; exact hn.alloc (fun g hg => (hS g hg).1) _)
 have hrl := h.lt
 have hrl0 : r < w0.heap.size := by omega
 have HSS := hid hS
 refine Calls.mono (R := Reads r A cap l w0 S (P (bare l) (f + 1) (.test t) i b)) ?_ (fun e w' hR => by rw [← hw0] at hR; exact hR.since)
 obtain ⟨q, hq⟩ : ∃ q, oneL (bare l) i b (opsL 4) = q := ⟨_, rfl⟩
 have HOPS := hid (fun w => rops_any 4 (by omega) w)
 have HONE := hid (fun (S' : Option Addr) (c' : Nat) (w1 : World) (hr : Rdr w1 r A cap l i b) hs hne => rone_any r A cap l i b S' c' (opsL 4) w1 hr hi hl hs hne (by decide) (by decide) q hq)
 by_cases hq0 : q = []
 ·subst hq0
  rw [if_pos rfl] at HONE
  obtain ⟨q2, hq2⟩ : ∃ q2, isW (bare l) i b sIs = q2 := ⟨_, rfl⟩
  have HT := hid (fun w1 hr => rtake_any r A cap l i b ⟨#[105, 115]⟩ q2 hq2 w1 hr hi hl)
  cases q2
  ·have hP : P (bare l) (f + 1) (.test t) i b = (t, i, b) := by rw [P, if_pos hq, if_neg (by rw [hq2]; decide)]
   rw [hP]
   clear hP hq hq2 h hn hm D
   go_enter Tryz.func128, Tryz.ntmps128
   obtain ⟨w00, hw00⟩ : ∃ w00, w.alloc (.cells #[.string op, .string tx, .slice X n m] 25) = w00 := ⟨_, rfl⟩
   have N0 := hid (NBox.fresh w0 (.string ⟨#[]⟩) (.string ⟨#[]⟩) (.slice none 0 0) 25)
   have B0 := hid ((But.refl w0 r).alloc (.cells #[.string ⟨#[]⟩, .string ⟨#[]⟩, .slice none 0 0] 25))
   go_wp2_with fail
   refine (HOPS.out _).mono ?_
   rintro e w1 ⟨L1, c1, rfl, hs1, hg1, hb1⟩
   have N1 := hid (N0.out.below hb1)
   have B1 := hid (B0.out.next hb1)
   have R1 := hid ((H0.out.alloc (.cells #[.string ⟨#[]⟩, .string ⟨#[]⟩, .slice none 0 0] 25)).below hb1)
   have V1 := hid ((V0.out.alloc (.cells #[.string ⟨#[]⟩, .string ⟨#[]⟩, .slice none 0 0] 25)).below hb1)
   have K1 := hid ((K0.out.alloc (fun g hg => by have := (HSS.out g hg).1; omega) (.cells #[.string ⟨#[]⟩, .string ⟨#[]⟩, .slice none 0 0] 25)).below (fun g hg => by have := (HSS.out g hg).1; simp; omega) hb1)
   have S1 := hid hs1
   have G1 := hid (show ∀ ad, L1 = some ad → ad.block ≠ r from fun ad e => by have := hg1 ad e; simp at this; omega)
   have z1 : w0.heap.size < w1.heap.size := N1.out.lt
   clear hb1 hs1 hg1
   go_wp2_with fail
   refine (HONE.out L1 c1 _ R1.out S1.out G1.out).mono ?_
   rintro e w2 ⟨rfl, hb2, hr2⟩
   have N2 := hid (N1.out.but (by omega) hb2)
   have B2 := hid (B1.out.trans hb2)
   have R2 := hid hr2
   have V2 := hid (V1.out.but (by omega) hb2)
   have K2 := hid (K1.out.but (fun g hg => ⟨by have := (HSS.out g hg).1; omega, (HSS.out g hg).2⟩) hb2)
   have z2 : w1.heap.size ≤ w2.heap.size := hb2.size
   clear hb2 hr2 S1 G1
   go_wp2_with fail
   refine (HT.out _ R2.out).mono ?_
   rintro e w3 ⟨rfl, hb3, hr3⟩
   have N3 := hid (N2.out.but (by omega) hb3)
   have B3 := hid (B2.out.trans hb3)
   have R3 := hid hr3
   have V3 := hid (V2.out.but (by omega) hb3)
   have K3 := hid (K2.out.but (fun g hg => ⟨by have := (HSS.out g hg).1; omega, (HSS.out g hg).2⟩) hb3)
   have hs3 : w2.heap.size ≤ w3.heap.size := hb3.size
   clear hb3 hr3
   have NZ := N3.out
   rw [hz0] at NZ
   have zz := NZ.lt
   have zv := V3.out.lt
   obtain ⟨x0, x1, x2, xf⟩ := NZ
   obtain ⟨v0, v1, v2, vf⟩ := V3.out
   go_wp2
   have NZ := N3.out
   rw [hz0] at NZ
   have Y := NZ.set (.string op) (.string tx) (.slice X n m)
   exact bodyPost_ret (v := .agg #[.string op, .string tx, .slice X n m]) (by simp [results, Tryz.results128, go_sem, Y.c0, Y.c1, Y.c2]) rfl
    (by have hh := (ret_same K3.out (fun g hg => ⟨by have := (HSS.out g hg).1; omega, by have := (HSS.out g hg).1; omega, .inl hg⟩) B3.out R3.out hrl0); rw [hz0] at hh; exact hh)
  ·have hil := isW_len hq2
   obtain ⟨q3, hq3⟩ : ∃ q3, isW (bare l) (i + 1) b sNull = q3 := ⟨_, rfl⟩
   have HM := hid (fun w1 hr => rmust_any r A cap l (i + 1) b ⟨#[110, 117, 108, 108]⟩ q3 hq3 w1 hr hil hl)
   obtain ⟨j2, hj2⟩ : ∃ j2, (if q3 = true then i + 1 + 1 else i + 1) = j2 := ⟨_, rfl⟩
   obtain ⟨b2, hb2⟩ : ∃ b2, (if q3 = true then b else true) = b2 := ⟨_, rfl⟩
   have hP : P (bare l) (f + 1) (.test t) i b = (.one sIsNull t, j2, b2) := by
    rw [P, if_pos hq, if_pos hq2, hq3, ← hj2, ← hb2]
    cases q3 <;> rfl
   rw [hP]
   rw [hj2, hb2] at HM
   clear hP hq hq2 hq3 hj2 hb2 h hn hm D
   go_enter Tryz.func128, Tryz.ntmps128
   obtain ⟨w00, hw00⟩ : ∃ w00, w.alloc (.cells #[.string op, .string tx, .slice X n m] 25) = w00 := ⟨_, rfl⟩
   have N0 := hid (NBox.fresh w0 (.string ⟨#[]⟩) (.string ⟨#[]⟩) (.slice none 0 0) 25)
   have B0 := hid ((But.refl w0 r).alloc (.cells #[.string ⟨#[]⟩, .string ⟨#[]⟩, .slice none 0 0] 25))
   go_wp2_with fail
   refine (HOPS.out _).mono ?_
   rintro e w1 ⟨L1, c1, rfl, hs1, hg1, hb1⟩
   have N1 := hid (N0.out.below hb1)
   have B1 := hid (B0.out.next hb1)
   have R1 := hid ((H0.out.alloc (.cells #[.string ⟨#[]⟩, .string ⟨#[]⟩, .slice none 0 0] 25)).below hb1)
   have V1 := hid ((V0.out.alloc (.cells #[.string ⟨#[]⟩, .string ⟨#[]⟩, .slice none 0 0] 25)).below hb1)
   have K1 := hid ((K0.out.alloc (fun g hg => by have := (HSS.out g hg).1; omega) (.cells #[.string ⟨#[]⟩, .string ⟨#[]⟩, .slice none 0 0] 25)).below (fun g hg => by have := (HSS.out g hg).1; simp; omega) hb1)
   have S1 := hid hs1
   have G1 := hid (show ∀ ad, L1 = some ad → ad.block ≠ r from fun ad e => by have := hg1 ad e; simp at this; omega)
   have z1 : w0.heap.size < w1.heap.size := N1.out.lt
   clear hb1 hs1 hg1
   go_wp2_with fail
   refine (HONE.out L1 c1 _ R1.out S1.out G1.out).mono ?_
   rintro e w2 ⟨rfl, hb2, hr2⟩
   have N2 := hid (N1.out.but (by omega) hb2)
   have B2 := hid (B1.out.trans hb2)
   have R2 := hid hr2
   have V2 := hid (V1.out.but (by omega) hb2)
   have K2 := hid (K1.out.but (fun g hg => ⟨by have := (HSS.out g hg).1; omega, (HSS.out g hg).2⟩) hb2)
   have z2 : w1.heap.size ≤ w2.heap.size := hb2.size
   clear hb2 hr2 S1 G1
   go_wp2_with fail
   refine (HT.out _ R2.out).mono ?_
   rintro e w3 ⟨rfl, hb3, hr3⟩
   have N3 := hid (N2.out.but (by omega) hb3)
   have B3 := hid (B2.out.trans hb3)
   have R3 := hid hr3
   have V3 := hid (V2.out.but (by omega) hb3)
   have K3 := hid (K2.out.but (fun g hg => ⟨by have := (HSS.out g hg).1; omega, (HSS.out g hg).2⟩) hb3)
   have hs3 : w2.heap.size ≤ w3.heap.size := hb3.size
   clear hb3 hr3
   have NZ := N3.out
   rw [hz0] at NZ
   have zz := NZ.lt
   have zv := V3.out.lt
   obtain ⟨x0, x1, x2, xf⟩ := NZ
   obtain ⟨v0, v1, v2, vf⟩ := V3.out
   go_wp2_with fail
   refine (HM.out _ R3.out).mono ?_
   rintro e w4 ⟨rfl, hb4, hr4⟩
   have N4 := hid (N3.out.but (by omega) hb4)
   have B4 := hid (B3.out.trans hb4)
   have R4 := hid hr4
   have V4 := hid (V3.out.but (by omega) hb4)
   have K4 := hid (K3.out.but (fun g hg => ⟨by have := (HSS.out g hg).1; omega, (HSS.out g hg).2⟩) hb4)
   have hs4 : w3.heap.size ≤ w4.heap.size := hb4.size
   clear hb4 hr4
   have NZ := N4.out
   rw [hz0] at NZ
   have zz := NZ.lt
   have zv := V4.out.lt
   obtain ⟨x0, x1, x2, xf⟩ := NZ
   obtain ⟨v0, v1, v2, vf⟩ := V4.out
   go_wp2
   have NZ := N4.out
   rw [hz0] at NZ
   have Y := (NZ.set (.string ⟨#[105, 115, 32, 110, 117, 108, 108]⟩) (.string ⟨#[]⟩) (.slice (some ⟨w4.heap.size, 0, none⟩) 1 1)).alloc (.cells #[.string op, .string tx, .slice X n m] 25)
   exact bodyPost_ret (v := .agg #[.string ⟨#[105, 115, 32, 110, 117, 108, 108]⟩, .string ⟨#[]⟩, .slice (some ⟨w4.heap.size, 0, none⟩) 1 1]) (by simp [results, Tryz.results128, go_sem, Y.c0, Y.c1, Y.c2]) rfl
    (by have hh := (ret_one0 ⟨#[105, 115, 32, 110, 117, 108, 108]⟩ K4.out (fun g hg => ⟨by have := (HSS.out g hg).1; omega, by have := (HSS.out g hg).1; omega, .inl hg⟩) B4.out R4.out hrl0 25); rw [hz0] at hh; exact hh)
 ·rw [if_neg hq0] at HONE
  obtain ⟨hil, rfl⟩ := oneL_lt (show oneL (bare l) i b (opsL 4) ≠ [] by rw [hq]; exact hq0)
  have hmu := mu_next hil (.expr 5) (.test t) ⟨by omega, by omega⟩ (Nat.le_refl 1)
  rw [bare_length] at hil
  obtain ⟨y, j, b', hx⟩ : ∃ y j b', P (bare l) f (.expr 5) (i + 1) false = (y, j, b') := ⟨_, _, _, rfl⟩
  have HI := hid (fun w1 hr => D.expr 5 (i + 1) false w1 (by omega) (by omega) (by omega) (by omega) hr)
  rw [hx] at HI
  obtain ⟨Q, hQ⟩ : ∃ Q : ByteArray, ⟨q.toArray⟩ = Q := ⟨_, rfl⟩
  have hQq : q = Q.data.toList := by rw [← hQ]
  rw [hQ] at HONE
  have hQ1 : (Q.toList != []) = true := by
   rw [ByteArray.toList_eq, ← hQq]
   simpa using hq0
  have hQ0 : (Q.toList == []) = false := by
   rw [ByteArray.toList_eq, ← hQq]
   simpa using hq0
  have hP : P (bare l) (f + 1) (.test t) i false = (.two Q.data.toList t y, j, b') := by
   rw [P, hq, if_neg hq0, hx, hQq]
  rw [hP]
  clear hP hq hx hQ hQq hq0 hmu h hn hm D
  go_enter Tryz.func128, Tryz.ntmps128
  obtain ⟨w00, hw00⟩ : ∃ w00, w.alloc (.cells #[.string op, .string tx, .slice X n m] 25) = w00 := ⟨_, rfl⟩
  have N0 := hid (NBox.fresh w0 (.string ⟨#[]⟩) (.string ⟨#[]⟩) (.slice none 0 0) 25)
  have B0 := hid ((But.refl w0 r).alloc (.cells #[.string ⟨#[]⟩, .string ⟨#[]⟩, .slice none 0 0] 25))
  go_wp2_with fail
  refine (HOPS.out _).mono ?_
  rintro e w1 ⟨L1, c1, rfl, hs1, hg1, hb1⟩
  have N1 := hid (N0.out.below hb1)
  have B1 := hid (B0.out.next hb1)
  have R1 := hid ((H0.out.alloc (.cells #[.string ⟨#[]⟩, .string ⟨#[]⟩, .slice none 0 0] 25)).below hb1)
  have V1 := hid ((V0.out.alloc (.cells #[.string ⟨#[]⟩, .string ⟨#[]⟩, .slice none 0 0] 25)).below hb1)
  have K1 := hid ((K0.out.alloc (fun g hg => by have := (HSS.out g hg).1; omega) (.cells #[.string ⟨#[]⟩, .string ⟨#[]⟩, .slice none 0 0] 25)).below (fun g hg => by have := (HSS.out g hg).1; simp; omega) hb1)
  have S1 := hid hs1
  have G1 := hid (show ∀ ad, L1 = some ad → ad.block ≠ r from fun ad e => by have := hg1 ad e; simp at this; omega)
  have z1 : w0.heap.size < w1.heap.size := N1.out.lt
  clear hb1 hs1 hg1
  go_wp2_with fail
  refine (HONE.out L1 c1 _ R1.out S1.out G1.out).mono ?_
  rintro e w2 ⟨rfl, hb2, hr2⟩
  have N2 := hid (N1.out.but (by omega) hb2)
  have B2 := hid (B1.out.trans hb2)
  have R2 := hid hr2
  have V2 := hid (V1.out.but (by omega) hb2)
  have K2 := hid (K1.out.but (fun g hg => ⟨by have := (HSS.out g hg).1; omega, (HSS.out g hg).2⟩) hb2)
  have z2 : w1.heap.size ≤ w2.heap.size := hb2.size
  clear hb2 hr2 S1 G1
  have hlt2 : w0.heap.size < w2.heap.size := N2.out.lt
  go_wp2_with fail
  refine (HI.out _ R2.out).mono ?_
  rintro e w3 ⟨op2, tx2, X2, n2, m2, rfl, hn3, hb3, hr3⟩
  have I3 := hid (hn3.imp (S' := fun g => S g ∨ New w2 w3 g) (fun g hg => by rcases hg with hg | hg; exact hg.elim; exact .inr hg))
  clear hn3
  have J3 := hid ((K2.out.but (fun g hg => ⟨by have := (HSS.out g hg).1; omega, (HSS.out g hg).2⟩) hb3).imp (S' := fun g => S g ∨ New w2 w3 g) (fun g hg => .inl hg))
  have N3 := hid (N2.out.but (by omega) hb3)
  have B3 := hid (B2.out.trans hb3)
  have R3 := hid hr3
  have V3 := hid (V2.out.but (by omega) hb3)
  have K3 := hid (K2.out.but (fun g hg => ⟨by have := (HSS.out g hg).1; omega, (HSS.out g hg).2⟩) hb3)
  have hs3 : w2.heap.size ≤ w3.heap.size := hb3.size
  clear hb3 hr3
  have NZ := N3.out
  rw [hz0] at NZ
  have zz := NZ.lt
  have zv := V3.out.lt
  obtain ⟨x0, x1, x2, xf⟩ := NZ
  obtain ⟨v0, v1, v2, vf⟩ := V3.out
  have hlt3 := hs3
  go_wp2
  have NZ := N3.out
  rw [hz0] at NZ
  have Y := ((NZ.set (.string Q) (.string ⟨#[]⟩) (.slice (some ⟨w3.heap.size + 1, 0, none⟩) 2 2)).alloc (.cells #[.string op2, .string tx2, .slice X2 n2 m2] 25)).alloc (.cells #[.string op, .string tx, .slice X n m, .string op2, .string tx2, .slice X2 n2 m2] 25)
  exact bodyPost_ret (v := .agg #[.string Q, .string ⟨#[]⟩, .slice (some ⟨w3.heap.size + 1, 0, none⟩) 2 2]) (by simp [results, Tryz.results128, go_sem, Y.c0, Y.c1, Y.c2]) rfl
   (by have hh := (ret_two Q J3.out I3.out (fun g hg => by
    rcases hg with hg | hg
    ·exact ⟨by have := (HSS.out g hg).1; omega, by have := (HSS.out g hg).1; omega, .inl hg⟩
    ·exact ⟨hg.2, by have := hg.1; omega, .inr (by have := hg.1; omega)⟩) B3.out R3.out hrl0 (.cells #[.string op2, .string tx2, .slice X2 n2 m2] 25) 25 w0.heap.size (Nat.le_refl _) (fun hg => by
    rcases hg with hg | hg
    ·have := (HSS.out _ hg).1; omega
    ·have := hg.1; omega)); rw [hz0] at hh; exact hh)
end
end Go.Proofs.YtjbpkpfmgbhlpaaGreatDoor.Code
