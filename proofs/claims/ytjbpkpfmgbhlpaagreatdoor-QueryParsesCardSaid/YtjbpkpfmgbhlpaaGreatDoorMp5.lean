/-
  Contracts of the document's reader of words: the marks of a level, that of some marks that comes, a number.
-/
import Derived.Test.YtjbpkpfmgbhlpaaGreatDoorMp4
import Derived.Test.YtjbpkpfmgbhlpaaGreatDoorMp1
import Derived.Test.YtjbpkpfmgbhlpaaGreatDoorMp2
set_option maxRecDepth 100000
set_option maxHeartbeats 16000000
open Go.Lib (hid)
namespace Go.Proofs.YtjbpkpfmgbhlpaaGreatDoor.Code
open Go.ChangeShapes Go.WideShapes Go.ChangeAt Go.RowKit Val Elems
set_option linter.unusedVariables false
set_option linter.unusedSimpArgs false
def Strs (w w' : World) (e : Ending) (l : List (List UInt8)) : Prop := ∃ (A : Option Addr) (cap : Nat), e = .returned (.slice A l.length cap) ∧ At sc 1 w' w'.heap.size A l ∧ (∀ ad, A = some ad → w.heap.size ≤ ad.block) ∧ Below w.heap.size w w'
theorem strs_new (w : World) (l : List (List UInt8)) (t : TypeId) (cs : Array Value) (hc : cs = (l.map fun s => Value.string ⟨s.toArray⟩).toArray) : Strs w (w.alloc (.cells cs t)) (.returned (.slice (some ⟨w.heap.size, 0, none⟩) l.length l.length)) l := by
 refine ⟨_, _, rfl, ?_, ?_, (Below.refl _ _).alloc (Nat.le_refl _) _⟩
 ·subst hc
  have := texts_new w l t _ rfl
  rw [show ∀ o, (w.alloc o).heap.size = w.heap.size + 1 from fun o => by simp]
  exact this
 ·intro ad e
  cases e
  exact Nat.le_refl _
theorem strs_nil (w : World) : Strs w w (.returned (.slice none 0 0)) [] := ⟨none, 0, rfl, At.nil _ _ _, fun ad e => (by cases e), Below.refl _ _⟩
theorem rops_any (lv : Nat) (hl : lv ≤ 7) (w : World) :
  Calls Tryz.prog 130 #[.int .i64 lv] w fun e w' => Strs w w' e (opsL lv) := by
 have hc : lv = 0 ∨ lv = 1 ∨ lv = 2 ∨ lv = 3 ∨ lv = 4 ∨ lv = 5 ∨ lv = 6 ∨ lv = 7 := by omega
 rcases hc with rfl | rfl | rfl | rfl | rfl | rfl | rfl | rfl
 all_goals
  go_enter Tryz.func130, Tryz.ntmps130
  go_wp2
  go_ret
  first | exact strs_nil w | exact strs_new w (opsL 1) _ _ rfl | exact strs_new w (opsL 2) _ _ rfl | exact strs_new w (opsL 4) _ _ rfl | exact strs_new w (opsL 5) _ _ rfl | exact strs_new w (opsL 6) _ _ rfl
theorem oneL_step {L : List V} {i : Nat} {b : Bool} : ∀ (ls : List (List UInt8)) (k : Nat) (h : k < ls.length), (∀ j (hj : j < ls.length), j < k → isW L i b ls[j] = false) → isW L i b ls[k] = true → oneL L i b ls = ls[k]
 | [], k, h, _, _ => absurd h (Nat.not_lt_zero _)
 | s :: ls, 0, h, _, hw => by
  rw [oneL, if_pos (show isW L i b s = true from hw)]
  rfl
 | s :: ls, k + 1, h, hb, hw => by
  have h0 := hb 0 (by simp) (by omega)
  rw [oneL, if_neg (by rw [show isW L i b s = false from h0]; decide)]
  exact oneL_step ls k (by simpa using h) (fun j hj hjk => hb (j + 1) (by simpa using hj) (by omega)) hw
theorem rone_any (r : Nat) (A : Option Addr) (cap : Nat) (l : List W) (i : Nat) (b : Bool) (S : Option Addr) (sc' : Nat) (ls : List (List UInt8)) (w : World) (h : Rdr w r A cap l i b) (hi : i ≤ l.length) (hl : l.length ≤ 4194304)
  (hs : At sc 1 w w.heap.size S ls) (hne : ∀ ad, S = some ad → ad.block ≠ r) (hls : ls.length ≤ 100) (hn0 : [] ∉ ls) (q : List UInt8) (hq : oneL (bare l) i b ls = q) :
  Calls Tryz.prog 129 #[.pointer (some ⟨r, 0, none⟩), .slice S ls.length sc'] w fun e w' => e = .returned (.string ⟨q.toArray⟩) ∧ But w w' r ∧ Rdr w' r A cap l (if q = [] then i else i + 1) b := by
 have HR := hid h
 have HS := hid hs
 have HNE := hid hne
 have HN0 := hid hn0
 have HQ := hid hq
 clear h hs hne hn0 hq
 go_enter Tryz.func129, Tryz.ntmps129
 go_wp2
 go_loopw [5] (fun t wr => ∃ k : Nat, k ≤ ls.length ∧ t = .int .i64 k ∧ Hid (∀ j (hj : j < ls.length), j < k → isW (bare l) i b ls[j] = false) ∧ But w wr r ∧ Rdr wr r A cap l i b) (fun t _ => ls.length - (intOf t).toNat)
 case atStart => exact ⟨0, by omega, rfl, hid (fun j hj h => absurd h (Nat.not_lt_zero _)), But.refl _ _, HR.out⟩
 case round =>
  obtain ⟨k, hk, rfl, HB, hbut, hrd⟩ := hrel
  have HBU := hid hbut
  have HRD := hid hrd
  have VS := hid (at_but HS.out hbut (Nat.le_refl _) HNE.out)
  clear hbut hrd
  by_cases hkl : k < ls.length
  ·obtain ⟨ad, rfl, ha, c0⟩ := at_text VS.out k hkl
   obtain ⟨s, hsx⟩ : ∃ s, ls[k] = s := ⟨_, rfl⟩
   obtain ⟨T, hT⟩ : ∃ T : ByteArray, ⟨s.toArray⟩ = T := ⟨_, rfl⟩
   have hTs : T.data.toList = s := by rw [← hT]
   rw [hsx, hT] at c0
   obtain ⟨g, hg⟩ : ∃ g, isW (bare l) i b s = g := ⟨_, rfl⟩
   have HTK := hid (rtake_any r A cap l i b T g (by rw [hTs]; exact hg) wr HRD.out hi hl)
   have HNB := hid (HNE.out ad rfl)
   cases g
   ·have HB2 := hid (show ∀ j (hj : j < ls.length), j < k + 1 → isW (bare l) i b ls[j] = false by
     intro j hj hjk
     by_cases e : j = k
     ·subst e; rw [hsx]; exact hg
     ·exact HB.out j hj (by omega))
    clear hg hsx hT hTs
    go_wp2_with fail
    refine HTK.out.mono ?_
    rintro e w1 ⟨rfl, hb1, hr1⟩
    have B1 := hid (HBU.out.trans hb1)
    have R1 := hid hr1
    clear hb1 hr1 c0 HTK
    go_wp2
    go_roundw
    case rel => exact ⟨k + 1, by omega, by go_num, HB2, B1.out, R1.out⟩
    case measure => simp [intOf]; omega
   ·have hx := oneL_step ls k hkl HB.out (by rw [hsx]; exact hg)
    rw [HQ.out, hsx] at hx
    subst hx
    have hq0 : q ≠ [] := by
     intro e
     subst e
     exact HN0.out (hsx ▸ List.getElem_mem hkl)
    have HC := hid (fun (w' : World) (hb : But wr w' r) => show w'.cell? (ad.add k) = some (.string T) from (hb.cell (q := ad.add k) (by rw [add_block]; exact Nat.lt_of_lt_of_le ha HBU.out.size) (by rw [add_block]; exact HNB.out)).trans c0)
    have HT := hid hT
    clear hg hsx hT hTs
    go_wp2_with fail
    refine HTK.out.mono ?_
    rintro e w1 ⟨rfl, hb1, hr1⟩
    have B1 := hid (HBU.out.trans hb1)
    have R1 := hid hr1
    have c1 := HC.out _ hb1
    clear hb1 hr1 c0 HTK
    go_wp2
    go_ret
    refine ⟨retS HT.out.symm, B1.out, ?_⟩
    first | exact R1.out | (rw [if_neg hq0]; exact R1.out)
  ·have hx : oneL (bare l) i b ls = [] := oneL_none fun s hs => by
    obtain ⟨j, hj, rfl⟩ := List.mem_iff_getElem.1 hs
    exact HB.out j hj (by omega)
   rw [HQ.out] at hx
   subst hx
   go_wp2
   go_ret
   exact ⟨rfl, HBU.out, HRD.out⟩
def FigS (s : List UInt8) : Prop := ∀ c ∈ s, figB c = true
def numI (s : List UInt8) (i : Nat) (n : Int) : Prop := numF s 0 = numF (s.drop i) n
theorem numI_start (s : List UInt8) : numI s 0 0 := rfl
theorem numI_big {s : List UInt8} {i : Nat} {n : Int} (h : numI s i n) (hi : i < s.length) (hb : (9223372036854775807 - ((s[i].toNat : Int) - 48)) / 10 < n) : numF s 0 = none := by
 unfold numI at h
 rw [h, List.drop_eq_getElem_cons hi, numF, if_pos hb]
theorem numI_step {s : List UInt8} {i : Nat} {n : Int} (h : numI s i n) (hi : i < s.length) (hb : ¬ (9223372036854775807 - ((s[i].toNat : Int) - 48)) / 10 < n) : numI s (i + 1) (10 * n + ((s[i].toNat : Int) - 48)) := by
 unfold numI at *
 rw [h, List.drop_eq_getElem_cons hi, numF, if_neg hb]
theorem numI_end {s : List UInt8} {i : Nat} {n : Int} (h : numI s i n) (hi : s.length ≤ i) : numF s 0 = some n := by
 unfold numI at h
 rw [h, List.drop_eq_nil_of_le hi, numF]
def numOk (s : List UInt8) : Bool := (numL s).isSome
def numTx (s : List UInt8) : List UInt8 := (numL s).getD []
def numOp (s : List UInt8) : List UInt8 := if (numL s).isSome = true then sNum else []
theorem num_no {s : List UInt8} (h : numF s 0 = none) : numOk s = false ∧ numTx s = [] ∧ numOp s = [] := by
 unfold numOk numTx numOp numL
 rw [h]
 exact ⟨rfl, rfl, rfl⟩
theorem num_yes {s : List UInt8} {n : Int} (h : numF s 0 = some n) : numOk s = true ∧ numTx s = Lib.itoa n ∧ numOp s = sNum := by
 unfold numOk numTx numOp numL
 rw [h]
 exact ⟨rfl, rfl, rfl⟩
theorem rnumber_any (s : ByteArray) (hf : FigS s.data.toList) (hs : s.size ≤ 4194304) (w : World) :
  Calls Tryz.prog 146 #[.string s] w fun e w' => e = .returned (.tuple #[.agg #[.string ⟨(numOp s.data.toList).toArray⟩, .string ⟨(numTx s.data.toList).toArray⟩, .slice none 0 0], .bool (numOk s.data.toList)]) ∧ Below w.heap.size w w' := by
 have HF := hid hf
 clear hf
 go_enter Tryz.func146, Tryz.ntmps146
 go_wp2
 go_loop [4, 5] (fun v t => ∃ (i : Nat) (n : Int), i ≤ s.size ∧ t = .int .i64 i ∧ v = .int .i64 n ∧ 0 ≤ n ∧ n ≤ 9223372036854775807 ∧ Hid (numI s.data.toList i n)) (fun _ t => s.size - (intOf t).toNat)
 case atStart => exact ⟨0, 0, by omega, rfl, rfl, by omega, by omega, hid (numI_start _)⟩
 case round =>
  obtain ⟨i, n, hi, rfl, rfl, hn0, hn1, HI⟩ := hrel
  by_cases hil : i < s.size
  ·obtain ⟨c, hc⟩ : ∃ c, s[i] = c := ⟨_, rfl⟩
   have hg := (list_get s i hil hil).trans hc
   have hfig := HF.out s.data.toList[i] (List.getElem_mem hil)
   rw [hg] at hfig
   have hc48 : 48 ≤ c.toNat ∧ c.toNat ≤ 57 := by
    unfold figB at hfig
    simpa using hfig
   obtain ⟨d, hd⟩ : ∃ d : Int, (c.toNat : Int) - 48 = d := ⟨_, rfl⟩
   have hd0 : 0 ≤ d ∧ d ≤ 9 := by omega
   obtain ⟨Q, hQ⟩ : ∃ Q : Int, (9223372036854775807 - d) / 10 = Q := ⟨_, rfl⟩
   have hQ2 : (9223372036854775807 - d).tdiv 10 = Q := by rw [Int.tdiv_eq_ediv_of_nonneg (by omega)]; exact hQ
   have hw : IntKind.u8.wrap ((c.toNat : Int) - 48) = d := by
    rw [hd]
    show d % 256 = d
    omega
   by_cases hbig : Q < n
   ·have HD := hid (num_no (numI_big HI.out hil (by rw [hg, hd, hQ]; exact hbig)))
    clear hg hfig hd
    go_wp2
    exact bodyPost_ret (v := .tuple #[.agg #[.string ⟨#[]⟩, .string ⟨#[]⟩, .slice none 0 0], .bool false]) (by simp [results, Tryz.results146, go_sem, World.cell?_setCell_other]) rfl ⟨by rw [HD.out.1, HD.out.2.1, HD.out.2.2], below_alloc w _⟩
   ·have HD := hid (numI_step HI.out hil (by rw [hg, hd, hQ]; exact hbig))
    rw [hg, hd] at HD
    clear hg hfig hd
    go_wp2
    go_round
    case rel => exact ⟨i + 1, 10 * n + d, by omega, by go_num, rfl, by omega, by omega, HD⟩
    case measure => simp [intOf]; omega
  ·have hx := numI_end HI.out (by rw [← size_list]; omega)
   have HD := hid (num_yes hx)
   have HFG := hid (figures_any n (by unfold fits; omega))
   go_wp2_with fail
   refine (HFG.out _).mono ?_
   rintro e w1 ⟨rfl, hb1⟩
   have L1 := hid (bnext (below_alloc w (.cells #[.string ⟨#[]⟩, .string ⟨#[]⟩, .slice none 0 0] 25)) (by simp) hb1)
   have hz := hb1.size
   have x0 := (bcell hb1).1 w.heap.size 0 (by simp)
   have x1 := (bcell hb1).1 w.heap.size 1 (by simp)
   have x2 := (bcell hb1).1 w.heap.size 2 (by simp)
   have xf := (bcell hb1).2
   have xz : w.heap.size < w1.heap.size := by simp at hz; omega
   have y0 : w1.cell? ⟨w.heap.size, 0, none⟩ = some (.string ⟨#[]⟩) := by rw [x0]; simp [go_sem]
   have y1 : w1.cell? ⟨w.heap.size, 1, none⟩ = some (.string ⟨#[]⟩) := by rw [x1]; simp [go_sem]
   have y2 : w1.cell? ⟨w.heap.size, 2, none⟩ = some (.slice none 0 0) := by rw [x2]; simp [go_sem]
   have yf : ∀ j, w1.frozen? ⟨w.heap.size, j, none⟩ = false := fun j => by rw [xf _ _ (by simp)]; simp [go_sem]
   clear hb1 x0 x1 x2 xf hz hx
   go_wp2
   exact bodyPost_ret (v := .tuple #[.agg #[.string ⟨sNum.toArray⟩, .string ⟨(Lib.itoa n).toArray⟩, .slice none 0 0], .bool true]) (by simp [results, Tryz.results146, go_sem, World.cell?_setCell_other, y0, y1, y2, sNum]) rfl ⟨by rw [HD.out.1, HD.out.2.1, HD.out.2.2], ((L1.out.setCell (by simp) _).setCell (by simp) _).setCell (by simp) _⟩
theorem NIn.form {w : World} {S : Nat → Prop} {t : Tr} {a b c : Value} (h : NIn w S t a b c) : ∃ (X : Option Addr) (n m : Nat), c = .slice X n m := by
 cases t with
 | leaf op tx => exact ⟨_, _, _, h.2.2⟩
 | one op x => obtain ⟨_, _, g, cap, x0, x1, x2, h3, _⟩ := h; exact ⟨_, _, _, h3⟩
 | two op x y => obtain ⟨_, _, g, cap, x0, x1, x2, y0, y1, y2, h3, _⟩ := h; exact ⟨_, _, _, h3⟩
def New (w w' : World) (g : Nat) : Prop := w.heap.size ≤ g ∧ g < w'.heap.size
def Reads (r : Nat) (A : Option Addr) (cap : Nat) (l : List W) (w : World) (S : Nat → Prop) (res : Tr × Nat × Bool) (e : Ending) (w' : World) : Prop :=
 ∃ (op tx : ByteArray) (X : Option Addr) (n m : Nat), e = .returned (.agg #[.string op, .string tx, .slice X n m]) ∧ NIn w' (fun g => S g ∨ New w w' g) res.1 (.string op) (.string tx) (.slice X n m) ∧ But w w' r ∧ Rdr w' r A cap l res.2.1 res.2.2
def NoB (g : Nat) : Prop := False
structure Does (r : Nat) (A : Option Addr) (cap : Nat) (l : List W) (f : Nat) : Prop where
 expr : ∀ (lv i : Nat) (b : Bool) (w : World), 1 ≤ lv → lv ≤ 7 → i ≤ l.length → mu (bare l) (.expr lv) i < f → Rdr w r A cap l i b →
  Calls Tryz.prog 100 #[.pointer (some ⟨r, 0, none⟩), .int .i64 lv] w (Reads r A cap l w NoB (P (bare l) f (.expr lv) i b))
 sign : ∀ (i : Nat) (b : Bool) (w : World), i ≤ l.length → mu (bare l) .sign i < f → Rdr w r A cap l i b →
  Calls Tryz.prog 127 #[.pointer (some ⟨r, 0, none⟩)] w (Reads r A cap l w NoB (P (bare l) f .sign i b))
 test : ∀ (S : Nat → Prop) (t : Tr) (op tx : ByteArray) (X : Option Addr) (n m : Nat) (i : Nat) (b : Bool) (w : World), (∀ g, S g → g < w.heap.size ∧ g ≠ r) → NIn w S t (.string op) (.string tx) (.slice X n m) → i ≤ l.length → mu (bare l) (.test t) i < f → Rdr w r A cap l i b →
  Calls Tryz.prog 128 #[.pointer (some ⟨r, 0, none⟩), .agg #[.string op, .string tx, .slice X n m]] w (Reads r A cap l w S (P (bare l) f (.test t) i b))
def W3 (w : World) (g : Nat) (a b c : Value) : World := ((w.setCell ⟨g, 0, none⟩ a).setCell ⟨g, 1, none⟩ b).setCell ⟨g, 2, none⟩ c
theorem W3.size (w : World) (g : Nat) (a b c : Value) : (W3 w g a b c).heap.size = w.heap.size := by simp [W3]
theorem W3.but {w w1 : World} {r g : Nat} (h : But w w1 r) (hg : w.heap.size ≤ g) (a b c : Value) : But w (W3 w1 g a b c) r := ((h.new _ hg _).new _ hg _).new _ hg _
theorem W3.rdr {w : World} {r : Nat} {A : Option Addr} {cap : Nat} {l : List W} {i : Nat} {b : Bool} (h : Rdr w r A cap l i b) {g : Nat} (hg : r < g) (x y z : Value) : Rdr (W3 w g x y z) r A cap l i b := ((h.new _ hg _).new _ hg _).new _ hg _
theorem W3.nin {w : World} {S : Nat → Prop} {t : Tr} {a b c : Value} (h : NIn w S t a b c) {g : Nat} (hg : ¬ S g) (x y z : Value) : NIn (W3 w g x y z) S t a b c := ((h.setCell _ hg _).setCell _ hg _).setCell _ hg _
theorem W3.box {w : World} {g : Nat} {a b c : Value} (h : NBox w g a b c) (x y z : Value) : NBox (W3 w g x y z) g x y z := h.set x y z
section
variable {r : Nat} {A : Option Addr} {cap : Nat} {l : List W} {w w2 : World} {S S2 : Nat → Prop} {x y : Tr} {j : Nat} {b : Bool} {op tx op2 tx2 : ByteArray} {X X2 : Option Addr} {n m n2 m2 : Nat}
theorem ret_one (o : ByteArray) (hn : NIn w2 S2 x (.string op) (.string tx) (.slice X n m)) (hS : ∀ g, S2 g → g < w2.heap.size ∧ g ≠ w.heap.size ∧ (S g ∨ w.heap.size ≤ g)) (hb : But w w2 r) (hr : Rdr w2 r A cap l j b) (hrl : r < w.heap.size) (o1 : Obj) (t : TypeId) :
  Reads r A cap l w S (.one o.data.toList x, j, b) (.returned (.agg #[.string o, .string ⟨#[]⟩, .slice (some ⟨w2.heap.size + 1, 0, none⟩) 1 1])) (((W3 w2 w.heap.size (.string o) (.string ⟨#[]⟩) (.slice (some ⟨w2.heap.size + 1, 0, none⟩) 1 1)).alloc o1).alloc (.cells #[.string op, .string tx, .slice X n m] t)) := by
 have hz := hb.size
 obtain ⟨W, hW⟩ : ∃ W, W3 w2 w.heap.size (.string o) (.string ⟨#[]⟩) (.slice (some ⟨w2.heap.size + 1, 0, none⟩) 1 1) = W := ⟨_, rfl⟩
 have hs : W.heap.size = w2.heap.size := by rw [← hW, W3.size]
 have h1 : NIn W S2 x (.string op) (.string tx) (.slice X n m) := by rw [← hW]; exact W3.nin hn (fun h => (hS _ h).2.1 rfl) _ _ _
 have hB : But w W r := by rw [← hW]; exact W3.but hb (Nat.le_refl _) _ _ _
 have hR : Rdr W r A cap l j b := by rw [← hW]; exact W3.rdr hr hrl _ _ _
 rw [hW]
 have hs1 : (W.alloc o1).heap.size = w2.heap.size + 1 := by simp [hs]
 have h2 := NIn.one o (h1.alloc (fun g hg => by have := (hS g hg).1; omega) o1) (fun g hg => by have := (hS g hg).1; omega) (S' := fun g => S g ∨ New w ((W.alloc o1).alloc (.cells #[.string op, .string tx, .slice X n m] t)) g) (fun g hg => by
  obtain ⟨a1, a2, a3⟩ := hS g hg
  rcases a3 with a3 | a3
  ·exact .inl a3
  ·exact .inr ⟨a3, by simp [hs]; omega⟩) (.inr ⟨by rw [hs1]; omega, by simp⟩) t
 rw [hs1] at h2
 exact ⟨o, ⟨#[]⟩, _, 1, 1, rfl, h2, (hB.alloc _).alloc _, (hR.alloc _).alloc _⟩
theorem ret_two (o : ByteArray) (hn : NIn w2 S2 x (.string op) (.string tx) (.slice X n m)) (hn2 : NIn w2 S2 y (.string op2) (.string tx2) (.slice X2 n2 m2)) (hS : ∀ g, S2 g → g < w2.heap.size ∧ g ≠ w.heap.size ∧ (S g ∨ w.heap.size ≤ g)) (hb : But w w2 r) (hr : Rdr w2 r A cap l j b) (hrl : r < w.heap.size) (o1 : Obj) (t : TypeId) (g2 : Nat) (hg2 : w.heap.size ≤ g2) (hg3 : ¬ S2 g2) :
  Reads r A cap l w S (.two o.data.toList x y, j, b) (.returned (.agg #[.string o, .string ⟨#[]⟩, .slice (some ⟨w2.heap.size + 1, 0, none⟩) 2 2])) (((W3 w2 g2 (.string o) (.string ⟨#[]⟩) (.slice (some ⟨w2.heap.size + 1, 0, none⟩) 2 2)).alloc o1).alloc (.cells #[.string op, .string tx, .slice X n m, .string op2, .string tx2, .slice X2 n2 m2] t)) := by
 have hz := hb.size
 obtain ⟨W, hW⟩ : ∃ W, W3 w2 g2 (.string o) (.string ⟨#[]⟩) (.slice (some ⟨w2.heap.size + 1, 0, none⟩) 2 2) = W := ⟨_, rfl⟩
 have hs : W.heap.size = w2.heap.size := by rw [← hW, W3.size]
 have h1 : NIn W S2 x (.string op) (.string tx) (.slice X n m) := by rw [← hW]; exact W3.nin hn hg3 _ _ _
 have h1b : NIn W S2 y (.string op2) (.string tx2) (.slice X2 n2 m2) := by rw [← hW]; exact W3.nin hn2 hg3 _ _ _
 have hB : But w W r := by rw [← hW]; exact W3.but hb hg2 _ _ _
 have hR : Rdr W r A cap l j b := by rw [← hW]; exact W3.rdr hr (by omega) _ _ _
 rw [hW]
 have hs1 : (W.alloc o1).heap.size = w2.heap.size + 1 := by simp [hs]
 have h2 := NIn.two o (h1.alloc (fun g hg => by have := (hS g hg).1; omega) o1) (h1b.alloc (fun g hg => by have := (hS g hg).1; omega) o1) (fun g hg => by have := (hS g hg).1; omega) (S' := fun g => S g ∨ New w ((W.alloc o1).alloc (.cells #[.string op, .string tx, .slice X n m, .string op2, .string tx2, .slice X2 n2 m2] t)) g) (fun g hg => by
  obtain ⟨a1, a2, a3⟩ := hS g hg
  rcases a3 with a3 | a3
  ·exact .inl a3
  ·exact .inr ⟨a3, by simp [hs]; omega⟩) (.inr ⟨by rw [hs1]; omega, by simp⟩) t
 rw [hs1] at h2
 exact ⟨o, ⟨#[]⟩, _, 2, 2, rfl, h2, (hB.alloc _).alloc _, (hR.alloc _).alloc _⟩
theorem ret_same (hn : NIn w2 S2 x (.string op) (.string tx) (.slice X n m)) (hS : ∀ g, S2 g → g < w2.heap.size ∧ g ≠ w.heap.size ∧ (S g ∨ w.heap.size ≤ g)) (hb : But w w2 r) (hr : Rdr w2 r A cap l j b) (hrl : r < w.heap.size) :
  Reads r A cap l w S (x, j, b) (.returned (.agg #[.string op, .string tx, .slice X n m])) (W3 w2 w.heap.size (.string op) (.string tx) (.slice X n m)) := by
 have hz := hb.size
 refine ⟨op, tx, X, n, m, rfl, ?_, W3.but hb (Nat.le_refl _) _ _ _, W3.rdr hr hrl _ _ _⟩
 refine (W3.nin hn (fun h => (hS _ h).2.1 rfl) _ _ _).imp fun g hg => ?_
 obtain ⟨a1, a2, a3⟩ := hS g hg
 rcases a3 with a3 | a3
 ·exact .inl a3
 ·exact .inr ⟨a3, by rw [W3.size]; exact a1⟩
end
theorem sign_neg {r : Nat} {A : Option Addr} {cap : Nat} {l : List W} {f : Nat} (D : Does r A cap l f) (i : Nat) (b : Bool) (w : World) (hi : i ≤ l.length) (hl : l.length ≤ 4194304) (hm : mu (bare l) .sign i < f + 1) (h : Rdr w r A cap l i b) (hq : isW (bare l) i b [45] = true) :
  Calls Tryz.prog 127 #[.pointer (some ⟨r, 0, none⟩)] w (Reads r A cap l w NoB (P (bare l) (f + 1) .sign i b)) := by
 have hil := isW_len hq
 obtain ⟨x, j, b', hx⟩ : ∃ x j b', P (bare l) f .sign (i + 1) b = (x, j, b') := ⟨_, _, _, rfl⟩
 have hP : P (bare l) (f + 1) .sign i b = (.one sNeg x, j, b') := by rw [P, if_pos hq, hx]
 have hmu := mu_next (L := bare l) (by rw [bare_length]; exact hil) .sign .sign trivial (Nat.le_refl 1)
 rw [hP]
 have HI := hid (fun w1 hr => D.sign (i + 1) b w1 (by omega) (by omega) hr)
 rw [hx] at HI
 have HR := hid h
 have hrl := h.lt
 have HT := hid (fun w1 hr => rtake_any r A cap l i b ⟨#[45]⟩ true hq w1 hr hi hl)
 clear h hP hmu hx hq hm D
 go_enter Tryz.func127, Tryz.ntmps127
 go_wp2_with fail
 refine (HT.out _ (HR.out.alloc _)).mono ?_
 rintro e w1 ⟨rfl, hb1, hr1⟩
 have N1 := hid ((NBox.fresh w (.string ⟨#[]⟩) (.string ⟨#[]⟩) (.slice none 0 0) 25).but (by omega) hb1)
 have B1 := hid (((But.refl w r).alloc _).trans hb1)
 have R1 := hid hr1
 have hlt1 : w.heap.size < w1.heap.size := N1.out.lt
 clear hb1 hr1
 go_wp2_with fail
 refine (HI.out _ R1.out).mono ?_
 rintro e w2 ⟨op, tx, X, n, m, rfl, hn2, hb2, hr2⟩
 have N2 := hid (N1.out.but (by omega) hb2)
 have B2 := hid (B1.out.trans hb2)
 have R2 := hid hr2
 have I2 := hid hn2
 have z2 := N2.out.lt
 obtain ⟨x0, x1, x2, xf⟩ := N2.out
 clear hb2 hr2 hn2
 go_wp2
 have Y := ((N2.out.set (.string ⟨#[110, 101, 103]⟩) (.string ⟨#[]⟩) (.slice (some ⟨w2.heap.size + 1, 0, none⟩) 1 1)).alloc (.cells #[.string op, .string tx, .slice X n m] 25)).alloc (.cells #[.string op, .string tx, .slice X n m] 25)
 exact bodyPost_ret (v := .agg #[.string ⟨#[110, 101, 103]⟩, .string ⟨#[]⟩, .slice (some ⟨w2.heap.size + 1, 0, none⟩) 1 1]) (by simp [results, Tryz.results127, go_sem, Y.c0, Y.c1, Y.c2]) rfl
  (ret_one ⟨#[110, 101, 103]⟩ I2.out (fun g hg => by rcases hg with hg | hg; exact hg.elim; exact ⟨hg.2, by have := hg.1; omega, .inr (by have := hg.1; omega)⟩) B2.out R2.out hrl _ _)
end Go.Proofs.YtjbpkpfmgbhlpaaGreatDoor.Code
/-
  Nodes with any Kids in memory: what lies where, what stays; a list of nodes that is the call's own. No function of the program is named here.
-/
namespace Go.Proofs.YtjbpkpfmgbhlpaaGreatDoor.Code
open Go.ChangeShapes Go.WideShapes Go.ChangeAt Go.RowKit Val Elems
set_option linter.unusedVariables false
abbrev NV := ByteArray × ByteArray × Option Addr × Nat × Nat
def nc (x : NV) : List Value := [.string x.1, .string x.2.1, .slice x.2.2.1 x.2.2.2.1 x.2.2.2.2]
theorem nc_length (x : NV) : (nc x).length = 3 := rfl
theorem nc_one : ∀ x : NV, ∀ u ∈ nc x, u.oneCell' = true := by
 intro x u hu
 simp [nc] at hu
 rcases hu with rfl | rfl | rfl <;> rfl
def NAt (w : World) (S : Nat → Prop) (X : Option Addr) (l : List NV) : Prop :=
 ∀ (i : Nat) (h : i < l.length), ∃ ad : Addr, X = some ad ∧ S ad.block ∧ w.cell? (ad.add (i * 3)) = some (.string l[i].1) ∧ w.cell? ⟨(ad.add (i * 3)).block, (ad.add (i * 3)).off + 1, none⟩ = some (.string l[i].2.1) ∧ w.cell? ⟨(ad.add (i * 3)).block, (ad.add (i * 3)).off + 2, none⟩ = some (.slice l[i].2.2.1 l[i].2.2.2.1 l[i].2.2.2.2)
inductive RIn (w : World) (S : Nat → Prop) : Nod → NV → Prop
 | mk (op tx : List UInt8) (ks : List Nod) (X : Option Addr) (cap : Nat) (l : List NV) (hl : l.length = ks.length) (hb : ks.length ≤ 1000000000) (hc : ks.length ≤ cap) (hat : NAt w S X l) (hks : ∀ (i : Nat) (h : i < ks.length), RIn w S ks[i] (l[i]'(by omega))) :
   RIn w S (.mk op tx ks) (⟨op.toArray⟩, ⟨tx.toArray⟩, X, ks.length, cap)
theorem NAt.keep {w w' : World} {S S' : Nat → Prop} {X : Option Addr} {l : List NV} (h : NAt w S X l) (hS : ∀ g, S g → S' g) (hk : ∀ p : Addr, S p.block → w'.cell? p = w.cell? p) : NAt w' S' X l := by
 intro i hi
 obtain ⟨ad, e, hs, c0, c1, c2⟩ := h i hi
 have hb : S (ad.add (i * 3)).block := by rw [add_block]; exact hs
 exact ⟨ad, e, hS _ hs, (hk _ hb).trans c0, (hk ⟨(ad.add (i * 3)).block, (ad.add (i * 3)).off + 1, none⟩ hb).trans c1, (hk ⟨(ad.add (i * 3)).block, (ad.add (i * 3)).off + 2, none⟩ hb).trans c2⟩
theorem RIn.keep {w w' : World} {S S' : Nat → Prop} (hS : ∀ g, S g → S' g) (hk : ∀ p : Addr, S p.block → w'.cell? p = w.cell? p) {t : Nod} {x : NV} (h : RIn w S t x) : RIn w' S' t x := by
 induction h with
 | mk op tx ks X cap l hl hb hc hat hks ih => exact .mk op tx ks X cap l hl hb hc (hat.keep hS hk) ih
theorem RIn.imp {w : World} {S S' : Nat → Prop} {t : Nod} {x : NV} (h : RIn w S t x) (hS : ∀ g, S g → S' g) : RIn w S' t x := h.keep hS (fun _ _ => rfl)
theorem RIn.bel {w w' : World} {S : Nat → Prop} {t : Nod} {x : NV} (h : RIn w S t x) (hS : ∀ g, S g → g < w.heap.size) (hb : Below w.heap.size w w') : RIn w' S t x := h.keep (fun _ h => h) (fun p hp => hb.cell (hS _ hp))
theorem RIn.alloc {w : World} {S : Nat → Prop} {t : Nod} {x : NV} (h : RIn w S t x) (hS : ∀ g, S g → g < w.heap.size) (o : Obj) : RIn (w.alloc o) S t x := h.bel hS (below_alloc w o)
theorem RIn.but {w w' : World} {S : Nat → Prop} {r : Nat} {t : Nod} {x : NV} (h : RIn w S t x) (hS : ∀ g, S g → g < w.heap.size ∧ g ≠ r) (hb : But w w' r) : RIn w' S t x := h.keep (fun _ h => h) (fun p hp => hb.cell (hS _ hp).1 (hS _ hp).2)
theorem RIn.setCell {w : World} {S : Nat → Prop} {t : Nod} {x : NV} (h : RIn w S t x) (p : Addr) (hp : ¬ S p.block) (u : Value) : RIn (w.setCell p u) S t x :=
 h.keep (fun _ h => h) (fun q hq => World.cell?_setCell_other _ _ _ _ (by intro e; rw [e] at hp; exact hp hq))
theorem RIn.w3 {w : World} {S : Nat → Prop} {t : Nod} {x : NV} (h : RIn w S t x) {g : Nat} (hg : ¬ S g) (a b c : Value) : RIn (W3 w g a b c) S t x := ((h.setCell _ hg _).setCell _ hg _).setCell _ hg _
theorem RIn.cap {w : World} {S : Nat → Prop} {t : Nod} {x : NV} (h : RIn w S t x) : t.ks.length ≤ x.2.2.2.2 := by
 cases h with
 | mk op tx ks X cap l hl hb hc hat hks => exact hc
theorem RIn.texts {w : World} {S : Nat → Prop} {t : Nod} {x : NV} (h : RIn w S t x) : x.1 = ⟨t.op.toArray⟩ ∧ x.2.1 = ⟨t.tx.toArray⟩ ∧ x.2.2.2.1 = t.ks.length ∧ t.ks.length ≤ 1000000000 := by
 cases h with
 | mk op tx ks X cap l hl hb hc hat hks => exact ⟨rfl, rfl, rfl, hb⟩
theorem RIn.kid {w : World} {S : Nat → Prop} {t : Nod} {x : NV} (h : RIn w S t x) (k : Nat) (hk : k < t.ks.length) : ∃ (ad : Addr) (y : NV), x.2.2.1 = some ad ∧ S ad.block ∧ w.cell? (ad.add (k * 3)) = some (.string y.1) ∧ w.cell? ⟨(ad.add (k * 3)).block, (ad.add (k * 3)).off + 1, none⟩ = some (.string y.2.1) ∧ w.cell? ⟨(ad.add (k * 3)).block, (ad.add (k * 3)).off + 2, none⟩ = some (.slice y.2.2.1 y.2.2.2.1 y.2.2.2.2) ∧ RIn w S t.ks[k] y := by
 cases h with
 | mk op tx ks X cap l hl hb hc hat hks =>
  have hk' : k < ks.length := hk
  obtain ⟨ad, e, hs, c0, c1, c2⟩ := hat k (by omega)
  exact ⟨ad, l[k], e, hs, c0, c1, c2, hks k hk'⟩
theorem NIn.rin {w : World} {S : Nat → Prop} : ∀ (t : Tr) (op tx : ByteArray) (X : Option Addr) (n m : Nat), NIn w S t (.string op) (.string tx) (.slice X n m) → RIn w S t.n (op, tx, X, n, m)
 | .leaf o t, op, tx, X, n, m, h => by
  obtain ⟨h1, h2, h3⟩ := h
  injection h1 with h1
  injection h2 with h2
  injection h3 with h3 h4 h5
  subst h1 h2 h3 h4 h5
  exact .mk o t [] none 0 [] rfl (by decide) (by decide) (fun i hi => absurd hi (Nat.not_lt_zero _)) (fun i hi => absurd hi (Nat.not_lt_zero _))
 | .one o x, op, tx, X, n, m, h => by
  obtain ⟨h1, h2, g, cap, x0, x1, x2, h3, h4, c0, c1, c2, hx⟩ := h
  injection h1 with h1
  injection h2 with h2
  injection h3 with h3 h5 h6
  subst h1 h2 h3 h5 h6
  obtain ⟨X1, n1, k1, rfl⟩ := hx.form
  obtain ⟨rfl, rfl⟩ := hx.texts
  have ih := NIn.rin x _ _ X1 n1 k1 hx
  refine .mk o [] [x.n] (some ⟨g, 0, none⟩) (cap + 1) [(⟨(opOf x).toArray⟩, ⟨(txOf x).toArray⟩, X1, n1, k1)] rfl (by simp) (by simp) (fun i hi => ?_) (fun i hi => ?_)
  ·obtain rfl : i = 0 := by simp at hi; exact hi
   exact ⟨_, rfl, h4, c0, c1, c2⟩
  ·obtain rfl : i = 0 := by simp at hi; exact hi
   exact ih
 | .two o x y, op, tx, X, n, m, h => by
  obtain ⟨h1, h2, g, cap, x0, x1, x2, y0, y1, y2, h3, h4, c0, c1, c2, d0, d1, d2, hx, hy⟩ := h
  injection h1 with h1
  injection h2 with h2
  injection h3 with h3 h5 h6
  subst h1 h2 h3 h5 h6
  obtain ⟨X1, n1, k1, rfl⟩ := hx.form
  obtain ⟨rfl, rfl⟩ := hx.texts
  obtain ⟨X2, n2, k2, rfl⟩ := hy.form
  obtain ⟨rfl, rfl⟩ := hy.texts
  have ih := NIn.rin x _ _ X1 n1 k1 hx
  have ih2 := NIn.rin y _ _ X2 n2 k2 hy
  refine .mk o [] [x.n, y.n] (some ⟨g, 0, none⟩) (cap + 2) [(⟨(opOf x).toArray⟩, ⟨(txOf x).toArray⟩, X1, n1, k1), (⟨(opOf y).toArray⟩, ⟨(txOf y).toArray⟩, X2, n2, k2)] rfl (by simp) (by simp) (fun i hi => ?_) (fun i hi => ?_)
  ·have hc : i = 0 ∨ i = 1 := by simp at hi; omega
   rcases hc with rfl | rfl
   ·exact ⟨_, rfl, h4, c0, c1, c2⟩
   ·exact ⟨_, rfl, h4, d0, d1, d2⟩
  ·have hc : i = 0 ∨ i = 1 := by simp at hi; omega
   rcases hc with rfl | rfl
   ·exact ih
   ·exact ih2
def RAll (w : World) (S : Nat → Prop) (ks : List Nod) (l : List NV) : Prop := l.length = ks.length ∧ ∀ (i : Nat) (h : i < ks.length) (h' : i < l.length), RIn w S ks[i] l[i]
theorem RAll.nil (w : World) (S : Nat → Prop) : RAll w S [] [] := ⟨rfl, fun i h => absurd h (Nat.not_lt_zero _)⟩
theorem RAll.keep {w w' : World} {S S' : Nat → Prop} (hS : ∀ g, S g → S' g) (hk : ∀ p : Addr, S p.block → w'.cell? p = w.cell? p) {ks : List Nod} {l : List NV} (h : RAll w S ks l) : RAll w' S' ks l := ⟨h.1, fun i hi hi' => (h.2 i hi hi').keep hS hk⟩
theorem RAll.snoc {w : World} {S : Nat → Prop} {ks : List Nod} {l : List NV} (h : RAll w S ks l) {t : Nod} {x : NV} (hx : RIn w S t x) : RAll w S (ks ++ [t]) (l ++ [x]) := by
 refine ⟨by simp [h.1], fun i hi hi' => ?_⟩
 by_cases hlt : i < ks.length
 ·rw [List.getElem_append_left hlt, List.getElem_append_left (by rw [h.1]; exact hlt)]
  exact h.2 i hlt _
 ·obtain rfl : i = ks.length := by simp at hi; omega
  rw [List.getElem_append_right (Nat.le_refl _), List.getElem_append_right (by rw [h.1]; exact Nat.le_refl _)]
  simp only [Nat.sub_self, h.1, List.getElem_singleton]
  exact hx
theorem RAll.append {w : World} {S : Nat → Prop} {ks ks' : List Nod} {l l' : List NV} (h : RAll w S ks l) (h' : RAll w S ks' l') : RAll w S (ks ++ ks') (l ++ l') := by
 refine ⟨by simp [h.1, h'.1], fun i hi hi' => ?_⟩
 by_cases hlt : i < ks.length
 ·rw [List.getElem_append_left hlt, List.getElem_append_left (by rw [h.1]; exact hlt)]
  exact h.2 i hlt _
 ·rw [List.getElem_append_right (by omega), List.getElem_append_right (by rw [h.1]; omega)]
  simp only [h.1]
  exact h'.2 _ _ _
theorem RAll.one {w : World} {S : Nat → Prop} {t : Nod} {x : NV} (hx : RIn w S t x) : RAll w S [t] [x] := (RAll.nil w S).snoc hx
theorem nat_of {w : World} {B : Nat} {A : Option Addr} {l : List NV} {S : Nat → Prop} (h : At nc 3 w B A l) (hS : ∀ ad, A = some ad → 0 < l.length → S ad.block) : NAt w S A l := by
 intro i hi
 obtain ⟨ad, e, hb, h0⟩ := h i hi
 refine ⟨ad, e, hS ad e (by omega), h0 0 _ rfl, ?_, ?_⟩
 ·rw [← add_next]; exact h0 1 _ rfl
 ·rw [← add_next]; exact h0 2 _ rfl
theorem NAt.at {w : World} {S : Nat → Prop} {X : Option Addr} {l : List NV} (h : NAt w S X l) {B : Nat} (hB : ∀ g, S g → g < B) : At nc 3 w B X l := by
 intro i hi
 obtain ⟨ad, e, hs, c0, c1, c2⟩ := h i hi
 refine ⟨ad, e, hB _ hs, fun j u hu => ?_⟩
 have hj : j = 0 ∨ j = 1 ∨ j = 2 := by
  have := (List.getElem?_eq_some_iff.1 hu).1
  rw [nc_length] at this
  omega
 rcases hj with rfl | rfl | rfl
 ·cases hu; exact c0
 ·cases hu; rw [add_next]; exact c1
 ·cases hu; rw [add_next]; exact c2
theorem RIn.made {w : World} {S : Nat → Prop} {ks : List Nod} {l : List NV} {X : Option Addr} (cap : Nat) (op tx : ByteArray) (hat : NAt w S X l) (h : RAll w S ks l) (hb : ks.length ≤ 1000000000) (hc : ks.length ≤ cap) : RIn w S (.mk op.data.toList tx.data.toList ks) (op, tx, X, ks.length, cap) := by
 have := RIn.mk (w := w) (S := S) op.data.toList tx.data.toList ks X cap l h.1 hb hc hat (fun i hi => h.2 i hi _)
 rwa [Lib.mk_data, Lib.mk_data] at this
theorem RIn.leafN (w : World) (S : Nat → Prop) (op tx : ByteArray) : RIn w S (.mk op.data.toList tx.data.toList []) (op, tx, none, 0, 0) :=
 RIn.made 0 op tx (l := []) (fun i hi => absurd hi (Nat.not_lt_zero _)) (RAll.nil w S) (by decide) (by decide)
theorem own_nat {w : World} {B : Nat} {v : Value} {l : List NV} (h : w.ownsRow B 25 3 v l.length (flatC nc l)) : ∃ A cap, v = .slice A l.length cap ∧ NAt w (fun g => B ≤ g ∧ g < w.heap.size) A l ∧ l.length ≤ cap := by
 obtain ⟨A, cap, e, hat⟩ := own_at nc_length h
 have hcp : l.length ≤ cap := by
  rcases h.2 with ⟨hv, hz⟩ | ⟨g, cap', cur, hv, _, _, hle, _⟩
  ·rw [hz]; exact Nat.zero_le _
  ·rw [hv] at e
   injection e with _ _ e
   rw [← e]
   exact hle
 refine ⟨A, cap, e, nat_of hat (fun ad hA hpos => ?_), hcp⟩
 obtain ⟨g, cap', hv, hg, hlt⟩ := h.form hpos
 rw [hv] at e
 injection e with e _
 rw [hA] at e
 injection e with e
 subst e
 exact ⟨hg, hlt⟩
end Go.Proofs.YtjbpkpfmgbhlpaaGreatDoor.Code
/-
  The document's reader of expressions: the other half of a test.
-/
namespace Go.Proofs.YtjbpkpfmgbhlpaaGreatDoor.Code
open Go.ChangeShapes Go.WideShapes Go.ChangeAt Go.RowKit Val Elems
set_option linter.unusedVariables false
set_option linter.unusedSimpArgs false
theorem Reads.since {r : Nat} {A : Option Addr} {cap : Nat} {l : List W} {w : World} {S : Nat → Prop} {res : Tr × Nat × Bool} {e : Ending} {w' : World} {o : Obj} (h : Reads r A cap l (w.alloc o) S res e w') : Reads r A cap l w S res e w' := by
 obtain ⟨op, tx, X, n, m, he, hn, hb, hr⟩ := h
 refine ⟨op, tx, X, n, m, he, hn.imp fun g hg => ?_, ((But.refl w r).alloc o).trans hb, hr⟩
 rcases hg with hg | hg
 ·exact .inl hg
 ·exact .inr ⟨by have := hg.1; simp at this; omega, hg.2⟩
theorem ret_one0 {r : Nat} {A : Option Addr} {cap : Nat} {l : List W} {w w2 : World} {S S2 : Nat → Prop} {x : Tr} {j : Nat} {b : Bool} {op tx : ByteArray} {X : Option Addr} {n m : Nat} (o : ByteArray) (hn : NIn w2 S2 x (.string op) (.string tx) (.slice X n m)) (hS : ∀ g, S2 g → g < w2.heap.size ∧ g ≠ w.heap.size ∧ (S g ∨ w.heap.size ≤ g)) (hb : But w w2 r) (hr : Rdr w2 r A cap l j b) (hrl : r < w.heap.size) (t : TypeId) :
  Reads r A cap l w S (.one o.data.toList x, j, b) (.returned (.agg #[.string o, .string ⟨#[]⟩, .slice (some ⟨w2.heap.size, 0, none⟩) 1 1])) ((W3 w2 w.heap.size (.string o) (.string ⟨#[]⟩) (.slice (some ⟨w2.heap.size, 0, none⟩) 1 1)).alloc (.cells #[.string op, .string tx, .slice X n m] t)) := by
 have hz := hb.size
 obtain ⟨W, hW⟩ : ∃ W, W3 w2 w.heap.size (.string o) (.string ⟨#[]⟩) (.slice (some ⟨w2.heap.size, 0, none⟩) 1 1) = W := ⟨_, rfl⟩
 have hs : W.heap.size = w2.heap.size := by rw [← hW, W3.size]
 have h1 : NIn W S2 x (.string op) (.string tx) (.slice X n m) := by rw [← hW]; exact W3.nin hn (fun h => (hS _ h).2.1 rfl) _ _ _
 have hB : But w W r := by rw [← hW]; exact W3.but hb (Nat.le_refl _) _ _ _
 have hR : Rdr W r A cap l j b := by rw [← hW]; exact W3.rdr hr hrl _ _ _
 rw [hW]
 have h2 := NIn.one o h1 (fun g hg => by have := (hS g hg).1; omega) (S' := fun g => S g ∨ New w (W.alloc (.cells #[.string op, .string tx, .slice X n m] t)) g) (fun g hg => by
  obtain ⟨a1, a2, a3⟩ := hS g hg
  rcases a3 with a3 | a3
  ·exact .inl a3
  ·exact .inr ⟨a3, by simp [hs]; omega⟩) (.inr ⟨by rw [hs]; omega, by simp⟩) t
 rw [hs] at h2
 exact ⟨o, ⟨#[]⟩, _, 1, 1, rfl, h2, hB.alloc _, hR.alloc _⟩
section
variable {r : Nat} {A : Option Addr} {cap : Nat} {l : List W} {f : Nat}
theorem test_does (D : Does r A cap l f) (S : Nat → Prop) (t : Tr) (op tx : ByteArray) (X : Option Addr) (n m : Nat) (i : Nat) (b : Bool) (w : World) (hS : ∀ g, S g → g < w.heap.size ∧ g ≠ r) (hn : NIn w S t (.string op) (.string tx) (.slice X n m)) (hi : i ≤ l.length) (hl : l.length ≤ 4194304) (hm : mu (bare l) (.test t) i < f + 1) (h : Rdr w r A cap l i b) :
  Calls Tryz.prog 128 #[.pointer (some ⟨r, 0, none⟩), .agg #[.string op, .string tx, .slice X n m]] w (Reads r A cap l w S (P (bare l) (f + 1) (.test t) i b)) := by
 obtain ⟨w0, hw0⟩ : ∃ w0, w.alloc (.cells #[.string op, .string tx, .slice X n m] 25) = w0 := ⟨_, rfl⟩
 have hz0 : w0.heap.size = w.heap.size + 1 := by rw [← hw0]; simp
 have V0 := hid (show NBox w0 w.heap.size (.string op) (.string tx) (.slice X n m) by rw [← hw0]; exact NBox.fresh _ _ _ _ _)
 have H0 := hid (show Rdr w0 r A cap l i b by rw [← hw0]; exact h.alloc _)
 have K0 := hid (show NIn w0 S t (.string op) (.string tx) (.slice X n m) by rw [← hw0]; exact hn.alloc (fun g hg => (hS g hg).1) _)
 have hrl := h.lt
 have hrl0 : r < w0.heap.size := by omega
 have HSS := hid hS
 refine Calls.mono (R := Reads r A cap l w0 S (P (bare l) (f + 1) (.test t) i b)) ?_ (fun e w' hR => by rw [← hw0] at hR; exact hR.since)
 obtain ⟨q, hq⟩ : ∃ q, oneL (bare l) i b (opsL 4) = q := ⟨_, rfl⟩
 have HOPS := hid (fun w => rops_any 4 (by omega) w)
 have HONE := hid (fun (S' : Option Addr) (c' : Nat) (w1 : World) (hr : Rdr w1 r A cap l i b) hs hne => rone_any r A cap l i b S' c' (opsL 4) w1 hr hi hl hs hne (by decide) (by decide) q hq)
 by_cases hq0 : q = []
 ·subst hq0
  rw [if_pos rfl] at HONE
  obtain ⟨q2, hq2⟩ : ∃ q2, isW (bare l) i b sIs = q2 := ⟨_, rfl⟩
  have HT := hid (fun w1 hr => rtake_any r A cap l i b ⟨#[105, 115]⟩ q2 hq2 w1 hr hi hl)
  cases q2
  ·have hP : P (bare l) (f + 1) (.test t) i b = (t, i, b) := by rw [P, if_pos hq, if_neg (by rw [hq2]; decide)]
   rw [hP]
   clear hP hq hq2 h hn hm D
   go_enter Tryz.func128, Tryz.ntmps128
   obtain ⟨w00, hw00⟩ : ∃ w00, w.alloc (.cells #[.string op, .string tx, .slice X n m] 25) = w00 := ⟨_, rfl⟩
   have N0 := hid (NBox.fresh w0 (.string ⟨#[]⟩) (.string ⟨#[]⟩) (.slice none 0 0) 25)
   have B0 := hid ((But.refl w0 r).alloc (.cells #[.string ⟨#[]⟩, .string ⟨#[]⟩, .slice none 0 0] 25))
   go_wp2_with fail
   refine (HOPS.out _).mono ?_
   rintro e w1 ⟨L1, c1, rfl, hs1, hg1, hb1⟩
   have N1 := hid (N0.out.below hb1)
   have B1 := hid (B0.out.next hb1)
   have R1 := hid ((H0.out.alloc (.cells #[.string ⟨#[]⟩, .string ⟨#[]⟩, .slice none 0 0] 25)).below hb1)
   have V1 := hid ((V0.out.alloc (.cells #[.string ⟨#[]⟩, .string ⟨#[]⟩, .slice none 0 0] 25)).below hb1)
   have K1 := hid ((K0.out.alloc (fun g hg => by have := (HSS.out g hg).1; omega) (.cells #[.string ⟨#[]⟩, .string ⟨#[]⟩, .slice none 0 0] 25)).below (fun g hg => by have := (HSS.out g hg).1; simp; omega) hb1)
   have S1 := hid hs1
   have G1 := hid (show ∀ ad, L1 = some ad → ad.block ≠ r from fun ad e => by have := hg1 ad e; simp at this; omega)
   have z1 : w0.heap.size < w1.heap.size := N1.out.lt
   clear hb1 hs1 hg1
   go_wp2_with fail
   refine (HONE.out L1 c1 _ R1.out S1.out G1.out).mono ?_
   rintro e w2 ⟨rfl, hb2, hr2⟩
   have N2 := hid (N1.out.but (by omega) hb2)
   have B2 := hid (B1.out.trans hb2)
   have R2 := hid hr2
   have V2 := hid (V1.out.but (by omega) hb2)
   have K2 := hid (K1.out.but (fun g hg => ⟨by have := (HSS.out g hg).1; omega, (HSS.out g hg).2⟩) hb2)
   have z2 : w1.heap.size ≤ w2.heap.size := hb2.size
   clear hb2 hr2 S1 G1
   go_wp2_with fail
   refine (HT.out _ R2.out).mono ?_
   rintro e w3 ⟨rfl, hb3, hr3⟩
   have N3 := hid (N2.out.but (by omega) hb3)
   have B3 := hid (B2.out.trans hb3)
   have R3 := hid hr3
   have V3 := hid (V2.out.but (by omega) hb3)
   have K3 := hid (K2.out.but (fun g hg => ⟨by have := (HSS.out g hg).1; omega, (HSS.out g hg).2⟩) hb3)
   have hs3 : w2.heap.size ≤ w3.heap.size := hb3.size
   clear hb3 hr3
   have NZ := N3.out
   rw [hz0] at NZ
   have zz := NZ.lt
   have zv := V3.out.lt
   obtain ⟨x0, x1, x2, xf⟩ := NZ
   obtain ⟨v0, v1, v2, vf⟩ := V3.out
   go_wp2
   have NZ := N3.out
   rw [hz0] at NZ
   have Y := NZ.set (.string op) (.string tx) (.slice X n m)
   exact bodyPost_ret (v := .agg #[.string op, .string tx, .slice X n m]) (by simp [results, Tryz.results128, go_sem, Y.c0, Y.c1, Y.c2]) rfl
    (by have hh := (ret_same K3.out (fun g hg => ⟨by have := (HSS.out g hg).1; omega, by have := (HSS.out g hg).1; omega, .inl hg⟩) B3.out R3.out hrl0); rw [hz0] at hh; exact hh)
  ·have hil := isW_len hq2
   obtain ⟨q3, hq3⟩ : ∃ q3, isW (bare l) (i + 1) b sNull = q3 := ⟨_, rfl⟩
   have HM := hid (fun w1 hr => rmust_any r A cap l (i + 1) b ⟨#[110, 117, 108, 108]⟩ q3 hq3 w1 hr hil hl)
   obtain ⟨j2, hj2⟩ : ∃ j2, (if q3 = true then i + 1 + 1 else i + 1) = j2 := ⟨_, rfl⟩
   obtain ⟨b2, hb2⟩ : ∃ b2, (if q3 = true then b else true) = b2 := ⟨_, rfl⟩
   have hP : P (bare l) (f + 1) (.test t) i b = (.one sIsNull t, j2, b2) := by
    rw [P, if_pos hq, if_pos hq2, hq3, ← hj2, ← hb2]
    cases q3 <;> rfl
   rw [hP]
   rw [hj2, hb2] at HM
   clear hP hq hq2 hq3 hj2 hb2 h hn hm D
   go_enter Tryz.func128, Tryz.ntmps128
   obtain ⟨w00, hw00⟩ : ∃ w00, w.alloc (.cells #[.string op, .string tx, .slice X n m] 25) = w00 := ⟨_, rfl⟩
   have N0 := hid (NBox.fresh w0 (.string ⟨#[]⟩) (.string ⟨#[]⟩) (.slice none 0 0) 25)
   have B0 := hid ((But.refl w0 r).alloc (.cells #[.string ⟨#[]⟩, .string ⟨#[]⟩, .slice none 0 0] 25))
   go_wp2_with fail
   refine (HOPS.out _).mono ?_
   rintro e w1 ⟨L1, c1, rfl, hs1, hg1, hb1⟩
   have N1 := hid (N0.out.below hb1)
   have B1 := hid (B0.out.next hb1)
   have R1 := hid ((H0.out.alloc (.cells #[.string ⟨#[]⟩, .string ⟨#[]⟩, .slice none 0 0] 25)).below hb1)
   have V1 := hid ((V0.out.alloc (.cells #[.string ⟨#[]⟩, .string ⟨#[]⟩, .slice none 0 0] 25)).below hb1)
   have K1 := hid ((K0.out.alloc (fun g hg => by have := (HSS.out g hg).1; omega) (.cells #[.string ⟨#[]⟩, .string ⟨#[]⟩, .slice none 0 0] 25)).below (fun g hg => by have := (HSS.out g hg).1; simp; omega) hb1)
   have S1 := hid hs1
   have G1 := hid (show ∀ ad, L1 = some ad → ad.block ≠ r from fun ad e => by have := hg1 ad e; simp at this; omega)
   have z1 : w0.heap.size < w1.heap.size := N1.out.lt
   clear hb1 hs1 hg1
   go_wp2_with fail
   refine (HONE.out L1 c1 _ R1.out S1.out G1.out).mono ?_
   rintro e w2 ⟨rfl, hb2, hr2⟩
   have N2 := hid (N1.out.but (by omega) hb2)
   have B2 := hid (B1.out.trans hb2)
   have R2 := hid hr2
   have V2 := hid (V1.out.but (by omega) hb2)
   have K2 := hid (K1.out.but (fun g hg => ⟨by have := (HSS.out g hg).1; omega, (HSS.out g hg).2⟩) hb2)
   have z2 : w1.heap.size ≤ w2.heap.size := hb2.size
   clear hb2 hr2 S1 G1
   go_wp2_with fail
   refine (HT.out _ R2.out).mono ?_
   rintro e w3 ⟨rfl, hb3, hr3⟩
   have N3 := hid (N2.out.but (by omega) hb3)
   have B3 := hid (B2.out.trans hb3)
   have R3 := hid hr3
   have V3 := hid (V2.out.but (by omega) hb3)
   have K3 := hid (K2.out.but (fun g hg => ⟨by have := (HSS.out g hg).1; omega, (HSS.out g hg).2⟩) hb3)
   have hs3 : w2.heap.size ≤ w3.heap.size := hb3.size
   clear hb3 hr3
   have NZ := N3.out
   rw [hz0] at NZ
   have zz := NZ.lt
   have zv := V3.out.lt
   obtain ⟨x0, x1, x2, xf⟩ := NZ
   obtain ⟨v0, v1, v2, vf⟩ := V3.out
   go_wp2_with fail
   refine (HM.out _ R3.out).mono ?_
   rintro e w4 ⟨rfl, hb4, hr4⟩
   have N4 := hid (N3.out.but (by omega) hb4)
   have B4 := hid (B3.out.trans hb4)
   have R4 := hid hr4
   have V4 := hid (V3.out.but (by omega) hb4)
   have K4 := hid (K3.out.but (fun g hg => ⟨by have := (HSS.out g hg).1; omega, (HSS.out g hg).2⟩) hb4)
   have hs4 : w3.heap.size ≤ w4.heap.size := hb4.size
   clear hb4 hr4
   have NZ := N4.out
   rw [hz0] at NZ
   have zz := NZ.lt
   have zv := V4.out.lt
   obtain ⟨x0, x1, x2, xf⟩ := NZ
   obtain ⟨v0, v1, v2, vf⟩ := V4.out
   go_wp2
   have NZ := N4.out
   rw [hz0] at NZ
   have Y := (NZ.set (.string ⟨#[105, 115, 32, 110, 117, 108, 108]⟩) (.string ⟨#[]⟩) (.slice (some ⟨w4.heap.size, 0, none⟩) 1 1)).alloc (.cells #[.string op, .string tx, .slice X n m] 25)
   exact bodyPost_ret (v := .agg #[.string ⟨#[105, 115, 32, 110, 117, 108, 108]⟩, .string ⟨#[]⟩, .slice (some ⟨w4.heap.size, 0, none⟩) 1 1]) (by simp [results, Tryz.results128, go_sem, Y.c0, Y.c1, Y.c2]) rfl
    (by have hh := (ret_one0 ⟨#[105, 115, 32, 110, 117, 108, 108]⟩ K4.out (fun g hg => ⟨by have := (HSS.out g hg).1; omega, by have := (HSS.out g hg).1; omega, .inl hg⟩) B4.out R4.out hrl0 25); rw [hz0] at hh; exact hh)
 ·rw [if_neg hq0] at HONE
  obtain ⟨hil, rfl⟩ := oneL_lt (show oneL (bare l) i b (opsL 4) ≠ [] by rw [hq]; exact hq0)
  have hmu := mu_next hil (.expr 5) (.test t) ⟨by omega, by omega⟩ (Nat.le_refl 1)
  rw [bare_length] at hil
  obtain ⟨y, j, b', hx⟩ : ∃ y j b', P (bare l) f (.expr 5) (i + 1) false = (y, j, b') := ⟨_, _, _, rfl⟩
  have HI := hid (fun w1 hr => D.expr 5 (i + 1) false w1 (by omega) (by omega) (by omega) (by omega) hr)
  rw [hx] at HI
  obtain ⟨Q, hQ⟩ : ∃ Q : ByteArray, ⟨q.toArray⟩ = Q := ⟨_, rfl⟩
  have hQq : q = Q.data.toList := by rw [← hQ]
  rw [hQ] at HONE
  have hQ1 : (Q.toList != []) = true := by
   rw [ByteArray.toList_eq, ← hQq]
   simpa using hq0
  have hQ0 : (Q.toList == []) = false := by
   rw [ByteArray.toList_eq, ← hQq]
   simpa using hq0
  have hP : P (bare l) (f + 1) (.test t) i false = (.two Q.data.toList t y, j, b') := by
   rw [P, hq, if_neg hq0, hx, hQq]
  rw [hP]
  clear hP hq hx hQ hQq hq0 hmu h hn hm D
  go_enter Tryz.func128, Tryz.ntmps128
  obtain ⟨w00, hw00⟩ : ∃ w00, w.alloc (.cells #[.string op, .string tx, .slice X n m] 25) = w00 := ⟨_, rfl⟩
  have N0 := hid (NBox.fresh w0 (.string ⟨#[]⟩) (.string ⟨#[]⟩) (.slice none 0 0) 25)
  have B0 := hid ((But.refl w0 r).alloc (.cells #[.string ⟨#[]⟩, .string ⟨#[]⟩, .slice none 0 0] 25))
  go_wp2_with fail
  refine (HOPS.out _).mono ?_
  rintro e w1 ⟨L1, c1, rfl, hs1, hg1, hb1⟩
  have N1 := hid (N0.out.below hb1)
  have B1 := hid (B0.out.next hb1)
  have R1 := hid ((H0.out.alloc (.cells #[.string ⟨#[]⟩, .string ⟨#[]⟩, .slice none 0 0] 25)).below hb1)
  have V1 := hid ((V0.out.alloc (.cells #[.string ⟨#[]⟩, .string ⟨#[]⟩, .slice none 0 0] 25)).below hb1)
  have K1 := hid ((K0.out.alloc (fun g hg => by have := (HSS.out g hg).1; omega) (.cells #[.string ⟨#[]⟩, .string ⟨#[]⟩, .slice none 0 0] 25)).below (fun g hg => by have := (HSS.out g hg).1; simp; omega) hb1)
  have S1 := hid hs1
  have G1 := hid (show ∀ ad, L1 = some ad → ad.block ≠ r from fun ad e => by have := hg1 ad e; simp at this; omega)
  have z1 : w0.heap.size < w1.heap.size := N1.out.lt
  clear hb1 hs1 hg1
  go_wp2_with fail
  refine (HONE.out L1 c1 _ R1.out S1.out G1.out).mono ?_
  rintro e w2 ⟨rfl, hb2, hr2⟩
  have N2 := hid (N1.out.but (by omega) hb2)
  have B2 := hid (B1.out.trans hb2)
  have R2 := hid hr2
  have V2 := hid (V1.out.but (by omega) hb2)
  have K2 := hid (K1.out.but (fun g hg => ⟨by have := (HSS.out g hg).1; omega, (HSS.out g hg).2⟩) hb2)
  have z2 : w1.heap.size ≤ w2.heap.size := hb2.size
  clear hb2 hr2 S1 G1
  have hlt2 : w0.heap.size < w2.heap.size := N2.out.lt
  go_wp2_with fail
  refine (HI.out _ R2.out).mono ?_
  rintro e w3 ⟨op2, tx2, X2, n2, m2, rfl, hn3, hb3, hr3⟩
  have I3 := hid (hn3.imp (S' := fun g => S g ∨ New w2 w3 g) (fun g hg => by rcases hg with hg | hg; exact hg.elim; exact .inr hg))
  clear hn3
  have J3 := hid ((K2.out.but (fun g hg => ⟨by have := (HSS.out g hg).1; omega, (HSS.out g hg).2⟩) hb3).imp (S' := fun g => S g ∨ New w2 w3 g) (fun g hg => .inl hg))
  have N3 := hid (N2.out.but (by omega) hb3)
  have B3 := hid (B2.out.trans hb3)
  have R3 := hid hr3
  have V3 := hid (V2.out.but (by omega) hb3)
  have K3 := hid (K2.out.but (fun g hg => ⟨by have := (HSS.out g hg).1; omega, (HSS.out g hg).2⟩) hb3)
  have hs3 : w2.heap.size ≤ w3.heap.size := hb3.size
  clear hb3 hr3
  have NZ := N3.out
  rw [hz0] at NZ
  have zz := NZ.lt
  have zv := V3.out.lt
  obtain ⟨x0, x1, x2, xf⟩ := NZ
  obtain ⟨v0, v1, v2, vf⟩ := V3.out
  have hlt3 := hs3
  go_wp2
  have NZ := N3.out
  rw [hz0] at NZ
  have Y := ((NZ.set (.string Q) (.string ⟨#[]⟩) (.slice (some ⟨w3.heap.size + 1, 0, none⟩) 2 2)).alloc (.cells #[.string op2, .string tx2, .slice X2 n2 m2] 25)).alloc (.cells #[.string op, .string tx, .slice X n m, .string op2, .string tx2, .slice X2 n2 m2] 25)
  exact bodyPost_ret (v := .agg #[.string Q, .string ⟨#[]⟩, .slice (some ⟨w3.heap.size + 1, 0, none⟩) 2 2]) (by simp [results, Tryz.results128, go_sem, Y.c0, Y.c1, Y.c2]) rfl
   (by have hh := (ret_two Q J3.out I3.out (fun g hg => by
    rcases hg with hg | hg
    ·exact ⟨by have := (HSS.out g hg).1; omega, by have := (HSS.out g hg).1; omega, .inl hg⟩
    ·exact ⟨hg.2, by have := hg.1; omega, .inr (by have := hg.1; omega)⟩) B3.out R3.out hrl0 (.cells #[.string op2, .string tx2, .slice X2 n2 m2] 25) 25 w0.heap.size (Nat.le_refl _) (fun hg => by
    rcases hg with hg | hg
    ·have := (HSS.out _ hg).1; omega
    ·have := hg.1; omega)); rw [hz0] at hh; exact hh)
end
end Go.Proofs.YtjbpkpfmgbhlpaaGreatDoor.Code
