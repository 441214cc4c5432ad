/-
  A block of texts that the call made (cut out of RowShow). No function of the program is named here.
-/
import Derived.Test.YtjbpkpfmgbhlpaaGreatDoorMs3
import Derived.Test.YtjbpkpfmgbhlpaaGreatDoorMs4
import Derived.Lib.ParseIntBCases
import Derived.Test.YtjbpkpfmgbhlpaaGreatDoorMs2
import Derived.Lib.OthersKept
import Derived.Lib.OwnKind
import Derived.Lib.AppendStr
import Derived.Lib.UnsafeStr
import Derived.Lib.Builder
import Derived.Maps.OwnOps
import Derived.Maps.OwnSet
set_option maxRecDepth 100000
set_option maxHeartbeats 16000000
open Go.Lib (hid)
namespace Go.Proofs.YtjbpkpfmgbhlpaaGreatDoor.Code
open Go.ChangeShapes Go.WideShapes Go.ChangeAt Go.RowKit Val
set_option linter.unusedVariables false
def SBlk (w : World) (g : Nat) (D : List ByteArray) : Prop := w.heap[g]? = some (.cells (D.map Value.string).toArray 9 (0, 0))
theorem SBlk.lt {w : World} {g : Nat} {D : List ByteArray} (h : SBlk w g D) : g < w.heap.size := (Array.getElem?_eq_some_iff.1 h).1
theorem SBlk.call {w w' : World} {g : Nat} {D : List ByteArray} (h : SBlk w g D) (hb : Below w.heap.size w w') : SBlk w' g D := (hb.block g h.lt).trans h
theorem SBlk.cell {w : World} {g : Nat} {D : List ByteArray} (h : SBlk w g D) (j : Nat) (x : ByteArray) (hx : D[j]? = some x) : w.cell? ⟨g, j, none⟩ = some (.string x) := by
 unfold SBlk at h
 simp [World.cell?, h, hx]
theorem SBlk.free {w : World} {g : Nat} {D : List ByteArray} (h : SBlk w g D) (j : Nat) : w.frozen? ⟨g, j, none⟩ = false := by
 unfold SBlk at h
 simp [World.frozen?, h]
theorem SBlk.set {w : World} {g : Nat} {D : List ByteArray} (h : SBlk w g D) (k : Nat) (x : ByteArray) : SBlk (w.setCell ⟨g, k, none⟩ (.string x)) g (D.set k x) := by
 unfold SBlk at *
 rw [setCell_eq_setRow w g _ _ _ _ _ h, setRow_heap w g _ _ _ _ h, List.map_set]
 simp
theorem info_str : (Tryz.prog.info? 9).map (fun i => (i.zero, i.size, i.bytes)) = some (some (.string ByteArray.empty), 1, 16) := by kernel_rfl
theorem made_strs (n : Nat) : madeCells #[Value.string ByteArray.empty] (n * 1) = Array.replicate n (Value.string ByteArray.empty) := by
 apply Array.toList_inj.1
 rw [toList_madeCells_one, Nat.mul_one]
 simp
theorem SBlk.fresh (w : World) (n : Nat) : SBlk (w.alloc (.cells (Array.replicate n (Value.string ByteArray.empty)) 9)) w.heap.size (List.replicate n ByteArray.empty) := by
 unfold SBlk
 rw [heap_alloc_new]
 simp
theorem wpList_make_strs {P : Program} (w : World) {ops : Array Oper} {rest : List Oper} {o : Oper} {a : Act} {Q : Exit → Act → World → Prop}
  (hg : o.guard = none) (l c : Operand) (t : TypeId) (hop : o.op = Op.makeSlice t l c) (e : TypeId) (i : TypeInfo) (h1 : P.underlying t = some (.slice e)) (h2 : P.info? e = some i)
  (h3 : i.zero = some (.string ByteArray.empty)) (h4 : i.size = 1) (h5 : i.bytes = 16)
  (kl kc : IntKind) (L C : Int) (n : Nat) (hl : a.eval l = .int kl L) (hc : a.eval c = .int kc C) (hL : L = (n : Int)) (hC : C = (n : Int)) (b : n ≤ 8796093022208)
  (hK : wpList P ops Q rest (a.put o.dst (.slice (some ⟨w.heap.size, 0, none⟩) n n)) (w.alloc (.cells (Array.replicate n (Value.string ByteArray.empty)) e))) :
  wpList P ops Q (o :: rest) a w := by
 refine wpList_plain hg fun K hK' => ?_
 have hr := run_make (P := P) w t e i _ h1 h2 h3 kl kc n n (by omega) (Int.le_refl _) (by rw [h5]; omega) (by omega)
 rw [Int.toNat_natCast, h4, show (Value.string ByteArray.empty).cells = #[Value.string ByteArray.empty] by rfl, made_strs] at hr
 subst hL
 subst hC
 unfold Oper.wp
 simp [execOp, hop, hl, hc, hr, Result.andThen]
 exact hK' _ _ hK
theorem sfill_set (X : List ByteArray) (n : Nat) (hn : 0 < n) (v : ByteArray) : (X ++ List.replicate n ByteArray.empty).set X.length v = (X ++ [v]) ++ List.replicate (n - 1) ByteArray.empty := by
 obtain ⟨m, rfl⟩ : ∃ m, n = m + 1 := ⟨n - 1, by omega⟩
 rw [List.set_append_right _ _ (Nat.le_refl _), Nat.sub_self, List.replicate_succ, List.set_cons_zero, Nat.add_sub_cancel, List.append_assoc]
 rfl
end Go.Proofs.YtjbpkpfmgbhlpaaGreatDoor.Code
/-
  Contracts of lex's Text and of the document's.
-/
namespace Go.Proofs.YtjbpkpfmgbhlpaaGreatDoor.Code
open Go.ChangeShapes Go.WideShapes Go.ChangeAt Go.RowKit Val Elems
set_option linter.unusedVariables false
def FitW (l : List W) : Prop := ∀ w ∈ l, w.2.1.length ≤ 4194304
theorem fits0 : fits 0 := by unfold fits; omega
theorem showW_le {k : Int} {t : List UInt8} (h : t.length ≤ 4194304) : (showW k t).length ≤ 4194304 := by
 unfold showW
 split
 ·have := show_length 4 0 ⟨t.toArray⟩ fits0
  omega
 ·exact h
def stexts (l : List W) : List ByteArray := l.map fun w => ⟨(showW w.1 w.2.1).toArray⟩
theorem stexts_length (l : List W) : (stexts l).length = l.length := by simp [stexts]
theorem stexts_snoc (l : List W) (k : Nat) (h : k < l.length) : stexts (l.take (k + 1)) = stexts (l.take k) ++ [⟨(showW l[k].1 l[k].2.1).toArray⟩] := by
 unfold stexts
 rw [List.take_succ_eq_append_getElem h, List.map_append]
 rfl
theorem stexts_data (l : List W) : (stexts l).map (·.data.toList) = l.map fun w => showW w.1 w.2.1 := by
 unfold stexts
 rw [List.map_map]
 congr 1
theorem textL_length (l : List W) (h : FitW l) : (textL l).length ≤ 4194305 * l.length := by
 unfold textL
 cases l with
 | nil => simp [Lib.join_nil]
 | cons v l =>
  rw [List.map_cons, Lib.join_length]
  have := lens_le ((v :: l).map fun w => showW w.1 w.2.1) 4194304 (by intro x hx; obtain ⟨y, hy, rfl⟩ := List.mem_map.1 hx; exact showW_le (h y hy))
  simp only [List.map_cons, List.length_cons, List.length_map, List.length_nil] at *
  omega
theorem text_any (A : Option Addr) (cap : Nat) (l : List W) (m : Int) (w : World) (hv : At wc 3 w w.heap.size A l) (hf : FitW l) (hl : l.length ≤ 10000) (hg : Glob w.heap.size m w) :
  Calls Tryz.prog 189 #[.slice A l.length cap] w fun e w' => e = .returned (.string ⟨(textL l).toArray⟩) ∧ Below w.heap.size w w' := by
 have HV := hid hv
 have HF := hid hf
 have HG := hid hg
 have hjl := textL_length l hf
 clear hv hf hg
 obtain ⟨i0, hi0, hz0, hz1, hz2⟩ := info_parts info_str
 go_enter Tryz.func189, Tryz.ntmps189
 go_wp2_with (at_make; refine wpList_make_strs _ rfl _ _ 42 rfl 9 i0 Tryz.underlying42 hi0 hz0 hz1 hz2 _ _ _ _ l.length rfl rfl rfl rfl (by omega) ?_)
 have HB0 := hid (SBlk.fresh w l.length)
 have HL0 := hid (below_alloc w (.cells (Array.replicate l.length (Value.string ByteArray.empty)) 9))
 go_wp2
 go_loopw [11] (fun i wr => ∃ k : Nat, k ≤ l.length ∧ i = .int .i64 k ∧ SBlk wr w.heap.size (stexts (l.take k) ++ List.replicate (l.length - k) ByteArray.empty) ∧ Below w.heap.size w wr) (fun i _ => l.length - (intOf i).toNat)
 case atStart => exact ⟨0, by omega, rfl, by simpa [stexts] using HB0.out, HL0.out⟩
 case round =>
  obtain ⟨k, hk, rfl, hblk, hbel⟩ := hrel
  have hsz := hbel.size
  have hlt := hblk.lt
  have HL := hid hbel
  have HB := hid hblk
  have VA := hid (HV.out.below hbel)
  clear hbel hblk
  have HX := hid (show (stexts (l.take k)).length = k by rw [stexts_length, List.length_take_of_le hk])
  by_cases hkl : k < l.length
  ·obtain ⟨ad, rfl, ha, c0, c1, c2⟩ := at_word VA.out k hkl
   have HS := hid (stexts_snoc l k hkl)
   have HE := hid (show (stexts (l.take k) ++ List.replicate (l.length - k) ByteArray.empty).set k ⟨(showW l[k].1 l[k].2.1).toArray⟩ = stexts (l.take (k + 1)) ++ List.replicate (l.length - (k + 1)) ByteArray.empty by
    have e := sfill_set (stexts (l.take k)) (l.length - k) (by omega) ⟨(showW l[k].1 l[k].2.1).toArray⟩
    rw [HX.out, Nat.sub_sub] at e
    rw [e, HS.out])
   have HY := hid (show ∀ T : ByteArray, ((stexts (l.take k) ++ List.replicate (l.length - k) ByteArray.empty).set k T).length = l.length by intro T; rw [List.length_set, List.length_append, HX.out]; simp; omega)
   have b0 : ∃ y, wr.cell? ⟨w.heap.size, k, none⟩ = some (.string y) := by
    have hlen : k < (stexts (l.take k) ++ List.replicate (l.length - k) ByteArray.empty).length := by rw [List.length_append, HX.out]; simp; omega
    exact ⟨_, HB.out.cell k _ (List.getElem?_eq_getElem hlen)⟩
   obtain ⟨y, b0⟩ := b0
   have f0 := HB.out.free k
   obtain ⟨x, hx⟩ : ∃ x, l[k] = x := ⟨_, rfl⟩
   rw [hx] at c0 c1 c2 HS HE
   clear hx
   obtain ⟨kk, t, p⟩ := x
   dsimp only at c0 c1 c2
   obtain ⟨T, hT⟩ : ∃ T : ByteArray, ⟨t.toArray⟩ = T := ⟨_, rfl⟩
   rw [hT] at c1
   have hlt2 : w.heap.size < wr.heap.size := hlt
   by_cases hk2 : kk = 2
   ·subst hk2
    have hsh := fun w' hg => vshow_any 4 0 T m w' fits0 hg
    obtain ⟨S, hS⟩ : ∃ S : ByteArray, ⟨(showL 4 0 T).toArray⟩ = S := ⟨_, rfl⟩
    have hSW : (⟨(showW 2 t).toArray⟩ : ByteArray) = S := by unfold showW; rw [if_pos rfl, hT, hS]
    rw [hS] at hsh
    have HSH := hid hsh
    dsimp only at HE
    rw [hSW] at HE
    clear hsh hS hSW hT HS
    have L1 := hid ((HL.out.setCell (p := ⟨w.heap.size, k, none⟩) (Nat.le_refl _) (Value.string T)).alloc (by simpa using hsz) (.cells #[.int .i64 2, .string T, .int .i64 p] 48))
    have B1 := hid ((HB.out.set k T).call (below_alloc (wr.setCell ⟨w.heap.size, k, none⟩ (.string T)) (.cells #[.int .i64 2, .string T, .int .i64 p] 48)))
    go_wp2_with fail
    refine (HSH.out _ (HG.out.next L1.out)).mono ?_
    rintro e w1 ⟨rfl, hb1⟩
    have L2 := hid (bnext L1.out L1.out.size hb1)
    have B2 := hid (B1.out.call hb1)
    have z2 := B2.out.lt
    have b1 : ∃ y, w1.cell? ⟨w.heap.size, k, none⟩ = some (.string y) := by
     have hlen : k < ((stexts (l.take k) ++ List.replicate (l.length - k) ByteArray.empty).set k T).length := by rw [HY.out]; exact hkl
     exact ⟨_, B2.out.cell k _ (List.getElem?_eq_getElem hlen)⟩
    obtain ⟨y1, b1⟩ := b1
    have f1 := B2.out.free k
    clear hb1 c0 c1 c2 b0 f0 HSH
    go_wp2
    go_roundw
    case rel => exact ⟨k + 1, by omega, by go_num, by have h := B2.out.set k S; rw [List.set_set, HE.out] at h; exact h, L2.out.setCell (Nat.le_refl _) _⟩
    case measure => simp [intOf]; omega
   ·have hSW : (⟨(showW kk t).toArray⟩ : ByteArray) = T := by unfold showW; rw [if_neg hk2, hT]
    have e2 : (kk == 2) = false := by simpa using hk2
    dsimp only at HE
    rw [hSW] at HE
    clear hSW hT HS hk2
    go_wp2
    go_roundw
    case rel => exact ⟨k + 1, by omega, by go_num, by have h := (HB.out.set k T).call (below_alloc (wr.setCell ⟨w.heap.size, k, none⟩ (.string T)) (.cells #[.int .i64 kk, .string T, .int .i64 p] 48)); rw [HE.out] at h; exact h, (HL.out.setCell (Nat.le_refl _) _).alloc (by simpa using hsz) _⟩
    case measure => simp [intOf]; omega
  ·obtain rfl : k = l.length := by omega
   rw [List.take_length] at HB
   have HB2 := hid (show SBlk wr w.heap.size (stexts l) by simpa using HB.out)
   have hj := Tryz.strings_Join w.heap.size 0 l.length (stexts l) ⟨#[32]⟩ wr (fun j x hx => by rw [Nat.zero_add]; exact HB2.out.cell j x hx) hlt (by rw [stexts_length]; omega) (by rw [stexts_length]; exact Nat.le_refl _) (by rw [stexts_data]; show (textL l).length ≤ _; omega)
   rw [stexts_data, stexts_length] at hj
   obtain ⟨T, hT⟩ : ∃ T : ByteArray, T = ⟨(textL l).toArray⟩ := ⟨_, rfl⟩
   rw [show (⟨(Lib.join (l.map fun w => showW w.1 w.2.1) (⟨#[32]⟩ : ByteArray).data.toList).toArray⟩ : ByteArray) = T from hT.symm] at hj
   have HJ := hid hj
   have HT := hid hT
   clear hj hT
   go_wp2_with fail
   refine HJ.out.mono ?_
   rintro e w1 ⟨rfl, hb1⟩
   have L1 := hid (bnext HL.out hsz hb1)
   clear hb1
   go_wp2
   go_ret
   exact ⟨retS HT.out, L1.out⟩
end Go.Proofs.YtjbpkpfmgbhlpaaGreatDoor.Code
/-
  Words as an expression's reader sees them: a mark is none of the language's own names; a figure's number as Go's library reads it. No program is named here.
-/
namespace Go.Proofs.YtjbpkpfmgbhlpaaGreatDoor.Code
open Val
set_option linter.unusedVariables false
def MarkW (l : List W) : Prop := ∀ w ∈ l, w.1 = 3 → ownL w.2.1 = false
theorem let_own (c d : UInt8) (h : letB c = false) : ownL [c, d] = false := by
 unfold ownL
 simp only [Bool.or_eq_false_iff]
 have h1 : c ≠ 111 := fun e => by rw [e] at h; revert h; decide
 have h2 : c ≠ 105 := fun e => by rw [e] at h; revert h; decide
 simp [h1, h2]
theorem one_own (c : UInt8) : ownL [c] = false := by
 unfold ownL
 simp
theorem came_mark {l : List W} (h : CameB l) : MarkW l := by
 intro w hw hk
 have hf := h w hw
 rw [hk, show showW 3 w.2.1 = w.2.1 from rfl] at hf
 rcases first_cases hf with ⟨c, r, _, _, e, _⟩ | ⟨c, r, _, _, _, e, _⟩ | ⟨r, _, e, _⟩ | ⟨c, d, r, _, hl, _, _, _, e, ht, _⟩ | ⟨c, r, _, _, _, _, _, _, e, ht, _⟩
 ·exact absurd e (by decide)
 ·exact absurd e (by decide)
 ·exact absurd e (by decide)
 ·rw [ht]; exact let_own c d hl
 ·rw [ht]; exact one_own c
theorem came_kind {l : List W} (h : CameB l) : ∀ w ∈ l, w.1 = 0 ∨ w.1 = 1 ∨ w.1 = 2 ∨ w.1 = 3 := by
 intro w hw
 rcases first_cases (h w hw) with ⟨c, r, _, _, e, _⟩ | ⟨c, r, _, _, _, e, _⟩ | ⟨r, _, e, _⟩ | ⟨c, d, r, _, _, _, _, _, e, _⟩ | ⟨c, r, _, _, _, _, _, _, e, _⟩
 ·exact .inl e
 ·exact .inr (.inl e)
 ·exact .inr (.inr (.inl e))
 ·exact .inr (.inr (.inr e))
 ·exact .inr (.inr (.inr e))
theorem bare_in {l : List W} {i : Nat} (h : i < l.length) : (bare l)[i]? = some (l[i].1, l[i].2.1) := by
 unfold bare
 rw [List.getElem?_map, List.getElem?_eq_getElem h]
 rfl
theorem bare_out {l : List W} {i : Nat} (h : ¬ i < l.length) : (bare l)[i]? = none := List.getElem?_eq_none (by rw [bare_length]; omega)
def kindL (s : List UInt8) : Int := if ownL s = true then 0 else 3
theorem isW_in {l : List W} (hm : MarkW l) {i : Nat} (hi : i < l.length) (s : List UInt8) : isW (bare l) i false s = (l[i].2.1 == s && l[i].1 == kindL s) := by
 unfold isW
 rw [bare_in hi]
 dsimp only
 have h := hm l[i] (List.getElem_mem hi)
 obtain ⟨x, hx⟩ : ∃ x, l[i] = x := ⟨_, rfl⟩
 rw [hx] at h ⊢
 obtain ⟨k, t, p⟩ := x
 dsimp only at h ⊢
 cases hs : t == s
 ·simp
 ·have e : t = s := by simpa using hs
  subst e
  unfold kindL
  cases ho : ownL t
  ·simp
  ·by_cases hk : k = 3
   ·rw [h hk] at ho; cases ho
   ·simp [hk]
theorem isW_out {l : List W} {i : Nat} (hi : ¬ i < l.length) (b : Bool) (s : List UInt8) : isW (bare l) i b s = false := by
 unfold isW
 rw [bare_out hi]
theorem isK_in {l : List W} {i : Nat} (hi : i < l.length) (k : Int) : isK (bare l) i false k = (l[i].1 == k) := by
 unfold isK
 rw [bare_in hi]
 simp
theorem isK_out {l : List W} {i : Nat} (hi : ¬ i < l.length) (b : Bool) (k : Int) : isK (bare l) i b k = false := by
 unfold isK
 rw [bare_out hi]
theorem txt_in {l : List W} {i : Nat} (hi : i < l.length) : txt (bare l) i = l[i].2.1 := by
 unfold txt
 rw [bare_in hi]
theorem fig_nat {c : UInt8} (h : figB c = true) : 48 ≤ c.toNat ∧ c.toNat ≤ 57 := by
 unfold figB at h
 simpa using h
theorem big_mag (a : Nat) (h : 9223372036854775808 ≤ a) : ∀ s : List UInt8, (∀ c ∈ s, figB c = true) → Lib.parseUintM (2 ^ 64 - 1) a s = .range ∨ Lib.parseUintM (2 ^ 64 - 1) a s = .ok a
 | [], _ => .inr rfl
 | c :: r, hf => by
  left
  rw [Lib.parseUintM, if_pos (fig_nat (hf c (by simp))), if_pos (by omega)]
theorem num_mag : ∀ (s : List UInt8) (n : Nat), (∀ c ∈ s, figB c = true) → n ≤ 9223372036854775807 →
  (∀ v : Int, numF s n = some v → ∃ u : Nat, v = u ∧ u ≤ 9223372036854775807 ∧ Lib.parseUintM (2 ^ 64 - 1) n s = .ok u) ∧
  (numF s n = none → Lib.parseUintM (2 ^ 64 - 1) n s = .range ∨ ∃ u, 9223372036854775808 ≤ u ∧ Lib.parseUintM (2 ^ 64 - 1) n s = .ok u)
 | [], n, _, hn => ⟨fun v h => ⟨n, by rw [numF] at h; exact (Option.some.inj h).symm, hn, rfl⟩, fun h => by rw [numF] at h; cases h⟩
 | c :: s, n, hf, hn => by
  have hc := fig_nat (hf c (by simp))
  have hs : ∀ d ∈ s, figB d = true := fun d hd => hf d (List.mem_cons_of_mem _ hd)
  obtain ⟨d, hd⟩ : ∃ d, c.toNat - 48 = d := ⟨_, rfl⟩
  have hdi : (c.toNat : Int) - 48 = d := by omega
  rw [numF, Lib.parseUintM, if_pos hc, hd, hdi]
  by_cases hb : n * 10 + d ≤ 9223372036854775807
  ·rw [if_neg (by omega), if_neg (by omega), if_neg (by omega)]
   have ih := num_mag s (n * 10 + d) hs hb
   have e : (10 * (n : Int) + (d : Int)) = ((n * 10 + d : Nat) : Int) := by omega
   rw [e]
   exact ih
  ·rw [if_pos (by omega)]
   refine ⟨fun v h => (by cases h), fun _ => ?_⟩
   split
   ·exact .inl rfl
   split
   ·exact .inl rfl
   ·rcases big_mag (n * 10 + d) (by omega) s hs with h | h
    ·exact .inl h
    ·exact .inr ⟨_, by omega, h⟩
theorem num_parse {s : List UInt8} (hf : ∀ c ∈ s, figB c = true) (h0 : s ≠ []) : (∀ v, numF s 0 = some v → Lib.parseIntB 64 s = .ok v ∧ 0 ≤ v ∧ v ≤ 9223372036854775807) ∧ (numF s 0 = none → Lib.parseIntB 64 s = .range) := by
 cases s with
 | nil => exact absurd rfl h0
 | cons c r =>
  have hc := fig_nat (hf c (by simp))
  have hm := num_mag (c :: r) 0 hf (by omega)
  have hp : Lib.parseUintB 64 (c :: r) = Lib.parseUintM (2 ^ 64 - 1) 0 (c :: r) := by unfold Lib.parseUintB; rw [if_neg (by simp)]
  have h45 : ¬ c.toNat = 45 := by omega
  have h43 : ¬ (c.toNat = 43 ∨ c.toNat = 45) := by omega
  refine ⟨fun v hv => ?_, fun hv => ?_⟩
  ·obtain ⟨u, rfl, hu, h⟩ := hm.1 v hv
   refine ⟨?_, by omega, by omega⟩
   unfold Lib.parseIntB
   dsimp only
   rw [if_neg h43, hp, h]
   dsimp only
   rw [if_neg (by omega), if_neg (by omega), if_neg h45]
  ·unfold Lib.parseIntB
   dsimp only
   rw [if_neg h43, hp]
   rcases hm.2 hv with h | ⟨u, hu, h⟩
   ·rw [h]
   ·rw [h]
    dsimp only
    rw [if_pos ⟨h45, by omega⟩]
theorem came_full {l : List W} (h : CameB l) : ∀ w ∈ l, w.1 = 1 → w.2.1 ≠ [] := by
 intro w hw hk he
 have hf := h w hw
 rw [hk, he] at hf
 cases hf
end Go.Proofs.YtjbpkpfmgbhlpaaGreatDoor.Code
/-
  The program's reader of words in memory, and what of Go's library it reads; a node that is read, with what it may have turned.
-/
namespace Go.Proofs.YtjbpkpfmgbhlpaaGreatDoor.Code
open Go.ChangeShapes Go.WideShapes Go.ChangeAt Go.RowKit Val Elems
set_option linter.unusedVariables false
set_option linter.unusedSimpArgs false
structure Env (B : Nat) (m : Int) (w : World) : Prop where
 gl : Glob B m w
 er : 7 < B
 ec : ∃ te pe, w.cell? ⟨7, 0, none⟩ = some (.iface te pe)
theorem Env.below {B : Nat} {m : Int} {w w' : World} (h : Env B m w) (hb : Below B w w') : Env B m w' := by
 obtain ⟨te, pe, hc⟩ := h.ec
 exact ⟨h.gl.below hb, h.er, te, pe, (hb.cell (p := ⟨7, 0, none⟩) h.er).trans hc⟩
theorem Env.more {B B' : Nat} {m : Int} {w : World} (h : Env B m w) (hB : B ≤ B') : Env B' m w := ⟨h.gl.more hB, Nat.lt_of_lt_of_le h.er hB, h.ec⟩
theorem Env.at {B : Nat} {m : Int} {w : World} (h : Env B m w) : Env w.heap.size m w := by
 obtain ⟨te, pe, hc⟩ := h.ec
 exact ⟨h.gl.next (Below.refl _ _), World.block_lt_of_cell? _ _ hc, te, pe, hc⟩
theorem Env.next {B : Nat} {m : Int} {w w' : World} (h : Env B m w) (hb : Below B w w') : Env w'.heap.size m w' := (h.below hb).at
structure Rd (w : World) (r : Nat) (m : Int) (A : Option Addr) (cap : Nat) (l : List W) (i : Nat) : Prop where
 c0 : w.cell? ⟨r, 0, none⟩ = some (.slice A l.length cap)
 c1 : w.cell? ⟨r, 1, none⟩ = some (.int .i64 i)
 fr : ∀ j, w.frozen? ⟨r, j, none⟩ = false
 ws : At wc 3 w r A l
 ev : Env r m w
section
variable {w w' : World} {r : Nat} {m : Int} {A : Option Addr} {cap : Nat} {l : List W} {i : Nat}
theorem Rd.lt (h : Rd w r m A cap l i) : r < w.heap.size := World.block_lt_of_cell? _ _ h.c0
theorem Rd.below (h : Rd w r m A cap l i) (hb : Below w.heap.size w w') : Rd w' r m A cap l i := by
 have hl := h.lt
 exact ⟨(hb.cell (p := ⟨r, 0, none⟩) hl).trans h.c0, (hb.cell (p := ⟨r, 1, none⟩) hl).trans h.c1, fun j => (hb.frozen (p := ⟨r, j, none⟩) hl).trans (h.fr j), h.ws.below (hb.mono (Nat.le_of_lt hl)), h.ev.below (hb.mono (Nat.le_of_lt hl))⟩
theorem Rd.alloc (h : Rd w r m A cap l i) (o : Obj) : Rd (w.alloc o) r m A cap l i := h.below ((Below.refl _ _).alloc (Nat.le_refl _) o)
theorem Rd.set (h : Rd w r m A cap l i) (p : Addr) (hp : r ≤ p.block) (hn0 : p ≠ ⟨r, 0, none⟩) (hn1 : p ≠ ⟨r, 1, none⟩) (u : Value) : Rd (w.setCell p u) r m A cap l i := by
 have hb : Below r w (w.setCell p u) := (Below.refl r w).setCell hp u
 exact ⟨(World.cell?_setCell_other _ _ _ _ hn0).trans h.c0, (World.cell?_setCell_other _ _ _ _ hn1).trans h.c1, fun k => by rw [World.frozen?_setCell]; exact h.fr k, h.ws.below hb, h.ev.below hb⟩
theorem Rd.new (h : Rd w r m A cap l i) (p : Addr) (hp : r < p.block) (u : Value) : Rd (w.setCell p u) r m A cap l i :=
 h.set p (Nat.le_of_lt hp) (fun e => by rw [e] at hp; exact absurd hp (Nat.lt_irrefl _)) (fun e => by rw [e] at hp; exact absurd hp (Nat.lt_irrefl _)) u
theorem Rd.at (h : Rd w r m A cap l i) (j : Nat) : Rd (w.setCell ⟨r, 1, none⟩ (.int .i64 j)) r m A cap l j := by
 have hb : Below r w (w.setCell ⟨r, 1, none⟩ (.int .i64 j)) := (Below.refl r w).setCell (Nat.le_refl _) _
 refine ⟨?_, ?_, fun k => ?_, h.ws.below hb, h.ev.below hb⟩
 ·rw [World.cell?_setCell_other _ _ _ _ (by simp)]; exact h.c0
 ·exact World.cell?_setCell_same _ _ _ h.c1
 ·rw [World.frozen?_setCell]; exact h.fr k
theorem Rd.env (h : Rd w r m A cap l i) : Env w.heap.size m w := h.ev.at
end
def wd (l : List W) (i : Nat) : W := (l[i]?).getD (0, [], 0)
theorem wd_in {l : List W} {i : Nat} (h : i < l.length) : wd l i = l[i] := by
 unfold wd
 rw [List.getElem?_eq_getElem h]
 rfl
theorem wd_out {l : List W} {i : Nat} (h : ¬ i < l.length) : wd l i = (0, [], 0) := by
 unfold wd
 rw [List.getElem?_eq_none (by omega)]
 rfl
structure Good (l : List W) : Prop where
 len : l.length ≤ 4194304
 came : CameB l
 fit : FitW l
def Gives (r : Nat) (m : Int) (A : Option Addr) (cap : Nat) (l : List W) (w : World) (S : Nat → Prop) (res : Tr × Nat × Bool) (e : Ending) (w' : World) : Prop :=
 ∃ (op tx : ByteArray) (X : Option Addr) (n k : Nat), e = .returned (.tuple #[.agg #[.string op, .string tx, .slice X n k], .bool (!res.2.2)]) ∧ (res.2.2 = false → NIn w' (fun g => S g ∨ (w.heap.size ≤ g ∧ g < w'.heap.size)) res.1 (.string op) (.string tx) (.slice X n k)) ∧ But w w' r ∧ Rd w' r m A cap l res.2.1
def NoBlk (g : Nat) : Prop := False
def Ox (g : Nat) (w w' : World) : Prop := w'.heap.size = w.heap.size ∧ ∀ p : Addr, p.block ≠ g → w'.cell? p = w.cell? p
theorem Ox.refl (g : Nat) (w : World) : Ox g w w := ⟨rfl, fun _ _ => rfl⟩
theorem Ox.setCell {g : Nat} {w w' : World} (h : Ox g w w') (p : Addr) (hp : p.block = g) (v : Value) : Ox g w (w'.setCell p v) := ⟨by rw [World.size_setCell]; exact h.1, fun q hq => (World.cell?_setCell_other _ _ _ _ (fun e => hq (by rw [← e]; exact hp))).trans (h.2 q hq)⟩
theorem Ox.drew {g : Nat} {w w' : World} (h : Ox g w w') : Ox g w w'.drew := ⟨h.1, fun q hq => h.2 q hq⟩
structure Kp (b : Nat) (w w' : World) : Prop where
 bl : Below b w w'
 ot : Lib.OthersKept 5 (some b) w w'
theorem Kp.refl (b : Nat) (w : World) : Kp b w w := ⟨Below.refl _ _, Lib.OthersKept.refl _ _ _⟩
theorem Kp.trans {b : Nat} {w w1 w2 : World} (h : Kp b w w1) (g : Kp b w1 w2) : Kp b w w2 := ⟨h.bl.trans g.bl, h.ot.trans g.ot⟩
theorem Kp.drew {b : Nat} {w w1 : World} (h : Kp b w w1) : Kp b w w1.drew := ⟨h.bl.drew, h.ot.drew⟩
theorem Kp.next {b : Nat} {w w1 w2 : World} (h : Kp b w w1) (hb : b ≤ w1.heap.size) (g : Below w1.heap.size w1 w2) : Kp b w w2 :=
 ⟨h.bl.trans (g.mono hb), fun k o hk hn ho => by
  have h1 := h.ot k o hk hn ho
  exact (g.block k (Array.getElem?_eq_some_iff.1 h1).1).trans h1⟩
theorem Kp.new {b : Nat} {w w1 : World} (h : Kp b w w1) (p : Addr) (hp : w.heap.size ≤ p.block) (hb : b ≤ p.block) (u : Value) : Kp b w (w1.setCell p u) :=
 ⟨h.bl.setCell hb u, fun k o hk hn ho => by
  have h1 := h.ot k o hk hn ho
  have hlt : k < w.heap.size := (Array.getElem?_eq_some_iff.1 hk).1
  rw [Below.heap_setCell _ _ _ _ (by omega)]
  exact h1⟩
theorem grown_set (w : World) (b i : Nat) (v : Value) : w.grownBy (w.setCell ⟨b, i, none⟩ v) (some b) :=
 ⟨rfl, rfl, rfl, by simp, fun k hk hr => Below.heap_setCell _ _ _ _ (fun e => hr (by rw [e]))⟩
def HB (w : World) (g : Nat) (cs : Array Value) (t : TypeId) : Prop := w.heap[g]? = some (.cells cs t (0, 0))
theorem HB.lt {w : World} {g : Nat} {cs : Array Value} {t : TypeId} (h : HB w g cs t) : g < w.heap.size := (Array.getElem?_eq_some_iff.1 h).1
theorem HB.kp {w w' : World} {g b : Nat} {cs : Array Value} {t : TypeId} (h : HB w g cs t) (hk : Kp b w w') (hg : g ≠ b) (ht : t ≠ 5) : HB w' g cs t :=
 hk.ot g _ h (fun e => hg (Option.some.inj e)) (fun c fz e => by injection e with _ e2; exact ht e2)
theorem HB.below {w w' : World} {g : Nat} {cs : Array Value} {t : TypeId} (h : HB w g cs t) (hb : Below w.heap.size w w') : HB w' g cs t := (hb.block g h.lt).trans h
theorem HB.alloc {w : World} {g : Nat} {cs : Array Value} {t : TypeId} (h : HB w g cs t) (o : Obj) : HB (w.alloc o) g cs t := h.below (below_alloc w o)
theorem HB.fresh (w : World) (cs : Array Value) (t : TypeId) : HB (w.alloc (.cells cs t)) w.heap.size cs t := heap_alloc_new w _
theorem HB.cell {w : World} {g : Nat} {cs : Array Value} {t : TypeId} (h : HB w g cs t) (j : Nat) : w.cell? ⟨g, j, none⟩ = cs[j]? := by
 unfold World.cell?
 rw [h]
 rfl
theorem HB.free {w : World} {g : Nat} {cs : Array Value} {t : TypeId} (h : HB w g cs t) (j : Nat) : w.frozen? ⟨g, j, none⟩ = false := Lib.frozen_of_heap h j
theorem HB.set {w : World} {g : Nat} {cs : Array Value} {t : TypeId} (h : HB w g cs t) (j : Nat) (u : Value) : HB (w.setCell ⟨g, j, none⟩ u) g (cs.setIfInBounds j u) t := by
 unfold HB at h ⊢
 obtain ⟨hlt, hx⟩ := Array.getElem?_eq_some_iff.1 h
 simp [World.setCell, hlt, Array.getElem_modify, hx]
theorem HB.far {w : World} {g : Nat} {cs : Array Value} {t : TypeId} (h : HB w g cs t) (p : Addr) (hp : p.block ≠ g) (u : Value) : HB (w.setCell p u) g cs t := by
 unfold HB at h ⊢
 rw [Below.heap_setCell _ _ _ _ (fun e => hp e.symm)]
 exact h
structure WrAt (w : World) (b mb : Nat) (p : Value) (bs : List UInt8) : Prop where
 ex : ∃ v, HB w b #[.map (some mb), p, v] 142 ∧ w.ownsRow b 5 1 v bs.length (Lib.byteCells bs) ∧ v.ownBlock ≠ some b
def Wr (w : World) (b mb : Nat) (bs : List UInt8) : Prop := WrAt w b mb (.pointer none) bs ∨ WrAt w b mb (.pointer (some ⟨b, 1, none⟩)) bs
theorem Wr.lt {w : World} {b mb : Nat} {bs : List UInt8} (h : Wr w b mb bs) : b < w.heap.size := by rcases h with ⟨_, h, _⟩ | ⟨_, h, _⟩ <;> exact h.lt
theorem WrAt.below {w w' : World} {b mb : Nat} {p : Value} {bs : List UInt8} (h : WrAt w b mb p bs) (hb : Below w.heap.size w w') : WrAt w' b mb p bs := by
 obtain ⟨v, h1, h2, h3⟩ := h
 exact ⟨v, h1.below hb, h2.kept (row := none) ⟨hb.os, hb.tape, hb.output, hb.size, fun k hk _ => hb.block k hk⟩ (by cases v.ownBlock <;> simp), h3⟩
theorem Wr.below {w w' : World} {b mb : Nat} {bs : List UInt8} (h : Wr w b mb bs) (hb : Below w.heap.size w w') : Wr w' b mb bs := h.elim (fun h => .inl (h.below hb)) (fun h => .inr (h.below hb))
theorem lies_at : liesAt Tryz.prog Tryz.prog.depth 142 (3 / Tryz.prog.cellsOf 142) 1 73 1 = true := by kernel_rfl
theorem info_builder : (Tryz.prog.info? 73).map (·.size) = some 2 := by kernel_rfl
theorem info_byte : (Tryz.prog.info? 5).map (fun i => (i.zero, i.size, i.bytes)) = some (some (.int .u8 0), 1, 1) := by kernel_rfl
theorem ecopy_fresh (b mb : Nat) (bs : List UInt8) (w : World) (h : WrAt w b mb (.pointer none) bs) :
  Calls Tryz.prog 109 #[.pointer (some ⟨b, 1, none⟩)] w fun e w' => e = .returned (.tuple #[]) ∧ w' = w.setCell ⟨b, 1, none⟩ (.pointer (some ⟨b, 1, none⟩)) := by
 obtain ⟨v, h1, h2, h3⟩ := h
 obtain ⟨j, hj, hjs⟩ := Option.map_eq_some_iff.1 info_builder
 have c1 : w.cell? ⟨b, 1, none⟩ = some (.pointer none) := h1.cell 1
 have f1 : w.frozen? ⟨b, 1, none⟩ = false := h1.free 1
 have hsh : w.shape? b = some (142, 3) := by
  have : w.heap[b]? = some (.cells #[.map (some mb), .pointer none, v] 142 (0, 0)) := h1
  simp [World.shape?, this]
 clear h1 h2 h3
 go_enter Tryz.func109, Tryz.ntmps109
 go_wp2
 rw [Lib.run_to_unsafe w ⟨b, 1, none⟩ Tryz.underlying70 Tryz.underlying137 hj (by rw [hjs]; decide) hsh (by show 1 < 3; decide)]
 simp only [Result.andThen]
 rw [Oper.upon_value]
 go_wp2
 rw [run_callFunc_extern Tryz.func133 (by kernel_rfl) (by kernel_rfl) (by kernel_rfl) (e := Extern.AbiNoEscape.same) (by kernel_rfl)]
 rw [Lib.run_noEscape]
 simp only [Result.andThen]
 rw [Oper.upon_value]
 go_wp2
 rw [Lib.run_from_unsafe w ⟨b, 1, none⟩ Tryz.underlying137 Tryz.underlying70 hj hsh lies_at]
 simp only [Result.andThen]
 rw [Oper.upon_value]
 go_wp2
 go_end0
 exact ⟨rfl, rfl⟩
theorem ecopy_used (b mb : Nat) (bs : List UInt8) (w : World) (h : WrAt w b mb (.pointer (some ⟨b, 1, none⟩)) bs) :
  Calls Tryz.prog 109 #[.pointer (some ⟨b, 1, none⟩)] w fun e w' => e = .returned (.tuple #[]) ∧ w' = w := by
 obtain ⟨v, h1, h2, h3⟩ := h
 obtain ⟨j, hj, hjs⟩ := Option.map_eq_some_iff.1 info_builder
 have c1 : w.cell? ⟨b, 1, none⟩ = some (.pointer (some ⟨b, 1, none⟩)) := h1.cell 1
 have hneq := Lib.run_neq_ptr_same w (P := Tryz.prog) ⟨b, 1, none⟩ Tryz.underlying70 hj
 clear h1 h2 h3
 go_enter Tryz.func109, Tryz.ntmps109
 go_wp2
 go_end0
 exact ⟨rfl, rfl⟩
theorem ecopy_any (b mb : Nat) (bs : List UInt8) (w : World) (h : Wr w b mb bs) :
  Calls Tryz.prog 109 #[.pointer (some ⟨b, 1, none⟩)] w fun e w' => e = .returned (.tuple #[]) ∧ WrAt w' b mb (.pointer (some ⟨b, 1, none⟩)) bs ∧ Kp b w w' ∧ w'.heap.size = w.heap.size := by
 rcases h with h | h
 ·refine (ecopy_fresh b mb bs w h).mono ?_
  rintro e w' ⟨rfl, rfl⟩
  obtain ⟨v, h1, h2, h3⟩ := h
  refine ⟨rfl, ⟨v, h1.set 1 _, ?_, h3⟩, ⟨(Below.refl b w).setCell (Nat.le_refl _) _, (Lib.OthersKept.refl _ _ w).setCell ⟨b, 1, none⟩ rfl _⟩, World.size_setCell _ _ _⟩
  exact h2.kept (grown_set w b 1 _) (.inr h3)
 ·refine (ecopy_used b mb bs w h).mono ?_
  rintro e w' ⟨rfl, rfl⟩
  exact ⟨rfl, h, Kp.refl _ _, rfl⟩
theorem ewrite_any (b mb : Nat) (bs : List UInt8) (s : ByteArray) (w : World) (h : Wr w b mb bs) (hl : bs.length + s.size ≤ 1000000) :
  Calls Tryz.prog 66 #[.pointer (some ⟨b, 1, none⟩), .string s] w fun e w' => e = .returned (.tuple #[.int .i64 s.size, .nilIface]) ∧ Wr w' b mb (bs ++ s.data.toList) ∧ Kp b w w' := by
 obtain ⟨i0, hi, hz0, hz1, hz2⟩ := info_parts info_byte
 have HC := hid (ecopy_any b mb bs w h)
 have hbl := h.lt
 clear h
 go_enter Tryz.func66, Tryz.ntmps66
 go_wp2_with fail
 refine HC.out.mono ?_
 rintro e w1 ⟨rfl, ⟨v, h1, h2, h3⟩, hk1, hs1⟩
 have c1 : w1.cell? ⟨b, 1, none⟩ = some (.pointer (some ⟨b, 1, none⟩)) := h1.cell 1
 have c2 : w1.cell? ⟨b, 2, none⟩ = some v := h1.cell 2
 go_wp2_with (at_builtin; refine Lib.wpList_append_own_string _ rfl _ _ 71 9 rfl b 5 i0 Tryz.underlying71 Tryz.underlying9 hi hz0 hz1 hz2 _ _ _ rfl h2 s rfl ?c3 ?c4 ?c5 ?_)
 case c3 => unfold maxLen; omega
 case c4 => omega
 case c5 => omega
 intro v' w2 hown' hgrow _
 have h4 : HB w2 b #[.map (some mb), .pointer (some ⟨b, 1, none⟩), v] 142 := (hgrow.block b h1.lt (fun e => h3 e.symm)).trans h1
 have d2 : w2.cell? ⟨b, 2, none⟩ = some v := h4.cell 2
 have f2 : w2.frozen? ⟨b, 2, none⟩ = false := h4.free 2
 obtain ⟨ao, n', cap, rfl⟩ : ∃ ao n' cap, v' = .slice ao n' cap := by
  rcases hown'.2 with ⟨hv, _⟩ | ⟨g, cap, cur, hv, _⟩
  ·exact ⟨_, _, _, hv⟩
  ·exact ⟨_, _, _, hv⟩
 have hne' : (Value.slice ao n' cap).ownBlock ≠ some b := by
  intro e
  obtain ⟨c, fz, hc⟩ := Lib.ownsRow_kind hown' b e
  have h4' : w2.heap[b]? = some (.cells #[.map (some mb), .pointer (some ⟨b, 1, none⟩), v] 142 (0, 0)) := h4
  rw [h4'] at hc
  injection hc with hc
  injection hc with _ hc2
  exact absurd hc2 (by decide)
 go_wp2
 go_ret2
 refine ⟨rfl, .inr ⟨_, h4.set 2 _, ?_, hne'⟩, hk1.trans ⟨((Below.refl b w1).grown hgrow (by omega) (fun k hk => (h2.lt k hk).1)).setCell (p := ⟨b, 2, none⟩) (Nat.le_refl _) _, ((Lib.OthersKept.refl _ _ w1).grown hgrow (Lib.ownsRow_kind h2)).setCell ⟨b, 2, none⟩ rfl _⟩⟩
 have := hown'.kept (grown_set w2 b 2 (.slice ao n' cap)) (.inr hne')
 rw [List.length_append, Array.length_toList]
 rw [show Lib.byteCells (bs ++ s.data.toList) = Lib.byteCells bs ++ Lib.strCells s by rw [Lib.strCells_eq]; unfold Lib.byteCells; rw [List.map_append]]
 exact this
theorem cells_byte : Tryz.prog.cellsOf 5 = 1 := by kernel_rfl
theorem estring_any (b mb : Nat) (l : List UInt8) (w : World) (h : Wr w b mb l) (h0 : l ≠ []) :
  Calls Tryz.prog 33 #[.pointer (some ⟨b, 1, none⟩)] w fun e w' => e = .returned (.string ⟨l.toArray⟩) ∧ Below b w w' := by
 obtain ⟨p, v, hbk, hown, hne⟩ : ∃ p, WrAt w b mb p l := by
  rcases h with h | h
  ·exact ⟨_, h⟩
  ·exact ⟨_, h⟩
 have hl0 : l.length ≠ 0 := by simpa using h0
 obtain ⟨g, cap, cur, rfl, hbg, hg, hnc, hcm, hcs, htake⟩ : ∃ g cap cur, v = .slice (some ⟨g, 0, none⟩) l.length cap ∧ b ≤ g ∧ w.heap[g]? = some (.cells cur 5 (0, 0)) ∧ l.length ≤ cap ∧ cap ≤ maxLen ∧ cur.size = cap * 1 ∧ cur.toList.take (l.length * 1) = Lib.byteCells l := by
  rcases hown.2 with ⟨_, hz⟩ | ⟨g, cap, cur, hv, r⟩
  ·exact absurd hz hl0
  ·exact ⟨g, cap, cur, hv, r⟩
 have c1 : w.drew.cell? ⟨b, 2, none⟩ = some (.slice (some ⟨g, 0, none⟩) l.length cap) := hbk.cell 2
 have hSD : (Builtin.unsafeSliceData_ #[71] 106 #[.slice (some ⟨g, 0, none⟩) l.length cap]).run Tryz.prog w.drew = .ok (.pointer (some ⟨g, 0, none⟩)) w.drew :=
  Lib.run_unsafeSliceData_row _ _ _ _ _ _ (by omega)
 have hUS : (Builtin.unsafeString_ #[106, 3] 9 #[.pointer (some ⟨g, 0, none⟩), .int .i64 l.length]).run Tryz.prog w.drew = .ok (.string ⟨l.toArray⟩) (w.drew.freeze ⟨g, 0, none⟩ l.length) := by
  refine Lib.run_unsafeString_row w.drew 106 3 9 5 Tryz.underlying106 cells_byte g cur.size (by have hg' : w.drew.heap[g]? = some (.cells cur 5 (0, 0)) := hg; simp [World.shape?, hg']) l h0 (by omega) (by unfold maxLen at hcm; omega) ?_
  intro j x hx
  have := hown.cells (g := g) rfl j (.int .u8 x.toNat) (by simp [Lib.byteCells, hx])
  exact this
 have HF := hid (show Below b w (w.drew.freeze ⟨g, 0, none⟩ l.length) from Lib.below_freeze (Below.drew (Below.refl b w)) (p := ⟨g, 0, none⟩) hbg _)
 have mixed : Tryz.prog.follows .mixedOrders = true := by kernel_rfl
 clear hbk hown hne htake hcs hcm hg h
 go_enter Tryz.func33, Tryz.ntmps33
 go_wp2
 go_region_o
 all_goals (go_wp2; go_ret; exact ⟨rfl, HF.out⟩)
end Go.Proofs.YtjbpkpfmgbhlpaaGreatDoor.Code
/-
  A map from texts to rules: what one holds, an entry of a literal, a look-up.
-/
namespace Go.Proofs.YtjbpkpfmgbhlpaaGreatDoor.Code
open Go.ChangeShapes Go.WideShapes Go.ChangeAt Go.RowKit Val Elems Go.ChangeMaps Go.MapKept
open Go.WideElems (Fit rd rg pl rd_key rd_val rg_of)
open Go.Maps (Keyed)
set_option linter.unusedVariables false
set_option linter.unusedSimpArgs false
set_option maxRecDepth 100000
def hR (v : Value) : Option (DataW Value × List MemPlace) := some (.held v, [])
def mk (k : ByteArray) : Lit := .string k.data.toList
theorem mk_inj {a b : ByteArray} (h : mk a = mk b) : a = b := by
 unfold mk at h
 injection h with h
 rw [← Lib.mk_data a, h, Lib.mk_data]
theorem mk_law : Keyed Tryz.prog 9 := Maps.string_keyed Tryz.underlying9
theorem mk_zero (w : World) : (zeroValue 150).run Tryz.prog w = .ok (.agg #[.int .i64 0, .slice none 0 0, .bool false]) w := by kernel_rfl
theorem mk_is {k : ByteArray} (h : k.size ≤ maxLen) : keyOf Tryz.prog 9 (.string k) = some (mk k) := Go.WideMaps.keyOf_string_mk Tryz.underlying9 h
def MSees (D : DataW Value) (f : ByteArray → Option Value) : Prop := ∀ k : ByteArray, k.size ≤ maxLen → Maps.has D (mk k) = (f k).isSome ∧ ∀ s, f k = some s → ∀ z, D.atKey (mk k) z = .held s
def MapR (w : World) (b n : Nat) (f : ByteArray → Option Value) : Prop := ∃ D, w.ownsMap Tryz.prog 9 hR b n D ∧ MSees D f
def mput (f : ByteArray → Option Value) (k : ByteArray) (s : Value) : ByteArray → Option Value := fun x => if x = k then some s else f x
theorem mput_same (f : ByteArray → Option Value) (k : ByteArray) (s : Value) : mput f k s k = some s := by simp [mput]
theorem mput_other (f : ByteArray → Option Value) {k x : ByteArray} (s : Value) (h : x ≠ k) : mput f k s x = f x := by simp [mput, h]
theorem MapR.lt {w : World} {b n : Nat} {f : ByteArray → Option Value} (h : MapR w b n f) : b < w.heap.size := by obtain ⟨D, h1, _⟩ := h; exact h1.lt
theorem MapR.heap {w w' : World} {b n : Nat} {f : ByteArray → Option Value} (h : MapR w b n f) (e : w'.heap[b]? = w.heap[b]?) : MapR w' b n f := by
 obtain ⟨D, ⟨es, clock, hb, r⟩, h2⟩ := h
 exact ⟨D, ⟨es, clock, e.trans hb, r⟩, h2⟩
theorem MapR.below {w w' : World} {b n : Nat} {f : ByteArray → Option Value} (h : MapR w b n f) (hb : Below w.heap.size w w') : MapR w' b n f := h.heap (hb.block _ h.lt)
theorem MapR.alloc {w : World} {b n : Nat} {f : ByteArray → Option Value} (h : MapR w b n f) (o : Obj) : MapR (w.alloc o) b n f := h.below (below_alloc w o)
theorem mapR_made (w : World) : MapR (w.alloc (.map #[] 0)) w.heap.size 0 fun _ => none :=
 ⟨_, World.ownsMap_made w Tryz.prog 9 hR, fun k _ => ⟨rfl, fun s h => by cases h⟩⟩
theorem msees_put {D : DataW Value} {f : ByteArray → Option Value} (hD : Maps.IsMap D) (h : MSees D f) (k : ByteArray) (s : Value) : MSees (D.put (mk k) (.held s)) (mput f k s) := by
 intro x hx
 by_cases e : x = k
 ·subst e
  rw [mput_same]
  refine ⟨Maps.has_put_same hD (by simp [mk, WideAt.IsKeyLit]) _, fun s2 h2 z => ?_⟩
  cases h2
  exact Maps.atKey_put_same hD (by simp [mk, WideAt.IsKeyLit]) _ _
 ·have hne : mk x ≠ mk k := fun h => e (mk_inj h)
  rw [mput_other f _ e, Maps.has_put_other hne]
  exact ⟨(h x hx).1, fun s2 h2 z => by rw [Maps.atKey_put_other hne]; exact (h x hx).2 s2 h2 z⟩
section
variable (w : World) {ops : Array Oper} {rest : List Oper} {o : Oper} {a : Act} {Q : Exit → Act → World → Prop}
theorem wpList_ins (hg : o.guard = none) (m x v : Operand) (hop : o.op = Op.insert 139 m x v) (b n : Nat) (f : ByteArray → Option Value) (hm : a.eval m = .map (some b)) (h : MapR w b n f) (hn : n < maxLen) (k : ByteArray) (hx : a.eval x = .string k) (hk : k.size ≤ maxLen)
  (s : Value) (hv : a.eval v = s) (hK : ∀ w', MapR w' b (n + 1) (mput f k s) → w.grownBy w' (some b) → w'.heap.size = w.heap.size → wpList Tryz.prog ops Q rest (a.put o.dst undef) w') : wpList Tryz.prog ops Q (o :: rest) a w := by
 refine wpList_plain hg fun K' hK' => ?_
 obtain ⟨D, h1, h2⟩ := h
 obtain ⟨w', hrun, r1, r2⟩ := h1.store mk_law Tryz.underlying139 hn (mk_is hk) (show hR s = some (.held s, []) from rfl)
 have hsz : w'.heap.size = w.heap.size := by
  obtain ⟨es, clock, es', clock', hb, rfl⟩ := r2
  simp [setBlock]
 unfold Oper.wp
 simp [execOp, hop, hm, hx, hv, hrun, Result.andThen]
 exact hK' _ _ (hK w' ⟨_, r1, msees_put h1.isMap h2 k s⟩ r2.grown hsz)
end
theorem run_look (w : World) (b n : Nat) (f : ByteArray → Option Value) (h : MapR w b n f) (k : ByteArray) (hk : k.size ≤ maxLen) (s : Value) (hs : f k = some s) :
  (Instr.lookup 139 (.map (some b)) (.string k) true).run Tryz.prog w = .ok (.tuple #[s, .bool true]) w := by
 obtain ⟨D, h1, h2⟩ := h
 obtain ⟨v, ps, hrun, hv⟩ := h1.look_ok mk_law Tryz.underlying139 (mk_zero w) (show hR (.agg #[.int .i64 0, .slice none 0 0, .bool false]) = some (.held (.agg #[.int .i64 0, .slice none 0 0, .bool false]), []) from rfl) (mk_is hk)
 have h3 := h2 k hk
 rw [hs] at h3
 rw [h3.2 s rfl] at hv
 unfold hR at hv
 simp only [Option.some.injEq, Prod.mk.injEq, DataW.held.injEq] at hv
 rw [hrun, h3.1, hv.1]
 rfl
end Go.Proofs.YtjbpkpfmgbhlpaaGreatDoor.Code
