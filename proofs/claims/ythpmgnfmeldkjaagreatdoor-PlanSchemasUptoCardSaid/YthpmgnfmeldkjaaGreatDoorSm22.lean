/-
  A map from texts to rules: what one holds, an entry of a literal, a look-up.
-/
import Derived.Test.YthpmgnfmeldkjaaGreatDoorSm21
import Derived.Test.YthpmgnfmeldkjaaGreatDoorSm11
import Derived.Maps.OwnOps
import Derived.Maps.OwnSet
import Derived.Test.YthpmgnfmeldkjaaGreatDoorSm6
import Derived.Deep.DeepCutAuto
import Derived.Carry
import Derived.Test.YthpmgnfmeldkjaaGreatDoorSm4
import Derived.Deep.RegionHeld3
import Derived.Test.YthpmgnfmeldkjaaGreatDoorSm10
import Derived.Test.YthpmgnfmeldkjaaGreatDoorSm5
import Derived.Test.YthpmgnfmeldkjaaGreatDoorSm7
set_option maxRecDepth 100000
set_option maxHeartbeats 16000000
set_option linter.unusedVariables false
set_option linter.unusedSimpArgs false
open Go.Lib (hid)
namespace Go.Proofs.YthpmgnfmeldkjaaGreatDoor.Code
open Go.ChangeShapes Go.WideShapes Go.ChangeAt Go.RowKit Val Elems Go.ChangeMaps Go.MapKept
open Go.WideElems (Fit rd rg pl rd_key rd_val rg_of)
open Go.Maps (Keyed)
theorem mk_zero (w : World) : (zeroValue 224).run Tryz.prog w = .ok (.agg #[.int .i64 0, .slice none 0 0, .bool false]) w := by kernel_rfl
section
variable (w : World) {ops : Array Oper} {rest : List Oper} {o : Oper} {a : Act} {Q : Exit → Act → World → Prop}
theorem wpList_ins (hg : o.guard = none) (m x v : Operand) (hop : o.op = Op.insert 195 m x v) (b n : Nat) (f : ByteArray → Option Value) (hm : a.eval m = .map (some b)) (h : MapR w b n f) (hn : n < maxLen) (k : ByteArray) (hx : a.eval x = .string k) (hk : k.size ≤ maxLen)
  (s : Value) (hv : a.eval v = s) (hK : ∀ w', MapR w' b (n + 1) (mput f k s) → w.grownBy w' (some b) → w'.heap.size = w.heap.size → wpList Tryz.prog ops Q rest (a.put o.dst undef) w') : wpList Tryz.prog ops Q (o :: rest) a w := by
 refine wpList_plain hg fun K' hK' => ?_
 obtain ⟨D, h1, h2⟩ := h
 obtain ⟨w', hrun, r1, r2⟩ := h1.store mk_law Tryz.underlying195 hn (mk_is hk) (show hR s = some (.held s, []) from rfl)
 have hsz : w'.heap.size = w.heap.size := by
  obtain ⟨es, clock, es', clock', hb, rfl⟩ := r2
  simp [setBlock]
 unfold Oper.wp
 simp [execOp, hop, hm, hx, hv, hrun, Result.andThen]
 exact hK' _ _ (hK w' ⟨_, r1, msees_put h1.isMap h2 k s⟩ r2.grown hsz)
end
theorem run_look (w : World) (b n : Nat) (f : ByteArray → Option Value) (h : MapR w b n f) (k : ByteArray) (hk : k.size ≤ maxLen) (s : Value) (hs : f k = some s) :
  (Instr.lookup 195 (.map (some b)) (.string k) true).run Tryz.prog w = .ok (.tuple #[s, .bool true]) w := by
 obtain ⟨D, h1, h2⟩ := h
 obtain ⟨v, ps, hrun, hv⟩ := h1.look_ok mk_law Tryz.underlying195 (mk_zero w) (show hR (.agg #[.int .i64 0, .slice none 0 0, .bool false]) = some (.held (.agg #[.int .i64 0, .slice none 0 0, .bool false]), []) from rfl) (mk_is hk)
 have h3 := h2 k hk
 rw [hs] at h3
 rw [h3.2 s rfl] at hv
 unfold hR at hv
 simp only [Option.some.injEq, Prod.mk.injEq, DataW.held.injEq] at hv
 rw [hrun, h3.1, hv.1]
 rfl
end Go.Proofs.YthpmgnfmeldkjaaGreatDoor.Code
/-
  The program's table of rules, whole: what it holds, where, and what it does not.
-/
namespace Go.Proofs.YthpmgnfmeldkjaaGreatDoor.Code
open Go.ChangeShapes Go.WideShapes Go.ChangeAt Go.RowKit Val Elems
def CK (w w' : World) : Prop := ∀ g cs t, HB w g cs t → HB w' g cs t
theorem CK.refl (w : World) : CK w w := fun _ _ _ h => h
theorem CK.trans {w w1 w2 : World} (h : CK w w1) (k : CK w1 w2) : CK w w2 := fun g cs t x => k g cs t (h g cs t x)
theorem CK.alloc {w w1 : World} (h : CK w w1) (o : Obj) : CK w (w1.alloc o) := fun g cs t x => (h g cs t x).alloc o
theorem CK.grown {w w1 w2 : World} {b n : Nat} {f : ByteArray → Option Value} (h : CK w w1) (hm : MapR w1 b n f) (hg : w1.grownBy w2 (some b)) : CK w w2 := fun g cs t x => by
 have h1 := h g cs t x
 refine (hg.block g h1.lt (fun e => ?_)).trans h1
 obtain rfl : g = b := Option.some.inj e
 obtain ⟨D, ⟨es, clock, hb, _⟩, _⟩ := hm
 have h2 : w1.heap[g]? = some (.cells cs t (0, 0)) := h1
 rw [hb] at h2
 cases h2
def LvAt (w : World) (B : Nat) (ks : List Int) (X : Option Addr) : Prop := ks = [] ∨ ∃ g, X = some ⟨g, 0, none⟩ ∧ g < B ∧ HB w g (ks.map (Value.int .i64)).toArray 221
theorem LvAt.below {w w' : World} {B : Nat} {ks : List Int} {X : Option Addr} (h : LvAt w B ks X) (hb : Below B w w') : LvAt w' B ks X := h.imp id fun ⟨g, e1, e2, e3⟩ => ⟨g, e1, e2, (hb.block _ e2).trans e3⟩
def Tbl (w : World) (B mb : Nat) : Prop := ∃ (f : ByteArray → Option Value) (n : Nat), mb < B ∧ MapR w mb n f ∧ (∀ k, ruleE k = none → f ⟨k.toArray⟩ = none) ∧
 ∀ k r, ruleE k = some r → ∃ (X : Option Addr) (c : Nat), f ⟨k.toArray⟩ = some (.agg #[.int .i64 r.1, .slice X r.2.1.length c, .bool r.2.2]) ∧ LvAt w B r.2.1 X
theorem Tbl.below {w w' : World} {B mb : Nat} (h : Tbl w B mb) (hb : Below B w w') : Tbl w' B mb := by
 obtain ⟨f, n, h1, h2, h3, h4⟩ := h
 refine ⟨f, n, h1, h2.heap (hb.block _ h1), h3, fun k r hr => ?_⟩
 obtain ⟨X, c, e, hl⟩ := h4 k r hr
 exact ⟨X, c, e, hl.below hb⟩
theorem mput_none {f : ByteArray → Option Value} {k x : ByteArray} {s : Value} (h : x ≠ k) (hf : f x = none) : mput f k s x = none := by rw [mput_other f _ h, hf]
theorem key_ne {k l : List UInt8} (h : k ≠ l) : (⟨k.toArray⟩ : ByteArray) ≠ ⟨l.toArray⟩ := fun e => h (by
 have := congrArg (fun x : ByteArray => x.data.toList) e
 simpa using this)
theorem HB.freshAt {w : World} {n : Nat} {cs : Array Value} {t : TypeId} (h : w.heap.size = n) : HB (w.alloc (.cells cs t)) n cs t := h ▸ HB.fresh w cs t
theorem HB.three {w : World} {g : Nat} {a b c : Value} {t : TypeId} (h : HB w g #[a, b, c] t) : w.cell? ⟨g, 0, none⟩ = some a ∧ w.cell? ⟨g, 1, none⟩ = some b ∧ w.cell? ⟨g, 2, none⟩ = some c := ⟨h.cell 0, h.cell 1, h.cell 2⟩
theorem CK.st {b n : Nat} {w0 w0' w w' : World} {f : ByteArray → Option Value} (C : CK w0 w) (L : Hid (Below w0'.heap.size w0' w)) (hb : w0'.heap.size ≤ b) (M : MapR w b n f) (g : w.grownBy w' (some b)) : CK w0 w' ∧ Hid (Below w0'.heap.size w0' w') ∧ CK w w' :=
 ⟨C.grown M g, hid (L.out.grown g L.out.size (fun k hk => by cases hk; exact hb)), (CK.refl _).grown M g⟩
theorem etable_any (w : World) :
  Calls Tryz.prog 167 #[] w fun e w' => ∃ mb, e = .returned (.map (some mb)) ∧ Tbl w' w'.heap.size mb ∧ Below w.heap.size w w' := by
 go_enter Tryz.func167, Tryz.ntmps167
 have hmm := @run_makeMap Tryz.prog
 go_upto_region 5 with fail
 obtain ⟨W5, hW5⟩ : ∃ W5, (((((w.alloc (.cells #[.int .i64 4, .int .i64 4] 221)).alloc (.cells #[.int .i64 3, .slice (some ⟨w.heap.size, 0, none⟩) 2 2, .bool false] 224)).alloc (.cells #[.int .i64 4, .int .i64 5] 221)).alloc (.cells #[.int .i64 4, .slice (some ⟨w.heap.size + 1 + 1, 0, none⟩) 2 2, .bool false] 224)).alloc (.cells #[.int .i64 7, .slice none 0 0, .bool true] 224)).alloc (.cells #[.int .i64 7, .slice none 0 0, .bool false] 224) = W5 := ⟨_, rfl⟩
 have B5 := hid (show Below w.heap.size w W5 by rw [← hW5]; exact (((((((Below.refl _ _)).alloc (by (try simp only [World.size_alloc]); omega) _).alloc (by (try simp only [World.size_alloc]); omega) _).alloc (by (try simp only [World.size_alloc]); omega) _).alloc (by (try simp only [World.size_alloc]); omega) _).alloc (by (try simp only [World.size_alloc]); omega) _).alloc (by (try simp only [World.size_alloc]); omega) _)
 have Ha := hid (show HB W5 w.heap.size #[.int .i64 4, .int .i64 4] 221 by rw [← hW5]; exact (((((HB.freshAt (by simp)).alloc _).alloc _).alloc _).alloc _).alloc _)
 have Hb := hid (show HB W5 (w.heap.size + 1) #[.int .i64 3, .slice (some ⟨w.heap.size, 0, none⟩) 2 2, .bool false] 224 by rw [← hW5]; exact ((((HB.freshAt (by simp)).alloc _).alloc _).alloc _).alloc _)
 have Hc := hid (show HB W5 (w.heap.size + 1 + 1) #[.int .i64 4, .int .i64 5] 221 by rw [← hW5]; exact (((HB.freshAt (by simp)).alloc _).alloc _).alloc _)
 have Hd := hid (show HB W5 (w.heap.size + 1 + 1 + 1) #[.int .i64 4, .slice (some ⟨w.heap.size + 1 + 1, 0, none⟩) 2 2, .bool false] 224 by rw [← hW5]; exact ((HB.freshAt (by simp)).alloc _).alloc _)
 have He := hid (show HB W5 (w.heap.size + 1 + 1 + 1 + 1) #[.int .i64 7, .slice none 0 0, .bool true] 224 by rw [← hW5]; exact (HB.freshAt (by simp)).alloc _)
 have Hg := hid (show HB W5 (w.heap.size + 1 + 1 + 1 + 1 + 1) #[.int .i64 7, .slice none 0 0, .bool false] 224 by rw [← hW5]; exact HB.freshAt (by simp))
 rw [hW5]
 clear hW5
 have M0 := mapR_made W5
 have C0 := (CK.refl W5).alloc (.map #[] 0)
 have L0 := hid (B5.out.alloc B5.out.size (.map #[] 0))
 have MA := hid (M0.alloc (.cells #[.int .i64 0, .int .i64 1] 221))
 go_wp2_with (refine wpList_ins _ rfl _ _ _ rfl W5.heap.size 0 _ rfl MA.out (by decide) ⟨#[111, 114]⟩ rfl (by decide) _ rfl ?_)
 intro w0 M1 g0 s0
 obtain ⟨C1, L1, D0⟩ := CK.st (C0.alloc _) (hid (L0.out.alloc L0.out.size _)) B5.out.size MA.out g0
 have Q0 := D0 _ _ _ (HB.fresh _ _ _)
 clear MA M0 C0 L0 g0
 replace D0 := ((CK.refl _).alloc _).trans D0
 have MA := hid (M1.alloc (.cells #[.int .i64 1, .int .i64 2] 221))
 go_wp2_with (refine wpList_ins _ rfl _ _ _ rfl W5.heap.size 1 _ rfl MA.out (by decide) ⟨#[97, 110, 100]⟩ rfl (by decide) _ rfl ?_)
 intro w1 M2 g1 s1
 obtain ⟨C2, L2, D1⟩ := CK.st (C1.alloc _) (hid (L1.out.alloc L1.out.size _)) B5.out.size MA.out g1
 have Q1 := D1 _ _ _ (HB.fresh _ _ _)
 clear MA M1 C1 L1 g1
 replace D1 := ((CK.refl _).alloc _).trans D1
 have MA := hid (M2.alloc (.cells #[.int .i64 2] 221))
 go_wp2_with (refine wpList_ins _ rfl _ _ _ rfl W5.heap.size 2 _ rfl MA.out (by decide) ⟨#[110, 111, 116]⟩ rfl (by decide) _ rfl ?_)
 intro w2 M3 g2 s2
 obtain ⟨C3, L3, D2⟩ := CK.st (C2.alloc _) (hid (L2.out.alloc L2.out.size _)) B5.out.size MA.out g2
 have Q2 := D2 _ _ _ (HB.fresh _ _ _)
 clear MA M2 C2 L2 g2
 replace D2 := ((CK.refl _).alloc _).trans D2
 obtain ⟨u0, u1, u2⟩ := (C3 _ _ _ Hb.out).three
 go_wp2_with (refine wpList_ins _ rfl _ _ _ rfl W5.heap.size 3 _ rfl M3 (by decide) ⟨#[61]⟩ rfl (by decide) _ rfl ?_)
 intro w3 M4 g3 s3
 obtain ⟨C4, L4, D3⟩ := CK.st C3 L3 B5.out.size M3 g3
 clear u0 u1 u2 M3 C3 L3 g3
 obtain ⟨u0, u1, u2⟩ := (C4 _ _ _ Hb.out).three
 go_wp2_with (refine wpList_ins _ rfl _ _ _ rfl W5.heap.size 4 _ rfl M4 (by decide) ⟨#[60, 62]⟩ rfl (by decide) _ rfl ?_)
 intro w4 M5 g4 s4
 obtain ⟨C5, L5, D4⟩ := CK.st C4 L4 B5.out.size M4 g4
 clear u0 u1 u2 M4 C4 L4 g4
 obtain ⟨u0, u1, u2⟩ := (C5 _ _ _ Hb.out).three
 go_wp2_with (refine wpList_ins _ rfl _ _ _ rfl W5.heap.size 5 _ rfl M5 (by decide) ⟨#[60]⟩ rfl (by decide) _ rfl ?_)
 intro w5 M6 g5 s5
 obtain ⟨C6, L6, D5⟩ := CK.st C5 L5 B5.out.size M5 g5
 clear u0 u1 u2 M5 C5 L5 g5
 obtain ⟨u0, u1, u2⟩ := (C6 _ _ _ Hb.out).three
 go_wp2_with (refine wpList_ins _ rfl _ _ _ rfl W5.heap.size 6 _ rfl M6 (by decide) ⟨#[60, 61]⟩ rfl (by decide) _ rfl ?_)
 intro w6 M7 g6 s6
 obtain ⟨C7, L7, D6⟩ := CK.st C6 L6 B5.out.size M6 g6
 clear u0 u1 u2 M6 C6 L6 g6
 obtain ⟨u0, u1, u2⟩ := (C7 _ _ _ Hb.out).three
 go_wp2_with (refine wpList_ins _ rfl _ _ _ rfl W5.heap.size 7 _ rfl M7 (by decide) ⟨#[62]⟩ rfl (by decide) _ rfl ?_)
 intro w7 M8 g7 s7
 obtain ⟨C8, L8, D7⟩ := CK.st C7 L7 B5.out.size M7 g7
 clear u0 u1 u2 M7 C7 L7 g7
 obtain ⟨u0, u1, u2⟩ := (C8 _ _ _ Hb.out).three
 go_wp2_with (refine wpList_ins _ rfl _ _ _ rfl W5.heap.size 8 _ rfl M8 (by decide) ⟨#[62, 61]⟩ rfl (by decide) _ rfl ?_)
 intro w8 M9 g8 s8
 obtain ⟨C9, L9, D8⟩ := CK.st C8 L8 B5.out.size M8 g8
 clear u0 u1 u2 M8 C8 L8 g8
 have MA := hid (M9.alloc (.cells #[.int .i64 4] 221))
 go_wp2_with (refine wpList_ins _ rfl _ _ _ rfl W5.heap.size 9 _ rfl MA.out (by decide) ⟨#[105, 115, 32, 110, 117, 108, 108]⟩ rfl (by decide) _ rfl ?_)
 intro w9 M10 g9 s9
 obtain ⟨C10, L10, D9⟩ := CK.st (C9.alloc _) (hid (L9.out.alloc L9.out.size _)) B5.out.size MA.out g9
 have Q9 := D9 _ _ _ (HB.fresh _ _ _)
 clear MA M9 C9 L9 g9
 replace D9 := ((CK.refl _).alloc _).trans D9
 obtain ⟨u0, u1, u2⟩ := (C10 _ _ _ Hd.out).three
 go_wp2_with (refine wpList_ins _ rfl _ _ _ rfl W5.heap.size 10 _ rfl M10 (by decide) ⟨#[43]⟩ rfl (by decide) _ rfl ?_)
 intro w10 M11 g10 s10
 obtain ⟨C11, L11, D10⟩ := CK.st C10 L10 B5.out.size M10 g10
 clear u0 u1 u2 M10 C10 L10 g10
 obtain ⟨u0, u1, u2⟩ := (C11 _ _ _ Hd.out).three
 go_wp2_with (refine wpList_ins _ rfl _ _ _ rfl W5.heap.size 11 _ rfl M11 (by decide) ⟨#[45]⟩ rfl (by decide) _ rfl ?_)
 intro w11 M12 g11 s11
 obtain ⟨C12, L12, D11⟩ := CK.st C11 L11 B5.out.size M11 g11
 clear u0 u1 u2 M11 C11 L11 g11
 have MA := hid (M12.alloc (.cells #[.int .i64 5, .int .i64 6] 221))
 go_wp2_with (refine wpList_ins _ rfl _ _ _ rfl W5.heap.size 12 _ rfl MA.out (by decide) ⟨#[42]⟩ rfl (by decide) _ rfl ?_)
 intro w12 M13 g12 s12
 obtain ⟨C13, L13, D12⟩ := CK.st (C12.alloc _) (hid (L12.out.alloc L12.out.size _)) B5.out.size MA.out g12
 have Q12 := D12 _ _ _ (HB.fresh _ _ _)
 clear MA M12 C12 L12 g12
 replace D12 := ((CK.refl _).alloc _).trans D12
 have MA := hid (M13.alloc (.cells #[.int .i64 7] 221))
 go_wp2_with (refine wpList_ins _ rfl _ _ _ rfl W5.heap.size 13 _ rfl MA.out (by decide) ⟨#[110, 101, 103]⟩ rfl (by decide) _ rfl ?_)
 intro w13 M14 g13 s13
 obtain ⟨C14, L14, D13⟩ := CK.st (C13.alloc _) (hid (L13.out.alloc L13.out.size _)) B5.out.size MA.out g13
 have Q13 := D13 _ _ _ (HB.fresh _ _ _)
 clear MA M13 C13 L13 g13
 replace D13 := ((CK.refl _).alloc _).trans D13
 obtain ⟨u0, u1, u2⟩ := (C14 _ _ _ He.out).three
 go_wp2_with (refine wpList_ins _ rfl _ _ _ rfl W5.heap.size 14 _ rfl M14 (by decide) ⟨#[110, 117, 109]⟩ rfl (by decide) _ rfl ?_)
 intro w14 M15 g14 s14
 obtain ⟨C15, L15, D14⟩ := CK.st C14 L14 B5.out.size M14 g14
 clear u0 u1 u2 M14 C14 L14 g14
 obtain ⟨u0, u1, u2⟩ := (C15 _ _ _ He.out).three
 go_wp2_with (refine wpList_ins _ rfl _ _ _ rfl W5.heap.size 15 _ rfl M15 (by decide) ⟨#[116, 101, 120, 116]⟩ rfl (by decide) _ rfl ?_)
 intro w15 M16 g15 s15
 obtain ⟨C16, L16, D15⟩ := CK.st C15 L15 B5.out.size M15 g15
 clear u0 u1 u2 M15 C15 L15 g15
 obtain ⟨u0, u1, u2⟩ := (C16 _ _ _ He.out).three
 go_wp2_with (refine wpList_ins _ rfl _ _ _ rfl W5.heap.size 16 _ rfl M16 (by decide) ⟨#[99, 111, 108]⟩ rfl (by decide) _ rfl ?_)
 intro w16 M17 g16 s16
 obtain ⟨C17, L17, D16⟩ := CK.st C16 L16 B5.out.size M16 g16
 clear u0 u1 u2 M16 C16 L16 g16
 obtain ⟨u0, u1, u2⟩ := (C17 _ _ _ Hg.out).three
 go_wp2_with (refine wpList_ins _ rfl _ _ _ rfl W5.heap.size 17 _ rfl M17 (by decide) ⟨#[116, 114, 117, 101]⟩ rfl (by decide) _ rfl ?_)
 intro w17 M18 g17 s17
 obtain ⟨C18, L18, D17⟩ := CK.st C17 L17 B5.out.size M17 g17
 clear u0 u1 u2 M17 C17 L17 g17
 obtain ⟨u0, u1, u2⟩ := (C18 _ _ _ Hg.out).three
 go_wp2_with (refine wpList_ins _ rfl _ _ _ rfl W5.heap.size 18 _ rfl M18 (by decide) ⟨#[102, 97, 108, 115, 101]⟩ rfl (by decide) _ rfl ?_)
 intro w18 M19 g18 s18
 obtain ⟨C19, L19, D18⟩ := CK.st C18 L18 B5.out.size M18 g18
 clear u0 u1 u2 M18 C18 L18 g18
 obtain ⟨u0, u1, u2⟩ := (C19 _ _ _ Hg.out).three
 go_wp2_with (refine wpList_ins _ rfl _ _ _ rfl W5.heap.size 19 _ rfl M19 (by decide) ⟨#[110, 117, 108, 108]⟩ rfl (by decide) _ rfl ?_)
 intro w19 M20 g19 s19
 obtain ⟨C20, L20, D19⟩ := CK.st C19 L19 B5.out.size M19 g19
 clear u0 u1 u2 M19 C19 L19 g19
 replace D18 := D18.trans D19
 replace D17 := D17.trans D18
 replace D16 := D16.trans D17
 replace D15 := D15.trans D16
 replace D14 := D14.trans D15
 replace D13 := D13.trans D14
 replace D12 := D12.trans D13
 replace D11 := D11.trans D12
 replace D10 := D10.trans D11
 replace D9 := D9.trans D10
 replace D8 := D8.trans D9
 replace D7 := D7.trans D8
 replace D6 := D6.trans D7
 replace D5 := D5.trans D6
 replace D4 := D4.trans D5
 replace D3 := D3.trans D4
 replace D2 := D2.trans D3
 replace D1 := D1.trans D2
 replace Q0 := D1 _ _ _ Q0
 replace Q1 := D2 _ _ _ Q1
 replace Q2 := D3 _ _ _ Q2
 replace Q9 := D10 _ _ _ Q9
 replace Q12 := D13 _ _ _ Q12
 replace Q13 := D14 _ _ _ Q13
 go_wp2
 go_ret
 refine ⟨_, rfl, ⟨_, _, M20.lt, M20, fun k hk => ?_, fun k r hr => ?_⟩, L20.out⟩
 ·have hn := look_none hk
  have h2 : ∀ p ∈ tblE, (⟨k.toArray⟩ : ByteArray) ≠ ⟨p.1.toArray⟩ := fun p hp => key_ne (hn p hp)
  have go : ∀ (i : Nat) (h : i < 20), (⟨k.toArray⟩ : ByteArray) ≠ ⟨(tblE[i]'h).1.toArray⟩ := fun i h => h2 _ (List.getElem_mem h)
  exact mput_none (go 19 (by decide)) (mput_none (go 18 (by decide)) (mput_none (go 17 (by decide)) (mput_none (go 16 (by decide)) (mput_none (go 15 (by decide)) (mput_none (go 14 (by decide)) (mput_none (go 13 (by decide)) (mput_none (go 12 (by decide)) (mput_none (go 11 (by decide)) (mput_none (go 10 (by decide)) (mput_none (go 9 (by decide)) (mput_none (go 8 (by decide)) (mput_none (go 7 (by decide)) (mput_none (go 6 (by decide)) (mput_none (go 5 (by decide)) (mput_none (go 4 (by decide)) (mput_none (go 3 (by decide)) (mput_none (go 2 (by decide)) (mput_none (go 1 (by decide)) (mput_none (go 0 (by decide)) (rfl))))))))))))))))))))
 ·have hm := look_mem hr
  unfold tblE at hm
  simp only [List.mem_cons, Prod.mk.injEq, List.not_mem_nil, or_false] at hm
  rcases hm with ⟨rfl, rfl⟩ | ⟨rfl, rfl⟩ | ⟨rfl, rfl⟩ | ⟨rfl, rfl⟩ | ⟨rfl, rfl⟩ | ⟨rfl, rfl⟩ | ⟨rfl, rfl⟩ | ⟨rfl, rfl⟩ | ⟨rfl, rfl⟩ | ⟨rfl, rfl⟩ | ⟨rfl, rfl⟩ | ⟨rfl, rfl⟩ | ⟨rfl, rfl⟩ | ⟨rfl, rfl⟩ | ⟨rfl, rfl⟩ | ⟨rfl, rfl⟩ | ⟨rfl, rfl⟩ | ⟨rfl, rfl⟩ | ⟨rfl, rfl⟩ | ⟨rfl, rfl⟩
  ·have hq : HB w19 (W5.heap.size + 1) #[.int .i64 0, .int .i64 1] 221 := by rwa [show (W5.alloc (.map #[] 0)).heap.size = W5.heap.size + 1 by simp] at Q0
   exact ⟨some ⟨W5.heap.size + 1, 0, none⟩, 2, by kernel_rfl, .inr ⟨_, rfl, hq.lt, hq⟩⟩
  ·have hq : HB w19 (W5.heap.size + 1 + 1) #[.int .i64 1, .int .i64 2] 221 := by rwa [show w0.heap.size = W5.heap.size + 1 + 1 by omega] at Q1
   exact ⟨some ⟨W5.heap.size + 1 + 1, 0, none⟩, 2, by kernel_rfl, .inr ⟨_, rfl, hq.lt, hq⟩⟩
  ·have hq : HB w19 (W5.heap.size + 1 + 1 + 1) #[.int .i64 2] 221 := by rwa [show w1.heap.size = W5.heap.size + 1 + 1 + 1 by omega] at Q2
   exact ⟨some ⟨W5.heap.size + 1 + 1 + 1, 0, none⟩, 1, by kernel_rfl, .inr ⟨_, rfl, hq.lt, hq⟩⟩
  ·have hq := C20 _ _ _ Ha.out
   exact ⟨some ⟨w.heap.size, 0, none⟩, 2, by kernel_rfl, .inr ⟨_, rfl, hq.lt, hq⟩⟩
  ·have hq := C20 _ _ _ Ha.out
   exact ⟨some ⟨w.heap.size, 0, none⟩, 2, by kernel_rfl, .inr ⟨_, rfl, hq.lt, hq⟩⟩
  ·have hq := C20 _ _ _ Ha.out
   exact ⟨some ⟨w.heap.size, 0, none⟩, 2, by kernel_rfl, .inr ⟨_, rfl, hq.lt, hq⟩⟩
  ·have hq := C20 _ _ _ Ha.out
   exact ⟨some ⟨w.heap.size, 0, none⟩, 2, by kernel_rfl, .inr ⟨_, rfl, hq.lt, hq⟩⟩
  ·have hq := C20 _ _ _ Ha.out
   exact ⟨some ⟨w.heap.size, 0, none⟩, 2, by kernel_rfl, .inr ⟨_, rfl, hq.lt, hq⟩⟩
  ·have hq := C20 _ _ _ Ha.out
   exact ⟨some ⟨w.heap.size, 0, none⟩, 2, by kernel_rfl, .inr ⟨_, rfl, hq.lt, hq⟩⟩
  ·have hq : HB w19 (W5.heap.size + 1 + 1 + 1 + 1) #[.int .i64 4] 221 := by rwa [show w8.heap.size = W5.heap.size + 1 + 1 + 1 + 1 by omega] at Q9
   exact ⟨some ⟨W5.heap.size + 1 + 1 + 1 + 1, 0, none⟩, 1, by kernel_rfl, .inr ⟨_, rfl, hq.lt, hq⟩⟩
  ·have hq := C20 _ _ _ Hc.out
   exact ⟨some ⟨w.heap.size + 1 + 1, 0, none⟩, 2, by kernel_rfl, .inr ⟨_, rfl, hq.lt, hq⟩⟩
  ·have hq := C20 _ _ _ Hc.out
   exact ⟨some ⟨w.heap.size + 1 + 1, 0, none⟩, 2, by kernel_rfl, .inr ⟨_, rfl, hq.lt, hq⟩⟩
  ·have hq : HB w19 (W5.heap.size + 1 + 1 + 1 + 1 + 1) #[.int .i64 5, .int .i64 6] 221 := by rwa [show w11.heap.size = W5.heap.size + 1 + 1 + 1 + 1 + 1 by omega] at Q12
   exact ⟨some ⟨W5.heap.size + 1 + 1 + 1 + 1 + 1, 0, none⟩, 2, by kernel_rfl, .inr ⟨_, rfl, hq.lt, hq⟩⟩
  ·have hq : HB w19 (W5.heap.size + 1 + 1 + 1 + 1 + 1 + 1) #[.int .i64 7] 221 := by rwa [show w12.heap.size = W5.heap.size + 1 + 1 + 1 + 1 + 1 + 1 by omega] at Q13
   exact ⟨some ⟨W5.heap.size + 1 + 1 + 1 + 1 + 1 + 1, 0, none⟩, 1, by kernel_rfl, .inr ⟨_, rfl, hq.lt, hq⟩⟩
  ·exact ⟨none, 0, by kernel_rfl, .inl rfl⟩
  ·exact ⟨none, 0, by kernel_rfl, .inl rfl⟩
  ·exact ⟨none, 0, by kernel_rfl, .inl rfl⟩
  ·exact ⟨none, 0, by kernel_rfl, .inl rfl⟩
  ·exact ⟨none, 0, by kernel_rfl, .inl rfl⟩
  ·exact ⟨none, 0, by kernel_rfl, .inl rfl⟩
def FRule (w : World) (B : Nat) (r : Option RuleR) (e : Ending) (w' : World) : Prop :=
 match r with
 | some r => ∃ Y d, e = .returned (.tuple #[.agg #[.int .i64 r.1, .slice Y r.2.1.length d, .bool r.2.2], .bool true]) ∧ LvAt w B r.2.1 Y ∧ Below w.heap.size w w'
 | none => e = .returned (.tuple #[.agg #[.int .i64 7, .slice none 0 0, .bool false], .bool false]) ∧ Below w.heap.size w w'
theorem toList_eq_nil' {s : ByteArray} (h : s.toList = []) : s = ⟨#[]⟩ := by
 rw [ByteArray.toList_eq] at h
 rw [← Lib.mk_data s, h]
theorem run_look_no (w : World) (b n : Nat) (f : ByteArray → Option Value) (h : MapR w b n f) (k : ByteArray) (hk : k.size ≤ maxLen) (hs : f k = none) :
  (Instr.lookup 195 (.map (some b)) (.string k) true).run Tryz.prog w = .ok (.tuple #[.agg #[.int .i64 0, .slice none 0 0, .bool false], .bool false]) w := by
 obtain ⟨D, h1, h2⟩ := h
 obtain ⟨v, ps, hrun, hv⟩ := h1.look_ok mk_law Tryz.underlying195 (mk_zero w) (show hR (.agg #[.int .i64 0, .slice none 0 0, .bool false]) = some (.held (.agg #[.int .i64 0, .slice none 0 0, .bool false]), []) from rfl) (mk_is hk)
 have h3 := (h2 k hk).1
 rw [hs] at h3
 have h4 : Maps.has D (mk k) = false := h3
 rw [Maps.atKey_of_not_has h4] at hv
 unfold hR at hv
 simp only [Option.some.injEq, Prod.mk.injEq, DataW.held.injEq] at hv
 rw [hrun, h4, hv.1]
theorem frule_one (b mb : Nat) (bs : List UInt8) (op tx : ByteArray) (X : Option Addr) (lv : Int) (Y : Option Addr) (M d : Nat) (tb fd : Bool) (N c n : Nat) (f : ByteArray → Option Value) (hNs : N ≤ 1000000000) (hMs : M ≤ 1000000000) (w : World) (h : Wr w b mb bs) (hM : MapR w mb n f)
  (hlk0 : ∀ w', w'.heap[mb]? = w.heap[mb]? → (Instr.lookup 195 (.map (some mb)) (.string op) true).run Tryz.prog w' = .ok (.tuple #[.agg #[.int .i64 lv, .slice Y M d, .bool tb], .bool fd]) w') :
  Calls Tryz.prog 196 #[.pointer (some ⟨b, 0, none⟩), .agg #[.string op, .string tx, .slice X N c]] w (fun e w' => e = .returned (if fd = true ∧ N = M ∧ (tx = ⟨#[]⟩ ∨ tb = true) then .tuple #[.agg #[.int .i64 lv, .slice Y M d, .bool tb], .bool true] else .tuple #[.agg #[.int .i64 7, .slice none 0 0, .bool false], .bool false]) ∧ Below w.heap.size w w') := by
 obtain ⟨R, hR⟩ : ∃ R, (if fd = true ∧ N = M ∧ (tx = ⟨#[]⟩ ∨ tb = true) then Value.tuple #[.agg #[.int .i64 lv, .slice Y M d, .bool tb], .bool true] else .tuple #[.agg #[.int .i64 7, .slice none 0 0, .bool false], .bool false]) = R := ⟨_, rfl⟩
 rw [hR]
 have HR := hid hR
 clear hR
 have hmw : mb < w.heap.size := hM.lt
 have hbw := h.lt
 have hcb : w.cell? ⟨b, 0, none⟩ = some (.map (some mb)) := by rcases h with ⟨_, h, _⟩ | ⟨_, h, _⟩ <;> exact h.cell 0
 clear h hM
 have hz : w.heap.size < w.heap.size + 1 := by omega
 go_enter Tryz.func196, Tryz.ntmps196
 go_upto_region 1 with fail
 obtain ⟨W, hW⟩ : ∃ W, (w.alloc (.cells #[.string op, .string tx, .slice X N c] 24)).alloc (.cells #[.int .i64 0, .slice none 0 0, .bool false] 224) = W := ⟨_, rfl⟩
 have L0 := hid (show Below w.heap.size w W by rw [← hW]; exact ((Below.refl _ _).alloc (Nat.le_refl _) _).alloc (by simp) _)
 have N0 := hid (show HB W w.heap.size #[.string op, .string tx, .slice X N c] 24 by rw [← hW]; exact (HB.fresh _ _ _).alloc _)
 have M0 := hid (show NBox W (w.heap.size + 1) (.int .i64 0) (.slice none 0 0) (.bool false) by
  rw [← hW, show w.heap.size + 1 = (w.alloc (.cells #[.string op, .string tx, .slice X N c] 24)).heap.size by simp]; exact NBox.fresh _ _ _ _ _)
 have hzW : W.heap.size = w.heap.size + 2 := by rw [← hW]; simp
 have HLK := hid (fun (w' : World) (e : w'.heap[mb]? = W.heap[mb]?) => hlk0 w' (e.trans (L0.out.block mb hmw)))
 have c0 : W.cell? ⟨b, 0, none⟩ = some (.map (some mb)) := (L0.out.cell (p := ⟨b, 0, none⟩) hbw).trans hcb
 have n0 : W.cell? ⟨w.heap.size, 0, none⟩ = some (.string op) := N0.out.cell 0
 rw [hW]
 clear hW hlk0 hcb
 refine wp_region_held_drew (S := fun w' => w'.cell? ⟨b, 0, none⟩ = some (.map (some mb)) ∧ w'.cell? ⟨w.heap.size, 0, none⟩ = some (.string op) ∧ w'.heap[mb]? = W.heap[mb]?) (by kernel_rfl) ⟨c0, n0, rfl⟩ (fun hHeld => ?_)
 -- region
 refine take1 (v := ?_) 0 9 rfl ?_ ?_; rotate_left; (intro w hSw; (try dsimp only at hSw); go_simp; try with_reducible rfl); (try simp only [Act.put, List.setIfInBounds_toArray, List.set_cons_zero, List.set_cons_succ])
 refine take1 (v := ?_) 1 10 rfl ?_ ?_; rotate_left; (intro w hSw; (try dsimp only at hSw); go_simp; try with_reducible rfl); (try simp only [Act.put, List.setIfInBounds_toArray, List.set_cons_zero, List.set_cons_succ])
 refine take1 (v := ?_) 2 11 rfl ?_ ?_; rotate_left; (intro w hSw; (try dsimp only at hSw); go_simp; try with_reducible rfl); (try simp only [Act.put, List.setIfInBounds_toArray, List.set_cons_zero, List.set_cons_succ])
 refine take1 (v := ?_) 3 12 rfl ?_ ?_; rotate_left; (intro w hSw; (try dsimp only at hSw); go_simp; try with_reducible rfl); (try simp only [Act.put, List.setIfInBounds_toArray, List.set_cons_zero, List.set_cons_succ])
 refine take1 (v := ?_) 4 13 rfl ?_ ?_; rotate_left; (intro w hSw; (try dsimp only at hSw); go_simp; try with_reducible rfl); (try simp only [Act.put, List.setIfInBounds_toArray, List.set_cons_zero, List.set_cons_succ])
 refine take1 (v := ?_) 5 14 rfl ?_ ?_; rotate_left; (intro w hSw; (try dsimp only at hSw); go_simp; try with_reducible rfl); (try simp only [Act.put, List.setIfInBounds_toArray, List.set_cons_zero, List.set_cons_succ])
 refine take1 (v := ?_) 6 15 rfl ?_ ?_; rotate_left; (intro w hSw; (try dsimp only at hSw); go_simp; rw [HLK.out _ hSw.2.2]; go_simp; try with_reducible rfl); (try simp only [Act.put, List.setIfInBounds_toArray, List.set_cons_zero, List.set_cons_succ])
 refine take1 (v := ?_) 7 8 rfl ?_ ?_; rotate_left; (intro w hSw; (try dsimp only at hSw); go_simp; try with_reducible rfl); (try simp only [Act.put, List.setIfInBounds_toArray, List.set_cons_zero, List.set_cons_succ])
 refine take1 (v := ?_) 8 16 rfl ?_ ?_; rotate_left; (intro w hSw; (try dsimp only at hSw); go_simp; try with_reducible rfl); (try simp only [Act.put, List.setIfInBounds_toArray, List.set_cons_zero, List.set_cons_succ])
 refine take1 (v := ?_) 9 17 rfl ?_ ?_; rotate_left; (intro w hSw; (try dsimp only at hSw); go_simp; try with_reducible rfl); (try simp only [Act.put, List.setIfInBounds_toArray, List.set_cons_zero, List.set_cons_succ])
 refine wpAnyH_ready (rs := [10]) (by kernel_rfl) (by simp) ?_
 refine AllReadyH.cons (o := ⟨some 6, _, _, _, _, _⟩) rfl (fun K hK => ?_) AllReadyH.nil
 go_simp
 refine hK.out _ _ ⟨(World.cell?_alloc_some _ _ _ (by rw [c0]; rfl)).trans c0, (World.cell?_alloc_some _ _ _ (by rw [n0]; rfl)).trans n0, (below_alloc W _).block mb (by omega)⟩ (fun hHeld2 => ?_)
 clear hK K
 (try simp only [Act.put, List.setIfInBounds_toArray, List.set_cons_zero, List.set_cons_succ])
 refine wpAnyH_ready (rs := [11]) (by kernel_rfl) (by simp) ?_
 refine AllReadyH.cons (o := ⟨none, _, _, _, _, _⟩) rfl (fun K hK => ?_) AllReadyH.nil
 go_simp
 refine hK.out _ _ ⟨(World.cell?_alloc_some _ _ _ (by rw [c0]; rfl)).trans c0, (World.cell?_alloc_some _ _ _ (by rw [n0]; rfl)).trans n0, (below_alloc W _).block mb (by omega)⟩ (fun hHeld3 => ?_)
 clear hK K
 (try simp only [Act.put, List.setIfInBounds_toArray, List.set_cons_zero, List.set_cons_succ])
 refine take1 (v := ?_) 12 7 rfl ?_ ?_; rotate_left; (intro w hSw; (try dsimp only at hSw); go_simp; try with_reducible rfl); (try simp only [Act.put, List.setIfInBounds_toArray, List.set_cons_zero, List.set_cons_succ])
 refine wpAnyH_done (by kernel_rfl) ?_ _
 clear hHeld hHeld2 hHeld3 c0 n0 HLK
 have Lx := hid (show Below W.heap.size W (W.alloc (.cells #[.int .i64 lv, .slice Y M d, .bool tb] 224)).drew from (below_alloc W _).drew)
 have V0 := hid (show NBox (W.alloc (.cells #[.int .i64 lv, .slice Y M d, .bool tb] 224)).drew (w.heap.size + 2) (.int .i64 lv) (.slice Y M d) (.bool tb) by rw [← hzW]; exact (NBox.fresh W _ _ _ _).below (Below.drew (Below.refl _ _)))
 obtain ⟨W2, hW2⟩ : ∃ W2, (W.alloc (.cells #[.int .i64 lv, .slice Y M d, .bool tb] 224)).drew = W2 := ⟨_, rfl⟩
 rw [hW2] at V0 Lx ⊢
 have N2 := hid (N0.out.below Lx.out)
 have M2 := hid (M0.out.below Lx.out)
 have L2 := hid (bnext L0.out (by omega) Lx.out)
 have n0 : W2.cell? ⟨w.heap.size, 0, none⟩ = some (.string op) := N2.out.cell 0
 have n1 : W2.cell? ⟨w.heap.size, 1, none⟩ = some (.string tx) := N2.out.cell 1
 have n2 : W2.cell? ⟨w.heap.size, 2, none⟩ = some (.slice X N c) := N2.out.cell 2
 obtain ⟨v0, v1, v2, vf⟩ := V0.out
 obtain ⟨y0, y1, y2, yf⟩ := M2.out
 have zl := V0.out.lt
 clear hW2 N0 M0 L0 Lx hzW
 have HB := hid (fun (a b c : Value) => show Below w.heap.size w (W3 W2 (w.heap.size + 1) a b c) from ((L2.out.setCell (p := ⟨w.heap.size + 1, 0, none⟩) (by simp) _).setCell (p := ⟨w.heap.size + 1, 1, none⟩) (by simp) _).setCell (p := ⟨w.heap.size + 1, 2, none⟩) (by simp) _)
 have no : (¬ (fd = true ∧ N = M ∧ (tx = ⟨#[]⟩ ∨ tb = true))) → R = .tuple #[.agg #[.int .i64 7, .slice none 0 0, .bool false], .bool false] := fun h => by rw [← HR.out, if_neg h]
 have ZN := M2.out.set (.int .i64 7) (.slice none 0 0) (.bool false)
 have ZY := M2.out.set (.int .i64 lv) (.slice Y M d) (.bool tb)
 have HNO := hid no
 clear no
 cases fd with
 | false =>
  go_wp2
  obtain rfl := HNO.out (by simp)
  exact bodyPost_ret (v := .tuple #[.agg #[.int .i64 7, .slice none 0 0, .bool false], .bool false]) (by simp [results, Tryz.results196, go_sem, ZN.c0, ZN.c1, ZN.c2]) rfl ⟨rfl, HB.out _ _ _⟩
 | true =>
  by_cases hNM : N = M
  case neg =>
   have b1 : ((N : Int) != (M : Int)) = true := by
    simp only [bne_iff_ne, ne_eq]
    omega
   have b2 : ¬ (N : Int) = (M : Int) := by omega
   obtain rfl := HNO.out (fun h => hNM h.2.1)
   clear hNM
   go_wp2
   exact bodyPost_ret (v := .tuple #[.agg #[.int .i64 7, .slice none 0 0, .bool false], .bool false]) (by simp [results, Tryz.results196, go_sem, ZN.c0, ZN.c1, ZN.c2]) rfl ⟨rfl, HB.out _ _ _⟩
  subst hNM
  by_cases hte : tx = ⟨#[]⟩
  ·subst hte
   obtain rfl : R = .tuple #[.agg #[.int .i64 lv, .slice Y N d, .bool tb], .bool true] := by rw [← HR.out, if_pos ⟨rfl, rfl, .inl rfl⟩]
   go_wp2
   exact bodyPost_ret (v := .tuple #[.agg #[.int .i64 lv, .slice Y N d, .bool tb], .bool true]) (by simp [results, Tryz.results196, go_sem, ZY.c0, ZY.c1, ZY.c2]) rfl ⟨rfl, HB.out _ _ _⟩
  ·have b2 : ¬ tx.toList = [] := fun e => hte (toList_eq_nil' e)
   have b1 : (tx.toList == []) = false := by simpa using b2
   have b3 : (tx.toList != []) = true := by simpa using b2
   cases tb with
   | false =>
    obtain rfl := HNO.out (fun h => h.2.2.elim hte (fun e => by cases e))
    clear hte b2
    go_wp2
    exact bodyPost_ret (v := .tuple #[.agg #[.int .i64 7, .slice none 0 0, .bool false], .bool false]) (by simp [results, Tryz.results196, go_sem, ZN.c0, ZN.c1, ZN.c2]) rfl ⟨rfl, HB.out _ _ _⟩
   | true =>
    obtain rfl : R = .tuple #[.agg #[.int .i64 lv, .slice Y N d, .bool true], .bool true] := by rw [← HR.out, if_pos ⟨rfl, rfl, .inr rfl⟩]
    clear hte b2
    go_wp2
    exact bodyPost_ret (v := .tuple #[.agg #[.int .i64 lv, .slice Y N d, .bool true], .bool true]) (by simp [results, Tryz.results196, go_sem, ZY.c0, ZY.c1, ZY.c2]) rfl ⟨rfl, HB.out _ _ _⟩
theorem frule_any (b mb : Nat) (bs : List UInt8) (op tx : ByteArray) (X : Option Addr) (N c : Nat) (hNs : N ≤ 1000000000) (w : World) (h : Wr w b mb bs) (ht : Tbl w b mb) (hop : op.size ≤ 9223372036854775807) :
  Calls Tryz.prog 196 #[.pointer (some ⟨b, 0, none⟩), .agg #[.string op, .string tx, .slice X N c]] w (FRule w b (rE op.data.toList tx.data.toList N)) := by
 obtain ⟨f, n, h1, h2, h3, h4⟩ := ht
 have htx : tx = ⟨#[]⟩ ↔ tx.data.toList = [] := by
  constructor
  ·rintro rfl; rfl
  ·intro e; rw [← Lib.mk_data tx, e]
 cases hr : ruleE op.data.toList with
 | none =>
  have hf := h3 _ hr
  rw [Lib.mk_data] at hf
  have e : rE op.data.toList tx.data.toList N = none := by unfold rE; rw [hr]
  rw [e]
  have h9 := frule_one b mb bs op tx X 0 none 0 0 false false N c n f hNs (by omega) w h h2 (fun w' e => run_look_no w' mb n f (h2.heap e) op (by unfold maxLen; omega) hf)
  rw [if_neg (by simp)] at h9
  exact h9
 | some r =>
  obtain ⟨Y, d, hf, hl⟩ := h4 _ _ hr
  rw [Lib.mk_data] at hf
  have hfew := (rule_few hr).1
  have h9 := frule_one b mb bs op tx X r.1 Y r.2.1.length d r.2.2 true N c n f hNs (by omega) w h h2 (fun w' e => run_look w' mb n f (h2.heap e) op (by unfold maxLen; omega) _ hf)
  have e : rE op.data.toList tx.data.toList N = if true = true ∧ N = r.2.1.length ∧ (tx = ⟨#[]⟩ ∨ r.2.2 = true) then some r else none := by
   unfold rE
   rw [hr]
   dsimp only
   by_cases hc : N = r.2.1.length ∧ (tx.data.toList = [] ∨ r.2.2 = true)
   ·rw [if_pos hc, if_pos ⟨rfl, hc.1, hc.2.imp htx.2 id⟩]
   ·rw [if_neg hc, if_neg (fun h => hc ⟨h.2.1, h.2.2.imp htx.1 id⟩)]
  rw [e]
  by_cases hc : true = true ∧ N = r.2.1.length ∧ (tx = ⟨#[]⟩ ∨ r.2.2 = true)
  ·rw [if_pos hc] at h9 ⊢
   exact h9.mono fun e w' hp => ⟨Y, d, hp.1, hl, hp.2⟩
  ·rw [if_neg hc] at h9 ⊢
   exact h9
structure HasE (b mb : Nat) (m : Int) (bs : List UInt8) (w : World) : Prop where
 wr : Wr w b mb bs
 ru : Tbl w b mb
 ev : Env b m w
theorem HasE.lt {b mb : Nat} {m : Int} {bs : List UInt8} {w : World} (h : HasE b mb m bs w) : b < w.heap.size := h.wr.lt
theorem HasE.below {b mb : Nat} {m : Int} {bs : List UInt8} {w w' : World} (h : HasE b mb m bs w) (hb : Below w.heap.size w w') : HasE b mb m bs w' :=
 ⟨h.wr.below hb, h.ru.below (hb.mono (Nat.le_of_lt h.lt)), h.ev.below (hb.mono (Nat.le_of_lt h.lt))⟩
theorem HasE.next {b mb : Nat} {m : Int} {bs bs' : List UInt8} {w w' : World} (h : HasE b mb m bs w) (hw : Wr w' b mb bs') (hk : Kp b w w') : HasE b mb m bs' w' := ⟨hw, h.ru.below hk.bl, h.ev.below hk.bl⟩
theorem RIn.kp {w w' : World} {S : Nat → Prop} {t : Nod} {x : NV} {b : Nat} (h : RIn w S t x) (hS : ∀ g, S g → g < b) (hb : Below b w w') : RIn w' S t x := h.keep (fun _ h => h) (fun p hp => hb.cell (hS _ hp))
def NdP (b mb : Nat) (bs : List UInt8) (w : World) (e : Ending) (w' : World) : Prop := e = .returned (.tuple #[]) ∧ Wr w' b mb bs ∧ Kp b w w'
def NdE (b mb : Nat) (m : Int) (t : Nod) : Prop := ∀ (S : Nat → Prop) (op tx : ByteArray) (X : Option Addr) (n k : Nat) (bs : List UInt8) (w : World), HasE b mb m bs w → (∀ g, S g → g < b) → RIn w S t (op, tx, X, n, k) → t.tot ≤ 100000 → bs.length + (showE t).length ≤ 900000 →
 Calls Tryz.prog 168 #[.pointer (some ⟨b, 0, none⟩), .agg #[.string op, .string tx, .slice X n k]] w (NdP b mb (bs ++ showE t) w)
theorem ruleN {b mb : Nat} {m : Int} {bs : List UInt8} {w : World} (h : HasE b mb m bs w) {t : Nod} (ht : t.tot ≤ 100000) {S : Nat → Prop} {op tx : ByteArray} {X : Option Addr} {n k : Nat} (hn : RIn w S t (op, tx, X, n, k)) :
  Calls Tryz.prog 196 #[.pointer (some ⟨b, 0, none⟩), .agg #[.string op, .string tx, .slice X n k]] w (FRule w b (rE t.op t.tx t.ks.length)) := by
 obtain ⟨e1, e2, e3, e4⟩ := hn.texts
 dsimp only at e1 e2 e3
 have hop : op.size ≤ 9223372036854775807 := by
  have h1 : op.size = t.op.length := by rw [e1]; exact size_list _
  have h2 : t.op.length ≤ t.tot := by cases t; simp only [Nod.tot, Nod.op]; omega
  omega
 have h1 := frule_any b mb bs op tx X n k (by have := nodtot_ks t; omega) w h.wr h.ru hop
 rw [e1, e2, e3] at h1
 rw [e1, e2, e3]
 exact h1
theorem levelN {b mb : Nat} {m : Int} {bs : List UInt8} {w : World} (h : HasE b mb m bs w) {t : Nod} (ht : t.tot ≤ 100000) {S : Nat → Prop} {op tx : ByteArray} {X : Option Addr} {n k : Nat} (hn : RIn w S t (op, tx, X, n, k)) :
  Calls Tryz.prog 196 #[.pointer (some ⟨b, 0, none⟩), .agg #[.string op, .string tx, .slice X n k]] w (fun e w' => ∃ Y N d tb ok, e = .returned (.tuple #[.agg #[.int .i64 (lvE t), .slice Y N d, .bool tb], .bool ok]) ∧ Below w.heap.size w w') := by
 refine (ruleN h ht hn).mono fun e w' hp => ?_
 unfold FRule at hp
 unfold lvE
 cases hr : rE t.op t.tx t.ks.length with
 | none => rw [hr] at hp; exact ⟨_, _, _, _, _, hp.1, hp.2⟩
 | some r => rw [hr] at hp; obtain ⟨Y, d, he, _, hb⟩ := hp; exact ⟨_, _, _, _, _, he, hb⟩
structure ESt (b mb : Nat) (m : Int) (w0 : World) (S : Nat → Prop) (t : Nod) (op0 op tx : ByteArray) (X : Option Addr) (n k : Nat) (g0 : Nat) (bs : List UInt8) (w : World) : Prop where
 has : HasE b mb m bs w
 box : HB w g0 #[.string op0, .string tx, .slice X n k] 24
 nin : RIn w S t (op, tx, X, n, k)
 kp : Kp b w0 w
theorem ESt.next {b mb : Nat} {m : Int} {w0 : World} {S : Nat → Prop} {t : Nod} {op0 op tx : ByteArray} {X : Option Addr} {n k : Nat} {g0 : Nat} {bs bs' : List UInt8} {w w' : World}
  (h : ESt b mb m w0 S t op0 op tx X n k g0 bs w) (hS : ∀ g, S g → g < b) (h0 : b < g0) (hw : Wr w' b mb bs') (hk : Kp b w w') : ESt b mb m w0 S t op0 op tx X n k g0 bs' w' :=
 ⟨h.has.next hw hk, h.box.kp hk (by omega) (by decide), h.nin.kp hS hk.bl, h.kp.trans hk⟩
theorem ekidE_any {b mb : Nat} {m : Int} (t : Nod) (ih : NdE b mb m t) (ht : t.tot ≤ 100000) (al : Int) (S : Nat → Prop) (op tx : ByteArray) (X : Option Addr) (n k : Nat) (bs : List UInt8) (w : World) (h : HasE b mb m bs w) (hS : ∀ g, S g → g < b) (hn : RIn w S t (op, tx, X, n, k)) (hl : bs.length + (kdE al (showE t, lvE t)).length ≤ 900000) :
  Calls Tryz.prog 198 #[.pointer (some ⟨b, 0, none⟩), .agg #[.string op, .string tx, .slice X n k], .int .i64 al] w (NdP b mb (bs ++ kdE al (showE t, lvE t)) w) := by
 have hR := fun (w' : World) (hb : Below w.heap.size w w') => levelN (h.below hb) ht (hn.kp hS (hb.mono (Nat.le_of_lt h.lt)))
 obtain ⟨lv, hlv⟩ : ∃ lv, lvE t = lv := ⟨_, rfl⟩
 rw [hlv] at hR hl ⊢
 have HR := hid hR
 have HI := hid ih
 have HH := hid h
 have HN := hid hn
 have HS := hid hS
 have hbl := h.lt
 obtain ⟨s, hs⟩ : ∃ s, showE t = s := ⟨_, rfl⟩
 have HSH := hid hs
 rw [hs] at hl ⊢
 unfold kdE at hl ⊢
 dsimp only at hl ⊢
 have HT := hid ht
 clear hR ih h hn hS hs hlv ht
 have hge : ∀ q, decide (al ≤ lv) = q → Calls Tryz.prog 198 #[.pointer (some ⟨b, 0, none⟩), .agg #[.string op, .string tx, .slice X n k], .int .i64 al] w (NdP b mb (bs ++ if al ≤ lv then s else 40 :: (s ++ [41])) w) := by
  intro q hq
  obtain ⟨Z, hZ⟩ : ∃ Z, (if al ≤ lv then s else 40 :: (s ++ [41])) = Z := ⟨_, rfl⟩
  have HZ := hid hZ
  rw [hZ] at hl ⊢
  clear hZ
  go_enter Tryz.func198, Tryz.ntmps198
  obtain ⟨w0, hw0⟩ : ∃ w0, w.alloc (.cells #[.string op, .string tx, .slice X n k] 24) = w0 := ⟨_, rfl⟩
  have B0 := hid (show Below w.heap.size w w0 by rw [← hw0]; exact below_alloc w _)
  have X0 := hid (show HB w0 w.heap.size #[.string op, .string tx, .slice X n k] 24 by rw [← hw0]; exact HB.fresh w _ _)
  have x0 : w0.cell? ⟨w.heap.size, 0, none⟩ = some (.string op) := X0.out.cell 0
  have x1 : w0.cell? ⟨w.heap.size, 1, none⟩ = some (.string tx) := X0.out.cell 1
  have x2 : w0.cell? ⟨w.heap.size, 2, none⟩ = some (.slice X n k) := X0.out.cell 2
  go_wp2_with fail
  try rw [hw0]
  refine (HR.out _ B0.out).mono ?_
  rintro e w1 ⟨Y, N, d, tb, ok, rfl, hb1⟩
  have hz0 : w.heap.size < w0.heap.size := by rw [← hw0]; simp
  have z1 := hb1.size
  obtain ⟨W1, hW1⟩ : ∃ W1, w1.alloc (.cells #[.int .i64 lv, .slice Y N d, .bool tb] 224) = W1 := ⟨_, rfl⟩
  have B1 := hid (show Below w.heap.size w W1 by rw [← hW1]; exact (bnext B0.out B0.out.size hb1).alloc (by omega) _)
  have T1 := hid (show ESt b mb m w S t op op tx X n k w.heap.size bs W1 from
   ⟨HH.out.below B1.out, by rw [← hW1]; exact (X0.out.below hb1).alloc _, HN.out.kp HS.out (B1.out.mono (by omega)), (Kp.refl b w).next (by omega) B1.out⟩)
  have RV := hid (show HB W1 w1.heap.size #[.int .i64 lv, .slice Y N d, .bool tb] 224 by rw [← hW1]; exact HB.fresh w1 _ _)
  have q0 : W1.cell? ⟨w.heap.size, 0, none⟩ = some (.string op) := T1.out.box.cell 0
  have q1 : W1.cell? ⟨w.heap.size, 1, none⟩ = some (.string tx) := T1.out.box.cell 1
  have q2 : W1.cell? ⟨w.heap.size, 2, none⟩ = some (.slice X n k) := T1.out.box.cell 2
  have q3 : W1.cell? ⟨w1.heap.size, 0, none⟩ = some (.int .i64 lv) := RV.out.cell 0
  clear hb1 x0 x1 x2 X0 B0 B1 HR
  cases q with
  | true =>
   have hle : al ≤ lv := by simpa using hq
   have hZ := HZ.out
   rw [if_pos hle] at hZ
   subst hZ
   have HN1 := hid (HI.out S op tx X n k bs W1 T1.out.has HS.out T1.out.nin HT.out (by rw [HSH.out]; exact hl))
   unfold NdP at HN1
   rw [HSH.out] at HN1
   clear hle HZ
   go_wp2_with fail
   try rw [hW1]
   refine HN1.out.mono ?_
   rintro e w2 ⟨rfl, hw2, hk2⟩
   have T2 := hid (T1.out.next HS.out (by omega) hw2 hk2)
   clear hw2 hk2 q0 q1 q2 q3
   go_wp2
   go_end0
   exact ⟨rfl, T2.out.has.wr, T2.out.kp⟩
  | false =>
   have hle : ¬ al ≤ lv := by simpa using hq
   have hZ := HZ.out
   rw [if_neg hle] at hZ
   subst hZ
   have HW := hid (fun (bs' : List UInt8) (s : ByteArray) (w' : World) (h' : Wr w' b mb bs') (hl' : bs'.length + s.size ≤ 1000000) => ewrite_any b mb bs' s w' h' hl')
   clear hle HZ
   go_wp2_with fail
   try rw [hW1]
   refine (HW.out bs ⟨#[40]⟩ _ T1.out.has.wr (by show bs.length + 1 ≤ 1000000; simp at hl; omega)).mono ?_
   rintro e w2 ⟨rfl, hw2, hk2⟩
   have T2 := hid (T1.out.next HS.out (by omega) hw2 hk2)
   have HN2 := hid (HI.out S op tx X n k (bs ++ [40]) w2 T2.out.has HS.out T2.out.nin HT.out (by rw [HSH.out]; simp at hl ⊢; omega))
   unfold NdP at HN2
   rw [HSH.out] at HN2
   have r0 : w2.cell? ⟨w.heap.size, 0, none⟩ = some (.string op) := T2.out.box.cell 0
   have r1 : w2.cell? ⟨w.heap.size, 1, none⟩ = some (.string tx) := T2.out.box.cell 1
   have r2 : w2.cell? ⟨w.heap.size, 2, none⟩ = some (.slice X n k) := T2.out.box.cell 2
   clear hw2 hk2 q0 q1 q2 q3
   go_wp2_with fail
   refine HN2.out.mono ?_
   rintro e w3 ⟨rfl, hw3, hk3⟩
   have T3 := hid (T2.out.next HS.out (by omega) hw3 hk3)
   clear hw3 hk3 r0 r1 r2
   go_wp2_with fail
   refine (HW.out (bs ++ [40] ++ s) ⟨#[41]⟩ _ T3.out.has.wr (by show (bs ++ [40] ++ s).length + 1 ≤ 1000000; simp at hl ⊢; omega)).mono ?_
   rintro e w4 ⟨rfl, hw4, hk4⟩
   have T4 := hid (T3.out.next HS.out (by omega) hw4 hk4)
   clear hw4 hk4
   go_wp2
   go_end0
   exact ⟨rfl, by have h := T4.out.has.wr; simpa using h, T4.out.kp⟩
 exact hge _ rfl
theorem estring_of (b : Nat) (w : World) (v : Value) (n : Nat) (T : ByteArray) (hlt : b < w.heap.size) (c1 : w.drew.cell? ⟨b, 2, none⟩ = some v) (p : Value) (wS : World) (hSD : (Builtin.unsafeSliceData_ #[69] 109 #[v]).run Tryz.prog w.drew = .ok p wS) (hcS : wS.cell? ⟨b, 2, none⟩ = some v)
  (hv : ∃ a c, v = .slice a n c) (w2 : World) (hUS : (Builtin.unsafeString_ #[109, 3] 9 #[p, .int .i64 n]).run Tryz.prog wS = .ok (.string T) w2) (hb : Below b w w2) :
  Calls Tryz.prog 32 #[.pointer (some ⟨b, 1, none⟩)] w fun e w' => e = .returned (.string T) ∧ Below b w w' := by
 obtain ⟨a, c, rfl⟩ := hv
 have HF := hid hb
 have mixed : Tryz.prog.follows .mixedOrders = true := by kernel_rfl
 clear hb hlt
 go_enter Tryz.func32, Tryz.ntmps32
 go_wp2
 go_region_o
 all_goals (go_wp2; go_ret; exact ⟨rfl, HF.out⟩)
theorem estring_nil (b mb : Nat) (w : World) (h : Wr w b mb []) :
  Calls Tryz.prog 32 #[.pointer (some ⟨b, 1, none⟩)] w fun e w' => e = .returned (.string ⟨#[]⟩) ∧ Below b w w' := by
 have hlt := h.lt
 obtain ⟨p, v, hbk, hown, hne⟩ : ∃ p, WrAt w b mb p [] := by
  rcases h with h | h
  ·exact ⟨_, h⟩
  ·exact ⟨_, h⟩
 have c1 : w.drew.cell? ⟨b, 2, none⟩ = some v := hbk.cell 2
 have hB : Below b w w.drew := (Below.refl b w).drew
 rcases hown.2 with ⟨hv, _⟩ | ⟨g, cap, cur, hv, hg, hhp, _⟩
 ·subst hv
  exact estring_of b w _ 0 ⟨#[]⟩ hlt c1 (.pointer none) w.drew (Lib.run_unsafeSliceData_nil _ _ _ _ _) c1 ⟨_, _, rfl⟩ w.drew (Lib.run_unsafeString_none _ _ _ _ _) hB
 ·subst hv
  by_cases hc : cap = 0
  ·subst hc
   exact estring_of b w _ 0 ⟨#[]⟩ hlt c1 (.pointer (some ⟨w.drew.heap.size, 0, none⟩)) (w.drew.alloc (.view ⟨g, 0, none⟩ 5)) (Lib.run_unsafeSliceData_zero _ _ _ 5 Tryz.underlying109 ⟨g, 0, none⟩ 0 (5, cur.size) (by have hg' : w.drew.heap[g]? = some (.cells cur 5 (0, 0)) := hhp; simp [World.shape?, hg'])) ((World.cell?_alloc_some _ _ _ (by rw [c1]; rfl)).trans c1) ⟨_, _, rfl⟩ (w.drew.alloc (.view ⟨g, 0, none⟩ 5)) (Lib.run_unsafeString_none _ _ _ _ _) (hB.alloc (Nat.le_of_lt hlt) _)
  ·exact estring_of b w _ 0 ⟨#[]⟩ hlt c1 (.pointer (some ⟨g, 0, none⟩)) w.drew (Lib.run_unsafeSliceData_row _ _ _ _ _ _ hc) c1 ⟨_, _, rfl⟩ w.drew (Lib.run_unsafeString_none _ _ _ _ _) hB
theorem estringE (b mb : Nat) (l : List UInt8) (w : World) (h : Wr w b mb l) :
  Calls Tryz.prog 32 #[.pointer (some ⟨b, 1, none⟩)] w fun e w' => e = .returned (.string ⟨l.toArray⟩) ∧ Below b w w' := by
 by_cases h0 : l = []
 ·subst h0
  exact estring_nil b mb w h
 ·exact estring_any b mb l w h h0
theorem wr_freshE (w : World) (mb : Nat) : Wr (w.alloc (.cells #[.map (some mb), .pointer none, .slice none 0 0] 198)) w.heap.size mb [] :=
 .inl ⟨_, HB.fresh w _ _, by show World.ownsRow _ _ _ _ _ 0 _; exact World.ownsRow_nil _ _ _ _, by simp [Value.ownBlock]⟩
def EShows (t : Nod) : Prop := t.tot ≤ 100000 → (showE t).length ≤ 900000 → ∀ (m : Int) (S : Nat → Prop) (op tx : ByteArray) (X : Option Addr) (n k : Nat) (w : World), Env w.heap.size m w → (∀ g, S g → g < w.heap.size) → RIn w S t (op, tx, X, n, k) →
  Calls Tryz.prog 117 #[.agg #[.string op, .string tx, .slice X n k]] w fun e w' => e = .returned (.string ⟨(showE t).toArray⟩) ∧ Below w.heap.size w w'
theorem eshow_of (t : Nod) (hND : ∀ (b mb : Nat) (m : Int), NdE b mb m t) : EShows t := by
 intro ht hl m S op tx X n k w he hS hn
 have HE := hid he
 have HS := hid hS
 have HN := hid hn
 have HRU := hid (fun w' => etable_any w')
 obtain ⟨s, hs⟩ : ∃ s, showE t = s := ⟨_, rfl⟩
 have HSH := hid hs
 rw [hs] at hl ⊢
 have HL := hid hl
 have HT := hid ht
 clear he hS hn hs hl ht
 go_enter Tryz.func117, Tryz.ntmps117
 obtain ⟨w0, hw0⟩ : ∃ w0, w.alloc (.cells #[.string op, .string tx, .slice X n k] 24) = w0 := ⟨_, rfl⟩
 have B0 := hid (show Below w.heap.size w w0 by rw [← hw0]; exact below_alloc w _)
 have X0 := hid (show HB w0 w.heap.size #[.string op, .string tx, .slice X n k] 24 by rw [← hw0]; exact HB.fresh w _ _)
 have hz0 : w.heap.size < w0.heap.size := by rw [← hw0]; simp
 go_wp2_with fail
 try rw [hw0]
 refine (HRU.out _).mono ?_
 rintro e w1 ⟨mb, rfl, hru, hb1⟩
 have z1 := hb1.size
 obtain ⟨W1, hW1⟩ : ∃ W1, w1.alloc (.cells #[.map (some mb), .pointer none, .slice none 0 0] 198) = W1 := ⟨_, rfl⟩
 have B1 := hid (show Below w.heap.size w W1 by rw [← hW1]; exact (bnext B0.out B0.out.size hb1).alloc (by omega) _)
 have A1 := hid (show HasE w1.heap.size mb m [] W1 from ⟨by rw [← hW1]; exact wr_freshE w1 mb, by rw [← hW1]; exact hru.below (below_alloc w1 _), (HE.out.below B1.out).more (by omega)⟩)
 have X1 := hid (show HB W1 w.heap.size #[.string op, .string tx, .slice X n k] 24 by rw [← hW1]; exact (X0.out.below hb1).alloc _)
 have N1 := hid (HN.out.bel HS.out B1.out)
 have X2 := X0.out.below hb1
 have q0 : ∀ o, (w1.alloc o).cell? ⟨w.heap.size, 0, none⟩ = some (.string op) := fun o => (X2.alloc o).cell 0
 have q1 : ∀ o, (w1.alloc o).cell? ⟨w.heap.size, 1, none⟩ = some (.string tx) := fun o => (X2.alloc o).cell 1
 have q2 : ∀ o, (w1.alloc o).cell? ⟨w.heap.size, 2, none⟩ = some (.slice X n k) := fun o => (X2.alloc o).cell 2
 have HW1 := hid hW1
 have HND := hid (show Calls Tryz.prog 168 #[.pointer (some ⟨w1.heap.size, 0, none⟩), .agg #[.string op, .string tx, .slice X n k]] W1 (fun e w' => e = .returned (.tuple #[]) ∧ Wr w' w1.heap.size mb s ∧ Kp w1.heap.size W1 w') by
  have h := hND _ _ _ S op tx X n k [] W1 A1.out (fun g hg => by have := HS.out g hg; omega) N1.out HT.out (by rw [HSH.out]; simpa using HL.out)
  rw [HSH.out] at h
  exact h)
 clear hru hb1 X0 B0 HRU hW1 X2
 go_wp2_with fail
 rw [HW1.out]
 refine HND.out.mono ?_
 rintro e w2 ⟨rfl, hw2, hk2⟩
 have B2 := hid (B1.out.trans (hk2.bl.mono (by omega)))
 have HST := hid (estringE w1.heap.size mb s w2 hw2)
 clear hw2 hk2 q0 q1 q2
 go_wp2_with fail
 refine HST.out.mono ?_
 rintro e w3 ⟨rfl, hb3⟩
 have B3 := hid (B2.out.trans (hb3.mono (by omega)))
 clear hb3
 go_wp2
 go_ret
 exact ⟨rfl, B3.out⟩
end Go.Proofs.YthpmgnfmeldkjaaGreatDoor.Code
