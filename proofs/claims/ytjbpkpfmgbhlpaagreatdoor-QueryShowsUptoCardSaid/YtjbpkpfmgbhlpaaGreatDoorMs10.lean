/-
  The program's table of rules, whole: what it holds, where, and what it does not.
-/
import Derived.Test.YtjbpkpfmgbhlpaaGreatDoorMs9
import Derived.Test.YtjbpkpfmgbhlpaaGreatDoorMs4
import Derived.Deep.DeepCutAuto
import Derived.Carry
import Derived.Deep.RegionHeld3
set_option maxRecDepth 100000
set_option maxHeartbeats 16000000
open Go.Lib (hid)
namespace Go.Proofs.YtjbpkpfmgbhlpaaGreatDoor.Code
open Go.ChangeShapes Go.WideShapes Go.ChangeAt Go.RowKit Val Elems
set_option linter.unusedVariables false
set_option linter.unusedSimpArgs false
def CK (w w' : World) : Prop := ∀ g cs t, HB w g cs t → HB w' g cs t
theorem CK.refl (w : World) : CK w w := fun _ _ _ h => h
theorem CK.alloc {w w1 : World} (h : CK w w1) (o : Obj) : CK w (w1.alloc o) := fun g cs t x => (h g cs t x).alloc o
theorem CK.grown {w w1 w2 : World} {b n : Nat} {f : ByteArray → Option Value} (h : CK w w1) (hm : MapR w1 b n f) (hg : w1.grownBy w2 (some b)) : CK w w2 := fun g cs t x => by
 have h1 := h g cs t x
 refine (hg.block g h1.lt (fun e => ?_)).trans h1
 obtain rfl : g = b := Option.some.inj e
 obtain ⟨D, ⟨es, clock, hb, _⟩, _⟩ := hm
 have h2 : w1.heap[g]? = some (.cells cs t (0, 0)) := h1
 rw [hb] at h2
 cases h2
def LvAt (w : World) (B : Nat) (ks : List Int) (X : Option Addr) : Prop := ks = [] ∨ ∃ g, X = some ⟨g, 0, none⟩ ∧ g < B ∧ HB w g (ks.map (Value.int .i64)).toArray 147
theorem LvAt.below {w w' : World} {B : Nat} {ks : List Int} {X : Option Addr} (h : LvAt w B ks X) (hb : Below B w w') : LvAt w' B ks X := h.imp id fun ⟨g, e1, e2, e3⟩ => ⟨g, e1, e2, (hb.block _ e2).trans e3⟩
def Tbl (w : World) (B mb : Nat) : Prop := ∃ (f : ByteArray → Option Value) (n : Nat), mb < B ∧ MapR w mb n f ∧ (∀ k, ruleE k = none → f ⟨k.toArray⟩ = none) ∧
 ∀ k r, ruleE k = some r → ∃ (X : Option Addr) (c : Nat), f ⟨k.toArray⟩ = some (.agg #[.int .i64 r.1, .slice X r.2.1.length c, .bool r.2.2]) ∧ LvAt w B r.2.1 X
theorem Tbl.below {w w' : World} {B mb : Nat} (h : Tbl w B mb) (hb : Below B w w') : Tbl w' B mb := by
 obtain ⟨f, n, h1, h2, h3, h4⟩ := h
 refine ⟨f, n, h1, h2.heap (hb.block _ h1), h3, fun k r hr => ?_⟩
 obtain ⟨X, c, e, hl⟩ := h4 k r hr
 exact ⟨X, c, e, hl.below hb⟩
theorem mput_none {f : ByteArray → Option Value} {k x : ByteArray} {s : Value} (h : x ≠ k) (hf : f x = none) : mput f k s x = none := by rw [mput_other f _ h, hf]
theorem key_ne {k l : List UInt8} (h : k ≠ l) : (⟨k.toArray⟩ : ByteArray) ≠ ⟨l.toArray⟩ := fun e => h (by
 have := congrArg (fun x : ByteArray => x.data.toList) e
 simpa using this)
theorem etable_any (w : World) :
  Calls Tryz.prog 134 #[] w fun e w' => ∃ mb, e = .returned (.map (some mb)) ∧ Tbl w' w'.heap.size mb ∧ Below w.heap.size w w' := by
 go_enter Tryz.func134, Tryz.ntmps134
 have hmm := @run_makeMap Tryz.prog
 go_upto_region 5 with fail
 obtain ⟨W5, hW5⟩ : ∃ W5, (((((w.alloc (.cells #[.int .i64 4, .int .i64 4] 147)).alloc (.cells #[.int .i64 3, .slice (some ⟨w.heap.size, 0, none⟩) 2 2, .bool false] 150)).alloc (.cells #[.int .i64 4, .int .i64 5] 147)).alloc (.cells #[.int .i64 4, .slice (some ⟨w.heap.size + 1 + 1, 0, none⟩) 2 2, .bool false] 150)).alloc (.cells #[.int .i64 7, .slice none 0 0, .bool true] 150)).alloc (.cells #[.int .i64 7, .slice none 0 0, .bool false] 150) = W5 := ⟨_, rfl⟩
 have B5 := hid (show Below w.heap.size w W5 by rw [← hW5]; exact (((((((Below.refl _ _)).alloc (by (try simp only [World.size_alloc]); omega) _).alloc (by (try simp only [World.size_alloc]); omega) _).alloc (by (try simp only [World.size_alloc]); omega) _).alloc (by (try simp only [World.size_alloc]); omega) _).alloc (by (try simp only [World.size_alloc]); omega) _).alloc (by (try simp only [World.size_alloc]); omega) _)
 have Ha := hid (show HB W5 w.heap.size #[.int .i64 4, .int .i64 4] 147 by
  have h := HB.fresh w #[.int .i64 4, .int .i64 4] 147
  rw [← hW5]
  exact ((((h.alloc _).alloc _).alloc _).alloc _).alloc _)
 have Hb := hid (show HB W5 (w.heap.size + 1) #[.int .i64 3, .slice (some ⟨w.heap.size, 0, none⟩) 2 2, .bool false] 150 by
  have h := HB.fresh (w.alloc (.cells #[.int .i64 4, .int .i64 4] 147)) #[.int .i64 3, .slice (some ⟨w.heap.size, 0, none⟩) 2 2, .bool false] 150
  rw [show (w.alloc (.cells #[.int .i64 4, .int .i64 4] 147)).heap.size = w.heap.size + 1 by simp] at h
  rw [← hW5]
  exact (((h.alloc _).alloc _).alloc _).alloc _)
 have Hc := hid (show HB W5 (w.heap.size + 1 + 1) #[.int .i64 4, .int .i64 5] 147 by
  have h := HB.fresh ((w.alloc (.cells #[.int .i64 4, .int .i64 4] 147)).alloc (.cells #[.int .i64 3, .slice (some ⟨w.heap.size, 0, none⟩) 2 2, .bool false] 150)) #[.int .i64 4, .int .i64 5] 147
  rw [show ((w.alloc (.cells #[.int .i64 4, .int .i64 4] 147)).alloc (.cells #[.int .i64 3, .slice (some ⟨w.heap.size, 0, none⟩) 2 2, .bool false] 150)).heap.size = w.heap.size + 1 + 1 by simp] at h
  rw [← hW5]
  exact ((h.alloc _).alloc _).alloc _)
 have Hd := hid (show HB W5 (w.heap.size + 1 + 1 + 1) #[.int .i64 4, .slice (some ⟨w.heap.size + 1 + 1, 0, none⟩) 2 2, .bool false] 150 by
  have h := HB.fresh (((w.alloc (.cells #[.int .i64 4, .int .i64 4] 147)).alloc (.cells #[.int .i64 3, .slice (some ⟨w.heap.size, 0, none⟩) 2 2, .bool false] 150)).alloc (.cells #[.int .i64 4, .int .i64 5] 147)) #[.int .i64 4, .slice (some ⟨w.heap.size + 1 + 1, 0, none⟩) 2 2, .bool false] 150
  rw [show (((w.alloc (.cells #[.int .i64 4, .int .i64 4] 147)).alloc (.cells #[.int .i64 3, .slice (some ⟨w.heap.size, 0, none⟩) 2 2, .bool false] 150)).alloc (.cells #[.int .i64 4, .int .i64 5] 147)).heap.size = w.heap.size + 1 + 1 + 1 by simp] at h
  rw [← hW5]
  exact (h.alloc _).alloc _)
 have He := hid (show HB W5 (w.heap.size + 1 + 1 + 1 + 1) #[.int .i64 7, .slice none 0 0, .bool true] 150 by
  have h := HB.fresh ((((w.alloc (.cells #[.int .i64 4, .int .i64 4] 147)).alloc (.cells #[.int .i64 3, .slice (some ⟨w.heap.size, 0, none⟩) 2 2, .bool false] 150)).alloc (.cells #[.int .i64 4, .int .i64 5] 147)).alloc (.cells #[.int .i64 4, .slice (some ⟨w.heap.size + 1 + 1, 0, none⟩) 2 2, .bool false] 150)) #[.int .i64 7, .slice none 0 0, .bool true] 150
  rw [show ((((w.alloc (.cells #[.int .i64 4, .int .i64 4] 147)).alloc (.cells #[.int .i64 3, .slice (some ⟨w.heap.size, 0, none⟩) 2 2, .bool false] 150)).alloc (.cells #[.int .i64 4, .int .i64 5] 147)).alloc (.cells #[.int .i64 4, .slice (some ⟨w.heap.size + 1 + 1, 0, none⟩) 2 2, .bool false] 150)).heap.size = w.heap.size + 1 + 1 + 1 + 1 by simp] at h
  rw [← hW5]
  exact h.alloc _)
 have Hg := hid (show HB W5 (w.heap.size + 1 + 1 + 1 + 1 + 1) #[.int .i64 7, .slice none 0 0, .bool false] 150 by
  have h := HB.fresh (((((w.alloc (.cells #[.int .i64 4, .int .i64 4] 147)).alloc (.cells #[.int .i64 3, .slice (some ⟨w.heap.size, 0, none⟩) 2 2, .bool false] 150)).alloc (.cells #[.int .i64 4, .int .i64 5] 147)).alloc (.cells #[.int .i64 4, .slice (some ⟨w.heap.size + 1 + 1, 0, none⟩) 2 2, .bool false] 150)).alloc (.cells #[.int .i64 7, .slice none 0 0, .bool true] 150)) #[.int .i64 7, .slice none 0 0, .bool false] 150
  rw [show (((((w.alloc (.cells #[.int .i64 4, .int .i64 4] 147)).alloc (.cells #[.int .i64 3, .slice (some ⟨w.heap.size, 0, none⟩) 2 2, .bool false] 150)).alloc (.cells #[.int .i64 4, .int .i64 5] 147)).alloc (.cells #[.int .i64 4, .slice (some ⟨w.heap.size + 1 + 1, 0, none⟩) 2 2, .bool false] 150)).alloc (.cells #[.int .i64 7, .slice none 0 0, .bool true] 150)).heap.size = w.heap.size + 1 + 1 + 1 + 1 + 1 by simp] at h
  rw [← hW5]
  exact h)
 rw [hW5]
 clear hW5
 have M0 := mapR_made W5
 have C0 := (CK.refl W5).alloc (.map #[] 0)
 have L0 := hid (B5.out.alloc B5.out.size (.map #[] 0))
 have N0 := (HB.fresh (W5.alloc (.map #[] 0)) #[.int .i64 0, .int .i64 1] 147)
 have MA0 := hid (M0.alloc (.cells #[.int .i64 0, .int .i64 1] 147))
 have CA0 := C0.alloc (.cells #[.int .i64 0, .int .i64 1] 147)
 have LA0 := hid (L0.out.alloc L0.out.size (.cells #[.int .i64 0, .int .i64 1] 147))
 go_wp2_with (refine wpList_ins _ rfl _ _ _ rfl W5.heap.size 0 _ rfl MA0.out (by decide) ⟨#[111, 114]⟩ rfl (by decide) _ rfl ?_)
 intro w0 M1 g0 s0
 have C1 := CA0.grown MA0.out g0
 have L1 := hid (LA0.out.grown g0 LA0.out.size (fun k hk => by cases hk; exact B5.out.size))
 have Q0 := (CK.grown ((CK.refl _)) MA0.out g0) _ _ _ N0
 clear N0
 clear MA0 CA0 LA0 M0 C0 g0
 have N1 := (HB.fresh w0 #[.int .i64 1, .int .i64 2] 147)
 have MA1 := hid (M1.alloc (.cells #[.int .i64 1, .int .i64 2] 147))
 have CA1 := C1.alloc (.cells #[.int .i64 1, .int .i64 2] 147)
 have LA1 := hid (L1.out.alloc L1.out.size (.cells #[.int .i64 1, .int .i64 2] 147))
 go_wp2_with (refine wpList_ins _ rfl _ _ _ rfl W5.heap.size 1 _ rfl MA1.out (by decide) ⟨#[97, 110, 100]⟩ rfl (by decide) _ rfl ?_)
 intro w1 M2 g1 s1
 have C2 := CA1.grown MA1.out g1
 have L2 := hid (LA1.out.grown g1 LA1.out.size (fun k hk => by cases hk; exact B5.out.size))
 have Q1 := (CK.grown ((CK.refl _)) MA1.out g1) _ _ _ N1
 clear N1
 have Q0 := ((CK.refl _).alloc _).grown MA1.out g1 _ _ _ Q0
 clear MA1 CA1 LA1 M1 C1 g1
 have N2 := (HB.fresh w1 #[.int .i64 2] 147)
 have MA2 := hid (M2.alloc (.cells #[.int .i64 2] 147))
 have CA2 := C2.alloc (.cells #[.int .i64 2] 147)
 have LA2 := hid (L2.out.alloc L2.out.size (.cells #[.int .i64 2] 147))
 go_wp2_with (refine wpList_ins _ rfl _ _ _ rfl W5.heap.size 2 _ rfl MA2.out (by decide) ⟨#[110, 111, 116]⟩ rfl (by decide) _ rfl ?_)
 intro w2 M3 g2 s2
 have C3 := CA2.grown MA2.out g2
 have L3 := hid (LA2.out.grown g2 LA2.out.size (fun k hk => by cases hk; exact B5.out.size))
 have Q2 := (CK.grown ((CK.refl _)) MA2.out g2) _ _ _ N2
 clear N2
 have Q0 := ((CK.refl _).alloc _).grown MA2.out g2 _ _ _ Q0
 have Q1 := ((CK.refl _).alloc _).grown MA2.out g2 _ _ _ Q1
 clear MA2 CA2 LA2 M2 C2 g2
 have MA3 := hid M3
 have CA3 := C3
 have LA3 := L3
 have HV3 := C3 _ _ _ Hb.out
 have v3_0 : w2.cell? ⟨w.heap.size + 1, 0, none⟩ = some (.int .i64 3) := HV3.cell 0
 have v3_1 : w2.cell? ⟨w.heap.size + 1, 1, none⟩ = some (.slice (some ⟨w.heap.size, 0, none⟩) 2 2) := HV3.cell 1
 have v3_2 : w2.cell? ⟨w.heap.size + 1, 2, none⟩ = some (.bool false) := HV3.cell 2
 go_wp2_with (refine wpList_ins _ rfl _ _ _ rfl W5.heap.size 3 _ rfl MA3.out (by decide) ⟨#[61]⟩ rfl (by decide) _ rfl ?_)
 intro w3 M4 g3 s3
 have C4 := CA3.grown MA3.out g3
 have L4 := hid (LA3.out.grown g3 LA3.out.size (fun k hk => by cases hk; exact B5.out.size))
 clear HV3 v3_0 v3_1 v3_2
 have Q0 := (CK.refl _).grown MA3.out g3 _ _ _ Q0
 have Q1 := (CK.refl _).grown MA3.out g3 _ _ _ Q1
 have Q2 := (CK.refl _).grown MA3.out g3 _ _ _ Q2
 clear MA3 CA3 LA3 M3 C3 g3
 have MA4 := hid M4
 have CA4 := C4
 have LA4 := L4
 have HV4 := C4 _ _ _ Hb.out
 have v4_0 : w3.cell? ⟨w.heap.size + 1, 0, none⟩ = some (.int .i64 3) := HV4.cell 0
 have v4_1 : w3.cell? ⟨w.heap.size + 1, 1, none⟩ = some (.slice (some ⟨w.heap.size, 0, none⟩) 2 2) := HV4.cell 1
 have v4_2 : w3.cell? ⟨w.heap.size + 1, 2, none⟩ = some (.bool false) := HV4.cell 2
 go_wp2_with (refine wpList_ins _ rfl _ _ _ rfl W5.heap.size 4 _ rfl MA4.out (by decide) ⟨#[60, 62]⟩ rfl (by decide) _ rfl ?_)
 intro w4 M5 g4 s4
 have C5 := CA4.grown MA4.out g4
 have L5 := hid (LA4.out.grown g4 LA4.out.size (fun k hk => by cases hk; exact B5.out.size))
 clear HV4 v4_0 v4_1 v4_2
 have Q0 := (CK.refl _).grown MA4.out g4 _ _ _ Q0
 have Q1 := (CK.refl _).grown MA4.out g4 _ _ _ Q1
 have Q2 := (CK.refl _).grown MA4.out g4 _ _ _ Q2
 clear MA4 CA4 LA4 M4 C4 g4
 have MA5 := hid M5
 have CA5 := C5
 have LA5 := L5
 have HV5 := C5 _ _ _ Hb.out
 have v5_0 : w4.cell? ⟨w.heap.size + 1, 0, none⟩ = some (.int .i64 3) := HV5.cell 0
 have v5_1 : w4.cell? ⟨w.heap.size + 1, 1, none⟩ = some (.slice (some ⟨w.heap.size, 0, none⟩) 2 2) := HV5.cell 1
 have v5_2 : w4.cell? ⟨w.heap.size + 1, 2, none⟩ = some (.bool false) := HV5.cell 2
 go_wp2_with (refine wpList_ins _ rfl _ _ _ rfl W5.heap.size 5 _ rfl MA5.out (by decide) ⟨#[60]⟩ rfl (by decide) _ rfl ?_)
 intro w5 M6 g5 s5
 have C6 := CA5.grown MA5.out g5
 have L6 := hid (LA5.out.grown g5 LA5.out.size (fun k hk => by cases hk; exact B5.out.size))
 clear HV5 v5_0 v5_1 v5_2
 have Q0 := (CK.refl _).grown MA5.out g5 _ _ _ Q0
 have Q1 := (CK.refl _).grown MA5.out g5 _ _ _ Q1
 have Q2 := (CK.refl _).grown MA5.out g5 _ _ _ Q2
 clear MA5 CA5 LA5 M5 C5 g5
 have MA6 := hid M6
 have CA6 := C6
 have LA6 := L6
 have HV6 := C6 _ _ _ Hb.out
 have v6_0 : w5.cell? ⟨w.heap.size + 1, 0, none⟩ = some (.int .i64 3) := HV6.cell 0
 have v6_1 : w5.cell? ⟨w.heap.size + 1, 1, none⟩ = some (.slice (some ⟨w.heap.size, 0, none⟩) 2 2) := HV6.cell 1
 have v6_2 : w5.cell? ⟨w.heap.size + 1, 2, none⟩ = some (.bool false) := HV6.cell 2
 go_wp2_with (refine wpList_ins _ rfl _ _ _ rfl W5.heap.size 6 _ rfl MA6.out (by decide) ⟨#[60, 61]⟩ rfl (by decide) _ rfl ?_)
 intro w6 M7 g6 s6
 have C7 := CA6.grown MA6.out g6
 have L7 := hid (LA6.out.grown g6 LA6.out.size (fun k hk => by cases hk; exact B5.out.size))
 clear HV6 v6_0 v6_1 v6_2
 have Q0 := (CK.refl _).grown MA6.out g6 _ _ _ Q0
 have Q1 := (CK.refl _).grown MA6.out g6 _ _ _ Q1
 have Q2 := (CK.refl _).grown MA6.out g6 _ _ _ Q2
 clear MA6 CA6 LA6 M6 C6 g6
 have MA7 := hid M7
 have CA7 := C7
 have LA7 := L7
 have HV7 := C7 _ _ _ Hb.out
 have v7_0 : w6.cell? ⟨w.heap.size + 1, 0, none⟩ = some (.int .i64 3) := HV7.cell 0
 have v7_1 : w6.cell? ⟨w.heap.size + 1, 1, none⟩ = some (.slice (some ⟨w.heap.size, 0, none⟩) 2 2) := HV7.cell 1
 have v7_2 : w6.cell? ⟨w.heap.size + 1, 2, none⟩ = some (.bool false) := HV7.cell 2
 go_wp2_with (refine wpList_ins _ rfl _ _ _ rfl W5.heap.size 7 _ rfl MA7.out (by decide) ⟨#[62]⟩ rfl (by decide) _ rfl ?_)
 intro w7 M8 g7 s7
 have C8 := CA7.grown MA7.out g7
 have L8 := hid (LA7.out.grown g7 LA7.out.size (fun k hk => by cases hk; exact B5.out.size))
 clear HV7 v7_0 v7_1 v7_2
 have Q0 := (CK.refl _).grown MA7.out g7 _ _ _ Q0
 have Q1 := (CK.refl _).grown MA7.out g7 _ _ _ Q1
 have Q2 := (CK.refl _).grown MA7.out g7 _ _ _ Q2
 clear MA7 CA7 LA7 M7 C7 g7
 have MA8 := hid M8
 have CA8 := C8
 have LA8 := L8
 have HV8 := C8 _ _ _ Hb.out
 have v8_0 : w7.cell? ⟨w.heap.size + 1, 0, none⟩ = some (.int .i64 3) := HV8.cell 0
 have v8_1 : w7.cell? ⟨w.heap.size + 1, 1, none⟩ = some (.slice (some ⟨w.heap.size, 0, none⟩) 2 2) := HV8.cell 1
 have v8_2 : w7.cell? ⟨w.heap.size + 1, 2, none⟩ = some (.bool false) := HV8.cell 2
 go_wp2_with (refine wpList_ins _ rfl _ _ _ rfl W5.heap.size 8 _ rfl MA8.out (by decide) ⟨#[62, 61]⟩ rfl (by decide) _ rfl ?_)
 intro w8 M9 g8 s8
 have C9 := CA8.grown MA8.out g8
 have L9 := hid (LA8.out.grown g8 LA8.out.size (fun k hk => by cases hk; exact B5.out.size))
 clear HV8 v8_0 v8_1 v8_2
 have Q0 := (CK.refl _).grown MA8.out g8 _ _ _ Q0
 have Q1 := (CK.refl _).grown MA8.out g8 _ _ _ Q1
 have Q2 := (CK.refl _).grown MA8.out g8 _ _ _ Q2
 clear MA8 CA8 LA8 M8 C8 g8
 have N9 := (HB.fresh w8 #[.int .i64 4] 147)
 have MA9 := hid (M9.alloc (.cells #[.int .i64 4] 147))
 have CA9 := C9.alloc (.cells #[.int .i64 4] 147)
 have LA9 := hid (L9.out.alloc L9.out.size (.cells #[.int .i64 4] 147))
 go_wp2_with (refine wpList_ins _ rfl _ _ _ rfl W5.heap.size 9 _ rfl MA9.out (by decide) ⟨#[105, 115, 32, 110, 117, 108, 108]⟩ rfl (by decide) _ rfl ?_)
 intro w9 M10 g9 s9
 have C10 := CA9.grown MA9.out g9
 have L10 := hid (LA9.out.grown g9 LA9.out.size (fun k hk => by cases hk; exact B5.out.size))
 have Q9 := (CK.grown ((CK.refl _)) MA9.out g9) _ _ _ N9
 clear N9
 have Q0 := ((CK.refl _).alloc _).grown MA9.out g9 _ _ _ Q0
 have Q1 := ((CK.refl _).alloc _).grown MA9.out g9 _ _ _ Q1
 have Q2 := ((CK.refl _).alloc _).grown MA9.out g9 _ _ _ Q2
 clear MA9 CA9 LA9 M9 C9 g9
 have MA10 := hid M10
 have CA10 := C10
 have LA10 := L10
 have HV10 := C10 _ _ _ Hd.out
 have v10_0 : w9.cell? ⟨w.heap.size + 1 + 1 + 1, 0, none⟩ = some (.int .i64 4) := HV10.cell 0
 have v10_1 : w9.cell? ⟨w.heap.size + 1 + 1 + 1, 1, none⟩ = some (.slice (some ⟨w.heap.size + 1 + 1, 0, none⟩) 2 2) := HV10.cell 1
 have v10_2 : w9.cell? ⟨w.heap.size + 1 + 1 + 1, 2, none⟩ = some (.bool false) := HV10.cell 2
 go_wp2_with (refine wpList_ins _ rfl _ _ _ rfl W5.heap.size 10 _ rfl MA10.out (by decide) ⟨#[43]⟩ rfl (by decide) _ rfl ?_)
 intro w10 M11 g10 s10
 have C11 := CA10.grown MA10.out g10
 have L11 := hid (LA10.out.grown g10 LA10.out.size (fun k hk => by cases hk; exact B5.out.size))
 clear HV10 v10_0 v10_1 v10_2
 have Q0 := (CK.refl _).grown MA10.out g10 _ _ _ Q0
 have Q1 := (CK.refl _).grown MA10.out g10 _ _ _ Q1
 have Q2 := (CK.refl _).grown MA10.out g10 _ _ _ Q2
 have Q9 := (CK.refl _).grown MA10.out g10 _ _ _ Q9
 clear MA10 CA10 LA10 M10 C10 g10
 have MA11 := hid M11
 have CA11 := C11
 have LA11 := L11
 have HV11 := C11 _ _ _ Hd.out
 have v11_0 : w10.cell? ⟨w.heap.size + 1 + 1 + 1, 0, none⟩ = some (.int .i64 4) := HV11.cell 0
 have v11_1 : w10.cell? ⟨w.heap.size + 1 + 1 + 1, 1, none⟩ = some (.slice (some ⟨w.heap.size + 1 + 1, 0, none⟩) 2 2) := HV11.cell 1
 have v11_2 : w10.cell? ⟨w.heap.size + 1 + 1 + 1, 2, none⟩ = some (.bool false) := HV11.cell 2
 go_wp2_with (refine wpList_ins _ rfl _ _ _ rfl W5.heap.size 11 _ rfl MA11.out (by decide) ⟨#[45]⟩ rfl (by decide) _ rfl ?_)
 intro w11 M12 g11 s11
 have C12 := CA11.grown MA11.out g11
 have L12 := hid (LA11.out.grown g11 LA11.out.size (fun k hk => by cases hk; exact B5.out.size))
 clear HV11 v11_0 v11_1 v11_2
 have Q0 := (CK.refl _).grown MA11.out g11 _ _ _ Q0
 have Q1 := (CK.refl _).grown MA11.out g11 _ _ _ Q1
 have Q2 := (CK.refl _).grown MA11.out g11 _ _ _ Q2
 have Q9 := (CK.refl _).grown MA11.out g11 _ _ _ Q9
 clear MA11 CA11 LA11 M11 C11 g11
 have N12 := (HB.fresh w11 #[.int .i64 5, .int .i64 6] 147)
 have MA12 := hid (M12.alloc (.cells #[.int .i64 5, .int .i64 6] 147))
 have CA12 := C12.alloc (.cells #[.int .i64 5, .int .i64 6] 147)
 have LA12 := hid (L12.out.alloc L12.out.size (.cells #[.int .i64 5, .int .i64 6] 147))
 go_wp2_with (refine wpList_ins _ rfl _ _ _ rfl W5.heap.size 12 _ rfl MA12.out (by decide) ⟨#[42]⟩ rfl (by decide) _ rfl ?_)
 intro w12 M13 g12 s12
 have C13 := CA12.grown MA12.out g12
 have L13 := hid (LA12.out.grown g12 LA12.out.size (fun k hk => by cases hk; exact B5.out.size))
 have Q12 := (CK.grown ((CK.refl _)) MA12.out g12) _ _ _ N12
 clear N12
 have Q0 := ((CK.refl _).alloc _).grown MA12.out g12 _ _ _ Q0
 have Q1 := ((CK.refl _).alloc _).grown MA12.out g12 _ _ _ Q1
 have Q2 := ((CK.refl _).alloc _).grown MA12.out g12 _ _ _ Q2
 have Q9 := ((CK.refl _).alloc _).grown MA12.out g12 _ _ _ Q9
 clear MA12 CA12 LA12 M12 C12 g12
 have N13 := (HB.fresh w12 #[.int .i64 7] 147)
 have MA13 := hid (M13.alloc (.cells #[.int .i64 7] 147))
 have CA13 := C13.alloc (.cells #[.int .i64 7] 147)
 have LA13 := hid (L13.out.alloc L13.out.size (.cells #[.int .i64 7] 147))
 go_wp2_with (refine wpList_ins _ rfl _ _ _ rfl W5.heap.size 13 _ rfl MA13.out (by decide) ⟨#[110, 101, 103]⟩ rfl (by decide) _ rfl ?_)
 intro w13 M14 g13 s13
 have C14 := CA13.grown MA13.out g13
 have L14 := hid (LA13.out.grown g13 LA13.out.size (fun k hk => by cases hk; exact B5.out.size))
 have Q13 := (CK.grown ((CK.refl _)) MA13.out g13) _ _ _ N13
 clear N13
 have Q0 := ((CK.refl _).alloc _).grown MA13.out g13 _ _ _ Q0
 have Q1 := ((CK.refl _).alloc _).grown MA13.out g13 _ _ _ Q1
 have Q2 := ((CK.refl _).alloc _).grown MA13.out g13 _ _ _ Q2
 have Q9 := ((CK.refl _).alloc _).grown MA13.out g13 _ _ _ Q9
 have Q12 := ((CK.refl _).alloc _).grown MA13.out g13 _ _ _ Q12
 clear MA13 CA13 LA13 M13 C13 g13
 have MA14 := hid M14
 have CA14 := C14
 have LA14 := L14
 have HV14 := C14 _ _ _ He.out
 have v14_0 : w13.cell? ⟨w.heap.size + 1 + 1 + 1 + 1, 0, none⟩ = some (.int .i64 7) := HV14.cell 0
 have v14_1 : w13.cell? ⟨w.heap.size + 1 + 1 + 1 + 1, 1, none⟩ = some (.slice none 0 0) := HV14.cell 1
 have v14_2 : w13.cell? ⟨w.heap.size + 1 + 1 + 1 + 1, 2, none⟩ = some (.bool true) := HV14.cell 2
 go_wp2_with (refine wpList_ins _ rfl _ _ _ rfl W5.heap.size 14 _ rfl MA14.out (by decide) ⟨#[110, 117, 109]⟩ rfl (by decide) _ rfl ?_)
 intro w14 M15 g14 s14
 have C15 := CA14.grown MA14.out g14
 have L15 := hid (LA14.out.grown g14 LA14.out.size (fun k hk => by cases hk; exact B5.out.size))
 clear HV14 v14_0 v14_1 v14_2
 have Q0 := (CK.refl _).grown MA14.out g14 _ _ _ Q0
 have Q1 := (CK.refl _).grown MA14.out g14 _ _ _ Q1
 have Q2 := (CK.refl _).grown MA14.out g14 _ _ _ Q2
 have Q9 := (CK.refl _).grown MA14.out g14 _ _ _ Q9
 have Q12 := (CK.refl _).grown MA14.out g14 _ _ _ Q12
 have Q13 := (CK.refl _).grown MA14.out g14 _ _ _ Q13
 clear MA14 CA14 LA14 M14 C14 g14
 have MA15 := hid M15
 have CA15 := C15
 have LA15 := L15
 have HV15 := C15 _ _ _ He.out
 have v15_0 : w14.cell? ⟨w.heap.size + 1 + 1 + 1 + 1, 0, none⟩ = some (.int .i64 7) := HV15.cell 0
 have v15_1 : w14.cell? ⟨w.heap.size + 1 + 1 + 1 + 1, 1, none⟩ = some (.slice none 0 0) := HV15.cell 1
 have v15_2 : w14.cell? ⟨w.heap.size + 1 + 1 + 1 + 1, 2, none⟩ = some (.bool true) := HV15.cell 2
 go_wp2_with (refine wpList_ins _ rfl _ _ _ rfl W5.heap.size 15 _ rfl MA15.out (by decide) ⟨#[116, 101, 120, 116]⟩ rfl (by decide) _ rfl ?_)
 intro w15 M16 g15 s15
 have C16 := CA15.grown MA15.out g15
 have L16 := hid (LA15.out.grown g15 LA15.out.size (fun k hk => by cases hk; exact B5.out.size))
 clear HV15 v15_0 v15_1 v15_2
 have Q0 := (CK.refl _).grown MA15.out g15 _ _ _ Q0
 have Q1 := (CK.refl _).grown MA15.out g15 _ _ _ Q1
 have Q2 := (CK.refl _).grown MA15.out g15 _ _ _ Q2
 have Q9 := (CK.refl _).grown MA15.out g15 _ _ _ Q9
 have Q12 := (CK.refl _).grown MA15.out g15 _ _ _ Q12
 have Q13 := (CK.refl _).grown MA15.out g15 _ _ _ Q13
 clear MA15 CA15 LA15 M15 C15 g15
 have MA16 := hid M16
 have CA16 := C16
 have LA16 := L16
 have HV16 := C16 _ _ _ He.out
 have v16_0 : w15.cell? ⟨w.heap.size + 1 + 1 + 1 + 1, 0, none⟩ = some (.int .i64 7) := HV16.cell 0
 have v16_1 : w15.cell? ⟨w.heap.size + 1 + 1 + 1 + 1, 1, none⟩ = some (.slice none 0 0) := HV16.cell 1
 have v16_2 : w15.cell? ⟨w.heap.size + 1 + 1 + 1 + 1, 2, none⟩ = some (.bool true) := HV16.cell 2
 go_wp2_with (refine wpList_ins _ rfl _ _ _ rfl W5.heap.size 16 _ rfl MA16.out (by decide) ⟨#[99, 111, 108]⟩ rfl (by decide) _ rfl ?_)
 intro w16 M17 g16 s16
 have C17 := CA16.grown MA16.out g16
 have L17 := hid (LA16.out.grown g16 LA16.out.size (fun k hk => by cases hk; exact B5.out.size))
 clear HV16 v16_0 v16_1 v16_2
 have Q0 := (CK.refl _).grown MA16.out g16 _ _ _ Q0
 have Q1 := (CK.refl _).grown MA16.out g16 _ _ _ Q1
 have Q2 := (CK.refl _).grown MA16.out g16 _ _ _ Q2
 have Q9 := (CK.refl _).grown MA16.out g16 _ _ _ Q9
 have Q12 := (CK.refl _).grown MA16.out g16 _ _ _ Q12
 have Q13 := (CK.refl _).grown MA16.out g16 _ _ _ Q13
 clear MA16 CA16 LA16 M16 C16 g16
 have MA17 := hid M17
 have CA17 := C17
 have LA17 := L17
 have HV17 := C17 _ _ _ Hg.out
 have v17_0 : w16.cell? ⟨w.heap.size + 1 + 1 + 1 + 1 + 1, 0, none⟩ = some (.int .i64 7) := HV17.cell 0
 have v17_1 : w16.cell? ⟨w.heap.size + 1 + 1 + 1 + 1 + 1, 1, none⟩ = some (.slice none 0 0) := HV17.cell 1
 have v17_2 : w16.cell? ⟨w.heap.size + 1 + 1 + 1 + 1 + 1, 2, none⟩ = some (.bool false) := HV17.cell 2
 go_wp2_with (refine wpList_ins _ rfl _ _ _ rfl W5.heap.size 17 _ rfl MA17.out (by decide) ⟨#[116, 114, 117, 101]⟩ rfl (by decide) _ rfl ?_)
 intro w17 M18 g17 s17
 have C18 := CA17.grown MA17.out g17
 have L18 := hid (LA17.out.grown g17 LA17.out.size (fun k hk => by cases hk; exact B5.out.size))
 clear HV17 v17_0 v17_1 v17_2
 have Q0 := (CK.refl _).grown MA17.out g17 _ _ _ Q0
 have Q1 := (CK.refl _).grown MA17.out g17 _ _ _ Q1
 have Q2 := (CK.refl _).grown MA17.out g17 _ _ _ Q2
 have Q9 := (CK.refl _).grown MA17.out g17 _ _ _ Q9
 have Q12 := (CK.refl _).grown MA17.out g17 _ _ _ Q12
 have Q13 := (CK.refl _).grown MA17.out g17 _ _ _ Q13
 clear MA17 CA17 LA17 M17 C17 g17
 have MA18 := hid M18
 have CA18 := C18
 have LA18 := L18
 have HV18 := C18 _ _ _ Hg.out
 have v18_0 : w17.cell? ⟨w.heap.size + 1 + 1 + 1 + 1 + 1, 0, none⟩ = some (.int .i64 7) := HV18.cell 0
 have v18_1 : w17.cell? ⟨w.heap.size + 1 + 1 + 1 + 1 + 1, 1, none⟩ = some (.slice none 0 0) := HV18.cell 1
 have v18_2 : w17.cell? ⟨w.heap.size + 1 + 1 + 1 + 1 + 1, 2, none⟩ = some (.bool false) := HV18.cell 2
 go_wp2_with (refine wpList_ins _ rfl _ _ _ rfl W5.heap.size 18 _ rfl MA18.out (by decide) ⟨#[102, 97, 108, 115, 101]⟩ rfl (by decide) _ rfl ?_)
 intro w18 M19 g18 s18
 have C19 := CA18.grown MA18.out g18
 have L19 := hid (LA18.out.grown g18 LA18.out.size (fun k hk => by cases hk; exact B5.out.size))
 clear HV18 v18_0 v18_1 v18_2
 have Q0 := (CK.refl _).grown MA18.out g18 _ _ _ Q0
 have Q1 := (CK.refl _).grown MA18.out g18 _ _ _ Q1
 have Q2 := (CK.refl _).grown MA18.out g18 _ _ _ Q2
 have Q9 := (CK.refl _).grown MA18.out g18 _ _ _ Q9
 have Q12 := (CK.refl _).grown MA18.out g18 _ _ _ Q12
 have Q13 := (CK.refl _).grown MA18.out g18 _ _ _ Q13
 clear MA18 CA18 LA18 M18 C18 g18
 have MA19 := hid M19
 have CA19 := C19
 have LA19 := L19
 have HV19 := C19 _ _ _ Hg.out
 have v19_0 : w18.cell? ⟨w.heap.size + 1 + 1 + 1 + 1 + 1, 0, none⟩ = some (.int .i64 7) := HV19.cell 0
 have v19_1 : w18.cell? ⟨w.heap.size + 1 + 1 + 1 + 1 + 1, 1, none⟩ = some (.slice none 0 0) := HV19.cell 1
 have v19_2 : w18.cell? ⟨w.heap.size + 1 + 1 + 1 + 1 + 1, 2, none⟩ = some (.bool false) := HV19.cell 2
 go_wp2_with (refine wpList_ins _ rfl _ _ _ rfl W5.heap.size 19 _ rfl MA19.out (by decide) ⟨#[110, 117, 108, 108]⟩ rfl (by decide) _ rfl ?_)
 intro w19 M20 g19 s19
 have C20 := CA19.grown MA19.out g19
 have L20 := hid (LA19.out.grown g19 LA19.out.size (fun k hk => by cases hk; exact B5.out.size))
 clear HV19 v19_0 v19_1 v19_2
 have Q0 := (CK.refl _).grown MA19.out g19 _ _ _ Q0
 have Q1 := (CK.refl _).grown MA19.out g19 _ _ _ Q1
 have Q2 := (CK.refl _).grown MA19.out g19 _ _ _ Q2
 have Q9 := (CK.refl _).grown MA19.out g19 _ _ _ Q9
 have Q12 := (CK.refl _).grown MA19.out g19 _ _ _ Q12
 have Q13 := (CK.refl _).grown MA19.out g19 _ _ _ Q13
 clear MA19 CA19 LA19 M19 C19 g19
 go_wp2
 go_ret
 refine ⟨_, rfl, ⟨_, _, M20.lt, M20, fun k hk => ?_, fun k r hr => ?_⟩, L20.out⟩
 ·have hn := look_none hk
  have h2 : ∀ p ∈ tblE, (⟨k.toArray⟩ : ByteArray) ≠ ⟨p.1.toArray⟩ := fun p hp => key_ne (hn p hp)
  have go : ∀ (i : Nat) (h : i < 20), (⟨k.toArray⟩ : ByteArray) ≠ ⟨(tblE[i]'h).1.toArray⟩ := fun i h => h2 _ (List.getElem_mem h)
  refine mput_none (go 19 (by decide)) ?_
  refine mput_none (go 18 (by decide)) ?_
  refine mput_none (go 17 (by decide)) ?_
  refine mput_none (go 16 (by decide)) ?_
  refine mput_none (go 15 (by decide)) ?_
  refine mput_none (go 14 (by decide)) ?_
  refine mput_none (go 13 (by decide)) ?_
  refine mput_none (go 12 (by decide)) ?_
  refine mput_none (go 11 (by decide)) ?_
  refine mput_none (go 10 (by decide)) ?_
  refine mput_none (go 9 (by decide)) ?_
  refine mput_none (go 8 (by decide)) ?_
  refine mput_none (go 7 (by decide)) ?_
  refine mput_none (go 6 (by decide)) ?_
  refine mput_none (go 5 (by decide)) ?_
  refine mput_none (go 4 (by decide)) ?_
  refine mput_none (go 3 (by decide)) ?_
  refine mput_none (go 2 (by decide)) ?_
  refine mput_none (go 1 (by decide)) ?_
  refine mput_none (go 0 (by decide)) ?_
  rfl
 ·have hm := look_mem hr
  unfold tblE at hm
  simp only [List.mem_cons, Prod.mk.injEq, List.not_mem_nil, or_false] at hm
  rcases hm with ⟨rfl, rfl⟩ | ⟨rfl, rfl⟩ | ⟨rfl, rfl⟩ | ⟨rfl, rfl⟩ | ⟨rfl, rfl⟩ | ⟨rfl, rfl⟩ | ⟨rfl, rfl⟩ | ⟨rfl, rfl⟩ | ⟨rfl, rfl⟩ | ⟨rfl, rfl⟩ | ⟨rfl, rfl⟩ | ⟨rfl, rfl⟩ | ⟨rfl, rfl⟩ | ⟨rfl, rfl⟩ | ⟨rfl, rfl⟩ | ⟨rfl, rfl⟩ | ⟨rfl, rfl⟩ | ⟨rfl, rfl⟩ | ⟨rfl, rfl⟩ | ⟨rfl, rfl⟩
  ·have hq : HB w19 (W5.heap.size + 1) #[.int .i64 0, .int .i64 1] 147 := by have h := Q0; rw [show (W5.alloc (.map #[] 0)).heap.size = W5.heap.size + 1 by simp] at h; exact h
   exact ⟨some ⟨W5.heap.size + 1, 0, none⟩, 2, by kernel_rfl, .inr ⟨_, rfl, hq.lt, hq⟩⟩
  ·have hq : HB w19 (W5.heap.size + 1 + 1) #[.int .i64 1, .int .i64 2] 147 := by have h := Q1; rw [show w0.heap.size = W5.heap.size + 1 + 1 by omega] at h; exact h
   exact ⟨some ⟨W5.heap.size + 1 + 1, 0, none⟩, 2, by kernel_rfl, .inr ⟨_, rfl, hq.lt, hq⟩⟩
  ·have hq : HB w19 (W5.heap.size + 1 + 1 + 1) #[.int .i64 2] 147 := by have h := Q2; rw [show w1.heap.size = W5.heap.size + 1 + 1 + 1 by omega] at h; exact h
   exact ⟨some ⟨W5.heap.size + 1 + 1 + 1, 0, none⟩, 1, by kernel_rfl, .inr ⟨_, rfl, hq.lt, hq⟩⟩
  ·have hq := C20 _ _ _ Ha.out
   exact ⟨some ⟨w.heap.size, 0, none⟩, 2, by kernel_rfl, .inr ⟨_, rfl, hq.lt, hq⟩⟩
  ·have hq := C20 _ _ _ Ha.out
   exact ⟨some ⟨w.heap.size, 0, none⟩, 2, by kernel_rfl, .inr ⟨_, rfl, hq.lt, hq⟩⟩
  ·have hq := C20 _ _ _ Ha.out
   exact ⟨some ⟨w.heap.size, 0, none⟩, 2, by kernel_rfl, .inr ⟨_, rfl, hq.lt, hq⟩⟩
  ·have hq := C20 _ _ _ Ha.out
   exact ⟨some ⟨w.heap.size, 0, none⟩, 2, by kernel_rfl, .inr ⟨_, rfl, hq.lt, hq⟩⟩
  ·have hq := C20 _ _ _ Ha.out
   exact ⟨some ⟨w.heap.size, 0, none⟩, 2, by kernel_rfl, .inr ⟨_, rfl, hq.lt, hq⟩⟩
  ·have hq := C20 _ _ _ Ha.out
   exact ⟨some ⟨w.heap.size, 0, none⟩, 2, by kernel_rfl, .inr ⟨_, rfl, hq.lt, hq⟩⟩
  ·have hq : HB w19 (W5.heap.size + 1 + 1 + 1 + 1) #[.int .i64 4] 147 := by have h := Q9; rw [show w8.heap.size = W5.heap.size + 1 + 1 + 1 + 1 by omega] at h; exact h
   exact ⟨some ⟨W5.heap.size + 1 + 1 + 1 + 1, 0, none⟩, 1, by kernel_rfl, .inr ⟨_, rfl, hq.lt, hq⟩⟩
  ·have hq := C20 _ _ _ Hc.out
   exact ⟨some ⟨w.heap.size + 1 + 1, 0, none⟩, 2, by kernel_rfl, .inr ⟨_, rfl, hq.lt, hq⟩⟩
  ·have hq := C20 _ _ _ Hc.out
   exact ⟨some ⟨w.heap.size + 1 + 1, 0, none⟩, 2, by kernel_rfl, .inr ⟨_, rfl, hq.lt, hq⟩⟩
  ·have hq : HB w19 (W5.heap.size + 1 + 1 + 1 + 1 + 1) #[.int .i64 5, .int .i64 6] 147 := by have h := Q12; rw [show w11.heap.size = W5.heap.size + 1 + 1 + 1 + 1 + 1 by omega] at h; exact h
   exact ⟨some ⟨W5.heap.size + 1 + 1 + 1 + 1 + 1, 0, none⟩, 2, by kernel_rfl, .inr ⟨_, rfl, hq.lt, hq⟩⟩
  ·have hq : HB w19 (W5.heap.size + 1 + 1 + 1 + 1 + 1 + 1) #[.int .i64 7] 147 := by have h := Q13; rw [show w12.heap.size = W5.heap.size + 1 + 1 + 1 + 1 + 1 + 1 by omega] at h; exact h
   exact ⟨some ⟨W5.heap.size + 1 + 1 + 1 + 1 + 1 + 1, 0, none⟩, 1, by kernel_rfl, .inr ⟨_, rfl, hq.lt, hq⟩⟩
  ·exact ⟨none, 0, by kernel_rfl, .inl rfl⟩
  ·exact ⟨none, 0, by kernel_rfl, .inl rfl⟩
  ·exact ⟨none, 0, by kernel_rfl, .inl rfl⟩
  ·exact ⟨none, 0, by kernel_rfl, .inl rfl⟩
  ·exact ⟨none, 0, by kernel_rfl, .inl rfl⟩
  ·exact ⟨none, 0, by kernel_rfl, .inl rfl⟩
def FRule (w : World) (B : Nat) (r : Option RuleR) (e : Ending) (w' : World) : Prop :=
 match r with
 | some r => ∃ Y d, e = .returned (.tuple #[.agg #[.int .i64 r.1, .slice Y r.2.1.length d, .bool r.2.2], .bool true]) ∧ LvAt w B r.2.1 Y ∧ Below w.heap.size w w'
 | none => e = .returned (.tuple #[.agg #[.int .i64 7, .slice none 0 0, .bool false], .bool false]) ∧ Below w.heap.size w w'
theorem toList_eq_nil' {s : ByteArray} (h : s.toList = []) : s = ⟨#[]⟩ := by
 rw [ByteArray.toList_eq] at h
 rw [← Lib.mk_data s, h]
theorem run_look_no (w : World) (b n : Nat) (f : ByteArray → Option Value) (h : MapR w b n f) (k : ByteArray) (hk : k.size ≤ maxLen) (hs : f k = none) :
  (Instr.lookup 139 (.map (some b)) (.string k) true).run Tryz.prog w = .ok (.tuple #[.agg #[.int .i64 0, .slice none 0 0, .bool false], .bool false]) w := by
 obtain ⟨D, h1, h2⟩ := h
 obtain ⟨v, ps, hrun, hv⟩ := h1.look_ok mk_law Tryz.underlying139 (mk_zero w) (show hR (.agg #[.int .i64 0, .slice none 0 0, .bool false]) = some (.held (.agg #[.int .i64 0, .slice none 0 0, .bool false]), []) from rfl) (mk_is hk)
 have h3 := (h2 k hk).1
 rw [hs] at h3
 have h4 : Maps.has D (mk k) = false := h3
 rw [Maps.atKey_of_not_has h4] at hv
 unfold hR at hv
 simp only [Option.some.injEq, Prod.mk.injEq, DataW.held.injEq] at hv
 rw [hrun, h4, hv.1]
theorem frule_one (b mb : Nat) (bs : List UInt8) (op tx : ByteArray) (X : Option Addr) (lv : Int) (Y : Option Addr) (M d : Nat) (tb fd : Bool) (N c n : Nat) (f : ByteArray → Option Value) (hNs : N ≤ 1000000000) (hMs : M ≤ 1000000000) (w : World) (h : Wr w b mb bs) (hM : MapR w mb n f)
  (hlk0 : ∀ w', w'.heap[mb]? = w.heap[mb]? → (Instr.lookup 139 (.map (some mb)) (.string op) true).run Tryz.prog w' = .ok (.tuple #[.agg #[.int .i64 lv, .slice Y M d, .bool tb], .bool fd]) w') :
  Calls Tryz.prog 147 #[.pointer (some ⟨b, 0, none⟩), .agg #[.string op, .string tx, .slice X N c]] w (fun e w' => e = .returned (if fd = true ∧ N = M ∧ (tx = ⟨#[]⟩ ∨ tb = true) then .tuple #[.agg #[.int .i64 lv, .slice Y M d, .bool tb], .bool true] else .tuple #[.agg #[.int .i64 7, .slice none 0 0, .bool false], .bool false]) ∧ Below w.heap.size w w') := by
 obtain ⟨R, hR⟩ : ∃ R, (if fd = true ∧ N = M ∧ (tx = ⟨#[]⟩ ∨ tb = true) then Value.tuple #[.agg #[.int .i64 lv, .slice Y M d, .bool tb], .bool true] else .tuple #[.agg #[.int .i64 7, .slice none 0 0, .bool false], .bool false]) = R := ⟨_, rfl⟩
 rw [hR]
 have HR := hid hR
 clear hR
 have hmw : mb < w.heap.size := hM.lt
 have hbw := h.lt
 have hcb : w.cell? ⟨b, 0, none⟩ = some (.map (some mb)) := by rcases h with ⟨_, h, _⟩ | ⟨_, h, _⟩ <;> exact h.cell 0
 clear h hM
 have hz : w.heap.size < w.heap.size + 1 := by omega
 go_enter Tryz.func147, Tryz.ntmps147
 go_upto_region 1 with fail
 obtain ⟨W, hW⟩ : ∃ W, (w.alloc (.cells #[.string op, .string tx, .slice X N c] 25)).alloc (.cells #[.int .i64 0, .slice none 0 0, .bool false] 150) = W := ⟨_, rfl⟩
 have L0 := hid (show Below w.heap.size w W by rw [← hW]; exact ((Below.refl _ _).alloc (Nat.le_refl _) _).alloc (by simp) _)
 have N0 := hid (show HB W w.heap.size #[.string op, .string tx, .slice X N c] 25 by rw [← hW]; exact (HB.fresh _ _ _).alloc _)
 have M0 := hid (show NBox W (w.heap.size + 1) (.int .i64 0) (.slice none 0 0) (.bool false) by
  rw [← hW, show w.heap.size + 1 = (w.alloc (.cells #[.string op, .string tx, .slice X N c] 25)).heap.size by simp]; exact NBox.fresh _ _ _ _ _)
 have hzW : W.heap.size = w.heap.size + 2 := by rw [← hW]; simp
 have HLK := hid (fun (w' : World) (e : w'.heap[mb]? = W.heap[mb]?) => hlk0 w' (e.trans (L0.out.block mb hmw)))
 have c0 : W.cell? ⟨b, 0, none⟩ = some (.map (some mb)) := (L0.out.cell (p := ⟨b, 0, none⟩) hbw).trans hcb
 have n0 : W.cell? ⟨w.heap.size, 0, none⟩ = some (.string op) := N0.out.cell 0
 rw [hW]
 clear hW hlk0 hcb
 refine wp_region_held_drew (S := fun w' => w'.cell? ⟨b, 0, none⟩ = some (.map (some mb)) ∧ w'.cell? ⟨w.heap.size, 0, none⟩ = some (.string op) ∧ w'.heap[mb]? = W.heap[mb]?) (by kernel_rfl) ⟨c0, n0, rfl⟩ (fun hHeld => ?_)
 -- region
 refine take1 (v := ?_) 0 9 rfl ?_ ?_; rotate_left; (intro w hSw; (try dsimp only at hSw); go_simp; try with_reducible rfl); (try simp only [Act.put, List.setIfInBounds_toArray, List.set_cons_zero, List.set_cons_succ])
 refine take1 (v := ?_) 1 10 rfl ?_ ?_; rotate_left; (intro w hSw; (try dsimp only at hSw); go_simp; try with_reducible rfl); (try simp only [Act.put, List.setIfInBounds_toArray, List.set_cons_zero, List.set_cons_succ])
 refine take1 (v := ?_) 2 11 rfl ?_ ?_; rotate_left; (intro w hSw; (try dsimp only at hSw); go_simp; try with_reducible rfl); (try simp only [Act.put, List.setIfInBounds_toArray, List.set_cons_zero, List.set_cons_succ])
 refine take1 (v := ?_) 3 12 rfl ?_ ?_; rotate_left; (intro w hSw; (try dsimp only at hSw); go_simp; try with_reducible rfl); (try simp only [Act.put, List.setIfInBounds_toArray, List.set_cons_zero, List.set_cons_succ])
 refine take1 (v := ?_) 4 13 rfl ?_ ?_; rotate_left; (intro w hSw; (try dsimp only at hSw); go_simp; try with_reducible rfl); (try simp only [Act.put, List.setIfInBounds_toArray, List.set_cons_zero, List.set_cons_succ])
 refine take1 (v := ?_) 5 14 rfl ?_ ?_; rotate_left; (intro w hSw; (try dsimp only at hSw); go_simp; try with_reducible rfl); (try simp only [Act.put, List.setIfInBounds_toArray, List.set_cons_zero, List.set_cons_succ])
 refine take1 (v := ?_) 6 15 rfl ?_ ?_; rotate_left; (intro w hSw; (try dsimp only at hSw); go_simp; rw [HLK.out _ hSw.2.2]; go_simp; try with_reducible rfl); (try simp only [Act.put, List.setIfInBounds_toArray, List.set_cons_zero, List.set_cons_succ])
 refine take1 (v := ?_) 7 8 rfl ?_ ?_; rotate_left; (intro w hSw; (try dsimp only at hSw); go_simp; try with_reducible rfl); (try simp only [Act.put, List.setIfInBounds_toArray, List.set_cons_zero, List.set_cons_succ])
 refine take1 (v := ?_) 8 16 rfl ?_ ?_; rotate_left; (intro w hSw; (try dsimp only at hSw); go_simp; try with_reducible rfl); (try simp only [Act.put, List.setIfInBounds_toArray, List.set_cons_zero, List.set_cons_succ])
 refine take1 (v := ?_) 9 17 rfl ?_ ?_; rotate_left; (intro w hSw; (try dsimp only at hSw); go_simp; try with_reducible rfl); (try simp only [Act.put, List.setIfInBounds_toArray, List.set_cons_zero, List.set_cons_succ])
 refine wpAnyH_ready (rs := [10]) (by kernel_rfl) (by simp) ?_
 refine AllReadyH.cons (o := ⟨some 6, _, _, _, _, _⟩) rfl (fun K hK => ?_) AllReadyH.nil
 go_simp
 refine hK.out _ _ ⟨(World.cell?_alloc_some _ _ _ (by rw [c0]; rfl)).trans c0, (World.cell?_alloc_some _ _ _ (by rw [n0]; rfl)).trans n0, (below_alloc W _).block mb (by omega)⟩ (fun hHeld2 => ?_)
 clear hK K
 (try simp only [Act.put, List.setIfInBounds_toArray, List.set_cons_zero, List.set_cons_succ])
 refine wpAnyH_ready (rs := [11]) (by kernel_rfl) (by simp) ?_
 refine AllReadyH.cons (o := ⟨none, _, _, _, _, _⟩) rfl (fun K hK => ?_) AllReadyH.nil
 go_simp
 refine hK.out _ _ ⟨(World.cell?_alloc_some _ _ _ (by rw [c0]; rfl)).trans c0, (World.cell?_alloc_some _ _ _ (by rw [n0]; rfl)).trans n0, (below_alloc W _).block mb (by omega)⟩ (fun hHeld3 => ?_)
 clear hK K
 (try simp only [Act.put, List.setIfInBounds_toArray, List.set_cons_zero, List.set_cons_succ])
 refine take1 (v := ?_) 12 7 rfl ?_ ?_; rotate_left; (intro w hSw; (try dsimp only at hSw); go_simp; try with_reducible rfl); (try simp only [Act.put, List.setIfInBounds_toArray, List.set_cons_zero, List.set_cons_succ])
 refine wpAnyH_done (by kernel_rfl) ?_ _
 clear hHeld hHeld2 hHeld3 c0 n0 HLK
 have Lx := hid (show Below W.heap.size W (W.alloc (.cells #[.int .i64 lv, .slice Y M d, .bool tb] 150)).drew from (below_alloc W _).drew)
 have V0 := hid (show NBox (W.alloc (.cells #[.int .i64 lv, .slice Y M d, .bool tb] 150)).drew (w.heap.size + 2) (.int .i64 lv) (.slice Y M d) (.bool tb) by rw [← hzW]; exact (NBox.fresh W _ _ _ _).below (Below.drew (Below.refl _ _)))
 obtain ⟨W2, hW2⟩ : ∃ W2, (W.alloc (.cells #[.int .i64 lv, .slice Y M d, .bool tb] 150)).drew = W2 := ⟨_, rfl⟩
 rw [hW2] at V0 Lx ⊢
 have N2 := hid (N0.out.below Lx.out)
 have M2 := hid (M0.out.below Lx.out)
 have L2 := hid (bnext L0.out (by omega) Lx.out)
 have n0 : W2.cell? ⟨w.heap.size, 0, none⟩ = some (.string op) := N2.out.cell 0
 have n1 : W2.cell? ⟨w.heap.size, 1, none⟩ = some (.string tx) := N2.out.cell 1
 have n2 : W2.cell? ⟨w.heap.size, 2, none⟩ = some (.slice X N c) := N2.out.cell 2
 obtain ⟨v0, v1, v2, vf⟩ := V0.out
 obtain ⟨y0, y1, y2, yf⟩ := M2.out
 have zl := V0.out.lt
 clear hW2 N0 M0 L0 Lx hzW
 have HB := hid (fun (a b c : Value) => show Below w.heap.size w (W3 W2 (w.heap.size + 1) a b c) from ((L2.out.setCell (p := ⟨w.heap.size + 1, 0, none⟩) (by simp) _).setCell (p := ⟨w.heap.size + 1, 1, none⟩) (by simp) _).setCell (p := ⟨w.heap.size + 1, 2, none⟩) (by simp) _)
 have no : (¬ (fd = true ∧ N = M ∧ (tx = ⟨#[]⟩ ∨ tb = true))) → R = .tuple #[.agg #[.int .i64 7, .slice none 0 0, .bool false], .bool false] := fun h => by rw [← HR.out, if_neg h]
 have ZN := M2.out.set (.int .i64 7) (.slice none 0 0) (.bool false)
 have ZY := M2.out.set (.int .i64 lv) (.slice Y M d) (.bool tb)
 have HNO := hid no
 clear no
 cases fd with
 | false =>
  go_wp2
  obtain rfl := HNO.out (by simp)
  exact bodyPost_ret (v := .tuple #[.agg #[.int .i64 7, .slice none 0 0, .bool false], .bool false]) (by simp [results, Tryz.results147, go_sem, ZN.c0, ZN.c1, ZN.c2]) rfl ⟨rfl, HB.out _ _ _⟩
 | true =>
  by_cases hNM : N = M
  case neg =>
   have b1 : ((N : Int) != (M : Int)) = true := by
    simp only [bne_iff_ne, ne_eq]
    omega
   have b2 : ¬ (N : Int) = (M : Int) := by omega
   obtain rfl := HNO.out (fun h => hNM h.2.1)
   clear hNM
   go_wp2
   exact bodyPost_ret (v := .tuple #[.agg #[.int .i64 7, .slice none 0 0, .bool false], .bool false]) (by simp [results, Tryz.results147, go_sem, ZN.c0, ZN.c1, ZN.c2]) rfl ⟨rfl, HB.out _ _ _⟩
  subst hNM
  by_cases hte : tx = ⟨#[]⟩
  ·subst hte
   obtain rfl : R = .tuple #[.agg #[.int .i64 lv, .slice Y N d, .bool tb], .bool true] := by rw [← HR.out, if_pos ⟨rfl, rfl, .inl rfl⟩]
   go_wp2
   exact bodyPost_ret (v := .tuple #[.agg #[.int .i64 lv, .slice Y N d, .bool tb], .bool true]) (by simp [results, Tryz.results147, go_sem, ZY.c0, ZY.c1, ZY.c2]) rfl ⟨rfl, HB.out _ _ _⟩
  ·have b2 : ¬ tx.toList = [] := fun e => hte (toList_eq_nil' e)
   have b1 : (tx.toList == []) = false := by simpa using b2
   have b3 : (tx.toList != []) = true := by simpa using b2
   cases tb with
   | false =>
    obtain rfl := HNO.out (fun h => h.2.2.elim hte (fun e => by cases e))
    clear hte b2
    go_wp2
    exact bodyPost_ret (v := .tuple #[.agg #[.int .i64 7, .slice none 0 0, .bool false], .bool false]) (by simp [results, Tryz.results147, go_sem, ZN.c0, ZN.c1, ZN.c2]) rfl ⟨rfl, HB.out _ _ _⟩
   | true =>
    obtain rfl : R = .tuple #[.agg #[.int .i64 lv, .slice Y N d, .bool true], .bool true] := by rw [← HR.out, if_pos ⟨rfl, rfl, .inr rfl⟩]
    clear hte b2
    go_wp2
    exact bodyPost_ret (v := .tuple #[.agg #[.int .i64 lv, .slice Y N d, .bool true], .bool true]) (by simp [results, Tryz.results147, go_sem, ZY.c0, ZY.c1, ZY.c2]) rfl ⟨rfl, HB.out _ _ _⟩
theorem frule_any (b mb : Nat) (bs : List UInt8) (op tx : ByteArray) (X : Option Addr) (N c : Nat) (hNs : N ≤ 1000000000) (w : World) (h : Wr w b mb bs) (ht : Tbl w b mb) (hop : op.size ≤ 9223372036854775807) :
  Calls Tryz.prog 147 #[.pointer (some ⟨b, 0, none⟩), .agg #[.string op, .string tx, .slice X N c]] w (FRule w b (rE op.data.toList tx.data.toList N)) := by
 obtain ⟨f, n, h1, h2, h3, h4⟩ := ht
 have htx : tx = ⟨#[]⟩ ↔ tx.data.toList = [] := by
  constructor
  ·rintro rfl; rfl
  ·intro e; rw [← Lib.mk_data tx, e]
 cases hr : ruleE op.data.toList with
 | none =>
  have hf := h3 _ hr
  rw [Lib.mk_data] at hf
  have e : rE op.data.toList tx.data.toList N = none := by unfold rE; rw [hr]
  rw [e]
  have h9 := frule_one b mb bs op tx X 0 none 0 0 false false N c n f hNs (by omega) w h h2 (fun w' e => run_look_no w' mb n f (h2.heap e) op (by unfold maxLen; omega) hf)
  rw [if_neg (by simp)] at h9
  exact h9
 | some r =>
  obtain ⟨Y, d, hf, hl⟩ := h4 _ _ hr
  rw [Lib.mk_data] at hf
  have hfew := (rule_few hr).1
  have h9 := frule_one b mb bs op tx X r.1 Y r.2.1.length d r.2.2 true N c n f hNs (by omega) w h h2 (fun w' e => run_look w' mb n f (h2.heap e) op (by unfold maxLen; omega) _ hf)
  have e : rE op.data.toList tx.data.toList N = if true = true ∧ N = r.2.1.length ∧ (tx = ⟨#[]⟩ ∨ r.2.2 = true) then some r else none := by
   unfold rE
   rw [hr]
   dsimp only
   by_cases hc : N = r.2.1.length ∧ (tx.data.toList = [] ∨ r.2.2 = true)
   ·rw [if_pos hc, if_pos ⟨rfl, hc.1, hc.2.imp htx.2 id⟩]
   ·rw [if_neg hc, if_neg (fun h => hc ⟨h.2.1, h.2.2.imp htx.1 id⟩)]
  rw [e]
  by_cases hc : true = true ∧ N = r.2.1.length ∧ (tx = ⟨#[]⟩ ∨ r.2.2 = true)
  ·rw [if_pos hc] at h9 ⊢
   exact h9.mono fun e w' hp => ⟨Y, d, hp.1, hl, hp.2⟩
  ·rw [if_neg hc] at h9 ⊢
   exact h9
structure HasE (b mb : Nat) (m : Int) (bs : List UInt8) (w : World) : Prop where
 wr : Wr w b mb bs
 ru : Tbl w b mb
 ev : Env b m w
theorem HasE.lt {b mb : Nat} {m : Int} {bs : List UInt8} {w : World} (h : HasE b mb m bs w) : b < w.heap.size := h.wr.lt
theorem HasE.below {b mb : Nat} {m : Int} {bs : List UInt8} {w w' : World} (h : HasE b mb m bs w) (hb : Below w.heap.size w w') : HasE b mb m bs w' :=
 ⟨h.wr.below hb, h.ru.below (hb.mono (Nat.le_of_lt h.lt)), h.ev.below (hb.mono (Nat.le_of_lt h.lt))⟩
theorem HasE.next {b mb : Nat} {m : Int} {bs bs' : List UInt8} {w w' : World} (h : HasE b mb m bs w) (hw : Wr w' b mb bs') (hk : Kp b w w') : HasE b mb m bs' w' := ⟨hw, h.ru.below hk.bl, h.ev.below hk.bl⟩
theorem RIn.kp {w w' : World} {S : Nat → Prop} {t : Nod} {x : NV} {b : Nat} (h : RIn w S t x) (hS : ∀ g, S g → g < b) (hb : Below b w w') : RIn w' S t x := h.keep (fun _ h => h) (fun p hp => hb.cell (hS _ hp))
def NdP (b mb : Nat) (bs : List UInt8) (w : World) (e : Ending) (w' : World) : Prop := e = .returned (.tuple #[]) ∧ Wr w' b mb bs ∧ Kp b w w'
def NdE (b mb : Nat) (m : Int) (t : Nod) : Prop := ∀ (S : Nat → Prop) (op tx : ByteArray) (X : Option Addr) (n k : Nat) (bs : List UInt8) (w : World), HasE b mb m bs w → (∀ g, S g → g < b) → RIn w S t (op, tx, X, n, k) → t.tot ≤ 100000 → bs.length + (showE t).length ≤ 900000 →
 Calls Tryz.prog 135 #[.pointer (some ⟨b, 0, none⟩), .agg #[.string op, .string tx, .slice X n k]] w (NdP b mb (bs ++ showE t) w)
theorem ruleN {b mb : Nat} {m : Int} {bs : List UInt8} {w : World} (h : HasE b mb m bs w) {t : Nod} (ht : t.tot ≤ 100000) {S : Nat → Prop} {op tx : ByteArray} {X : Option Addr} {n k : Nat} (hn : RIn w S t (op, tx, X, n, k)) :
  Calls Tryz.prog 147 #[.pointer (some ⟨b, 0, none⟩), .agg #[.string op, .string tx, .slice X n k]] w (FRule w b (rE t.op t.tx t.ks.length)) := by
 obtain ⟨e1, e2, e3, e4⟩ := hn.texts
 dsimp only at e1 e2 e3
 have hop : op.size ≤ 9223372036854775807 := by
  have h1 : op.size = t.op.length := by rw [e1]; exact size_list _
  have h2 : t.op.length ≤ t.tot := by cases t; simp only [Nod.tot, Nod.op]; omega
  omega
 have h1 := frule_any b mb bs op tx X n k (by omega) w h.wr h.ru hop
 rw [e1, e2, e3] at h1
 rw [e1, e2, e3]
 exact h1
theorem levelN {b mb : Nat} {m : Int} {bs : List UInt8} {w : World} (h : HasE b mb m bs w) {t : Nod} (ht : t.tot ≤ 100000) {S : Nat → Prop} {op tx : ByteArray} {X : Option Addr} {n k : Nat} (hn : RIn w S t (op, tx, X, n, k)) :
  Calls Tryz.prog 147 #[.pointer (some ⟨b, 0, none⟩), .agg #[.string op, .string tx, .slice X n k]] w (fun e w' => ∃ Y N d tb ok, e = .returned (.tuple #[.agg #[.int .i64 (lvE t), .slice Y N d, .bool tb], .bool ok]) ∧ Below w.heap.size w w') := by
 refine (ruleN h ht hn).mono fun e w' hp => ?_
 unfold FRule at hp
 unfold lvE
 cases hr : rE t.op t.tx t.ks.length with
 | none => rw [hr] at hp; exact ⟨_, _, _, _, _, hp.1, hp.2⟩
 | some r => rw [hr] at hp; obtain ⟨Y, d, he, _, hb⟩ := hp; exact ⟨_, _, _, _, _, he, hb⟩
structure ESt (b mb : Nat) (m : Int) (w0 : World) (S : Nat → Prop) (t : Nod) (op0 op tx : ByteArray) (X : Option Addr) (n k : Nat) (g0 : Nat) (bs : List UInt8) (w : World) : Prop where
 has : HasE b mb m bs w
 box : HB w g0 #[.string op0, .string tx, .slice X n k] 25
 nin : RIn w S t (op, tx, X, n, k)
 kp : Kp b w0 w
theorem ESt.next {b mb : Nat} {m : Int} {w0 : World} {S : Nat → Prop} {t : Nod} {op0 op tx : ByteArray} {X : Option Addr} {n k : Nat} {g0 : Nat} {bs bs' : List UInt8} {w w' : World}
  (h : ESt b mb m w0 S t op0 op tx X n k g0 bs w) (hS : ∀ g, S g → g < b) (h0 : b < g0) (hw : Wr w' b mb bs') (hk : Kp b w w') : ESt b mb m w0 S t op0 op tx X n k g0 bs' w' :=
 ⟨h.has.next hw hk, h.box.kp hk (by omega) (by decide), h.nin.kp hS hk.bl, h.kp.trans hk⟩
theorem ekidE_any {b mb : Nat} {m : Int} (t : Nod) (ih : NdE b mb m t) (ht : t.tot ≤ 100000) (al : Int) (S : Nat → Prop) (op tx : ByteArray) (X : Option Addr) (n k : Nat) (bs : List UInt8) (w : World) (h : HasE b mb m bs w) (hS : ∀ g, S g → g < b) (hn : RIn w S t (op, tx, X, n, k)) (hl : bs.length + (kdE al (showE t, lvE t)).length ≤ 900000) :
  Calls Tryz.prog 149 #[.pointer (some ⟨b, 0, none⟩), .agg #[.string op, .string tx, .slice X n k], .int .i64 al] w (NdP b mb (bs ++ kdE al (showE t, lvE t)) w) := by
 have hR := fun (w' : World) (hb : Below w.heap.size w w') => levelN (h.below hb) ht (hn.kp hS (hb.mono (Nat.le_of_lt h.lt)))
 obtain ⟨lv, hlv⟩ : ∃ lv, lvE t = lv := ⟨_, rfl⟩
 rw [hlv] at hR hl ⊢
 have HR := hid hR
 have HI := hid ih
 have HH := hid h
 have HN := hid hn
 have HS := hid hS
 have hbl := h.lt
 obtain ⟨s, hs⟩ : ∃ s, showE t = s := ⟨_, rfl⟩
 have HSH := hid hs
 rw [hs] at hl ⊢
 unfold kdE at hl ⊢
 dsimp only at hl ⊢
 have HT := hid ht
 clear hR ih h hn hS hs hlv ht
 have hge : ∀ q, decide (al ≤ lv) = q → Calls Tryz.prog 149 #[.pointer (some ⟨b, 0, none⟩), .agg #[.string op, .string tx, .slice X n k], .int .i64 al] w (NdP b mb (bs ++ if al ≤ lv then s else 40 :: (s ++ [41])) w) := by
  intro q hq
  obtain ⟨Z, hZ⟩ : ∃ Z, (if al ≤ lv then s else 40 :: (s ++ [41])) = Z := ⟨_, rfl⟩
  have HZ := hid hZ
  rw [hZ] at hl ⊢
  clear hZ
  go_enter Tryz.func149, Tryz.ntmps149
  obtain ⟨w0, hw0⟩ : ∃ w0, w.alloc (.cells #[.string op, .string tx, .slice X n k] 25) = w0 := ⟨_, rfl⟩
  have B0 := hid (show Below w.heap.size w w0 by rw [← hw0]; exact below_alloc w _)
  have X0 := hid (show HB w0 w.heap.size #[.string op, .string tx, .slice X n k] 25 by rw [← hw0]; exact HB.fresh w _ _)
  have x0 : w0.cell? ⟨w.heap.size, 0, none⟩ = some (.string op) := X0.out.cell 0
  have x1 : w0.cell? ⟨w.heap.size, 1, none⟩ = some (.string tx) := X0.out.cell 1
  have x2 : w0.cell? ⟨w.heap.size, 2, none⟩ = some (.slice X n k) := X0.out.cell 2
  go_wp2_with fail
  try rw [hw0]
  refine (HR.out _ B0.out).mono ?_
  rintro e w1 ⟨Y, N, d, tb, ok, rfl, hb1⟩
  have hz0 : w.heap.size < w0.heap.size := by rw [← hw0]; simp
  have z1 := hb1.size
  obtain ⟨W1, hW1⟩ : ∃ W1, w1.alloc (.cells #[.int .i64 lv, .slice Y N d, .bool tb] 150) = W1 := ⟨_, rfl⟩
  have B1 := hid (show Below w.heap.size w W1 by rw [← hW1]; exact (bnext B0.out B0.out.size hb1).alloc (by omega) _)
  have T1 := hid (show ESt b mb m w S t op op tx X n k w.heap.size bs W1 from
   ⟨HH.out.below B1.out, by rw [← hW1]; exact (X0.out.below hb1).alloc _, HN.out.kp HS.out (B1.out.mono (by omega)), (Kp.refl b w).next (by omega) B1.out⟩)
  have RV := hid (show HB W1 w1.heap.size #[.int .i64 lv, .slice Y N d, .bool tb] 150 by rw [← hW1]; exact HB.fresh w1 _ _)
  have q0 : W1.cell? ⟨w.heap.size, 0, none⟩ = some (.string op) := T1.out.box.cell 0
  have q1 : W1.cell? ⟨w.heap.size, 1, none⟩ = some (.string tx) := T1.out.box.cell 1
  have q2 : W1.cell? ⟨w.heap.size, 2, none⟩ = some (.slice X n k) := T1.out.box.cell 2
  have q3 : W1.cell? ⟨w1.heap.size, 0, none⟩ = some (.int .i64 lv) := RV.out.cell 0
  clear hb1 x0 x1 x2 X0 B0 B1 HR
  cases q with
  | true =>
   have hle : al ≤ lv := by simpa using hq
   have hZ := HZ.out
   rw [if_pos hle] at hZ
   subst hZ
   have HN1 := hid (HI.out S op tx X n k bs W1 T1.out.has HS.out T1.out.nin HT.out (by rw [HSH.out]; exact hl))
   unfold NdP at HN1
   rw [HSH.out] at HN1
   clear hle HZ
   go_wp2_with fail
   try rw [hW1]
   refine HN1.out.mono ?_
   rintro e w2 ⟨rfl, hw2, hk2⟩
   have T2 := hid (T1.out.next HS.out (by omega) hw2 hk2)
   clear hw2 hk2 q0 q1 q2 q3
   go_wp2
   go_end0
   exact ⟨rfl, T2.out.has.wr, T2.out.kp⟩
  | false =>
   have hle : ¬ al ≤ lv := by simpa using hq
   have hZ := HZ.out
   rw [if_neg hle] at hZ
   subst hZ
   have HW := hid (fun (bs' : List UInt8) (s : ByteArray) (w' : World) (h' : Wr w' b mb bs') (hl' : bs'.length + s.size ≤ 1000000) => ewrite_any b mb bs' s w' h' hl')
   clear hle HZ
   go_wp2_with fail
   try rw [hW1]
   refine (HW.out bs ⟨#[40]⟩ _ T1.out.has.wr (by show bs.length + 1 ≤ 1000000; simp at hl; omega)).mono ?_
   rintro e w2 ⟨rfl, hw2, hk2⟩
   have T2 := hid (T1.out.next HS.out (by omega) hw2 hk2)
   have HN2 := hid (HI.out S op tx X n k (bs ++ [40]) w2 T2.out.has HS.out T2.out.nin HT.out (by rw [HSH.out]; simp at hl ⊢; omega))
   unfold NdP at HN2
   rw [HSH.out] at HN2
   have r0 : w2.cell? ⟨w.heap.size, 0, none⟩ = some (.string op) := T2.out.box.cell 0
   have r1 : w2.cell? ⟨w.heap.size, 1, none⟩ = some (.string tx) := T2.out.box.cell 1
   have r2 : w2.cell? ⟨w.heap.size, 2, none⟩ = some (.slice X n k) := T2.out.box.cell 2
   clear hw2 hk2 q0 q1 q2 q3
   go_wp2_with fail
   refine HN2.out.mono ?_
   rintro e w3 ⟨rfl, hw3, hk3⟩
   have T3 := hid (T2.out.next HS.out (by omega) hw3 hk3)
   clear hw3 hk3 r0 r1 r2
   go_wp2_with fail
   refine (HW.out (bs ++ [40] ++ s) ⟨#[41]⟩ _ T3.out.has.wr (by show (bs ++ [40] ++ s).length + 1 ≤ 1000000; simp at hl ⊢; omega)).mono ?_
   rintro e w4 ⟨rfl, hw4, hk4⟩
   have T4 := hid (T3.out.next HS.out (by omega) hw4 hk4)
   clear hw4 hk4
   go_wp2
   go_end0
   exact ⟨rfl, by have h := T4.out.has.wr; simpa using h, T4.out.kp⟩
 exact hge _ rfl
end Go.Proofs.YtjbpkpfmgbhlpaaGreatDoor.Code
