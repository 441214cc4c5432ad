/-
  The program's table of rules: what it holds, and where.
-/
import Derived.Test.YtpohpgahnompbaaGreatDoorM30
import Derived.Deep.DeepCutAuto
import Derived.Carry
namespace Go.Proofs.YtpohpgahnompbaaGreatDoor.Code
open Go.ChangeShapes Go.WideShapes Go.ChangeAt Go.RowKit Val Elems
set_option linter.unusedVariables false
set_option linter.unusedSimpArgs false
/-- blocks of cells stay as they are -/
def CK (w w' : World) : Prop := ∀ g cs t, HB w g cs t → HB w' g cs t
theorem CK.refl (w : World) : CK w w := fun _ _ _ h => h
theorem CK.trans {w w1 w2 : World} (h : CK w w1) (k : CK w1 w2) : CK w w2 := fun g cs t x => k g cs t (h g cs t x)
theorem CK.alloc {w w1 : World} (h : CK w w1) (o : Obj) : CK w (w1.alloc o) := fun g cs t x => (h g cs t x).alloc o
theorem CK.grown {w w1 w2 : World} {b n : Nat} {f : ByteArray → Option Value} (h : CK w w1) (hm : MapR w1 b n f) (hg : w1.grownBy w2 (some b)) : CK w w2 := fun g cs t x => by
  have h1 := h g cs t x
  refine (hg.block g h1.lt (fun e => ?_)).trans h1
  obtain rfl : g = b := Option.some.inj e
  obtain ⟨D, ⟨es, clock, hb, _⟩, _⟩ := hm
  have h2 : w1.heap[g]? = some (.cells cs t (0, 0)) := h1
  rw [hb] at h2
  cases h2
/-- a rule of the table -/
def RuleAt (w : World) (B mb : Nat) (k : ByteArray) (lv : Int) (ks : List Int) (tx : Bool) : Prop :=
  ∃ (f : ByteArray → Option Value) (n : Nat) (X : Option Addr) (c : Nat), mb < B ∧ MapR w mb n f ∧ f k = some (.agg #[.int .i64 lv, .slice X ks.length c, .bool tx]) ∧ (ks = [] ∨ ∃ g, X = some ⟨g, 0, none⟩ ∧ g < B ∧ HB w g (ks.map (Value.int .i64)).toArray 71)
theorem RuleAt.below {w w' : World} {B mb : Nat} {k : ByteArray} {lv : Int} {ks : List Int} {tx : Bool} (h : RuleAt w B mb k lv ks tx) (hb : Below B w w') : RuleAt w' B mb k lv ks tx := by
  obtain ⟨f, n, X, c, h1, h2, h3, h4⟩ := h
  refine ⟨f, n, X, c, h1, h2.heap (hb.block _ h1), h3, h4.imp id fun ⟨g, e1, e2, e3⟩ => ⟨g, e1, e2, (hb.block _ e2).trans e3⟩⟩
theorem RuleAt.more {w : World} {B B' mb : Nat} {k : ByteArray} {lv : Int} {ks : List Int} {tx : Bool} (h : RuleAt w B mb k lv ks tx) (hB : B ≤ B') : RuleAt w B' mb k lv ks tx := by
  obtain ⟨f, n, X, c, h1, h2, h3, h4⟩ := h
  exact ⟨f, n, X, c, Nat.lt_of_lt_of_le h1 hB, h2, h3, h4.imp id fun ⟨g, e1, e2, e3⟩ => ⟨g, e1, Nat.lt_of_lt_of_le e2 hB, e3⟩⟩
def ruleOf (k : List UInt8) : Option (Int × List Int × Bool) :=
  if k = sAnd then some (1, [1, 2], false) else if k = sNot then some (2, [2], false) else if k = [60, 61] then some (3, [4, 4], false) else if k = [45] then some (4, [4, 5], false) else if k = [42] then some (5, [5, 6], false)
  else if k = sNum then some (7, [], true) else if k = sCol then some (7, [], true) else if k = sText then some (7, [], true) else if k = sNeg then some (6, [7], false) else if k = sIsNull then some (3, [4], false) else none
def Rules (w : World) (B mb : Nat) : Prop := ∀ (k : List UInt8) (r : Int × List Int × Bool), ruleOf k = some r → RuleAt w B mb ⟨k.toArray⟩ r.1 r.2.1 r.2.2
theorem Rules.below {w w' : World} {B mb : Nat} (h : Rules w B mb) (hb : Below B w w') : Rules w' B mb := fun k r hr => (h k r hr).below hb
theorem Rules.more {w : World} {B B' mb : Nat} (h : Rules w B mb) (hB : B ≤ B') : Rules w B' mb := fun k r hr => (h k r hr).more hB
set_option maxHeartbeats 16000000 in
set_option maxRecDepth 100000 in
theorem erules_any (w : World) :
    Calls Tryz.prog 19 #[] w fun e w' => ∃ mb, e = .returned (.map (some mb)) ∧ Rules w' w'.heap.size mb ∧ Below w.heap.size w w' := by
  go_enter Tryz.func19, Tryz.ntmps19
  have hmm := @run_makeMap Tryz.prog
  go_upto_region 5 with fail
  obtain ⟨W5, hW5⟩ : ∃ W5, (((((w.alloc (.cells #[.int .i64 4, .int .i64 4] 71)).alloc (.cells #[.int .i64 3, .slice (some ⟨w.heap.size, 0, none⟩) 2 2, .bool false] 74)).alloc (.cells #[.int .i64 4, .int .i64 5] 71)).alloc (.cells #[.int .i64 4, .slice (some ⟨w.heap.size + 1 + 1, 0, none⟩) 2 2, .bool false] 74)).alloc (.cells #[.int .i64 7, .slice none 0 0, .bool true] 74)).alloc (.cells #[.int .i64 7, .slice none 0 0, .bool false] 74) = W5 := ⟨_, rfl⟩
  have B5 := Lib.hid (show Below w.heap.size w W5 by rw [← hW5]; exact (((((((Below.refl _ _)).alloc (by (try simp only [World.size_alloc]); omega) _).alloc (by (try simp only [World.size_alloc]); omega) _).alloc (by (try simp only [World.size_alloc]); omega) _).alloc (by (try simp only [World.size_alloc]); omega) _).alloc (by (try simp only [World.size_alloc]); omega) _).alloc (by (try simp only [World.size_alloc]); omega) _)
  have Ha := Lib.hid (show HB W5 w.heap.size #[.int .i64 4, .int .i64 4] 71 by
    have h := HB.fresh w #[.int .i64 4, .int .i64 4] 71
    rw [← hW5]
    exact ((((h.alloc _).alloc _).alloc _).alloc _).alloc _)
  have Hb := Lib.hid (show HB W5 (w.heap.size + 1) #[.int .i64 3, .slice (some ⟨w.heap.size, 0, none⟩) 2 2, .bool false] 74 by
    have h := HB.fresh (w.alloc (.cells #[.int .i64 4, .int .i64 4] 71)) #[.int .i64 3, .slice (some ⟨w.heap.size, 0, none⟩) 2 2, .bool false] 74
    rw [show (w.alloc (.cells #[.int .i64 4, .int .i64 4] 71)).heap.size = w.heap.size + 1 by simp] at h
    rw [← hW5]
    exact (((h.alloc _).alloc _).alloc _).alloc _)
  have Hc := Lib.hid (show HB W5 (w.heap.size + 1 + 1) #[.int .i64 4, .int .i64 5] 71 by
    have h := HB.fresh ((w.alloc (.cells #[.int .i64 4, .int .i64 4] 71)).alloc (.cells #[.int .i64 3, .slice (some ⟨w.heap.size, 0, none⟩) 2 2, .bool false] 74)) #[.int .i64 4, .int .i64 5] 71
    rw [show ((w.alloc (.cells #[.int .i64 4, .int .i64 4] 71)).alloc (.cells #[.int .i64 3, .slice (some ⟨w.heap.size, 0, none⟩) 2 2, .bool false] 74)).heap.size = w.heap.size + 1 + 1 by simp] at h
    rw [← hW5]
    exact ((h.alloc _).alloc _).alloc _)
  have Hd := Lib.hid (show HB W5 (w.heap.size + 1 + 1 + 1) #[.int .i64 4, .slice (some ⟨w.heap.size + 1 + 1, 0, none⟩) 2 2, .bool false] 74 by
    have h := HB.fresh (((w.alloc (.cells #[.int .i64 4, .int .i64 4] 71)).alloc (.cells #[.int .i64 3, .slice (some ⟨w.heap.size, 0, none⟩) 2 2, .bool false] 74)).alloc (.cells #[.int .i64 4, .int .i64 5] 71)) #[.int .i64 4, .slice (some ⟨w.heap.size + 1 + 1, 0, none⟩) 2 2, .bool false] 74
    rw [show (((w.alloc (.cells #[.int .i64 4, .int .i64 4] 71)).alloc (.cells #[.int .i64 3, .slice (some ⟨w.heap.size, 0, none⟩) 2 2, .bool false] 74)).alloc (.cells #[.int .i64 4, .int .i64 5] 71)).heap.size = w.heap.size + 1 + 1 + 1 by simp] at h
    rw [← hW5]
    exact (h.alloc _).alloc _)
  have He := Lib.hid (show HB W5 (w.heap.size + 1 + 1 + 1 + 1) #[.int .i64 7, .slice none 0 0, .bool true] 74 by
    have h := HB.fresh ((((w.alloc (.cells #[.int .i64 4, .int .i64 4] 71)).alloc (.cells #[.int .i64 3, .slice (some ⟨w.heap.size, 0, none⟩) 2 2, .bool false] 74)).alloc (.cells #[.int .i64 4, .int .i64 5] 71)).alloc (.cells #[.int .i64 4, .slice (some ⟨w.heap.size + 1 + 1, 0, none⟩) 2 2, .bool false] 74)) #[.int .i64 7, .slice none 0 0, .bool true] 74
    rw [show ((((w.alloc (.cells #[.int .i64 4, .int .i64 4] 71)).alloc (.cells #[.int .i64 3, .slice (some ⟨w.heap.size, 0, none⟩) 2 2, .bool false] 74)).alloc (.cells #[.int .i64 4, .int .i64 5] 71)).alloc (.cells #[.int .i64 4, .slice (some ⟨w.heap.size + 1 + 1, 0, none⟩) 2 2, .bool false] 74)).heap.size = w.heap.size + 1 + 1 + 1 + 1 by simp] at h
    rw [← hW5]
    exact h.alloc _)
  have Hg := Lib.hid (show HB W5 (w.heap.size + 1 + 1 + 1 + 1 + 1) #[.int .i64 7, .slice none 0 0, .bool false] 74 by
    have h := HB.fresh (((((w.alloc (.cells #[.int .i64 4, .int .i64 4] 71)).alloc (.cells #[.int .i64 3, .slice (some ⟨w.heap.size, 0, none⟩) 2 2, .bool false] 74)).alloc (.cells #[.int .i64 4, .int .i64 5] 71)).alloc (.cells #[.int .i64 4, .slice (some ⟨w.heap.size + 1 + 1, 0, none⟩) 2 2, .bool false] 74)).alloc (.cells #[.int .i64 7, .slice none 0 0, .bool true] 74)) #[.int .i64 7, .slice none 0 0, .bool false] 74
    rw [show (((((w.alloc (.cells #[.int .i64 4, .int .i64 4] 71)).alloc (.cells #[.int .i64 3, .slice (some ⟨w.heap.size, 0, none⟩) 2 2, .bool false] 74)).alloc (.cells #[.int .i64 4, .int .i64 5] 71)).alloc (.cells #[.int .i64 4, .slice (some ⟨w.heap.size + 1 + 1, 0, none⟩) 2 2, .bool false] 74)).alloc (.cells #[.int .i64 7, .slice none 0 0, .bool true] 74)).heap.size = w.heap.size + 1 + 1 + 1 + 1 + 1 by simp] at h
    rw [← hW5]
    exact h)
  rw [hW5]
  clear hW5
  have M0 := mapR_made W5
  have C0 := (CK.refl W5).alloc (.map #[] 0)
  have L0 := Lib.hid (B5.out.alloc B5.out.size (.map #[] 0))
  have N0 := (HB.fresh (W5.alloc (.map #[] 0)) #[.int .i64 0, .int .i64 1] 71)
  have MA0 := Lib.hid (M0.alloc (.cells #[.int .i64 0, .int .i64 1] 71))
  have CA0 := C0.alloc (.cells #[.int .i64 0, .int .i64 1] 71)
  have LA0 := Lib.hid (L0.out.alloc L0.out.size (.cells #[.int .i64 0, .int .i64 1] 71))
  go_wp2_with (refine wpList_ins _ rfl _ _ _ rfl W5.heap.size 0 _ rfl MA0.out (by decide) ⟨#[111, 114]⟩ rfl (by decide) _ rfl ?_)
  intro w0 M1 g0 s0
  have C1 := CA0.grown MA0.out g0
  have L1 := Lib.hid (LA0.out.grown g0 LA0.out.size (fun k hk => by cases hk; exact B5.out.size))
  have Q0 := (CK.grown ((CK.refl _)) MA0.out g0) _ _ _ N0
  clear N0
  clear MA0 CA0 LA0 M0 C0 g0
  have N1 := (HB.fresh w0 #[.int .i64 1, .int .i64 2] 71)
  have MA1 := Lib.hid (M1.alloc (.cells #[.int .i64 1, .int .i64 2] 71))
  have CA1 := C1.alloc (.cells #[.int .i64 1, .int .i64 2] 71)
  have LA1 := Lib.hid (L1.out.alloc L1.out.size (.cells #[.int .i64 1, .int .i64 2] 71))
  go_wp2_with (refine wpList_ins _ rfl _ _ _ rfl W5.heap.size 1 _ rfl MA1.out (by decide) ⟨#[97, 110, 100]⟩ rfl (by decide) _ rfl ?_)
  intro w1 M2 g1 s1
  have C2 := CA1.grown MA1.out g1
  have L2 := Lib.hid (LA1.out.grown g1 LA1.out.size (fun k hk => by cases hk; exact B5.out.size))
  have Q1 := (CK.grown ((CK.refl _)) MA1.out g1) _ _ _ N1
  clear N1
  have Q0 := ((CK.refl _).alloc _).grown MA1.out g1 _ _ _ Q0
  clear MA1 CA1 LA1 M1 C1 g1
  have N2 := (HB.fresh w1 #[.int .i64 2] 71)
  have MA2 := Lib.hid (M2.alloc (.cells #[.int .i64 2] 71))
  have CA2 := C2.alloc (.cells #[.int .i64 2] 71)
  have LA2 := Lib.hid (L2.out.alloc L2.out.size (.cells #[.int .i64 2] 71))
  go_wp2_with (refine wpList_ins _ rfl _ _ _ rfl W5.heap.size 2 _ rfl MA2.out (by decide) ⟨#[110, 111, 116]⟩ rfl (by decide) _ rfl ?_)
  intro w2 M3 g2 s2
  have C3 := CA2.grown MA2.out g2
  have L3 := Lib.hid (LA2.out.grown g2 LA2.out.size (fun k hk => by cases hk; exact B5.out.size))
  have Q2 := (CK.grown ((CK.refl _)) MA2.out g2) _ _ _ N2
  clear N2
  have Q0 := ((CK.refl _).alloc _).grown MA2.out g2 _ _ _ Q0
  have Q1 := ((CK.refl _).alloc _).grown MA2.out g2 _ _ _ Q1
  clear MA2 CA2 LA2 M2 C2 g2
  have MA3 := Lib.hid M3
  have CA3 := C3
  have LA3 := L3
  have HV3 := C3 _ _ _ Hb.out
  have v3_0 : w2.cell? ⟨w.heap.size + 1, 0, none⟩ = some (.int .i64 3) := HV3.cell 0
  have v3_1 : w2.cell? ⟨w.heap.size + 1, 1, none⟩ = some (.slice (some ⟨w.heap.size, 0, none⟩) 2 2) := HV3.cell 1
  have v3_2 : w2.cell? ⟨w.heap.size + 1, 2, none⟩ = some (.bool false) := HV3.cell 2
  go_wp2_with (refine wpList_ins _ rfl _ _ _ rfl W5.heap.size 3 _ rfl MA3.out (by decide) ⟨#[61]⟩ rfl (by decide) _ rfl ?_)
  intro w3 M4 g3 s3
  have C4 := CA3.grown MA3.out g3
  have L4 := Lib.hid (LA3.out.grown g3 LA3.out.size (fun k hk => by cases hk; exact B5.out.size))
  clear HV3 v3_0 v3_1 v3_2
  have Q0 := (CK.refl _).grown MA3.out g3 _ _ _ Q0
  have Q1 := (CK.refl _).grown MA3.out g3 _ _ _ Q1
  have Q2 := (CK.refl _).grown MA3.out g3 _ _ _ Q2
  clear MA3 CA3 LA3 M3 C3 g3
  have MA4 := Lib.hid M4
  have CA4 := C4
  have LA4 := L4
  have HV4 := C4 _ _ _ Hb.out
  have v4_0 : w3.cell? ⟨w.heap.size + 1, 0, none⟩ = some (.int .i64 3) := HV4.cell 0
  have v4_1 : w3.cell? ⟨w.heap.size + 1, 1, none⟩ = some (.slice (some ⟨w.heap.size, 0, none⟩) 2 2) := HV4.cell 1
  have v4_2 : w3.cell? ⟨w.heap.size + 1, 2, none⟩ = some (.bool false) := HV4.cell 2
  go_wp2_with (refine wpList_ins _ rfl _ _ _ rfl W5.heap.size 4 _ rfl MA4.out (by decide) ⟨#[60, 62]⟩ rfl (by decide) _ rfl ?_)
  intro w4 M5 g4 s4
  have C5 := CA4.grown MA4.out g4
  have L5 := Lib.hid (LA4.out.grown g4 LA4.out.size (fun k hk => by cases hk; exact B5.out.size))
  clear HV4 v4_0 v4_1 v4_2
  have Q0 := (CK.refl _).grown MA4.out g4 _ _ _ Q0
  have Q1 := (CK.refl _).grown MA4.out g4 _ _ _ Q1
  have Q2 := (CK.refl _).grown MA4.out g4 _ _ _ Q2
  clear MA4 CA4 LA4 M4 C4 g4
  have MA5 := Lib.hid M5
  have CA5 := C5
  have LA5 := L5
  have HV5 := C5 _ _ _ Hb.out
  have v5_0 : w4.cell? ⟨w.heap.size + 1, 0, none⟩ = some (.int .i64 3) := HV5.cell 0
  have v5_1 : w4.cell? ⟨w.heap.size + 1, 1, none⟩ = some (.slice (some ⟨w.heap.size, 0, none⟩) 2 2) := HV5.cell 1
  have v5_2 : w4.cell? ⟨w.heap.size + 1, 2, none⟩ = some (.bool false) := HV5.cell 2
  go_wp2_with (refine wpList_ins _ rfl _ _ _ rfl W5.heap.size 5 _ rfl MA5.out (by decide) ⟨#[60]⟩ rfl (by decide) _ rfl ?_)
  intro w5 M6 g5 s5
  have C6 := CA5.grown MA5.out g5
  have L6 := Lib.hid (LA5.out.grown g5 LA5.out.size (fun k hk => by cases hk; exact B5.out.size))
  clear HV5 v5_0 v5_1 v5_2
  have Q0 := (CK.refl _).grown MA5.out g5 _ _ _ Q0
  have Q1 := (CK.refl _).grown MA5.out g5 _ _ _ Q1
  have Q2 := (CK.refl _).grown MA5.out g5 _ _ _ Q2
  clear MA5 CA5 LA5 M5 C5 g5
  have MA6 := Lib.hid M6
  have CA6 := C6
  have LA6 := L6
  have HV6 := C6 _ _ _ Hb.out
  have v6_0 : w5.cell? ⟨w.heap.size + 1, 0, none⟩ = some (.int .i64 3) := HV6.cell 0
  have v6_1 : w5.cell? ⟨w.heap.size + 1, 1, none⟩ = some (.slice (some ⟨w.heap.size, 0, none⟩) 2 2) := HV6.cell 1
  have v6_2 : w5.cell? ⟨w.heap.size + 1, 2, none⟩ = some (.bool false) := HV6.cell 2
  go_wp2_with (refine wpList_ins _ rfl _ _ _ rfl W5.heap.size 6 _ rfl MA6.out (by decide) ⟨#[60, 61]⟩ rfl (by decide) _ rfl ?_)
  intro w6 M7 g6 s6
  have C7 := CA6.grown MA6.out g6
  have L7 := Lib.hid (LA6.out.grown g6 LA6.out.size (fun k hk => by cases hk; exact B5.out.size))
  clear HV6 v6_0 v6_1 v6_2
  have Q0 := (CK.refl _).grown MA6.out g6 _ _ _ Q0
  have Q1 := (CK.refl _).grown MA6.out g6 _ _ _ Q1
  have Q2 := (CK.refl _).grown MA6.out g6 _ _ _ Q2
  clear MA6 CA6 LA6 M6 C6 g6
  have MA7 := Lib.hid M7
  have CA7 := C7
  have LA7 := L7
  have HV7 := C7 _ _ _ Hb.out
  have v7_0 : w6.cell? ⟨w.heap.size + 1, 0, none⟩ = some (.int .i64 3) := HV7.cell 0
  have v7_1 : w6.cell? ⟨w.heap.size + 1, 1, none⟩ = some (.slice (some ⟨w.heap.size, 0, none⟩) 2 2) := HV7.cell 1
  have v7_2 : w6.cell? ⟨w.heap.size + 1, 2, none⟩ = some (.bool false) := HV7.cell 2
  go_wp2_with (refine wpList_ins _ rfl _ _ _ rfl W5.heap.size 7 _ rfl MA7.out (by decide) ⟨#[62]⟩ rfl (by decide) _ rfl ?_)
  intro w7 M8 g7 s7
  have C8 := CA7.grown MA7.out g7
  have L8 := Lib.hid (LA7.out.grown g7 LA7.out.size (fun k hk => by cases hk; exact B5.out.size))
  clear HV7 v7_0 v7_1 v7_2
  have Q0 := (CK.refl _).grown MA7.out g7 _ _ _ Q0
  have Q1 := (CK.refl _).grown MA7.out g7 _ _ _ Q1
  have Q2 := (CK.refl _).grown MA7.out g7 _ _ _ Q2
  clear MA7 CA7 LA7 M7 C7 g7
  have MA8 := Lib.hid M8
  have CA8 := C8
  have LA8 := L8
  have HV8 := C8 _ _ _ Hb.out
  have v8_0 : w7.cell? ⟨w.heap.size + 1, 0, none⟩ = some (.int .i64 3) := HV8.cell 0
  have v8_1 : w7.cell? ⟨w.heap.size + 1, 1, none⟩ = some (.slice (some ⟨w.heap.size, 0, none⟩) 2 2) := HV8.cell 1
  have v8_2 : w7.cell? ⟨w.heap.size + 1, 2, none⟩ = some (.bool false) := HV8.cell 2
  go_wp2_with (refine wpList_ins _ rfl _ _ _ rfl W5.heap.size 8 _ rfl MA8.out (by decide) ⟨#[62, 61]⟩ rfl (by decide) _ rfl ?_)
  intro w8 M9 g8 s8
  have C9 := CA8.grown MA8.out g8
  have L9 := Lib.hid (LA8.out.grown g8 LA8.out.size (fun k hk => by cases hk; exact B5.out.size))
  clear HV8 v8_0 v8_1 v8_2
  have Q0 := (CK.refl _).grown MA8.out g8 _ _ _ Q0
  have Q1 := (CK.refl _).grown MA8.out g8 _ _ _ Q1
  have Q2 := (CK.refl _).grown MA8.out g8 _ _ _ Q2
  clear MA8 CA8 LA8 M8 C8 g8
  have N9 := (HB.fresh w8 #[.int .i64 4] 71)
  have MA9 := Lib.hid (M9.alloc (.cells #[.int .i64 4] 71))
  have CA9 := C9.alloc (.cells #[.int .i64 4] 71)
  have LA9 := Lib.hid (L9.out.alloc L9.out.size (.cells #[.int .i64 4] 71))
  go_wp2_with (refine wpList_ins _ rfl _ _ _ rfl W5.heap.size 9 _ rfl MA9.out (by decide) ⟨#[105, 115, 32, 110, 117, 108, 108]⟩ rfl (by decide) _ rfl ?_)
  intro w9 M10 g9 s9
  have C10 := CA9.grown MA9.out g9
  have L10 := Lib.hid (LA9.out.grown g9 LA9.out.size (fun k hk => by cases hk; exact B5.out.size))
  have Q9 := (CK.grown ((CK.refl _)) MA9.out g9) _ _ _ N9
  clear N9
  have Q0 := ((CK.refl _).alloc _).grown MA9.out g9 _ _ _ Q0
  have Q1 := ((CK.refl _).alloc _).grown MA9.out g9 _ _ _ Q1
  have Q2 := ((CK.refl _).alloc _).grown MA9.out g9 _ _ _ Q2
  clear MA9 CA9 LA9 M9 C9 g9
  have MA10 := Lib.hid M10
  have CA10 := C10
  have LA10 := L10
  have HV10 := C10 _ _ _ Hd.out
  have v10_0 : w9.cell? ⟨w.heap.size + 1 + 1 + 1, 0, none⟩ = some (.int .i64 4) := HV10.cell 0
  have v10_1 : w9.cell? ⟨w.heap.size + 1 + 1 + 1, 1, none⟩ = some (.slice (some ⟨w.heap.size + 1 + 1, 0, none⟩) 2 2) := HV10.cell 1
  have v10_2 : w9.cell? ⟨w.heap.size + 1 + 1 + 1, 2, none⟩ = some (.bool false) := HV10.cell 2
  go_wp2_with (refine wpList_ins _ rfl _ _ _ rfl W5.heap.size 10 _ rfl MA10.out (by decide) ⟨#[43]⟩ rfl (by decide) _ rfl ?_)
  intro w10 M11 g10 s10
  have C11 := CA10.grown MA10.out g10
  have L11 := Lib.hid (LA10.out.grown g10 LA10.out.size (fun k hk => by cases hk; exact B5.out.size))
  clear HV10 v10_0 v10_1 v10_2
  have Q0 := (CK.refl _).grown MA10.out g10 _ _ _ Q0
  have Q1 := (CK.refl _).grown MA10.out g10 _ _ _ Q1
  have Q2 := (CK.refl _).grown MA10.out g10 _ _ _ Q2
  have Q9 := (CK.refl _).grown MA10.out g10 _ _ _ Q9
  clear MA10 CA10 LA10 M10 C10 g10
  have MA11 := Lib.hid M11
  have CA11 := C11
  have LA11 := L11
  have HV11 := C11 _ _ _ Hd.out
  have v11_0 : w10.cell? ⟨w.heap.size + 1 + 1 + 1, 0, none⟩ = some (.int .i64 4) := HV11.cell 0
  have v11_1 : w10.cell? ⟨w.heap.size + 1 + 1 + 1, 1, none⟩ = some (.slice (some ⟨w.heap.size + 1 + 1, 0, none⟩) 2 2) := HV11.cell 1
  have v11_2 : w10.cell? ⟨w.heap.size + 1 + 1 + 1, 2, none⟩ = some (.bool false) := HV11.cell 2
  go_wp2_with (refine wpList_ins _ rfl _ _ _ rfl W5.heap.size 11 _ rfl MA11.out (by decide) ⟨#[45]⟩ rfl (by decide) _ rfl ?_)
  intro w11 M12 g11 s11
  have C12 := CA11.grown MA11.out g11
  have L12 := Lib.hid (LA11.out.grown g11 LA11.out.size (fun k hk => by cases hk; exact B5.out.size))
  clear HV11 v11_0 v11_1 v11_2
  have Q0 := (CK.refl _).grown MA11.out g11 _ _ _ Q0
  have Q1 := (CK.refl _).grown MA11.out g11 _ _ _ Q1
  have Q2 := (CK.refl _).grown MA11.out g11 _ _ _ Q2
  have Q9 := (CK.refl _).grown MA11.out g11 _ _ _ Q9
  clear MA11 CA11 LA11 M11 C11 g11
  have N12 := (HB.fresh w11 #[.int .i64 5, .int .i64 6] 71)
  have MA12 := Lib.hid (M12.alloc (.cells #[.int .i64 5, .int .i64 6] 71))
  have CA12 := C12.alloc (.cells #[.int .i64 5, .int .i64 6] 71)
  have LA12 := Lib.hid (L12.out.alloc L12.out.size (.cells #[.int .i64 5, .int .i64 6] 71))
  go_wp2_with (refine wpList_ins _ rfl _ _ _ rfl W5.heap.size 12 _ rfl MA12.out (by decide) ⟨#[42]⟩ rfl (by decide) _ rfl ?_)
  intro w12 M13 g12 s12
  have C13 := CA12.grown MA12.out g12
  have L13 := Lib.hid (LA12.out.grown g12 LA12.out.size (fun k hk => by cases hk; exact B5.out.size))
  have Q12 := (CK.grown ((CK.refl _)) MA12.out g12) _ _ _ N12
  clear N12
  have Q0 := ((CK.refl _).alloc _).grown MA12.out g12 _ _ _ Q0
  have Q1 := ((CK.refl _).alloc _).grown MA12.out g12 _ _ _ Q1
  have Q2 := ((CK.refl _).alloc _).grown MA12.out g12 _ _ _ Q2
  have Q9 := ((CK.refl _).alloc _).grown MA12.out g12 _ _ _ Q9
  clear MA12 CA12 LA12 M12 C12 g12
  have N13 := (HB.fresh w12 #[.int .i64 7] 71)
  have MA13 := Lib.hid (M13.alloc (.cells #[.int .i64 7] 71))
  have CA13 := C13.alloc (.cells #[.int .i64 7] 71)
  have LA13 := Lib.hid (L13.out.alloc L13.out.size (.cells #[.int .i64 7] 71))
  go_wp2_with (refine wpList_ins _ rfl _ _ _ rfl W5.heap.size 13 _ rfl MA13.out (by decide) ⟨#[110, 101, 103]⟩ rfl (by decide) _ rfl ?_)
  intro w13 M14 g13 s13
  have C14 := CA13.grown MA13.out g13
  have L14 := Lib.hid (LA13.out.grown g13 LA13.out.size (fun k hk => by cases hk; exact B5.out.size))
  have Q13 := (CK.grown ((CK.refl _)) MA13.out g13) _ _ _ N13
  clear N13
  have Q0 := ((CK.refl _).alloc _).grown MA13.out g13 _ _ _ Q0
  have Q1 := ((CK.refl _).alloc _).grown MA13.out g13 _ _ _ Q1
  have Q2 := ((CK.refl _).alloc _).grown MA13.out g13 _ _ _ Q2
  have Q9 := ((CK.refl _).alloc _).grown MA13.out g13 _ _ _ Q9
  have Q12 := ((CK.refl _).alloc _).grown MA13.out g13 _ _ _ Q12
  clear MA13 CA13 LA13 M13 C13 g13
  have MA14 := Lib.hid M14
  have CA14 := C14
  have LA14 := L14
  have HV14 := C14 _ _ _ He.out
  have v14_0 : w13.cell? ⟨w.heap.size + 1 + 1 + 1 + 1, 0, none⟩ = some (.int .i64 7) := HV14.cell 0
  have v14_1 : w13.cell? ⟨w.heap.size + 1 + 1 + 1 + 1, 1, none⟩ = some (.slice none 0 0) := HV14.cell 1
  have v14_2 : w13.cell? ⟨w.heap.size + 1 + 1 + 1 + 1, 2, none⟩ = some (.bool true) := HV14.cell 2
  go_wp2_with (refine wpList_ins _ rfl _ _ _ rfl W5.heap.size 14 _ rfl MA14.out (by decide) ⟨#[110, 117, 109]⟩ rfl (by decide) _ rfl ?_)
  intro w14 M15 g14 s14
  have C15 := CA14.grown MA14.out g14
  have L15 := Lib.hid (LA14.out.grown g14 LA14.out.size (fun k hk => by cases hk; exact B5.out.size))
  clear HV14 v14_0 v14_1 v14_2
  have Q0 := (CK.refl _).grown MA14.out g14 _ _ _ Q0
  have Q1 := (CK.refl _).grown MA14.out g14 _ _ _ Q1
  have Q2 := (CK.refl _).grown MA14.out g14 _ _ _ Q2
  have Q9 := (CK.refl _).grown MA14.out g14 _ _ _ Q9
  have Q12 := (CK.refl _).grown MA14.out g14 _ _ _ Q12
  have Q13 := (CK.refl _).grown MA14.out g14 _ _ _ Q13
  clear MA14 CA14 LA14 M14 C14 g14
  have MA15 := Lib.hid M15
  have CA15 := C15
  have LA15 := L15
  have HV15 := C15 _ _ _ He.out
  have v15_0 : w14.cell? ⟨w.heap.size + 1 + 1 + 1 + 1, 0, none⟩ = some (.int .i64 7) := HV15.cell 0
  have v15_1 : w14.cell? ⟨w.heap.size + 1 + 1 + 1 + 1, 1, none⟩ = some (.slice none 0 0) := HV15.cell 1
  have v15_2 : w14.cell? ⟨w.heap.size + 1 + 1 + 1 + 1, 2, none⟩ = some (.bool true) := HV15.cell 2
  go_wp2_with (refine wpList_ins _ rfl _ _ _ rfl W5.heap.size 15 _ rfl MA15.out (by decide) ⟨#[116, 101, 120, 116]⟩ rfl (by decide) _ rfl ?_)
  intro w15 M16 g15 s15
  have C16 := CA15.grown MA15.out g15
  have L16 := Lib.hid (LA15.out.grown g15 LA15.out.size (fun k hk => by cases hk; exact B5.out.size))
  clear HV15 v15_0 v15_1 v15_2
  have Q0 := (CK.refl _).grown MA15.out g15 _ _ _ Q0
  have Q1 := (CK.refl _).grown MA15.out g15 _ _ _ Q1
  have Q2 := (CK.refl _).grown MA15.out g15 _ _ _ Q2
  have Q9 := (CK.refl _).grown MA15.out g15 _ _ _ Q9
  have Q12 := (CK.refl _).grown MA15.out g15 _ _ _ Q12
  have Q13 := (CK.refl _).grown MA15.out g15 _ _ _ Q13
  clear MA15 CA15 LA15 M15 C15 g15
  have MA16 := Lib.hid M16
  have CA16 := C16
  have LA16 := L16
  have HV16 := C16 _ _ _ He.out
  have v16_0 : w15.cell? ⟨w.heap.size + 1 + 1 + 1 + 1, 0, none⟩ = some (.int .i64 7) := HV16.cell 0
  have v16_1 : w15.cell? ⟨w.heap.size + 1 + 1 + 1 + 1, 1, none⟩ = some (.slice none 0 0) := HV16.cell 1
  have v16_2 : w15.cell? ⟨w.heap.size + 1 + 1 + 1 + 1, 2, none⟩ = some (.bool true) := HV16.cell 2
  go_wp2_with (refine wpList_ins _ rfl _ _ _ rfl W5.heap.size 16 _ rfl MA16.out (by decide) ⟨#[99, 111, 108]⟩ rfl (by decide) _ rfl ?_)
  intro w16 M17 g16 s16
  have C17 := CA16.grown MA16.out g16
  have L17 := Lib.hid (LA16.out.grown g16 LA16.out.size (fun k hk => by cases hk; exact B5.out.size))
  clear HV16 v16_0 v16_1 v16_2
  have Q0 := (CK.refl _).grown MA16.out g16 _ _ _ Q0
  have Q1 := (CK.refl _).grown MA16.out g16 _ _ _ Q1
  have Q2 := (CK.refl _).grown MA16.out g16 _ _ _ Q2
  have Q9 := (CK.refl _).grown MA16.out g16 _ _ _ Q9
  have Q12 := (CK.refl _).grown MA16.out g16 _ _ _ Q12
  have Q13 := (CK.refl _).grown MA16.out g16 _ _ _ Q13
  clear MA16 CA16 LA16 M16 C16 g16
  have MA17 := Lib.hid M17
  have CA17 := C17
  have LA17 := L17
  have HV17 := C17 _ _ _ Hg.out
  have v17_0 : w16.cell? ⟨w.heap.size + 1 + 1 + 1 + 1 + 1, 0, none⟩ = some (.int .i64 7) := HV17.cell 0
  have v17_1 : w16.cell? ⟨w.heap.size + 1 + 1 + 1 + 1 + 1, 1, none⟩ = some (.slice none 0 0) := HV17.cell 1
  have v17_2 : w16.cell? ⟨w.heap.size + 1 + 1 + 1 + 1 + 1, 2, none⟩ = some (.bool false) := HV17.cell 2
  go_wp2_with (refine wpList_ins _ rfl _ _ _ rfl W5.heap.size 17 _ rfl MA17.out (by decide) ⟨#[116, 114, 117, 101]⟩ rfl (by decide) _ rfl ?_)
  intro w17 M18 g17 s17
  have C18 := CA17.grown MA17.out g17
  have L18 := Lib.hid (LA17.out.grown g17 LA17.out.size (fun k hk => by cases hk; exact B5.out.size))
  clear HV17 v17_0 v17_1 v17_2
  have Q0 := (CK.refl _).grown MA17.out g17 _ _ _ Q0
  have Q1 := (CK.refl _).grown MA17.out g17 _ _ _ Q1
  have Q2 := (CK.refl _).grown MA17.out g17 _ _ _ Q2
  have Q9 := (CK.refl _).grown MA17.out g17 _ _ _ Q9
  have Q12 := (CK.refl _).grown MA17.out g17 _ _ _ Q12
  have Q13 := (CK.refl _).grown MA17.out g17 _ _ _ Q13
  clear MA17 CA17 LA17 M17 C17 g17
  have MA18 := Lib.hid M18
  have CA18 := C18
  have LA18 := L18
  have HV18 := C18 _ _ _ Hg.out
  have v18_0 : w17.cell? ⟨w.heap.size + 1 + 1 + 1 + 1 + 1, 0, none⟩ = some (.int .i64 7) := HV18.cell 0
  have v18_1 : w17.cell? ⟨w.heap.size + 1 + 1 + 1 + 1 + 1, 1, none⟩ = some (.slice none 0 0) := HV18.cell 1
  have v18_2 : w17.cell? ⟨w.heap.size + 1 + 1 + 1 + 1 + 1, 2, none⟩ = some (.bool false) := HV18.cell 2
  go_wp2_with (refine wpList_ins _ rfl _ _ _ rfl W5.heap.size 18 _ rfl MA18.out (by decide) ⟨#[102, 97, 108, 115, 101]⟩ rfl (by decide) _ rfl ?_)
  intro w18 M19 g18 s18
  have C19 := CA18.grown MA18.out g18
  have L19 := Lib.hid (LA18.out.grown g18 LA18.out.size (fun k hk => by cases hk; exact B5.out.size))
  clear HV18 v18_0 v18_1 v18_2
  have Q0 := (CK.refl _).grown MA18.out g18 _ _ _ Q0
  have Q1 := (CK.refl _).grown MA18.out g18 _ _ _ Q1
  have Q2 := (CK.refl _).grown MA18.out g18 _ _ _ Q2
  have Q9 := (CK.refl _).grown MA18.out g18 _ _ _ Q9
  have Q12 := (CK.refl _).grown MA18.out g18 _ _ _ Q12
  have Q13 := (CK.refl _).grown MA18.out g18 _ _ _ Q13
  clear MA18 CA18 LA18 M18 C18 g18
  have MA19 := Lib.hid M19
  have CA19 := C19
  have LA19 := L19
  have HV19 := C19 _ _ _ Hg.out
  have v19_0 : w18.cell? ⟨w.heap.size + 1 + 1 + 1 + 1 + 1, 0, none⟩ = some (.int .i64 7) := HV19.cell 0
  have v19_1 : w18.cell? ⟨w.heap.size + 1 + 1 + 1 + 1 + 1, 1, none⟩ = some (.slice none 0 0) := HV19.cell 1
  have v19_2 : w18.cell? ⟨w.heap.size + 1 + 1 + 1 + 1 + 1, 2, none⟩ = some (.bool false) := HV19.cell 2
  go_wp2_with (refine wpList_ins _ rfl _ _ _ rfl W5.heap.size 19 _ rfl MA19.out (by decide) ⟨#[110, 117, 108, 108]⟩ rfl (by decide) _ rfl ?_)
  intro w19 M20 g19 s19
  have C20 := CA19.grown MA19.out g19
  have L20 := Lib.hid (LA19.out.grown g19 LA19.out.size (fun k hk => by cases hk; exact B5.out.size))
  clear HV19 v19_0 v19_1 v19_2
  have Q0 := (CK.refl _).grown MA19.out g19 _ _ _ Q0
  have Q1 := (CK.refl _).grown MA19.out g19 _ _ _ Q1
  have Q2 := (CK.refl _).grown MA19.out g19 _ _ _ Q2
  have Q9 := (CK.refl _).grown MA19.out g19 _ _ _ Q9
  have Q12 := (CK.refl _).grown MA19.out g19 _ _ _ Q12
  have Q13 := (CK.refl _).grown MA19.out g19 _ _ _ Q13
  clear MA19 CA19 LA19 M19 C19 g19
  go_wp2
  go_ret
  refine ⟨_, rfl, fun k r hr => ?_, L20.out⟩
  have hmb := M20.lt
  unfold ruleOf at hr
  split at hr
  · rename_i hk
    cases hr
    subst hk
    have hq : HB w19 (W5.heap.size + 1 + 1) #[.int .i64 1, .int .i64 2] 71 := by have h := Q1; rw [show w0.heap.size = W5.heap.size + 1 + 1 by omega] at h; exact h
    exact ⟨_, _, some ⟨W5.heap.size + 1 + 1, 0, none⟩, 2, hmb, M20, by kernel_rfl, .inr ⟨_, rfl, hq.lt, hq⟩⟩
  split at hr
  · rename_i hk
    cases hr
    subst hk
    have hq : HB w19 (W5.heap.size + 1 + 1 + 1) #[.int .i64 2] 71 := by have h := Q2; rw [show w1.heap.size = W5.heap.size + 1 + 1 + 1 by omega] at h; exact h
    exact ⟨_, _, some ⟨W5.heap.size + 1 + 1 + 1, 0, none⟩, 1, hmb, M20, by kernel_rfl, .inr ⟨_, rfl, hq.lt, hq⟩⟩
  split at hr
  · rename_i hk
    cases hr
    subst hk
    have hq := C20 _ _ _ Ha.out
    exact ⟨_, _, some ⟨w.heap.size, 0, none⟩, 2, hmb, M20, by kernel_rfl, .inr ⟨_, rfl, hq.lt, hq⟩⟩
  split at hr
  · rename_i hk
    cases hr
    subst hk
    have hq := C20 _ _ _ Hc.out
    exact ⟨_, _, some ⟨w.heap.size + 1 + 1, 0, none⟩, 2, hmb, M20, by kernel_rfl, .inr ⟨_, rfl, hq.lt, hq⟩⟩
  split at hr
  · rename_i hk
    cases hr
    subst hk
    have hq : HB w19 (W5.heap.size + 1 + 1 + 1 + 1 + 1) #[.int .i64 5, .int .i64 6] 71 := by have h := Q12; rw [show w11.heap.size = W5.heap.size + 1 + 1 + 1 + 1 + 1 by omega] at h; exact h
    exact ⟨_, _, some ⟨W5.heap.size + 1 + 1 + 1 + 1 + 1, 0, none⟩, 2, hmb, M20, by kernel_rfl, .inr ⟨_, rfl, hq.lt, hq⟩⟩
  split at hr
  · rename_i hk
    cases hr
    subst hk
    exact ⟨_, _, none, 0, hmb, M20, by kernel_rfl, .inl rfl⟩
  split at hr
  · rename_i hk
    cases hr
    subst hk
    exact ⟨_, _, none, 0, hmb, M20, by kernel_rfl, .inl rfl⟩
  split at hr
  · rename_i hk
    cases hr
    subst hk
    exact ⟨_, _, none, 0, hmb, M20, by kernel_rfl, .inl rfl⟩
  split at hr
  · rename_i hk
    cases hr
    subst hk
    have hq : HB w19 (W5.heap.size + 1 + 1 + 1 + 1 + 1 + 1) #[.int .i64 7] 71 := by have h := Q13; rw [show w12.heap.size = W5.heap.size + 1 + 1 + 1 + 1 + 1 + 1 by omega] at h; exact h
    exact ⟨_, _, some ⟨W5.heap.size + 1 + 1 + 1 + 1 + 1 + 1, 0, none⟩, 1, hmb, M20, by kernel_rfl, .inr ⟨_, rfl, hq.lt, hq⟩⟩
  split at hr
  · rename_i hk
    cases hr
    subst hk
    have hq : HB w19 (W5.heap.size + 1 + 1 + 1 + 1) #[.int .i64 4] 71 := by have h := Q9; rw [show w8.heap.size = W5.heap.size + 1 + 1 + 1 + 1 by omega] at h; exact h
    exact ⟨_, _, some ⟨W5.heap.size + 1 + 1 + 1 + 1, 0, none⟩, 1, hmb, M20, by kernel_rfl, .inr ⟨_, rfl, hq.lt, hq⟩⟩
  · cases hr
end Go.Proofs.YtpohpgahnompbaaGreatDoor.Code
