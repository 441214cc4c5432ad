/-
  Contracts of num.Narrow, value.holds and value.Right, for every argument (cut out of CodeVal).
-/
import Derived.Test.YtjjikooabmddlaaGreatDoorM1
import Derived.Test.YtjjikooabmddlaaGreatDoorM4
import Derived.Test.YtjjikooabmddlaaGreatDoorChecked
import Derived.Test.YtjjikooabmddlaaGreatDoorShelf
import Derived.Shelf.Strings.BuilderK
import Derived.Lib.OthersKept
import Derived.WalkKit
import Derived.ProofKit
import Derived.Below
import Derived.Test.YtjjikooabmddlaaGreatDoorM2
import Derived.Deep.RegionHeld3
import Derived.Lib.SmallJoins
namespace Go.Proofs.YtjjikooabmddlaaGreatDoor.Val
open Go.ChangeShapes Go.WideShapes Go.ChangeAt Go.RowKit
set_option linter.unusedVariables false

def nrE (n : Int) : Int := if -2147483648 ≤ n ∧ n ≤ 2147483647 then 0 else 12
def nrV (n : Int) : Int := if -2147483648 ≤ n ∧ n ≤ 2147483647 then n else 0

theorem narrow_any (a : Int) (w : World) (ha : fits a) :
    Calls Tryz.prog 92 #[.int .i64 a] w fun e w' => e = .returned (.tuple #[.int .i32 (nrV a), .int .i64 (nrE a)]) ∧ w = w' := by
  unfold fits at ha
  go_enter Tryz.func92, Tryz.ntmps92
  go_wp2
  all_goals go_ret2
  all_goals refine ⟨ret2 ?_ ?_, rfl⟩
  all_goals (try unfold wrap64 at *)
  all_goals (try unfold wrap32 at *)
  all_goals (first | unfold nrV | unfold nrE)
  all_goals ((try simp at *) <;> omega)

set_option maxHeartbeats 400000 in
theorem holds_any (k n : Int) (w : World) (hn : fits n) :
    Calls Tryz.prog 72 #[.int .i64 k, .int .i64 n] w fun e w' => e = .returned (.bool (holdsB k n)) ∧ w = w' := by
  by_cases h1 : k = 1
  · subst h1
    unfold fits at hn
    go_enter Tryz.func72, Tryz.ntmps72
    go_wp2
    go_ret
    exact ⟨retB (by unfold holdsB; rw [if_pos rfl]; refine decide_eq_decide.2 ?_; rw [IntKind.wrap_u64]; omega), rfl⟩
  by_cases h2 : k = 2
  · subst h2
    go_enter Tryz.func72, Tryz.ntmps72
    go_wp2_with (go_at_call 92; refine (narrow_any _ _ hn).mono ?_; rintro e w' ⟨rfl, rfl⟩)
    go_ret
    exact ⟨retB (by unfold holdsB nrE; by_cases h : -2147483648 ≤ n ∧ n ≤ 2147483647 <;> simp [h]), rfl⟩
  · have e1 : (k == 1) = false := by simpa using h1
    have e2 : (k == 2) = false := by simpa using h2
    go_enter Tryz.func72, Tryz.ntmps72
    go_wp2
    go_ret
    exact ⟨retB (by unfold holdsB; by_cases h3 : k = 3 <;> simp [h1, h2, h3]), rfl⟩

set_option maxHeartbeats 1000000 in
theorem right_any (k n : Int) (s : ByteArray) (w : World) (hn : fits n) :
    Calls Tryz.prog 55 #[.agg #[.int .i64 k, .int .i64 n, .string s]] w fun e w' => e = .returned (.bool (rightB k n s)) ∧ Below w.heap.size w w' := by
  have hb0 : ∀ o, Below w.heap.size w (w.alloc o) := fun o => (Below.refl _ _).alloc (Nat.le_refl _) o
  by_cases h4 : k = 4
  · subst h4
    by_cases hl : s.size ≤ 200
    · have hl' : decide (200 < s.size) = false := by simpa using hl
      by_cases h0 : n = 0
      all_goals
        go_enter Tryz.func55, Tryz.ntmps55
        go_wp2
        go_ret
        exact ⟨retB (by unfold rightB; simp [h0, hl]), by first | exact hb0 _ | exact (hb0 _).setCell (by simp) _⟩
    · have hl' : 200 < s.size := by omega
      go_enter Tryz.func55, Tryz.ntmps55
      go_wp2
      go_ret
      exact ⟨retB (by unfold rightB; simp; omega), by first | exact hb0 _ | exact (hb0 _).setCell (by simp) _⟩
  by_cases hk0 : k = 0
  · subst hk0
    by_cases hs : s.size = 0
    · obtain rfl := size0 hs
      by_cases h0 : n = 0
      all_goals
        go_enter Tryz.func55, Tryz.ntmps55
        go_wp2
        go_ret
        exact ⟨retB (by unfold rightB; simp [h0]; try rfl), hb0 _⟩
    · obtain ⟨e1, e2, e3⟩ := size_pos hs
      by_cases h0 : n = 0
      all_goals
        go_enter Tryz.func55, Tryz.ntmps55
        go_wp2
        go_ret
        exact ⟨retB (by unfold rightB; simp [h0, hs]), hb0 _⟩
  have k4 : (k == 4) = false := by simpa using h4
  have k0 : (k == 0) = false := by simpa using hk0
  by_cases hs : s.size = 0
  · obtain rfl := size0 hs
    go_enter Tryz.func55, Tryz.ntmps55
    go_wp2_with (go_at_call 72; refine (holds_any _ _ _ hn).mono ?_; rintro e w' ⟨rfl, rfl⟩)
    all_goals go_ret
    all_goals exact ⟨retB (by unfold rightB; simp [h4, hk0]; try (intro _; rfl)), hb0 _⟩
  · obtain ⟨e1, e2, e3⟩ := size_pos hs
    go_enter Tryz.func55, Tryz.ntmps55
    go_wp2_with (go_at_call 72; refine (holds_any _ _ _ hn).mono ?_; rintro e w' ⟨rfl, rfl⟩)
    all_goals go_ret
    all_goals exact ⟨retB (by unfold rightB; simp [h4, hk0, hs]), hb0 _⟩

end Go.Proofs.YtjjikooabmddlaaGreatDoor.Val
namespace Go.Proofs.YtjjikooabmddlaaGreatDoor.Code
open Go.ChangeShapes Go.WideShapes Go.ChangeAt Go.RowKit Val
theorem right_is (k n : Int) (s : ByteArray) (b : Bool) (hn : fits n) (h : rightB k n s = b) (w : World) :
    Calls Tryz.prog 55 #[.agg #[.int .i64 k, .int .i64 n, .string s]] w fun e w' => e = .returned (.bool b) ∧ Below w.heap.size w w' := by
  have := right_any k n s w hn
  rw [h] at this
  exact this

end Go.Proofs.YtjjikooabmddlaaGreatDoor.Code
namespace Go.Proofs.YtjjikooabmddlaaGreatDoor.Val
end Go.Proofs.YtjjikooabmddlaaGreatDoor.Val

/-
  The contract of row.Right.
-/
namespace Go.Proofs.YtjjikooabmddlaaGreatDoor.Code
open Go.ChangeShapes Go.WideShapes Go.ChangeAt Go.RowKit Val
set_option linter.unusedVariables false

set_option maxHeartbeats 1000000 in
theorem rowRight_any (A : Option Addr) (cap : Nat) (l : List (Int × Int × ByteArray)) (w : World) (hv : Vals w w.heap.size A l) (hf : FitL l) (hl : l.length ≤ 140737488355328) :
    Calls Tryz.prog 38 #[.slice A l.length cap] w fun e w' => e = .returned (.bool (rightR l)) ∧ Below w.heap.size w w' := by
  have HV := Lib.hid hv
  have HF := Lib.hid hf
  clear hv hf
  by_cases hlen : l.length ≤ 24
  · have e1 : decide ((24 : Int) < (l.length : Int)) = false := by simp; omega
    have HD := Lib.hid (show rightR l = rightL l by unfold rightR; rw [decide_eq_true hlen]; rfl)
    go_enter Tryz.func38, Tryz.ntmps38
    go_wp2
    go_loopw [9] (fun i wr => ∃ k : Nat, k ≤ l.length ∧ i = .int .i64 k ∧ Hid (rightL (l.take k) = true) ∧ Below w.heap.size w wr) (fun i _ => l.length - (intOf i).toNat)
    case atStart => exact ⟨0, by omega, rfl, Lib.hid rfl, Below.refl _ _⟩
    case round =>
      obtain ⟨k, hk, rfl, HK, hbel⟩ := hrel
      have hsz := hbel.size
      have HL := Lib.hid hbel
      have VA := Lib.hid (HV.out.below hbel)
      clear hbel
      by_cases hkl : k < l.length
      · obtain ⟨ad, rfl, ha, c0, c1, c2⟩ := VA.out k hkl
        have HN := Lib.hid (HF.out l[k] (List.getElem_mem hkl))
        have HR := Lib.hid (rightL_snoc l k hkl)
        by_cases hr : rightV l[k] = true
        · have HR2 := Lib.hid (right_is l[k].1 l[k].2.1 l[k].2.2 true HN.out (by simpa [rightV] using hr))
          have HK2 := Lib.hid (show rightL (l.take (k + 1)) = true by rw [HR.out, HK.out, hr]; rfl)
          clear hr
          go_wp2_with fail
          refine (HR2.out _).mono ?_
          rintro e w1 ⟨rfl, hb1⟩
          have L1 := Lib.hid (bnext HL.out hsz hb1)
          clear hb1 c0 c1 c2
          go_wp2
          go_roundw
          case rel => exact ⟨k + 1, by omega, by go_num, HK2, L1.out⟩
          case measure => simp [intOf]; omega
        · have HR2 := Lib.hid (right_is l[k].1 l[k].2.1 l[k].2.2 false HN.out (by simpa [rightV] using hr))
          have HX := Lib.hid (rightL_not hkl (by simpa using hr))
          clear hr
          go_wp2_with fail
          refine (HR2.out _).mono ?_
          rintro e w1 ⟨rfl, hb1⟩
          have L1 := Lib.hid (bnext HL.out hsz hb1)
          clear hb1 c0 c1 c2
          go_wp2
          go_ret
          exact ⟨retB (by rw [HD.out, HX.out]), L1.out⟩
      · have HX := Lib.hid (show rightL l = true by have := HK.out; rwa [List.take_of_length_le (by omega)] at this)
        go_wp2
        go_ret
        exact ⟨retB (by rw [HD.out, HX.out]), HL.out⟩
  · have e1 : decide ((24 : Int) < (l.length : Int)) = true := by simp; omega
    have HD := Lib.hid (show rightR l = false by unfold rightR; rw [decide_eq_false hlen]; rfl)
    go_enter Tryz.func38, Tryz.ntmps38
    go_wp2
    go_ret
    exact ⟨retB HD.out.symm, Below.refl _ _⟩

end Go.Proofs.YtjjikooabmddlaaGreatDoor.Code

/-
  The builder's writers and strings.Clone of Go's library at this translation: what they keep beside the builder.
-/
namespace Go.Proofs.YtjjikooabmddlaaGreatDoor.Code
open Go.Shelf Go.RowKit

def ren167 : Go.Shelf.Ren := ⟨fun | 167 => 73 | 240 => 93 | 276 => 111 | n => n, fun | 72 => 122 | 70 => 119 | 37 => 120 | 75 => 124 | 164 => 164 | 80 => 129 | n => n, fun | n => n⟩
theorem lays167 : Go.Proofs.Lays.n167 Tryz.prog ren167 := {
  mixed := by kernel_rfl
  f167 := Tryz.func73.trans (congrArg some (by kernel_rfl))
  f240 := Tryz.func93.trans (congrArg some (by kernel_rfl))
  f276 := Tryz.func111.trans (congrArg some (by kernel_rfl))
  t0 := Tryz.underlying0
  a0 := Tryz.isAgg0
  z0 := Tryz.sizeOf0
  v0 := Tryz.zeroValue0
  t4 := Tryz.underlying4
  a4 := Tryz.isAgg4
  z4 := Tryz.sizeOf4
  v4 := Tryz.zeroValue4
  t5 := Tryz.underlying5
  a5 := Tryz.isAgg5
  z5 := Tryz.sizeOf5
  v5 := Tryz.zeroValue5
  t9 := Tryz.underlying9
  a9 := Tryz.isAgg9
  z9 := Tryz.sizeOf9
  v9 := Tryz.zeroValue9
  t20 := Tryz.underlying20
  a20 := Tryz.isAgg20
  z20 := Tryz.sizeOf20
  v20 := Tryz.zeroValue20
  t37 := Tryz.underlying120
  a37 := Tryz.isAgg120
  z37 := Tryz.sizeOf120
  v37 := Tryz.zeroValue120
  t70 := Tryz.underlying119
  a70 := Tryz.isAgg119
  z70 := Tryz.sizeOf119
  v70 := Tryz.zeroValue119
  t72 := Tryz.underlying122
  a72 := Tryz.isAgg122
  z72 := Tryz.sizeOf122
  v72 := Tryz.zeroValue122
  t75 := Tryz.underlying124
  a75 := Tryz.isAgg124
  z75 := Tryz.sizeOf124
  v75 := Tryz.zeroValue124
  t164 := Tryz.underlying164
  a164 := Tryz.isAgg164
  z164 := Tryz.sizeOf164
  v164 := Tryz.zeroValue164 }
theorem extra167 : Builder.Extra Tryz.prog ren167 := {
  sizeBuilder := by kernel_rfl
  liesBuilder := by kernel_rfl
  t5 := Tryz.underlying5
  a5 := Tryz.isAgg5
  z5 := Tryz.sizeOf5
  v5 := Tryz.zeroValue5
  infoByte := by kernel_rfl
  cellsByte := by kernel_rfl
  sizeByte := by kernel_rfl
  neB5 := by decide }
/-- the builder in block b, of base B, holds these bytes -/
def Bld (B b : Nat) (l : List UInt8) (w : World) : Prop := Lib.IsBuilderF 122 5 B b (Lib.byteCells l) w
theorem writeByte_k (B b : Nat) (l : List UInt8) (c : UInt8) (w : World) (h : Bld B b l w) (hlen : l.length + 1 ≤ 140737488355328) (hBw : B ≤ w.heap.size) :
    Calls Tryz.prog 73 #[.pointer (some ⟨b, 0, none⟩), .int .u8 (c.toNat : Int)] w fun e w' => e = .returned .nilIface ∧ Bld B b (l ++ [c]) w' ∧ Below B w w' ∧ Lib.OthersKept 5 (some b) w w' := by
  refine (Any.Builder_WriteByte_k lays167 extra167 B b (Lib.byteCells l) c.toNat w h (by simpa [Lib.byteCells] using hlen) hBw).mono ?_
  rintro e w' ⟨he, h1, h2, h3⟩
  refine ⟨he, Or.inr ?_, h2, h3⟩
  have e1 : Lib.byteCells (l ++ [c]) = Lib.byteCells l ++ [.int .u8 (c.toNat : Int)] := by simp [Lib.byteCells]
  rw [e1]
  exact h1
theorem writeString_k (B b : Nat) (l : List UInt8) (s : ByteArray) (w : World) (h : Bld B b l w) (hlen : l.length + s.size ≤ 140737488355328) (hBw : B ≤ w.heap.size) :
    Calls Tryz.prog 74 #[.pointer (some ⟨b, 0, none⟩), .string s] w fun e w' => e = .returned (.tuple #[.int .i64 s.size, .nilIface]) ∧ Bld B b (l ++ s.data.toList) w' ∧ Below B w w' ∧ Lib.OthersKept 5 (some b) w w' := by
  refine (Any.Builder_WriteString_k { Tryz.lays155 with } Tryz.Builder_Extra_155 B b (Lib.byteCells l) s w h (by simpa [Lib.byteCells] using hlen) hBw).mono ?_
  rintro e w' ⟨he, h1, h2, h3⟩
  refine ⟨he, Or.inr ?_, h2, h3⟩
  have e1 : Lib.byteCells (l ++ s.data.toList) = Lib.byteCells l ++ Lib.strCells s := by simp [Lib.byteCells, Lib.strCells]
  rw [e1]
  exact h1
theorem string_k (B b : Nat) (l : List UInt8) (w : World) (h : Bld B b l w) (hBw : B ≤ w.heap.size) :
    Calls Tryz.prog 76 #[.pointer (some ⟨b, 0, none⟩)] w fun e w' => e = .returned (.string ⟨l.toArray⟩) ∧ Bld B b l w' ∧ Below B w w' ∧ Lib.OthersKept 5 (some b) w w' :=
  Any.Builder_String_any_k Tryz.lays169 Tryz.Builder_Extra_169 B b l w h hBw
theorem Bld.fresh (w : World) : Bld w.heap.size w.heap.size [] (w.alloc (.cells #[.pointer none, .slice none 0 0] 122)) :=
  Lib.IsBuilderF.of (Lib.fresh_isBuilder _ _ w)
theorem Bld.call {B b : Nat} {l : List UInt8} {w w' : World} (h : Bld B b l w) (hb : Below w.heap.size w w') : Bld B b l w' := by
  refine h.elim (fun x => .inl ?_) (fun x => .inr ?_)
  all_goals
    obtain ⟨hB, v, hbk, hown, hne⟩ := x
    have hlt : b < w.heap.size := (Array.getElem?_eq_some_iff.1 hbk).1
    refine ⟨hB, v, (hb.block _ hlt).trans hbk, ⟨hown.1, ?_⟩, hne⟩
    rcases hown.2 with hn | ⟨g, cap, cur, fz, hv, hbg, hg, rest⟩
    · exact .inl hn
    · have hg2 : g < w.heap.size := (Array.getElem?_eq_some_iff.1 hg).1
      exact .inr ⟨g, cap, cur, fz, hv, hbg, (hb.block _ hg2).trans hg, rest⟩
theorem Bld.alloc {B b : Nat} {l : List UInt8} {w : World} (h : Bld B b l w) (o : Obj) : Bld B b l (w.alloc o) := h.call ((Below.refl _ _).alloc (Nat.le_refl _) o)
theorem Bld.lt {B b : Nat} {l : List UInt8} {w : World} (h : Bld B b l w) : b < w.heap.size := by
  rcases h with ⟨_, v, hbk, _⟩ | ⟨_, v, hbk, _⟩
  all_goals exact (Array.getElem?_eq_some_iff.1 hbk).1
end Go.Proofs.YtjjikooabmddlaaGreatDoor.Code

/-
  Contracts of package code's put and body, for every argument (cut out of CodeCalls).
-/
namespace Go.Proofs.YtjjikooabmddlaaGreatDoor.Code
open Go.ChangeShapes Go.WideShapes Go.ChangeAt Go.RowKit Val
set_option linter.unusedVariables false

theorem retS {a c : ByteArray} (h : a = c) : Ending.returned (.string a) = .returned (.string c) := by rw [h]
theorem ba_of {a : ByteArray} {l : List UInt8} (h : a.data.toList = l) : a = ⟨l.toArray⟩ := by
  obtain ⟨⟨m⟩⟩ := a
  simp at h
  rw [h]
theorem cons_eq {a b : UInt8} {l m : List UInt8} (h : a = b) (g : l = m) : a :: l = b :: m := by rw [h, g]
theorem ofNat_eq {a b : Int} (h : a = b) : UInt8.ofNat a.toNat = UInt8.ofNat b.toNat := by rw [h]
theorem putS_be (a : Int) (h : Num.fitsU a) : Num.putS a = ⟨(be 8 a).toArray⟩ := by
  unfold Num.fitsU at h
  refine ba_of ?_
  unfold Num.putS
  rw [strOfNums_data]
  simp only [Num.putL, List.map_cons, List.map_nil, be, byt]
  have p7 : (256 : Int) ^ 7 = 72057594037927936 := by decide
  have p6 : (256 : Int) ^ 6 = 281474976710656 := by decide
  have p5 : (256 : Int) ^ 5 = 1099511627776 := by decide
  have p4 : (256 : Int) ^ 4 = 4294967296 := by decide
  have p3 : (256 : Int) ^ 3 = 16777216 := by decide
  have p2 : (256 : Int) ^ 2 = 65536 := by decide
  have p1 : (256 : Int) ^ 1 = 256 := by decide
  have p0 : (256 : Int) ^ 0 = 1 := by decide
  rw [p7, p6, p5, p4, p3, p2, p1, p0]
  repeat (first | rfl | refine cons_eq (ofNat_eq (by omega)) ?_)
theorem strOf_be4 {u x0 x1 x2 x3 : Int} (h : 0 ≤ u ∧ u < 4294967296) (h0 : x0 = u / 16777216) (h1 : x1 = u / 65536 % 256) (h2 : x2 = u / 256 % 256) (h3 : x3 = u % 256) : strOfNums [x0, x1, x2, x3] = ⟨(be 4 u).toArray⟩ := by
  refine ba_of ?_
  rw [strOfNums_data]
  simp only [List.map_cons, List.map_nil, be, byt]
  have p3 : (256 : Int) ^ 3 = 16777216 := by decide
  have p2 : (256 : Int) ^ 2 = 65536 := by decide
  have p1 : (256 : Int) ^ 1 = 256 := by decide
  have p0 : (256 : Int) ^ 0 = 1 := by decide
  rw [p3, p2, p1, p0]
  repeat (first | rfl | refine cons_eq (ofNat_eq (by omega)) ?_)
theorem be8_drop {u : Int} (h : 0 ≤ u ∧ u < 4294967296) : (be 8 u).drop 4 = be 4 u := by
  have p7 : (256 : Int) ^ 7 = 72057594037927936 := by decide
  have p6 : (256 : Int) ^ 6 = 281474976710656 := by decide
  have p5 : (256 : Int) ^ 5 = 1099511627776 := by decide
  have p4 : (256 : Int) ^ 4 = 4294967296 := by decide
  show be 4 (u % 256 ^ 7 % 256 ^ 6 % 256 ^ 5 % 256 ^ 4) = _
  rw [p7, p6, p5, p4]
  congr 1
  omega
theorem conv4 (w : World) (x0 x1 x2 x3 : Int) (t : TypeId) :
    (convert 120 9 (.slice (some ⟨w.heap.size, 0, none⟩) 4 4)).run Tryz.prog (w.alloc (.cells #[.int .u8 x0, .int .u8 x1, .int .u8 x2, .int .u8 x3] t))
      = .ok (.string (strOfNums [x0, x1, x2, x3])) (w.alloc (.cells #[.int .u8 x0, .int .u8 x1, .int .u8 x2, .int .u8 x3] t)) := by
  refine run_convert_bytes_arg _ 120 5 Tryz.underlying120 Tryz.underlying5 w.heap.size 0 4 4 [x0, x1, x2, x3] rfl ?_ 9 Tryz.underlying9
  intro i hi
  rcases i with _ | _ | _ | _ | i
  all_goals first | (simp [go_sem]; done) | omega
theorem conv1 (w : World) (x0 : Int) (t : TypeId) :
    (convert 120 9 (.slice (some ⟨w.heap.size, 0, none⟩) 1 1)).run Tryz.prog (w.alloc (.cells #[.int .u8 x0] t))
      = .ok (.string (strOfNums [x0])) (w.alloc (.cells #[.int .u8 x0] t)) := by
  refine run_convert_bytes_arg _ 120 5 Tryz.underlying120 Tryz.underlying5 w.heap.size 0 1 1 [x0] rfl ?_ 9 Tryz.underlying9
  intro i hi
  rcases i with _ | i
  all_goals first | (simp [go_sem]; done) | omega

theorem cput_any (u : Int) (w : World) (hu : 0 ≤ u ∧ u < 4294967296) :
    Calls Tryz.prog 94 #[.int .u32 u] w fun e w' => e = .returned (.string ⟨(be 4 u).toArray⟩) ∧ Below w.heap.size w w' := by
  have hc := conv4
  go_enter Tryz.func94, Tryz.ntmps94
  go_wp2
  go_ret
  exact ⟨retS (strOf_be4 hu rfl rfl rfl rfl), (Below.refl _ _).alloc (Nat.le_refl _) _⟩
theorem xor_low32 (x : Nat) (h : x < 2 ^ 31) : x ^^^ 2 ^ 31 = 2 ^ 31 + x := by
  apply Nat.eq_of_testBit_eq
  intro i
  rw [Nat.testBit_xor, Nat.testBit_two_pow]
  rcases Nat.lt_trichotomy i 31 with g | g | g
  · rw [Nat.testBit_two_pow_add_gt g, decide_eq_false (by omega : ¬ 31 = i)]; simp
  · subst g; rw [Nat.testBit_two_pow_add_eq]; simp [Nat.testBit_lt_two_pow h]
  · have h2 : 2 ^ 31 + x < 2 ^ i := by
      have : 2 ^ 32 ≤ 2 ^ i := Nat.pow_le_pow_right (by decide) g
      omega
    have h3 : x < 2 ^ i := by omega
    rw [Nat.testBit_lt_two_pow h2, Nat.testBit_lt_two_pow h3, decide_eq_false (by omega : ¬ 31 = i)]; rfl
theorem xor_high32 (x : Nat) (h : 2 ^ 31 ≤ x) (h2 : x < 2 ^ 32) : x ^^^ 2 ^ 31 = x - 2 ^ 31 := by
  obtain ⟨y, rfl⟩ : ∃ y, x = 2 ^ 31 + y := ⟨x - 2 ^ 31, by omega⟩
  rw [← xor_low32 y (by omega), Nat.xor_assoc, Nat.xor_self, Nat.xor_zero, xor_low32 y (by omega)]
  omega
theorem bits_top32 (a : Int) (h : 0 ≤ a ∧ a < 4294967296) : bits .xor .u32 a 2147483648 = if a < 2147483648 then a + 2147483648 else a - 2147483648 := by
  obtain ⟨n, rfl⟩ := Int.eq_ofNat_of_zero_le h.1
  have h1 : (BitVec.ofInt 32 (n : Int)).toNat = n := by
    rw [BitVec.ofInt_natCast, BitVec.toNat_ofNat]; exact Nat.mod_eq_of_lt (by omega)
  have h2 : (BitVec.ofInt 32 (2147483648 : Int)).toNat = 2 ^ 31 := by decide
  show IntKind.u32.wrap ((BitVec.ofInt 32 (n : Int) ^^^ BitVec.ofInt 32 (2147483648 : Int)).toNat : Int) = _
  rw [BitVec.toNat_xor, h1, h2, IntKind.wrap_u32]
  by_cases g : n < 2 ^ 31
  · rw [xor_low32 n g, if_pos (by omega)]; omega
  · rw [xor_high32 n (by omega) (by omega), if_neg (by omega)]; omega
theorem top_there {n : Int} (h : -2147483648 ≤ n ∧ n ≤ 2147483647) : bits .xor .u32 (n % 4294967296) 2147483648 = n + 2147483648 := by
  rw [bits_top32 _ (by omega)]
  split <;> omega
theorem strCat (l m : List UInt8) : (⟨l.toArray⟩ : ByteArray) ++ (⟨m.toArray⟩ : ByteArray) = ⟨(l ++ m).toArray⟩ :=
  ba_of (Go.Joins.data_append _ _)
theorem rep0 (m : Int) (s : ByteArray) (w : World) (hs : s.size ≤ 200) (hm : w.cell? ⟨0, 0, none⟩ = some (.int .i64 m)) :
    Calls Tryz.prog 97 #[.string s, .string ⟨#[0]⟩, .string ⟨#[0, 255]⟩] w fun e w' => e = .returned (.string ⟨(esc s.data.toList).toArray⟩) ∧ Below w.heap.size w w' := by
  have hc := Lib.countB_mul_le ⟨#[0]⟩ (by decide) s.size s (Nat.le_refl _)
  rw [show (⟨#[0]⟩ : ByteArray).size = 1 from rfl] at hc
  have h := Tryz.strings_ReplaceAll s ⟨#[0]⟩ ⟨#[0, 255]⟩ m w (by omega) hm (by decide) (by rw [show (⟨#[0, 255]⟩ : ByteArray).size = 2 from rfl]; omega)
  rw [show Lib.replaceAll s.data.toList (⟨#[0]⟩ : ByteArray).data.toList (⟨#[0, 255]⟩ : ByteArray).data.toList = esc s.data.toList from rep_esc _] at h
  exact h
/-- a right value's bytes behind that of its kind -/
theorem body_any (k n : Int) (s : ByteArray) (m : Int) (w : World) (hr : rightV (k, n, s) = true) (hf : fitV (k, n, s)) (hm : w.cell? ⟨0, 0, none⟩ = some (.int .i64 m)) :
    Calls Tryz.prog 75 #[.agg #[.int .i64 k, .int .i64 n, .string s]] w fun e w' => e = .returned (.string ⟨(bodyP (k, n, s)).toArray⟩) ∧ Below w.heap.size w w' := by
  have hlt : 0 < w.heap.size := World.block_lt_of_cell? _ _ hm
  have hk := right_k hr
  simp only at hk
  have HM := Lib.hid hm
  clear hm
  rcases hk with rfl | rfl | rfl | rfl | rfl
  · go_enter Tryz.func75, Tryz.ntmps75
    go_wp2
    go_ret
    exact ⟨retS rfl, below_alloc _ _⟩
  · have h1 := (right_1 hr).1
    have h2 : 0 ≤ n ∧ n ≤ 255 := by omega
    have hc := conv1 (w.alloc (.cells #[.int .i64 1, .int .i64 n, .string s] 51))
    rw [show (w.alloc (.cells #[.int .i64 1, .int .i64 n, .string s] 51)).heap.size = w.heap.size + 1 by simp] at hc
    go_enter Tryz.func75, Tryz.ntmps75
    go_wp2
    go_ret
    refine ⟨retS ?_, (below_alloc _ _).alloc (by simp) _⟩
    rcases h1 with rfl | rfl <;> rfl
  · have h1 := (right_2 hr).1
    have HT := Lib.hid (top_there h1)
    have h2 : 0 ≤ n + 2147483648 ∧ n + 2147483648 < 4294967296 := by omega
    go_enter Tryz.func75, Tryz.ntmps75
    go_wp2_with fail
    rw [HT.out]
    refine (cput_any _ _ h2).mono ?_
    rintro e w1 ⟨rfl, hb⟩
    go_wp2
    go_ret
    exact ⟨retS rfl, bnext (below_alloc w _) (by simp) hb⟩
  · have h1 : Num.fits n := hf
    have HT := Lib.hid (putS_be (Num.flip n) (Num.flip_fits h1))
    go_enter Tryz.func75, Tryz.ntmps75
    go_wp2_with fail
    refine (Num.flip_any _ _ h1).mono ?_
    rintro e w' ⟨rfl, rfl⟩
    go_wp2_with fail
    refine (Num.put_any _ _ (Num.flip_fits h1)).mono ?_
    rintro e w1 ⟨rfl, hb⟩
    go_wp2
    go_ret
    exact ⟨retS (by rw [HT.out]; rfl), bnext (below_alloc w _) (by simp) hb⟩
  · have h1 := (right_4 hr).2
    have hle : (esc s.data.toList).length ≤ 400 := by have := esc_length s.data.toList; have e : s.data.toList.length = s.size := rfl; omega
    go_enter Tryz.func75, Tryz.ntmps75
    go_wp2_with fail
    refine (rep0 m s _ h1 (by rw [(below_alloc w _).cell (p := ⟨0, 0, none⟩) hlt]; exact HM.out)).mono ?_
    rintro e w1 ⟨rfl, hb⟩
    go_wp2
    go_ret
    exact ⟨retS (strCat _ _), bnext (below_alloc w _) (by simp) hb⟩

end Go.Proofs.YtjjikooabmddlaaGreatDoor.Code

/-
  The contract of code.Encode, for every list of values (cut out of CodeEnc).
-/
namespace Go.Proofs.YtjjikooabmddlaaGreatDoor.Code
open Go.ChangeShapes Go.WideShapes Go.ChangeAt Go.RowKit Val
set_option linter.unusedVariables false

theorem writeByte_i (B b : Nat) (l : List UInt8) (k : Int) (hk : 0 ≤ k ∧ k < 256) (w : World) (h : Bld B b l w) (hlen : l.length + 1 ≤ 140737488355328) (hBw : B ≤ w.heap.size) :
    Calls Tryz.prog 73 #[.pointer (some ⟨b, 0, none⟩), .int .u8 k] w fun e w' => e = .returned .nilIface ∧ Bld B b (l ++ [byt k]) w' ∧ Below B w w' ∧ Lib.OthersKept 5 (some b) w w' := by
  have h2 := writeByte_k B b l (byt k) w h hlen hBw
  rw [byt_toNat hk.1 hk.2] at h2
  exact h2
theorem encL_snoc (l : List (Int × Int × ByteArray)) (k : Nat) (h : k < l.length) : encL (l.take (k + 1)) = encL (l.take k) ++ encV l[k] := by
  unfold encL
  rw [List.take_succ_eq_append_getElem h, List.flatMap_append]
  simp
def encS (l : List (Int × Int × ByteArray)) : ByteArray := if rightL l then ⟨(encL l).toArray⟩ else ⟨#[]⟩
def encE (l : List (Int × Int × ByteArray)) : Int := if rightL l then 0 else 1
theorem enc_yes {l : List (Int × Int × ByteArray)} (h : rightL l = true) : encS l = ⟨(encL l).toArray⟩ ∧ encE l = 0 := by
  unfold encS encE
  rw [h]
  exact ⟨rfl, rfl⟩
theorem enc_no {l : List (Int × Int × ByteArray)} (h : rightL l = false) : encS l = ⟨#[]⟩ ∧ encE l = 1 := by
  unfold encS encE
  rw [h]
  exact ⟨rfl, rfl⟩
theorem retSE {a c : ByteArray} {b d : Int} (h : a = c) (g : b = d) : Ending.returned (.tuple #[.string a, .int .i64 b]) = .returned (.tuple #[.string c, .int .i64 d]) := by rw [h, g]
set_option maxHeartbeats 4000000 in
theorem encode_any (A : Option Addr) (cap : Nat) (l : List (Int × Int × ByteArray)) (m : Int) (w : World) (hv : Vals w w.heap.size A l) (hf : FitL l) (hl : l.length ≤ 300000000000) (hm : w.cell? ⟨0, 0, none⟩ = some (.int .i64 m)) :
    Calls Tryz.prog 56 #[.slice A l.length cap] w fun e w' => e = .returned (.tuple #[.string (encS l), .int .i64 (encE l)]) ∧ Below w.heap.size w w' := by
  have hlt : 0 < w.heap.size := World.block_lt_of_cell? _ _ hm
  have HM := Lib.hid hm
  have HV := Lib.hid hv
  have HF := Lib.hid hf
  clear hm hv hf
  go_enter Tryz.func56, Tryz.ntmps56
  go_wp2
  have HB0 := Lib.hid (Bld.fresh w)
  have HL0 := Lib.hid (below_alloc w (.cells #[.pointer none, .slice none 0 0] 122))
  go_loopw [9] (fun i wr => ∃ k : Nat, k ≤ l.length ∧ i = .int .i64 k ∧ Hid (rightL (l.take k) = true) ∧ Bld w.heap.size w.heap.size (encL (l.take k)) wr ∧ Below w.heap.size w wr) (fun i _ => l.length - (intOf i).toNat)
  case atStart => exact ⟨0, by omega, rfl, Lib.hid rfl, HB0.out, HL0.out⟩
  case round =>
    obtain ⟨k, hk, rfl, HK, hbd, hbel⟩ := hrel
    have hsz := hbel.size
    have hlen := encL_length HK.out
    rw [List.length_take_of_le hk] at hlen
    have HB := Lib.hid hbd
    have hblt := hbd.lt
    have HL := Lib.hid hbel
    have VA := Lib.hid (HV.out.below hbel)
    clear hbel hbd
    by_cases hkl : k < l.length
    · obtain ⟨ad, rfl, ha, c0, c1, c2⟩ := VA.out k hkl
      have HN := Lib.hid (HF.out l[k] (List.getElem_mem hkl))
      have HE := Lib.hid (encL_snoc l k hkl)
      have HR := Lib.hid (rightL_snoc l k hkl)
      by_cases hr : rightV l[k] = true
      · have HR2 := Lib.hid (right_is l[k].1 l[k].2.1 l[k].2.2 true HN.out (by simpa [rightV] using hr))
        have hk4 := right_k hr
        have HBY := Lib.hid (fun w => body_any l[k].1 l[k].2.1 l[k].2.2 m w hr HN.out)
        have hev := (enc_length hr).2
        have HEV := Lib.hid (show encV l[k] = byt l[k].1 :: bodyP l[k] from rfl)
        have hbl : (bodyP l[k]).length ≤ 402 := by rw [HEV.out] at hev; simp at hev; omega
        have hkk : 0 ≤ l[k].1 ∧ l[k].1 ≤ 255 := by omega
        have HK2 := Lib.hid (show rightL (l.take (k + 1)) = true by rw [HR.out, HK.out, hr]; rfl)
        clear hr hk4 hev
        go_wp2_with fail
        refine (HR2.out _).mono ?_
        rintro e w1 ⟨rfl, hb1⟩
        have L1 := Lib.hid (bnext (HL.out.alloc hsz _) (by simp; omega) hb1)
        have hz1 := L1.out.size
        have B1 := Lib.hid ((HB.out.alloc _).call hb1)
        have X1 := Lib.hid ((VBlk.fresh wr l[k].1 l[k].2.1 l[k].2.2).call hb1)
        obtain ⟨x0, x1, x2, xz⟩ := X1.out.box
        clear hb1
        go_wp2_with fail
        refine (writeByte_i _ _ _ l[k].1 ⟨hkk.1, by omega⟩ _ B1.out (by omega) hz1).mono ?_
        rintro e w2 ⟨rfl, hb2, hc2, ho2⟩
        have B2 := Lib.hid hb2
        have L2 := Lib.hid (L1.out.trans hc2)
        have hz2 := L2.out.size
        have X2 := Lib.hid (X1.out.others ho2 (by omega))
        clear hb2 hc2 ho2 x0 x1 x2 xz
        obtain ⟨x0, x1, x2, xz⟩ := X2.out.box
        go_wp2_with fail
        refine (HBY.out _ (by rw [L2.out.cell (p := ⟨0, 0, none⟩) hlt]; exact HM.out)).mono ?_
        rintro e w3 ⟨rfl, hb3⟩
        have B3 := Lib.hid (B2.out.call hb3)
        have L3 := Lib.hid (bnext L2.out hz2 hb3)
        have hz3 := L3.out.size
        clear hb3 x0 x1 x2 xz
        go_wp2_with fail
        refine (writeString_k _ _ _ ⟨(bodyP l[k]).toArray⟩ _ B3.out (by rw [List.length_append]; show _ + (bodyP l[k]).length ≤ _; simp; omega) hz3).mono ?_
        rintro e w4 ⟨rfl, hb4, hc4, _⟩
        have B4 := Lib.hid (show Bld w.heap.size w.heap.size (encL (l.take (k + 1))) w4 by rw [HE.out, HEV.out]; simpa using hb4)
        have L4 := Lib.hid (L3.out.trans hc4)
        clear hb4 hc4
        go_wp2
        go_roundw
        case rel => exact ⟨k + 1, by omega, by go_num, HK2, B4.out, L4.out⟩
        case measure => simp [intOf]; omega
      · have HR2 := Lib.hid (right_is l[k].1 l[k].2.1 l[k].2.2 false HN.out (by simpa [rightV] using hr))
        have HX := Lib.hid (enc_no (rightL_not hkl (by simpa using hr)))
        clear hr
        go_wp2_with fail
        refine (HR2.out _).mono ?_
        rintro e w1 ⟨rfl, hb1⟩
        have L1 := Lib.hid (bnext (HL.out.alloc hsz _) (by simp; omega) hb1)
        clear hb1
        go_wp2
        go_ret2
        exact ⟨retSE HX.out.1.symm HX.out.2.symm, L1.out⟩
    · obtain rfl : k = l.length := by omega
      rw [List.take_length] at HK HB
      have HX := Lib.hid (enc_yes HK.out)
      go_wp2_with fail
      refine (string_k _ _ _ _ HB.out hsz).mono ?_
      rintro e w1 ⟨rfl, _, hc1, _⟩
      have L1 := Lib.hid (HL.out.trans hc1)
      clear hc1
      go_wp2
      go_ret2
      exact ⟨retSE HX.out.1.symm HX.out.2.symm, L1.out⟩

end Go.Proofs.YtjjikooabmddlaaGreatDoor.Code
