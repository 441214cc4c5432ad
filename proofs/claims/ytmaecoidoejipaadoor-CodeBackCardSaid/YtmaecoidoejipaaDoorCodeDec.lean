/-
  The contract of code.Decode, for every text.
-/
import Derived.Test.YtmaecoidoejipaaDoorCodeEnc
import Derived.Maps.AppendAt
namespace Go.Proofs.YtmaecoidoejipaaDoor.Code
open Go.ChangeShapes Go.WideShapes Go.ChangeAt Go.RowKit Val
set_option linter.unusedVariables false

def cells3 (v : Int × Int × ByteArray) : List Value := [.int .i64 v.1, .int .i64 v.2.1, .string v.2.2]
/-- values as the cells of a row -/
def flat (l : List (Int × Int × ByteArray)) : List Value := l.flatMap cells3
theorem flat_length : ∀ l, (flat l).length = l.length * 3
  | [] => rfl
  | v :: l => by
    show (cells3 v ++ flat l).length = _
    rw [List.length_append, flat_length l, List.length_cons]
    show 3 + _ = _
    omega
theorem flat_at : ∀ (l : List (Int × Int × ByteArray)) (i : Nat) (h : i < l.length) (j : Nat), j < 3 → (flat l)[i * 3 + j]? = (cells3 l[i])[j]?
  | v :: l, 0, _, j, hj => by
    show (cells3 v ++ flat l)[0 * 3 + j]? = (cells3 v)[j]?
    rw [Nat.zero_mul, Nat.zero_add, List.getElem?_append_left hj]
  | v :: l, i + 1, h, j, hj => by
    show (cells3 v ++ flat l)[(i + 1) * 3 + j]? = _
    have hl : (cells3 v).length = 3 := rfl
    rw [List.getElem?_append_right (by omega), hl, show (i + 1) * 3 + j - 3 = i * 3 + j by omega]
    exact flat_at l i (by simpa using h) j hj
theorem flat_snoc (l : List (Int × Int × ByteArray)) (v : Int × Int × ByteArray) : flat (l ++ [v]) = flat l ++ cells3 v := by
  unfold flat
  rw [List.flatMap_append]
  simp
theorem info_val : (Tryd.prog.info? 32).map (fun i => (i.zero, i.size, i.bytes)) = some (some (.agg #[.int .i64 0, .int .i64 0, .string ByteArray.empty]), 3, 32) := by kernel_rfl
/-- a row of the call's own is a list of values -/
theorem own_vals {w : World} {B : Nat} {v : Value} {l : List (Int × Int × ByteArray)} (h : w.ownsRow B 32 3 v l.length (flat l)) : ∃ A cap, v = .slice A l.length cap ∧ Vals w w.heap.size A l := by
  rcases Nat.eq_zero_or_pos l.length with h0 | h0
  · have hn := List.eq_nil_of_length_eq_zero h0
    subst hn
    rcases h.2 with ⟨rfl, _⟩ | ⟨g, cap, cur, rfl, _⟩
    · exact ⟨none, 0, rfl, fun i hi => absurd hi (Nat.not_lt_zero _)⟩
    · exact ⟨some ⟨g, 0, none⟩, cap, rfl, fun i hi => absurd hi (Nat.not_lt_zero _)⟩
  · obtain ⟨g, cap, hv, hg, hlt⟩ := h.form h0
    have hc := h.cells (g := g) (by rw [hv]; rfl)
    refine ⟨some ⟨g, 0, none⟩, cap, hv, fun i hi => ⟨⟨g, 0, none⟩, rfl, hlt, ?_, ?_, ?_⟩⟩
    · exact hc (i * 3) _ (flat_at l i hi 0 (by omega))
    · rw [← add_next]; exact hc (i * 3 + 1) _ (flat_at l i hi 1 (by omega))
    · rw [← add_next]; exact hc (i * 3 + 2) _ (flat_at l i hi 2 (by omega))
theorem own_call {w w' : World} {B n size : Nat} {t : TypeId} {v : Value} {xs : List Value} (h : w.ownsRow B t size v n xs) (hb : Below w.heap.size w w') : w'.ownsRow B t size v n xs :=
  h.kept (row := none) ⟨hb.os, hb.tape, hb.output, hb.size, fun i hi _ => hb.block i hi⟩ (Classical.em _)
theorem first_is (s : ByteArray) (v : Int × Int × ByteArray) (n : Nat) (m : Int) (w : World) (h : firstP s.data.toList = some (v, n)) (hs : s.size ≤ 1000000) (hm : w.cell? ⟨0, 0, none⟩ = some (.int .i64 m)) :
    Calls Tryd.prog 22 #[.string s] w fun e w' => e = .returned (.tuple #[.agg #[.int .i64 v.1, .int .i64 v.2.1, .string v.2.2], .int .i64 (n : Nat)]) ∧ Below w.heap.size w w' := by
  have := first_any s m w hs hm
  rw [(fst_some h).1, (fst_some h).2] at this
  exact this
theorem first_not (s : ByteArray) (m : Int) (w : World) (h : firstP s.data.toList = none) (hs : s.size ≤ 1000000) (hm : w.cell? ⟨0, 0, none⟩ = some (.int .i64 m)) :
    Calls Tryd.prog 22 #[.string s] w fun e w' => e = .returned (.tuple #[.agg #[.int .i64 0, .int .i64 0, .string ⟨#[]⟩], .int .i64 0]) ∧ Below w.heap.size w w' := by
  have := first_any s m w hs hm
  rw [(fst_none h).1, (fst_none h).2] at this
  exact this
theorem row3_new (w : World) (o : Obj) (k n : Int) (t : ByteArray) (ty : TypeId) : ∀ (j : Nat) (u : Value), (cells3 (k, n, t))[j]? = some u → ((w.alloc o).alloc (.cells #[.int .i64 k, .int .i64 n, .string t] ty)).cell? ((⟨w.heap.size + 1, 0, none⟩ : Addr).add j) = some u := by
  have h := heap_alloc_new (w.alloc o) (.cells #[.int .i64 k, .int .i64 n, .string t] ty)
  rw [show (w.alloc o).heap.size = w.heap.size + 1 by simp] at h
  exact World.news_of_block h
def strSize : Value → Nat
  | .string s => s.size
  | _ => 0
def decL (s : List UInt8) : List (Int × Int × ByteArray) := (decP s).getD []
def decE (s : List UInt8) : Int := if decP s = none then 41 else 0
def DecPost (w : World) (s : List UInt8) (e : Ending) (w' : World) : Prop :=
  ∃ (A : Option Addr) (cap : Nat), e = .returned (.tuple #[.slice A (decL s).length cap, .int .i64 (decE s)]) ∧ Vals w' w'.heap.size A (decL s) ∧ Below w.heap.size w w'
theorem dec_none {w w' : World} {s : List UInt8} (h : decP s = none) (hb : Below w.heap.size w w') : DecPost w s (.returned (.tuple #[.slice none 0 0, .int .i64 41])) w' := by
  have h1 : decL s = [] := by unfold decL; rw [h]; rfl
  have h2 : decE s = 41 := if_pos h
  exact ⟨none, 0, by rw [h1, h2]; rfl, by rw [h1]; exact fun i hi => absurd hi (Nat.not_lt_zero _), hb⟩
theorem dec_some {w w' : World} {s : List UInt8} {l : List (Int × Int × ByteArray)} {v : Value} (h : decP s = some l) (ho : w'.ownsRow w.heap.size 32 3 v l.length (flat l)) (hb : Below w.heap.size w w') : DecPost w s (.returned (.tuple #[v, .int .i64 0])) w' := by
  have h1 : decL s = l := by unfold decL; rw [h]; rfl
  have h2 : decE s = 0 := if_neg (by rw [h]; simp)
  obtain ⟨A, cap, rfl, hv⟩ := own_vals ho
  exact ⟨A, cap, by rw [h1, h2], by rw [h1]; exact hv, hb⟩
theorem dec_step {s : List UInt8} {a : List (Int × Int × ByteArray)} {r : List UInt8} {v : Int × Int × ByteArray} {n : Nat} (h : decP s = (decP r).map (a ++ ·)) (hr : r ≠ []) (hf : firstP r = some (v, n)) : decP s = (decP (r.drop n)).map ((a ++ [v]) ++ ·) := by
  rw [h, decP_some hr hf, Option.map_map]
  congr 1
  funext x
  simp
set_option maxHeartbeats 4000000 in
theorem decode_any (s : ByteArray) (m : Int) (w : World) (hs : s.size ≤ 1000000) (hm : w.cell? ⟨0, 0, none⟩ = some (.int .i64 m)) :
    Calls Tryd.prog 12 #[.string s] w (DecPost w s.data.toList) := by
  have hlt : 0 < w.heap.size := World.block_lt_of_cell? _ _ hm
  have HM := Lib.hid hm
  clear hm
  obtain ⟨i0, hi, hz0, hz1, hz2⟩ := info_parts info_val
  go_enter Tryd.func12, Tryd.ntmps12
  go_wp2
  go_loopw [0, 4] (fun t v wr => ∃ (r : ByteArray) (a : List (Int × Int × ByteArray)), t = .string r ∧ Hid (decP s.data.toList = (decP r.data.toList).map (a ++ ·)) ∧ a.length + r.size ≤ s.size ∧ wr.ownsRow w.heap.size 32 3 v a.length (flat a) ∧ Below w.heap.size w wr) (fun t _ _ => strSize t)
  case atStart => exact ⟨s, [], rfl, Lib.hid (by simp), by simp, World.ownsRow_nil _ _ _ _, Below.refl _ _⟩
  case round =>
    obtain ⟨r, a, rfl, HK, hra, hown, hbel⟩ := hrel
    have hsz := hbel.size
    have HO := Lib.hid hown
    have HL := Lib.hid hbel
    clear hown hbel
    by_cases hr : r.size = 0
    · obtain rfl := size0 hr
      have HD := Lib.hid (show decP s.data.toList = some a by rw [HK.out, show (⟨#[]⟩ : ByteArray).data.toList = [] from rfl, decP_nil]; simp)
      go_wp2
      go_ret2
      exact dec_some HD.out HO.out HL.out
    · have hrp : 0 < r.size := by omega
      have hrn : r.data.toList ≠ [] := by intro h; apply hr; rw [size_list, h]; rfl
      have HRN := Lib.hid hrn
      clear hrn hr
      cases hf : firstP r.data.toList with
      | none =>
        have HD := Lib.hid (show decP s.data.toList = none by rw [HK.out, decP_none HRN.out hf]; rfl)
        have HF := Lib.hid (fun w => first_not r m w hf (by omega))
        clear hf
        go_wp2_with fail
        refine (HF.out _ (by rw [HL.out.cell (p := ⟨0, 0, none⟩) hlt]; exact HM.out)).mono ?_
        rintro e w1 ⟨rfl, hb1⟩
        have L1 := Lib.hid (bnext HL.out hsz hb1)
        clear hb1
        go_wp2
        go_ret2
        exact dec_none HD.out (by first | exact L1.out | exact L1.out.alloc L1.out.size _)
      | some p =>
        obtain ⟨v1, c⟩ := p
        obtain ⟨k, n, t⟩ := v1
        have HS := Lib.hid (dec_step HK.out HRN.out hf)
        have HF := Lib.hid (fun w => first_is r (k, n, t) c m w hf (by omega))
        obtain ⟨q1, q2, -⟩ := firstP_some hf
        rw [← size_list] at q2
        have hcz : ((c : Int) == 0) = false := by simp; omega
        have hsl := cut_from r c c rfl q2
        have HRE := Lib.hid (from_list r c)
        have hre : (r.extract c r.size).size = r.size - c := by rw [size_list, from_list, List.length_drop]; rfl
        clear hf
        go_wp2_with fail
        refine (HF.out _ (by rw [HL.out.cell (p := ⟨0, 0, none⟩) hlt]; exact HM.out)).mono ?_
        rintro e w1 ⟨rfl, hb1⟩
        have L1 := Lib.hid (bnext HL.out hsz hb1)
        have O1 := Lib.hid (own_call HO.out hb1)
        have hzw := L1.out.size
        clear hb1
        go_wp2_with (at_builtin; refine wpList_append_own _ rfl _ _ 22 rfl w.heap.size 32 i0 (.agg #[.int .i64 0, .int .i64 0, .string ByteArray.empty]) 3 32 Tryd.underlying22 hi hz0 hz1 hz2 rfl (by decide) _ _ _ rfl ((O1.out.alloc _).alloc _) ⟨w1.heap.size + 1, 0, none⟩ 1 1 (cells3 (k, n, t)) rfl rfl ?c1 ?c2 ?c3 ?c4 ?c5 ?_)
        case c1 => exact row3_new _ _ _ _ _ _
        case c2 => simp [cells3, Value.oneCell']
        case c3 => unfold maxLen; omega
        case c4 => omega
        case c5 => simp; omega
        intro v' w2 hown' hgrow _
        have O2 := Lib.hid (show w2.ownsRow w.heap.size 32 3 v' (a ++ [(k, n, t)]).length (flat (a ++ [(k, n, t)])) by rw [flat_snoc, List.length_append]; exact hown')
        have L2 := Lib.hid (((L1.out.alloc hzw _).alloc (by simp; omega) _).grown hgrow (by simp; omega) (fun g hg => (O1.out.lt g hg).1))
        clear hown' hgrow
        go_wp2
        go_roundw
        case rel => exact ⟨r.extract c r.size, a ++ [(k, n, t)], rfl, Lib.hid (by rw [HRE.out]; exact HS.out), by rw [hre, List.length_append]; simp; omega, O2.out, L2.out⟩
        case measure => simp [strSize, hre]; omega
end Go.Proofs.YtmaecoidoejipaaDoor.Code
