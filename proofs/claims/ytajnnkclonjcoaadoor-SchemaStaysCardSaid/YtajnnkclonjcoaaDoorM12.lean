/-
  The program's Alike, Kinds and Show of columns.
-/
import Derived.Test.YtajnnkclonjcoaaDoorM10
import Derived.Test.YtajnnkclonjcoaaDoorM11
import Derived.Deep.RegionLaw
import Derived.Carry
import Derived.ChangeOld
import Derived.ChangeSame
import Derived.OpenShut
import Derived.ProofKit
import Derived.Lib.SmallJoins
import Derived.LaidMore
import Derived.Lay
import Derived.Stop.Joined
import Derived.Shelf.Vars
namespace Go.Proofs.YtajnnkclonjcoaaDoor.Code
open Go.ChangeShapes Go.WideShapes Go.ChangeAt Go.RowKit Val Elems
set_option linter.unusedVariables false
set_option linter.unusedSimpArgs false
set_option maxRecDepth 100000
set_option maxHeartbeats 4000000 in
theorem alike1_any (n1 k1 n2 k2 : Int) (s1 s2 : ByteArray) (w : World) :
    Calls Tryd.prog 38 #[.agg #[.int .i64 n1, .string s1, .int .i64 k1], .agg #[.int .i64 n2, .string s2, .int .i64 k2]] w fun e w' => e = .returned (.bool (s1.toList == s2.toList && k1 == k2)) ∧ Below w.heap.size w w' := by
  have hb : Below w.heap.size w ((w.alloc (.cells #[.int .i64 n1, .string s1, .int .i64 k1] 41)).alloc (.cells #[.int .i64 n2, .string s2, .int .i64 k2] 41)) := (below_alloc w _).alloc (by simp) _
  have HB := Lib.hid hb
  clear hb
  cases h : (s1.toList == s2.toList)
  · go_enter Tryd.func38, Tryd.ntmps38
    go_wp2
    go_ret
    exact ⟨by simp, HB.out⟩
  · cases h2 : (k1 == k2)
    all_goals
      go_enter Tryd.func38, Tryd.ntmps38
      go_wp2
      go_ret
      exact ⟨by simp, HB.out⟩
set_option maxHeartbeats 8000000 in
theorem cequal_any (A B : Option Addr) (ca cb : Nat) (l m : List W) (w : World) (ha : At wc 3 w w.heap.size A l) (hb : At wc 3 w w.heap.size B m) (hl : l.length ≤ 4194304) (hm : m.length ≤ 4194304) :
    Calls Tryd.prog 37 #[.slice A l.length ca, .slice B m.length cb, .func (.func 38) #[] #[]] w fun e w' => e = .returned (.bool (alikeC l m)) ∧ Below w.heap.size w w' := by
  have HA := Lib.hid ha
  have HB := Lib.hid hb
  clear ha hb
  by_cases hlm : l.length = m.length
  case neg =>
    rw [alike_no fun h => hlm h.1]
    obtain ⟨n1, hn1⟩ : ∃ n, l.length = n := ⟨_, rfl⟩
    obtain ⟨n2, hn2⟩ : ∃ n, m.length = n := ⟨_, rfl⟩
    rw [hn1, hn2] at hlm
    rw [hn1, hn2]
    have e1 : ((n1 : Int) != (n2 : Int)) = true := by simp; omega
    clear hl hm hn1 hn2 hlm HA HB
    go_enter Tryd.func37, Tryd.ntmps37
    go_wp2
    go_ret
    exact ⟨rfl, Below.refl _ _⟩
  have HLM := Lib.hid hlm
  have e1 : ((l.length : Int) != (m.length : Int)) = false := by simp [hlm]
  clear hlm
  go_enter Tryd.func37, Tryd.ntmps37
  go_wp2
  go_loopw [17] (fun t wr => ∃ i : Nat, i ≤ l.length ∧ t = .int .i64 i ∧ (∀ j (hj : j < l.length) (hj' : j < m.length), j < i → l[j].2.1 = m[j].2.1 ∧ l[j].2.2 = m[j].2.2) ∧ Below w.heap.size w wr) (fun t _ => l.length - (intOf t).toNat)
  case atStart => exact ⟨0, by omega, rfl, fun j _ _ h => absurd h (by omega), Below.refl _ _⟩
  case round =>
    obtain ⟨i, hi, rfl, hyes, hbel⟩ := hrel
    have hsz := hbel.size
    have HL := Lib.hid hbel
    have HY := Lib.hid hyes
    have VA := Lib.hid (HA.out.below hbel)
    have VB := Lib.hid (HB.out.below hbel)
    clear hbel hyes
    by_cases hil : i < l.length
    · have him : i < m.length := by have := HLM.out; omega
      obtain ⟨ad, rfl, ga, c0, c1, c2⟩ := at_word VA.out i hil
      obtain ⟨bd, rfl, gb, d0, d1, d2⟩ := at_word VB.out i him
      have HS := Lib.hid (fun (h : l[i].2.1 = m[i].2.1 ∧ l[i].2.2 = m[i].2.2) => show ∀ j (hj : j < l.length) (hj' : j < m.length), j < i + 1 → l[j].2.1 = m[j].2.1 ∧ l[j].2.2 = m[j].2.2 from fun j hj hj' h2 => if e : j = i then by subst e; exact h else HY.out j hj hj' (by omega))
      have HN := Lib.hid (fun (h : ¬ (l[i].2.1 = m[i].2.1 ∧ l[i].2.2 = m[i].2.2)) => show alikeC l m = false from alike_no fun g => h (g.2 i hil him))
      obtain ⟨x, hx⟩ : ∃ x, l[i] = x := ⟨_, rfl⟩
      obtain ⟨y, hy⟩ : ∃ y, m[i] = y := ⟨_, rfl⟩
      rw [hx] at c0 c1 c2 HS HN
      rw [hy] at d0 d1 d2 HS HN
      clear hx hy
      obtain ⟨x1, x2, x3⟩ := x
      obtain ⟨y1, y2, y3⟩ := y
      dsimp only at c0 c1 c2 d0 d1 d2
      obtain ⟨T, hT⟩ : ∃ T : ByteArray, ⟨x2.toArray⟩ = T := ⟨_, rfl⟩
      obtain ⟨U, hU⟩ : ∃ T : ByteArray, ⟨y2.toArray⟩ = T := ⟨_, rfl⟩
      obtain ⟨b, hb⟩ : ∃ b, (T.toList == U.toList && x3 == y3) = b := ⟨_, rfl⟩
      have HE := Lib.hid (show (x2 = y2 ∧ x3 = y3) ↔ b = true by
        rw [← hb, Bool.and_eq_true, beq_iff_eq, beq_iff_eq, ← hT, ← hU, ByteArray.toList_eq, ByteArray.toList_eq])
      have HC := Lib.hid (fun w' => hb ▸ alike1_any x1 x3 y1 y3 T U w')
      rw [hT] at c1
      rw [hU] at d1
      have e0 : ∀ o, (wr.alloc o).cell? (bd.add (i * 3)) = some (.int .i64 y1) := fun o => (World.cell?_alloc_old wr _ _ (by rw [add_block]; omega)).trans d0
      have e2 : ∀ o, (wr.alloc o).cell? ⟨(bd.add (i * 3)).block, (bd.add (i * 3)).off + 1, none⟩ = some (.string U) := fun o => (World.cell?_alloc_old wr _ _ (by rw [add_block]; omega)).trans d1
      have e3 : ∀ o, (wr.alloc o).cell? ⟨(bd.add (i * 3)).block, (bd.add (i * 3)).off + 2, none⟩ = some (.int .i64 y3) := fun o => (World.cell?_alloc_old wr _ _ (by rw [add_block]; omega)).trans d2
      have LW := Lib.hid (HL.out.trans ((((Below.refl wr.heap.size wr).alloc (Nat.le_refl _) (.cells #[.int .i64 x1, .string T, .int .i64 x3] 41)).alloc (by simp) (.cells #[.int .i64 y1, .string U, .int .i64 y3] 41)).mono hsz))
      clear hT hU hb
      go_wp2_with fail
      refine (HC.out _).mono ?_
      rintro e w1 ⟨rfl, hb1⟩
      have L1 := Lib.hid (LW.out.trans (hb1.mono LW.out.size))
      clear hb1 HC c0 c1 c2 d0 d1 d2 e0 e2 e3
      cases b
      · have HE2 := Lib.hid (HN.out (fun h => absurd (HE.out.1 h) (by decide)))
        go_wp2
        go_ret
        exact ⟨retB HE2.out.symm, L1.out⟩
      · have HE2 := Lib.hid (HS.out (HE.out.2 rfl))
        go_wp2
        go_roundw
        case rel => exact ⟨i + 1, by omega, by go_num, HE2.out, L1.out⟩
        case measure => simp [intOf]; omega
    · obtain rfl : i = l.length := by omega
      have HE2 := Lib.hid (show alikeC l m = true from (alike_iff l m).2 ⟨HLM.out, fun j hj hj' => HY.out j hj hj' hj⟩)
      go_wp2
      go_ret
      exact ⟨retB HE2.out.symm, HL.out⟩
theorem salike_any (A B : Option Addr) (ca cb : Nat) (l m : List W) (w : World) (ha : At wc 3 w w.heap.size A l) (hb : At wc 3 w w.heap.size B m) (hl : l.length ≤ 4194304) (hm : m.length ≤ 4194304) :
    Calls Tryd.prog 17 #[.slice A l.length ca, .slice B m.length cb] w fun e w' => e = .returned (.bool (alikeC l m)) ∧ Below w.heap.size w w' := by
  have H := Lib.hid (cequal_any A B ca cb l m w ha hb hl hm)
  clear ha hb
  obtain ⟨b, hb⟩ : ∃ b, alikeC l m = b := ⟨_, rfl⟩
  rw [hb] at H ⊢
  go_enter Tryd.func17, Tryd.ntmps17
  go_wp2_with fail
  refine H.out.mono ?_
  rintro e w1 ⟨rfl, hb1⟩
  have L1 := Lib.hid hb1
  clear hb1
  go_wp2
  go_ret
  exact ⟨rfl, L1.out⟩
/-- a block of kinds, made by the call -/
def KBlk (w : World) (g : Nat) (D : List Int) : Prop := w.heap[g]? = some (.cells (D.map (Value.int .i64)).toArray 39 (0, 0))
theorem KBlk.lt {w : World} {g : Nat} {D : List Int} (h : KBlk w g D) : g < w.heap.size := (Array.getElem?_eq_some_iff.1 h).1
theorem KBlk.call {w w' : World} {g : Nat} {D : List Int} (h : KBlk w g D) (hb : Below w.heap.size w w') : KBlk w' g D := (hb.block g h.lt).trans h
theorem KBlk.cell {w : World} {g : Nat} {D : List Int} (h : KBlk w g D) (j : Nat) (x : Int) (hx : D[j]? = some x) : w.cell? ⟨g, j, none⟩ = some (.int .i64 x) := by
  unfold KBlk at h
  simp [World.cell?, h, hx]
theorem KBlk.free {w : World} {g : Nat} {D : List Int} (h : KBlk w g D) (j : Nat) : w.frozen? ⟨g, j, none⟩ = false := by
  unfold KBlk at h
  simp [World.frozen?, h]
theorem KBlk.set {w : World} {g : Nat} {D : List Int} (h : KBlk w g D) (k : Nat) (x : Int) : KBlk (w.setCell ⟨g, k, none⟩ (.int .i64 x)) g (D.set k x) := by
  unfold KBlk at *
  rw [setCell_eq_setRow w g _ _ _ _ _ h, setRow_heap w g _ _ _ _ h, List.map_set]
  simp
theorem KBlk.at {w : World} {g B : Nat} {D : List Int} (h : KBlk w g D) (hg : g < B) : At kc 1 w B (some ⟨g, 0, none⟩) D := by
  intro i hi
  refine ⟨⟨g, 0, none⟩, rfl, hg, fun j u hu => ?_⟩
  match j, hu with
  | 0, hu =>
    simp [kc] at hu
    subst hu
    rw [Addr.add_lit]
    simpa using h.cell i _ (List.getElem?_eq_getElem hi)
theorem made_kinds (n : Nat) : madeCells #[Value.int .i64 0] (n * 1) = Array.replicate n (Value.int .i64 0) := by
  apply Array.toList_inj.1
  rw [toList_madeCells_one, Nat.mul_one]
  simp
theorem KBlk.fresh (w : World) (n : Nat) : KBlk (w.alloc (.cells (Array.replicate n (Value.int .i64 0)) 39)) w.heap.size (List.replicate n 0) := by
  unfold KBlk
  rw [heap_alloc_new]
  simp
theorem wpList_make_kinds {P : Program} (w : World) {ops : Array Oper} {rest : List Oper} {o : Oper} {a : Act} {Q : Exit → Act → World → Prop}
    (hg : o.guard = none) (l c : Operand) (t : TypeId) (hop : o.op = Op.makeSlice t l c) (e : TypeId) (i : TypeInfo) (h1 : P.underlying t = some (.slice e)) (h2 : P.info? e = some i)
    (h3 : i.zero = some (.int .i64 0)) (h4 : i.size = 1) (h5 : i.bytes = 8)
    (kl kc : IntKind) (L C : Int) (n : Nat) (hl : a.eval l = .int kl L) (hc : a.eval c = .int kc C) (hL : L = (n : Int)) (hC : C = (n : Int)) (b : n ≤ 8796093022208)
    (hK : wpList P ops Q rest (a.put o.dst (.slice (some ⟨w.heap.size, 0, none⟩) n n)) (w.alloc (.cells (Array.replicate n (Value.int .i64 0)) e))) :
    wpList P ops Q (o :: rest) a w := by
  refine wpList_plain hg fun K hK' => ?_
  have hr := run_make (P := P) w t e i _ h1 h2 h3 kl kc n n (by omega) (Int.le_refl _) (by rw [h5]; omega) (by omega)
  rw [Int.toNat_natCast, h4, show (Value.int .i64 0).cells = #[Value.int .i64 0] by rfl, made_kinds] at hr
  subst hL
  subst hC
  unfold Oper.wp
  simp [execOp, hop, hl, hc, hr, Result.andThen]
  exact hK' _ _ hK
theorem kfill_set (X : List Int) (n : Nat) (hn : 0 < n) (v : Int) : (X ++ List.replicate n 0).set X.length v = (X ++ [v]) ++ List.replicate (n - 1) 0 := by
  obtain ⟨m, rfl⟩ : ∃ m, n = m + 1 := ⟨n - 1, by omega⟩
  rw [List.set_append_right _ _ (Nat.le_refl _), Nat.sub_self, List.replicate_succ, List.set_cons_zero, Nat.add_sub_cancel, List.append_assoc]
  rfl
set_option maxHeartbeats 4000000 in
theorem skinds_any (A : Option Addr) (cap : Nat) (l : List W) (w : World) (hv : At wc 3 w w.heap.size A l) (hl : l.length ≤ 4194304) :
    Calls Tryd.prog 13 #[.slice A l.length cap] w fun e w' => ∃ (A' : Option Addr) (cap' : Nat), e = .returned (.slice A' l.length cap') ∧ At kc 1 w' w'.heap.size A' (kindsC l) ∧ Below w.heap.size w w' := by
  have HV := Lib.hid hv
  clear hv
  obtain ⟨i0, hi0, hz0, hz1, hz2⟩ := info_parts info_kind
  go_enter Tryd.func13, Tryd.ntmps13
  go_wp2_with (at_make; refine wpList_make_kinds _ rfl _ _ 30 rfl 39 i0 Tryd.underlying30 hi0 hz0 hz1 hz2 _ _ _ _ l.length rfl rfl rfl rfl (by omega) ?_)
  have HB0 := Lib.hid (KBlk.fresh w l.length)
  have HL0 := Lib.hid (below_alloc w (.cells (Array.replicate l.length (Value.int .i64 0)) 39))
  go_wp2
  go_loopw [10] (fun i wr => ∃ k : Nat, k ≤ l.length ∧ i = .int .i64 k ∧ KBlk wr w.heap.size (kindsC (l.take k) ++ List.replicate (l.length - k) 0) ∧ Below w.heap.size w wr) (fun i _ => l.length - (intOf i).toNat)
  case atStart => exact ⟨0, by omega, rfl, by simpa [kindsC] using HB0.out, HL0.out⟩
  case round =>
    obtain ⟨k, hk, rfl, hblk, hbel⟩ := hrel
    have hsz := hbel.size
    have hlt := hblk.lt
    have HL := Lib.hid hbel
    have HB := Lib.hid hblk
    have VA := Lib.hid (HV.out.below hbel)
    clear hbel hblk
    have HX := Lib.hid (show (kindsC (l.take k)).length = k by unfold kindsC; rw [List.length_map, List.length_take_of_le hk])
    by_cases hkl : k < l.length
    · obtain ⟨ad, rfl, ha, c0, c1, c2⟩ := at_word VA.out k hkl
      have HS := Lib.hid (kinds_take l k hkl)
      have HE := Lib.hid (show (kindsC (l.take k) ++ List.replicate (l.length - k) 0).set k l[k].2.2 = kindsC (l.take (k + 1)) ++ List.replicate (l.length - (k + 1)) 0 by
        have e := kfill_set (kindsC (l.take k)) (l.length - k) (by omega) l[k].2.2
        rw [HX.out, Nat.sub_sub] at e
        rw [e, HS.out])
      have b0 : ∃ y, wr.cell? ⟨w.heap.size, k, none⟩ = some (.int .i64 y) := by
        have hlen : k < (kindsC (l.take k) ++ List.replicate (l.length - k) 0).length := by rw [List.length_append, HX.out]; simp; omega
        exact ⟨_, HB.out.cell k _ (List.getElem?_eq_getElem hlen)⟩
      obtain ⟨y, b0⟩ := b0
      have f0 := HB.out.free k
      obtain ⟨x, hx⟩ : ∃ x, l[k].2.2 = x := ⟨_, rfl⟩
      rw [hx] at c2 HE
      have hlt2 : w.heap.size < wr.heap.size := hlt
      clear hx c0 c1 HS
      go_wp2
      go_roundw
      case rel => exact ⟨k + 1, by omega, by go_num, by have h := HB.out.set k x; rw [HE.out] at h; exact h, HL.out.setCell (Nat.le_refl _) _⟩
      case measure => simp [intOf]; omega
    · obtain rfl : k = l.length := by omega
      rw [List.take_length] at HB
      have HB2 := Lib.hid (show KBlk wr w.heap.size (kindsC l) by simpa using HB.out)
      go_wp2
      go_ret
      exact ⟨_, _, rfl, HB2.out.at hlt, HL.out⟩
def ctexts (l : List W) : List ByteArray := l.map fun c => ⟨(colT c).toArray⟩
theorem ctexts_length (l : List W) : (ctexts l).length = l.length := by simp [ctexts]
theorem ctexts_snoc (l : List W) (k : Nat) (h : k < l.length) : ctexts (l.take (k + 1)) = ctexts (l.take k) ++ [⟨(colT l[k]).toArray⟩] := by
  unfold ctexts
  rw [List.take_succ_eq_append_getElem h, List.map_append]
  rfl
theorem ctexts_data (l : List W) : (ctexts l).map (·.data.toList) = l.map colT := by
  unfold ctexts
  rw [List.map_map]
  congr 1
theorem colT_le {c : W} (h : c.2.1.length ≤ 1000) : (colT c).length ≤ 1006 := by
  unfold colT
  have := nameS_le c.2.2
  rw [List.length_append, List.length_append]
  have h2 : (nameS c.2.2).data.toList.length = (nameS c.2.2).size := by rw [Array.length_toList]; rfl
  simp only [List.length_cons, List.length_nil]
  omega
theorem showC_length (l : List W) (h : ∀ c ∈ l, c.2.1.length ≤ 1000) : (showC l).length ≤ 1008 * l.length := by
  unfold showC
  cases l with
  | nil => simp [Lib.join_nil]
  | cons v l =>
    rw [List.map_cons, Lib.join_length]
    have := lens_le ((v :: l).map colT) 1006 (by intro x hx; obtain ⟨y, hy, rfl⟩ := List.mem_map.1 hx; exact colT_le (h y hy))
    simp only [List.map_cons, List.length_cons, List.length_map, List.length_nil] at *
    omega
set_option maxHeartbeats 4000000 in
theorem sshow_any (A : Option Addr) (cap : Nat) (l : List W) (w : World) (hv : At wc 3 w w.heap.size A l) (hf : ∀ c ∈ l, c.2.1.length ≤ 1000) (hl : l.length ≤ 10000) :
    Calls Tryd.prog 15 #[.slice A l.length cap] w fun e w' => e = .returned (.string ⟨(showC l).toArray⟩) ∧ Below w.heap.size w w' := by
  have HV := Lib.hid hv
  have HF := Lib.hid hf
  have hjl := showC_length l hf
  clear hv hf
  obtain ⟨i0, hi0, hz0, hz1, hz2⟩ := info_parts info_str
  go_enter Tryd.func15, Tryd.ntmps15
  go_wp2_with (at_make; refine wpList_make_strs _ rfl _ _ 57 rfl 9 i0 Tryd.underlying57 hi0 hz0 hz1 hz2 _ _ _ _ l.length rfl rfl rfl rfl (by omega) ?_)
  have HB0 := Lib.hid (SBlk.fresh w l.length)
  have HL0 := Lib.hid (below_alloc w (.cells (Array.replicate l.length (Value.string ByteArray.empty)) 9))
  go_wp2
  go_loopw [10] (fun i wr => ∃ k : Nat, k ≤ l.length ∧ i = .int .i64 k ∧ SBlk wr w.heap.size (ctexts (l.take k) ++ List.replicate (l.length - k) ByteArray.empty) ∧ Below w.heap.size w wr) (fun i _ => l.length - (intOf i).toNat)
  case atStart => exact ⟨0, by omega, rfl, by simpa [ctexts] using HB0.out, HL0.out⟩
  case round =>
    obtain ⟨k, hk, rfl, hblk, hbel⟩ := hrel
    have hsz := hbel.size
    have hlt := hblk.lt
    have HL := Lib.hid hbel
    have HB := Lib.hid hblk
    have VA := Lib.hid (HV.out.below hbel)
    clear hbel hblk
    have HX := Lib.hid (show (ctexts (l.take k)).length = k by rw [ctexts_length, List.length_take_of_le hk])
    by_cases hkl : k < l.length
    · obtain ⟨ad, rfl, ha, c0, c1, c2⟩ := at_word VA.out k hkl
      have HS := Lib.hid (ctexts_snoc l k hkl)
      have HE := Lib.hid (show (ctexts (l.take k) ++ List.replicate (l.length - k) ByteArray.empty).set k ⟨(colT l[k]).toArray⟩ = ctexts (l.take (k + 1)) ++ List.replicate (l.length - (k + 1)) ByteArray.empty by
        have e := sfill_set (ctexts (l.take k)) (l.length - k) (by omega) ⟨(colT l[k]).toArray⟩
        rw [HX.out, Nat.sub_sub] at e
        rw [e, HS.out])
      have hN := HF.out l[k] (List.getElem_mem hkl)
      have b0 : ∃ y, wr.cell? ⟨w.heap.size, k, none⟩ = some (.string y) := by
        have hlen : k < (ctexts (l.take k) ++ List.replicate (l.length - k) ByteArray.empty).length := by rw [List.length_append, HX.out]; simp; omega
        exact ⟨_, HB.out.cell k _ (List.getElem?_eq_getElem hlen)⟩
      obtain ⟨y, b0⟩ := b0
      have f0 := HB.out.free k
      obtain ⟨x, hx⟩ : ∃ x, l[k] = x := ⟨_, rfl⟩
      rw [hx] at c0 c1 c2 HE hN
      clear hx HS
      obtain ⟨n, t, kk⟩ := x
      dsimp only at c0 c1 c2 hN
      obtain ⟨T, hT⟩ : ∃ T : ByteArray, ⟨t.toArray⟩ = T := ⟨_, rfl⟩
      obtain ⟨S, hS⟩ : ∃ S, nameS kk = S := ⟨_, rfl⟩
      have hTs : T.size ≤ 1000 := by rw [← hT, size_list]; exact hN
      have hSs : S.size ≤ 5 := hS ▸ nameS_le kk
      have HK := Lib.hid (fun w' => hS ▸ Val.name_any kk w')
      have HSW := Lib.hid (show (⟨(colT (n, t, kk)).toArray⟩ : ByteArray) = T ++ ⟨#[32]⟩ ++ S by
        refine (ba_of ?_).symm
        unfold colT
        rw [Go.Joins.data_append, Go.Joins.data_append, ← hT, hS])
      rw [hT] at c1
      rw [HSW.out] at HE
      have hlt2 : w.heap.size < wr.heap.size := hlt
      have hcat : ∀ w, (Op.stringOp .add T ⟨#[32]⟩).run Tryd.prog w = .ok (.string (T ++ ⟨#[32]⟩)) w := fun w => run_string_add_sum w T ⟨#[32]⟩ (by show T.size + 1 ≤ _; omega)
      have hcat2 : ∀ w, (Op.stringOp .add (T ++ ⟨#[32]⟩) S).run Tryd.prog w = .ok (.string (T ++ ⟨#[32]⟩ ++ S)) w := fun w => run_string_add_sum w (T ++ ⟨#[32]⟩) S (by rw [ByteArray.size_append]; show T.size + 1 + S.size ≤ _; omega)
      clear hT hS c0 hN
      go_wp2_with fail
      go_region_law (go_simp; refine (HK.out _).mono ?_; rintro e w5 ⟨rfl, rfl⟩)
      all_goals
        go_wp2
        go_roundw
        case rel => exact ⟨k + 1, by omega, by go_num, by have h := HB.out.set k (T ++ ⟨#[32]⟩ ++ S); rw [HE.out] at h; exact h, Below.drew (HL.out.setCell (p := ⟨w.heap.size, k, none⟩) (Nat.le_refl _) _)⟩
        case measure => simp [intOf]; omega
    · obtain rfl : k = l.length := by omega
      rw [List.take_length] at HB
      have HB2 := Lib.hid (show SBlk wr w.heap.size (ctexts l) by simpa using HB.out)
      have hj := Tryd.strings_Join w.heap.size 0 l.length (ctexts l) ⟨#[44, 32]⟩ wr (fun j x hx => by rw [Nat.zero_add]; exact HB2.out.cell j x hx) hlt (by rw [ctexts_length]; omega) (by rw [ctexts_length]; exact Nat.le_refl _) (by rw [ctexts_data]; show (showC l).length ≤ _; omega)
      rw [ctexts_data, ctexts_length] at hj
      obtain ⟨T, hT⟩ : ∃ T : ByteArray, T = ⟨(showC l).toArray⟩ := ⟨_, rfl⟩
      rw [show (⟨(Lib.join (l.map colT) (⟨#[44, 32]⟩ : ByteArray).data.toList).toArray⟩ : ByteArray) = T from hT.symm] at hj
      have HJ := Lib.hid hj
      have HT := Lib.hid hT
      clear hj hT
      go_wp2_with fail
      refine HJ.out.mono ?_
      rintro e w1 ⟨rfl, hb1⟩
      have L1 := Lib.hid (bnext HL.out hsz hb1)
      clear hb1
      go_wp2
      go_ret
      exact ⟨retS HT.out, L1.out⟩
end Go.Proofs.YtajnnkclonjcoaaDoor.Code
/-
  All contracts of the program's functions of columns.
-/
namespace Go.Proofs.YtajnnkclonjcoaaDoor.Code
open Go.ChangeShapes Go.WideShapes Go.ChangeAt Go.RowKit Val Elems
end Go.Proofs.YtajnnkclonjcoaaDoor.Code
/-
  The live question of layer 12, by the contracts of the program's functions (ScProg).
-/
namespace Go.Proofs.YtajnnkclonjcoaaDoor.Code
open Go.ChangeShapes Go.WideShapes Go.ChangeAt Go.RowKit Val Elems
set_option linter.unusedVariables false
set_option linter.unusedSimpArgs false
def live0 : List W := [(3, [97], 2), (1, [98], 4)]
def live1 : List W := [(3, [97], 3), (1, [98], 4)]
theorem live_widen : widenC live0 [97] 3 = (live1, 0) := by decide +kernel
theorem live_rename : renameC live0 [97] [98] = ([], 122) := by decide +kernel
theorem live_find : findZ live0 [98] = 1 := by decide +kernel
theorem live_right : schC live0 = true := by decide +kernel
theorem live_show : (⟨(showC live1).toArray⟩ : ByteArray) = ⟨#[97, 32, 105, 110, 116, 54, 52, 44, 32, 98, 32, 116, 101, 120, 116]⟩ := by decide +kernel
theorem live_and : nameC [97, 110, 100] = false := by decide +kernel
theorem live_b1 : nameC [98, 95, 49] = true := by decide +kernel
set_option maxHeartbeats 4000000 in
set_option maxRecDepth 100000 in
theorem live12 (m : Int) (w : World) (hg : MGlob m w) :
    Calls Tryd.prog 7 #[] w fun e w' => e = .returned (.bool true) ∧ Below w.heap.size w w' := by
  have HG := Lib.hid hg
  clear hg
  go_enter Tryd.func7, Tryd.ntmps7
  obtain ⟨o, ho⟩ : ∃ o, Obj.cells #[Value.int .i64 3, .string ⟨#[97]⟩, .int .i64 2, .int .i64 1, .string ⟨#[98]⟩, .int .i64 4] 41 = o := ⟨_, rfl⟩
  have hc : ∀ (j : Nat) (u : Value), (flatC wc live0)[j]? = some u → (w.alloc o).cell? ⟨w.heap.size, j, none⟩ = some u := by
    intro j u hu
    subst ho
    have h := World.news_of_block (cs := #[Value.int .i64 3, .string ⟨#[97]⟩, .int .i64 2, .int .i64 1, .string ⟨#[98]⟩, .int .i64 4]) (t := 41) (fr := (0, 0)) (heap_alloc_new w _) j u (by simpa [flatC, wc, live0] using hu)
    rwa [Addr.add_lit, Nat.zero_add] at h
  have V0 := Lib.hid (cols_at (B := (w.alloc o).heap.size) (by simp) hc)
  have L0 := Lib.hid (below_alloc w o)
  have hs0 : live0.length = 2 := rfl
  have HW := Lib.hid ((swiden_any (some ⟨w.heap.size, 0, none⟩) 2 live0 ⟨#[97]⟩ 3 (w.alloc o) V0.out (by decide)).mono fun _ _ h => h.cols)
  have HR := Lib.hid (fun w' (h : Below (w.alloc o).heap.size (w.alloc o) w') => (srename_any (some ⟨w.heap.size, 0, none⟩) 2 live0 ⟨#[97]⟩ ⟨#[98]⟩ m w' ((V0.out.below h).more h.size) (by decide) (by decide) (HG.out.next (L0.out.trans (h.mono L0.out.size)))).mono fun _ _ h => h.cols)
  have HF := Lib.hid (fun w' (h : Below (w.alloc o).heap.size (w.alloc o) w') => sfind_any (some ⟨w.heap.size, 0, none⟩) 2 live0 ⟨#[98]⟩ w' ((V0.out.below h).more h.size) (by decide))
  have HI := Lib.hid (fun w' (h : Below (w.alloc o).heap.size (w.alloc o) w') => sright_any (some ⟨w.heap.size, 0, none⟩) 2 live0 m w' ((V0.out.below h).more h.size) (by decide) (by decide) (by decide) (HG.out.next (L0.out.trans (h.mono L0.out.size))))
  have HA := Lib.hid (fun w' (h : Below w.heap.size w w') => sname_any ⟨#[97, 110, 100]⟩ m w' (by decide) (HG.out.next h))
  have HB := Lib.hid (fun w' (h : Below w.heap.size w w') => sname_any ⟨#[98, 95, 49]⟩ m w' (by decide) (HG.out.next h))
  rw [show (⟨#[97]⟩ : ByteArray).data.toList = [97] from rfl] at HW HR
  rw [show (⟨#[98]⟩ : ByteArray).data.toList = [98] from rfl] at HR HF
  rw [show (⟨#[97, 110, 100]⟩ : ByteArray).data.toList = [97, 110, 100] from rfl, live_and] at HA
  rw [show (⟨#[98, 95, 49]⟩ : ByteArray).data.toList = [98, 95, 49] from rfl, live_b1] at HB
  rw [live_widen] at HW
  rw [live_rename] at HR
  rw [live_find] at HF
  rw [live_right] at HI
  rw [hs0] at HW HR HF HI
  unfold ColsPost at HW HR
  unfold FindPost at HF
  clear hc
  go_wp2_with fail
  refine HW.out.mono ?_
  rintro e w1 ⟨A1, p1, rfl, v1, b1⟩
  have B1 := Lib.hid b1
  have V1 := Lib.hid v1
  have T1 := Lib.hid (sshow_any A1 p1 live1)
  clear b1 v1 HW
  go_wp2_with fail
  refine (HR.out _ B1.out).mono ?_
  rintro e w2 ⟨A2, p2, rfl, _, b2⟩
  have B2 := Lib.hid (B1.out.trans (b2.mono B1.out.size))
  have V2 := Lib.hid ((V1.out.below b2).more b2.size)
  clear b2 HR V1 B1
  go_wp2_with fail
  refine (HF.out _ B2.out).mono ?_
  rintro e w3 ⟨rfl, b3⟩
  have B3 := Lib.hid (B2.out.trans (b3.mono B2.out.size))
  have V3 := Lib.hid ((V2.out.below b3).more b3.size)
  clear b3 HF V2 B2
  go_wp2_with fail
  refine (HI.out _ B3.out).mono ?_
  rintro e w4 ⟨rfl, b4⟩
  have B4 := Lib.hid (B3.out.trans (b4.mono B3.out.size))
  have V4 := Lib.hid ((V3.out.below b4).more b4.size)
  have L4 := Lib.hid (L0.out.trans (B4.out.mono L0.out.size))
  have HS := Lib.hid (T1.out w4 V4.out (by decide) (by decide))
  rw [live_show] at HS
  clear b4 HI V3 B3 T1 V4 B4
  have hs1 : live1.length = 2 := rfl
  rw [hs1] at HS
  go_wp2_with fail
  refine HS.out.mono ?_
  rintro e w5 ⟨rfl, b5⟩
  have L5 := Lib.hid (L4.out.trans (b5.mono L4.out.size))
  clear b5 HS L4
  go_wp2_with fail
  refine (HA.out _ L5.out).mono ?_
  rintro e w6 ⟨rfl, b6⟩
  have L6 := Lib.hid (L5.out.trans (b6.mono L5.out.size))
  clear b6 HA L5
  go_wp2_with fail
  refine (HB.out _ L6.out).mono ?_
  rintro e w7 ⟨rfl, b7⟩
  have L7 := Lib.hid (L6.out.trans (b7.mono L6.out.size))
  clear b7 HB L6
  go_wp2
  go_ret
  exact ⟨rfl, L7.out⟩
end Go.Proofs.YtajnnkclonjcoaaDoor.Code
/-
  How a law's row is shut, whatever its arguments are: where a law returns true and nothing that was there has changed ('Below'), each argument reads behind the call as it read before.
-/
namespace Go.Proofs.YtajnnkclonjcoaaDoor.Law
open Go.ChangeShapes Go.WideShapes Go.WideElems Go.RowKit
section
variable {H : Type} {enc : TypeId × Value → H} {P : Program}

/-- each type of the list can be read, and is a row of the table -/
def rowed (P : Program) (ts : List TypeId) : Bool := ts.all fun t => P.readableRec t && decide (t < P.types.size)

theorem stays (hl : laidOutB P = true) {W W' : World} (hb : Below W.heap.size W W') : ∀ {ts : List TypeId} {vs : List Value} {ds : List (DataW H)} {ps : List MemPlace},
    rowed P ts = true → DataW.TrodAll enc P W 0 (fun _ => true) true ts vs ds ps → (∀ p ∈ ps, p.block < W.heap.size) →
    DataW.TrodAll enc P W' 0 (fun b => decide (b < W.heap.size)) true ts vs ds ps
  | [], _, _, _, _, h, _ => by
    obtain ⟨rfl, rfl, rfl⟩ := trodAll_nil h
    exact rfl
  | t :: ts, _, _, _, hr, h, hlt => by
    obtain ⟨v, vs, d, ds, p, q, rfl, rfl, rfl, ⟨fuel, h1⟩, h2⟩ := trodAll_cons h
    simp only [rowed, List.all_cons, Bool.and_eq_true, decide_eq_true_eq] at hr
    have hp : ∀ x ∈ p, x.block < W.heap.size := fun x hx => hlt x (List.mem_append_left _ hx)
    refine ⟨p, q, ⟨fuel, ?_⟩, stays hl hb (by simpa [rowed] using hr.2) h2 (fun x hx => hlt x (List.mem_append_right _ hx)), rfl⟩
    exact DataW.trod_stays (kids_book hl hr.1.1) (book_sized hr.1.1) (fun h => by cases h) ⟨hr.1.2, book_self t⟩ h1 (fun x hx => hb.same (hp x hx)) (fun x hx => by simpa using hp x hx)

/-- The law's own end: it answered true, and below the heap's old size all is as it was. -/
theorem post_true (hl : laidOutB P = true) {f : Func} (hr : rowed P f.params.toList = true) {s : ChangeSpec} (hs : s.vars = []) {tb : TypeId} (hres : f.resultTypes = #[tb]) (hbool : P.underlying tb = some .bool)
    {W W' : World} {args : Array Value} {ds gs : List (DataW H)} {before : List MemPlace} (hW : DataW.Whole enc P f.params.toList s.vars false W args.toList ds gs before)
    (hfn : s.fn H (ds ++ gs) = { results := [.lit (.bool true)], args := ds }) (hb : Below W.heap.size W W') :
    s.post enc P f false true false false W args (.bool true) W' := by
  have hlt : ∀ p ∈ before, p.block < W.heap.size := fun p hp => hW.lt p hp
  have hW2 := hW
  obtain ⟨p, q, hA, hV, rfl, _, _⟩ := hW2
  refine ⟨ds, gs, p ++ q, [], p, [], hW, ?_, ?_, ?_, ?_, ?_⟩
  · rw [hfn, hres]
    exact trodAll_cons_mk (shut_bool hbool true) trodAll_mk0
  · rw [hfn]
    exact stays hl hb hr hA (fun x hx => hlt x (List.mem_append_left _ hx))
  · rw [hfn, hs]
    exact rfl
  · exact hb.frame _
  · intro h
    cases h
end
end Go.Proofs.YtajnnkclonjcoaaDoor.Law
/-
  A law whose row lists package-level variables: how it is lifted, the world's shape kept beside what is listed; and a value's three parts opened.
-/
namespace Go.Proofs.YtajnnkclonjcoaaDoor.Law
open Go.Joins Go.ChangeShapes Go.WideShapes Go.WideElems Go.RowKit Go.Deep
section
variable {H : Type} {enc : TypeId × Value → H}
/-- a law's row is lifted: what is listed (X) and the world's shape are both at hand -/
theorem lift_laid {a : Assume} {C : Checked} {os : Os} {f : FuncId} {fn : Func} {s : ChangeSpec} {conds : List PathCond} {apart fresh handsOn again : Bool} {X : World → Array Value → Prop}
    (hX : ∀ (w w' : World) (args : Array Value), w.heap = w'.heap → X w args → X w' args)
    (own : ownKnob C.prog.godebug = none) (started : os.Started) (noInit : C.prog.inits.idxOf? f = none) (hfn : C.prog.funcs[f]? = some fn)
    (witness : ∃ (w : World) (tape : Tape) (i : Input), w.os = os ∧ (w.forCall tape i).Shaped C.prog ∧ i.vars = [] ∧ Input.okWide C.prog (w.forCall tape i) .any w.heap.size f i ∧
      ((s.pre enc C.prog fn conds apart (w.forCall tape i).memory i.args ∧ X (w.forCall tape i).memory i.args) ∧ sizedMet enc C.prog fn (OpenSpec.ofChange s) apart (w.forCall tape i).memory i.args) ∧ a.holds C.prog (lone (Frame.enter C.prog f i.args .normal) [] (w.forCall tape i)))
    (walk : ∀ (W : World) (base : Nat) (args : Array Value) (ds gs : List (DataW H)) (before : List MemPlace),
      (∀ (j : Nat) t v, fn.params[j]? = some t → args[j]? = some v → Value.okWide C.prog W .any base t v) →
      DataW.Whole enc C.prog fn.params.toList s.vars apart W args.toList ds gs before → W.ShapedOpen C.prog → X W args →
      Calls C.prog f args W fun e W' => ∃ v, e = .returned v ∧ s.post enc C.prog fn apart fresh handsOn again W args v W') :
    ReturnsInHanded a C os f .any (fun w args => (s.pre enc C.prog fn conds apart w args ∧ X w args) ∧ sizedMet enc C.prog fn (OpenSpec.ofChange s) apart w args) (s.post enc C.prog fn apart fresh handsOn again) := by
  refine returnsInHanded_of_calls own started noInit witness ?_
  intro w tape i _ hsh _ hok hpre _
  obtain ⟨_, _, _, fn', hfn', _, _, _, _, hval⟩ := hok
  obtain rfl : fn' = fn := Option.some.inj (hfn'.symm.trans hfn)
  obtain ⟨⟨⟨ds, gs, before, hw, _⟩, hx⟩, _⟩ := hpre
  refine (walk (w.forCall tape i) w.heap.size i.args ds gs before hval (DataW.Whole.of_heap (w' := w.forCall tape i) (by rfl) hw) hsh (hX _ _ _ (by rfl) hx)).mono fun e W' ⟨v, he, hp⟩ => ?_
  subst he
  exact ChangeSpec.post_blind hp
end
section
variable {H : Type} {enc : TypeId × Value → H} {P : Program} {w : World} {base : Nat} {spare : Nat → Bool} {held : Bool}
theorem open_value {r : Reach} {b0 : Nat} {t : TypeId} {f0 f1 f2 : Field} {v : Value} {d : DataW H} {p : List MemPlace} (hs : P.underlying t = some (.struct #[f0, f1, f2])) (hone : oneCellFields P #[f0, f1, f2] = true) (hC : P.cellsOf t = 3)
    (e0 : P.underlying f0.type = some (.int .i64)) (e1 : P.underlying f1.type = some (.int .i64)) (e2 : P.underlying f2.type = some .string) (hv : Value.okWide P w r b0 t v) (h : DataW.Trod enc P w base spare held t v d p) :
    ∃ (a b : Int) (s : ByteArray), v = .agg #[.int .i64 a, .int .i64 b, .string s] ∧ (Lit.int .i64 a).wf = true ∧ (Lit.int .i64 b).wf = true ∧ s.size ≤ maxLen := by
  obtain ⟨v0, v1, v2, y0, y1, y2, n, rfl, _, _, g0, g1, g2⟩ := open_agg3 hs hone hC hv h
  obtain ⟨a, ea, _, wa⟩ := DataW.trod_int e0 g0
  obtain ⟨b, eb, _, wb⟩ := DataW.trod_int e1 g1
  obtain ⟨s, es, _, ws⟩ := DataW.trod_string e2 g2
  simp only [List.cons.injEq, and_true] at ea eb es
  exact ⟨a, b, s, by rw [ea, eb, es], wa, wb, ws⟩
end
end Go.Proofs.YtajnnkclonjcoaaDoor.Law
