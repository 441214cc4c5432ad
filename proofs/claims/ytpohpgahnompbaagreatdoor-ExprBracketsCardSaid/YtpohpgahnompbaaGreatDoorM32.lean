/-
  Contract of the program's writer's rule: a node's rule, where the node is as its Op's are.
-/
import Derived.Test.YtpohpgahnompbaaGreatDoorM31
import Derived.Test.YtpohpgahnompbaaGreatDoorM16
import Derived.Deep.RegionHeld3
import Derived.Test.YtpohpgahnompbaaGreatDoorM30
import Derived.Test.YtpohpgahnompbaaGreatDoorM20
import Derived.Test.YtpohpgahnompbaaGreatDoorM21
namespace Go.Proofs.YtpohpgahnompbaaGreatDoor.Code
open Go.ChangeShapes Go.WideShapes Go.ChangeAt Go.RowKit Val Elems
set_option linter.unusedVariables false
set_option linter.unusedSimpArgs false
/-- what lies behind a rule: the levels of its Kids -/
def Levels (w : World) (B : Nat) (ks : List Int) (Y : Option Addr) : Prop := ks = [] ∨ ∃ g, Y = some ⟨g, 0, none⟩ ∧ g < B ∧ HB w g (ks.map (Value.int .i64)).toArray 71
theorem Levels.below {w w' : World} {B : Nat} {ks : List Int} {Y : Option Addr} (h : Levels w B ks Y) (hb : Below B w w') : Levels w' B ks Y := h.imp id fun ⟨g, e1, e2, e3⟩ => ⟨g, e1, e2, (hb.block _ e2).trans e3⟩
def RulePost (w : World) (B : Nat) (lv : Int) (ks : List Int) (tb : Bool) (N : Nat) (e : Ending) (w' : World) : Prop := ∃ Y d, e = .returned (.tuple #[.agg #[.int .i64 lv, .slice Y N d, .bool tb], .bool true]) ∧ Levels w B ks Y ∧ Below w.heap.size w w'
theorem toList_eq_nil {s : ByteArray} (h : s.toList = []) : s = ⟨#[]⟩ := by
  rw [ByteArray.toList_eq] at h
  rw [← Lib.mk_data s, h]
set_option maxHeartbeats 8000000 in
set_option maxRecDepth 100000 in
theorem erule_any (b mb B : Nat) (bs : List UInt8) (op tx : ByteArray) (X : Option Addr) (lv : Int) (ks : List Int) (tb : Bool) (N c : Nat) (hN : ks.length = N) (hNs : N ≤ 2) (w : World) (h : Wr w b mb bs) (hr : RuleAt w B mb op lv ks tb) (hop : op.size ≤ 100) (ht : tx = ⟨#[]⟩ ∨ tb = true) :
    Calls Tryz.prog 27 #[.pointer (some ⟨b, 0, none⟩), .agg #[.string op, .string tx, .slice X N c]] w (RulePost w B lv ks tb N) := by
  obtain ⟨f, n, Y, d, h1, h2, h3, h4⟩ := hr
  rw [hN] at h3
  have hmw : mb < w.heap.size := h2.lt
  have hbw := h.lt
  have HLV := Lib.hid (show Levels w B ks Y from h4)
  have hcb : w.cell? ⟨b, 0, none⟩ = some (.map (some mb)) := by rcases h with ⟨_, h, _⟩ | ⟨_, h, _⟩ <;> exact h.cell 0
  have hlk0 := fun (w' : World) (e : w'.heap[mb]? = w.heap[mb]?) => run_look w' mb n f (h2.heap e) op (by unfold maxLen; omega) _ h3
  clear h h1 h2 h3 h4 hN
  have hz : w.heap.size < w.heap.size + 1 := by omega
  go_enter Tryz.func27, Tryz.ntmps27
  go_upto_region 1 with fail
  obtain ⟨W, hW⟩ : ∃ W, (w.alloc (.cells #[.string op, .string tx, .slice X N c] 25)).alloc (.cells #[.int .i64 0, .slice none 0 0, .bool false] 74) = W := ⟨_, rfl⟩
  have L0 := Lib.hid (show Below w.heap.size w W by rw [← hW]; exact ((Below.refl _ _).alloc (Nat.le_refl _) _).alloc (by simp) _)
  have N0 := Lib.hid (show HB W w.heap.size #[.string op, .string tx, .slice X N c] 25 by rw [← hW]; exact (HB.fresh _ _ _).alloc _)
  have M0 := Lib.hid (show NBox W (w.heap.size + 1) (.int .i64 0) (.slice none 0 0) (.bool false) by
    rw [← hW, show w.heap.size + 1 = (w.alloc (.cells #[.string op, .string tx, .slice X N c] 25)).heap.size by simp]; exact NBox.fresh _ _ _ _ _)
  have hzW : W.heap.size = w.heap.size + 2 := by rw [← hW]; simp
  have HLK := Lib.hid (fun (w' : World) (e : w'.heap[mb]? = W.heap[mb]?) => hlk0 w' (e.trans (L0.out.block mb hmw)))
  have c0 : W.cell? ⟨b, 0, none⟩ = some (.map (some mb)) := (L0.out.cell (p := ⟨b, 0, none⟩) hbw).trans hcb
  have n0 : W.cell? ⟨w.heap.size, 0, none⟩ = some (.string op) := N0.out.cell 0
  rw [hW]
  clear hW hlk0 hcb
  refine wp_region_held_drew (S := fun w' => w'.cell? ⟨b, 0, none⟩ = some (.map (some mb)) ∧ w'.cell? ⟨w.heap.size, 0, none⟩ = some (.string op) ∧ w'.heap[mb]? = W.heap[mb]?) (by kernel_rfl) ⟨c0, n0, rfl⟩ (fun hHeld => ?_)
  -- region
  refine wpAnyH_take (i := 0) (oi := ⟨some 9, _, _, _, _, _⟩) (v := ?_) rfl (by kernel_rfl) (by kernel_rfl) (by kernel_rfl) (fun _ _ _ h => h) (Or.inl ⟨by rfl, ?_⟩) (by assumption) ?_; rotate_left 1; (intro w hSw; (try dsimp only at hSw); go_simp; try with_reducible rfl); (try simp only [Act.put, List.setIfInBounds_toArray, List.set_cons_zero, List.set_cons_succ])
  refine wpAnyH_take (i := 1) (oi := ⟨some 10, _, _, _, _, _⟩) (v := ?_) rfl (by kernel_rfl) (by kernel_rfl) (by kernel_rfl) (fun _ _ _ h => h) (Or.inl ⟨by rfl, ?_⟩) (by assumption) ?_; rotate_left 1; (intro w hSw; (try dsimp only at hSw); go_simp; try with_reducible rfl); (try simp only [Act.put, List.setIfInBounds_toArray, List.set_cons_zero, List.set_cons_succ])
  refine wpAnyH_take (i := 2) (oi := ⟨some 11, _, _, _, _, _⟩) (v := ?_) rfl (by kernel_rfl) (by kernel_rfl) (by kernel_rfl) (fun _ _ _ h => h) (Or.inl ⟨by rfl, ?_⟩) (by assumption) ?_; rotate_left 1; (intro w hSw; (try dsimp only at hSw); go_simp; try with_reducible rfl); (try simp only [Act.put, List.setIfInBounds_toArray, List.set_cons_zero, List.set_cons_succ])
  refine wpAnyH_take (i := 3) (oi := ⟨some 12, _, _, _, _, _⟩) (v := ?_) rfl (by kernel_rfl) (by kernel_rfl) (by kernel_rfl) (fun _ _ _ h => h) (Or.inl ⟨by rfl, ?_⟩) (by assumption) ?_; rotate_left 1; (intro w hSw; (try dsimp only at hSw); go_simp; try with_reducible rfl); (try simp only [Act.put, List.setIfInBounds_toArray, List.set_cons_zero, List.set_cons_succ])
  refine wpAnyH_take (i := 4) (oi := ⟨some 13, _, _, _, _, _⟩) (v := ?_) rfl (by kernel_rfl) (by kernel_rfl) (by kernel_rfl) (fun _ _ _ h => h) (Or.inl ⟨by rfl, ?_⟩) (by assumption) ?_; rotate_left 1; (intro w hSw; (try dsimp only at hSw); go_simp; try with_reducible rfl); (try simp only [Act.put, List.setIfInBounds_toArray, List.set_cons_zero, List.set_cons_succ])
  refine wpAnyH_take (i := 5) (oi := ⟨some 14, _, _, _, _, _⟩) (v := ?_) rfl (by kernel_rfl) (by kernel_rfl) (by kernel_rfl) (fun _ _ _ h => h) (Or.inl ⟨by rfl, ?_⟩) (by assumption) ?_; rotate_left 1; (intro w hSw; (try dsimp only at hSw); go_simp; try with_reducible rfl); (try simp only [Act.put, List.setIfInBounds_toArray, List.set_cons_zero, List.set_cons_succ])
  refine wpAnyH_take (i := 6) (oi := ⟨some 15, _, _, _, _, _⟩) (v := ?_) rfl (by kernel_rfl) (by kernel_rfl) (by kernel_rfl) (fun _ _ _ h => h) (Or.inl ⟨by rfl, ?_⟩) (by assumption) ?_; rotate_left 1; (intro w hSw; (try dsimp only at hSw); go_simp; rw [HLK.out _ hSw.2.2]; go_simp; try with_reducible rfl); (try simp only [Act.put, List.setIfInBounds_toArray, List.set_cons_zero, List.set_cons_succ])
  refine wpAnyH_take (i := 7) (oi := ⟨some 8, _, _, _, _, _⟩) (v := ?_) rfl (by kernel_rfl) (by kernel_rfl) (by kernel_rfl) (fun _ _ _ h => h) (Or.inl ⟨by rfl, ?_⟩) (by assumption) ?_; rotate_left 1; (intro w hSw; (try dsimp only at hSw); go_simp; try with_reducible rfl); (try simp only [Act.put, List.setIfInBounds_toArray, List.set_cons_zero, List.set_cons_succ])
  refine wpAnyH_take (i := 8) (oi := ⟨some 16, _, _, _, _, _⟩) (v := ?_) rfl (by kernel_rfl) (by kernel_rfl) (by kernel_rfl) (fun _ _ _ h => h) (Or.inl ⟨by rfl, ?_⟩) (by assumption) ?_; rotate_left 1; (intro w hSw; (try dsimp only at hSw); go_simp; try with_reducible rfl); (try simp only [Act.put, List.setIfInBounds_toArray, List.set_cons_zero, List.set_cons_succ])
  refine wpAnyH_take (i := 9) (oi := ⟨some 17, _, _, _, _, _⟩) (v := ?_) rfl (by kernel_rfl) (by kernel_rfl) (by kernel_rfl) (fun _ _ _ h => h) (Or.inl ⟨by rfl, ?_⟩) (by assumption) ?_; rotate_left 1; (intro w hSw; (try dsimp only at hSw); go_simp; try with_reducible rfl); (try simp only [Act.put, List.setIfInBounds_toArray, List.set_cons_zero, List.set_cons_succ])
  refine wpAnyH_ready (rs := [10]) (by kernel_rfl) (by simp) ?_
  refine AllReadyH.cons (o := ⟨some 6, _, _, _, _, _⟩) rfl (fun K hK => ?_) AllReadyH.nil
  go_simp
  refine hK.out _ _ ⟨(World.cell?_alloc_some _ _ _ (by rw [c0]; rfl)).trans c0, (World.cell?_alloc_some _ _ _ (by rw [n0]; rfl)).trans n0, (below_alloc W _).block mb (by omega)⟩ (fun hHeld2 => ?_)
  clear hK K
  (try simp only [Act.put, List.setIfInBounds_toArray, List.set_cons_zero, List.set_cons_succ])
  refine wpAnyH_ready (rs := [11]) (by kernel_rfl) (by simp) ?_
  refine AllReadyH.cons (o := ⟨none, _, _, _, _, _⟩) rfl (fun K hK => ?_) AllReadyH.nil
  go_simp
  refine hK.out _ _ ⟨(World.cell?_alloc_some _ _ _ (by rw [c0]; rfl)).trans c0, (World.cell?_alloc_some _ _ _ (by rw [n0]; rfl)).trans n0, (below_alloc W _).block mb (by omega)⟩ (fun hHeld3 => ?_)
  clear hK K
  (try simp only [Act.put, List.setIfInBounds_toArray, List.set_cons_zero, List.set_cons_succ])
  refine wpAnyH_take (i := 12) (oi := ⟨some 7, _, _, _, _, _⟩) (v := ?_) rfl (by kernel_rfl) (by kernel_rfl) (by kernel_rfl) (fun _ _ _ h => h) (Or.inl ⟨by rfl, ?_⟩) (by assumption) ?_; rotate_left 1; (intro w hSw; (try dsimp only at hSw); go_simp; try with_reducible rfl); (try simp only [Act.put, List.setIfInBounds_toArray, List.set_cons_zero, List.set_cons_succ])
  refine wpAnyH_done (by kernel_rfl) ?_ _
  clear hHeld hHeld2 hHeld3 c0 n0 HLK
  have Lx := Lib.hid (show Below W.heap.size W (W.alloc (.cells #[.int .i64 lv, .slice Y N d, .bool tb] 74)).drew from (below_alloc W _).drew)
  have V0 := Lib.hid (show NBox (W.alloc (.cells #[.int .i64 lv, .slice Y N d, .bool tb] 74)).drew (w.heap.size + 2) (.int .i64 lv) (.slice Y N d) (.bool tb) by rw [← hzW]; exact (NBox.fresh W _ _ _ _).below (Below.drew (Below.refl _ _)))
  obtain ⟨W2, hW2⟩ : ∃ W2, (W.alloc (.cells #[.int .i64 lv, .slice Y N d, .bool tb] 74)).drew = W2 := ⟨_, rfl⟩
  rw [hW2] at V0 Lx ⊢
  have N2 := Lib.hid (N0.out.below Lx.out)
  have M2 := Lib.hid (M0.out.below Lx.out)
  have L2 := Lib.hid (bnext L0.out (by omega) Lx.out)
  have n0 : W2.cell? ⟨w.heap.size, 0, none⟩ = some (.string op) := N2.out.cell 0
  have n1 : W2.cell? ⟨w.heap.size, 1, none⟩ = some (.string tx) := N2.out.cell 1
  have n2 : W2.cell? ⟨w.heap.size, 2, none⟩ = some (.slice X N c) := N2.out.cell 2
  obtain ⟨v0, v1, v2, vf⟩ := V0.out
  obtain ⟨y0, y1, y2, yf⟩ := M2.out
  have zl := V0.out.lt
  clear hW2 N0 M0 L0 Lx hzW
  by_cases hte : tx = ⟨#[]⟩
  · subst hte
    go_wp2
    have Z := M2.out.set (.int .i64 lv) (.slice Y N d) (.bool tb)
    exact bodyPost_ret (v := .tuple #[.agg #[.int .i64 lv, .slice Y N d, .bool tb], .bool true]) (by simp [results, Tryz.results27, go_sem, Z.c0, Z.c1, Z.c2]) rfl
      ⟨Y, d, rfl, HLV.out, ((L2.out.setCell (p := ⟨w.heap.size + 1, 0, none⟩) (by simp) _).setCell (p := ⟨w.heap.size + 1, 1, none⟩) (by simp) _).setCell (p := ⟨w.heap.size + 1, 2, none⟩) (by simp) _⟩
  · obtain rfl : tb = true := ht.resolve_left hte
    have b2 : ¬ tx.toList = [] := by
      intro e
      exact hte (toList_eq_nil e)
    have b1 : (tx.toList == []) = false := by simpa using b2
    have b3 : (tx.toList != []) = true := by simpa using b2
    clear hte b2
    go_wp2
    have Z := M2.out.set (.int .i64 lv) (.slice Y N d) (.bool true)
    exact bodyPost_ret (v := .tuple #[.agg #[.int .i64 lv, .slice Y N d, .bool true], .bool true]) (by simp [results, Tryz.results27, go_sem, Z.c0, Z.c1, Z.c2]) rfl
      ⟨Y, d, rfl, HLV.out, ((L2.out.setCell (p := ⟨w.heap.size + 1, 0, none⟩) (by simp) _).setCell (p := ⟨w.heap.size + 1, 1, none⟩) (by simp) _).setCell (p := ⟨w.heap.size + 1, 2, none⟩) (by simp) _⟩
end Go.Proofs.YtpohpgahnompbaaGreatDoor.Code

/-
  How a node of the live question is shown, in plain words. No program is named here.
-/
namespace Go.Proofs.YtpohpgahnompbaaGreatDoor.Code
open Go.ChangeShapes Go.WideShapes Go.ChangeAt Go.RowKit Val Elems
set_option linter.unusedVariables false
def lvT (t : Tr) : Int := match ruleOf (opOf t) with | some r => r.1 | none => 7
def kd (lv : Int) (t : Tr) (s : List UInt8) : List UInt8 := if lv ≤ lvT t then s else 40 :: (s ++ [41])
def k0 (op : List UInt8) : Int := match ruleOf op with | some r => r.2.1.getD 0 0 | none => 0
def k1 (op : List UInt8) : Int := match ruleOf op with | some r => r.2.1.getD 1 0 | none => 0
/-- a node's text -/
def sh : Tr → List UInt8
  | .leaf op tx => if op = sText then showL 4 0 ⟨tx.toArray⟩ else tx
  | .one op a => if op = sNeg then 45 :: kd (k0 op) a (sh a) else if op = sNot then [110, 111, 116, 32] ++ kd (k0 op) a (sh a) else kd (k0 op) a (sh a) ++ [32, 105, 115, 32, 110, 117, 108, 108]
  | .two op a b => kd (k0 op) a (sh a) ++ (32 :: (op ++ [32])) ++ kd (k1 op) b (sh b)
def Okay : Tr → Prop
  | .leaf op tx => op = sNum ∨ op = sCol ∨ op = sText
  | .one op a => (op = sNeg ∨ op = sNot ∨ op = sIsNull) ∧ Okay a
  | .two op a b => (op = sAnd ∨ op = [60, 61] ∨ op = [45] ∨ op = [42]) ∧ Okay a ∧ Okay b
theorem alive_okay : Okay aliveT := by
  unfold aliveT
  simp [Okay]
  decide
theorem alive_sh : sh aliveT = [110, 111, 116, 32, 97, 32, 45, 32, 49, 32, 45, 32, 50, 32, 42, 32, 45, 98, 32, 60, 61, 32, 51, 32, 97, 110, 100, 32, 39, 120, 39, 32, 105, 115, 32, 110, 117, 108, 108] := by decide +kernel
theorem okay_rule : ∀ {t : Tr}, Okay t → ∃ r, ruleOf (opOf t) = some r ∧ r.2.1.length = (kids t).length ∧ (txOf t = [] ∨ r.2.2 = true) ∧ (opOf t).length ≤ 100
  | .leaf op tx, h => by
    rcases h with rfl | rfl | rfl
    · exact ⟨(7, [], true), by simp only [opOf]; decide, rfl, .inr rfl, by simp only [opOf]; decide⟩
    · exact ⟨(7, [], true), by simp only [opOf]; decide, rfl, .inr rfl, by simp only [opOf]; decide⟩
    · exact ⟨(7, [], true), by simp only [opOf]; decide, rfl, .inr rfl, by simp only [opOf]; decide⟩
  | .one op a, h => by
    rcases h.1 with rfl | rfl | rfl
    · exact ⟨(6, [7], false), by simp only [opOf]; decide, rfl, .inl rfl, by simp only [opOf]; decide⟩
    · exact ⟨(2, [2], false), by simp only [opOf]; decide, rfl, .inl rfl, by simp only [opOf]; decide⟩
    · exact ⟨(3, [4], false), by simp only [opOf]; decide, rfl, .inl rfl, by simp only [opOf]; decide⟩
  | .two op a b, h => by
    rcases h.1 with rfl | rfl | rfl | rfl
    · exact ⟨(1, [1, 2], false), by simp only [opOf]; decide, rfl, .inl rfl, by simp only [opOf]; decide⟩
    · exact ⟨(3, [4, 4], false), by simp only [opOf]; decide, rfl, .inl rfl, by simp only [opOf]; decide⟩
    · exact ⟨(4, [4, 5], false), by simp only [opOf]; decide, rfl, .inl rfl, by simp only [opOf]; decide⟩
    · exact ⟨(5, [5, 6], false), by simp only [opOf]; decide, rfl, .inl rfl, by simp only [opOf]; decide⟩
/-- what a call of the writer gives -/
def NdPost (b mb : Nat) (bs : List UInt8) (w : World) (e : Ending) (w' : World) : Prop := e = .returned (.tuple #[]) ∧ Wr w' b mb bs ∧ Kp b w w'
/-- what is at hand of a writer, a node and a table -/
structure Has (b mb : Nat) (m : Int) (bs : List UInt8) (w : World) : Prop where
  wr : Wr w b mb bs
  ru : Rules w b mb
  ev : Env b m w
theorem Has.lt {b mb : Nat} {m : Int} {bs : List UInt8} {w : World} (h : Has b mb m bs w) : b < w.heap.size := h.wr.lt
theorem Has.below {b mb : Nat} {m : Int} {bs : List UInt8} {w w' : World} (h : Has b mb m bs w) (hb : Below w.heap.size w w') : Has b mb m bs w' :=
  ⟨h.wr.below hb, h.ru.below (hb.mono (Nat.le_of_lt h.lt)), h.ev.below (hb.mono (Nat.le_of_lt h.lt))⟩
theorem Has.alloc {b mb : Nat} {m : Int} {bs : List UInt8} {w : World} (h : Has b mb m bs w) (o : Obj) : Has b mb m bs (w.alloc o) := h.below (below_alloc w o)
theorem Has.next {b mb : Nat} {m : Int} {bs bs' : List UInt8} {w w' : World} (h : Has b mb m bs w) (hw : Wr w' b mb bs') (hk : Kp b w w') : Has b mb m bs' w' := ⟨hw, h.ru.below hk.bl, h.ev.below hk.bl⟩
theorem NIn.kp {w w' : World} {S : Nat → Prop} {t : Tr} {a c d : Value} {b : Nat} (h : NIn w S t a c d) (hS : ∀ g, S g → g < b) (hb : Below b w w') : NIn w' S t a c d :=
  NIn.keep (fun _ h => h) (fun g hg j => hb.cell (p := ⟨g, j, none⟩) (hS g hg)) t a c d h
/-- a node is written as it should -/
def Nd (b mb : Nat) (m : Int) (t : Tr) : Prop := ∀ (S : Nat → Prop) (op tx : ByteArray) (X : Option Addr) (n k : Nat) (bs : List UInt8) (w : World), Has b mb m bs w → (∀ g, S g → g < b) → NIn w S t (.string op) (.string tx) (.slice X n k) → bs.length + (sh t).length ≤ 1000 →
  Calls Tryz.prog 20 #[.pointer (some ⟨b, 0, none⟩), .agg #[.string op, .string tx, .slice X n k]] w (NdPost b mb (bs ++ sh t) w)
/-- the rule of a node -/
theorem node_rule {b mb : Nat} {m : Int} {bs : List UInt8} {w : World} (h : Has b mb m bs w) {t : Tr} (ho : Okay t) {S : Nat → Prop} {op tx : ByteArray} {X : Option Addr} {n k : Nat} (hn : NIn w S t (.string op) (.string tx) (.slice X n k)) (r : Int × List Int × Bool) (hr : ruleOf (opOf t) = some r) :
    Calls Tryz.prog 27 #[.pointer (some ⟨b, 0, none⟩), .agg #[.string op, .string tx, .slice X n k]] w (RulePost w b r.1 r.2.1 r.2.2 n) := by
  obtain ⟨r', hr', h1, h2, h3⟩ := okay_rule ho
  rw [hr] at hr'
  obtain rfl : r = r' := Option.some.inj hr'
  obtain ⟨e1, e2⟩ := hn.op_eq
  obtain ⟨X0, c0, e0, _⟩ := hn.node
  injection e0 with eX en em
  have hk := kids_few t
  have hra := h.ru _ _ hr
  rw [← e1] at hra
  refine erule_any b mb b bs op tx X r.1 r.2.1 r.2.2 n k (by rw [h1, en]) (by omega) w h.wr hra ?_ ?_
  · rw [e1]; exact h3
  · rcases h2 with h2 | h2
    · left; rw [e2, h2]
    · exact .inr h2
end Go.Proofs.YtpohpgahnompbaaGreatDoor.Code

/-
  A Kid is written by the program's writer: with brackets, where it is weaker than its place allows.
-/
namespace Go.Proofs.YtpohpgahnompbaaGreatDoor.Code
open Go.ChangeShapes Go.WideShapes Go.ChangeAt Go.RowKit Val Elems
set_option linter.unusedVariables false
set_option linter.unusedSimpArgs false
/-- what is at hand of a writer within a call: the node's variable, its rule's, the node -/
structure NSt (b mb : Nat) (m : Int) (w0 : World) (S : Nat → Prop) (t : Tr) (op0 op tx : ByteArray) (X : Option Addr) (n k : Nat) (lv : Int) (ks : List Int) (tb : Bool) (Y : Option Addr) (d g0 g6 : Nat) (bs : List UInt8) (w : World) : Prop where
  has : Has b mb m bs w
  box : HB w g0 #[.string op0, .string tx, .slice X n k] 25
  rv : HB w g6 #[.int .i64 lv, .slice Y n d, .bool tb] 74
  lvl : Levels w b ks Y
  nin : NIn w S t (.string op) (.string tx) (.slice X n k)
  kp : Kp b w0 w
theorem NSt.next {b mb : Nat} {m : Int} {w0 : World} {S : Nat → Prop} {t : Tr} {op0 op tx : ByteArray} {X : Option Addr} {n k : Nat} {lv : Int} {ks : List Int} {tb : Bool} {Y : Option Addr} {d g0 g6 : Nat} {bs bs' : List UInt8} {w w' : World}
    (h : NSt b mb m w0 S t op0 op tx X n k lv ks tb Y d g0 g6 bs w) (hS : ∀ g, S g → g < b) (h0 : b < g0) (h6 : b < g6) (hw : Wr w' b mb bs') (hk : Kp b w w') : NSt b mb m w0 S t op0 op tx X n k lv ks tb Y d g0 g6 bs' w' :=
  ⟨h.has.next hw hk, h.box.kp hk (by omega) (by decide), h.rv.kp hk (by omega) (by decide), h.lvl.below hk.bl, h.nin.kp hS hk.bl, h.kp.trans hk⟩
set_option maxHeartbeats 8000000 in
set_option maxRecDepth 100000 in
theorem ekid_any {b mb : Nat} {m : Int} (t : Tr) (ho : Okay t) (ih : Nd b mb m t) (al : Int) (S : Nat → Prop) (op tx : ByteArray) (X : Option Addr) (n k : Nat) (bs : List UInt8) (w : World) (h : Has b mb m bs w) (hS : ∀ g, S g → g < b) (hn : NIn w S t (.string op) (.string tx) (.slice X n k)) (hl : bs.length + (kd al t (sh t)).length ≤ 1000) :
    Calls Tryz.prog 30 #[.pointer (some ⟨b, 0, none⟩), .agg #[.string op, .string tx, .slice X n k], .int .i64 al] w (NdPost b mb (bs ++ kd al t (sh t)) w) := by
  obtain ⟨⟨lv, ks, tb⟩, hr, hr1, hr2, hr3⟩ := okay_rule ho
  have hlv : lvT t = lv := by unfold lvT; rw [hr]
  have hR := fun (w' : World) (hb : Below w.heap.size w w') => node_rule (h.below hb) ho (hn.kp hS (hb.mono (Nat.le_of_lt h.lt))) _ hr
  unfold RulePost at hR
  have HR := Lib.hid hR
  have HI := Lib.hid ih
  have HH := Lib.hid h
  have HN := Lib.hid hn
  have HS := Lib.hid hS
  have hbl := h.lt
  obtain ⟨s, hs⟩ : ∃ s, sh t = s := ⟨_, rfl⟩
  have HSH := Lib.hid hs
  rw [hs] at hl ⊢
  unfold kd at hl ⊢
  rw [hlv] at hl ⊢
  clear hr hr1 hr2 hr3 hR ih h hn hS hs ho
  have hge : ∀ q, decide (al ≤ lv) = q → Calls Tryz.prog 30 #[.pointer (some ⟨b, 0, none⟩), .agg #[.string op, .string tx, .slice X n k], .int .i64 al] w (NdPost b mb (bs ++ if al ≤ lv then s else 40 :: (s ++ [41])) w) := by
    intro q hq
    obtain ⟨Z, hZ⟩ : ∃ Z, (if al ≤ lv then s else 40 :: (s ++ [41])) = Z := ⟨_, rfl⟩
    have HZ := Lib.hid hZ
    rw [hZ] at hl ⊢
    clear hZ
    go_enter Tryz.func30, Tryz.ntmps30
    obtain ⟨w0, hw0⟩ : ∃ w0, w.alloc (.cells #[.string op, .string tx, .slice X n k] 25) = w0 := ⟨_, rfl⟩
    have B0 := Lib.hid (show Below w.heap.size w w0 by rw [← hw0]; exact below_alloc w _)
    have X0 := Lib.hid (show HB w0 w.heap.size #[.string op, .string tx, .slice X n k] 25 by rw [← hw0]; exact HB.fresh w _ _)
    have x0 : w0.cell? ⟨w.heap.size, 0, none⟩ = some (.string op) := X0.out.cell 0
    have x1 : w0.cell? ⟨w.heap.size, 1, none⟩ = some (.string tx) := X0.out.cell 1
    have x2 : w0.cell? ⟨w.heap.size, 2, none⟩ = some (.slice X n k) := X0.out.cell 2
    go_wp2_with fail
    try rw [hw0]
    refine (HR.out _ B0.out).mono ?_
    rintro e w1 ⟨Y, d, rfl, hY, hb1⟩
    have hz0 : w.heap.size < w0.heap.size := by rw [← hw0]; simp
    have z1 := hb1.size
    obtain ⟨W1, hW1⟩ : ∃ W1, w1.alloc (.cells #[.int .i64 lv, .slice Y n d, .bool tb] 74) = W1 := ⟨_, rfl⟩
    have B1 := Lib.hid (show Below w.heap.size w W1 by rw [← hW1]; exact (bnext B0.out B0.out.size hb1).alloc (by omega) _)
    have T1 := Lib.hid (show NSt b mb m w S t op op tx X n k lv ks tb Y d w.heap.size w1.heap.size bs W1 from
      ⟨HH.out.below B1.out, by rw [← hW1]; exact (X0.out.below hb1).alloc _, by rw [← hW1]; exact HB.fresh w1 _ _, by rw [← hW1]; exact hY.below ((bnext (Below.refl _ _) (Nat.le_refl _) hb1).mono (by omega) |>.trans ((below_alloc w1 _).mono (by omega))), HN.out.kp HS.out (B1.out.mono (by omega)), (Kp.refl b w).next (by omega) B1.out⟩)
    have q0 : W1.cell? ⟨w.heap.size, 0, none⟩ = some (.string op) := T1.out.box.cell 0
    have q1 : W1.cell? ⟨w.heap.size, 1, none⟩ = some (.string tx) := T1.out.box.cell 1
    have q2 : W1.cell? ⟨w.heap.size, 2, none⟩ = some (.slice X n k) := T1.out.box.cell 2
    have q3 : W1.cell? ⟨w1.heap.size, 0, none⟩ = some (.int .i64 lv) := T1.out.rv.cell 0
    clear hY hb1 x0 x1 x2 X0 B0 B1 HR
    cases q with
    | true =>
      have hle : al ≤ lv := by simpa using hq
      have hZ := HZ.out
      rw [if_pos hle] at hZ
      subst hZ
      have HN1 := Lib.hid (HI.out S op tx X n k bs W1 T1.out.has HS.out T1.out.nin (by rw [HSH.out]; exact hl))
      unfold NdPost at HN1
      rw [HSH.out] at HN1
      clear hle HZ
      go_wp2_with fail
      try rw [hW1]
      refine HN1.out.mono ?_
      rintro e w2 ⟨rfl, hw2, hk2⟩
      have T2 := Lib.hid (T1.out.next HS.out (by omega) (by omega) hw2 hk2)
      clear hw2 hk2 q0 q1 q2 q3
      go_wp2
      go_end0
      exact ⟨rfl, T2.out.has.wr, T2.out.kp⟩
    | false =>
      have hle : ¬ al ≤ lv := by simpa using hq
      have hZ := HZ.out
      rw [if_neg hle] at hZ
      subst hZ
      have HW := Lib.hid (fun (bs' : List UInt8) (s : ByteArray) (w' : World) (h' : Wr w' b mb bs') (hl' : bs'.length + s.size ≤ 1000000) => ewrite_any b mb bs' s w' h' hl')
      clear hle HZ
      go_wp2_with fail
      try rw [hW1]
      refine (HW.out bs ⟨#[40]⟩ _ T1.out.has.wr (by show bs.length + 1 ≤ 1000000; simp at hl; omega)).mono ?_
      rintro e w2 ⟨rfl, hw2, hk2⟩
      have T2 := Lib.hid (T1.out.next HS.out (by omega) (by omega) hw2 hk2)
      have HN2 := Lib.hid (HI.out S op tx X n k (bs ++ [40]) w2 T2.out.has HS.out T2.out.nin (by rw [HSH.out]; simp at hl ⊢; omega))
      unfold NdPost at HN2
      rw [HSH.out] at HN2
      have r0 : w2.cell? ⟨w.heap.size, 0, none⟩ = some (.string op) := T2.out.box.cell 0
      have r1 : w2.cell? ⟨w.heap.size, 1, none⟩ = some (.string tx) := T2.out.box.cell 1
      have r2 : w2.cell? ⟨w.heap.size, 2, none⟩ = some (.slice X n k) := T2.out.box.cell 2
      clear hw2 hk2 q0 q1 q2 q3
      go_wp2_with fail
      refine HN2.out.mono ?_
      rintro e w3 ⟨rfl, hw3, hk3⟩
      have T3 := Lib.hid (T2.out.next HS.out (by omega) (by omega) hw3 hk3)
      clear hw3 hk3 r0 r1 r2
      go_wp2_with fail
      refine (HW.out (bs ++ [40] ++ s) ⟨#[41]⟩ _ T3.out.has.wr (by show (bs ++ [40] ++ s).length + 1 ≤ 1000000; simp at hl ⊢; omega)).mono ?_
      rintro e w4 ⟨rfl, hw4, hk4⟩
      have T4 := Lib.hid (T3.out.next HS.out (by omega) (by omega) hw4 hk4)
      clear hw4 hk4
      go_wp2
      go_end0
      exact ⟨rfl, by have h := T4.out.has.wr; simpa using h, T4.out.kp⟩
  exact hge _ rfl
end Go.Proofs.YtpohpgahnompbaaGreatDoor.Code
