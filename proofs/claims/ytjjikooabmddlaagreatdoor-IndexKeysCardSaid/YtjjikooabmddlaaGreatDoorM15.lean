/-
  The document's index: what Put answers, and what it leaves.
-/
import Derived.Test.YtjjikooabmddlaaGreatDoorM12
import Derived.Test.YtjjikooabmddlaaGreatDoorM13
import Derived.Test.YtjjikooabmddlaaGreatDoorM14
import Derived.Maps.AppendAt
namespace Go.Proofs.YtjjikooabmddlaaGreatDoor.Items
open Go.ChangeShapes Go.WideShapes Go.ChangeAt Go.RowKit Val Go.Proofs.YtjjikooabmddlaaGreatDoor.Code Go.Proofs.YtjjikooabmddlaaGreatDoor.Elems Go.Proofs.YtjjikooabmddlaaGreatDoor.ZP
set_option linter.unusedVariables false
set_option maxRecDepth 100000

def okAll (l : List Int) (s : List It) : Bool := s.all fun x => okP x.2.2.1 l
theorem okAll_snoc (l : List Int) (s : List It) (k : Nat) (h : k < s.length) : okAll l (s.take (k + 1)) = (okAll l (s.take k) && okP s[k].2.2.1 l) := by
  unfold okAll
  rw [List.take_succ_eq_append_getElem h, List.all_append]
  simp
theorem okAll_not {l : List Int} {s : List It} {k : Nat} (h : k < s.length) (g : okP s[k].2.2.1 l = false) : okAll l s = false := by
  unfold okAll
  rw [List.all_eq_false]
  exact ⟨s[k], List.getElem_mem h, by rw [g]; simp⟩
def putE (l : List Int) (S s : List It) : Int := if okAll l s then ofE (S ++ s) else 51
def putS (l : List Int) (S s : List It) : List It := if okAll l s && decide (ofE (S ++ s) = 0) then ofL (S ++ s) else S
theorem ofE_three (L : List It) : ofE L = 0 ∨ ofE L = 11 ∨ ofE L = 51 := by
  unfold ofE
  split
  · split <;> simp
  · simp
section
variable {w w' : World} {g : Nat} {C : Option Addr} {cc : Nat} {l : List Int} {A : Option Addr} {ca : Nat} {S : List It}
theorem RIdx.free (h : RIdx w g C cc l A ca S) (j : Nat) : w.frozen? ⟨g, j, none⟩ = false := by
  have := h.blk
  simp [World.frozen?, this]
theorem idx_not {a : Value} {T : TypeId} {q : Addr} {X : Option Addr} {m c : Nat} {n : Int} (hb : w.heap[g]? = some (.cells #[a, .slice A ca cc] T (0, 0))) (h0 : w.cell? q = some (.slice X m c)) (h1 : w.cell? ⟨q.block, q.off + 1, none⟩ = some (.int .i64 n)) : q.block ≠ g := by
  intro e
  obtain ⟨b, o, sp⟩ := q
  simp only at e h1
  subst e
  unfold World.cell? at h0 h1
  simp only [hb] at h0 h1
  match o with
  | 0 => simp at h1
  | 1 => simp at h1
  | n + 2 =>
    split at h0
    · cases h0
    · simp at h0
theorem RIdx.store (h : RIdx w g C cc l A ca S) {B : Option Addr} {cb : Nat} {M : List It} (hM : Items w w.heap.size B M) : RIdx (w.setCell ⟨g, 1, none⟩ (.slice B M.length cb)) g C cc l B cb M := by
  have hs : (w.setCell ⟨g, 1, none⟩ (.slice B M.length cb)).heap.size = w.heap.size := by simp
  have e : w.setCell ⟨g, 1, none⟩ (.slice B M.length cb) = w.setRow g _ := setCell_eq_setRow w g _ _ _ _ _ h.blk
  refine ⟨?_, ?_, ?_, ?_⟩
  · rw [e, setRow_heap w g _ _ _ _ h.blk]
    simp
  · rw [hs]
    intro i hi
    obtain ⟨ad, e1, e2, e3⟩ := h.ints i hi
    refine ⟨ad, e1, e2, (World.cell?_setCell_other _ _ _ _ ?_).trans e3⟩
    intro e4
    rw [← e4, h.set] at e3
    cases e3
  · rw [hs]
    intro i hi
    obtain ⟨ad, e1, e2, e3⟩ := hM.1 i hi
    obtain ⟨ad', e1', _, c0, c1, _⟩ := hM.at i hi
    obtain rfl : ad = ad' := Option.some.inj (e1.symm.trans e1')
    have hn := idx_not h.blk c0 c1
    refine ⟨ad, e1, e2, fun j u hu => (World.cell?_setCell_other _ _ _ _ ?_).trans (e3 j u hu)⟩
    intro e4
    apply hn
    have := congrArg Addr.block e4
    rw [add_block] at this ⊢
    exact this.symm
  · rw [hs]
    intro x hx i hi
    obtain ⟨ad, e1, e2, c0, c1, c2⟩ := hM.2 x hx i hi
    refine ⟨ad, e1, e2, (World.cell?_setCell_other _ _ _ _ ?_).trans c0, (World.cell?_setCell_other _ _ _ _ ?_).trans c1, (World.cell?_setCell_other _ _ _ _ ?_).trans c2⟩
    · intro e4; rw [← e4, h.set] at c0; cases c0
    · intro e4; rw [← e4, h.set] at c1; cases c1
    · intro e4; rw [← e4, h.set] at c2; cases c2
end
theorem below_to_grown {w w' : World} (h : Below w.heap.size w w') (row : Option Nat) : w.grownBy w' row := ⟨h.os, h.tape, h.output, h.size, fun k hk _ => h.block k hk⟩
theorem grown_put {w w' : World} {g : Nat} (h : Below w.heap.size w w') (v : Value) : w.grownBy (w'.setCell ⟨g, 1, none⟩ v) (some g) := by
  refine ⟨h.os, h.tape, h.output, by simpa using h.size, fun k hk hne => ?_⟩
  have hkg : ¬ g = k := fun e => hne (by rw [e])
  rw [← h.block k hk]
  simp [World.setCell, Array.getElem?_modify, hkg]
def PutEnd (w : World) (g : Nat) (C : Option Addr) (cc : Nat) (l : List Int) (S s : List It) (e : Ending) (w' : World) : Prop :=
  ∃ (A' : Option Addr) (ca' : Nat), e = .returned (.int .i64 (putE l S s)) ∧ RIdx w' g C cc l A' ca' (putS l S s) ∧ w.grownBy w' (some g)
theorem putEnd_bad {w w' : World} {g : Nat} {C : Option Addr} {cc : Nat} {l : List Int} {A : Option Addr} {ca : Nat} {S s : List It} (h : okAll l s = false) (hX : RIdx w' g C cc l A ca S) (hb : Below w.heap.size w w') : PutEnd w g C cc l S s (.returned (.int .i64 51)) w' :=
  ⟨A, ca, by unfold putE; rw [h]; rfl, by unfold putS; rw [h]; exact hX, below_to_grown hb _⟩
theorem putEnd_err {w w' : World} {g : Nat} {C : Option Addr} {cc : Nat} {l : List Int} {A : Option Addr} {ca : Nat} {S s : List It} {E : Int} (h : okAll l s = true) (hE : ofE (S ++ s) = E) (h0 : E ≠ 0) (hX : RIdx w' g C cc l A ca S) (hb : Below w.heap.size w w') : PutEnd w g C cc l S s (.returned (.int .i64 E)) w' :=
  ⟨A, ca, by unfold putE; rw [h, hE]; rfl, by unfold putS; rw [h, hE, if_neg (by simpa using h0)]; exact hX, below_to_grown hb _⟩
theorem putEnd_ok {w w' : World} {g : Nat} {C : Option Addr} {cc : Nat} {l : List Int} {A : Option Addr} {ca : Nat} {S s : List It} {B : Option Addr} {cb : Nat} {M : List It} (h : okAll l s = true) (hE : ofE (S ++ s) = 0) (hM : ofL (S ++ s) = M) (hX : RIdx w' g C cc l A ca S) (hI : Items w' w'.heap.size B M) (hb : Below w.heap.size w w') : PutEnd w g C cc l S s (.returned (.int .i64 0)) (w'.setCell ⟨g, 1, none⟩ (.slice B M.length cb)) :=
  ⟨B, cb, by unfold putE; rw [h, hE]; rfl, by unfold putS; rw [h, hE, hM]; exact hX.store hI, grown_put hb _⟩
set_option maxHeartbeats 4000000 in
theorem iput_any (g : Nat) (C : Option Addr) (cc : Nat) (l : List Int) (A : Option Addr) (ca : Nat) (S : List It) (B : Option Addr) (cb : Nat) (s : List It) (w : World) (hX : RIdx w g C cc l A ca S) (hB : Items w w.heap.size B s) (fS : FitI S) (fs : FitI s) (hl : l.length ≤ 1000000) (hS : S.length + s.length ≤ 1000000) (rS : ∀ x ∈ S, x.2.2.1.length ≤ 140737488355328) (rs : ∀ x ∈ s, x.2.2.1.length ≤ 1000000) :
    Calls Tryz.prog 12 #[.pointer (some ⟨g, 0, none⟩), .slice B s.length cb] w (PutEnd w g C cc l S s) := by
  have HX := Lib.hid hX
  have HB := Lib.hid hB
  have HR := Lib.hid rs
  have hadd := fun w' (h : Below w.heap.size w w') => iadd_any A B ca cb S s w' (hX.below h).items ((hB.below h).more h.size) fS fs (by omega) rS (fun x hx => by have := rs x hx; omega)
  obtain ⟨M, hM⟩ : ∃ M, ofL (S ++ s) = M := ⟨_, rfl⟩
  obtain ⟨E2, hE2⟩ : ∃ E, ofE (S ++ s) = E := ⟨_, rfl⟩
  have hE3 := ofE_three (S ++ s)
  rw [hE2] at hE3
  simp only [hM, hE2] at hadd
  have HA := Lib.hid hadd
  have HM := Lib.hid hM
  have HE := Lib.hid hE2
  clear hX hB rs rS fS fs hadd hM hE2
  go_enter Tryz.func12, Tryz.ntmps12
  go_wp2
  go_loopw [5] (fun i wr => ∃ k : Nat, k ≤ s.length ∧ i = .int .i64 k ∧ Hid (okAll l (s.take k) = true) ∧ Hid (Below w.heap.size w wr)) (fun i _ => s.length - (intOf i).toNat)
  case atStart => exact ⟨0, by omega, rfl, Lib.hid rfl, Lib.hid (Below.refl _ _)⟩
  case round =>
    obtain ⟨k, hk, rfl, HO, HL⟩ := hrel
    have hsz := HL.out.size
    have RX := Lib.hid (HX.out.below HL.out)
    have q1 := RX.out.set
    by_cases hlt : k < s.length
    · have q0 := RX.out.places
      have hg0 := RX.out.lt
      obtain ⟨bd, hA, ha, c0, c1, v0⟩ := ((HB.out.below HL.out).more hsz).at k hlt
      subst hA
      have hll := HR.out _ (List.getElem_mem hlt)
      have HSN := Lib.hid (okAll_snoc l s k hlt)
      have HNOT := Lib.hid (fun h => okAll_not (l := l) hlt h)
      obtain ⟨x, hx⟩ : ∃ x, s[k] = x := ⟨_, rfl⟩
      rw [hx] at c0 v0 hll HSN HNOT
      clear hx c1
      obtain ⟨x1, x2, x3, x4⟩ := x
      simp only at c0 v0 hll HSN HNOT
      have V0 := Lib.hid v0
      have hc := fun w' (h : Below wr.heap.size wr w') => rpick_any x1 C x2 cc x3 l w' ((V0.out.below h).more h.size) ((RX.out.ints.below h).more h.size) hll hl
      unfold RPickPost at hc
      have hpe : pickE x3 l = if okP x3 l then 0 else 51 := rfl
      obtain ⟨D, hD⟩ : ∃ D, pickL x3 l = D := ⟨_, rfl⟩
      obtain ⟨z, hz⟩ : ∃ z, okP x3 l = z := ⟨_, rfl⟩
      rw [hz] at HSN HNOT hpe
      simp only [hD, hpe] at hc
      have HC := Lib.hid hc
      have hz0' : (bd.add (k * 2)).block < wr.heap.size := by rw [add_block]; exact ha
      clear hc hD hz v0 hpe
      obtain ⟨p, hp⟩ : ∃ p, bd.add (k * 2) = p := ⟨_, rfl⟩
      cases z
      · simp only [Bool.false_eq_true, if_false] at HC
        have HBAD := Lib.hid (HNOT.out rfl)
        go_wp2_with fail
        rw [hp] at c0 hz0'
        go_region_held3 (fun w' => (w'.cell? p = some (.slice x1 x3.length x2) ∧ w'.cell? ⟨g, 0, none⟩ = some (.slice C l.length cc)) ∧ Below wr.heap.size wr w')
          (first | assumption | (refine keepP hb5 (by assumption) ?_; intro kk; exact ⟨(kk p hz0').trans c0, (kk ⟨g, 0, none⟩ hg0).trans q0⟩) | (exact ⟨⟨c0, q0⟩, Below.drew (Below.refl _ _)⟩))
          (first | (go_at_call 32; with_reducible refine (HC.out _ ?cv).mono ?_; (case cv => exact (by assumption : _ ∧ Below wr.heap.size wr _).2); rintro e w5 ⟨Z, cz, rfl, hv5, hb5⟩))
        have M2 := Lib.hid (show Below wr.heap.size wr w5 by rename_i hS; exact hS.2)
        have X2 := Lib.hid (RX.out.below M2.out)
        have L2 := Lib.hid (bnext HL.out hsz M2.out)
        clear hb5 hv5 HC
        go_wp2
        go_ret
        exact putEnd_bad HBAD.out X2.out L2.out
      · simp only [if_true] at HC
        have HO2 := Lib.hid (show okAll l (s.take (k + 1)) = true by rw [HSN.out, HO.out]; rfl)
        go_wp2_with fail
        rw [hp] at c0 hz0'
        go_region_held3 (fun w' => (w'.cell? p = some (.slice x1 x3.length x2) ∧ w'.cell? ⟨g, 0, none⟩ = some (.slice C l.length cc)) ∧ Below wr.heap.size wr w')
          (first | assumption | (refine keepP hb5 (by assumption) ?_; intro kk; exact ⟨(kk p hz0').trans c0, (kk ⟨g, 0, none⟩ hg0).trans q0⟩) | (exact ⟨⟨c0, q0⟩, Below.drew (Below.refl _ _)⟩))
          (first | (go_at_call 32; with_reducible refine (HC.out _ ?cv).mono ?_; (case cv => exact (by assumption : _ ∧ Below wr.heap.size wr _).2); rintro e w5 ⟨Z, cz, rfl, hv5, hb5⟩))
        have M2 := Lib.hid (show Below wr.heap.size wr w5 by rename_i hS; exact hS.2)
        have L2 := Lib.hid (bnext HL.out hsz M2.out)
        clear hb5 hv5 HC
        go_wp2
        go_roundw
        case rel => exact ⟨k + 1, by omega, by go_num, HO2, L2⟩
        case measure => simp [intOf]; omega
    · obtain rfl : k = s.length := by omega
      rw [List.take_length] at HO
      go_wp2_with fail
      refine (HA.out wr HL.out).mono ?_
      rintro e w2 ⟨R, cr, rfl, hi, hb⟩
      have I2 := Lib.hid hi
      have X2 := Lib.hid (RX.out.below hb)
      have L2 := Lib.hid (bnext HL.out hsz hb)
      have f0 := X2.out.set
      have f1 := X2.out.free 1
      clear hi hb HA q1
      rcases hE3 with rfl | rfl | rfl
      · go_wp2
        go_ret
        exact putEnd_ok HO.out HE.out HM.out X2.out I2.out L2.out
      · go_wp2
        go_ret
        exact putEnd_err HO.out HE.out (by decide) X2.out L2.out
      · go_wp2
        go_ret
        exact putEnd_err HO.out HE.out (by decide) X2.out L2.out
end Go.Proofs.YtjjikooabmddlaaGreatDoor.Items

/-
  An index in memory: its struct, its map, each key's items; what stays where other blocks turn.
-/
namespace Go.Proofs.YtjjikooabmddlaaGreatDoor.Items
open Go.ChangeShapes Go.WideShapes Go.ChangeAt Go.RowKit Val Go.Proofs.YtjjikooabmddlaaGreatDoor.Code Go.Proofs.YtjjikooabmddlaaGreatDoor.Elems Go.Proofs.YtjjikooabmddlaaGreatDoor.ZP Go.Proofs.YtjjikooabmddlaaGreatDoor.MapSl
set_option linter.unusedVariables false
set_option maxRecDepth 100000

/-- what may have turned: the bad blocks, and new ones -/
structure Chg (w w' : World) (bad : Nat → Prop) : Prop where
  os : w'.os = w.os
  tape : w'.tape = w.tape
  output : w'.output = w.output
  size : w.heap.size ≤ w'.heap.size
  block : ∀ k, k < w.heap.size → ¬ bad k → w'.heap[k]? = w.heap[k]?
theorem Chg.refl (w : World) (bad : Nat → Prop) : Chg w w bad := ⟨rfl, rfl, rfl, Nat.le_refl _, fun _ _ _ => rfl⟩
theorem Chg.trans {w w1 w2 : World} {bad : Nat → Prop} (h : Chg w w1 bad) (g : Chg w1 w2 bad) : Chg w w2 bad :=
  ⟨g.os.trans h.os, g.tape.trans h.tape, g.output.trans h.output, Nat.le_trans h.size g.size, fun k hk hb => (g.block k (Nat.lt_of_lt_of_le hk h.size) hb).trans (h.block k hk hb)⟩
theorem Chg.more {w w1 : World} {bad bad' : Nat → Prop} (h : Chg w w1 bad) (hb : ∀ k, k < w.heap.size → bad k → bad' k) : Chg w w1 bad' := ⟨h.os, h.tape, h.output, h.size, fun k hk g => h.block k hk fun e => g (hb k hk e)⟩
theorem Chg.next {w w1 w2 : World} {bad bad' : Nat → Prop} (h : Chg w w1 bad) (g : Chg w1 w2 bad') (hb : ∀ k, k < w.heap.size → bad' k → bad k) : Chg w w2 bad :=
  ⟨g.os.trans h.os, g.tape.trans h.tape, g.output.trans h.output, Nat.le_trans h.size g.size, fun k hk e => (g.block k (Nat.lt_of_lt_of_le hk h.size) fun e2 => e (hb k hk e2)).trans (h.block k hk e)⟩
theorem Chg.of {w w' : World} (h : Below w.heap.size w w') (bad : Nat → Prop) : Chg w w' bad := ⟨h.os, h.tape, h.output, h.size, fun k hk _ => h.block k hk⟩
theorem Chg.grown {w w' : World} {row : Option Nat} (h : w.grownBy w' row) : Chg w w' (fun k => some k = row) := ⟨h.os, h.tape, h.output, h.size, fun k hk g => h.block k hk g⟩
theorem Chg.below {w w' : World} {bad : Nat → Prop} (h : Chg w w' bad) {B : Nat} (hB : B ≤ w.heap.size) (hb : ∀ k, bad k → B ≤ k) : Below B w w' :=
  ⟨h.os, h.tape, h.output, h.size, fun k hk => h.block k (Nat.lt_of_lt_of_le hk hB) fun e => by have := hb k e; omega⟩
theorem Chg.cell {w w' : World} {bad : Nat → Prop} (h : Chg w w' bad) {q : Addr} (hq : q.block < w.heap.size) (hn : ¬ bad q.block) : w'.cell? q = w.cell? q := by
  unfold World.cell?
  rw [h.block _ hq hn]
/-- in these blocks lies no number, no text -/
def Plain (w : World) (bad : Nat → Prop) : Prop := ∀ q : Addr, bad q.block → (∀ k n, w.cell? q ≠ some (.int k n)) ∧ ∀ s, w.cell? q ≠ some (.string s)
theorem Plain.ne {w : World} {bad : Nat → Prop} (h : Plain w bad) {q : Addr} {k : IntKind} {n : Int} (hc : w.cell? q = some (.int k n)) : ¬ bad q.block := fun e => (h q e).1 k n hc
theorem Chg.int {w w' : World} {bad : Nat → Prop} (h : Chg w w' bad) (hp : Plain w bad) {q : Addr} {k : IntKind} {n : Int} (hc : w.cell? q = some (.int k n)) : w'.cell? q = some (.int k n) := by
  rw [h.cell (World.block_lt_of_cell? _ _ hc) (hp.ne hc)]
  exact hc
theorem vals_but {w w' : World} {bad : Nat → Prop} {A : Option Addr} {l : List (Int × Int × ByteArray)} (h : Vals w w.heap.size A l) (hc : Chg w w' bad) (hp : Plain w bad) : Vals w' w'.heap.size A l := by
  intro i hi
  obtain ⟨ad, e, hb, c0, c1, c2⟩ := h i hi
  have hn := hp.ne c0
  have hs := hc.size
  refine ⟨ad, e, by omega, hc.int hp c0, hc.int hp c1, ?_⟩
  rw [hc.cell (World.block_lt_of_cell? _ _ c2) hn]
  exact c2
theorem ints_but {w w' : World} {bad : Nat → Prop} {A : Option Addr} {l : List Int} (h : Ints w w.heap.size A l) (hc : Chg w w' bad) (hp : Plain w bad) : Ints w' w'.heap.size A l := by
  intro i hi
  obtain ⟨ad, e, hb, c0⟩ := h i hi
  have hs := hc.size
  exact ⟨ad, e, by omega, hc.int hp c0⟩
theorem items_but {w w' : World} {bad : Nat → Prop} {A : Option Addr} {L : List It} (h : Items w w.heap.size A L) (hc : Chg w w' bad) (hp : Plain w bad) : Items w' w'.heap.size A L := by
  refine ⟨fun i hi => ?_, fun x hx => vals_but (h.2 x hx) hc hp⟩
  obtain ⟨ad, e, hb, hcells⟩ := h.1 i hi
  have hs := hc.size
  have h1 := hcells 1 (.int .i64 L[i].2.2.2) rfl
  have hn : ¬ bad ad.block := by
    have := hp.ne h1
    rwa [add_block] at this
  refine ⟨ad, e, by omega, fun j u hu => ?_⟩
  rw [hc.cell (by rw [add_block]; exact hb) (by rw [add_block]; exact hn)]
  exact hcells j u hu

/-- each key's items -/
def Grp (w : World) (l : List Int) (f : ByteArray → Option Sl) (S : PL) : Prop :=
  ∀ k, (f k = none → grpP l k S = []) ∧ ∀ s, f k = some s → grpP l k S ≠ [] ∧ ∃ L : List It, s.2.1 = L.length ∧ Items w w.heap.size s.1 L ∧ pl L = grpP l k S
theorem Grp.but {w w' : World} {bad : Nat → Prop} {l : List Int} {f : ByteArray → Option Sl} {S : PL} (h : Grp w l f S) (hc : Chg w w' bad) (hp : Plain w bad) : Grp w' l f S := fun k => ⟨(h k).1, fun s hs => by
  obtain ⟨h1, L, h2, h3, h4⟩ := (h k).2 s hs
  exact ⟨h1, L, h2, items_but h3 hc hp, h4⟩⟩
theorem plain_none (w : World) : Plain w (fun _ => False) := fun q h => h.elim
theorem Grp.below {w w' : World} {l : List Int} {f : ByteArray → Option Sl} {S : PL} (h : Grp w l f S) (hb : Below w.heap.size w w') : Grp w' l f S := h.but (Chg.of hb _) (plain_none w)
theorem Grp.some {w : World} {l : List Int} {f : ByteArray → Option Sl} {S : PL} (h : Grp w l f S) (k : ByteArray) : (f k).isSome = true ↔ grpP l k S ≠ [] := by
  cases e : f k with
  | none => simp [(h k).1 e]
  | some s => simp [((h k).2 s e).1]
/-- what a look-up tells -/
theorem Grp.look {w : World} {l : List Int} {f : ByteArray → Option Sl} {S : PL} (h : Grp w l f S) (k : ByteArray) : ∃ (A : Option Addr) (c : Nat) (L : List It), (f k).getD (none, 0, 0) = (A, L.length, c) ∧ Items w w.heap.size A L ∧ pl L = grpP l k S := by
  cases e : f k with
  | none => exact ⟨none, 0, [], rfl, ⟨At.nil _ _ _, fun x hx => by cases hx⟩, by rw [(h k).1 e]; rfl⟩
  | some s =>
    obtain ⟨_, L, h2, h3, h4⟩ := (h k).2 s e
    exact ⟨s.1, s.2.2, L, by rw [← h2]; rfl, h3, h4⟩

/-- rows such as are in an index with places l -/
def RowsOk (l : List Int) (S : PL) : Prop := ∀ x ∈ S, rightR x.1 = true ∧ FitL x.1 ∧ fits x.2 ∧ okP x.1 l = true
/-- an index: at p its struct, mo its map, l its places, S its set -/
structure Idx (w : World) (p : Nat) (mo : Option Nat) (C : Option Addr) (cc : Nat) (l : List Int) (S : PL) : Prop where
  blk : w.heap[p]? = some (.cells #[.slice C l.length cc, .map mo] 63 (0, 0))
  ints : Ints w w.heap.size C l
  set : IsSet S
  rows : RowsOk l S
  map : ∃ f, MapO w mo S.length f ∧ Grp w l f S
section
variable {w w' : World} {p : Nat} {mo : Option Nat} {C : Option Addr} {cc : Nat} {l : List Int} {S : PL}
theorem Idx.lt (h : Idx w p mo C cc l S) : p < w.heap.size := (Array.getElem?_eq_some_iff.1 h.blk).1
theorem Idx.places (h : Idx w p mo C cc l S) : w.cell? ⟨p, 0, none⟩ = some (.slice C l.length cc) := cell_of_row w p 0 _ _ _ h.blk
theorem Idx.sets (h : Idx w p mo C cc l S) : w.cell? ⟨p, 1, none⟩ = some (.map mo) := cell_of_row w p 1 _ _ _ h.blk
theorem Idx.free (h : Idx w p mo C cc l S) (j : Nat) : w.frozen? ⟨p, j, none⟩ = false := by
  have := h.blk
  simp [World.frozen?, this]
theorem Idx.molt (h : Idx w p mo C cc l S) : ∀ b, mo = some b → b < w.heap.size := by
  obtain ⟨f, hf, _⟩ := h.map
  exact hf.lt
/-- the blocks that a Put writes -/
def badOf (p : Nat) (mo : Option Nat) (k : Nat) : Prop := k = p ∨ some k = mo
theorem blk_plain {mo2 : Option Nat} {T : TypeId} {A : Option Addr} {n c : Nat} (hb : w.heap[p]? = some (.cells #[.slice A n c, .map mo2] T (0, 0))) : Plain w (fun k => k = p) := by
  intro q hq
  obtain ⟨g, o, sp⟩ := q
  simp only at hq
  subst hq
  have key : ∀ v, w.cell? ⟨g, o, sp⟩ = some v → (∀ k n, v ≠ .int k n) ∧ ∀ s, v ≠ .string s := by
    intro v hv
    unfold World.cell? at hv
    simp only [hb] at hv
    match o with
    | 0 => simp at hv; obtain ⟨_, rfl⟩ := hv; exact ⟨fun _ _ => by simp, fun _ => by simp⟩
    | 1 => simp at hv; obtain ⟨_, rfl⟩ := hv; exact ⟨fun _ _ => by simp, fun _ => by simp⟩
    | n + 2 => simp at hv
  exact ⟨fun k n h => (key _ h).1 k n rfl, fun s h => (key _ h).2 s rfl⟩
theorem Idx.plain (h : Idx w p mo C cc l S) : Plain w (badOf p mo) := by
  intro q hq
  rcases hq with hq | hq
  · exact blk_plain h.blk q hq
  · obtain ⟨f, hf, _⟩ := h.map
    have := hf.cell q hq
    rw [this]
    exact ⟨fun _ _ => by simp, fun _ => by simp⟩
theorem Idx.but {bad : Nat → Prop} (h : Idx w p mo C cc l S) (hc : Chg w w' bad) (hp : Plain w bad) (h1 : ¬ bad p) (h2 : ∀ b, mo = some b → ¬ bad b) : Idx w' p mo C cc l S := by
  obtain ⟨f, hf, hg⟩ := h.map
  exact ⟨(hc.block p h.lt h1).trans h.blk, ints_but h.ints hc hp, h.set, h.rows, f, hf.heap fun b e => hc.block b (hf.lt b e) (h2 b e), hg.but hc hp⟩
theorem Idx.below (h : Idx w p mo C cc l S) (hb : Below w.heap.size w w') : Idx w' p mo C cc l S := h.but (Chg.of hb (fun _ => False)) (plain_none w) (fun h => h) (fun _ _ h => h)
end

/-- a set's keys, as bytes -/
def addB (D : List ByteArray) (k : ByteArray) : List ByteArray := if D.any fun y => decide (y = k) then D else D ++ [k]
def keysB (l : List Int) (S : PL) : List ByteArray := S.foldl (fun D x => addB D (keyB l x.1)) []
theorem addB_mem {D : List ByteArray} {k x : ByteArray} : x ∈ addB D k ↔ x ∈ D ∨ x = k := by
  unfold addB
  split
  · rename_i h
    rw [List.any_eq_true] at h
    obtain ⟨y, hy, e⟩ := h
    rw [decide_eq_true_eq] at e
    subst e
    exact ⟨.inl, fun h => h.elim id (fun e => e ▸ hy)⟩
  · rw [List.mem_append, List.mem_singleton]
theorem addB_nodup {D : List ByteArray} {k : ByteArray} (h : D.Nodup) : (addB D k).Nodup := by
  unfold addB
  split
  · exact h
  · rename_i hn
    rw [List.nodup_append]
    refine ⟨h, by simp, fun a ha b hb e => hn ?_⟩
    rw [List.mem_singleton] at hb
    rw [List.any_eq_true]
    exact ⟨a, ha, decide_eq_true (e.trans hb)⟩
theorem addB_len (D : List ByteArray) (k : ByteArray) : (addB D k).length ≤ D.length + 1 := by
  unfold addB
  split
  · omega
  · simp
theorem fold_mem (l : List Int) {k : ByteArray} : ∀ (S : PL) (D : List ByteArray), k ∈ S.foldl (fun D x => addB D (keyB l x.1)) D ↔ k ∈ D ∨ ∃ x ∈ S, keyB l x.1 = k
  | [], D => by simp
  | x :: S, D => by
    rw [List.foldl_cons, fold_mem l S, addB_mem]
    constructor
    · rintro ((h | h) | ⟨y, hy, e⟩)
      · exact .inl h
      · exact .inr ⟨x, by simp, h.symm⟩
      · exact .inr ⟨y, by simp [hy], e⟩
    · rintro (h | ⟨y, hy, e⟩)
      · exact .inl (.inl h)
      · rcases List.mem_cons.1 hy with rfl | hy
        · exact .inl (.inr e.symm)
        · exact .inr ⟨y, hy, e⟩
theorem fold_nodup (l : List Int) : ∀ (S : PL) (D : List ByteArray), D.Nodup → (S.foldl (fun D x => addB D (keyB l x.1)) D).Nodup
  | [], D, h => h
  | x :: S, D, h => fold_nodup l S _ (addB_nodup h)
theorem fold_len (l : List Int) : ∀ (S : PL) (D : List ByteArray), (S.foldl (fun D x => addB D (keyB l x.1)) D).length ≤ D.length + S.length
  | [], D => by simp
  | x :: S, D => by
    have h1 := fold_len l S (addB D (keyB l x.1))
    have h2 := addB_len D (keyB l x.1)
    rw [List.foldl_cons, List.length_cons]
    omega
theorem keysB_mem {l : List Int} {S : PL} {k : ByteArray} : k ∈ keysB l S ↔ grpP l k S ≠ [] := by
  unfold keysB
  rw [fold_mem]
  constructor
  · rintro (h | ⟨x, hx, rfl⟩)
    · cases h
    · intro e
      have : x ∈ grpP l (keyB l x.1) S := grp_mem.2 ⟨hx, rfl⟩
      rw [e] at this
      cases this
  · intro h
    obtain ⟨x, hx⟩ := List.exists_mem_of_ne_nil _ h
    exact .inr ⟨x, (grp_mem.1 hx).1, (grp_mem.1 hx).2⟩
theorem keysB_max {l : List Int} {S : PL} : ∀ k ∈ keysB l S, k.size ≤ maxLen := by
  intro k hk
  unfold keysB at hk
  rw [fold_mem] at hk
  rcases hk with h | ⟨x, hx, rfl⟩
  · cases h
  · exact keyB_max _ _
theorem keysB_nodup {l : List Int} {S : PL} : (keysB l S).Nodup := fold_nodup l S [] List.nodup_nil
theorem keysB_le {l : List Int} {S : PL} : (keysB l S).length ≤ S.length := by
  have := fold_len l S []
  simpa [keysB] using this
theorem map_tight {w : World} {b n : Nat} {f : ByteArray → Option Sl} {l : List Int} {S : PL} (h : MapIs w b n f) (hg : Grp w l f S) : MapIs w b S.length f :=
  (h.tight (keysB_nodup (l := l) (S := S)) (fun k => (hg.some k).trans keysB_mem.symm) keysB_max).mono keysB_le
end Go.Proofs.YtjjikooabmddlaaGreatDoor.Items
