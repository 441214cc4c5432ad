/-
  The contracts of slices.Clone of numbers and of package index's New.
-/
import Derived.Test.YtjjikooabmddlaaGreatDoorM15
import Derived.Laws.AppendOwnNone
import Derived.Test.YtjjikooabmddlaaGreatDoorM26
import Derived.Test.YtjjikooabmddlaaGreatDoorM27
import Derived.Test.YtjjikooabmddlaaGreatDoorM14
namespace Go.Proofs.YtjjikooabmddlaaGreatDoor.Items
open Go.ChangeShapes Go.WideShapes Go.ChangeAt Go.RowKit Val Go.Proofs.YtjjikooabmddlaaGreatDoor.Code Go.Proofs.YtjjikooabmddlaaGreatDoor.Elems Go.Proofs.YtjjikooabmddlaaGreatDoor.ZP Go.Proofs.YtjjikooabmddlaaGreatDoor.MapSl
set_option linter.unusedVariables false
set_option maxRecDepth 100000

def cellN (n : Int) : List Value := [.int .i64 n]
theorem cellN_length (n : Int) : (cellN n).length = 1 := rfl
theorem cellN_one (n : Int) : ∀ u ∈ cellN n, u.oneCell' = true := by
  intro u hu
  simp [cellN] at hu
  subst hu
  rfl
theorem ints_at {w : World} {B : Nat} {A : Option Addr} {l : List Int} (h : Ints w B A l) : At cellN 1 w B A l := by
  intro i hi
  obtain ⟨ad, e, hb, hc⟩ := h i hi
  refine ⟨ad, e, hb, fun j u hu => ?_⟩
  match j, hu with
  | 0, hu =>
    simp [cellN] at hu
    subst hu
    simpa using hc
theorem at_ints {w : World} {B : Nat} {A : Option Addr} {l : List Int} (h : At cellN 1 w B A l) : Ints w B A l := by
  intro i hi
  obtain ⟨ad, e, hb, hc⟩ := h i hi
  exact ⟨ad, e, hb, by simpa using hc 0 _ rfl⟩
theorem info_int : (Tryz.prog.info? 3).map (fun i => (i.zero, i.size, i.bytes)) = some (some (.int .i64 0), 1, 8) := by kernel_rfl
def IntsPost (w : World) (l : List Int) (e : Ending) (w' : World) : Prop := ∃ (A : Option Addr) (c : Nat), e = .returned (.slice A l.length c) ∧ Ints w' w'.heap.size A l ∧ Below w.heap.size w w'
theorem intsPost_nil (w : World) : IntsPost w [] (.returned (.slice none 0 0)) w := ⟨none, 0, rfl, fun i hi => absurd hi (Nat.not_lt_zero i), Below.refl _ _⟩
theorem intsPost_own {w w' : World} {v : Value} {l : List Int} {n : Nat} (h : w'.ownsRow w.heap.size 3 1 v n (flatC cellN l)) (hn : n = l.length) (hb : Below w.heap.size w w') : IntsPost w l (.returned v) w' := by
  subst hn
  obtain ⟨A, c, e, ha⟩ := own_at cellN_length h
  subst e
  exact ⟨A, c, rfl, at_ints ha, hb⟩
set_option maxHeartbeats 1000000 in
theorem sclone_any (A : Option Addr) (cap : Nat) (l : List Int) (w : World) (h : Ints w w.heap.size A l) (hl : l.length ≤ 17592186044416) :
    Calls Tryz.prog 23 #[.slice A l.length cap] w (IntsPost w l) := by
  obtain ⟨i0, hi0, hz0, hz1, hz2⟩ := info_parts info_int
  rcases A with _ | ad
  · have h0 : l = [] := by
      cases l with
      | nil => rfl
      | cons y l =>
        obtain ⟨ad, e, _⟩ := h 0 (by simp)
        cases e
    subst h0
    show Calls Tryz.prog 23 #[.slice none 0 cap] w (IntsPost w [])
    have hq := fun w => Lib.run_eql_slice_nil (P := Tryz.prog) w 22 3 none 0 cap 0 0 Tryz.underlying22
    go_enter Tryz.func23, Tryz.ntmps23
    go_wp2
    go_ret
    exact intsPost_nil w
  · have HA := Lib.hid (ints_at h)
    clear h
    have hq := fun w => Lib.run_eql_slice_nil (P := Tryz.prog) w 22 3 (some ad) l.length cap 0 0 Tryz.underlying22
    go_enter Tryz.func23, Tryz.ntmps23
    go_wp2_with (at_builtin; refine wpList_append_at (k := 1) (c := cellN) cellN_length (by decide) cellN_one rfl _ _ 22 rfl w.heap.size 3 i0 (.int .i64 0) 8 Tryz.underlying22 hi0 hz0 hz1 hz2 rfl (.slice (some ⟨w.heap.size, 0, none⟩) 0 0) 0 [] rfl ?c0 (w.heap.size + 1) (some ad) cap l rfl ?c2 ?c3 ?c4 ?c5 ?_)
    case c0 => exact ⟨rfl, .inr ⟨w.heap.size, 0, #[], rfl, Nat.le_refl _, heap_alloc_new w _, Nat.le_refl _, Nat.zero_le _, rfl, rfl⟩⟩
    case c2 => exact (HA.out.below (below_alloc w _)).more (by omega)
    case c3 => unfold maxLen; omega
    case c4 => omega
    case c5 => simp
    intro v' w1 hown' hgrow
    have H1 := Lib.hid hown'
    have L1 := Lib.hid ((below_alloc w (.cells #[] 3)).grown hgrow (by simp) (fun j hj => by cases hj; exact Nat.le_refl _))
    clear hown' hgrow
    go_wp2
    go_ret
    exact intsPost_own H1.out (by omega) L1.out
/-- a new index -/
def NewPost (w : World) (l : List Int) (e : Ending) (w' : World) : Prop := ∃ (p : Nat) (C : Option Addr) (cc : Nat), e = .returned (.pointer (some ⟨p, 0, none⟩)) ∧ w.heap.size ≤ p ∧ Idx w' p none C cc l [] ∧ Below w.heap.size w w'
theorem newPost_of {w w1 : World} {l : List Int} {A : Option Addr} {c : Nat} (h : Ints w1 w1.heap.size A l) (hb : Below w.heap.size w w1) : NewPost w l (.returned (.pointer (some ⟨w1.heap.size, 0, none⟩))) (w1.alloc (.cells #[.slice A l.length c, .map none] 63)) := by
  have hs := hb.size
  have ha := below_alloc w1 (.cells #[.slice A l.length c, .map none] 63)
  refine ⟨_, A, c, rfl, hs, ⟨heap_alloc_new w1 _, (h.below ha).more ha.size, IsSet.nil, fun x hx => absurd hx (by simp), ⟨fun _ => none, fun _ => rfl, fun k => ⟨fun _ => rfl, fun s hs => by cases hs⟩⟩⟩, hb.alloc hs _⟩
set_option maxHeartbeats 1000000 in
theorem new_any (A : Option Addr) (cap : Nat) (l : List Int) (w : World) (h : Ints w w.heap.size A l) (hl : l.length ≤ 17592186044416) :
    Calls Tryz.prog 8 #[.slice A l.length cap] w (NewPost w l) := by
  have HC := Lib.hid (sclone_any A cap l w h hl)
  clear h
  go_enter Tryz.func8, Tryz.ntmps8
  go_wp2_with fail
  refine HC.out.mono ?_
  rintro e w1 ⟨B, c1, rfl, hi, hb⟩
  have HI := Lib.hid hi
  have L1 := Lib.hid hb
  clear hi hb HC
  go_wp2
  go_ret
  exact newPost_of HI.out L1.out
end Go.Proofs.YtjjikooabmddlaaGreatDoor.Items

/-
  The contract of package index's Clone.
-/
namespace Go.Proofs.YtjjikooabmddlaaGreatDoor.Items
open Go.ChangeShapes Go.WideShapes Go.ChangeAt Go.RowKit Val Go.Proofs.YtjjikooabmddlaaGreatDoor.Code Go.Proofs.YtjjikooabmddlaaGreatDoor.Elems Go.Proofs.YtjjikooabmddlaaGreatDoor.ZP Go.Proofs.YtjjikooabmddlaaGreatDoor.MapSl
set_option linter.unusedVariables false
set_option maxRecDepth 100000

/-- a sum is no longer than what was summed up -/
theorem sum_len {S : PL} {s : List It} {T : PL} (hT : SumOf T (S ++ pl s)) (hr : RightP (S ++ pl s)) (hw : WFit (S ++ pl s)) : T.length ≤ S.length + s.length := by
  have e : pl (S.map (fun x => ((none, 0, x.1, x.2) : It)) ++ s) = S ++ pl s := by
    rw [pl_append]
    congr 1
    unfold pl
    rw [List.map_map]
    exact List.map_id S
  have := of_cases (L := S.map (fun x => ((none, 0, x.1, x.2) : It)) ++ s) (by rw [e]; exact hr)
  rw [e] at this
  rcases this with ⟨_, _, h⟩ | ⟨_, h⟩
  · rw [hT.eq h, pl_length]
    refine Nat.le_trans (ofL_length _) ?_
    simp
  · exact absurd hw h
theorem nil_set (S : PL) (h : IsSet S) : SumOf S ([] ++ S) := sum_self h
/-- told items are a list -/
theorem TellE.items {w w' : World} {T : PL} {e : Ending} (h : TellE w T e w') : ∃ (A : Option Addr) (c : Nat) (M : List It), e = .returned (.slice A M.length c) ∧ Items w' w'.heap.size A M ∧ OwnRows w' w.heap.size M ∧ pl M = T ∧ Below w.heap.size w w' := by
  obtain ⟨A, c, M, he, ha, hr, hq, hb⟩ := h
  exact ⟨A, c, M, he, ⟨ha, hr.vals⟩, hr, hq, hb⟩
/-- what Clone makes -/
def ClonePost (w : World) (l : List Int) (S : PL) (e : Ending) (w' : World) : Prop := ∃ (p : Nat) (mo : Option Nat) (C : Option Addr) (cc : Nat), e = .returned (.pointer (some ⟨p, 0, none⟩)) ∧ w.heap.size ≤ p ∧ (∀ b, mo = some b → w.heap.size ≤ b) ∧ Idx w' p mo C cc l S ∧ Below w.heap.size w w'
theorem clone_of {w w1 w2 w3 : World} {p q : Nat} {mo mo2 : Option Nat} {C C2 : Option Addr} {cc c2 : Nat} {l : List Int} {S : PL} {M : List It} {e : Ending} (hS : IsSet S) (hR : RowsOk l S) (hq : w.heap.size ≤ q) (hb1 : Below w.heap.size w w1) (hI : Idx w1 q none C2 c2 l []) (hM : pl M = S)
    (hb2 : Below w1.heap.size w1 w2) (hP : PutPost w2 q none C2 c2 l [] M e w3) : e = .returned (.int .i64 0) ∧ ClonePost w l S (.returned (.pointer (some ⟨q, 0, none⟩))) w3 := by
  have hok : okI l M = true := by
    unfold okI
    rw [List.all_eq_true]
    intro x hx
    obtain ⟨a, _, _, d⟩ := hR (pu x) (by rw [← hM]; exact List.mem_map.2 ⟨x, hx, rfl⟩)
    unfold okX
    rw [Bool.and_eq_true]
    exact ⟨d, a⟩
  have hwf : WFit ([] ++ pl M) := by
    rw [List.nil_append, hM]
    exact set_fit hS fun x hx => (hR x hx).2.2.1
  rcases hP with ⟨h, _⟩ | ⟨_, h, _⟩ | ⟨_, _, he, T, mo', hT, hX, hc, hd⟩
  · rw [hok] at h; cases h
  · exact absurd hwf h
  · refine ⟨he, q, mo', C2, c2, rfl, hq, fun b e => ?_, ?_, ?_⟩
    · rcases hd with h | ⟨_, h⟩
      · rw [h] at e; cases e
      · exact Nat.le_trans (Nat.le_trans hb1.size hb2.size) (h b e)
    · have : T = S := hT.eq (by rw [hM]; exact sum_self hS)
      rw [← this]
      exact hX
    · refine (hb1.trans (hb2.mono hb1.size)).trans (hc.below (Nat.le_trans hb1.size hb2.size) fun k hk => ?_)
      rcases hk with rfl | hk
      · exact hq
      · cases hk
set_option maxHeartbeats 4000000 in
theorem clone_any (p : Nat) (mo : Option Nat) (C : Option Addr) (cc : Nat) (l : List Int) (S : PL) (m : Int) (w : World) (hX : Idx w p mo C cc l S) (hl : l.length ≤ 24) (hS : S.length ≤ 1000)
    (hm : w.cell? ⟨0, 0, none⟩ = some (.int .i64 m)) :
    Calls Tryz.prog 22 #[.pointer (some ⟨p, 0, none⟩)] w (ClonePost w l S) := by
  have HN := Lib.hid (new_any C cc l w hX.ints (by omega))
  have HX := Lib.hid hX
  have HM := Lib.hid hm
  have q0 := hX.places
  clear hX hm
  go_enter Tryz.func22, Tryz.ntmps22
  go_wp2_with fail
  refine HN.out.mono ?_
  rintro e w1 ⟨q, C2, c2, rfl, hq, hI, hb1⟩
  have HA := Lib.hid (all_any own_does p mo C cc l S w1 (HX.out.below hb1) hl hS)
  have HI := Lib.hid hI
  have HB1 := Lib.hid hb1
  clear hI hb1 HN q0
  go_wp2_with fail
  refine HA.out.mono ?_
  rintro e w2 hT
  obtain ⟨A, c, M, rfl, hM, hr, hq2, hb2⟩ := hT.items
  have hfit : FitI M := fun x hx => by
    obtain ⟨_, b, c, _⟩ := HX.out.rows (pu x) (by rw [← hq2]; exact List.mem_map.2 ⟨x, hx, rfl⟩)
    exact ⟨b, c⟩
  have hright : RightP (pl M) := by
    rw [hq2]
    exact fun x hx => (HX.out.rows x hx).1
  have hlen : M.length ≤ 1000 := by rw [← pl_length M, hq2]; exact hS
  have hrl : ∀ x ∈ M, x.2.2.1.length ≤ 1000000 := fun x hx => by
    have := hright (pu x) (List.mem_map.2 ⟨x, hx, rfl⟩)
    unfold rightR at this
    rw [Bool.and_eq_true, decide_eq_true_eq] at this
    have h2 : x.2.2.1.length ≤ 24 := this.1
    omega
  have h02 := bnext HB1.out HB1.out.size hb2
  have HP := Lib.hid (xput_any q none C2 c2 l [] A c M m w2 (HI.out.below hb2) hM hfit hlen (by simp) hrl hl ((h02.cell (p := ⟨0, 0, none⟩) (World.block_lt_of_cell? _ _ HM.out)).trans HM.out))
  have HB2 := Lib.hid hb2
  have HQ2 := Lib.hid hq2
  obtain ⟨n, hn⟩ : ∃ n, M.length = n := ⟨_, rfl⟩
  rw [hn] at HP ⊢
  clear hM hr hq2 hb2 hT hfit hright hlen hrl h02 HA hn
  go_wp2_with fail
  refine HP.out.mono ?_
  rintro e w3 hP
  obtain ⟨he, hC⟩ := clone_of (p := p) (mo := mo) (mo2 := mo) (C := C) (cc := cc) HX.out.set HX.out.rows hq HB1.out HI.out HQ2.out HB2.out hP
  subst he
  have X := Lib.hid hC
  clear hP hC HP
  go_wp2
  go_ret
  exact X.out
theorem clone_nil (w : World) : Calls Tryz.prog 22 #[.pointer none] w fun e w' => e = .returned (.pointer none) ∧ w = w' := by
  go_enter Tryz.func22, Tryz.ntmps22
  go_wp2
  go_ret
  exact ⟨rfl, rfl⟩
end Go.Proofs.YtjjikooabmddlaaGreatDoor.Items

/-
  The document's index: how many keys its rows have.
-/
namespace Go.Proofs.YtjjikooabmddlaaGreatDoor.Items
open Go.ChangeShapes Go.WideShapes Go.ChangeAt Go.RowKit Val Go.Proofs.YtjjikooabmddlaaGreatDoor.Code Go.Proofs.YtjjikooabmddlaaGreatDoor.Elems Go.Proofs.YtjjikooabmddlaaGreatDoor.ZP
set_option linter.unusedVariables false
set_option maxRecDepth 100000

/-- a key, if it is not there -/
def addKey (D : List (List (Int × Int × ByteArray))) (r : List (Int × Int × ByteArray)) : List (List (Int × Int × ByteArray)) := if D.any fun y => decide (y = r) then D else D ++ [r]
/-- the rows' keys, each once -/
def keysL (l : List Int) (S : List It) : List (List (Int × Int × ByteArray)) := S.foldl (fun D x => addKey D (pickL x.2.2.1 l)) []
theorem keysL_snoc (l : List Int) (S : List It) (k : Nat) (h : k < S.length) : keysL l (S.take (k + 1)) = addKey (keysL l (S.take k)) (pickL S[k].2.2.1 l) := by
  unfold keysL
  rw [List.take_succ_eq_append_getElem h, List.foldl_append]
  rfl
theorem keysL_le (l : List Int) (S : List It) : ∀ k, (keysL l (S.take k)).length ≤ k
  | 0 => by simp [keysL]
  | k + 1 => by
    have ih := keysL_le l S k
    by_cases h : k < S.length
    · rw [keysL_snoc l S k h]
      unfold addKey
      split
      · omega
      · rw [List.length_append]; simp; omega
    · rw [List.take_of_length_le (by omega)]
      rw [List.take_of_length_le (by omega)] at ih
      omega
theorem keys_short (l : List Int) : ∀ (S : List It) (D : List (List (Int × Int × ByteArray))), (∀ r ∈ D, r.length ≤ l.length) → ∀ r ∈ S.foldl (fun D x => addKey D (pickL x.2.2.1 l)) D, r.length ≤ l.length
  | [], D, h => h
  | x :: S, D, h => keys_short l S (addKey D (pickL x.2.2.1 l)) fun r hr => by
    unfold addKey at hr
    split at hr
    · exact h r hr
    · rcases List.mem_append.1 hr with hr | hr
      · exact h r hr
      · rw [List.mem_singleton.1 hr]; exact pickL_le _ _
theorem keysL_short (l : List Int) (S : List It) : ∀ r ∈ keysL l S, r.length ≤ l.length := keys_short l S [] fun r hr => by cases hr
def seenR (R : List (Option Addr × Nat × List (Int × Int × ByteArray))) (D : List (Int × Int × ByteArray)) (i : Nat) : Bool := (R.take i).any fun y => decide (y.2.2 = D)
theorem seenR_snoc (R : List (Option Addr × Nat × List (Int × Int × ByteArray))) (D : List (Int × Int × ByteArray)) (i : Nat) (h : i < R.length) : seenR R D (i + 1) = (seenR R D i || decide (R[i].2.2 = D)) := by
  unfold seenR
  rw [List.take_succ_eq_append_getElem h, List.any_append]
  simp
/-- the rows of a list are these keys -/
def Keyed (R : List (Option Addr × Nat × List (Int × Int × ByteArray))) (D : List (List (Int × Int × ByteArray))) : Prop := R.map (·.2.2) = D
theorem keyed_seen {R : List (Option Addr × Nat × List (Int × Int × ByteArray))} {D : List (List (Int × Int × ByteArray))} (h : Keyed R D) (r : List (Int × Int × ByteArray)) : seenR R r R.length = D.any fun y => decide (y = r) := by
  unfold seenR
  rw [List.take_length, ← h, List.any_map]
  rfl
theorem keyed_yes {R : List (Option Addr × Nat × List (Int × Int × ByteArray))} {D : List (List (Int × Int × ByteArray))} (h : Keyed R D) {r : List (Int × Int × ByteArray)} (hs : seenR R r R.length = true) : Keyed R (addKey D r) := by
  unfold addKey
  rw [← keyed_seen h r, hs]
  exact h
theorem keyed_no {R : List (Option Addr × Nat × List (Int × Int × ByteArray))} {D : List (List (Int × Int × ByteArray))} (h : Keyed R D) {r : List (Int × Int × ByteArray)} (hs : seenR R r R.length = false) (A : Option Addr) (c : Nat) : Keyed (R ++ [(A, c, r)]) (addKey D r) := by
  unfold addKey
  rw [← keyed_seen h r, hs]
  unfold Keyed at *
  rw [List.map_append, h]
  rfl
theorem keyed_length {R : List (Option Addr × Nat × List (Int × Int × ByteArray))} {D : List (List (Int × Int × ByteArray))} (h : Keyed R D) : R.length = D.length := by
  have := congrArg List.length h
  simpa using this
set_option maxHeartbeats 4000000 in
theorem ikeys_any (g : Nat) (C : Option Addr) (cc : Nat) (l : List Int) (A : Option Addr) (ca : Nat) (S : List It) (w : World) (hX : RIdx w g C cc l A ca S) (hl : l.length ≤ 1000000) (hS : S.length ≤ 1000000) (hr : ∀ x ∈ S, x.2.2.1.length ≤ 1000000) :
    Calls Tryz.prog 21 #[.pointer (some ⟨g, 0, none⟩)] w fun e w' => e = .returned (.int .i64 (keysL l S).length) ∧ Below w.heap.size w w' := by
  have HX := Lib.hid hX
  have HR := Lib.hid hr
  clear hX hr
  obtain ⟨r0, hr0, hw0, hw1, hw2⟩ := info_parts info_row
  go_enter Tryz.func21, Tryz.ntmps21
  go_wp2
  go_loopw [3, 4] (fun v i wr => ∃ (k : Nat) (R : List (Option Addr × Nat × List (Int × Int × ByteArray))), k ≤ S.length ∧ i = .int .i64 k ∧ Hid (Keyed R (keysL l (S.take k))) ∧ Hid (wr.ownsRow w.heap.size 25 1 v R.length (flatC cellsR R)) ∧ Hid (Held wr w.heap.size R) ∧ Hid (Below w.heap.size w wr)) (fun _ i _ => S.length - (intOf i).toNat)
  case atStart => exact ⟨0, [], by omega, rfl, Lib.hid rfl, Lib.hid (World.ownsRow_nil _ _ _ _), Lib.hid (fun x hx => by cases hx), Lib.hid (Below.refl _ _)⟩
  case round =>
    obtain ⟨k, R, hkS, rfl, HK, OW, HD, HL⟩ := hrel
    have hsz := HL.out.size
    have RX := Lib.hid (HX.out.below HL.out)
    have q1 := RX.out.set
    have hRk : R.length ≤ k := by rw [keyed_length HK.out]; exact keysL_le l S k
    obtain ⟨XR, cR, rfl, _⟩ := own_at cellsR_length OW.out
    by_cases hlt : k < S.length
    · have q0 := RX.out.places
      have hg0 := RX.out.lt
      obtain ⟨ad, hA, ha, c0, c1, v0⟩ := RX.out.items.at k hlt
      subst hA
      have hll := HR.out _ (List.getElem_mem hlt)
      have HSN := Lib.hid (keysL_snoc l S k hlt)
      obtain ⟨x, hx⟩ : ∃ x, S[k] = x := ⟨_, rfl⟩
      rw [hx] at c0 v0 hll HSN
      clear hx c1
      obtain ⟨x1, x2, x3, x4⟩ := x
      simp only at c0 v0 hll HSN
      have V0 := Lib.hid v0
      have hpl := pickL_le x3 l
      have hc := fun w' (h : Below wr.heap.size wr w') => (rpick_own x1 C x2 cc x3 l w' ((V0.out.below h).more h.size) ((RX.out.ints.below h).more h.size) hll hl).mono (fun e w'' (g : RPickOwn w' x3 l e w'') => (let ⟨A', c', he, ho, hb⟩ := g; ⟨A', c', he, own_less ho h.size, hb⟩ : ∃ (A' : Option Addr) (c' : Nat), e = .returned (.tuple #[.slice A' (pickL x3 l).length c', .int .i64 (pickE x3 l)]) ∧ w''.ownsRow wr.heap.size 51 3 (.slice A' (pickL x3 l).length c') (pickL x3 l).length (flat (pickL x3 l)) ∧ Below w'.heap.size w' w''))
      obtain ⟨D, hD⟩ : ∃ D, pickL x3 l = D := ⟨_, rfl⟩
      obtain ⟨E, hE⟩ : ∃ E, pickE x3 l = E := ⟨_, rfl⟩
      rw [hD] at HSN hpl
      simp only [hD, hE] at hc
      have HC := Lib.hid hc
      have hz0' : (ad.add (k * 2)).block < wr.heap.size := by rw [add_block]; exact ha
      clear hc hD hE v0
      obtain ⟨p, hp⟩ : ∃ p, ad.add (k * 2) = p := ⟨_, rfl⟩
      go_wp2_with fail
      rw [hp] at c0 hz0'
      go_region_held3 (fun w' => (w'.cell? p = some (.slice x1 x3.length x2) ∧ w'.cell? ⟨g, 0, none⟩ = some (.slice C l.length cc) ∧ w'.cell? ⟨g, 1, none⟩ = some (.slice (some ad) S.length ca)) ∧ Below wr.heap.size wr w')
        (first | assumption | (refine keepP hb5 (by assumption) ?_; intro kk; exact ⟨(kk p hz0').trans c0, (kk ⟨g, 0, none⟩ hg0).trans q0, (kk ⟨g, 1, none⟩ hg0).trans q1⟩) | (exact ⟨⟨c0, q0, q1⟩, Below.drew (Below.refl _ _)⟩))
        (first | (go_at_call 32; with_reducible refine (HC.out _ ?cv).mono ?_; (case cv => exact (by assumption : _ ∧ Below wr.heap.size wr _).2); rintro e w5 ⟨Z, cz, rfl, hv5, hb5⟩))
      have M2 := Lib.hid (show Below wr.heap.size wr w5 by rename_i hS; exact hS.2)
      have Z5 := Lib.hid (own_less hv5 hsz)
      have O5 := Lib.hid (own_to OW.out M2.out)
      have H5 := Lib.hid (HD.out.to M2.out)
      have L5 := Lib.hid (bnext HL.out hsz M2.out)
      have V5 := Lib.hid (own_row Z5.out)
      have z5 := L5.out.size
      clear hb5 hv5 HC OW HD HL M2 c0 q0 q1 V0 RX hg0 hz0'
      go_wp2
      go_loopw [7, 8] (fun f j wv => ∃ (i : Nat) (b : Bool), i ≤ R.length ∧ j = .int .i64 i ∧ f = .bool b ∧ Hid (seenR R D i = b) ∧ Hid (Below w5.heap.size w5 wv)) (fun _ j _ => R.length - (intOf j).toNat)
      case atStart => exact ⟨0, false, by omega, rfl, rfl, Lib.hid rfl, Lib.hid (Below.refl _ _)⟩
      case round =>
        obtain ⟨i, b, hi, rfl, rfl, HB, HV⟩ := hrel
        have hsv := HV.out.size
        by_cases hin : i < R.length
        · obtain ⟨bd, hB, hb, h0⟩ := own_rows (own_to O5.out HV.out) i hin
          subst hB
          have d0 := h0 0 _ rfl
          rw [Nat.mul_one, Nat.add_zero] at d0
          have hv1 := own_row (own_to (H5.out R[i] (List.getElem_mem hin)) HV.out)
          have HSS := Lib.hid (seenR_snoc R D i hin)
          have hle : R[i].2.2.length ≤ 140737488355328 := by
            have h1 := keysL_short l (S.take k) R[i].2.2 (HK.out ▸ List.mem_map.2 ⟨R[i], List.getElem_mem hin, rfl⟩)
            omega
          obtain ⟨y, hy⟩ : ∃ y, R[i] = y := ⟨_, rfl⟩
          rw [hy] at d0 hv1 HSS hle
          clear hy h0
          obtain ⟨y1, y2, y3⟩ := y
          simp only at d0 hv1 HSS hle
          have hs := rrowSame_any y1 Z y2 cz y3 D wr hv1 ((V5.out.below HV.out).more hsv) hle (by omega)
          obtain ⟨z, hz⟩ : ∃ z, decide (y3 = D) = z := ⟨_, rfl⟩
          rw [hz] at hs HSS
          have HS := Lib.hid hs
          clear hs hz hv1
          go_wp2_with fail
          refine HS.out.mono ?_
          rintro e w6 ⟨rfl, hb6⟩
          have L6 := Lib.hid (bnext HV.out hsv hb6)
          have HB2 := Lib.hid (show seenR R D (i + 1) = (b || z) by rw [HSS.out, HB.out])
          clear hb6 HS HSS HB d0
          cases b
          · go_wp2
            go_roundw
            case rel => exact ⟨i + 1, z, by omega, by go_num, rfl, Lib.hid (by rw [HB2.out]; rfl), L6⟩
            case measure => simp [intOf]; omega
          · go_wp2
            go_roundw
            case rel => exact ⟨i + 1, true, by omega, by go_num, rfl, Lib.hid (by rw [HB2.out]; rfl), L6⟩
            case measure => simp [intOf]; omega
        · obtain rfl : i = R.length := by omega
          rename World => w7
          have O7 := Lib.hid (own_to O5.out HV.out)
          have H7 := Lib.hid (H5.out.to HV.out)
          have Z7 := Lib.hid (own_to Z5.out HV.out)
          have L7 := Lib.hid (bnext L5.out z5 HV.out)
          have z7 := L7.out.size
          clear O5 H5 Z5 L5 V5 HV
          cases b
          · have HK2 := Lib.hid (show Keyed (R ++ [(Z, cz, D)]) (keysL l (S.take (k + 1))) by rw [HSN.out]; exact keyed_no HK.out HB.out Z cz)
            go_wp2_with (at_builtin; refine wpList_append_at (k := 1) (c := cellsR) cellsR_length (by decide) cellsR_one rfl _ _ 91 rfl w.heap.size 25 r0 (.slice none 0 0) 24 Tryz.underlying91 hr0 hw0 hw1 hw2 rfl _ _ _ rfl (O7.out.alloc _) (w7.heap.size + 1) (some ⟨w7.heap.size, 0, none⟩) 1 [(Z, cz, D)] rfl ?c2 ?c3 ?c4 ?c5 ?_)
            case c2 =>
              intro i hi
              match i, hi with
              | 0, _ => exact ⟨_, rfl, by simp, fun j u hu => World.news_of_block (heap_alloc_new w7 _) _ _ (by simpa [cellsR] using hu)⟩
            case c3 => unfold maxLen; simp; omega
            case c4 => simp; omega
            case c5 => simp; omega
            intro v8 w8 hown8 hgrow8
            have hz7 := below_alloc w7 (.cells #[.slice Z D.length cz] 25)
            have ho7 := own_to O7.out hz7
            have L8 := Lib.hid ((L7.out.alloc z7 (.cells #[.slice Z D.length cz] 25)).grown hgrow8 (by simp; omega) (fun j hj => (ho7.lt j hj).1))
            have H8 := Lib.hid (((H7.out.snoc (x := (Z, cz, D)) Z7.out).to hz7).grown ho7 (by decide) hgrow8)
            have O8 := Lib.hid (show w8.ownsRow w.heap.size 25 1 v8 (R ++ [(Z, cz, D)]).length (flatC cellsR (R ++ [(Z, cz, D)])) by rw [flatC_snoc]; simpa [flatC] using hown8)
            clear hown8 hgrow8 hz7 ho7 O7 H7 L7 Z7
            go_wp2
            go_roundw
            case rel => exact ⟨k + 1, R ++ [(Z, cz, D)], by omega, by go_num, HK2, O8, H8, L8⟩
            case measure => simp [intOf]; omega
          · have HK2 := Lib.hid (show Keyed R (keysL l (S.take (k + 1))) by rw [HSN.out]; exact keyed_yes HK.out HB.out)
            go_wp2
            go_roundw
            case rel => exact ⟨k + 1, R, by omega, by go_num, HK2, O7, H7, L7⟩
            case measure => simp [intOf]; omega
    · obtain rfl : k = S.length := by omega
      rw [List.take_length] at HK
      have hlen := keyed_length HK.out
      have HLN := Lib.hid hlen
      clear hlen
      go_wp2
      go_ret
      exact ⟨by simp [go_sem, HLN.out], HL.out⟩
end Go.Proofs.YtjjikooabmddlaaGreatDoor.Items
