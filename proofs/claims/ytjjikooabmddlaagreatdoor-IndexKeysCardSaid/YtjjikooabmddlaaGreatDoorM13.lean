/-
  Sets by key in plain words: a row's key as bytes, a key's items, sums of them.
-/
import Derived.Test.YtjjikooabmddlaaGreatDoorM6
import Derived.Test.YtjjikooabmddlaaGreatDoorM10
import Derived.Test.YtjjikooabmddlaaGreatDoorM12
namespace Go.Proofs.YtjjikooabmddlaaGreatDoor.Items
open Go.ChangeShapes Go.WideShapes Go.ChangeAt Go.RowKit Val Go.Proofs.YtjjikooabmddlaaGreatDoor.Code Go.Proofs.YtjjikooabmddlaaGreatDoor.Elems Go.Proofs.YtjjikooabmddlaaGreatDoor.ZP
set_option linter.unusedVariables false
set_option maxRecDepth 100000

abbrev PL := List (List (Int × Int × ByteArray) × Int)
theorem keyS_size (q : List (Int × Int × ByteArray)) : (keyS q).size ≤ 10000 := by
  unfold keyS
  split
  · rename_i h
    unfold rightR at h
    rw [Bool.and_eq_true] at h
    have h1 := of_decide_eq_true h.1
    have h2 := encL_length h.2
    rw [(enc_yes h.2).1]
    show (encL q).toArray.size ≤ _
    simp
    omega
  · show (0 : Nat) ≤ _
    omega
theorem key_max (q : List (Int × Int × ByteArray)) : (keyS q).size ≤ maxLen := Nat.le_trans (keyS_size q) (by unfold maxLen; omega)
theorem right_L {q : List (Int × Int × ByteArray)} (h : rightR q = true) : rightL q = true := by
  unfold rightR at h
  rw [Bool.and_eq_true] at h
  exact h.2
theorem key_inj {a b : List (Int × Int × ByteArray)} (ha : rightR a = true) (hb : rightR b = true) (fa : FitL a) (fb : FitL b) (h : keyS a = keyS b) : a = b := by
  rw [key_yes ha, key_yes hb, (enc_yes (right_L ha)).1, (enc_yes (right_L hb)).1] at h
  have h2 : encL a = encL b := by
    injection h with h
    have := congrArg Array.toList h
    simpa using this
  have h3 := dec_enc (right_L ha) fa
  rw [h2, dec_enc (right_L hb) fb] at h3
  exact (Option.some.inj h3).symm
theorem vals_mem {r : List (Int × Int × ByteArray)} {l : List Int} (h : okP r l = true) : ∀ v ∈ valsP r l, v ∈ r := by
  intro v hv
  obtain ⟨n, hn, rfl⟩ := List.mem_map.1 hv
  unfold okP at h
  rw [List.all_eq_true] at h
  have := h n hn
  rw [Bool.and_eq_true, decide_eq_true_eq, decide_eq_true_eq] at this
  have hlt : n.toNat < r.length := by omega
  rw [List.getD_eq_getElem?_getD, List.getElem?_eq_getElem hlt]
  exact List.getElem_mem hlt
theorem pick_right {r : List (Int × Int × ByteArray)} {l : List Int} (h : okP r l = true) (hr : rightR r = true) (hl : l.length ≤ 24) : rightR (pickL r l) = true := by
  have e : pickL r l = valsP r l := by unfold pickL; rw [h]; rfl
  rw [e]
  unfold rightR
  rw [Bool.and_eq_true, decide_eq_true_eq]
  refine ⟨by rw [valsP_length]; exact hl, ?_⟩
  have := right_L hr
  unfold rightL at *
  rw [List.all_eq_true] at *
  exact fun v hv => this v (vals_mem h v hv)
theorem pick_fit {r : List (Int × Int × ByteArray)} {l : List Int} (hf : FitL r) : FitL (pickL r l) := by
  unfold pickL
  split
  · rename_i h
    exact fun v hv => hf v (vals_mem h v hv)
  · exact fun v hv => by cases hv

/-- a row's key, as bytes -/
def keyB (l : List Int) (r : List (Int × Int × ByteArray)) : ByteArray := keyS (pickL r l)
theorem keyB_max (l : List Int) (r : List (Int × Int × ByteArray)) : (keyB l r).size ≤ maxLen := key_max _
def grpP (l : List Int) (k : ByteArray) (S : PL) : PL := S.filter fun x => decide (keyB l x.1 = k)
def grpI (l : List Int) (k : ByteArray) (L : List It) : List It := L.filter fun x => decide (keyB l x.2.2.1 = k)
theorem pl_grp (l : List Int) (k : ByteArray) (L : List It) : pl (grpI l k L) = grpP l k (pl L) := by
  unfold pl grpI grpP
  rw [List.filter_map]
  rfl
theorem grp_append (l : List Int) (k : ByteArray) (a b : PL) : grpP l k (a ++ b) = grpP l k a ++ grpP l k b := List.filter_append ..
theorem grpI_append (l : List Int) (k : ByteArray) (a b : List It) : grpI l k (a ++ b) = grpI l k a ++ grpI l k b := List.filter_append ..
theorem grp_weight (l : List Int) (k : ByteArray) (r : List (Int × Int × ByteArray)) : ∀ S : PL, weightP (grpP l k S) r = if keyB l r = k then weightP S r else 0
  | [] => by simp [grpP, weightP]
  | x :: S => by
    have ih := grp_weight l k r S
    unfold grpP at ih ⊢
    rw [List.filter_cons]
    by_cases e : keyB l x.1 = k
    · rw [if_pos (by simpa using e), weightP, weightP, ih]
      by_cases e2 : x.1 = r
      · subst e2; rw [if_pos rfl, if_pos e, if_pos e]
      · rw [if_neg e2]; split <;> omega
    · rw [if_neg (by simpa using e), weightP, ih]
      by_cases e2 : x.1 = r
      · subst e2; rw [if_neg e, if_neg e]
      · rw [if_neg e2]; split <;> omega
theorem set_sub {S T : PL} (h : IsSet S) (hs : T.Sublist S) : IsSet T := ⟨h.1.sublist hs, fun x hx => h.2 x (hs.subset hx)⟩
theorem grp_set {S : PL} (h : IsSet S) (l : List Int) (k : ByteArray) : IsSet (grpP l k S) := set_sub h List.filter_sublist
theorem grp_mem {l : List Int} {k : ByteArray} {S : PL} {x : List (Int × Int × ByteArray) × Int} : x ∈ grpP l k S ↔ x ∈ S ∧ keyB l x.1 = k := by
  unfold grpP
  rw [List.mem_filter, decide_eq_true_eq]
/-- a set, or two sets one behind the other, summed up -/
def SumOf (T Q : PL) : Prop := IsSet T ∧ ∀ r, weightP T r = weightP Q r
theorem SumOf.eq {T T' Q : PL} (h : SumOf T Q) (h' : SumOf T' Q) : T = T' := set_weights h.1 h'.1 fun r => (h.2 r).trans (h'.2 r).symm
theorem sum_grp {T Q : PL} (h : SumOf T Q) (l : List Int) (k : ByteArray) : SumOf (grpP l k T) (grpP l k Q) := ⟨grp_set h.1 l k, fun r => by rw [grp_weight, grp_weight, h.2]⟩
theorem sum_self {S : PL} (h : IsSet S) : SumOf S S := ⟨h, fun _ => rfl⟩
/-- whether all weights fit -/
def WFit (Q : PL) : Prop := ∀ r, fits (weightP Q r)
theorem okK_iff (L : List It) : okK L L.length = true ↔ WFit (pl L) := by
  constructor
  · intro h r
    by_cases e : ∃ x ∈ L, x.2.2.1 = r
    · obtain ⟨x, hx, rfl⟩ := e
      exact okK_all h x (by rw [List.take_length]; exact hx)
    · rw [weightP_out]
      · unfold fits; omega
      · intro x hx e2
        obtain ⟨y, hy, rfl⟩ := List.mem_map.1 hx
        exact e ⟨y, hy, e2⟩
  · intro h
    unfold okK
    rw [List.take_length, List.all_eq_true]
    exact fun x _ => decide_eq_true (h x.2.2.1)
def RightP (Q : PL) : Prop := ∀ x ∈ Q, rightR x.1 = true
theorem okRows_iff (L : List It) : okRows L = true ↔ RightP (pl L) := by
  unfold okRows RightP
  rw [List.all_eq_true]
  constructor
  · intro h x hx
    obtain ⟨y, hy, rfl⟩ := List.mem_map.1 hx
    exact h y hy
  · exact fun h x hx => h (pu x) (List.mem_map.2 ⟨x, hx, rfl⟩)
/-- what the sum of right rows is -/
theorem of_cases {L : List It} (hr : RightP (pl L)) : (ofE L = 0 ∧ WFit (pl L) ∧ SumOf (pl (ofL L)) (pl L)) ∨ (ofE L = 11 ∧ ¬ WFit (pl L)) := by
  have h1 := (okRows_iff L).2 hr
  by_cases e : okK L L.length = true
  · refine .inl ⟨by unfold ofE; rw [h1, e]; rfl, (okK_iff L).1 e, ?_⟩
    have : ofL L = ofI L L.length := by unfold ofL; rw [h1, e]; rfl
    rw [this]
    exact ⟨(ofI_set L L.length (Nat.le_refl _)).1, ofI_weight L⟩
  · refine .inr ⟨?_, fun h => e ((okK_iff L).2 h)⟩
    rw [Bool.not_eq_true] at e
    unfold ofE
    rw [h1, e]
    rfl
theorem set_fit {S : PL} (h : IsSet S) (hf : ∀ x ∈ S, fits x.2) : WFit S := by
  intro r
  by_cases e : weightP S r = 0
  · rw [e]; unfold fits; omega
  · obtain ⟨x, hx, rfl⟩ := weight_mem e
    rw [mem_weight h x hx]
    exact hf x hx
theorem grp_all {S s : PL} (l : List Int) (h : ∀ k, grpP l k s ≠ [] → WFit (grpP l k S ++ grpP l k s)) (hS : WFit S) : WFit (S ++ s) := by
  intro r
  rw [weightP_append]
  by_cases e : weightP s r = 0
  · rw [e, Int.add_zero]; exact hS r
  · obtain ⟨x, hx, rfl⟩ := weight_mem e
    have h1 := h (keyB l x.1) (fun e2 => by
      have : x ∈ grpP l (keyB l x.1) s := grp_mem.2 ⟨hx, rfl⟩
      rw [e2] at this
      cases this) x.1
    rwa [weightP_append, grp_weight, grp_weight, if_pos rfl, if_pos rfl] at h1
theorem grp_one {S s : PL} (l : List Int) (k : ByteArray) (h : WFit (S ++ s)) : WFit (grpP l k S ++ grpP l k s) := by
  intro r
  rw [weightP_append, grp_weight, grp_weight]
  have := h r
  rw [weightP_append] at this
  split
  · exact this
  · unfold fits; omega
end Go.Proofs.YtjjikooabmddlaaGreatDoor.Items
