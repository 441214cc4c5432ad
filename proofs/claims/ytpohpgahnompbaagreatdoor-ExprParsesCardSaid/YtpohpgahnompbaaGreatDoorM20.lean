/-
  How deep a node is nested, as the document's reader reckons it.
-/
import Derived.Test.YtpohpgahnompbaaGreatDoorM8
import Derived.Test.YtpohpgahnompbaaGreatDoorM19
import Derived.Test.YtpohpgahnompbaaGreatDoorM14
namespace Go.Proofs.YtpohpgahnompbaaGreatDoor.Code
open Go.ChangeShapes Go.WideShapes Go.ChangeAt Go.RowKit Val Elems
set_option linter.unusedVariables false
set_option linter.unusedSimpArgs false
def kids : Tr → List Tr
  | .leaf _ _ => []
  | .one _ x => [x]
  | .two _ x y => [x, y]
theorem kids_few (t : Tr) : (kids t).length ≤ 2 := by cases t <;> simp [kids]
def dm : List Tr → Nat
  | [] => 0
  | t :: l => max t.deep (dm l)
theorem deep_kids (t : Tr) : t.deep = dm (kids t) + 1 := by
  cases t <;> simp [Tr.deep, kids, dm]
theorem dm_snoc (x : Tr) : ∀ l : List Tr, dm (l ++ [x]) = max (dm l) x.deep
  | [] => by simp [dm]
  | t :: l => by
    show max t.deep (dm (l ++ [x])) = max (max t.deep (dm l)) x.deep
    rw [dm_snoc x l, Nat.max_assoc]
theorem dm_take : ∀ (l : List Tr) (k : Nat), dm (l.take k) ≤ dm l
  | [], k => by simp
  | t :: l, 0 => Nat.zero_le _
  | t :: l, k + 1 => by
    show max t.deep (dm (l.take k)) ≤ max t.deep (dm l)
    have := dm_take l k
    omega
theorem dm_mem {x : Tr} : ∀ {l : List Tr}, x ∈ l → x.deep ≤ dm l
  | [], h => absurd h (by simp)
  | t :: l, h => by
    show _ ≤ max t.deep (dm l)
    rcases List.mem_cons.1 h with rfl | h
    · exact Nat.le_max_left _ _
    · exact Nat.le_trans (dm_mem h) (Nat.le_max_right _ _)
theorem NIn.form' {w : World} {S : Nat → Prop} {t : Tr} {a b c : Value} (h : NIn w S t a b c) : ∃ (X : Option Addr) (n m : Nat), c = .slice X n m := by
  cases t with
  | leaf op tx => exact ⟨_, _, _, h.2.2⟩
  | one op x => obtain ⟨_, _, g, cap, x0, x1, x2, h3, _⟩ := h; exact ⟨_, _, _, h3⟩
  | two op x y => obtain ⟨_, _, g, cap, x0, x1, x2, y0, y1, y2, h3, _⟩ := h; exact ⟨_, _, _, h3⟩
/-- what lies behind a node: its Kids -/
theorem NIn.node {w : World} {S : Nat → Prop} {t : Tr} {a b c : Value} (h : NIn w S t a b c) : ∃ (X : Option Addr) (cap : Nat), c = .slice X (kids t).length cap ∧
    ∀ (k : Nat) (hk : k < (kids t).length), ∃ (ad : Addr) (op tx : ByteArray) (X' : Option Addr) (n m : Nat), X = some ad ∧ S ad.block ∧ w.cell? (ad.add (k * 3)) = some (.string op) ∧ w.cell? ⟨(ad.add (k * 3)).block, (ad.add (k * 3)).off + 1, none⟩ = some (.string tx) ∧ w.cell? ⟨(ad.add (k * 3)).block, (ad.add (k * 3)).off + 2, none⟩ = some (.slice X' n m) ∧ NIn w S (kids t)[k] (.string op) (.string tx) (.slice X' n m) := by
  cases t with
  | leaf op tx => exact ⟨_, _, h.2.2, fun k hk => absurd hk (Nat.not_lt_zero _)⟩
  | one op x =>
    obtain ⟨h1, h2, g, cap, x0, x1, x2, h3, h4, c0, c1, c2, hx⟩ := h
    refine ⟨_, _, h3, fun k hk => ?_⟩
    obtain ⟨X, n, m, rfl⟩ := hx.form'
    obtain ⟨rfl, rfl⟩ := hx.texts
    obtain rfl : k = 0 := by simp [kids] at hk; omega
    exact ⟨_, _, _, _, _, _, rfl, h4, c0, c1, c2, hx⟩
  | two op x y =>
    obtain ⟨h1, h2, g, cap, x0, x1, x2, y0, y1, y2, h3, h4, c0, c1, c2, d0, d1, d2, hx, hy⟩ := h
    refine ⟨_, _, h3, fun k hk => ?_⟩
    obtain ⟨X, n, m, rfl⟩ := hx.form'
    obtain ⟨rfl, rfl⟩ := hx.texts
    obtain ⟨Y, n', m', rfl⟩ := hy.form'
    obtain ⟨rfl, rfl⟩ := hy.texts
    have hc : k = 0 ∨ k = 1 := by simp [kids] at hk; omega
    rcases hc with rfl | rfl
    · exact ⟨_, _, _, _, _, _, rfl, h4, c0, c1, c2, hx⟩
    · exact ⟨_, _, _, _, _, _, rfl, h4, d0, d1, d2, hy⟩
set_option maxHeartbeats 8000000 in
set_option maxRecDepth 100000 in
theorem rdeep_any : ∀ (d : Nat) (t : Tr), t.deep ≤ d → d ≤ 1000000000 → ∀ (S : Nat → Prop) (op tx : ByteArray) (X : Option Addr) (n m : Nat) (w : World), (∀ g, S g → g < w.heap.size) → NIn w S t (.string op) (.string tx) (.slice X n m) →
    Calls Tryz.prog 17 #[.agg #[.string op, .string tx, .slice X n m]] w fun e w' => e = .returned (.int .i64 t.deep) ∧ Below w.heap.size w w'
  | 0, t, h, _, _, _, _, _, _, _, _, _, _ => absurd h (by rw [deep_kids]; omega)
  | d + 1, t, h, hd, S, op, tx, X, n, m, w, hS, hn => by
    have ih := Lib.hid (fun k (hk : k < (kids t).length) => rdeep_any d (kids t)[k] (by have := dm_mem (List.getElem_mem hk); rw [deep_kids] at h; omega) (by omega))
    rw [deep_kids] at h ⊢
    have hdm : dm (kids t) ≤ d := by omega
    have hkl := kids_few t
    have HS := Lib.hid hS
    obtain ⟨X0, c0, e0, _⟩ := hn.node
    injection e0 with eX en em
    subst en
    have HN := Lib.hid hn
    clear h hS hn eX em
    go_enter Tryz.func17, Tryz.ntmps17
    go_wp2
    go_loopw [3, 4] (fun v t' wr => ∃ k : Nat, k ≤ (kids t).length ∧ t' = .int .i64 k ∧ v = .int .i64 (dm ((kids t).take k)) ∧ Below w.heap.size w wr ∧ NBox wr w.heap.size (.string op) (.string tx) (.slice X (kids t).length m)) (fun _ t' _ => (kids t).length - (intOf t').toNat)
    case atStart => exact ⟨0, by omega, rfl, rfl, (Below.refl _ _).alloc (Nat.le_refl _) _, NBox.fresh _ _ _ _ _⟩
    case round =>
      obtain ⟨k, hk, rfl, rfl, hb, hv⟩ := hrel
      have HB := Lib.hid hb
      have HV := Lib.hid hv
      have hz := hb.size
      have hvl := hv.lt
      have HK := Lib.hid (HN.out.below HS.out hb)
      obtain ⟨x0, x1, x2, xf⟩ := hv
      clear hb
      by_cases hlt : k < (kids t).length
      · obtain ⟨X0, c0, e0, hkid⟩ := HK.out.node
        obtain ⟨ad, op', tx', X', n', m', eA, hS', q0, q1, q2, hk'⟩ := hkid k hlt
        injection e0 with eX en em
        obtain rfl : X = some ad := eX.trans eA
        have hKK := Lib.hid hk'
        have had := HS.out _ hS'
        have hdk : dm ((kids t).take k) ≤ dm (kids t) := dm_take _ _
        have hdx : (kids t)[k].deep ≤ dm (kids t) := dm_mem (List.getElem_mem hlt)
        have hdt : dm ((kids t).take (k + 1)) = max (dm ((kids t).take k)) (kids t)[k].deep := by rw [List.take_succ_eq_append_getElem hlt, dm_snoc]
        have HDT := Lib.hid hdt
        clear hkid eX em eA hk' hdt
        go_wp2_with fail
        refine (ih.out k hlt S op' tx' X' n' m' _ (fun g hg => Nat.lt_of_lt_of_le (HS.out g hg) hz) hKK.out).mono ?_
        rintro e w1 ⟨rfl, hb1⟩
        have HB1 := Lib.hid (HB.out.trans (hb1.mono hz))
        have HV1 := Lib.hid (HV.out.below hb1)
        clear hb1 q0 q1 q2 x0 x1 x2 xf
        go_wp2
        go_roundw
        case rel => exact ⟨k + 1, by omega, by go_num, by rw [HDT.out]; simp; omega, HB1.out, HV1.out⟩
        case measure => simp [intOf]; omega
      · obtain rfl : k = (kids t).length := by omega
        rw [List.take_length]
        go_wp2
        go_ret
        exact ⟨by simp, HB.out⟩
end Go.Proofs.YtpohpgahnompbaaGreatDoor.Code

/-
  The document's Parse: a text's node, or what is wrong, and where.
-/
namespace Go.Proofs.YtpohpgahnompbaaGreatDoor.Code
open Go.ChangeShapes Go.WideShapes Go.ChangeAt Go.RowKit Val Elems
set_option linter.unusedVariables false
set_option linter.unusedSimpArgs false
set_option maxHeartbeats 4000000 in
set_option maxRecDepth 100000 in
theorem rread_none (A : Option Addr) (cap : Nat) (w : World) :
    Calls Tryz.prog 15 #[.slice A 0 cap, .int .i64 0] w (ReadPost w (zeroT, 0, 91)) := by
  go_enter Tryz.func15, Tryz.ntmps15
  go_wp2
  have Y := NBox.fresh w (.string ⟨#[]⟩) (.string ⟨#[]⟩) (.slice none 0 0) 25
  exact bodyPost_ret (v := .tuple #[.agg #[.string ⟨#[]⟩, .string ⟨#[]⟩, .slice none 0 0], .int .i64 0, .int .i64 91]) (by simp [results, Tryz.results15, go_sem, Y.c0, Y.c1, Y.c2]) rfl
    ⟨⟨#[]⟩, ⟨#[]⟩, none, 0, 0, rfl, ⟨rfl, rfl, rfl⟩, (Below.refl _ _).alloc (Nat.le_refl _) _⟩
def ParsePost (w : World) (res : Tr × Int × Int) (e : Ending) (w' : World) : Prop :=
  ∃ (op tx : ByteArray) (X : Option Addr) (n m : Nat), e = .returned (.tuple #[.agg #[.string op, .string tx, .slice X n m], .int .i64 res.2.1, .int .i64 res.2.2]) ∧ NIn w' (New w w') res.1 (.string op) (.string tx) (.slice X n m) ∧ Below w.heap.size w w'
/-- what Words answers, by letters -/
def WordsIs (s : ByteArray) (l : List W) (p ee : Int) : Prop := ∀ w, Calls Tryz.prog 14 #[.string s] w (fun e w' => ∃ (A : Option Addr) (cap : Nat), e = .returned (.tuple #[.slice A l.length cap, .int .i64 p, .int .i64 ee]) ∧ At wc 3 w' w'.heap.size A l ∧ Below w.heap.size w w')
theorem words_is (s : ByteArray) (hs : s.size ≤ 4194304) : WordsIs s (wL s.data.toList) (wP s.data.toList) (wE s.data.toList) := fun w => rwords_any s w hs
set_option maxHeartbeats 4000000 in
set_option maxRecDepth 100000 in
theorem rparse_lex (s : ByteArray) (w : World) (j : Int) (hw : WordsIs s [] j 81) :
    Calls Tryz.prog 7 #[.string s] w (ParsePost w (zeroT, j, 81)) := by
  have HW := Lib.hid hw
  clear hw
  go_enter Tryz.func7, Tryz.ntmps7
  have N0 := Lib.hid (NBox.fresh w (.string ⟨#[]⟩) (.string ⟨#[]⟩) (.slice none 0 0) 25)
  have B0 := Lib.hid ((Below.refl w.heap.size w).alloc (Nat.le_refl _) (.cells #[.string ⟨#[]⟩, .string ⟨#[]⟩, .slice none 0 0] 25))
  go_wp2_with fail
  refine (HW.out _).mono ?_
  rintro e w1 ⟨A, cap, rfl, hat, hb1⟩
  have N1 := Lib.hid (N0.out.below hb1)
  have B1 := Lib.hid (B0.out.trans (hb1.mono (by simp)))
  have A1 := Lib.hid hat
  have z1 := N1.out.lt
  clear hb1 hat
  obtain ⟨x0, x1, x2, xf⟩ := N1.out
  go_wp2
  have N3 := N1
  have B3 := B1
  replace N3 := Lib.hid N3.out
  have Y := N3.out.set (.string ⟨#[]⟩) (.string ⟨#[]⟩) (.slice none 0 0)
  exact bodyPost_ret (v := .tuple #[.agg #[.string ⟨#[]⟩, .string ⟨#[]⟩, .slice none 0 0], .int .i64 j, .int .i64 81]) (by simp [results, Tryz.results7, go_sem, Y.c0, Y.c1, Y.c2]) rfl
    ⟨⟨#[]⟩, ⟨#[]⟩, none, 0, 0, rfl, ⟨rfl, rfl, rfl⟩, ((B3.out.setCell (Nat.le_refl _) _).setCell (Nat.le_refl _) _).setCell (Nat.le_refl _) _⟩
set_option maxHeartbeats 4000000 in
set_option maxRecDepth 100000 in
theorem rparse_bad (s : ByteArray) (w : World) (l : List W) (hw : WordsIs s l 0 0) (x : Tr) (j : Nat) (hr : ∀ A cap w, At wc 3 w w.heap.size A l → Calls Tryz.prog 15 #[.slice A l.length cap, .int .i64 0] w (ReadPost w (x, j, 91))) (hl : l.length ≤ 4194304) (hj : j ≤ l.length) :
    Calls Tryz.prog 7 #[.string s] w (ParsePost w (zeroT, placeL s.size l j, 91)) := by
  have HW := Lib.hid hw
  have HR := Lib.hid hr
  have HP := Lib.hid (fun (A : Option Addr) (cap : Nat) (w : World) h => rplace_any s A cap l j w h hl hj)
  obtain ⟨p, hp⟩ : ∃ p, placeL s.size l j = p := ⟨_, rfl⟩
  rw [hp] at HP ⊢
  clear hw hr hp
  go_enter Tryz.func7, Tryz.ntmps7
  have N0 := Lib.hid (NBox.fresh w (.string ⟨#[]⟩) (.string ⟨#[]⟩) (.slice none 0 0) 25)
  have B0 := Lib.hid ((Below.refl w.heap.size w).alloc (Nat.le_refl _) (.cells #[.string ⟨#[]⟩, .string ⟨#[]⟩, .slice none 0 0] 25))
  go_wp2_with fail
  refine (HW.out _).mono ?_
  rintro e w1 ⟨A, cap, rfl, hat, hb1⟩
  have N1 := Lib.hid (N0.out.below hb1)
  have B1 := Lib.hid (B0.out.trans (hb1.mono (by simp)))
  have A1 := Lib.hid hat
  have z1 := N1.out.lt
  clear hb1 hat
  go_wp2_with fail
  refine (HR.out A cap _ A1.out).mono ?_
  rintro e w2 ⟨op, tx, X, n, m, rfl, hn2, hb2⟩
  have N2 := Lib.hid ((N1.out.below hb2).alloc (.cells #[.string op, .string tx, .slice X n m] 25))
  have B2 := Lib.hid ((B1.out.trans (hb2.mono (by omega))).alloc (by have := hb2.size; omega) (.cells #[.string op, .string tx, .slice X n m] 25))
  have A2 := Lib.hid (show At wc 3 (w2.alloc (.cells #[.string op, .string tx, .slice X n m] 25)) (w2.alloc (.cells #[.string op, .string tx, .slice X n m] 25)).heap.size A l from ((((A1.out.below hb2).more hb2.size).below ((Below.refl _ _).alloc (Nat.le_refl _) (.cells #[.string op, .string tx, .slice X n m] 25))).more (by simp)))
  have I2 := Lib.hid ((hn2.imp (S' := fun g => w.heap.size < g ∧ g < w2.heap.size) (fun g hg => ⟨by have := hg.1; omega, hg.2⟩)).alloc (fun g hg => hg.2) (.cells #[.string op, .string tx, .slice X n m] 25))
  have V2 := Lib.hid (NBox.fresh w2 (.string op) (.string tx) (.slice X n m) 25)
  have z2 := hb2.size
  have zn := N2.out.lt
  clear hb2 hn2
  obtain ⟨x0, x1, x2, xf⟩ := N2.out
  have A3 := A2
  go_wp2_with fail
  refine (HP.out A cap _ A2.out).mono ?_
  rintro e w3 ⟨rfl, hb3⟩
  have N3 := Lib.hid (N2.out.below hb3)
  have B3 := Lib.hid (B2.out.trans (hb3.mono (by omega)))
  have z3 := N3.out.lt
  clear hb3 x0 x1 x2 xf
  obtain ⟨x0, x1, x2, xf⟩ := N3.out
  go_wp2
  have Y := N3.out.set (.string ⟨#[]⟩) (.string ⟨#[]⟩) (.slice none 0 0)
  exact bodyPost_ret (v := .tuple #[.agg #[.string ⟨#[]⟩, .string ⟨#[]⟩, .slice none 0 0], .int .i64 p, .int .i64 91]) (by simp [results, Tryz.results7, go_sem, Y.c0, Y.c1, Y.c2]) rfl
    ⟨⟨#[]⟩, ⟨#[]⟩, none, 0, 0, rfl, ⟨rfl, rfl, rfl⟩, ((B3.out.setCell (Nat.le_refl _) _).setCell (Nat.le_refl _) _).setCell (Nat.le_refl _) _⟩
set_option maxHeartbeats 4000000 in
set_option maxRecDepth 100000 in
theorem rparse_short (s : ByteArray) (w : World) (l : List W) (hw : WordsIs s l 0 0) (x : Tr) (j : Nat) (hr : ∀ A cap w, At wc 3 w w.heap.size A l → Calls Tryz.prog 15 #[.slice A l.length cap, .int .i64 0] w (ReadPost w (x, j, 0))) (hl : l.length ≤ 4194304) (hj : j < l.length) :
    Calls Tryz.prog 7 #[.string s] w (ParsePost w (zeroT, placeL s.size l j, 91)) := by
  have HW := Lib.hid hw
  have HR := Lib.hid hr
  have HP := Lib.hid (fun (A : Option Addr) (cap : Nat) (w : World) h => rplace_any s A cap l j w h hl (Nat.le_of_lt hj))
  obtain ⟨p, hp⟩ : ∃ p, placeL s.size l j = p := ⟨_, rfl⟩
  rw [hp] at HP ⊢
  have e1 : decide ((j : Int) < (l.length : Int)) = true := by simp; omega
  clear hw hr hp
  go_enter Tryz.func7, Tryz.ntmps7
  have N0 := Lib.hid (NBox.fresh w (.string ⟨#[]⟩) (.string ⟨#[]⟩) (.slice none 0 0) 25)
  have B0 := Lib.hid ((Below.refl w.heap.size w).alloc (Nat.le_refl _) (.cells #[.string ⟨#[]⟩, .string ⟨#[]⟩, .slice none 0 0] 25))
  go_wp2_with fail
  refine (HW.out _).mono ?_
  rintro e w1 ⟨A, cap, rfl, hat, hb1⟩
  have N1 := Lib.hid (N0.out.below hb1)
  have B1 := Lib.hid (B0.out.trans (hb1.mono (by simp)))
  have A1 := Lib.hid hat
  have z1 := N1.out.lt
  clear hb1 hat
  go_wp2_with fail
  refine (HR.out A cap _ A1.out).mono ?_
  rintro e w2 ⟨op, tx, X, n, m, rfl, hn2, hb2⟩
  have N2 := Lib.hid ((N1.out.below hb2).alloc (.cells #[.string op, .string tx, .slice X n m] 25))
  have B2 := Lib.hid ((B1.out.trans (hb2.mono (by omega))).alloc (by have := hb2.size; omega) (.cells #[.string op, .string tx, .slice X n m] 25))
  have A2 := Lib.hid (show At wc 3 (w2.alloc (.cells #[.string op, .string tx, .slice X n m] 25)) (w2.alloc (.cells #[.string op, .string tx, .slice X n m] 25)).heap.size A l from ((((A1.out.below hb2).more hb2.size).below ((Below.refl _ _).alloc (Nat.le_refl _) (.cells #[.string op, .string tx, .slice X n m] 25))).more (by simp)))
  have I2 := Lib.hid ((hn2.imp (S' := fun g => w.heap.size < g ∧ g < w2.heap.size) (fun g hg => ⟨by have := hg.1; omega, hg.2⟩)).alloc (fun g hg => hg.2) (.cells #[.string op, .string tx, .slice X n m] 25))
  have V2 := Lib.hid (NBox.fresh w2 (.string op) (.string tx) (.slice X n m) 25)
  have z2 := hb2.size
  have zn := N2.out.lt
  clear hb2 hn2
  obtain ⟨x0, x1, x2, xf⟩ := N2.out
  have A3 := A2
  go_wp2_with fail
  refine (HP.out A cap _ A2.out).mono ?_
  rintro e w3 ⟨rfl, hb3⟩
  have N3 := Lib.hid (N2.out.below hb3)
  have B3 := Lib.hid (B2.out.trans (hb3.mono (by omega)))
  have z3 := N3.out.lt
  clear hb3 x0 x1 x2 xf
  obtain ⟨x0, x1, x2, xf⟩ := N3.out
  go_wp2
  have Y := N3.out.set (.string ⟨#[]⟩) (.string ⟨#[]⟩) (.slice none 0 0)
  exact bodyPost_ret (v := .tuple #[.agg #[.string ⟨#[]⟩, .string ⟨#[]⟩, .slice none 0 0], .int .i64 p, .int .i64 91]) (by simp [results, Tryz.results7, go_sem, Y.c0, Y.c1, Y.c2]) rfl
    ⟨⟨#[]⟩, ⟨#[]⟩, none, 0, 0, rfl, ⟨rfl, rfl, rfl⟩, ((B3.out.setCell (Nat.le_refl _) _).setCell (Nat.le_refl _) _).setCell (Nat.le_refl _) _⟩
set_option maxHeartbeats 4000000 in
set_option maxRecDepth 100000 in
theorem rparse_deep (s : ByteArray) (w : World) (l : List W) (hw : WordsIs s l 0 0) (x : Tr) (hr : ∀ A cap w, At wc 3 w w.heap.size A l → Calls Tryz.prog 15 #[.slice A l.length cap, .int .i64 0] w (ReadPost w (x, l.length, 0))) (hd : x.deep ≤ 1000000000) (h16 : 16 < x.deep) :
    Calls Tryz.prog 7 #[.string s] w (ParsePost w (zeroT, 0, 92)) := by
  have HW := Lib.hid hw
  have HR := Lib.hid hr
  have HD := Lib.hid (rdeep_any 1000000000 x hd (Nat.le_refl _))
  obtain ⟨d, hdd⟩ : ∃ d, x.deep = d := ⟨_, rfl⟩
  rw [hdd] at HD h16 hd
  clear hw hr hdd
  have e1 : decide ((16 : Int) < (d : Int)) = true := by simp; omega
  go_enter Tryz.func7, Tryz.ntmps7
  have N0 := Lib.hid (NBox.fresh w (.string ⟨#[]⟩) (.string ⟨#[]⟩) (.slice none 0 0) 25)
  have B0 := Lib.hid ((Below.refl w.heap.size w).alloc (Nat.le_refl _) (.cells #[.string ⟨#[]⟩, .string ⟨#[]⟩, .slice none 0 0] 25))
  go_wp2_with fail
  refine (HW.out _).mono ?_
  rintro e w1 ⟨A, cap, rfl, hat, hb1⟩
  have N1 := Lib.hid (N0.out.below hb1)
  have B1 := Lib.hid (B0.out.trans (hb1.mono (by simp)))
  have A1 := Lib.hid hat
  have z1 := N1.out.lt
  clear hb1 hat
  go_wp2_with fail
  refine (HR.out A cap _ A1.out).mono ?_
  rintro e w2 ⟨op, tx, X, n, m, rfl, hn2, hb2⟩
  have N2 := Lib.hid ((N1.out.below hb2).alloc (.cells #[.string op, .string tx, .slice X n m] 25))
  have B2 := Lib.hid ((B1.out.trans (hb2.mono (by omega))).alloc (by have := hb2.size; omega) (.cells #[.string op, .string tx, .slice X n m] 25))
  have A2 := Lib.hid (show At wc 3 (w2.alloc (.cells #[.string op, .string tx, .slice X n m] 25)) (w2.alloc (.cells #[.string op, .string tx, .slice X n m] 25)).heap.size A l from ((((A1.out.below hb2).more hb2.size).below ((Below.refl _ _).alloc (Nat.le_refl _) (.cells #[.string op, .string tx, .slice X n m] 25))).more (by simp)))
  have I2 := Lib.hid ((hn2.imp (S' := fun g => w.heap.size < g ∧ g < w2.heap.size) (fun g hg => ⟨by have := hg.1; omega, hg.2⟩)).alloc (fun g hg => hg.2) (.cells #[.string op, .string tx, .slice X n m] 25))
  have V2 := Lib.hid (NBox.fresh w2 (.string op) (.string tx) (.slice X n m) 25)
  have z2 := hb2.size
  have zn := N2.out.lt
  clear hb2 hn2
  obtain ⟨x0, x1, x2, xf⟩ := N2.out
  obtain ⟨v0, v1, v2, vf⟩ := V2.out
  go_wp2_with fail
  refine (HD.out _ _ _ _ _ _ _ (fun g hg => by have := hg.2; simp; omega) I2.out).mono ?_
  rintro e w3 ⟨rfl, hb3⟩
  have N3 := Lib.hid (N2.out.below hb3)
  have V3 := Lib.hid (V2.out.below hb3)
  have I3 := Lib.hid (I2.out.below (fun g hg => by have := hg.2; simp; omega) hb3)
  have B3 := Lib.hid (B2.out.trans (hb3.mono (by omega)))
  have z3 := N3.out.lt
  have z4 : w2.heap.size < w3.heap.size := V3.out.lt
  clear hb3 x0 x1 x2 xf v0 v1 v2 vf
  obtain ⟨x0, x1, x2, xf⟩ := N3.out
  obtain ⟨v0, v1, v2, vf⟩ := V3.out
  go_wp2
  have Y := N3.out.set (.string ⟨#[]⟩) (.string ⟨#[]⟩) (.slice none 0 0)
  exact bodyPost_ret (v := .tuple #[.agg #[.string ⟨#[]⟩, .string ⟨#[]⟩, .slice none 0 0], .int .i64 0, .int .i64 92]) (by simp [results, Tryz.results7, go_sem, Y.c0, Y.c1, Y.c2]) rfl
    ⟨⟨#[]⟩, ⟨#[]⟩, none, 0, 0, rfl, ⟨rfl, rfl, rfl⟩, ((B3.out.setCell (Nat.le_refl _) _).setCell (Nat.le_refl _) _).setCell (Nat.le_refl _) _⟩
set_option maxHeartbeats 4000000 in
set_option maxRecDepth 100000 in
theorem rparse_ok (s : ByteArray) (w : World) (l : List W) (hw : WordsIs s l 0 0) (x : Tr) (hr : ∀ A cap w, At wc 3 w w.heap.size A l → Calls Tryz.prog 15 #[.slice A l.length cap, .int .i64 0] w (ReadPost w (x, l.length, 0))) (hd : x.deep ≤ 1000000000) (h16 : x.deep ≤ 16) :
    Calls Tryz.prog 7 #[.string s] w (ParsePost w (x, 0, 0)) := by
  have HW := Lib.hid hw
  have HR := Lib.hid hr
  have HD := Lib.hid (rdeep_any 1000000000 x hd (Nat.le_refl _))
  obtain ⟨d, hdd⟩ : ∃ d, x.deep = d := ⟨_, rfl⟩
  rw [hdd] at HD h16 hd
  clear hw hr hdd
  have e1 : decide ((16 : Int) < (d : Int)) = false := by simp; omega
  go_enter Tryz.func7, Tryz.ntmps7
  have N0 := Lib.hid (NBox.fresh w (.string ⟨#[]⟩) (.string ⟨#[]⟩) (.slice none 0 0) 25)
  have B0 := Lib.hid ((Below.refl w.heap.size w).alloc (Nat.le_refl _) (.cells #[.string ⟨#[]⟩, .string ⟨#[]⟩, .slice none 0 0] 25))
  go_wp2_with fail
  refine (HW.out _).mono ?_
  rintro e w1 ⟨A, cap, rfl, hat, hb1⟩
  have N1 := Lib.hid (N0.out.below hb1)
  have B1 := Lib.hid (B0.out.trans (hb1.mono (by simp)))
  have A1 := Lib.hid hat
  have z1 := N1.out.lt
  clear hb1 hat
  go_wp2_with fail
  refine (HR.out A cap _ A1.out).mono ?_
  rintro e w2 ⟨op, tx, X, n, m, rfl, hn2, hb2⟩
  have N2 := Lib.hid ((N1.out.below hb2).alloc (.cells #[.string op, .string tx, .slice X n m] 25))
  have B2 := Lib.hid ((B1.out.trans (hb2.mono (by omega))).alloc (by have := hb2.size; omega) (.cells #[.string op, .string tx, .slice X n m] 25))
  have A2 := Lib.hid (show At wc 3 (w2.alloc (.cells #[.string op, .string tx, .slice X n m] 25)) (w2.alloc (.cells #[.string op, .string tx, .slice X n m] 25)).heap.size A l from ((((A1.out.below hb2).more hb2.size).below ((Below.refl _ _).alloc (Nat.le_refl _) (.cells #[.string op, .string tx, .slice X n m] 25))).more (by simp)))
  have I2 := Lib.hid ((hn2.imp (S' := fun g => w.heap.size < g ∧ g < w2.heap.size) (fun g hg => ⟨by have := hg.1; omega, hg.2⟩)).alloc (fun g hg => hg.2) (.cells #[.string op, .string tx, .slice X n m] 25))
  have V2 := Lib.hid (NBox.fresh w2 (.string op) (.string tx) (.slice X n m) 25)
  have z2 := hb2.size
  have zn := N2.out.lt
  clear hb2 hn2
  obtain ⟨x0, x1, x2, xf⟩ := N2.out
  obtain ⟨v0, v1, v2, vf⟩ := V2.out
  go_wp2_with fail
  refine (HD.out _ _ _ _ _ _ _ (fun g hg => by have := hg.2; simp; omega) I2.out).mono ?_
  rintro e w3 ⟨rfl, hb3⟩
  have N3 := Lib.hid (N2.out.below hb3)
  have V3 := Lib.hid (V2.out.below hb3)
  have I3 := Lib.hid (I2.out.below (fun g hg => by have := hg.2; simp; omega) hb3)
  have B3 := Lib.hid (B2.out.trans (hb3.mono (by omega)))
  have z3 := N3.out.lt
  have z4 : w2.heap.size < w3.heap.size := V3.out.lt
  clear hb3 x0 x1 x2 xf v0 v1 v2 vf
  obtain ⟨x0, x1, x2, xf⟩ := N3.out
  obtain ⟨v0, v1, v2, vf⟩ := V3.out
  go_wp2
  have Y := N3.out.set (.string op) (.string tx) (.slice X n m)
  exact bodyPost_ret (v := .tuple #[.agg #[.string op, .string tx, .slice X n m], .int .i64 0, .int .i64 0]) (by simp [results, Tryz.results7, go_sem, Y.c0, Y.c1, Y.c2]) rfl
    ⟨op, tx, X, n, m, rfl, (W3.nin (w := w3) I3.out (fun hg => Nat.lt_irrefl _ hg.1) (.string op) (.string tx) (.slice X n m)).imp (fun g hg => ⟨Nat.le_of_lt hg.1, by show g < (W3 w3 w.heap.size (.string op) (.string tx) (.slice X n m)).heap.size; rw [W3.size]; have := hg.2; omega⟩), ((B3.out.setCell (Nat.le_refl _) _).setCell (Nat.le_refl _) _).setCell (Nat.le_refl _) _⟩
theorem bytes_len (s : ByteArray) : s.data.toList.length = s.size := Array.length_toList
/-- the document's Parse, of any text -/
theorem rparse_any (s : ByteArray) (hs : s.size ≤ 4194304) (w : World) :
    Calls Tryz.prog 7 #[.string s] w (ParsePost w (parseL s.data.toList)) := by
  have hw := words_is s hs
  have hL := bytes_len s
  unfold parseL
  cases e : wordsL s.data.toList 0 with
  | error j =>
    have h1 : wL s.data.toList = [] := by unfold wL; rw [e]
    have h2 : wP s.data.toList = j := by unfold wP; rw [e]
    have h3 : wE s.data.toList = 81 := by unfold wE; rw [e]
    rw [h1, h2, h3] at hw
    exact rparse_lex s w j hw
  | ok l =>
    have h1 : wL s.data.toList = l := by unfold wL; rw [e]
    have h2 : wP s.data.toList = 0 := by unfold wP; rw [e]
    have h3 : wE s.data.toList = 0 := by unfold wE; rw [e]
    rw [h1, h2, h3] at hw
    have hlen := words_len _ _ _ e
    have hcf := came_fig (words_came _ _ _ e)
    have hfg : FigW l := fun v hv hk => ⟨(hcf v hv hk).1, by have := (hcf v hv hk).2; omega⟩
    have hl : l.length ≤ 4194304 := by omega
    show Calls Tryz.prog 7 #[.string s] w (ParsePost w (parseW s.data.toList.length l))
    rw [hL]
    by_cases hl0 : l = []
    · subst hl0
      have := rparse_bad s w [] hw zeroT 0 (fun A cap w _ => rread_none A cap w) hl (Nat.zero_le _)
      exact this
    · have hpos : 0 < l.length := List.length_pos_iff.2 hl0
      obtain ⟨R, hx⟩ : ∃ R, fromP (bare l) 0 = R := ⟨_, rfl⟩
      obtain ⟨x, j, b⟩ := R
      have htop : topP (bare l) = (x, j, b) := hx
      have hrd : readN l 0 = if b = true then (zeroT, j, 91) else (x, j, 0) := by unfold readN; rw [hx]
      have hr := fun (A : Option Addr) (cap : Nat) (w : World) h => rread_any A cap l 0 w h hl hfg hpos
      rw [hrd] at hr
      have hj : j ≤ l.length := by have := top_le (bare l); rw [htop, bare_length] at this; exact this
      have hd : x.deep ≤ 1 + l.length := by have := top_deep (bare l); rw [htop, bare_length] at this; exact this
      unfold parseW
      rw [if_neg hl0, htop]
      cases b
      · by_cases hjl : j < l.length
        · rw [if_pos (Or.inr hjl)]
          exact rparse_short s w l hw x j hr hl hjl
        · obtain rfl : j = l.length := by omega
          rw [if_neg (by simp)]
          by_cases h16 : 16 < x.deep
          · rw [if_pos h16]
            exact rparse_deep s w l hw x hr (by omega) h16
          · rw [if_neg h16]
            exact rparse_ok s w l hw x hr (by omega) (by omega)
      · rw [if_pos (Or.inl rfl)]
        exact rparse_bad s w l hw zeroT j hr hl hj
end Go.Proofs.YtpohpgahnompbaaGreatDoor.Code
