/- The walk of CodeJoins. -/
import Derived.Test.YtmaecoidoejipaaDoorCodeOrderWalk
import Derived.Laws.AppendOwnNone
namespace Go.Proofs.YtmaecoidoejipaaDoor.codeJoins
open Go.ChangeShapes Go.WideShapes Go.ChangeAt Go.RowKit Val Go.Proofs.YtmaecoidoejipaaDoor.Code codeEncodes codeBack codeOrder
set_option linter.unusedVariables false

theorem vals_news {w : World} {B : Nat} {ad : Addr} {l : List (Int × Int × ByteArray)} (h : Vals w B (some ad) l) : ∀ (j : Nat) (u : Value), (flat l)[j]? = some u → w.cell? (ad.add j) = some u := by
  intro j u hu
  have hj : j < (flat l).length := by
    rcases Nat.lt_or_ge j (flat l).length with h1 | h1
    · exact h1
    · rw [List.getElem?_eq_none h1] at hu; cases hu
  rw [flat_length] at hj
  obtain ⟨i, r, hr, rfl⟩ : ∃ i r, r < 3 ∧ j = i * 3 + r := ⟨j / 3, j % 3, Nat.mod_lt _ (by decide), by omega⟩
  have hi : i < l.length := by omega
  obtain ⟨ad', e, _, c0, c1, c2⟩ := h i hi
  obtain rfl : ad = ad' := Option.some.inj e
  rw [flat_at l i hi r hr] at hu
  match r, hr with
  | 0, _ => exact c0.trans hu
  | 1, _ => rw [add_next]; exact c1.trans hu
  | 2, _ => rw [add_next]; exact c2.trans hu
theorem flat_one (l : List (Int × Int × ByteArray)) : ∀ u ∈ flat l, u.oneCell' = true := by
  intro u hu
  obtain ⟨v, _, hv⟩ := List.mem_flatMap.1 hu
  simp [cells3] at hv
  rcases hv with rfl | rfl | rfl <;> simp [Value.oneCell']
theorem flat_append (a b : List (Int × Int × ByteArray)) : flat (a ++ b) = flat a ++ flat b := List.flatMap_append
theorem run_append_nothing {P : Program} (w : World) (base : Nat) (t ty e : TypeId) (i : TypeInfo) (size : Nat) (ht : P.underlying t = some (.slice e)) (hi : P.info? e = some i) (v : Value) (n : Nat) (xs : List Value) (hown : w.ownsRow base e size v n xs) (c : Nat) :
    (Builtin.append_ #[t, t] ty #[v, .slice none 0 c]).run P w = .ok v w := by
  rcases hown.2 with ⟨rfl, rfl⟩ | ⟨g, cap, cur, rfl, _, _, hnc, _⟩
  · simp [Builtin.append_, run_underlying ht, sizeOf, typeInfo, hi, Builtin.lenOf, Builtin.firstCells]
  · simp [Builtin.append_, run_underlying ht, sizeOf, typeInfo, hi, Builtin.lenOf, Builtin.firstCells, hnc, storeCells]
/-- values appended to a row of the call's own, whether they are nil or not -/
theorem wpList_append_vals {P : Program} {w : World} {ops : Array Oper} {rest : List Oper} {o : Oper} {a : Act} {Q : Exit → Act → World → Prop} (hgd : o.guard = none) (s x : Operand) (t : TypeId)
    (ho : o.op = .call { callee := .builtin .append, args := #[s, x], argTypes := #[t, t] })
    (base : Nat) (e : TypeId) (i : TypeInfo) (z : Value) (bytes : Nat) (ht : P.underlying t = some (.slice e)) (hi : P.info? e = some i) (hz : i.zero = some z)
    (hsize : i.size = 3) (hby : i.bytes = bytes) (hzs : z.cells.size = 3) (v : Value) (n : Nat) (xs : List Value) (hs : a.eval s = v) (hown : w.ownsRow base e 3 v n xs)
    (B : Nat) (A : Option Addr) (c : Nat) (l : List (Int × Int × ByteArray)) (hx : a.eval x = .slice A l.length c) (hv : Vals w B A l)
    (h63 : n + l.length ≤ maxLen) (hbytes : (n + l.length) * bytes ≤ 140737488355328) (hbase : base ≤ w.heap.size)
    (h : ∀ v' w', w'.ownsRow base e 3 v' (n + l.length) (xs ++ flat l) → w.grownBy w' v.ownBlock → wpList P ops Q rest (a.put o.dst v') w') : wpList P ops Q (o :: rest) a w := by
  rcases A with _ | ad
  · have h0 : l = [] := by
      cases l with
      | nil => rfl
      | cons y l =>
        obtain ⟨ad, e, _⟩ := hv 0 (by simp)
        cases e
    subst h0
    refine wpList_plain hgd fun K hK => ?_
    have hrun := run_append_nothing (P := P) w base t o.type e i 3 ht hi v n xs hown c
    unfold Oper.wp execOp
    simp only [ho, resolve, invoke, builtin, Sem.run_bind, Sem.run_pure, Result.andThen_ok, List.map_toArray, List.map_cons, List.map_nil, hs, hx, List.length_nil, hrun]
    exact hK _ _ (h v w (by simpa [flat] using hown) (World.grownBy.refl w _))
  · exact wpList_append_own w hgd s x t ho base e i z 3 bytes ht hi hz hsize hby hzs (by decide) v n xs hs hown ad l.length c (flat l) hx (flat_length l) (vals_news hv) (flat_one l) h63 hbytes hbase (fun v' w' h1 h2 _ => h v' w' h1 h2)
theorem skip_is (s : ByteArray) (v : Int × Int × ByteArray) (n : Nat) (h : firstP s.data.toList = some (v, n)) (h0 : n ≠ 0) (m : Int) (w : World) (hs : s.size ≤ 1000000) (hm : w.cell? ⟨0, 0, none⟩ = some (.int .i64 m)) :
    Calls Tryd.prog 15 #[.string s] w fun e w' => e = .returned (.tuple #[.int .i64 (n : Nat), .int .i64 0]) ∧ Below w.heap.size w w' := by
  have := skip_any s m w hs hm
  unfold skipE at this
  rw [(fst_some h).2, if_neg h0] at this
  exact this
theorem own_empty (w : World) : (w.alloc (.cells #[] 32)).ownsRow w.heap.size 32 3 (.slice (some ⟨w.heap.size, 0, none⟩) 0 0) 0 [] :=
  ⟨rfl, .inr ⟨w.heap.size, 0, #[], rfl, Nat.le_refl _, heap_alloc_new w _, Nat.le_refl _, Nat.zero_le _, rfl, rfl⟩⟩
theorem encL_append (a b : List (Int × Int × ByteArray)) : encL (a ++ b) = encL a ++ encL b := List.flatMap_append
theorem encL_drop (a : List (Int × Int × ByteArray)) (k : Nat) (h : k < a.length) : encL (a.drop k) = encV a[k] ++ encL (a.drop (k + 1)) := by
  rw [List.drop_eq_getElem_cons h]
  rfl
theorem right_at {a : List (Int × Int × ByteArray)} (h : rightL a = true) (k : Nat) (hk : k < a.length) : rightV a[k] = true := by
  unfold rightL at h
  rw [List.all_eq_true] at h
  exact h _ (List.getElem_mem hk)
theorem rightL_append {a b : List (Int × Int × ByteArray)} (h : rightL a = true) (g : rightL b = true) : rightL (a ++ b) = true := by
  unfold rightL at *
  rw [List.all_append, h, g]
  rfl
set_option maxHeartbeats 4000000 in
set_option maxRecDepth 100000 in
theorem walkX (A B : Option Addr) (ca cb : Nat) (a b : List (Int × Int × ByteArray)) (m : Int) (w : World) (hA : Vals w w.heap.size A a) (fA : FitL a) (sA : Short a) (hB : Vals w w.heap.size B b) (fB : FitL b) (sB : Short b) (lA : a.length ≤ 20) (lB : b.length ≤ 20)
    (pA : fitsB a = true) (pB : fitsB b = true) (rA : rightL a = true) (rB : rightL b = true) (X Y : ByteArray) (hX : encS a = X) (hY : encS b = Y) (zX : X.size ≤ 8060) (zY : Y.size ≤ 8060) (eX : X.data.toList = encL a) (eY : Y.data.toList = encL b) (c : List (Int × Int × ByteArray)) (hc : a ++ b = c) (hm : w.cell? ⟨0, 0, none⟩ = some (.int .i64 m)) :
    Calls Tryd.prog 6 #[.slice A a.length ca, .slice B b.length cb] w fun e w' => e = .returned (.bool true) ∧ Below w.heap.size w w' := by
  have hlt : 0 < w.heap.size := World.block_lt_of_cell? _ _ hm
  have lC : c.length ≤ 40 := by rw [← hc, List.length_append]; omega
  have TA := Lib.hid (fits_is A ca a true pA w hA sA (by omega))
  have TB := Lib.hid (fits_is B cb b true pB w hB sB (by omega))
  have VA := Lib.hid hA
  have VB := Lib.hid hB
  have FA := Lib.hid fA
  have FB := Lib.hid fB
  have FC := Lib.hid (show FitL c by rw [← hc]; intro v hv; rcases List.mem_append.1 hv with h | h; exact fA v h; exact fB v h)
  have HM := Lib.hid hm
  have RA := Lib.hid rA
  have RC := Lib.hid (show rightL c = true by rw [← hc]; exact rightL_append rA rB)
  have XY := Lib.hid (show encS c = X ++ Y by rw [(enc_yes RC.out).1, ← hc, encL_append]; exact (ba_of (by rw [Go.Joins.data_append, eX, eY])).symm)
  have EA := Lib.hid (encode_is A ca a X 0 hX (enc_yes rA).2 m w hA fA (by omega) hm)
  have EB := Lib.hid (And.intro hY (enc_yes rB).2)
  have HC := Lib.hid hc
  have EX := Lib.hid eX
  have EY := Lib.hid eY
  have zXY : (X ++ Y).size ≤ 16120 := by rw [size_list, Go.Joins.data_append, List.length_append, ← size_list, ← size_list]; omega
  obtain ⟨i0, hi, hz0, hz1, hz2⟩ := info_parts info_val
  clear hA fA sA hB fB sB pA pB rA rB hX hY hm eX eY hc
  go_enter Tryd.func6, Tryd.ntmps6
  go_wp2_with fail
  refine TA.out.mono ?_
  rintro e w' ⟨rfl, rfl⟩
  go_wp2_with fail
  refine TB.out.mono ?_
  rintro e w' ⟨rfl, rfl⟩
  go_wp2_with fail
  refine EA.out.mono ?_
  rintro e w1 ⟨rfl, hb1⟩
  have L1 := Lib.hid hb1
  clear hb1 TA TB EA
  go_wp2_with fail
  refine (encode_is B cb b Y 0 EB.out.1 EB.out.2 m _ ((VB.out.below L1.out).more L1.out.size) FB.out (by omega) (by rw [L1.out.cell (p := ⟨0, 0, none⟩) hlt]; exact HM.out)).mono ?_
  rintro e w2 ⟨rfl, hb2⟩
  have L2 := Lib.hid (bnext L1.out L1.out.size hb2)
  have hz := L2.out.size
  clear hb2 EB
  have VA2 := Lib.hid ((VA.out.below L2.out).below ((below_alloc w2 (.cells #[] 32)).mono hz))
  go_wp2_with (at_builtin; refine wpList_append_vals rfl _ _ 22 rfl w2.heap.size 32 i0 (.agg #[.int .i64 0, .int .i64 0, .string ByteArray.empty]) 32 Tryd.underlying22 hi hz0 hz1 hz2 rfl _ _ _ rfl (own_empty w2) w.heap.size A ca a rfl VA2.out ?c3 ?c4 ?c5 ?_)
  case c3 => unfold maxLen; omega
  case c4 => omega
  case c5 => simp
  intro v3 w3 hown3 hgrow3
  have O3 := Lib.hid hown3
  have L3 := Lib.hid ((L2.out.alloc hz _).grown hgrow3 (by simp; omega) (fun g hg => Nat.le_trans hz ((own_empty w2).lt g hg).1))
  have hz3 : w2.heap.size ≤ w3.heap.size := by have := hgrow3.size; simp at this; omega
  clear hown3 hgrow3 VA2
  have VB3 := Lib.hid (VB.out.below L3.out)
  go_wp2_with (at_builtin; refine wpList_append_vals rfl _ _ 22 rfl w2.heap.size 32 i0 (.agg #[.int .i64 0, .int .i64 0, .string ByteArray.empty]) 32 Tryd.underlying22 hi hz0 hz1 hz2 rfl _ _ _ rfl O3.out w.heap.size B cb b rfl VB3.out ?d3 ?d4 ?d5 ?_)
  case d3 => unfold maxLen; omega
  case d4 => omega
  case d5 => exact hz3
  intro v4 w4 hown4 hgrow4
  have O4 := Lib.hid (show w4.ownsRow w2.heap.size 32 3 v4 c.length (flat c) by rw [← HC.out, flat_append, List.length_append]; simpa using hown4)
  have L4 := Lib.hid (L3.out.grown hgrow4 L3.out.size (fun g hg => Nat.le_trans hz (O3.out.lt g hg).1))
  clear hown4 hgrow4 VB3 O3
  obtain ⟨C, cc, hv4, hV4⟩ := own_vals O4.out
  subst hv4
  have VC := Lib.hid hV4
  clear hV4 O4
  go_wp2_with fail
  refine (encode_is C cc c _ 0 XY.out (enc_yes RC.out).2 m _ VC.out FC.out (by omega) (by rw [L4.out.cell (p := ⟨0, 0, none⟩) hlt]; exact HM.out)).mono ?_
  rintro e w5 ⟨rfl, hb5⟩
  have L5 := Lib.hid (bnext L4.out L4.out.size hb5)
  clear hb5
  go_wp2
  have HR0 := Lib.hid (show (X ++ Y).data.toList = encL (a.drop 0) ++ encL b by rw [Go.Joins.data_append, EX.out, EY.out]; rfl)
  go_loopw [14, 15] (fun t i wr => ∃ (k : Nat) (R : ByteArray), k ≤ a.length ∧ i = .int .i64 k ∧ t = .string R ∧ R.size ≤ 16120 ∧ Hid (R.data.toList = encL (a.drop k) ++ encL b) ∧ Below w.heap.size w wr) (fun _ i _ => a.length - (intOf i).toNat)
  case atStart => exact ⟨0, X ++ Y, by omega, rfl, rfl, zXY, HR0, L5.out⟩
  case round =>
    obtain ⟨k, R, hk, rfl, rfl, zR, HR, hbel⟩ := hrel
    have HL := Lib.hid hbel
    clear hbel
    by_cases hkl : k < a.length
    · have h1 := right_at RA.out k hkl
      have h2 := FA.out a[k] (List.getElem_mem hkl)
      have hl := enc_length h1
      have HD := Lib.hid (show R.data.toList = encV a[k] ++ (encL (a.drop (k + 1)) ++ encL b) by rw [HR.out, encL_drop a k hkl, List.append_assoc])
      obtain ⟨n, hn⟩ : ∃ n, (encV a[k]).length = n := ⟨_, rfl⟩
      have HF := Lib.hid (show firstP R.data.toList = some (a[k], n) by rw [HD.out, ← hn]; exact first_enc h1 h2 _)
      have hnR : n ≤ R.size := by rw [size_list, HD.out, List.length_append, hn]; omega
      have hsl := cut_from R n n rfl hnR
      have HRE := Lib.hid (show (R.extract n R.size).data.toList = encL (a.drop (k + 1)) ++ encL b by rw [from_list, HD.out, ← hn, List.drop_left])
      have zRE : (R.extract n R.size).size ≤ 16120 := by rw [size_list, from_list, List.length_drop, ← size_list]; omega
      rw [hn] at hl
      clear h1 h2 hn HD
      go_wp2_with fail
      refine (skip_is R a[k] n HF.out (by omega) m _ (by omega) (by rw [HL.out.cell (p := ⟨0, 0, none⟩) hlt]; exact HM.out)).mono ?_
      rintro e w6 ⟨rfl, hb6⟩
      have L6 := Lib.hid (bnext HL.out HL.out.size hb6)
      clear hb6
      go_wp2
      go_roundw
      case rel => exact ⟨k + 1, R.extract n R.size, by omega, by go_num, rfl, zRE, HRE, L6.out⟩
      case measure => simp [intOf]; omega
    · obtain rfl : k = a.length := by omega
      obtain rfl : R = Y := by
        have h := HR.out
        rw [List.drop_of_length_le (Nat.le_refl _)] at h
        exact (ba_of h).trans (ba_of EY.out).symm
      clear HR
      go_wp2_with fail
      refine (alive_any m _ (by rw [HL.out.cell (p := ⟨0, 0, none⟩) hlt]; exact HM.out)).mono ?_
      rintro e w7 ⟨rfl, hb7⟩
      have L7 := Lib.hid (bnext HL.out HL.out.size hb7)
      clear hb7
      go_wp2
      go_ret
      exact ⟨by first | rfl | simp, L7.out⟩
set_option maxHeartbeats 4000000 in
/-- the walk where one doesn't fit, or has no bytes -/
theorem walkN (A B : Option Addr) (ca cb : Nat) (a b : List (Int × Int × ByteArray)) (m : Int) (w : World) (hA : Vals w w.heap.size A a) (fA : FitL a) (sA : Short a) (hB : Vals w w.heap.size B b) (fB : FitL b) (sB : Short b) (lA : a.length ≤ 1048576) (lB : b.length ≤ 1048576)
    (p q : Bool) (E F : Int) (pA : fitsB a = p) (pB : fitsB b = q) (rA : encE a = E) (rB : encE b = F) (hE : E = 0 ∨ E = 1) (hF : F = 0 ∨ F = 1) (hne : ¬ (p = true ∧ q = true ∧ E = 0 ∧ F = 0)) (hm : w.cell? ⟨0, 0, none⟩ = some (.int .i64 m)) :
    Calls Tryd.prog 6 #[.slice A a.length ca, .slice B b.length cb] w fun e w' => e = .returned (.bool true) ∧ Below w.heap.size w w' := by
  have hlt : 0 < w.heap.size := World.block_lt_of_cell? _ _ hm
  have TA := Lib.hid (fits_is A ca a p pA w hA sA (by omega))
  have TB := Lib.hid (fits_is B cb b q pB w hB sB (by omega))
  have VB := Lib.hid hB
  have FB := Lib.hid fB
  have HM := Lib.hid hm
  have EA := Lib.hid (encode_is A ca a (encS a) E rfl rA m w hA fA (by omega) hm)
  have EB := Lib.hid rB
  have HE := Lib.hid hE
  have HF := Lib.hid hF
  have HN := Lib.hid hne
  clear hA fA sA hB fB sB pA pB rA rB hm hE hF hne
  go_enter Tryd.func6, Tryd.ntmps6
  go_wp2_with fail
  refine TA.out.mono ?_
  rintro e w' ⟨rfl, rfl⟩
  go_wp2_with fail
  refine TB.out.mono ?_
  rintro e w' ⟨rfl, rfl⟩
  go_wp2_with fail
  refine EA.out.mono ?_
  rintro e w1 ⟨rfl, hb1⟩
  have L1 := Lib.hid hb1
  clear hb1 EA TA TB
  go_wp2_with fail
  refine (encode_is B cb b (encS b) _ rfl EB.out m _ ((VB.out.below L1.out).more L1.out.size) FB.out (by omega) (by rw [L1.out.cell (p := ⟨0, 0, none⟩) hlt]; exact HM.out)).mono ?_
  rintro e w2 ⟨rfl, hb2⟩
  have L2 := Lib.hid (bnext L1.out L1.out.size hb2)
  clear hb2 EB
  have hE := HE.out
  have hF := HF.out
  clear HE HF
  rcases hE with rfl | rfl <;> rcases hF with rfl | rfl <;> cases p <;> cases q
  all_goals first
    | (exfalso; exact HN.out ⟨rfl, rfl, rfl, rfl⟩)
    | (clear HN
       go_wp2_with fail
       refine (alive_any m _ (by rw [L2.out.cell (p := ⟨0, 0, none⟩) hlt]; exact HM.out)).mono ?_
       rintro e w4 ⟨rfl, hb4⟩
       have L4 := Lib.hid (bnext L2.out L2.out.size hb4)
       clear hb4
       go_wp2
       go_ret
       exact ⟨rfl, L4.out⟩)

theorem fits_len {l : List (Int × Int × ByteArray)} (h : fitsB l = true) : l.length ≤ 20 := by
  unfold fitsB at h
  simp at h
  exact h.1
theorem walk (A : Option Addr) (ca : Nat) (a : List (Int × Int × ByteArray)) (B : Option Addr) (cb : Nat) (b : List (Int × Int × ByteArray)) (m : Int) (w : World) (hA : Vals w w.heap.size A a) (fA : FitL a) (sA : Short a) (lA : a.length ≤ 1048576) (hB : Vals w w.heap.size B b) (fB : FitL b) (sB : Short b) (lB : b.length ≤ 1048576) (hm : w.cell? ⟨0, 0, none⟩ = some (.int .i64 m)) :
    Calls Tryd.prog 6 #[.slice A a.length ca, .slice B b.length cb] w fun e w' => e = .returned (.bool true) ∧ Below w.heap.size w w' := by
  by_cases h : fitsB a = true ∧ fitsB b = true ∧ encE a = 0 ∧ encE b = 0
  · obtain ⟨h1, h2, h3, h4⟩ := h
    have r1 := encE_right h3
    have r2 := encE_right h4
    have l1 := fits_len h1
    have l2 := fits_len h2
    have z1 := encL_length r1
    have z2 := encL_length r2
    exact walkX A B ca cb a b m w hA fA sA hB fB sB l1 l2 h1 h2 r1 r2 ⟨(encL a).toArray⟩ ⟨(encL b).toArray⟩ (enc_yes r1).1 (enc_yes r2).1 (by show (encL a).length ≤ _; omega) (by show (encL b).length ≤ _; omega) rfl rfl (a ++ b) rfl hm
  · exact walkN A B ca cb a b m w hA fA sA hB fB sB lA lB (fitsB a) (fitsB b) (encE a) (encE b) rfl rfl rfl rfl (encE_range a) (encE_range b) h hm
end Go.Proofs.YtmaecoidoejipaaDoor.codeJoins
