/-
  The live question of layer 13 is answered by true.
-/
import Derived.Test.YtkibacolnagkcaaM16
import Derived.Test.YtkibacolnagkcaaM31
import Derived.Test.YtkibacolnagkcaaM35
import Derived.Carry
import Derived.ChangeOld
import Derived.ChangeSame
import Derived.OpenShut
import Derived.ProofKit
import Derived.Lib.SmallJoins
import Derived.LaidMore
import Derived.Lay
import Derived.Stop.Joined
import Derived.Shelf.Vars
import Derived.Test.YtkibacolnagkcaaM8
import Derived.Deep.Slices
import Derived.Deep.Fields
namespace Go.Proofs.Ytkibacolnagkcaa.Code
open Go.ChangeShapes Go.WideShapes Go.ChangeAt Go.RowKit Val Elems
set_option linter.unusedVariables false
set_option linter.unusedSimpArgs false
theorem live_at (w : World) (g : Nat) (hg : g < w.heap.size) (h0 : w.cell? ⟨g, 0, none⟩ = some (.int .i64 1)) (h1 : w.cell? ⟨g, 1, none⟩ = some (.string ⟨#[97]⟩)) (h2 : w.cell? ⟨g, 2, none⟩ = some (.int .i64 2)) (h3 : w.cell? ⟨g, 3, none⟩ = some (.int .i64 2)) (h4 : w.cell? ⟨g, 4, none⟩ = some (.string ⟨#[98]⟩)) (h5 : w.cell? ⟨g, 5, none⟩ = some (.int .i64 1)) : At wc 3 w w.heap.size (some ⟨g, 0, none⟩) liveS := by
  intro i hi
  have hc : i = 0 ∨ i = 1 := by have : i < 2 := hi; omega
  refine ⟨_, rfl, hg, fun j u hu => ?_⟩
  rcases hc with rfl | rfl
  · rcases j with _ | _ | _ | j
    · cases hu; simpa [Addr.add, liveS, liveR] using h0
    · cases hu; simpa [Addr.add, liveS, liveR] using h1
    · cases hu; simpa [Addr.add, liveS, liveR] using h2
    · exact absurd (List.getElem?_eq_some_iff.1 hu).1 (by show ¬ j + 3 < 3; omega)
  · rcases j with _ | _ | _ | j
    · cases hu; simpa [Addr.add, liveS, liveR] using h3
    · cases hu; simpa [Addr.add, liveS, liveR] using h4
    · cases hu; simpa [Addr.add, liveS, liveR] using h5
    · exact absurd (List.getElem?_eq_some_iff.1 hu).1 (by show ¬ j + 3 < 3; omega)
theorem live_vals (w : World) (g : Nat) (hg : g < w.heap.size) (h0 : w.cell? ⟨g, 0, none⟩ = some (.int .i64 2)) (h1 : w.cell? ⟨g, 1, none⟩ = some (.int .i64 2147483647)) (h2 : w.cell? ⟨g, 2, none⟩ = some (.string ⟨#[]⟩)) (h3 : w.cell? ⟨g, 3, none⟩ = some (.int .i64 0)) (h4 : w.cell? ⟨g, 4, none⟩ = some (.int .i64 0)) (h5 : w.cell? ⟨g, 5, none⟩ = some (.string ⟨#[]⟩)) : Vals w w.heap.size (some ⟨g, 0, none⟩) liveR := by
  intro i hi
  have hc : i = 0 ∨ i = 1 := by have : i < 2 := hi; omega
  rcases hc with rfl | rfl
  · exact ⟨_, rfl, hg, by simpa [Addr.add, liveS, liveR] using h0, by simpa [Addr.add, liveS, liveR] using h1, by simpa [Addr.add, liveS, liveR] using h2⟩
  · exact ⟨_, rfl, hg, by simpa [Addr.add, liveS, liveR] using h3, by simpa [Addr.add, liveS, liveR] using h4, by simpa [Addr.add, liveS, liveR] using h5⟩
theorem live_fit : FitL liveR := by
  intro v hv
  simp only [liveR, List.mem_cons, List.not_mem_nil, or_false] at hv
  rcases hv with rfl | rfl <;> exact ⟨by decide, by decide⟩
set_option maxHeartbeats 8000000 in
set_option maxRecDepth 100000 in
theorem alive13 (w : World) : Calls Try.prog 9 #[] w fun e w' => e = .returned (.bool true) ∧ Below w.heap.size w w' := by
  have h1 := fun w' => rparse_any ⟨#[97, 32, 43, 32, 49]⟩ (by decide) w'
  have h2 := fun w' => rparse_any ⟨#[98, 32, 97, 110, 100, 32, 97, 32, 60, 32, 51, 48, 48, 48, 48, 48, 48, 48, 48, 48, 32, 111, 114, 32, 110, 111, 116, 32, 40, 97, 32, 61, 32, 97, 41]⟩ (by decide) w'
  rw [show (⟨#[97, 32, 43, 32, 49]⟩ : ByteArray).data.toList = [97, 32, 43, 32, 49] from rfl, live_1] at h1
  rw [show (⟨#[98, 32, 97, 110, 100, 32, 97, 32, 60, 32, 51, 48, 48, 48, 48, 48, 48, 48, 48, 48, 32, 111, 114, 32, 110, 111, 116, 32, 40, 97, 32, 61, 32, 97, 41]⟩ : ByteArray).data.toList = [98, 32, 97, 110, 100, 32, 97, 32, 60, 32, 51, 48, 48, 48, 48, 48, 48, 48, 48, 48, 32, 111, 114, 32, 110, 111, 116, 32, 40, 97, 32, 61, 32, 97, 41] from rfl, live_2] at h2
  unfold ParsePost at h1 h2
  have H1 := Lib.hid h1
  have H2 := Lib.hid h2
  obtain ⟨w0, hw0⟩ : ∃ w0, (w.alloc (.cells #[.int .i64 1, .string ⟨#[97]⟩, .int .i64 2, .int .i64 2, .string ⟨#[98]⟩, .int .i64 1] 48)).alloc (.cells #[.int .i64 2, .int .i64 2147483647, .string ⟨#[]⟩, .int .i64 0, .int .i64 0, .string ⟨#[]⟩] 38) = w0 := ⟨_, rfl⟩
  have B0 := Lib.hid (show Below w.heap.size w w0 by rw [← hw0]; exact (below_alloc w _).alloc (by simp) _)
  have z0 : w.heap.size + 1 < w0.heap.size := by rw [← hw0]; simp
  have HS0 := Lib.hid (show At wc 3 w0 w0.heap.size (some ⟨w.heap.size, 0, none⟩) liveS from live_at w0 w.heap.size (by omega) (by rw [← hw0]; simp [go_sem]) (by rw [← hw0]; simp [go_sem]) (by rw [← hw0]; simp [go_sem]) (by rw [← hw0]; simp [go_sem]) (by rw [← hw0]; simp [go_sem]) (by rw [← hw0]; simp [go_sem]))
  have HR0 := Lib.hid (show Vals w0 w0.heap.size (some ⟨w.heap.size + 1, 0, none⟩) liveR from live_vals w0 (w.heap.size + 1) z0 (by rw [← hw0]; simp [go_sem]) (by rw [← hw0]; simp [go_sem]) (by rw [← hw0]; simp [go_sem]) (by rw [← hw0]; simp [go_sem]) (by rw [← hw0]; simp [go_sem]) (by rw [← hw0]; simp [go_sem]))
  have HW0 := Lib.hid hw0
  clear h1 h2 hw0
  go_enter Try.func9, Try.ntmps9
  go_upto_region 3 with fail
  rw [HW0.out]
  go_wp2_with fail
  refine (H1.out w0).mono ?_
  rintro e w1 ⟨op, tx, X, n, m, rfl, hn1, hb1⟩
  have RE1 := Lib.hid ((NIn.rin _ _ _ _ _ _ hn1).imp (S' := fun g => g < w1.heap.size) (fun g hg => hg.2))
  obtain ⟨w2, hw2⟩ : ∃ w2, w1.alloc (.cells #[.string op, .string tx, .slice X n m] 24) = w2 := ⟨_, rfl⟩
  have L1 := Lib.hid hb1
  have L2 := Lib.hid (show Below w0.heap.size w0 w2 by rw [← hw2]; exact L1.out.alloc L1.out.size _)
  have E2 := Lib.hid (show NBox w2 w1.heap.size (.string op) (.string tx) (.slice X n m) by rw [← hw2]; exact NBox.fresh _ _ _ _ _)
  have RE2 := Lib.hid (show RIn w2 (fun g => g < w1.heap.size) liveE.n (op, tx, X, n, m) by rw [← hw2]; exact RE1.out.bel (fun g h => h) (below_alloc w1 _))
  have z2 : w1.heap.size < w2.heap.size := E2.out.lt
  have HW2 := Lib.hid hw2
  clear hb1 hn1 hw2 RE1
  go_upto_region 4 with fail
  rw [HW2.out]
  go_wp2_with fail
  refine (H2.out w2).mono ?_
  rintro e w3 ⟨op2, tx2, X2, n2, m2, rfl, hn3, hb3⟩
  have RF3 := Lib.hid ((NIn.rin _ _ _ _ _ _ hn3).imp (S' := fun g => g < w3.heap.size) (fun g hg => hg.2))
  obtain ⟨w4, hw4⟩ : ∃ w4, w3.alloc (.cells #[.string op2, .string tx2, .slice X2 n2 m2] 24) = w4 := ⟨_, rfl⟩
  have L24 := Lib.hid (show Below w2.heap.size w2 w4 by rw [← hw4]; exact hb3.alloc hb3.size _)
  have L4 := Lib.hid (L2.out.trans (L24.out.mono L2.out.size))
  have E4 := Lib.hid (E2.out.below L24.out)
  have F4 := Lib.hid (show NBox w4 w3.heap.size (.string op2) (.string tx2) (.slice X2 n2 m2) by rw [← hw4]; exact NBox.fresh _ _ _ _ _)
  have RE4 := Lib.hid (RE2.out.bel (fun g h => Nat.lt_trans h z2) L24.out)
  have RF4 := Lib.hid (show RIn w4 (fun g => g < w3.heap.size) liveF.n (op2, tx2, X2, n2, m2) by rw [← hw4]; exact RF3.out.bel (fun g h => h) (below_alloc w3 _))
  have z3 : w2.heap.size ≤ w3.heap.size := hb3.size
  have z4 : w3.heap.size < w4.heap.size := F4.out.lt
  have HW4 := Lib.hid hw4
  have HSX := Lib.hid (fun (w' : World) (hb : Below w4.heap.size w4 w') => (HS0.out.below (L4.out.trans (hb.mono L4.out.size))).more (L4.out.trans (hb.mono L4.out.size)).size)
  have HRX := Lib.hid (fun (w' : World) (hb : Below w4.heap.size w4 w') => (HR0.out.below (L4.out.trans (hb.mono L4.out.size))).more (L4.out.trans (hb.mono L4.out.size)).size)
  have HEX := Lib.hid (fun (w' : World) (hb : Below w4.heap.size w4 w') => RE4.out.bel (fun g h => by have : g < w1.heap.size := h; omega) hb)
  have HFX := Lib.hid (fun (w' : World) (hb : Below w4.heap.size w4 w') => RF4.out.bel (fun g h => by have : g < w3.heap.size := h; omega) hb)
  have HT1 := Lib.hid (fun (w' : World) (hb : Below w4.heap.size w4 w') => type_any (some ⟨w.heap.size, 0, none⟩) 2 liveS (by decide) liveE.n.deep liveE.n (Nat.le_refl _) (fun g => g < w1.heap.size) op tx X n m w' (fun g h => by have h1 : g < w1.heap.size := h; have := hb.size; omega) (HEX.out w' hb) (HSX.out w' hb))
  have HV1 := Lib.hid (fun (w' : World) (hb : Below w4.heap.size w4 w') => cvalue_any (some ⟨w.heap.size, 0, none⟩) 2 liveS (by decide) (some ⟨w.heap.size + 1, 0, none⟩) 2 liveR (by decide) live_fit liveE.n (fun g => g < w1.heap.size) op tx X n m w' (fun g h => by have h1 : g < w1.heap.size := h; have := hb.size; omega) (HEX.out w' hb) (HSX.out w' hb) (HRX.out w' hb))
  have HV2 := Lib.hid (fun (w' : World) (hb : Below w4.heap.size w4 w') => cvalue_any (some ⟨w.heap.size, 0, none⟩) 2 liveS (by decide) (some ⟨w.heap.size + 1, 0, none⟩) 2 liveR (by decide) live_fit liveF.n (fun g => g < w3.heap.size) op2 tx2 X2 n2 m2 w' (fun g h => by have h1 : g < w3.heap.size := h; have := hb.size; omega) (HFX.out w' hb) (HSX.out w' hb) (HRX.out w' hb))
  have HT2 := Lib.hid (fun (w' : World) (hb : Below w4.heap.size w4 w') => type_any (some ⟨w.heap.size, 0, none⟩) 2 (liveS.take 1) (by decide) liveF.n.deep liveF.n (Nat.le_refl _) (fun g => g < w3.heap.size) op2 tx2 X2 n2 m2 w' (fun g h => by have h1 : g < w3.heap.size := h; have := hb.size; omega) (HFX.out w' hb) ((HSX.out w' hb).take 1))
  unfold KindPost at HT1 HT2
  unfold SumPost at HV1 HV2
  rw [live_3] at HT1
  rw [live_5] at HV2
  obtain ⟨t2, ht2⟩ : ∃ t2, typeE (liveS.take 1) liveF.n = t2 := ⟨_, rfl⟩
  have h6 := live_6
  rw [ht2] at HT2 h6
  obtain ⟨v1, hv1⟩ : ∃ v1, valueK liveS liveR liveE.n = v1 := ⟨_, rfl⟩
  have h4 := live_4
  rw [hv1] at HV1 h4
  obtain ⟨tk, te⟩ := t2
  obtain ⟨⟨ak, an, as'⟩, ae⟩ := v1
  dsimp only at HT2 HV1 h6 h4
  subst h6 h4
  rw [show (liveS.take 1).length = 1 from rfl] at HT2
  rw [show liveS.length = 2 from rfl] at HT1 HV1 HV2
  rw [show liveR.length = 2 from rfl] at HV1 HV2
  have B4 := Lib.hid (B0.out.trans (L4.out.mono B0.out.size))
  clear hb3 hn3 hw4 RF3 ht2 hv1 HSX HRX HEX HFX HS0 HR0 RE2 RE4 RF4
  go_upto_region 5 with fail
  rw [HW4.out]
  obtain ⟨x0, x1, x2, xf⟩ := E4.out
  go_wp2_with fail
  refine (HT1.out w4 (Below.refl _ _)).mono ?_
  rintro e w5 ⟨rfl, hb5⟩
  have L5 := Lib.hid hb5
  have E5 := Lib.hid (E4.out.below hb5)
  have F5 := Lib.hid (F4.out.below hb5)
  clear hb5 x0 x1 x2 xf
  obtain ⟨x0, x1, x2, xf⟩ := E5.out
  go_wp2_with fail
  refine (HV1.out w5 L5.out).mono ?_
  rintro e w6 ⟨rfl, hb6⟩
  obtain ⟨w7, hw7⟩ : ∃ w7, w6.alloc (.cells #[.int .i64 ak, .int .i64 an, .string as'] 38) = w7 := ⟨_, rfl⟩
  have L6 := Lib.hid (L5.out.trans (hb6.mono L5.out.size))
  have L7 := Lib.hid (show Below w4.heap.size w4 w7 by rw [← hw7]; exact L6.out.alloc L6.out.size _)
  have F7 := Lib.hid (show NBox w7 w3.heap.size (.string op2) (.string tx2) (.slice X2 n2 m2) by rw [← hw7]; exact (F5.out.below hb6).alloc _)
  have HW7 := Lib.hid hw7
  clear hb6 hw7 x0 x1 x2 xf
  go_upto_region 7 with fail
  rw [HW7.out]
  obtain ⟨x0, x1, x2, xf⟩ := F7.out
  go_wp2_with fail
  refine (HV2.out w7 L7.out).mono ?_
  rintro e w8 ⟨rfl, hb8⟩
  unfold nulV
  dsimp only
  obtain ⟨w9, hw9⟩ : ∃ w9, w8.alloc (.cells #[.int .i64 0, .int .i64 0, .string ⟨#[]⟩] 38) = w9 := ⟨_, rfl⟩
  have L8 := Lib.hid (L7.out.trans (hb8.mono L7.out.size))
  have L9 := Lib.hid (show Below w4.heap.size w4 w9 by rw [← hw9]; exact L8.out.alloc L8.out.size _)
  have F9 := Lib.hid (show NBox w9 w3.heap.size (.string op2) (.string tx2) (.slice X2 n2 m2) by rw [← hw9]; exact (F7.out.below hb8).alloc _)
  have V9 := Lib.hid (show NBox w9 w8.heap.size (.int .i64 0) (.int .i64 0) (.string ⟨#[]⟩) by rw [← hw9]; exact NBox.fresh _ _ _ _ _)
  have z9 : w8.heap.size < w9.heap.size := V9.out.lt
  have z39 : w3.heap.size < w9.heap.size := F9.out.lt
  have HW9 := Lib.hid hw9
  clear hb8 hw9 x0 x1 x2 xf
  go_upto_region 8 with fail
  rw [HW9.out]
  obtain ⟨x0, x1, x2, xf⟩ := F9.out
  go_region_law (go_simp; refine (HT2.out w9.drew (Below.drew L9.out)).mono ?_; rintro e w10 ⟨rfl, hb10⟩; have L10 := Lib.hid ((Below.drew L9.out).trans (hb10.mono L9.out.size)); have V10 := Lib.hid ((V9.out.below (Below.drew (Below.refl _ _))).below hb10); have z10 := V10.out.lt; clear hb10)
  all_goals
    obtain ⟨y0, y1, y2, yf⟩ := V10.out
    have B10 := Lib.hid (B4.out.trans (L10.out.mono B4.out.size))
    clear x0 x1 x2 xf
    go_wp2
    go_ret
    exact ⟨by simp, B10.out⟩
end Go.Proofs.Ytkibacolnagkcaa.Code
/-
  How a law's row is shut, whatever its arguments are: where a law returns true and nothing that was there has changed ('Below'), each argument reads behind the call as it read before.
-/
namespace Go.Proofs.Ytkibacolnagkcaa.Law
open Go.ChangeShapes Go.WideShapes Go.WideElems Go.RowKit
section
variable {H : Type} {enc : TypeId × Value → H} {P : Program}

/-- each type of the list can be read, and is a row of the table -/
def rowed (P : Program) (ts : List TypeId) : Bool := ts.all fun t => P.readableRec t && decide (t < P.types.size)

theorem stays (hl : laidOutB P = true) {W W' : World} (hb : Below W.heap.size W W') : ∀ {ts : List TypeId} {vs : List Value} {ds : List (DataW H)} {ps : List MemPlace},
    rowed P ts = true → DataW.TrodAll enc P W 0 (fun _ => true) true ts vs ds ps → (∀ p ∈ ps, p.block < W.heap.size) →
    DataW.TrodAll enc P W' 0 (fun b => decide (b < W.heap.size)) true ts vs ds ps
  | [], _, _, _, _, h, _ => by
    obtain ⟨rfl, rfl, rfl⟩ := trodAll_nil h
    exact rfl
  | t :: ts, _, _, _, hr, h, hlt => by
    obtain ⟨v, vs, d, ds, p, q, rfl, rfl, rfl, ⟨fuel, h1⟩, h2⟩ := trodAll_cons h
    simp only [rowed, List.all_cons, Bool.and_eq_true, decide_eq_true_eq] at hr
    have hp : ∀ x ∈ p, x.block < W.heap.size := fun x hx => hlt x (List.mem_append_left _ hx)
    refine ⟨p, q, ⟨fuel, ?_⟩, stays hl hb (by simpa [rowed] using hr.2) h2 (fun x hx => hlt x (List.mem_append_right _ hx)), rfl⟩
    exact DataW.trod_stays (kids_book hl hr.1.1) (book_sized hr.1.1) (fun h => by cases h) ⟨hr.1.2, book_self t⟩ h1 (fun x hx => hb.same (hp x hx)) (fun x hx => by simpa using hp x hx)

/-- The law's own end: it answered true, and below the heap's old size all is as it was. -/
theorem post_true (hl : laidOutB P = true) {f : Func} (hr : rowed P f.params.toList = true) {s : ChangeSpec} (hs : s.vars = []) {tb : TypeId} (hres : f.resultTypes = #[tb]) (hbool : P.underlying tb = some .bool)
    {W W' : World} {args : Array Value} {ds gs : List (DataW H)} {before : List MemPlace} (hW : DataW.Whole enc P f.params.toList s.vars false W args.toList ds gs before)
    (hfn : s.fn H (ds ++ gs) = { results := [.lit (.bool true)], args := ds }) (hb : Below W.heap.size W W') :
    s.post enc P f false true false false W args (.bool true) W' := by
  have hlt : ∀ p ∈ before, p.block < W.heap.size := fun p hp => hW.lt p hp
  have hW2 := hW
  obtain ⟨p, q, hA, hV, rfl, _, _⟩ := hW2
  refine ⟨ds, gs, p ++ q, [], p, [], hW, ?_, ?_, ?_, ?_, ?_⟩
  · rw [hfn, hres]
    exact trodAll_cons_mk (shut_bool hbool true) trodAll_mk0
  · rw [hfn]
    exact stays hl hb hr hA (fun x hx => hlt x (List.mem_append_left _ hx))
  · rw [hfn, hs]
    exact rfl
  · exact hb.frame _
  · intro h
    cases h
end
end Go.Proofs.Ytkibacolnagkcaa.Law
/-
  A law whose row lists package-level variables: how it is lifted, the world's shape kept beside what is listed; and a value's three parts opened.
-/
namespace Go.Proofs.Ytkibacolnagkcaa.Law
open Go.Joins Go.ChangeShapes Go.WideShapes Go.WideElems Go.RowKit Go.Deep
section
variable {H : Type} {enc : TypeId × Value → H}
/-- a law's row is lifted: what is listed (X) and the world's shape are both at hand -/
theorem lift_laid {a : Assume} {C : Checked} {os : Os} {f : FuncId} {fn : Func} {s : ChangeSpec} {conds : List PathCond} {apart fresh handsOn again : Bool} {X : World → Array Value → Prop}
    (hX : ∀ (w w' : World) (args : Array Value), w.heap = w'.heap → X w args → X w' args)
    (own : ownKnob C.prog.godebug = none) (started : os.Started) (noInit : C.prog.inits.idxOf? f = none) (hfn : C.prog.funcs[f]? = some fn)
    (witness : ∃ (w : World) (tape : Tape) (i : Input), w.os = os ∧ (w.forCall tape i).Shaped C.prog ∧ i.vars = [] ∧ Input.okWide C.prog (w.forCall tape i) .any w.heap.size f i ∧
      ((s.pre enc C.prog fn conds apart (w.forCall tape i).memory i.args ∧ X (w.forCall tape i).memory i.args) ∧ sizedMet enc C.prog fn (OpenSpec.ofChange s) apart (w.forCall tape i).memory i.args) ∧ a.holds C.prog (lone (Frame.enter C.prog f i.args .normal) [] (w.forCall tape i)))
    (walk : ∀ (W : World) (base : Nat) (args : Array Value) (ds gs : List (DataW H)) (before : List MemPlace),
      (∀ (j : Nat) t v, fn.params[j]? = some t → args[j]? = some v → Value.okWide C.prog W .any base t v) →
      DataW.Whole enc C.prog fn.params.toList s.vars apart W args.toList ds gs before → W.ShapedOpen C.prog → X W args →
      Calls C.prog f args W fun e W' => ∃ v, e = .returned v ∧ s.post enc C.prog fn apart fresh handsOn again W args v W') :
    ReturnsInHanded a C os f .any (fun w args => (s.pre enc C.prog fn conds apart w args ∧ X w args) ∧ sizedMet enc C.prog fn (OpenSpec.ofChange s) apart w args) (s.post enc C.prog fn apart fresh handsOn again) := by
  refine returnsInHanded_of_calls own started noInit witness ?_
  intro w tape i _ hsh _ hok hpre _
  obtain ⟨_, _, _, fn', hfn', _, _, _, _, hval⟩ := hok
  obtain rfl : fn' = fn := Option.some.inj (hfn'.symm.trans hfn)
  obtain ⟨⟨⟨ds, gs, before, hw, _⟩, hx⟩, _⟩ := hpre
  refine (walk (w.forCall tape i) w.heap.size i.args ds gs before hval (DataW.Whole.of_heap (w' := w.forCall tape i) (by rfl) hw) hsh (hX _ _ _ (by rfl) hx)).mono fun e W' ⟨v, he, hp⟩ => ?_
  subst he
  exact ChangeSpec.post_blind hp
end
section
variable {H : Type} {enc : TypeId × Value → H} {P : Program} {w : World} {base : Nat} {spare : Nat → Bool} {held : Bool}
theorem open_value {r : Reach} {b0 : Nat} {t : TypeId} {f0 f1 f2 : Field} {v : Value} {d : DataW H} {p : List MemPlace} (hs : P.underlying t = some (.struct #[f0, f1, f2])) (hone : oneCellFields P #[f0, f1, f2] = true) (hC : P.cellsOf t = 3)
    (e0 : P.underlying f0.type = some (.int .i64)) (e1 : P.underlying f1.type = some (.int .i64)) (e2 : P.underlying f2.type = some .string) (hv : Value.okWide P w r b0 t v) (h : DataW.Trod enc P w base spare held t v d p) :
    ∃ (a b : Int) (s : ByteArray), v = .agg #[.int .i64 a, .int .i64 b, .string s] ∧ (Lit.int .i64 a).wf = true ∧ (Lit.int .i64 b).wf = true ∧ s.size ≤ maxLen := by
  obtain ⟨v0, v1, v2, y0, y1, y2, n, rfl, _, _, g0, g1, g2⟩ := open_agg3 hs hone hC hv h
  obtain ⟨a, ea, _, wa⟩ := DataW.trod_int e0 g0
  obtain ⟨b, eb, _, wb⟩ := DataW.trod_int e1 g1
  obtain ⟨s, es, _, ws⟩ := DataW.trod_string e2 g2
  simp only [List.cons.injEq, and_true] at ea eb es
  exact ⟨a, b, s, by rw [ea, eb, es], wa, wb, ws⟩
end
end Go.Proofs.Ytkibacolnagkcaa.Law
/-
  Arguments that came in, opened: a list of values (a row), of numbers, of rows. No function is named.
-/
namespace Go.Proofs.Ytkibacolnagkcaa.RowOpen
open Go.ChangeShapes Go.WideShapes Go.ChangeAt Go.RowKit Go.Deep Val Go.Proofs.Ytkibacolnagkcaa.Code
set_option linter.unusedVariables false
section
variable {H : Type} {enc : TypeId × Value → H} {P : Program} {w : World} {base : Nat} {spare : Nat → Bool} {held : Bool}
theorem fits_of_wf {n : Int} (h : (Lit.int .i64 n).wf = true) : -9223372036854775808 ≤ n ∧ n ≤ 9223372036854775807 := by
  simpa [Lit.wf, IntKind.min, IntKind.max, IntKind.signed, IntKind.bits] using h
theorem weightsAll_mem {e : TypeId} {d : DataW H} {n : Nat} (hn : n ∈ d.weights P e) : ∀ {l : List (DataW H)}, d ∈ l → n ∈ DataW.weightsAll P e l
  | [], h => by cases h
  | x :: l, h => by
    rw [DataW.weightsAll, List.mem_append]
    rcases List.mem_cons.1 h with rfl | h
    · exact .inl hn
    · exact .inr (weightsAll_mem hn h)
/-- one value of three parts -/
theorem open_part {e : TypeId} {f0 f1 f2 : Field} {n : Nat} {cs : List Value} {x : DataW H × List MemPlace} (he : P.underlying e = some (.struct #[f0, f1, f2])) (hone : oneCellFields P #[f0, f1, f2] = true)
    (e0 : P.underlying f0.type = some (.int .i64)) (e1 : P.underlying f1.type = some (.int .i64)) (e2 : P.underlying f2.type = some .string) (hlen : cs.length = 3) (h : DataW.trod enc P w base spare held n e cs = some x) :
    ∃ (v : Int × Int × ByteArray), cs = [.int .i64 v.1, .int .i64 v.2.1, .string v.2.2] ∧ x.1 = .agg [.lit (.int .i64 v.1), .lit (.int .i64 v.2.1), .lit (.string v.2.2.data.toList)] ∧ (Lit.int .i64 v.2.1).wf = true := by
  obtain ⟨ys, n', hn', hy, hl3, hyl, hf⟩ := DataW.trod_struct he h
  match cs, hlen with
  | [c0, c1, c2], _ =>
    have o := fun j f (hj : (#[f0, f1, f2] : Array Field)[j]? = some f) => hone_of hone j f hj
    obtain ⟨o0, k0⟩ := o 0 f0 rfl
    obtain ⟨o1, k1⟩ := o 1 f1 rfl
    obtain ⟨o2, k2⟩ := o 2 f2 rfl
    match ys, hyl with
    | [y0, y1, y2], _ =>
      have g0 := hf 0 f0 rfl
      have g1 := hf 1 f1 rfl
      have g2 := hf 2 f2 rfl
      rw [o0, k0] at g0
      rw [o1, k1] at g1
      rw [o2, k2] at g2
      obtain ⟨a, ea, xa, wa⟩ := DataW.trod_int e0 (show DataW.trod enc P w base spare held n' f0.type [c0] = some y0 from g0)
      obtain ⟨b, eb, xb, wb⟩ := DataW.trod_int e1 (show DataW.trod enc P w base spare held n' f1.type [c1] = some y1 from g1)
      obtain ⟨s, es, xs, ws⟩ := DataW.trod_string e2 (show DataW.trod enc P w base spare held n' f2.type [c2] = some y2 from g2)
      simp only [List.cons.injEq, and_true] at ea eb es
      refine ⟨(a, b, s), by rw [ea, eb, es], ?_, wb⟩
      rw [hy]
      show DataW.agg [y0.1, y1.1, y2.1] = _
      rw [xa, xb, xs]
theorem cell_add {a : Addr} {i j : Nat} : a.add (i * 3 + (j + 1)) = ⟨(a.add (i * 3)).block, (a.add (i * 3)).off + (j + 1), none⟩ := add_next a (i * 3) j
/-- what is known of a list of values that came in -/
def RowIn (w : World) (A : Option Addr) (l : List (Int × Int × ByteArray)) : Prop := Vals w w.heap.size A l ∧ FitL l ∧ Short l ∧ l.length ≤ 4398046511104
theorem open_row {t e : TypeId} {f0 f1 f2 : Field} {fuel : Nat} {cs : List Value} {d : DataW H} {p : List MemPlace} (ht : P.underlying t = some (.slice e)) (he : P.underlying e = some (.struct #[f0, f1, f2])) (hone : oneCellFields P #[f0, f1, f2] = true) (hC : P.cellsOf e = 3)
    (e0 : P.underlying f0.type = some (.int .i64)) (e1 : P.underlying f1.type = some (.int .i64)) (e2 : P.underlying f2.type = some .string) (hf : DataW.trod enc P w base spare held fuel t cs = some (d, p)) (hw : (d.weights P t).all (· ≤ reachBytes) = true) (hbytes : P.bytesOf e = 32) :
    ∃ (A : Option Addr) (cap : Nat) (l : List (Int × Int × ByteArray)), cs = [.slice A l.length cap] ∧ RowIn w A l ∧ (l = [] ∨ ∃ elems sp, d = .slice elems sp ∧ elems.length = l.length) := by
  rcases open_slice ht hf with ⟨h0, hx⟩ | ⟨a, len, cap, m, n, D, Pl, hcs, hb, hl, hm, hmm, hx, hi⟩
  · exact ⟨none, 0, [], h0, ⟨fun i hi => absurd hi (Nat.not_lt_zero _), fun x hx => (by cases hx), fun x hx => (by cases hx), Nat.zero_le _⟩, .inl rfl⟩
  · have hlm : len ≤ m := by rw [hmm]; split <;> omega
    rw [hC] at hi
    obtain ⟨V, hV⟩ := choose_lt (α := Int × Int × ByteArray) (n := len) (p := fun i x => w.cell? (a.add (i * 3)) = some (.int .i64 x.1) ∧ w.cell? (a.add (i * 3 + 1)) = some (.int .i64 x.2.1) ∧ w.cell? (a.add (i * 3 + 2)) = some (.string x.2.2) ∧ (Lit.int .i64 x.2.1).wf = true ∧ D i = .agg [.lit (.int .i64 x.1), .lit (.int .i64 x.2.1), .lit (.string x.2.2.data.toList)]) (fun i hil => by
      obtain ⟨cs', hc, ht'⟩ := hi i (by omega)
      obtain ⟨_, hcl, hat⟩ := World.cells?_some hc
      obtain ⟨x, hx1, hx2, hx3⟩ := open_part he hone e0 e1 e2 hcl ht'
      have c0 := hat 0 (by omega)
      have c1 := hat 1 (by omega)
      have c2 := hat 2 (by omega)
      rw [Go.Deep.add_add, hx1] at c0 c1 c2
      exact ⟨x, c0, c1, c2, hx3, hx2⟩)
    have hd : d = .slice ((List.range len).map D) ((List.range (m - len)).map fun j => D (len + j)) := congrArg Prod.fst hx
    have hl2 : ((List.range len).map V).length = len := by simp
    have hat : ∀ (i : Nat) (hi : i < ((List.range len).map V).length), ((List.range len).map V)[i] = V i := fun i hi => by simp
    rw [List.all_eq_true] at hw
    refine ⟨some a, cap, (List.range len).map V, by rw [hl2]; exact hcs, ⟨?_, ?_, ?_, ?_⟩, .inr ⟨_, _, hd, by simp⟩⟩
    · intro i hil
      rw [hat i hil]
      rw [hl2] at hil
      obtain ⟨c0, c1, c2, _⟩ := hV i hil
      have hblk := World.block_lt_of_cell? _ _ c0
      rw [add_block] at hblk
      refine ⟨a, rfl, hblk, c0, ?_, ?_⟩
      · rw [← cell_add (j := 0)]; exact c1
      · rw [← cell_add (j := 1)]; exact c2
    · intro x hx
      obtain ⟨i, hil, rfl⟩ := List.mem_map.1 hx
      have := (hV i (List.mem_range.1 hil)).2.2.2.1
      exact fits_of_wf this
    · intro x hx
      obtain ⟨i, hil, rfl⟩ := List.mem_map.1 hx
      have h5 := (hV i (List.mem_range.1 hil)).2.2.2.2
      have hmem : (V i).2.2.data.toList.length ∈ d.weights P t := by
        rw [hd, DataW.weights, ht]
        refine List.mem_cons_of_mem _ (List.mem_append_left _ (weightsAll_mem (d := D i) ?_ (List.mem_map.2 ⟨i, hil, rfl⟩)))
        rw [h5, DataW.weights, he]
        simp [DataW.weightsEach, DataW.weights]
      have := hw _ hmem
      rw [decide_eq_true_iff, show reachBytes = 140737488351232 by decide] at this
      exact Nat.le_trans this (by decide)
    · have hmem : (((List.range len).map D).length + ((List.range (m - len)).map fun j => D (len + j)).length) * P.bytesOf e ∈ d.weights P t := by
        rw [hd, DataW.weights, ht]
        exact List.mem_cons_self
      have := hw _ hmem
      rw [hbytes] at this
      rw [decide_eq_true_iff, show reachBytes = 140737488351232 by decide] at this
      simp only [List.length_map, List.length_range] at this
      rw [hl2]
      omega
theorem open_rowv {r : Reach} {b0 : Nat} {t e : TypeId} {f0 f1 f2 : Field} {v : Value} {d : DataW H} {p : List MemPlace} (ht : P.underlying t = some (.slice e)) (he : P.underlying e = some (.struct #[f0, f1, f2])) (hone : oneCellFields P #[f0, f1, f2] = true) (hC : P.cellsOf e = 3)
    (e0 : P.underlying f0.type = some (.int .i64)) (e1 : P.underlying f1.type = some (.int .i64)) (e2 : P.underlying f2.type = some .string) (hv : Value.okWide P w r b0 t v) (h : DataW.Trod enc P w base spare held t v d p) (hw : (d.weights P t).all (· ≤ reachBytes) = true) (hbytes : P.bytesOf e = 32) :
    ∃ (A : Option Addr) (cap : Nat) (l : List (Int × Int × ByteArray)), v = .slice A l.length cap ∧ RowIn w A l ∧ (l = [] ∨ ∃ elems sp, d = .slice elems sp ∧ elems.length = l.length) := by
  obtain ⟨a', len', cap', rfl⟩ := okWide_slice ht hv
  obtain ⟨fuel, hf⟩ := h
  obtain ⟨A, cap, l, h1, h2, h3⟩ := open_row ht he hone hC e0 e1 e2 hf hw hbytes
  exact ⟨A, cap, l, by simpa [Value.cells] using h1, h2, h3⟩
/-- numbers that came in -/
theorem open_ints {r : Reach} {b0 : Nat} {t e : TypeId} {v : Value} {d : DataW H} {p : List MemPlace} (ht : P.underlying t = some (.slice e)) (he : P.underlying e = some (.int .i64)) (hC : P.cellsOf e = 1) (hv : Value.okWide P w r b0 t v) (h : DataW.Trod enc P w base spare held t v d p) (hw : (d.weights P t).all (· ≤ reachBytes) = true) (hbytes : P.bytesOf e = 8) :
    ∃ (A : Option Addr) (cap : Nat) (l : List Int), v = .slice A l.length cap ∧ (Ints w w.heap.size A l ∧ l.length ≤ 17592186044416) ∧ (l = [] ∨ ∃ elems sp, d = .slice elems sp ∧ elems.length = l.length) := by
  obtain ⟨a', len', cap', rfl⟩ := okWide_slice ht hv
  obtain ⟨fuel, hf⟩ := h
  rcases open_slice1 ht hC hf with ⟨h0, hx⟩ | ⟨a, len, cap, m, n, V, D, Pl, hcs, hb, hl, hm, hmm, hx, hi⟩
  · have ev : Value.slice a' len' cap' = .slice none 0 0 := by simpa [Value.cells] using h0
    rw [ev]
    exact ⟨none, 0, [], rfl, ⟨fun i hi => absurd hi (Nat.not_lt_zero _), Nat.zero_le _⟩, .inl rfl⟩
  · have ev : Value.slice a' len' cap' = .slice (some a) len cap := by simpa [Value.cells] using hcs
    rw [ev]
    have hlm : len ≤ m := by rw [hmm]; split <;> omega
    obtain ⟨Z, hZ⟩ := choose_lt (α := Int) (n := len) (p := fun i x => w.cell? (a.add i) = some (.int .i64 x)) (fun i hil => by
      obtain ⟨hc, ht'⟩ := hi i (by omega)
      obtain ⟨z, hz, _, _⟩ := DataW.trod_int he ht'
      simp only [List.cons.injEq, and_true] at hz
      exact ⟨z, by rw [hc, hz]⟩)
    have hd : d = .slice ((List.range len).map D) ((List.range (m - len)).map fun j => D (len + j)) := congrArg Prod.fst hx
    have hl2 : ((List.range len).map Z).length = len := by simp
    rw [List.all_eq_true] at hw
    refine ⟨some a, cap, (List.range len).map Z, by rw [hl2], ⟨?_, ?_⟩, .inr ⟨_, _, hd, by simp⟩⟩
    · intro i hil
      have hil2 : i < len := by rwa [hl2] at hil
      have c0 := hZ i hil2
      have hblk := World.block_lt_of_cell? _ _ c0
      rw [add_block] at hblk
      exact ⟨a, rfl, hblk, by simpa using c0⟩
    · have hmem : (((List.range len).map D).length + ((List.range (m - len)).map fun j => D (len + j)).length) * P.bytesOf e ∈ d.weights P t := by
        rw [hd, DataW.weights, ht]
        exact List.mem_cons_self
      have := hw _ hmem
      rw [hbytes] at this
      rw [decide_eq_true_iff, show reachBytes = 140737488351232 by decide] at this
      simp only [List.length_map, List.length_range] at this
      rw [hl2]
      omega
/-- rows that came in -/
theorem open_rows {r : Reach} {b0 : Nat} {T t e : TypeId} {f0 f1 f2 : Field} {v : Value} {d : DataW H} {p : List MemPlace} (hT : P.underlying T = some (.slice t)) (hCt : P.cellsOf t = 1) (ht : P.underlying t = some (.slice e)) (he : P.underlying e = some (.struct #[f0, f1, f2])) (hone : oneCellFields P #[f0, f1, f2] = true) (hC : P.cellsOf e = 3)
    (e0 : P.underlying f0.type = some (.int .i64)) (e1 : P.underlying f1.type = some (.int .i64)) (e2 : P.underlying f2.type = some .string) (hv : Value.okWide P w r b0 T v) (h : DataW.Trod enc P w base spare held T v d p) (hw : (d.weights P T).all (· ≤ reachBytes) = true) (hbytes : P.bytesOf e = 32) (hbt : P.bytesOf t = 24) :
    ∃ (A : Option Addr) (cap : Nat) (L : List (Option Addr × Nat × List (Int × Int × ByteArray))), v = .slice A L.length cap ∧ (RowsAt w w.heap.size A L ∧ (∀ x ∈ L, RowIn w x.1 x.2.2) ∧ L.length ≤ 5864062014806) ∧ (L = [] ∨ ∃ elems sp, d = .slice elems sp ∧ elems.length = L.length) := by
  obtain ⟨a', len', cap', rfl⟩ := okWide_slice hT hv
  obtain ⟨fuel, hf⟩ := h
  rcases open_slice1 hT hCt hf with ⟨h0, hx⟩ | ⟨a, len, cap, m, n, V, D, Pl, hcs, hb, hl, hm, hmm, hx, hi⟩
  · have ev : Value.slice a' len' cap' = .slice none 0 0 := by simpa [Value.cells] using h0
    rw [ev]
    exact ⟨none, 0, [], rfl, ⟨fun i hi => absurd hi (Nat.not_lt_zero _), fun x hx => (by cases hx), Nat.zero_le _⟩, .inl rfl⟩
  · have ev : Value.slice a' len' cap' = .slice (some a) len cap := by simpa [Value.cells] using hcs
    rw [ev]
    have hlm : len ≤ m := by rw [hmm]; split <;> omega
    have hd : d = .slice ((List.range len).map D) ((List.range (m - len)).map fun j => D (len + j)) := congrArg Prod.fst hx
    rw [List.all_eq_true] at hw
    obtain ⟨Z, hZ⟩ := choose_lt (α := Option Addr × Nat × List (Int × Int × ByteArray)) (n := len) (p := fun i x => w.cell? (a.add i) = some (.slice x.1 x.2.2.length x.2.1) ∧ RowIn w x.1 x.2.2) (fun i hil => by
      obtain ⟨hc, ht'⟩ := hi i (by omega)
      have hwi : ((D i).weights P t).all (· ≤ reachBytes) = true := by
        rw [List.all_eq_true]
        intro y hy
        refine hw y ?_
        rw [hd, DataW.weights, hT]
        exact List.mem_cons_of_mem _ (List.mem_append_left _ (weightsAll_mem (d := D i) hy (List.mem_map.2 ⟨i, List.mem_range.2 hil, rfl⟩)))
      obtain ⟨A, c, l, hz, hr, _⟩ := open_row ht he hone hC e0 e1 e2 ht' hwi hbytes
      simp only [List.cons.injEq, and_true] at hz
      exact ⟨(A, c, l), by rw [hc, hz], hr⟩)
    have hl2 : ((List.range len).map Z).length = len := by simp
    refine ⟨some a, cap, (List.range len).map Z, by rw [hl2], ⟨?_, ?_, ?_⟩, .inr ⟨_, _, hd, by simp⟩⟩
    · intro i hil
      have hil2 : i < len := by rwa [hl2] at hil
      obtain ⟨c0, hr⟩ := hZ i hil2
      have hblk := World.block_lt_of_cell? _ _ c0
      rw [add_block] at hblk
      have hat : ((List.range len).map Z)[i] = Z i := by simp
      rw [hat]
      exact ⟨⟨a, rfl, hblk, c0⟩, hr.1⟩
    · intro x hx
      obtain ⟨i, hil, rfl⟩ := List.mem_map.1 hx
      exact (hZ i (List.mem_range.1 hil)).2
    · have hmem : (((List.range len).map D).length + ((List.range (m - len)).map fun j => D (len + j)).length) * P.bytesOf t ∈ d.weights P T := by
        rw [hd, DataW.weights, hT]
        exact List.mem_cons_self
      have := hw _ hmem
      rw [hbt] at this
      rw [decide_eq_true_iff, show reachBytes = 140737488351232 by decide] at this
      simp only [List.length_map, List.length_range] at this
      rw [hl2]
      omega
end
end Go.Proofs.Ytkibacolnagkcaa.RowOpen
