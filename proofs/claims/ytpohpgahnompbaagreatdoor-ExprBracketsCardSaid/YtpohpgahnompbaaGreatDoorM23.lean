/-
  Contracts of the program's right, of and operand: is a word one of a text, the node of a word.
-/
import Derived.Test.YtpohpgahnompbaaGreatDoorM22
import Derived.Test.YtpohpgahnompbaaGreatDoorShelfNum
import Derived.Test.YtpohpgahnompbaaGreatDoorM16
namespace Go.Proofs.YtpohpgahnompbaaGreatDoor.Code
open Go.ChangeShapes Go.WideShapes Go.ChangeAt Go.RowKit Val Elems
set_option linter.unusedVariables false
set_option linter.unusedSimpArgs false
theorem words_good {s : List UInt8} {l : List W} (h : wordsL s 0 = .ok l) : wL s = l ∧ wP s = 0 ∧ wE s = 0 := by
  unfold wL wP wE
  rw [h]
  exact ⟨rfl, rfl, rfl⟩
theorem at_one (w : World) (k p : Int) (T : ByteArray) (t : TypeId) : At wc 3 (w.alloc (.cells #[.int .i64 k, .string T, .int .i64 p] t)) (w.alloc (.cells #[.int .i64 k, .string T, .int .i64 p] t)).heap.size (some ⟨w.heap.size, 0, none⟩) [(k, T.data.toList, p)] := by
  intro i hi
  have hi0 : i = 0 := by simp at hi; omega
  subst hi0
  refine ⟨⟨w.heap.size, 0, none⟩, rfl, by simp, fun j u hu => ?_⟩
  have h := World.news_of_block (heap_alloc_new w (.cells #[.int .i64 k, .string T, .int .i64 p] t))
  rw [show 0 * 3 + j = j by omega]
  refine h j u ?_
  simpa [wc, Lib.mk_data] using hu
/-- a word of a text: its own text has it alone -/
theorem text_one (k p : Int) (T : ByteArray) (m : Int) (X : ByteArray) (hX : X.data.toList = showW k T.data.toList) (ht : T.size ≤ 4194304) (A : Option Addr) (w : World) (hv : At wc 3 w w.heap.size A [(k, T.data.toList, p)]) (hg : Glob w.heap.size m w) :
    Calls Tryz.prog 113 #[.slice A 1 1] w fun e w' => e = .returned (.string X) ∧ Below w.heap.size w w' := by
  have h := text_any A 1 [(k, T.data.toList, p)] m w hv (fun v hv => by obtain rfl := List.mem_singleton.1 hv; exact ht) (by simp) hg
  rw [textL_one] at h
  rw [show (⟨(showW (k, T.data.toList, p).1 (k, T.data.toList, p).2.1).toArray⟩ : ByteArray) = X by rw [← Lib.mk_data X, hX]] at h
  exact h
set_option maxHeartbeats 4000000 in
set_option maxRecDepth 100000 in
theorem eright_yes (k p : Int) (T : ByteArray) (m : Int) (w : World) (hf : firstL (showW k T.data.toList) = some (k, T.data.toList, (showW k T.data.toList).length)) (ht : T.size ≤ 4194304) (hg : Glob w.heap.size m w) :
    Calls Tryz.prog 111 #[.agg #[.int .i64 k, .string T, .int .i64 p]] w fun e w' => e = .returned (.bool true) ∧ Below w.heap.size w w' := by
  obtain ⟨X, hXe⟩ : ∃ X : ByteArray, ⟨(showW k T.data.toList).toArray⟩ = X := ⟨_, rfl⟩
  have hX : X.data.toList = showW k T.data.toList := by rw [← hXe]
  have hXs : X.size ≤ 4194304 := by
    have := showW_le (k := k) (t := T.data.toList) ht
    rw [← hX] at this
    exact this
  have hw := words_good (words_alone hf 0)
  have HT := Lib.hid (fun A w0 hv hg => text_one k p T m X hX ht A w0 hv hg)
  have HW := Lib.hid (fun w0 hm => (words_any X m w0 hXs hm).mono (R' := fun e w' => ∃ (A : Option Addr) (cap : Nat), e = .returned (.tuple #[.slice A 1 cap, .int .i64 0, .int .i64 0]) ∧ At wc 3 w' w'.heap.size A [(k, T.data.toList, 0)] ∧ Below w0.heap.size w0 w') (by
    rintro e w' ⟨A, cap, he, hv, hb⟩
    rw [hX, hw.1] at hv
    refine ⟨A, cap, ?_, hv, hb⟩
    rw [he, hX, hw.1, hw.2.1, hw.2.2]
    rfl))
  have HG := Lib.hid hg
  clear hg hw hX hXs hXe hf
  go_enter Tryz.func111, Tryz.ntmps111
  go_wp2_with fail
  obtain ⟨W0, hW0⟩ : ∃ W0, w.alloc (.cells #[.int .i64 k, .string T, .int .i64 p] 39) = W0 := ⟨_, rfl⟩
  have L0 := Lib.hid (show Below w.heap.size w W0 by rw [← hW0]; exact below_alloc w _)
  have N0 := Lib.hid (show NBox W0 w.heap.size (.int .i64 k) (.string T) (.int .i64 p) by rw [← hW0]; exact NBox.fresh w _ _ _ _)
  have z0 : W0.heap.size = w.heap.size + 1 := by rw [← hW0]; simp
  try rw [hW0]
  have HA := Lib.hid (at_one W0 k p T 39)
  rw [z0] at HA
  have L1 := Lib.hid (L0.out.alloc (by omega) (.cells #[.int .i64 k, .string T, .int .i64 p] 39))
  have N1 := Lib.hid (N0.out.alloc (.cells #[.int .i64 k, .string T, .int .i64 p] 39))
  refine (HT.out _ _ HA.out (HG.out.next L1.out)).mono ?_
  rintro e w2 ⟨rfl, hb2⟩
  have L2 := Lib.hid (bnext L1.out L1.out.size hb2)
  have N2 := Lib.hid (N1.out.below hb2)
  clear hb2
  go_wp2_with fail
  refine (HW.out _ (HG.out.next L2.out).cell).mono ?_
  rintro e w3 ⟨A, cap', rfl, hv, hb3⟩
  have L3 := Lib.hid (bnext L2.out L2.out.size hb3)
  have N3 := Lib.hid (N2.out.below hb3)
  obtain ⟨x0, x1, x2, xf⟩ := N3.out
  obtain ⟨ad, rfl, ha, d0, d1, d2⟩ := at_word hv 0 (by simp)
  rw [Nat.zero_mul] at d0 d1 d2
  have e0 : ad.add 0 = ad := by cases ad; simp [Addr.add]
  rw [e0] at d0 d1 d2
  dsimp only [List.getElem_cons_zero] at d0 d1 d2
  rw [Lib.mk_data] at d1
  clear hb3 hv d2
  go_wp2
  go_quiet (fail)
  go_wp2
  go_ret
  exact ⟨rfl, drewN_below L3.out _⟩
set_option maxHeartbeats 4000000 in
set_option maxRecDepth 100000 in
theorem eright_no (m : Int) (w : World) (hg : Glob w.heap.size m w) :
    Calls Tryz.prog 111 #[.agg #[.int .i64 0, .string ⟨#[]⟩, .int .i64 0]] w fun e w' => e = .returned (.bool false) ∧ Below w.heap.size w w' := by
  have hX : (⟨#[]⟩ : ByteArray).data.toList = showW 0 (⟨#[]⟩ : ByteArray).data.toList := rfl
  have hw := words_good (s := []) (l := []) rfl
  have HT := Lib.hid (fun A w0 hv hg => text_one 0 0 ⟨#[]⟩ m ⟨#[]⟩ hX (by decide) A w0 hv hg)
  have HW := Lib.hid (fun w0 hm => (words_any ⟨#[]⟩ m w0 (by decide) hm).mono (R' := fun e w' => ∃ (A : Option Addr) (cap : Nat), e = .returned (.tuple #[.slice A 0 cap, .int .i64 0, .int .i64 0]) ∧ Below w0.heap.size w0 w') (by
    rintro e w' ⟨A, cap, he, hv, hb⟩
    refine ⟨A, cap, ?_, hb⟩
    rw [he, show (⟨#[]⟩ : ByteArray).data.toList = [] from rfl, hw.1, hw.2.1, hw.2.2]
    rfl))
  have HG := Lib.hid hg
  clear hg hw hX
  go_enter Tryz.func111, Tryz.ntmps111
  go_wp2_with fail
  obtain ⟨W0, hW0⟩ : ∃ W0, w.alloc (.cells #[.int .i64 0, .string ⟨#[]⟩, .int .i64 0] 39) = W0 := ⟨_, rfl⟩
  have L0 := Lib.hid (show Below w.heap.size w W0 by rw [← hW0]; exact below_alloc w _)
  have z0 : W0.heap.size = w.heap.size + 1 := by rw [← hW0]; simp
  try rw [hW0]
  have HA := Lib.hid (at_one W0 0 0 ⟨#[]⟩ 39)
  rw [z0] at HA
  have L1 := Lib.hid (L0.out.alloc (by omega) (.cells #[.int .i64 0, .string ⟨#[]⟩, .int .i64 0] 39))
  refine (HT.out _ _ HA.out (HG.out.next L1.out)).mono ?_
  rintro e w2 ⟨rfl, hb2⟩
  have L2 := Lib.hid (bnext L1.out L1.out.size hb2)
  clear hb2
  go_wp2_with fail
  refine (HW.out _ (HG.out.next L2.out).cell).mono ?_
  rintro e w3 ⟨A, cap', rfl, hb3⟩
  have L3 := Lib.hid (bnext L2.out L2.out.size hb3)
  clear hb3
  go_wp2
  refine wp_region_quiet_lit (by kernel_rfl) (by kernel_rfl) ?_
  repeat (with_reducible refine wpQuiet_step ?_; intro K hK; go_simp; with_reducible refine hK _ ?_; clear hK K)
  refine wpQuiet_nil ?_
  intro _ hw'
  obtain ⟨nq, hw''⟩ := hw'
  subst hw''
  go_wp2
  go_ret
  exact ⟨rfl, drewN_below L3.out _⟩
set_option maxHeartbeats 4000000 in
set_option maxRecDepth 100000 in
theorem eoper_zero (m : Int) (w : World) (hg : Env w.heap.size m w) :
    Calls Tryz.prog 110 #[.agg #[.int .i64 0, .string ⟨#[]⟩, .int .i64 0]] w fun e w' => e = .returned (.tuple #[.agg #[.string ⟨#[]⟩, .string ⟨#[]⟩, .slice none 0 0], .bool false]) ∧ Below w.heap.size w w' := by
  have HRT := Lib.hid (fun w0 hg0 => eright_no m w0 hg0)
  have HG := Lib.hid hg
  clear hg
  go_enter Tryz.func110, Tryz.ntmps110
  obtain ⟨w0, hw0⟩ : ∃ w0, (w.alloc (.cells #[.int .i64 0, .string ⟨#[]⟩, .int .i64 0] 39)).alloc (.cells #[.string ⟨#[]⟩, .string ⟨#[]⟩, .slice none 0 0] 25) = w0 := ⟨_, rfl⟩
  have L0 := Lib.hid (show Below w.heap.size w w0 by rw [← hw0]; exact ((Below.refl _ _).alloc (Nat.le_refl _) _).alloc (by simp) _)
  have N0 := Lib.hid (show NBox w0 w.heap.size (.int .i64 0) (.string ⟨#[]⟩) (.int .i64 0) by rw [← hw0]; exact (NBox.fresh _ _ _ _ _).alloc _)
  have M0 := Lib.hid (show NBox w0 (w.heap.size + 1) (.string ⟨#[]⟩) (.string ⟨#[]⟩) (.slice none 0 0) by
    rw [← hw0, show w.heap.size + 1 = (w.alloc (.cells #[.int .i64 0, .string ⟨#[]⟩, .int .i64 0] 39)).heap.size by simp]; exact NBox.fresh _ _ _ _ _)
  obtain ⟨x0, x1, x2, xf⟩ := N0.out
  go_wp2_with fail
  try rw [hw0]
  refine (HRT.out _ (HG.out.gl.next L0.out)).mono ?_
  rintro e w1 ⟨rfl, hb1⟩
  have L1 := Lib.hid (bnext L0.out L0.out.size hb1)
  have N1 := Lib.hid (N0.out.below hb1)
  have M1 := Lib.hid (M0.out.below hb1)
  have zl := M1.out.lt
  clear hb1 x0 x1 x2 xf
  obtain ⟨x0, x1, x2, xf⟩ := N1.out
  obtain ⟨y0, y1, y2, yf⟩ := M1.out
  go_wp2
  have Y := M1.out.set (.string ⟨#[]⟩) (.string ⟨#[]⟩) (.slice none 0 0)
  exact bodyPost_ret (v := .tuple #[.agg #[.string ⟨#[]⟩, .string ⟨#[]⟩, .slice none 0 0], .bool false]) (by simp [results, Tryz.results110, go_sem, Y.c0, Y.c1, Y.c2]) rfl
    ⟨rfl, ((L1.out.setCell (p := ⟨w.heap.size + 1, 0, none⟩) (by simp) _).setCell (p := ⟨w.heap.size + 1, 1, none⟩) (by simp) _).setCell (p := ⟨w.heap.size + 1, 2, none⟩) (by simp) _⟩
set_option maxHeartbeats 4000000 in
set_option maxRecDepth 100000 in
theorem eoper_mark (p : Int) (T : ByteArray) (m : Int) (w : World) (hf : firstL (showW 3 T.data.toList) = some (3, T.data.toList, (showW 3 T.data.toList).length)) (ht : T.size ≤ 4194304) (hg : Env w.heap.size m w) :
    Calls Tryz.prog 110 #[.agg #[.int .i64 3, .string T, .int .i64 p]] w fun e w' => e = .returned (.tuple #[.agg #[.string ⟨#[]⟩, .string ⟨#[]⟩, .slice none 0 0], .bool false]) ∧ Below w.heap.size w w' := by
  have HRT := Lib.hid (fun w0 hg0 => eright_yes 3 p T m w0 hf ht hg0)
  have HG := Lib.hid hg
  clear hg hf
  go_enter Tryz.func110, Tryz.ntmps110
  obtain ⟨w0, hw0⟩ : ∃ w0, (w.alloc (.cells #[.int .i64 3, .string T, .int .i64 p] 39)).alloc (.cells #[.string ⟨#[]⟩, .string ⟨#[]⟩, .slice none 0 0] 25) = w0 := ⟨_, rfl⟩
  have L0 := Lib.hid (show Below w.heap.size w w0 by rw [← hw0]; exact ((Below.refl _ _).alloc (Nat.le_refl _) _).alloc (by simp) _)
  have N0 := Lib.hid (show NBox w0 w.heap.size (.int .i64 3) (.string T) (.int .i64 p) by rw [← hw0]; exact (NBox.fresh _ _ _ _ _).alloc _)
  have M0 := Lib.hid (show NBox w0 (w.heap.size + 1) (.string ⟨#[]⟩) (.string ⟨#[]⟩) (.slice none 0 0) by
    rw [← hw0, show w.heap.size + 1 = (w.alloc (.cells #[.int .i64 3, .string T, .int .i64 p] 39)).heap.size by simp]; exact NBox.fresh _ _ _ _ _)
  obtain ⟨x0, x1, x2, xf⟩ := N0.out
  go_wp2_with fail
  try rw [hw0]
  refine (HRT.out _ (HG.out.gl.next L0.out)).mono ?_
  rintro e w1 ⟨rfl, hb1⟩
  have L1 := Lib.hid (bnext L0.out L0.out.size hb1)
  have N1 := Lib.hid (N0.out.below hb1)
  have M1 := Lib.hid (M0.out.below hb1)
  have zl := M1.out.lt
  clear hb1 x0 x1 x2 xf
  obtain ⟨x0, x1, x2, xf⟩ := N1.out
  obtain ⟨y0, y1, y2, yf⟩ := M1.out
  go_wp2
  have Y := M1.out.set (.string ⟨#[]⟩) (.string ⟨#[]⟩) (.slice none 0 0)
  exact bodyPost_ret (v := .tuple #[.agg #[.string ⟨#[]⟩, .string ⟨#[]⟩, .slice none 0 0], .bool false]) (by simp [results, Tryz.results110, go_sem, Y.c0, Y.c1, Y.c2]) rfl
    ⟨rfl, ((L1.out.setCell (p := ⟨w.heap.size + 1, 0, none⟩) (by simp) _).setCell (p := ⟨w.heap.size + 1, 1, none⟩) (by simp) _).setCell (p := ⟨w.heap.size + 1, 2, none⟩) (by simp) _⟩
set_option maxHeartbeats 4000000 in
set_option maxRecDepth 100000 in
theorem eoper_text (p : Int) (T : ByteArray) (m : Int) (w : World) (hf : firstL (showW 2 T.data.toList) = some (2, T.data.toList, (showW 2 T.data.toList).length)) (ht : T.size ≤ 4194304) (hg : Env w.heap.size m w) :
    Calls Tryz.prog 110 #[.agg #[.int .i64 2, .string T, .int .i64 p]] w fun e w' => e = .returned (.tuple #[.agg #[.string ⟨#[116, 101, 120, 116]⟩, .string T, .slice none 0 0], .bool true]) ∧ Below w.heap.size w w' := by
  have HRT := Lib.hid (fun w0 hg0 => eright_yes 2 p T m w0 hf ht hg0)
  have HG := Lib.hid hg
  clear hg hf
  go_enter Tryz.func110, Tryz.ntmps110
  obtain ⟨w0, hw0⟩ : ∃ w0, (w.alloc (.cells #[.int .i64 2, .string T, .int .i64 p] 39)).alloc (.cells #[.string ⟨#[]⟩, .string ⟨#[]⟩, .slice none 0 0] 25) = w0 := ⟨_, rfl⟩
  have L0 := Lib.hid (show Below w.heap.size w w0 by rw [← hw0]; exact ((Below.refl _ _).alloc (Nat.le_refl _) _).alloc (by simp) _)
  have N0 := Lib.hid (show NBox w0 w.heap.size (.int .i64 2) (.string T) (.int .i64 p) by rw [← hw0]; exact (NBox.fresh _ _ _ _ _).alloc _)
  have M0 := Lib.hid (show NBox w0 (w.heap.size + 1) (.string ⟨#[]⟩) (.string ⟨#[]⟩) (.slice none 0 0) by
    rw [← hw0, show w.heap.size + 1 = (w.alloc (.cells #[.int .i64 2, .string T, .int .i64 p] 39)).heap.size by simp]; exact NBox.fresh _ _ _ _ _)
  obtain ⟨x0, x1, x2, xf⟩ := N0.out
  go_wp2_with fail
  try rw [hw0]
  refine (HRT.out _ (HG.out.gl.next L0.out)).mono ?_
  rintro e w1 ⟨rfl, hb1⟩
  have L1 := Lib.hid (bnext L0.out L0.out.size hb1)
  have N1 := Lib.hid (N0.out.below hb1)
  have M1 := Lib.hid (M0.out.below hb1)
  have zl := M1.out.lt
  clear hb1 x0 x1 x2 xf
  obtain ⟨x0, x1, x2, xf⟩ := N1.out
  obtain ⟨y0, y1, y2, yf⟩ := M1.out
  go_wp2
  have Y := M1.out.set (.string ⟨#[116, 101, 120, 116]⟩) (.string T) (.slice none 0 0)
  exact bodyPost_ret (v := .tuple #[.agg #[.string ⟨#[116, 101, 120, 116]⟩, .string T, .slice none 0 0], .bool true]) (by simp [results, Tryz.results110, go_sem, Y.c0, Y.c1, Y.c2]) rfl
    ⟨rfl, ((L1.out.setCell (p := ⟨w.heap.size + 1, 0, none⟩) (by simp) _).setCell (p := ⟨w.heap.size + 1, 1, none⟩) (by simp) _).setCell (p := ⟨w.heap.size + 1, 2, none⟩) (by simp) _⟩
set_option maxHeartbeats 4000000 in
set_option maxRecDepth 100000 in
theorem eoper_num (p : Int) (T : ByteArray) (m : Int) (w : World) (hf : firstL (showW 1 T.data.toList) = some (1, T.data.toList, (showW 1 T.data.toList).length)) (ht : T.size ≤ 4194304) (hg : Env w.heap.size m w) (v : Int) (hv : Lib.parseIntB 64 T.data.toList = .ok v) (hv0 : 0 ≤ v) (hv1 : v ≤ 9223372036854775807) :
    Calls Tryz.prog 110 #[.agg #[.int .i64 1, .string T, .int .i64 p]] w fun e w' => e = .returned (.tuple #[.agg #[.string ⟨#[110, 117, 109]⟩, .string ⟨(Lib.itoa v).toArray⟩, .slice none 0 0], .bool true]) ∧ Below w.heap.size w w' := by
  have HRT := Lib.hid (fun w0 hg0 => eright_yes 1 p T m w0 hf ht hg0)
  have HPI := Lib.hid (fun w0 => Tryz.strconv_ParseInt_10_at64_ok T (by omega) v hv w0)
  have HFI := Lib.hid (fun w0 ht => fint_any v w0 (by unfold fits; omega) ht)
  clear hv
  have HG := Lib.hid hg
  clear hg hf
  go_enter Tryz.func110, Tryz.ntmps110
  obtain ⟨w0, hw0⟩ : ∃ w0, (w.alloc (.cells #[.int .i64 1, .string T, .int .i64 p] 39)).alloc (.cells #[.string ⟨#[]⟩, .string ⟨#[]⟩, .slice none 0 0] 25) = w0 := ⟨_, rfl⟩
  have L0 := Lib.hid (show Below w.heap.size w w0 by rw [← hw0]; exact ((Below.refl _ _).alloc (Nat.le_refl _) _).alloc (by simp) _)
  have N0 := Lib.hid (show NBox w0 w.heap.size (.int .i64 1) (.string T) (.int .i64 p) by rw [← hw0]; exact (NBox.fresh _ _ _ _ _).alloc _)
  have M0 := Lib.hid (show NBox w0 (w.heap.size + 1) (.string ⟨#[]⟩) (.string ⟨#[]⟩) (.slice none 0 0) by
    rw [← hw0, show w.heap.size + 1 = (w.alloc (.cells #[.int .i64 1, .string T, .int .i64 p] 39)).heap.size by simp]; exact NBox.fresh _ _ _ _ _)
  obtain ⟨x0, x1, x2, xf⟩ := N0.out
  go_wp2_with fail
  try rw [hw0]
  refine (HRT.out _ (HG.out.gl.next L0.out)).mono ?_
  rintro e w1 ⟨rfl, hb1⟩
  have L1 := Lib.hid (bnext L0.out L0.out.size hb1)
  have N1 := Lib.hid (N0.out.below hb1)
  have M1 := Lib.hid (M0.out.below hb1)
  have zl := M1.out.lt
  clear hb1 x0 x1 x2 xf
  obtain ⟨x0, x1, x2, xf⟩ := N1.out
  obtain ⟨y0, y1, y2, yf⟩ := M1.out
  go_wp2_with fail
  refine (HPI.out _).mono ?_
  rintro e w2 ⟨rfl, hw2⟩
  have hb2 : Below w1.heap.size w1 w2 := by
    rcases hw2 with rfl | ⟨t, rfl⟩
    · exact Below.refl _ _
    · exact Lib.bytesWorld_below _ _ _
  have L2 := Lib.hid (bnext L1.out L1.out.size hb2)
  have M2 := Lib.hid (M1.out.below hb2)
  clear hb2 hw2 x0 x1 x2 xf y0 y1 y2 yf
  go_wp2_with fail
  refine (HFI.out _ (HG.out.gl.next L2.out).tab).mono ?_
  rintro e w3 ⟨rfl, hb3⟩
  have L3 := Lib.hid (bnext L2.out L2.out.size hb3)
  have M3 := Lib.hid (M2.out.below hb3)
  have zl3 := M3.out.lt
  clear hb3
  obtain ⟨y0, y1, y2, yf⟩ := M3.out
  go_wp2
  have Y := M3.out.set (.string ⟨#[110, 117, 109]⟩) (.string ⟨(Lib.itoa v).toArray⟩) (.slice none 0 0)
  exact bodyPost_ret (v := .tuple #[.agg #[.string ⟨#[110, 117, 109]⟩, .string ⟨(Lib.itoa v).toArray⟩, .slice none 0 0], .bool true]) (by simp [results, Tryz.results110, go_sem, Y.c0, Y.c1, Y.c2]) rfl
    ⟨rfl, ((L3.out.setCell (p := ⟨w.heap.size + 1, 0, none⟩) (by simp) _).setCell (p := ⟨w.heap.size + 1, 1, none⟩) (by simp) _).setCell (p := ⟨w.heap.size + 1, 2, none⟩) (by simp) _⟩
set_option maxHeartbeats 4000000 in
set_option maxRecDepth 100000 in
theorem eoper_much (p : Int) (T : ByteArray) (m : Int) (w : World) (hf : firstL (showW 1 T.data.toList) = some (1, T.data.toList, (showW 1 T.data.toList).length)) (ht : T.size ≤ 4194304) (hg : Env w.heap.size m w) (hv : Lib.parseIntB 64 T.data.toList = .range) :
    Calls Tryz.prog 110 #[.agg #[.int .i64 1, .string T, .int .i64 p]] w fun e w' => e = .returned (.tuple #[.agg #[.string ⟨#[]⟩, .string ⟨#[]⟩, .slice none 0 0], .bool false]) ∧ Below w.heap.size w w' := by
  have HRT := Lib.hid (fun w0 hg0 => eright_yes 1 p T m w0 hf ht hg0)
  have HPI := Lib.hid (fun w0 (he : Env w0.heap.size m w0) => show Calls Tryz.prog 112 #[.string T, .int .i64 10, .int .i64 64] w0 (fun e w' => (∃ (a : Int) (t : TypeId) (v : Value), e = .returned (.tuple #[.int .i64 a, .iface t v])) ∧ Below w0.heap.size w0 w') from by
    obtain ⟨te, pe, hc⟩ := he.ec
    refine (Tryz.strconv_ParseInt_10_at64_range T (by omega) hv (.iface te pe) w0 hc (.inr ⟨te, pe, rfl⟩)).mono ?_
    rintro e w' ⟨N, h1, h2, h3, h4⟩
    exact ⟨⟨_, _, _, h1⟩, h4⟩)
  clear hv
  have HG := Lib.hid hg
  clear hg hf
  go_enter Tryz.func110, Tryz.ntmps110
  obtain ⟨w0, hw0⟩ : ∃ w0, (w.alloc (.cells #[.int .i64 1, .string T, .int .i64 p] 39)).alloc (.cells #[.string ⟨#[]⟩, .string ⟨#[]⟩, .slice none 0 0] 25) = w0 := ⟨_, rfl⟩
  have L0 := Lib.hid (show Below w.heap.size w w0 by rw [← hw0]; exact ((Below.refl _ _).alloc (Nat.le_refl _) _).alloc (by simp) _)
  have N0 := Lib.hid (show NBox w0 w.heap.size (.int .i64 1) (.string T) (.int .i64 p) by rw [← hw0]; exact (NBox.fresh _ _ _ _ _).alloc _)
  have M0 := Lib.hid (show NBox w0 (w.heap.size + 1) (.string ⟨#[]⟩) (.string ⟨#[]⟩) (.slice none 0 0) by
    rw [← hw0, show w.heap.size + 1 = (w.alloc (.cells #[.int .i64 1, .string T, .int .i64 p] 39)).heap.size by simp]; exact NBox.fresh _ _ _ _ _)
  obtain ⟨x0, x1, x2, xf⟩ := N0.out
  go_wp2_with fail
  try rw [hw0]
  refine (HRT.out _ (HG.out.gl.next L0.out)).mono ?_
  rintro e w1 ⟨rfl, hb1⟩
  have L1 := Lib.hid (bnext L0.out L0.out.size hb1)
  have N1 := Lib.hid (N0.out.below hb1)
  have M1 := Lib.hid (M0.out.below hb1)
  have zl := M1.out.lt
  clear hb1 x0 x1 x2 xf
  obtain ⟨x0, x1, x2, xf⟩ := N1.out
  obtain ⟨y0, y1, y2, yf⟩ := M1.out
  go_wp2_with fail
  refine (HPI.out _ (HG.out.next L1.out)).mono ?_
  rintro e w2 ⟨⟨a, t, v, rfl⟩, hb2⟩
  have L2 := Lib.hid (bnext L1.out L1.out.size hb2)
  have M2 := Lib.hid (M1.out.below hb2)
  have zl2 := M2.out.lt
  clear hb2 x0 x1 x2 xf y0 y1 y2 yf
  obtain ⟨y0, y1, y2, yf⟩ := M2.out
  go_wp2
  have Y := M2.out.set (.string ⟨#[]⟩) (.string ⟨#[]⟩) (.slice none 0 0)
  exact bodyPost_ret (v := .tuple #[.agg #[.string ⟨#[]⟩, .string ⟨#[]⟩, .slice none 0 0], .bool false]) (by simp [results, Tryz.results110, go_sem, Y.c0, Y.c1, Y.c2]) rfl
    ⟨rfl, ((L2.out.setCell (p := ⟨w.heap.size + 1, 0, none⟩) (by simp) _).setCell (p := ⟨w.heap.size + 1, 1, none⟩) (by simp) _).setCell (p := ⟨w.heap.size + 1, 2, none⟩) (by simp) _⟩
set_option maxHeartbeats 4000000 in
set_option maxRecDepth 100000 in
theorem eoper_name (p : Int) (T : ByteArray) (m : Int) (w : World) (hf : firstL (showW 0 T.data.toList) = some (0, T.data.toList, (showW 0 T.data.toList).length)) (ht : T.size ≤ 4194304) (hg : Env w.heap.size m w) (b : Bool) (hb : ownL T.data.toList = b) :
    Calls Tryz.prog 110 #[.agg #[.int .i64 0, .string T, .int .i64 p]] w fun e w' => e = .returned (.tuple #[.agg #[.string ⟨#[99, 111, 108]⟩, .string T, .slice none 0 0], .bool (!b)]) ∧ Below w.heap.size w w' := by
  have HRT := Lib.hid (fun w0 hg0 => eright_yes 0 p T m w0 hf ht hg0)
  have HOW := Lib.hid (fun w0 => own_any T w0)
  rw [show ownB T.toList = b by rw [← hb, ByteArray.toList_eq]; rfl] at HOW
  clear hb
  have HG := Lib.hid hg
  clear hg hf
  go_enter Tryz.func110, Tryz.ntmps110
  obtain ⟨w0, hw0⟩ : ∃ w0, (w.alloc (.cells #[.int .i64 0, .string T, .int .i64 p] 39)).alloc (.cells #[.string ⟨#[]⟩, .string ⟨#[]⟩, .slice none 0 0] 25) = w0 := ⟨_, rfl⟩
  have L0 := Lib.hid (show Below w.heap.size w w0 by rw [← hw0]; exact ((Below.refl _ _).alloc (Nat.le_refl _) _).alloc (by simp) _)
  have N0 := Lib.hid (show NBox w0 w.heap.size (.int .i64 0) (.string T) (.int .i64 p) by rw [← hw0]; exact (NBox.fresh _ _ _ _ _).alloc _)
  have M0 := Lib.hid (show NBox w0 (w.heap.size + 1) (.string ⟨#[]⟩) (.string ⟨#[]⟩) (.slice none 0 0) by
    rw [← hw0, show w.heap.size + 1 = (w.alloc (.cells #[.int .i64 0, .string T, .int .i64 p] 39)).heap.size by simp]; exact NBox.fresh _ _ _ _ _)
  obtain ⟨x0, x1, x2, xf⟩ := N0.out
  go_wp2_with fail
  try rw [hw0]
  refine (HRT.out _ (HG.out.gl.next L0.out)).mono ?_
  rintro e w1 ⟨rfl, hb1⟩
  have L1 := Lib.hid (bnext L0.out L0.out.size hb1)
  have N1 := Lib.hid (N0.out.below hb1)
  have M1 := Lib.hid (M0.out.below hb1)
  have zl := M1.out.lt
  clear hb1 x0 x1 x2 xf
  obtain ⟨x0, x1, x2, xf⟩ := N1.out
  obtain ⟨y0, y1, y2, yf⟩ := M1.out
  have HO := Lib.hid (Ox.refl (w.heap.size + 1) w1)
  have FQ := Lib.hid (fun w' (h : Ox (w.heap.size + 1) w1 w') => show w'.cell? ⟨w.heap.size, 1, none⟩ = some (.string T) from (h.2 ⟨w.heap.size, 1, none⟩ (by simp)).trans x1)
  go_upto_region 12 with fail
  go_region_held3 (fun w' => (w'.cell? ⟨w.heap.size, 1, none⟩ = some (.string T)) ∧ Ox (w.heap.size + 1) w1 w')
    (first | assumption | (exact ⟨FQ.out _ HO.out.drew, HO.out.drew⟩) | (exact ⟨FQ.out _ HO.out, HO.out⟩) | (refine (fun hS9 : Ox (w.heap.size + 1) w1 _ => ⟨FQ.out _ hS9, hS9⟩) (((HO.out.setCell _ rfl _).setCell _ rfl _).setCell _ rfl _).drew))
    (first | (go_at_call 94; with_reducible refine (HOW.out _).mono ?_; rintro e w5 ⟨rfl, rfl⟩))
  go_wp2
  have Y := M1.out.set (.string ⟨#[99, 111, 108]⟩) (.string T) (.slice none 0 0)
  exact bodyPost_ret (v := .tuple #[.agg #[.string ⟨#[99, 111, 108]⟩, .string T, .slice none 0 0], .bool (!b)]) (by simp [results, Tryz.results110, go_sem, Y.c0, Y.c1, Y.c2]) rfl
    ⟨rfl, (((L1.out.setCell (p := ⟨w.heap.size + 1, 0, none⟩) (by simp) _).setCell (p := ⟨w.heap.size + 1, 1, none⟩) (by simp) _).setCell (p := ⟨w.heap.size + 1, 2, none⟩) (by simp) _).drew⟩
end Go.Proofs.YtpohpgahnompbaaGreatDoor.Code

/-
  Contracts of the program's of and ahead: a node is made; a part is read and told as the only Kid of a node.
-/
namespace Go.Proofs.YtpohpgahnompbaaGreatDoor.Code
open Go.ChangeShapes Go.WideShapes Go.ChangeAt Go.RowKit Val Elems
set_option linter.unusedVariables false
set_option linter.unusedSimpArgs false
theorem W3.rd {w : World} {r : Nat} {m : Int} {A : Option Addr} {cap : Nat} {l : List W} {i : Nat} (h : Rd w r m A cap l i) {g : Nat} (hg : r < g) (x y z : Value) : Rd (W3 w g x y z) r m A cap l i := ((h.new _ hg _).new _ hg _).new _ hg _
set_option maxHeartbeats 4000000 in
set_option maxRecDepth 100000 in
theorem eof_any (op : ByteArray) (X : Option Addr) (n k : Nat) (w : World) :
    Calls Tryz.prog 60 #[.string op, .slice X n k] w fun e w' => e = .returned (.agg #[.string op, .string ⟨#[]⟩, .slice X n k]) ∧ Below w.heap.size w w' := by
  go_enter Tryz.func60, Tryz.ntmps60
  go_wp2
  have Y := NBox.fresh w (.string op) (.string ⟨#[]⟩) (.slice X n k) 25
  exact bodyPost_ret (v := .agg #[.string op, .string ⟨#[]⟩, .slice X n k]) (by simp [results, Tryz.results60, go_sem, Y.c0, Y.c1, Y.c2]) rfl
    ⟨rfl, below_alloc w _⟩
section
variable {r : Nat} {m : Int} {A : Option Addr} {cap : Nat} {l : List W}
/-- a node is told, by the variable of the answer -/
theorem give_ret {w w3 : World} {T : Tr} {j : Nat} {b : Bool} {op tx : ByteArray} {X : Option Addr} {n k : Nat} (hn : b = false → NIn w3 (fun g => w.heap.size < g ∧ g < w3.heap.size) T (.string op) (.string tx) (.slice X n k)) (hb : But w w3 r) (hr : Rd w3 r m A cap l j) (hrl : r < w.heap.size) :
    Gives r m A cap l w NoBlk (T, j, b) (.returned (.tuple #[.agg #[.string op, .string tx, .slice X n k], .bool (!b)])) (W3 w3 w.heap.size (.string op) (.string tx) (.slice X n k)) :=
  ⟨op, tx, X, n, k, rfl, fun hq => (W3.nin (hn hq) (fun h => Nat.lt_irrefl _ h.1) _ _ _).imp (fun g hg => .inr ⟨Nat.le_of_lt hg.1, by rw [W3.size]; exact hg.2⟩), W3.but hb (Nat.le_refl _) _ _ _, W3.rd hr hrl _ _ _⟩
set_option maxHeartbeats 8000000 in
set_option maxRecDepth 100000 in
theorem eahead_any (op : ByteArray) (fn : Nat) (en : ∀ args w, (callFunc fn args).run Tryz.prog w = .ok (.enter fn args) w) (i : Nat) (x : Tr) (j : Nat) (b : Bool) (w : World) (h : Rd w r m A cap l i)
    (hp : ∀ w1, Rd w1 r m A cap l i → Calls Tryz.prog fn #[.pointer (some ⟨r, 0, none⟩)] w1 (Gives r m A cap l w1 NoBlk (x, j, b))) :
    Calls Tryz.prog 79 #[.pointer (some ⟨r, 0, none⟩), .string op, .func (.func fn) #[.pointer (some ⟨r, 0, none⟩)] #[]] w (Gives r m A cap l w NoBlk (.one op.data.toList x, j, b)) := by
  have HP := Lib.hid hp
  have HR := Lib.hid h
  have hrl := h.lt
  have HO := Lib.hid (fun X n k w => eof_any op X n k w)
  clear h hp
  go_enter Tryz.func79, Tryz.ntmps79
  obtain ⟨w0, hw0⟩ : ∃ w0, w.alloc (.cells #[.string ⟨#[]⟩, .string ⟨#[]⟩, .slice none 0 0] 25) = w0 := ⟨_, rfl⟩
  have hz0 : w0.heap.size = w.heap.size + 1 := by rw [← hw0]; simp
  have N0 := Lib.hid (show NBox w0 w.heap.size (.string ⟨#[]⟩) (.string ⟨#[]⟩) (.slice none 0 0) by rw [← hw0]; exact NBox.fresh _ _ _ _ _)
  have B0 := Lib.hid (show But w w0 r by rw [← hw0]; exact (But.refl w r).alloc _)
  have R0 := Lib.hid (show Rd w0 r m A cap l i by rw [← hw0]; exact HR.out.alloc _)
  go_wp2_with fail
  try rw [hw0]
  refine (HP.out _ R0.out).mono ?_
  rintro e w1 ⟨o1, t1, X, n, k, rfl, hn1, hb1, hr1⟩
  dsimp only at hn1 hr1
  have z1 := hb1.size
  obtain ⟨q, hq⟩ : ∃ q, (!b) = q := ⟨_, rfl⟩
  have I1 := Lib.hid (fun hq : b = false => NIn.one op ((hn1 hq).alloc (fun g hg => by rcases hg with hg | hg; exact hg.elim; exact hg.2) (.cells #[.string o1, .string t1, .slice X n k] 25)) (fun g hg => by rcases hg with hg | hg; exact hg.elim; simp; omega) (S' := fun g => w.heap.size < g ∧ g < w1.heap.size + 2) (fun g hg => by rcases hg with hg | hg; exact hg.elim; omega) (by simp; omega) 25)
  have s1 : (w1.alloc (.cells #[.string o1, .string t1, .slice X n k] 25)).heap.size = w1.heap.size + 1 := by simp
  rw [s1] at I1
  have B1 := Lib.hid (((B0.out.trans hb1).alloc (.cells #[.string o1, .string t1, .slice X n k] 25)).alloc (.cells #[.string o1, .string t1, .slice X n k] 25))
  have R1 := Lib.hid ((hr1.alloc (.cells #[.string o1, .string t1, .slice X n k] 25)).alloc (.cells #[.string o1, .string t1, .slice X n k] 25))
  have N1 := Lib.hid (((N0.out.but (by omega) hb1).alloc (.cells #[.string o1, .string t1, .slice X n k] 25)).alloc (.cells #[.string o1, .string t1, .slice X n k] 25))
  clear hn1 hb1 hr1
  go_wp2_with fail
  refine (HO.out _ _ _ _).mono ?_
  rintro e w3 ⟨rfl, hb3⟩
  have z3 : w1.heap.size + 2 ≤ w3.heap.size := by have := hb3.size; simp at this; omega
  have B3 := Lib.hid (B1.out.next hb3)
  have R3 := Lib.hid (R1.out.below hb3)
  have N3 := Lib.hid (N1.out.below hb3)
  have I3 := Lib.hid (fun hq : b = false => ((I1.out hq).below (fun g hg => by have := hg.2; simp; omega) hb3).imp (S' := fun g => w.heap.size < g ∧ g < w3.heap.size) (fun g hg => ⟨hg.1, by have := hg.2; omega⟩))
  have zn := N3.out.lt
  obtain ⟨x0, x1, x2, xf⟩ := N3.out
  clear hb3
  go_wp2
  have Y := N3.out.set (.string op) (.string ⟨#[]⟩) (.slice (some ⟨w1.heap.size + 1, 0, none⟩) 1 1)
  exact bodyPost_ret (v := .tuple #[.agg #[.string op, .string ⟨#[]⟩, .slice (some ⟨w1.heap.size + 1, 0, none⟩) 1 1], .bool (!b)]) (by simp [results, Tryz.results79, go_sem, Y.c0, Y.c1, Y.c2, hq]) rfl
    (give_ret I3.out B3.out R3.out hrl)
end
end Go.Proofs.YtpohpgahnompbaaGreatDoor.Code
