/-
  Contracts of the program's right, of and operand: is a word one of a text, the node of a word.
-/
import Derived.Test.YtjbpkpfmgbhlpaaGreatDoorMp13
import Derived.Test.YtjbpkpfmgbhlpaaGreatDoorShelfNum
import Derived.Test.YtjbpkpfmgbhlpaaGreatDoorMp5
import Derived.Test.YtjbpkpfmgbhlpaaGreatDoorMp12
set_option maxRecDepth 100000
set_option maxHeartbeats 16000000
open Go.Lib (hid)
namespace Go.Proofs.YtjbpkpfmgbhlpaaGreatDoor.Code
open Go.ChangeShapes Go.WideShapes Go.ChangeAt Go.RowKit Val Elems
set_option linter.unusedVariables false
set_option linter.unusedSimpArgs false
theorem words_good {s : List UInt8} {l : List W} (h : wordsL s 0 = .ok l) : wL s = l ∧ wP s = 0 ∧ wE s = 0 := by
 unfold wL wP wE
 rw [h]
 exact ⟨rfl, rfl, rfl⟩
theorem at_one (w : World) (k p : Int) (T : ByteArray) (t : TypeId) : At wc 3 (w.alloc (.cells #[.int .i64 k, .string T, .int .i64 p] t)) (w.alloc (.cells #[.int .i64 k, .string T, .int .i64 p] t)).heap.size (some ⟨w.heap.size, 0, none⟩) [(k, T.data.toList, p)] := by
 intro i hi
 have hi0 : i = 0 := by simp at hi; omega
 subst hi0
 refine ⟨⟨w.heap.size, 0, none⟩, rfl, by simp, fun j u hu => ?_⟩
 have h := World.news_of_block (heap_alloc_new w (.cells #[.int .i64 k, .string T, .int .i64 p] t))
 rw [show 0 * 3 + j = j by omega]
 refine h j u ?_
 simpa [wc, Lib.mk_data] using hu
theorem text_one (k p : Int) (T : ByteArray) (m : Int) (X : ByteArray) (hX : X.data.toList = showW k T.data.toList) (ht : T.size ≤ 4194304) (A : Option Addr) (w : World) (hv : At wc 3 w w.heap.size A [(k, T.data.toList, p)]) (hg : Glob w.heap.size m w) :
  Calls Tryz.prog 189 #[.slice A 1 1] w fun e w' => e = .returned (.string X) ∧ Below w.heap.size w w' := by
 have h := text_any A 1 [(k, T.data.toList, p)] m w hv (fun v hv => by obtain rfl := List.mem_singleton.1 hv; exact ht) (by simp) hg
 rw [textL_one] at h
 rw [show (⟨(showW (k, T.data.toList, p).1 (k, T.data.toList, p).2.1).toArray⟩ : ByteArray) = X by rw [← Lib.mk_data X, hX]] at h
 exact h
theorem eright_yes (k p : Int) (T : ByteArray) (m : Int) (w : World) (hf : firstL (showW k T.data.toList) = some (k, T.data.toList, (showW k T.data.toList).length)) (ht : T.size ≤ 4194304) (hg : Glob w.heap.size m w) :
  Calls Tryz.prog 187 #[.agg #[.int .i64 k, .string T, .int .i64 p]] w fun e w' => e = .returned (.bool true) ∧ Below w.heap.size w w' := by
 obtain ⟨X, hXe⟩ : ∃ X : ByteArray, ⟨(showW k T.data.toList).toArray⟩ = X := ⟨_, rfl⟩
 have hX : X.data.toList = showW k T.data.toList := by rw [← hXe]
 have hXs : X.size ≤ 4194304 := by
  have := showW_le (k := k) (t := T.data.toList) ht
  rw [← hX] at this
  exact this
 have hw := words_good (words_alone hf 0)
 have HT := hid (fun A w0 hv hg => text_one k p T m X hX ht A w0 hv hg)
 have HW := hid (fun w0 hm => (words_any X m w0 hXs hm).mono (R' := fun e w' => ∃ (A : Option Addr) (cap : Nat), e = .returned (.tuple #[.slice A 1 cap, .int .i64 0, .int .i64 0]) ∧ At wc 3 w' w'.heap.size A [(k, T.data.toList, 0)] ∧ Below w0.heap.size w0 w') (by
  rintro e w' ⟨A, cap, he, hv, hb⟩
  rw [hX, hw.1] at hv
  refine ⟨A, cap, ?_, hv, hb⟩
  rw [he, hX, hw.1, hw.2.1, hw.2.2]
  rfl))
 have HG := hid hg
 clear hg hw hX hXs hXe hf
 go_enter Tryz.func187, Tryz.ntmps187
 go_wp2_with fail
 obtain ⟨W0, hW0⟩ : ∃ W0, w.alloc (.cells #[.int .i64 k, .string T, .int .i64 p] 48) = W0 := ⟨_, rfl⟩
 have L0 := hid (show Below w.heap.size w W0 by rw [← hW0]; exact below_alloc w _)
 have N0 := hid (show NBox W0 w.heap.size (.int .i64 k) (.string T) (.int .i64 p) by rw [← hW0]; exact NBox.fresh w _ _ _ _)
 have z0 : W0.heap.size = w.heap.size + 1 := by rw [← hW0]; simp
 try rw [hW0]
 have HA := hid (at_one W0 k p T 48)
 rw [z0] at HA
 have L1 := hid (L0.out.alloc (by omega) (.cells #[.int .i64 k, .string T, .int .i64 p] 48))
 have N1 := hid (N0.out.alloc (.cells #[.int .i64 k, .string T, .int .i64 p] 48))
 refine (HT.out _ _ HA.out (HG.out.next L1.out)).mono ?_
 rintro e w2 ⟨rfl, hb2⟩
 have L2 := hid (bnext L1.out L1.out.size hb2)
 have N2 := hid (N1.out.below hb2)
 clear hb2
 go_wp2_with fail
 refine (HW.out _ (HG.out.next L2.out).cell).mono ?_
 rintro e w3 ⟨A, cap', rfl, hv, hb3⟩
 have L3 := hid (bnext L2.out L2.out.size hb3)
 have N3 := hid (N2.out.below hb3)
 obtain ⟨x0, x1, x2, xf⟩ := N3.out
 obtain ⟨ad, rfl, ha, d0, d1, d2⟩ := at_word hv 0 (by simp)
 rw [Nat.zero_mul] at d0 d1 d2
 have e0 : ad.add 0 = ad := by cases ad; simp [Addr.add]
 rw [e0] at d0 d1 d2
 dsimp only [List.getElem_cons_zero] at d0 d1 d2
 rw [Lib.mk_data] at d1
 clear hb3 hv d2
 go_wp2
 go_quiet (fail)
 go_wp2
 go_ret
 exact ⟨rfl, drewN_below L3.out _⟩
theorem eright_no (m : Int) (w : World) (hg : Glob w.heap.size m w) :
  Calls Tryz.prog 187 #[.agg #[.int .i64 0, .string ⟨#[]⟩, .int .i64 0]] w fun e w' => e = .returned (.bool false) ∧ Below w.heap.size w w' := by
 have hX : (⟨#[]⟩ : ByteArray).data.toList = showW 0 (⟨#[]⟩ : ByteArray).data.toList := rfl
 have hw := words_good (s := []) (l := []) rfl
 have HT := hid (fun A w0 hv hg => text_one 0 0 ⟨#[]⟩ m ⟨#[]⟩ hX (by decide) A w0 hv hg)
 have HW := hid (fun w0 hm => (words_any ⟨#[]⟩ m w0 (by decide) hm).mono (R' := fun e w' => ∃ (A : Option Addr) (cap : Nat), e = .returned (.tuple #[.slice A 0 cap, .int .i64 0, .int .i64 0]) ∧ Below w0.heap.size w0 w') (by
  rintro e w' ⟨A, cap, he, hv, hb⟩
  refine ⟨A, cap, ?_, hb⟩
  rw [he, show (⟨#[]⟩ : ByteArray).data.toList = [] from rfl, hw.1, hw.2.1, hw.2.2]
  rfl))
 have HG := hid hg
 clear hg hw hX
 go_enter Tryz.func187, Tryz.ntmps187
 go_wp2_with fail
 obtain ⟨W0, hW0⟩ : ∃ W0, w.alloc (.cells #[.int .i64 0, .string ⟨#[]⟩, .int .i64 0] 48) = W0 := ⟨_, rfl⟩
 have L0 := hid (show Below w.heap.size w W0 by rw [← hW0]; exact below_alloc w _)
 have z0 : W0.heap.size = w.heap.size + 1 := by rw [← hW0]; simp
 try rw [hW0]
 have HA := hid (at_one W0 0 0 ⟨#[]⟩ 48)
 rw [z0] at HA
 have L1 := hid (L0.out.alloc (by omega) (.cells #[.int .i64 0, .string ⟨#[]⟩, .int .i64 0] 48))
 refine (HT.out _ _ HA.out (HG.out.next L1.out)).mono ?_
 rintro e w2 ⟨rfl, hb2⟩
 have L2 := hid (bnext L1.out L1.out.size hb2)
 clear hb2
 go_wp2_with fail
 refine (HW.out _ (HG.out.next L2.out).cell).mono ?_
 rintro e w3 ⟨A, cap', rfl, hb3⟩
 have L3 := hid (bnext L2.out L2.out.size hb3)
 clear hb3
 go_wp2
 refine wp_region_quiet_lit (by kernel_rfl) (by kernel_rfl) ?_
 repeat (with_reducible refine wpQuiet_step ?_; intro K hK; go_simp; with_reducible refine hK _ ?_; clear hK K)
 refine wpQuiet_nil ?_
 intro _ hw'
 obtain ⟨nq, hw''⟩ := hw'
 subst hw''
 go_wp2
 go_ret
 exact ⟨rfl, drewN_below L3.out _⟩
theorem eoper_zero (m : Int) (w : World) (hg : Env w.heap.size m w) :
  Calls Tryz.prog 186 #[.agg #[.int .i64 0, .string ⟨#[]⟩, .int .i64 0]] w fun e w' => e = .returned (.tuple #[.agg #[.string ⟨#[]⟩, .string ⟨#[]⟩, .slice none 0 0], .bool false]) ∧ Below w.heap.size w w' := by
 have HRT := hid (fun w0 hg0 => eright_no m w0 hg0)
 have HG := hid hg
 clear hg
 go_enter Tryz.func186, Tryz.ntmps186
 obtain ⟨w0, hw0⟩ : ∃ w0, (w.alloc (.cells #[.int .i64 0, .string ⟨#[]⟩, .int .i64 0] 48)).alloc (.cells #[.string ⟨#[]⟩, .string ⟨#[]⟩, .slice none 0 0] 25) = w0 := ⟨_, rfl⟩
 have L0 := hid (show Below w.heap.size w w0 by rw [← hw0]; exact ((Below.refl _ _).alloc (Nat.le_refl _) _).alloc (by simp) _)
 have N0 := hid (show NBox w0 w.heap.size (.int .i64 0) (.string ⟨#[]⟩) (.int .i64 0) by rw [← hw0]; exact (NBox.fresh _ _ _ _ _).alloc _)
 have M0 := hid (show NBox w0 (w.heap.size + 1) (.string ⟨#[]⟩) (.string ⟨#[]⟩) (.slice none 0 0) by
  rw [← hw0, show w.heap.size + 1 = (w.alloc (.cells #[.int .i64 0, .string ⟨#[]⟩, .int .i64 0] 48)).heap.size by simp]; exact NBox.fresh _ _ _ _ _)
 obtain ⟨x0, x1, x2, xf⟩ := N0.out
 go_wp2_with fail
 try rw [hw0]
 refine (HRT.out _ (HG.out.gl.next L0.out)).mono ?_
 rintro e w1 ⟨rfl, hb1⟩
 have L1 := hid (bnext L0.out L0.out.size hb1)
 have N1 := hid (N0.out.below hb1)
 have M1 := hid (M0.out.below hb1)
 have zl := M1.out.lt
 clear hb1 x0 x1 x2 xf
 obtain ⟨x0, x1, x2, xf⟩ := N1.out
 obtain ⟨y0, y1, y2, yf⟩ := M1.out
 go_wp2
 have Y := M1.out.set (.string ⟨#[]⟩) (.string ⟨#[]⟩) (.slice none 0 0)
 exact bodyPost_ret (v := .tuple #[.agg #[.string ⟨#[]⟩, .string ⟨#[]⟩, .slice none 0 0], .bool false]) (by simp [results, Tryz.results186, go_sem, Y.c0, Y.c1, Y.c2]) rfl
  ⟨rfl, ((L1.out.setCell (p := ⟨w.heap.size + 1, 0, none⟩) (by simp) _).setCell (p := ⟨w.heap.size + 1, 1, none⟩) (by simp) _).setCell (p := ⟨w.heap.size + 1, 2, none⟩) (by simp) _⟩
theorem eoper_mark (p : Int) (T : ByteArray) (m : Int) (w : World) (hf : firstL (showW 3 T.data.toList) = some (3, T.data.toList, (showW 3 T.data.toList).length)) (ht : T.size ≤ 4194304) (hg : Env w.heap.size m w) :
  Calls Tryz.prog 186 #[.agg #[.int .i64 3, .string T, .int .i64 p]] w fun e w' => e = .returned (.tuple #[.agg #[.string ⟨#[]⟩, .string ⟨#[]⟩, .slice none 0 0], .bool false]) ∧ Below w.heap.size w w' := by
 have HRT := hid (fun w0 hg0 => eright_yes 3 p T m w0 hf ht hg0)
 have HG := hid hg
 clear hg hf
 go_enter Tryz.func186, Tryz.ntmps186
 obtain ⟨w0, hw0⟩ : ∃ w0, (w.alloc (.cells #[.int .i64 3, .string T, .int .i64 p] 48)).alloc (.cells #[.string ⟨#[]⟩, .string ⟨#[]⟩, .slice none 0 0] 25) = w0 := ⟨_, rfl⟩
 have L0 := hid (show Below w.heap.size w w0 by rw [← hw0]; exact ((Below.refl _ _).alloc (Nat.le_refl _) _).alloc (by simp) _)
 have N0 := hid (show NBox w0 w.heap.size (.int .i64 3) (.string T) (.int .i64 p) by rw [← hw0]; exact (NBox.fresh _ _ _ _ _).alloc _)
 have M0 := hid (show NBox w0 (w.heap.size + 1) (.string ⟨#[]⟩) (.string ⟨#[]⟩) (.slice none 0 0) by
  rw [← hw0, show w.heap.size + 1 = (w.alloc (.cells #[.int .i64 3, .string T, .int .i64 p] 48)).heap.size by simp]; exact NBox.fresh _ _ _ _ _)
 obtain ⟨x0, x1, x2, xf⟩ := N0.out
 go_wp2_with fail
 try rw [hw0]
 refine (HRT.out _ (HG.out.gl.next L0.out)).mono ?_
 rintro e w1 ⟨rfl, hb1⟩
 have L1 := hid (bnext L0.out L0.out.size hb1)
 have N1 := hid (N0.out.below hb1)
 have M1 := hid (M0.out.below hb1)
 have zl := M1.out.lt
 clear hb1 x0 x1 x2 xf
 obtain ⟨x0, x1, x2, xf⟩ := N1.out
 obtain ⟨y0, y1, y2, yf⟩ := M1.out
 go_wp2
 have Y := M1.out.set (.string ⟨#[]⟩) (.string ⟨#[]⟩) (.slice none 0 0)
 exact bodyPost_ret (v := .tuple #[.agg #[.string ⟨#[]⟩, .string ⟨#[]⟩, .slice none 0 0], .bool false]) (by simp [results, Tryz.results186, go_sem, Y.c0, Y.c1, Y.c2]) rfl
  ⟨rfl, ((L1.out.setCell (p := ⟨w.heap.size + 1, 0, none⟩) (by simp) _).setCell (p := ⟨w.heap.size + 1, 1, none⟩) (by simp) _).setCell (p := ⟨w.heap.size + 1, 2, none⟩) (by simp) _⟩
theorem eoper_text (p : Int) (T : ByteArray) (m : Int) (w : World) (hf : firstL (showW 2 T.data.toList) = some (2, T.data.toList, (showW 2 T.data.toList).length)) (ht : T.size ≤ 4194304) (hg : Env w.heap.size m w) :
  Calls Tryz.prog 186 #[.agg #[.int .i64 2, .string T, .int .i64 p]] w fun e w' => e = .returned (.tuple #[.agg #[.string ⟨#[116, 101, 120, 116]⟩, .string T, .slice none 0 0], .bool true]) ∧ Below w.heap.size w w' := by
 have HRT := hid (fun w0 hg0 => eright_yes 2 p T m w0 hf ht hg0)
 have HG := hid hg
 clear hg hf
 go_enter Tryz.func186, Tryz.ntmps186
 obtain ⟨w0, hw0⟩ : ∃ w0, (w.alloc (.cells #[.int .i64 2, .string T, .int .i64 p] 48)).alloc (.cells #[.string ⟨#[]⟩, .string ⟨#[]⟩, .slice none 0 0] 25) = w0 := ⟨_, rfl⟩
 have L0 := hid (show Below w.heap.size w w0 by rw [← hw0]; exact ((Below.refl _ _).alloc (Nat.le_refl _) _).alloc (by simp) _)
 have N0 := hid (show NBox w0 w.heap.size (.int .i64 2) (.string T) (.int .i64 p) by rw [← hw0]; exact (NBox.fresh _ _ _ _ _).alloc _)
 have M0 := hid (show NBox w0 (w.heap.size + 1) (.string ⟨#[]⟩) (.string ⟨#[]⟩) (.slice none 0 0) by
  rw [← hw0, show w.heap.size + 1 = (w.alloc (.cells #[.int .i64 2, .string T, .int .i64 p] 48)).heap.size by simp]; exact NBox.fresh _ _ _ _ _)
 obtain ⟨x0, x1, x2, xf⟩ := N0.out
 go_wp2_with fail
 try rw [hw0]
 refine (HRT.out _ (HG.out.gl.next L0.out)).mono ?_
 rintro e w1 ⟨rfl, hb1⟩
 have L1 := hid (bnext L0.out L0.out.size hb1)
 have N1 := hid (N0.out.below hb1)
 have M1 := hid (M0.out.below hb1)
 have zl := M1.out.lt
 clear hb1 x0 x1 x2 xf
 obtain ⟨x0, x1, x2, xf⟩ := N1.out
 obtain ⟨y0, y1, y2, yf⟩ := M1.out
 go_wp2
 have Y := M1.out.set (.string ⟨#[116, 101, 120, 116]⟩) (.string T) (.slice none 0 0)
 exact bodyPost_ret (v := .tuple #[.agg #[.string ⟨#[116, 101, 120, 116]⟩, .string T, .slice none 0 0], .bool true]) (by simp [results, Tryz.results186, go_sem, Y.c0, Y.c1, Y.c2]) rfl
  ⟨rfl, ((L1.out.setCell (p := ⟨w.heap.size + 1, 0, none⟩) (by simp) _).setCell (p := ⟨w.heap.size + 1, 1, none⟩) (by simp) _).setCell (p := ⟨w.heap.size + 1, 2, none⟩) (by simp) _⟩
theorem eoper_num (p : Int) (T : ByteArray) (m : Int) (w : World) (hf : firstL (showW 1 T.data.toList) = some (1, T.data.toList, (showW 1 T.data.toList).length)) (ht : T.size ≤ 4194304) (hg : Env w.heap.size m w) (v : Int) (hv : Lib.parseIntB 64 T.data.toList = .ok v) (hv0 : 0 ≤ v) (hv1 : v ≤ 9223372036854775807) :
  Calls Tryz.prog 186 #[.agg #[.int .i64 1, .string T, .int .i64 p]] w fun e w' => e = .returned (.tuple #[.agg #[.string ⟨#[110, 117, 109]⟩, .string ⟨(Lib.itoa v).toArray⟩, .slice none 0 0], .bool true]) ∧ Below w.heap.size w w' := by
 have HRT := hid (fun w0 hg0 => eright_yes 1 p T m w0 hf ht hg0)
 have HPI := hid (fun w0 => Tryz.strconv_ParseInt_10_at64_ok T (by omega) v hv w0)
 have HFI := hid (fun w0 ht => fint_any v w0 (by unfold fits; omega) ht)
 clear hv
 have HG := hid hg
 clear hg hf
 go_enter Tryz.func186, Tryz.ntmps186
 obtain ⟨w0, hw0⟩ : ∃ w0, (w.alloc (.cells #[.int .i64 1, .string T, .int .i64 p] 48)).alloc (.cells #[.string ⟨#[]⟩, .string ⟨#[]⟩, .slice none 0 0] 25) = w0 := ⟨_, rfl⟩
 have L0 := hid (show Below w.heap.size w w0 by rw [← hw0]; exact ((Below.refl _ _).alloc (Nat.le_refl _) _).alloc (by simp) _)
 have N0 := hid (show NBox w0 w.heap.size (.int .i64 1) (.string T) (.int .i64 p) by rw [← hw0]; exact (NBox.fresh _ _ _ _ _).alloc _)
 have M0 := hid (show NBox w0 (w.heap.size + 1) (.string ⟨#[]⟩) (.string ⟨#[]⟩) (.slice none 0 0) by
  rw [← hw0, show w.heap.size + 1 = (w.alloc (.cells #[.int .i64 1, .string T, .int .i64 p] 48)).heap.size by simp]; exact NBox.fresh _ _ _ _ _)
 obtain ⟨x0, x1, x2, xf⟩ := N0.out
 go_wp2_with fail
 try rw [hw0]
 refine (HRT.out _ (HG.out.gl.next L0.out)).mono ?_
 rintro e w1 ⟨rfl, hb1⟩
 have L1 := hid (bnext L0.out L0.out.size hb1)
 have N1 := hid (N0.out.below hb1)
 have M1 := hid (M0.out.below hb1)
 have zl := M1.out.lt
 clear hb1 x0 x1 x2 xf
 obtain ⟨x0, x1, x2, xf⟩ := N1.out
 obtain ⟨y0, y1, y2, yf⟩ := M1.out
 go_wp2_with fail
 refine (HPI.out _).mono ?_
 rintro e w2 ⟨rfl, hw2⟩
 have hb2 : Below w1.heap.size w1 w2 := by
  rcases hw2 with rfl | ⟨t, rfl⟩
  ·exact Below.refl _ _
  ·exact Lib.bytesWorld_below _ _ _
 have L2 := hid (bnext L1.out L1.out.size hb2)
 have M2 := hid (M1.out.below hb2)
 clear hb2 hw2 x0 x1 x2 xf y0 y1 y2 yf
 go_wp2_with fail
 refine (HFI.out _ (HG.out.gl.next L2.out).tab).mono ?_
 rintro e w3 ⟨rfl, hb3⟩
 have L3 := hid (bnext L2.out L2.out.size hb3)
 have M3 := hid (M2.out.below hb3)
 have zl3 := M3.out.lt
 clear hb3
 obtain ⟨y0, y1, y2, yf⟩ := M3.out
 go_wp2
 have Y := M3.out.set (.string ⟨#[110, 117, 109]⟩) (.string ⟨(Lib.itoa v).toArray⟩) (.slice none 0 0)
 exact bodyPost_ret (v := .tuple #[.agg #[.string ⟨#[110, 117, 109]⟩, .string ⟨(Lib.itoa v).toArray⟩, .slice none 0 0], .bool true]) (by simp [results, Tryz.results186, go_sem, Y.c0, Y.c1, Y.c2]) rfl
  ⟨rfl, ((L3.out.setCell (p := ⟨w.heap.size + 1, 0, none⟩) (by simp) _).setCell (p := ⟨w.heap.size + 1, 1, none⟩) (by simp) _).setCell (p := ⟨w.heap.size + 1, 2, none⟩) (by simp) _⟩
theorem eoper_much (p : Int) (T : ByteArray) (m : Int) (w : World) (hf : firstL (showW 1 T.data.toList) = some (1, T.data.toList, (showW 1 T.data.toList).length)) (ht : T.size ≤ 4194304) (hg : Env w.heap.size m w) (hv : Lib.parseIntB 64 T.data.toList = .range) :
  Calls Tryz.prog 186 #[.agg #[.int .i64 1, .string T, .int .i64 p]] w fun e w' => e = .returned (.tuple #[.agg #[.string ⟨#[]⟩, .string ⟨#[]⟩, .slice none 0 0], .bool false]) ∧ Below w.heap.size w w' := by
 have HRT := hid (fun w0 hg0 => eright_yes 1 p T m w0 hf ht hg0)
 have HPI := hid (fun w0 (he : Env w0.heap.size m w0) => show Calls Tryz.prog 188 #[.string T, .int .i64 10, .int .i64 64] w0 (fun e w' => (∃ (a : Int) (t : TypeId) (v : Value), e = .returned (.tuple #[.int .i64 a, .iface t v])) ∧ Below w0.heap.size w0 w') from by
  obtain ⟨te, pe, hc⟩ := he.ec
  refine (Tryz.strconv_ParseInt_10_at64_range T (by omega) hv (.iface te pe) w0 hc (.inr ⟨te, pe, rfl⟩)).mono ?_
  rintro e w' ⟨N, h1, h2, h3, h4⟩
  exact ⟨⟨_, _, _, h1⟩, h4⟩)
 clear hv
 have HG := hid hg
 clear hg hf
 go_enter Tryz.func186, Tryz.ntmps186
 obtain ⟨w0, hw0⟩ : ∃ w0, (w.alloc (.cells #[.int .i64 1, .string T, .int .i64 p] 48)).alloc (.cells #[.string ⟨#[]⟩, .string ⟨#[]⟩, .slice none 0 0] 25) = w0 := ⟨_, rfl⟩
 have L0 := hid (show Below w.heap.size w w0 by rw [← hw0]; exact ((Below.refl _ _).alloc (Nat.le_refl _) _).alloc (by simp) _)
 have N0 := hid (show NBox w0 w.heap.size (.int .i64 1) (.string T) (.int .i64 p) by rw [← hw0]; exact (NBox.fresh _ _ _ _ _).alloc _)
 have M0 := hid (show NBox w0 (w.heap.size + 1) (.string ⟨#[]⟩) (.string ⟨#[]⟩) (.slice none 0 0) by
  rw [← hw0, show w.heap.size + 1 = (w.alloc (.cells #[.int .i64 1, .string T, .int .i64 p] 48)).heap.size by simp]; exact NBox.fresh _ _ _ _ _)
 obtain ⟨x0, x1, x2, xf⟩ := N0.out
 go_wp2_with fail
 try rw [hw0]
 refine (HRT.out _ (HG.out.gl.next L0.out)).mono ?_
 rintro e w1 ⟨rfl, hb1⟩
 have L1 := hid (bnext L0.out L0.out.size hb1)
 have N1 := hid (N0.out.below hb1)
 have M1 := hid (M0.out.below hb1)
 have zl := M1.out.lt
 clear hb1 x0 x1 x2 xf
 obtain ⟨x0, x1, x2, xf⟩ := N1.out
 obtain ⟨y0, y1, y2, yf⟩ := M1.out
 go_wp2_with fail
 refine (HPI.out _ (HG.out.next L1.out)).mono ?_
 rintro e w2 ⟨⟨a, t, v, rfl⟩, hb2⟩
 have L2 := hid (bnext L1.out L1.out.size hb2)
 have M2 := hid (M1.out.below hb2)
 have zl2 := M2.out.lt
 clear hb2 x0 x1 x2 xf y0 y1 y2 yf
 obtain ⟨y0, y1, y2, yf⟩ := M2.out
 go_wp2
 have Y := M2.out.set (.string ⟨#[]⟩) (.string ⟨#[]⟩) (.slice none 0 0)
 exact bodyPost_ret (v := .tuple #[.agg #[.string ⟨#[]⟩, .string ⟨#[]⟩, .slice none 0 0], .bool false]) (by simp [results, Tryz.results186, go_sem, Y.c0, Y.c1, Y.c2]) rfl
  ⟨rfl, ((L2.out.setCell (p := ⟨w.heap.size + 1, 0, none⟩) (by simp) _).setCell (p := ⟨w.heap.size + 1, 1, none⟩) (by simp) _).setCell (p := ⟨w.heap.size + 1, 2, none⟩) (by simp) _⟩
theorem eoper_name (p : Int) (T : ByteArray) (m : Int) (w : World) (hf : firstL (showW 0 T.data.toList) = some (0, T.data.toList, (showW 0 T.data.toList).length)) (ht : T.size ≤ 4194304) (hg : Env w.heap.size m w) (b : Bool) (hb : ownL T.data.toList = b) :
  Calls Tryz.prog 186 #[.agg #[.int .i64 0, .string T, .int .i64 p]] w fun e w' => e = .returned (.tuple #[.agg #[.string ⟨#[99, 111, 108]⟩, .string T, .slice none 0 0], .bool (!b)]) ∧ Below w.heap.size w w' := by
 have HRT := hid (fun w0 hg0 => eright_yes 0 p T m w0 hf ht hg0)
 have HOW := hid (fun w0 => own_any T w0)
 rw [show ownB T.toList = b by rw [← hb, ByteArray.toList_eq]; rfl] at HOW
 clear hb
 have HG := hid hg
 clear hg hf
 go_enter Tryz.func186, Tryz.ntmps186
 obtain ⟨w0, hw0⟩ : ∃ w0, (w.alloc (.cells #[.int .i64 0, .string T, .int .i64 p] 48)).alloc (.cells #[.string ⟨#[]⟩, .string ⟨#[]⟩, .slice none 0 0] 25) = w0 := ⟨_, rfl⟩
 have L0 := hid (show Below w.heap.size w w0 by rw [← hw0]; exact ((Below.refl _ _).alloc (Nat.le_refl _) _).alloc (by simp) _)
 have N0 := hid (show NBox w0 w.heap.size (.int .i64 0) (.string T) (.int .i64 p) by rw [← hw0]; exact (NBox.fresh _ _ _ _ _).alloc _)
 have M0 := hid (show NBox w0 (w.heap.size + 1) (.string ⟨#[]⟩) (.string ⟨#[]⟩) (.slice none 0 0) by
  rw [← hw0, show w.heap.size + 1 = (w.alloc (.cells #[.int .i64 0, .string T, .int .i64 p] 48)).heap.size by simp]; exact NBox.fresh _ _ _ _ _)
 obtain ⟨x0, x1, x2, xf⟩ := N0.out
 go_wp2_with fail
 try rw [hw0]
 refine (HRT.out _ (HG.out.gl.next L0.out)).mono ?_
 rintro e w1 ⟨rfl, hb1⟩
 have L1 := hid (bnext L0.out L0.out.size hb1)
 have N1 := hid (N0.out.below hb1)
 have M1 := hid (M0.out.below hb1)
 have zl := M1.out.lt
 clear hb1 x0 x1 x2 xf
 obtain ⟨x0, x1, x2, xf⟩ := N1.out
 obtain ⟨y0, y1, y2, yf⟩ := M1.out
 have HO := hid (Ox.refl (w.heap.size + 1) w1)
 have FQ := hid (fun w' (h : Ox (w.heap.size + 1) w1 w') => show w'.cell? ⟨w.heap.size, 1, none⟩ = some (.string T) from (h.2 ⟨w.heap.size, 1, none⟩ (by simp)).trans x1)
 go_upto_region 12 with fail
 go_region_held3 (fun w' => (w'.cell? ⟨w.heap.size, 1, none⟩ = some (.string T)) ∧ Ox (w.heap.size + 1) w1 w')
  (first | assumption | (exact ⟨FQ.out _ HO.out.drew, HO.out.drew⟩) | (exact ⟨FQ.out _ HO.out, HO.out⟩) | (refine (fun hS9 : Ox (w.heap.size + 1) w1 _ => ⟨FQ.out _ hS9, hS9⟩) (((HO.out.setCell _ rfl _).setCell _ rfl _).setCell _ rfl _).drew))
  (first | (go_at_call 125; with_reducible refine (HOW.out _).mono ?_; rintro e w5 ⟨rfl, rfl⟩))
 go_wp2
 have Y := M1.out.set (.string ⟨#[99, 111, 108]⟩) (.string T) (.slice none 0 0)
 exact bodyPost_ret (v := .tuple #[.agg #[.string ⟨#[99, 111, 108]⟩, .string T, .slice none 0 0], .bool (!b)]) (by simp [results, Tryz.results186, go_sem, Y.c0, Y.c1, Y.c2]) rfl
  ⟨rfl, (((L1.out.setCell (p := ⟨w.heap.size + 1, 0, none⟩) (by simp) _).setCell (p := ⟨w.heap.size + 1, 1, none⟩) (by simp) _).setCell (p := ⟨w.heap.size + 1, 2, none⟩) (by simp) _).drew⟩
def fv (f : Nat) : Value := .func (.func f) #[] #[]
def queriesF : ByteArray → Option Value :=
 mput (mput (mput (mput (mput (mput (fun _ => none) ⟨#[102, 105, 108, 116, 101, 114]⟩ (fv 45)) ⟨#[112, 114, 111, 106, 101, 99, 116]⟩ (fv 46)) ⟨#[106, 111, 105, 110]⟩ (fv 47))
  ⟨#[117, 110, 105, 111, 110]⟩ (fv 48)) ⟨#[100, 105, 115, 116, 105, 110, 99, 116]⟩ (fv 49)) ⟨#[103, 114, 111, 117, 112]⟩ (fv 50)
def aggsF : ByteArray → Option Value :=
 mput (mput (mput (mput (fun _ => none) ⟨#[99, 111, 117, 110, 116]⟩ (fv 51)) ⟨#[115, 117, 109]⟩ (fv 52)) ⟨#[109, 105, 110]⟩ (fv 52)) ⟨#[109, 97, 120]⟩ (fv 52)
structure Rq (w : World) (r : Nat) (m : Int) (A : Option Addr) (cap : Nat) (l : List W) (qb qa : Nat) (i : Nat) : Prop where
 rd : Rd w r m A cap l i
 c2 : w.cell? ⟨r, 2, none⟩ = some (.map (some qb))
 c3 : w.cell? ⟨r, 3, none⟩ = some (.map (some qa))
 mq : MapR w qb 6 queriesF
 ma : MapR w qa 4 aggsF
 nq : qb ≠ r
 na : qa ≠ r
section
variable {w w' : World} {r : Nat} {m : Int} {A : Option Addr} {cap : Nat} {l : List W} {qb qa i : Nat}
theorem Rq.lt (h : Rq w r m A cap l qb qa i) : r < w.heap.size := h.rd.lt
theorem Rq.below (h : Rq w r m A cap l qb qa i) (hb : Below w.heap.size w w') : Rq w' r m A cap l qb qa i := by
 have hl := h.lt
 exact ⟨h.rd.below hb, (hb.cell (p := ⟨r, 2, none⟩) hl).trans h.c2, (hb.cell (p := ⟨r, 3, none⟩) hl).trans h.c3, h.mq.below hb, h.ma.below hb, h.nq, h.na⟩
theorem Rq.alloc (h : Rq w r m A cap l qb qa i) (o : Obj) : Rq (w.alloc o) r m A cap l qb qa i := h.below (below_alloc w o)
theorem Rq.new (h : Rq w r m A cap l qb qa i) (p : Addr) (hp : r < p.block) (hq : p.block ≠ qb) (ha : p.block ≠ qa) (u : Value) : Rq (w.setCell p u) r m A cap l qb qa i := by
 have hn : ∀ j : Nat, p ≠ ⟨r, j, none⟩ := fun j e => by rw [e] at hp; exact absurd hp (Nat.lt_irrefl _)
 exact ⟨h.rd.new p hp u, (World.cell?_setCell_other _ _ _ _ (hn 2)).trans h.c2, (World.cell?_setCell_other _ _ _ _ (hn 3)).trans h.c3, h.mq.heap (Below.heap_setCell w p u qb (fun e => hq e.symm)), h.ma.heap (Below.heap_setCell w p u qa (fun e => ha e.symm)), h.nq, h.na⟩
theorem Rq.at (h : Rq w r m A cap l qb qa i) (j : Nat) : Rq (w.setCell ⟨r, 1, none⟩ (.int .i64 j)) r m A cap l qb qa j :=
 ⟨h.rd.at j, (World.cell?_setCell_other _ _ _ _ (by simp)).trans h.c2, (World.cell?_setCell_other _ _ _ _ (by simp)).trans h.c3, h.mq.heap (Below.heap_setCell w ⟨r, 1, none⟩ _ qb h.nq), h.ma.heap (Below.heap_setCell w ⟨r, 1, none⟩ _ qa h.na), h.nq, h.na⟩
theorem Rq.ltq (h : Rq w r m A cap l qb qa i) : qb < w.heap.size := h.mq.lt
theorem Rq.lta (h : Rq w r m A cap l qb qa i) : qa < w.heap.size := h.ma.lt
end
def wv (x : W) : Value := .agg #[.int .i64 x.1, .string ⟨x.2.1.toArray⟩, .int .i64 x.2.2]
section
variable {r : Nat} {m : Int} {A : Option Addr} {cap : Nat} {l : List W} {qb qa : Nat}
theorem pword_any (i d : Nat) (w : World) (h : Rq w r m A cap l qb qa i) (hi : i ≤ l.length) (hl : l.length ≤ 4194304) (hd : d ≤ 100) :
  Calls Tryz.prog 53 #[.pointer (some ⟨r, 0, none⟩), .int .i64 d] w fun e w' => e = .returned (wv (wd l (i + d))) ∧ Below w.heap.size w w' := by
 have HW := hid h.rd.ws
 have hrl := h.lt
 obtain ⟨⟨c0, c1, -, -, -⟩, -, -, -, -, -, -⟩ := h
 obtain ⟨j, hj⟩ : ∃ j, i + d = j := ⟨_, rfl⟩
 have ej : IntKind.i64.wrap ((i : Int) + (d : Int)) = (j : Int) := by rw [IntKind.wrap_i64]; omega
 rw [hj]
 unfold wv
 by_cases hil : j < l.length
 ·rw [wd_in hil]
  obtain ⟨ad, rfl, ha, d0, d1, d2⟩ := at_word HW.out j hil
  obtain ⟨x, hxx⟩ : ∃ x, l[j] = x := ⟨_, rfl⟩
  rw [hxx] at d0 d1 d2 ⊢
  obtain ⟨k, t, p⟩ := x
  dsimp only at d0 d1 d2 ⊢
  obtain ⟨T, hT⟩ : ∃ T : ByteArray, ⟨t.toArray⟩ = T := ⟨_, rfl⟩
  rw [hT] at d1 ⊢
  have e1 : decide ((j : Int) < (l.length : Int)) = true := by simp; omega
  have e2 : decide (j < l.length) = true := by simp; omega
  have e3 : (j : Int) < (l.length : Int) := by omega
  have e4 : (0 : Int) ≤ (j : Int) := by omega
  obtain ⟨q, hq⟩ : ∃ q, ad.add (j * 3) = q := ⟨_, rfl⟩
  have hbq : q.block < w.heap.size := by rw [← hq, add_block]; omega
  rw [hq] at d0 d1 d2
  have D0 : ∀ o, (w.alloc o).cell? q = some (.int .i64 k) := fun o => ((below_alloc w o).cell hbq).trans d0
  have D1 : ∀ o, (w.alloc o).cell? ⟨q.block, q.off + 1, none⟩ = some (.string T) := fun o => ((below_alloc w o).cell (p := ⟨q.block, q.off + 1, none⟩) hbq).trans d1
  have D2 : ∀ o, (w.alloc o).cell? ⟨q.block, q.off + 2, none⟩ = some (.int .i64 p) := fun o => ((below_alloc w o).cell (p := ⟨q.block, q.off + 2, none⟩) hbq).trans d2
  clear hxx hT hj hl d0 d1 d2
  go_enter Tryz.func53, Tryz.ntmps53
  go_wp2
  have Y := NBox.fresh w (.int .i64 k) (.string T) (.int .i64 p) 48
  exact bodyPost_ret (v := .agg #[.int .i64 k, .string T, .int .i64 p]) (by simp [results, Tryz.results53, go_sem, Y.c0, Y.c1, Y.c2]) rfl
   ⟨rfl, below_alloc w _⟩
 ·rw [wd_out hil]
  have e1 : decide ((j : Int) < (l.length : Int)) = false := by simp; omega
  have e2 : decide (j < l.length) = false := by simp; omega
  clear hil hj hl
  go_enter Tryz.func53, Tryz.ntmps53
  go_wp2
  have Y := NBox.fresh w (.int .i64 0) (.string ⟨#[]⟩) (.int .i64 0) 48
  exact bodyPost_ret (v := .agg #[.int .i64 0, .string ⟨#[]⟩, .int .i64 0]) (by simp [results, Tryz.results53, go_sem, Y.c0, Y.c1, Y.c2]) rfl
   ⟨rfl, below_alloc w _⟩
def markW (l : List W) (i : Nat) (s : List UInt8) : Bool := (wd l i).1 == 3 && (wd l i).2.1 == s
theorem mark_isW (i : Nat) (s : List UInt8) (ho : ownL s = false) : markW l i s = isW (bare l) i false s := by
 unfold markW
 by_cases hi : i < l.length
 ·rw [wd_in hi]
  unfold isW
  rw [bare_in hi, ho]
  dsimp only
  simp [Bool.and_comm]
 ·rw [wd_out hi, isW_out hi]
  rfl
theorem pmark_any (i d : Nat) (s : ByteArray) (w : World) (h : Rq w r m A cap l qb qa i) (hi : i ≤ l.length) (hl : l.length ≤ 4194304) (hd : d ≤ 100) (ho : ownL s.data.toList = false) (b : Bool) (hb : isW (bare l) (i + d) false s.data.toList = b) :
  Calls Tryz.prog 54 #[.pointer (some ⟨r, 0, none⟩), .int .i64 d, .string s] w fun e w' => e = .returned (.bool b) ∧ Below w.heap.size w w' := by
 have HWD := hid (pword_any i d w h hi hl hd)
 rw [← mark_isW _ _ ho] at hb
 unfold markW at hb
 unfold wv at HWD
 obtain ⟨x, hx⟩ : ∃ x, wd l (i + d) = x := ⟨_, rfl⟩
 rw [hx] at HWD hb
 obtain ⟨k, t, p⟩ := x
 dsimp only at HWD hb
 obtain ⟨T, hT⟩ : ∃ T : ByteArray, ⟨t.toArray⟩ = T := ⟨_, rfl⟩
 obtain rfl : t = T.data.toList := by rw [← hT]
 rw [hT] at HWD
 rw [← ByteArray.toList_eq, ← ByteArray.toList_eq] at hb
 clear h hT hx ho hl hi hd
 obtain ⟨q, hq⟩ : ∃ q, (T.toList == s.toList) = q := ⟨_, rfl⟩
 rw [hq] at hb
 cases hk : k == 3
 all_goals
  rw [hk] at hb
  subst hb
  go_enter Tryz.func54, Tryz.ntmps54
  go_wp2_with fail
  refine HWD.out.mono ?_
  rintro e w1 ⟨rfl, hb1⟩
  have L1 := hid (hb1.alloc hb1.size (.cells #[.int .i64 k, .string T, .int .i64 p] 48))
  clear hb1
  go_wp2
  go_ret
  exact ⟨by simp [hq], L1.out⟩
theorem ptake_any (i : Nat) (s : ByteArray) (w : World) (h : Rq w r m A cap l qb qa i) (hi : i ≤ l.length) (hl : l.length ≤ 4194304) (ho : ownL s.data.toList = false) (b : Bool) (hb : isW (bare l) i false s.data.toList = b) :
  Calls Tryz.prog 94 #[.pointer (some ⟨r, 0, none⟩), .string s] w fun e w' => e = .returned (.bool b) ∧ But w w' r ∧ Rq w' r m A cap l qb qa (if b = true then i + 1 else i) := by
 have HM := hid (pmark_any i 0 s w h hi hl (by decide) ho b hb)
 have HR := hid h
 have hrl := h.lt
 clear h ho hb
 cases b
 ·go_enter Tryz.func94, Tryz.ntmps94
  go_wp2_with fail
  refine HM.out.mono ?_
  rintro e w1 ⟨rfl, hb1⟩
  have B1 := hid (But.of hb1 r)
  have R1 := hid (HR.out.below hb1)
  clear hb1
  go_wp2
  go_ret
  exact ⟨rfl, B1.out, R1.out⟩
 ·have e2 : IntKind.i64.wrap ((i : Int) + 1) = ((i + 1 : Nat) : Int) := by rw [IntKind.wrap_i64]; omega
  obtain ⟨j, hj⟩ : ∃ j, i + 1 = j := ⟨_, rfl⟩
  rw [hj] at e2
  rw [if_pos rfl, hj]
  clear hj hi hl
  go_enter Tryz.func94, Tryz.ntmps94
  go_wp2_with fail
  refine HM.out.mono ?_
  rintro e w1 ⟨rfl, hb1⟩
  have B1 := hid (But.of hb1 r)
  have R1 := hid (HR.out.below hb1)
  have c1 := R1.out.rd.c1
  have f1 := R1.out.rd.fr 1
  clear hb1
  go_wp2
  go_ret
  exact ⟨rfl, B1.out.setCell 1 _, R1.out.at j⟩
end
def TellsN (fn : Nat) (good : Nod → Bool) : Prop := ∀ (t : Nod) (S : Nat → Prop) (op tx : ByteArray) (X : Option Addr) (n k : Nat) (w : World), (∀ g, S g → g < w.heap.size) → RIn w S t (op, tx, X, n, k) →
  Calls Tryz.prog fn #[.agg #[.string op, .string tx, .slice X n k]] w fun e w' => e = .returned (.bool (good t)) ∧ Below w.heap.size w w'
theorem pisColumn : TellsN 131 isColB := by
 intro t S op tx X n k w hS hn
 obtain ⟨eo, et, en, hkl⟩ := hn.texts
 dsimp only at eo et en
 subst en
 have hg : isColB t = (op.toList == [99, 111, 108] && t.ks.length == 0) := by
  unfold isColB isE
  rw [eo, ByteArray.toList_eq]
  rfl
 rw [hg]
 clear hg eo et hn hS
 obtain ⟨p, hp⟩ : ∃ p, (op.toList == [99, 111, 108]) = p := ⟨_, rfl⟩
 obtain ⟨q, hq⟩ : ∃ q, (t.ks.length == 0) = q := ⟨_, rfl⟩
 have hq2 : ((t.ks.length : Int) == 0) = q := by
  rw [← hq, Bool.eq_iff_iff]
  simp <;> omega
 rw [hp, hq]
 have HB := hid (fun (o : Obj) => below_alloc w o)
 cases p
 ·go_enter Tryz.func131, Tryz.ntmps131
  go_wp2
  go_ret
  exact ⟨retB (by simp [*]), HB.out _⟩
 ·go_enter Tryz.func131, Tryz.ntmps131
  go_wp2
  go_ret
  exact ⟨retB (by simp [*]), HB.out _⟩
theorem pisItem : TellsN 105 isItemB := by
 intro t S op tx X n k w hS hn
 obtain ⟨eo, et, en, hkl⟩ := hn.texts
 dsimp only at eo et en
 subst en
 have hg : isItemB t = (op.toList == [105, 116, 101, 109] && t.ks.length == 1) := by
  unfold isItemB isE
  rw [eo, ByteArray.toList_eq]
  rfl
 rw [hg]
 clear hg eo et hn hS
 obtain ⟨p, hp⟩ : ∃ p, (op.toList == [105, 116, 101, 109]) = p := ⟨_, rfl⟩
 obtain ⟨q, hq⟩ : ∃ q, (t.ks.length == 1) = q := ⟨_, rfl⟩
 have hq2 : ((t.ks.length : Int) == 1) = q := by
  rw [← hq, Bool.eq_iff_iff]
  simp <;> omega
 rw [hp, hq]
 have HB := hid (fun (o : Obj) => below_alloc w o)
 cases p
 ·go_enter Tryz.func105, Tryz.ntmps105
  go_wp2
  go_ret
  exact ⟨retB (by simp [*]), HB.out _⟩
 ·go_enter Tryz.func105, Tryz.ntmps105
  go_wp2
  go_ret
  exact ⟨retB (by simp [*]), HB.out _⟩
theorem pisCall : TellsN 132 isCallB := by
 intro t S op tx X n k w hS hn
 obtain ⟨eo, et, en, hkl⟩ := hn.texts
 dsimp only at eo et en
 subst en
 have HB := hid (fun (o : Obj) => below_alloc w o)
 have eo' : t.op = op.data.toList := by rw [eo]
 have et' : t.tx = tx.data.toList := by rw [et]
 have hg : isCallB t = (t.ks.length == 0 && (op.data.toList == sSum || op.data.toList == sMin || op.data.toList == sMax || (op.data.toList == sCount && tx.data.toList == []))) := by
  unfold isCallB
  rw [eo', et']
 rw [hg]
 clear hg eo et eo' et' hn hS
 obtain ⟨q, hq⟩ : ∃ q, (t.ks.length == 0) = q := ⟨_, rfl⟩
 have hq2 : ((t.ks.length : Int) == 0) = q := by
  rw [← hq, Bool.eq_iff_iff]
  simp
 rw [hq]
 by_cases h0 : op.data.toList = sCount
 ·obtain rfl : op = ⟨#[99, 111, 117, 110, 116]⟩ := by rw [← Lib.mk_data op, h0]; rfl
  rw [h0, show (sCount == sSum) = false by decide, show (sCount == sMin) = false by decide, show (sCount == sMax) = false by decide, show (sCount == sCount) = true by decide, Bool.false_or, Bool.false_or, Bool.false_or, Bool.true_and]
  have ht : (tx.data.toList == []) = (tx.toList == []) := by rw [ByteArray.toList_eq]
  obtain ⟨p, hp⟩ : ∃ p, (tx.toList == []) = p := ⟨_, rfl⟩
  rw [ht, hp]
  clear h0 ht
  cases q
  ·rw [Bool.false_and]
   go_enter Tryz.func132, Tryz.ntmps132
   go_wp2
   go_ret
   exact ⟨retB (by simp [*]), HB.out _⟩
  ·rw [Bool.true_and]
   go_enter Tryz.func132, Tryz.ntmps132
   go_wp2
   go_ret
   exact ⟨retB (by simp [*]), HB.out _⟩
 by_cases h1 : op.data.toList = sSum
 ·obtain rfl : op = ⟨#[115, 117, 109]⟩ := by rw [← Lib.mk_data op, h1]; rfl
  rw [h1, show (q && (sSum == sSum || sSum == sMin || sSum == sMax || (sSum == sCount && tx.data.toList == []))) = q by rw [show (sSum == sSum) = true by decide]; simp]
  clear h1 h0
  go_enter Tryz.func132, Tryz.ntmps132
  go_wp2
  go_ret
  exact ⟨retB (by simp [*]), HB.out _⟩
 by_cases h2 : op.data.toList = sMin
 ·obtain rfl : op = ⟨#[109, 105, 110]⟩ := by rw [← Lib.mk_data op, h2]; rfl
  rw [h2, show (q && (sMin == sSum || sMin == sMin || sMin == sMax || (sMin == sCount && tx.data.toList == []))) = q by rw [show (sMin == sMin) = true by decide]; simp]
  clear h2 h0 h1
  go_enter Tryz.func132, Tryz.ntmps132
  go_wp2
  go_ret
  exact ⟨retB (by simp [*]), HB.out _⟩
 by_cases h3 : op.data.toList = sMax
 ·obtain rfl : op = ⟨#[109, 97, 120]⟩ := by rw [← Lib.mk_data op, h3]; rfl
  rw [h3, show (q && (sMax == sSum || sMax == sMin || sMax == sMax || (sMax == sCount && tx.data.toList == []))) = q by rw [show (sMax == sMax) = true by decide]; simp]
  clear h3 h0 h1 h2
  go_enter Tryz.func132, Tryz.ntmps132
  go_wp2
  go_ret
  exact ⟨retB (by simp [*]), HB.out _⟩
 have f0 := lit_ne h0
 have f1 := lit_ne h1
 have f2 := lit_ne h2
 have f3 := lit_ne h3
 have hf : (q && (op.data.toList == sSum || op.data.toList == sMin || op.data.toList == sMax || (op.data.toList == sCount && tx.data.toList == []))) = false := by simp [h0, h1, h2, h3]
 rw [hf]
 unfold sCount at f0
 unfold sSum at f1
 unfold sMin at f2
 unfold sMax at f3
 clear hf h0 h1 h2 h3
 go_enter Tryz.func132, Tryz.ntmps132
 go_wp2
 go_ret
 exact ⟨rfl, HB.out _⟩
theorem pisOn : TellsN 106 isOnB := by
 intro t S op tx X n k w hS hn
 obtain ⟨eo, et, en, hkl⟩ := hn.texts
 dsimp only at eo et en
 subst en
 have hg : isOnB t = ((op.toList == [111, 110] && t.ks.length == 1) && isColB (nthN t.ks 0)) := by
  unfold isOnB isE
  rw [eo, ByteArray.toList_eq]
  rfl
 rw [hg]
 have HN := hid hn
 have HS := hid hS
 clear hg eo et hn hS
 obtain ⟨p, hp⟩ : ∃ p, (op.toList == [111, 110]) = p := ⟨_, rfl⟩
 rw [hp]
 obtain ⟨w1, hw1⟩ : ∃ w1, w.alloc (.cells #[.string op, .string tx, .slice X t.ks.length k] 25) = w1 := ⟨_, rfl⟩
 have B1 := hid (show Below w.heap.size w w1 by rw [← hw1]; exact below_alloc w _)
 have V1 := hid (show NBox w1 w.heap.size (.string op) (.string tx) (.slice X t.ks.length k) by rw [← hw1]; exact NBox.fresh _ _ _ _ _)
 have z1 : w.heap.size ≤ w1.heap.size := by rw [← hw1]; simp
 have HW1 := hid hw1
 clear hw1
 cases p
 ·rw [Bool.false_and, Bool.false_and]
  go_enter Tryz.func106, Tryz.ntmps106
  go_upto_region 1 with fail
  rw [HW1.out]
  obtain ⟨x0, x1, x2, xf⟩ := V1.out
  go_wp2
  go_ret
  exact ⟨rfl, B1.out⟩
 ·by_cases hl : t.ks.length = 1
  ·have HL := hid hl
   obtain ⟨N, hN⟩ : ∃ N, t.ks.length = N := ⟨_, rfl⟩
   have hk1 : (t.ks.length == 1) = true := by simpa using hl
   obtain ⟨ad, ⟨op', tx', X', n', m'⟩, eA, hS', q0, q1, q2, hk'⟩ := (HN.out.bel HS.out B1.out).kid 0 (by omega)
   dsimp only at eA q0 q1 q2
   rw [Nat.zero_mul, show ad.add 0 = ad by simp [Addr.add]] at q0 q1 q2
   subst eA
   have hz : nthN t.ks 0 = t.ks[0]'(by omega) := by unfold nthN; rw [List.getD_eq_getElem?_getD, List.getElem?_eq_getElem]; rfl
   obtain ⟨b, hb⟩ : ∃ b, isColB (t.ks[0]'(by omega)) = b := ⟨_, rfl⟩
   have HC := hid (pisColumn (t.ks[0]'(by omega)) S op' tx' X' n' m' w1 (fun g hg => Nat.lt_of_lt_of_le (HS.out g hg) z1) hk')
   rw [hb] at HC
   rw [hz, hk1, hb, Bool.and_self, Bool.true_and]
   clear hb hk1 hz hk' hN
   rw [hl] at V1 HW1
   go_enter Tryz.func106, Tryz.ntmps106
   go_upto_region 1 with fail
   try rw [HL.out]
   rw [HW1.out]
   obtain ⟨x0, x1, x2, xf⟩ := V1.out
   go_wp2_with fail
   refine HC.out.mono ?_
   rintro e w2 ⟨rfl, hb2⟩
   have B2 := hid (B1.out.trans (hb2.mono z1))
   clear hb2
   go_wp2
   go_ret
   exact ⟨rfl, B2.out⟩
  ·have hk1 : (t.ks.length == 1) = false := by simpa using hl
   have hk2 : ((t.ks.length : Int) == 1) = false := by simp; omega
   rw [hk1, Bool.and_false, Bool.false_and]
   go_enter Tryz.func106, Tryz.ntmps106
   go_upto_region 1 with fail
   rw [HW1.out]
   obtain ⟨x0, x1, x2, xf⟩ := V1.out
   go_wp2
   go_ret
   exact ⟨rfl, B1.out⟩
theorem pisAgg : TellsN 108 isAggB := by
 intro t S op tx X n k w hS hn
 obtain ⟨eo, et, en, hkl⟩ := hn.texts
 dsimp only at eo et en
 subst en
 have hg : isAggB t = ((op.toList == [97, 103, 103] && t.ks.length == 1) && isCallB (nthN t.ks 0)) := by
  unfold isAggB isE
  rw [eo, ByteArray.toList_eq]
  rfl
 rw [hg]
 have HN := hid hn
 have HS := hid hS
 clear hg eo et hn hS
 obtain ⟨p, hp⟩ : ∃ p, (op.toList == [97, 103, 103]) = p := ⟨_, rfl⟩
 rw [hp]
 obtain ⟨w1, hw1⟩ : ∃ w1, w.alloc (.cells #[.string op, .string tx, .slice X t.ks.length k] 25) = w1 := ⟨_, rfl⟩
 have B1 := hid (show Below w.heap.size w w1 by rw [← hw1]; exact below_alloc w _)
 have V1 := hid (show NBox w1 w.heap.size (.string op) (.string tx) (.slice X t.ks.length k) by rw [← hw1]; exact NBox.fresh _ _ _ _ _)
 have z1 : w.heap.size ≤ w1.heap.size := by rw [← hw1]; simp
 have HW1 := hid hw1
 clear hw1
 cases p
 ·rw [Bool.false_and, Bool.false_and]
  go_enter Tryz.func108, Tryz.ntmps108
  go_upto_region 1 with fail
  rw [HW1.out]
  obtain ⟨x0, x1, x2, xf⟩ := V1.out
  go_wp2
  go_ret
  exact ⟨rfl, B1.out⟩
 ·by_cases hl : t.ks.length = 1
  ·have HL := hid hl
   obtain ⟨N, hN⟩ : ∃ N, t.ks.length = N := ⟨_, rfl⟩
   have hk1 : (t.ks.length == 1) = true := by simpa using hl
   obtain ⟨ad, ⟨op', tx', X', n', m'⟩, eA, hS', q0, q1, q2, hk'⟩ := (HN.out.bel HS.out B1.out).kid 0 (by omega)
   dsimp only at eA q0 q1 q2
   rw [Nat.zero_mul, show ad.add 0 = ad by simp [Addr.add]] at q0 q1 q2
   subst eA
   have hz : nthN t.ks 0 = t.ks[0]'(by omega) := by unfold nthN; rw [List.getD_eq_getElem?_getD, List.getElem?_eq_getElem]; rfl
   obtain ⟨b, hb⟩ : ∃ b, isCallB (t.ks[0]'(by omega)) = b := ⟨_, rfl⟩
   have HC := hid (pisCall (t.ks[0]'(by omega)) S op' tx' X' n' m' w1 (fun g hg => Nat.lt_of_lt_of_le (HS.out g hg) z1) hk')
   rw [hb] at HC
   rw [hz, hk1, hb, Bool.and_self, Bool.true_and]
   clear hb hk1 hz hk' hN
   rw [hl] at V1 HW1
   go_enter Tryz.func108, Tryz.ntmps108
   go_upto_region 1 with fail
   try rw [HL.out]
   rw [HW1.out]
   obtain ⟨x0, x1, x2, xf⟩ := V1.out
   go_wp2_with fail
   refine HC.out.mono ?_
   rintro e w2 ⟨rfl, hb2⟩
   have B2 := hid (B1.out.trans (hb2.mono z1))
   clear hb2
   go_wp2
   go_ret
   exact ⟨rfl, B2.out⟩
  ·have hk1 : (t.ks.length == 1) = false := by simpa using hl
   have hk2 : ((t.ks.length : Int) == 1) = false := by simp; omega
   rw [hk1, Bool.and_false, Bool.false_and]
   go_enter Tryz.func108, Tryz.ntmps108
   go_upto_region 1 with fail
   rw [HW1.out]
   obtain ⟨x0, x1, x2, xf⟩ := V1.out
   go_wp2
   go_ret
   exact ⟨rfl, B1.out⟩
def KAt (w : World) (S : Nat → Prop) (A : Option Addr) (ks : List Nod) : Prop := ∀ (k : Nat) (hk : k < ks.length), ∃ (ad : Addr) (y : NV), A = some ad ∧ S ad.block ∧ w.cell? (ad.add (k * 3)) = some (.string y.1) ∧ w.cell? ⟨(ad.add (k * 3)).block, (ad.add (k * 3)).off + 1, none⟩ = some (.string y.2.1) ∧ w.cell? ⟨(ad.add (k * 3)).block, (ad.add (k * 3)).off + 2, none⟩ = some (.slice y.2.2.1 y.2.2.2.1 y.2.2.2.2) ∧ RIn w S ks[k] y
theorem RIn.kat {w : World} {S : Nat → Prop} {t : Nod} {x : NV} (h : RIn w S t x) : KAt w S x.2.2.1 t.ks := fun k hk => h.kid k hk
theorem KAt.bel {w w' : World} {S : Nat → Prop} {A : Option Addr} {ks : List Nod} (h : KAt w S A ks) (hS : ∀ g, S g → g < w.heap.size) (hb : Below w.heap.size w w') : KAt w' S A ks := by
 intro k hk
 obtain ⟨ad, y, e, hs, c0, c1, c2, hr⟩ := h k hk
 have hl : (ad.add (k * 3)).block < w.heap.size := by rw [add_block]; exact hS _ hs
 exact ⟨ad, y, e, hs, (hb.cell hl).trans c0, (hb.cell (p := ⟨(ad.add (k * 3)).block, (ad.add (k * 3)).off + 1, none⟩) hl).trans c1, (hb.cell (p := ⟨(ad.add (k * 3)).block, (ad.add (k * 3)).off + 2, none⟩) hl).trans c2, hr.bel hS hb⟩
theorem addr_add (a : Addr) (m n : Nat) : (a.add m).add n = a.add (m + n) := by
 by_cases hn : n = 0
 ·subst hn
  simp [Addr.add]
 ·by_cases hm : m = 0
  ·subst hm
   simp [Addr.add]
  ·simp [Addr.add, hn, hm, Nat.add_assoc]
theorem KAt.drop {w : World} {S : Nat → Prop} {ad : Addr} {ks : List Nod} (h : KAt w S (some ad) ks) (c : Nat) : KAt w S (some (ad.add (c * 3))) (ks.drop c) := by
 intro k hk
 obtain ⟨ad', y, e, hs, c0, c1, c2, hr⟩ := h (c + k) (by rw [List.length_drop] at hk; omega)
 injection e with e
 subst e
 refine ⟨_, y, rfl, by rw [add_block]; exact hs, ?_, ?_, ?_, by rw [List.getElem_drop]; exact hr⟩
 ·rw [addr_add, show c * 3 + k * 3 = (c + k) * 3 by omega]; exact c0
 ·rw [addr_add, show c * 3 + k * 3 = (c + k) * 3 by omega]; exact c1
 ·rw [addr_add, show c * 3 + k * 3 = (c + k) * 3 by omega]; exact c2
theorem pall_any (fn : Nat) (en : ∀ args w, (callFunc fn args).run Tryz.prog w = .ok (.enter fn args) w) (good : Nod → Bool) (hf : TellsN fn good) (ks : List Nod) (hl : ks.length ≤ 1000000000) (A : Option Addr) (cap : Nat) (S : Nat → Prop) (w : World) (hS : ∀ g, S g → g < w.heap.size) (h : KAt w S A ks) :
  Calls Tryz.prog 104 #[.slice A ks.length cap, .func (.func fn) #[] #[]] w fun e w' => e = .returned (.bool (ks.all good)) ∧ Below w.heap.size w w' := by
 have HK := hid h
 have HS := hid hS
 have HF := hid hf
 obtain ⟨res, hres⟩ : ∃ res, ks.all good = res := ⟨_, rfl⟩
 rw [hres]
 have HR := hid hres
 clear h hS hf hres
 go_enter Tryz.func104, Tryz.ntmps104
 go_wp2
 go_loopw [9] (fun t' wr => ∃ k : Nat, k ≤ ks.length ∧ t' = .int .i64 k ∧ Hid ((ks.take k).all good = true) ∧ Below w.heap.size w wr) (fun t' _ => ks.length - (intOf t').toNat)
 case atStart => exact ⟨0, by omega, rfl, hid (by simp), Below.refl _ _⟩
 case round =>
  obtain ⟨k, hk, rfl, HG, hb⟩ := hrel
  have HB := hid hb
  have hz := hb.size
  have HK' := hid (HK.out.bel HS.out hb)
  clear hb
  by_cases hlt : k < ks.length
  ·obtain ⟨ad, ⟨op', tx', X', n', m'⟩, eA, hS', q0, q1, q2, hk'⟩ := HK'.out k hlt
   dsimp only at eA q0 q1 q2
   subst eA
   have had := HS.out _ hS'
   obtain ⟨w6, hw6⟩ : ∃ w6, wr.alloc (.cells #[.string op', .string tx', .slice X' n' m'] 25) = w6 := ⟨_, rfl⟩
   have z6 : w.heap.size ≤ w6.heap.size := by rw [← hw6]; simp; omega
   have B6 := hid (show Below w.heap.size w w6 by rw [← hw6]; exact HB.out.alloc hz _)
   have V6 := hid (show NBox w6 wr.heap.size (.string op') (.string tx') (.slice X' n' m') by rw [← hw6]; exact NBox.fresh _ _ _ _ _)
   obtain ⟨b, hb⟩ : ∃ b, good ks[k] = b := ⟨_, rfl⟩
   have HC := hid (HF.out ks[k] S op' tx' X' n' m' w6 (fun g hg => Nat.lt_of_lt_of_le (HS.out g hg) z6) (hk'.bel (fun g hg => Nat.lt_of_lt_of_le (HS.out g hg) hz) (by rw [← hw6]; exact below_alloc wr _)))
   rw [hb] at HC
   have HGD := hid hb
   have HTK := hid (List.take_succ_eq_append_getElem hlt)
   have HW6 := hid hw6
   have HLT := hid hlt
   clear hk' hb hw6
   go_upto_region 4 with fail
   rw [HW6.out]
   clear q0 q1 q2
   obtain ⟨v0, v1, v2, vf⟩ := V6.out
   go_wp2_with fail
   refine HC.out.mono ?_
   rintro e w7 ⟨rfl, hb7⟩
   have B7 := hid (B6.out.trans (hb7.mono z6))
   clear hb7 v0 v1 v2 vf
   cases b with
   | false =>
    have hr9 : res = false := by
     rw [← HR.out]
     simp only [List.all_eq_false]
     exact ⟨_, List.getElem_mem HLT.out, by rw [HGD.out]; simp⟩
    subst hr9
    go_wp2
    go_ret
    exact ⟨rfl, B7.out⟩
   | true =>
    go_wp2
    go_roundw
    case rel => exact ⟨k + 1, by omega, by go_num, hid (by rw [HTK.out, List.all_append, HG.out]; simp [HGD.out]), B7.out⟩
    case measure => simp [intOf]; omega
  ·obtain rfl : k = ks.length := by omega
   have hr9 : res = true := by rw [← HR.out]; have h9 := HG.out; rw [List.take_length] at h9; exact h9
   subst hr9
   go_wp2
   go_ret
   exact ⟨rfl, HB.out⟩
theorem pisBy : TellsN 107 isByB := by
 intro t S op tx X n k w hS hn
 obtain ⟨eo, et, en, hkl⟩ := hn.texts
 dsimp only at eo et en
 subst en
 have hg : isByB t = ((op.toList == [98, 121] && tx.toList == []) && t.ks.all isColB) := by
  unfold isByB
  rw [eo, et, ByteArray.toList_eq, ByteArray.toList_eq]
  rfl
 rw [hg]
 have HN := hid hn
 have HS := hid hS
 clear hg eo et hn hS
 obtain ⟨p, hp⟩ : ∃ p, (op.toList == [98, 121]) = p := ⟨_, rfl⟩
 obtain ⟨q, hq⟩ : ∃ q, (tx.toList == []) = q := ⟨_, rfl⟩
 rw [hp, hq]
 obtain ⟨w1, hw1⟩ : ∃ w1, w.alloc (.cells #[.string op, .string tx, .slice X t.ks.length k] 25) = w1 := ⟨_, rfl⟩
 have B1 := hid (show Below w.heap.size w w1 by rw [← hw1]; exact below_alloc w _)
 have V1 := hid (show NBox w1 w.heap.size (.string op) (.string tx) (.slice X t.ks.length k) by rw [← hw1]; exact NBox.fresh _ _ _ _ _)
 have z1 : w.heap.size ≤ w1.heap.size := by rw [← hw1]; simp
 obtain ⟨b, hb⟩ : ∃ b, t.ks.all isColB = b := ⟨_, rfl⟩
 have HC := hid (pall_any 131 (enters_of Tryz.func131 (by kernel_rfl) rfl) isColB pisColumn t.ks hkl X k S w1 (fun g hg => Nat.lt_of_lt_of_le (HS.out g hg) z1) (HN.out.bel HS.out B1.out).kat)
 rw [hb] at HC
 rw [hb]
 have HW1 := hid hw1
 clear hw1 hb
 cases p
 ·rw [Bool.false_and, Bool.false_and]
  go_enter Tryz.func107, Tryz.ntmps107
  go_upto_region 1 with fail
  rw [HW1.out]
  obtain ⟨x0, x1, x2, xf⟩ := V1.out
  go_wp2
  go_ret
  exact ⟨rfl, B1.out⟩
 ·cases q
  ·rw [Bool.and_false, Bool.false_and]
   go_enter Tryz.func107, Tryz.ntmps107
   go_upto_region 1 with fail
   rw [HW1.out]
   obtain ⟨x0, x1, x2, xf⟩ := V1.out
   go_wp2
   go_ret
   exact ⟨rfl, B1.out⟩
  ·rw [Bool.and_self, Bool.true_and]
   go_enter Tryz.func107, Tryz.ntmps107
   go_upto_region 1 with fail
   rw [HW1.out]
   obtain ⟨x0, x1, x2, xf⟩ := V1.out
   go_wp2_with fail
   refine HC.out.mono ?_
   rintro e w2 ⟨rfl, hb2⟩
   have B2 := hid (B1.out.trans (hb2.mono z1))
   clear hb2
   go_wp2
   go_ret
   exact ⟨rfl, B2.out⟩
end Go.Proofs.YtjbpkpfmgbhlpaaGreatDoor.Code
