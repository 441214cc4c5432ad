/-
  The contracts of Of, Add and Neg of package zset: what they answer is what the document's do.
-/
import Derived.Test.YtlejhimcaidbeaaZSumPure
namespace Go.Proofs.Ytlejhimcaidbeaa.Items
open Go.ChangeShapes Go.WideShapes Go.ChangeAt Go.RowKit Val Go.Proofs.Ytlejhimcaidbeaa.Code Go.Proofs.Ytlejhimcaidbeaa.Elems Go.Proofs.Ytlejhimcaidbeaa.ZP Go.Proofs.Ytlejhimcaidbeaa.Bits Go.Proofs.Ytlejhimcaidbeaa.Range
set_option linter.unusedVariables false
set_option maxRecDepth 100000

theorem OwnRows.mono {w : World} {B B' : Nat} {M : List It} (h : OwnRows w B M) (hB : B' ≤ B) : OwnRows w B' M := by
  intro x hx
  obtain ⟨g, e, hb, h1⟩ := h x hx
  exact ⟨g, e, by omega, h1⟩
theorem SumEnd.set {w w' : World} {Q : List (List (Int × Int × ByteArray) × Int)} {E : Int} {e : Ending} (h : SumEnd w Q E e w') : SetPost w Q E e w' := by
  obtain ⟨A, cap, M, he, ha, hr, hq, hb⟩ := h
  exact ⟨A, cap, M, he, ⟨ha, hr.vals⟩, hq, hb⟩
theorem SumEnd.next {w W w' : World} {Q : List (List (Int × Int × ByteArray) × Int)} {E : Int} {e : Ending} (h : SumEnd W Q E e w') (hb : Below w.heap.size w W) : SumEnd w Q E e w' := by
  obtain ⟨A, cap, M, he, ha, hr, hq, hb2⟩ := h
  exact ⟨A, cap, M, he, ha, hr.mono hb.size, hq, hb.trans (hb2.mono hb.size)⟩
theorem setsAt_one (w : World) (A : Option Addr) (ca : Nat) (a : List It) (t : TypeId) (hA : Items w w.heap.size A a) :
    SetsAt (w.alloc (.cells #[.slice A a.length ca] t)) (w.alloc (.cells #[.slice A a.length ca] t)).heap.size (some ⟨w.heap.size, 0, none⟩) [(A, ca, a)] := by
  have hb := below_alloc w (.cells #[.slice A a.length ca] t)
  have hn := World.news_of_block (heap_alloc_new w (.cells #[.slice A a.length ca] t))
  have hz : w.heap.size < (w.alloc (.cells #[.slice A a.length ca] t)).heap.size := by simp
  intro i hi
  match i, hi with
  | 0, _ => exact ⟨⟨_, rfl, hz, hn 0 _ rfl⟩, hA.next hb⟩
theorem catS_one (A : Option Addr) (ca : Nat) (a : List It) : catS [(A, ca, a)] = a := by simp [catS]

set_option maxHeartbeats 1000000 in
theorem zadd_any (G : Option Addr) (cap : Nat) (LS : List (Option Addr × Nat × List It)) (w : World) (hS : SetsAt w w.heap.size G LS) (hF : FitI (catS LS)) (hs : ∀ x ∈ catS LS, x.2.2.1.length ≤ 140737488355328) (hl : LS.length ≤ 1000) (hc : (catS LS).length ≤ 4398046511104) :
    Calls Try.prog 11 #[.slice G LS.length cap] w (SumEnd w (pl (ofL (catS LS))) (ofE (catS LS))) := by
  have H := Lib.hid (zsum_any 33 id turns_add (enters_of Try.func33 (by kernel_rfl) rfl) G cap LS w hS hF hs hl hc)
  have HF := Lib.hid hF
  clear hS hF hs
  go_enter Try.func11, Try.ntmps11
  go_wp2_with fail
  refine H.out.mono ?_
  rintro e w1 ⟨M, hp, hg, A, c1, N, rfl, ha, hr, hq, hb⟩
  obtain ⟨e1, e2⟩ := sum_is hp hg HF.out hc
  rw [e1] at hq
  rw [e2]
  have X := Lib.hid (show SumEnd w (pl (ofL (catS LS))) (ofE (catS LS)) (.returned (.tuple #[.slice A N.length c1, .int .i64 (ofE (catS LS))])) w1 from ⟨A, c1, N, rfl, ha, hr, hq, hb⟩)
  clear ha hr hq hb hp hg e1 e2 H
  go_wp2
  go_ret2
  exact X.out
set_option maxHeartbeats 1000000 in
theorem zof_any (A : Option Addr) (cap : Nat) (L : List It) (w : World) (hI : Items w w.heap.size A L) (hF : FitI L) (hs : ∀ x ∈ L, x.2.2.1.length ≤ 140737488355328) (hl : L.length ≤ 4398046511104) :
    Calls Try.prog 9 #[.slice A L.length cap] w (SumEnd w (pl (ofL L)) (ofE L)) := by
  have hbz := below_alloc w (.cells #[.slice A L.length cap] 25)
  have h := zadd_any (some ⟨w.heap.size, 0, none⟩) 1 [(A, cap, L)] _ (setsAt_one w A cap L 25 hI) (by rw [catS_one]; exact hF) (by rw [catS_one]; exact hs) (by simp) (by rw [catS_one]; exact hl)
  rw [catS_one] at h
  have H := Lib.hid h
  have HB := Lib.hid hbz
  clear hI hF hs h hbz
  go_enter Try.func9, Try.ntmps9
  go_wp2_with fail
  refine H.out.mono ?_
  rintro e w1 h
  have h2 := h.next HB.out
  obtain ⟨A1, c1, N, rfl, h3⟩ := h2
  have X := Lib.hid (show SumEnd w (pl (ofL L)) (ofE L) (.returned (.tuple #[.slice A1 N.length c1, .int .i64 (ofE L)])) w1 from ⟨A1, c1, N, rfl, h3⟩)
  clear h h3 H
  go_wp2
  go_ret2
  exact X.out
set_option maxHeartbeats 1000000 in
theorem zneg_any (A : Option Addr) (cap : Nat) (L : List It) (w : World) (hI : Items w w.heap.size A L) (hF : FitI L) (hs : ∀ x ∈ L, x.2.2.1.length ≤ 140737488355328) (hl : L.length ≤ 4398046511104) (hr : rightI L = true) :
    Calls Try.prog 13 #[.slice A L.length cap] w (SumEnd w (pl (negI L)) (negIE L)) := by
  have hbz := below_alloc w (.cells #[.slice A L.length cap] 25)
  have h := zsum_any 34 (fun n => -n) turns_neg (enters_of Try.func34 (by kernel_rfl) rfl) (some ⟨w.heap.size, 0, none⟩) 1 [(A, cap, L)] _ (setsAt_one w A cap L 25 hI) (by rw [catS_one]; exact hF) (by rw [catS_one]; exact hs) (by simp) (by rw [catS_one]; exact hl)
  rw [catS_one] at h
  have H := Lib.hid h
  have HB := Lib.hid hbz
  have HF := Lib.hid hF
  clear hI hF hs h hbz
  go_enter Try.func13, Try.ntmps13
  go_wp2_with fail
  refine H.out.mono ?_
  rintro e w1 ⟨M, hp, hg, h⟩
  obtain ⟨e1, e2⟩ := sum_neg hp hg HF.out hl hr
  rw [e1, e2] at h
  have h2 := h.next HB.out
  obtain ⟨A1, c1, N, rfl, h3⟩ := h2
  have X := Lib.hid (show SumEnd w (pl (negI L)) (negIE L) (.returned (.tuple #[.slice A1 N.length c1, .int .i64 (negIE L)])) w1 from ⟨A1, c1, N, rfl, h3⟩)
  clear h h3 H hp hg e1 e2
  go_wp2
  go_ret2
  exact X.out
end Go.Proofs.Ytlejhimcaidbeaa.Items
