/-
  The live question of layer 4: its answer is true.
-/
import Derived.Test.YtmaecoidoejipaaDoorCodeRenc
namespace Go.Proofs.YtmaecoidoejipaaDoor.Code
open Go.ChangeShapes Go.WideShapes Go.ChangeAt Go.RowKit Val
set_option linter.unusedVariables false

def live : List (Int × Int × ByteArray) := [(0, 0, ⟨#[]⟩), (2, -1, ⟨#[]⟩), (4, 0, ⟨#[97, 0]⟩)]
theorem live_enc : encL live = [0, 2, 127, 255, 255, 255, 4, 97, 0, 255, 0, 0] := by decide
theorem live_right : rightL live = true := by decide
theorem live_fit : FitL live := by
  intro v hv
  simp [live] at hv
  rcases hv with rfl | rfl | rfl
  all_goals simp [fitV]
theorem live_vals (w : World) (t : TypeId) : Vals (w.alloc (.cells #[.int .i64 0, .int .i64 0, .string ⟨#[]⟩, .int .i64 2, .int .i64 (-1), .string ⟨#[]⟩, .int .i64 4, .int .i64 0, .string ⟨#[97, 0]⟩] t)) (w.alloc (.cells #[.int .i64 0, .int .i64 0, .string ⟨#[]⟩, .int .i64 2, .int .i64 (-1), .string ⟨#[]⟩, .int .i64 4, .int .i64 0, .string ⟨#[97, 0]⟩] t)).heap.size (some ⟨w.heap.size, 0, none⟩) live := by
  intro i hi
  refine ⟨⟨w.heap.size, 0, none⟩, rfl, by simp, ?_⟩
  have h : i < 3 := hi
  match i, h with
  | 0, _ => exact ⟨by simp [go_sem, Addr.add, live], by simp [go_sem, Addr.add, live], by simp [go_sem, Addr.add, live]⟩
  | 1, _ => exact ⟨by simp [go_sem, Addr.add, live], by simp [go_sem, Addr.add, live], by simp [go_sem, Addr.add, live]⟩
  | 2, _ => exact ⟨by simp [go_sem, Addr.add, live], by simp [go_sem, Addr.add, live], by simp [go_sem, Addr.add, live]⟩
theorem c_encode (m : Int) (w : World) (t : TypeId) (hm : w.cell? ⟨0, 0, none⟩ = some (.int .i64 m)) :
    Calls Tryd.prog 9 #[.slice (some ⟨w.heap.size, 0, none⟩) 3 3] (w.alloc (.cells #[.int .i64 0, .int .i64 0, .string ⟨#[]⟩, .int .i64 2, .int .i64 (-1), .string ⟨#[]⟩, .int .i64 4, .int .i64 0, .string ⟨#[97, 0]⟩] t))
      fun e w' => e = .returned (.tuple #[.string ⟨#[0, 2, 127, 255, 255, 255, 4, 97, 0, 255, 0, 0]⟩, .int .i64 0]) ∧ Below w.heap.size w w' := by
  have hlt : 0 < w.heap.size := World.block_lt_of_cell? _ _ hm
  have h := encode_any (some ⟨w.heap.size, 0, none⟩) 3 live m (w.alloc (.cells #[.int .i64 0, .int .i64 0, .string ⟨#[]⟩, .int .i64 2, .int .i64 (-1), .string ⟨#[]⟩, .int .i64 4, .int .i64 0, .string ⟨#[97, 0]⟩] t)) (live_vals w t) live_fit (by decide) (by rw [(below_alloc w _).cell (p := ⟨0, 0, none⟩) hlt]; exact hm)
  rw [(enc_yes live_right).1, (enc_yes live_right).2, live_enc] at h
  exact h.mono fun e w' ⟨he, hb⟩ => ⟨he, bnext (below_alloc w _) (by simp) hb⟩
theorem c_decode (m : Int) (w : World) (hm : w.cell? ⟨0, 0, none⟩ = some (.int .i64 m)) :
    Calls Tryd.prog 12 #[.string ⟨#[0, 2, 127, 255, 255, 255, 4, 97, 0, 255, 0, 0]⟩] w fun e w' => ∃ A cap, e = .returned (.tuple #[.slice A 3 cap, .int .i64 0]) ∧ Below w.heap.size w w' := by
  have h := decode_any ⟨#[0, 2, 127, 255, 255, 255, 4, 97, 0, 255, 0, 0]⟩ m w (by decide) hm
  refine h.mono ?_
  rintro e w' ⟨A, cap, he, hv, hb⟩
  have hd : decP (⟨#[0, 2, 127, 255, 255, 255, 4, 97, 0, 255, 0, 0]⟩ : ByteArray).data.toList = some live := by
    have := dec_enc live_right live_fit
    rw [live_enc] at this
    exact this
  have h1 : decL (⟨#[0, 2, 127, 255, 255, 255, 4, 97, 0, 255, 0, 0]⟩ : ByteArray).data.toList = live := by unfold decL; rw [hd]; rfl
  have h2 : decE (⟨#[0, 2, 127, 255, 255, 255, 4, 97, 0, 255, 0, 0]⟩ : ByteArray).data.toList = 0 := if_neg (by rw [hd]; simp)
  rw [h1, h2] at he
  exact ⟨A, cap, he, hb⟩
theorem c_skip (m : Int) (w : World) (hm : w.cell? ⟨0, 0, none⟩ = some (.int .i64 m)) :
    Calls Tryd.prog 15 #[.string ⟨#[2, 127, 255, 255, 255, 4, 97, 0, 255, 0, 0]⟩] w fun e w' => e = .returned (.tuple #[.int .i64 5, .int .i64 0]) ∧ Below w.heap.size w w' := by
  have h := skip_any ⟨#[2, 127, 255, 255, 255, 4, 97, 0, 255, 0, 0]⟩ m w (by decide) hm
  rw [show fstN (⟨#[2, 127, 255, 255, 255, 4, 97, 0, 255, 0, 0]⟩ : ByteArray).data.toList = 5 by decide, show skipE (⟨#[2, 127, 255, 255, 255, 4, 97, 0, 255, 0, 0]⟩ : ByteArray).data.toList = 0 by decide] at h
  exact h
set_option maxHeartbeats 4000000 in
theorem alive_any (m : Int) (w : World) (hm : w.cell? ⟨0, 0, none⟩ = some (.int .i64 m)) :
    Calls Tryd.prog 8 #[] w fun e w' => e = .returned (.bool true) ∧ Below w.heap.size w w' := by
  have hlt : 0 < w.heap.size := World.block_lt_of_cell? _ _ hm
  have HE := Lib.hid (c_encode m w 32 hm)
  have HM := Lib.hid hm
  clear hm
  have hsl := cut_from ⟨#[0, 2, 127, 255, 255, 255, 4, 97, 0, 255, 0, 0]⟩ 1 1 rfl (by decide)
  rw [show (⟨#[0, 2, 127, 255, 255, 255, 4, 97, 0, 255, 0, 0]⟩ : ByteArray).extract 1 (⟨#[0, 2, 127, 255, 255, 255, 4, 97, 0, 255, 0, 0]⟩ : ByteArray).size = ⟨#[2, 127, 255, 255, 255, 4, 97, 0, 255, 0, 0]⟩ by rfl] at hsl
  go_enter Tryd.func8, Tryd.ntmps8
  go_wp2_with fail
  refine HE.out.mono ?_
  rintro e w1 ⟨rfl, hb1⟩
  have L1 := Lib.hid hb1
  clear hb1 HE
  go_wp2_with fail
  refine (c_decode m _ (by rw [L1.out.cell (p := ⟨0, 0, none⟩) hlt]; exact HM.out)).mono ?_
  rintro e w2 ⟨A, cap, rfl, hb2⟩
  have L2 := Lib.hid (bnext L1.out L1.out.size hb2)
  clear hb2
  go_wp2_with fail
  refine (c_skip m _ (by rw [L2.out.cell (p := ⟨0, 0, none⟩) hlt]; exact HM.out)).mono ?_
  rintro e w3 ⟨rfl, hb3⟩
  have L3 := Lib.hid (bnext L2.out L2.out.size hb3)
  clear hb3
  go_wp2
  go_ret
  exact ⟨rfl, L3.out⟩
end Go.Proofs.YtmaecoidoejipaaDoor.Code
