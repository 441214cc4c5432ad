/-
  The law's live question about an index.
-/
import Derived.Test.YtjjikooabmddlaaGreatDoorM28
import Derived.Test.YtjjikooabmddlaaGreatDoorM10
import Derived.Test.YtjjikooabmddlaaGreatDoorM5
import Derived.Test.YtjjikooabmddlaaGreatDoorM21
import Derived.Shelf.RegionOpenPlain
namespace Go.Proofs.YtjjikooabmddlaaGreatDoor.Items
open Go.ChangeShapes Go.WideShapes Go.ChangeAt Go.RowKit Val Go.Proofs.YtjjikooabmddlaaGreatDoor.Code Go.Proofs.YtjjikooabmddlaaGreatDoor.Elems Go.Proofs.YtjjikooabmddlaaGreatDoor.ZP Go.Proofs.YtjjikooabmddlaaGreatDoor.MapSl
set_option linter.unusedVariables false
set_option maxRecDepth 100000

def oneV : Int × Int × ByteArray := (2, 1, ⟨#[]⟩)
def nilV : Int × Int × ByteArray := (0, 0, ⟨#[]⟩)
def three (a b c : Nat) : List It := [(some ⟨a, 0, none⟩, 2, [oneV, oneV], 2), (some ⟨b, 0, none⟩, 2, [nilV, oneV], 3), (some ⟨c, 0, none⟩, 2, [oneV, nilV], 4)]
def Q3 : PL := [([nilV, oneV], 3), ([oneV, nilV], 4), ([oneV, oneV], 2)]
theorem three_of (a b c : Nat) : pl (ofL (three a b c)) = Q3 ∧ ofE (three a b c) = 0 := by
  constructor <;> kernel_rfl
theorem q3_right : RightP Q3 := by
  intro x hx
  simp only [Q3, List.mem_cons, List.not_mem_nil, or_false] at hx
  rcases hx with rfl | rfl | rfl <;> kernel_rfl
theorem fitV_one : fitV oneV := by
  unfold fitV
  simp only [oneV]
  omega
theorem fitV_nil : fitV nilV := by
  unfold fitV
  simp only [nilV]
  omega
theorem fitL_two {a b : Int × Int × ByteArray} (ha : fitV a) (hb : fitV b) : FitL [a, b] := fun v hv => by
  simp only [List.mem_cons, List.not_mem_nil, or_false] at hv
  rcases hv with rfl | rfl
  · exact ha
  · exact hb
theorem fitL_uno {a : Int × Int × ByteArray} (ha : fitV a) : FitL [a] := fun v hv => by
  simp only [List.mem_cons, List.not_mem_nil, or_false] at hv
  rw [hv]
  exact ha
theorem three_fit (a b c : Nat) : FitI (three a b c) ∧ ∀ x ∈ three a b c, x.2.2.1.length ≤ 140737488355328 := by
  constructor
  · intro x hx
    simp only [three, List.mem_cons, List.not_mem_nil, or_false] at hx
    rcases hx with rfl | rfl | rfl
    · exact ⟨fitL_two fitV_one fitV_one, by unfold fits; simp only; omega⟩
    · exact ⟨fitL_two fitV_nil fitV_one, by unfold fits; simp only; omega⟩
    · exact ⟨fitL_two fitV_one fitV_nil, by unfold fits; simp only; omega⟩
  · intro x hx
    simp only [three, List.mem_cons, List.not_mem_nil, or_false] at hx
    rcases hx with rfl | rfl | rfl <;> simp
theorem okI_pl (l : List Int) (s : List It) : okI l s = (pl s).all fun x => okP x.1 l && rightR x.1 := by
  unfold okI pl
  rw [List.all_map]
  rfl
theorem alive_world (W W5 : World) (h : W5 = ((((W.alloc (.cells #[.int .i64 2, .int .i64 1, .string ⟨#[]⟩] 51)).alloc (.cells #[.int .i64 2, .int .i64 1, .string ⟨#[]⟩, .int .i64 2, .int .i64 1, .string ⟨#[]⟩] 51)).alloc (.cells #[.int .i64 0, .int .i64 0, .string ⟨#[]⟩, .int .i64 2, .int .i64 1, .string ⟨#[]⟩] 51)).alloc (.cells #[.int .i64 2, .int .i64 1, .string ⟨#[]⟩, .int .i64 0, .int .i64 0, .string ⟨#[]⟩] 51)).alloc (.cells #[.slice (some ⟨W.heap.size + 1, 0, none⟩) 2 2, .int .i64 2, .slice (some ⟨W.heap.size + 1 + 1, 0, none⟩) 2 2, .int .i64 3, .slice (some ⟨W.heap.size + 1 + 1 + 1, 0, none⟩) 2 2, .int .i64 4] 48)) :
    Items W5 W5.heap.size (some ⟨W.heap.size + 1 + 1 + 1 + 1, 0, none⟩) (three (W.heap.size + 1) (W.heap.size + 1 + 1) (W.heap.size + 1 + 1 + 1)) ∧ Below W.heap.size W W5 ∧ W5.cell? ⟨W.heap.size, 0, none⟩ = some (.int .i64 2) ∧ W5.cell? ⟨W.heap.size, 1, none⟩ = some (.int .i64 1) ∧ W5.cell? ⟨W.heap.size, 2, none⟩ = some (.string ⟨#[]⟩) ∧ W.heap.size < W5.heap.size := by
  obtain ⟨Wa, ha⟩ : ∃ Wa, Wa = W.alloc (.cells #[.int .i64 2, .int .i64 1, .string ⟨#[]⟩] 51) := ⟨_, rfl⟩
  obtain ⟨Wb, hb⟩ : ∃ Wb, Wb = Wa.alloc (.cells #[.int .i64 2, .int .i64 1, .string ⟨#[]⟩, .int .i64 2, .int .i64 1, .string ⟨#[]⟩] 51) := ⟨_, rfl⟩
  obtain ⟨Wc, hc⟩ : ∃ Wc, Wc = Wb.alloc (.cells #[.int .i64 0, .int .i64 0, .string ⟨#[]⟩, .int .i64 2, .int .i64 1, .string ⟨#[]⟩] 51) := ⟨_, rfl⟩
  obtain ⟨Wd, hd⟩ : ∃ Wd, Wd = Wc.alloc (.cells #[.int .i64 2, .int .i64 1, .string ⟨#[]⟩, .int .i64 0, .int .i64 0, .string ⟨#[]⟩] 51) := ⟨_, rfl⟩
  rw [← ha, ← hb, ← hc, ← hd] at h
  have sa : Wa.heap.size = W.heap.size + 1 := by rw [ha]; simp
  have sb : Wb.heap.size = W.heap.size + 1 + 1 := by rw [hb, World.size_alloc, sa]
  have sc : Wc.heap.size = W.heap.size + 1 + 1 + 1 := by rw [hc, World.size_alloc, sb]
  have sd : Wd.heap.size = W.heap.size + 1 + 1 + 1 + 1 := by rw [hd, World.size_alloc, sc]
  have la : Below W.heap.size W Wa := ha ▸ below_alloc W _
  have lb : Below Wa.heap.size Wa Wb := hb ▸ below_alloc Wa _
  have lc : Below Wb.heap.size Wb Wc := hc ▸ below_alloc Wb _
  have ld : Below Wc.heap.size Wc Wd := hd ▸ below_alloc Wc _
  have le : Below Wd.heap.size Wd W5 := h ▸ below_alloc Wd _
  have s5 : W5.heap.size = W.heap.size + 1 + 1 + 1 + 1 + 1 := by rw [h, World.size_alloc, sd]
  have nb : Blk Wb (W.heap.size + 1) [oneV, oneV] := by rw [← sa, hb]; exact heap_alloc_new Wa _
  have nc : Blk Wc (W.heap.size + 1 + 1) [nilV, oneV] := by rw [← sb, hc]; exact heap_alloc_new Wb _
  have nd : Blk Wd (W.heap.size + 1 + 1 + 1) [oneV, nilV] := by rw [← sc, hd]; exact heap_alloc_new Wc _
  have vb := (((nb.call lc).call ld).call le).vals
  have vc := ((nc.call ld).call le).vals
  have vd := (nd.call le).vals
  have na := World.news_of_block (heap_alloc_new W (.cells #[.int .i64 2, .int .i64 1, .string ⟨#[]⟩] 51))
  have ne := World.news_of_block (heap_alloc_new Wd (.cells #[.slice (some ⟨W.heap.size + 1, 0, none⟩) 2 2, .int .i64 2, .slice (some ⟨W.heap.size + 1 + 1, 0, none⟩) 2 2, .int .i64 3, .slice (some ⟨W.heap.size + 1 + 1 + 1, 0, none⟩) 2 2, .int .i64 4] 48))
  rw [← h, sd] at ne
  rw [← ha] at na
  have hab : Below Wa.heap.size Wa W5 := bnext (bnext (bnext lb lb.size lc) (bnext lb lb.size lc).size ld) (bnext (bnext lb lb.size lc) (bnext lb lb.size lc).size ld).size le
  have ka : ∀ j, W5.cell? ⟨W.heap.size, j, none⟩ = Wa.cell? ⟨W.heap.size, j, none⟩ := fun j => hab.cell (by show W.heap.size < _; omega)
  refine ⟨⟨fun i hi => ⟨_, rfl, by simp only; omega, fun j u hu => ?_⟩, fun x hx => ?_⟩, bnext la la.size hab, (ka 0).trans (na 0 _ rfl), (ka 1).trans (na 1 _ rfl), (ka 2).trans (na 2 _ rfl), by omega⟩
  · match i, hi with
    | 0, _ => match j, hu with
      | 0, hu => exact (ne 0 _ rfl).trans hu
      | 1, hu => exact (ne 1 _ rfl).trans hu
    | 1, _ => match j, hu with
      | 0, hu => exact (ne 2 _ rfl).trans hu
      | 1, hu => exact (ne 3 _ rfl).trans hu
    | 2, _ => match j, hu with
      | 0, hu => exact (ne 4 _ rfl).trans hu
      | 1, hu => exact (ne 5 _ rfl).trans hu
  · simp only [three, List.mem_cons, List.not_mem_nil, or_false] at hx
    rcases hx with rfl | rfl | rfl
    · exact vb
    · exact vc
    · exact vd
theorem q3_fit {M : List It} (h : pl M = Q3) : FitI M ∧ M.length = 3 ∧ ∀ x ∈ M, x.2.2.1.length ≤ 1000000 := by
  have hm : ∀ x ∈ M, (x.2.2.1, x.2.2.2) ∈ Q3 := fun x hx => by rw [← h]; exact List.mem_map.2 ⟨x, hx, rfl⟩
  refine ⟨fun x hx => ?_, by rw [← pl_length M, h]; rfl, fun x hx => ?_⟩
  · have := hm x hx
    simp only [Q3, List.mem_cons, List.not_mem_nil, or_false, Prod.mk.injEq] at this
    rcases this with ⟨h1, h2⟩ | ⟨h1, h2⟩ | ⟨h1, h2⟩
    · rw [h1, h2]; exact ⟨fitL_two fitV_nil fitV_one, by unfold fits; omega⟩
    · rw [h1, h2]; exact ⟨fitL_two fitV_one fitV_nil, by unfold fits; omega⟩
    · rw [h1, h2]; exact ⟨fitL_two fitV_one fitV_one, by unfold fits; omega⟩
  · have := hm x hx
    simp only [Q3, List.mem_cons, List.not_mem_nil, or_false, Prod.mk.injEq] at this
    rcases this with ⟨h1, h2⟩ | ⟨h1, h2⟩ | ⟨h1, h2⟩ <;> (rw [h1]; simp)
theorem q3_set : IsSet Q3 := by
  have h := of_cases (L := three 0 0 0) (by
    intro x hx
    simp only [three, pl, pu, List.map_cons, List.map_nil, List.mem_cons, List.not_mem_nil, or_false] at hx
    rcases hx with rfl | rfl | rfl <;> kernel_rfl)
  rw [(three_of 0 0 0).1, (three_of 0 0 0).2] at h
  rcases h with ⟨_, _, h, _⟩ | ⟨h, _⟩
  · exact h
  · omega
/-- three items are put -/
theorem put_three (p : Nat) (C : Option Addr) (cc : Nat) (A : Option Addr) (cap : Nat) (M : List It) (m : Int) (w : World) (hX : Idx w p none C cc [1] []) (hI : Items w w.heap.size A M) (hM : pl M = Q3) (hm : w.cell? ⟨0, 0, none⟩ = some (.int .i64 m)) :
    Calls Tryz.prog 11 #[.pointer (some ⟨p, 0, none⟩), .slice A M.length cap] w fun e w' => e = .returned (.int .i64 0) ∧ ∃ mo', Idx w' p mo' C cc [1] Q3 ∧ Chg w w' (badOf p none) := by
  obtain ⟨h1, h2, h3⟩ := q3_fit hM
  refine (xput_any p none C cc [1] [] A cap M m w hX hI h1 (by omega) (by simp) h3 (by simp) hm).mono ?_
  rintro e w' (⟨h, _⟩ | ⟨_, h, _⟩ | ⟨_, _, he, T, mo', hT, hX', hc, _⟩)
  · rw [okI_pl, hM, show (Q3.all fun x => okP x.1 [1] && rightR x.1) = true by kernel_rfl] at h
    cases h
  · exfalso
    refine h ?_
    rw [List.nil_append, hM]
    exact set_fit q3_set fun x hx => by
      simp only [Q3, List.mem_cons, List.not_mem_nil, or_false] at hx
      rcases hx with rfl | rfl | rfl <;> (unfold fits; omega)
  · rw [List.nil_append, hM] at hT
    have : T = Q3 := hT.eq (sum_self q3_set)
    rw [this] at hX'
    exact ⟨he, mo', hX', hc⟩
/-- a row that has no place 1 is put -/
theorem put_bad (p : Nat) (mo : Option Nat) (C : Option Addr) (cc : Nat) (A : Option Addr) (cap c : Nat) (R : Option Addr) (m : Int) (w : World) (hX : Idx w p mo C cc [1] Q3) (hI : Items w w.heap.size A [(R, c, [oneV], 1)]) (hm : w.cell? ⟨0, 0, none⟩ = some (.int .i64 m)) :
    Calls Tryz.prog 11 #[.pointer (some ⟨p, 0, none⟩), .slice A 1 cap] w fun e w' => e = .returned (.int .i64 51) ∧ Below w.heap.size w w' := by
  have hok : okI [1] [((R, c, [oneV], 1) : It)] = false := by kernel_rfl
  refine (xput_any p mo C cc [1] Q3 A cap [(R, c, [oneV], 1)] m w hX hI (fun x hx => ?_) (by simp) (by simp [Q3]) (fun x hx => ?_) (by simp) hm).mono ?_
  · rw [List.mem_singleton.1 hx]
    exact ⟨fitL_uno fitV_one, by unfold fits; simp only; omega⟩
  · rw [List.mem_singleton.1 hx]; simp
  · rintro e w' (⟨_, he, hb⟩ | ⟨h, _⟩ | ⟨h, _⟩)
    · exact ⟨he, hb⟩
    · rw [hok] at h; cases h
    · rw [hok] at h; cases h
theorem blk_uno (W : World) (v : Int × Int × ByteArray) : Blk (W.alloc (.cells #[.int .i64 v.1, .int .i64 v.2.1, .string v.2.2] 51)) W.heap.size [v] := heap_alloc_new W _
theorem bad_world (W : World) : Items ((W.alloc (.cells #[.int .i64 2, .int .i64 1, .string ⟨#[]⟩] 51)).alloc (.cells #[.slice (some ⟨W.heap.size, 0, none⟩) 1 1, .int .i64 1] 48)) ((W.alloc (.cells #[.int .i64 2, .int .i64 1, .string ⟨#[]⟩] 51)).alloc (.cells #[.slice (some ⟨W.heap.size, 0, none⟩) 1 1, .int .i64 1] 48)).heap.size (some ⟨W.heap.size + 1, 0, none⟩) [(some ⟨W.heap.size, 0, none⟩, 1, [oneV], 1)] := by
  have hb := below_alloc (W.alloc (.cells #[.int .i64 2, .int .i64 1, .string ⟨#[]⟩] 51)) (.cells #[.slice (some ⟨W.heap.size, 0, none⟩) 1 1, .int .i64 1] 48)
  have hk : Blk (W.alloc (.cells #[.int .i64 2, .int .i64 1, .string ⟨#[]⟩] 51)) W.heap.size [oneV] := blk_uno W oneV
  have ne := World.news_of_block (heap_alloc_new (W.alloc (.cells #[.int .i64 2, .int .i64 1, .string ⟨#[]⟩] 51)) (.cells #[.slice (some ⟨W.heap.size, 0, none⟩) 1 1, .int .i64 1] 48))
  rw [World.size_alloc W] at ne
  refine ⟨fun i hi => ⟨_, rfl, by simp, fun j u hu => ?_⟩, fun x hx => ?_⟩
  · match i, hi with
    | 0, _ => match j, hu with
      | 0, hu => exact (ne 0 _ rfl).trans hu
      | 1, hu => exact (ne 1 _ rfl).trans hu
  · rw [List.mem_singleton.1 hx]
    exact (hk.call hb).vals
theorem tell_n {w w' : World} {T : PL} {e : Ending} (h : TellE w T e w') : ∃ (A : Option Addr) (c : Nat), e = .returned (.slice A T.length c) ∧ Below w.heap.size w w' := by
  obtain ⟨A, c, M, he, _, _, hq, hb⟩ := h
  exact ⟨A, c, by rw [he, ← hq, pl_length], hb⟩
theorem keys_three (p : Nat) (mo : Option Nat) (C : Option Addr) (cc : Nat) (W : World) (hX : Idx W p mo C cc [1] Q3) : Calls Tryz.prog 16 #[.pointer (some ⟨p, 0, none⟩)] W fun e w' => e = .returned (.int .i64 2) ∧ W = w' := by
  have h := keys_any p mo C cc [1] Q3 W hX
  rw [show (keysB [1] Q3).length = 2 by kernel_rfl] at h
  exact h
theorem all_three (p : Nat) (mo : Option Nat) (C : Option Addr) (cc : Nat) (W : World) (hX : Idx W p mo C cc [1] Q3) : Calls Tryz.prog 15 #[.pointer (some ⟨p, 0, none⟩)] W fun e w' => ∃ (A : Option Addr) (c : Nat), e = .returned (.slice A 3 c) ∧ Below W.heap.size W w' :=
  (all_any own_does p mo C cc [1] Q3 W hX (by simp) (by simp [Q3])).mono fun e w' h => tell_n h
theorem find_three (p : Nat) (mo : Option Nat) (C : Option Addr) (cc : Nat) (m : Int) (W : World) (hX : Idx W p mo C cc [1] Q3) (hm : W.cell? ⟨0, 0, none⟩ = some (.int .i64 m)) :
    Calls Tryz.prog 17 #[.pointer (some ⟨p, 0, none⟩), .slice (some ⟨W.heap.size, 0, none⟩) 1 1] (W.alloc (.cells #[.int .i64 2, .int .i64 1, .string ⟨#[]⟩] 51)) fun e w' => ∃ (A : Option Addr) (c : Nat), e = .returned (.slice A 2 c) ∧ Below W.heap.size W w' := by
  have hb := below_alloc W (.cells #[.int .i64 2, .int .i64 1, .string ⟨#[]⟩] 51)
  refine (find_any p mo C cc [1] Q3 (some ⟨W.heap.size, 0, none⟩) 1 [oneV] m _ (hX.below hb) (by simp) (by simp [Q3]) (blk_uno W oneV).vals (fitL_uno fitV_one) (by simp) ((hb.cell (p := ⟨0, 0, none⟩) (World.block_lt_of_cell? _ _ hm)).trans hm)).mono fun e w' h => ?_
  obtain ⟨A, c, he, h2⟩ := tell_n h
  rw [show (Q3.filter fun x => keyQ [1] [oneV] x.1).length = 2 by kernel_rfl] at he
  exact ⟨A, c, he, hb.trans (h2.mono hb.size)⟩
theorem range_three (p : Nat) (mo : Option Nat) (C : Option Addr) (cc : Nat) (W : World) (hX : Idx W p mo C cc [1] Q3) :
    Calls Tryz.prog 24 #[.pointer (some ⟨p, 0, none⟩), .slice (some ⟨W.heap.size, 0, none⟩) 1 1, .slice (some ⟨W.heap.size + 1, 0, none⟩) 1 1] ((W.alloc (.cells #[.int .i64 0, .int .i64 0, .string ⟨#[]⟩] 51)).alloc (.cells #[.int .i64 2, .int .i64 1, .string ⟨#[]⟩] 51)) fun e w' => ∃ (A : Option Addr) (c : Nat), e = .returned (.slice A 1 c) ∧ Below W.heap.size W w' := by
  have ha := below_alloc W (.cells #[.int .i64 0, .int .i64 0, .string ⟨#[]⟩] 51)
  have hb := below_alloc (W.alloc (.cells #[.int .i64 0, .int .i64 0, .string ⟨#[]⟩] 51)) (.cells #[.int .i64 2, .int .i64 1, .string ⟨#[]⟩] 51)
  have hab := bnext ha ha.size hb
  have k1 : Blk (W.alloc (.cells #[.int .i64 0, .int .i64 0, .string ⟨#[]⟩] 51)) W.heap.size [nilV] := blk_uno W nilV
  have k2 : Blk ((W.alloc (.cells #[.int .i64 0, .int .i64 0, .string ⟨#[]⟩] 51)).alloc (.cells #[.int .i64 2, .int .i64 1, .string ⟨#[]⟩] 51)) (W.heap.size + 1) [oneV] := by
    have := blk_uno (W.alloc (.cells #[.int .i64 0, .int .i64 0, .string ⟨#[]⟩] 51)) oneV
    rwa [World.size_alloc] at this
  refine (range_any own_does p mo C cc [1] Q3 (some ⟨W.heap.size, 0, none⟩) (some ⟨W.heap.size + 1, 0, none⟩) 1 1 [nilV] [oneV] _ (hX.below hab) (by simp) (by simp [Q3]) (k1.call hb).vals k2.vals (by simp) (by simp)).mono fun e w' h => ?_
  obtain ⟨A, c, he, h2⟩ := tell_n h
  rw [show (Q3.filter fun x => rangeQ [1] [nilV] [oneV] x.1).length = 1 by kernel_rfl] at he
  exact ⟨A, c, he, hab.trans (h2.mono hab.size)⟩
set_option maxHeartbeats 4000000 in
theorem ialive_any (m : Int) (w : World) (hm : w.cell? ⟨0, 0, none⟩ = some (.int .i64 m)) :
    Calls Tryz.prog 9 #[] w fun e w' => e = .returned (.bool true) ∧ Below w.heap.size w w' := by
  have HM := Lib.hid hm
  clear hm
  have hb1 := below_alloc w (.cells #[.int .i64 1] 3)
  have n1 := World.news_of_block (heap_alloc_new w (.cells #[.int .i64 1] 3))
  have HN := Lib.hid (new_any (some ⟨w.heap.size, 0, none⟩) 1 [1] (w.alloc (.cells #[.int .i64 1] 3)) (fun i hi => by
    match i, hi with
    | 0, _ => exact ⟨_, rfl, by simp, n1 0 _ rfl⟩) (by simp))
  go_enter Tryz.func9, Tryz.ntmps9
  go_wp2_with fail
  refine HN.out.mono ?_
  rintro e w1 ⟨p, C, cc, rfl, hp, hI, hb2⟩
  have L1 := Lib.hid (hb1.trans (hb2.mono hb1.size))
  have X1 := Lib.hid hI
  clear hb1 hb2 hI HN n1
  go_wp2_with fail
  obtain ⟨W5, h5⟩ : ∃ W5, W5 = ((((w1.alloc (.cells #[.int .i64 2, .int .i64 1, .string ⟨#[]⟩] 51)).alloc (.cells #[.int .i64 2, .int .i64 1, .string ⟨#[]⟩, .int .i64 2, .int .i64 1, .string ⟨#[]⟩] 51)).alloc (.cells #[.int .i64 0, .int .i64 0, .string ⟨#[]⟩, .int .i64 2, .int .i64 1, .string ⟨#[]⟩] 51)).alloc (.cells #[.int .i64 2, .int .i64 1, .string ⟨#[]⟩, .int .i64 0, .int .i64 0, .string ⟨#[]⟩] 51)).alloc (.cells #[.slice (some ⟨w1.heap.size + 1, 0, none⟩) 2 2, .int .i64 2, .slice (some ⟨w1.heap.size + 1 + 1, 0, none⟩) 2 2, .int .i64 3, .slice (some ⟨w1.heap.size + 1 + 1 + 1, 0, none⟩) 2 2, .int .i64 4] 48) := ⟨_, rfl⟩
  obtain ⟨i5, b5, c0, c1, c2, hz5⟩ := alive_world w1 W5 h5
  rw [← h5]
  clear h5
  have hof := iof_any (some ⟨w1.heap.size + 1 + 1 + 1 + 1, 0, none⟩) 3 (three (w1.heap.size + 1) (w1.heap.size + 1 + 1) (w1.heap.size + 1 + 1 + 1)) W5 i5 (three_fit _ _ _).1 (by simp [three]) (three_fit _ _ _).2
  obtain ⟨t1, t2⟩ := three_of (w1.heap.size + 1) (w1.heap.size + 1 + 1) (w1.heap.size + 1 + 1 + 1)
  obtain ⟨M, hMM⟩ : ∃ M, ofL (three (w1.heap.size + 1) (w1.heap.size + 1 + 1) (w1.heap.size + 1 + 1 + 1)) = M := ⟨_, rfl⟩
  rw [t2, hMM] at hof
  rw [hMM] at t1
  have HT := Lib.hid t1
  have hn3 := (q3_fit t1).2.1
  have hpw : p < w1.heap.size := X1.out.lt
  obtain ⟨g, hg⟩ : ∃ g, w1.heap.size = g := ⟨_, rfl⟩
  have X5 := Lib.hid (X1.out.below b5)
  have L5 := Lib.hid (bnext L1.out L1.out.size b5)
  rw [hg] at hof c0 c1 c2 hz5 hpw ⊢
  have HOF := Lib.hid hof
  have HW := Lib.hid (show w.heap.size ≤ p by have := hp; simp at this; omega)
  clear hof t1 t2 hMM i5 b5 hp X1 L1 hg
  refine HOF.out.mono ?_
  rintro e w6 ⟨A6, c6, rfl, i6, b6⟩
  rw [hn3]
  have L6 := Lib.hid (bnext L5.out L5.out.size b6)
  have X6 := Lib.hid (X5.out.below b6)
  have d0 := (b6.cell (p := ⟨g, 0, none⟩) hz5).trans c0
  have d1 := (b6.cell (p := ⟨g, 1, none⟩) hz5).trans c1
  have d2 := (b6.cell (p := ⟨g, 2, none⟩) hz5).trans c2
  have hz6 : g < w6.heap.size := Nat.lt_of_lt_of_le hz5 b6.size
  have hp3 := put_three p C cc A6 c6 M m w6 X6.out i6 HT.out ((L6.out.cell (p := ⟨0, 0, none⟩) (World.block_lt_of_cell? _ _ HM.out)).trans HM.out)
  rw [hn3] at hp3
  have HP3 := Lib.hid hp3
  clear hp3 i6 b6 c0 c1 c2 hz5 HOF X5 L5 hn3 HT
  go_wp2_with fail
  refine HP3.out.mono ?_
  rintro e w7 ⟨rfl, mo7, x7, hc7⟩
  have hgp : ¬ badOf p none g := by
    rintro (h | h)
    · omega
    · cases h
  have f0 := (hc7.cell (q := ⟨g, 0, none⟩) hz6 hgp).trans d0
  have f1 := (hc7.cell (q := ⟨g, 1, none⟩) hz6 hgp).trans d1
  have f2 := (hc7.cell (q := ⟨g, 2, none⟩) hz6 hgp).trans d2
  have L7 := Lib.hid (L6.out.trans (hc7.below L6.out.size fun k hk => by
    rcases hk with rfl | hk
    · exact HW.out
    · cases hk))
  have X7 := Lib.hid x7
  have hz7 : g < w7.heap.size := Nat.lt_of_lt_of_le hz6 hc7.size
  clear x7 hc7 d0 d1 d2 hz6 hgp L6 X6 HP3
  have hm7 := (L7.out.cell (p := ⟨0, 0, none⟩) (World.block_lt_of_cell? _ _ HM.out)).trans HM.out
  have hb8 := (below_alloc w7 (.cells #[.int .i64 2, .int .i64 1, .string ⟨#[]⟩] 51)).alloc (by simp) (.cells #[.slice (some ⟨w7.heap.size, 0, none⟩) 1 1, .int .i64 1] 48)
  have HPB := Lib.hid ((put_bad p mo7 C cc (some ⟨w7.heap.size + 1, 0, none⟩) 1 1 (some ⟨w7.heap.size, 0, none⟩) m _ (X7.out.below hb8) (bad_world w7) ((hb8.cell (p := ⟨0, 0, none⟩) (World.block_lt_of_cell? _ _ hm7)).trans hm7)).mono fun e w' h => And.intro h.1 (hb8.trans (h.2.mono hb8.size)))
  clear hm7 hb8
  go_wp2_with fail
  refine HPB.out.mono ?_
  rintro e w8 ⟨rfl, b8⟩
  have L8 := Lib.hid (bnext L7.out L7.out.size b8)
  have X8 := Lib.hid (X7.out.below b8)
  have e0 := (b8.cell (p := ⟨g, 0, none⟩) hz7).trans f0
  have e1 := (b8.cell (p := ⟨g, 1, none⟩) hz7).trans f1
  have e2 := (b8.cell (p := ⟨g, 2, none⟩) hz7).trans f2
  have hz8 : g < w8.heap.size := Nat.lt_of_lt_of_le hz7 b8.size
  have HK := Lib.hid (keys_three p mo7 C cc w8 X8.out)
  clear b8 f0 f1 f2 hz7 L7 X7 HPB
  go_wp2_with fail
  refine HK.out.mono ?_
  rintro e w9 ⟨rfl, rfl⟩
  have HF := Lib.hid (find_three p mo7 C cc m w8 X8.out ((L8.out.cell (p := ⟨0, 0, none⟩) (World.block_lt_of_cell? _ _ HM.out)).trans HM.out))
  clear HK
  go_wp2_with fail
  refine HF.out.mono ?_
  rintro e w9 ⟨A9, c9, rfl, b9⟩
  have L9 := Lib.hid (bnext L8.out L8.out.size b9)
  have X9 := Lib.hid (X8.out.below b9)
  have f0 := (b9.cell (p := ⟨g, 0, none⟩) hz8).trans e0
  have f1 := (b9.cell (p := ⟨g, 1, none⟩) hz8).trans e1
  have f2 := (b9.cell (p := ⟨g, 2, none⟩) hz8).trans e2
  have hz9 : g < w9.heap.size := Nat.lt_of_lt_of_le hz8 b9.size
  have HA := Lib.hid (all_three p mo7 C cc w9 X9.out)
  clear b9 e0 e1 e2 hz8 L8 X8 HF
  go_wp2_with fail
  refine HA.out.mono ?_
  rintro e w10 ⟨A10, c10, rfl, b10⟩
  have L10 := Lib.hid (bnext L9.out L9.out.size b10)
  have X10 := Lib.hid (X9.out.below b10)
  have e0 := (b10.cell (p := ⟨g, 0, none⟩) hz9).trans f0
  have e1 := (b10.cell (p := ⟨g, 1, none⟩) hz9).trans f1
  have e2 := (b10.cell (p := ⟨g, 2, none⟩) hz9).trans f2
  have hz10 : g < w10.heap.size := Nat.lt_of_lt_of_le hz9 b10.size
  have HR := Lib.hid (range_three p mo7 C cc w10 X10.out)
  clear b10 f0 f1 f2 hz9 L9 X9 HA
  go_wp2_with fail
  refine HR.out.mono ?_
  rintro e w11 ⟨A11, c11, rfl, b11⟩
  have L11 := Lib.hid (bnext L10.out L10.out.size b11)
  clear b11 e0 e1 e2 hz10 L10 X10 HR
  go_wp2
  go_ret
  exact ⟨rfl, L11.out⟩
end Go.Proofs.YtjjikooabmddlaaGreatDoor.Items

/-
  The contract of Right of package zset.
-/
namespace Go.Proofs.YtjjikooabmddlaaGreatDoor.Items
open Go.ChangeShapes Go.WideShapes Go.ChangeAt Go.RowKit Val Go.Proofs.YtjjikooabmddlaaGreatDoor.Code Go.Proofs.YtjjikooabmddlaaGreatDoor.Elems Go.Proofs.YtjjikooabmddlaaGreatDoor.ZP Go.Proofs.YtjjikooabmddlaaGreatDoor.Bits
set_option linter.unusedVariables false
set_option maxRecDepth 100000

end Go.Proofs.YtjjikooabmddlaaGreatDoor.Items

/-
  The walk through ZsetSums, from the contracts of the program's functions, given here as premises of a lemma.
-/
namespace Go.Proofs.YtjjikooabmddlaaGreatDoor.Items
open Go.ChangeShapes Go.WideShapes Go.ChangeAt Go.RowKit Val Go.Proofs.YtjjikooabmddlaaGreatDoor.Code Go.Proofs.YtjjikooabmddlaaGreatDoor.Elems Go.Proofs.YtjjikooabmddlaaGreatDoor.ZP Go.Proofs.YtjjikooabmddlaaGreatDoor.Bits
set_option linter.unusedVariables false

def ZAdd : Prop := ∀ (G : Option Addr) (cap : Nat) (LS : List (Option Addr × Nat × List It)) (w : World), SetsAt w w.heap.size G LS → FitI (catS LS) → (∀ x ∈ catS LS, x.2.2.1.length ≤ 140737488355328) → LS.length ≤ 1000 → (catS LS).length ≤ 1000 → Calls Tryz.prog 30 #[.slice G LS.length cap] w (SetPost w (pl (ofL (catS LS))) (ofE (catS LS)))
def ZNeg : Prop := ∀ (A : Option Addr) (cap : Nat) (L : List It) (w : World), Items w w.heap.size A L → FitI L → (∀ x ∈ L, x.2.2.1.length ≤ 140737488355328) → L.length ≤ 1000 → rightI L = true → Calls Tryz.prog 20 #[.slice A L.length cap] w (SetPost w (pl (negI L)) (negIE L))
end Go.Proofs.YtjjikooabmddlaaGreatDoor.Items
