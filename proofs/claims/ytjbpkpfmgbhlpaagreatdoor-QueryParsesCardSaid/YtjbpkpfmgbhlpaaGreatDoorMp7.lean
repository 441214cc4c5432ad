/-
  The document's reader of expressions does as it should, with any number of steps.
-/
import Derived.Test.YtjbpkpfmgbhlpaaGreatDoorMp6
import Derived.Test.YtjbpkpfmgbhlpaaGreatDoorMp5
import Derived.Test.YtjbpkpfmgbhlpaaGreatDoorMp1
import Derived.Deep.RegionHeld3
set_option maxRecDepth 100000
set_option maxHeartbeats 16000000
open Go.Lib (hid)
namespace Go.Proofs.YtjbpkpfmgbhlpaaGreatDoor.Code
open Go.ChangeShapes Go.WideShapes Go.ChangeAt Go.RowKit Val Elems
set_option linter.unusedVariables false
def FigW (l : List W) : Prop := ∀ w ∈ l, w.1 = 1 → FigS w.2.1 ∧ w.2.1.length ≤ 4194304
section
variable {r : Nat} {A : Option Addr} {cap : Nat} {l : List W} {f : Nat}
theorem sign_does (D : Does r A cap l f) (i : Nat) (b : Bool) (w : World) (hi : i ≤ l.length) (hl : l.length ≤ 4194304) (hfg : FigW l) (hm : mu (bare l) .sign i < f + 1) (h : Rdr w r A cap l i b) :
  Calls Tryz.prog 127 #[.pointer (some ⟨r, 0, none⟩)] w (Reads r A cap l w NoB (P (bare l) (f + 1) .sign i b)) := by
 cases q1 : isW (bare l) i b [45] with
 | true => exact sign_neg D i b w hi hl hm h q1
 | false =>
  cases q2 : isW (bare l) i b [40] with
  | true => exact sign_open D i b w hi hl hm h q1 q2
  | false =>
   by_cases q0 : oneL (bare l) i b [sTrue, sFalse, sNull] = []
   ·cases k1 : isK (bare l) i b 1 with
    | true => exact sign_num i b w hi hl hfg h q1 q2 _ rfl q0 k1
    | false =>
     cases k2 : isK (bare l) i b 2 with
     | true => exact sign_text i b w hi hl h q1 q2 _ rfl q0 k1 k2
     | false => exact sign_name i b w hi hl h q1 q2 _ rfl q0 k1 k2
   ·exact sign_word i b w hi hl h q1 q2 _ rfl q0
theorem does (hl : l.length ≤ 4194304) (hfg : FigW l) : ∀ f, Does r A cap l f
 | 0 => ⟨fun _ _ _ _ _ _ _ h => absurd h (Nat.not_lt_zero _), fun _ _ _ _ h => absurd h (Nat.not_lt_zero _), fun _ _ _ _ _ _ _ _ _ _ _ _ _ h => absurd h (Nat.not_lt_zero _)⟩
 | f + 1 => by
  have D := does hl hfg f
  refine ⟨fun lv i b w h1 h7 hi hm h => ?_, fun i b w hi hm h => sign_does D i b w hi hl hfg hm h, fun S t op tx X n m i b w hS hn hi hm h => test_does D S t op tx X n m i b w hS hn hi hl hm h⟩
  have hc : (lv = 1 ∨ lv = 2 ∨ lv = 5 ∨ lv = 6) ∨ lv = 3 ∨ lv = 4 ∨ lv = 7 := by omega
  rcases hc with hc | rfl | rfl | rfl
  ·exact expr_loop D lv hc i b w hi hl hm h
  ·exact expr_not D i b w hi hl hm h
  ·exact expr_test D i b w hi hm h
  ·exact expr_sign D i b w hi hm h
def fromP (L : List V) (i : Nat) : Tr × Nat × Bool := P L (stepsN L) (.expr 1) i false
end
end Go.Proofs.YtjbpkpfmgbhlpaaGreatDoor.Code
/-
  The document's reader of queries in memory; whether a word comes with a mark behind it.
-/
namespace Go.Proofs.YtjbpkpfmgbhlpaaGreatDoor.Code
open Go.ChangeShapes Go.WideShapes Go.ChangeAt Go.RowKit Val Elems
set_option linter.unusedVariables false
set_option linter.unusedSimpArgs false
structure QRd (w : World) (r q : Nat) (A : Option Addr) (cap : Nat) (l : List W) (i : Nat) (b : Bool) : Prop where
 rd : Rdr w r A cap l i b
 cq : w.cell? ⟨q, 0, none⟩ = some (.pointer (some ⟨r, 0, none⟩))
 ne : q ≠ r
section
variable {w w' : World} {r q : Nat} {A : Option Addr} {cap : Nat} {l : List W} {i j : Nat} {b c : Bool}
theorem QRd.lt (h : QRd w r q A cap l i b) : r < w.heap.size := h.rd.lt
theorem QRd.ltq (h : QRd w r q A cap l i b) : q < w.heap.size := World.block_lt_of_cell? _ _ h.cq
theorem QRd.below (h : QRd w r q A cap l i b) (hb : Below w.heap.size w w') : QRd w' r q A cap l i b := ⟨h.rd.below hb, (hb.cell (p := ⟨q, 0, none⟩) h.ltq).trans h.cq, h.ne⟩
theorem QRd.alloc (h : QRd w r q A cap l i b) (o : Obj) : QRd (w.alloc o) r q A cap l i b := h.below (below_alloc w o)
theorem QRd.but (h : QRd w r q A cap l i b) (hb : But w w' r) (hr : Rdr w' r A cap l j c) : QRd w' r q A cap l j c := ⟨hr, (hb.cell (q := ⟨q, 0, none⟩) h.ltq h.ne).trans h.cq, h.ne⟩
theorem QRd.new (h : QRd w r q A cap l i b) (p : Addr) (hp : r < p.block) (hq : q ≠ p.block) (u : Value) : QRd (w.setCell p u) r q A cap l i b :=
 ⟨h.rd.new p hp u, (World.cell?_setCell_other _ _ _ _ (fun e => hq (by rw [e]))).trans h.cq, h.ne⟩
theorem QRd.w3 (h : QRd w r q A cap l i b) {g : Nat} (hp : r < g) (hq : q ≠ g) (x y z : Value) : QRd (W3 w g x y z) r q A cap l i b := ((h.new ⟨g, 0, none⟩ hp hq _).new ⟨g, 1, none⟩ hp hq _).new ⟨g, 2, none⟩ hp hq _
end
theorem word_at {l : List W} {i : Nat} (h : i < l.length) (s m : List UInt8) : wordQ (bare l) i false s m = (l[i].1 == 0 && (l[i].2.1 == s && (bare l)[i + 1]? == some (3, m))) := by
 unfold wordQ
 rw [isK_at h, txt_at h]
 simp
theorem qword_any (r q : Nat) (A : Option Addr) (cap : Nat) (l : List W) (i : Nat) (b : Bool) (s mk : ByteArray) (w : World) (h : QRd w r q A cap l i b) (hi : i ≤ l.length) (hl : l.length ≤ 4194304) :
  Calls Tryz.prog 96 #[.pointer (some ⟨q, 0, none⟩), .string s, .string mk] w fun e w' => e = .returned (.bool (wordQ (bare l) i b s.data.toList mk.data.toList)) ∧ Below w.heap.size w w' := by
 have HK := hid (rkind_any r A cap l i b 0 w h.rd hi hl)
 have HR := hid h
 have q0 := h.cq
 obtain ⟨ans, hans⟩ : ∃ ans, wordQ (bare l) i b s.data.toList mk.data.toList = ans := ⟨_, rfl⟩
 have HA := hid hans
 rw [hans]
 clear h hans
 obtain ⟨kk, hkk⟩ : ∃ kk, isK (bare l) i b 0 = kk := ⟨_, rfl⟩
 rw [hkk] at HK
 cases kk
 ·obtain rfl : ans = false := by
   have := HA.out
   unfold wordQ at this
   rw [hkk] at this
   exact this.symm
  clear hkk
  go_enter Tryz.func96, Tryz.ntmps96
  go_wp2_with fail
  refine HK.out.mono ?_
  rintro e w1 ⟨rfl, hb1⟩
  have B1 := hid hb1
  clear hb1
  go_wp2
  refine wp_region_quiet_lit (by kernel_rfl) (by kernel_rfl) ?_
  repeat (with_reducible refine wpQuiet_step ?_; intro K hK; go_simp; with_reducible refine hK _ ?_; clear hK K)
  refine wpQuiet_nil ?_
  intro _ hw'
  obtain ⟨nq, hw''⟩ := hw'
  subst hw''
  go_wp2
  go_ret
  exact ⟨rfl, bnext B1.out B1.out.size (drewN_below (Below.refl _ _) _)⟩
 ·have hil := isK_len hkk
  obtain rfl : b = false := (isK_lt hkk).2
  have hx := HA.out
  rw [word_at hil] at hx
  rw [isK_at hil] at hkk
  have hx0 : (l[i].1 == 0) = true := by simpa using hkk
  rw [hx0] at hx
  clear hkk hx0
  obtain ⟨ad, rfl, ha, d0, d1, d2⟩ := at_word HR.out.rd.ws i hil
  obtain ⟨t, htt⟩ : ∃ t, l[i].2.1 = t := ⟨_, rfl⟩
  rw [htt] at d1 hx
  obtain ⟨T, hT⟩ : ∃ T : ByteArray, ⟨t.toArray⟩ = T := ⟨_, rfl⟩
  have hTt : t = T.data.toList := by rw [← hT]
  rw [hT] at d1
  rw [hTt] at hx
  clear hTt hT htt d0 d2
  have hlr := HR.out.lt
  have za : (ad.add (i * 3)).block < w.heap.size := by rw [add_block]; omega
  have HD := hid (fun (w' : World) (hb : Below w.heap.size w w') => show w'.cell? ⟨(ad.add (i * 3)).block, (ad.add (i * 3)).off + 1, none⟩ = some (.string T) from (hb.cell (p := ⟨(ad.add (i * 3)).block, (ad.add (i * 3)).off + 1, none⟩) za).trans d1)
  by_cases hts : T = s
  ·subst hts
   by_cases hi1 : i + 1 < l.length
   ·obtain ⟨ad', e', ha', g0, g1, g2⟩ := at_word HR.out.rd.ws (i + 1) hi1
    obtain rfl : ad = ad' := Option.some.inj e'
    rw [bare_get hi1] at hx
    obtain ⟨k1, hk1⟩ : ∃ k1, l[i + 1].1 = k1 := ⟨_, rfl⟩
    obtain ⟨t1, ht1⟩ : ∃ t1, l[i + 1].2.1 = t1 := ⟨_, rfl⟩
    obtain ⟨p1, hp1⟩ : ∃ p1, l[i + 1].2.2 = p1 := ⟨_, rfl⟩
    rw [hk1] at g0 hx
    rw [ht1] at g1 hx
    rw [hp1] at g2
    obtain ⟨U, hU⟩ : ∃ U : ByteArray, ⟨t1.toArray⟩ = U := ⟨_, rfl⟩
    have hUt : t1 = U.data.toList := by rw [← hU]
    rw [hU] at g1
    rw [hUt] at hx
    clear hUt hU hk1 ht1 hp1 d1
    obtain ⟨j, hj⟩ : ∃ j, i + 1 = j := ⟨_, rfl⟩
    rw [hj] at g0 g1 g2 hi1
    obtain ⟨uk, huk⟩ : ∃ uk, (U.toList == mk.toList) = uk := ⟨_, rfl⟩
    have hans2 : ans = ((k1 == 3) && uk) := by
     have hp : (some (k1, U.data.toList) == some (3, mk.data.toList)) = ((k1 == 3) && (U.data.toList == mk.data.toList)) := rfl
     rw [← hx, hp, ← huk, ByteArray.toList_eq, ByteArray.toList_eq]
     simp
    rw [hans2]
    have zb : (ad.add (j * 3)).block < w.heap.size := by rw [add_block]; omega
    have HG := hid (fun (w' : World) (hb : Below w.heap.size w w') => (show w'.cell? (ad.add (j * 3)) = some (.int .i64 k1) ∧ w'.cell? ⟨(ad.add (j * 3)).block, (ad.add (j * 3)).off + 1, none⟩ = some (.string U) ∧ w'.cell? ⟨(ad.add (j * 3)).block, (ad.add (j * 3)).off + 2, none⟩ = some (.int .i64 p1) from
     ⟨(hb.cell zb).trans g0, (hb.cell (p := ⟨(ad.add (j * 3)).block, (ad.add (j * 3)).off + 1, none⟩) zb).trans g1, (hb.cell (p := ⟨(ad.add (j * 3)).block, (ad.add (j * 3)).off + 2, none⟩) zb).trans g2⟩))
    clear hx g0 g1 g2 hans2
    have e1 : decide ((l.length : Int) ≤ (j : Int)) = false := by simp; omega
    have e2 : IntKind.i64.wrap ((i : Int) + 1) = (j : Int) := by rw [IntKind.wrap_i64]; omega
    have e3 : (i : Int) < (l.length : Int) := by omega
    have e4 : (j : Int) < (l.length : Int) := by omega
    have e6 : decide (l.length ≤ j) = false := by simp; omega
    clear hj
    go_enter Tryz.func96, Tryz.ntmps96
    go_wp2_with fail
    refine HK.out.mono ?_
    rintro e w1 ⟨rfl, hb1⟩
    have B1 := hid hb1
    have R1 := hid (HR.out.below hb1)
    have c0 := R1.out.rd.c0
    have c1 := R1.out.rd.c1
    have cq := R1.out.cq
    have d1 := HD.out _ hb1
    clear hb1 q0
    go_wp2
    go_quiet (fail)
    obtain ⟨w2, hw2⟩ : ∃ w2, w1.drewN nq = w2 := ⟨_, rfl⟩
    have B2 := hid (show Below w.heap.size w w2 by rw [← hw2]; exact bnext B1.out B1.out.size (drewN_below (Below.refl _ _) _))
    have R2 := hid (HR.out.below B2.out)
    rw [hw2]
    clear hw2 c0 c1 cq d1
    have c0 := R2.out.rd.c0
    have c1 := R2.out.rd.c1
    have cq := R2.out.cq
    obtain ⟨g0, g1, g2⟩ := HG.out _ B2.out
    have zr := R2.out.lt
    have zq := R2.out.ltq
    have K0 := hid (fun (w' : World) (hb : Below w2.heap.size w2 w') => (show (w'.cell? ⟨q, 0, none⟩ = some (.pointer (some ⟨r, 0, none⟩)) ∧ w'.cell? ⟨r, 0, none⟩ = some (.slice (some ad) l.length cap) ∧ w'.cell? ⟨r, 1, none⟩ = some (.int .i64 i) ∧ w'.cell? (ad.add (j * 3)) = some (.int .i64 k1) ∧ w'.cell? ⟨(ad.add (j * 3)).block, (ad.add (j * 3)).off + 1, none⟩ = some (.string U) ∧ w'.cell? ⟨(ad.add (j * 3)).block, (ad.add (j * 3)).off + 2, none⟩ = some (.int .i64 p1)) ∧ Below w2.heap.size w2 w' from
     ⟨⟨(R2.out.below hb).cq, (R2.out.below hb).rd.c0, (R2.out.below hb).rd.c1, (HG.out _ (bnext B2.out B2.out.size hb)).1, (HG.out _ (bnext B2.out B2.out.size hb)).2.1, (HG.out _ (bnext B2.out B2.out.size hb)).2.2⟩, hb⟩))
    go_wp2_with fail
    go_region_held3 (fun w' => (w'.cell? ⟨q, 0, none⟩ = some (.pointer (some ⟨r, 0, none⟩)) ∧ w'.cell? ⟨r, 0, none⟩ = some (.slice (some ad) l.length cap) ∧ w'.cell? ⟨r, 1, none⟩ = some (.int .i64 i) ∧ w'.cell? (ad.add (j * 3)) = some (.int .i64 k1) ∧ w'.cell? ⟨(ad.add (j * 3)).block, (ad.add (j * 3)).off + 1, none⟩ = some (.string U) ∧ w'.cell? ⟨(ad.add (j * 3)).block, (ad.add (j * 3)).off + 2, none⟩ = some (.int .i64 p1)) ∧ Below w2.heap.size w2 w')
     (first | assumption | (exact K0.out _ (((Below.refl w2.heap.size w2).drew).alloc (Nat.le_refl _) _)) | (exact K0.out _ ((Below.refl _ _).drew)))
     (fail)
    have B3 := hid (show Below w2.heap.size w2 _ by rename_i hS; exact hS.2)
    clear c0 c1 cq g0 g1 g2
    cases hk3 : k1 == 3
    ·go_wp2
     go_ret
     exact ⟨retB (by simp [hk3]), bnext B2.out B2.out.size B3.out⟩
    ·go_wp2
     go_ret
     exact ⟨retB (by simp [hk3, huk]), bnext B2.out B2.out.size B3.out⟩
   ·obtain rfl : ans = false := by
     rw [← hx, bare_none hi1]
     simp
    clear hx
    have e1 : decide ((l.length : Int) ≤ (i : Int) + 1) = true := by simp; omega
    have e2 : IntKind.i64.wrap ((i : Int) + 1) = (i : Int) + 1 := by rw [IntKind.wrap_i64]; omega
    have e3 : (i : Int) < (l.length : Int) := by omega
    have e4 : ¬ (i : Int) + 1 < (l.length : Int) := by omega
    have e6 : decide (l.length ≤ i + 1) = true := by simp; omega
    go_enter Tryz.func96, Tryz.ntmps96
    go_wp2_with fail
    refine HK.out.mono ?_
    rintro e w1 ⟨rfl, hb1⟩
    have B1 := hid hb1
    have R1 := hid (HR.out.below hb1)
    have c0 := R1.out.rd.c0
    have c1 := R1.out.rd.c1
    have cq := R1.out.cq
    have d1 := HD.out _ hb1
    clear hb1 q0
    go_wp2
    go_quiet (fail)
    go_wp2
    go_ret
    exact ⟨rfl, bnext B1.out B1.out.size (drewN_below (Below.refl _ _) _)⟩
  ·obtain rfl : ans = false := by
    have f3 : ¬ T.data.toList = s.data.toList := fun e => hts (by rw [← Lib.mk_data T, e, Lib.mk_data])
    have e9 : (T.data.toList == s.data.toList) = false := by simpa using f3
    rw [e9] at hx
    simpa using hx.symm
   have f2 := toList_ne hts
   have e3 : (i : Int) < (l.length : Int) := by omega
   clear hx
   go_enter Tryz.func96, Tryz.ntmps96
   go_wp2_with fail
   refine HK.out.mono ?_
   rintro e w1 ⟨rfl, hb1⟩
   have B1 := hid hb1
   have R1 := hid (HR.out.below hb1)
   have c0 := R1.out.rd.c0
   have c1 := R1.out.rd.c1
   have cq := R1.out.cq
   have d1 := HD.out _ hb1
   clear hb1 q0
   go_wp2
   refine wp_region_quiet_lit (by kernel_rfl) (by kernel_rfl) ?_
   repeat (with_reducible refine wpQuiet_step ?_; intro K hK; go_simp; with_reducible refine hK _ ?_; clear hK K)
   refine wpQuiet_nil ?_
   intro _ hw'
   obtain ⟨nq, hw''⟩ := hw'
   subst hw''
   go_wp2
   go_ret
   exact ⟨rfl, bnext B1.out B1.out.size (drewN_below (Below.refl _ _) _)⟩
end Go.Proofs.YtjbpkpfmgbhlpaaGreatDoor.Code
/-
  Queries of words: words ahead, and words behind, do not matter. No program is named here.
-/
namespace Go.Proofs.YtjbpkpfmgbhlpaaGreatDoor.Code
open Val
set_option linter.unusedVariables false
section
variable (A L : List V) (i : Nat) (b : Bool)
end
section
variable {L L' : List V}
end
def m0 : Mode → Nat
 | .loop _ a => a.deep
 | .test a => a.deep
 | _ => 1
theorem deep_pos (t : Tr) : 1 ≤ t.deep := by cases t <;> simp [Tr.deep]
theorem m0_pos (m : Mode) : 1 ≤ m0 m := by cases m <;> first | exact Nat.le_refl _ | exact deep_pos _
theorem deep_one (o : List UInt8) (a : Tr) : (Tr.one o a).deep = a.deep + 1 := rfl
theorem deep_two (o : List UInt8) (a b : Tr) : (Tr.two o a b).deep = max a.deep b.deep + 1 := rfl
theorem deep_leaf (o x : List UInt8) : (Tr.leaf o x).deep = 1 := rfl
theorem P_deep (L : List V) : ∀ (f : Nat) (m : Mode) (i : Nat) (b : Bool), i ≤ L.length → (P L f m i b).1.deep + i ≤ m0 m + (P L f m i b).2.1
 | 0, m, i, b, _ => by
  have := m0_pos m
  show 1 + i ≤ m0 m + i
  omega
 | f + 1, .expr l, i, b, h => by
  rw [P]
  split
  ·exact P_deep L f .sign i b h
  split
  ·split
   ·rename_i hs
    have h1 := isW_lt hs
    have ih := P_deep L f (.expr 3) (i + 1) b (by omega)
    simp only [m0, deep_one] at ih ⊢
    omega
   ·exact P_deep L f (.expr 4) i b h
  split
  ·have ih := P_deep L f (.expr 5) i b h
   have he := P_ends L f (.expr 5) i b h
   have ih2 := P_deep L f (.test (P L f (.expr 5) i b).1) (P L f (.expr 5) i b).2.1 (P L f (.expr 5) i b).2.2 he.2.1
   simp only [m0] at ih ih2 ⊢
   omega
  ·have ih := P_deep L f (.expr (l + 1)) i b h
   have he := P_ends L f (.expr (l + 1)) i b h
   have ih2 := P_deep L f (.loop l (P L f (.expr (l + 1)) i b).1) (P L f (.expr (l + 1)) i b).2.1 (P L f (.expr (l + 1)) i b).2.2 he.2.1
   simp only [m0] at ih ih2 ⊢
   omega
 | f + 1, .loop l a, i, b, h => by
  rw [P]
  split
  ·simp only [m0]; omega
  ·rename_i ho
   obtain ⟨h1, h2⟩ := oneL_lt ho
   have ih := P_deep L f (.expr (l + 1)) (i + 1) b (by omega)
   have he := P_ends L f (.expr (l + 1)) (i + 1) b (by omega)
   have ih2 := P_deep L f (.loop l (.two (oneL L i b (opsL l)) a (P L f (.expr (l + 1)) (i + 1) b).1)) (P L f (.expr (l + 1)) (i + 1) b).2.1 (P L f (.expr (l + 1)) (i + 1) b).2.2 he.2.1
   have hp := deep_pos a
   simp only [m0, deep_two] at ih ih2 ⊢
   omega
 | f + 1, .test a, i, b, h => by
  have hp := deep_pos a
  rw [P]
  split
  ·split
   ·rename_i hs
    have h1 := isW_lt hs
    split
    ·simp only [m0, deep_one]; omega
    ·simp only [m0, deep_one]; omega
   ·simp only [m0]; omega
  ·rename_i ho
   obtain ⟨h1, h2⟩ := oneL_lt ho
   have ih := P_deep L f (.expr 5) (i + 1) b (by omega)
   have he := P_ends L f (.expr 5) (i + 1) b (by omega)
   simp only [m0, deep_two] at ih ⊢
   omega
 | f + 1, .sign, i, b, h => by
  rw [P]
  split
  ·rename_i hs
   have h1 := isW_lt hs
   have ih := P_deep L f .sign (i + 1) b (by omega)
   simp only [m0, deep_one] at ih ⊢
   omega
  split
  ·rename_i hs
   have h1 := isW_lt hs
   have ih := P_deep L f (.expr 1) (i + 1) b (by omega)
   split
   ·simp only [m0] at ih ⊢; omega
   ·simp only [m0] at ih ⊢; omega
  split
  ·split
   ·split
    ·simp only [m0, deep_leaf]; omega
    ·show 1 + i ≤ 1 + i; omega
   split
   ·simp only [m0, deep_leaf]; omega
   split
   ·simp only [m0, deep_leaf]; omega
   ·simp only [m0, deep_leaf]; omega
  ·simp only [m0, deep_leaf]; omega
theorem run_fig {p : UInt8 → Bool} : ∀ (s : List UInt8), ∀ c ∈ s.take (runL p s), p c = true
 | [], c, h => by simp at h
 | d :: s, c, h => by
  by_cases hd : p d = true
  ·rw [runL, if_pos hd, List.take_succ_cons] at h
   rcases List.mem_cons.1 h with rfl | h
   ·exact hd
   ·exact run_fig s c h
  ·rw [runL, if_neg hd] at h
   simp at h
theorem came_fig {l : List W} (h : CameB l) : ∀ w ∈ l, w.1 = 1 → (∀ c ∈ w.2.1, figB c = true) ∧ w.2.1.length ≤ 19 := by
 intro w hw hk
 have hf := h w hw
 rw [hk, show showW 1 w.2.1 = w.2.1 from rfl] at hf
 rcases first_cases hf with ⟨c, r, _, _, e, _⟩ | ⟨c, r, e1, e2, e3, _, ht, hn, hn2⟩ | ⟨r, _, e, _⟩ | ⟨c, d, r, _, _, _, _, _, e, _⟩ | ⟨c, r, _, _, _, _, _, _, e, _⟩
 ·exact absurd e (by decide)
 ·refine ⟨fun c hc => ?_, hn2⟩
  rw [ht] at hc
  exact run_fig _ c hc
 ·exact absurd e (by decide)
 ·exact absurd e (by decide)
 ·exact absurd e (by decide)
theorem words_len (s : List UInt8) : ∀ (i : Int) (l : List W), wordsL s i = .ok l → l.length ≤ s.length := by
 refine words_way (Q := fun s => ∀ (i : Int) (l : List W), wordsL s i = .ok l → l.length ≤ s.length) ?_ ?_ ?_ ?_ s
 ·intro i l h; cases h; exact Nat.le_refl _
 ·intro c s hb ih i l h
  rw [wordsL_blank hb] at h
  have := ih _ l h
  simp only [List.length_cons]
  omega
 ·intro c s hb hf i l h
  rw [wordsL_none hb hf] at h
  cases h
 ·intro c s k t n hf ih i l h
  have hn := first_n hf
  rw [wordsL_one hf] at h
  cases hw : wordsL ((c :: s).drop n) (i + n) with
  | error j' => rw [hw] at h; cases h
  | ok l' =>
   rw [hw] at h
   cases h
   have := ih _ l' hw
   rw [List.length_drop] at this
   simp only [List.length_cons] at this hn ⊢
   omega
def topQ (L : List V) : Res := qq L (L.length + 1) 0 false
def parseQW (n : Nat) (l : List W) : Nod × Int × Int :=
 if l = [] then (zeroN, n, 91)
 else if (topQ (bare l)).2.2 = true ∨ (topQ (bare l)).2.1 < l.length then (zeroN, placeL n l (topQ (bare l)).2.1, 91)
 else if 16 < (topQ (bare l)).1.deep then (zeroN, 0, 92)
 else ((topQ (bare l)).1, 0, 0)
def parseQ (s : List UInt8) : Nod × Int × Int := match wordsL s 0 with | .error j => (zeroN, j, 81) | .ok l => parseQW s.length l
theorem topQ_le (L : List V) : (topQ L).2.1 ≤ L.length := (qq_ends L (L.length + 1) 0 false (Nat.zero_le _)).2.1
theorem op_ne {s : List UInt8} (hs : s ∈ opsQ) : s ≠ [] := by
 intro e
 subst e
 revert hs
 decide
end Go.Proofs.YtjbpkpfmgbhlpaaGreatDoor.Code
/-
  The document's reader of queries: the word that a query begins with; whether another part comes; an expression.
-/
namespace Go.Proofs.YtjbpkpfmgbhlpaaGreatDoor.Code
open Go.ChangeShapes Go.WideShapes Go.ChangeAt Go.RowKit Val Elems
set_option linter.unusedVariables false
set_option linter.unusedSimpArgs false
theorem opQ_none {L : List V} {i : Nat} {b : Bool} : ∀ {l : List (List UInt8)}, (∀ s ∈ l, wordQ L i b s [40] = false) → opQ L i b l = []
 | [], _ => rfl
 | s :: l, h => by rw [opQ, if_neg (by rw [h s (List.mem_cons_self ..)]; decide)]; exact opQ_none fun t ht => h t (List.mem_cons_of_mem _ ht)
theorem opQ_step {L : List V} {i : Nat} {b : Bool} : ∀ (ls : List (List UInt8)) (k : Nat) (h : k < ls.length), (∀ j (hj : j < ls.length), j < k → wordQ L i b ls[j] [40] = false) → wordQ L i b ls[k] [40] = true → opQ L i b ls = ls[k]
 | [], k, h, _, _ => absurd h (Nat.not_lt_zero _)
 | s :: ls, 0, h, _, hw => by
  rw [opQ, if_pos (show wordQ L i b s [40] = true from hw)]
  rfl
 | s :: ls, k + 1, h, hb, hw => by
  have h0 := hb 0 (by simp) (by omega)
  rw [opQ, if_neg (by rw [show wordQ L i b s [40] = false from h0]; decide)]
  exact opQ_step ls k (by simpa using h) (fun j hj hjk => hb (j + 1) (by simpa using hj) (by omega)) hw
theorem add_zero (g k : Nat) : (⟨g, 0, none⟩ : Addr).add k = ⟨g, k, none⟩ := by
 unfold Addr.add
 split
 ·rename_i h; subst h; rfl
 ·simp
theorem Rdr.at2 {w : World} {r : Nat} {A : Option Addr} {cap : Nat} {l : List W} {i : Nat} {b : Bool} (h : Rdr w r A cap l i b) : Rdr (w.setCell ⟨r, 1, none⟩ (.int .i64 ((i : Int) + 2))) r A cap l (i + 2) b := by
 have := h.at (i + 2)
 rw [Int.natCast_add] at this
 exact this
theorem qop_any (r q : Nat) (A : Option Addr) (cap : Nat) (l : List W) (i : Nat) (b : Bool) (w : World) (h : QRd w r q A cap l i b) (hi : i ≤ l.length) (hl : l.length ≤ 4194304) (o : List UInt8) (ho : opQ (bare l) i b opsQ = o) :
  Calls Tryz.prog 57 #[.pointer (some ⟨q, 0, none⟩)] w fun e w' => e = .returned (.string ⟨o.toArray⟩) ∧ But w w' r ∧ QRd w' r q A cap l (if o = [] then i else i + 2) b := by
 have HR := hid h
 have HO := hid ho
 have zr := h.lt
 clear h ho
 go_enter Tryz.func57, Tryz.ntmps57
 go_wp2
 obtain ⟨w0, hw0⟩ : ∃ w0, w.alloc (.cells #[.string ⟨#[102, 105, 108, 116, 101, 114]⟩, .string ⟨#[112, 114, 111, 106, 101, 99, 116]⟩, .string ⟨#[106, 111, 105, 110]⟩, .string ⟨#[117, 110, 105, 111, 110]⟩, .string ⟨#[100, 105, 115, 116, 105, 110, 99, 116]⟩, .string ⟨#[103, 114, 111, 117, 112]⟩] 9) = w0 := ⟨_, rfl⟩
 have hz0 : w0.heap.size = w.heap.size + 1 := by rw [← hw0]; simp
 have VS := hid (show At sc 1 w0 w0.heap.size (some ⟨w.heap.size, 0, none⟩) opsQ by rw [hz0, ← hw0]; exact texts_new w opsQ _ _ rfl)
 have R0 := hid (show QRd w0 r q A cap l i b by rw [← hw0]; exact HR.out.alloc _)
 have B0 := hid (show But w w0 r by rw [← hw0]; exact (But.refl w r).alloc _)
 rw [hw0]
 clear hw0
 go_loopw [4] (fun t wr => ∃ k : Nat, k ≤ 6 ∧ t = .int .i64 k ∧ Hid (∀ j (hj : j < opsQ.length), j < k → wordQ (bare l) i b opsQ[j] [40] = false) ∧ Below w0.heap.size w0 wr) (fun t _ => 6 - (intOf t).toNat)
 case atStart => exact ⟨0, by omega, rfl, hid (fun j hj h => absurd h (Nat.not_lt_zero _)), Below.refl _ _⟩
 case round =>
  obtain ⟨k, hk, rfl, HB, hbel⟩ := hrel
  have HBE := hid hbel
  have HRD := hid (R0.out.below hbel)
  have VS2 := hid (VS.out.below hbel)
  have hz := hbel.size
  clear hbel
  by_cases hkl : k < 6
  ·obtain ⟨ad, e0, ha, c0⟩ := at_text VS2.out k (show k < opsQ.length from hkl)
   obtain rfl : (⟨w.heap.size, 0, none⟩ : Addr) = ad := Option.some.inj e0
   obtain ⟨s, hsx⟩ : ∃ s, opsQ[k]'(show k < opsQ.length from hkl) = s := ⟨_, rfl⟩
   obtain ⟨T, hT⟩ : ∃ T : ByteArray, ⟨s.toArray⟩ = T := ⟨_, rfl⟩
   have hTs : T.data.toList = s := by rw [← hT]
   rw [hsx, hT, add_zero] at c0
   obtain ⟨g, hg⟩ : ∃ g, wordQ (bare l) i b s [40] = g := ⟨_, rfl⟩
   have HTK := hid (qword_any r q A cap l i b T ⟨#[40]⟩ wr HRD.out hi hl)
   rw [hTs, show (⟨#[40]⟩ : ByteArray).data.toList = [40] from rfl, hg] at HTK
   cases g
   ·have HB2 := hid (show ∀ j (hj : j < opsQ.length), j < k + 1 → wordQ (bare l) i b opsQ[j] [40] = false by
     intro j hj hjk
     by_cases e : j = k
     ·subst e; rw [hsx]; exact hg
     ·exact HB.out j hj (by omega))
    clear hg hsx hT hTs
    go_wp2_with fail
    refine HTK.out.mono ?_
    rintro e w1 ⟨rfl, hb1⟩
    have B1 := hid (bnext HBE.out hz hb1)
    clear hb1 c0 HTK
    go_wp2
    go_roundw
    case rel => exact ⟨k + 1, by omega, by go_num, HB2, B1.out⟩
    case measure => simp [intOf]; omega
   ·have hx := opQ_step opsQ k (show k < opsQ.length from hkl) HB.out (by rw [hsx]; exact hg)
    rw [HO.out, hsx] at hx
    subst hx
    have hq0 : o ≠ [] := op_ne (hsx ▸ List.getElem_mem _)
    have hilt := word_lt hg
    obtain rfl : b = false := hilt.2
    have HC := hid (fun (w' : World) (hb : Below wr.heap.size wr w') => show w'.cell? ⟨w.heap.size, k, none⟩ = some (.string T) from (hb.cell (p := ⟨w.heap.size, k, none⟩) (by show w.heap.size < _; omega)).trans c0)
    have HT := hid hT
    clear hg hsx hT hTs
    go_wp2_with fail
    refine HTK.out.mono ?_
    rintro e w1 ⟨rfl, hb1⟩
    have R1 := hid (HRD.out.below hb1)
    have B1 := hid (B0.out.trans (But.of (bnext HBE.out hz hb1) r))
    have hz1 := hb1.size
    have d1 := HC.out _ hb1
    have K0 := hid (fun (w' : World) (hb : But w1 w' r) => (show (w'.cell? ⟨q, 0, none⟩ = some (.pointer (some ⟨r, 0, none⟩))) ∧ But w1 w' r from ⟨(hb.cell (q := ⟨q, 0, none⟩) R1.out.ltq R1.out.ne).trans R1.out.cq, hb⟩))
    have c1 : w1.drew.cell? ⟨r, 1, none⟩ = some (.int .i64 i) := R1.out.rd.c1
    have f1 : w1.drew.frozen? ⟨r, 1, none⟩ = false := R1.out.rd.fr 1
    have e1 : IntKind.i64.wrap ((i : Int) + 2) = (i : Int) + 2 := by
     have := hilt.1
     rw [bare_length] at this
     rw [IntKind.wrap_i64]
     omega
    clear hb1 c0 HTK
    go_wp2_with fail
    refine wp_region_held_drew (S := fun w' => (w'.cell? ⟨q, 0, none⟩ = some (.pointer (some ⟨r, 0, none⟩))) ∧ But w1 w' r) (by kernel_rfl) (K0.out _ (But.of ((Below.refl _ _).drew) r)) (fun hHeld => ?_)
    refine take1 (v := ?_) 0 20 rfl ?_ ?_; rotate_left; (intro w hSw; (try dsimp only at hSw); go_simp; try with_reducible rfl); (try simp only [Act.put, List.setIfInBounds_toArray, List.set_cons_zero, List.set_cons_succ])
    refine take1 (v := ?_) 1 21 rfl ?_ ?_; rotate_left; (intro w hSw; (try dsimp only at hSw); go_simp; try with_reducible rfl); (try simp only [Act.put, List.setIfInBounds_toArray, List.set_cons_zero, List.set_cons_succ])
    refine take1 (v := ?_) 2 22 rfl ?_ ?_; rotate_left; (intro w hSw; (try dsimp only at hSw); go_simp; try with_reducible rfl); (try simp only [Act.put, List.setIfInBounds_toArray, List.set_cons_zero, List.set_cons_succ])
    refine take1 (v := ?_) 3 23 rfl ?_ ?_; rotate_left; (intro w hSw; (try dsimp only at hSw); go_simp; try with_reducible rfl); (try simp only [Act.put, List.setIfInBounds_toArray, List.set_cons_zero, List.set_cons_succ])
    refine take1 (v := ?_) 4 24 rfl ?_ ?_; rotate_left; (intro w hSw; (try dsimp only at hSw); go_simp; try with_reducible rfl); (try simp only [Act.put, List.setIfInBounds_toArray, List.set_cons_zero, List.set_cons_succ])
    refine take1 (v := ?_) 5 25 rfl ?_ ?_; rotate_left; (intro w hSw; (try dsimp only at hSw); go_simp; try with_reducible rfl); (try simp only [Act.put, List.setIfInBounds_toArray, List.set_cons_zero, List.set_cons_succ])
    refine take1 (v := ?_) 6 26 rfl ?_ ?_; rotate_left; (intro w hSw; (try dsimp only at hSw); go_simp; try with_reducible rfl); (try simp only [Act.put, List.setIfInBounds_toArray, List.set_cons_zero, List.set_cons_succ])
    refine take1 (v := ?_) 7 27 rfl ?_ ?_; rotate_left; (intro w hSw; (try dsimp only at hSw); go_simp; try with_reducible rfl); (try simp only [Act.put, List.setIfInBounds_toArray, List.set_cons_zero, List.set_cons_succ])
    refine take1 (v := ?_) 8 28 rfl ?_ ?_; rotate_left; (intro w hSw; (try dsimp only at hSw); go_simp; try with_reducible rfl); (try simp only [Act.put, List.setIfInBounds_toArray, List.set_cons_zero, List.set_cons_succ])
    refine take1 (v := ?_) 9 29 rfl ?_ ?_; rotate_left; (intro w hSw; (try dsimp only at hSw); go_simp; try with_reducible rfl); (try simp only [Act.put, List.setIfInBounds_toArray, List.set_cons_zero, List.set_cons_succ])
    refine wpAnyH_ready (rs := [10]) (by kernel_rfl) (by simp) ?_
    refine AllReadyH.cons (o := ⟨some 30, _, _, _, _, _⟩) rfl (fun K hK => ?_) AllReadyH.nil
    go_simp
    refine hK.out _ _ (K0.out _ (But.of ((Below.refl _ _).drew) r)) (fun hHeld2 => ?_)
    clear hK K
    (try simp only [Act.put, List.setIfInBounds_toArray, List.set_cons_zero, List.set_cons_succ])
    refine take1 (v := ?_) 11 31 rfl ?_ ?_; rotate_left; (intro w hSw; (try dsimp only at hSw); go_simp; try with_reducible rfl); (try simp only [Act.put, List.setIfInBounds_toArray, List.set_cons_zero, List.set_cons_succ])
    refine take1 (v := ?_) 12 32 rfl ?_ ?_; rotate_left; (intro w hSw; (try dsimp only at hSw); go_simp; try with_reducible rfl); (try simp only [Act.put, List.setIfInBounds_toArray, List.set_cons_zero, List.set_cons_succ])
    refine take1 (v := ?_) 13 33 rfl ?_ ?_; rotate_left; (intro w hSw; (try dsimp only at hSw); go_simp; try with_reducible rfl); (try simp only [Act.put, List.setIfInBounds_toArray, List.set_cons_zero, List.set_cons_succ])
    refine wpAnyH_ready (rs := [14]) (by kernel_rfl) (by simp) ?_
    refine AllReadyH.cons (o := ⟨none, _, _, _, _, _⟩) rfl (fun K hK => ?_) AllReadyH.nil
    go_simp
    refine hK.out _ _ (K0.out _ ((But.of ((Below.refl _ _).drew) r).setCell 1 _)) (fun hHeld3 => ?_)
    clear hK K
    (try simp only [Act.put, List.setIfInBounds_toArray, List.set_cons_zero, List.set_cons_succ])
    refine wpAnyH_done (by kernel_rfl) ?_ _
    clear hHeld hHeld2 hHeld3
    obtain ⟨w2, hw2⟩ : ∃ w2, (w1.setCell ⟨r, 1, none⟩ (.int .i64 ((i : Int) + 2))).drew = w2 := ⟨_, rfl⟩
    have hw3 : w1.drew.setCell ⟨r, 1, none⟩ (.int .i64 ((i : Int) + 2)) = w2 := hw2
    have R2 := hid (show QRd w2 r q A cap l (i + 2) false by
     rw [← hw3]
     exact ⟨(R1.out.rd.below (Below.drew (Below.refl _ _))).at2, (World.cell?_setCell_other _ _ _ _ (fun e => R1.out.ne (congrArg Addr.block e).symm)).trans R1.out.cq, R1.out.ne⟩)
    have B2 := hid (show But w w2 r by rw [← hw3]; exact (B1.out.next (Below.drew (Below.refl _ _))).setCell 1 _)
    have d2 : w2.cell? ⟨w.heap.size, k, none⟩ = some (.string T) := by
     rw [← hw3, World.cell?_setCell_other _ _ _ _ (by
      intro e
      have h2 : r = w.heap.size := congrArg Addr.block e
      omega)]
     exact d1
    try rw [hw2]
    clear hw2 hw3 c1 f1 d1
    go_wp2
    go_ret
    refine ⟨retS HT.out.symm, B2.out, ?_⟩
    first | exact R2.out | (rw [if_neg hq0]; exact R2.out)
  ·have hx : opQ (bare l) i b opsQ = [] := opQ_none fun s hs => by
    obtain ⟨j, hj, rfl⟩ := List.mem_iff_getElem.1 hs
    exact HB.out j hj (by have : j < 6 := hj; omega)
   rw [HO.out] at hx
   subst hx
   obtain rfl : k = 6 := by omega
   go_wp2
   go_ret
   exact ⟨rfl, B0.out.next HBE.out, HRD.out⟩
theorem QRd.must {w w' : World} {r q : Nat} {A : Option Addr} {cap : Nat} {l : List W} {i j : Nat} {b c : Bool} (h : QRd w r q A cap l i b) (hb : But w w' r) (hr : Rdr w' r A cap l j c) {p : Nat × Bool} (hp : p = (j, c)) : QRd w' r q A cap l p.1 p.2 := by
 subst hp
 exact h.but hb hr
theorem must_is (L : List V) (i : Nat) (b : Bool) (s : List UInt8) (g : Bool) (hg : isW L i b s = g) : mustQ L i b s = (if g = true then i + 1 else i, if g = true then b else true) := by
 unfold mustQ
 rw [hg]
 cases g <;> simp
theorem qmust_any (r q : Nat) (A : Option Addr) (cap : Nat) (l : List W) (i : Nat) (b : Bool) (s : ByteArray) (w : World) (h : QRd w r q A cap l i b) (hi : i ≤ l.length) (hl : l.length ≤ 4194304) :
  Calls Tryz.prog 59 #[.pointer (some ⟨r, 0, none⟩), .string s] w fun e w' => e = .returned (.tuple #[]) ∧ But w w' r ∧ QRd w' r q A cap l (mustQ (bare l) i b s.data.toList).1 (mustQ (bare l) i b s.data.toList).2 := by
 refine (rmust_any r A cap l i b s _ rfl w h.rd hi hl).mono fun e w' hp => ⟨hp.1, hp.2.1, h.must hp.2.1 hp.2.2 (must_is _ _ _ _ _ rfl)⟩
theorem qtake_any (r q : Nat) (A : Option Addr) (cap : Nat) (l : List W) (i : Nat) (b : Bool) (s : ByteArray) (g : Bool) (hg : isW (bare l) i b s.data.toList = g) (w : World) (h : QRd w r q A cap l i b) (hi : i ≤ l.length) (hl : l.length ≤ 4194304) :
  Calls Tryz.prog 99 #[.pointer (some ⟨r, 0, none⟩), .string s] w fun e w' => e = .returned (.bool g) ∧ But w w' r ∧ QRd w' r q A cap l (if g = true then i + 1 else i) b :=
 (rtake_any r A cap l i b s g hg w h.rd hi hl).mono fun e w' hp => ⟨hp.1, hp.2.1, h.but hp.2.1 hp.2.2⟩
theorem qname_any (r q : Nat) (A : Option Addr) (cap : Nat) (l : List W) (i : Nat) (b : Bool) (w : World) (h : QRd w r q A cap l i b) (hi : i ≤ l.length) (hl : l.length ≤ 4194304) :
  Calls Tryz.prog 58 #[.pointer (some ⟨r, 0, none⟩)] w fun e w' => e = .returned (.string ⟨(nmQ (bare l) i b).1.toArray⟩) ∧ But w w' r ∧ QRd w' r q A cap l (nmQ (bare l) i b).2.1 (nmQ (bare l) i b).2.2 := by
 refine (rname_any r A cap l i b w h.rd hi hl _ rfl).mono fun e w' hp => ?_
 have e1 : nmQ (bare l) i b = (if (isK (bare l) i b 0 && !ownL (txt (bare l) i)) = true then txt (bare l) i else [], if (isK (bare l) i b 0 && !ownL (txt (bare l) i)) = true then i + 1 else i, if (isK (bare l) i b 0 && !ownL (txt (bare l) i)) = true then b else true) := by
  unfold nmQ
  split <;> rfl
 rw [e1]
 exact ⟨hp.1, hp.2.1, h.but hp.2.1 hp.2.2⟩
theorem qmore_any (r q : Nat) (A : Option Addr) (cap : Nat) (l : List W) (i : Nat) (b first : Bool) (w : World) (h : QRd w r q A cap l i b) (hi : i ≤ l.length) (hl : l.length ≤ 4194304) :
  Calls Tryz.prog 101 #[.pointer (some ⟨q, 0, none⟩), .bool first] w fun e w' => e = .returned (.bool (moreQ (bare l) i b first).1) ∧ But w w' r ∧ QRd w' r q A cap l (moreQ (bare l) i b first).2.1 (moreQ (bare l) i b first).2.2 := by
 have HR := hid h
 have cq := h.cq
 have HM := hid (fun (w' : World) (h' : QRd w' r q A cap l i b) => qmust_any r q A cap l i b ⟨#[44]⟩ w' h' hi hl)
 obtain ⟨M, hM⟩ : ∃ M, moreQ (bare l) i b first = M := ⟨_, rfl⟩
 obtain ⟨C, hC⟩ : ∃ C, mustQ (bare l) i b [44] = C := ⟨_, rfl⟩
 rw [show (⟨#[44]⟩ : ByteArray).data.toList = [44] from rfl, hC] at HM
 have hmore := hM
 unfold moreQ at hmore
 rw [hC] at hmore
 rw [hM]
 clear h hM hC
 cases first
 ·obtain ⟨g, hg⟩ : ∃ g, isW (bare l) i b [41] = g := ⟨_, rfl⟩
  have HT := hid (fun (w' : World) (h' : QRd w' r q A cap l i b) => qtake_any r q A cap l i b ⟨#[41]⟩ g hg w' h' hi hl)
  rw [hg] at hmore
  cases g
  ·clear hg
   cases b
   ·obtain ⟨c1, c2⟩ := C
    subst hmore
    go_enter Tryz.func101, Tryz.ntmps101
    go_wp2_with fail
    refine (HT.out _ HR.out).mono ?_
    rintro e w1 ⟨rfl, hb1, hr1⟩
    have B1 := hid hb1
    have R1 := hid hr1
    have c0 := R1.out.cq
    have c2' := R1.out.rd.c2
    clear hb1 hr1 cq
    go_wp2_with fail
    refine (HM.out _ R1.out).mono ?_
    rintro e w2 ⟨rfl, hb2, hr2⟩
    have B2 := hid (B1.out.trans hb2)
    have R2 := hid hr2
    have d0 := R2.out.cq
    have d2 := R2.out.rd.c2
    try dsimp only at d2
    clear hb2 hr2 c0 c2'
    go_wp2
    go_ret
    exact ⟨rfl, B2.out, R2.out⟩
   ·subst hmore
    go_enter Tryz.func101, Tryz.ntmps101
    go_wp2_with fail
    refine (HT.out _ HR.out).mono ?_
    rintro e w1 ⟨rfl, hb1, hr1⟩
    have B1 := hid hb1
    have R1 := hid hr1
    have c0 := R1.out.cq
    have c2' := R1.out.rd.c2
    clear hb1 hr1 cq
    go_wp2
    go_ret
    exact ⟨rfl, B1.out, R1.out⟩
  ·subst hmore
   obtain rfl : b = false := isW_good hg
   clear hg
   go_enter Tryz.func101, Tryz.ntmps101
   go_wp2_with fail
   refine (HT.out _ HR.out).mono ?_
   rintro e w1 ⟨rfl, hb1, hr1⟩
   have B1 := hid hb1
   have R1 := hid hr1
   clear hb1 hr1 cq
   go_wp2
   go_ret
   exact ⟨rfl, B1.out, R1.out⟩
 ·obtain ⟨c1, c2⟩ := C
  subst hmore
  go_enter Tryz.func101, Tryz.ntmps101
  go_wp2_with fail
  refine (HM.out _ HR.out).mono ?_
  rintro e w2 ⟨rfl, hb2, hr2⟩
  have B2 := hid hb2
  have R2 := hid hr2
  have d0 := R2.out.cq
  have d2 := R2.out.rd.c2
  try dsimp only at d2
  clear hb2 hr2 cq
  go_wp2
  go_ret
  exact ⟨rfl, B2.out, R2.out⟩
def GetN (r q : Nat) (A : Option Addr) (cap : Nat) (l : List W) (w : World) (res : Res) (e : Ending) (w' : World) : Prop :=
 ∃ (op tx : ByteArray) (X : Option Addr) (n k : Nat), e = .returned (.agg #[.string op, .string tx, .slice X n k]) ∧ RIn w' (New w w') res.1 (op, tx, X, n, k) ∧ But w w' r ∧ QRd w' r q A cap l res.2.1 res.2.2
theorem qexpr_any (r q : Nat) (A : Option Addr) (cap : Nat) (l : List W) (i : Nat) (b : Bool) (w : World) (h : QRd w r q A cap l i b) (hi : i ≤ l.length) (hl : l.length ≤ 4194304) (hfg : FigW l) :
  Calls Tryz.prog 60 #[.pointer (some ⟨q, 0, none⟩)] w (GetN r q A cap l w ((exprQ (bare l) i b).1.n, (exprQ (bare l) i b).2)) := by
 have HR := hid h
 have zq := h.ltq
 have zr := h.lt
 have HE := hid (fun (w' : World) (h' : QRd w' r q A cap l i b) => (does (r := r) (A := A) (cap := cap) hl hfg (stepsN (bare l))).expr 1 i b w' (by omega) (by omega) hi (by
  have e : mu (bare l) (.expr 1) i = 16 * ((bare l).length - i) + 15 := rfl
  unfold stepsN
  omega) h'.rd)
 obtain ⟨P0, hP⟩ : ∃ P0, exprQ (bare l) i b = P0 := ⟨_, rfl⟩
 have hP' : P (bare l) (stepsN (bare l)) (.expr 1) i b = P0 := hP
 rw [hP'] at HE
 rw [hP]
 unfold Reads at HE
 obtain ⟨x, j, c⟩ := P0
 clear h hP hP'
 go_enter Tryz.func60, Tryz.ntmps60
 obtain ⟨w0, hw0, hz0, N0, B0⟩ := made0 w r
 have R0 := hid (show QRd w0 r q A cap l i b by rw [← hw0]; exact HR.out.alloc _)
 have cq := R0.out.cq
 go_wp2_with fail
 try rw [hw0]
 refine (HE.out _ R0.out).mono ?_
 rintro e w1 ⟨op, tx, X, n, m, rfl, hn1, hb1, hr1⟩
 try dsimp only at hn1 hr1
 have z1 := hb1.size
 have R1 := hid (R0.out.but hb1 hr1)
 have B1 := hid (B0.out.trans hb1)
 have N1 := hid (N0.out.but (by omega) hb1)
 have I1 := hid (hn1.imp (S' := fun g => w.heap.size < g ∧ g < w1.heap.size) (fun g hg => by rcases hg with hg | hg; exact hg.elim; exact ⟨by have := hg.1; omega, hg.2⟩)).rin
 clear hn1 hb1 hr1 cq
 obtain ⟨x0, x1, x2, xf⟩ := N1.out
 go_wp2
 have Y := N1.out.set (.string op) (.string tx) (.slice X n m)
 exact bodyPost_ret (v := .agg #[.string op, .string tx, .slice X n m]) (by simp [results, Tryz.results60, go_sem, Y.c0, Y.c1, Y.c2]) rfl
  ⟨op, tx, X, n, m, rfl, ((I1.out).w3 (g := w.heap.size) (fun h => Nat.lt_irrefl _ h.1) _ _ _).imp (fun g hg => ⟨Nat.le_of_lt hg.1, by show g < (W3 w1 w.heap.size _ _ _).heap.size; rw [W3.size]; exact hg.2⟩), W3.but B1.out (Nat.le_refl _) _ _ _, R1.out.w3 zr (by omega) _ _ _⟩
theorem info_node : (Tryz.prog.info? 25).map (fun i => (i.zero, i.size, i.bytes)) = some (some (.agg #[.string ByteArray.empty, .string ByteArray.empty, .slice none 0 0]), 3, 56) := by kernel_rfl
def Apart (w wr : World) (X : Option Addr) (g : Nat) : Prop := w.heap.size ≤ g ∧ g < wr.heap.size ∧ ∀ ad, X = some ad → ad.block ≠ g
theorem own_but {w w' : World} {B r n k : Nat} {e : TypeId} {v : Value} {xs : List Value} (h : w.ownsRow B e k v n xs) (hb : But w w' r) (hB : r < B) : w'.ownsRow B e k v n xs :=
 h.kept (row := some r) ⟨hb.os, hb.tape, hb.output, hb.size, fun j hj hn => hb.block j hj (fun e => hn (by rw [e]))⟩ (by
  by_cases hv : v.ownBlock = some r
  ·have := (h.lt r hv).1
   omega
  ·exact .inr hv)
theorem RAll.apart {w wr w' : World} {r : Nat} {X : Option Addr} {ks : List Nod} {xs : List NV} (h : RAll wr (Apart w wr X) ks xs) (hr : r < w.heap.size) (hb : But wr w' r) : RAll w' (Apart w w' X) ks xs :=
 h.keep (fun g hg => ⟨hg.1, Nat.lt_of_lt_of_le hg.2.1 hb.size, hg.2.2⟩) (fun p hp => hb.cell hp.2.1 (by have := hp.1; omega))
theorem own_block {w : World} {B n : Nat} {X : Option Addr} {cp : Nat} {xs : List Value} (h : w.ownsRow B 25 3 (.slice X n cp) n xs) : ∀ ad, X = some ad → B ≤ ad.block ∧ ad.block < w.heap.size := fun ad e => h.lt ad.block (by rw [e]; rfl)
def GetL (r q : Nat) (A : Option Addr) (cap : Nat) (l : List W) (w : World) (res : Ress) (e : Ending) (w' : World) : Prop :=
 ∃ (X : Option Addr) (k : Nat) (xs : List NV), e = .returned (.slice X xs.length k) ∧ NAt w' (New w w') X xs ∧ RAll w' (New w w') res.1 xs ∧ But w w' r ∧ QRd w' r q A cap l res.2.1 res.2.2
theorem getL_own {r q : Nat} {A : Option Addr} {cap : Nat} {l : List W} {w w' : World} {ks : List Nod} {xs : List NV} {X : Option Addr} {cp j : Nat} {c : Bool} (ho : w'.ownsRow w.heap.size 25 3 (.slice X xs.length cp) xs.length (flatC nc xs)) (hr : RAll w' (Apart w w' X) ks xs) (hb : But w w' r) (hq : QRd w' r q A cap l j c) :
  GetL r q A cap l w (ks, j, c) (.returned (.slice X xs.length cp)) w' := by
 obtain ⟨A', cap', e, hat, hcp⟩ := own_nat ho
 injection e with e _ e2
 subst e e2
 exact ⟨X, cp, xs, rfl, hat, hr.keep (fun g hg => ⟨hg.1, hg.2.1⟩) (fun _ _ => rfl), hb, hq⟩
theorem grown_all {w w8 w9 : World} {X : Option Addr} {n cp gg : Nat} {ks : List Nod} {xs : List NV} {t : Nod} {y : NV} {S2 : Nat → Prop} (hr : RAll w8 (Apart w w8 X) ks xs) (hy : RIn w8 S2 t y) (hS2 : ∀ g, S2 g → w.heap.size ≤ g ∧ g < w8.heap.size ∧ ∀ ad, X = some ad → ad.block ≠ g)
  (hg : w8.grownBy w9 (Value.slice X n cp).ownBlock) (hat : (Value.slice X n cp).ownBlock = some gg ∨ gg = w8.heap.size) : RAll w9 (Apart w w9 (some ⟨gg, 0, none⟩)) (ks ++ [t]) (xs ++ [y]) := by
 have hown : ∀ g, (∀ ad, X = some ad → ad.block ≠ g) → (Value.slice X n cp).ownBlock ≠ some g := by
  intro g h e
  cases X with
  | none => cases e
  | some ad => exact h ad rfl (Option.some.inj e)
 have hne : ∀ g, g < w8.heap.size → (∀ ad, X = some ad → ad.block ≠ g) → gg ≠ g := by
  intro g hlt h e
  rcases hat with h1 | h1
  ·exact hown g h (by rw [h1, e])
  ·omega
 have hk : ∀ p : Addr, p.block < w8.heap.size → (∀ ad, X = some ad → ad.block ≠ p.block) → w9.cell? p = w8.cell? p := by
  intro p hlt h
  unfold World.cell?
  rw [hg.block p.block hlt (hown _ h).symm]
 have hz := hg.size
 have h1 : RAll w9 (Apart w w9 (some ⟨gg, 0, none⟩)) ks xs := hr.keep (fun g h => ⟨h.1, Nat.lt_of_lt_of_le h.2.1 hz, fun ad e => by cases e; exact hne g h.2.1 h.2.2⟩) (fun p hp => hk p hp.2.1 hp.2.2)
 have h2 : RIn w9 (Apart w w9 (some ⟨gg, 0, none⟩)) t y := hy.keep (fun g h => by
  obtain ⟨a1, a2, a3⟩ := hS2 g h
  exact ⟨a1, Nat.lt_of_lt_of_le a2 hz, fun ad e => by cases e; exact hne g a2 a3⟩) (fun p hp => hk p (hS2 _ hp).2.1 (hS2 _ hp).2.2)
 exact h1.snoc h2
def LInv (r q : Nat) (A : Option Addr) (cap : Nat) (l : List W) (w : World) (R : Ress) (el : Nat → Bool → Res) (v : Value) (wr : World) : Prop :=
 ∃ (f j : Nat) (c : Bool) (ks : List Nod) (xs : List NV) (X : Option Addr) (cp : Nat), v = .slice X xs.length cp ∧ wr.ownsRow w.heap.size 25 3 (.slice X xs.length cp) xs.length (flatC nc xs) ∧ RAll wr (Apart w wr X) ks xs ∧ j ≤ l.length ∧ l.length - j < f ∧ ks.length ≤ j + 2 ∧
  Hid (R = (ks ++ (loopQ (bare l) el f (ks.length == 0) j c).1, (loopQ (bare l) el f (ks.length == 0) j c).2)) ∧ But w wr r ∧ QRd wr r q A cap l j c
theorem loop_stop {L : List V} {el : Nat → Bool → Res} {f j : Nat} {first c : Bool} (hf : 0 < f) (hm : (moreQ L j c first).1 = false) : loopQ L el f first j c = ([], (moreQ L j c first).2) := by
 obtain ⟨f', rfl⟩ : ∃ f', f = f' + 1 := ⟨f - 1, by omega⟩
 rw [loopQ, if_pos hm]
theorem loop_go {L : List V} {el : Nat → Bool → Res} {f j : Nat} {first c : Bool} (hf : L.length - j < f) (hm : (moreQ L j c first).1 = true) : ∃ f', f = f' + 1 ∧ L.length - (j + 1) < f' ∧ j < L.length ∧ c = false ∧ (moreQ L j c first).2 = (j + 1, false) ∧
  loopQ L el f first j c = ((el (j + 1) false).1 :: (loopQ L el f' false (el (j + 1) false).2.1 (el (j + 1) false).2.2).1, (loopQ L el f' false (el (j + 1) false).2.1 (el (j + 1) false).2.2).2) := by
 have h1 := more_lt hm
 obtain ⟨f', rfl⟩ : ∃ f', f = f' + 1 := ⟨f - 1, by omega⟩
 refine ⟨f', rfl, by omega, h1.1, h1.2.1, h1.2.2, ?_⟩
 rw [loopQ, if_neg (by rw [hm]; decide), h1.2.2]
theorem nat_one (w : World) (o : Obj) (op tx : ByteArray) (Y : Option Addr) (n k : Nat) (ty : TypeId) (S : Nat → Prop) (hS : S w.heap.size) : NAt ((w.alloc (.cells #[.string op, .string tx, .slice Y n k] ty)).alloc o) S (some ⟨w.heap.size, 0, none⟩) [(op, tx, Y, n, k)] := by
 have h := (NBox.fresh w (.string op) (.string tx) (.slice Y n k) ty).alloc o
 intro i hi
 obtain rfl : i = 0 := by simp at hi; exact hi
 exact ⟨_, rfl, hS, h.c0, h.c1, h.c2⟩
theorem kid_made {w3 w4 : World} {t : Nod} {op tx : ByteArray} {Y : Option Addr} {n k : Nat} (h : RIn w4 (New w3 w4) t (op, tx, Y, n, k)) (hz : w3.heap.size ≤ w4.heap.size) (o1 o3 : Obj) (ty : TypeId) (a b : ByteArray) :
  RIn (((w4.alloc o1).alloc (.cells #[.string op, .string tx, .slice Y n k] ty)).alloc o3) (fun g => w3.heap.size ≤ g ∧ g < w4.heap.size + 3) (.mk a.data.toList b.data.toList [t]) (a, b, some ⟨w4.heap.size + 1, 0, none⟩, 1, 1) := by
 have hs : (w4.alloc o1).heap.size = w4.heap.size + 1 := by simp
 have h1 := nat_one (w4.alloc o1) o3 op tx Y n k ty (fun g => w3.heap.size ≤ g ∧ g < w4.heap.size + 3) ⟨by rw [hs]; omega, by rw [hs]; omega⟩
 rw [hs] at h1
 have h2 : RIn (((w4.alloc o1).alloc (.cells #[.string op, .string tx, .slice Y n k] ty)).alloc o3) (fun g => w3.heap.size ≤ g ∧ g < w4.heap.size + 3) t (op, tx, Y, n, k) :=
  ((((h.alloc (fun g hg => hg.2) o1).alloc (fun g hg => by have := hg.2; simp; omega) _).alloc (fun g hg => by have := hg.2; simp; omega) o3)).imp (fun g hg => ⟨hg.1, by have := hg.2; omega⟩)
 exact RIn.made (ks := [t]) 1 a b h1 (RAll.one h2) (by simp) (by simp)
theorem alloc3_new (w : World) (o1 o2 : Obj) (cs : Array Value) (t : TypeId) : (((w.alloc o1).alloc o2).alloc (.cells cs t)).heap[w.heap.size + 1 + 1]? = some (.cells cs t (0, 0)) := by
 have h := heap_alloc_new ((w.alloc o1).alloc o2) (.cells cs t)
 rw [show ((w.alloc o1).alloc o2).heap.size = w.heap.size + 1 + 1 by simp] at h
 exact h
theorem But.grown {w w8 w9 : World} {r : Nat} {row : Option Nat} (h : But w w8 r) (hg : w8.grownBy w9 row) (hrow : ∀ k, row = some k → w.heap.size ≤ k) : But w w9 r :=
 ⟨hg.os.trans h.os, hg.tape.trans h.tape, hg.output.trans h.output, Nat.le_trans h.size hg.size, fun k hk hn => (hg.block k (Nat.lt_of_lt_of_le hk h.size) (fun e => by have := hrow k e.symm; omega)).trans (h.block k hk hn)⟩
theorem QRd.under {w w' : World} {B r q : Nat} {A : Option Addr} {cap : Nat} {l : List W} {i : Nat} {b : Bool} (h : QRd w r q A cap l i b) (hb : Below B w w') (hr : r < B) (hq : q < B) : QRd w' r q A cap l i b :=
 ⟨⟨(hb.cell (p := ⟨r, 0, none⟩) hr).trans h.rd.c0, (hb.cell (p := ⟨r, 1, none⟩) hr).trans h.rd.c1, (hb.cell (p := ⟨r, 2, none⟩) hr).trans h.rd.c2, fun j => (hb.frozen (p := ⟨r, j, none⟩) hr).trans (h.rd.fr j), h.rd.ws.below (hb.mono (Nat.le_of_lt hr))⟩, (hb.cell (p := ⟨q, 0, none⟩) hq).trans h.cq, h.ne⟩
theorem linv_next {r q : Nat} {A : Option Addr} {cap : Nat} {l : List W} {w w8 w9 : World} {R : Ress} {el : Nat → Bool → Res} {f j : Nat} {c : Bool} {ks : List Nod} {xs : List NV} {X : Option Addr} {N cp gg cap9 : Nat} {t : Nod} {y : NV} {S2 : Nat → Prop}
  (hr : r < w.heap.size) (hq : q < w.heap.size) (hN : xs.length = N) (hown : w8.ownsRow w.heap.size 25 3 (.slice X N cp) N (flatC nc xs)) (hown9 : w9.ownsRow w.heap.size 25 3 (.slice (some ⟨gg, 0, none⟩) (N + 1) cap9) (N + 1) (flatC nc xs ++ nc y))
  (hg : w8.grownBy w9 (Value.slice X N cp).ownBlock) (hat : (Value.slice X N cp).ownBlock = some gg ∨ gg = w8.heap.size) (hA : RAll w8 (Apart w w8 X) ks xs) (hy : RIn w8 S2 t y) (hS2 : ∀ g, S2 g → w.heap.size ≤ g ∧ g < w8.heap.size ∧ ∀ ad, X = some ad → ad.block ≠ g)
  (hj : j ≤ l.length) (hf : l.length - j < f) (hk : ks.length + 1 ≤ j + 2) (hR : R = (ks ++ [t] ++ (loopQ (bare l) el f false j c).1, (loopQ (bare l) el f false j c).2)) (hb : But w w8 r) (hQ : QRd w8 r q A cap l j c) :
  LInv r q A cap l w R el (.slice (some ⟨gg, 0, none⟩) (N + 1) cap9) w9 ∧ QRd w9 r q A cap l j c := by
 have hl : (xs ++ [y]).length = N + 1 := by simp [hN]
 have hfl : flatC nc (xs ++ [y]) = flatC nc xs ++ nc y := flatC_snoc xs y
 have hrow : ∀ k, (Value.slice X N cp).ownBlock = some k → w.heap.size ≤ k := fun k e => (hown.lt k e).1
 have hB : Below w.heap.size w8 w9 := ⟨hg.os, hg.tape, hg.output, hg.size, fun k hk => hg.block k (Nat.lt_of_lt_of_le hk hb.size) (fun e => by have := hrow k e.symm; omega)⟩
 have hQ9 := hQ.under hB hr hq
 refine ⟨⟨f, j, c, ks ++ [t], xs ++ [y], some ⟨gg, 0, none⟩, cap9, by rw [hl], by rw [hl, hfl]; exact hown9, grown_all hA hy hS2 hg hat, hj, hf, by simp; omega, hid ?_, hb.grown hg hrow, hQ9⟩, hQ9⟩
 have e : ((ks ++ [t]).length == 0) = false := by simp
 rw [e]
 exact hR
theorem atq {w : World} {r q : Nat} {A : Option Addr} {cap : Nat} {l : List W} {i : Nat} {b : Bool} (h : QRd w r q A cap l i b) : atOf w r = i := Rdr.atOf h.rd
def QFrom (r q : Nat) (A : Option Addr) (cap : Nat) (l : List W) (el : Nat → Bool → Res) (i : Nat) : Prop :=
 ∀ (j : Nat) (c : Bool) (w' : World), i ≤ j → j ≤ l.length → QRd w' r q A cap l j c → Calls Tryz.prog 31 #[.pointer (some ⟨q, 0, none⟩)] w' (GetN r q A cap l w' (el j c))
theorem qqueries_any (r q : Nat) (A : Option Addr) (cap : Nat) (l : List W) (i : Nat) (b : Bool) (w : World) (h : QRd w r q A cap l i b) (hi : i ≤ l.length) (hl : l.length ≤ 4194304) (el : Nat → Bool → Res) (he : ∀ j c, j ≤ (bare l).length → Ends (bare l).length j c (el j c).2) (hq : QFrom r q A cap l el i) :
  Calls Tryz.prog 62 #[.pointer (some ⟨q, 0, none⟩)] w (GetL r q A cap l w (loopQ (bare l) (el) ((bare l).length + 1) true i b)) := by
 have HR := hid h
 have zr := h.lt
 have zq := h.ltq
 have HEN := hid he
 have HQQ := hid hq
 obtain ⟨R, hR⟩ : ∃ R, loopQ (bare l) (el) ((bare l).length + 1) true i b = R := ⟨_, rfl⟩
 have HRR := hid hR
 rw [hR]
 obtain ⟨i0, hi0, hz0, hz1, hz2⟩ := info_parts info_node
 clear h he hq hR
 go_enter Tryz.func62, Tryz.ntmps62
 go_wp2
 go_loopw [3] (fun v wr => LInv r q A cap l w R el v wr ∧ i ≤ atOf wr r) (fun _ wr => l.length - atOf wr r)
 case atStart =>
  refine ⟨⟨(bare l).length + 1, i, b, [], [], none, 0, rfl, World.ownsRow_nil _ _ _ _, RAll.nil _ _, hi, by rw [bare_length]; omega, by simp, hid ?_, But.refl _ _, HR.out⟩, by rw [atq HR.out]; exact Nat.le_refl _⟩
  rw [← HRR.out]
  rfl
 case round =>
  obtain ⟨⟨f, j, c, ks, xs, X, cp, rfl, hown, hall, hj, hf, hkj, HE, hbut, hqr⟩, hij⟩ := hrel
  rw [atq hqr] at hij
  have HO := hid hown
  have HA := hid hall
  have HB := hid hbut
  have HQ := hid hqr
  have hz := hbut.size
  have hks := hall.1
  have HAT := hid (atq hqr)
  obtain ⟨N, hN⟩ : ∃ N, xs.length = N := ⟨_, rfl⟩
  obtain ⟨fb, hfb⟩ : ∃ fb, (ks.length == 0) = fb := ⟨_, rfl⟩
  have e1 : ((N : Int) == 0) = fb := by
   rw [← hfb, ← hN, hks, Bool.eq_iff_iff]
   simp
  rw [hfb] at HE
  rw [hN] at HO ⊢
  have hNj : N ≤ j + 2 := by omega
  have HKS := hid (show ks.length = N by omega)
  have HN := hid hN
  have HM := hid (qmore_any r q A cap l j c fb wr hqr hj hl)
  obtain ⟨M, hM⟩ : ∃ M, moreQ (bare l) j c fb = M := ⟨_, rfl⟩
  rw [hM] at HM
  clear hown hall hbut hqr hks hN hfb
  cases hm1 : M.1 with
  | false =>
   have hst := loop_stop (el := el) (f := f) (by omega) (by rw [hM]; exact hm1)
   rw [hst, hM] at HE
   rw [hm1] at HM
   have HEE := hid (show R = (ks, M.2) by rw [HE.out]; simp)
   clear hst HE hm1 hM
   go_wp2_with fail
   refine HM.out.mono ?_
   rintro e w1 ⟨rfl, hb1, hr1⟩
   have O1 := hid (own_but HO.out hb1 (by omega))
   have A1 := hid (HA.out.apart zr hb1)
   have B1 := hid (HB.out.trans hb1)
   have R1 := hid hr1
   clear hb1 hr1
   go_wp2
   go_ret
   have hg := getL_own (xs := xs) (by rw [HN.out]; exact O1.out) A1.out B1.out R1.out
   rw [HN.out] at hg
   rw [HEE.out]
   exact hg
  | true =>
   obtain ⟨f', rfl, hf', hjl, rfl, hM2, hgo⟩ := loop_go (el := el) (by rw [bare_length]; exact hf) (by rw [hM]; exact hm1)
   rw [bare_length] at hf' hjl
   rw [hM] at hM2
   rw [hM2, hm1] at HM
   have HE2 := hid (show R = (ks ++ [(el (j + 1) false).1] ++ (loopQ (bare l) (el) f' false (el (j + 1) false).2.1 (el (j + 1) false).2.2).1, (loopQ (bare l) (el) f' false (el (j + 1) false).2.1 (el (j + 1) false).2.2).2) by
    rw [HE.out, hgo]
    simp)
   have E1 := HEN.out (j + 1) false (by rw [bare_length]; omega)
   obtain ⟨p0, hp0⟩ : ∃ p0, el (j + 1) false = p0 := ⟨_, rfl⟩
   rw [hp0] at HE2 E1
   have H1 := hid (fun (w' : World) (h' : QRd w' r q A cap l (j + 1) false) => HQQ.out (j + 1) false w' (by omega) (by omega) h')
   rw [hp0] at H1
   unfold GetN at H1
   have hp1 : j + 1 ≤ p0.2.1 := E1.1
   have hp2 : p0.2.1 ≤ l.length := by have := E1.2.1; rw [bare_length] at this; exact this
   have HP := hid (And.intro hp1 hp2)
   clear hgo HE hm1 hM hM2 hp0 E1 hp1 hp2
   go_wp2_with fail
   refine HM.out.mono ?_
   rintro e w1 ⟨rfl, hb1, hr1⟩
   have O1 := hid (own_but HO.out hb1 (by omega))
   have A1 := hid (HA.out.apart zr hb1)
   have B1 := hid (HB.out.trans hb1)
   have R1 := hid (show QRd w1 r q A cap l (j + 1) false from hr1)
   clear hb1 hr1 HM
   go_wp2_with fail
   refine (H1.out _ R1.out).mono ?_
   rintro e w4 ⟨op, tx, Y, n, k, rfl, hI, hb4, hr4⟩
   have hz4 := hb4.size
   have hz3 := B1.out.size
   have O4 := hid (own_but O1.out hb4 (by omega))
   have A4 := hid (A1.out.apart zr hb4)
   have B4 := hid (B1.out.trans hb4)
   have R4 := hid hr4
   have OB := hid (own_block O1.out)
   have I4 := hid hI
   clear hb4 hr4 hI H1
   go_wp2_with (at_builtin; refine wpList_append_lies _ rfl _ _ _ rfl w.heap.size 25 i0 _ 3 56 Tryz.underlying23 hi0 hz0 hz1 hz2 rfl (by omega) _ N (flatC nc xs) rfl ?ca ⟨w4.heap.size, 0, none⟩ 1 1 [.string op, .string tx, .slice Y n k] rfl rfl ?cn ?co (by omega) ?cm ?cb ?cs (w4.heap.size + 1) ?ch ?_)
   case ca => exact own_call O4.out (below_alloc _ _)
   case cn => exact World.news_of_block (heap_alloc_new w4 _)
   case co => exact nc_one (op, tx, Y, n, k)
   case cm => unfold maxLen; omega
   case cb => omega
   case cs => simp; omega
   case ch => simp
   intro gg cap9 w9 hown9 hgrow hat hlt9
   obtain ⟨W8, hW8⟩ : ∃ W8, w4.alloc (.cells #[.string op, .string tx, .slice Y n k] 25) = W8 := ⟨_, rfl⟩
   have hz8 : W8.heap.size = w4.heap.size + 1 := by rw [← hW8]; simp
   have BA := hid (show Below w4.heap.size w4 W8 by rw [← hW8]; exact (Below.refl _ _).alloc (Nat.le_refl _) _)
   rw [hW8] at hgrow
   have L9 := hid (linv_next (l := l) (A := A) (cap := cap) (R := R) (el := el) (f := f') (j := p0.2.1) (c := p0.2.2) (y := (op, tx, Y, n, k)) zr zq HN.out (own_call O4.out BA.out) hown9 hgrow (by rw [hz8]; exact hat) (A4.out.apart zr (But.of BA.out r)) (I4.out.bel (fun g hg => hg.2) BA.out) (fun g hg => ⟨by have := hg.1; omega, by have := hg.2; omega, fun ad e => by have := (OB.out ad e).2; have := hg.1; omega⟩) HP.out.2 (by have := HP.out.1; omega) (by have := HP.out.1; have := HKS.out; omega) HE2.out (B4.out.next BA.out) (R4.out.below BA.out))
   clear hown9 hgrow hat hlt9 hW8
   have hat9 := atq L9.out.2
   have hat0 := HAT.out
   have hp1 := HP.out.1
   go_wp2
   go_roundw
   case rel => exact ⟨L9.out.1, by rw [hat9]; omega⟩
   case measure => omega
end Go.Proofs.YtjbpkpfmgbhlpaaGreatDoor.Code
