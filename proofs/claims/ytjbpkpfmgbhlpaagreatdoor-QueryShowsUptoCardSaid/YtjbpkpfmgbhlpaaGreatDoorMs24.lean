/-
  The program's list of parts.
-/
import Derived.Test.YtjbpkpfmgbhlpaaGreatDoorMs18
import Derived.Test.YtjbpkpfmgbhlpaaGreatDoorMs19
set_option maxRecDepth 100000
set_option maxHeartbeats 16000000
open Go.Lib (hid)
namespace Go.Proofs.YtjbpkpfmgbhlpaaGreatDoor.Code
open Go.ChangeShapes Go.WideShapes Go.ChangeAt Go.RowKit Val Elems
set_option linter.unusedVariables false
set_option linter.unusedSimpArgs false
section
variable {r : Nat} {m : Int} {A : Option Addr} {cap : Nat} {l : List W} {qb qa : Nat}
def LsI (r : Nat) (m : Int) (A : Option Addr) (cap : Nat) (l : List W) (qb qa g : Nat) (T : Option (Nat → Nod)) (Pre : World → Prop) (j1 i0 least most : Nat) (el : Nat → Nat → Res) (R : Ress) (w wr : World) : Prop :=
 ∃ (f j : Nat) (ks : List Nod) (xs : List NV) (X : Option Addr) (cp : Nat), LsK r m A cap l qb qa g T Pre j1 w j ks xs X cp wr ∧ i0 ≤ j ∧ j ≤ l.length ∧ l.length - j + (1 - ks.length) < f ∧ ks.length ≤ j + 1 ∧
  Hid (R = (ks ++ (lsP (bare l) least most el f ks.length j).1, (lsP (bare l) least most el f ks.length j).2)) ∧ (ks.length = 1 → j = (el 0 i0).2.1) ∧ (ks.length = 0 → j = i0)
theorem ls_yes {L : List V} {least most : Nat} {el : Nat → Nat → Res} {f k i j5 : Nat} {ks : List Nod} (h1 : k < least ∨ (k < most ∧ isW L i false [44] = true)) (h2 : ¬ (0 < k ∧ isW L i false [44] = false)) (hj : j5 = if k = 0 then i else i + 1) {tt : Nod} {jj : Nat} {bb : Bool} (he : el k j5 = (tt, jj, bb)) :
  (ks ++ (lsP L least most el (f + 1) k i).1, (lsP L least most el (f + 1) k i).2) = if bb = true then (ks, jj, true) else (ks ++ tt :: (lsP L least most el f (k + 1) jj).1, (lsP L least most el f (k + 1) jj).2) := by
 rw [lsP, if_pos h1, if_neg h2, ← hj, he]
 dsimp only
 cases bb with
 | true => rw [ift, ift]; simp
 | false => rw [iff', iff']
theorem plist_any (hgd : Good l) {g : Nat} {T : Option (Nat → Nod)} {Pre : World → Prop} (fn : Nat) (en : ∀ args w, (callFunc fn args).run Tryz.prog w = .ok (.enter fn args) w) (cps : Array Value) (i0 : Nat) (el : Nat → Nat → Res) (least most : Nat) (w : World)
  (h0 : 0 < least) (hl9 : least ≤ 100) (hm9 : most ≤ 9223372036854775807) (hend : ∀ k i, i0 ≤ i → i ≤ l.length → i ≤ (el k i).2.1 ∧ (el k i).2.1 ≤ l.length)
  (hE : ElemC fn cps r m A cap l qb qa g T Pre i0 el) (h : Rq w r m A cap l qb qa i0) (hi : i0 ≤ l.length) (hp : Pre w) (hP : Firm r Pre w) (zg : g < w.heap.size) (hT : ∀ t, T = some t → g ≠ r) :
  Calls Tryz.prog 82 #[.pointer (some ⟨r, 0, none⟩), .int .i64 least, .int .i64 most, .func (.func fn) #[] cps] w (GiveL r m A cap l qb qa g T Pre ((el 0 i0).2.1 + 1) w (lsP (bare l) least most el ((bare l).length + 8) 0 i0)) := by
 obtain ⟨R, hR⟩ : ∃ R, lsP (bare l) least most el ((bare l).length + 8) 0 i0 = R := ⟨_, rfl⟩
 have HRR := hid hR
 obtain ⟨j1, hj1⟩ : ∃ j1, (el 0 i0).2.1 + 1 = j1 := ⟨_, rfl⟩
 rw [hR, hj1]
 have HJ1 := hid hj1
 obtain ⟨zi, hi0, hz0, hz1, hz2⟩ := info_parts info_node
 have HR0 := hid h
 have zr := h.lt
 have zq := h.ltq
 have za := h.lta
 have HP9 := hid hP
 have HT9 := hid hT
 have HEC := hid hE
 have HEN := hid hend
 have HPW := hid hp
 have hll := hgd.len
 have HGD := hid hgd
 clear h hR hj1 hP hT hE hend hp hgd
 go_enter Tryz.func82, Tryz.ntmps82
 go_wp2
 obtain ⟨wa, hwa⟩ : ∃ wa, w.alloc (.cells #[.string ⟨#[]⟩, .string ⟨#[]⟩, .slice none 0 0] 25) = wa := ⟨_, rfl⟩
 obtain ⟨w0, hw0⟩ : ∃ w0, wa.alloc (.cells #[.string ⟨#[]⟩, .string ⟨#[]⟩, .slice none 0 0] 25) = w0 := ⟨_, rfl⟩
 have hza : wa.heap.size = w.heap.size + 1 := by rw [← hwa]; simp
 have hz00 : w0.heap.size = w.heap.size + 2 := by rw [← hw0, ← hwa]; simp
 have B0 := hid (show But w w0 r by rw [← hw0, ← hwa]; exact ((But.refl w r).alloc _).alloc _)
 have K0 := hid (show LsK r m A cap l qb qa g T Pre j1 w i0 [] [] none 0 w0 from
  ⟨by rw [← hw0, ← hwa]; exact (NBox.fresh _ _ _ _ _).alloc _, by rw [← hw0, ← hza]; exact NBox.fresh _ _ _ _ _, World.ownsRow_nil _ _ _ _, RAll.nil _ _, B0.out.two g, by rw [← hw0, ← hwa]; exact (HR0.out.alloc _).alloc _, HP9.out _ _ (fun k hk hn => B0.out.block k hk hn) HPW.out, fun t ht h2 => by simp at h2⟩)
 rw [← hwa] at hw0
 rw [hw0]
 clear hwa hza hw0 wa
 go_loopw [12] (fun _ wr => LsI r m A cap l qb qa g T Pre j1 i0 least most el R w wr) (fun _ wr => (l.length - atOf wr r) + (1 - lenOf wr (w.heap.size + 1)))
 case atStart =>
  refine ⟨(bare l).length + 8, i0, [], [], none, 0, K0.out, Nat.le_refl _, hi, by rw [bare_length]; simp; omega, by simp, hid ?_, fun e => by simp at e, fun _ => rfl⟩
  rw [← HRR.out]
  rfl
 case round =>
  obtain ⟨f, j, ks, xs, X, cp, hK, hij, hj, hf, hkj, HE, h1j, h0j⟩ := hrel
  have KR := hid hK
  have HAT := hid hK.rd.rd.atOf
  have hLN := hK.mb.lenOf
  have hks := hK.all.1
  have hzk := hK.but.size
  obtain ⟨N, hN⟩ : ∃ N, xs.length = N := ⟨_, rfl⟩
  have hKS : ks.length = N := by omega
  have HKS := hid hKS
  have HN := hid hN
  rw [hN] at hLN
  have HLN := hid hLN
  have HH1 := hid h1j
  have HH0 := hid h0j
  rw [hKS] at hf hkj HE
  obtain ⟨f', rfl⟩ : ∃ f', f = f' + 1 := ⟨f - 1, by omega⟩
  obtain ⟨cm, hcm⟩ : ∃ cm, isW (bare l) j false [44] = cm := ⟨_, rfl⟩
  have HM := hid (fun w' (h' : Rq w' r m A cap l qb qa j) => pmark_any j 0 ⟨#[44]⟩ w' h' hj hll (by decide) (by decide) cm hcm)
  have HTK := hid (fun w' (h' : Rq w' r m A cap l qb qa j) => ptake_any j ⟨#[44]⟩ w' h' hj hll (by decide) cm hcm)
  have HCM := hid hcm
  have y2 := hK.mb.c2
  have yf := hK.mb.fr 2
  have zn := hK.mb.lt
  have zrr := hK.rd.lt
  rw [hN] at y2
  clear hK hLN hks hN hKS h1j h0j hcm
  by_cases hlt : N < least
  ·by_cases hN0 : N = 0
   ·-- the first part
    have e1 : decide ((N : Int) < (least : Int)) = true := by simp; omega
    have e1n : decide (N < least) = true := by simp; omega
    have e3 : decide ((0 : Int) < (N : Int)) = false := by simp; omega
    have e3n : decide (0 < N) = false := by simp; omega
    have hj5e : j = if N = 0 then j else j + 1 := by rw [if_pos hN0]
    obtain ⟨j5, hj5d⟩ : ∃ j5, j = j5 := ⟨_, rfl⟩
    obtain ⟨q5, hel⟩ : ∃ q5, el N j5 = q5 := ⟨_, rfl⟩
    obtain ⟨tt, jj, bb⟩ := q5
    have hij5 : i0 ≤ j5 := by omega
    have hj5 : j5 ≤ l.length := by omega
    have HE5 := hid (HE.out.trans (ls_yes (ks := ks) (f := f') (Or.inl hlt) (by rintro ⟨h, _⟩; omega) (hj5d.symm.trans hj5e) hel))
    have hjj := HEN.out N j5 hij5 hj5
    rw [hel] at hjj
    have HJ5 := hid (show j5 ≤ jj ∧ jj ≤ l.length from hjj)
    have HF5 := hid (show l.length - jj < f' by have h1 := HJ5.out.1; have h2 := HJ5.out.2; omega)
    have HC5 := hid (show N ≤ jj by have h1 := HJ5.out.1; omega)
    have HP5 := hid (show N = 1 → j5 = j1 by intro e; omega)
    have HO5 := hid (show N = 0 → jj = (el 0 i0).2.1 by intro e; have h9 := HH0.out (by rw [HKS.out]; exact e); rw [← hj5d, h9, e] at hel; rw [hel])
    have HM5 := hid (show (l.length - jj) + (1 - (N + 1)) < (l.length - j) + (1 - N) by have h1 := HJ5.out.1; have h2 := HJ5.out.2; omega)
    have HJD := hid hj5d
    have HECN := hid (fun w' (h' : Rq w' r m A cap l qb qa j5) (hp' : Pre w') => HEC.out N j5 w' hij5 hj5 (by omega) h' hp')
    rw [hel] at HECN
    clear hjj hj5e hel hj5d HE
    have hjj0 : j = j5 := HJD.out
    have K5 := hid (show LsK r m A cap l qb qa g T Pre j1 w j5 ks xs X cp wr by rw [← hjj0]; exact KR.out)
    have HN0 := hid hN0
    clear hN0
    go_wp2_with fail
    refine (HECN.out _ K5.out.rd K5.out.pre).mono ?_
    rintro e w6 ⟨op, tx, Y, n, c6, rfl, hn6, hb6, hr6, hp6, hk6, hx6⟩
    dsimp only at hn6 hr6
    have zb6 := hb6.size
    have K6 := hid (K5.out.part zr zg HT9.out hb6 hr6 hp6 (fun e => hk6 (by rw [HKS.out] at e; exact e)))
    have I6 := hid hn6
    have X6 := hid hx6
    have z06 := K6.out.but.size
    clear hn6 hb6 hr6 hp6 hk6 hx6 y2 yf
    cases bb with
    | true =>
     have HEE := hid (show R = (ks, jj, true) by rw [HE5.out]; rfl)
     obtain ⟨w7, hw7⟩ : ∃ w7, w6.alloc (.cells #[.string op, .string tx, .slice Y n c6] 25) = w7 := ⟨_, rfl⟩
     have K7 := hid (show LsK r m A cap l qb qa g T Pre j1 w jj ks xs X cp w7 by rw [← hw7]; exact K6.out.next zr HT9.out HP9.out (But.of (below_alloc w6 _) r) (K6.out.rd.alloc _))
     have HW7 := hid hw7
     clear HE5 hw7
     go_upto_region 6 with fail
     rw [HW7.out]
     obtain ⟨x0, x1, x2, xf⟩ := K7.out.nb
     have xl := K7.out.nb.lt
     go_wp2
     have Y9 := K7.out.nb.set (.string ⟨#[]⟩) (.string ⟨#[]⟩) (.slice none 0 0)
     have hg9 := K7.out.wrong zr zq za HP9.out ks
     rw [HEE.out]
     exact bodyPost_ret (v := .tuple #[.agg #[.string ⟨#[]⟩, .string ⟨#[]⟩, .slice none 0 0], .bool false]) (by simp [results, Tryz.results82, go_sem, Y9.c0, Y9.c1, Y9.c2]) rfl hg9
    | false =>
     have HEE := hid (show R = (ks ++ [tt] ++ (lsP (bare l) least most el f' (N + 1) jj).1, (lsP (bare l) least most el f' (N + 1) jj).2) by rw [HE5.out]; simp)
     clear HE5
     obtain ⟨w7, hw7⟩ : ∃ w7, w6.alloc (.cells #[.string op, .string tx, .slice Y n c6] 25) = w7 := ⟨_, rfl⟩
     have z7 : w7.heap.size = w6.heap.size + 1 := by rw [← hw7]; simp
     have V7 := hid (show NBox w7 w6.heap.size (.string op) (.string tx) (.slice Y n c6) by rw [← hw7]; exact NBox.fresh _ _ _ _ _)
     have K7 := hid (show LsK r m A cap l qb qa g T Pre j1 w jj ks xs X cp w7 by rw [← hw7]; exact K6.out.next zr HT9.out HP9.out (But.of (below_alloc w6 _) r) (K6.out.rd.alloc _))
     have I7 := hid (show RIn w7 (New wr w6) tt (op, tx, Y, n, c6) by rw [← hw7]; exact (I6.out rfl).alloc (fun k hk => hk.2) _)
     have X7 := hid (show ∀ t, T = some t → ks.length = 1 → ∃ y : NV, NVBox w7 g y ∧ RIn w7 (New wr w6) (t j5) y by
      intro t ht hk1
      obtain ⟨y, hy, hi7⟩ := X6.out t ht (by rw [HKS.out] at hk1; exact hk1) rfl
      rw [← hw7]
      exact ⟨y, hy.alloc _, hi7.alloc (fun k hk => hk.2) _⟩)
     have y2 := K7.out.mb.c2
     have yf := K7.out.mb.fr 2
     rw [HN.out] at y2
     obtain ⟨v0, v1, v2, vf⟩ := V7.out
     rw [← hw7] at y2 v0 v1 v2
     have HW7 := hid hw7
     clear hw7 vf K6 I6 X6
     go_wp2_with (at_builtin; rw [HW7.out]; refine wpList_append_lies _ rfl _ _ _ rfl (w.heap.size + 2) 25 zi _ 3 56 Tryz.underlying23 hi0 hz0 hz1 hz2 rfl (by omega) _ N (flatC nc xs) rfl ?ca ⟨w6.heap.size + 1, 0, none⟩ 1 1 [.string op, .string tx, .slice Y n c6] rfl rfl ?cn ?co (by omega) ?cm ?cb ?cs (w6.heap.size + 1 + 1) ?ch ?_)
     case ca => have hO := K7.out.own; rw [HN.out] at hO; exact own_call hO (below_alloc _ _)
     case cn => have h := World.news_of_block (heap_alloc_new w7 (.cells #[.string op, .string tx, .slice Y n c6] 25)); rw [z7] at h; exact h
     case co => exact nc_one (op, tx, Y, n, c6)
     case cm => unfold maxLen; omega
     case cb => omega
     case cs => simp; omega
     case ch => simp [z7]
     intro gg cap9 w9 hown9 hgrow hat hlt9
     obtain ⟨w8, hw8⟩ : ∃ w8, w7.alloc (.cells #[.string op, .string tx, .slice Y n c6] 25) = w8 := ⟨_, rfl⟩
     have z8 : w8.heap.size = w6.heap.size + 1 + 1 := by rw [← hw8]; simp [z7]
     rw [hw8] at hgrow
     have hrow : ∀ k, (Value.slice X N cp).ownBlock = some k → w.heap.size + 2 ≤ k ∧ k < wr.heap.size := fun k e => by
      have hO := K5.out.own
      rw [HN.out] at hO
      exact hO.lt k e
     have hXs : ∀ k, New wr w6 k → LS w w8 X k := fun k hk => ⟨by have := K5.out.mb.lt; have := hk.1; omega, by have := hk.2; omega, fun ad e => by
      have := (hrow ad.block (by rw [e]; rfl)).2
      have := hk.1
      omega⟩
     have K8 := hid (show LsK r m A cap l qb qa g T Pre j1 w jj ks xs X cp w8 by rw [← hw8]; exact K7.out.next zr HT9.out HP9.out (But.of (below_alloc w7 _) r) (K7.out.rd.alloc _))
     have K9 := hid (K8.out.add zr zq za zg HP9.out HN.out (t0 := tt) (y0 := (op, tx, Y, n, c6)) (by rw [← hw8]; exact ((I7.out.alloc (fun k hk => by have := hk.2; omega) _).imp (fun k hk => by rw [hw8]; exact hXs k hk))) (fun t ht hk1 => by
      obtain ⟨y, hy, hi7⟩ := X7.out t ht hk1
      have ej : j5 = j1 := HP5.out (by rw [HKS.out] at hk1; exact hk1)
      rw [ej] at hi7
      rw [← hw8]
      exact ⟨y, hy.alloc _, (hi7.alloc (fun k hk => by have := hk.2; omega) _).imp (fun k hk => by rw [hw8]; exact hXs k hk)⟩) hown9 hgrow (by rw [z8]; exact hat))
     have hz9 := hgrow.size
     have M9 := (K8.out.mb.grown hgrow (fun e => by have := hrow _ e; omega))
     have y2' := M9.c2
     have yf' := M9.fr 2
     rw [HN.out] at y2'
     have hsz : w.heap.size + 1 < w9.heap.size := M9.lt
     have IV := hid (show LsI r m A cap l qb qa g T Pre j1 i0 least most el R w (w9.setCell ⟨w.heap.size + 1, 2, none⟩ (.slice (some ⟨gg, 0, none⟩) (N + 1) cap9)) from
      ⟨f', jj, ks ++ [tt], xs ++ [(op, tx, Y, n, c6)], some ⟨gg, 0, none⟩, cap9, K9.out, by have := HJ5.out; omega, HJ5.out.2, by rw [List.length_append, HKS.out]; simp; exact HF5.out, by rw [List.length_append, HKS.out]; simp; have := HC5.out; omega, hid (by rw [List.length_append, HKS.out]; exact HEE.out), fun e => HO5.out (by rw [List.length_append, HKS.out] at e; simpa using e), fun e => by rw [List.length_append] at e; simp at e⟩)
     have hms : (l.length - atOf (w9.setCell ⟨w.heap.size + 1, 2, none⟩ (.slice (some ⟨gg, 0, none⟩) (N + 1) cap9)) r) + (1 - lenOf (w9.setCell ⟨w.heap.size + 1, 2, none⟩ (.slice (some ⟨gg, 0, none⟩) (N + 1) cap9)) (w.heap.size + 1)) < (l.length - atOf wr r) + (1 - lenOf wr (w.heap.size + 1)) := by
      have a1 := K9.out.rd.rd.atOf
      have a2 := K9.out.mb.lenOf
      have a3 := HAT.out
      have a4 := HLN.out
      rw [a1, a2, a3, a4]
      have := HM5.out
      simp only [List.length_append, HN.out, List.length_singleton]
      omega
     clear hgrow hat hown9 hlt9 M9
     go_wp2
     go_roundw
     case rel => exact IV.out
     case measure => exact hms
   ·cases cm with
    | false =>
     have e1 : decide ((N : Int) < (least : Int)) = true := by simp; omega
     have e1n : decide (N < least) = true := by simp; omega
     have e3 : decide ((0 : Int) < (N : Int)) = true := by simp; omega
     have e3n : decide (0 < N) = true := by simp; omega
     have HEE := hid (show R = (ks, j, true) by rw [HE.out, lsP, if_pos (Or.inl hlt), if_pos ⟨by omega, HCM.out⟩]; simp)
     clear HE
     have K3 := KR
     go_wp2_with fail
     refine (HTK.out _ K3.out.rd).mono ?_
     rintro e w5 ⟨rfl, hb5, hr5⟩
     rw [iff'] at hr5
     have K5 := hid (K3.out.next zr HT9.out HP9.out hb5 hr5)
     clear hb5 hr5 y2 yf
     have zn5 := K5.out.mb.lt
     have y2 := K5.out.mb.c2
     have yf := K5.out.mb.fr 2
     rw [HN.out] at y2
     obtain ⟨x0, x1, x2, xf⟩ := K5.out.nb
     go_wp2
     have Y9 := K5.out.nb.set (.string ⟨#[]⟩) (.string ⟨#[]⟩) (.slice none 0 0)
     rw [HEE.out]
     exact bodyPost_ret (v := .tuple #[.agg #[.string ⟨#[]⟩, .string ⟨#[]⟩, .slice none 0 0], .bool false]) (by simp [results, Tryz.results82, go_sem, Y9.c0, Y9.c1, Y9.c2]) rfl (K5.out.wrong zr zq za HP9.out ks)
    | true =>
     have e1 : decide ((N : Int) < (least : Int)) = true := by simp; omega
     have e1n : decide (N < least) = true := by simp; omega
     have e3 : decide ((0 : Int) < (N : Int)) = true := by simp; omega
     have e3n : decide (0 < N) = true := by simp; omega
     have hj5e : j + 1 = if N = 0 then j else j + 1 := by rw [if_neg (by omega)]
     obtain ⟨j5, hj5d⟩ : ∃ j5, j + 1 = j5 := ⟨_, rfl⟩
     obtain ⟨q5, hel⟩ : ∃ q5, el N j5 = q5 := ⟨_, rfl⟩
     obtain ⟨tt, jj, bb⟩ := q5
     have hij5 : i0 ≤ j5 := by omega
     have hj5 : j5 ≤ l.length := by have h9 := isW_lt HCM.out; rw [bare_length] at h9; omega
     have HE5 := hid (HE.out.trans (ls_yes (ks := ks) (f := f') (Or.inl hlt) (by rw [HCM.out]; rintro ⟨_, h⟩; cases h) (hj5d.symm.trans hj5e) hel))
     have hjj := HEN.out N j5 hij5 hj5
     rw [hel] at hjj
     have HJ5 := hid (show j5 ≤ jj ∧ jj ≤ l.length from hjj)
     have HF5 := hid (show l.length - jj < f' by have h1 := HJ5.out.1; have h2 := HJ5.out.2; omega)
     have HC5 := hid (show N ≤ jj by have h1 := HJ5.out.1; omega)
     have HP5 := hid (show N = 1 → j5 = j1 by intro e; have h9 := HH1.out (by rw [HKS.out]; exact e); rw [← hj5d, h9]; exact HJ1.out)
     have HO5 := hid (show N = 0 → jj = (el 0 i0).2.1 by intro e; omega)
     have HM5 := hid (show (l.length - jj) + (1 - (N + 1)) < (l.length - j) + (1 - N) by have h1 := HJ5.out.1; have h2 := HJ5.out.2; omega)
     have HJD := hid hj5d
     have HECN := hid (fun w' (h' : Rq w' r m A cap l qb qa j5) (hp' : Pre w') => HEC.out N j5 w' hij5 hj5 (by omega) h' hp')
     rw [hel] at HECN
     clear hjj hj5e hel hj5d HE
     have K3 := KR
     go_wp2_with fail
     refine (HTK.out _ K3.out.rd).mono ?_
     rintro e w5 ⟨rfl, hb5, hr5⟩
     rw [if_pos trivial, HJD.out] at hr5
     have K5 := hid (K3.out.next zr HT9.out HP9.out hb5 hr5)
     clear hb5 hr5 y2 yf
     have zn5 := K5.out.mb.lt
     have y2 := K5.out.mb.c2
     have yf := K5.out.mb.fr 2
     rw [HN.out] at y2
     go_wp2_with fail
     refine (HECN.out _ K5.out.rd K5.out.pre).mono ?_
     rintro e w6 ⟨op, tx, Y, n, c6, rfl, hn6, hb6, hr6, hp6, hk6, hx6⟩
     dsimp only at hn6 hr6
     have zb6 := hb6.size
     have K6 := hid (K5.out.part zr zg HT9.out hb6 hr6 hp6 (fun e => hk6 (by rw [HKS.out] at e; exact e)))
     have I6 := hid hn6
     have X6 := hid hx6
     have z06 := K6.out.but.size
     clear hn6 hb6 hr6 hp6 hk6 hx6 y2 yf
     cases bb with
     | true =>
      have HEE := hid (show R = (ks, jj, true) by rw [HE5.out]; rfl)
      obtain ⟨w7, hw7⟩ : ∃ w7, w6.alloc (.cells #[.string op, .string tx, .slice Y n c6] 25) = w7 := ⟨_, rfl⟩
      have K7 := hid (show LsK r m A cap l qb qa g T Pre j1 w jj ks xs X cp w7 by rw [← hw7]; exact K6.out.next zr HT9.out HP9.out (But.of (below_alloc w6 _) r) (K6.out.rd.alloc _))
      have HW7 := hid hw7
      clear HE5 hw7
      go_upto_region 6 with fail
      rw [HW7.out]
      obtain ⟨x0, x1, x2, xf⟩ := K7.out.nb
      have xl := K7.out.nb.lt
      go_wp2
      have Y9 := K7.out.nb.set (.string ⟨#[]⟩) (.string ⟨#[]⟩) (.slice none 0 0)
      have hg9 := K7.out.wrong zr zq za HP9.out ks
      rw [HEE.out]
      exact bodyPost_ret (v := .tuple #[.agg #[.string ⟨#[]⟩, .string ⟨#[]⟩, .slice none 0 0], .bool false]) (by simp [results, Tryz.results82, go_sem, Y9.c0, Y9.c1, Y9.c2]) rfl hg9
     | false =>
      have HEE := hid (show R = (ks ++ [tt] ++ (lsP (bare l) least most el f' (N + 1) jj).1, (lsP (bare l) least most el f' (N + 1) jj).2) by rw [HE5.out]; simp)
      clear HE5
      obtain ⟨w7, hw7⟩ : ∃ w7, w6.alloc (.cells #[.string op, .string tx, .slice Y n c6] 25) = w7 := ⟨_, rfl⟩
      have z7 : w7.heap.size = w6.heap.size + 1 := by rw [← hw7]; simp
      have V7 := hid (show NBox w7 w6.heap.size (.string op) (.string tx) (.slice Y n c6) by rw [← hw7]; exact NBox.fresh _ _ _ _ _)
      have K7 := hid (show LsK r m A cap l qb qa g T Pre j1 w jj ks xs X cp w7 by rw [← hw7]; exact K6.out.next zr HT9.out HP9.out (But.of (below_alloc w6 _) r) (K6.out.rd.alloc _))
      have I7 := hid (show RIn w7 (New w5 w6) tt (op, tx, Y, n, c6) by rw [← hw7]; exact (I6.out rfl).alloc (fun k hk => hk.2) _)
      have X7 := hid (show ∀ t, T = some t → ks.length = 1 → ∃ y : NV, NVBox w7 g y ∧ RIn w7 (New w5 w6) (t j5) y by
       intro t ht hk1
       obtain ⟨y, hy, hi7⟩ := X6.out t ht (by rw [HKS.out] at hk1; exact hk1) rfl
       rw [← hw7]
       exact ⟨y, hy.alloc _, hi7.alloc (fun k hk => hk.2) _⟩)
      have y2 := K7.out.mb.c2
      have yf := K7.out.mb.fr 2
      rw [HN.out] at y2
      obtain ⟨v0, v1, v2, vf⟩ := V7.out
      rw [← hw7] at y2 v0 v1 v2
      have HW7 := hid hw7
      clear hw7 vf K6 I6 X6
      go_wp2_with (at_builtin; rw [HW7.out]; refine wpList_append_lies _ rfl _ _ _ rfl (w.heap.size + 2) 25 zi _ 3 56 Tryz.underlying23 hi0 hz0 hz1 hz2 rfl (by omega) _ N (flatC nc xs) rfl ?ca ⟨w6.heap.size + 1, 0, none⟩ 1 1 [.string op, .string tx, .slice Y n c6] rfl rfl ?cn ?co (by omega) ?cm ?cb ?cs (w6.heap.size + 1 + 1) ?ch ?_)
      case ca => have hO := K7.out.own; rw [HN.out] at hO; exact own_call hO (below_alloc _ _)
      case cn => have h := World.news_of_block (heap_alloc_new w7 (.cells #[.string op, .string tx, .slice Y n c6] 25)); rw [z7] at h; exact h
      case co => exact nc_one (op, tx, Y, n, c6)
      case cm => unfold maxLen; omega
      case cb => omega
      case cs => simp; omega
      case ch => simp [z7]
      intro gg cap9 w9 hown9 hgrow hat hlt9
      obtain ⟨w8, hw8⟩ : ∃ w8, w7.alloc (.cells #[.string op, .string tx, .slice Y n c6] 25) = w8 := ⟨_, rfl⟩
      have z8 : w8.heap.size = w6.heap.size + 1 + 1 := by rw [← hw8]; simp [z7]
      rw [hw8] at hgrow
      have hrow : ∀ k, (Value.slice X N cp).ownBlock = some k → w.heap.size + 2 ≤ k ∧ k < w5.heap.size := fun k e => by
       have hO := K5.out.own
       rw [HN.out] at hO
       exact hO.lt k e
      have hXs : ∀ k, New w5 w6 k → LS w w8 X k := fun k hk => ⟨by have := K5.out.mb.lt; have := hk.1; omega, by have := hk.2; omega, fun ad e => by
       have := (hrow ad.block (by rw [e]; rfl)).2
       have := hk.1
       omega⟩
      have K8 := hid (show LsK r m A cap l qb qa g T Pre j1 w jj ks xs X cp w8 by rw [← hw8]; exact K7.out.next zr HT9.out HP9.out (But.of (below_alloc w7 _) r) (K7.out.rd.alloc _))
      have K9 := hid (K8.out.add zr zq za zg HP9.out HN.out (t0 := tt) (y0 := (op, tx, Y, n, c6)) (by rw [← hw8]; exact ((I7.out.alloc (fun k hk => by have := hk.2; omega) _).imp (fun k hk => by rw [hw8]; exact hXs k hk))) (fun t ht hk1 => by
       obtain ⟨y, hy, hi7⟩ := X7.out t ht hk1
       have ej : j5 = j1 := HP5.out (by rw [HKS.out] at hk1; exact hk1)
       rw [ej] at hi7
       rw [← hw8]
       exact ⟨y, hy.alloc _, (hi7.alloc (fun k hk => by have := hk.2; omega) _).imp (fun k hk => by rw [hw8]; exact hXs k hk)⟩) hown9 hgrow (by rw [z8]; exact hat))
      have hz9 := hgrow.size
      have M9 := (K8.out.mb.grown hgrow (fun e => by have := hrow _ e; omega))
      have y2' := M9.c2
      have yf' := M9.fr 2
      rw [HN.out] at y2'
      have hsz : w.heap.size + 1 < w9.heap.size := M9.lt
      have IV := hid (show LsI r m A cap l qb qa g T Pre j1 i0 least most el R w (w9.setCell ⟨w.heap.size + 1, 2, none⟩ (.slice (some ⟨gg, 0, none⟩) (N + 1) cap9)) from
       ⟨f', jj, ks ++ [tt], xs ++ [(op, tx, Y, n, c6)], some ⟨gg, 0, none⟩, cap9, K9.out, by have := HJ5.out; omega, HJ5.out.2, by rw [List.length_append, HKS.out]; simp; exact HF5.out, by rw [List.length_append, HKS.out]; simp; have := HC5.out; omega, hid (by rw [List.length_append, HKS.out]; exact HEE.out), fun e => HO5.out (by rw [List.length_append, HKS.out] at e; simpa using e), fun e => by rw [List.length_append] at e; simp at e⟩)
      have hms : (l.length - atOf (w9.setCell ⟨w.heap.size + 1, 2, none⟩ (.slice (some ⟨gg, 0, none⟩) (N + 1) cap9)) r) + (1 - lenOf (w9.setCell ⟨w.heap.size + 1, 2, none⟩ (.slice (some ⟨gg, 0, none⟩) (N + 1) cap9)) (w.heap.size + 1)) < (l.length - atOf wr r) + (1 - lenOf wr (w.heap.size + 1)) := by
       have a1 := K9.out.rd.rd.atOf
       have a2 := K9.out.mb.lenOf
       have a3 := HAT.out
       have a4 := HLN.out
       rw [a1, a2, a3, a4]
       have := HM5.out
       simp only [List.length_append, HN.out, List.length_singleton]
       omega
      clear hgrow hat hown9 hlt9 M9
      go_wp2
      go_roundw
      case rel => exact IV.out
      case measure => exact hms
  ·by_cases hmo : N < most
   ·cases cm with
    | false =>
     have e1 : decide ((N : Int) < (least : Int)) = false := by simp; omega
     have e1n : decide (N < least) = false := by simp; omega
     have e2 : decide ((N : Int) < (most : Int)) = true := by simp; omega
     have e2n : decide (N < most) = true := by simp; omega
     go_wp2_with fail
     refine (HM.out _ KR.out.rd).mono ?_
     rintro e w3 ⟨rfl, hb3⟩
     have K3 := hid (KR.out.next zr HT9.out HP9.out (But.of hb3 r) (KR.out.rd.below hb3))
     clear hb3 y2 yf
     have zn3 := K3.out.mb.lt
     have y2 := K3.out.mb.c2
     have yf := K3.out.mb.fr 2
     rw [HN.out] at y2
     have HEE := hid (show R = (ks, j, false) by rw [HE.out, lsP, if_neg (by rintro (h | ⟨h, h'⟩) <;> first | omega | (rw [HCM.out] at h'; cases h'))]; simp)
     obtain ⟨x0, x1, x2, xf⟩ := K3.out.nb
     obtain ⟨y0, y1, -, -⟩ := K3.out.mb
     clear HE
     go_wp2
     have Y9 := K3.out.nb.set (.string ⟨#[]⟩) (.string ⟨#[]⟩) (.slice X N cp)
     have hg9 := K3.out.told zr zq za zg HP9.out (by rw [HKS.out]; omega) HN.out
     rw [HEE.out]
     exact bodyPost_ret (v := .tuple #[.agg #[.string ⟨#[]⟩, .string ⟨#[]⟩, .slice X N cp], .bool true]) (by simp [results, Tryz.results82, go_sem, Y9.c0, Y9.c1, Y9.c2]) rfl hg9
    | true =>
     have e1 : decide ((N : Int) < (least : Int)) = false := by simp; omega
     have e1n : decide (N < least) = false := by simp; omega
     have e2 : decide ((N : Int) < (most : Int)) = true := by simp; omega
     have e2n : decide (N < most) = true := by simp; omega
     have e3 : decide ((0 : Int) < (N : Int)) = true := by simp; omega
     have e3n : decide (0 < N) = true := by simp; omega
     have hj5e : j + 1 = if N = 0 then j else j + 1 := by rw [if_neg (by omega)]
     obtain ⟨j5, hj5d⟩ : ∃ j5, j + 1 = j5 := ⟨_, rfl⟩
     obtain ⟨q5, hel⟩ : ∃ q5, el N j5 = q5 := ⟨_, rfl⟩
     obtain ⟨tt, jj, bb⟩ := q5
     have hij5 : i0 ≤ j5 := by omega
     have hj5 : j5 ≤ l.length := by have h9 := isW_lt HCM.out; rw [bare_length] at h9; omega
     have HE5 := hid (HE.out.trans (ls_yes (ks := ks) (f := f') (Or.inr ⟨hmo, HCM.out⟩) (by rw [HCM.out]; rintro ⟨_, h⟩; cases h) (hj5d.symm.trans hj5e) hel))
     have hjj := HEN.out N j5 hij5 hj5
     rw [hel] at hjj
     have HJ5 := hid (show j5 ≤ jj ∧ jj ≤ l.length from hjj)
     have HF5 := hid (show l.length - jj < f' by have h1 := HJ5.out.1; have h2 := HJ5.out.2; omega)
     have HC5 := hid (show N ≤ jj by have h1 := HJ5.out.1; omega)
     have HP5 := hid (show N = 1 → j5 = j1 by intro e; have h9 := HH1.out (by rw [HKS.out]; exact e); rw [← hj5d, h9]; exact HJ1.out)
     have HO5 := hid (show N = 0 → jj = (el 0 i0).2.1 by intro e; omega)
     have HM5 := hid (show (l.length - jj) + (1 - (N + 1)) < (l.length - j) + (1 - N) by have h1 := HJ5.out.1; have h2 := HJ5.out.2; omega)
     have HJD := hid hj5d
     have HECN := hid (fun w' (h' : Rq w' r m A cap l qb qa j5) (hp' : Pre w') => HEC.out N j5 w' hij5 hj5 (by omega) h' hp')
     rw [hel] at HECN
     clear hjj hj5e hel hj5d HE
     go_wp2_with fail
     refine (HM.out _ KR.out.rd).mono ?_
     rintro e w3 ⟨rfl, hb3⟩
     have K3 := hid (KR.out.next zr HT9.out HP9.out (But.of hb3 r) (KR.out.rd.below hb3))
     clear hb3 y2 yf
     have zn3 := K3.out.mb.lt
     have y2 := K3.out.mb.c2
     have yf := K3.out.mb.fr 2
     rw [HN.out] at y2
     go_wp2_with fail
     refine (HTK.out _ K3.out.rd).mono ?_
     rintro e w5 ⟨rfl, hb5, hr5⟩
     rw [if_pos trivial, HJD.out] at hr5
     have K5 := hid (K3.out.next zr HT9.out HP9.out hb5 hr5)
     clear hb5 hr5 y2 yf
     have zn5 := K5.out.mb.lt
     have y2 := K5.out.mb.c2
     have yf := K5.out.mb.fr 2
     rw [HN.out] at y2
     go_wp2_with fail
     refine (HECN.out _ K5.out.rd K5.out.pre).mono ?_
     rintro e w6 ⟨op, tx, Y, n, c6, rfl, hn6, hb6, hr6, hp6, hk6, hx6⟩
     dsimp only at hn6 hr6
     have zb6 := hb6.size
     have K6 := hid (K5.out.part zr zg HT9.out hb6 hr6 hp6 (fun e => hk6 (by rw [HKS.out] at e; exact e)))
     have I6 := hid hn6
     have X6 := hid hx6
     have z06 := K6.out.but.size
     clear hn6 hb6 hr6 hp6 hk6 hx6 y2 yf
     cases bb with
     | true =>
      have HEE := hid (show R = (ks, jj, true) by rw [HE5.out]; rfl)
      obtain ⟨w7, hw7⟩ : ∃ w7, w6.alloc (.cells #[.string op, .string tx, .slice Y n c6] 25) = w7 := ⟨_, rfl⟩
      have K7 := hid (show LsK r m A cap l qb qa g T Pre j1 w jj ks xs X cp w7 by rw [← hw7]; exact K6.out.next zr HT9.out HP9.out (But.of (below_alloc w6 _) r) (K6.out.rd.alloc _))
      have HW7 := hid hw7
      clear HE5 hw7
      go_upto_region 6 with fail
      rw [HW7.out]
      obtain ⟨x0, x1, x2, xf⟩ := K7.out.nb
      have xl := K7.out.nb.lt
      go_wp2
      have Y9 := K7.out.nb.set (.string ⟨#[]⟩) (.string ⟨#[]⟩) (.slice none 0 0)
      have hg9 := K7.out.wrong zr zq za HP9.out ks
      rw [HEE.out]
      exact bodyPost_ret (v := .tuple #[.agg #[.string ⟨#[]⟩, .string ⟨#[]⟩, .slice none 0 0], .bool false]) (by simp [results, Tryz.results82, go_sem, Y9.c0, Y9.c1, Y9.c2]) rfl hg9
     | false =>
      have HEE := hid (show R = (ks ++ [tt] ++ (lsP (bare l) least most el f' (N + 1) jj).1, (lsP (bare l) least most el f' (N + 1) jj).2) by rw [HE5.out]; simp)
      clear HE5
      obtain ⟨w7, hw7⟩ : ∃ w7, w6.alloc (.cells #[.string op, .string tx, .slice Y n c6] 25) = w7 := ⟨_, rfl⟩
      have z7 : w7.heap.size = w6.heap.size + 1 := by rw [← hw7]; simp
      have V7 := hid (show NBox w7 w6.heap.size (.string op) (.string tx) (.slice Y n c6) by rw [← hw7]; exact NBox.fresh _ _ _ _ _)
      have K7 := hid (show LsK r m A cap l qb qa g T Pre j1 w jj ks xs X cp w7 by rw [← hw7]; exact K6.out.next zr HT9.out HP9.out (But.of (below_alloc w6 _) r) (K6.out.rd.alloc _))
      have I7 := hid (show RIn w7 (New w5 w6) tt (op, tx, Y, n, c6) by rw [← hw7]; exact (I6.out rfl).alloc (fun k hk => hk.2) _)
      have X7 := hid (show ∀ t, T = some t → ks.length = 1 → ∃ y : NV, NVBox w7 g y ∧ RIn w7 (New w5 w6) (t j5) y by
       intro t ht hk1
       obtain ⟨y, hy, hi7⟩ := X6.out t ht (by rw [HKS.out] at hk1; exact hk1) rfl
       rw [← hw7]
       exact ⟨y, hy.alloc _, hi7.alloc (fun k hk => hk.2) _⟩)
      have y2 := K7.out.mb.c2
      have yf := K7.out.mb.fr 2
      rw [HN.out] at y2
      obtain ⟨v0, v1, v2, vf⟩ := V7.out
      rw [← hw7] at y2 v0 v1 v2
      have HW7 := hid hw7
      clear hw7 vf K6 I6 X6
      go_wp2_with (at_builtin; rw [HW7.out]; refine wpList_append_lies _ rfl _ _ _ rfl (w.heap.size + 2) 25 zi _ 3 56 Tryz.underlying23 hi0 hz0 hz1 hz2 rfl (by omega) _ N (flatC nc xs) rfl ?ca ⟨w6.heap.size + 1, 0, none⟩ 1 1 [.string op, .string tx, .slice Y n c6] rfl rfl ?cn ?co (by omega) ?cm ?cb ?cs (w6.heap.size + 1 + 1) ?ch ?_)
      case ca => have hO := K7.out.own; rw [HN.out] at hO; exact own_call hO (below_alloc _ _)
      case cn => have h := World.news_of_block (heap_alloc_new w7 (.cells #[.string op, .string tx, .slice Y n c6] 25)); rw [z7] at h; exact h
      case co => exact nc_one (op, tx, Y, n, c6)
      case cm => unfold maxLen; omega
      case cb => omega
      case cs => simp; omega
      case ch => simp [z7]
      intro gg cap9 w9 hown9 hgrow hat hlt9
      obtain ⟨w8, hw8⟩ : ∃ w8, w7.alloc (.cells #[.string op, .string tx, .slice Y n c6] 25) = w8 := ⟨_, rfl⟩
      have z8 : w8.heap.size = w6.heap.size + 1 + 1 := by rw [← hw8]; simp [z7]
      rw [hw8] at hgrow
      have hrow : ∀ k, (Value.slice X N cp).ownBlock = some k → w.heap.size + 2 ≤ k ∧ k < w5.heap.size := fun k e => by
       have hO := K5.out.own
       rw [HN.out] at hO
       exact hO.lt k e
      have hXs : ∀ k, New w5 w6 k → LS w w8 X k := fun k hk => ⟨by have := K5.out.mb.lt; have := hk.1; omega, by have := hk.2; omega, fun ad e => by
       have := (hrow ad.block (by rw [e]; rfl)).2
       have := hk.1
       omega⟩
      have K8 := hid (show LsK r m A cap l qb qa g T Pre j1 w jj ks xs X cp w8 by rw [← hw8]; exact K7.out.next zr HT9.out HP9.out (But.of (below_alloc w7 _) r) (K7.out.rd.alloc _))
      have K9 := hid (K8.out.add zr zq za zg HP9.out HN.out (t0 := tt) (y0 := (op, tx, Y, n, c6)) (by rw [← hw8]; exact ((I7.out.alloc (fun k hk => by have := hk.2; omega) _).imp (fun k hk => by rw [hw8]; exact hXs k hk))) (fun t ht hk1 => by
       obtain ⟨y, hy, hi7⟩ := X7.out t ht hk1
       have ej : j5 = j1 := HP5.out (by rw [HKS.out] at hk1; exact hk1)
       rw [ej] at hi7
       rw [← hw8]
       exact ⟨y, hy.alloc _, (hi7.alloc (fun k hk => by have := hk.2; omega) _).imp (fun k hk => by rw [hw8]; exact hXs k hk)⟩) hown9 hgrow (by rw [z8]; exact hat))
      have hz9 := hgrow.size
      have M9 := (K8.out.mb.grown hgrow (fun e => by have := hrow _ e; omega))
      have y2' := M9.c2
      have yf' := M9.fr 2
      rw [HN.out] at y2'
      have hsz : w.heap.size + 1 < w9.heap.size := M9.lt
      have IV := hid (show LsI r m A cap l qb qa g T Pre j1 i0 least most el R w (w9.setCell ⟨w.heap.size + 1, 2, none⟩ (.slice (some ⟨gg, 0, none⟩) (N + 1) cap9)) from
       ⟨f', jj, ks ++ [tt], xs ++ [(op, tx, Y, n, c6)], some ⟨gg, 0, none⟩, cap9, K9.out, by have := HJ5.out; omega, HJ5.out.2, by rw [List.length_append, HKS.out]; simp; exact HF5.out, by rw [List.length_append, HKS.out]; simp; have := HC5.out; omega, hid (by rw [List.length_append, HKS.out]; exact HEE.out), fun e => HO5.out (by rw [List.length_append, HKS.out] at e; simpa using e), fun e => by rw [List.length_append] at e; simp at e⟩)
      have hms : (l.length - atOf (w9.setCell ⟨w.heap.size + 1, 2, none⟩ (.slice (some ⟨gg, 0, none⟩) (N + 1) cap9)) r) + (1 - lenOf (w9.setCell ⟨w.heap.size + 1, 2, none⟩ (.slice (some ⟨gg, 0, none⟩) (N + 1) cap9)) (w.heap.size + 1)) < (l.length - atOf wr r) + (1 - lenOf wr (w.heap.size + 1)) := by
       have a1 := K9.out.rd.rd.atOf
       have a2 := K9.out.mb.lenOf
       have a3 := HAT.out
       have a4 := HLN.out
       rw [a1, a2, a3, a4]
       have := HM5.out
       simp only [List.length_append, HN.out, List.length_singleton]
       omega
      clear hgrow hat hown9 hlt9 M9
      go_wp2
      go_roundw
      case rel => exact IV.out
      case measure => exact hms
   ·-- as many as there may be
    have e1 : decide ((N : Int) < (least : Int)) = false := by simp; omega
    have e1n : decide (N < least) = false := by simp; omega
    have e2 : decide ((N : Int) < (most : Int)) = false := by simp; omega
    have e2n : decide (N < most) = false := by simp; omega
    have HEE := hid (show R = (ks, j, false) by rw [HE.out, lsP, if_neg (by rintro (h | ⟨h, h'⟩) <;> first | omega | (rw [HCM.out] at h'; cases h'))]; simp)
    obtain ⟨x0, x1, x2, xf⟩ := KR.out.nb
    obtain ⟨y0, y1, -, -⟩ := KR.out.mb
    clear HE
    go_wp2
    have Y9 := KR.out.nb.set (.string ⟨#[]⟩) (.string ⟨#[]⟩) (.slice X N cp)
    have hg9 := KR.out.told zr zq za zg HP9.out (by rw [HKS.out]; omega) HN.out
    rw [HEE.out]
    exact bodyPost_ret (v := .tuple #[.agg #[.string ⟨#[]⟩, .string ⟨#[]⟩, .slice X N cp], .bool true]) (by simp [results, Tryz.results82, go_sem, Y9.c0, Y9.c1, Y9.c2]) rfl hg9
end
end Go.Proofs.YtjbpkpfmgbhlpaaGreatDoor.Code
