/-
  Contracts of row.Show and of the document's Show of rows.
-/
import Derived.Test.YtpdoomhpfdmklaaDoorRowVShow2
namespace Go.Proofs.YtpdoomhpfdmklaaDoor.Code
open Go.ChangeShapes Go.WideShapes Go.ChangeAt Go.RowKit Val
set_option linter.unusedVariables false

/-- a block of texts, made by the call -/
def SBlk (w : World) (g : Nat) (D : List ByteArray) : Prop := w.heap[g]? = some (.cells (D.map Value.string).toArray 9 (0, 0))
theorem SBlk.lt {w : World} {g : Nat} {D : List ByteArray} (h : SBlk w g D) : g < w.heap.size := (Array.getElem?_eq_some_iff.1 h).1
theorem SBlk.call {w w' : World} {g : Nat} {D : List ByteArray} (h : SBlk w g D) (hb : Below w.heap.size w w') : SBlk w' g D := (hb.block g h.lt).trans h
theorem SBlk.cell {w : World} {g : Nat} {D : List ByteArray} (h : SBlk w g D) (j : Nat) (x : ByteArray) (hx : D[j]? = some x) : w.cell? ⟨g, j, none⟩ = some (.string x) := by
  unfold SBlk at h
  simp [World.cell?, h, hx]
theorem SBlk.free {w : World} {g : Nat} {D : List ByteArray} (h : SBlk w g D) (j : Nat) : w.frozen? ⟨g, j, none⟩ = false := by
  unfold SBlk at h
  simp [World.frozen?, h]
theorem SBlk.set {w : World} {g : Nat} {D : List ByteArray} (h : SBlk w g D) (k : Nat) (x : ByteArray) : SBlk (w.setCell ⟨g, k, none⟩ (.string x)) g (D.set k x) := by
  unfold SBlk at *
  rw [setCell_eq_setRow w g _ _ _ _ _ h, setRow_heap w g _ _ _ _ h, List.map_set]
  simp
theorem info_str : (Tryd.prog.info? 9).map (fun i => (i.zero, i.size, i.bytes)) = some (some (.string ByteArray.empty), 1, 16) := by kernel_rfl
theorem made_strs (n : Nat) : madeCells #[Value.string ByteArray.empty] (n * 1) = Array.replicate n (Value.string ByteArray.empty) := by
  apply Array.toList_inj.1
  rw [toList_madeCells_one, Nat.mul_one]
  simp
theorem SBlk.fresh (w : World) (n : Nat) : SBlk (w.alloc (.cells (Array.replicate n (Value.string ByteArray.empty)) 9)) w.heap.size (List.replicate n ByteArray.empty) := by
  unfold SBlk
  rw [heap_alloc_new]
  simp
theorem wpList_make_strs {P : Program} (w : World) {ops : Array Oper} {rest : List Oper} {o : Oper} {a : Act} {Q : Exit → Act → World → Prop}
    (hg : o.guard = none) (l c : Operand) (t : TypeId) (hop : o.op = Op.makeSlice t l c) (e : TypeId) (i : TypeInfo) (h1 : P.underlying t = some (.slice e)) (h2 : P.info? e = some i)
    (h3 : i.zero = some (.string ByteArray.empty)) (h4 : i.size = 1) (h5 : i.bytes = 16)
    (kl kc : IntKind) (L C : Int) (n : Nat) (hl : a.eval l = .int kl L) (hc : a.eval c = .int kc C) (hL : L = (n : Int)) (hC : C = (n : Int)) (b : n ≤ 8796093022208)
    (hK : wpList P ops Q rest (a.put o.dst (.slice (some ⟨w.heap.size, 0, none⟩) n n)) (w.alloc (.cells (Array.replicate n (Value.string ByteArray.empty)) e))) :
    wpList P ops Q (o :: rest) a w := by
  refine wpList_plain hg fun K hK' => ?_
  have hr := run_make (P := P) w t e i _ h1 h2 h3 kl kc n n (by omega) (Int.le_refl _) (by rw [h5]; omega) (by omega)
  rw [Int.toNat_natCast, h4, show (Value.string ByteArray.empty).cells = #[Value.string ByteArray.empty] by rfl, made_strs] at hr
  subst hL
  subst hC
  unfold Oper.wp
  simp [execOp, hop, hl, hc, hr, Result.andThen]
  exact hK' _ _ hK
/-- the values' texts, as texts -/
def texts (l : List (Int × Int × ByteArray)) : List ByteArray := l.map fun v => ⟨(showV v).toArray⟩
theorem texts_length (l : List (Int × Int × ByteArray)) : (texts l).length = l.length := by simp [texts]
theorem texts_snoc (l : List (Int × Int × ByteArray)) (k : Nat) (h : k < l.length) : texts (l.take (k + 1)) = texts (l.take k) ++ [⟨(showV l[k]).toArray⟩] := by
  unfold texts
  rw [List.take_succ_eq_append_getElem h, List.map_append]
  rfl
theorem texts_data (l : List (Int × Int × ByteArray)) : (texts l).map (·.data.toList) = l.map showV := by
  unfold texts
  rw [List.map_map]
  congr 1
theorem sfill_set (X : List ByteArray) (n : Nat) (hn : 0 < n) (v : ByteArray) : (X ++ List.replicate n ByteArray.empty).set X.length v = (X ++ [v]) ++ List.replicate (n - 1) ByteArray.empty := by
  obtain ⟨m, rfl⟩ : ∃ m, n = m + 1 := ⟨n - 1, by omega⟩
  rw [List.set_append_right _ _ (Nat.le_refl _), Nat.sub_self, List.replicate_succ, List.set_cons_zero, Nat.add_sub_cancel, List.append_assoc]
  rfl
theorem show_lengths {l : List (Int × Int × ByteArray)} (hf : FitL l) : ∀ v ∈ l, (showV v).length ≤ 402 := fun v hv => show_length v.1 v.2.1 v.2.2 (hf v hv)
set_option maxHeartbeats 4000000 in
set_option maxRecDepth 100000 in
theorem rowShow_any (A : Option Addr) (cap : Nat) (l : List (Int × Int × ByteArray)) (m : Int) (w : World) (hv : Vals w w.heap.size A l) (hf : FitL l) (hl : l.length ≤ 10000) (hg : Glob w.heap.size m w) :
    Calls Tryd.prog 11 #[.slice A l.length cap] w fun e w' => e = .returned (.string ⟨(showR l).toArray⟩) ∧ Below w.heap.size w w' := by
  have HV := Lib.hid hv
  have HF := Lib.hid hf
  have HG := Lib.hid hg
  have hjl := joinR_length l (show_lengths hf)
  clear hv hf hg
  obtain ⟨i0, hi0, hz0, hz1, hz2⟩ := info_parts info_str
  go_enter Tryd.func11, Tryd.ntmps11
  go_wp2_with (at_make; refine wpList_make_strs _ rfl _ _ 46 rfl 9 i0 Tryd.underlying46 hi0 hz0 hz1 hz2 _ _ _ _ l.length rfl rfl rfl rfl (by omega) ?_)
  have HB0 := Lib.hid (SBlk.fresh w l.length)
  have HL0 := Lib.hid (below_alloc w (.cells (Array.replicate l.length (Value.string ByteArray.empty)) 9))
  go_wp2
  go_loopw [10] (fun i wr => ∃ k : Nat, k ≤ l.length ∧ i = .int .i64 k ∧ SBlk wr w.heap.size (texts (l.take k) ++ List.replicate (l.length - k) ByteArray.empty) ∧ Below w.heap.size w wr) (fun i _ => l.length - (intOf i).toNat)
  case atStart => exact ⟨0, by omega, rfl, by simpa [texts] using HB0.out, HL0.out⟩
  case round =>
    obtain ⟨k, hk, rfl, hblk, hbel⟩ := hrel
    have hsz := hbel.size
    have hlt := hblk.lt
    have HL := Lib.hid hbel
    have HB := Lib.hid hblk
    have VA := Lib.hid (HV.out.below hbel)
    clear hbel hblk
    have HX := Lib.hid (show (texts (l.take k)).length = k by rw [texts_length, List.length_take_of_le hk])
    by_cases hkl : k < l.length
    · obtain ⟨ad, rfl, ha, c0, c1, c2⟩ := VA.out k hkl
      have HN := Lib.hid (HF.out l[k] (List.getElem_mem hkl))
      have HS := Lib.hid (texts_snoc l k hkl)
      have HE := Lib.hid (show (texts (l.take k) ++ List.replicate (l.length - k) ByteArray.empty).set k ⟨(showV l[k]).toArray⟩ = texts (l.take (k + 1)) ++ List.replicate (l.length - (k + 1)) ByteArray.empty by
        have e := sfill_set (texts (l.take k)) (l.length - k) (by omega) ⟨(showV l[k]).toArray⟩
        rw [HX.out, Nat.sub_sub] at e
        rw [e, HS.out])
      obtain ⟨T, hT⟩ : ∃ T : ByteArray, T = ⟨(showV l[k]).toArray⟩ := ⟨_, rfl⟩
      have hsh := vshow_any l[k].1 l[k].2.1 l[k].2.2 m wr HN.out (HG.out.next HL.out)
      rw [show (⟨(showL l[k].1 l[k].2.1 l[k].2.2).toArray⟩ : ByteArray) = T from hT.symm] at hsh
      have HSH := Lib.hid hsh
      rw [← hT] at HE
      clear hsh hT
      go_wp2_with fail
      refine HSH.out.mono ?_
      rintro e w1 ⟨rfl, hb1⟩
      have L1 := Lib.hid (bnext HL.out hsz hb1)
      have B1 := Lib.hid (HB.out.call hb1)
      have z1 := hb1.size
      have hlt1 : w.heap.size < w1.heap.size := by omega
      have b0 : ∃ y, w1.cell? ⟨w.heap.size, k, none⟩ = some (.string y) := by
        have hlen : k < (texts (l.take k) ++ List.replicate (l.length - k) ByteArray.empty).length := by rw [List.length_append, HX.out]; simp; omega
        exact ⟨_, B1.out.cell k _ (List.getElem?_eq_getElem hlen)⟩
      obtain ⟨y, b0⟩ := b0
      have f0 := B1.out.free k
      clear hb1 c0 c1 c2 HSH
      go_wp2
      go_roundw
      case rel => exact ⟨k + 1, by omega, by go_num, by have h := B1.out.set k T; rw [HE.out] at h; exact h, L1.out.setCell (Nat.le_refl _) _⟩
      case measure => simp [intOf]; omega
    · obtain rfl : k = l.length := by omega
      rw [List.take_length] at HB
      have HB2 := Lib.hid (show SBlk wr w.heap.size (texts l) by simpa using HB.out)
      have hj := Tryd.strings_Join w.heap.size 0 l.length (texts l) ⟨#[44, 32]⟩ wr (fun j x hx => by rw [Nat.zero_add]; exact HB2.out.cell j x hx) hlt (by rw [texts_length]; omega) (by rw [texts_length]; exact Nat.le_refl _) (by rw [texts_data]; show (joinR l).length ≤ _; omega)
      rw [texts_data, texts_length] at hj
      obtain ⟨T, hT⟩ : ∃ T : ByteArray, T = ⟨(joinR l).toArray⟩ := ⟨_, rfl⟩
      rw [show (⟨(Lib.join (l.map showV) (⟨#[44, 32]⟩ : ByteArray).data.toList).toArray⟩ : ByteArray) = T from hT.symm] at hj
      have HJ := Lib.hid hj
      have hTs : T.size ≤ 4040000 := by rw [hT, size_list]; show (joinR l).length ≤ _; omega
      have HT := Lib.hid hT
      clear hj hT
      go_wp2_with fail
      refine HJ.out.mono ?_
      rintro e w1 ⟨rfl, hb1⟩
      have L1 := Lib.hid (bnext HL.out hsz hb1)
      clear hb1
      go_wp2
      go_ret
      exact ⟨retS (by rw [HT.out]; exact ba_of (by simp [showR])), L1.out⟩
set_option maxHeartbeats 4000000 in
set_option maxRecDepth 100000 in
theorem rrowShow_any (A : Option Addr) (cap : Nat) (l : List (Int × Int × ByteArray)) (w : World) (hv : Vals w w.heap.size A l) (hf : FitL l) (hl : l.length ≤ 10000) :
    Calls Tryd.prog 12 #[.slice A l.length cap] w fun e w' => e = .returned (.string ⟨(showR l).toArray⟩) ∧ Below w.heap.size w w' := by
  have HV := Lib.hid hv
  have HF := Lib.hid hf
  clear hv hf
  go_enter Tryd.func12, Tryd.ntmps12
  go_wp2
  go_loopw [3, 4] (fun t i wr => ∃ (k : Nat) (T : ByteArray), k ≤ l.length ∧ i = .int .i64 k ∧ t = .string T ∧ T.size ≤ 404 * k + 1 ∧ Hid (T = ⟨(40 :: joinR (l.take k)).toArray⟩) ∧ Below w.heap.size w wr) (fun _ i _ => l.length - (intOf i).toNat)
  case atStart => exact ⟨0, ⟨#[40]⟩, by omega, rfl, rfl, by decide, Lib.hid (by simp [joinR, Lib.join_nil]), Below.refl _ _⟩
  case round =>
    obtain ⟨k, T, hk, rfl, rfl, hTs, HT, hbel⟩ := hrel
    have hsz := hbel.size
    have HL := Lib.hid hbel
    have VA := Lib.hid (HV.out.below hbel)
    clear hbel
    by_cases hkl : k < l.length
    · obtain ⟨ad, rfl, ha, c0, c1, c2⟩ := VA.out k hkl
      have HN := Lib.hid (HF.out l[k] (List.getElem_mem hkl))
      have hsl := show_length l[k].1 l[k].2.1 l[k].2.2 HN.out
      obtain ⟨S, hS⟩ : ∃ S : ByteArray, S = ⟨(showV l[k]).toArray⟩ := ⟨_, rfl⟩
      have hSs : S.size ≤ 402 := by rw [hS, size_list]; exact hsl
      have hsh := fun w => rvshow_any l[k].1 l[k].2.1 l[k].2.2 w HN.out
      rw [show (⟨(showL l[k].1 l[k].2.1 l[k].2.2).toArray⟩ : ByteArray) = S from hS.symm] at hsh
      have HSH := Lib.hid hsh
      have HS := Lib.hid hS
      clear hsh hS hsl
      by_cases h0 : k = 0
      · subst h0
        have HE := Lib.hid (joinR_first l hkl)
        rw [show ad.add (0 * 3) = ad by unfold Addr.add; rw [if_pos (by omega)]] at c0 c1 c2
        go_wp2_with fail
        refine (HSH.out _).mono ?_
        rintro e w1 ⟨rfl, hb1⟩
        have L1 := Lib.hid (bnext HL.out hsz hb1)
        clear hb1 c0 c1 c2
        go_wp2
        go_roundw
        case rel => exact ⟨1, T ++ S, by omega, by go_num, rfl, by rw [ByteArray.size_append]; omega, Lib.hid (ba_of (by rw [Go.Joins.data_append, HT.out, HS.out, HE.out]; rfl)), L1.out⟩
        case measure => simp [intOf]; omega
      · have HE := Lib.hid (joinR_snoc l k (by omega) hkl)
        have e0 : decide (0 < (k : Int)) = true := by simp; omega
        have hk0 : 0 < k := by omega
        go_wp2_with fail
        refine (HSH.out _).mono ?_
        rintro e w1 ⟨rfl, hb1⟩
        have L1 := Lib.hid (bnext HL.out hsz hb1)
        clear hb1 c0 c1 c2
        go_wp2
        go_roundw
        case rel => exact ⟨k + 1, T ++ ⟨#[44, 32]⟩ ++ S, by omega, by go_num, rfl, by rw [ByteArray.size_append, ByteArray.size_append]; show T.size + 2 + S.size ≤ _; omega, Lib.hid (ba_of (by rw [Go.Joins.data_append, Go.Joins.data_append, HT.out, HS.out, HE.out]; rfl)), L1.out⟩
        case measure => simp [intOf]; omega
    · obtain rfl : k = l.length := by omega
      rw [List.take_length] at HT
      go_wp2
      go_ret
      exact ⟨retS (by rw [HT.out]; exact ba_of (by simp [showR])), HL.out⟩
end Go.Proofs.YtpdoomhpfdmklaaDoor.Code
