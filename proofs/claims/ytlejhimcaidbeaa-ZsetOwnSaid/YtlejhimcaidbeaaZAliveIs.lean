/-
  The law's question whose answer is fixed, of layer 6, out of the contracts of the program's functions.
-/
import Derived.Test.YtlejhimcaidbeaaZCalls
import Derived.Test.YtlejhimcaidbeaaZRight
import Derived.Test.YtlejhimcaidbeaaZAlive
namespace Go.Proofs.Ytlejhimcaidbeaa.Items
open Go.ChangeShapes Go.WideShapes Go.ChangeAt Go.RowKit Val Go.Proofs.Ytlejhimcaidbeaa.Code Go.Proofs.Ytlejhimcaidbeaa.Elems Go.Proofs.Ytlejhimcaidbeaa.ZP Go.Proofs.Ytlejhimcaidbeaa.Bits Go.Proofs.Ytlejhimcaidbeaa.Range
set_option linter.unusedVariables false
theorem total_is {L : List It} (hF : FitI L) (hl : L.length ≤ 1000000) : Wide.intV (totalP (pl L)) = fitN (totalP (pl L)) ∧ Wide.intE (totalP (pl L)) = fitE (totalP (pl L)) := by
  have h := total_bound (pl L) (fits_of hF)
  rw [pl_length] at h
  have h2 := int_in (n := totalP (pl L)) (by omega)
  exact ⟨h2.2, h2.1⟩
theorem zOf : ZOf := fun A cap L w h1 h2 h3 h4 => (zof_any A cap L w h1 h2 h3 (by omega)).mono fun _ _ h => h.set
theorem zAdd : ZAdd := fun G cap LS w h1 h2 h3 h4 h5 => (zadd_any G cap LS w h1 h2 h3 h4 (by omega)).mono fun _ _ h => h.set
theorem zNeg : ZNeg := fun A cap L w h1 h2 h3 h4 h5 => (zneg_any A cap L w h1 h2 h3 (by omega) h5).mono fun _ _ h => h.set
theorem zTotal : ZTotal := fun A cap L w h1 h2 h3 => by
  have h := ztotal_any A cap L w h1 h2 (by omega)
  rw [(total_is h2 (by omega)).1, (total_is h2 (by omega)).2] at h
  exact h
theorem zDistinct : ZDistinct := fun A cap L w h1 h2 h3 => (zdist_any A cap L w h1 (by omega) h3).mono fun _ _ ⟨B, cb, M, he, ha, hr, hq, hb⟩ => ⟨B, cb, M, he, ⟨ha, hr.vals⟩, hq, hb⟩
theorem zRight : ZRight := fun A cap L w h1 h2 h3 h4 => zright_any A cap L w h1 h2 h3 h4
theorem zPositive : ZPositive := fun A cap L w h1 h2 => zpos_any A cap L w h1 h2
theorem zAlive : ZAlive := alive_of zOf zTotal zDistinct zRight zPositive
end Go.Proofs.Ytlejhimcaidbeaa.Items
