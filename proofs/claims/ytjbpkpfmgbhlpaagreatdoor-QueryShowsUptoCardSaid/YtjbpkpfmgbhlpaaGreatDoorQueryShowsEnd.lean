/-
  The walk of QueryShows.
-/
import Derived.Test.YtjbpkpfmgbhlpaaGreatDoorMs6
import Derived.Test.YtjbpkpfmgbhlpaaGreatDoorMs8
import Derived.Test.YtjbpkpfmgbhlpaaGreatDoorMs12
import Derived.Test.YtjbpkpfmgbhlpaaGreatDoorMs28
import Derived.Test.YtjbpkpfmgbhlpaaGreatDoorMs27
namespace Go.Proofs.YtjbpkpfmgbhlpaaGreatDoor.queryShows
open Go.ChangeShapes Go.WideShapes Go.ChangeAt Go.RowKit Val Elems Go.Proofs.YtjbpkpfmgbhlpaaGreatDoor.Code
set_option linter.unusedVariables false
theorem walk (t : Nod) (op tx : ByteArray) (X : Option Addr) (n k : Nat) (m : Int) (w : World) (hn : RIn w (fun g => g < w.heap.size) t (op, tx, X, n, k)) (htot : t.tot ≤ 1048576) (he : Env w.heap.size m w) :
    Calls Tryz.prog 5 #[.agg #[.string op, .string tx, .slice X n k]] w fun e w' => e = .returned (.bool true) ∧ Below w.heap.size w w' := by
  have hl := showQ_len t
  have hv := leaves_tot t
  have hS : ∀ w', Below w.heap.size w w' → ∀ g, g < w.heap.size → g < w'.heap.size := fun w' hb g hg => Nat.lt_of_lt_of_le hg hb.size
  have hN := fun w' (hb : Below w.heap.size w w') => hn.bel (fun g hg => hg) hb
  exact walk_of t (fun g => g < w.heap.size) op tx X n k w (fun g hg => hg) hn htot (fun w0 hb hz => qalive_any m w0 (he.next hb))
    (fun h w0 hb => pShow_of t (fun x _ => eshow_all x) (by omega) (by omega) m _ op tx X n k w0 (he.next hb) (hS w0 hb) (hN w0 hb))
    (fun h w0 hb => qshow_all t.deep t (Nat.le_refl _) (by omega) _ op tx X n k w0 (hS w0 hb) (hN w0 hb))
    (fun h w0 hb => pLeaves_any t _ op tx X n k w0 (hS w0 hb) (hN w0 hb) (by omega))
    (fun h w0 hb => rleaves_any t.deep t (Nat.le_refl _) (by omega) _ op tx X n k w0 (hS w0 hb) (hN w0 hb))
end Go.Proofs.YtjbpkpfmgbhlpaaGreatDoor.queryShows
