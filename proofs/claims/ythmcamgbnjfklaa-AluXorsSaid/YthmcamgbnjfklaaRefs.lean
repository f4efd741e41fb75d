/- Small contracts that later stages use too: a number within a bound; cells that stay. -/
import Derived.Test.YthmcamgbnjfklaaBx
import Derived.ProofKit
import Derived.OpenShut
set_option linter.all false
namespace Go.Proofs.Ythmcamgbnjfklaa
open Go.ChangeShapes Go.WideShapes Go.ChangeAt Go.RowKit

theorem keepc {w w' : World} (hb : Below w.heap.size w w') {b o : Nat} {x : Value} (hc : w.cell? ⟨b, o, none⟩ = some x) : w'.cell? ⟨b, o, none⟩ = some x :=
  (hb.cell (p := ⟨b, o, none⟩) (cell_block hc)).trans hc

/-- A number within a bound, out of any. -/
def withinV (x n : Int) : Int := x % 18446744073709551616 % n
theorem within_lo (x n : Int) (h : 1 ≤ n) : 0 ≤ withinV x n := Int.emod_nonneg _ (by omega)
theorem within_hi (x n : Int) (h : 1 ≤ n) : withinV x n < n := Int.emod_lt_of_pos _ (by omega)
end Go.Proofs.Ythmcamgbnjfklaa
