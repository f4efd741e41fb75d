/- Small contracts that later stages use too: a number within a bound; cells that stay. -/
import Derived.Test.YtlflfpohglgopaaBx
import Derived.ProofKit
import Derived.OpenShut
set_option linter.all false
namespace Go.Proofs.Ytlflfpohglgopaa
open Go.ChangeShapes Go.WideShapes Go.ChangeAt Go.RowKit

theorem keepc {w w' : World} (hb : Below w.heap.size w w') {b o : Nat} {x : Value} (hc : w.cell? ⟨b, o, none⟩ = some x) : w'.cell? ⟨b, o, none⟩ = some x :=
  (hb.cell (p := ⟨b, o, none⟩) (cell_block hc)).trans hc

/-- A number within a bound, out of any. -/
def withinV (x n : Int) : Int := x % 18446744073709551616 % n
theorem within_lo (x n : Int) (h : 1 ≤ n) : 0 ≤ withinV x n := Int.emod_nonneg _ (by omega)
theorem within_hi (x n : Int) (h : 1 ≤ n) : withinV x n < n := Int.emod_lt_of_pos _ (by omega)
theorem within_any (x n : Int) (w : World) (h0 : 1 ≤ n) (h1 : n ≤ 9223372036854775807) :
    Calls Try.prog 20 #[.int .i64 x, .int .i64 n] w fun e w' => e = .returned (.int .i64 (withinV x n)) ∧ w = w' := by
  go_enter Try.func20, Try.ntmps20
  go_wp2
  go_ret
  refine ⟨ret_int ?_, rfl⟩
  have e : (IntKind.u64.wrap x).tmod n = withinV x n := by
    rw [IntKind.wrap_u64]
    exact Int.tmod_eq_emod_of_nonneg (Int.emod_nonneg _ (by omega))
  have l := within_lo x n h0
  have k := within_hi x n h0
  rw [e]
  exact IntWalk.wrap64_in _ ⟨by omega, by omega⟩
end Go.Proofs.Ytlflfpohglgopaa
