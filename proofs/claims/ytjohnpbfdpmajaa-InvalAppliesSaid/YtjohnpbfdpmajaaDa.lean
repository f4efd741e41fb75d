/- Contracts of the small functions of package desc and of its reference. -/
import Derived.Test.YtjohnpbfdpmajaaRb
import Derived.Laws.StructEq
import Derived.IntWalk
set_option linter.all false
namespace Go.Proofs.Ytjohnpbfdpmajaa
open Go.ChangeShapes Go.WideShapes Go.ChangeAt Go.RowKit Go.Deep

theorem rcovers_any (lv : Int) (w : World) (h0 : 0 ≤ lv) (h1 : lv ≤ 3) :
    Calls Try.prog 65 #[.int .i64 lv] w fun e w' => e = .returned (.int .i64 (cov lv)) ∧ Below w.heap.size w w' := by
  have hc : lv = 0 ∨ lv = 1 ∨ lv = 2 ∨ lv = 3 := by omega
  rcases hc with rfl | rfl | rfl | rfl
  all_goals
    go_enter Try.func65, Try.ntmps65
    go_wp2
    go_ret
    exact ⟨rfl, by go_grown⟩
end Go.Proofs.Ytjohnpbfdpmajaa
