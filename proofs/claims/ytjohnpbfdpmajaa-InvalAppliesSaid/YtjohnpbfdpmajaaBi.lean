/- The reference's Walk and Fill: contracts. -/
import Derived.Test.YtjohnpbfdpmajaaBh
import Derived.Test.YtjohnpbfdpmajaaTk
set_option linter.all false
namespace Go.Proofs.Ytjohnpbfdpmajaa
open Go.ChangeShapes Go.WideShapes Go.ChangeAt Go.RowKit Go.Deep

theorem walkF_yes {p : Ety → Bool} {x : Ety} {L : List Ety} {k a v : Int} (h : p x = true) (h2 : a < 0 ∨ v < x.lv) : walkF p (x :: L) k a v = walkF p L (k + 1) k x.lv := by
  simp [walkF, h, h2]
theorem walkF_no {p : Ety → Bool} {x : Ety} {L : List Ety} {k a v : Int} (h : p x = false ∨ (¬ a < 0 ∧ ¬ v < x.lv)) : walkF p (x :: L) k a v = walkF p L (k + 1) a v := by
  rcases h with h | ⟨h1, h2⟩
  · simp [walkF, h]
  · simp [walkF, h1, h2]
end Go.Proofs.Ytjohnpbfdpmajaa
