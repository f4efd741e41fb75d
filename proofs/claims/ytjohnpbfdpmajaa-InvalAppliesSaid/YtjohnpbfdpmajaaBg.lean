/- The reference's search of a TLB, and its Check: contracts. -/
import Derived.Test.YtjohnpbfdpmajaaBf
set_option linter.all false
namespace Go.Proofs.Ytjohnpbfdpmajaa
open Go.ChangeShapes Go.WideShapes Go.ChangeAt Go.RowKit Go.Deep

theorem placeE_no {p : Ety → Bool} {x : Ety} {L : List Ety} {k : Int} (h : p x = false) : placeE p (x :: L) k = placeE p L (k + 1) := by simp [placeE, h]
theorem placeE_yes {p : Ety → Bool} {x : Ety} {L : List Ety} {k : Int} (h : p x = true) : placeE p (x :: L) k = k := by simp [placeE, h]
end Go.Proofs.Ytjohnpbfdpmajaa
