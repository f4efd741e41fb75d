/- The reference's small functions that several layers use: Num, Page, bit, set, Get. -/
import Derived.Test.YthmcamgbnjfklaaBx
set_option linter.all false
namespace Go.Proofs.Ythmcamgbnjfklaa
open Go.ChangeShapes Go.WideShapes Go.ChangeAt Go.RowKit Go.Deep

theorem num_any (p m : Int) (w : World) :
    Calls Try.prog 25 #[.int .i64 p, .int .i64 m] w fun e w' => e = .returned (.bool (numB p m)) ∧ w = w' := by
  go_enter Try.func25, Try.ntmps25
  go_wp2
  all_goals
    go_ret
    refine ⟨ret_bool ?_, rfl⟩
    unfold numB
    rw [Bool.eq_iff_iff]
    simp
    omega
end Go.Proofs.Ythmcamgbnjfklaa
