/- The reference's small functions that several layers use: Num, Page, bit, set, Get. -/
import Derived.Test.YtcbjmpllmnphkaaBx
set_option linter.all false
namespace Go.Proofs.Ytcbjmpllmnphkaa
open Go.ChangeShapes Go.WideShapes Go.ChangeAt Go.RowKit Go.Deep

theorem num_any (p m : Int) (w : World) :
    Calls Try.prog 13 #[.int .i64 p, .int .i64 m] w fun e w' => e = .returned (.bool (numB p m)) ∧ w = w' := by
  go_enter Try.func13, Try.ntmps13
  go_wp2
  all_goals
    go_ret
    refine ⟨ret_bool ?_, rfl⟩
    unfold numB
    rw [Bool.eq_iff_iff]
    simp
    omega
theorem page_any (p : Int) (w : World) :
    Calls Try.prog 17 #[.int .i64 p] w fun e w' => e = .returned (.bool (numB p 4095)) ∧ w = w' := by
  go_enter Try.func17, Try.ntmps17
  go_wp2_with (go_at_call 13; refine (num_any _ _ _).mono ?_; rintro e w' ⟨rfl, rfl⟩)
  go_ret
  exact ⟨rfl, rfl⟩
end Go.Proofs.Ytcbjmpllmnphkaa
