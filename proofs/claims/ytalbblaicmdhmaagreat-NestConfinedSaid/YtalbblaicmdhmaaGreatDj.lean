/- Package desc's own calls, and the reference's Of: contracts. -/
import Derived.Test.YtalbblaicmdhmaaGreatDh
import Derived.Test.YtalbblaicmdhmaaGreatDi
set_option linter.all false
namespace Go.Proofs.YtalbblaicmdhmaaGreat
open Go.ChangeShapes Go.WideShapes Go.ChangeAt Go.RowKit Go.Deep

theorem check_any (st lv : Int) (k f : Int) (r wr x a n : Bool) (s o : Int) (w : World) (b : Bool) (hb : mayE st lv (Dsc.mk k f r wr x a n s o) = b) :
    Calls Tryz.prog 89 #[.int .i64 st, .int .i64 lv, .agg #[.int .i64 k, .int .i64 f, .bool r, .bool wr, .bool x, .bool a, .bool n, .int .i64 s, .int .i64 o]] w fun e w' => e = .returned (.int .i64 (if b then 0 else 1)) ∧ Below w.heap.size w w' := by
  have HM := Lib.hid (fun W => emayBe_any st lv k f r wr x a n s o W)
  rw [hb] at HM
  clear hb
  cases b
  all_goals
    go_enter Tryz.func89, Tryz.ntmps89
    go_wp2_with (first | (go_at_call 100; refine (entryOf_any _ _ _ _ _ _ _ _ _ _ _ _).mono ?_; rintro e w' ⟨rfl, rfl⟩) | (go_at_call 96; refine (HM.out _).mono ?_; rintro e w' ⟨rfl, hb1⟩))
    go_ret
    exact ⟨rfl, bel_trans (by repeat' (first | exact Below.refl _ _ | refine bel_alloc ?_ _)) hb1⟩

end Go.Proofs.YtalbblaicmdhmaaGreat
