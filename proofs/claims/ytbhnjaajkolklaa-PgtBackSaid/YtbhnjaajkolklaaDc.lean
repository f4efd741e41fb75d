/- Plain walking: an operation of a region that draws its order is taken first, in short. Whether an entry may be, and the reference's answer: contracts. -/
import Derived.Test.YtbhnjaajkolklaaWd
import Derived.OrdersHeld
import Derived.Deep.RegionHeld3
import Derived.Test.YtbhnjaajkolklaaDb
import Derived.Test.YtbhnjaajkolklaaEo
set_option linter.all false
namespace Go.Proofs.Ytbhnjaajkolklaa
section
open Go.RowKit

section
variable {P : Program} {ops : Array Oper} {Q : Exit → Act → World → Prop} {md : Region.Mode} {S : World → Prop}
end
end
section
open Go.ChangeShapes Go.WideShapes Go.ChangeAt Go.RowKit Go.Deep

theorem emayBe_any (st lv : Int) (k f : Int) (r wr x a n : Bool) (s o : Int) (w : World) :
    Calls Try.prog 39 #[.agg #[.int .i64 st, .int .i64 lv, .int .i64 k, .int .i64 f, .bool r, .bool wr, .bool x, .bool a, .bool n, .int .i64 s, .int .i64 o]] w fun e w' => e = .returned (.bool (mayE st lv (Dsc.mk k f r wr x a n s o))) ∧ Below w.heap.size w w' := by
  have hm : mayE st lv (Dsc.mk k f r wr x a n s o) = (placeB st lv && mayD st lv (Dsc.mk k f r wr x a n s o)) := rfl
  have HM := Lib.hid hm
  have HS := Lib.hid (fun W => spot_mayBe st lv W)
  clear hm
  cases hp : placeB st lv
  · rw [hp] at HS HM
    clear hp
    go_enter Try.func39, Try.ntmps39
    go_wp2_with (go_at_call 51; refine (HS.out _).mono ?_; rintro e w' ⟨rfl, rfl⟩)
    go_ret
    rw [HM.out]
    exact ⟨rfl, by go_grown⟩
  · obtain ⟨_, hl0, hl3⟩ := placeB_iff.1 hp
    rw [hp, Bool.true_and] at HM
    rw [hp] at HS
    clear hp
    by_cases k0 : k = 0
    · subst k0
      have HN := Lib.hid (fun W => none_any st lv 0 f r wr x a n s o W rfl)
      have he : mayD st lv (Dsc.mk 0 f r wr x a n s o) = noneD st (Dsc.mk 0 f r wr x a n s o) := rfl
      rw [he] at HM
      clear he
      go_enter Try.func39, Try.ntmps39
      go_wp2_with (first | (go_at_call 51; refine (HS.out _).mono ?_; rintro e w' ⟨rfl, rfl⟩) | (go_at_call 52; refine (HN.out _).mono ?_; rintro e w' ⟨rfl, hb1⟩))
      go_ret
      rw [HM.out]
      exact ⟨rfl, bel_trans (by go_grown) hb1⟩
    · have t0 : (k == 0) = false := by simpa using k0
      by_cases k1 : k = 1
      · subst k1
        have HN := Lib.hid (fun W => table_any st lv 1 f r wr x a n s o W rfl)
        have he : mayD st lv (Dsc.mk 1 f r wr x a n s o) = tableD lv (Dsc.mk 1 f r wr x a n s o) := rfl
        rw [he] at HM
        clear he
        go_enter Try.func39, Try.ntmps39
        go_wp2_with (first | (go_at_call 51; refine (HS.out _).mono ?_; rintro e w' ⟨rfl, rfl⟩) | (go_at_call 53; refine (HN.out _).mono ?_; rintro e w' ⟨rfl, hb1⟩))
        go_ret
        rw [HM.out]
        exact ⟨rfl, bel_trans (by go_grown) hb1⟩
      · have t1 : (k == 1) = false := by simpa using k1
        by_cases k2 : k = 2
        · subst k2
          have HN := Lib.hid (fun W => leaf_any st lv 2 f r wr x a n s o W hl0 hl3)
          have he : mayD st lv (Dsc.mk 2 f r wr x a n s o) = leafD st lv (Dsc.mk 2 f r wr x a n s o) := rfl
          rw [he] at HM
          clear he
          go_enter Try.func39, Try.ntmps39
          go_wp2_with (first | (go_at_call 51; refine (HS.out _).mono ?_; rintro e w' ⟨rfl, rfl⟩) | (go_at_call 54; refine (HN.out _).mono ?_; rintro e w' ⟨rfl, hb1⟩))
          go_ret
          rw [HM.out]
          exact ⟨rfl, bel_trans (by go_grown) hb1⟩
        · have t2 : (k == 2) = false := by simpa using k2
          have he : mayD st lv (Dsc.mk k f r wr x a n s o) = false := by simp [mayD, k0, k1, k2]
          rw [he] at HM
          clear he k0 k1 k2
          go_enter Try.func39, Try.ntmps39
          go_wp2_with (go_at_call 51; refine (HS.out _).mono ?_; rintro e w' ⟨rfl, rfl⟩)
          go_ret
          rw [HM.out]
          exact ⟨rfl, by go_grown⟩
end
end Go.Proofs.Ytbhnjaajkolklaa
