/- The reference's small functions that several layers use: Num, Page, bit, set, Get. Contracts of the small functions of package desc and of its reference. -/
import Derived.Test.YtbhnjaajkolklaaBx
import Derived.Laws.StructEq
import Derived.IntWalk
set_option linter.all false
namespace Go.Proofs.Ytbhnjaajkolklaa
section
open Go.ChangeShapes Go.WideShapes Go.ChangeAt Go.RowKit Go.Deep

end
section
open Go.ChangeShapes Go.WideShapes Go.ChangeAt Go.RowKit Go.Deep

theorem eq_desc (k f : Int) (r wr x a n : Bool) (s o : Int) (k' f' : Int) (r' wr' x' a' n' : Bool) (s' o' : Int) (w : World) :
    (Op.equalIn 10000 34 (.agg #[.int .i64 k, .int .i64 f, .bool r, .bool wr, .bool x, .bool a, .bool n, .int .i64 s, .int .i64 o]) (.agg #[.int .i64 k', .int .i64 f', .bool r', .bool wr', .bool x', .bool a', .bool n', .int .i64 s', .int .i64 o'])).run Try.prog w = .ok (eqD (Dsc.mk k f r wr x a n s o) (Dsc.mk k' f' r' wr' x' a' n' s' o')) w := by
  rw [run_equalIn_agg w 9999 _ _ _ (by kernel_rfl) (by kernel_rfl)]
  simp only [Program.fieldsOf, Try.underlying34]
  simp [go_sem, eqD]
  by_cases h1 : k = k'
  rotate_left
  · simp [h1]
  by_cases h2 : f = f'
  rotate_left
  · simp [h1, h2]
  by_cases h3 : r = r'
  rotate_left
  · simp [h1, h2, h3]
  by_cases h4 : wr = wr'
  rotate_left
  · simp [h1, h2, h3, h4]
  by_cases h5 : x = x'
  rotate_left
  · simp [h1, h2, h3, h4, h5]
  by_cases h6 : a = a'
  rotate_left
  · simp [h1, h2, h3, h4, h5, h6]
  by_cases h7 : n = n'
  rotate_left
  · simp [h1, h2, h3, h4, h5, h6, h7]
  by_cases h8 : s = s'
  rotate_left
  · simp [h1, h2, h3, h4, h5, h6, h7, h8]
  by_cases h9 : o = o'
  rotate_left
  · simp [h1, h2, h3, h4, h5, h6, h7, h8, h9]
  simp [h1, h2, h3, h4, h5, h6, h7, h8, h9]

/-- Two descriptors, compared. -/
@[go_sem high] theorem eql_desc (k f : Int) (r wr x a n : Bool) (s o : Int) (k' f' : Int) (r' wr' x' a' n' : Bool) (s' o' : Int) (w : World) :
    (binOp .eql 34 (.agg #[.int .i64 k, .int .i64 f, .bool r, .bool wr, .bool x, .bool a, .bool n, .int .i64 s, .int .i64 o]) (.agg #[.int .i64 k', .int .i64 f', .bool r', .bool wr', .bool x', .bool a', .bool n', .int .i64 s', .int .i64 o'])).run Try.prog w = .ok (.bool (eqD (Dsc.mk k f r wr x a n s o) (Dsc.mk k' f' r' wr' x' a' n' s' o'))) w := by
  rw [run_eql_struct, eq_desc]; rfl
@[go_sem high] theorem neq_desc (k f : Int) (r wr x a n : Bool) (s o : Int) (k' f' : Int) (r' wr' x' a' n' : Bool) (s' o' : Int) (w : World) :
    (binOp .neq 34 (.agg #[.int .i64 k, .int .i64 f, .bool r, .bool wr, .bool x, .bool a, .bool n, .int .i64 s, .int .i64 o]) (.agg #[.int .i64 k', .int .i64 f', .bool r', .bool wr', .bool x', .bool a', .bool n', .int .i64 s', .int .i64 o'])).run Try.prog w = .ok (.bool (!eqD (Dsc.mk k f r wr x a n s o) (Dsc.mk k' f' r' wr' x' a' n' s' o'))) w := by
  rw [run_neq_struct, eq_desc]; rfl

theorem isLevel_any (lv : Int) (w : World) :
    Calls Try.prog 49 #[.int .i64 lv] w fun e w' => e = .returned (.bool (numB lv 3)) ∧ w = w' := by
  go_enter Try.func49, Try.ntmps49
  go_wp2
  all_goals
    go_ret
    refine ⟨ret_bool ?_, rfl⟩
    unfold numB
    rw [Bool.eq_iff_iff]
    simp
    omega
theorem isPage_any (p : Int) (w : World) :
    Calls Try.prog 56 #[.int .i64 p] w fun e w' => e = .returned (.bool (numB p 4095)) ∧ w = w' := by
  go_enter Try.func56, Try.ntmps56
  go_wp2
  all_goals
    go_ret
    refine ⟨ret_bool ?_, rfl⟩
    unfold numB
    rw [Bool.eq_iff_iff]
    simp
    omega
theorem isSmall_any (p : Int) (w : World) :
    Calls Try.prog 66 #[.int .i64 p] w fun e w' => e = .returned (.bool (numB p 15)) ∧ w = w' := by
  go_enter Try.func66, Try.ntmps66
  go_wp2
  all_goals
    go_ret
    refine ⟨ret_bool ?_, rfl⟩
    unfold numB
    rw [Bool.eq_iff_iff]
    simp
    omega
theorem spot_mayBe (st lv : Int) (w : World) :
    Calls Try.prog 51 #[.agg #[.int .i64 st, .int .i64 lv]] w fun e w' => e = .returned (.bool (placeB st lv)) ∧ w' = w.alloc (.cells #[.int .i64 st, .int .i64 lv] 87) := by
  have hp : placeB st lv = (decide (st = 1 ∨ st = 2) && numB lv 3) := by
    unfold placeB numB; rw [Bool.eq_iff_iff]; simp
  have HP := Lib.hid hp
  clear hp
  by_cases h1 : st = 1
  · subst h1
    go_enter Try.func51, Try.ntmps51
    go_wp2_with (go_at_call 49; refine (isLevel_any _ _).mono ?_; rintro e w' ⟨rfl, rfl⟩)
    go_ret
    refine ⟨ret_bool ?_, rfl⟩
    rw [HP.out]; simp
  · have t1 : (st == 1) = false := by simpa using h1
    by_cases h2 : st = 2
    · subst h2
      go_enter Try.func51, Try.ntmps51
      go_wp2_with (go_at_call 49; refine (isLevel_any _ _).mono ?_; rintro e w' ⟨rfl, rfl⟩)
      go_ret
      refine ⟨ret_bool ?_, rfl⟩
      rw [HP.out]; simp
    · have t2 : (st == 2) = false := by simpa using h2
      go_enter Try.func51, Try.ntmps51
      go_wp2
      go_ret
      refine ⟨ret_bool ?_, rfl⟩
      rw [HP.out]; simp [h1, h2]
theorem below_any (lv : Int) (w : World) (h0 : 0 ≤ lv) (h1 : lv ≤ 3) :
    Calls Try.prog 58 #[.int .i64 lv] w fun e w' => e = .returned (.int .i64 (3 * (3 - lv))) ∧ w = w' := by
  go_enter Try.func58, Try.ntmps58
  go_wp2
  go_ret
  exact ⟨rfl, rfl⟩
theorem covers_any (lv : Int) (w : World) (h0 : 0 ≤ lv) (h1 : lv ≤ 3) :
    Calls Try.prog 50 #[.int .i64 lv] w fun e w' => e = .returned (.int .i64 (cov lv)) ∧ w = w' := by
  have hc : lv = 0 ∨ lv = 1 ∨ lv = 2 ∨ lv = 3 := by omega
  rcases hc with rfl | rfl | rfl | rfl
  all_goals
    go_enter Try.func50, Try.ntmps50
    go_wp2_with (go_at_call 58; refine (below_any _ _ (by decide) (by decide)).mono ?_; rintro e w' ⟨rfl, rfl⟩)
    go_ret
    exact ⟨rfl, rfl⟩
end
end Go.Proofs.Ytbhnjaajkolklaa
