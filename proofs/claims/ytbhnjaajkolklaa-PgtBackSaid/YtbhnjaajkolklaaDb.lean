/- Whether an entry may be: contracts. -/
import Derived.Test.YtbhnjaajkolklaaDa
set_option linter.all false
namespace Go.Proofs.Ytbhnjaajkolklaa
open Go.ChangeShapes Go.WideShapes Go.ChangeAt Go.RowKit Go.Deep

theorem entryOf_any (st lv : Int) (k f : Int) (r wr x a n : Bool) (s o : Int) (w : World) :
    Calls Try.prog 38 #[.int .i64 st, .int .i64 lv, .agg #[.int .i64 k, .int .i64 f, .bool r, .bool wr, .bool x, .bool a, .bool n, .int .i64 s, .int .i64 o]] w fun e w' => e = .returned (.agg #[.int .i64 st, .int .i64 lv, .int .i64 k, .int .i64 f, .bool r, .bool wr, .bool x, .bool a, .bool n, .int .i64 s, .int .i64 o]) ∧ w' = (w.alloc (.cells #[.int .i64 k, .int .i64 f, .bool r, .bool wr, .bool x, .bool a, .bool n, .int .i64 s, .int .i64 o] 34)).alloc (.cells #[.int .i64 st, .int .i64 lv, .int .i64 k, .int .i64 f, .bool r, .bool wr, .bool x, .bool a, .bool n, .int .i64 s, .int .i64 o] 89) := by
  go_enter Try.func38, Try.ntmps38
  go_wp2
  go_returns
  exact ⟨rfl, rfl⟩

theorem none_any (st lv : Int) (k f : Int) (r wr x a n : Bool) (s o : Int) (w : World) (hk : k = 0) :
    Calls Try.prog 52 #[.agg #[.int .i64 st, .int .i64 lv, .int .i64 k, .int .i64 f, .bool r, .bool wr, .bool x, .bool a, .bool n, .int .i64 s, .int .i64 o]] w fun e w' => e = .returned (.bool (noneD st (Dsc.mk k f r wr x a n s o))) ∧ Below w.heap.size w w' := by
  subst hk
  cases he : eqD (Dsc.mk 0 f r wr x a n s o) ⟨0, 0, false, false, false, false, false, 0, o⟩
  · have hn : noneD st (Dsc.mk 0 f r wr x a n s o) = false := by unfold noneD; simp only; rw [he]; rfl
    have HN := Lib.hid hn
    clear hn
    go_enter Try.func52, Try.ntmps52
    go_wp2
    go_ret
    rw [HN.out]
    exact ⟨rfl, by go_grown⟩
  · have hn : noneD st (Dsc.mk 0 f r wr x a n s o) = (decide (o = 0) || (decide (st = 2) && numB o 15)) := by unfold noneD; simp only; rw [he]; rfl
    have HN := Lib.hid hn
    clear hn
    by_cases h0 : o = 0
    · subst h0
      go_enter Try.func52, Try.ntmps52
      go_wp2
      go_ret
      refine ⟨ret_bool ?_, by go_grown⟩
      rw [HN.out]; rfl
    · have t0 : (o == 0) = false := by simpa using h0
      by_cases h2 : st = 2
      · subst h2
        go_enter Try.func52, Try.ntmps52
        go_wp2_with (go_at_call 66; refine (isSmall_any _ _).mono ?_; rintro e w' ⟨rfl, rfl⟩)
        go_ret
        refine ⟨ret_bool ?_, by go_grown⟩
        rw [HN.out]; simp [h0]
      · have t2 : (st == 2) = false := by simpa using h2
        go_enter Try.func52, Try.ntmps52
        go_wp2
        go_ret
        refine ⟨ret_bool ?_, by go_grown⟩
        rw [HN.out]; simp [h0, h2]

theorem table_any (st lv : Int) (k f : Int) (r wr x a n : Bool) (s o : Int) (w : World) (hk : k = 1) :
    Calls Try.prog 53 #[.agg #[.int .i64 st, .int .i64 lv, .int .i64 k, .int .i64 f, .bool r, .bool wr, .bool x, .bool a, .bool n, .int .i64 s, .int .i64 o]] w fun e w' => e = .returned (.bool (tableD lv (Dsc.mk k f r wr x a n s o))) ∧ Below w.heap.size w w' := by
  subst hk
  cases he : eqD (Dsc.mk 1 f r wr x a n s o) ⟨1, f, false, false, false, false, false, 0, 0⟩
  · have hn : tableD lv (Dsc.mk 1 f r wr x a n s o) = false := by unfold tableD; simp only; rw [he]; rfl
    have HN := Lib.hid hn
    clear hn
    go_enter Try.func53, Try.ntmps53
    go_wp2
    go_ret
    rw [HN.out]
    exact ⟨rfl, by go_grown⟩
  · have hn : tableD lv (Dsc.mk 1 f r wr x a n s o) = (decide (lv ≠ 3) && numB f 4095) := by unfold tableD; simp only; rw [he]; rfl
    have HN := Lib.hid hn
    clear hn
    by_cases h0 : lv = 3
    · subst h0
      go_enter Try.func53, Try.ntmps53
      go_wp2
      go_ret
      refine ⟨ret_bool ?_, by go_grown⟩
      rw [HN.out]; rfl
    · have t0 : (lv != 3) = true := by simpa using h0
      go_enter Try.func53, Try.ntmps53
      go_wp2_with (go_at_call 56; refine (isPage_any _ _).mono ?_; rintro e w' ⟨rfl, rfl⟩)
      go_ret
      refine ⟨ret_bool ?_, by go_grown⟩
      rw [HN.out]; simp [h0]

theorem attr_any (st lv : Int) (k f : Int) (r wr x a n : Bool) (s o : Int) (w : World) :
    Calls Try.prog 67 #[.agg #[.int .i64 st, .int .i64 lv, .int .i64 k, .int .i64 f, .bool r, .bool wr, .bool x, .bool a, .bool n, .int .i64 s, .int .i64 o]] w fun e w' => e = .returned (.bool (attrD st (Dsc.mk k f r wr x a n s o))) ∧ w' = w.alloc (.cells #[.int .i64 st, .int .i64 lv, .int .i64 k, .int .i64 f, .bool r, .bool wr, .bool x, .bool a, .bool n, .int .i64 s, .int .i64 o] 89) := by
  have hn : attrD st (Dsc.mk k f r wr x a n s o) = if st = 1 then r && decide (s = 0) else !n && numB s 15 := rfl
  have HN := Lib.hid hn
  clear hn
  by_cases h1 : st = 1
  · subst h1
    cases r
    all_goals
      go_enter Try.func67, Try.ntmps67
      go_wp2
      go_ret
      refine ⟨ret_bool ?_, rfl⟩
      rw [HN.out, Bool.eq_iff_iff]; simp
  · have t1 : (st == 1) = false := by simpa using h1
    cases n
    all_goals
      go_enter Try.func67, Try.ntmps67
      go_wp2_with (go_at_call 66; refine (isSmall_any _ _).mono ?_; rintro e w' ⟨rfl, rfl⟩)
      go_ret
      refine ⟨ret_bool ?_, rfl⟩
      rw [HN.out]; simp [h1]

set_option maxHeartbeats 1600000 in
theorem leaf_any (st lv : Int) (k f : Int) (r wr x a n : Bool) (s o : Int) (w : World) (hl0 : 0 ≤ lv) (hl1 : lv ≤ 3) :
    Calls Try.prog 54 #[.agg #[.int .i64 st, .int .i64 lv, .int .i64 k, .int .i64 f, .bool r, .bool wr, .bool x, .bool a, .bool n, .int .i64 s, .int .i64 o]] w fun e w' => e = .returned (.bool (leafD st lv (Dsc.mk k f r wr x a n s o))) ∧ Below w.heap.size w w' := by
  have hn : leafD st lv (Dsc.mk k f r wr x a n s o) = (decide (lv ≠ 0) && (decide (o = 0) && (numB f 4095 && (decide (f.tmod (cov lv) = 0) && attrD st (Dsc.mk k f r wr x a n s o))))) := rfl
  have HN := Lib.hid hn
  clear hn
  by_cases h0 : lv = 0
  · subst h0
    go_enter Try.func54, Try.ntmps54
    go_wp2
    go_ret
    refine ⟨ret_bool ?_, by go_grown⟩
    rw [HN.out]; rfl
  · have t0 : (lv == 0) = false := by simpa using h0
    by_cases ho : o = 0
    · subst ho
      have HP := Lib.hid (fun W => isPage_any f W)
      cases hf : numB f 4095
      · have HP' := Lib.hid (fun W => same (HP.out W))
        rw [hf] at HP' HN
        clear HP hf
        go_enter Try.func54, Try.ntmps54
        go_wp2_with fail
        go_quiet ((go_at_call 56; exact Calls.quiet_of_same (HP'.out _)))
        go_wp2
        go_ret
        refine ⟨ret_bool ?_, below_drewN (bel_alloc (Below.refl _ _) _) _⟩
        rw [HN.out]; simp
      · have hfb := numB_iff.1 hf
        have hc := cov_pos lv
        have HC := Lib.hid (fun W => covers_any lv W hl0 hl1)
        have HA := Lib.hid (fun W => attr_any st lv k f r wr x a n s 0 W)
        have c0 : cov lv ≠ 0 := by omega
        rw [hf] at HP HN
        generalize cov lv = c at *
        generalize hA : attrD st (Dsc.mk k f r wr x a n s 0) = ab at *
        clear hA hf
        by_cases ht : f.tmod c = 0
        · have t1 : (f.tmod c == 0) = true := by simpa using ht
          have HT := Lib.hid ht
          clear ht
          go_enter Try.func54, Try.ntmps54
          go_wp2_with fail
          go_region_held3 (fun w' => w'.cell? ⟨w.heap.size, 0, none⟩ = some (.int .i64 st) ∧ w'.cell? ⟨w.heap.size, 1, none⟩ = some (.int .i64 lv) ∧ w'.cell? ⟨w.heap.size, 2, none⟩ = some (.int .i64 k) ∧ w'.cell? ⟨w.heap.size, 3, none⟩ = some (.int .i64 f)
              ∧ w'.cell? ⟨w.heap.size, 4, none⟩ = some (.bool r) ∧ w'.cell? ⟨w.heap.size, 5, none⟩ = some (.bool wr) ∧ w'.cell? ⟨w.heap.size, 6, none⟩ = some (.bool x) ∧ w'.cell? ⟨w.heap.size, 7, none⟩ = some (.bool a) ∧ w'.cell? ⟨w.heap.size, 8, none⟩ = some (.bool n)
              ∧ w'.cell? ⟨w.heap.size, 9, none⟩ = some (.int .i64 s) ∧ w'.cell? ⟨w.heap.size, 10, none⟩ = some (.int .i64 0)) (go_keep)
            (first | (go_at_call 56; refine (HP.out _).mono ?_; rintro e w' ⟨rfl, rfl⟩) | (go_at_call 50; refine (HC.out _).mono ?_; rintro e w' ⟨rfl, rfl⟩) | (go_at_call 67; refine (HA.out _).mono ?_; rintro e w' ⟨rfl, rfl⟩))
          go_wp2
          go_ret
          refine ⟨ret_bool ?_, by go_grown⟩
          rw [HN.out]; simp [h0, HT.out]
        · have t1 : (f.tmod c == 0) = false := by simpa using ht
          have HT := Lib.hid ht
          have HP' := Lib.hid (fun W => same (HP.out W))
          have HC' := Lib.hid (fun W => same (HC.out W))
          clear ht HP HC
          go_enter Try.func54, Try.ntmps54
          go_wp2_with fail
          go_quiet (first | (go_at_call 56; exact Calls.quiet_of_same (HP'.out _)) | (go_at_call 50; exact Calls.quiet_of_same (HC'.out _)))
          go_wp2
          go_ret
          refine ⟨ret_bool ?_, below_drewN (bel_alloc (Below.refl _ _) _) _⟩
          rw [HN.out]; simp [HT.out]
    · have tno : (o != 0) = true := by simpa using ho
      go_enter Try.func54, Try.ntmps54
      go_wp2
      go_ret
      refine ⟨ret_bool ?_, by go_grown⟩
      rw [HN.out]; simp [ho]
end Go.Proofs.Ytbhnjaajkolklaa
