/- Contracts of the small functions of package desc and of its reference. Whether an entry may be: contracts. -/
import Derived.Test.YtbhnjaajkolklaaGreatMemA
import Derived.Laws.StructEq
import Derived.IntWalk
set_option linter.all false
namespace Go.Proofs.YtbhnjaajkolklaaGreat
section
open Go.ChangeShapes Go.WideShapes Go.ChangeAt Go.RowKit Go.Deep

theorem eq_desc (k f : Int) (r wr x a n : Bool) (s o : Int) (k' f' : Int) (r' wr' x' a' n' : Bool) (s' o' : Int) (w : World) :
    (Op.equalIn 10000 37 (.agg #[.int .i64 k, .int .i64 f, .bool r, .bool wr, .bool x, .bool a, .bool n, .int .i64 s, .int .i64 o]) (.agg #[.int .i64 k', .int .i64 f', .bool r', .bool wr', .bool x', .bool a', .bool n', .int .i64 s', .int .i64 o'])).run Tryz.prog w = .ok (eqD (Dsc.mk k f r wr x a n s o) (Dsc.mk k' f' r' wr' x' a' n' s' o')) w := by
  rw [run_equalIn_agg w 9999 _ _ _ (by kernel_rfl) (by kernel_rfl)]
  simp only [Program.fieldsOf, Tryz.underlying37]
  simp [go_sem, eqD]
  by_cases h1 : k = k'
  rotate_left
  · simp [h1]
  by_cases h2 : f = f'
  rotate_left
  · simp [h1, h2]
  by_cases h3 : r = r'
  rotate_left
  · simp [h1, h2, h3]
  by_cases h4 : wr = wr'
  rotate_left
  · simp [h1, h2, h3, h4]
  by_cases h5 : x = x'
  rotate_left
  · simp [h1, h2, h3, h4, h5]
  by_cases h6 : a = a'
  rotate_left
  · simp [h1, h2, h3, h4, h5, h6]
  by_cases h7 : n = n'
  rotate_left
  · simp [h1, h2, h3, h4, h5, h6, h7]
  by_cases h8 : s = s'
  rotate_left
  · simp [h1, h2, h3, h4, h5, h6, h7, h8]
  by_cases h9 : o = o'
  rotate_left
  · simp [h1, h2, h3, h4, h5, h6, h7, h8, h9]
  simp [h1, h2, h3, h4, h5, h6, h7, h8, h9]

/-- Two descriptors, compared. -/
@[go_sem high] theorem eql_desc (k f : Int) (r wr x a n : Bool) (s o : Int) (k' f' : Int) (r' wr' x' a' n' : Bool) (s' o' : Int) (w : World) :
    (binOp .eql 37 (.agg #[.int .i64 k, .int .i64 f, .bool r, .bool wr, .bool x, .bool a, .bool n, .int .i64 s, .int .i64 o]) (.agg #[.int .i64 k', .int .i64 f', .bool r', .bool wr', .bool x', .bool a', .bool n', .int .i64 s', .int .i64 o'])).run Tryz.prog w = .ok (.bool (eqD (Dsc.mk k f r wr x a n s o) (Dsc.mk k' f' r' wr' x' a' n' s' o'))) w := by
  rw [run_eql_struct, eq_desc]; rfl
@[go_sem high] theorem neq_desc (k f : Int) (r wr x a n : Bool) (s o : Int) (k' f' : Int) (r' wr' x' a' n' : Bool) (s' o' : Int) (w : World) :
    (binOp .neq 37 (.agg #[.int .i64 k, .int .i64 f, .bool r, .bool wr, .bool x, .bool a, .bool n, .int .i64 s, .int .i64 o]) (.agg #[.int .i64 k', .int .i64 f', .bool r', .bool wr', .bool x', .bool a', .bool n', .int .i64 s', .int .i64 o'])).run Tryz.prog w = .ok (.bool (!eqD (Dsc.mk k f r wr x a n s o) (Dsc.mk k' f' r' wr' x' a' n' s' o'))) w := by
  rw [run_neq_struct, eq_desc]; rfl

theorem isLevel_any (lv : Int) (w : World) :
    Calls Tryz.prog 65 #[.int .i64 lv] w fun e w' => e = .returned (.bool (numB lv 3)) ∧ w = w' := by
  go_enter Tryz.func65, Tryz.ntmps65
  go_wp2
  all_goals
    go_ret
    refine ⟨ret_bool ?_, rfl⟩
    unfold numB
    rw [Bool.eq_iff_iff]
    simp
    omega
theorem isPage_any (p : Int) (w : World) :
    Calls Tryz.prog 111 #[.int .i64 p] w fun e w' => e = .returned (.bool (numB p 4095)) ∧ w = w' := by
  go_enter Tryz.func111, Tryz.ntmps111
  go_wp2
  all_goals
    go_ret
    refine ⟨ret_bool ?_, rfl⟩
    unfold numB
    rw [Bool.eq_iff_iff]
    simp
    omega
theorem isSmall_any (p : Int) (w : World) :
    Calls Tryz.prog 121 #[.int .i64 p] w fun e w' => e = .returned (.bool (numB p 15)) ∧ w = w' := by
  go_enter Tryz.func121, Tryz.ntmps121
  go_wp2
  all_goals
    go_ret
    refine ⟨ret_bool ?_, rfl⟩
    unfold numB
    rw [Bool.eq_iff_iff]
    simp
    omega
theorem spot_mayBe (st lv : Int) (w : World) :
    Calls Tryz.prog 103 #[.agg #[.int .i64 st, .int .i64 lv]] w fun e w' => e = .returned (.bool (placeB st lv)) ∧ w' = w.alloc (.cells #[.int .i64 st, .int .i64 lv] 134) := by
  have hp : placeB st lv = (decide (st = 1 ∨ st = 2) && numB lv 3) := by
    unfold placeB numB; rw [Bool.eq_iff_iff]; simp
  have HP := Lib.hid hp
  clear hp
  by_cases h1 : st = 1
  · subst h1
    go_enter Tryz.func103, Tryz.ntmps103
    go_wp2_with (go_at_call 65; refine (isLevel_any _ _).mono ?_; rintro e w' ⟨rfl, rfl⟩)
    go_ret
    refine ⟨ret_bool ?_, rfl⟩
    rw [HP.out]; simp
  · have t1 : (st == 1) = false := by simpa using h1
    by_cases h2 : st = 2
    · subst h2
      go_enter Tryz.func103, Tryz.ntmps103
      go_wp2_with (go_at_call 65; refine (isLevel_any _ _).mono ?_; rintro e w' ⟨rfl, rfl⟩)
      go_ret
      refine ⟨ret_bool ?_, rfl⟩
      rw [HP.out]; simp
    · have t2 : (st == 2) = false := by simpa using h2
      go_enter Tryz.func103, Tryz.ntmps103
      go_wp2
      go_ret
      refine ⟨ret_bool ?_, rfl⟩
      rw [HP.out]; simp [h1, h2]
theorem below_any (lv : Int) (w : World) (h0 : 0 ≤ lv) (h1 : lv ≤ 3) :
    Calls Tryz.prog 84 #[.int .i64 lv] w fun e w' => e = .returned (.int .i64 (3 * (3 - lv))) ∧ w = w' := by
  go_enter Tryz.func84, Tryz.ntmps84
  go_wp2
  go_ret
  exact ⟨rfl, rfl⟩
theorem covers_any (lv : Int) (w : World) (h0 : 0 ≤ lv) (h1 : lv ≤ 3) :
    Calls Tryz.prog 66 #[.int .i64 lv] w fun e w' => e = .returned (.int .i64 (cov lv)) ∧ w = w' := by
  have hc : lv = 0 ∨ lv = 1 ∨ lv = 2 ∨ lv = 3 := by omega
  rcases hc with rfl | rfl | rfl | rfl
  all_goals
    go_enter Tryz.func66, Tryz.ntmps66
    go_wp2_with (go_at_call 84; refine (below_any _ _ (by decide) (by decide)).mono ?_; rintro e w' ⟨rfl, rfl⟩)
    go_ret
    exact ⟨rfl, rfl⟩
theorem rcovers_any (lv : Int) (w : World) (h0 : 0 ≤ lv) (h1 : lv ≤ 3) :
    Calls Tryz.prog 22 #[.int .i64 lv] w fun e w' => e = .returned (.int .i64 (cov lv)) ∧ Below w.heap.size w w' := by
  have hc : lv = 0 ∨ lv = 1 ∨ lv = 2 ∨ lv = 3 := by omega
  rcases hc with rfl | rfl | rfl | rfl
  all_goals
    go_enter Tryz.func22, Tryz.ntmps22
    go_wp2
    go_ret
    exact ⟨rfl, by go_grown⟩
end
section
open Go.ChangeShapes Go.WideShapes Go.ChangeAt Go.RowKit Go.Deep

theorem entryOf_any (st lv : Int) (k f : Int) (r wr x a n : Bool) (s o : Int) (w : World) :
    Calls Tryz.prog 85 #[.int .i64 st, .int .i64 lv, .agg #[.int .i64 k, .int .i64 f, .bool r, .bool wr, .bool x, .bool a, .bool n, .int .i64 s, .int .i64 o]] w fun e w' => e = .returned (.agg #[.int .i64 st, .int .i64 lv, .int .i64 k, .int .i64 f, .bool r, .bool wr, .bool x, .bool a, .bool n, .int .i64 s, .int .i64 o]) ∧ w' = (w.alloc (.cells #[.int .i64 k, .int .i64 f, .bool r, .bool wr, .bool x, .bool a, .bool n, .int .i64 s, .int .i64 o] 37)).alloc (.cells #[.int .i64 st, .int .i64 lv, .int .i64 k, .int .i64 f, .bool r, .bool wr, .bool x, .bool a, .bool n, .int .i64 s, .int .i64 o] 136) := by
  go_enter Tryz.func85, Tryz.ntmps85
  go_wp2
  go_returns
  exact ⟨rfl, rfl⟩

theorem none_any (st lv : Int) (k f : Int) (r wr x a n : Bool) (s o : Int) (w : World) (hk : k = 0) :
    Calls Tryz.prog 104 #[.agg #[.int .i64 st, .int .i64 lv, .int .i64 k, .int .i64 f, .bool r, .bool wr, .bool x, .bool a, .bool n, .int .i64 s, .int .i64 o]] w fun e w' => e = .returned (.bool (noneD st (Dsc.mk k f r wr x a n s o))) ∧ Below w.heap.size w w' := by
  subst hk
  cases he : eqD (Dsc.mk 0 f r wr x a n s o) ⟨0, 0, false, false, false, false, false, 0, o⟩
  · have hn : noneD st (Dsc.mk 0 f r wr x a n s o) = false := by unfold noneD; simp only; rw [he]; rfl
    have HN := Lib.hid hn
    clear hn
    go_enter Tryz.func104, Tryz.ntmps104
    go_wp2
    go_ret
    rw [HN.out]
    exact ⟨rfl, by go_grown⟩
  · have hn : noneD st (Dsc.mk 0 f r wr x a n s o) = (decide (o = 0) || (decide (st = 2) && numB o 15)) := by unfold noneD; simp only; rw [he]; rfl
    have HN := Lib.hid hn
    clear hn
    by_cases h0 : o = 0
    · subst h0
      go_enter Tryz.func104, Tryz.ntmps104
      go_wp2
      go_ret
      refine ⟨ret_bool ?_, by go_grown⟩
      rw [HN.out]; rfl
    · have t0 : (o == 0) = false := by simpa using h0
      by_cases h2 : st = 2
      · subst h2
        go_enter Tryz.func104, Tryz.ntmps104
        go_wp2_with (go_at_call 121; refine (isSmall_any _ _).mono ?_; rintro e w' ⟨rfl, rfl⟩)
        go_ret
        refine ⟨ret_bool ?_, by go_grown⟩
        rw [HN.out]; simp [h0]
      · have t2 : (st == 2) = false := by simpa using h2
        go_enter Tryz.func104, Tryz.ntmps104
        go_wp2
        go_ret
        refine ⟨ret_bool ?_, by go_grown⟩
        rw [HN.out]; simp [h0, h2]

theorem table_any (st lv : Int) (k f : Int) (r wr x a n : Bool) (s o : Int) (w : World) (hk : k = 1) :
    Calls Tryz.prog 105 #[.agg #[.int .i64 st, .int .i64 lv, .int .i64 k, .int .i64 f, .bool r, .bool wr, .bool x, .bool a, .bool n, .int .i64 s, .int .i64 o]] w fun e w' => e = .returned (.bool (tableD lv (Dsc.mk k f r wr x a n s o))) ∧ Below w.heap.size w w' := by
  subst hk
  cases he : eqD (Dsc.mk 1 f r wr x a n s o) ⟨1, f, false, false, false, false, false, 0, 0⟩
  · have hn : tableD lv (Dsc.mk 1 f r wr x a n s o) = false := by unfold tableD; simp only; rw [he]; rfl
    have HN := Lib.hid hn
    clear hn
    go_enter Tryz.func105, Tryz.ntmps105
    go_wp2
    go_ret
    rw [HN.out]
    exact ⟨rfl, by go_grown⟩
  · have hn : tableD lv (Dsc.mk 1 f r wr x a n s o) = (decide (lv ≠ 3) && numB f 4095) := by unfold tableD; simp only; rw [he]; rfl
    have HN := Lib.hid hn
    clear hn
    by_cases h0 : lv = 3
    · subst h0
      go_enter Tryz.func105, Tryz.ntmps105
      go_wp2
      go_ret
      refine ⟨ret_bool ?_, by go_grown⟩
      rw [HN.out]; rfl
    · have t0 : (lv != 3) = true := by simpa using h0
      go_enter Tryz.func105, Tryz.ntmps105
      go_wp2_with (go_at_call 111; refine (isPage_any _ _).mono ?_; rintro e w' ⟨rfl, rfl⟩)
      go_ret
      refine ⟨ret_bool ?_, by go_grown⟩
      rw [HN.out]; simp [h0]

theorem attr_any (st lv : Int) (k f : Int) (r wr x a n : Bool) (s o : Int) (w : World) :
    Calls Tryz.prog 122 #[.agg #[.int .i64 st, .int .i64 lv, .int .i64 k, .int .i64 f, .bool r, .bool wr, .bool x, .bool a, .bool n, .int .i64 s, .int .i64 o]] w fun e w' => e = .returned (.bool (attrD st (Dsc.mk k f r wr x a n s o))) ∧ w' = w.alloc (.cells #[.int .i64 st, .int .i64 lv, .int .i64 k, .int .i64 f, .bool r, .bool wr, .bool x, .bool a, .bool n, .int .i64 s, .int .i64 o] 136) := by
  have hn : attrD st (Dsc.mk k f r wr x a n s o) = if st = 1 then r && decide (s = 0) else !n && numB s 15 := rfl
  have HN := Lib.hid hn
  clear hn
  by_cases h1 : st = 1
  · subst h1
    cases r
    all_goals
      go_enter Tryz.func122, Tryz.ntmps122
      go_wp2
      go_ret
      refine ⟨ret_bool ?_, rfl⟩
      rw [HN.out, Bool.eq_iff_iff]; simp
  · have t1 : (st == 1) = false := by simpa using h1
    cases n
    all_goals
      go_enter Tryz.func122, Tryz.ntmps122
      go_wp2_with (go_at_call 121; refine (isSmall_any _ _).mono ?_; rintro e w' ⟨rfl, rfl⟩)
      go_ret
      refine ⟨ret_bool ?_, rfl⟩
      rw [HN.out]; simp [h1]

set_option maxHeartbeats 1600000 in
theorem leaf_any (st lv : Int) (k f : Int) (r wr x a n : Bool) (s o : Int) (w : World) (hl0 : 0 ≤ lv) (hl1 : lv ≤ 3) :
    Calls Tryz.prog 106 #[.agg #[.int .i64 st, .int .i64 lv, .int .i64 k, .int .i64 f, .bool r, .bool wr, .bool x, .bool a, .bool n, .int .i64 s, .int .i64 o]] w fun e w' => e = .returned (.bool (leafD st lv (Dsc.mk k f r wr x a n s o))) ∧ Below w.heap.size w w' := by
  have hn : leafD st lv (Dsc.mk k f r wr x a n s o) = (decide (lv ≠ 0) && (decide (o = 0) && (numB f 4095 && (decide (f.tmod (cov lv) = 0) && attrD st (Dsc.mk k f r wr x a n s o))))) := rfl
  have HN := Lib.hid hn
  clear hn
  by_cases h0 : lv = 0
  · subst h0
    go_enter Tryz.func106, Tryz.ntmps106
    go_wp2
    go_ret
    refine ⟨ret_bool ?_, by go_grown⟩
    rw [HN.out]; rfl
  · have t0 : (lv == 0) = false := by simpa using h0
    by_cases ho : o = 0
    · subst ho
      have HP := Lib.hid (fun W => isPage_any f W)
      cases hf : numB f 4095
      · have HP' := Lib.hid (fun W => same (HP.out W))
        rw [hf] at HP' HN
        clear HP hf
        go_enter Tryz.func106, Tryz.ntmps106
        go_wp2_with fail
        go_quiet ((go_at_call 111; exact Calls.quiet_of_same (HP'.out _)))
        go_wp2
        go_ret
        refine ⟨ret_bool ?_, below_drewN (bel_alloc (Below.refl _ _) _) _⟩
        rw [HN.out]; simp
      · have hfb := numB_iff.1 hf
        have hc := cov_pos lv
        have HC := Lib.hid (fun W => covers_any lv W hl0 hl1)
        have HA := Lib.hid (fun W => attr_any st lv k f r wr x a n s 0 W)
        have c0 : cov lv ≠ 0 := by omega
        rw [hf] at HP HN
        generalize cov lv = c at *
        generalize hA : attrD st (Dsc.mk k f r wr x a n s 0) = ab at *
        clear hA hf
        by_cases ht : f.tmod c = 0
        · have t1 : (f.tmod c == 0) = true := by simpa using ht
          have HT := Lib.hid ht
          clear ht
          go_enter Tryz.func106, Tryz.ntmps106
          go_wp2_with fail
          go_region_held3 (fun w' => w'.cell? ⟨w.heap.size, 0, none⟩ = some (.int .i64 st) ∧ w'.cell? ⟨w.heap.size, 1, none⟩ = some (.int .i64 lv) ∧ w'.cell? ⟨w.heap.size, 2, none⟩ = some (.int .i64 k) ∧ w'.cell? ⟨w.heap.size, 3, none⟩ = some (.int .i64 f)
              ∧ w'.cell? ⟨w.heap.size, 4, none⟩ = some (.bool r) ∧ w'.cell? ⟨w.heap.size, 5, none⟩ = some (.bool wr) ∧ w'.cell? ⟨w.heap.size, 6, none⟩ = some (.bool x) ∧ w'.cell? ⟨w.heap.size, 7, none⟩ = some (.bool a) ∧ w'.cell? ⟨w.heap.size, 8, none⟩ = some (.bool n)
              ∧ w'.cell? ⟨w.heap.size, 9, none⟩ = some (.int .i64 s) ∧ w'.cell? ⟨w.heap.size, 10, none⟩ = some (.int .i64 0)) (go_keep)
            (first | (go_at_call 111; refine (HP.out _).mono ?_; rintro e w' ⟨rfl, rfl⟩) | (go_at_call 66; refine (HC.out _).mono ?_; rintro e w' ⟨rfl, rfl⟩) | (go_at_call 122; refine (HA.out _).mono ?_; rintro e w' ⟨rfl, rfl⟩))
          go_wp2
          go_ret
          refine ⟨ret_bool ?_, by go_grown⟩
          rw [HN.out]; simp [h0, HT.out]
        · have t1 : (f.tmod c == 0) = false := by simpa using ht
          have HT := Lib.hid ht
          have HP' := Lib.hid (fun W => same (HP.out W))
          have HC' := Lib.hid (fun W => same (HC.out W))
          clear ht HP HC
          go_enter Tryz.func106, Tryz.ntmps106
          go_wp2_with fail
          go_quiet (first | (go_at_call 111; exact Calls.quiet_of_same (HP'.out _)) | (go_at_call 66; exact Calls.quiet_of_same (HC'.out _)))
          go_wp2
          go_ret
          refine ⟨ret_bool ?_, below_drewN (bel_alloc (Below.refl _ _) _) _⟩
          rw [HN.out]; simp [HT.out]
    · have tno : (o != 0) = true := by simpa using ho
      go_enter Tryz.func106, Tryz.ntmps106
      go_wp2
      go_ret
      refine ⟨ret_bool ?_, by go_grown⟩
      rw [HN.out]; simp [ho]
end
end Go.Proofs.YtbhnjaajkolklaaGreat
