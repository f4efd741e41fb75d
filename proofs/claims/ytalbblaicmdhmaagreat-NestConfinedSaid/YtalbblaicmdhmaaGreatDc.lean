/- Whether an entry may be, and the reference's answer: contracts. -/
import Derived.Test.YtalbblaicmdhmaaGreatDb
import Derived.Test.YtalbblaicmdhmaaGreatTk
set_option linter.all false
namespace Go.Proofs.YtalbblaicmdhmaaGreat
open Go.ChangeShapes Go.WideShapes Go.ChangeAt Go.RowKit Go.Deep

theorem emayBe_any (st lv : Int) (k f : Int) (r wr x a n : Bool) (s o : Int) (w : World) :
    Calls Tryz.prog 96 #[.agg #[.int .i64 st, .int .i64 lv, .int .i64 k, .int .i64 f, .bool r, .bool wr, .bool x, .bool a, .bool n, .int .i64 s, .int .i64 o]] w fun e w' => e = .returned (.bool (mayE st lv (Dsc.mk k f r wr x a n s o))) ∧ Below w.heap.size w w' := by
  have hm : mayE st lv (Dsc.mk k f r wr x a n s o) = (placeB st lv && mayD st lv (Dsc.mk k f r wr x a n s o)) := rfl
  have HM := Lib.hid hm
  have HS := Lib.hid (fun W => spot_mayBe st lv W)
  clear hm
  cases hp : placeB st lv
  · rw [hp] at HS HM
    clear hp
    go_enter Tryz.func96, Tryz.ntmps96
    go_wp2_with (go_at_call 94; refine (HS.out _).mono ?_; rintro e w' ⟨rfl, rfl⟩)
    go_ret
    rw [HM.out]
    exact ⟨rfl, by go_grown⟩
  · obtain ⟨_, hl0, hl3⟩ := placeB_iff.1 hp
    rw [hp, Bool.true_and] at HM
    rw [hp] at HS
    clear hp
    by_cases k0 : k = 0
    · subst k0
      have HN := Lib.hid (fun W => none_any st lv 0 f r wr x a n s o W rfl)
      have he : mayD st lv (Dsc.mk 0 f r wr x a n s o) = noneD st (Dsc.mk 0 f r wr x a n s o) := rfl
      rw [he] at HM
      clear he
      go_enter Tryz.func96, Tryz.ntmps96
      go_wp2_with (first | (go_at_call 94; refine (HS.out _).mono ?_; rintro e w' ⟨rfl, rfl⟩) | (go_at_call 106; refine (HN.out _).mono ?_; rintro e w' ⟨rfl, hb1⟩))
      go_ret
      rw [HM.out]
      exact ⟨rfl, bel_trans (by go_grown) hb1⟩
    · have t0 : (k == 0) = false := by simpa using k0
      by_cases k1 : k = 1
      · subst k1
        have HN := Lib.hid (fun W => table_any st lv 1 f r wr x a n s o W rfl)
        have he : mayD st lv (Dsc.mk 1 f r wr x a n s o) = tableD lv (Dsc.mk 1 f r wr x a n s o) := rfl
        rw [he] at HM
        clear he
        go_enter Tryz.func96, Tryz.ntmps96
        go_wp2_with (first | (go_at_call 94; refine (HS.out _).mono ?_; rintro e w' ⟨rfl, rfl⟩) | (go_at_call 107; refine (HN.out _).mono ?_; rintro e w' ⟨rfl, hb1⟩))
        go_ret
        rw [HM.out]
        exact ⟨rfl, bel_trans (by go_grown) hb1⟩
      · have t1 : (k == 1) = false := by simpa using k1
        by_cases k2 : k = 2
        · subst k2
          have HN := Lib.hid (fun W => leaf_any st lv 2 f r wr x a n s o W hl0 hl3)
          have he : mayD st lv (Dsc.mk 2 f r wr x a n s o) = leafD st lv (Dsc.mk 2 f r wr x a n s o) := rfl
          rw [he] at HM
          clear he
          go_enter Tryz.func96, Tryz.ntmps96
          go_wp2_with (first | (go_at_call 94; refine (HS.out _).mono ?_; rintro e w' ⟨rfl, rfl⟩) | (go_at_call 108; refine (HN.out _).mono ?_; rintro e w' ⟨rfl, hb1⟩))
          go_ret
          rw [HM.out]
          exact ⟨rfl, bel_trans (by go_grown) hb1⟩
        · have t2 : (k == 2) = false := by simpa using k2
          have he : mayD st lv (Dsc.mk k f r wr x a n s o) = false := by simp [mayD, k0, k1, k2]
          rw [he] at HM
          clear he k0 k1 k2
          go_enter Tryz.func96, Tryz.ntmps96
          go_wp2_with (go_at_call 94; refine (HS.out _).mono ?_; rintro e w' ⟨rfl, rfl⟩)
          go_ret
          rw [HM.out]
          exact ⟨rfl, by go_grown⟩

theorem rnone_any (st lv : Int) (k f : Int) (r wr x a n : Bool) (s o : Int) (w : World) (hk : k = 0) :
    Calls Tryz.prog 55 #[.int .i64 st, .int .i64 lv, .agg #[.int .i64 k, .int .i64 f, .bool r, .bool wr, .bool x, .bool a, .bool n, .int .i64 s, .int .i64 o]] w fun e w' => e = .returned (.bool (noneD st (Dsc.mk k f r wr x a n s o))) ∧ Below w.heap.size w w' := by
  subst hk
  have HS := Lib.hid (fun W => num_any o 15 W)
  cases he : eqD (Dsc.mk 0 f r wr x a n s o) ⟨0, 0, false, false, false, false, false, 0, o⟩
  · have hn : noneD st (Dsc.mk 0 f r wr x a n s o) = false := by unfold noneD; simp only; rw [he]; rfl
    have HN := Lib.hid hn
    clear hn
    go_enter Tryz.func55, Tryz.ntmps55
    go_wp2
    go_ret
    rw [HN.out]
    exact ⟨rfl, by go_grown⟩
  · have hn : noneD st (Dsc.mk 0 f r wr x a n s o) = (decide (o = 0) || (decide (st = 2) && numB o 15)) := by unfold noneD; simp only; rw [he]; rfl
    have HN := Lib.hid hn
    clear hn
    cases ho : numB o 15
    · have h0 : o ≠ 0 := by rw [numB_no] at ho; omega
      rw [ho] at HS HN
      have H0 := Lib.hid h0
      clear ho h0
      go_enter Tryz.func55, Tryz.ntmps55
      go_wp2_with (go_at_call 16; refine (HS.out _).mono ?_; rintro e w' ⟨rfl, rfl⟩)
      go_ret
      refine ⟨ret_bool ?_, by go_grown⟩
      rw [HN.out]; simp [H0.out]
    · rw [ho] at HS HN
      clear ho
      by_cases h2 : st = 2
      · subst h2
        go_enter Tryz.func55, Tryz.ntmps55
        go_wp2_with (go_at_call 16; refine (HS.out _).mono ?_; rintro e w' ⟨rfl, rfl⟩)
        go_ret
        refine ⟨ret_bool ?_, by go_grown⟩
        rw [HN.out]; simp
      · have t2 : (st == 2) = false := by simpa using h2
        have H2 := Lib.hid h2
        clear h2
        go_enter Tryz.func55, Tryz.ntmps55
        go_wp2_with (go_at_call 16; refine (HS.out _).mono ?_; rintro e w' ⟨rfl, rfl⟩)
        go_ret
        refine ⟨ret_bool ?_, by go_grown⟩
        rw [HN.out, Bool.eq_iff_iff]; simp [H2.out]

theorem rtable_any (st lv : Int) (k f : Int) (r wr x a n : Bool) (s o : Int) (w : World) (hk : k = 1) (hl3 : lv ≤ 3) :
    Calls Tryz.prog 55 #[.int .i64 st, .int .i64 lv, .agg #[.int .i64 k, .int .i64 f, .bool r, .bool wr, .bool x, .bool a, .bool n, .int .i64 s, .int .i64 o]] w fun e w' => e = .returned (.bool (tableD lv (Dsc.mk k f r wr x a n s o))) ∧ Below w.heap.size w w' := by
  subst hk
  have HN := Lib.hid (show tableD lv (Dsc.mk 1 f r wr x a n s o) = (eqD (Dsc.mk 1 f r wr x a n s o) ⟨1, f, false, false, false, false, false, 0, 0⟩ && (decide (lv ≠ 3) && numB f 4095)) from rfl)
  by_cases h3 : lv = 3
  · subst h3
    go_enter Tryz.func55, Tryz.ntmps55
    go_wp2
    go_ret
    refine ⟨ret_bool ?_, by go_grown⟩
    rw [HN.out]; simp
  · have h3' : lv < 3 := by omega
    have H3 := Lib.hid h3
    clear h3
    cases he : eqD (Dsc.mk 1 f r wr x a n s o) ⟨1, f, false, false, false, false, false, 0, 0⟩
    · rw [he] at HN
      go_enter Tryz.func55, Tryz.ntmps55
      go_wp2
      go_ret
      refine ⟨ret_bool ?_, by go_grown⟩
      rw [HN.out]; rfl
    · rw [he] at HN
      go_enter Tryz.func55, Tryz.ntmps55
      go_wp2_with (go_at_call 6; refine (page_any _ _).mono ?_; rintro e w' ⟨rfl, rfl⟩)
      go_ret
      refine ⟨ret_bool ?_, by go_grown⟩
      rw [HN.out]; simp [H3.out]

set_option maxRecDepth 100000 in
set_option maxHeartbeats 3200000 in
theorem rleaf_any (st lv : Int) (k f : Int) (r wr x a n : Bool) (s o : Int) (w : World) (hk : k = 2) (hst : st = 1 ∨ st = 2) (hl0 : 0 ≤ lv) (hl3 : lv ≤ 3) :
    Calls Tryz.prog 55 #[.int .i64 st, .int .i64 lv, .agg #[.int .i64 k, .int .i64 f, .bool r, .bool wr, .bool x, .bool a, .bool n, .int .i64 s, .int .i64 o]] w fun e w' => e = .returned (.bool (leafD st lv (Dsc.mk k f r wr x a n s o))) ∧ Below w.heap.size w w' := by
  subst hk
  have HN := Lib.hid (show leafD st lv (Dsc.mk 2 f r wr x a n s o) = (decide (lv ≠ 0) && (decide (o = 0) && (numB f 4095 && (decide (f.tmod (cov lv) = 0) && attrD st (Dsc.mk 2 f r wr x a n s o))))) from rfl)
  have HC := Lib.hid (fun W => rcovers_any lv W hl0 hl3)
  have HP := Lib.hid (fun W => page_any f W)
  have HS := Lib.hid (fun W => num_any s 15 W)
  have hc := cov_pos lv
  have c0 : cov lv ≠ 0 := by omega
  generalize cov lv = c at *
  by_cases h0 : lv = 0
  · subst h0
    go_enter Tryz.func55, Tryz.ntmps55
    go_wp2_with fail
    go_quiet (fail)
    go_wp2
    go_ret
    refine ⟨ret_bool ?_, below_drewN (bel_alloc (bel_alloc (Below.refl _ _) _) _) _⟩
    rw [HN.out]; rfl
  · have h0' : 0 < lv := by omega
    have H0 := Lib.hid h0
    clear h0
    cases hf : numB f 4095
    · rw [hf] at HP HN
      have HP' := Lib.hid (fun W => same (HP.out W))
      clear HP hf
      go_enter Tryz.func55, Tryz.ntmps55
      go_wp2_with fail
      go_quiet ((go_at_call 6; exact Calls.quiet_of_same (HP'.out _)))
      go_wp2
      go_ret
      refine ⟨ret_bool ?_, below_drewN (bel_alloc (bel_alloc (Below.refl _ _) _) _) _⟩
      rw [HN.out]; simp
    · rw [hf] at HP HN
      clear hf
      by_cases ht : f.tmod c = 0
      · have t1 : (f.tmod c == 0) = true := by simpa using ht
        have HT := Lib.hid ht
        clear ht
        by_cases ho : o = 0
        · subst ho
          by_cases h1 : st = 1
          · subst h1
            have HA := Lib.hid (show attrD 1 (Dsc.mk 2 f r wr x a n s 0) = (r && decide (s = 0)) from rfl)
            cases r
            · go_enter Tryz.func55, Tryz.ntmps55
              go_wp2_with fail
              refine wp_region_held_drew (S := (fun w' => w'.cell? ⟨w.heap.size, 1, none⟩ = some (.int .i64 f) ∧ w'.cell? ⟨w.heap.size, 8, none⟩ = some (.int .i64 0) ∧ w'.cell? ⟨w.heap.size + 1, 0, none⟩ = some (.bool false) ∧ w'.cell? ⟨w.heap.size + 1, 4, none⟩ = some (.bool n) ∧ w'.cell? ⟨w.heap.size + 1, 5, none⟩ = some (.int .i64 s))) (by kernel_rfl) (by go_simp) (fun hS => ?_)
              refine tkP 0 51 rfl hS ?_; simp only [pA, pB, pC]
              refine tkP 1 52 rfl hS ?_; simp only [pA, pB, pC]
              refine tkP 2 53 rfl hS ?_; simp only [pA, pB, pC]
              refine tkP 3 54 rfl hS ?_; simp only [pA, pB, pC]
              refine tkP 4 55 rfl hS ?_; simp only [pA, pB, pC]
              refine wpAnyH_ready (rs := [5]) (by kernel_rfl) (by simp) ?_
              refine AllReadyH.cons (o := ⟨some 56, _, _, _, _, _⟩) rfl (fun K hK => ?_) AllReadyH.nil
              go_simp
              refine (HP.out _).mono ?_
              rintro e w' ⟨rfl, rfl⟩
              refine hK.out _ _ ?_ (fun hS' => ?_)
              · (obtain ⟨s1, s2, s3, s4, s5⟩ := hS; exact ⟨s1, s2, s3, s4, s5⟩)
              clear hK K hS
              have hS := hS'
              clear hS'
              try simp only [Act.put, List.setIfInBounds_toArray, List.set_cons_zero, List.set_cons_succ]
              refine tkP 6 57 rfl hS ?_; simp only [pA, pB, pC]
              refine tkP 7 58 rfl hS ?_; simp only [pA, pB, pC]
              refine tkP 8 59 rfl hS ?_; simp only [pA, pB, pC]
              refine tkP 9 60 rfl hS ?_; simp only [pA, pB, pC]
              refine tkP 10 61 rfl hS ?_; simp only [pA, pB, pC]
              refine wpAnyH_ready (rs := [11]) (by kernel_rfl) (by simp) ?_
              refine AllReadyH.cons (o := ⟨some 62, _, _, _, _, _⟩) rfl (fun K hK => ?_) AllReadyH.nil
              go_simp
              refine (HC.out _).mono ?_
              rintro e w1 ⟨rfl, hb1⟩
              refine hK.out _ _ ?_ (fun hS' => ?_)
              · (obtain ⟨s1, s2, s3, s4, s5⟩ := hS; exact ⟨(bcell hb1 _ _ (by simp <;> omega)).trans s1, (bcell hb1 _ _ (by simp <;> omega)).trans s2, (bcell hb1 _ _ (by simp <;> omega)).trans s3, (bcell hb1 _ _ (by simp <;> omega)).trans s4, (bcell hb1 _ _ (by simp <;> omega)).trans s5⟩)
              clear hK K hS
              have hS := hS'
              clear hS'
              try simp only [Act.put, List.setIfInBounds_toArray, List.set_cons_zero, List.set_cons_succ]
              refine tkP 12 63 rfl hS ?_; simp only [pA, pB, pC]
              refine tkP 13 64 rfl hS ?_; simp only [pA, pB, pC]
              refine tkP 14 65 rfl hS ?_; simp only [pA, pB, pC]
              refine tkP 15 66 rfl hS ?_; simp only [pA, pB, pC]
              refine tkP 16 67 rfl hS ?_; simp only [pA, pB, pC]
              refine tkP 17 68 rfl hS ?_; simp only [pA, pB, pC]
              refine tkP 18 69 rfl hS ?_; simp only [pA, pB, pC]
              refine tkP 19 70 rfl hS ?_; simp only [pA, pB, pC]
              refine tkP 20 71 rfl hS ?_; simp only [pA, pB, pC]
              refine tkP 21 72 rfl hS ?_; simp only [pA, pB, pC]
              refine tkP 22 73 rfl hS ?_; simp only [pA, pB, pC]
              refine tkP 23 74 rfl hS ?_; simp only [pA, pB, pC]
              refine tkU 24 75 rfl hS ?_
              simp only [pA, pB, pC]
              refine tkU 25 76 rfl hS ?_
              simp only [pA, pB, pC]
              refine tkU 26 77 rfl hS ?_
              simp only [pA, pB, pC]
              refine tkP 27 78 rfl hS ?_; simp only [pA, pB, pC]
              refine tkP 28 79 rfl hS ?_; simp only [pA, pB, pC]
              refine tkU 29 80 rfl hS ?_
              simp only [pA, pB, pC]
              refine tkU 30 81 rfl hS ?_
              simp only [pA, pB, pC]
              refine tkU 31 82 rfl hS ?_
              simp only [pA, pB, pC]
              refine tkP 32 83 rfl hS ?_; simp only [pA, pB, pC]
              refine tkP 33 84 rfl hS ?_; simp only [pA, pB, pC]
              refine tkP 34 85 rfl hS ?_; simp only [pA, pB, pC]
              refine tkP 35 86 rfl hS ?_; simp only [pA, pB, pC]
              refine tkP 36 87 rfl hS ?_; simp only [pA, pB, pC]
              refine tkP 37 88 rfl hS ?_; simp only [pA, pB, pC]
              refine tkP 38 89 rfl hS ?_; simp only [pA, pB, pC]
              refine tkP 39 90 rfl hS ?_; simp only [pA, pB, pC]
              refine tkP 40 91 rfl hS ?_; simp only [pA, pB, pC]
              refine tkU 41 92 rfl hS ?_
              simp only [pA, pB, pC]
              refine tkU 42 93 rfl hS ?_
              simp only [pA, pB, pC]
              refine tkU 43 94 rfl hS ?_
              simp only [pA, pB, pC]
              refine tkP 44 95 rfl hS ?_; simp only [pA, pB, pC]
              refine tkP 45 96 rfl hS ?_; simp only [pA, pB, pC]
              refine tkP 46 97 rfl hS ?_; simp only [pA, pB, pC]
              refine tkP 47 6 rfl hS ?_; simp only [pA, pB, pC]
              refine wpAnyH_done (by kernel_rfl) ?_ _
              go_wp2
              go_ret
              refine ⟨ret_bool ?_, bel_trans (Below.drew (bel_alloc (bel_alloc (Below.refl _ _) _) _)) hb1⟩
              rw [HN.out, HA.out]; simp
            · go_enter Tryz.func55, Tryz.ntmps55
              go_wp2_with fail
              refine wp_region_held_drew (S := (fun w' => w'.cell? ⟨w.heap.size, 1, none⟩ = some (.int .i64 f) ∧ w'.cell? ⟨w.heap.size, 8, none⟩ = some (.int .i64 0) ∧ w'.cell? ⟨w.heap.size + 1, 0, none⟩ = some (.bool true) ∧ w'.cell? ⟨w.heap.size + 1, 4, none⟩ = some (.bool n) ∧ w'.cell? ⟨w.heap.size + 1, 5, none⟩ = some (.int .i64 s))) (by kernel_rfl) (by go_simp) (fun hS => ?_)
              refine tkP 0 51 rfl hS ?_; simp only [pA, pB, pC]
              refine tkP 1 52 rfl hS ?_; simp only [pA, pB, pC]
              refine tkP 2 53 rfl hS ?_; simp only [pA, pB, pC]
              refine tkP 3 54 rfl hS ?_; simp only [pA, pB, pC]
              refine tkP 4 55 rfl hS ?_; simp only [pA, pB, pC]
              refine wpAnyH_ready (rs := [5]) (by kernel_rfl) (by simp) ?_
              refine AllReadyH.cons (o := ⟨some 56, _, _, _, _, _⟩) rfl (fun K hK => ?_) AllReadyH.nil
              go_simp
              refine (HP.out _).mono ?_
              rintro e w' ⟨rfl, rfl⟩
              refine hK.out _ _ ?_ (fun hS' => ?_)
              · (obtain ⟨s1, s2, s3, s4, s5⟩ := hS; exact ⟨s1, s2, s3, s4, s5⟩)
              clear hK K hS
              have hS := hS'
              clear hS'
              try simp only [Act.put, List.setIfInBounds_toArray, List.set_cons_zero, List.set_cons_succ]
              refine tkP 6 57 rfl hS ?_; simp only [pA, pB, pC]
              refine tkP 7 58 rfl hS ?_; simp only [pA, pB, pC]
              refine tkP 8 59 rfl hS ?_; simp only [pA, pB, pC]
              refine tkP 9 60 rfl hS ?_; simp only [pA, pB, pC]
              refine tkP 10 61 rfl hS ?_; simp only [pA, pB, pC]
              refine wpAnyH_ready (rs := [11]) (by kernel_rfl) (by simp) ?_
              refine AllReadyH.cons (o := ⟨some 62, _, _, _, _, _⟩) rfl (fun K hK => ?_) AllReadyH.nil
              go_simp
              refine (HC.out _).mono ?_
              rintro e w1 ⟨rfl, hb1⟩
              refine hK.out _ _ ?_ (fun hS' => ?_)
              · (obtain ⟨s1, s2, s3, s4, s5⟩ := hS; exact ⟨(bcell hb1 _ _ (by simp <;> omega)).trans s1, (bcell hb1 _ _ (by simp <;> omega)).trans s2, (bcell hb1 _ _ (by simp <;> omega)).trans s3, (bcell hb1 _ _ (by simp <;> omega)).trans s4, (bcell hb1 _ _ (by simp <;> omega)).trans s5⟩)
              clear hK K hS
              have hS := hS'
              clear hS'
              try simp only [Act.put, List.setIfInBounds_toArray, List.set_cons_zero, List.set_cons_succ]
              refine tkP 12 63 rfl hS ?_; simp only [pA, pB, pC]
              refine tkP 13 64 rfl hS ?_; simp only [pA, pB, pC]
              refine tkP 14 65 rfl hS ?_; simp only [pA, pB, pC]
              refine tkP 15 66 rfl hS ?_; simp only [pA, pB, pC]
              refine tkP 16 67 rfl hS ?_; simp only [pA, pB, pC]
              refine tkP 17 68 rfl hS ?_; simp only [pA, pB, pC]
              refine tkP 18 69 rfl hS ?_; simp only [pA, pB, pC]
              refine tkP 19 70 rfl hS ?_; simp only [pA, pB, pC]
              refine tkP 20 71 rfl hS ?_; simp only [pA, pB, pC]
              refine tkP 21 72 rfl hS ?_; simp only [pA, pB, pC]
              refine tkP 22 73 rfl hS ?_; simp only [pA, pB, pC]
              refine tkP 23 74 rfl hS ?_; simp only [pA, pB, pC]
              refine tkU 24 75 rfl hS ?_
              simp only [pA, pB, pC]
              refine tkU 25 76 rfl hS ?_
              simp only [pA, pB, pC]
              refine tkU 26 77 rfl hS ?_
              simp only [pA, pB, pC]
              refine tkP 27 78 rfl hS ?_; simp only [pA, pB, pC]
              refine tkP 28 79 rfl hS ?_; simp only [pA, pB, pC]
              refine tkU 29 80 rfl hS ?_
              simp only [pA, pB, pC]
              refine tkU 30 81 rfl hS ?_
              simp only [pA, pB, pC]
              refine tkU 31 82 rfl hS ?_
              simp only [pA, pB, pC]
              refine tkP 32 83 rfl hS ?_; simp only [pA, pB, pC]
              refine tkP 33 84 rfl hS ?_; simp only [pA, pB, pC]
              refine tkP 34 85 rfl hS ?_; simp only [pA, pB, pC]
              refine tkP 35 86 rfl hS ?_; simp only [pA, pB, pC]
              refine tkP 36 87 rfl hS ?_; simp only [pA, pB, pC]
              refine tkP 37 88 rfl hS ?_; simp only [pA, pB, pC]
              refine tkP 38 89 rfl hS ?_; simp only [pA, pB, pC]
              refine tkP 39 90 rfl hS ?_; simp only [pA, pB, pC]
              refine tkP 40 91 rfl hS ?_; simp only [pA, pB, pC]
              refine tkP 41 92 rfl hS ?_; simp only [pA, pB, pC]
              refine tkP 42 93 rfl hS ?_; simp only [pA, pB, pC]
              refine tkP 43 94 rfl hS ?_; simp only [pA, pB, pC]
              refine tkP 44 95 rfl hS ?_; simp only [pA, pB, pC]
              refine tkP 45 96 rfl hS ?_; simp only [pA, pB, pC]
              refine tkP 46 97 rfl hS ?_; simp only [pA, pB, pC]
              refine tkP 47 6 rfl hS ?_; simp only [pA, pB, pC]
              refine wpAnyH_done (by kernel_rfl) ?_ _
              go_wp2
              go_ret
              refine ⟨ret_bool ?_, bel_trans (Below.drew (bel_alloc (bel_alloc (Below.refl _ _) _) _)) hb1⟩
              rw [HN.out, HA.out, Bool.eq_iff_iff]; simp [H0.out, HT.out]
          · obtain rfl : st = 2 := by omega
            clear h1
            have HA := Lib.hid (show attrD 2 (Dsc.mk 2 f r wr x a n s 0) = (!n && numB s 15) from rfl)
            cases n
            · cases hs : numB s 15
              · rw [hs] at HS HA
                clear hs
                go_enter Tryz.func55, Tryz.ntmps55
                go_wp2_with fail
                refine wp_region_held_drew (S := (fun w' => w'.cell? ⟨w.heap.size, 1, none⟩ = some (.int .i64 f) ∧ w'.cell? ⟨w.heap.size, 8, none⟩ = some (.int .i64 0) ∧ w'.cell? ⟨w.heap.size + 1, 0, none⟩ = some (.bool r) ∧ w'.cell? ⟨w.heap.size + 1, 4, none⟩ = some (.bool false) ∧ w'.cell? ⟨w.heap.size + 1, 5, none⟩ = some (.int .i64 s))) (by kernel_rfl) (by go_simp) (fun hS => ?_)
                refine tkP 0 51 rfl hS ?_; simp only [pA, pB, pC]
                refine tkP 1 52 rfl hS ?_; simp only [pA, pB, pC]
                refine tkP 2 53 rfl hS ?_; simp only [pA, pB, pC]
                refine tkP 3 54 rfl hS ?_; simp only [pA, pB, pC]
                refine tkP 4 55 rfl hS ?_; simp only [pA, pB, pC]
                refine wpAnyH_ready (rs := [5]) (by kernel_rfl) (by simp) ?_
                refine AllReadyH.cons (o := ⟨some 56, _, _, _, _, _⟩) rfl (fun K hK => ?_) AllReadyH.nil
                go_simp
                refine (HP.out _).mono ?_
                rintro e w' ⟨rfl, rfl⟩
                refine hK.out _ _ ?_ (fun hS' => ?_)
                · (obtain ⟨s1, s2, s3, s4, s5⟩ := hS; exact ⟨s1, s2, s3, s4, s5⟩)
                clear hK K hS
                have hS := hS'
                clear hS'
                try simp only [Act.put, List.setIfInBounds_toArray, List.set_cons_zero, List.set_cons_succ]
                refine tkP 6 57 rfl hS ?_; simp only [pA, pB, pC]
                refine tkP 7 58 rfl hS ?_; simp only [pA, pB, pC]
                refine tkP 8 59 rfl hS ?_; simp only [pA, pB, pC]
                refine tkP 9 60 rfl hS ?_; simp only [pA, pB, pC]
                refine tkP 10 61 rfl hS ?_; simp only [pA, pB, pC]
                refine wpAnyH_ready (rs := [11]) (by kernel_rfl) (by simp) ?_
                refine AllReadyH.cons (o := ⟨some 62, _, _, _, _, _⟩) rfl (fun K hK => ?_) AllReadyH.nil
                go_simp
                refine (HC.out _).mono ?_
                rintro e w1 ⟨rfl, hb1⟩
                refine hK.out _ _ ?_ (fun hS' => ?_)
                · (obtain ⟨s1, s2, s3, s4, s5⟩ := hS; exact ⟨(bcell hb1 _ _ (by simp <;> omega)).trans s1, (bcell hb1 _ _ (by simp <;> omega)).trans s2, (bcell hb1 _ _ (by simp <;> omega)).trans s3, (bcell hb1 _ _ (by simp <;> omega)).trans s4, (bcell hb1 _ _ (by simp <;> omega)).trans s5⟩)
                clear hK K hS
                have hS := hS'
                clear hS'
                try simp only [Act.put, List.setIfInBounds_toArray, List.set_cons_zero, List.set_cons_succ]
                refine tkP 12 63 rfl hS ?_; simp only [pA, pB, pC]
                refine tkP 13 64 rfl hS ?_; simp only [pA, pB, pC]
                refine tkP 14 65 rfl hS ?_; simp only [pA, pB, pC]
                refine tkP 15 66 rfl hS ?_; simp only [pA, pB, pC]
                refine tkP 16 67 rfl hS ?_; simp only [pA, pB, pC]
                refine tkP 17 68 rfl hS ?_; simp only [pA, pB, pC]
                refine tkP 18 69 rfl hS ?_; simp only [pA, pB, pC]
                refine tkP 19 70 rfl hS ?_; simp only [pA, pB, pC]
                refine tkP 20 71 rfl hS ?_; simp only [pA, pB, pC]
                refine tkP 21 72 rfl hS ?_; simp only [pA, pB, pC]
                refine tkP 22 73 rfl hS ?_; simp only [pA, pB, pC]
                refine tkP 23 74 rfl hS ?_; simp only [pA, pB, pC]
                refine tkP 24 75 rfl hS ?_; simp only [pA, pB, pC]
                refine tkP 25 76 rfl hS ?_; simp only [pA, pB, pC]
                refine tkP 26 77 rfl hS ?_; simp only [pA, pB, pC]
                refine tkP 27 78 rfl hS ?_; simp only [pA, pB, pC]
                refine tkP 28 79 rfl hS ?_; simp only [pA, pB, pC]
                refine tkP 29 80 rfl hS ?_; simp only [pA, pB, pC]
                refine tkP 30 81 rfl hS ?_; simp only [pA, pB, pC]
                refine wpAnyH_ready (rs := [31]) (by kernel_rfl) (by simp) ?_
                refine AllReadyH.cons (o := ⟨some 82, _, _, _, _, _⟩) rfl (fun K hK => ?_) AllReadyH.nil
                go_simp
                refine (HS.out _).mono ?_
                rintro e w' ⟨rfl, rfl⟩
                refine hK.out _ _ ?_ (fun hS' => ?_)
                · (obtain ⟨s1, s2, s3, s4, s5⟩ := hS; exact ⟨s1, s2, s3, s4, s5⟩)
                clear hK K hS
                have hS := hS'
                clear hS'
                try simp only [Act.put, List.setIfInBounds_toArray, List.set_cons_zero, List.set_cons_succ]
                refine tkP 32 83 rfl hS ?_; simp only [pA, pB, pC]
                refine tkP 33 84 rfl hS ?_; simp only [pA, pB, pC]
                refine tkP 34 85 rfl hS ?_; simp only [pA, pB, pC]
                refine tkP 35 86 rfl hS ?_; simp only [pA, pB, pC]
                refine tkP 36 87 rfl hS ?_; simp only [pA, pB, pC]
                refine tkU 37 88 rfl hS ?_
                simp only [pA, pB, pC]
                refine tkU 38 89 rfl hS ?_
                simp only [pA, pB, pC]
                refine tkP 39 90 rfl hS ?_; simp only [pA, pB, pC]
                refine tkP 40 91 rfl hS ?_; simp only [pA, pB, pC]
                refine tkU 41 92 rfl hS ?_
                simp only [pA, pB, pC]
                refine tkU 42 93 rfl hS ?_
                simp only [pA, pB, pC]
                refine tkU 43 94 rfl hS ?_
                simp only [pA, pB, pC]
                refine tkP 44 95 rfl hS ?_; simp only [pA, pB, pC]
                refine tkP 45 96 rfl hS ?_; simp only [pA, pB, pC]
                refine tkP 46 97 rfl hS ?_; simp only [pA, pB, pC]
                refine tkP 47 6 rfl hS ?_; simp only [pA, pB, pC]
                refine wpAnyH_done (by kernel_rfl) ?_ _
                go_wp2
                go_ret
                refine ⟨ret_bool ?_, bel_trans (Below.drew (bel_alloc (bel_alloc (Below.refl _ _) _) _)) hb1⟩
                rw [HN.out, HA.out]; simp
              · rw [hs] at HS HA
                clear hs
                go_enter Tryz.func55, Tryz.ntmps55
                go_wp2_with fail
                refine wp_region_held_drew (S := (fun w' => w'.cell? ⟨w.heap.size, 1, none⟩ = some (.int .i64 f) ∧ w'.cell? ⟨w.heap.size, 8, none⟩ = some (.int .i64 0) ∧ w'.cell? ⟨w.heap.size + 1, 0, none⟩ = some (.bool r) ∧ w'.cell? ⟨w.heap.size + 1, 4, none⟩ = some (.bool false) ∧ w'.cell? ⟨w.heap.size + 1, 5, none⟩ = some (.int .i64 s))) (by kernel_rfl) (by go_simp) (fun hS => ?_)
                refine tkP 0 51 rfl hS ?_; simp only [pA, pB, pC]
                refine tkP 1 52 rfl hS ?_; simp only [pA, pB, pC]
                refine tkP 2 53 rfl hS ?_; simp only [pA, pB, pC]
                refine tkP 3 54 rfl hS ?_; simp only [pA, pB, pC]
                refine tkP 4 55 rfl hS ?_; simp only [pA, pB, pC]
                refine wpAnyH_ready (rs := [5]) (by kernel_rfl) (by simp) ?_
                refine AllReadyH.cons (o := ⟨some 56, _, _, _, _, _⟩) rfl (fun K hK => ?_) AllReadyH.nil
                go_simp
                refine (HP.out _).mono ?_
                rintro e w' ⟨rfl, rfl⟩
                refine hK.out _ _ ?_ (fun hS' => ?_)
                · (obtain ⟨s1, s2, s3, s4, s5⟩ := hS; exact ⟨s1, s2, s3, s4, s5⟩)
                clear hK K hS
                have hS := hS'
                clear hS'
                try simp only [Act.put, List.setIfInBounds_toArray, List.set_cons_zero, List.set_cons_succ]
                refine tkP 6 57 rfl hS ?_; simp only [pA, pB, pC]
                refine tkP 7 58 rfl hS ?_; simp only [pA, pB, pC]
                refine tkP 8 59 rfl hS ?_; simp only [pA, pB, pC]
                refine tkP 9 60 rfl hS ?_; simp only [pA, pB, pC]
                refine tkP 10 61 rfl hS ?_; simp only [pA, pB, pC]
                refine wpAnyH_ready (rs := [11]) (by kernel_rfl) (by simp) ?_
                refine AllReadyH.cons (o := ⟨some 62, _, _, _, _, _⟩) rfl (fun K hK => ?_) AllReadyH.nil
                go_simp
                refine (HC.out _).mono ?_
                rintro e w1 ⟨rfl, hb1⟩
                refine hK.out _ _ ?_ (fun hS' => ?_)
                · (obtain ⟨s1, s2, s3, s4, s5⟩ := hS; exact ⟨(bcell hb1 _ _ (by simp <;> omega)).trans s1, (bcell hb1 _ _ (by simp <;> omega)).trans s2, (bcell hb1 _ _ (by simp <;> omega)).trans s3, (bcell hb1 _ _ (by simp <;> omega)).trans s4, (bcell hb1 _ _ (by simp <;> omega)).trans s5⟩)
                clear hK K hS
                have hS := hS'
                clear hS'
                try simp only [Act.put, List.setIfInBounds_toArray, List.set_cons_zero, List.set_cons_succ]
                refine tkP 12 63 rfl hS ?_; simp only [pA, pB, pC]
                refine tkP 13 64 rfl hS ?_; simp only [pA, pB, pC]
                refine tkP 14 65 rfl hS ?_; simp only [pA, pB, pC]
                refine tkP 15 66 rfl hS ?_; simp only [pA, pB, pC]
                refine tkP 16 67 rfl hS ?_; simp only [pA, pB, pC]
                refine tkP 17 68 rfl hS ?_; simp only [pA, pB, pC]
                refine tkP 18 69 rfl hS ?_; simp only [pA, pB, pC]
                refine tkP 19 70 rfl hS ?_; simp only [pA, pB, pC]
                refine tkP 20 71 rfl hS ?_; simp only [pA, pB, pC]
                refine tkP 21 72 rfl hS ?_; simp only [pA, pB, pC]
                refine tkP 22 73 rfl hS ?_; simp only [pA, pB, pC]
                refine tkP 23 74 rfl hS ?_; simp only [pA, pB, pC]
                refine tkP 24 75 rfl hS ?_; simp only [pA, pB, pC]
                refine tkP 25 76 rfl hS ?_; simp only [pA, pB, pC]
                refine tkP 26 77 rfl hS ?_; simp only [pA, pB, pC]
                refine tkP 27 78 rfl hS ?_; simp only [pA, pB, pC]
                refine tkP 28 79 rfl hS ?_; simp only [pA, pB, pC]
                refine tkP 29 80 rfl hS ?_; simp only [pA, pB, pC]
                refine tkP 30 81 rfl hS ?_; simp only [pA, pB, pC]
                refine wpAnyH_ready (rs := [31]) (by kernel_rfl) (by simp) ?_
                refine AllReadyH.cons (o := ⟨some 82, _, _, _, _, _⟩) rfl (fun K hK => ?_) AllReadyH.nil
                go_simp
                refine (HS.out _).mono ?_
                rintro e w' ⟨rfl, rfl⟩
                refine hK.out _ _ ?_ (fun hS' => ?_)
                · (obtain ⟨s1, s2, s3, s4, s5⟩ := hS; exact ⟨s1, s2, s3, s4, s5⟩)
                clear hK K hS
                have hS := hS'
                clear hS'
                try simp only [Act.put, List.setIfInBounds_toArray, List.set_cons_zero, List.set_cons_succ]
                refine tkP 32 83 rfl hS ?_; simp only [pA, pB, pC]
                refine tkP 33 84 rfl hS ?_; simp only [pA, pB, pC]
                refine tkU 34 85 rfl hS ?_
                simp only [pA, pB, pC]
                refine tkU 35 86 rfl hS ?_
                simp only [pA, pB, pC]
                refine tkU 36 87 rfl hS ?_
                simp only [pA, pB, pC]
                refine tkU 37 88 rfl hS ?_
                simp only [pA, pB, pC]
                refine tkU 38 89 rfl hS ?_
                simp only [pA, pB, pC]
                refine tkU 39 90 rfl hS ?_
                simp only [pA, pB, pC]
                refine tkU 40 91 rfl hS ?_
                simp only [pA, pB, pC]
                refine tkU 41 92 rfl hS ?_
                simp only [pA, pB, pC]
                refine tkU 42 93 rfl hS ?_
                simp only [pA, pB, pC]
                refine tkU 43 94 rfl hS ?_
                simp only [pA, pB, pC]
                refine tkU 44 95 rfl hS ?_
                simp only [pA, pB, pC]
                refine tkP 45 96 rfl hS ?_; simp only [pA, pB, pC]
                refine tkP 46 97 rfl hS ?_; simp only [pA, pB, pC]
                refine tkP 47 6 rfl hS ?_; simp only [pA, pB, pC]
                refine wpAnyH_done (by kernel_rfl) ?_ _
                go_wp2
                go_ret
                refine ⟨ret_bool ?_, bel_trans (Below.drew (bel_alloc (bel_alloc (Below.refl _ _) _) _)) hb1⟩
                rw [HN.out, HA.out]; simp [H0.out, HT.out]
            · go_enter Tryz.func55, Tryz.ntmps55
              go_wp2_with fail
              refine wp_region_held_drew (S := (fun w' => w'.cell? ⟨w.heap.size, 1, none⟩ = some (.int .i64 f) ∧ w'.cell? ⟨w.heap.size, 8, none⟩ = some (.int .i64 0) ∧ w'.cell? ⟨w.heap.size + 1, 0, none⟩ = some (.bool r) ∧ w'.cell? ⟨w.heap.size + 1, 4, none⟩ = some (.bool true) ∧ w'.cell? ⟨w.heap.size + 1, 5, none⟩ = some (.int .i64 s))) (by kernel_rfl) (by go_simp) (fun hS => ?_)
              refine tkP 0 51 rfl hS ?_; simp only [pA, pB, pC]
              refine tkP 1 52 rfl hS ?_; simp only [pA, pB, pC]
              refine tkP 2 53 rfl hS ?_; simp only [pA, pB, pC]
              refine tkP 3 54 rfl hS ?_; simp only [pA, pB, pC]
              refine tkP 4 55 rfl hS ?_; simp only [pA, pB, pC]
              refine wpAnyH_ready (rs := [5]) (by kernel_rfl) (by simp) ?_
              refine AllReadyH.cons (o := ⟨some 56, _, _, _, _, _⟩) rfl (fun K hK => ?_) AllReadyH.nil
              go_simp
              refine (HP.out _).mono ?_
              rintro e w' ⟨rfl, rfl⟩
              refine hK.out _ _ ?_ (fun hS' => ?_)
              · (obtain ⟨s1, s2, s3, s4, s5⟩ := hS; exact ⟨s1, s2, s3, s4, s5⟩)
              clear hK K hS
              have hS := hS'
              clear hS'
              try simp only [Act.put, List.setIfInBounds_toArray, List.set_cons_zero, List.set_cons_succ]
              refine tkP 6 57 rfl hS ?_; simp only [pA, pB, pC]
              refine tkP 7 58 rfl hS ?_; simp only [pA, pB, pC]
              refine tkP 8 59 rfl hS ?_; simp only [pA, pB, pC]
              refine tkP 9 60 rfl hS ?_; simp only [pA, pB, pC]
              refine tkP 10 61 rfl hS ?_; simp only [pA, pB, pC]
              refine wpAnyH_ready (rs := [11]) (by kernel_rfl) (by simp) ?_
              refine AllReadyH.cons (o := ⟨some 62, _, _, _, _, _⟩) rfl (fun K hK => ?_) AllReadyH.nil
              go_simp
              refine (HC.out _).mono ?_
              rintro e w1 ⟨rfl, hb1⟩
              refine hK.out _ _ ?_ (fun hS' => ?_)
              · (obtain ⟨s1, s2, s3, s4, s5⟩ := hS; exact ⟨(bcell hb1 _ _ (by simp <;> omega)).trans s1, (bcell hb1 _ _ (by simp <;> omega)).trans s2, (bcell hb1 _ _ (by simp <;> omega)).trans s3, (bcell hb1 _ _ (by simp <;> omega)).trans s4, (bcell hb1 _ _ (by simp <;> omega)).trans s5⟩)
              clear hK K hS
              have hS := hS'
              clear hS'
              try simp only [Act.put, List.setIfInBounds_toArray, List.set_cons_zero, List.set_cons_succ]
              refine tkP 12 63 rfl hS ?_; simp only [pA, pB, pC]
              refine tkP 13 64 rfl hS ?_; simp only [pA, pB, pC]
              refine tkP 14 65 rfl hS ?_; simp only [pA, pB, pC]
              refine tkP 15 66 rfl hS ?_; simp only [pA, pB, pC]
              refine tkP 16 67 rfl hS ?_; simp only [pA, pB, pC]
              refine tkP 17 68 rfl hS ?_; simp only [pA, pB, pC]
              refine tkP 18 69 rfl hS ?_; simp only [pA, pB, pC]
              refine tkP 19 70 rfl hS ?_; simp only [pA, pB, pC]
              refine tkP 20 71 rfl hS ?_; simp only [pA, pB, pC]
              refine tkP 21 72 rfl hS ?_; simp only [pA, pB, pC]
              refine tkP 22 73 rfl hS ?_; simp only [pA, pB, pC]
              refine tkP 23 74 rfl hS ?_; simp only [pA, pB, pC]
              refine tkP 24 75 rfl hS ?_; simp only [pA, pB, pC]
              refine tkP 25 76 rfl hS ?_; simp only [pA, pB, pC]
              refine tkP 26 77 rfl hS ?_; simp only [pA, pB, pC]
              refine tkP 27 78 rfl hS ?_; simp only [pA, pB, pC]
              refine tkP 28 79 rfl hS ?_; simp only [pA, pB, pC]
              refine tkU 29 80 rfl hS ?_
              simp only [pA, pB, pC]
              refine tkU 30 81 rfl hS ?_
              simp only [pA, pB, pC]
              refine tkU 31 82 rfl hS ?_
              simp only [pA, pB, pC]
              refine tkP 32 83 rfl hS ?_; simp only [pA, pB, pC]
              refine tkP 33 84 rfl hS ?_; simp only [pA, pB, pC]
              refine tkP 34 85 rfl hS ?_; simp only [pA, pB, pC]
              refine tkP 35 86 rfl hS ?_; simp only [pA, pB, pC]
              refine tkP 36 87 rfl hS ?_; simp only [pA, pB, pC]
              refine tkU 37 88 rfl hS ?_
              simp only [pA, pB, pC]
              refine tkU 38 89 rfl hS ?_
              simp only [pA, pB, pC]
              refine tkP 39 90 rfl hS ?_; simp only [pA, pB, pC]
              refine tkP 40 91 rfl hS ?_; simp only [pA, pB, pC]
              refine tkU 41 92 rfl hS ?_
              simp only [pA, pB, pC]
              refine tkU 42 93 rfl hS ?_
              simp only [pA, pB, pC]
              refine tkU 43 94 rfl hS ?_
              simp only [pA, pB, pC]
              refine tkP 44 95 rfl hS ?_; simp only [pA, pB, pC]
              refine tkP 45 96 rfl hS ?_; simp only [pA, pB, pC]
              refine tkP 46 97 rfl hS ?_; simp only [pA, pB, pC]
              refine tkP 47 6 rfl hS ?_; simp only [pA, pB, pC]
              refine wpAnyH_done (by kernel_rfl) ?_ _
              go_wp2
              go_ret
              refine ⟨ret_bool ?_, bel_trans (Below.drew (bel_alloc (bel_alloc (Below.refl _ _) _) _)) hb1⟩
              rw [HN.out, HA.out]; simp
        · have tno : (o == 0) = false := by simpa using ho
          have HO := Lib.hid ho
          clear ho
          go_enter Tryz.func55, Tryz.ntmps55
          go_wp2_with fail
          refine wp_region_held_drew (S := (fun w' => w'.cell? ⟨w.heap.size, 1, none⟩ = some (.int .i64 f) ∧ w'.cell? ⟨w.heap.size, 8, none⟩ = some (.int .i64 o) ∧ w'.cell? ⟨w.heap.size + 1, 0, none⟩ = some (.bool r) ∧ w'.cell? ⟨w.heap.size + 1, 4, none⟩ = some (.bool n) ∧ w'.cell? ⟨w.heap.size + 1, 5, none⟩ = some (.int .i64 s))) (by kernel_rfl) (by go_simp) (fun hS => ?_)
          refine tkP 0 51 rfl hS ?_; simp only [pA, pB, pC]
          refine tkP 1 52 rfl hS ?_; simp only [pA, pB, pC]
          refine tkP 2 53 rfl hS ?_; simp only [pA, pB, pC]
          refine tkP 3 54 rfl hS ?_; simp only [pA, pB, pC]
          refine tkP 4 55 rfl hS ?_; simp only [pA, pB, pC]
          refine wpAnyH_ready (rs := [5]) (by kernel_rfl) (by simp) ?_
          refine AllReadyH.cons (o := ⟨some 56, _, _, _, _, _⟩) rfl (fun K hK => ?_) AllReadyH.nil
          go_simp
          refine (HP.out _).mono ?_
          rintro e w' ⟨rfl, rfl⟩
          refine hK.out _ _ ?_ (fun hS' => ?_)
          · (obtain ⟨s1, s2, s3, s4, s5⟩ := hS; exact ⟨s1, s2, s3, s4, s5⟩)
          clear hK K hS
          have hS := hS'
          clear hS'
          try simp only [Act.put, List.setIfInBounds_toArray, List.set_cons_zero, List.set_cons_succ]
          refine tkP 6 57 rfl hS ?_; simp only [pA, pB, pC]
          refine tkP 7 58 rfl hS ?_; simp only [pA, pB, pC]
          refine tkP 8 59 rfl hS ?_; simp only [pA, pB, pC]
          refine tkP 9 60 rfl hS ?_; simp only [pA, pB, pC]
          refine tkP 10 61 rfl hS ?_; simp only [pA, pB, pC]
          refine wpAnyH_ready (rs := [11]) (by kernel_rfl) (by simp) ?_
          refine AllReadyH.cons (o := ⟨some 62, _, _, _, _, _⟩) rfl (fun K hK => ?_) AllReadyH.nil
          go_simp
          refine (HC.out _).mono ?_
          rintro e w1 ⟨rfl, hb1⟩
          refine hK.out _ _ ?_ (fun hS' => ?_)
          · (obtain ⟨s1, s2, s3, s4, s5⟩ := hS; exact ⟨(bcell hb1 _ _ (by simp <;> omega)).trans s1, (bcell hb1 _ _ (by simp <;> omega)).trans s2, (bcell hb1 _ _ (by simp <;> omega)).trans s3, (bcell hb1 _ _ (by simp <;> omega)).trans s4, (bcell hb1 _ _ (by simp <;> omega)).trans s5⟩)
          clear hK K hS
          have hS := hS'
          clear hS'
          try simp only [Act.put, List.setIfInBounds_toArray, List.set_cons_zero, List.set_cons_succ]
          refine tkP 12 63 rfl hS ?_; simp only [pA, pB, pC]
          refine tkP 13 64 rfl hS ?_; simp only [pA, pB, pC]
          refine tkP 14 65 rfl hS ?_; simp only [pA, pB, pC]
          refine tkP 15 66 rfl hS ?_; simp only [pA, pB, pC]
          refine tkP 16 67 rfl hS ?_; simp only [pA, pB, pC]
          refine tkP 17 68 rfl hS ?_; simp only [pA, pB, pC]
          refine tkP 18 69 rfl hS ?_; simp only [pA, pB, pC]
          refine tkP 19 70 rfl hS ?_; simp only [pA, pB, pC]
          refine tkP 20 71 rfl hS ?_; simp only [pA, pB, pC]
          refine tkU 21 72 rfl hS ?_
          simp only [pA, pB, pC]
          refine tkU 22 73 rfl hS ?_
          simp only [pA, pB, pC]
          refine tkU 23 74 rfl hS ?_
          simp only [pA, pB, pC]
          refine tkU 24 75 rfl hS ?_
          simp only [pA, pB, pC]
          refine tkU 25 76 rfl hS ?_
          simp only [pA, pB, pC]
          refine tkU 26 77 rfl hS ?_
          simp only [pA, pB, pC]
          refine tkU 27 78 rfl hS ?_
          simp only [pA, pB, pC]
          refine tkU 28 79 rfl hS ?_
          simp only [pA, pB, pC]
          refine tkU 29 80 rfl hS ?_
          simp only [pA, pB, pC]
          refine tkU 30 81 rfl hS ?_
          simp only [pA, pB, pC]
          refine tkU 31 82 rfl hS ?_
          simp only [pA, pB, pC]
          refine tkU 32 83 rfl hS ?_
          simp only [pA, pB, pC]
          refine tkU 33 84 rfl hS ?_
          simp only [pA, pB, pC]
          refine tkU 34 85 rfl hS ?_
          simp only [pA, pB, pC]
          refine tkU 35 86 rfl hS ?_
          simp only [pA, pB, pC]
          refine tkU 36 87 rfl hS ?_
          simp only [pA, pB, pC]
          refine tkU 37 88 rfl hS ?_
          simp only [pA, pB, pC]
          refine tkU 38 89 rfl hS ?_
          simp only [pA, pB, pC]
          refine tkU 39 90 rfl hS ?_
          simp only [pA, pB, pC]
          refine tkU 40 91 rfl hS ?_
          simp only [pA, pB, pC]
          refine tkU 41 92 rfl hS ?_
          simp only [pA, pB, pC]
          refine tkU 42 93 rfl hS ?_
          simp only [pA, pB, pC]
          refine tkU 43 94 rfl hS ?_
          simp only [pA, pB, pC]
          refine tkU 44 95 rfl hS ?_
          simp only [pA, pB, pC]
          refine tkU 45 96 rfl hS ?_
          simp only [pA, pB, pC]
          refine tkP 46 97 rfl hS ?_; simp only [pA, pB, pC]
          refine tkP 47 6 rfl hS ?_; simp only [pA, pB, pC]
          refine wpAnyH_done (by kernel_rfl) ?_ _
          go_wp2
          go_ret
          refine ⟨ret_bool ?_, bel_trans (Below.drew (bel_alloc (bel_alloc (Below.refl _ _) _) _)) hb1⟩
          rw [HN.out]; simp [HO.out]
      · have t1 : (f.tmod c == 0) = false := by simpa using ht
        have HT := Lib.hid ht
        clear ht
        go_enter Tryz.func55, Tryz.ntmps55
        go_wp2_with fail
        refine wp_region_held_drew (S := (fun w' => w'.cell? ⟨w.heap.size, 1, none⟩ = some (.int .i64 f) ∧ w'.cell? ⟨w.heap.size, 8, none⟩ = some (.int .i64 o) ∧ w'.cell? ⟨w.heap.size + 1, 0, none⟩ = some (.bool r) ∧ w'.cell? ⟨w.heap.size + 1, 4, none⟩ = some (.bool n) ∧ w'.cell? ⟨w.heap.size + 1, 5, none⟩ = some (.int .i64 s))) (by kernel_rfl) (by go_simp) (fun hS => ?_)
        refine tkP 0 51 rfl hS ?_; simp only [pA, pB, pC]
        refine tkP 1 52 rfl hS ?_; simp only [pA, pB, pC]
        refine tkP 2 53 rfl hS ?_; simp only [pA, pB, pC]
        refine tkP 3 54 rfl hS ?_; simp only [pA, pB, pC]
        refine tkP 4 55 rfl hS ?_; simp only [pA, pB, pC]
        refine wpAnyH_ready (rs := [5]) (by kernel_rfl) (by simp) ?_
        refine AllReadyH.cons (o := ⟨some 56, _, _, _, _, _⟩) rfl (fun K hK => ?_) AllReadyH.nil
        go_simp
        refine (HP.out _).mono ?_
        rintro e w' ⟨rfl, rfl⟩
        refine hK.out _ _ ?_ (fun hS' => ?_)
        · (obtain ⟨s1, s2, s3, s4, s5⟩ := hS; exact ⟨s1, s2, s3, s4, s5⟩)
        clear hK K hS
        have hS := hS'
        clear hS'
        try simp only [Act.put, List.setIfInBounds_toArray, List.set_cons_zero, List.set_cons_succ]
        refine tkP 6 57 rfl hS ?_; simp only [pA, pB, pC]
        refine tkP 7 58 rfl hS ?_; simp only [pA, pB, pC]
        refine tkP 8 59 rfl hS ?_; simp only [pA, pB, pC]
        refine tkP 9 60 rfl hS ?_; simp only [pA, pB, pC]
        refine tkP 10 61 rfl hS ?_; simp only [pA, pB, pC]
        refine wpAnyH_ready (rs := [11]) (by kernel_rfl) (by simp) ?_
        refine AllReadyH.cons (o := ⟨some 62, _, _, _, _, _⟩) rfl (fun K hK => ?_) AllReadyH.nil
        go_simp
        refine (HC.out _).mono ?_
        rintro e w1 ⟨rfl, hb1⟩
        refine hK.out _ _ ?_ (fun hS' => ?_)
        · (obtain ⟨s1, s2, s3, s4, s5⟩ := hS; exact ⟨(bcell hb1 _ _ (by simp <;> omega)).trans s1, (bcell hb1 _ _ (by simp <;> omega)).trans s2, (bcell hb1 _ _ (by simp <;> omega)).trans s3, (bcell hb1 _ _ (by simp <;> omega)).trans s4, (bcell hb1 _ _ (by simp <;> omega)).trans s5⟩)
        clear hK K hS
        have hS := hS'
        clear hS'
        try simp only [Act.put, List.setIfInBounds_toArray, List.set_cons_zero, List.set_cons_succ]
        refine tkP 12 63 rfl hS ?_; simp only [pA, pB, pC]
        refine tkP 13 64 rfl hS ?_; simp only [pA, pB, pC]
        refine tkP 14 65 rfl hS ?_; simp only [pA, pB, pC]
        refine tkP 15 66 rfl hS ?_; simp only [pA, pB, pC]
        refine tkU 16 67 rfl hS ?_
        simp only [pA, pB, pC]
        refine tkU 17 68 rfl hS ?_
        simp only [pA, pB, pC]
        refine tkU 18 69 rfl hS ?_
        simp only [pA, pB, pC]
        refine tkP 19 70 rfl hS ?_; simp only [pA, pB, pC]
        refine tkP 20 71 rfl hS ?_; simp only [pA, pB, pC]
        refine tkU 21 72 rfl hS ?_
        simp only [pA, pB, pC]
        refine tkU 22 73 rfl hS ?_
        simp only [pA, pB, pC]
        refine tkU 23 74 rfl hS ?_
        simp only [pA, pB, pC]
        refine tkU 24 75 rfl hS ?_
        simp only [pA, pB, pC]
        refine tkU 25 76 rfl hS ?_
        simp only [pA, pB, pC]
        refine tkU 26 77 rfl hS ?_
        simp only [pA, pB, pC]
        refine tkU 27 78 rfl hS ?_
        simp only [pA, pB, pC]
        refine tkU 28 79 rfl hS ?_
        simp only [pA, pB, pC]
        refine tkU 29 80 rfl hS ?_
        simp only [pA, pB, pC]
        refine tkU 30 81 rfl hS ?_
        simp only [pA, pB, pC]
        refine tkU 31 82 rfl hS ?_
        simp only [pA, pB, pC]
        refine tkU 32 83 rfl hS ?_
        simp only [pA, pB, pC]
        refine tkU 33 84 rfl hS ?_
        simp only [pA, pB, pC]
        refine tkU 34 85 rfl hS ?_
        simp only [pA, pB, pC]
        refine tkU 35 86 rfl hS ?_
        simp only [pA, pB, pC]
        refine tkU 36 87 rfl hS ?_
        simp only [pA, pB, pC]
        refine tkU 37 88 rfl hS ?_
        simp only [pA, pB, pC]
        refine tkU 38 89 rfl hS ?_
        simp only [pA, pB, pC]
        refine tkU 39 90 rfl hS ?_
        simp only [pA, pB, pC]
        refine tkU 40 91 rfl hS ?_
        simp only [pA, pB, pC]
        refine tkU 41 92 rfl hS ?_
        simp only [pA, pB, pC]
        refine tkU 42 93 rfl hS ?_
        simp only [pA, pB, pC]
        refine tkU 43 94 rfl hS ?_
        simp only [pA, pB, pC]
        refine tkU 44 95 rfl hS ?_
        simp only [pA, pB, pC]
        refine tkU 45 96 rfl hS ?_
        simp only [pA, pB, pC]
        refine tkP 46 97 rfl hS ?_; simp only [pA, pB, pC]
        refine tkP 47 6 rfl hS ?_; simp only [pA, pB, pC]
        refine wpAnyH_done (by kernel_rfl) ?_ _
        go_wp2
        go_ret
        refine ⟨ret_bool ?_, bel_trans (Below.drew (bel_alloc (bel_alloc (Below.refl _ _) _) _)) hb1⟩
        rw [HN.out]; simp [HT.out]

theorem rdesc_any (st lv : Int) (k f : Int) (r wr x a n : Bool) (s o : Int) (w : World) (hp : placeB st lv = true) :
    Calls Tryz.prog 55 #[.int .i64 st, .int .i64 lv, .agg #[.int .i64 k, .int .i64 f, .bool r, .bool wr, .bool x, .bool a, .bool n, .int .i64 s, .int .i64 o]] w fun e w' => e = .returned (.bool (mayD st lv (Dsc.mk k f r wr x a n s o))) ∧ Below w.heap.size w w' := by
  obtain ⟨hst, hl0, hl3⟩ := placeB_iff.1 hp
  by_cases k0 : k = 0
  · have he : mayD st lv (Dsc.mk k f r wr x a n s o) = noneD st (Dsc.mk k f r wr x a n s o) := by simp [mayD, k0]
    rw [he]
    exact rnone_any st lv k f r wr x a n s o w k0
  · by_cases k1 : k = 1
    · have he : mayD st lv (Dsc.mk k f r wr x a n s o) = tableD lv (Dsc.mk k f r wr x a n s o) := by simp [mayD, k1]
      rw [he]
      exact rtable_any st lv k f r wr x a n s o w k1 hl3
    · by_cases k2 : k = 2
      · have he : mayD st lv (Dsc.mk k f r wr x a n s o) = leafD st lv (Dsc.mk k f r wr x a n s o) := by simp [mayD, k2]
        rw [he]
        exact rleaf_any st lv k f r wr x a n s o w k2 hst hl0 hl3
      · have he : mayD st lv (Dsc.mk k f r wr x a n s o) = false := by simp [mayD, k0, k1, k2]
        rw [he]
        have t0 : (k == 0) = false := by simpa using k0
        have t1 : (k == 1) = false := by simpa using k1
        have t2 : (k == 2) = false := by simpa using k2
        clear he k0 k1 k2 hp
        go_enter Tryz.func55, Tryz.ntmps55
        go_wp2
        go_ret
        exact ⟨rfl, by go_grown⟩
end Go.Proofs.YtalbblaicmdhmaaGreat
