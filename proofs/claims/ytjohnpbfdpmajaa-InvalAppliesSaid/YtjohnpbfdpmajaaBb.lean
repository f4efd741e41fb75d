/- The reference's small calls on entries: contracts. -/
import Derived.Test.YtjohnpbfdpmajaaBe
import Derived.Test.YtjohnpbfdpmajaaTk
import Derived.Test.YtjohnpbfdpmajaaDa
import Derived.Test.YtjohnpbfdpmajaaRh
set_option linter.all false
namespace Go.Proofs.Ytjohnpbfdpmajaa
open Go.ChangeShapes Go.WideShapes Go.ChangeAt Go.RowKit Go.Deep

theorem tag9_any (n : Int) (w : World) :
    Calls Try.prog 41 #[.int .i64 n] w fun e w' => e = .returned (.bool (numB n 15)) ∧ w = w' := by
  go_enter Try.func41, Try.ntmps41
  go_wp2_with fail
  refine (num_any _ _ _).mono ?_
  rintro e w1 ⟨rfl, rfl⟩
  go_wp2
  go_ret
  exact ⟨rfl, rfl⟩
theorem cov_tmod (lv p : Int) (h0 : 0 ≤ p) (h1 : p ≤ 4095) : 0 ≤ p % cov lv ∧ p % cov lv ≤ p := by
  unfold cov
  split
  · omega
  · split
    · omega
    · split <;> omega
theorem cut9_any (lv p : Int) (w : World) (h0 : 0 ≤ lv) (h1 : lv ≤ 3) (p0 : 0 ≤ p) (p1 : p ≤ 4095) :
    Calls Try.prog 58 #[.int .i64 lv, .int .i64 p] w fun e w' => e = .returned (.int .i64 (p - p % cov lv)) ∧ Below w.heap.size w w' := by
  obtain ⟨m0, m1⟩ := cov_tmod lv p p0 p1
  have hc := cov_pos lv
  have HC := Lib.hid (fun W => rcovers_any lv W h0 h1)
  clear h0 h1
  generalize cov lv = c at *
  have hz : (c == 0) = false := by simp; omega
  have hz' : ¬ c = 0 := by omega
  have hw1 : IntKind.i64.wrap (p % c) = p % c := IntWalk.i64_in _ (by omega)
  have hw2 : IntKind.i64.wrap (p - p % c) = p - p % c := IntWalk.i64_in _ (by omega)
  go_enter Try.func58, Try.ntmps58
  go_wp2_with fail
  refine (HC.out _).mono ?_
  rintro e w1 ⟨rfl, hb1⟩
  go_wp2
  go_ret
  exact ⟨rfl, hb1⟩
theorem above9_any (lv p : Int) (w : World) (h0 : 1 ≤ lv) (h1 : lv ≤ 3) (p0 : 0 ≤ p) (p1 : p ≤ 4095) :
    Calls Try.prog 43 #[.int .i64 lv, .int .i64 p] w fun e w' => e = .returned (.int .i64 (abvP lv p)) ∧ Below w.heap.size w w' := by
  have HC := Lib.hid (fun W => cut9_any (lv - 1) p W (by omega) (by omega) p0 p1)
  unfold abvP
  generalize p - p % cov (lv - 1) = q at *
  have hw1 : IntKind.i64.wrap (lv - 1) = lv - 1 := IntWalk.i64_in _ (by omega)
  go_enter Try.func43, Try.ntmps43
  go_wp2_with fail
  refine (HC.out _).mono ?_
  rintro e w1 ⟨rfl, hb1⟩
  go_wp2
  go_ret
  exact ⟨rfl, hb1⟩
set_option maxRecDepth 100000 in
set_option maxHeartbeats 3200000 in
theorem entry9_any (e : Ety) (w : World) :
    Calls Try.prog 16 #[entV e] w fun r w' => r = .returned (.bool (mayEn e)) ∧ Below w.heap.size w w' := by
  obtain ⟨k, vm, sp, al, pg, lv, fr, mi, ⟨r, wr, x, a, n, s⟩⟩ := e
  unfold entV entC mayEn atr0
  simp only
  have HA := Lib.hid (fun W g1 g2 hb => above9_any lv pg W g1 g2 (numB_iff.1 hb).1 (numB_iff.1 hb).2)
  generalize abvP lv pg = ab at *
  have H0 := Lib.hid (fun W => tag9_any vm W)
  have H1 := Lib.hid (fun W => tag9_any sp W)
  have H2 := Lib.hid (fun W => page_any pg W)
  have H3 := Lib.hid (fun W => page_any fr W)
  have H4 := Lib.hid (fun W => page_any mi W)
  generalize numB vm 15 = b0 at *
  generalize numB sp 15 = b1 at *
  generalize numB pg 4095 = b2 at *
  generalize numB fr 4095 = b3 at *
  generalize numB mi 4095 = b4 at *
  have htw : w.heap.size ≤ w.heap.size := Nat.le_refl _
  have B0 := Lib.hid (Below.refl w.heap.size w)
  go_enter Try.func16, Try.ntmps16
  go_upto_region 1 with fail
  have E1 := Lib.hid ((BoxAt.newAt (w) #[.int .i64 k, .int .i64 vm, .int .i64 sp, .bool al, .int .i64 pg, .int .i64 lv, .int .i64 fr, .int .i64 mi, .bool r, .bool wr, .bool x, .bool a, .bool n, .int .i64 s] 36 (w.heap.size) (by first | omega | (simp; done) | (simp; omega))))
  have B1 := Lib.hid ((bel_alloc B0.out (.cells #[.int .i64 k, .int .i64 vm, .int .i64 sp, .bool al, .int .i64 pg, .int .i64 lv, .int .i64 fr, .int .i64 mi, .bool r, .bool wr, .bool x, .bool a, .bool n, .int .i64 s] 36)))
  obtain ⟨g1, hg1⟩ : ∃ g1, g1 = w.heap.size := ⟨_, rfl⟩
  obtain ⟨W1, hW1⟩ : ∃ W1, W1 = (w).alloc (.cells #[.int .i64 k, .int .i64 vm, .int .i64 sp, .bool al, .int .i64 pg, .int .i64 lv, .int .i64 fr, .int .i64 mi, .bool r, .bool wr, .bool x, .bool a, .bool n, .int .i64 s] 36) := ⟨_, rfl⟩
  have hs1 : g1 + 1 ≤ W1.heap.size := by rw [hW1, hg1]; simp
  rw [← hW1] at E1 B1 ⊢
  have hb1 : w.heap.size ≤ g1 := by omega
  rw [← hg1] at E1 ⊢
  clear hg1
  clear hW1 B0
  have Ec1 := E1.out.get 1 (.int .i64 vm) rfl
  go_wp2_with fail
  refine (H0.out _).mono ?_
  rintro e w2 ⟨rfl, rfl⟩
  cases b0
  · go_wp2
    all_goals
      go_ret
      exact ⟨rfl, B1.out⟩
  have Ec2 := E1.out.get 2 (.int .i64 sp) rfl
  go_wp2_with fail
  refine (H1.out _).mono ?_
  rintro e w3 ⟨rfl, rfl⟩
  cases b1
  · go_wp2
    all_goals
      go_ret
      exact ⟨rfl, B1.out⟩
  have Ec4 := E1.out.get 4 (.int .i64 pg) rfl
  go_wp2_with fail
  refine (H2.out _).mono ?_
  rintro e w4 ⟨rfl, rfl⟩
  cases b2
  · go_wp2
    all_goals
      go_ret
      exact ⟨rfl, B1.out⟩
  have Ec6 := E1.out.get 6 (.int .i64 fr) rfl
  go_wp2_with fail
  refine (H3.out _).mono ?_
  rintro e w5 ⟨rfl, rfl⟩
  cases b3
  · go_wp2
    all_goals
      go_ret
      exact ⟨rfl, B1.out⟩
  have Ec7 := E1.out.get 7 (.int .i64 mi) rfl
  go_wp2_with fail
  refine (H4.out _).mono ?_
  rintro e w6 ⟨rfl, rfl⟩
  cases b4
  · go_wp2
    all_goals
      go_ret
      exact ⟨rfl, B1.out⟩
  have Ec13 := E1.out.get 13 (.int .i64 s) rfl
  cases hb5 : decide (s = 0)
  · have hs6 : (s != 0) = true := by rw [bne, beq_int, hb5]; rfl
    go_wp2
    all_goals
      go_ret
      refine ⟨ret_bool ?_, B1.out⟩
      first | rfl | simp [hb5]
  have hs6 : (s != 0) = false := by rw [bne, beq_int, hb5]; rfl
  have Ec0 := E1.out.get 0 (.int .i64 k) rfl
  by_cases hk1 : k = 1
  · have dk1 : (k == 1) = true := by rw [hk1]; rfl
    have Ec5 := E1.out.get 5 (.int .i64 lv) rfl
    go_wp2
    all_goals
      go_ret
      refine ⟨ret_bool ?_, B1.out⟩
      first | rfl | simp [hb5, hk1]
  have dk1 : (k == 1) = false := by rw [beq_int]; exact decide_eq_false hk1
  by_cases hk2 : k = 2
  · have dk2 : (k == 2) = true := by rw [hk2]; rfl
    cases hsp : decide (sp = 0)
    · have esp : (sp == 0) = false := (beq_int _ _).trans hsp
      go_wp2
      all_goals
        go_ret
        refine ⟨ret_bool ?_, B1.out⟩
        first | rfl | simp [hb5, hk1, hk2, hsp]
    have esp : (sp == 0) = true := (beq_int _ _).trans hsp
    have Ec3 := E1.out.get 3 (.bool al) rfl
    cases al
    · go_wp2
      all_goals
        go_ret
        refine ⟨ret_bool ?_, B1.out⟩
        first | rfl | simp [hb5, hk1, hk2, hsp]
    have Ec5 := E1.out.get 5 (.int .i64 lv) rfl
    cases hlv : decide (lv = 0)
    · have elv : (lv == 0) = false := (beq_int _ _).trans hlv
      go_wp2
      all_goals
        go_ret
        refine ⟨ret_bool ?_, B1.out⟩
        first | rfl | simp [hb5, hk1, hk2, hsp, hlv]
    have elv : (lv == 0) = true := (beq_int _ _).trans hlv
    cases hmi : decide (mi = 0)
    · have emi : (mi == 0) = false := (beq_int _ _).trans hmi
      go_wp2
      all_goals
        go_ret
        refine ⟨ret_bool ?_, B1.out⟩
        first | rfl | simp [hb5, hk1, hk2, hsp, hlv, hmi]
    have emi : (mi == 0) = true := (beq_int _ _).trans hmi
    have Ec12 := E1.out.get 12 (.bool n) rfl
    go_wp2
    all_goals
      go_ret
      refine ⟨ret_bool ?_, B1.out⟩
      first | rfl | simp [hb5, hk1, hk2, hsp, hlv, hmi]
  have dk2 : (k == 2) = false := by rw [beq_int]; exact decide_eq_false hk2
  by_cases hk3 : k = 3
  · have dk3 : (k == 3) = true := by rw [hk3]; rfl
    by_cases gl1 : 1 ≤ lv
    rotate_left
    · have p1 : decide (1 ≤ lv) = false := decide_eq_false gl1
      go_upto_region 9 with fail
      clear Ec1 Ec2 Ec4 Ec6 Ec7 Ec13 Ec0
      refine wp_region_held_drew (S := (fun w' => BoxAt w' (g1) #[.int .i64 k, .int .i64 vm, .int .i64 sp, .bool al, .int .i64 pg, .int .i64 lv, .int .i64 fr, .int .i64 mi, .bool r, .bool wr, .bool x, .bool a, .bool n, .int .i64 s] 36)) (by kernel_rfl) (E1.out.drew) (fun hS => ?_)
      refine tkR 0 71 (v := .pointer (some ⟨g1, 5, none⟩)) rfl hS (fun _ _ => by kernel_rfl) ?_
      refine tkR 1 72 (v := .int .i64 lv) rfl hS (fun _ h => run_ld1 3 (.tmp 71) g1 5 (by kernel_rfl) (by kernel_rfl) Try.underlying3 rfl ((h).get 5 (.int .i64 lv) rfl)) ?_
      try simp only [Act.put, List.setIfInBounds_toArray, List.set_cons_zero, List.set_cons_succ]
      refine tkR 2 73 rfl hS (fun w' _ => by go_simp; try with_reducible rfl) ?_
      simp only [pA, pB, pC]
      refine tkR 3 74 (v := .bool false) rfl hS (fun _ _ => by kernel_rfl) ?_
      refine tkU 4 75 rfl hS ?_
      simp only [pA, pB, pC]
      refine tkU 5 76 rfl hS ?_
      simp only [pA, pB, pC]
      refine tkU 6 77 rfl hS ?_
      simp only [pA, pB, pC]
      try simp only [Act.put, List.setIfInBounds_toArray, List.set_cons_zero, List.set_cons_succ]
      refine tkR 7 78 rfl hS (fun w' _ => by go_simp; try with_reducible rfl) ?_
      simp only [pA, pB, pC]
      refine tkR 8 79 (v := .bool false) rfl hS (fun _ _ => by kernel_rfl) ?_
      refine tkU 9 80 rfl hS ?_
      simp only [pA, pB, pC]
      refine tkU 10 81 rfl hS ?_
      simp only [pA, pB, pC]
      refine tkU 11 82 rfl hS ?_
      simp only [pA, pB, pC]
      refine tkU 12 83 rfl hS ?_
      simp only [pA, pB, pC]
      refine tkU 13 84 rfl hS ?_
      simp only [pA, pB, pC]
      refine tkU 14 85 rfl hS ?_
      simp only [pA, pB, pC]
      refine tkU 15 86 rfl hS ?_
      simp only [pA, pB, pC]
      refine tkU 16 87 rfl hS ?_
      simp only [pA, pB, pC]
      try simp only [Act.put, List.setIfInBounds_toArray, List.set_cons_zero, List.set_cons_succ]
      refine tkR 17 88 rfl hS (fun w' _ => by go_simp; try with_reducible rfl) ?_
      simp only [pA, pB, pC]
      refine tkR 18 89 (v := .bool false) rfl hS (fun _ _ => by kernel_rfl) ?_
      refine tkU 19 90 rfl hS ?_
      simp only [pA, pB, pC]
      refine tkU 20 91 rfl hS ?_
      simp only [pA, pB, pC]
      refine tkU 21 92 rfl hS ?_
      simp only [pA, pB, pC]
      try simp only [Act.put, List.setIfInBounds_toArray, List.set_cons_zero, List.set_cons_succ]
      refine tkR 22 93 rfl hS (fun w' _ => by go_simp; try with_reducible rfl) ?_
      simp only [pA, pB, pC]
      refine tkR 23 94 (v := .bool false) rfl hS (fun _ _ => by kernel_rfl) ?_
      refine tkU 24 95 rfl hS ?_
      simp only [pA, pB, pC]
      refine tkU 25 96 rfl hS ?_
      simp only [pA, pB, pC]
      refine tkU 26 97 rfl hS ?_
      simp only [pA, pB, pC]
      refine tkU 27 98 rfl hS ?_
      simp only [pA, pB, pC]
      try simp only [Act.put, List.setIfInBounds_toArray, List.set_cons_zero, List.set_cons_succ]
      refine tkR 28 99 rfl hS (fun w' _ => by go_simp; try with_reducible rfl) ?_
      simp only [pA, pB, pC]
      refine tkR 29 2 (v := .bool false) rfl hS (fun _ _ => by kernel_rfl) ?_
      refine wpAnyH_done (by kernel_rfl) ?_ _
      try simp only [Act.put, List.setIfInBounds_toArray, List.set_cons_zero, List.set_cons_succ]
      have E7 := Lib.hid ((E1.out.drew))
      have B7 := Lib.hid ((Below.drew B1.out))
      obtain ⟨W7, hW7⟩ : ∃ W7, W7 = (W1).drew := ⟨_, rfl⟩
      have hs7 : g1 + 1 ≤ W7.heap.size := by rw [hW7]; first | exact hs1 | omega | (simp; omega)
      rw [← hW7] at E7 B7 ⊢
      clear hW7 E1 B1 hs1
      go_wp2
      all_goals
        go_ret
        refine ⟨ret_bool ?_, B7.out⟩
        first | rfl | simp [hb5, hk1, hk2, hk3, gl1]
    have p1 : decide (1 ≤ lv) = true := decide_eq_true gl1
    by_cases gl3 : lv ≤ 3
    rotate_left
    · have p2 : decide (lv ≤ 3) = false := decide_eq_false gl3
      go_upto_region 9 with fail
      clear Ec1 Ec2 Ec4 Ec6 Ec7 Ec13 Ec0
      refine wp_region_held_drew (S := (fun w' => BoxAt w' (g1) #[.int .i64 k, .int .i64 vm, .int .i64 sp, .bool al, .int .i64 pg, .int .i64 lv, .int .i64 fr, .int .i64 mi, .bool r, .bool wr, .bool x, .bool a, .bool n, .int .i64 s] 36)) (by kernel_rfl) (E1.out.drew) (fun hS => ?_)
      refine tkR 0 71 (v := .pointer (some ⟨g1, 5, none⟩)) rfl hS (fun _ _ => by kernel_rfl) ?_
      refine tkR 1 72 (v := .int .i64 lv) rfl hS (fun _ h => run_ld1 3 (.tmp 71) g1 5 (by kernel_rfl) (by kernel_rfl) Try.underlying3 rfl ((h).get 5 (.int .i64 lv) rfl)) ?_
      try simp only [Act.put, List.setIfInBounds_toArray, List.set_cons_zero, List.set_cons_succ]
      refine tkR 2 73 rfl hS (fun w' _ => by go_simp; try with_reducible rfl) ?_
      simp only [pA, pB, pC]
      refine tkR 3 74 (v := .bool true) rfl hS (fun _ _ => by kernel_rfl) ?_
      try simp only [Act.put, List.setIfInBounds_toArray, List.set_cons_zero, List.set_cons_succ]
      refine tkR 4 75 rfl hS (fun w' _ => by go_simp; try with_reducible rfl) ?_
      simp only [pA, pB, pC]
      try simp only [Act.put, List.setIfInBounds_toArray, List.set_cons_zero, List.set_cons_succ]
      refine tkR 5 76 rfl hS (fun w' hSw => by have c0_5 := (hSw).get 5 (.int .i64 lv) rfl; clear hSw; go_simp; try with_reducible rfl) ?_
      simp only [pA, pB, pC]
      try simp only [Act.put, List.setIfInBounds_toArray, List.set_cons_zero, List.set_cons_succ]
      refine tkR 6 77 rfl hS (fun w' _ => by go_simp; try with_reducible rfl) ?_
      simp only [pA, pB, pC]
      try simp only [Act.put, List.setIfInBounds_toArray, List.set_cons_zero, List.set_cons_succ]
      refine tkR 7 78 rfl hS (fun w' _ => by go_simp; try with_reducible rfl) ?_
      simp only [pA, pB, pC]
      refine tkR 8 79 (v := .bool false) rfl hS (fun _ _ => by kernel_rfl) ?_
      refine tkU 9 80 rfl hS ?_
      simp only [pA, pB, pC]
      refine tkU 10 81 rfl hS ?_
      simp only [pA, pB, pC]
      refine tkU 11 82 rfl hS ?_
      simp only [pA, pB, pC]
      refine tkU 12 83 rfl hS ?_
      simp only [pA, pB, pC]
      refine tkU 13 84 rfl hS ?_
      simp only [pA, pB, pC]
      refine tkU 14 85 rfl hS ?_
      simp only [pA, pB, pC]
      refine tkU 15 86 rfl hS ?_
      simp only [pA, pB, pC]
      refine tkU 16 87 rfl hS ?_
      simp only [pA, pB, pC]
      try simp only [Act.put, List.setIfInBounds_toArray, List.set_cons_zero, List.set_cons_succ]
      refine tkR 17 88 rfl hS (fun w' _ => by go_simp; try with_reducible rfl) ?_
      simp only [pA, pB, pC]
      refine tkR 18 89 (v := .bool false) rfl hS (fun _ _ => by kernel_rfl) ?_
      refine tkU 19 90 rfl hS ?_
      simp only [pA, pB, pC]
      refine tkU 20 91 rfl hS ?_
      simp only [pA, pB, pC]
      refine tkU 21 92 rfl hS ?_
      simp only [pA, pB, pC]
      try simp only [Act.put, List.setIfInBounds_toArray, List.set_cons_zero, List.set_cons_succ]
      refine tkR 22 93 rfl hS (fun w' _ => by go_simp; try with_reducible rfl) ?_
      simp only [pA, pB, pC]
      refine tkR 23 94 (v := .bool false) rfl hS (fun _ _ => by kernel_rfl) ?_
      refine tkU 24 95 rfl hS ?_
      simp only [pA, pB, pC]
      refine tkU 25 96 rfl hS ?_
      simp only [pA, pB, pC]
      refine tkU 26 97 rfl hS ?_
      simp only [pA, pB, pC]
      refine tkU 27 98 rfl hS ?_
      simp only [pA, pB, pC]
      try simp only [Act.put, List.setIfInBounds_toArray, List.set_cons_zero, List.set_cons_succ]
      refine tkR 28 99 rfl hS (fun w' _ => by go_simp; try with_reducible rfl) ?_
      simp only [pA, pB, pC]
      refine tkR 29 2 (v := .bool false) rfl hS (fun _ _ => by kernel_rfl) ?_
      refine wpAnyH_done (by kernel_rfl) ?_ _
      try simp only [Act.put, List.setIfInBounds_toArray, List.set_cons_zero, List.set_cons_succ]
      have E7 := Lib.hid ((E1.out.drew))
      have B7 := Lib.hid ((Below.drew B1.out))
      obtain ⟨W7, hW7⟩ : ∃ W7, W7 = (W1).drew := ⟨_, rfl⟩
      have hs7 : g1 + 1 ≤ W7.heap.size := by rw [hW7]; first | exact hs1 | omega | (simp; omega)
      rw [← hW7] at E7 B7 ⊢
      clear hW7 E1 B1 hs1
      go_wp2
      all_goals
        go_ret
        refine ⟨ret_bool ?_, B7.out⟩
        first | rfl | simp [hb5, hk1, hk2, hk3, gl1, gl3]
    have p2 : decide (lv ≤ 3) = true := decide_eq_true gl3
    cases hc0 : decide (ab = pg)
    · have e0 : (ab == pg) = false := (beq_int _ _).trans hc0
      go_upto_region 9 with fail
      clear Ec1 Ec2 Ec4 Ec6 Ec7 Ec13 Ec0
      refine wp_region_held_drew (S := (fun w' => BoxAt w' (g1) #[.int .i64 k, .int .i64 vm, .int .i64 sp, .bool al, .int .i64 pg, .int .i64 lv, .int .i64 fr, .int .i64 mi, .bool r, .bool wr, .bool x, .bool a, .bool n, .int .i64 s] 36)) (by kernel_rfl) (E1.out.drew) (fun hS => ?_)
      refine tkR 0 71 (v := .pointer (some ⟨g1, 5, none⟩)) rfl hS (fun _ _ => by kernel_rfl) ?_
      refine tkR 1 72 (v := .int .i64 lv) rfl hS (fun _ h => run_ld1 3 (.tmp 71) g1 5 (by kernel_rfl) (by kernel_rfl) Try.underlying3 rfl ((h).get 5 (.int .i64 lv) rfl)) ?_
      try simp only [Act.put, List.setIfInBounds_toArray, List.set_cons_zero, List.set_cons_succ]
      refine tkR 2 73 rfl hS (fun w' _ => by go_simp; try with_reducible rfl) ?_
      simp only [pA, pB, pC]
      refine tkR 3 74 (v := .bool true) rfl hS (fun _ _ => by kernel_rfl) ?_
      try simp only [Act.put, List.setIfInBounds_toArray, List.set_cons_zero, List.set_cons_succ]
      refine tkR 4 75 rfl hS (fun w' _ => by go_simp; try with_reducible rfl) ?_
      simp only [pA, pB, pC]
      try simp only [Act.put, List.setIfInBounds_toArray, List.set_cons_zero, List.set_cons_succ]
      refine tkR 5 76 rfl hS (fun w' hSw => by have c0_5 := (hSw).get 5 (.int .i64 lv) rfl; clear hSw; go_simp; try with_reducible rfl) ?_
      simp only [pA, pB, pC]
      try simp only [Act.put, List.setIfInBounds_toArray, List.set_cons_zero, List.set_cons_succ]
      refine tkR 6 77 rfl hS (fun w' _ => by go_simp; try with_reducible rfl) ?_
      simp only [pA, pB, pC]
      try simp only [Act.put, List.setIfInBounds_toArray, List.set_cons_zero, List.set_cons_succ]
      refine tkR 7 78 rfl hS (fun w' _ => by go_simp; try with_reducible rfl) ?_
      simp only [pA, pB, pC]
      refine tkR 8 79 (v := .bool true) rfl hS (fun _ _ => by kernel_rfl) ?_
      try simp only [Act.put, List.setIfInBounds_toArray, List.set_cons_zero, List.set_cons_succ]
      refine tkR 9 80 rfl hS (fun w' _ => by go_simp; try with_reducible rfl) ?_
      simp only [pA, pB, pC]
      try simp only [Act.put, List.setIfInBounds_toArray, List.set_cons_zero, List.set_cons_succ]
      refine tkR 10 81 rfl hS (fun w' hSw => by have c0_5 := (hSw).get 5 (.int .i64 lv) rfl; clear hSw; go_simp; try with_reducible rfl) ?_
      simp only [pA, pB, pC]
      try simp only [Act.put, List.setIfInBounds_toArray, List.set_cons_zero, List.set_cons_succ]
      refine tkR 11 82 rfl hS (fun w' _ => by go_simp; try with_reducible rfl) ?_
      simp only [pA, pB, pC]
      try simp only [Act.put, List.setIfInBounds_toArray, List.set_cons_zero, List.set_cons_succ]
      refine tkR 12 83 rfl hS (fun w' hSw => by have c0_4 := (hSw).get 4 (.int .i64 pg) rfl; clear hSw; go_simp; try with_reducible rfl) ?_
      simp only [pA, pB, pC]
      try simp only [Act.put, List.setIfInBounds_toArray, List.set_cons_zero, List.set_cons_succ]
      refine tkR 14 85 rfl hS (fun w' _ => by go_simp; try with_reducible rfl) ?_
      simp only [pA, pB, pC]
      try simp only [Act.put, List.setIfInBounds_toArray, List.set_cons_zero, List.set_cons_succ]
      refine tkR 15 86 rfl hS (fun w' hSw => by have c0_4 := (hSw).get 4 (.int .i64 pg) rfl; clear hSw; go_simp; try with_reducible rfl) ?_
      simp only [pA, pB, pC]
      try simp only [Act.put, List.setIfInBounds_toArray, List.set_cons_zero, List.set_cons_succ]
      refine wpAnyH_ready (rs := [13]) (by kernel_rfl) (by simp) ?_
      refine AllReadyH.cons (o := ⟨some 84, _, _, _, _, _⟩) rfl (fun K hK => ?_) AllReadyH.nil
      go_simp
      refine (HA.out _ gl1 gl3 (by first | trivial | rfl)).mono ?_
      rintro e w7 ⟨rfl, hb7⟩
      have hz7 := hb7.size
      try simp at hz7
      refine hK.out _ _ ?_ (fun hS' => ?_)
      · exact (hS.below hb7)
      clear hK K hS
      have hS := hS'
      clear hS'
      try simp only [Act.put, List.setIfInBounds_toArray, List.set_cons_zero, List.set_cons_succ]
      try simp only [Act.put, List.setIfInBounds_toArray, List.set_cons_zero, List.set_cons_succ]
      refine tkR 16 87 rfl hS (fun w' _ => by go_simp; try with_reducible rfl) ?_
      simp only [pA, pB, pC]
      try simp only [Act.put, List.setIfInBounds_toArray, List.set_cons_zero, List.set_cons_succ]
      refine tkR 17 88 rfl hS (fun w' _ => by go_simp; try with_reducible rfl) ?_
      simp only [pA, pB, pC]
      refine tkR 18 89 (v := .bool false) rfl hS (fun _ _ => by kernel_rfl) ?_
      refine tkU 19 90 rfl hS ?_
      simp only [pA, pB, pC]
      refine tkU 20 91 rfl hS ?_
      simp only [pA, pB, pC]
      refine tkU 21 92 rfl hS ?_
      simp only [pA, pB, pC]
      try simp only [Act.put, List.setIfInBounds_toArray, List.set_cons_zero, List.set_cons_succ]
      refine tkR 22 93 rfl hS (fun w' _ => by go_simp; try with_reducible rfl) ?_
      simp only [pA, pB, pC]
      refine tkR 23 94 (v := .bool false) rfl hS (fun _ _ => by kernel_rfl) ?_
      refine tkU 24 95 rfl hS ?_
      simp only [pA, pB, pC]
      refine tkU 25 96 rfl hS ?_
      simp only [pA, pB, pC]
      refine tkU 26 97 rfl hS ?_
      simp only [pA, pB, pC]
      refine tkU 27 98 rfl hS ?_
      simp only [pA, pB, pC]
      try simp only [Act.put, List.setIfInBounds_toArray, List.set_cons_zero, List.set_cons_succ]
      refine tkR 28 99 rfl hS (fun w' _ => by go_simp; try with_reducible rfl) ?_
      simp only [pA, pB, pC]
      refine tkR 29 2 (v := .bool false) rfl hS (fun _ _ => by kernel_rfl) ?_
      refine wpAnyH_done (by kernel_rfl) ?_ _
      try simp only [Act.put, List.setIfInBounds_toArray, List.set_cons_zero, List.set_cons_succ]
      have E8 := Lib.hid (((E1.out.drew).below hb7))
      have B8 := Lib.hid ((bel_trans (Below.drew B1.out) hb7))
      obtain ⟨W8, hW8⟩ : ∃ W8, W8 = w7 := ⟨_, rfl⟩
      have hs8 : g1 + 1 ≤ W8.heap.size := by rw [hW8]; first | exact hs1 | omega | (simp; omega)
      rw [← hW8] at E8 B8 ⊢
      clear hW8 E1 B1 hs1
      go_wp2
      all_goals
        go_ret
        refine ⟨ret_bool ?_, B8.out⟩
        first | rfl | simp [hb5, hk1, hk2, hk3, gl1, gl3, hc0]
    have e0 : (ab == pg) = true := (beq_int _ _).trans hc0
    cases hc1 : decide (mi = 0)
    · have e1 : (mi == 0) = false := (beq_int _ _).trans hc1
      go_upto_region 9 with fail
      clear Ec1 Ec2 Ec4 Ec6 Ec7 Ec13 Ec0
      refine wp_region_held_drew (S := (fun w' => BoxAt w' (g1) #[.int .i64 k, .int .i64 vm, .int .i64 sp, .bool al, .int .i64 pg, .int .i64 lv, .int .i64 fr, .int .i64 mi, .bool r, .bool wr, .bool x, .bool a, .bool n, .int .i64 s] 36)) (by kernel_rfl) (E1.out.drew) (fun hS => ?_)
      refine tkR 0 71 (v := .pointer (some ⟨g1, 5, none⟩)) rfl hS (fun _ _ => by kernel_rfl) ?_
      refine tkR 1 72 (v := .int .i64 lv) rfl hS (fun _ h => run_ld1 3 (.tmp 71) g1 5 (by kernel_rfl) (by kernel_rfl) Try.underlying3 rfl ((h).get 5 (.int .i64 lv) rfl)) ?_
      try simp only [Act.put, List.setIfInBounds_toArray, List.set_cons_zero, List.set_cons_succ]
      refine tkR 2 73 rfl hS (fun w' _ => by go_simp; try with_reducible rfl) ?_
      simp only [pA, pB, pC]
      refine tkR 3 74 (v := .bool true) rfl hS (fun _ _ => by kernel_rfl) ?_
      try simp only [Act.put, List.setIfInBounds_toArray, List.set_cons_zero, List.set_cons_succ]
      refine tkR 4 75 rfl hS (fun w' _ => by go_simp; try with_reducible rfl) ?_
      simp only [pA, pB, pC]
      try simp only [Act.put, List.setIfInBounds_toArray, List.set_cons_zero, List.set_cons_succ]
      refine tkR 5 76 rfl hS (fun w' hSw => by have c0_5 := (hSw).get 5 (.int .i64 lv) rfl; clear hSw; go_simp; try with_reducible rfl) ?_
      simp only [pA, pB, pC]
      try simp only [Act.put, List.setIfInBounds_toArray, List.set_cons_zero, List.set_cons_succ]
      refine tkR 6 77 rfl hS (fun w' _ => by go_simp; try with_reducible rfl) ?_
      simp only [pA, pB, pC]
      try simp only [Act.put, List.setIfInBounds_toArray, List.set_cons_zero, List.set_cons_succ]
      refine tkR 7 78 rfl hS (fun w' _ => by go_simp; try with_reducible rfl) ?_
      simp only [pA, pB, pC]
      refine tkR 8 79 (v := .bool true) rfl hS (fun _ _ => by kernel_rfl) ?_
      try simp only [Act.put, List.setIfInBounds_toArray, List.set_cons_zero, List.set_cons_succ]
      refine tkR 9 80 rfl hS (fun w' _ => by go_simp; try with_reducible rfl) ?_
      simp only [pA, pB, pC]
      try simp only [Act.put, List.setIfInBounds_toArray, List.set_cons_zero, List.set_cons_succ]
      refine tkR 10 81 rfl hS (fun w' hSw => by have c0_5 := (hSw).get 5 (.int .i64 lv) rfl; clear hSw; go_simp; try with_reducible rfl) ?_
      simp only [pA, pB, pC]
      try simp only [Act.put, List.setIfInBounds_toArray, List.set_cons_zero, List.set_cons_succ]
      refine tkR 11 82 rfl hS (fun w' _ => by go_simp; try with_reducible rfl) ?_
      simp only [pA, pB, pC]
      try simp only [Act.put, List.setIfInBounds_toArray, List.set_cons_zero, List.set_cons_succ]
      refine tkR 12 83 rfl hS (fun w' hSw => by have c0_4 := (hSw).get 4 (.int .i64 pg) rfl; clear hSw; go_simp; try with_reducible rfl) ?_
      simp only [pA, pB, pC]
      try simp only [Act.put, List.setIfInBounds_toArray, List.set_cons_zero, List.set_cons_succ]
      refine tkR 14 85 rfl hS (fun w' _ => by go_simp; try with_reducible rfl) ?_
      simp only [pA, pB, pC]
      try simp only [Act.put, List.setIfInBounds_toArray, List.set_cons_zero, List.set_cons_succ]
      refine tkR 15 86 rfl hS (fun w' hSw => by have c0_4 := (hSw).get 4 (.int .i64 pg) rfl; clear hSw; go_simp; try with_reducible rfl) ?_
      simp only [pA, pB, pC]
      try simp only [Act.put, List.setIfInBounds_toArray, List.set_cons_zero, List.set_cons_succ]
      refine wpAnyH_ready (rs := [13]) (by kernel_rfl) (by simp) ?_
      refine AllReadyH.cons (o := ⟨some 84, _, _, _, _, _⟩) rfl (fun K hK => ?_) AllReadyH.nil
      go_simp
      refine (HA.out _ gl1 gl3 (by first | trivial | rfl)).mono ?_
      rintro e w7 ⟨rfl, hb7⟩
      have hz7 := hb7.size
      try simp at hz7
      refine hK.out _ _ ?_ (fun hS' => ?_)
      · exact (hS.below hb7)
      clear hK K hS
      have hS := hS'
      clear hS'
      try simp only [Act.put, List.setIfInBounds_toArray, List.set_cons_zero, List.set_cons_succ]
      try simp only [Act.put, List.setIfInBounds_toArray, List.set_cons_zero, List.set_cons_succ]
      refine tkR 16 87 rfl hS (fun w' _ => by go_simp; try with_reducible rfl) ?_
      simp only [pA, pB, pC]
      try simp only [Act.put, List.setIfInBounds_toArray, List.set_cons_zero, List.set_cons_succ]
      refine tkR 17 88 rfl hS (fun w' _ => by go_simp; try with_reducible rfl) ?_
      simp only [pA, pB, pC]
      refine tkR 18 89 (v := .bool true) rfl hS (fun _ _ => by kernel_rfl) ?_
      try simp only [Act.put, List.setIfInBounds_toArray, List.set_cons_zero, List.set_cons_succ]
      refine tkR 19 90 rfl hS (fun w' _ => by go_simp; try with_reducible rfl) ?_
      simp only [pA, pB, pC]
      try simp only [Act.put, List.setIfInBounds_toArray, List.set_cons_zero, List.set_cons_succ]
      refine tkR 20 91 rfl hS (fun w' hSw => by have c0_7 := (hSw).get 7 (.int .i64 mi) rfl; clear hSw; go_simp; try with_reducible rfl) ?_
      simp only [pA, pB, pC]
      try simp only [Act.put, List.setIfInBounds_toArray, List.set_cons_zero, List.set_cons_succ]
      refine tkR 21 92 rfl hS (fun w' _ => by go_simp; try with_reducible rfl) ?_
      simp only [pA, pB, pC]
      try simp only [Act.put, List.setIfInBounds_toArray, List.set_cons_zero, List.set_cons_succ]
      refine tkR 22 93 rfl hS (fun w' _ => by go_simp; try with_reducible rfl) ?_
      simp only [pA, pB, pC]
      refine tkR 23 94 (v := .bool false) rfl hS (fun _ _ => by kernel_rfl) ?_
      refine tkU 24 95 rfl hS ?_
      simp only [pA, pB, pC]
      refine tkU 25 96 rfl hS ?_
      simp only [pA, pB, pC]
      refine tkU 26 97 rfl hS ?_
      simp only [pA, pB, pC]
      refine tkU 27 98 rfl hS ?_
      simp only [pA, pB, pC]
      try simp only [Act.put, List.setIfInBounds_toArray, List.set_cons_zero, List.set_cons_succ]
      refine tkR 28 99 rfl hS (fun w' _ => by go_simp; try with_reducible rfl) ?_
      simp only [pA, pB, pC]
      refine tkR 29 2 (v := .bool false) rfl hS (fun _ _ => by kernel_rfl) ?_
      refine wpAnyH_done (by kernel_rfl) ?_ _
      try simp only [Act.put, List.setIfInBounds_toArray, List.set_cons_zero, List.set_cons_succ]
      have E8 := Lib.hid (((E1.out.drew).below hb7))
      have B8 := Lib.hid ((bel_trans (Below.drew B1.out) hb7))
      obtain ⟨W8, hW8⟩ : ∃ W8, W8 = w7 := ⟨_, rfl⟩
      have hs8 : g1 + 1 ≤ W8.heap.size := by rw [hW8]; first | exact hs1 | omega | (simp; omega)
      rw [← hW8] at E8 B8 ⊢
      clear hW8 E1 B1 hs1
      go_wp2
      all_goals
        go_ret
        refine ⟨ret_bool ?_, B8.out⟩
        first | rfl | simp [hb5, hk1, hk2, hk3, gl1, gl3, hc0, hc1]
    have e1 : (mi == 0) = true := (beq_int _ _).trans hc1
    cases hc : eqA ⟨r, wr, x, a, n, s⟩ ⟨false, false, false, false, false, 0⟩
    · go_upto_region 9 with fail
      clear Ec1 Ec2 Ec4 Ec6 Ec7 Ec13 Ec0
      refine wp_region_held_drew (S := (fun w' => BoxAt w' (g1) #[.int .i64 k, .int .i64 vm, .int .i64 sp, .bool al, .int .i64 pg, .int .i64 lv, .int .i64 fr, .int .i64 mi, .bool r, .bool wr, .bool x, .bool a, .bool n, .int .i64 s] 36)) (by kernel_rfl) (E1.out.drew) (fun hS => ?_)
      refine tkR 0 71 (v := .pointer (some ⟨g1, 5, none⟩)) rfl hS (fun _ _ => by kernel_rfl) ?_
      refine tkR 1 72 (v := .int .i64 lv) rfl hS (fun _ h => run_ld1 3 (.tmp 71) g1 5 (by kernel_rfl) (by kernel_rfl) Try.underlying3 rfl ((h).get 5 (.int .i64 lv) rfl)) ?_
      try simp only [Act.put, List.setIfInBounds_toArray, List.set_cons_zero, List.set_cons_succ]
      refine tkR 2 73 rfl hS (fun w' _ => by go_simp; try with_reducible rfl) ?_
      simp only [pA, pB, pC]
      refine tkR 3 74 (v := .bool true) rfl hS (fun _ _ => by kernel_rfl) ?_
      try simp only [Act.put, List.setIfInBounds_toArray, List.set_cons_zero, List.set_cons_succ]
      refine tkR 4 75 rfl hS (fun w' _ => by go_simp; try with_reducible rfl) ?_
      simp only [pA, pB, pC]
      try simp only [Act.put, List.setIfInBounds_toArray, List.set_cons_zero, List.set_cons_succ]
      refine tkR 5 76 rfl hS (fun w' hSw => by have c0_5 := (hSw).get 5 (.int .i64 lv) rfl; clear hSw; go_simp; try with_reducible rfl) ?_
      simp only [pA, pB, pC]
      try simp only [Act.put, List.setIfInBounds_toArray, List.set_cons_zero, List.set_cons_succ]
      refine tkR 6 77 rfl hS (fun w' _ => by go_simp; try with_reducible rfl) ?_
      simp only [pA, pB, pC]
      try simp only [Act.put, List.setIfInBounds_toArray, List.set_cons_zero, List.set_cons_succ]
      refine tkR 7 78 rfl hS (fun w' _ => by go_simp; try with_reducible rfl) ?_
      simp only [pA, pB, pC]
      refine tkR 8 79 (v := .bool true) rfl hS (fun _ _ => by kernel_rfl) ?_
      try simp only [Act.put, List.setIfInBounds_toArray, List.set_cons_zero, List.set_cons_succ]
      refine tkR 9 80 rfl hS (fun w' _ => by go_simp; try with_reducible rfl) ?_
      simp only [pA, pB, pC]
      try simp only [Act.put, List.setIfInBounds_toArray, List.set_cons_zero, List.set_cons_succ]
      refine tkR 10 81 rfl hS (fun w' hSw => by have c0_5 := (hSw).get 5 (.int .i64 lv) rfl; clear hSw; go_simp; try with_reducible rfl) ?_
      simp only [pA, pB, pC]
      try simp only [Act.put, List.setIfInBounds_toArray, List.set_cons_zero, List.set_cons_succ]
      refine tkR 11 82 rfl hS (fun w' _ => by go_simp; try with_reducible rfl) ?_
      simp only [pA, pB, pC]
      try simp only [Act.put, List.setIfInBounds_toArray, List.set_cons_zero, List.set_cons_succ]
      refine tkR 12 83 rfl hS (fun w' hSw => by have c0_4 := (hSw).get 4 (.int .i64 pg) rfl; clear hSw; go_simp; try with_reducible rfl) ?_
      simp only [pA, pB, pC]
      try simp only [Act.put, List.setIfInBounds_toArray, List.set_cons_zero, List.set_cons_succ]
      refine tkR 14 85 rfl hS (fun w' _ => by go_simp; try with_reducible rfl) ?_
      simp only [pA, pB, pC]
      try simp only [Act.put, List.setIfInBounds_toArray, List.set_cons_zero, List.set_cons_succ]
      refine tkR 15 86 rfl hS (fun w' hSw => by have c0_4 := (hSw).get 4 (.int .i64 pg) rfl; clear hSw; go_simp; try with_reducible rfl) ?_
      simp only [pA, pB, pC]
      try simp only [Act.put, List.setIfInBounds_toArray, List.set_cons_zero, List.set_cons_succ]
      refine wpAnyH_ready (rs := [13]) (by kernel_rfl) (by simp) ?_
      refine AllReadyH.cons (o := ⟨some 84, _, _, _, _, _⟩) rfl (fun K hK => ?_) AllReadyH.nil
      go_simp
      refine (HA.out _ gl1 gl3 (by first | trivial | rfl)).mono ?_
      rintro e w7 ⟨rfl, hb7⟩
      have hz7 := hb7.size
      try simp at hz7
      refine hK.out _ _ ?_ (fun hS' => ?_)
      · exact (hS.below hb7)
      clear hK K hS
      have hS := hS'
      clear hS'
      try simp only [Act.put, List.setIfInBounds_toArray, List.set_cons_zero, List.set_cons_succ]
      try simp only [Act.put, List.setIfInBounds_toArray, List.set_cons_zero, List.set_cons_succ]
      refine tkR 16 87 rfl hS (fun w' _ => by go_simp; try with_reducible rfl) ?_
      simp only [pA, pB, pC]
      try simp only [Act.put, List.setIfInBounds_toArray, List.set_cons_zero, List.set_cons_succ]
      refine tkR 17 88 rfl hS (fun w' _ => by go_simp; try with_reducible rfl) ?_
      simp only [pA, pB, pC]
      refine tkR 18 89 (v := .bool true) rfl hS (fun _ _ => by kernel_rfl) ?_
      try simp only [Act.put, List.setIfInBounds_toArray, List.set_cons_zero, List.set_cons_succ]
      refine tkR 19 90 rfl hS (fun w' _ => by go_simp; try with_reducible rfl) ?_
      simp only [pA, pB, pC]
      try simp only [Act.put, List.setIfInBounds_toArray, List.set_cons_zero, List.set_cons_succ]
      refine tkR 20 91 rfl hS (fun w' hSw => by have c0_7 := (hSw).get 7 (.int .i64 mi) rfl; clear hSw; go_simp; try with_reducible rfl) ?_
      simp only [pA, pB, pC]
      try simp only [Act.put, List.setIfInBounds_toArray, List.set_cons_zero, List.set_cons_succ]
      refine tkR 21 92 rfl hS (fun w' _ => by go_simp; try with_reducible rfl) ?_
      simp only [pA, pB, pC]
      try simp only [Act.put, List.setIfInBounds_toArray, List.set_cons_zero, List.set_cons_succ]
      refine tkR 22 93 rfl hS (fun w' _ => by go_simp; try with_reducible rfl) ?_
      simp only [pA, pB, pC]
      refine tkR 23 94 (v := .bool true) rfl hS (fun _ _ => by kernel_rfl) ?_
      try simp only [Act.put, List.setIfInBounds_toArray, List.set_cons_zero, List.set_cons_succ]
      refine tkR 24 95 rfl hS (fun w' _ => by go_simp; try with_reducible rfl) ?_
      simp only [pA, pB, pC]
      try simp only [Act.put, List.setIfInBounds_toArray, List.set_cons_zero, List.set_cons_succ]
      refine tkR 25 96 rfl hS (fun w' hSw => by have c0_8 := (hSw).get 8 (.bool r) rfl; have c0_9 := (hSw).get 9 (.bool wr) rfl; have c0_10 := (hSw).get 10 (.bool x) rfl; have c0_11 := (hSw).get 11 (.bool a) rfl; have c0_12 := (hSw).get 12 (.bool n) rfl; have c0_13 := (hSw).get 13 (.int .i64 s) rfl; clear hSw; go_simp; try with_reducible rfl) ?_
      simp only [pA, pB, pC]
      try simp only [Act.put, List.setIfInBounds_toArray, List.set_cons_zero, List.set_cons_succ]
      refine tkR 26 97 rfl hS (fun w' _ => by go_simp; try with_reducible rfl) ?_
      simp only [pA, pB, pC]
      try simp only [Act.put, List.setIfInBounds_toArray, List.set_cons_zero, List.set_cons_succ]
      refine tkR 27 98 rfl hS (fun w' _ => by go_simp; try with_reducible rfl) ?_
      simp only [pA, pB, pC]
      try simp only [Act.put, List.setIfInBounds_toArray, List.set_cons_zero, List.set_cons_succ]
      refine tkR 28 99 rfl hS (fun w' _ => by go_simp; try with_reducible rfl) ?_
      simp only [pA, pB, pC]
      refine tkR 29 2 (v := .bool false) rfl hS (fun _ _ => by kernel_rfl) ?_
      refine wpAnyH_done (by kernel_rfl) ?_ _
      try simp only [Act.put, List.setIfInBounds_toArray, List.set_cons_zero, List.set_cons_succ]
      have E8 := Lib.hid (((E1.out.drew).below hb7))
      have B8 := Lib.hid ((bel_trans (Below.drew B1.out) hb7))
      obtain ⟨W8, hW8⟩ : ∃ W8, W8 = w7 := ⟨_, rfl⟩
      have hs8 : g1 + 1 ≤ W8.heap.size := by rw [hW8]; first | exact hs1 | omega | (simp; omega)
      rw [← hW8] at E8 B8 ⊢
      clear hW8 E1 B1 hs1
      go_wp2
      all_goals
        go_ret
        refine ⟨ret_bool ?_, B8.out⟩
        first | rfl | simp [hb5, hk1, hk2, hk3, gl1, gl3, hc0, hc1, hc]
    go_upto_region 9 with fail
    clear Ec1 Ec2 Ec4 Ec6 Ec7 Ec13 Ec0
    refine wp_region_held_drew (S := (fun w' => BoxAt w' (g1) #[.int .i64 k, .int .i64 vm, .int .i64 sp, .bool al, .int .i64 pg, .int .i64 lv, .int .i64 fr, .int .i64 mi, .bool r, .bool wr, .bool x, .bool a, .bool n, .int .i64 s] 36)) (by kernel_rfl) (E1.out.drew) (fun hS => ?_)
    refine tkR 0 71 (v := .pointer (some ⟨g1, 5, none⟩)) rfl hS (fun _ _ => by kernel_rfl) ?_
    refine tkR 1 72 (v := .int .i64 lv) rfl hS (fun _ h => run_ld1 3 (.tmp 71) g1 5 (by kernel_rfl) (by kernel_rfl) Try.underlying3 rfl ((h).get 5 (.int .i64 lv) rfl)) ?_
    try simp only [Act.put, List.setIfInBounds_toArray, List.set_cons_zero, List.set_cons_succ]
    refine tkR 2 73 rfl hS (fun w' _ => by go_simp; try with_reducible rfl) ?_
    simp only [pA, pB, pC]
    refine tkR 3 74 (v := .bool true) rfl hS (fun _ _ => by kernel_rfl) ?_
    try simp only [Act.put, List.setIfInBounds_toArray, List.set_cons_zero, List.set_cons_succ]
    refine tkR 4 75 rfl hS (fun w' _ => by go_simp; try with_reducible rfl) ?_
    simp only [pA, pB, pC]
    try simp only [Act.put, List.setIfInBounds_toArray, List.set_cons_zero, List.set_cons_succ]
    refine tkR 5 76 rfl hS (fun w' hSw => by have c0_5 := (hSw).get 5 (.int .i64 lv) rfl; clear hSw; go_simp; try with_reducible rfl) ?_
    simp only [pA, pB, pC]
    try simp only [Act.put, List.setIfInBounds_toArray, List.set_cons_zero, List.set_cons_succ]
    refine tkR 6 77 rfl hS (fun w' _ => by go_simp; try with_reducible rfl) ?_
    simp only [pA, pB, pC]
    try simp only [Act.put, List.setIfInBounds_toArray, List.set_cons_zero, List.set_cons_succ]
    refine tkR 7 78 rfl hS (fun w' _ => by go_simp; try with_reducible rfl) ?_
    simp only [pA, pB, pC]
    refine tkR 8 79 (v := .bool true) rfl hS (fun _ _ => by kernel_rfl) ?_
    try simp only [Act.put, List.setIfInBounds_toArray, List.set_cons_zero, List.set_cons_succ]
    refine tkR 9 80 rfl hS (fun w' _ => by go_simp; try with_reducible rfl) ?_
    simp only [pA, pB, pC]
    try simp only [Act.put, List.setIfInBounds_toArray, List.set_cons_zero, List.set_cons_succ]
    refine tkR 10 81 rfl hS (fun w' hSw => by have c0_5 := (hSw).get 5 (.int .i64 lv) rfl; clear hSw; go_simp; try with_reducible rfl) ?_
    simp only [pA, pB, pC]
    try simp only [Act.put, List.setIfInBounds_toArray, List.set_cons_zero, List.set_cons_succ]
    refine tkR 11 82 rfl hS (fun w' _ => by go_simp; try with_reducible rfl) ?_
    simp only [pA, pB, pC]
    try simp only [Act.put, List.setIfInBounds_toArray, List.set_cons_zero, List.set_cons_succ]
    refine tkR 12 83 rfl hS (fun w' hSw => by have c0_4 := (hSw).get 4 (.int .i64 pg) rfl; clear hSw; go_simp; try with_reducible rfl) ?_
    simp only [pA, pB, pC]
    try simp only [Act.put, List.setIfInBounds_toArray, List.set_cons_zero, List.set_cons_succ]
    refine tkR 14 85 rfl hS (fun w' _ => by go_simp; try with_reducible rfl) ?_
    simp only [pA, pB, pC]
    try simp only [Act.put, List.setIfInBounds_toArray, List.set_cons_zero, List.set_cons_succ]
    refine tkR 15 86 rfl hS (fun w' hSw => by have c0_4 := (hSw).get 4 (.int .i64 pg) rfl; clear hSw; go_simp; try with_reducible rfl) ?_
    simp only [pA, pB, pC]
    try simp only [Act.put, List.setIfInBounds_toArray, List.set_cons_zero, List.set_cons_succ]
    refine wpAnyH_ready (rs := [13]) (by kernel_rfl) (by simp) ?_
    refine AllReadyH.cons (o := ⟨some 84, _, _, _, _, _⟩) rfl (fun K hK => ?_) AllReadyH.nil
    go_simp
    refine (HA.out _ gl1 gl3 (by first | trivial | rfl)).mono ?_
    rintro e w7 ⟨rfl, hb7⟩
    have hz7 := hb7.size
    try simp at hz7
    refine hK.out _ _ ?_ (fun hS' => ?_)
    · exact (hS.below hb7)
    clear hK K hS
    have hS := hS'
    clear hS'
    try simp only [Act.put, List.setIfInBounds_toArray, List.set_cons_zero, List.set_cons_succ]
    try simp only [Act.put, List.setIfInBounds_toArray, List.set_cons_zero, List.set_cons_succ]
    refine tkR 16 87 rfl hS (fun w' _ => by go_simp; try with_reducible rfl) ?_
    simp only [pA, pB, pC]
    try simp only [Act.put, List.setIfInBounds_toArray, List.set_cons_zero, List.set_cons_succ]
    refine tkR 17 88 rfl hS (fun w' _ => by go_simp; try with_reducible rfl) ?_
    simp only [pA, pB, pC]
    refine tkR 18 89 (v := .bool true) rfl hS (fun _ _ => by kernel_rfl) ?_
    try simp only [Act.put, List.setIfInBounds_toArray, List.set_cons_zero, List.set_cons_succ]
    refine tkR 19 90 rfl hS (fun w' _ => by go_simp; try with_reducible rfl) ?_
    simp only [pA, pB, pC]
    try simp only [Act.put, List.setIfInBounds_toArray, List.set_cons_zero, List.set_cons_succ]
    refine tkR 20 91 rfl hS (fun w' hSw => by have c0_7 := (hSw).get 7 (.int .i64 mi) rfl; clear hSw; go_simp; try with_reducible rfl) ?_
    simp only [pA, pB, pC]
    try simp only [Act.put, List.setIfInBounds_toArray, List.set_cons_zero, List.set_cons_succ]
    refine tkR 21 92 rfl hS (fun w' _ => by go_simp; try with_reducible rfl) ?_
    simp only [pA, pB, pC]
    try simp only [Act.put, List.setIfInBounds_toArray, List.set_cons_zero, List.set_cons_succ]
    refine tkR 22 93 rfl hS (fun w' _ => by go_simp; try with_reducible rfl) ?_
    simp only [pA, pB, pC]
    refine tkR 23 94 (v := .bool true) rfl hS (fun _ _ => by kernel_rfl) ?_
    try simp only [Act.put, List.setIfInBounds_toArray, List.set_cons_zero, List.set_cons_succ]
    refine tkR 24 95 rfl hS (fun w' _ => by go_simp; try with_reducible rfl) ?_
    simp only [pA, pB, pC]
    try simp only [Act.put, List.setIfInBounds_toArray, List.set_cons_zero, List.set_cons_succ]
    refine tkR 25 96 rfl hS (fun w' hSw => by have c0_8 := (hSw).get 8 (.bool r) rfl; have c0_9 := (hSw).get 9 (.bool wr) rfl; have c0_10 := (hSw).get 10 (.bool x) rfl; have c0_11 := (hSw).get 11 (.bool a) rfl; have c0_12 := (hSw).get 12 (.bool n) rfl; have c0_13 := (hSw).get 13 (.int .i64 s) rfl; clear hSw; go_simp; try with_reducible rfl) ?_
    simp only [pA, pB, pC]
    try simp only [Act.put, List.setIfInBounds_toArray, List.set_cons_zero, List.set_cons_succ]
    refine tkR 26 97 rfl hS (fun w' _ => by go_simp; try with_reducible rfl) ?_
    simp only [pA, pB, pC]
    try simp only [Act.put, List.setIfInBounds_toArray, List.set_cons_zero, List.set_cons_succ]
    refine tkR 27 98 rfl hS (fun w' _ => by go_simp; try with_reducible rfl) ?_
    simp only [pA, pB, pC]
    try simp only [Act.put, List.setIfInBounds_toArray, List.set_cons_zero, List.set_cons_succ]
    refine tkR 28 99 rfl hS (fun w' _ => by go_simp; try with_reducible rfl) ?_
    simp only [pA, pB, pC]
    refine tkR 29 2 (v := .bool true) rfl hS (fun _ _ => by kernel_rfl) ?_
    refine wpAnyH_done (by kernel_rfl) ?_ _
    try simp only [Act.put, List.setIfInBounds_toArray, List.set_cons_zero, List.set_cons_succ]
    have E8 := Lib.hid (((E1.out.drew).below hb7))
    have B8 := Lib.hid ((bel_trans (Below.drew B1.out) hb7))
    obtain ⟨W8, hW8⟩ : ∃ W8, W8 = w7 := ⟨_, rfl⟩
    have hs8 : g1 + 1 ≤ W8.heap.size := by rw [hW8]; first | exact hs1 | omega | (simp; omega)
    rw [← hW8] at E8 B8 ⊢
    clear hW8 E1 B1 hs1
    go_wp2
    all_goals
      go_ret
      refine ⟨ret_bool ?_, B8.out⟩
      first | rfl | simp [hb5, hk1, hk2, hk3, gl1, gl3, hc0, hc1, hc]
  have dk3 : (k == 3) = false := by rw [beq_int]; exact decide_eq_false hk3
  go_wp2
  all_goals
    go_ret
    refine ⟨ret_bool ?_, B1.out⟩
    first | rfl | simp [hb5, hk1, hk2, hk3]
end Go.Proofs.Ytjohnpbfdpmajaa
