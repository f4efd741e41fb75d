/- The reference's small calls on entries: contracts. The reference's loops over entries: contracts. -/
import Derived.Test.YtmelepohdbojlaaGreatBe
import Derived.Test.YtmelepohdbojlaaGreatDb
import Derived.Test.YtmelepohdbojlaaGreatEj
import Derived.Test.YtmelepohdbojlaaGreatSq
set_option linter.all false
namespace Go.Proofs.YtmelepohdbojlaaGreat
section
open Go.ChangeShapes Go.WideShapes Go.ChangeAt Go.RowKit Go.Deep
theorem tag9_any (n : Int) (w : World) :
  Calls Tryz.prog 74 #[.int .i64 n] w fun e w' => e = .returned (.bool (numB n 15)) ∧ w = w' := by
 go_enter Tryz.func74, Tryz.ntmps74
 go_wp2_with fail
 refine (num_any _ _ _).mono ?_
 rintro e w1 ⟨rfl, rfl⟩
 go_wp2
 go_ret
 exact ⟨rfl, rfl⟩
theorem cov_tmod (lv p : Int) (h0 : 0 ≤ p) (h1 : p ≤ 4095) : 0 ≤ p % cov lv ∧ p % cov lv ≤ p := by
 unfold cov
 split
 ·omega
 ·split
  ·omega
  ·split <;> omega
theorem cut9_any (lv p : Int) (w : World) (h0 : 0 ≤ lv) (h1 : lv ≤ 3) (p0 : 0 ≤ p) (p1 : p ≤ 4095) :
  Calls Tryz.prog 70 #[.int .i64 lv, .int .i64 p] w fun e w' => e = .returned (.int .i64 (p - p % cov lv)) ∧ Below w.heap.size w w' := by
 obtain ⟨m0, m1⟩ := cov_tmod lv p p0 p1
 have hc := cov_pos lv
 have HC := Lib.hid (fun W => rcovers_any lv W h0 h1)
 clear h0 h1
 generalize cov lv = c at *
 have hz : (c == 0) = false := by simp; omega
 have hz' : ¬ c = 0 := by omega
 have hw1 : IntKind.i64.wrap (p % c) = p % c := IntWalk.i64_in _ (by omega)
 have hw2 : IntKind.i64.wrap (p - p % c) = p - p % c := IntWalk.i64_in _ (by omega)
 go_enter Tryz.func70, Tryz.ntmps70
 go_wp2_with fail
 refine (HC.out _).mono ?_
 rintro e w1 ⟨rfl, hb1⟩
 go_wp2
 go_ret
 exact ⟨rfl, hb1⟩
theorem above9_any (lv p : Int) (w : World) (h0 : 1 ≤ lv) (h1 : lv ≤ 3) (p0 : 0 ≤ p) (p1 : p ≤ 4095) :
  Calls Tryz.prog 69 #[.int .i64 lv, .int .i64 p] w fun e w' => e = .returned (.int .i64 (abvP lv p)) ∧ Below w.heap.size w w' := by
 have HC := Lib.hid (fun W => cut9_any (lv - 1) p W (by omega) (by omega) p0 p1)
 unfold abvP
 generalize p - p % cov (lv - 1) = q at *
 have hw1 : IntKind.i64.wrap (lv - 1) = lv - 1 := IntWalk.i64_in _ (by omega)
 go_enter Tryz.func69, Tryz.ntmps69
 go_wp2_with fail
 refine (HC.out _).mono ?_
 rintro e w1 ⟨rfl, hb1⟩
 go_wp2
 go_ret
 exact ⟨rfl, hb1⟩
theorem entry9_any (e : Ety) (w : World) :
  Calls Tryz.prog 48 #[entV e] w fun r w' => r = .returned (.bool (mayEn e)) ∧ Below w.heap.size w w' := by
 obtain ⟨k, vm, sp, al, pg, lv, fr, mi, ⟨r, wr, x, a, n, s⟩⟩ := e
 obtain ⟨ab, hab⟩ : ∃ q, abvP lv pg = q := ⟨_, rfl⟩
 have HA := fun W g1 g2 hb => above9_any lv pg W g1 g2 (numB_iff.1 hb).1 (numB_iff.1 hb).2
 rw [hab] at HA
 rcases Bool.eq_false_or_eq_true (decide ((lv : Int) ≥ 1)) with hG0 | hG0
 ·rcases Bool.eq_false_or_eq_true (decide ((lv : Int) ≤ 3)) with hG1 | hG1
  ·obtain ⟨q0, hq0⟩ : ∃ b, (numB vm 15) = b := ⟨_, rfl⟩
   obtain ⟨q1, hq1⟩ : ∃ b, (numB sp 15) = b := ⟨_, rfl⟩
   obtain ⟨q2, hq2⟩ : ∃ b, (numB pg 4095) = b := ⟨_, rfl⟩
   obtain ⟨q3, hq3⟩ : ∃ b, (numB fr 4095) = b := ⟨_, rfl⟩
   obtain ⟨q4, hq4⟩ : ∃ b, (numB mi 4095) = b := ⟨_, rfl⟩
   obtain ⟨q5, hq5⟩ : ∃ b, (s != 0) = b := ⟨_, rfl⟩
   obtain ⟨q6, hq6⟩ : ∃ b, (k == 1) = b := ⟨_, rfl⟩
   obtain ⟨q7, hq7⟩ : ∃ b, (lv == 0) = b := ⟨_, rfl⟩
   obtain ⟨q8, hq8⟩ : ∃ b, (k == 2) = b := ⟨_, rfl⟩
   obtain ⟨q9, hq9⟩ : ∃ b, (sp == 0) = b := ⟨_, rfl⟩
   obtain ⟨q10, hq10⟩ : ∃ b, (mi == 0) = b := ⟨_, rfl⟩
   obtain ⟨q11, hq11⟩ : ∃ b, (k == 3) = b := ⟨_, rfl⟩
   obtain ⟨q12, hq12⟩ : ∃ b, (ab == pg) = b := ⟨_, rfl⟩
   obtain ⟨q13, hq13⟩ : ∃ b, (eqA (Atr.mk r wr x a n s) atr0) = b := ⟨_, rfl⟩
   exact calls_ex mixedT [] (.r 1 [a1 1 0 1, (2, .call 74 (fun _ => [.int .i64 vm]) (fun _ => .bool q0)), a1 6 0 2, (7, .call 74 (fun _ => [.int .i64 sp]) (fun _ => .bool q1)), a1 12 0 4, (13, .call 32 (fun _ => [.int .i64 pg]) (fun _ => .bool q2)), a1 18 0 6, (19, .call 32 (fun _ => [.int .i64 fr]) (fun _ => .bool q3)), a1 24 0 7, (25, .call 32 (fun _ => [.int .i64 mi]) (fun _ => .bool q4)), a1 31 0 13, (32, .rw (fun _ => .bool (s != 0)) (fun _ => .bool q5))] (.split ((((((!q0) || (!q1)) || (!q2)) || (!q3)) || (!q4)) || q5) (.fin [] (fun _ => .bool false) []) (.r 3 [a1 1 0 0] (.r 4 [(0, .rw (fun _ => .bool (k == 1)) (fun _ => .bool q6))] (.split (q6) (.r 5 [a1 1 0 5, (2, .rw (fun _ => .bool (lv == 0)) (fun _ => .bool q7))] (.fin [] (fun _ => .bool q7) [])) (.r 6 [(0, .rw (fun _ => .bool (k == 2)) (fun _ => .bool q8))] (.split (q8) (.r 7 [a1 1 0 2, (2, .rw (fun _ => .bool (sp == 0)) (fun _ => .bool q9)), a1 5 0 3, a1 9 0 5, (10, .rw (fun _ => .bool (lv == 0)) (fun _ => .bool q7)), a1 14 0 7, (15, .rw (fun _ => .bool (mi == 0)) (fun _ => .bool q10)), a1 20 0 12] (.fin [] (fun _ => .bool ((((q9 && al) && q7) && q10) && (!n))) [])) (.r 8 [(0, .rw (fun _ => .bool (k == 3)) (fun _ => .bool q11))] (.split (q11) (.r 9 [a1 1 0 5, (2, .rw (fun _ => .bool (decide ((lv : Int) ≥ 1))) (fun _ => .bool true)), a1 5 0 5, (6, .rw (fun _ => .bool (decide ((lv : Int) ≤ 3))) (fun _ => .bool true)), a1 10 0 5, a1 12 0 4, (13, .call 69 (fun _ => [.int .i64 lv, .int .i64 pg]) (fun _ => .int .i64 ab)), a1 15 0 4, (16, .rw (fun _ => .bool (ab == pg)) (fun _ => .bool q12)), a1 20 0 7, (21, .rw (fun _ => .bool (mi == 0)) (fun _ => .bool q10)), aN 25 0 8 6, (27, .opc (.binOp .eql 60 (.tmp 96) (.tmp 97) 60) (fun _ => [.agg #[.bool r, .bool wr, .bool x, .bool a, .bool n, .int .i64 s], .agg #[.bool false, .bool false, .bool false, .bool false, .bool false, .int .i64 0]]) (fun _ => .bool q13) [] [] 0 [])] (.fin [] (fun _ => .bool ((q12 && q10) && q13)) [])) (.fin [] (fun _ => .bool false) [])))))))))) Tryz.func48 rfl (Fits.nil w) (⟨fun _ W _ => (below_same (tag9_any vm W)).mono fun _ _ hJ => ⟨hJ.1.trans (by rw [hq0]), hJ.2⟩, fun _ W _ => (below_same (tag9_any sp W)).mono fun _ _ hJ => ⟨hJ.1.trans (by rw [hq1]), hJ.2⟩, fun _ W _ => (below_same (page_any pg W)).mono fun _ _ hJ => ⟨hJ.1.trans (by rw [hq2]), hJ.2⟩, fun _ W _ => (below_same (page_any fr W)).mono fun _ _ hJ => ⟨hJ.1.trans (by rw [hq3]), hJ.2⟩, fun _ W _ => (below_same (page_any mi W)).mono fun _ _ hJ => ⟨hJ.1.trans (by rw [hq4]), hJ.2⟩, fun _ => congrArg Value.bool hq5, fun hS5 => fun _ _ h _ => ⟨ret_bool (by subst hq0 hq1 hq2 hq3 hq4 hq5 hq6 hq7 hq8 hq9 hq10 hq11 hq12 hq13; have h1 := hS5; simp only [Bool.or_eq_true, Bool.not_eq_true', bne_iff_ne, ne_eq] at h1; unfold mayEn; rcases h1 with ((((h1 | h1) | h1) | h1) | h1) | h1 <;> simp [h1]), h.below⟩, fun hS5 => ⟨fun _ => congrArg Value.bool hq6, fun hS6 => ⟨fun _ => congrArg Value.bool hq7, fun _ _ h _ => ⟨ret_bool (by subst hq0 hq1 hq2 hq3 hq4 hq5 hq6 hq7 hq8 hq9 hq10 hq11 hq12 hq13; have h1 := hS5; simp only [Bool.or_eq_false_iff, Bool.not_eq_false', bne_eq_false_iff_eq] at h1; simp only [beq_iff_eq, beq_eq_false_iff_ne, ne_eq] at hS6; have g0 := of_decide_eq_true hG0; have g1 := of_decide_eq_true hG1; simp only [ge_iff_le] at g0 g1; unfold mayEn; rw [Bool.eq_iff_iff]; simp [h1, hS6, g0, g1, hab, and_assoc]), h.below⟩⟩, fun hS6 => ⟨fun _ => congrArg Value.bool hq8, fun hS7 => ⟨fun _ => congrArg Value.bool hq9, fun _ => congrArg Value.bool hq7, fun _ => congrArg Value.bool hq10, fun _ _ h _ => ⟨ret_bool (by subst hq0 hq1 hq2 hq3 hq4 hq5 hq6 hq7 hq8 hq9 hq10 hq11 hq12 hq13; have h1 := hS5; simp only [Bool.or_eq_false_iff, Bool.not_eq_false', bne_eq_false_iff_eq] at h1; simp only [beq_iff_eq, beq_eq_false_iff_ne, ne_eq] at hS6 hS7; have g0 := of_decide_eq_true hG0; have g1 := of_decide_eq_true hG1; simp only [ge_iff_le] at g0 g1; unfold mayEn; rw [Bool.eq_iff_iff]; simp [h1, hS6, hS7, g0, g1, hab, and_assoc]), h.below⟩⟩, fun hS7 => ⟨fun _ => congrArg Value.bool hq11, fun hS8 => ⟨fun _ => congrArg Value.bool hG0, fun _ => congrArg Value.bool hG1, fun _ W _ => HA W (of_decide_eq_true hG0) (of_decide_eq_true hG1) (by subst hq0 hq1 hq2 hq3 hq4 hq5 hq6 hq7 hq8 hq9 hq10 hq11 hq12 hq13; have h1 := hS5; simp only [Bool.or_eq_false_iff, Bool.not_eq_false', bne_eq_false_iff_eq] at h1; simp only [h1]), fun _ => congrArg Value.bool hq12, fun _ => congrArg Value.bool hq10, fun E W ρ o ho hx hk hp => by rw [← hq13]; exact (fun _ W _ _ ho hx hk _ => opc_two ho hx hk (by kernel_rfl) (eql_atr _ _ _ _ _ _ _ _ _ _ _ _ W)) E W ρ o ho hx hk hp, fun _ _ h _ => ⟨ret_bool (by subst hq0 hq1 hq2 hq3 hq4 hq5 hq6 hq7 hq8 hq9 hq10 hq11 hq12 hq13; have h1 := hS5; simp only [Bool.or_eq_false_iff, Bool.not_eq_false', bne_eq_false_iff_eq] at h1; simp only [beq_iff_eq, beq_eq_false_iff_ne, ne_eq] at hS6 hS7 hS8; have g0 := of_decide_eq_true hG0; have g1 := of_decide_eq_true hG1; simp only [ge_iff_le] at g0 g1; unfold mayEn; rw [Bool.eq_iff_iff]; simp [h1, hS6, hS7, hS8, g0, g1, hab, and_assoc]), h.below⟩⟩, fun hS8 => fun _ _ h _ => ⟨ret_bool (by subst hq0 hq1 hq2 hq3 hq4 hq5 hq6 hq7 hq8 hq9 hq10 hq11 hq12 hq13; have h1 := hS5; simp only [Bool.or_eq_false_iff, Bool.not_eq_false', bne_eq_false_iff_eq] at h1; simp only [beq_iff_eq, beq_eq_false_iff_ne, ne_eq] at hS6 hS7 hS8; have g0 := of_decide_eq_true hG0; have g1 := of_decide_eq_true hG1; simp only [ge_iff_le] at g0 g1; unfold mayEn; rw [Bool.eq_iff_iff]; simp [h1, hS6, hS7, hS8, g0, g1, hab, and_assoc]), h.below⟩⟩⟩⟩⟩) rfl (fun _ => by cases q0; (cases q9; (cases q12; (kernel_rfl); (cases q10 <;> kernel_rfl)); (cases al; (cases q12; (kernel_rfl); (cases q10 <;> kernel_rfl)); (cases q7; (cases q12; (kernel_rfl); (cases q10 <;> kernel_rfl)); (cases q10; (cases q12 <;> kernel_rfl); (cases q12 <;> kernel_rfl))))); (cases q1; (cases q9; (cases q12; (kernel_rfl); (cases q10 <;> kernel_rfl)); (cases al; (cases q12; (kernel_rfl); (cases q10 <;> kernel_rfl)); (cases q7; (cases q12; (kernel_rfl); (cases q10 <;> kernel_rfl)); (cases q10; (cases q12 <;> kernel_rfl); (cases q12 <;> kernel_rfl))))); (cases q2; (cases q9; (cases q12; (kernel_rfl); (cases q10 <;> kernel_rfl)); (cases al; (cases q12; (kernel_rfl); (cases q10 <;> kernel_rfl)); (cases q7; (cases q12; (kernel_rfl); (cases q10 <;> kernel_rfl)); (cases q10; (cases q12 <;> kernel_rfl); (cases q12 <;> kernel_rfl))))); (cases q3; (cases q9; (cases q12; (kernel_rfl); (cases q10 <;> kernel_rfl)); (cases al; (cases q12; (kernel_rfl); (cases q10 <;> kernel_rfl)); (cases q7; (cases q12; (kernel_rfl); (cases q10 <;> kernel_rfl)); (cases q10; (cases q12 <;> kernel_rfl); (cases q12 <;> kernel_rfl))))); (cases q4; (cases q9; (cases q12; (kernel_rfl); (cases q10 <;> kernel_rfl)); (cases al; (cases q12; (kernel_rfl); (cases q10 <;> kernel_rfl)); (cases q7; (cases q12; (kernel_rfl); (cases q10 <;> kernel_rfl)); (cases q10; (cases q12 <;> kernel_rfl); (cases q12 <;> kernel_rfl))))); (cases q9; (cases q12; (kernel_rfl); (cases q10 <;> kernel_rfl)); (cases al; (cases q12; (kernel_rfl); (cases q10 <;> kernel_rfl)); (cases q7; (cases q12; (kernel_rfl); (cases q10 <;> kernel_rfl)); (cases q10; (cases q12 <;> kernel_rfl); (cases q12 <;> kernel_rfl))))))))))
  ·obtain ⟨q0, hq0⟩ : ∃ b, (numB vm 15) = b := ⟨_, rfl⟩
   obtain ⟨q1, hq1⟩ : ∃ b, (numB sp 15) = b := ⟨_, rfl⟩
   obtain ⟨q2, hq2⟩ : ∃ b, (numB pg 4095) = b := ⟨_, rfl⟩
   obtain ⟨q3, hq3⟩ : ∃ b, (numB fr 4095) = b := ⟨_, rfl⟩
   obtain ⟨q4, hq4⟩ : ∃ b, (numB mi 4095) = b := ⟨_, rfl⟩
   obtain ⟨q5, hq5⟩ : ∃ b, (s != 0) = b := ⟨_, rfl⟩
   obtain ⟨q6, hq6⟩ : ∃ b, (k == 1) = b := ⟨_, rfl⟩
   obtain ⟨q7, hq7⟩ : ∃ b, (lv == 0) = b := ⟨_, rfl⟩
   obtain ⟨q8, hq8⟩ : ∃ b, (k == 2) = b := ⟨_, rfl⟩
   obtain ⟨q9, hq9⟩ : ∃ b, (sp == 0) = b := ⟨_, rfl⟩
   obtain ⟨q10, hq10⟩ : ∃ b, (mi == 0) = b := ⟨_, rfl⟩
   obtain ⟨q11, hq11⟩ : ∃ b, (k == 3) = b := ⟨_, rfl⟩
   exact calls_ex mixedT [] (.r 1 [a1 1 0 1, (2, .call 74 (fun _ => [.int .i64 vm]) (fun _ => .bool q0)), a1 6 0 2, (7, .call 74 (fun _ => [.int .i64 sp]) (fun _ => .bool q1)), a1 12 0 4, (13, .call 32 (fun _ => [.int .i64 pg]) (fun _ => .bool q2)), a1 18 0 6, (19, .call 32 (fun _ => [.int .i64 fr]) (fun _ => .bool q3)), a1 24 0 7, (25, .call 32 (fun _ => [.int .i64 mi]) (fun _ => .bool q4)), a1 31 0 13, (32, .rw (fun _ => .bool (s != 0)) (fun _ => .bool q5))] (.split ((((((!q0) || (!q1)) || (!q2)) || (!q3)) || (!q4)) || q5) (.fin [] (fun _ => .bool false) []) (.r 3 [a1 1 0 0] (.r 4 [(0, .rw (fun _ => .bool (k == 1)) (fun _ => .bool q6))] (.split (q6) (.r 5 [a1 1 0 5, (2, .rw (fun _ => .bool (lv == 0)) (fun _ => .bool q7))] (.fin [] (fun _ => .bool q7) [])) (.r 6 [(0, .rw (fun _ => .bool (k == 2)) (fun _ => .bool q8))] (.split (q8) (.r 7 [a1 1 0 2, (2, .rw (fun _ => .bool (sp == 0)) (fun _ => .bool q9)), a1 5 0 3, a1 9 0 5, (10, .rw (fun _ => .bool (lv == 0)) (fun _ => .bool q7)), a1 14 0 7, (15, .rw (fun _ => .bool (mi == 0)) (fun _ => .bool q10)), a1 20 0 12] (.fin [] (fun _ => .bool ((((q9 && al) && q7) && q10) && (!n))) [])) (.r 8 [(0, .rw (fun _ => .bool (k == 3)) (fun _ => .bool q11))] (.split (q11) (.r 9 [a1 1 0 5, (2, .rw (fun _ => .bool (decide ((lv : Int) ≥ 1))) (fun _ => .bool true)), a1 5 0 5, (6, .rw (fun _ => .bool (decide ((lv : Int) ≤ 3))) (fun _ => .bool false))] (.fin [] (fun _ => .bool false) [])) (.fin [] (fun _ => .bool false) [])))))))))) Tryz.func48 rfl (Fits.nil w) (⟨fun _ W _ => (below_same (tag9_any vm W)).mono fun _ _ hJ => ⟨hJ.1.trans (by rw [hq0]), hJ.2⟩, fun _ W _ => (below_same (tag9_any sp W)).mono fun _ _ hJ => ⟨hJ.1.trans (by rw [hq1]), hJ.2⟩, fun _ W _ => (below_same (page_any pg W)).mono fun _ _ hJ => ⟨hJ.1.trans (by rw [hq2]), hJ.2⟩, fun _ W _ => (below_same (page_any fr W)).mono fun _ _ hJ => ⟨hJ.1.trans (by rw [hq3]), hJ.2⟩, fun _ W _ => (below_same (page_any mi W)).mono fun _ _ hJ => ⟨hJ.1.trans (by rw [hq4]), hJ.2⟩, fun _ => congrArg Value.bool hq5, fun hS5 => fun _ _ h _ => ⟨ret_bool (by subst hq0 hq1 hq2 hq3 hq4 hq5 hq6 hq7 hq8 hq9 hq10 hq11; have h1 := hS5; simp only [Bool.or_eq_true, Bool.not_eq_true', bne_iff_ne, ne_eq] at h1; unfold mayEn; rcases h1 with ((((h1 | h1) | h1) | h1) | h1) | h1 <;> simp [h1]), h.below⟩, fun hS5 => ⟨fun _ => congrArg Value.bool hq6, fun hS6 => ⟨fun _ => congrArg Value.bool hq7, fun _ _ h _ => ⟨ret_bool (by subst hq0 hq1 hq2 hq3 hq4 hq5 hq6 hq7 hq8 hq9 hq10 hq11; have h1 := hS5; simp only [Bool.or_eq_false_iff, Bool.not_eq_false', bne_eq_false_iff_eq] at h1; simp only [beq_iff_eq, beq_eq_false_iff_ne, ne_eq] at hS6; have g0 := of_decide_eq_true hG0; have g1 := of_decide_eq_false hG1; simp only [ge_iff_le] at g0 g1; unfold mayEn; rw [Bool.eq_iff_iff]; simp [h1, hS6, g0, g1, hab, and_assoc]), h.below⟩⟩, fun hS6 => ⟨fun _ => congrArg Value.bool hq8, fun hS7 => ⟨fun _ => congrArg Value.bool hq9, fun _ => congrArg Value.bool hq7, fun _ => congrArg Value.bool hq10, fun _ _ h _ => ⟨ret_bool (by subst hq0 hq1 hq2 hq3 hq4 hq5 hq6 hq7 hq8 hq9 hq10 hq11; have h1 := hS5; simp only [Bool.or_eq_false_iff, Bool.not_eq_false', bne_eq_false_iff_eq] at h1; simp only [beq_iff_eq, beq_eq_false_iff_ne, ne_eq] at hS6 hS7; have g0 := of_decide_eq_true hG0; have g1 := of_decide_eq_false hG1; simp only [ge_iff_le] at g0 g1; unfold mayEn; rw [Bool.eq_iff_iff]; simp [h1, hS6, hS7, g0, g1, hab, and_assoc]), h.below⟩⟩, fun hS7 => ⟨fun _ => congrArg Value.bool hq11, fun hS8 => ⟨fun _ => congrArg Value.bool hG0, fun _ => congrArg Value.bool hG1, fun _ _ h _ => ⟨ret_bool (by subst hq0 hq1 hq2 hq3 hq4 hq5 hq6 hq7 hq8 hq9 hq10 hq11; have h1 := hS5; simp only [Bool.or_eq_false_iff, Bool.not_eq_false', bne_eq_false_iff_eq] at h1; simp only [beq_iff_eq, beq_eq_false_iff_ne, ne_eq] at hS6 hS7 hS8; have g0 := of_decide_eq_true hG0; have g1 := of_decide_eq_false hG1; simp only [ge_iff_le] at g0 g1; unfold mayEn; rw [Bool.eq_iff_iff]; simp [h1, hS6, hS7, hS8, g0, g1, hab, and_assoc]), h.below⟩⟩, fun hS8 => fun _ _ h _ => ⟨ret_bool (by subst hq0 hq1 hq2 hq3 hq4 hq5 hq6 hq7 hq8 hq9 hq10 hq11; have h1 := hS5; simp only [Bool.or_eq_false_iff, Bool.not_eq_false', bne_eq_false_iff_eq] at h1; simp only [beq_iff_eq, beq_eq_false_iff_ne, ne_eq] at hS6 hS7 hS8; have g0 := of_decide_eq_true hG0; have g1 := of_decide_eq_false hG1; simp only [ge_iff_le] at g0 g1; unfold mayEn; rw [Bool.eq_iff_iff]; simp [h1, hS6, hS7, hS8, g0, g1, hab, and_assoc]), h.below⟩⟩⟩⟩⟩) rfl (fun _ => by cases q0; (cases q9; (kernel_rfl); (cases al; (kernel_rfl); (cases q7; (kernel_rfl); (cases q10 <;> kernel_rfl)))); (cases q1; (cases q9; (kernel_rfl); (cases al; (kernel_rfl); (cases q7; (kernel_rfl); (cases q10 <;> kernel_rfl)))); (cases q2; (cases q9; (kernel_rfl); (cases al; (kernel_rfl); (cases q7; (kernel_rfl); (cases q10 <;> kernel_rfl)))); (cases q3; (cases q9; (kernel_rfl); (cases al; (kernel_rfl); (cases q7; (kernel_rfl); (cases q10 <;> kernel_rfl)))); (cases q4; (cases q9; (kernel_rfl); (cases al; (kernel_rfl); (cases q7; (kernel_rfl); (cases q10 <;> kernel_rfl)))); (cases q9; (kernel_rfl); (cases al; (kernel_rfl); (cases q7; (kernel_rfl); (cases q10 <;> kernel_rfl)))))))))
 ·obtain ⟨q0, hq0⟩ : ∃ b, (numB vm 15) = b := ⟨_, rfl⟩
  obtain ⟨q1, hq1⟩ : ∃ b, (numB sp 15) = b := ⟨_, rfl⟩
  obtain ⟨q2, hq2⟩ : ∃ b, (numB pg 4095) = b := ⟨_, rfl⟩
  obtain ⟨q3, hq3⟩ : ∃ b, (numB fr 4095) = b := ⟨_, rfl⟩
  obtain ⟨q4, hq4⟩ : ∃ b, (numB mi 4095) = b := ⟨_, rfl⟩
  obtain ⟨q5, hq5⟩ : ∃ b, (s != 0) = b := ⟨_, rfl⟩
  obtain ⟨q6, hq6⟩ : ∃ b, (k == 1) = b := ⟨_, rfl⟩
  obtain ⟨q7, hq7⟩ : ∃ b, (lv == 0) = b := ⟨_, rfl⟩
  obtain ⟨q8, hq8⟩ : ∃ b, (k == 2) = b := ⟨_, rfl⟩
  obtain ⟨q9, hq9⟩ : ∃ b, (sp == 0) = b := ⟨_, rfl⟩
  obtain ⟨q10, hq10⟩ : ∃ b, (mi == 0) = b := ⟨_, rfl⟩
  obtain ⟨q11, hq11⟩ : ∃ b, (k == 3) = b := ⟨_, rfl⟩
  exact calls_ex mixedT [] (.r 1 [a1 1 0 1, (2, .call 74 (fun _ => [.int .i64 vm]) (fun _ => .bool q0)), a1 6 0 2, (7, .call 74 (fun _ => [.int .i64 sp]) (fun _ => .bool q1)), a1 12 0 4, (13, .call 32 (fun _ => [.int .i64 pg]) (fun _ => .bool q2)), a1 18 0 6, (19, .call 32 (fun _ => [.int .i64 fr]) (fun _ => .bool q3)), a1 24 0 7, (25, .call 32 (fun _ => [.int .i64 mi]) (fun _ => .bool q4)), a1 31 0 13, (32, .rw (fun _ => .bool (s != 0)) (fun _ => .bool q5))] (.split ((((((!q0) || (!q1)) || (!q2)) || (!q3)) || (!q4)) || q5) (.fin [] (fun _ => .bool false) []) (.r 3 [a1 1 0 0] (.r 4 [(0, .rw (fun _ => .bool (k == 1)) (fun _ => .bool q6))] (.split (q6) (.r 5 [a1 1 0 5, (2, .rw (fun _ => .bool (lv == 0)) (fun _ => .bool q7))] (.fin [] (fun _ => .bool q7) [])) (.r 6 [(0, .rw (fun _ => .bool (k == 2)) (fun _ => .bool q8))] (.split (q8) (.r 7 [a1 1 0 2, (2, .rw (fun _ => .bool (sp == 0)) (fun _ => .bool q9)), a1 5 0 3, a1 9 0 5, (10, .rw (fun _ => .bool (lv == 0)) (fun _ => .bool q7)), a1 14 0 7, (15, .rw (fun _ => .bool (mi == 0)) (fun _ => .bool q10)), a1 20 0 12] (.fin [] (fun _ => .bool ((((q9 && al) && q7) && q10) && (!n))) [])) (.r 8 [(0, .rw (fun _ => .bool (k == 3)) (fun _ => .bool q11))] (.split (q11) (.r 9 [a1 1 0 5, (2, .rw (fun _ => .bool (decide ((lv : Int) ≥ 1))) (fun _ => .bool false))] (.fin [] (fun _ => .bool false) [])) (.fin [] (fun _ => .bool false) [])))))))))) Tryz.func48 rfl (Fits.nil w) (⟨fun _ W _ => (below_same (tag9_any vm W)).mono fun _ _ hJ => ⟨hJ.1.trans (by rw [hq0]), hJ.2⟩, fun _ W _ => (below_same (tag9_any sp W)).mono fun _ _ hJ => ⟨hJ.1.trans (by rw [hq1]), hJ.2⟩, fun _ W _ => (below_same (page_any pg W)).mono fun _ _ hJ => ⟨hJ.1.trans (by rw [hq2]), hJ.2⟩, fun _ W _ => (below_same (page_any fr W)).mono fun _ _ hJ => ⟨hJ.1.trans (by rw [hq3]), hJ.2⟩, fun _ W _ => (below_same (page_any mi W)).mono fun _ _ hJ => ⟨hJ.1.trans (by rw [hq4]), hJ.2⟩, fun _ => congrArg Value.bool hq5, fun hS5 => fun _ _ h _ => ⟨ret_bool (by subst hq0 hq1 hq2 hq3 hq4 hq5 hq6 hq7 hq8 hq9 hq10 hq11; have h1 := hS5; simp only [Bool.or_eq_true, Bool.not_eq_true', bne_iff_ne, ne_eq] at h1; unfold mayEn; rcases h1 with ((((h1 | h1) | h1) | h1) | h1) | h1 <;> simp [h1]), h.below⟩, fun hS5 => ⟨fun _ => congrArg Value.bool hq6, fun hS6 => ⟨fun _ => congrArg Value.bool hq7, fun _ _ h _ => ⟨ret_bool (by subst hq0 hq1 hq2 hq3 hq4 hq5 hq6 hq7 hq8 hq9 hq10 hq11; have h1 := hS5; simp only [Bool.or_eq_false_iff, Bool.not_eq_false', bne_eq_false_iff_eq] at h1; simp only [beq_iff_eq, beq_eq_false_iff_ne, ne_eq] at hS6; have g0 := of_decide_eq_false hG0; simp only [ge_iff_le] at g0; unfold mayEn; rw [Bool.eq_iff_iff]; simp [h1, hS6, g0, hab, and_assoc]), h.below⟩⟩, fun hS6 => ⟨fun _ => congrArg Value.bool hq8, fun hS7 => ⟨fun _ => congrArg Value.bool hq9, fun _ => congrArg Value.bool hq7, fun _ => congrArg Value.bool hq10, fun _ _ h _ => ⟨ret_bool (by subst hq0 hq1 hq2 hq3 hq4 hq5 hq6 hq7 hq8 hq9 hq10 hq11; have h1 := hS5; simp only [Bool.or_eq_false_iff, Bool.not_eq_false', bne_eq_false_iff_eq] at h1; simp only [beq_iff_eq, beq_eq_false_iff_ne, ne_eq] at hS6 hS7; have g0 := of_decide_eq_false hG0; simp only [ge_iff_le] at g0; unfold mayEn; rw [Bool.eq_iff_iff]; simp [h1, hS6, hS7, g0, hab, and_assoc]), h.below⟩⟩, fun hS7 => ⟨fun _ => congrArg Value.bool hq11, fun hS8 => ⟨fun _ => congrArg Value.bool hG0, fun _ _ h _ => ⟨ret_bool (by subst hq0 hq1 hq2 hq3 hq4 hq5 hq6 hq7 hq8 hq9 hq10 hq11; have h1 := hS5; simp only [Bool.or_eq_false_iff, Bool.not_eq_false', bne_eq_false_iff_eq] at h1; simp only [beq_iff_eq, beq_eq_false_iff_ne, ne_eq] at hS6 hS7 hS8; have g0 := of_decide_eq_false hG0; simp only [ge_iff_le] at g0; unfold mayEn; rw [Bool.eq_iff_iff]; simp [h1, hS6, hS7, hS8, g0, hab, and_assoc]), h.below⟩⟩, fun hS8 => fun _ _ h _ => ⟨ret_bool (by subst hq0 hq1 hq2 hq3 hq4 hq5 hq6 hq7 hq8 hq9 hq10 hq11; have h1 := hS5; simp only [Bool.or_eq_false_iff, Bool.not_eq_false', bne_eq_false_iff_eq] at h1; simp only [beq_iff_eq, beq_eq_false_iff_ne, ne_eq] at hS6 hS7 hS8; have g0 := of_decide_eq_false hG0; simp only [ge_iff_le] at g0; unfold mayEn; rw [Bool.eq_iff_iff]; simp [h1, hS6, hS7, hS8, g0, hab, and_assoc]), h.below⟩⟩⟩⟩⟩) rfl (fun _ => by cases q0; (cases q9; (kernel_rfl); (cases al; (kernel_rfl); (cases q7; (kernel_rfl); (cases q10 <;> kernel_rfl)))); (cases q1; (cases q9; (kernel_rfl); (cases al; (kernel_rfl); (cases q7; (kernel_rfl); (cases q10 <;> kernel_rfl)))); (cases q2; (cases q9; (kernel_rfl); (cases al; (kernel_rfl); (cases q7; (kernel_rfl); (cases q10 <;> kernel_rfl)))); (cases q3; (cases q9; (kernel_rfl); (cases al; (kernel_rfl); (cases q7; (kernel_rfl); (cases q10 <;> kernel_rfl)))); (cases q4; (cases q9; (kernel_rfl); (cases al; (kernel_rfl); (cases q7; (kernel_rfl); (cases q10 <;> kernel_rfl)))); (cases q9; (kernel_rfl); (cases al; (kernel_rfl); (cases q7; (kernel_rfl); (cases q10 <;> kernel_rfl)))))))))
end
section
open Go.ChangeShapes Go.WideShapes Go.ChangeAt Go.RowKit Go.Deep
theorem rows_drop {α : Type} {L : List α} {k : Nat} {x : α} (h : L[k]? = some x) : L.drop k = x :: L.drop (k + 1) := by
 obtain ⟨hk, rfl⟩ := List.getElem?_eq_some_iff.1 h
 exact List.drop_eq_getElem_cons hk
theorem rows_end {α : Type} {L : List α} {k l : Nat} (h : l = L.length) (hk : ¬ k < l) : L.drop k = [] := List.drop_eq_nil_of_le (by omega)
theorem rows_some {α : Type} {L : List α} {k l : Nat} (h : l = L.length) (hk : k < l) : ∃ x, L[k]? = some x := ⟨_, List.getElem?_eq_getElem (by omega)⟩
set_option maxRecDepth 100000 in
set_option maxHeartbeats 3200000 in
theorem in9_any (f : Option Addr) (l c : Nat) (L : List Ety) (e : Ety) (w : World) (hL : RowsAt KE w f L) (hn : l = L.length) (hl : l ≤ 1000000) :
  Calls Tryz.prog 49 #[.slice f l c, entV e] w fun r w' => r = .returned (.int .i64 (inE L e)) ∧ Below w.heap.size w w' := by
 have HL := Lib.hid hL
 have HN := Lib.hid hn
 clear hL hn
 unfold entV entC
 have htw : w.heap.size ≤ w.heap.size := Nat.le_refl _
 have B0 := Lib.hid (Below.refl w.heap.size w)
 go_enter Tryz.func49, Tryz.ntmps49
 go_upto_region 1 with fail
 have E1 := Lib.hid ((BoxAt.newAt (w) #[.int .i64 e.k, .int .i64 e.vm, .int .i64 e.sp, .bool e.al, .int .i64 e.pg, .int .i64 e.lv, .int .i64 e.fr, .int .i64 e.mi, .bool e.t.r, .bool e.t.w, .bool e.t.x, .bool e.t.a, .bool e.t.n, .int .i64 e.t.s] 89 (w.heap.size) (by first | omega | (simp; done) | (simp; omega))))
 have B1 := Lib.hid ((bel_alloc B0.out (.cells #[.int .i64 e.k, .int .i64 e.vm, .int .i64 e.sp, .bool e.al, .int .i64 e.pg, .int .i64 e.lv, .int .i64 e.fr, .int .i64 e.mi, .bool e.t.r, .bool e.t.w, .bool e.t.x, .bool e.t.a, .bool e.t.n, .int .i64 e.t.s] 89)))
 obtain ⟨g1, hg1⟩ : ∃ g1, g1 = w.heap.size := ⟨_, rfl⟩
 obtain ⟨W1, hW1⟩ : ∃ W1, W1 = (w).alloc (.cells #[.int .i64 e.k, .int .i64 e.vm, .int .i64 e.sp, .bool e.al, .int .i64 e.pg, .int .i64 e.lv, .int .i64 e.fr, .int .i64 e.mi, .bool e.t.r, .bool e.t.w, .bool e.t.x, .bool e.t.a, .bool e.t.n, .int .i64 e.t.s] 89) := ⟨_, rfl⟩
 have hs1 : g1 + 1 ≤ W1.heap.size := by rw [hW1, hg1]; simp
 rw [← hW1] at E1 B1 ⊢
 have hb1 : w.heap.size ≤ g1 := by omega
 rw [← hg1] at E1 ⊢
 clear hg1
 clear hW1 B0
 go_wp2
 go_loopw [5] (fun i wr => ∃ k : Nat, k ≤ l ∧ i = .int .i64 k ∧ Hid (BoxAt wr (g1) #[.int .i64 e.k, .int .i64 e.vm, .int .i64 e.sp, .bool e.al, .int .i64 e.pg, .int .i64 e.lv, .int .i64 e.fr, .int .i64 e.mi, .bool e.t.r, .bool e.t.w, .bool e.t.x, .bool e.t.a, .bool e.t.n, .int .i64 e.t.s] 89) ∧ Hid (Below w.heap.size w wr) ∧ Hid (placeE (fun x => eqE x e) (L.drop k) k = inE L e)) (fun i _ => l - (intOf i).toNat)
 case atStart => exact ⟨0, Nat.zero_le _, rfl, E1.out, B1.out, Lib.hid rfl⟩
 case round =>
  obtain ⟨k, hk, rfl, Er, Br, HQ⟩ := hrel
  clear E1 B1
  have hsr : g1 + 1 ≤ wr.heap.size := Er.out.lt
  by_cases hlt : k < l
  ·obtain ⟨x, hx⟩ := rows_some HN.out hlt
   obtain ⟨b, o, rfl, hr0⟩ := HL.out k x hx
   have HRX := Lib.hid (show RowAt w b (o + k * 14) 14 #[.int .i64 x.k, .int .i64 x.vm, .int .i64 x.sp, .bool x.al, .int .i64 x.pg, .int .i64 x.lv, .int .i64 x.fr, .int .i64 x.mi, .bool x.t.r, .bool x.t.w, .bool x.t.x, .bool x.t.a, .bool x.t.n, .int .i64 x.t.s] from hr0)
   have hbk : b < w.heap.size := hr0.lt
   clear hr0
   have i1 : (0 : Int) ≤ (k : Int) := by omega
   have i2 : (k : Int) < (l : Int) := by omega
   have HQ := HQ.out
   rw [rows_drop hx] at HQ
   unfold placeE at HQ
   try simp only at HQ
   cases hc : eqE x e
   ·rw [hc, if_neg (by decide)] at HQ
    have HQ := Lib.hid (show placeE (fun x => eqE x e) (L.drop (k + 1)) ((k + 1 : Nat) : Int) = inE L e from HQ)
    clear hx
    go_upto_region 4 with fail
    refine wp_region_held_drew (S := (fun w' => RowAt w' (b) (o + k * 14) 14 #[.int .i64 x.k, .int .i64 x.vm, .int .i64 x.sp, .bool x.al, .int .i64 x.pg, .int .i64 x.lv, .int .i64 x.fr, .int .i64 x.mi, .bool x.t.r, .bool x.t.w, .bool x.t.x, .bool x.t.a, .bool x.t.n, .int .i64 x.t.s] ∧ BoxAt w' (g1) #[.int .i64 e.k, .int .i64 e.vm, .int .i64 e.sp, .bool e.al, .int .i64 e.pg, .int .i64 e.lv, .int .i64 e.fr, .int .i64 e.mi, .bool e.t.r, .bool e.t.w, .bool e.t.x, .bool e.t.a, .bool e.t.n, .int .i64 e.t.s] 89)) (by kernel_rfl) ⟨(HRX.out.below Br.out).drew, Er.out.drew⟩ (fun hS => ?_)
    refine tkR 0 12 (v := .slice (some ⟨b, o, none⟩) l c) rfl hS (fun _ _ => by kernel_rfl) ?_
    refine tkR 1 13 (v := .int .i64 k) rfl hS (fun _ _ => by kernel_rfl) ?_
    refine tkR 2 14 (v := .pointer (some ⟨b, o + k * 14, none⟩)) rfl hS (fun _ _ => run_ixN 32 89 (.tmp 12) (.tmp 13) b o l c k 14 (by kernel_rfl) (by kernel_rfl) (by kernel_rfl) Tryz.underlying32 (by kernel_rfl) hlt) ?_
    refine tkR 3 15 (v := .agg #[.int .i64 x.k, .int .i64 x.vm, .int .i64 x.sp, .bool x.al, .int .i64 x.pg, .int .i64 x.lv, .int .i64 x.fr, .int .i64 x.mi, .bool x.t.r, .bool x.t.w, .bool x.t.x, .bool x.t.a, .bool x.t.n, .int .i64 x.t.s]) rfl hS (fun _ h => run_ldN 89 (.tmp 14) b (o + k * 14) (by kernel_rfl) (by kernel_rfl) Tryz.underlying89 rfl (by kernel_rfl) ((h.1).sub 0 _ rfl (Nat.le_of_ble_eq_true rfl))) ?_
    refine tkR 4 16 (v := .agg #[.int .i64 e.k, .int .i64 e.vm, .int .i64 e.sp, .bool e.al, .int .i64 e.pg, .int .i64 e.lv, .int .i64 e.fr, .int .i64 e.mi, .bool e.t.r, .bool e.t.w, .bool e.t.x, .bool e.t.a, .bool e.t.n, .int .i64 e.t.s]) rfl hS (fun _ h => run_ldN 89 (.tmp 3) g1 0 (by kernel_rfl) (by kernel_rfl) Tryz.underlying89 rfl (by kernel_rfl) ((h.2).sub 0 _ rfl)) ?_
    try simp only [Act.put, List.setIfInBounds_toArray, List.set_cons_zero, List.set_cons_succ]
    refine tkR 5 17 rfl hS (fun w' _ => by go_simp; try with_reducible rfl) ?_
    simp only [pA, pB, pC]
    refine wpAnyH_done (by kernel_rfl) ?_ _
    try simp only [Act.put, List.setIfInBounds_toArray, List.set_cons_zero, List.set_cons_succ]
    have E2 := Lib.hid ((Er.out.drew))
    have B2 := Lib.hid ((Below.drew Br.out))
    obtain ⟨W2, hW2⟩ : ∃ W2, W2 = (wr).drew := ⟨_, rfl⟩
    have hs2 : g1 + 1 ≤ W2.heap.size := by rw [hW2]; first | exact hsr | omega | (simp; omega)
    rw [← hW2] at E2 B2 ⊢
    clear hW2 Er Br hsr
    go_wp2
    go_roundw
    case rel => exact ⟨k + 1, by omega, by go_num, E2.out, B2.out, HQ⟩
    case measure => simp [intOf]; omega
   ·rw [hc, if_pos rfl] at HQ
    have HQ := Lib.hid HQ
    clear hx
    go_upto_region 4 with fail
    refine wp_region_held_drew (S := (fun w' => RowAt w' (b) (o + k * 14) 14 #[.int .i64 x.k, .int .i64 x.vm, .int .i64 x.sp, .bool x.al, .int .i64 x.pg, .int .i64 x.lv, .int .i64 x.fr, .int .i64 x.mi, .bool x.t.r, .bool x.t.w, .bool x.t.x, .bool x.t.a, .bool x.t.n, .int .i64 x.t.s] ∧ BoxAt w' (g1) #[.int .i64 e.k, .int .i64 e.vm, .int .i64 e.sp, .bool e.al, .int .i64 e.pg, .int .i64 e.lv, .int .i64 e.fr, .int .i64 e.mi, .bool e.t.r, .bool e.t.w, .bool e.t.x, .bool e.t.a, .bool e.t.n, .int .i64 e.t.s] 89)) (by kernel_rfl) ⟨(HRX.out.below Br.out).drew, Er.out.drew⟩ (fun hS => ?_)
    refine tkR 0 12 (v := .slice (some ⟨b, o, none⟩) l c) rfl hS (fun _ _ => by kernel_rfl) ?_
    refine tkR 1 13 (v := .int .i64 k) rfl hS (fun _ _ => by kernel_rfl) ?_
    refine tkR 2 14 (v := .pointer (some ⟨b, o + k * 14, none⟩)) rfl hS (fun _ _ => run_ixN 32 89 (.tmp 12) (.tmp 13) b o l c k 14 (by kernel_rfl) (by kernel_rfl) (by kernel_rfl) Tryz.underlying32 (by kernel_rfl) hlt) ?_
    refine tkR 3 15 (v := .agg #[.int .i64 x.k, .int .i64 x.vm, .int .i64 x.sp, .bool x.al, .int .i64 x.pg, .int .i64 x.lv, .int .i64 x.fr, .int .i64 x.mi, .bool x.t.r, .bool x.t.w, .bool x.t.x, .bool x.t.a, .bool x.t.n, .int .i64 x.t.s]) rfl hS (fun _ h => run_ldN 89 (.tmp 14) b (o + k * 14) (by kernel_rfl) (by kernel_rfl) Tryz.underlying89 rfl (by kernel_rfl) ((h.1).sub 0 _ rfl (Nat.le_of_ble_eq_true rfl))) ?_
    refine tkR 4 16 (v := .agg #[.int .i64 e.k, .int .i64 e.vm, .int .i64 e.sp, .bool e.al, .int .i64 e.pg, .int .i64 e.lv, .int .i64 e.fr, .int .i64 e.mi, .bool e.t.r, .bool e.t.w, .bool e.t.x, .bool e.t.a, .bool e.t.n, .int .i64 e.t.s]) rfl hS (fun _ h => run_ldN 89 (.tmp 3) g1 0 (by kernel_rfl) (by kernel_rfl) Tryz.underlying89 rfl (by kernel_rfl) ((h.2).sub 0 _ rfl)) ?_
    try simp only [Act.put, List.setIfInBounds_toArray, List.set_cons_zero, List.set_cons_succ]
    refine tkR 5 17 rfl hS (fun w' _ => by go_simp; try with_reducible rfl) ?_
    simp only [pA, pB, pC]
    refine wpAnyH_done (by kernel_rfl) ?_ _
    try simp only [Act.put, List.setIfInBounds_toArray, List.set_cons_zero, List.set_cons_succ]
    have E2 := Lib.hid ((Er.out.drew))
    have B2 := Lib.hid ((Below.drew Br.out))
    obtain ⟨W2, hW2⟩ : ∃ W2, W2 = (wr).drew := ⟨_, rfl⟩
    have hs2 : g1 + 1 ≤ W2.heap.size := by rw [hW2]; first | exact hsr | omega | (simp; omega)
    rw [← hW2] at E2 B2 ⊢
    clear hW2 Er Br hsr
    go_wp2
    go_ret
    exact ⟨ret_int HQ.out, B2.out⟩
  ·have HQ := HQ.out
   rw [rows_end HN.out hlt] at HQ
   have HQ := Lib.hid (show (-1 : Int) = inE L e from HQ)
   go_wp2
   go_ret
   exact ⟨ret_int HQ.out, Br.out⟩
end
end Go.Proofs.YtmelepohdbojlaaGreat
