/- Whether an entry may be, and the reference's answer: contracts. -/
import Derived.Test.YtbhnjaajkolklaaGreatDb
import Derived.Test.YtbhnjaajkolklaaGreatTk
import Derived.Test.YtbhnjaajkolklaaGreatEo
set_option linter.all false
namespace Go.Proofs.YtbhnjaajkolklaaGreat
open Go.ChangeShapes Go.WideShapes Go.ChangeAt Go.RowKit Go.Deep

theorem emayBe_any (st lv : Int) (k f : Int) (r wr x a n : Bool) (s o : Int) (w : World) :
    Calls Tryz.prog 86 #[.agg #[.int .i64 st, .int .i64 lv, .int .i64 k, .int .i64 f, .bool r, .bool wr, .bool x, .bool a, .bool n, .int .i64 s, .int .i64 o]] w fun e w' => e = .returned (.bool (mayE st lv (Dsc.mk k f r wr x a n s o))) ∧ Below w.heap.size w w' := by
  have hm : mayE st lv (Dsc.mk k f r wr x a n s o) = (placeB st lv && mayD st lv (Dsc.mk k f r wr x a n s o)) := rfl
  have HM := Lib.hid hm
  have HS := Lib.hid (fun W => spot_mayBe st lv W)
  clear hm
  cases hp : placeB st lv
  · rw [hp] at HS HM
    clear hp
    go_enter Tryz.func86, Tryz.ntmps86
    go_wp2_with (go_at_call 103; refine (HS.out _).mono ?_; rintro e w' ⟨rfl, rfl⟩)
    go_ret
    rw [HM.out]
    exact ⟨rfl, by go_grown⟩
  · obtain ⟨_, hl0, hl3⟩ := placeB_iff.1 hp
    rw [hp, Bool.true_and] at HM
    rw [hp] at HS
    clear hp
    by_cases k0 : k = 0
    · subst k0
      have HN := Lib.hid (fun W => none_any st lv 0 f r wr x a n s o W rfl)
      have he : mayD st lv (Dsc.mk 0 f r wr x a n s o) = noneD st (Dsc.mk 0 f r wr x a n s o) := rfl
      rw [he] at HM
      clear he
      go_enter Tryz.func86, Tryz.ntmps86
      go_wp2_with (first | (go_at_call 103; refine (HS.out _).mono ?_; rintro e w' ⟨rfl, rfl⟩) | (go_at_call 104; refine (HN.out _).mono ?_; rintro e w' ⟨rfl, hb1⟩))
      go_ret
      rw [HM.out]
      exact ⟨rfl, bel_trans (by go_grown) hb1⟩
    · have t0 : (k == 0) = false := by simpa using k0
      by_cases k1 : k = 1
      · subst k1
        have HN := Lib.hid (fun W => table_any st lv 1 f r wr x a n s o W rfl)
        have he : mayD st lv (Dsc.mk 1 f r wr x a n s o) = tableD lv (Dsc.mk 1 f r wr x a n s o) := rfl
        rw [he] at HM
        clear he
        go_enter Tryz.func86, Tryz.ntmps86
        go_wp2_with (first | (go_at_call 103; refine (HS.out _).mono ?_; rintro e w' ⟨rfl, rfl⟩) | (go_at_call 105; refine (HN.out _).mono ?_; rintro e w' ⟨rfl, hb1⟩))
        go_ret
        rw [HM.out]
        exact ⟨rfl, bel_trans (by go_grown) hb1⟩
      · have t1 : (k == 1) = false := by simpa using k1
        by_cases k2 : k = 2
        · subst k2
          have HN := Lib.hid (fun W => leaf_any st lv 2 f r wr x a n s o W hl0 hl3)
          have he : mayD st lv (Dsc.mk 2 f r wr x a n s o) = leafD st lv (Dsc.mk 2 f r wr x a n s o) := rfl
          rw [he] at HM
          clear he
          go_enter Tryz.func86, Tryz.ntmps86
          go_wp2_with (first | (go_at_call 103; refine (HS.out _).mono ?_; rintro e w' ⟨rfl, rfl⟩) | (go_at_call 106; refine (HN.out _).mono ?_; rintro e w' ⟨rfl, hb1⟩))
          go_ret
          rw [HM.out]
          exact ⟨rfl, bel_trans (by go_grown) hb1⟩
        · have t2 : (k == 2) = false := by simpa using k2
          have he : mayD st lv (Dsc.mk k f r wr x a n s o) = false := by simp [mayD, k0, k1, k2]
          rw [he] at HM
          clear he k0 k1 k2
          go_enter Tryz.func86, Tryz.ntmps86
          go_wp2_with (go_at_call 103; refine (HS.out _).mono ?_; rintro e w' ⟨rfl, rfl⟩)
          go_ret
          rw [HM.out]
          exact ⟨rfl, by go_grown⟩
theorem remD_opc {ft : List Nat} {w0 W : World} {k : Nat} {pre : BL} {E : Env} {ρ : Operand → Value} {o : Oper} {x y : Operand} {a b : Int} (ho : o.op = .binOp .rem 3 x y 3) (hx : [ρ x, ρ y] = [.int .i64 a, .int .i64 b]) (hk : Keep ft w0 W) (hb : b ≠ 0) :
    ∃ x' q w', (execOp ρ o).run Tryz.prog W = .ok (.value x') w' ∧ GPost ft w0 k (fun _ => .int .i64 (Int.tmod a b)) pre [] [] E W (.returned x') w' q := by
  refine opc_bin ho hx hk ?_ rfl
  go_simp
theorem rdesc_any (st lv : Int) (k f : Int) (r wr x a n : Bool) (s o : Int) (w : World) (hp : placeB st lv = true) :
    Calls Tryz.prog 12 #[.int .i64 st, .int .i64 lv, .agg #[.int .i64 k, .int .i64 f, .bool r, .bool wr, .bool x, .bool a, .bool n, .int .i64 s, .int .i64 o]] w fun e w' => e = .returned (.bool (mayD st lv (Dsc.mk k f r wr x a n s o))) ∧ Below w.heap.size w w' := by
  obtain ⟨hst, hl0, hl3⟩ := placeB_iff.1 hp
  have hc9 : cov lv ≠ 0 := by have := cov_pos lv; omega
  have hNone : (k == 0) = true → ((eqD (Dsc.mk k f r wr x a n s o) (Dsc.mk 0 0 false false false false false 0 o) && numB o 15) && ((st == 2) || (o == 0))) = mayD st lv (Dsc.mk k f r wr x a n s o) := fun h => by
    obtain rfl := beq_iff_eq.1 h
    unfold mayD noneD
    simp only [if_true]
    by_cases h0 : o = 0
    · subst h0
      cases eqD (Dsc.mk 0 f r wr x a n s 0) (Dsc.mk 0 0 false false false false false 0 0) <;> simp [numB]
    · cases eqD (Dsc.mk 0 f r wr x a n s o) (Dsc.mk 0 0 false false false false false 0 o) <;> cases numB o 15 <;> simp [h0]
      rw [beq_int st 2, beq_int o 0, decide_eq_false h0, Bool.or_false]
  have hTable : (k == 0) = false → (k == 1) = true → ((decide (lv < 3) && eqD (Dsc.mk k f r wr x a n s o) (Dsc.mk 1 f false false false false false 0 0)) && numB f 4095) = mayD st lv (Dsc.mk k f r wr x a n s o) := fun _ h => by
    obtain rfl := beq_iff_eq.1 h
    unfold mayD tableD
    rw [show decide (lv < 3) = decide (lv ≠ 3) from decide_eq_decide.2 (by omega)]
    cases decide (lv ≠ 3) <;> cases eqD (Dsc.mk 1 f r wr x a n s o) (Dsc.mk 1 f false false false false false 0 0) <;> simp
  have hLeaf : (k == 0) = false → (k == 1) = false → (k == 2) = true → ((((decide (lv > 0) && numB f 4095) && (Int.tmod f (cov lv) == 0)) && (o == 0)) && ((((st == 2) && (!n)) && numB s 15) || (((st == 1) && r) && (s == 0)))) = mayD st lv (Dsc.mk k f r wr x a n s o) := fun _ _ h => by
    obtain rfl := beq_iff_eq.1 h
    unfold mayD leafD attrD
    rw [show decide (lv > 0) = decide (lv ≠ 0) from decide_eq_decide.2 (by omega), ← beq_int (Int.tmod f (cov lv)) 0, ← beq_int o 0, ← beq_int s 0]
    rcases hst with rfl | rfl <;> cases decide (lv ≠ 0) <;> cases numB f 4095 <;> cases (Int.tmod f (cov lv) == 0) <;> cases (o == 0) <;> cases n <;> cases r <;> cases numB s 15 <;> cases (s == 0) <;> rfl
  have hOther : (k == 0) = false → (k == 1) = false → (k == 2) = false → false = mayD st lv (Dsc.mk k f r wr x a n s o) := fun h0 h1 h2 => by
    simp only [beq_eq_false_iff_ne, ne_eq] at h0 h1 h2
    unfold mayD
    simp only [h0, h1, h2, if_false]
  obtain ⟨q0, hq0⟩ : ∃ b, (k == 0) = b := ⟨_, rfl⟩
  obtain ⟨q1, hq1⟩ : ∃ b, (eqD (Dsc.mk k f r wr x a n s o) (Dsc.mk 0 0 false false false false false 0 o)) = b := ⟨_, rfl⟩
  obtain ⟨q2, hq2⟩ : ∃ b, (numB o 15) = b := ⟨_, rfl⟩
  obtain ⟨q3, hq3⟩ : ∃ b, (st == 2) = b := ⟨_, rfl⟩
  obtain ⟨q4, hq4⟩ : ∃ b, (o == 0) = b := ⟨_, rfl⟩
  obtain ⟨q5, hq5⟩ : ∃ b, (k == 1) = b := ⟨_, rfl⟩
  obtain ⟨q6, hq6⟩ : ∃ b, (decide ((lv : Int) < 3)) = b := ⟨_, rfl⟩
  obtain ⟨q7, hq7⟩ : ∃ b, (eqD (Dsc.mk k f r wr x a n s o) (Dsc.mk 1 f false false false false false 0 0)) = b := ⟨_, rfl⟩
  obtain ⟨q8, hq8⟩ : ∃ b, (numB f 4095) = b := ⟨_, rfl⟩
  obtain ⟨q9, hq9⟩ : ∃ b, (k == 2) = b := ⟨_, rfl⟩
  obtain ⟨q10, hq10⟩ : ∃ b, (decide ((lv : Int) > 0)) = b := ⟨_, rfl⟩
  obtain ⟨q11, hq11⟩ : ∃ b, ((Int.tmod f (cov lv)) == 0) = b := ⟨_, rfl⟩
  obtain ⟨q12, hq12⟩ : ∃ b, (numB s 15) = b := ⟨_, rfl⟩
  obtain ⟨q13, hq13⟩ : ∃ b, (st == 1) = b := ⟨_, rfl⟩
  obtain ⟨q14, hq14⟩ : ∃ b, (s == 0) = b := ⟨_, rfl⟩
  exact calls_ex mixedT [] (.r 1 [a1 1 0 0] (.r 2 [(0, .rw (fun _ => .bool (k == 0)) (fun _ => .bool q0))] (.split (q0) (.r 3 [aN 0 0 0 9, a1 2 0 8, (4, .opc (.binOp .eql 37 (.tmp 12) (.tmp 15) 37) (fun _ => [.agg #[.int .i64 k, .int .i64 f, .bool r, .bool wr, .bool x, .bool a, .bool n, .int .i64 s, .int .i64 o], .agg #[.int .i64 0, .int .i64 0, .bool false, .bool false, .bool false, .bool false, .bool false, .int .i64 0, .int .i64 o]]) (fun _ => .bool q1) [] [] 0 []), a1 7 0 8, (8, .call 21 (fun _ => [.int .i64 o, .int .i64 15]) (fun _ => .bool q2)), (12, .rw (fun _ => .bool (st == 2)) (fun _ => .bool q3)), a1 15 0 8, (16, .rw (fun _ => .bool (o == 0)) (fun _ => .bool q4))] (.fin [] (fun _ => .bool ((q1 && q2) && (q3 || q4))) [])) (.r 4 [(0, .rw (fun _ => .bool (k == 1)) (fun _ => .bool q5))] (.split (q5) (.r 5 [(1, .rw (fun _ => .bool (decide ((lv : Int) < 3))) (fun _ => .bool q6)), aN 3 0 0 9, a1 5 0 1, (7, .opc (.binOp .eql 37 (.tmp 36) (.tmp 39) 37) (fun _ => [.agg #[.int .i64 k, .int .i64 f, .bool r, .bool wr, .bool x, .bool a, .bool n, .int .i64 s, .int .i64 o], .agg #[.int .i64 1, .int .i64 f, .bool false, .bool false, .bool false, .bool false, .bool false, .int .i64 0, .int .i64 0]]) (fun _ => .bool q7) [] [] 0 []), a1 11 0 1, (12, .call 11 (fun _ => [.int .i64 f]) (fun _ => .bool q8))] (.fin [] (fun _ => .bool ((q6 && q7) && q8)) [])) (.r 6 [(0, .rw (fun _ => .bool (k == 2)) (fun _ => .bool q9))] (.split (q9) (.r 7 [aN 1 0 2 6, aN 3 1 0 6] (.r 8 [(1, .rw (fun _ => .bool (decide ((lv : Int) > 0))) (fun _ => .bool q10)), a1 4 0 1, (5, .call 11 (fun _ => [.int .i64 f]) (fun _ => .bool q8)), a1 9 0 1, (11, .call 22 (fun _ => [.int .i64 lv]) (fun _ => .int .i64 (cov lv))), (12, .opc (.binOp .rem 3 (.tmp 60) (.tmp 62) 3) (fun _ => [.int .i64 f, .int .i64 (cov lv)]) (fun _ => .int .i64 (Int.tmod f (cov lv))) [] [] 0 []), (13, .rw (fun _ => .bool ((Int.tmod f (cov lv)) == 0)) (fun _ => .bool q11)), a1 17 0 8, (18, .rw (fun _ => .bool (o == 0)) (fun _ => .bool q4)), (22, .rw (fun _ => .bool (st == 2)) (fun _ => .bool q3)), a1 25 1 4, a1 30 1 5, (31, .call 21 (fun _ => [.int .i64 s, .int .i64 15]) (fun _ => .bool q12)), (35, .rw (fun _ => .bool (st == 1)) (fun _ => .bool q13)), a1 38 1 0, a1 42 1 5, (43, .rw (fun _ => .bool (s == 0)) (fun _ => .bool q14))] (.fin [] (fun _ => .bool ((((q10 && q8) && q11) && q4) && (((q3 && (!n)) && q12) || ((q13 && r) && q14)))) []))) (.fin [] (fun _ => .bool false) [])))))))) Tryz.func12 rfl (Fits.nil w) (⟨fun _ => congrArg Value.bool hq0, fun hS4 => ⟨fun E W ρ o ho hx hk hp => by rw [← hq1]; exact (fun _ W _ _ ho hx hk _ => opc_two ho hx hk (by kernel_rfl) (eql_desc _ _ _ _ _ _ _ _ _ _ _ _ _ _ _ _ _ _ W)) E W ρ o ho hx hk hp, fun _ W _ => (below_same (num_any o 15 W)).mono fun _ _ hJ => ⟨hJ.1.trans (by rw [hq2]), hJ.2⟩, fun _ => congrArg Value.bool hq3, fun _ => congrArg Value.bool hq4, fun _ _ h _ => ⟨ret_bool (by subst hq0 hq1 hq2 hq3 hq4 hq5 hq6 hq7 hq8 hq9 hq10 hq11 hq12 hq13 hq14; exact hNone hS4), h.below⟩⟩, fun hS4 => ⟨fun _ => congrArg Value.bool hq5, fun hS5 => ⟨fun _ => congrArg Value.bool hq6, fun E W ρ o ho hx hk hp => by rw [← hq7]; exact (fun _ W _ _ ho hx hk _ => opc_two ho hx hk (by kernel_rfl) (eql_desc _ _ _ _ _ _ _ _ _ _ _ _ _ _ _ _ _ _ W)) E W ρ o ho hx hk hp, fun _ W _ => (below_same (page_any f W)).mono fun _ _ hJ => ⟨hJ.1.trans (by rw [hq8]), hJ.2⟩, fun _ _ h _ => ⟨ret_bool (by subst hq0 hq1 hq2 hq3 hq4 hq5 hq6 hq7 hq8 hq9 hq10 hq11 hq12 hq13 hq14; exact hTable hS4 hS5), h.below⟩⟩, fun hS5 => ⟨fun _ => congrArg Value.bool hq9, fun hS6 => ⟨fun _ => congrArg Value.bool hq10, fun _ W _ => (below_same (page_any f W)).mono fun _ _ hJ => ⟨hJ.1.trans (by rw [hq8]), hJ.2⟩, fun _ W _ => rcovers_any lv W hl0 hl3, fun _ W _ _ ho hx hk _ => remD_opc ho hx hk hc9, fun _ => congrArg Value.bool hq11, fun _ => congrArg Value.bool hq4, fun _ => congrArg Value.bool hq3, fun _ W _ => (below_same (num_any s 15 W)).mono fun _ _ hJ => ⟨hJ.1.trans (by rw [hq12]), hJ.2⟩, fun _ => congrArg Value.bool hq13, fun _ => congrArg Value.bool hq14, fun _ _ h _ => ⟨ret_bool (by subst hq0 hq1 hq2 hq3 hq4 hq5 hq6 hq7 hq8 hq9 hq10 hq11 hq12 hq13 hq14; exact hLeaf hS4 hS5 hS6), h.below⟩⟩, fun hS6 => fun _ _ h _ => ⟨ret_bool (by subst hq0 hq1 hq2 hq3 hq4 hq5 hq6 hq7 hq8 hq9 hq10 hq11 hq12 hq13 hq14; exact hOther hS4 hS5 hS6), h.below⟩⟩⟩⟩) rfl (fun _ => by cases q1; (cases q6; (cases q10; (kernel_rfl); (cases q8; (kernel_rfl); (cases q11; (kernel_rfl); (cases q4; (kernel_rfl); (cases q3; (cases q13; (kernel_rfl); (cases r <;> kernel_rfl)); (cases n; (cases q12; (cases q13; (kernel_rfl); (cases r <;> kernel_rfl)); (kernel_rfl)); (cases q13; (kernel_rfl); (cases r <;> kernel_rfl)))))))); (cases q7; (cases q10; (kernel_rfl); (cases q8; (kernel_rfl); (cases q11; (kernel_rfl); (cases q4; (kernel_rfl); (cases q3; (cases q13; (kernel_rfl); (cases r <;> kernel_rfl)); (cases n; (cases q12; (cases q13; (kernel_rfl); (cases r <;> kernel_rfl)); (kernel_rfl)); (cases q13; (kernel_rfl); (cases r <;> kernel_rfl)))))))); (cases q10; (kernel_rfl); (cases q8; (kernel_rfl); (cases q11; (kernel_rfl); (cases q4; (kernel_rfl); (cases q3; (cases q13; (kernel_rfl); (cases r <;> kernel_rfl)); (cases n; (cases q12; (cases q13; (kernel_rfl); (cases r <;> kernel_rfl)); (kernel_rfl)); (cases q13; (kernel_rfl); (cases r <;> kernel_rfl)))))))))); (cases q2; (cases q6; (cases q10; (kernel_rfl); (cases q8; (kernel_rfl); (cases q11; (kernel_rfl); (cases q4; (kernel_rfl); (cases q3; (cases q13; (kernel_rfl); (cases r <;> kernel_rfl)); (cases n; (cases q12; (cases q13; (kernel_rfl); (cases r <;> kernel_rfl)); (kernel_rfl)); (cases q13; (kernel_rfl); (cases r <;> kernel_rfl)))))))); (cases q7; (cases q10; (kernel_rfl); (cases q8; (kernel_rfl); (cases q11; (kernel_rfl); (cases q4; (kernel_rfl); (cases q3; (cases q13; (kernel_rfl); (cases r <;> kernel_rfl)); (cases n; (cases q12; (cases q13; (kernel_rfl); (cases r <;> kernel_rfl)); (kernel_rfl)); (cases q13; (kernel_rfl); (cases r <;> kernel_rfl)))))))); (cases q10; (kernel_rfl); (cases q8; (kernel_rfl); (cases q11; (kernel_rfl); (cases q4; (kernel_rfl); (cases q3; (cases q13; (kernel_rfl); (cases r <;> kernel_rfl)); (cases n; (cases q12; (cases q13; (kernel_rfl); (cases r <;> kernel_rfl)); (kernel_rfl)); (cases q13; (kernel_rfl); (cases r <;> kernel_rfl)))))))))); (cases q3; (cases q6; (cases q10; (kernel_rfl); (cases q8; (kernel_rfl); (cases q11; (kernel_rfl); (cases q4; (kernel_rfl); (cases q13; (kernel_rfl); (cases r <;> kernel_rfl)))))); (cases q7; (cases q10; (kernel_rfl); (cases q8; (kernel_rfl); (cases q11; (kernel_rfl); (cases q4; (kernel_rfl); (cases q13; (kernel_rfl); (cases r <;> kernel_rfl)))))); (cases q10; (kernel_rfl); (cases q8; (kernel_rfl); (cases q11; (kernel_rfl); (cases q4; (kernel_rfl); (cases q13; (kernel_rfl); (cases r <;> kernel_rfl)))))))); (cases q6; (cases q10; (kernel_rfl); (cases q8; (kernel_rfl); (cases q11; (kernel_rfl); (cases q4; (kernel_rfl); (cases n; (cases q12; (cases q13; (kernel_rfl); (cases r <;> kernel_rfl)); (kernel_rfl)); (cases q13; (kernel_rfl); (cases r <;> kernel_rfl))))))); (cases q7; (cases q10; (kernel_rfl); (cases q8; (kernel_rfl); (cases q11; (kernel_rfl); (cases q4; (kernel_rfl); (cases n; (cases q12; (cases q13; (kernel_rfl); (cases r <;> kernel_rfl)); (kernel_rfl)); (cases q13; (kernel_rfl); (cases r <;> kernel_rfl))))))); (cases q10; (kernel_rfl); (cases q8; (kernel_rfl); (cases q11; (kernel_rfl); (cases q4; (kernel_rfl); (cases n; (cases q12; (cases q13; (kernel_rfl); (cases r <;> kernel_rfl)); (kernel_rfl)); (cases q13; (kernel_rfl); (cases r <;> kernel_rfl))))))))))))
end Go.Proofs.YtbhnjaajkolklaaGreat
