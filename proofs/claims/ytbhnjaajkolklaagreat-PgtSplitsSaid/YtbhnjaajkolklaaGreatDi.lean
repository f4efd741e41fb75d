/- The reference's Of: contract. -/
import Derived.Test.YtbhnjaajkolklaaGreatDg
import Derived.Test.YtbhnjaajkolklaaGreatEo
set_option linter.all false
namespace Go.Proofs.YtbhnjaajkolklaaGreat
open Go.ChangeShapes Go.WideShapes Go.ChangeAt Go.RowKit Go.Deep

section
variable {st lv : Int} {v : BitVec 64} {q0 q1 q2 q3 a b c d : Bool}
theorem rd_kind (h0 : flagW v 0 = q0) (h1 : flagW v 1 = q1) (h2 : decide ((lv : Int) < 3) = q2) (l3 : lv ≤ 3) (s0 : (!q0) = false) : kindD lv v = if (q1 && q2) = true then 1 else 2 := by
  subst h0 h1 h2
  unfold kindD
  cases h : flagW v 1 <;> simp_all
  by_cases h : lv = 3
  · simp [h]
  · simp [h, show lv < 3 by omega]
theorem rd_none (h0 : flagW v 0 = q0) (s0 : (!q0) = true) : readD st lv v = ⟨0, 0, false, false, false, false, false, 0, getN v 4 4⟩ := by
  subst h0
  simp_all [readD, kindD]
theorem rd_tab (h0 : flagW v 0 = q0) (h1 : flagW v 1 = q1) (h2 : decide ((lv : Int) < 3) = q2) (l3 : lv ≤ 3) (s0 : (!q0) = false) (s1 : (q1 && q2) = true) : readD st lv v = ⟨1, getN v 12 12, false, false, false, false, false, 0, 0⟩ := by
  have hk := rd_kind h0 h1 h2 l3 s0
  rw [if_pos s1] at hk
  simp [readD, hk]
theorem rd_one (h0 : flagW v 0 = q0) (h1 : flagW v 1 = q1) (h2 : decide ((lv : Int) < 3) = q2) (h3 : (st == 1) = q3) (l3 : lv ≤ 3) (s0 : (!q0) = false) (s1 : (q1 && q2) = false) (s2 : q3 = true) (ha : flagW v 10 = a) (hb : flagW v 54 = b) (hc : flagW v 7 = c) (hd : flagW v 11 = d) : readD st lv v = ⟨2, getN v 12 12, true, !c, !b, a, d, 0, 0⟩ := by
  have hk := rd_kind h0 h1 h2 l3 s0
  rw [if_neg (by rw [s1]; decide)] at hk
  subst h3 ha hb hc hd
  simp at s2
  simp [readD, hk, s2]
theorem rd_two (h0 : flagW v 0 = q0) (h1 : flagW v 1 = q1) (h2 : decide ((lv : Int) < 3) = q2) (h3 : (st == 1) = q3) (l3 : lv ≤ 3) (s0 : (!q0) = false) (s1 : (q1 && q2) = false) (s2 : q3 = false) (ha : flagW v 10 = a) (hb : flagW v 54 = b) (hc : flagW v 6 = c) (hd : flagW v 7 = d) : readD st lv v = ⟨2, getN v 12 12, c, d, !b, a, false, getN v 55 4, 0⟩ := by
  have hk := rd_kind h0 h1 h2 l3 s0
  rw [if_neg (by rw [s1]; decide)] at hk
  subst h3 ha hb hc hd
  simp at s2
  simp [readD, hk, s2]
theorem of_zero (h : (!mayD st lv (readD st lv v) || (u (wordD st lv (readD st lv v)) != u v)) = true) : dscV (ofD st lv v) = dscV dz := by
  unfold ofD
  rw [u_bne] at h
  rw [if_neg (fun hc => by rw [hc.1, hc.2] at h; simp at h)]
theorem of_read (h : (!mayD st lv (readD st lv v) || (u (wordD st lv (readD st lv v)) != u v)) = false) : dscV (ofD st lv v) = dscV (readD st lv v) := by
  unfold ofD
  rw [u_bne] at h
  rw [if_pos (by simpa using h)]
theorem read_kind : ((readD st lv v).k = 0 ∧ 0 ≤ (readD st lv v).o ∧ (readD st lv v).o ≤ 15) ∨ (readD st lv v).k = 1 ∨ (readD st lv v).k = 2 := by
  have h4 : 0 ≤ getN v 4 4 ∧ getN v 4 4 ≤ 15 := by
    unfold getN
    rw [show msk 4 = 15#64 from by decide]
    refine ⟨u_lo _, ?_⟩
    unfold u
    have : ((v >>> (4 : Int).toNat) &&& 15#64).toNat ≤ 15 := by rw [BitVec.toNat_and]; exact Nat.and_le_right
    omega
  unfold readD
  split
  · exact .inl ⟨rfl, h4⟩
  · split
    · exact .inr (.inl rfl)
    · split <;> exact .inr (.inr rfl)
theorem rdesc_rd {e : Dsc} (hr : readD st lv v = e) (hp : placeB st lv = true) (W : World) : Calls Tryz.prog 12 #[.int .i64 st, .int .i64 lv, dscV e] W fun r w' => r = .returned (.bool (mayD st lv (readD st lv v))) ∧ Below W.heap.size W w' := by
  rw [hr]
  exact rdesc_any st lv _ _ _ _ _ _ _ _ _ W hp
theorem rword_rd {e : Dsc} (hr : readD st lv v = e) (W : World) : Calls Tryz.prog 37 #[.int .i64 st, .int .i64 lv, dscV e] W fun r w' => r = .returned (.int .u64 (u (wordD st lv (readD st lv v)))) ∧ Below W.heap.size W w' := by
  have hk := read_kind (st := st) (lv := lv) (v := v)
  rw [hr] at hk ⊢
  exact rwordD_any st lv e W hk
end
theorem rof_any (st lv : Int) (v : BitVec 64) (w : World) (hp : placeB st lv = true) :
    Calls Tryz.prog 61 #[.int .i64 st, .int .i64 lv, .int .u64 (u v)] w fun e w' => e = .returned (dscV (ofD st lv v)) ∧ Below w.heap.size w w' := by
  obtain ⟨hst, hl0, hl3⟩ := placeB_iff.1 hp
  have w4 : IntKind.i64.wrap (getN v 4 4) = getN v 4 4 := IntWalk.i64_in _ (by have := getN_bd v 4 4 (by decide) (by decide); omega)
  have w12 : IntKind.i64.wrap (getN v 12 12) = getN v 12 12 := IntWalk.i64_in _ (by have := getN_bd v 12 12 (by decide) (by decide); omega)
  have w55 : IntKind.i64.wrap (getN v 55 4) = getN v 55 4 := IntWalk.i64_in _ (by have := getN_bd v 55 4 (by decide) (by decide); omega)
  obtain ⟨q0, hq0⟩ : ∃ b, (flagW v 0) = b := ⟨_, rfl⟩
  obtain ⟨q1, hq1⟩ : ∃ b, (mayD st lv (readD st lv v)) = b := ⟨_, rfl⟩
  obtain ⟨q2, hq2⟩ : ∃ b, ((u (wordD st lv (readD st lv v))) != (u v)) = b := ⟨_, rfl⟩
  obtain ⟨q3, hq3⟩ : ∃ b, (flagW v 1) = b := ⟨_, rfl⟩
  obtain ⟨q4, hq4⟩ : ∃ b, (decide ((lv : Int) < 3)) = b := ⟨_, rfl⟩
  obtain ⟨q5, hq5⟩ : ∃ b, (flagW v 10) = b := ⟨_, rfl⟩
  obtain ⟨q6, hq6⟩ : ∃ b, (flagW v 54) = b := ⟨_, rfl⟩
  obtain ⟨q7, hq7⟩ : ∃ b, (st == 1) = b := ⟨_, rfl⟩
  obtain ⟨q8, hq8⟩ : ∃ b, (flagW v 7) = b := ⟨_, rfl⟩
  obtain ⟨q9, hq9⟩ : ∃ b, (flagW v 11) = b := ⟨_, rfl⟩
  obtain ⟨q10, hq10⟩ : ∃ b, (flagW v 6) = b := ⟨_, rfl⟩
  exact calls_ex mixedT [] (.r 7 [(1, .call 79 (fun _ => [.int .u64 (u v), .int .i64 0]) (fun _ => .bool q0))] (.split (!q0) (.r 8 [(1, .call 80 (fun _ => [.int .u64 (u v), .int .i64 4, .int .i64 4]) (fun _ => .int .u64 (getN v 4 4))), (2, .rw (fun _ => .int .i64 (IntKind.i64.wrap (getN v 4 4))) (fun _ => .int .i64 (getN v 4 4))), a1 4 1 8] (.r 11 [aN 2 1 0 9, (3, .call 12 (fun _ => [.int .i64 st, .int .i64 lv, .agg #[.int .i64 0, .int .i64 0, .bool false, .bool false, .bool false, .bool false, .bool false, .int .i64 0, .int .i64 (getN v 4 4)]]) (fun _ => .bool q1)), aN 8 1 0 9, (9, .call 37 (fun _ => [.int .i64 st, .int .i64 lv, .agg #[.int .i64 0, .int .i64 0, .bool false, .bool false, .bool false, .bool false, .bool false, .int .i64 0, .int .i64 (getN v 4 4)]]) (fun _ => .int .u64 (u (wordD st lv (readD st lv v))))), (11, .rw (fun _ => .bool ((u (wordD st lv (readD st lv v))) != (u v))) (fun _ => .bool q2))] (.split ((!q1) || q2) (.r 12 [aN 1 0 0 9] (.fin [(0, 0, 9)] (fun _ => .agg #[.int .i64 0, .int .i64 0, .bool false, .bool false, .bool false, .bool false, .bool false, .int .i64 0, .int .i64 0]) [])) (.r 13 [aN 0 1 0 9, aN 1 0 0 9] (.fin [(0, 0, 9)] (fun _ => .agg #[.int .i64 0, .int .i64 0, .bool false, .bool false, .bool false, .bool false, .bool false, .int .i64 0, .int .i64 (getN v 4 4)]) []))))) (.r 9 [(1, .call 79 (fun _ => [.int .u64 (u v), .int .i64 1]) (fun _ => .bool q3)), (4, .rw (fun _ => .bool (decide ((lv : Int) < 3))) (fun _ => .bool q4))] (.split (q3 && q4) (.r 10 [(1, .call 80 (fun _ => [.int .u64 (u v), .int .i64 12, .int .i64 12]) (fun _ => .int .u64 (getN v 12 12))), (2, .rw (fun _ => .int .i64 (IntKind.i64.wrap (getN v 12 12))) (fun _ => .int .i64 (getN v 12 12))), a1 4 1 0, a1 6 1 1] (.r 11 [aN 2 1 0 9, (3, .call 12 (fun _ => [.int .i64 st, .int .i64 lv, .agg #[.int .i64 1, .int .i64 (getN v 12 12), .bool false, .bool false, .bool false, .bool false, .bool false, .int .i64 0, .int .i64 0]]) (fun _ => .bool q1)), aN 8 1 0 9, (9, .call 37 (fun _ => [.int .i64 st, .int .i64 lv, .agg #[.int .i64 1, .int .i64 (getN v 12 12), .bool false, .bool false, .bool false, .bool false, .bool false, .int .i64 0, .int .i64 0]]) (fun _ => .int .u64 (u (wordD st lv (readD st lv v))))), (11, .rw (fun _ => .bool ((u (wordD st lv (readD st lv v))) != (u v))) (fun _ => .bool q2))] (.split ((!q1) || q2) (.r 12 [aN 1 0 0 9] (.fin [(0, 0, 9)] (fun _ => .agg #[.int .i64 0, .int .i64 0, .bool false, .bool false, .bool false, .bool false, .bool false, .int .i64 0, .int .i64 0]) [])) (.r 13 [aN 0 1 0 9, aN 1 0 0 9] (.fin [(0, 0, 9)] (fun _ => .agg #[.int .i64 1, .int .i64 (getN v 12 12), .bool false, .bool false, .bool false, .bool false, .bool false, .int .i64 0, .int .i64 0]) []))))) (.r 2 [(1, .call 80 (fun _ => [.int .u64 (u v), .int .i64 12, .int .i64 12]) (fun _ => .int .u64 (getN v 12 12))), (2, .rw (fun _ => .int .i64 (IntKind.i64.wrap (getN v 12 12))) (fun _ => .int .i64 (getN v 12 12))), a1 4 1 0, a1 6 1 1] (.r 3 [(1, .call 79 (fun _ => [.int .u64 (u v), .int .i64 10]) (fun _ => .bool q5)), (3, .call 79 (fun _ => [.int .u64 (u v), .int .i64 54]) (fun _ => .bool q6)), a1 7 1 5, a1 10 1 4] (.r 4 [(1, .rw (fun _ => .bool (st == 1)) (fun _ => .bool q7))] (.split (q7) (.r 5 [(1, .call 79 (fun _ => [.int .u64 (u v), .int .i64 7]) (fun _ => .bool q8)), (4, .call 79 (fun _ => [.int .u64 (u v), .int .i64 11]) (fun _ => .bool q9)), a1 7 1 2, a1 10 1 3, a1 13 1 6] (.r 11 [aN 2 1 0 9, (3, .call 12 (fun _ => [.int .i64 st, .int .i64 lv, .agg #[.int .i64 2, .int .i64 (getN v 12 12), .bool true, .bool (!q8), .bool (!q6), .bool q5, .bool q9, .int .i64 0, .int .i64 0]]) (fun _ => .bool q1)), aN 8 1 0 9, (9, .call 37 (fun _ => [.int .i64 st, .int .i64 lv, .agg #[.int .i64 2, .int .i64 (getN v 12 12), .bool true, .bool (!q8), .bool (!q6), .bool q5, .bool q9, .int .i64 0, .int .i64 0]]) (fun _ => .int .u64 (u (wordD st lv (readD st lv v))))), (11, .rw (fun _ => .bool ((u (wordD st lv (readD st lv v))) != (u v))) (fun _ => .bool q2))] (.split ((!q1) || q2) (.r 12 [aN 1 0 0 9] (.fin [(0, 0, 9)] (fun _ => .agg #[.int .i64 0, .int .i64 0, .bool false, .bool false, .bool false, .bool false, .bool false, .int .i64 0, .int .i64 0]) [])) (.r 13 [aN 0 1 0 9, aN 1 0 0 9] (.fin [(0, 0, 9)] (fun _ => .agg #[.int .i64 2, .int .i64 (getN v 12 12), .bool true, .bool (!q8), .bool (!q6), .bool q5, .bool q9, .int .i64 0, .int .i64 0]) []))))) (.r 6 [(1, .call 79 (fun _ => [.int .u64 (u v), .int .i64 6]) (fun _ => .bool q10)), (3, .call 79 (fun _ => [.int .u64 (u v), .int .i64 7]) (fun _ => .bool q8)), (5, .call 80 (fun _ => [.int .u64 (u v), .int .i64 55, .int .i64 4]) (fun _ => .int .u64 (getN v 55 4))), (6, .rw (fun _ => .int .i64 (IntKind.i64.wrap (getN v 55 4))) (fun _ => .int .i64 (getN v 55 4))), a1 9 1 2, a1 12 1 3, a1 15 1 7] (.r 11 [aN 2 1 0 9, (3, .call 12 (fun _ => [.int .i64 st, .int .i64 lv, .agg #[.int .i64 2, .int .i64 (getN v 12 12), .bool q10, .bool q8, .bool (!q6), .bool q5, .bool false, .int .i64 (getN v 55 4), .int .i64 0]]) (fun _ => .bool q1)), aN 8 1 0 9, (9, .call 37 (fun _ => [.int .i64 st, .int .i64 lv, .agg #[.int .i64 2, .int .i64 (getN v 12 12), .bool q10, .bool q8, .bool (!q6), .bool q5, .bool false, .int .i64 (getN v 55 4), .int .i64 0]]) (fun _ => .int .u64 (u (wordD st lv (readD st lv v))))), (11, .rw (fun _ => .bool ((u (wordD st lv (readD st lv v))) != (u v))) (fun _ => .bool q2))] (.split ((!q1) || q2) (.r 12 [aN 1 0 0 9] (.fin [(0, 0, 9)] (fun _ => .agg #[.int .i64 0, .int .i64 0, .bool false, .bool false, .bool false, .bool false, .bool false, .int .i64 0, .int .i64 0]) [])) (.r 13 [aN 0 1 0 9, aN 1 0 0 9] (.fin [(0, 0, 9)] (fun _ => .agg #[.int .i64 2, .int .i64 (getN v 12 12), .bool q10, .bool q8, .bool (!q6), .bool q5, .bool false, .int .i64 (getN v 55 4), .int .i64 0]) []))))))))))))) Tryz.func61 rfl (Fits.nil w) (⟨fun _ W _ => (below_same (set_any v 0 W (by decide) (by decide))).mono fun _ _ hJ => ⟨hJ.1.trans (by rw [hq0]), hJ.2⟩, fun hS8 => ⟨fun _ W _ => rnumber_any v 4 4 W (by decide) (by decide) (by decide), fun _ => by rw [w4], fun _ W _ => (rdesc_rd (rd_none hq0 hS8) hp W).mono fun _ _ hJ => ⟨hJ.1.trans (by rw [hq1]), hJ.2⟩, fun _ W _ => rword_rd (rd_none hq0 hS8) W, fun _ => congrArg Value.bool hq2, fun hS9 => fun _ _ hk _ => ⟨by subst hq0 hq1 hq2 hq3 hq4 hq5 hq6 hq7 hq8 hq9 hq10; rw [of_zero hS9]; rfl, hk.below⟩, fun hS9 => fun _ _ hk _ => ⟨by have hr : readD st lv v = _ := (rd_none hq0 hS8); subst hq0 hq1 hq2 hq3 hq4 hq5 hq6 hq7 hq8 hq9 hq10; rw [of_read hS9, hr]; rfl, hk.below⟩⟩, fun hS8 => ⟨fun _ W _ => (below_same (set_any v 1 W (by decide) (by decide))).mono fun _ _ hJ => ⟨hJ.1.trans (by rw [hq3]), hJ.2⟩, fun _ => congrArg Value.bool hq4, fun hS10 => ⟨fun _ W _ => rnumber_any v 12 12 W (by decide) (by decide) (by decide), fun _ => by rw [w12], fun _ W _ => (rdesc_rd (rd_tab hq0 hq3 hq4 hl3 hS8 hS10) hp W).mono fun _ _ hJ => ⟨hJ.1.trans (by rw [hq1]), hJ.2⟩, fun _ W _ => rword_rd (rd_tab hq0 hq3 hq4 hl3 hS8 hS10) W, fun _ => congrArg Value.bool hq2, fun hS11 => fun _ _ hk _ => ⟨by subst hq0 hq1 hq2 hq3 hq4 hq5 hq6 hq7 hq8 hq9 hq10; rw [of_zero hS11]; rfl, hk.below⟩, fun hS11 => fun _ _ hk _ => ⟨by have hr : readD st lv v = _ := (rd_tab hq0 hq3 hq4 hl3 hS8 hS10); subst hq0 hq1 hq2 hq3 hq4 hq5 hq6 hq7 hq8 hq9 hq10; rw [of_read hS11, hr]; rfl, hk.below⟩⟩, fun hS10 => ⟨fun _ W _ => rnumber_any v 12 12 W (by decide) (by decide) (by decide), fun _ => by rw [w12], fun _ W _ => (below_same (set_any v 10 W (by decide) (by decide))).mono fun _ _ hJ => ⟨hJ.1.trans (by rw [hq5]), hJ.2⟩, fun _ W _ => (below_same (set_any v 54 W (by decide) (by decide))).mono fun _ _ hJ => ⟨hJ.1.trans (by rw [hq6]), hJ.2⟩, fun _ => congrArg Value.bool hq7, fun hS12 => ⟨fun _ W _ => (below_same (set_any v 7 W (by decide) (by decide))).mono fun _ _ hJ => ⟨hJ.1.trans (by rw [hq8]), hJ.2⟩, fun _ W _ => (below_same (set_any v 11 W (by decide) (by decide))).mono fun _ _ hJ => ⟨hJ.1.trans (by rw [hq9]), hJ.2⟩, fun _ W _ => (rdesc_rd (rd_one hq0 hq3 hq4 hq7 hl3 hS8 hS10 hS12 hq5 hq6 hq8 hq9) hp W).mono fun _ _ hJ => ⟨hJ.1.trans (by rw [hq1]), hJ.2⟩, fun _ W _ => rword_rd (rd_one hq0 hq3 hq4 hq7 hl3 hS8 hS10 hS12 hq5 hq6 hq8 hq9) W, fun _ => congrArg Value.bool hq2, fun hS13 => fun _ _ hk _ => ⟨by subst hq0 hq1 hq2 hq3 hq4 hq5 hq6 hq7 hq8 hq9 hq10; rw [of_zero hS13]; rfl, hk.below⟩, fun hS13 => fun _ _ hk _ => ⟨by have hr : readD st lv v = _ := (rd_one hq0 hq3 hq4 hq7 hl3 hS8 hS10 hS12 hq5 hq6 hq8 hq9); subst hq0 hq1 hq2 hq3 hq4 hq5 hq6 hq7 hq8 hq9 hq10; rw [of_read hS13, hr]; rfl, hk.below⟩⟩, fun hS12 => ⟨fun _ W _ => (below_same (set_any v 6 W (by decide) (by decide))).mono fun _ _ hJ => ⟨hJ.1.trans (by rw [hq10]), hJ.2⟩, fun _ W _ => (below_same (set_any v 7 W (by decide) (by decide))).mono fun _ _ hJ => ⟨hJ.1.trans (by rw [hq8]), hJ.2⟩, fun _ W _ => rnumber_any v 55 4 W (by decide) (by decide) (by decide), fun _ => by rw [w55], fun _ W _ => (rdesc_rd (rd_two hq0 hq3 hq4 hq7 hl3 hS8 hS10 hS12 hq5 hq6 hq10 hq8) hp W).mono fun _ _ hJ => ⟨hJ.1.trans (by rw [hq1]), hJ.2⟩, fun _ W _ => rword_rd (rd_two hq0 hq3 hq4 hq7 hl3 hS8 hS10 hS12 hq5 hq6 hq10 hq8) W, fun _ => congrArg Value.bool hq2, fun hS14 => fun _ _ hk _ => ⟨by subst hq0 hq1 hq2 hq3 hq4 hq5 hq6 hq7 hq8 hq9 hq10; rw [of_zero hS14]; rfl, hk.below⟩, fun hS14 => fun _ _ hk _ => ⟨by have hr : readD st lv v = _ := (rd_two hq0 hq3 hq4 hq7 hl3 hS8 hS10 hS12 hq5 hq6 hq10 hq8); subst hq0 hq1 hq2 hq3 hq4 hq5 hq6 hq7 hq8 hq9 hq10; rw [of_read hS14, hr]; rfl, hk.below⟩⟩⟩⟩⟩) rfl (fun _ => by cases q1; (cases q3 <;> kernel_rfl); (cases q3 <;> kernel_rfl))
end Go.Proofs.YtbhnjaajkolklaaGreat
