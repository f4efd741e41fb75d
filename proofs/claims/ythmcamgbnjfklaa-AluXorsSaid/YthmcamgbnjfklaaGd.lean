/- The reference's Insn, Word, Of. -/
import Derived.Test.YthmcamgbnjfklaaGb
import Derived.Test.YthmcamgbnjfklaaRb
import Derived.Test.YthmcamgbnjfklaaRh
set_option linter.all false
namespace Go.Proofs.Ythmcamgbnjfklaa
open Go.ChangeShapes Go.WideShapes Go.ChangeAt Go.RowKit Go.Deep

theorem inB_no {a b n : Int} (h : ¬ (a ≤ n ∧ n ≤ b)) : inB a b n = false := by simp only [inB]; exact decide_eq_false h
theorem inB_hi {a b n : Int} (h : a ≤ n) : inB a b n = decide (n ≤ b) := by simp [inB, h]
set_option maxRecDepth 100000 in
set_option maxHeartbeats 3200000 in
theorem rinsn_any (x : Ins) (w : World) :
    Calls Try.prog 21 #[insV x] w fun e w' => e = .returned (.bool (mayI x)) ∧ Below w.heap.size w w' := by
  obtain ⟨op, d, n, m, i⟩ := x
  unfold insV mayI
  simp only
  have HD : Hid (∀ W, Calls Try.prog 25 #[.int .i64 d, .int .i64 7] W fun e w' => e = .returned (.bool (inB 0 7 d)) ∧ W = w') := Lib.hid (fun W => num_any d 7 W)
  have HN : Hid (∀ W, Calls Try.prog 25 #[.int .i64 n, .int .i64 7] W fun e w' => e = .returned (.bool (inB 0 7 n)) ∧ W = w') := Lib.hid (fun W => num_any n 7 W)
  have HM : Hid (∀ W, Calls Try.prog 25 #[.int .i64 m, .int .i64 7] W fun e w' => e = .returned (.bool (inB 0 7 m)) ∧ W = w') := Lib.hid (fun W => num_any m 7 W)
  have HI : Hid (∀ W, Calls Try.prog 25 #[.int .i64 i, .int .i64 5] W fun e w' => e = .returned (.bool (inB 0 5 i)) ∧ W = w') := Lib.hid (fun W => num_any i 5 W)
  have hm7 : inB 0 7 m = true → inB 0 3 m = decide (m ≤ 3) := fun h => inB_hi (inB_iff.1 h).1
  have Hm := Lib.hid hm7
  clear hm7
  generalize inB 0 7 d = bd at *
  generalize inB 0 7 n = bn at *
  generalize inB 0 7 m = bm at *
  by_cases o1 : op < 1
  · have hr : (inB 1 16 op && (bd && (bn && (bm && (inB (-2048) 2047 i && suitB ⟨op, d, n, m, i⟩))))) = false := by rw [inB_no (by omega)]; rfl
    rw [hr]
    clear hr
    go_enter Try.func21, Try.ntmps21
    go_wp2
    go_ret
    exact ⟨rfl, by go_grown⟩
  · skip
    by_cases o2 : 16 < op
    · have hr : (inB 1 16 op && (bd && (bn && (bm && (inB (-2048) 2047 i && suitB ⟨op, d, n, m, i⟩))))) = false := by rw [inB_no (by omega)]; rfl
      rw [hr]
      clear hr
      go_enter Try.func21, Try.ntmps21
      go_wp2
      go_ret
      exact ⟨rfl, by go_grown⟩
    · skip
      have oi : inB 1 16 op = true := inB_iff.2 (by omega)
      have OI := Lib.hid oi
      clear oi
      cases bd
      · have hr : (inB 1 16 op && (false && (bn && (bm && (inB (-2048) 2047 i && suitB ⟨op, d, n, m, i⟩))))) = false := by simp [OI.out]
        rw [hr]
        clear hr
        go_enter Try.func21, Try.ntmps21
        go_wp2_with fail
        refine (HD.out _).mono ?_
        rintro e w1 ⟨rfl, rfl⟩
        go_wp2
        go_ret
        exact ⟨rfl, by go_grown⟩
      · skip
        cases bn
        · have hr : (inB 1 16 op && (true && (false && (bm && (inB (-2048) 2047 i && suitB ⟨op, d, n, m, i⟩))))) = false := by simp [OI.out]
          rw [hr]
          clear hr
          go_enter Try.func21, Try.ntmps21
          go_wp2_with fail
          refine (HD.out _).mono ?_
          rintro e w1 ⟨rfl, rfl⟩
          go_wp2_with fail
          refine (HN.out _).mono ?_
          rintro e w2 ⟨rfl, rfl⟩
          go_wp2
          go_ret
          exact ⟨rfl, by go_grown⟩
        · skip
          cases bm
          · have hr : (inB 1 16 op && (true && (true && (false && (inB (-2048) 2047 i && suitB ⟨op, d, n, m, i⟩))))) = false := by simp [OI.out]
            rw [hr]
            clear hr
            go_enter Try.func21, Try.ntmps21
            go_wp2_with fail
            refine (HD.out _).mono ?_
            rintro e w1 ⟨rfl, rfl⟩
            go_wp2_with fail
            refine (HN.out _).mono ?_
            rintro e w2 ⟨rfl, rfl⟩
            go_wp2_with fail
            refine (HM.out _).mono ?_
            rintro e w3 ⟨rfl, rfl⟩
            go_wp2
            go_ret
            exact ⟨rfl, by go_grown⟩
          · skip
            by_cases i1 : i < -2048
            · have hr : (inB 1 16 op && (true && (true && (true && (inB (-2048) 2047 i && suitB ⟨op, d, n, m, i⟩))))) = false := by rw [inB_no (show ¬ (-2048 ≤ i ∧ i ≤ 2047) by omega)]; simp [OI.out]
              rw [hr]
              clear hr
              go_enter Try.func21, Try.ntmps21
              go_wp2_with fail
              refine (HD.out _).mono ?_
              rintro e w1 ⟨rfl, rfl⟩
              go_wp2_with fail
              refine (HN.out _).mono ?_
              rintro e w2 ⟨rfl, rfl⟩
              go_wp2_with fail
              refine (HM.out _).mono ?_
              rintro e w3 ⟨rfl, rfl⟩
              go_wp2
              go_ret
              exact ⟨rfl, by go_grown⟩
            · skip
              by_cases i2 : 2047 < i
              · have hr : (inB 1 16 op && (true && (true && (true && (inB (-2048) 2047 i && suitB ⟨op, d, n, m, i⟩))))) = false := by rw [inB_no (show ¬ (-2048 ≤ i ∧ i ≤ 2047) by omega)]; simp [OI.out]
                rw [hr]
                clear hr
                go_enter Try.func21, Try.ntmps21
                go_wp2_with fail
                refine (HD.out _).mono ?_
                rintro e w1 ⟨rfl, rfl⟩
                go_wp2_with fail
                refine (HN.out _).mono ?_
                rintro e w2 ⟨rfl, rfl⟩
                go_wp2_with fail
                refine (HM.out _).mono ?_
                rintro e w3 ⟨rfl, rfl⟩
                go_wp2
                go_ret
                exact ⟨rfl, by go_grown⟩
              · skip
                have hs : (inB 1 16 op && (true && (true && (true && (inB (-2048) 2047 i && suitB ⟨op, d, n, m, i⟩))))) = suitB ⟨op, d, n, m, i⟩ := by rw [OI.out, inB_iff.2 (show -2048 ≤ i ∧ i ≤ 2047 by omega)]; rfl
                rw [hs]
                clear hs
                by_cases e7 : op = 7
                · have hr : suitB ⟨op, d, n, m, i⟩ = decide (m ≤ 3) := by subst e7; rw [← Hm.out (by first | trivial | rfl)]; rfl
                  rw [hr]
                  clear hr
                  subst e7
                  go_enter Try.func21, Try.ntmps21
                  go_wp2_with fail
                  refine (HD.out _).mono ?_
                  rintro e w1 ⟨rfl, rfl⟩
                  go_wp2_with fail
                  refine (HN.out _).mono ?_
                  rintro e w2 ⟨rfl, rfl⟩
                  go_wp2_with fail
                  refine (HM.out _).mono ?_
                  rintro e w3 ⟨rfl, rfl⟩
                  go_wp2
                  go_ret
                  exact ⟨rfl, by go_grown⟩
                · skip
                  by_cases e8 : op = 8
                  · have hr : suitB ⟨op, d, n, m, i⟩ = decide (m ≤ 3) := by subst e8; rw [← Hm.out (by first | trivial | rfl)]; rfl
                    rw [hr]
                    clear hr
                    subst e8
                    go_enter Try.func21, Try.ntmps21
                    go_wp2_with fail
                    refine (HD.out _).mono ?_
                    rintro e w1 ⟨rfl, rfl⟩
                    go_wp2_with fail
                    refine (HN.out _).mono ?_
                    rintro e w2 ⟨rfl, rfl⟩
                    go_wp2_with fail
                    refine (HM.out _).mono ?_
                    rintro e w3 ⟨rfl, rfl⟩
                    go_wp2
                    go_ret
                    exact ⟨rfl, by go_grown⟩
                  · skip
                    by_cases e11 : op = 11
                    · have hr : suitB ⟨op, d, n, m, i⟩ = inB 0 5 i := by subst e11; rfl
                      rw [hr]
                      clear hr
                      subst e11
                      go_enter Try.func21, Try.ntmps21
                      go_wp2_with fail
                      refine (HD.out _).mono ?_
                      rintro e w1 ⟨rfl, rfl⟩
                      go_wp2_with fail
                      refine (HN.out _).mono ?_
                      rintro e w2 ⟨rfl, rfl⟩
                      go_wp2_with fail
                      refine (HM.out _).mono ?_
                      rintro e w3 ⟨rfl, rfl⟩
                      go_wp2_with fail
                      refine (HI.out _).mono ?_
                      rintro e w4 ⟨rfl, rfl⟩
                      go_wp2
                      go_ret
                      exact ⟨rfl, by go_grown⟩
                    · skip
                      by_cases e12 : op = 12
                      · have hr : suitB ⟨op, d, n, m, i⟩ = inB 0 5 i := by subst e12; rfl
                        rw [hr]
                        clear hr
                        subst e12
                        go_enter Try.func21, Try.ntmps21
                        go_wp2_with fail
                        refine (HD.out _).mono ?_
                        rintro e w1 ⟨rfl, rfl⟩
                        go_wp2_with fail
                        refine (HN.out _).mono ?_
                        rintro e w2 ⟨rfl, rfl⟩
                        go_wp2_with fail
                        refine (HM.out _).mono ?_
                        rintro e w3 ⟨rfl, rfl⟩
                        go_wp2_with fail
                        refine (HI.out _).mono ?_
                        rintro e w4 ⟨rfl, rfl⟩
                        go_wp2
                        go_ret
                        exact ⟨rfl, by go_grown⟩
                      · skip
                        by_cases e13 : op = 13
                        · by_cases h3 : 3 ≤ i
                          · have hr : suitB ⟨op, d, n, m, i⟩ = decide (i ≤ 5) := by subst e13; exact inB_hi h3
                            rw [hr]
                            clear hr
                            subst e13
                            go_enter Try.func21, Try.ntmps21
                            go_wp2_with fail
                            refine (HD.out _).mono ?_
                            rintro e w1 ⟨rfl, rfl⟩
                            go_wp2_with fail
                            refine (HN.out _).mono ?_
                            rintro e w2 ⟨rfl, rfl⟩
                            go_wp2_with fail
                            refine (HM.out _).mono ?_
                            rintro e w3 ⟨rfl, rfl⟩
                            go_wp2
                            go_ret
                            exact ⟨rfl, by go_grown⟩
                          · have hr : suitB ⟨op, d, n, m, i⟩ = false := by subst e13; exact inB_no (show ¬ (3 ≤ i ∧ i ≤ 5) by omega)
                            rw [hr]
                            clear hr
                            subst e13
                            go_enter Try.func21, Try.ntmps21
                            go_wp2_with fail
                            refine (HD.out _).mono ?_
                            rintro e w1 ⟨rfl, rfl⟩
                            go_wp2_with fail
                            refine (HN.out _).mono ?_
                            rintro e w2 ⟨rfl, rfl⟩
                            go_wp2_with fail
                            refine (HM.out _).mono ?_
                            rintro e w3 ⟨rfl, rfl⟩
                            go_wp2
                            go_ret
                            exact ⟨rfl, by go_grown⟩
                        · have hr : suitB ⟨op, d, n, m, i⟩ = true := by unfold suitB; simp only; rw [if_neg (by omega), if_neg (by omega), if_neg (by omega)]
                          rw [hr]
                          clear hr
                          have q7 : (op == 7) = false := by rw [int_beq]; exact decide_eq_false e7
                          have q8 : (op == 8) = false := by rw [int_beq]; exact decide_eq_false e8
                          have q11 : (op == 11) = false := by rw [int_beq]; exact decide_eq_false e11
                          have q12 : (op == 12) = false := by rw [int_beq]; exact decide_eq_false e12
                          have q13 : (op == 13) = false := by rw [int_beq]; exact decide_eq_false e13
                          go_enter Try.func21, Try.ntmps21
                          go_wp2_with fail
                          refine (HD.out _).mono ?_
                          rintro e w1 ⟨rfl, rfl⟩
                          go_wp2_with fail
                          refine (HN.out _).mono ?_
                          rintro e w2 ⟨rfl, rfl⟩
                          go_wp2_with fail
                          refine (HM.out _).mono ?_
                          rintro e w3 ⟨rfl, rfl⟩
                          go_wp2
                          go_ret
                          exact ⟨rfl, by go_grown⟩
theorem or32 (x a : Int) (k : Nat) (p c : Int) (hp : p = 2 ^ k) (hc : c = x + a) (hx : x % p = 0) (h0 : 0 ≤ a) (h1 : a < p) (h2 : 0 ≤ x) (h3 : x < 4294967296) (hp2 : p ≤ 4294967296) : bits .or .u32 x a = c := by
  subst hc
  obtain ⟨a, rfl⟩ : ∃ y : Nat, a = y := ⟨a.toNat, by omega⟩
  obtain ⟨x, rfl⟩ : ∃ y : Nat, x = y := ⟨x.toNat, by omega⟩
  obtain ⟨q, hq⟩ : ∃ q : Nat, q = 2 ^ k := ⟨_, rfl⟩
  have hpq : p = (q : Int) := by rw [hp, hq]; exact (Int.natCast_pow 2 k).symm
  subst hpq
  rw [u32_or_nat _ _ (by omega) (by omega), nat_join k x a (by rw [← hq]; omega) (by omega)]
  omega
theorem and7 (s : Int) (h0 : 0 ≤ s) (h1 : s < 4294967296) : bits .and .u32 s 7 = s % 8 := by
  rw [u32_and _ _ h0 h1 (by decide) (by decide)]
  have : s.toNat &&& (7 : Int).toNat = s.toNat % 2 ^ 3 := Nat.and_two_pow_sub_one_eq_mod _ 3
  rw [this]
  omega
theorem and4095 (s : Int) (h0 : 0 ≤ s) (h1 : s < 4294967296) : bits .and .u32 s 4095 = s % 4096 := by
  rw [u32_and _ _ h0 h1 (by decide) (by decide)]
  have : s.toNat &&& (4095 : Int).toNat = s.toNat % 2 ^ 12 := Nat.and_two_pow_sub_one_eq_mod _ 12
  rw [this]
  omega
end Go.Proofs.Ythmcamgbnjfklaa
