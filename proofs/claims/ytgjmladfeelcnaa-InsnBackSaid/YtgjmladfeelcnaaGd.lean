/- The reference's Insn, Word, Of. -/
import Derived.Test.YtgjmladfeelcnaaGb
import Derived.Test.YtgjmladfeelcnaaRb
import Derived.Test.YtgjmladfeelcnaaRh
set_option linter.all false
namespace Go.Proofs.Ytgjmladfeelcnaa
open Go.ChangeShapes Go.WideShapes Go.ChangeAt Go.RowKit Go.Deep

theorem inB_no {a b n : Int} (h : ¬ (a ≤ n ∧ n ≤ b)) : inB a b n = false := by simp only [inB]; exact decide_eq_false h
theorem inB_hi {a b n : Int} (h : a ≤ n) : inB a b n = decide (n ≤ b) := by simp [inB, h]
set_option maxRecDepth 100000 in
set_option maxHeartbeats 3200000 in
theorem rinsn_any (x : Ins) (w : World) :
    Calls Try.prog 22 #[insV x] w fun e w' => e = .returned (.bool (mayI x)) ∧ Below w.heap.size w w' := by
  obtain ⟨op, d, n, m, i⟩ := x
  unfold insV mayI
  simp only
  have HD : Hid (∀ W, Calls Try.prog 33 #[.int .i64 d, .int .i64 7] W fun e w' => e = .returned (.bool (inB 0 7 d)) ∧ W = w') := Lib.hid (fun W => num_any d 7 W)
  have HN : Hid (∀ W, Calls Try.prog 33 #[.int .i64 n, .int .i64 7] W fun e w' => e = .returned (.bool (inB 0 7 n)) ∧ W = w') := Lib.hid (fun W => num_any n 7 W)
  have HM : Hid (∀ W, Calls Try.prog 33 #[.int .i64 m, .int .i64 7] W fun e w' => e = .returned (.bool (inB 0 7 m)) ∧ W = w') := Lib.hid (fun W => num_any m 7 W)
  have HI : Hid (∀ W, Calls Try.prog 33 #[.int .i64 i, .int .i64 5] W fun e w' => e = .returned (.bool (inB 0 5 i)) ∧ W = w') := Lib.hid (fun W => num_any i 5 W)
  have hm7 : inB 0 7 m = true → inB 0 3 m = decide (m ≤ 3) := fun h => inB_hi (inB_iff.1 h).1
  have Hm := Lib.hid hm7
  clear hm7
  generalize inB 0 7 d = bd at *
  generalize inB 0 7 n = bn at *
  generalize inB 0 7 m = bm at *
  by_cases o1 : op < 1
  · have hr : (inB 1 16 op && (bd && (bn && (bm && (inB (-2048) 2047 i && suitB ⟨op, d, n, m, i⟩))))) = false := by rw [inB_no (by omega)]; rfl
    rw [hr]
    clear hr
    go_enter Try.func22, Try.ntmps22
    go_wp2
    go_ret
    exact ⟨rfl, by go_grown⟩
  · skip
    by_cases o2 : 16 < op
    · have hr : (inB 1 16 op && (bd && (bn && (bm && (inB (-2048) 2047 i && suitB ⟨op, d, n, m, i⟩))))) = false := by rw [inB_no (by omega)]; rfl
      rw [hr]
      clear hr
      go_enter Try.func22, Try.ntmps22
      go_wp2
      go_ret
      exact ⟨rfl, by go_grown⟩
    · skip
      have oi : inB 1 16 op = true := inB_iff.2 (by omega)
      have OI := Lib.hid oi
      clear oi
      cases bd
      · have hr : (inB 1 16 op && (false && (bn && (bm && (inB (-2048) 2047 i && suitB ⟨op, d, n, m, i⟩))))) = false := by simp [OI.out]
        rw [hr]
        clear hr
        go_enter Try.func22, Try.ntmps22
        go_wp2_with fail
        refine (HD.out _).mono ?_
        rintro e w1 ⟨rfl, rfl⟩
        go_wp2
        go_ret
        exact ⟨rfl, by go_grown⟩
      · skip
        cases bn
        · have hr : (inB 1 16 op && (true && (false && (bm && (inB (-2048) 2047 i && suitB ⟨op, d, n, m, i⟩))))) = false := by simp [OI.out]
          rw [hr]
          clear hr
          go_enter Try.func22, Try.ntmps22
          go_wp2_with fail
          refine (HD.out _).mono ?_
          rintro e w1 ⟨rfl, rfl⟩
          go_wp2_with fail
          refine (HN.out _).mono ?_
          rintro e w2 ⟨rfl, rfl⟩
          go_wp2
          go_ret
          exact ⟨rfl, by go_grown⟩
        · skip
          cases bm
          · have hr : (inB 1 16 op && (true && (true && (false && (inB (-2048) 2047 i && suitB ⟨op, d, n, m, i⟩))))) = false := by simp [OI.out]
            rw [hr]
            clear hr
            go_enter Try.func22, Try.ntmps22
            go_wp2_with fail
            refine (HD.out _).mono ?_
            rintro e w1 ⟨rfl, rfl⟩
            go_wp2_with fail
            refine (HN.out _).mono ?_
            rintro e w2 ⟨rfl, rfl⟩
            go_wp2_with fail
            refine (HM.out _).mono ?_
            rintro e w3 ⟨rfl, rfl⟩
            go_wp2
            go_ret
            exact ⟨rfl, by go_grown⟩
          · skip
            by_cases i1 : i < -2048
            · have hr : (inB 1 16 op && (true && (true && (true && (inB (-2048) 2047 i && suitB ⟨op, d, n, m, i⟩))))) = false := by rw [inB_no (show ¬ (-2048 ≤ i ∧ i ≤ 2047) by omega)]; simp [OI.out]
              rw [hr]
              clear hr
              go_enter Try.func22, Try.ntmps22
              go_wp2_with fail
              refine (HD.out _).mono ?_
              rintro e w1 ⟨rfl, rfl⟩
              go_wp2_with fail
              refine (HN.out _).mono ?_
              rintro e w2 ⟨rfl, rfl⟩
              go_wp2_with fail
              refine (HM.out _).mono ?_
              rintro e w3 ⟨rfl, rfl⟩
              go_wp2
              go_ret
              exact ⟨rfl, by go_grown⟩
            · skip
              by_cases i2 : 2047 < i
              · have hr : (inB 1 16 op && (true && (true && (true && (inB (-2048) 2047 i && suitB ⟨op, d, n, m, i⟩))))) = false := by rw [inB_no (show ¬ (-2048 ≤ i ∧ i ≤ 2047) by omega)]; simp [OI.out]
                rw [hr]
                clear hr
                go_enter Try.func22, Try.ntmps22
                go_wp2_with fail
                refine (HD.out _).mono ?_
                rintro e w1 ⟨rfl, rfl⟩
                go_wp2_with fail
                refine (HN.out _).mono ?_
                rintro e w2 ⟨rfl, rfl⟩
                go_wp2_with fail
                refine (HM.out _).mono ?_
                rintro e w3 ⟨rfl, rfl⟩
                go_wp2
                go_ret
                exact ⟨rfl, by go_grown⟩
              · skip
                have hs : (inB 1 16 op && (true && (true && (true && (inB (-2048) 2047 i && suitB ⟨op, d, n, m, i⟩))))) = suitB ⟨op, d, n, m, i⟩ := by rw [OI.out, inB_iff.2 (show -2048 ≤ i ∧ i ≤ 2047 by omega)]; rfl
                rw [hs]
                clear hs
                by_cases e7 : op = 7
                · have hr : suitB ⟨op, d, n, m, i⟩ = decide (m ≤ 3) := by subst e7; rw [← Hm.out (by first | trivial | rfl)]; rfl
                  rw [hr]
                  clear hr
                  subst e7
                  go_enter Try.func22, Try.ntmps22
                  go_wp2_with fail
                  refine (HD.out _).mono ?_
                  rintro e w1 ⟨rfl, rfl⟩
                  go_wp2_with fail
                  refine (HN.out _).mono ?_
                  rintro e w2 ⟨rfl, rfl⟩
                  go_wp2_with fail
                  refine (HM.out _).mono ?_
                  rintro e w3 ⟨rfl, rfl⟩
                  go_wp2
                  go_ret
                  exact ⟨rfl, by go_grown⟩
                · skip
                  by_cases e8 : op = 8
                  · have hr : suitB ⟨op, d, n, m, i⟩ = decide (m ≤ 3) := by subst e8; rw [← Hm.out (by first | trivial | rfl)]; rfl
                    rw [hr]
                    clear hr
                    subst e8
                    go_enter Try.func22, Try.ntmps22
                    go_wp2_with fail
                    refine (HD.out _).mono ?_
                    rintro e w1 ⟨rfl, rfl⟩
                    go_wp2_with fail
                    refine (HN.out _).mono ?_
                    rintro e w2 ⟨rfl, rfl⟩
                    go_wp2_with fail
                    refine (HM.out _).mono ?_
                    rintro e w3 ⟨rfl, rfl⟩
                    go_wp2
                    go_ret
                    exact ⟨rfl, by go_grown⟩
                  · skip
                    by_cases e11 : op = 11
                    · have hr : suitB ⟨op, d, n, m, i⟩ = inB 0 5 i := by subst e11; rfl
                      rw [hr]
                      clear hr
                      subst e11
                      go_enter Try.func22, Try.ntmps22
                      go_wp2_with fail
                      refine (HD.out _).mono ?_
                      rintro e w1 ⟨rfl, rfl⟩
                      go_wp2_with fail
                      refine (HN.out _).mono ?_
                      rintro e w2 ⟨rfl, rfl⟩
                      go_wp2_with fail
                      refine (HM.out _).mono ?_
                      rintro e w3 ⟨rfl, rfl⟩
                      go_wp2_with fail
                      refine (HI.out _).mono ?_
                      rintro e w4 ⟨rfl, rfl⟩
                      go_wp2
                      go_ret
                      exact ⟨rfl, by go_grown⟩
                    · skip
                      by_cases e12 : op = 12
                      · have hr : suitB ⟨op, d, n, m, i⟩ = inB 0 5 i := by subst e12; rfl
                        rw [hr]
                        clear hr
                        subst e12
                        go_enter Try.func22, Try.ntmps22
                        go_wp2_with fail
                        refine (HD.out _).mono ?_
                        rintro e w1 ⟨rfl, rfl⟩
                        go_wp2_with fail
                        refine (HN.out _).mono ?_
                        rintro e w2 ⟨rfl, rfl⟩
                        go_wp2_with fail
                        refine (HM.out _).mono ?_
                        rintro e w3 ⟨rfl, rfl⟩
                        go_wp2_with fail
                        refine (HI.out _).mono ?_
                        rintro e w4 ⟨rfl, rfl⟩
                        go_wp2
                        go_ret
                        exact ⟨rfl, by go_grown⟩
                      · skip
                        by_cases e13 : op = 13
                        · by_cases h3 : 3 ≤ i
                          · have hr : suitB ⟨op, d, n, m, i⟩ = decide (i ≤ 5) := by subst e13; exact inB_hi h3
                            rw [hr]
                            clear hr
                            subst e13
                            go_enter Try.func22, Try.ntmps22
                            go_wp2_with fail
                            refine (HD.out _).mono ?_
                            rintro e w1 ⟨rfl, rfl⟩
                            go_wp2_with fail
                            refine (HN.out _).mono ?_
                            rintro e w2 ⟨rfl, rfl⟩
                            go_wp2_with fail
                            refine (HM.out _).mono ?_
                            rintro e w3 ⟨rfl, rfl⟩
                            go_wp2
                            go_ret
                            exact ⟨rfl, by go_grown⟩
                          · have hr : suitB ⟨op, d, n, m, i⟩ = false := by subst e13; exact inB_no (show ¬ (3 ≤ i ∧ i ≤ 5) by omega)
                            rw [hr]
                            clear hr
                            subst e13
                            go_enter Try.func22, Try.ntmps22
                            go_wp2_with fail
                            refine (HD.out _).mono ?_
                            rintro e w1 ⟨rfl, rfl⟩
                            go_wp2_with fail
                            refine (HN.out _).mono ?_
                            rintro e w2 ⟨rfl, rfl⟩
                            go_wp2_with fail
                            refine (HM.out _).mono ?_
                            rintro e w3 ⟨rfl, rfl⟩
                            go_wp2
                            go_ret
                            exact ⟨rfl, by go_grown⟩
                        · have hr : suitB ⟨op, d, n, m, i⟩ = true := by unfold suitB; simp only; rw [if_neg (by omega), if_neg (by omega), if_neg (by omega)]
                          rw [hr]
                          clear hr
                          have q7 : (op == 7) = false := by rw [int_beq]; exact decide_eq_false e7
                          have q8 : (op == 8) = false := by rw [int_beq]; exact decide_eq_false e8
                          have q11 : (op == 11) = false := by rw [int_beq]; exact decide_eq_false e11
                          have q12 : (op == 12) = false := by rw [int_beq]; exact decide_eq_false e12
                          have q13 : (op == 13) = false := by rw [int_beq]; exact decide_eq_false e13
                          go_enter Try.func22, Try.ntmps22
                          go_wp2_with fail
                          refine (HD.out _).mono ?_
                          rintro e w1 ⟨rfl, rfl⟩
                          go_wp2_with fail
                          refine (HN.out _).mono ?_
                          rintro e w2 ⟨rfl, rfl⟩
                          go_wp2_with fail
                          refine (HM.out _).mono ?_
                          rintro e w3 ⟨rfl, rfl⟩
                          go_wp2
                          go_ret
                          exact ⟨rfl, by go_grown⟩
theorem or32 (x a : Int) (k : Nat) (p c : Int) (hp : p = 2 ^ k) (hc : c = x + a) (hx : x % p = 0) (h0 : 0 ≤ a) (h1 : a < p) (h2 : 0 ≤ x) (h3 : x < 4294967296) (hp2 : p ≤ 4294967296) : bits .or .u32 x a = c := by
  subst hc
  obtain ⟨a, rfl⟩ : ∃ y : Nat, a = y := ⟨a.toNat, by omega⟩
  obtain ⟨x, rfl⟩ : ∃ y : Nat, x = y := ⟨x.toNat, by omega⟩
  obtain ⟨q, hq⟩ : ∃ q : Nat, q = 2 ^ k := ⟨_, rfl⟩
  have hpq : p = (q : Int) := by rw [hp, hq]; exact (Int.natCast_pow 2 k).symm
  subst hpq
  rw [u32_or_nat _ _ (by omega) (by omega), nat_join k x a (by rw [← hq]; omega) (by omega)]
  omega
set_option maxRecDepth 100000 in
theorem rword_any (op d n m i : Int) (h : mayI ⟨op, d, n, m, i⟩ = true) (w : World) :
    Calls Try.prog 23 #[.agg #[.int .i64 op, .int .i64 d, .int .i64 n, .int .i64 m, .int .i64 i]] w fun e w' => e = .returned (.int .u32 (wordI ⟨op, d, n, m, i⟩)) ∧ Below w.heap.size w w' := by
  obtain ⟨⟨a0, a1⟩, ⟨b0, b1⟩, ⟨c0, c1⟩, ⟨d0, d1⟩, ⟨e0, e1⟩, _⟩ := mayI_iff.1 h
  simp only at a0 a1 b0 b1 c0 c1 d0 d1 e0 e1
  have x0 : IntKind.u32.wrap op = op := by rw [IntKind.wrap_u32']; omega
  have x1 : IntKind.u32.wrap d = d := by rw [IntKind.wrap_u32']; omega
  have x2 : IntKind.u32.wrap n = n := by rw [IntKind.wrap_u32']; omega
  have x3 : IntKind.u32.wrap m = m := by rw [IntKind.wrap_u32']; omega
  have x4 : IntKind.u32.wrap i = i % 4294967296 := IntKind.wrap_u32' i
  have y0 : IntKind.u32.wrap (op * 134217728) = op * 134217728 := by rw [IntKind.wrap_u32']; omega
  have y1 : IntKind.u32.wrap (d * 16777216) = d * 16777216 := by rw [IntKind.wrap_u32']; omega
  have y2 : IntKind.u32.wrap (n * 2097152) = n * 2097152 := by rw [IntKind.wrap_u32']; omega
  have y3 : IntKind.u32.wrap (m * 262144) = m * 262144 := by rw [IntKind.wrap_u32']; omega
  go_enter Try.func23, Try.ntmps23
  go_wp2
  go_ret
  refine ⟨ret_int ?_, by go_grown⟩
  have za : bits .and .u32 (i % 4294967296) 4095 = i % 4096 := by
    rw [u32_and _ _ (by omega) (by omega) (by decide) (by decide)]
    have : (i % 4294967296).toNat &&& (4095 : Int).toNat = (i % 4294967296).toNat % 2 ^ 12 := Nat.and_two_pow_sub_one_eq_mod _ 12
    rw [this]
    omega
  rw [za, or32 (op * 134217728) (d * 16777216) 27 134217728 _ (by decide) rfl (by omega) (by omega) (by omega) (by omega) (by omega) (by decide),
    or32 _ (n * 2097152) 24 16777216 _ (by decide) rfl (by omega) (by omega) (by omega) (by omega) (by omega) (by decide),
    or32 _ (m * 262144) 21 2097152 _ (by decide) rfl (by omega) (by omega) (by omega) (by omega) (by omega) (by decide),
    or32 _ (i % 4096) 18 262144 _ (by decide) rfl (by omega) (by omega) (by omega) (by omega) (by omega) (by decide)]
  rfl
set_option maxRecDepth 100000 in
set_option maxHeartbeats 3200000 in
theorem rof_core {v j0 j1 j2 j3 j4 s1 s2 s3 i q : Int} {mb : Bool} (hs0 : v / 134217728 = j0) (hs1 : v / 16777216 = s1) (hs2 : v / 2097152 = s2) (hs3 : v / 262144 = s3)
    (ha1 : bits .and .u32 s1 7 = j1) (ha2 : bits .and .u32 s2 7 = j2) (ha3 : bits .and .u32 s3 7 = j3) (ha4 : bits .and .u32 v 4095 = j4)
    (p0 : 0 ≤ j0) (q0 : j0 ≤ 31) (p1 : 0 ≤ j1) (q1 : j1 ≤ 7) (p2 : 0 ≤ j2) (q2 : j2 ≤ 7) (p3 : 0 ≤ j3) (q3 : j3 ≤ 7) (p4 : 0 ≤ j4) (q4 : j4 ≤ 4095)
    (hi : (2047 < j4 ∧ i = j4 - 4096) ∨ (j4 ≤ 2047 ∧ i = j4))
    (HM : Hid (∀ W, Calls Try.prog 22 #[.agg #[.int .i64 j0, .int .i64 j1, .int .i64 j2, .int .i64 j3, .int .i64 i]] W fun e w' => e = .returned (.bool mb) ∧ Below W.heap.size W w'))
    (HW : Hid (mb = true → ∀ W, Calls Try.prog 23 #[.agg #[.int .i64 j0, .int .i64 j1, .int .i64 j2, .int .i64 j3, .int .i64 i]] W fun e w' => e = .returned (.int .u32 q) ∧ Below W.heap.size W w')) (w : World) :
    Calls Try.prog 25 #[.int .u32 v] w fun e w' => e = .returned (.tuple #[if (mb && decide (q = v)) = true then .agg #[.int .i64 j0, .int .i64 j1, .int .i64 j2, .int .i64 j3, .int .i64 i] else .agg #[.int .i64 0, .int .i64 0, .int .i64 0, .int .i64 0, .int .i64 0], .bool (mb && decide (q = v))]) ∧ Below w.heap.size w w' := by
  have hw4 : IntKind.i64.wrap (j4 - 4096) = j4 - 4096 := IntWalk.i64_in _ (by omega)
  rcases hi with ⟨hb, rfl⟩ | ⟨hb, rfl⟩
  · cases mb
    · show Calls _ _ _ _ (fun e w' => e = .returned (.tuple #[.agg #[.int .i64 0, .int .i64 0, .int .i64 0, .int .i64 0, .int .i64 0], .bool false]) ∧ Below w.heap.size w w')
      have htw : w.heap.size ≤ w.heap.size := Nat.le_refl _
      have B0 := Lib.hid (Below.refl w.heap.size w)
      go_enter Try.func25, Try.ntmps25
      go_upto_region 1 with fail
      have A1 := Lib.hid ((BoxAt.newAt (w) #[.int .i64 0, .int .i64 0, .int .i64 0, .int .i64 0, .int .i64 0] 28 (w.heap.size) (by first | omega | (simp; done) | (simp; omega))))
      have B1 := Lib.hid ((bel_alloc B0.out (.cells #[.int .i64 0, .int .i64 0, .int .i64 0, .int .i64 0, .int .i64 0] 28)))
      obtain ⟨g1, hg1⟩ : ∃ g1, g1 = w.heap.size := ⟨_, rfl⟩
      obtain ⟨W1, hW1⟩ : ∃ W1, W1 = (w).alloc (.cells #[.int .i64 0, .int .i64 0, .int .i64 0, .int .i64 0, .int .i64 0] 28) := ⟨_, rfl⟩
      have hs1 : g1 + 1 ≤ W1.heap.size := by rw [hW1, hg1]; simp
      rw [← hW1] at A1 B1 ⊢
      have hb1 : w.heap.size ≤ g1 := by omega
      rw [← hg1] at A1 ⊢
      clear hg1
      clear hW1 B0
      go_upto_region 2 with fail
      have A2 := Lib.hid ((A1.out.alloc (.cells #[.int .i64 j0, .int .i64 j1, .int .i64 j2, .int .i64 j3, .int .i64 j4] 28)))
      have X2 := Lib.hid ((BoxAt.newAt (W1) #[.int .i64 j0, .int .i64 j1, .int .i64 j2, .int .i64 j3, .int .i64 j4] 28 (W1.heap.size) (by first | omega | (simp; done) | (simp; omega))))
      have B2 := Lib.hid ((bel_alloc B1.out (.cells #[.int .i64 j0, .int .i64 j1, .int .i64 j2, .int .i64 j3, .int .i64 j4] 28)))
      obtain ⟨g2, hg2⟩ : ∃ g2, g2 = W1.heap.size := ⟨_, rfl⟩
      obtain ⟨W2, hW2⟩ : ∃ W2, W2 = (W1).alloc (.cells #[.int .i64 j0, .int .i64 j1, .int .i64 j2, .int .i64 j3, .int .i64 j4] 28) := ⟨_, rfl⟩
      have hs2 : g2 + 1 ≤ W2.heap.size := by rw [hW2, hg2]; simp
      rw [← hW2] at A2 X2 B2 ⊢
      have hb2 : g1 + 1 ≤ g2 := by omega
      rw [← hg2] at X2 ⊢
      clear hg2
      clear hW2 A1 B1 hs1
      have Xc4 := X2.out.get 4 (.int .i64 j4) rfl
      have Xz4 := X2.out.free 4
      go_upto_region 4 with fail
      clear Xc4 Xz4
      have A3 := Lib.hid ((A2.out.other ⟨g2, 4, none⟩ (.int .i64 (j4 - 4096)) (show g1 ≠ g2 by omega)))
      have X3 := Lib.hid ((X2.out.set 4 (.int .i64 (j4 - 4096)) #[.int .i64 j0, .int .i64 j1, .int .i64 j2, .int .i64 j3, .int .i64 (j4 - 4096)] rfl))
      have B3 := Lib.hid ((Below.setCell B2.out (p := ⟨g2, 4, none⟩) (show w.heap.size ≤ g2 by omega) (.int .i64 (j4 - 4096))))
      obtain ⟨W3, hW3⟩ : ∃ W3, W3 = (W2).setCell ⟨g2, 4, none⟩ (.int .i64 (j4 - 4096)) := ⟨_, rfl⟩
      have hs3 : g2 + 1 ≤ W3.heap.size := by rw [hW3]; first | (simp [World.setCell]; omega) | (simp [World.setCell, World.setRow]; omega) | exact hs2
      rw [← hW3] at A3 X3 B3 ⊢
      clear hW3 A2 X2 B2 hs2
      have Xc0 := X3.out.get 0 (.int .i64 j0) rfl
      have Xc1 := X3.out.get 1 (.int .i64 j1) rfl
      have Xc2 := X3.out.get 2 (.int .i64 j2) rfl
      have Xc3 := X3.out.get 3 (.int .i64 j3) rfl
      have Xc4 := X3.out.get 4 (.int .i64 (j4 - 4096)) rfl
      go_wp2_with fail
      refine (HM.out _).mono ?_
      rintro e w4 ⟨rfl, hb4⟩
      have hz4 := hb4.size
      have A4 := Lib.hid (A3.out.below hb4)
      have X4 := Lib.hid (X3.out.below hb4)
      have B4 := Lib.hid ((bel_trans B3.out hb4))
      skip
      have hs4 : g2 + 1 ≤ w4.heap.size := by omega
      clear Xc0 Xc1 Xc2 Xc3 Xc4
      clear A3 X3 B3 hs3 hb4 hz4
      go_wp2_with (refine wpList_storeB rfl 28 _ _ rfl (g1) #[.int .i64 0, .int .i64 0, .int .i64 0, .int .i64 0, .int .i64 0] _ 28 rfl rfl (by kernel_rfl) (by rfl) (by simp [Value.oneCell']) A4.out ?_)
      have RA := (A4.out.put (cs' := #[.int .i64 0, .int .i64 0, .int .i64 0, .int .i64 0, .int .i64 0]))
      refine bodyPost_ret (v := .tuple #[.agg #[.int .i64 0, .int .i64 0, .int .i64 0, .int .i64 0, .int .i64 0], .bool false]) (by simp [results, Try.results25, go_sem, RA.get 0 (.int .i64 0) rfl, RA.get 1 (.int .i64 0) rfl, RA.get 2 (.int .i64 0) rfl, RA.get 3 (.int .i64 0) rfl, RA.get 4 (.int .i64 0) rfl]) rfl ?_
      exact ⟨rfl, (Below.rowB (g := g1) B4.out (cs := #[.int .i64 0, .int .i64 0, .int .i64 0, .int .i64 0, .int .i64 0]) (show w.heap.size ≤ g1 by omega))⟩
    · by_cases hq : q = v
      · have hn : (q != v) = false := by rw [bne, int_beq, decide_eq_true hq]; rfl
        have hr : (true && decide (q = v)) = true := by rw [decide_eq_true hq]; rfl
        rw [hr, if_pos rfl]
        clear hr hq
        have htw : w.heap.size ≤ w.heap.size := Nat.le_refl _
        have B0 := Lib.hid (Below.refl w.heap.size w)
        go_enter Try.func25, Try.ntmps25
        go_upto_region 1 with fail
        have A1 := Lib.hid ((BoxAt.newAt (w) #[.int .i64 0, .int .i64 0, .int .i64 0, .int .i64 0, .int .i64 0] 28 (w.heap.size) (by first | omega | (simp; done) | (simp; omega))))
        have B1 := Lib.hid ((bel_alloc B0.out (.cells #[.int .i64 0, .int .i64 0, .int .i64 0, .int .i64 0, .int .i64 0] 28)))
        obtain ⟨g1, hg1⟩ : ∃ g1, g1 = w.heap.size := ⟨_, rfl⟩
        obtain ⟨W1, hW1⟩ : ∃ W1, W1 = (w).alloc (.cells #[.int .i64 0, .int .i64 0, .int .i64 0, .int .i64 0, .int .i64 0] 28) := ⟨_, rfl⟩
        have hs1 : g1 + 1 ≤ W1.heap.size := by rw [hW1, hg1]; simp
        rw [← hW1] at A1 B1 ⊢
        have hb1 : w.heap.size ≤ g1 := by omega
        rw [← hg1] at A1 ⊢
        clear hg1
        clear hW1 B0
        go_upto_region 2 with fail
        have A2 := Lib.hid ((A1.out.alloc (.cells #[.int .i64 j0, .int .i64 j1, .int .i64 j2, .int .i64 j3, .int .i64 j4] 28)))
        have X2 := Lib.hid ((BoxAt.newAt (W1) #[.int .i64 j0, .int .i64 j1, .int .i64 j2, .int .i64 j3, .int .i64 j4] 28 (W1.heap.size) (by first | omega | (simp; done) | (simp; omega))))
        have B2 := Lib.hid ((bel_alloc B1.out (.cells #[.int .i64 j0, .int .i64 j1, .int .i64 j2, .int .i64 j3, .int .i64 j4] 28)))
        obtain ⟨g2, hg2⟩ : ∃ g2, g2 = W1.heap.size := ⟨_, rfl⟩
        obtain ⟨W2, hW2⟩ : ∃ W2, W2 = (W1).alloc (.cells #[.int .i64 j0, .int .i64 j1, .int .i64 j2, .int .i64 j3, .int .i64 j4] 28) := ⟨_, rfl⟩
        have hs2 : g2 + 1 ≤ W2.heap.size := by rw [hW2, hg2]; simp
        rw [← hW2] at A2 X2 B2 ⊢
        have hb2 : g1 + 1 ≤ g2 := by omega
        rw [← hg2] at X2 ⊢
        clear hg2
        clear hW2 A1 B1 hs1
        have Xc4 := X2.out.get 4 (.int .i64 j4) rfl
        have Xz4 := X2.out.free 4
        go_upto_region 4 with fail
        clear Xc4 Xz4
        have A3 := Lib.hid ((A2.out.other ⟨g2, 4, none⟩ (.int .i64 (j4 - 4096)) (show g1 ≠ g2 by omega)))
        have X3 := Lib.hid ((X2.out.set 4 (.int .i64 (j4 - 4096)) #[.int .i64 j0, .int .i64 j1, .int .i64 j2, .int .i64 j3, .int .i64 (j4 - 4096)] rfl))
        have B3 := Lib.hid ((Below.setCell B2.out (p := ⟨g2, 4, none⟩) (show w.heap.size ≤ g2 by omega) (.int .i64 (j4 - 4096))))
        obtain ⟨W3, hW3⟩ : ∃ W3, W3 = (W2).setCell ⟨g2, 4, none⟩ (.int .i64 (j4 - 4096)) := ⟨_, rfl⟩
        have hs3 : g2 + 1 ≤ W3.heap.size := by rw [hW3]; first | (simp [World.setCell]; omega) | (simp [World.setCell, World.setRow]; omega) | exact hs2
        rw [← hW3] at A3 X3 B3 ⊢
        clear hW3 A2 X2 B2 hs2
        have Xc0 := X3.out.get 0 (.int .i64 j0) rfl
        have Xc1 := X3.out.get 1 (.int .i64 j1) rfl
        have Xc2 := X3.out.get 2 (.int .i64 j2) rfl
        have Xc3 := X3.out.get 3 (.int .i64 j3) rfl
        have Xc4 := X3.out.get 4 (.int .i64 (j4 - 4096)) rfl
        go_wp2_with fail
        refine (HM.out _).mono ?_
        rintro e w4 ⟨rfl, hb4⟩
        have hz4 := hb4.size
        have A4 := Lib.hid (A3.out.below hb4)
        have X4 := Lib.hid (X3.out.below hb4)
        have B4 := Lib.hid ((bel_trans B3.out hb4))
        skip
        have hs4 : g2 + 1 ≤ w4.heap.size := by omega
        clear Xc0 Xc1 Xc2 Xc3 Xc4
        clear A3 X3 B3 hs3 hb4 hz4
        have Xc0 := X4.out.get 0 (.int .i64 j0) rfl
        have Xc1 := X4.out.get 1 (.int .i64 j1) rfl
        have Xc2 := X4.out.get 2 (.int .i64 j2) rfl
        have Xc3 := X4.out.get 3 (.int .i64 j3) rfl
        have Xc4 := X4.out.get 4 (.int .i64 (j4 - 4096)) rfl
        go_wp2_with fail
        refine (HW.out (by first | trivial | rfl) _).mono ?_
        rintro e w5 ⟨rfl, hb5⟩
        have hz5 := hb5.size
        have A5 := Lib.hid (A4.out.below hb5)
        have X5 := Lib.hid (X4.out.below hb5)
        have B5 := Lib.hid ((bel_trans B4.out hb5))
        skip
        have hs5 : g2 + 1 ≤ w5.heap.size := by omega
        clear Xc0 Xc1 Xc2 Xc3 Xc4
        clear A4 X4 B4 hs4 hb5 hz5
        have Xc0 := X5.out.get 0 (.int .i64 j0) rfl
        have Xc1 := X5.out.get 1 (.int .i64 j1) rfl
        have Xc2 := X5.out.get 2 (.int .i64 j2) rfl
        have Xc3 := X5.out.get 3 (.int .i64 j3) rfl
        have Xc4 := X5.out.get 4 (.int .i64 (j4 - 4096)) rfl
        go_wp2_with (refine wpList_storeB rfl 28 _ _ rfl (g1) #[.int .i64 j0, .int .i64 j1, .int .i64 j2, .int .i64 j3, .int .i64 (j4 - 4096)] _ 28 rfl rfl (by kernel_rfl) (by rfl) (by simp [Value.oneCell']) A5.out ?_)
        have RA := (A5.out.put (cs' := #[.int .i64 j0, .int .i64 j1, .int .i64 j2, .int .i64 j3, .int .i64 (j4 - 4096)]))
        refine bodyPost_ret (v := .tuple #[.agg #[.int .i64 j0, .int .i64 j1, .int .i64 j2, .int .i64 j3, .int .i64 (j4 - 4096)], .bool true]) (by simp [results, Try.results25, go_sem, RA.get 0 (.int .i64 j0) rfl, RA.get 1 (.int .i64 j1) rfl, RA.get 2 (.int .i64 j2) rfl, RA.get 3 (.int .i64 j3) rfl, RA.get 4 (.int .i64 (j4 - 4096)) rfl]) rfl ?_
        exact ⟨rfl, (Below.rowB (g := g1) B5.out (cs := #[.int .i64 j0, .int .i64 j1, .int .i64 j2, .int .i64 j3, .int .i64 (j4 - 4096)]) (show w.heap.size ≤ g1 by omega))⟩
      · have hn : (q != v) = true := by rw [bne, int_beq, decide_eq_false hq]; rfl
        have hr : (true && decide (q = v)) = false := by rw [decide_eq_false hq]; rfl
        rw [hr, if_neg (by decide)]
        clear hr hq
        have htw : w.heap.size ≤ w.heap.size := Nat.le_refl _
        have B0 := Lib.hid (Below.refl w.heap.size w)
        go_enter Try.func25, Try.ntmps25
        go_upto_region 1 with fail
        have A1 := Lib.hid ((BoxAt.newAt (w) #[.int .i64 0, .int .i64 0, .int .i64 0, .int .i64 0, .int .i64 0] 28 (w.heap.size) (by first | omega | (simp; done) | (simp; omega))))
        have B1 := Lib.hid ((bel_alloc B0.out (.cells #[.int .i64 0, .int .i64 0, .int .i64 0, .int .i64 0, .int .i64 0] 28)))
        obtain ⟨g1, hg1⟩ : ∃ g1, g1 = w.heap.size := ⟨_, rfl⟩
        obtain ⟨W1, hW1⟩ : ∃ W1, W1 = (w).alloc (.cells #[.int .i64 0, .int .i64 0, .int .i64 0, .int .i64 0, .int .i64 0] 28) := ⟨_, rfl⟩
        have hs1 : g1 + 1 ≤ W1.heap.size := by rw [hW1, hg1]; simp
        rw [← hW1] at A1 B1 ⊢
        have hb1 : w.heap.size ≤ g1 := by omega
        rw [← hg1] at A1 ⊢
        clear hg1
        clear hW1 B0
        go_upto_region 2 with fail
        have A2 := Lib.hid ((A1.out.alloc (.cells #[.int .i64 j0, .int .i64 j1, .int .i64 j2, .int .i64 j3, .int .i64 j4] 28)))
        have X2 := Lib.hid ((BoxAt.newAt (W1) #[.int .i64 j0, .int .i64 j1, .int .i64 j2, .int .i64 j3, .int .i64 j4] 28 (W1.heap.size) (by first | omega | (simp; done) | (simp; omega))))
        have B2 := Lib.hid ((bel_alloc B1.out (.cells #[.int .i64 j0, .int .i64 j1, .int .i64 j2, .int .i64 j3, .int .i64 j4] 28)))
        obtain ⟨g2, hg2⟩ : ∃ g2, g2 = W1.heap.size := ⟨_, rfl⟩
        obtain ⟨W2, hW2⟩ : ∃ W2, W2 = (W1).alloc (.cells #[.int .i64 j0, .int .i64 j1, .int .i64 j2, .int .i64 j3, .int .i64 j4] 28) := ⟨_, rfl⟩
        have hs2 : g2 + 1 ≤ W2.heap.size := by rw [hW2, hg2]; simp
        rw [← hW2] at A2 X2 B2 ⊢
        have hb2 : g1 + 1 ≤ g2 := by omega
        rw [← hg2] at X2 ⊢
        clear hg2
        clear hW2 A1 B1 hs1
        have Xc4 := X2.out.get 4 (.int .i64 j4) rfl
        have Xz4 := X2.out.free 4
        go_upto_region 4 with fail
        clear Xc4 Xz4
        have A3 := Lib.hid ((A2.out.other ⟨g2, 4, none⟩ (.int .i64 (j4 - 4096)) (show g1 ≠ g2 by omega)))
        have X3 := Lib.hid ((X2.out.set 4 (.int .i64 (j4 - 4096)) #[.int .i64 j0, .int .i64 j1, .int .i64 j2, .int .i64 j3, .int .i64 (j4 - 4096)] rfl))
        have B3 := Lib.hid ((Below.setCell B2.out (p := ⟨g2, 4, none⟩) (show w.heap.size ≤ g2 by omega) (.int .i64 (j4 - 4096))))
        obtain ⟨W3, hW3⟩ : ∃ W3, W3 = (W2).setCell ⟨g2, 4, none⟩ (.int .i64 (j4 - 4096)) := ⟨_, rfl⟩
        have hs3 : g2 + 1 ≤ W3.heap.size := by rw [hW3]; first | (simp [World.setCell]; omega) | (simp [World.setCell, World.setRow]; omega) | exact hs2
        rw [← hW3] at A3 X3 B3 ⊢
        clear hW3 A2 X2 B2 hs2
        have Xc0 := X3.out.get 0 (.int .i64 j0) rfl
        have Xc1 := X3.out.get 1 (.int .i64 j1) rfl
        have Xc2 := X3.out.get 2 (.int .i64 j2) rfl
        have Xc3 := X3.out.get 3 (.int .i64 j3) rfl
        have Xc4 := X3.out.get 4 (.int .i64 (j4 - 4096)) rfl
        go_wp2_with fail
        refine (HM.out _).mono ?_
        rintro e w4 ⟨rfl, hb4⟩
        have hz4 := hb4.size
        have A4 := Lib.hid (A3.out.below hb4)
        have X4 := Lib.hid (X3.out.below hb4)
        have B4 := Lib.hid ((bel_trans B3.out hb4))
        skip
        have hs4 : g2 + 1 ≤ w4.heap.size := by omega
        clear Xc0 Xc1 Xc2 Xc3 Xc4
        clear A3 X3 B3 hs3 hb4 hz4
        have Xc0 := X4.out.get 0 (.int .i64 j0) rfl
        have Xc1 := X4.out.get 1 (.int .i64 j1) rfl
        have Xc2 := X4.out.get 2 (.int .i64 j2) rfl
        have Xc3 := X4.out.get 3 (.int .i64 j3) rfl
        have Xc4 := X4.out.get 4 (.int .i64 (j4 - 4096)) rfl
        go_wp2_with fail
        refine (HW.out (by first | trivial | rfl) _).mono ?_
        rintro e w5 ⟨rfl, hb5⟩
        have hz5 := hb5.size
        have A5 := Lib.hid (A4.out.below hb5)
        have X5 := Lib.hid (X4.out.below hb5)
        have B5 := Lib.hid ((bel_trans B4.out hb5))
        skip
        have hs5 : g2 + 1 ≤ w5.heap.size := by omega
        clear Xc0 Xc1 Xc2 Xc3 Xc4
        clear A4 X4 B4 hs4 hb5 hz5
        go_wp2_with (refine wpList_storeB rfl 28 _ _ rfl (g1) #[.int .i64 0, .int .i64 0, .int .i64 0, .int .i64 0, .int .i64 0] _ 28 rfl rfl (by kernel_rfl) (by rfl) (by simp [Value.oneCell']) A5.out ?_)
        have RA := (A5.out.put (cs' := #[.int .i64 0, .int .i64 0, .int .i64 0, .int .i64 0, .int .i64 0]))
        refine bodyPost_ret (v := .tuple #[.agg #[.int .i64 0, .int .i64 0, .int .i64 0, .int .i64 0, .int .i64 0], .bool false]) (by simp [results, Try.results25, go_sem, RA.get 0 (.int .i64 0) rfl, RA.get 1 (.int .i64 0) rfl, RA.get 2 (.int .i64 0) rfl, RA.get 3 (.int .i64 0) rfl, RA.get 4 (.int .i64 0) rfl]) rfl ?_
        exact ⟨rfl, (Below.rowB (g := g1) B5.out (cs := #[.int .i64 0, .int .i64 0, .int .i64 0, .int .i64 0, .int .i64 0]) (show w.heap.size ≤ g1 by omega))⟩
  · cases mb
    · show Calls _ _ _ _ (fun e w' => e = .returned (.tuple #[.agg #[.int .i64 0, .int .i64 0, .int .i64 0, .int .i64 0, .int .i64 0], .bool false]) ∧ Below w.heap.size w w')
      have htw : w.heap.size ≤ w.heap.size := Nat.le_refl _
      have B0 := Lib.hid (Below.refl w.heap.size w)
      go_enter Try.func25, Try.ntmps25
      go_upto_region 1 with fail
      have A1 := Lib.hid ((BoxAt.newAt (w) #[.int .i64 0, .int .i64 0, .int .i64 0, .int .i64 0, .int .i64 0] 28 (w.heap.size) (by first | omega | (simp; done) | (simp; omega))))
      have B1 := Lib.hid ((bel_alloc B0.out (.cells #[.int .i64 0, .int .i64 0, .int .i64 0, .int .i64 0, .int .i64 0] 28)))
      obtain ⟨g1, hg1⟩ : ∃ g1, g1 = w.heap.size := ⟨_, rfl⟩
      obtain ⟨W1, hW1⟩ : ∃ W1, W1 = (w).alloc (.cells #[.int .i64 0, .int .i64 0, .int .i64 0, .int .i64 0, .int .i64 0] 28) := ⟨_, rfl⟩
      have hs1 : g1 + 1 ≤ W1.heap.size := by rw [hW1, hg1]; simp
      rw [← hW1] at A1 B1 ⊢
      have hb1 : w.heap.size ≤ g1 := by omega
      rw [← hg1] at A1 ⊢
      clear hg1
      clear hW1 B0
      go_upto_region 2 with fail
      have A2 := Lib.hid ((A1.out.alloc (.cells #[.int .i64 j0, .int .i64 j1, .int .i64 j2, .int .i64 j3, .int .i64 i] 28)))
      have X2 := Lib.hid ((BoxAt.newAt (W1) #[.int .i64 j0, .int .i64 j1, .int .i64 j2, .int .i64 j3, .int .i64 i] 28 (W1.heap.size) (by first | omega | (simp; done) | (simp; omega))))
      have B2 := Lib.hid ((bel_alloc B1.out (.cells #[.int .i64 j0, .int .i64 j1, .int .i64 j2, .int .i64 j3, .int .i64 i] 28)))
      obtain ⟨g2, hg2⟩ : ∃ g2, g2 = W1.heap.size := ⟨_, rfl⟩
      obtain ⟨W2, hW2⟩ : ∃ W2, W2 = (W1).alloc (.cells #[.int .i64 j0, .int .i64 j1, .int .i64 j2, .int .i64 j3, .int .i64 i] 28) := ⟨_, rfl⟩
      have hs2 : g2 + 1 ≤ W2.heap.size := by rw [hW2, hg2]; simp
      rw [← hW2] at A2 X2 B2 ⊢
      have hb2 : g1 + 1 ≤ g2 := by omega
      rw [← hg2] at X2 ⊢
      clear hg2
      clear hW2 A1 B1 hs1
      have Xc4 := X2.out.get 4 (.int .i64 i) rfl
      have Xc0 := X2.out.get 0 (.int .i64 j0) rfl
      have Xc1 := X2.out.get 1 (.int .i64 j1) rfl
      have Xc2 := X2.out.get 2 (.int .i64 j2) rfl
      have Xc3 := X2.out.get 3 (.int .i64 j3) rfl
      go_wp2_with fail
      refine (HM.out _).mono ?_
      rintro e w3 ⟨rfl, hb3⟩
      have hz3 := hb3.size
      have A3 := Lib.hid (A2.out.below hb3)
      have X3 := Lib.hid (X2.out.below hb3)
      have B3 := Lib.hid ((bel_trans B2.out hb3))
      skip
      have hs3 : g2 + 1 ≤ w3.heap.size := by omega
      clear Xc4 Xc0 Xc1 Xc2 Xc3
      clear A2 X2 B2 hs2 hb3 hz3
      go_wp2_with (refine wpList_storeB rfl 28 _ _ rfl (g1) #[.int .i64 0, .int .i64 0, .int .i64 0, .int .i64 0, .int .i64 0] _ 28 rfl rfl (by kernel_rfl) (by rfl) (by simp [Value.oneCell']) A3.out ?_)
      have RA := (A3.out.put (cs' := #[.int .i64 0, .int .i64 0, .int .i64 0, .int .i64 0, .int .i64 0]))
      refine bodyPost_ret (v := .tuple #[.agg #[.int .i64 0, .int .i64 0, .int .i64 0, .int .i64 0, .int .i64 0], .bool false]) (by simp [results, Try.results25, go_sem, RA.get 0 (.int .i64 0) rfl, RA.get 1 (.int .i64 0) rfl, RA.get 2 (.int .i64 0) rfl, RA.get 3 (.int .i64 0) rfl, RA.get 4 (.int .i64 0) rfl]) rfl ?_
      exact ⟨rfl, (Below.rowB (g := g1) B3.out (cs := #[.int .i64 0, .int .i64 0, .int .i64 0, .int .i64 0, .int .i64 0]) (show w.heap.size ≤ g1 by omega))⟩
    · by_cases hq : q = v
      · have hn : (q != v) = false := by rw [bne, int_beq, decide_eq_true hq]; rfl
        have hr : (true && decide (q = v)) = true := by rw [decide_eq_true hq]; rfl
        rw [hr, if_pos rfl]
        clear hr hq
        have htw : w.heap.size ≤ w.heap.size := Nat.le_refl _
        have B0 := Lib.hid (Below.refl w.heap.size w)
        go_enter Try.func25, Try.ntmps25
        go_upto_region 1 with fail
        have A1 := Lib.hid ((BoxAt.newAt (w) #[.int .i64 0, .int .i64 0, .int .i64 0, .int .i64 0, .int .i64 0] 28 (w.heap.size) (by first | omega | (simp; done) | (simp; omega))))
        have B1 := Lib.hid ((bel_alloc B0.out (.cells #[.int .i64 0, .int .i64 0, .int .i64 0, .int .i64 0, .int .i64 0] 28)))
        obtain ⟨g1, hg1⟩ : ∃ g1, g1 = w.heap.size := ⟨_, rfl⟩
        obtain ⟨W1, hW1⟩ : ∃ W1, W1 = (w).alloc (.cells #[.int .i64 0, .int .i64 0, .int .i64 0, .int .i64 0, .int .i64 0] 28) := ⟨_, rfl⟩
        have hs1 : g1 + 1 ≤ W1.heap.size := by rw [hW1, hg1]; simp
        rw [← hW1] at A1 B1 ⊢
        have hb1 : w.heap.size ≤ g1 := by omega
        rw [← hg1] at A1 ⊢
        clear hg1
        clear hW1 B0
        go_upto_region 2 with fail
        have A2 := Lib.hid ((A1.out.alloc (.cells #[.int .i64 j0, .int .i64 j1, .int .i64 j2, .int .i64 j3, .int .i64 i] 28)))
        have X2 := Lib.hid ((BoxAt.newAt (W1) #[.int .i64 j0, .int .i64 j1, .int .i64 j2, .int .i64 j3, .int .i64 i] 28 (W1.heap.size) (by first | omega | (simp; done) | (simp; omega))))
        have B2 := Lib.hid ((bel_alloc B1.out (.cells #[.int .i64 j0, .int .i64 j1, .int .i64 j2, .int .i64 j3, .int .i64 i] 28)))
        obtain ⟨g2, hg2⟩ : ∃ g2, g2 = W1.heap.size := ⟨_, rfl⟩
        obtain ⟨W2, hW2⟩ : ∃ W2, W2 = (W1).alloc (.cells #[.int .i64 j0, .int .i64 j1, .int .i64 j2, .int .i64 j3, .int .i64 i] 28) := ⟨_, rfl⟩
        have hs2 : g2 + 1 ≤ W2.heap.size := by rw [hW2, hg2]; simp
        rw [← hW2] at A2 X2 B2 ⊢
        have hb2 : g1 + 1 ≤ g2 := by omega
        rw [← hg2] at X2 ⊢
        clear hg2
        clear hW2 A1 B1 hs1
        have Xc4 := X2.out.get 4 (.int .i64 i) rfl
        have Xc0 := X2.out.get 0 (.int .i64 j0) rfl
        have Xc1 := X2.out.get 1 (.int .i64 j1) rfl
        have Xc2 := X2.out.get 2 (.int .i64 j2) rfl
        have Xc3 := X2.out.get 3 (.int .i64 j3) rfl
        go_wp2_with fail
        refine (HM.out _).mono ?_
        rintro e w3 ⟨rfl, hb3⟩
        have hz3 := hb3.size
        have A3 := Lib.hid (A2.out.below hb3)
        have X3 := Lib.hid (X2.out.below hb3)
        have B3 := Lib.hid ((bel_trans B2.out hb3))
        skip
        have hs3 : g2 + 1 ≤ w3.heap.size := by omega
        clear Xc4 Xc0 Xc1 Xc2 Xc3
        clear A2 X2 B2 hs2 hb3 hz3
        have Xc0 := X3.out.get 0 (.int .i64 j0) rfl
        have Xc1 := X3.out.get 1 (.int .i64 j1) rfl
        have Xc2 := X3.out.get 2 (.int .i64 j2) rfl
        have Xc3 := X3.out.get 3 (.int .i64 j3) rfl
        have Xc4 := X3.out.get 4 (.int .i64 i) rfl
        go_wp2_with fail
        refine (HW.out (by first | trivial | rfl) _).mono ?_
        rintro e w4 ⟨rfl, hb4⟩
        have hz4 := hb4.size
        have A4 := Lib.hid (A3.out.below hb4)
        have X4 := Lib.hid (X3.out.below hb4)
        have B4 := Lib.hid ((bel_trans B3.out hb4))
        skip
        have hs4 : g2 + 1 ≤ w4.heap.size := by omega
        clear Xc0 Xc1 Xc2 Xc3 Xc4
        clear A3 X3 B3 hs3 hb4 hz4
        have Xc0 := X4.out.get 0 (.int .i64 j0) rfl
        have Xc1 := X4.out.get 1 (.int .i64 j1) rfl
        have Xc2 := X4.out.get 2 (.int .i64 j2) rfl
        have Xc3 := X4.out.get 3 (.int .i64 j3) rfl
        have Xc4 := X4.out.get 4 (.int .i64 i) rfl
        go_wp2_with (refine wpList_storeB rfl 28 _ _ rfl (g1) #[.int .i64 j0, .int .i64 j1, .int .i64 j2, .int .i64 j3, .int .i64 i] _ 28 rfl rfl (by kernel_rfl) (by rfl) (by simp [Value.oneCell']) A4.out ?_)
        have RA := (A4.out.put (cs' := #[.int .i64 j0, .int .i64 j1, .int .i64 j2, .int .i64 j3, .int .i64 i]))
        refine bodyPost_ret (v := .tuple #[.agg #[.int .i64 j0, .int .i64 j1, .int .i64 j2, .int .i64 j3, .int .i64 i], .bool true]) (by simp [results, Try.results25, go_sem, RA.get 0 (.int .i64 j0) rfl, RA.get 1 (.int .i64 j1) rfl, RA.get 2 (.int .i64 j2) rfl, RA.get 3 (.int .i64 j3) rfl, RA.get 4 (.int .i64 i) rfl]) rfl ?_
        exact ⟨rfl, (Below.rowB (g := g1) B4.out (cs := #[.int .i64 j0, .int .i64 j1, .int .i64 j2, .int .i64 j3, .int .i64 i]) (show w.heap.size ≤ g1 by omega))⟩
      · have hn : (q != v) = true := by rw [bne, int_beq, decide_eq_false hq]; rfl
        have hr : (true && decide (q = v)) = false := by rw [decide_eq_false hq]; rfl
        rw [hr, if_neg (by decide)]
        clear hr hq
        have htw : w.heap.size ≤ w.heap.size := Nat.le_refl _
        have B0 := Lib.hid (Below.refl w.heap.size w)
        go_enter Try.func25, Try.ntmps25
        go_upto_region 1 with fail
        have A1 := Lib.hid ((BoxAt.newAt (w) #[.int .i64 0, .int .i64 0, .int .i64 0, .int .i64 0, .int .i64 0] 28 (w.heap.size) (by first | omega | (simp; done) | (simp; omega))))
        have B1 := Lib.hid ((bel_alloc B0.out (.cells #[.int .i64 0, .int .i64 0, .int .i64 0, .int .i64 0, .int .i64 0] 28)))
        obtain ⟨g1, hg1⟩ : ∃ g1, g1 = w.heap.size := ⟨_, rfl⟩
        obtain ⟨W1, hW1⟩ : ∃ W1, W1 = (w).alloc (.cells #[.int .i64 0, .int .i64 0, .int .i64 0, .int .i64 0, .int .i64 0] 28) := ⟨_, rfl⟩
        have hs1 : g1 + 1 ≤ W1.heap.size := by rw [hW1, hg1]; simp
        rw [← hW1] at A1 B1 ⊢
        have hb1 : w.heap.size ≤ g1 := by omega
        rw [← hg1] at A1 ⊢
        clear hg1
        clear hW1 B0
        go_upto_region 2 with fail
        have A2 := Lib.hid ((A1.out.alloc (.cells #[.int .i64 j0, .int .i64 j1, .int .i64 j2, .int .i64 j3, .int .i64 i] 28)))
        have X2 := Lib.hid ((BoxAt.newAt (W1) #[.int .i64 j0, .int .i64 j1, .int .i64 j2, .int .i64 j3, .int .i64 i] 28 (W1.heap.size) (by first | omega | (simp; done) | (simp; omega))))
        have B2 := Lib.hid ((bel_alloc B1.out (.cells #[.int .i64 j0, .int .i64 j1, .int .i64 j2, .int .i64 j3, .int .i64 i] 28)))
        obtain ⟨g2, hg2⟩ : ∃ g2, g2 = W1.heap.size := ⟨_, rfl⟩
        obtain ⟨W2, hW2⟩ : ∃ W2, W2 = (W1).alloc (.cells #[.int .i64 j0, .int .i64 j1, .int .i64 j2, .int .i64 j3, .int .i64 i] 28) := ⟨_, rfl⟩
        have hs2 : g2 + 1 ≤ W2.heap.size := by rw [hW2, hg2]; simp
        rw [← hW2] at A2 X2 B2 ⊢
        have hb2 : g1 + 1 ≤ g2 := by omega
        rw [← hg2] at X2 ⊢
        clear hg2
        clear hW2 A1 B1 hs1
        have Xc4 := X2.out.get 4 (.int .i64 i) rfl
        have Xc0 := X2.out.get 0 (.int .i64 j0) rfl
        have Xc1 := X2.out.get 1 (.int .i64 j1) rfl
        have Xc2 := X2.out.get 2 (.int .i64 j2) rfl
        have Xc3 := X2.out.get 3 (.int .i64 j3) rfl
        go_wp2_with fail
        refine (HM.out _).mono ?_
        rintro e w3 ⟨rfl, hb3⟩
        have hz3 := hb3.size
        have A3 := Lib.hid (A2.out.below hb3)
        have X3 := Lib.hid (X2.out.below hb3)
        have B3 := Lib.hid ((bel_trans B2.out hb3))
        skip
        have hs3 : g2 + 1 ≤ w3.heap.size := by omega
        clear Xc4 Xc0 Xc1 Xc2 Xc3
        clear A2 X2 B2 hs2 hb3 hz3
        have Xc0 := X3.out.get 0 (.int .i64 j0) rfl
        have Xc1 := X3.out.get 1 (.int .i64 j1) rfl
        have Xc2 := X3.out.get 2 (.int .i64 j2) rfl
        have Xc3 := X3.out.get 3 (.int .i64 j3) rfl
        have Xc4 := X3.out.get 4 (.int .i64 i) rfl
        go_wp2_with fail
        refine (HW.out (by first | trivial | rfl) _).mono ?_
        rintro e w4 ⟨rfl, hb4⟩
        have hz4 := hb4.size
        have A4 := Lib.hid (A3.out.below hb4)
        have X4 := Lib.hid (X3.out.below hb4)
        have B4 := Lib.hid ((bel_trans B3.out hb4))
        skip
        have hs4 : g2 + 1 ≤ w4.heap.size := by omega
        clear Xc0 Xc1 Xc2 Xc3 Xc4
        clear A3 X3 B3 hs3 hb4 hz4
        go_wp2_with (refine wpList_storeB rfl 28 _ _ rfl (g1) #[.int .i64 0, .int .i64 0, .int .i64 0, .int .i64 0, .int .i64 0] _ 28 rfl rfl (by kernel_rfl) (by rfl) (by simp [Value.oneCell']) A4.out ?_)
        have RA := (A4.out.put (cs' := #[.int .i64 0, .int .i64 0, .int .i64 0, .int .i64 0, .int .i64 0]))
        refine bodyPost_ret (v := .tuple #[.agg #[.int .i64 0, .int .i64 0, .int .i64 0, .int .i64 0, .int .i64 0], .bool false]) (by simp [results, Try.results25, go_sem, RA.get 0 (.int .i64 0) rfl, RA.get 1 (.int .i64 0) rfl, RA.get 2 (.int .i64 0) rfl, RA.get 3 (.int .i64 0) rfl, RA.get 4 (.int .i64 0) rfl]) rfl ?_
        exact ⟨rfl, (Below.rowB (g := g1) B4.out (cs := #[.int .i64 0, .int .i64 0, .int .i64 0, .int .i64 0, .int .i64 0]) (show w.heap.size ≤ g1 by omega))⟩
theorem and7 (s : Int) (h0 : 0 ≤ s) (h1 : s < 4294967296) : bits .and .u32 s 7 = s % 8 := by
  rw [u32_and _ _ h0 h1 (by decide) (by decide)]
  have : s.toNat &&& (7 : Int).toNat = s.toNat % 2 ^ 3 := Nat.and_two_pow_sub_one_eq_mod _ 3
  rw [this]
  omega
theorem and4095 (s : Int) (h0 : 0 ≤ s) (h1 : s < 4294967296) : bits .and .u32 s 4095 = s % 4096 := by
  rw [u32_and _ _ h0 h1 (by decide) (by decide)]
  have : s.toNat &&& (4095 : Int).toNat = s.toNat % 2 ^ 12 := Nat.and_two_pow_sub_one_eq_mod _ 12
  rw [this]
  omega
theorem rof_any (v : Int) (h0 : 0 ≤ v) (h1 : v ≤ 4294967295) (w : World) :
    Calls Try.prog 25 #[.int .u32 v] w fun e w' => e = .returned (.tuple #[insV (ofI v), .bool (isI v)]) ∧ Below w.heap.size w w' := by
  have HM := Lib.hid (fun W => rinsn_any (readI v) W)
  have HW := Lib.hid (fun h W => rword_any (readI v).op (readI v).d (readI v).n (readI v).m (readI v).i h W)
  have e := rof_core (v := v) (q := wordI (readI v)) (mb := mayI (readI v)) rfl rfl rfl rfl (and7 _ (by omega) (by omega)) (and7 _ (by omega) (by omega)) (and7 _ (by omega) (by omega)) (and4095 v (by omega) (by omega))
    (by omega) (by omega) (by omega) (by omega) (by omega) (by omega) (by omega) (by omega) (by omega) (by omega) (i := sg12 (v % 4096)) (by unfold sg12; split <;> omega) HM HW w
  refine e.mono ?_
  rintro e w' ⟨rfl, hb⟩
  refine ⟨?_, hb⟩
  have hi : isI v = (mayI (readI v) && decide (wordI (readI v) = v)) := rfl
  unfold ofI
  rw [← hi]
  cases isI v <;> rfl
end Go.Proofs.Ytgjmladfeelcnaa
