/- TLBs: copied, compared; what takes away, and which entry is of whom: contracts. -/
import Derived.Test.YtjohnpbfdpmajaaBd
set_option linter.all false
namespace Go.Proofs.Ytjohnpbfdpmajaa
open Go.ChangeShapes Go.WideShapes Go.ChangeAt Go.RowKit Go.Deep

theorem inval9_any (i : Inv) (w : World) :
    Calls Try.prog 15 #[invV i] w fun r w' => r = .returned (.bool (mayIn i)) ∧ Below w.heap.size w w' := by
  unfold invV invC mayIn
  have H0 := Lib.hid (fun W => tag9_any i.vm W)
  have H1 := Lib.hid (fun W => tag9_any i.sp W)
  have H2 := Lib.hid (fun W => page_any i.pg W)
  generalize numB i.vm 15 = b0 at *
  generalize numB i.sp 15 = b1 at *
  generalize numB i.pg 4095 = b2 at *
  have htw : w.heap.size ≤ w.heap.size := Nat.le_refl _
  have B0 := Lib.hid (Below.refl w.heap.size w)
  go_enter Try.func15, Try.ntmps15
  go_upto_region 1 with fail
  have E1 := Lib.hid ((BoxAt.newAt (w) #[.int .i64 i.k, .int .i64 i.vm, .int .i64 i.sp, .int .i64 i.pg] 32 (w.heap.size) (by first | omega | (simp; done) | (simp; omega))))
  have B1 := Lib.hid ((bel_alloc B0.out (.cells #[.int .i64 i.k, .int .i64 i.vm, .int .i64 i.sp, .int .i64 i.pg] 32)))
  obtain ⟨g1, hg1⟩ : ∃ g1, g1 = w.heap.size := ⟨_, rfl⟩
  obtain ⟨W1, hW1⟩ : ∃ W1, W1 = (w).alloc (.cells #[.int .i64 i.k, .int .i64 i.vm, .int .i64 i.sp, .int .i64 i.pg] 32) := ⟨_, rfl⟩
  have hs1 : g1 + 1 ≤ W1.heap.size := by rw [hW1, hg1]; simp
  rw [← hW1] at E1 B1 ⊢
  have hb1 : w.heap.size ≤ g1 := by omega
  rw [← hg1] at E1 ⊢
  clear hg1
  clear hW1 B0
  have Ec0 := E1.out.get 0 (.int .i64 i.k) rfl
  by_cases hk1 : 1 ≤ i.k
  · have dk1 : decide (1 ≤ i.k) = true := decide_eq_true hk1
    by_cases hk6 : i.k ≤ 6
    · have dk6 : decide (i.k ≤ 6) = true := decide_eq_true hk6
      have Ec1 := E1.out.get 1 (.int .i64 i.vm) rfl
      go_wp2_with fail
      refine (H0.out _).mono ?_
      rintro e w2 ⟨rfl, rfl⟩
      cases b0
      · go_wp2
        go_ret
        refine ⟨ret_bool ?_, B1.out⟩
        first | rfl | (simp [hk1, hk6]; done) | (simp [beq_int, hk1, hk6]; done)
      have Ec2 := E1.out.get 2 (.int .i64 i.sp) rfl
      go_wp2_with fail
      refine (H1.out _).mono ?_
      rintro e w3 ⟨rfl, rfl⟩
      cases b1
      · go_wp2
        go_ret
        refine ⟨ret_bool ?_, B1.out⟩
        first | rfl | (simp [hk1, hk6]; done) | (simp [beq_int, hk1, hk6]; done)
      have Ec3 := E1.out.get 3 (.int .i64 i.pg) rfl
      go_wp2_with fail
      refine (H2.out _).mono ?_
      rintro e w4 ⟨rfl, rfl⟩
      cases b2
      · go_wp2
        go_ret
        refine ⟨ret_bool ?_, B1.out⟩
        first | rfl | (simp [hk1, hk6]; done) | (simp [beq_int, hk1, hk6]; done)
      go_wp2
      go_ret
      refine ⟨ret_bool ?_, B1.out⟩
      first | rfl | (simp [hk1, hk6]; done) | (simp [beq_int, hk1, hk6]; done)
    have dk6 : decide (i.k ≤ 6) = false := decide_eq_false hk6
    go_wp2
    go_ret
    refine ⟨ret_bool ?_, B1.out⟩
    first | rfl | (simp [hk1, hk6]; done) | (simp [beq_int, hk1, hk6]; done)
  have dk1 : decide (1 ≤ i.k) = false := decide_eq_false hk1
  go_wp2
  go_ret
  refine ⟨ret_bool ?_, B1.out⟩
  first | rfl | (simp [hk1]; done) | (simp [beq_int, hk1]; done)
/-- What a call that makes a TLB leaves. -/
def EndT (w : World) (E : List Ety) (D : List Inv) (r : Ending) (w' : World) : Prop :=
  ∃ f' c' g' d', r = .returned (.agg #[.slice f' E.length c', .slice g' D.length d']) ∧ OwnR KE w' w.heap.size (.slice f' E.length c') E ∧ OwnR KI w' w.heap.size (.slice g' D.length d') D ∧ Below w.heap.size w w'
set_option maxRecDepth 100000 in
theorem copyT_any (f g : Option Addr) (l c m d : Nat) (E : List Ety) (D : List Inv) (w : World) (hE : RowsAt KE w f E) (hl : l = E.length) (hD : RowsAt KI w g D) (hm : m = D.length) (hls : l ≤ 100000) (hms : m ≤ 100000) :
    Calls Try.prog 20 #[.agg #[.slice f l c, .slice g m d]] w (EndT w E D) := by
  unfold EndT
  rw [← hl, ← hm]
  have HE := Lib.hid (fun W (hB : Below w.heap.size w W) => copyE_any f l c E W (hE.below hB) hl hls)
  have HD := Lib.hid (fun W (hB : Below w.heap.size w W) => copyV_any g m d D W (hD.below hB) hm hms)
  clear hE hl hD hm hls hms
  have htw : w.heap.size ≤ w.heap.size := Nat.le_refl _
  have B0 := Lib.hid (Below.refl w.heap.size w)
  go_enter Try.func20, Try.ntmps20
  go_upto_region 1 with fail
  have A1 := Lib.hid (((BoxAt.newAt (w) #[.slice f l c, .slice g m d] 43 (w.heap.size) (by first | omega | (simp; done) | (simp; omega))).alloc (.cells #[.slice none 0 0, .slice none 0 0] 43)))
  have R1 := Lib.hid ((BoxAt.newAt ((w).alloc (.cells #[.slice f l c, .slice g m d] 43)) #[.slice none 0 0, .slice none 0 0] 43 (w.heap.size + 1) (by first | omega | (simp; done) | (simp; omega))))
  have B1 := Lib.hid ((bel_alloc (bel_alloc B0.out (.cells #[.slice f l c, .slice g m d] 43)) (.cells #[.slice none 0 0, .slice none 0 0] 43)))
  obtain ⟨g1, hg1⟩ : ∃ g1, g1 = w.heap.size := ⟨_, rfl⟩
  obtain ⟨W1, hW1⟩ : ∃ W1, W1 = ((w).alloc (.cells #[.slice f l c, .slice g m d] 43)).alloc (.cells #[.slice none 0 0, .slice none 0 0] 43) := ⟨_, rfl⟩
  have hs1 : g1 + 1 + 1 ≤ W1.heap.size := by rw [hW1, hg1]; simp
  rw [← hW1] at A1 R1 B1 ⊢
  have hb1 : w.heap.size ≤ g1 := by omega
  rw [← hg1] at A1 R1 ⊢
  clear hg1
  clear hW1 B0
  have Ac0 := A1.out.get 0 (.slice f l c) rfl
  have Ac1 := A1.out.get 1 (.slice g m d) rfl
  go_upto_region 2 with fail
  clear Ac0 Ac1
  have A2 := Lib.hid ((A1.out.alloc (.cells #[.slice f l c, .slice g m d] 43)))
  have R2 := Lib.hid ((R1.out.alloc (.cells #[.slice f l c, .slice g m d] 43)))
  have T2 := Lib.hid ((BoxAt.newAt (W1) #[.slice f l c, .slice g m d] 43 (W1.heap.size) (by first | omega | (simp; done) | (simp; omega))))
  have B2 := Lib.hid ((bel_alloc B1.out (.cells #[.slice f l c, .slice g m d] 43)))
  obtain ⟨g2, hg2⟩ : ∃ g2, g2 = W1.heap.size := ⟨_, rfl⟩
  obtain ⟨W2, hW2⟩ : ∃ W2, W2 = (W1).alloc (.cells #[.slice f l c, .slice g m d] 43) := ⟨_, rfl⟩
  have hs2 : g2 + 1 ≤ W2.heap.size := by rw [hW2, hg2]; simp
  rw [← hW2] at A2 R2 T2 B2 ⊢
  have hb2 : g1 + 1 + 1 ≤ g2 := by omega
  rw [← hg2] at T2 ⊢
  clear hg2
  clear hW2 A1 R1 B1 hs1
  have Ac0 := A2.out.get 0 (.slice f l c) rfl
  go_wp2_with fail
  refine (HE.out _ B2.out).mono ?_
  rintro e w3 ⟨f3, c3, rfl, hN3, hb3⟩
  have OE3 := Lib.hid (OwnR.mono hN3 (base' := w.heap.size) (by first | omega | (simp; done) | (simp; omega)))
  clear hN3
  have hz3 := hb3.size
  have A3 := Lib.hid (A2.out.below hb3)
  have R3 := Lib.hid (R2.out.below hb3)
  have T3 := Lib.hid (T2.out.below hb3)
  have B3 := Lib.hid (bel_trans B2.out hb3)
  skip
  have hs3 : g2 + 1 ≤ w3.heap.size := by omega
  clear Ac0
  clear A2 R2 T2 B2 hs2 hb3 hz3
  have Tc0 := T3.out.get 0 (.slice f l c) rfl
  have Tz0 := T3.out.free 0
  go_upto_region 3 with fail
  clear Tc0 Tz0
  have A4 := Lib.hid ((A3.out.other ⟨g2, 0, none⟩ (.slice f3 l c3) (show g1 ≠ g2 by omega)))
  have R4 := Lib.hid ((R3.out.other ⟨g2, 0, none⟩ (.slice f3 l c3) (show g1 + 1 ≠ g2 by omega)))
  have T4 := Lib.hid ((T3.out.set 0 (.slice f3 l c3) #[.slice f3 l c3, .slice g m d] rfl))
  have E4 := Lib.hid ((OE3.out.otherN ⟨g2, 0, none⟩ (.slice f3 l c3) (OE3.out.ne_box T3.out (by decide))))
  have B4 := Lib.hid ((Below.setCell B3.out (p := ⟨g2, 0, none⟩) (show w.heap.size ≤ g2 by omega) (.slice f3 l c3)))
  obtain ⟨W4, hW4⟩ : ∃ W4, W4 = (w3).setCell ⟨g2, 0, none⟩ (.slice f3 l c3) := ⟨_, rfl⟩
  have hs4 : g2 + 1 ≤ W4.heap.size := by rw [hW4]; first | (simp [World.setCell]; omega) | (simp [World.setCell, World.setRow]; omega) | exact hs3
  rw [← hW4] at A4 R4 T4 E4 B4 ⊢
  clear hW4 A3 R3 T3 OE3 B3 hs3
  have Ac1 := A4.out.get 1 (.slice g m d) rfl
  go_wp2_with fail
  refine (HD.out _ B4.out).mono ?_
  rintro e w5 ⟨f5, c5, rfl, hN5, hb5⟩
  have OD5 := Lib.hid (OwnR.mono hN5 (base' := w.heap.size) (by first | omega | (simp; done) | (simp; omega)))
  clear hN5
  have hz5 := hb5.size
  have A5 := Lib.hid (A4.out.below hb5)
  have R5 := Lib.hid (R4.out.below hb5)
  have T5 := Lib.hid (T4.out.below hb5)
  have E5 := Lib.hid (E4.out.below hb5)
  have B5 := Lib.hid (bel_trans B4.out hb5)
  skip
  have hs5 : g2 + 1 ≤ w5.heap.size := by omega
  clear Ac1
  clear A4 R4 T4 E4 B4 hs4 hb5 hz5
  have Tc1 := T5.out.get 1 (.slice g m d) rfl
  have Tz1 := T5.out.free 1
  go_upto_region 4 with fail
  clear Tc1 Tz1
  have A6 := Lib.hid ((A5.out.other ⟨g2, 1, none⟩ (.slice f5 m c5) (show g1 ≠ g2 by omega)))
  have R6 := Lib.hid ((R5.out.other ⟨g2, 1, none⟩ (.slice f5 m c5) (show g1 + 1 ≠ g2 by omega)))
  have T6 := Lib.hid ((T5.out.set 1 (.slice f5 m c5) #[.slice f3 l c3, .slice f5 m c5] rfl))
  have E6 := Lib.hid ((E5.out.otherN ⟨g2, 1, none⟩ (.slice f5 m c5) (E5.out.ne_box T5.out (by decide))))
  have D6 := Lib.hid ((OD5.out.otherN ⟨g2, 1, none⟩ (.slice f5 m c5) (OD5.out.ne_box T5.out (by decide))))
  have B6 := Lib.hid ((Below.setCell B5.out (p := ⟨g2, 1, none⟩) (show w.heap.size ≤ g2 by omega) (.slice f5 m c5)))
  obtain ⟨W6, hW6⟩ : ∃ W6, W6 = (w5).setCell ⟨g2, 1, none⟩ (.slice f5 m c5) := ⟨_, rfl⟩
  have hs6 : g2 + 1 ≤ W6.heap.size := by rw [hW6]; first | (simp [World.setCell]; omega) | (simp [World.setCell, World.setRow]; omega) | exact hs5
  rw [← hW6] at A6 R6 T6 E6 D6 B6 ⊢
  clear hW6 A5 R5 T5 E5 OD5 B5 hs5
  have Tc0 := T6.out.get 0 (.slice f3 l c3) rfl
  have Tc1 := T6.out.get 1 (.slice f5 m c5) rfl
  go_wp2_with (refine wpList_storeB rfl 43 _ _ rfl (g1 + 1) #[.slice f3 l c3, .slice f5 m c5] _ 43 rfl rfl (by kernel_rfl) (by rfl) (by simp [Value.oneCell']) R6.out ?_)
  have RR := (R6.out.put (cs' := #[.slice f3 l c3, .slice f5 m c5]))
  refine bodyPost_ret (v := .agg #[.slice f3 l c3, .slice f5 m c5]) (by simp [results, Try.results20, go_sem, RR.get 0 (.slice f3 l c3) rfl, RR.get 1 (.slice f5 m c5) rfl]) rfl ?_
  exact ⟨f3, c3, f5, c5, rfl, (E6.out.rowN (cs := #[.slice f3 l c3, .slice f5 m c5]) (E6.out.ne_box R6.out (by decide))), (D6.out.rowN (cs := #[.slice f3 l c3, .slice f5 m c5]) (D6.out.ne_box R6.out (by decide))), (Below.rowB (g := g1 + 1) B6.out (cs := #[.slice f3 l c3, .slice f5 m c5]) (show w.heap.size ≤ g1 + 1 by omega))⟩
set_option maxRecDepth 100000 in
theorem eqT_any (f g f2 g2 : Option Addr) (l c m d l2 c2 m2 d2 : Nat) (E E2 : List Ety) (D D2 : List Inv) (w : World) (hE : RowsAt KE w f E) (hl : l = E.length) (hD : RowsAt KI w g D) (hm : m = D.length) (hE2 : RowsAt KE w f2 E2) (hl2 : l2 = E2.length) (hD2 : RowsAt KI w g2 D2) (hm2 : m2 = D2.length) (hls : l ≤ 1000000) (hms : m ≤ 1000000) :
    Calls Try.prog 25 #[.agg #[.slice f l c, .slice g m d], .agg #[.slice f2 l2 c2, .slice g2 m2 d2]] w fun r w' => r = .returned (.bool (decide (E = E2) && decide (D = D2))) ∧ Below w.heap.size w w' := by
  have HE := Lib.hid (fun W (hB : Below w.heap.size w W) => eqE_any f f2 l c l2 c2 E E2 W (hE.below hB) hl (hE2.below hB) hl2 hls)
  have HD := Lib.hid (fun W (hB : Below w.heap.size w W) => eqV_any g g2 m d m2 d2 D D2 W (hD.below hB) hm (hD2.below hB) hm2 hms)
  clear hE hl hD hm hE2 hl2 hD2 hm2 hls hms
  generalize decide (E = E2) = b0 at *
  generalize decide (D = D2) = b1 at *
  have htw : w.heap.size ≤ w.heap.size := Nat.le_refl _
  have B0 := Lib.hid (Below.refl w.heap.size w)
  go_enter Try.func25, Try.ntmps25
  go_upto_region 1 with fail
  have A1 := Lib.hid (((BoxAt.newAt (w) #[.slice f l c, .slice g m d] 43 (w.heap.size) (by first | omega | (simp; done) | (simp; omega))).alloc (.cells #[.slice f2 l2 c2, .slice g2 m2 d2] 43)))
  have T1 := Lib.hid ((BoxAt.newAt ((w).alloc (.cells #[.slice f l c, .slice g m d] 43)) #[.slice f2 l2 c2, .slice g2 m2 d2] 43 (w.heap.size + 1) (by first | omega | (simp; done) | (simp; omega))))
  have B1 := Lib.hid ((bel_alloc (bel_alloc B0.out (.cells #[.slice f l c, .slice g m d] 43)) (.cells #[.slice f2 l2 c2, .slice g2 m2 d2] 43)))
  obtain ⟨g1, hg1⟩ : ∃ g1, g1 = w.heap.size := ⟨_, rfl⟩
  obtain ⟨W1, hW1⟩ : ∃ W1, W1 = ((w).alloc (.cells #[.slice f l c, .slice g m d] 43)).alloc (.cells #[.slice f2 l2 c2, .slice g2 m2 d2] 43) := ⟨_, rfl⟩
  have hs1 : g1 + 1 + 1 ≤ W1.heap.size := by rw [hW1, hg1]; simp
  rw [← hW1] at A1 T1 B1 ⊢
  have hb1 : w.heap.size ≤ g1 := by omega
  rw [← hg1] at A1 T1 ⊢
  clear hg1
  clear hW1 B0
  have Ac0 := A1.out.get 0 (.slice f l c) rfl
  have Tc0 := T1.out.get 0 (.slice f2 l2 c2) rfl
  go_wp2_with fail
  refine (HE.out _ B1.out).mono ?_
  rintro e w2 ⟨rfl, hb2⟩
  have hz2 := hb2.size
  have A2 := Lib.hid (A1.out.below hb2)
  have T2 := Lib.hid (T1.out.below hb2)
  have B2 := Lib.hid (bel_trans B1.out hb2)
  skip
  have hs2 : g1 + 1 + 1 ≤ w2.heap.size := by omega
  clear Ac0 Tc0
  clear A1 T1 B1 hs1 hb2 hz2
  cases b0
  · go_wp2
    go_ret
    exact ⟨rfl, B2.out⟩
  have Ac1 := A2.out.get 1 (.slice g m d) rfl
  have Tc1 := T2.out.get 1 (.slice g2 m2 d2) rfl
  go_wp2_with fail
  refine (HD.out _ B2.out).mono ?_
  rintro e w3 ⟨rfl, hb3⟩
  have hz3 := hb3.size
  have A3 := Lib.hid (A2.out.below hb3)
  have T3 := Lib.hid (T2.out.below hb3)
  have B3 := Lib.hid (bel_trans B2.out hb3)
  skip
  have hs3 : g1 + 1 + 1 ≤ w3.heap.size := by omega
  clear Ac1 Tc1
  clear A2 T2 B2 hs2 hb3 hz3
  go_wp2
  go_ret
  exact ⟨rfl, B3.out⟩
end Go.Proofs.Ytjohnpbfdpmajaa
