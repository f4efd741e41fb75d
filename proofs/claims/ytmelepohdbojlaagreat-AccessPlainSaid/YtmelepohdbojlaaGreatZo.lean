/- TLBs: copied, compared; what takes away, and which entry is of whom: contracts. What was handed back is spoiled: contract. Stage 14: the argument of the laws, opened. -/
import Derived.Test.YtmelepohdbojlaaGreatBd
import Derived.Deep.MidRow
import Derived.Test.YtmelepohdbojlaaGreatBe
set_option linter.all false
namespace Go.Proofs.YtmelepohdbojlaaGreat
section
open Go.ChangeShapes Go.WideShapes Go.ChangeAt Go.RowKit Go.Deep
theorem of9_any (e : Ety) (vm sp : Int) (w : World) :
  Calls Tryz.prog 67 #[entV e, .int .i64 vm, .int .i64 sp] w fun r w' => r = .returned (.bool (ofE e vm sp)) ∧ Below w.heap.size w w' := by
 unfold entV entC
 have htw : w.heap.size ≤ w.heap.size := Nat.le_refl _
 have B0 := Lib.hid (Below.refl w.heap.size w)
 go_enter Tryz.func67, Tryz.ntmps67
 go_upto_region 1 with fail
 have E1 := Lib.hid ((BoxAt.newAt (w) #[.int .i64 e.k, .int .i64 e.vm, .int .i64 e.sp, .bool e.al, .int .i64 e.pg, .int .i64 e.lv, .int .i64 e.fr, .int .i64 e.mi, .bool e.t.r, .bool e.t.w, .bool e.t.x, .bool e.t.a, .bool e.t.n, .int .i64 e.t.s] 89 (w.heap.size) (by first | omega | (simp; done) | (simp; omega))))
 have B1 := Lib.hid ((bel_alloc B0.out (.cells #[.int .i64 e.k, .int .i64 e.vm, .int .i64 e.sp, .bool e.al, .int .i64 e.pg, .int .i64 e.lv, .int .i64 e.fr, .int .i64 e.mi, .bool e.t.r, .bool e.t.w, .bool e.t.x, .bool e.t.a, .bool e.t.n, .int .i64 e.t.s] 89)))
 obtain ⟨g1, hg1⟩ : ∃ g1, g1 = w.heap.size := ⟨_, rfl⟩
 obtain ⟨W1, hW1⟩ : ∃ W1, W1 = (w).alloc (.cells #[.int .i64 e.k, .int .i64 e.vm, .int .i64 e.sp, .bool e.al, .int .i64 e.pg, .int .i64 e.lv, .int .i64 e.fr, .int .i64 e.mi, .bool e.t.r, .bool e.t.w, .bool e.t.x, .bool e.t.a, .bool e.t.n, .int .i64 e.t.s] 89) := ⟨_, rfl⟩
 have hs1 : g1 + 1 ≤ W1.heap.size := by rw [hW1, hg1]; simp
 rw [← hW1] at E1 B1 ⊢
 have hb1 : w.heap.size ≤ g1 := by omega
 rw [← hg1] at E1 ⊢
 clear hg1
 clear hW1 B0
 have Ec1 := E1.out.get 1 (.int .i64 e.vm) rfl
 cases hv : decide (e.vm = vm)
 ·have ehv : (e.vm == vm) = false := (beq_int _ _).trans hv
  go_wp2
  go_ret
  refine ⟨ret_bool ?_, B1.out⟩
  first | rfl | (simp [ofE, hv]; done) | (simp [beq_int, ofE, hv]; done)
 have ehv : (e.vm == vm) = true := (beq_int _ _).trans hv
 have Ec3 := E1.out.get 3 (.bool e.al) rfl
 cases ha : e.al
 ·have Ec2 := E1.out.get 2 (.int .i64 e.sp) rfl
  go_wp2
  go_ret
  refine ⟨ret_bool ?_, B1.out⟩
  first | rfl | (simp [ofE, hv, ha]; done) | (simp [beq_int, ofE, hv, ha]; done)
 go_wp2
 go_ret
 refine ⟨ret_bool ?_, B1.out⟩
 first | rfl | (simp [ofE, hv, ha]; done) | (simp [beq_int, ofE, hv, ha]; done)
theorem inval9_any (i : Inv) (w : World) :
  Calls Tryz.prog 50 #[invV i] w fun r w' => r = .returned (.bool (mayIn i)) ∧ Below w.heap.size w w' := by
 unfold invV invC mayIn
 have H0 := Lib.hid (fun W => tag9_any i.vm W)
 have H1 := Lib.hid (fun W => tag9_any i.sp W)
 have H2 := Lib.hid (fun W => page_any i.pg W)
 generalize numB i.vm 15 = b0 at *
 generalize numB i.sp 15 = b1 at *
 generalize numB i.pg 4095 = b2 at *
 have htw : w.heap.size ≤ w.heap.size := Nat.le_refl _
 have B0 := Lib.hid (Below.refl w.heap.size w)
 go_enter Tryz.func50, Tryz.ntmps50
 go_upto_region 1 with fail
 have E1 := Lib.hid ((BoxAt.newAt (w) #[.int .i64 i.k, .int .i64 i.vm, .int .i64 i.sp, .int .i64 i.pg] 95 (w.heap.size) (by first | omega | (simp; done) | (simp; omega))))
 have B1 := Lib.hid ((bel_alloc B0.out (.cells #[.int .i64 i.k, .int .i64 i.vm, .int .i64 i.sp, .int .i64 i.pg] 95)))
 obtain ⟨g1, hg1⟩ : ∃ g1, g1 = w.heap.size := ⟨_, rfl⟩
 obtain ⟨W1, hW1⟩ : ∃ W1, W1 = (w).alloc (.cells #[.int .i64 i.k, .int .i64 i.vm, .int .i64 i.sp, .int .i64 i.pg] 95) := ⟨_, rfl⟩
 have hs1 : g1 + 1 ≤ W1.heap.size := by rw [hW1, hg1]; simp
 rw [← hW1] at E1 B1 ⊢
 have hb1 : w.heap.size ≤ g1 := by omega
 rw [← hg1] at E1 ⊢
 clear hg1
 clear hW1 B0
 have Ec0 := E1.out.get 0 (.int .i64 i.k) rfl
 by_cases hk1 : 1 ≤ i.k
 ·have dk1 : decide (1 ≤ i.k) = true := decide_eq_true hk1
  by_cases hk6 : i.k ≤ 6
  ·have dk6 : decide (i.k ≤ 6) = true := decide_eq_true hk6
   have Ec1 := E1.out.get 1 (.int .i64 i.vm) rfl
   go_wp2_with fail
   refine (H0.out _).mono ?_
   rintro e w2 ⟨rfl, rfl⟩
   cases b0
   ·go_wp2
    go_ret
    refine ⟨ret_bool ?_, B1.out⟩
    first | rfl | (simp [hk1, hk6]; done) | (simp [beq_int, hk1, hk6]; done)
   have Ec2 := E1.out.get 2 (.int .i64 i.sp) rfl
   go_wp2_with fail
   refine (H1.out _).mono ?_
   rintro e w3 ⟨rfl, rfl⟩
   cases b1
   ·go_wp2
    go_ret
    refine ⟨ret_bool ?_, B1.out⟩
    first | rfl | (simp [hk1, hk6]; done) | (simp [beq_int, hk1, hk6]; done)
   have Ec3 := E1.out.get 3 (.int .i64 i.pg) rfl
   go_wp2_with fail
   refine (H2.out _).mono ?_
   rintro e w4 ⟨rfl, rfl⟩
   cases b2
   ·go_wp2
    go_ret
    refine ⟨ret_bool ?_, B1.out⟩
    first | rfl | (simp [hk1, hk6]; done) | (simp [beq_int, hk1, hk6]; done)
   go_wp2
   go_ret
   refine ⟨ret_bool ?_, B1.out⟩
   first | rfl | (simp [hk1, hk6]; done) | (simp [beq_int, hk1, hk6]; done)
  have dk6 : decide (i.k ≤ 6) = false := decide_eq_false hk6
  go_wp2
  go_ret
  refine ⟨ret_bool ?_, B1.out⟩
  first | rfl | (simp [hk1, hk6]; done) | (simp [beq_int, hk1, hk6]; done)
 have dk1 : decide (1 ≤ i.k) = false := decide_eq_false hk1
 go_wp2
 go_ret
 refine ⟨ret_bool ?_, B1.out⟩
 first | rfl | (simp [hk1]; done) | (simp [beq_int, hk1]; done)
def EndT (w : World) (E : List Ety) (D : List Inv) (r : Ending) (w' : World) : Prop :=
 ∃ f' c' g' d', r = .returned (.agg #[.slice f' E.length c', .slice g' D.length d']) ∧ OwnR KE w' w.heap.size (.slice f' E.length c') E ∧ OwnR KI w' w.heap.size (.slice g' D.length d') D ∧ Below w.heap.size w w'
set_option maxRecDepth 100000 in
theorem copyT_any (f g : Option Addr) (l c m d : Nat) (E : List Ety) (D : List Inv) (w : World) (hE : RowsAt KE w f E) (hl : l = E.length) (hD : RowsAt KI w g D) (hm : m = D.length) (hls : l ≤ 100000) (hms : m ≤ 100000) :
  Calls Tryz.prog 10 #[.agg #[.slice f l c, .slice g m d]] w (EndT w E D) := by
 unfold EndT
 rw [← hl, ← hm]
 have HE := Lib.hid (fun W (hB : Below w.heap.size w W) => copyE_any f l c E W (hE.below hB) hl hls)
 have HD := Lib.hid (fun W (hB : Below w.heap.size w W) => copyV_any g m d D W (hD.below hB) hm hms)
 clear hE hl hD hm hls hms
 have htw : w.heap.size ≤ w.heap.size := Nat.le_refl _
 have B0 := Lib.hid (Below.refl w.heap.size w)
 go_enter Tryz.func10, Tryz.ntmps10
 go_upto_region 1 with fail
 have A1 := Lib.hid (((BoxAt.newAt (w) #[.slice f l c, .slice g m d] 35 (w.heap.size) (by first | omega | (simp; done) | (simp; omega))).alloc (.cells #[.slice none 0 0, .slice none 0 0] 35)))
 have R1 := Lib.hid ((BoxAt.newAt ((w).alloc (.cells #[.slice f l c, .slice g m d] 35)) #[.slice none 0 0, .slice none 0 0] 35 (w.heap.size + 1) (by first | omega | (simp; done) | (simp; omega))))
 have B1 := Lib.hid ((bel_alloc (bel_alloc B0.out (.cells #[.slice f l c, .slice g m d] 35)) (.cells #[.slice none 0 0, .slice none 0 0] 35)))
 obtain ⟨g1, hg1⟩ : ∃ g1, g1 = w.heap.size := ⟨_, rfl⟩
 obtain ⟨W1, hW1⟩ : ∃ W1, W1 = ((w).alloc (.cells #[.slice f l c, .slice g m d] 35)).alloc (.cells #[.slice none 0 0, .slice none 0 0] 35) := ⟨_, rfl⟩
 have hs1 : g1 + 1 + 1 ≤ W1.heap.size := by rw [hW1, hg1]; simp
 rw [← hW1] at A1 R1 B1 ⊢
 have hb1 : w.heap.size ≤ g1 := by omega
 rw [← hg1] at A1 R1 ⊢
 clear hg1
 clear hW1 B0
 have Ac0 := A1.out.get 0 (.slice f l c) rfl
 have Ac1 := A1.out.get 1 (.slice g m d) rfl
 go_upto_region 2 with fail
 clear Ac0 Ac1
 have A2 := Lib.hid ((A1.out.alloc (.cells #[.slice f l c, .slice g m d] 35)))
 have R2 := Lib.hid ((R1.out.alloc (.cells #[.slice f l c, .slice g m d] 35)))
 have T2 := Lib.hid ((BoxAt.newAt (W1) #[.slice f l c, .slice g m d] 35 (W1.heap.size) (by first | omega | (simp; done) | (simp; omega))))
 have B2 := Lib.hid ((bel_alloc B1.out (.cells #[.slice f l c, .slice g m d] 35)))
 obtain ⟨g2, hg2⟩ : ∃ g2, g2 = W1.heap.size := ⟨_, rfl⟩
 obtain ⟨W2, hW2⟩ : ∃ W2, W2 = (W1).alloc (.cells #[.slice f l c, .slice g m d] 35) := ⟨_, rfl⟩
 have hs2 : g2 + 1 ≤ W2.heap.size := by rw [hW2, hg2]; simp
 rw [← hW2] at A2 R2 T2 B2 ⊢
 have hb2 : g1 + 1 + 1 ≤ g2 := by omega
 rw [← hg2] at T2 ⊢
 clear hg2
 clear hW2 A1 R1 B1 hs1
 have Ac0 := A2.out.get 0 (.slice f l c) rfl
 go_wp2_with fail
 refine (HE.out _ B2.out).mono ?_
 rintro e w3 ⟨f3, c3, rfl, hN3, hb3⟩
 have OE3 := Lib.hid (OwnR.mono hN3 (base' := w.heap.size) (by first | omega | (simp; done) | (simp; omega)))
 clear hN3
 have hz3 := hb3.size
 have A3 := Lib.hid (A2.out.below hb3)
 have R3 := Lib.hid (R2.out.below hb3)
 have T3 := Lib.hid (T2.out.below hb3)
 have B3 := Lib.hid (bel_trans B2.out hb3)
 skip
 have hs3 : g2 + 1 ≤ w3.heap.size := by omega
 clear Ac0
 clear A2 R2 T2 B2 hs2 hb3 hz3
 have Tc0 := T3.out.get 0 (.slice f l c) rfl
 have Tz0 := T3.out.free 0
 go_upto_region 3 with fail
 clear Tc0 Tz0
 have A4 := Lib.hid ((A3.out.other ⟨g2, 0, none⟩ (.slice f3 l c3) (show g1 ≠ g2 by omega)))
 have R4 := Lib.hid ((R3.out.other ⟨g2, 0, none⟩ (.slice f3 l c3) (show g1 + 1 ≠ g2 by omega)))
 have T4 := Lib.hid ((T3.out.set 0 (.slice f3 l c3) #[.slice f3 l c3, .slice g m d] rfl))
 have E4 := Lib.hid ((OE3.out.otherN ⟨g2, 0, none⟩ (.slice f3 l c3) (OE3.out.ne_box T3.out (by decide))))
 have B4 := Lib.hid ((Below.setCell B3.out (p := ⟨g2, 0, none⟩) (show w.heap.size ≤ g2 by omega) (.slice f3 l c3)))
 obtain ⟨W4, hW4⟩ : ∃ W4, W4 = (w3).setCell ⟨g2, 0, none⟩ (.slice f3 l c3) := ⟨_, rfl⟩
 have hs4 : g2 + 1 ≤ W4.heap.size := by rw [hW4]; first | (simp [World.setCell]; omega) | (simp [World.setCell, World.setRow]; omega) | exact hs3
 rw [← hW4] at A4 R4 T4 E4 B4 ⊢
 clear hW4 A3 R3 T3 OE3 B3 hs3
 have Ac1 := A4.out.get 1 (.slice g m d) rfl
 go_wp2_with fail
 refine (HD.out _ B4.out).mono ?_
 rintro e w5 ⟨f5, c5, rfl, hN5, hb5⟩
 have OD5 := Lib.hid (OwnR.mono hN5 (base' := w.heap.size) (by first | omega | (simp; done) | (simp; omega)))
 clear hN5
 have hz5 := hb5.size
 have A5 := Lib.hid (A4.out.below hb5)
 have R5 := Lib.hid (R4.out.below hb5)
 have T5 := Lib.hid (T4.out.below hb5)
 have E5 := Lib.hid (E4.out.below hb5)
 have B5 := Lib.hid (bel_trans B4.out hb5)
 skip
 have hs5 : g2 + 1 ≤ w5.heap.size := by omega
 clear Ac1
 clear A4 R4 T4 E4 B4 hs4 hb5 hz5
 have Tc1 := T5.out.get 1 (.slice g m d) rfl
 have Tz1 := T5.out.free 1
 go_upto_region 4 with fail
 clear Tc1 Tz1
 have A6 := Lib.hid ((A5.out.other ⟨g2, 1, none⟩ (.slice f5 m c5) (show g1 ≠ g2 by omega)))
 have R6 := Lib.hid ((R5.out.other ⟨g2, 1, none⟩ (.slice f5 m c5) (show g1 + 1 ≠ g2 by omega)))
 have T6 := Lib.hid ((T5.out.set 1 (.slice f5 m c5) #[.slice f3 l c3, .slice f5 m c5] rfl))
 have E6 := Lib.hid ((E5.out.otherN ⟨g2, 1, none⟩ (.slice f5 m c5) (E5.out.ne_box T5.out (by decide))))
 have D6 := Lib.hid ((OD5.out.otherN ⟨g2, 1, none⟩ (.slice f5 m c5) (OD5.out.ne_box T5.out (by decide))))
 have B6 := Lib.hid ((Below.setCell B5.out (p := ⟨g2, 1, none⟩) (show w.heap.size ≤ g2 by omega) (.slice f5 m c5)))
 obtain ⟨W6, hW6⟩ : ∃ W6, W6 = (w5).setCell ⟨g2, 1, none⟩ (.slice f5 m c5) := ⟨_, rfl⟩
 have hs6 : g2 + 1 ≤ W6.heap.size := by rw [hW6]; first | (simp [World.setCell]; omega) | (simp [World.setCell, World.setRow]; omega) | exact hs5
 rw [← hW6] at A6 R6 T6 E6 D6 B6 ⊢
 clear hW6 A5 R5 T5 E5 OD5 B5 hs5
 have Tc0 := T6.out.get 0 (.slice f3 l c3) rfl
 have Tc1 := T6.out.get 1 (.slice f5 m c5) rfl
 go_wp2_with (refine wpList_storeB rfl 35 _ _ rfl (g1 + 1) #[.slice f3 l c3, .slice f5 m c5] _ 35 rfl rfl (by kernel_rfl) (by rfl) (by simp [Value.oneCell']) R6.out ?_)
 have RR := (R6.out.put (cs' := #[.slice f3 l c3, .slice f5 m c5]))
 refine bodyPost_ret (v := .agg #[.slice f3 l c3, .slice f5 m c5]) (by simp [results, Tryz.results10, go_sem, RR.get 0 (.slice f3 l c3) rfl, RR.get 1 (.slice f5 m c5) rfl]) rfl ?_
 exact ⟨f3, c3, f5, c5, rfl, (E6.out.rowN (cs := #[.slice f3 l c3, .slice f5 m c5]) (E6.out.ne_box R6.out (by decide))), (D6.out.rowN (cs := #[.slice f3 l c3, .slice f5 m c5]) (D6.out.ne_box R6.out (by decide))), (Below.rowB (g := g1 + 1) B6.out (cs := #[.slice f3 l c3, .slice f5 m c5]) (show w.heap.size ≤ g1 + 1 by omega))⟩
set_option maxRecDepth 100000 in
theorem eqT_any (f g f2 g2 : Option Addr) (l c m d l2 c2 m2 d2 : Nat) (E E2 : List Ety) (D D2 : List Inv) (w : World) (hE : RowsAt KE w f E) (hl : l = E.length) (hD : RowsAt KI w g D) (hm : m = D.length) (hE2 : RowsAt KE w f2 E2) (hl2 : l2 = E2.length) (hD2 : RowsAt KI w g2 D2) (hm2 : m2 = D2.length) (hls : l ≤ 1000000) (hms : m ≤ 1000000) :
  Calls Tryz.prog 15 #[.agg #[.slice f l c, .slice g m d], .agg #[.slice f2 l2 c2, .slice g2 m2 d2]] w fun r w' => r = .returned (.bool (decide (E = E2) && decide (D = D2))) ∧ Below w.heap.size w w' := by
 have HE := Lib.hid (fun W (hB : Below w.heap.size w W) => eqE_any f f2 l c l2 c2 E E2 W (hE.below hB) hl (hE2.below hB) hl2 hls)
 have HD := Lib.hid (fun W (hB : Below w.heap.size w W) => eqV_any g g2 m d m2 d2 D D2 W (hD.below hB) hm (hD2.below hB) hm2 hms)
 clear hE hl hD hm hE2 hl2 hD2 hm2 hls hms
 generalize decide (E = E2) = b0 at *
 generalize decide (D = D2) = b1 at *
 have htw : w.heap.size ≤ w.heap.size := Nat.le_refl _
 have B0 := Lib.hid (Below.refl w.heap.size w)
 go_enter Tryz.func15, Tryz.ntmps15
 go_upto_region 1 with fail
 have A1 := Lib.hid (((BoxAt.newAt (w) #[.slice f l c, .slice g m d] 35 (w.heap.size) (by first | omega | (simp; done) | (simp; omega))).alloc (.cells #[.slice f2 l2 c2, .slice g2 m2 d2] 35)))
 have T1 := Lib.hid ((BoxAt.newAt ((w).alloc (.cells #[.slice f l c, .slice g m d] 35)) #[.slice f2 l2 c2, .slice g2 m2 d2] 35 (w.heap.size + 1) (by first | omega | (simp; done) | (simp; omega))))
 have B1 := Lib.hid ((bel_alloc (bel_alloc B0.out (.cells #[.slice f l c, .slice g m d] 35)) (.cells #[.slice f2 l2 c2, .slice g2 m2 d2] 35)))
 obtain ⟨g1, hg1⟩ : ∃ g1, g1 = w.heap.size := ⟨_, rfl⟩
 obtain ⟨W1, hW1⟩ : ∃ W1, W1 = ((w).alloc (.cells #[.slice f l c, .slice g m d] 35)).alloc (.cells #[.slice f2 l2 c2, .slice g2 m2 d2] 35) := ⟨_, rfl⟩
 have hs1 : g1 + 1 + 1 ≤ W1.heap.size := by rw [hW1, hg1]; simp
 rw [← hW1] at A1 T1 B1 ⊢
 have hb1 : w.heap.size ≤ g1 := by omega
 rw [← hg1] at A1 T1 ⊢
 clear hg1
 clear hW1 B0
 have Ac0 := A1.out.get 0 (.slice f l c) rfl
 have Tc0 := T1.out.get 0 (.slice f2 l2 c2) rfl
 go_wp2_with fail
 refine (HE.out _ B1.out).mono ?_
 rintro e w2 ⟨rfl, hb2⟩
 have hz2 := hb2.size
 have A2 := Lib.hid (A1.out.below hb2)
 have T2 := Lib.hid (T1.out.below hb2)
 have B2 := Lib.hid (bel_trans B1.out hb2)
 skip
 have hs2 : g1 + 1 + 1 ≤ w2.heap.size := by omega
 clear Ac0 Tc0
 clear A1 T1 B1 hs1 hb2 hz2
 cases b0
 ·go_wp2
  go_ret
  exact ⟨rfl, B2.out⟩
 have Ac1 := A2.out.get 1 (.slice g m d) rfl
 have Tc1 := T2.out.get 1 (.slice g2 m2 d2) rfl
 go_wp2_with fail
 refine (HD.out _ B2.out).mono ?_
 rintro e w3 ⟨rfl, hb3⟩
 have hz3 := hb3.size
 have A3 := Lib.hid (A2.out.below hb3)
 have T3 := Lib.hid (T2.out.below hb3)
 have B3 := Lib.hid (bel_trans B2.out hb3)
 skip
 have hs3 : g1 + 1 + 1 ≤ w3.heap.size := by omega
 clear Ac1 Tc1
 clear A2 T2 B2 hs2 hb3 hz3
 go_wp2
 go_ret
 exact ⟨rfl, B3.out⟩
end
section
open Go.ChangeShapes Go.WideShapes Go.ChangeAt Go.RowKit Go.Deep
theorem below_setCells {B : Nat} {a : World} : ∀ (vs : List Value) (b o : Nat) (w : World), Below B a w → B ≤ b → Below B a (w.setCells b o vs)
 | [], _, _, _, h, _ => h
 | v :: r, b, o, w, h, hb => by
  rw [World.setCells]
  exact below_setCells r b (o + 1) _ (Below.setCell h (p := ⟨b, o, none⟩) hb v) hb
theorem BoxAt.setCells {b : Nat} {cs : Array Value} {t : TypeId} : ∀ (vs : List Value) (g o : Nat) {w : World}, BoxAt w b cs t → b ≠ g → BoxAt (w.setCells g o vs) b cs t
 | [], _, _, _, h, _ => h
 | v :: r, g, o, w, h, hb => by
  rw [World.setCells]
  exact BoxAt.setCells r g (o + 1) (h.other ⟨g, o, none⟩ v hb) hb
theorem OwnR.there {Q : Type} {K : RowK Q} {w : World} {base n c : Nat} {f : Option Addr} {L : List Q} (h : OwnR K w base (.slice f n c) L) (hn : 0 < n) : ∃ g, f = some ⟨g, 0, none⟩ ∧ base ≤ g ∧ g < w.heap.size ∧ w.there g 0 (n * K.N) := by
 have hnl := h.rows.1
 rcases h.2 with ⟨he, hz⟩ | ⟨g, cap, cur, he, hbg, hgg, hc, hm, hsz, _⟩
 ·omega
 ·simp only [Value.slice.injEq] at he
  obtain ⟨rfl, hn2, rfl⟩ := he
  have hB : BoxAt w g cur K.t := ⟨hgg⟩
  refine ⟨g, rfl, hbg, hB.lt, fun j hj => ?_⟩
  rw [Nat.zero_add]
  refine ⟨?_, hB.free j⟩
  rw [hB.cell j]
  have : n * K.N ≤ c * K.N := Nat.mul_le_mul_right _ (by omega)
  simp
  omega
theorem there_sub {w : World} {g n k N : Nat} (h : w.there g 0 (n * N)) (hk : k < n) : w.there g (k * N) N := by
 intro j hj
 have h2 : k * N + j < n * N := by
  have : (k + 1) * N ≤ n * N := Nat.mul_le_mul_right _ hk
  rw [Nat.add_mul] at this
  omega
 have := h (k * N + j) h2
 rwa [Nat.zero_add] at this
def spE : Array Value := #[.int .i64 (-9), .int .i64 0, .int .i64 0, .bool false, .int .i64 0, .int .i64 0, .int .i64 0, .int .i64 0, .bool false, .bool false, .bool false, .bool false, .bool false, .int .i64 0]
def spV : Array Value := #[.int .i64 (-9), .int .i64 0, .int .i64 0, .int .i64 0]
theorem spE_one : spE.all (·.oneCell') = true := by simp [spE, Value.oneCell']
theorem spV_one : spV.all (·.oneCell') = true := by simp [spV, Value.oneCell']
theorem spE_info : (Tryz.prog.info? 89).map (·.size) = some spE.size := by kernel_rfl
theorem spV_info : (Tryz.prog.info? 95).map (·.size) = some spV.size := by kernel_rfl
theorem grown_below {w W : World} {row : Option Nat} (h : Below w.heap.size w W) : w.grownBy W row := ⟨h.os, h.tape, h.output, h.size, fun k hk _ => h.block k hk⟩
end
section
open Go.ChangeShapes Go.WideShapes Go.ChangeAt Go.RowKit Go.Deep
structure Pck where
 c : Int
 f : Bool
 m : Bool
 w : Bool
 d : Int
 u : Bool
def pckC (q : Pck) : Array Value := #[.int .i64 q.c, .bool q.f, .bool q.m, .bool q.w, .int .i64 q.d, .bool q.u]
def pck0 : Pck := ⟨0, false, false, false, 0, false⟩
def KP : RowK Pck where
 ts := 36
 t := 42
 N := 6
 B := 32
 z := .agg (pckC pck0)
 V := pckC
 pos := by decide
 small := by decide
 size := fun _ => rfl
 one := fun q v hv => by
  simp only [pckC, List.mem_cons, List.not_mem_nil, or_false] at hv
  rcases hv with rfl | rfl | rfl | rfl | rfl | rfl <;> rfl
 under := Tryz.underlying36
 info := by kernel_rfl
 zs := rfl
def KZ : RowK Int where
 ts := 25
 t := 3
 N := 1
 B := 8
 z := .int .i64 0
 V := fun n => #[.int .i64 n]
 pos := by decide
 small := by decide
 size := fun _ => rfl
 one := fun q v hv => by
  simp only [List.mem_cons, List.not_mem_nil, or_false] at hv
  subst hv
  rfl
 under := Tryz.underlying25
 info := by kernel_rfl
 zs := rfl
section
variable {H : Type} {enc : TypeId × Value → H} {w : World} {base : Nat} {held : Bool}
theorem c_entO : Tryz.prog.cellsOf 89 = 14 := by kernel_rfl
theorem b_entO : Tryz.prog.bytesOf 89 = 80 := by kernel_rfl
theorem ent_cellsO {n : Nat} {cs : List Value} {y : DataW H × List MemPlace} (hlen : cs.length = 14) (h : DataW.trod enc Tryz.prog w base (fun _ => true) held n 89 cs = some y) :
  ∃ e : Ety, cs = (entC e).toList := by
 match cs, hlen with
 | [v0, v1, v2, v3, v4, v5, v6, v7, v8, v9, v10, v11, v12, v13], _ =>
  obtain ⟨_, _, t0⟩ := part_of Tryz.underlying89 h 0 0 1 3 ⟨_, rfl, rfl, rfl⟩ c_int
  obtain ⟨_, _, t1⟩ := part_of Tryz.underlying89 h 1 1 1 3 ⟨_, rfl, rfl, rfl⟩ c_int
  obtain ⟨_, _, t2⟩ := part_of Tryz.underlying89 h 2 2 1 3 ⟨_, rfl, rfl, rfl⟩ c_int
  obtain ⟨_, _, t3⟩ := part_of Tryz.underlying89 h 3 3 1 4 ⟨_, rfl, rfl, rfl⟩ c_bool
  obtain ⟨_, _, t4⟩ := part_of Tryz.underlying89 h 4 4 1 3 ⟨_, rfl, rfl, rfl⟩ c_int
  obtain ⟨_, _, t5⟩ := part_of Tryz.underlying89 h 5 5 1 3 ⟨_, rfl, rfl, rfl⟩ c_int
  obtain ⟨_, _, t6⟩ := part_of Tryz.underlying89 h 6 6 1 3 ⟨_, rfl, rfl, rfl⟩ c_int
  obtain ⟨_, _, t7⟩ := part_of Tryz.underlying89 h 7 7 1 3 ⟨_, rfl, rfl, rfl⟩ c_int
  obtain ⟨_, _, t8⟩ := part_of Tryz.underlying89 h 8 8 6 60 ⟨_, rfl, rfl, rfl⟩ c_atr6
  obtain ⟨x0, h0, _⟩ := int_cells t0
  obtain ⟨x1, h1, _⟩ := int_cells t1
  obtain ⟨x2, h2, _⟩ := int_cells t2
  obtain ⟨x3, h3⟩ := bool_cells t3
  obtain ⟨x4, h4, _⟩ := int_cells t4
  obtain ⟨x5, h5, _⟩ := int_cells t5
  obtain ⟨x6, h6, _⟩ := int_cells t6
  obtain ⟨x7, h7, _⟩ := int_cells t7
  obtain ⟨x8, h8⟩ := atr_cells6 (by rfl) t8
  simp [atrC] at h0 h1 h2 h3 h4 h5 h6 h7 h8
  obtain ⟨h8, h9, h10, h11, h12, h13⟩ := h8
  exact ⟨⟨x0, x1, x2, x3, x4, x5, x6, x7, x8⟩, by rw [h0, h1, h2, h3, h4, h5, h6, h7, h8, h9, h10, h11, h12, h13]; rfl⟩
theorem c_invO : Tryz.prog.cellsOf 95 = 4 := by kernel_rfl
theorem b_invO : Tryz.prog.bytesOf 95 = 32 := by kernel_rfl
theorem inv_cellsO {n : Nat} {cs : List Value} {y : DataW H × List MemPlace} (hlen : cs.length = 4) (h : DataW.trod enc Tryz.prog w base (fun _ => true) held n 95 cs = some y) :
  ∃ e : Inv, cs = (invC e).toList := by
 match cs, hlen with
 | [v0, v1, v2, v3], _ =>
  obtain ⟨_, _, t0⟩ := part_of Tryz.underlying95 h 0 0 1 3 ⟨_, rfl, rfl, rfl⟩ c_int
  obtain ⟨_, _, t1⟩ := part_of Tryz.underlying95 h 1 1 1 3 ⟨_, rfl, rfl, rfl⟩ c_int
  obtain ⟨_, _, t2⟩ := part_of Tryz.underlying95 h 2 2 1 3 ⟨_, rfl, rfl, rfl⟩ c_int
  obtain ⟨_, _, t3⟩ := part_of Tryz.underlying95 h 3 3 1 3 ⟨_, rfl, rfl, rfl⟩ c_int
  obtain ⟨x0, h0, _⟩ := int_cells t0
  obtain ⟨x1, h1, _⟩ := int_cells t1
  obtain ⟨x2, h2, _⟩ := int_cells t2
  obtain ⟨x3, h3, _⟩ := int_cells t3
  simp at h0 h1 h2 h3
  exact ⟨⟨x0, x1, x2, x3⟩, by rw [h0, h1, h2, h3]; rfl⟩
theorem c_entsO : Tryz.prog.cellsOf 32 = 1 := by kernel_rfl
theorem c_invsO : Tryz.prog.cellsOf 33 = 1 := by kernel_rfl
theorem c_tlbO : Tryz.prog.cellsOf 35 = 2 := by kernel_rfl
theorem slice_capO {t e : TypeId} {n : Nat} {f : Option Addr} {l c : Nat} {y : DataW H × List MemPlace} (ht : Tryz.prog.underlying t = some (.slice e)) (h : DataW.trod enc Tryz.prog w base (fun _ => true) held n t [.slice f l c] = some y) : c ≤ maxLen := by
 rcases open_slice ht h with ⟨hcs, _⟩ | ⟨a, len, cap, m, n, D, Pl, hcs, _, hl, hm, _⟩
 ·simp at hcs
  omega
 ·simp at hcs
  omega
theorem ents_capO {n : Nat} {c : Value} {y : DataW H × List MemPlace} (h : DataW.trod enc Tryz.prog w base (fun _ => true) held n 32 [c] = some y) (hz : Lite Tryz.prog 32 y.1) :
  ∃ (f : Option Addr) (l cap : Nat) (L : List Ety), c = .slice f l cap ∧ l = L.length ∧ l ≤ 1000000000000000 ∧ RowsAt KE w f L ∧ (l ≤ cap ∧ cap ≤ maxLen ∧ (f = none → cap = 0)) := by
 obtain ⟨f, l, cap, q, rfl, hc, hl, hq, hn⟩ := seq_nil entC (fun _ _ => True) ent0 Tryz.underlying32 c_entO (by decide) b_entO (by decide) (fun hl ht _ => by
  obtain ⟨a, rfl⟩ := ent_cellsO hl ht
  exact ⟨a, rfl, trivial⟩) h hz
 have := reach_small
 exact ⟨f, l, cap, (List.range l).map q, rfl, by simp, by omega, RowsAt.of_seq (K := KE) hq, hc, slice_capO Tryz.underlying32 h, hn⟩
theorem invs_capO {n : Nat} {c : Value} {y : DataW H × List MemPlace} (h : DataW.trod enc Tryz.prog w base (fun _ => true) held n 33 [c] = some y) (hz : Lite Tryz.prog 33 y.1) :
  ∃ (f : Option Addr) (l cap : Nat) (L : List Inv), c = .slice f l cap ∧ l = L.length ∧ l ≤ 1000000000000000 ∧ RowsAt KI w f L ∧ (l ≤ cap ∧ cap ≤ maxLen ∧ (f = none → cap = 0)) := by
 obtain ⟨f, l, cap, q, rfl, hc, hl, hq, hn⟩ := seq_nil invC (fun _ _ => True) inv0 Tryz.underlying33 c_invO (by decide) b_invO (by decide) (fun hl ht _ => by
  obtain ⟨a, rfl⟩ := inv_cellsO hl ht
  exact ⟨a, rfl, trivial⟩) h hz
 have := reach_small
 exact ⟨f, l, cap, (List.range l).map q, rfl, by simp, by omega, RowsAt.of_seq (K := KI) hq, hc, slice_capO Tryz.underlying33 h, hn⟩
theorem c_pckO : Tryz.prog.cellsOf 42 = 6 := by kernel_rfl
theorem b_pckO : Tryz.prog.bytesOf 42 = 32 := by kernel_rfl
theorem c_pcksO : Tryz.prog.cellsOf 36 = 1 := by kernel_rfl
theorem c_rootO : Tryz.prog.cellsOf 29 = 3 := by kernel_rfl
theorem c_wordsO : Tryz.prog.cellsOf 22 = 1 := by kernel_rfl
theorem c_numsO : Tryz.prog.cellsOf 25 = 1 := by kernel_rfl
theorem pck_cellsO {n : Nat} {cs : List Value} {y : DataW H × List MemPlace} (hlen : cs.length = 6) (h : DataW.trod enc Tryz.prog w base (fun _ => true) held n 42 cs = some y) :
  ∃ q : Pck, cs = (pckC q).toList := by
 match cs, hlen with
 | [v0, v1, v2, v3, v4, v5], _ =>
  obtain ⟨_, _, t0⟩ := part_of Tryz.underlying42 h 0 0 1 3 ⟨_, rfl, rfl, rfl⟩ c_int
  obtain ⟨_, _, t1⟩ := part_of Tryz.underlying42 h 1 1 1 4 ⟨_, rfl, rfl, rfl⟩ c_bool
  obtain ⟨_, _, t2⟩ := part_of Tryz.underlying42 h 2 2 1 4 ⟨_, rfl, rfl, rfl⟩ c_bool
  obtain ⟨_, _, t3⟩ := part_of Tryz.underlying42 h 3 3 1 4 ⟨_, rfl, rfl, rfl⟩ c_bool
  obtain ⟨_, _, t4⟩ := part_of Tryz.underlying42 h 4 4 1 3 ⟨_, rfl, rfl, rfl⟩ c_int
  obtain ⟨_, _, t5⟩ := part_of Tryz.underlying42 h 5 5 1 4 ⟨_, rfl, rfl, rfl⟩ c_bool
  obtain ⟨x0, h0, _⟩ := int_cells t0
  obtain ⟨x1, h1⟩ := bool_cells t1
  obtain ⟨x2, h2⟩ := bool_cells t2
  obtain ⟨x3, h3⟩ := bool_cells t3
  obtain ⟨x4, h4, _⟩ := int_cells t4
  obtain ⟨x5, h5⟩ := bool_cells t5
  simp at h0 h1 h2 h3 h4 h5
  exact ⟨⟨x0, x1, x2, x3, x4, x5⟩, by rw [h0, h1, h2, h3, h4, h5]; rfl⟩
theorem pcks_capO {n : Nat} {c : Value} {y : DataW H × List MemPlace} (h : DataW.trod enc Tryz.prog w base (fun _ => true) held n 36 [c] = some y) (hz : Lite Tryz.prog 36 y.1) :
  ∃ (f : Option Addr) (l cap : Nat) (L : List Pck), c = .slice f l cap ∧ l = L.length ∧ l ≤ 1000000000000000 ∧ RowsAt KP w f L := by
 obtain ⟨f, l, cap, q, rfl, hc, hl, hq, hn⟩ := seq_nil pckC (fun _ _ => True) pck0 Tryz.underlying36 c_pckO (by decide) b_pckO (by decide) (fun hl ht _ => by
  obtain ⟨a, rfl⟩ := pck_cellsO hl ht
  exact ⟨a, rfl, trivial⟩) h hz
 have := reach_small
 exact ⟨f, l, cap, (List.range l).map q, rfl, by simp, by omega, RowsAt.of_seq (K := KP) hq⟩
theorem nums_capO {n : Nat} {c : Value} {y : DataW H × List MemPlace} (h : DataW.trod enc Tryz.prog w base (fun _ => true) held n 25 [c] = some y) (hz : Lite Tryz.prog 25 y.1) :
  ∃ (f : Option Addr) (l cap : Nat) (L : List Int), c = .slice f l cap ∧ l = L.length ∧ l ≤ 1000000000000000 ∧ RowsAt KZ w f L := by
 obtain ⟨f, l, cap, q, rfl, hc, hl, hq, hn⟩ := seq_nil KZ.V (fun _ _ => True) 0 Tryz.underlying25 cells_int (by decide) bytes_int (by decide) (fun hl ht _ => by
  obtain ⟨a, rfl, _⟩ := int_cells ht
  exact ⟨a, rfl, trivial⟩) h hz
 have := reach_small
 exact ⟨f, l, cap, (List.range l).map q, rfl, by simp, by omega, RowsAt.of_seq (K := KZ) hq⟩
theorem root_cellsO {n : Nat} {cs : List Value} {y : DataW H × List MemPlace} (hlen : cs.length = 3) (h : DataW.trod enc Tryz.prog w base (fun _ => true) held n 29 cs = some y) :
  ∃ (o : Bool) (f t : Int), cs = [.bool o, .int .i64 f, .int .i64 t] := by
 match cs, hlen with
 | [v0, v1, v2], _ =>
  obtain ⟨_, _, t0⟩ := part_of Tryz.underlying29 h 0 0 1 4 ⟨_, rfl, rfl, rfl⟩ c_bool
  obtain ⟨_, _, t1⟩ := part_of Tryz.underlying29 h 1 1 1 3 ⟨_, rfl, rfl, rfl⟩ c_int
  obtain ⟨_, _, t2⟩ := part_of Tryz.underlying29 h 2 2 1 3 ⟨_, rfl, rfl, rfl⟩ c_int
  obtain ⟨x0, h0⟩ := bool_cells t0
  obtain ⟨x1, h1, _⟩ := int_cells t1
  obtain ⟨x2, h2, _⟩ := int_cells t2
  simp at h0 h1 h2
  exact ⟨x0, x1, x2, by rw [h0, h1, h2]⟩
structure Q14 where
 f : Option Addr
 l : Nat
 c : Nat
 X : Nat → BitVec 64
 fr : Int
 fG : Option Addr
 cG : Nat
 G : List Int
 on1 : Bool
 of1 : Int
 tg1 : Int
 on2 : Bool
 tf : Int
 tg : Int
 ac : Int
 fE : Option Addr
 cE : Nat
 E : List Ety
 fD : Option Addr
 cD : Nat
 D : List Inv
 fP : Option Addr
 cP : Nat
 P : List Pck
def q14C (q : Q14) : List Value := [.slice q.f q.l q.c, .int .i64 q.fr, .slice q.fG q.G.length q.cG, .bool q.on1, .int .i64 q.of1, .int .i64 q.tg1, .bool q.on2, .int .i64 q.tf, .int .i64 q.tg, .int .i64 q.ac, .slice q.fE q.E.length q.cE, .slice q.fD q.D.length q.cD, .slice q.fP q.P.length q.cP]
structure Ok14 (w : World) (q : Q14) : Prop where
 lc : q.l ≤ q.c
 l1 : q.l ≤ 1000000000000000
 X : WordsAt w q.f q.l q.X
 G1 : q.G.length ≤ 1000000000000000
 G : RowsAt KZ w q.fG q.G
 E1 : q.E.length ≤ 1000000000000000
 E : RowsAt KE w q.fE q.E
 D1 : q.D.length ≤ 1000000000000000
 D : RowsAt KI w q.fD q.D
 P1 : q.P.length ≤ 1000000000000000
 P : RowsAt KP w q.fP q.P
theorem ask14 {n : Nat} {cs : List Value} {y : DataW H × List MemPlace} (hlen : cs.length = 13) (h : DataW.trod enc Tryz.prog w base (fun _ => true) held n 38 cs = some y) (hz : Lite Tryz.prog 38 y.1) :
  ∃ q : Q14, cs = q14C q ∧ Ok14 w q := by
 match cs, hlen with
 | [v0, v1, v2, v3, v4, v5, v6, v7, v8, v9, v10, v11, v12], _ =>
  obtain ⟨_, _, rA, yA⟩ := part_lite Tryz.underlying38 h hz 0 0 10 31 ⟨_, rfl, rfl, rfl⟩ (by kernel_rfl)
  obtain ⟨_, _, rT, yT⟩ := part_lite Tryz.underlying38 h hz 1 10 2 35 ⟨_, rfl, rfl, rfl⟩ c_tlbO
  obtain ⟨_, _, rP, yP⟩ := part_lite Tryz.underlying38 h hz 2 12 1 36 ⟨_, rfl, rfl, rfl⟩ c_pcksO
  obtain ⟨_, _, rB, yB⟩ := part_lite Tryz.underlying31 rA yA 0 0 3 27 ⟨_, rfl, rfl, rfl⟩ (by kernel_rfl)
  obtain ⟨_, _, r1⟩ := part_of Tryz.underlying31 rA 1 3 3 29 ⟨_, rfl, rfl, rfl⟩ c_rootO
  obtain ⟨_, _, r2⟩ := part_of Tryz.underlying31 rA 2 6 3 29 ⟨_, rfl, rfl, rfl⟩ c_rootO
  obtain ⟨_, _, r3⟩ := part_of Tryz.underlying31 rA 3 9 1 3 ⟨_, rfl, rfl, rfl⟩ c_int
  obtain ⟨_, _, rM, yM⟩ := part_lite Tryz.underlying27 rB yB 0 0 1 24 ⟨_, rfl, rfl, rfl⟩ cells_mem
  obtain ⟨_, _, r4⟩ := part_of Tryz.underlying27 rB 1 1 1 3 ⟨_, rfl, rfl, rfl⟩ c_int
  obtain ⟨_, _, rG, yG⟩ := part_lite Tryz.underlying27 rB yB 2 2 1 25 ⟨_, rfl, rfl, rfl⟩ c_numsO
  obtain ⟨_, _, rW, yW⟩ := part_lite Tryz.underlying24 rM yM 0 0 1 22 ⟨_, rfl, rfl, rfl⟩ c_wordsO
  obtain ⟨_, _, rE, yE⟩ := part_lite Tryz.underlying35 rT yT 0 0 1 32 ⟨_, rfl, rfl, rfl⟩ c_entsO
  obtain ⟨_, _, rD, yD⟩ := part_lite Tryz.underlying35 rT yT 1 1 1 33 ⟨_, rfl, rfl, rfl⟩ c_invsO
  obtain ⟨f, l, c, X, e0, a1, a2, a3⟩ := words_cap rW yW
  obtain ⟨fG, lG, cG, G, e2, g1, g2, g3⟩ := nums_capO rG yG
  obtain ⟨fE, lE, cE, E, e10, b1, b2, b3, _⟩ := ents_capO rE yE
  obtain ⟨fD, lD, cD, D, e11, d1, d2, d3, _⟩ := invs_capO rD yD
  obtain ⟨fP, lP, cP, P, e12, p1, p2, p3⟩ := pcks_capO rP yP
  obtain ⟨fr, e1, _⟩ := int_cells r4
  obtain ⟨ac, e9, _⟩ := int_cells r3
  obtain ⟨o1, f1, t1, h1⟩ := root_cellsO (by rfl) r1
  obtain ⟨o2, f2, t2, h2⟩ := root_cellsO (by rfl) r2
  simp at e1 e9 h1 h2
  obtain ⟨h3, h4, h5⟩ := h1
  obtain ⟨h6, h7, h8⟩ := h2
  subst b1 d1 g1 p1
  subst e0 e1 e2 h3 h4 h5 h6 h7 h8 e9 e10 e11 e12
  exact ⟨⟨f, l, c, X, fr, fG, cG, G, o1, f1, t1, o2, f2, t2, ac, fE, cE, E, fD, cD, D, fP, cP, P⟩, rfl, ⟨a2, a1, a3, g2, g3, b2, b3, d2, d3, p2, p3⟩⟩
end
end
end Go.Proofs.YtmelepohdbojlaaGreat
