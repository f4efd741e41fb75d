/- The reference's Trans: contract. -/
import Derived.Test.YtpelolokdmfbdaaGreatNw
import Derived.Test.YtpelolokdmfbdaaGreatTk
import Derived.Deep.CutBlock
import Derived.Deep.DeepCutAuto
namespace Go.Proofs.YtpelolokdmfbdaaGreat
open Go.ChangeShapes Go.WideShapes Go.ChangeAt Go.RowKit Go.Deep

set_option maxRecDepth 100000 in
set_option maxHeartbeats 12800000 in
theorem transR_any (f : Option Addr) (l c : Nat) (X : Nat → BitVec 64) (on1 : Bool) (of1 og1 : Int) (on2 : Bool) (tf tg pg acc : Int) (w : World) (hX : WordsAt w f l X) (hM : okM l = true) (o0 : 0 ≤ of1) (o1 : of1 ≤ 4095) (t0 : 0 ≤ tf) (t1 : tf ≤ 4095) (p0 : 0 ≤ pg) (p1 : pg ≤ 4095) :
    Calls Tryz.prog 19 #[.agg #[.slice f l c], .agg #[.bool on1, .int .i64 of1, .int .i64 og1], .agg #[.bool on2, .int .i64 tf, .int .i64 tg], .int .i64 pg, .int .i64 acc] w (WalkEnd w (transD l X on1 of1 on2 tf pg acc)) := by
  have HMI := Lib.hid (fun mid a W (m0 : 0 ≤ mid) (m1 : mid ≤ 4095) (hW : WordsAt W f l X) => midR_any f l c X on2 tf tg mid a W hW hM t0 t1 m0 m1)
  have HMC := Lib.hid (fun mid a m0 => mid_cases l X on2 tf mid a t0 m0)
  have HX := Lib.hid hX
  obtain ⟨q0, hq0⟩ : ∃ q0, q0 = transD l X on1 of1 on2 tf pg acc := ⟨_, rfl⟩
  rw [← hq0]
  unfold transD at hq0
  cases on1
  · rw [if_pos rfl] at hq0
    have HQ := Lib.hid hq0
    clear hq0
    have M0 := Lib.hid (((((BoxAt.new w #[.slice f l c] 24).alloc (.cells #[.bool false, .int .i64 of1, .int .i64 og1] 29)).alloc (.cells #[.bool on2, .int .i64 tf, .int .i64 tg] 29)).alloc (.cells z9 36)).alloc (.cells z5 38))
    have U0 := Lib.hid ((((BoxAt.newAt (w.alloc (.cells #[.slice f l c] 24)) #[.bool false, .int .i64 of1, .int .i64 og1] 29 (w.heap.size + 1) (by simp)).alloc (.cells #[.bool on2, .int .i64 tf, .int .i64 tg] 29)).alloc (.cells z9 36)).alloc (.cells z5 38))
    have T0 := Lib.hid (((BoxAt.newAt ((w.alloc (.cells #[.slice f l c] 24)).alloc (.cells #[.bool false, .int .i64 of1, .int .i64 og1] 29)) #[.bool on2, .int .i64 tf, .int .i64 tg] 29 (w.heap.size + 1 + 1) (by simp)).alloc (.cells z9 36)).alloc (.cells z5 38))
    have H0 := Lib.hid ((BoxAt.newAt (((w.alloc (.cells #[.slice f l c] 24)).alloc (.cells #[.bool false, .int .i64 of1, .int .i64 og1] 29)).alloc (.cells #[.bool on2, .int .i64 tf, .int .i64 tg] 29)) z9 36 (w.heap.size + 1 + 1 + 1) (by simp)).alloc (.cells z5 38))
    have F0 := Lib.hid (BoxAt.newAt ((((w.alloc (.cells #[.slice f l c] 24)).alloc (.cells #[.bool false, .int .i64 of1, .int .i64 og1] 29)).alloc (.cells #[.bool on2, .int .i64 tf, .int .i64 tg] 29)).alloc (.cells z9 36)) z5 38 (w.heap.size + 1 + 1 + 1 + 1) (by simp))
    have B0 := Lib.hid (bel_alloc (bel_alloc (bel_alloc (bel_alloc (bel_alloc (Below.refl w.heap.size w) (.cells #[.slice f l c] 24)) (.cells #[.bool false, .int .i64 of1, .int .i64 og1] 29)) (.cells #[.bool on2, .int .i64 tf, .int .i64 tg] 29)) (.cells z9 36)) (.cells z5 38))
    go_enter Tryz.func19, Tryz.ntmps19
    go_upto_region 1 with fail
    obtain ⟨W0, hW0⟩ : ∃ W0, W0 = ((((w.alloc (.cells #[.slice f l c] 24)).alloc (.cells #[.bool false, .int .i64 of1, .int .i64 og1] 29)).alloc (.cells #[.bool on2, .int .i64 tf, .int .i64 tg] 29)).alloc (.cells z9 36)).alloc (.cells z5 38) := ⟨_, rfl⟩
    rw [← hW0] at M0 U0 T0 H0 F0 B0 ⊢
    clear hW0
    have hlF0 := F0.out.lt
    have Uc0 := U0.out.get 0 (.bool false) rfl
    have Mc0 := M0.out.get 0 (.slice f l c) rfl
    have Tc0 := T0.out.get 0 (.bool on2) rfl
    have Tc1 := T0.out.get 1 (.int .i64 tf) rfl
    have Tc2 := T0.out.get 2 (.int .i64 tg) rfl
    have HW := HX.out.below B0.out
    go_wp2_with fail
    refine (HMI.out pg acc _ p0 p1 HW).mono ?_
    rintro e w1 ⟨f', c', rfl, hO1, hb1⟩
    clear HW HMI HX
    have hmc := HMC.out pg acc p0
    clear HMC
    generalize midD l X on2 tf pg acc = q at *
    obtain ⟨⟨hf, hm, ⟨hr, hw, hx, ha, hn, hs⟩, hl⟩, ⟨gk, gs, gl, gw, gp⟩, R⟩ := q
    unfold hitV fltV
    simp only at hO1 hmc HQ ⊢
    have O1 := Lib.hid (hO1.mono (show w.heap.size + 5 ≤ W0.heap.size by omega))
    clear hO1
    have M2 := Lib.hid (M0.out.below hb1)
    have U2 := Lib.hid (U0.out.below hb1)
    have T2 := Lib.hid (T0.out.below hb1)
    have H2 := Lib.hid (H0.out.below hb1)
    have F2 := Lib.hid (F0.out.below hb1)
    have B2 := Lib.hid (bel_trans B0.out hb1)
    clear Uc0 Mc0 Tc0 Tc1 Tc2
    clear M0 U0 T0 H0 F0 B0 hb1
    have hlF1 := F2.out.lt
    have hmc2 := hmc.2.2
    clear hmc
    rcases hmc2 with hq | hq
    · have hq1 := hq.1
      clear hq
      simp only [flt0, Flt.mk.injEq] at hq1
      obtain ⟨rfl, rfl, rfl, rfl, rfl⟩ := hq1
      rw [if_pos rfl] at HQ
      go_upto_region 3 with fail
      have M3 := Lib.hid (((M2.out.alloc (.cells #[.int .i64 hf, .int .i64 hm, .bool hr, .bool hw, .bool hx, .bool ha, .bool hn, .int .i64 hs, .int .i64 hl] 36)).alloc (.cells z5 38)))
      have U3 := Lib.hid (((U2.out.alloc (.cells #[.int .i64 hf, .int .i64 hm, .bool hr, .bool hw, .bool hx, .bool ha, .bool hn, .int .i64 hs, .int .i64 hl] 36)).alloc (.cells z5 38)))
      have T3 := Lib.hid (((T2.out.alloc (.cells #[.int .i64 hf, .int .i64 hm, .bool hr, .bool hw, .bool hx, .bool ha, .bool hn, .int .i64 hs, .int .i64 hl] 36)).alloc (.cells z5 38)))
      have H3 := Lib.hid (((H2.out.alloc (.cells #[.int .i64 hf, .int .i64 hm, .bool hr, .bool hw, .bool hx, .bool ha, .bool hn, .int .i64 hs, .int .i64 hl] 36)).alloc (.cells z5 38)))
      have F3 := Lib.hid (((F2.out.alloc (.cells #[.int .i64 hf, .int .i64 hm, .bool hr, .bool hw, .bool hx, .bool ha, .bool hn, .int .i64 hs, .int .i64 hl] 36)).alloc (.cells z5 38)))
      have X3 := Lib.hid (((BoxAt.newAt (w1) #[.int .i64 hf, .int .i64 hm, .bool hr, .bool hw, .bool hx, .bool ha, .bool hn, .int .i64 hs, .int .i64 hl] 36 (w1.heap.size) (by first | rfl | (simp; done) | (simp; omega))).alloc (.cells z5 38)))
      have Y3 := Lib.hid ((BoxAt.newAt ((w1).alloc (.cells #[.int .i64 hf, .int .i64 hm, .bool hr, .bool hw, .bool hx, .bool ha, .bool hn, .int .i64 hs, .int .i64 hl] 36)) z5 38 (w1.heap.size + 1) (by first | rfl | (simp; done) | (simp; omega))))
      have O3 := Lib.hid (((O1.out.alloc (.cells #[.int .i64 hf, .int .i64 hm, .bool hr, .bool hw, .bool hx, .bool ha, .bool hn, .int .i64 hs, .int .i64 hl] 36)).alloc (.cells z5 38)))
      have B3 := Lib.hid ((bel_alloc (bel_alloc B2.out (.cells #[.int .i64 hf, .int .i64 hm, .bool hr, .bool hw, .bool hx, .bool ha, .bool hn, .int .i64 hs, .int .i64 hl] 36)) (.cells z5 38)))
      clear M2 U2 T2 H2 F2 O1 B2
      obtain ⟨bX, hbX⟩ : ∃ bX, bX = w1.heap.size := ⟨_, rfl⟩
      have hgX : w.heap.size + 1 + 1 + 1 + 1 < bX := by rw [hbX]; exact hlF1
      obtain ⟨W8, hWW⟩ : ∃ W8, W8 = (w1.alloc (.cells #[.int .i64 hf, .int .i64 hm, .bool hr, .bool hw, .bool hx, .bool ha, .bool hn, .int .i64 hs, .int .i64 hl] 36)).alloc (.cells z5 38) := ⟨_, rfl⟩
      rw [← hWW] at M3 U3 T3 H3 F3 X3 Y3 B3 O3 ⊢
      clear hWW
      rw [← hbX] at X3 Y3 ⊢
      clear hbX
      have HN0 : Hid ((Value.slice f' R.length c').ownBlock ≠ some bX) := O3.out.ne_box X3.out (by decide)
      have Yc0 := Y3.out.get 0 (.int .i64 0) rfl
      have Xc2 := X3.out.get 2 (.bool hr) rfl
      have Xc3 := X3.out.get 3 (.bool hw) rfl
      have Xc4 := X3.out.get 4 (.bool hx) rfl
      have Xc5 := X3.out.get 5 (.bool ha) rfl
      have Xc6 := X3.out.get 6 (.bool hn) rfl
      have Xc7 := X3.out.get 7 (.int .i64 hs) rfl
      obtain ⟨x0, hx0⟩ : ∃ x0, bothL [⟨hr, hw, hx, ha, hn, hs⟩] = x0 := ⟨_, rfl⟩
      rw [hx0] at HQ
      have HX0 := Lib.hid hx0
      clear hx0
      go_wp2_with fail
      refine (bothA_any (some ⟨W8.heap.size, 0, none⟩) 1 1 [⟨hr, hw, hx, ha, hn, hs⟩] _ (OwnR.made (K := KA) W8 W8.heap.size [⟨hr, hw, hx, ha, hn, hs⟩] #[.bool hr, .bool hw, .bool hx, .bool ha, .bool hn, .int .i64 hs] 1 (Nat.le_refl _) rfl (by simp) rfl).rows.2 rfl (by simp)).mono ?_
      rintro e w4 ⟨rfl, hb4⟩
      have M5 := Lib.hid ((M3.out.alloc (.cells #[.bool hr, .bool hw, .bool hx, .bool ha, .bool hn, .int .i64 hs] 34)).below hb4)
      have U5 := Lib.hid ((U3.out.alloc (.cells #[.bool hr, .bool hw, .bool hx, .bool ha, .bool hn, .int .i64 hs] 34)).below hb4)
      have T5 := Lib.hid ((T3.out.alloc (.cells #[.bool hr, .bool hw, .bool hx, .bool ha, .bool hn, .int .i64 hs] 34)).below hb4)
      have H5 := Lib.hid ((H3.out.alloc (.cells #[.bool hr, .bool hw, .bool hx, .bool ha, .bool hn, .int .i64 hs] 34)).below hb4)
      have F5 := Lib.hid ((F3.out.alloc (.cells #[.bool hr, .bool hw, .bool hx, .bool ha, .bool hn, .int .i64 hs] 34)).below hb4)
      have X5 := Lib.hid ((X3.out.alloc (.cells #[.bool hr, .bool hw, .bool hx, .bool ha, .bool hn, .int .i64 hs] 34)).below hb4)
      have Y5 := Lib.hid ((Y3.out.alloc (.cells #[.bool hr, .bool hw, .bool hx, .bool ha, .bool hn, .int .i64 hs] 34)).below hb4)
      have O5 := Lib.hid ((O3.out.alloc (.cells #[.bool hr, .bool hw, .bool hx, .bool ha, .bool hn, .int .i64 hs] 34)).below hb4)
      have B5 := Lib.hid (bel_trans (bel_alloc B3.out (.cells #[.bool hr, .bool hw, .bool hx, .bool ha, .bool hn, .int .i64 hs] 34)) hb4)
      clear Yc0 Xc2 Xc3 Xc4 Xc5 Xc6 Xc7
      clear M3 U3 T3 H3 F3 X3 Y3 O3 B3 hb4
      rw [HX0.out]
      obtain ⟨xr, xw, xx, xa, xn, xs⟩ := x0
      unfold atrV atrC
      simp only
      have Xc2 := X5.out.get 2 (.bool hr) rfl
      have Xc3 := X5.out.get 3 (.bool hw) rfl
      have Xc4 := X5.out.get 4 (.bool hx) rfl
      have Xc5 := X5.out.get 5 (.bool ha) rfl
      have Xc6 := X5.out.get 6 (.bool hn) rfl
      have Xc7 := X5.out.get 7 (.int .i64 hs) rfl
      have Xc8 := X5.out.get 8 (.int .i64 hl) rfl
      have Xz2 := X5.out.free 2
      have Xz3 := X5.out.free 3
      have Xz4 := X5.out.free 4
      have Xz5 := X5.out.free 5
      have Xz6 := X5.out.free 6
      have Xz7 := X5.out.free 7
      have Xz8 := X5.out.free 8
      go_upto_region 5 with fail
      have M6 := Lib.hid ((((((((M5.out.other ⟨bX, 2, none⟩ (.bool xr) (by first | with_reducible assumption | (simp; done) | (simp; omega))).other ⟨bX, 3, none⟩ (.bool xw) (by first | with_reducible assumption | (simp; done) | (simp; omega))).other ⟨bX, 4, none⟩ (.bool xx) (by first | with_reducible assumption | (simp; done) | (simp; omega))).other ⟨bX, 5, none⟩ (.bool xa) (by first | with_reducible assumption | (simp; done) | (simp; omega))).other ⟨bX, 6, none⟩ (.bool xn) (by first | with_reducible assumption | (simp; done) | (simp; omega))).other ⟨bX, 7, none⟩ (.int .i64 xs) (by first | with_reducible assumption | (simp; done) | (simp; omega))).other ⟨bX, 8, none⟩ (.int .i64 3) (by first | with_reducible assumption | (simp; done) | (simp; omega))))
      have U6 := Lib.hid ((((((((U5.out.other ⟨bX, 2, none⟩ (.bool xr) (by first | with_reducible assumption | (simp; done) | (simp; omega))).other ⟨bX, 3, none⟩ (.bool xw) (by first | with_reducible assumption | (simp; done) | (simp; omega))).other ⟨bX, 4, none⟩ (.bool xx) (by first | with_reducible assumption | (simp; done) | (simp; omega))).other ⟨bX, 5, none⟩ (.bool xa) (by first | with_reducible assumption | (simp; done) | (simp; omega))).other ⟨bX, 6, none⟩ (.bool xn) (by first | with_reducible assumption | (simp; done) | (simp; omega))).other ⟨bX, 7, none⟩ (.int .i64 xs) (by first | with_reducible assumption | (simp; done) | (simp; omega))).other ⟨bX, 8, none⟩ (.int .i64 3) (by first | with_reducible assumption | (simp; done) | (simp; omega))))
      have T6 := Lib.hid ((((((((T5.out.other ⟨bX, 2, none⟩ (.bool xr) (by first | with_reducible assumption | (simp; done) | (simp; omega))).other ⟨bX, 3, none⟩ (.bool xw) (by first | with_reducible assumption | (simp; done) | (simp; omega))).other ⟨bX, 4, none⟩ (.bool xx) (by first | with_reducible assumption | (simp; done) | (simp; omega))).other ⟨bX, 5, none⟩ (.bool xa) (by first | with_reducible assumption | (simp; done) | (simp; omega))).other ⟨bX, 6, none⟩ (.bool xn) (by first | with_reducible assumption | (simp; done) | (simp; omega))).other ⟨bX, 7, none⟩ (.int .i64 xs) (by first | with_reducible assumption | (simp; done) | (simp; omega))).other ⟨bX, 8, none⟩ (.int .i64 3) (by first | with_reducible assumption | (simp; done) | (simp; omega))))
      have H6 := Lib.hid ((((((((H5.out.other ⟨bX, 2, none⟩ (.bool xr) (by first | with_reducible assumption | (simp; done) | (simp; omega))).other ⟨bX, 3, none⟩ (.bool xw) (by first | with_reducible assumption | (simp; done) | (simp; omega))).other ⟨bX, 4, none⟩ (.bool xx) (by first | with_reducible assumption | (simp; done) | (simp; omega))).other ⟨bX, 5, none⟩ (.bool xa) (by first | with_reducible assumption | (simp; done) | (simp; omega))).other ⟨bX, 6, none⟩ (.bool xn) (by first | with_reducible assumption | (simp; done) | (simp; omega))).other ⟨bX, 7, none⟩ (.int .i64 xs) (by first | with_reducible assumption | (simp; done) | (simp; omega))).other ⟨bX, 8, none⟩ (.int .i64 3) (by first | with_reducible assumption | (simp; done) | (simp; omega))))
      have F6 := Lib.hid ((((((((F5.out.other ⟨bX, 2, none⟩ (.bool xr) (by first | with_reducible assumption | (simp; done) | (simp; omega))).other ⟨bX, 3, none⟩ (.bool xw) (by first | with_reducible assumption | (simp; done) | (simp; omega))).other ⟨bX, 4, none⟩ (.bool xx) (by first | with_reducible assumption | (simp; done) | (simp; omega))).other ⟨bX, 5, none⟩ (.bool xa) (by first | with_reducible assumption | (simp; done) | (simp; omega))).other ⟨bX, 6, none⟩ (.bool xn) (by first | with_reducible assumption | (simp; done) | (simp; omega))).other ⟨bX, 7, none⟩ (.int .i64 xs) (by first | with_reducible assumption | (simp; done) | (simp; omega))).other ⟨bX, 8, none⟩ (.int .i64 3) (by first | with_reducible assumption | (simp; done) | (simp; omega))))
      have X6 := Lib.hid ((((((((X5.out.set 2 (.bool xr) #[.int .i64 hf, .int .i64 hm, .bool xr, .bool hw, .bool hx, .bool ha, .bool hn, .int .i64 hs, .int .i64 hl] rfl).set 3 (.bool xw) #[.int .i64 hf, .int .i64 hm, .bool xr, .bool xw, .bool hx, .bool ha, .bool hn, .int .i64 hs, .int .i64 hl] rfl).set 4 (.bool xx) #[.int .i64 hf, .int .i64 hm, .bool xr, .bool xw, .bool xx, .bool ha, .bool hn, .int .i64 hs, .int .i64 hl] rfl).set 5 (.bool xa) #[.int .i64 hf, .int .i64 hm, .bool xr, .bool xw, .bool xx, .bool xa, .bool hn, .int .i64 hs, .int .i64 hl] rfl).set 6 (.bool xn) #[.int .i64 hf, .int .i64 hm, .bool xr, .bool xw, .bool xx, .bool xa, .bool xn, .int .i64 hs, .int .i64 hl] rfl).set 7 (.int .i64 xs) #[.int .i64 hf, .int .i64 hm, .bool xr, .bool xw, .bool xx, .bool xa, .bool xn, .int .i64 xs, .int .i64 hl] rfl).set 8 (.int .i64 3) #[.int .i64 hf, .int .i64 hm, .bool xr, .bool xw, .bool xx, .bool xa, .bool xn, .int .i64 xs, .int .i64 3] rfl))
      have Y6 := Lib.hid ((((((((Y5.out.other ⟨bX, 2, none⟩ (.bool xr) (by first | with_reducible assumption | (simp; done) | (simp; omega))).other ⟨bX, 3, none⟩ (.bool xw) (by first | with_reducible assumption | (simp; done) | (simp; omega))).other ⟨bX, 4, none⟩ (.bool xx) (by first | with_reducible assumption | (simp; done) | (simp; omega))).other ⟨bX, 5, none⟩ (.bool xa) (by first | with_reducible assumption | (simp; done) | (simp; omega))).other ⟨bX, 6, none⟩ (.bool xn) (by first | with_reducible assumption | (simp; done) | (simp; omega))).other ⟨bX, 7, none⟩ (.int .i64 xs) (by first | with_reducible assumption | (simp; done) | (simp; omega))).other ⟨bX, 8, none⟩ (.int .i64 3) (by first | with_reducible assumption | (simp; done) | (simp; omega))))
      have O6 := Lib.hid ((((((((O5.out.otherN ⟨bX, 2, none⟩ (.bool xr) HN0.out).otherN ⟨bX, 3, none⟩ (.bool xw) HN0.out).otherN ⟨bX, 4, none⟩ (.bool xx) HN0.out).otherN ⟨bX, 5, none⟩ (.bool xa) HN0.out).otherN ⟨bX, 6, none⟩ (.bool xn) HN0.out).otherN ⟨bX, 7, none⟩ (.int .i64 xs) HN0.out).otherN ⟨bX, 8, none⟩ (.int .i64 3) HN0.out))
      have B6 := Lib.hid ((Below.setCell (Below.setCell (Below.setCell (Below.setCell (Below.setCell (Below.setCell (Below.setCell B5.out (p := ⟨bX, 2, none⟩) (by first | with_reducible assumption | (simp; done) | (simp; omega)) (.bool xr)) (p := ⟨bX, 3, none⟩) (by first | with_reducible assumption | (simp; done) | (simp; omega)) (.bool xw)) (p := ⟨bX, 4, none⟩) (by first | with_reducible assumption | (simp; done) | (simp; omega)) (.bool xx)) (p := ⟨bX, 5, none⟩) (by first | with_reducible assumption | (simp; done) | (simp; omega)) (.bool xa)) (p := ⟨bX, 6, none⟩) (by first | with_reducible assumption | (simp; done) | (simp; omega)) (.bool xn)) (p := ⟨bX, 7, none⟩) (by first | with_reducible assumption | (simp; done) | (simp; omega)) (.int .i64 xs)) (p := ⟨bX, 8, none⟩) (by first | with_reducible assumption | (simp; done) | (simp; omega)) (.int .i64 3)))
      clear Xc2 Xc3 Xc4 Xc5 Xc6 Xc7 Xc8 Xz2 Xz3 Xz4 Xz5 Xz6 Xz7 Xz8
      clear M5 U5 T5 H5 F5 X5 Y5 O5 B5
      obtain ⟨W7, hWW⟩ : ∃ W7, W7 = (((((((w4).setCell ⟨bX, 2, none⟩ (.bool xr)).setCell ⟨bX, 3, none⟩ (.bool xw)).setCell ⟨bX, 4, none⟩ (.bool xx)).setCell ⟨bX, 5, none⟩ (.bool xa)).setCell ⟨bX, 6, none⟩ (.bool xn)).setCell ⟨bX, 7, none⟩ (.int .i64 xs)).setCell ⟨bX, 8, none⟩ (.int .i64 3) := ⟨_, rfl⟩
      rw [← hWW] at M6 U6 T6 H6 F6 X6 Y6 B6 O6 ⊢
      clear hWW
      refine wp_region_held_drew (S := (fun w' => BoxAt w' (bX) #[.int .i64 hf, .int .i64 hm, .bool xr, .bool xw, .bool xx, .bool xa, .bool xn, .int .i64 xs, .int .i64 3] 36 ∧ BoxAt w' (bX + 1) z5 38)) (by kernel_rfl) ⟨X6.out.drew, Y6.out.drew⟩ (fun hS => ?_)
      have M7a := Lib.hid (M6.out.drew)
      have U7a := Lib.hid (U6.out.drew)
      have T7a := Lib.hid (T6.out.drew)
      have H7a := Lib.hid (H6.out.drew)
      have F7a := Lib.hid (F6.out.drew)
      have X7a := Lib.hid (X6.out.drew)
      have Y7a := Lib.hid (Y6.out.drew)
      have O7a := Lib.hid (O6.out.drew)
      have B7a := Lib.hid (Below.drew B6.out)
      clear M6 U6 T6 H6 F6 X6 Y6 O6 B6
      obtain ⟨V7a, hV⟩ : ∃ V7a, V7a = W7.drew := ⟨_, rfl⟩
      rw [← hV] at M7a U7a T7a H7a F7a X7a Y7a B7a O7a hS ⊢
      clear hV
      refine tkR 0 44 rfl hS (fun w' hSw => by obtain ⟨hS0, hS1⟩ := hSw; have c0_0 := hS0.get 0 (.int .i64 hf) rfl; have c0_1 := hS0.get 1 (.int .i64 hm) rfl; have c0_2 := hS0.get 2 (.bool xr) rfl; have c0_3 := hS0.get 3 (.bool xw) rfl; have c0_4 := hS0.get 4 (.bool xx) rfl; have c0_5 := hS0.get 5 (.bool xa) rfl; have c0_6 := hS0.get 6 (.bool xn) rfl; have c0_7 := hS0.get 7 (.int .i64 xs) rfl; have c0_8 := hS0.get 8 (.int .i64 3) rfl; have c1_0 := hS1.get 0 (.int .i64 0) rfl; have c1_1 := hS1.get 1 (.int .i64 0) rfl; have c1_2 := hS1.get 2 (.int .i64 0) rfl; have c1_3 := hS1.get 3 (.bool false) rfl; have c1_4 := hS1.get 4 (.int .i64 0) rfl; clear hS0 hS1; go_simp; try with_reducible rfl) ?_
      simp only [pA, pB, pC]
      refine tkR 1 45 rfl hS (fun w' hSw => by obtain ⟨hS0, hS1⟩ := hSw; have c0_0 := hS0.get 0 (.int .i64 hf) rfl; have c0_1 := hS0.get 1 (.int .i64 hm) rfl; have c0_2 := hS0.get 2 (.bool xr) rfl; have c0_3 := hS0.get 3 (.bool xw) rfl; have c0_4 := hS0.get 4 (.bool xx) rfl; have c0_5 := hS0.get 5 (.bool xa) rfl; have c0_6 := hS0.get 6 (.bool xn) rfl; have c0_7 := hS0.get 7 (.int .i64 xs) rfl; have c0_8 := hS0.get 8 (.int .i64 3) rfl; have c1_0 := hS1.get 0 (.int .i64 0) rfl; have c1_1 := hS1.get 1 (.int .i64 0) rfl; have c1_2 := hS1.get 2 (.int .i64 0) rfl; have c1_3 := hS1.get 3 (.bool false) rfl; have c1_4 := hS1.get 4 (.int .i64 0) rfl; clear hS0 hS1; go_simp; try with_reducible rfl) ?_
      simp only [pA, pB, pC]
      refine tkR 2 46 rfl hS (fun w' hSw => by obtain ⟨hS0, hS1⟩ := hSw; have c0_0 := hS0.get 0 (.int .i64 hf) rfl; have c0_1 := hS0.get 1 (.int .i64 hm) rfl; have c0_2 := hS0.get 2 (.bool xr) rfl; have c0_3 := hS0.get 3 (.bool xw) rfl; have c0_4 := hS0.get 4 (.bool xx) rfl; have c0_5 := hS0.get 5 (.bool xa) rfl; have c0_6 := hS0.get 6 (.bool xn) rfl; have c0_7 := hS0.get 7 (.int .i64 xs) rfl; have c0_8 := hS0.get 8 (.int .i64 3) rfl; have c1_0 := hS1.get 0 (.int .i64 0) rfl; have c1_1 := hS1.get 1 (.int .i64 0) rfl; have c1_2 := hS1.get 2 (.int .i64 0) rfl; have c1_3 := hS1.get 3 (.bool false) rfl; have c1_4 := hS1.get 4 (.int .i64 0) rfl; clear hS0 hS1; go_simp; try with_reducible rfl) ?_
      simp only [pA, pB, pC]
      refine wpAnyH_ready (rs := [3]) (by kernel_rfl) (by simp) ?_
      refine AllReadyH.cons (o := ⟨none, _, _, _, _, _⟩) rfl (fun K hK => ?_) AllReadyH.nil
      refine step_storeB rfl 36 _ _ rfl _ _ z9 36 rfl rfl (by kernel_rfl) rfl (by simp [Value.oneCell']) H7a.out ?_
      refine hK.out _ _ ?_ (fun hS' => ?_)
      · exact ⟨hS.1.row (by omega), hS.2.row (by omega)⟩
      clear hK K hS
      have hS := hS'
      clear hS'
      try simp only [Act.put]
      have M7b := Lib.hid (M7a.out.row (cs' := #[.int .i64 hf, .int .i64 hm, .bool xr, .bool xw, .bool xx, .bool xa, .bool xn, .int .i64 xs, .int .i64 3]) (show w.heap.size ≠ w.heap.size + 1 + 1 + 1 by omega))
      have U7b := Lib.hid (U7a.out.row (cs' := #[.int .i64 hf, .int .i64 hm, .bool xr, .bool xw, .bool xx, .bool xa, .bool xn, .int .i64 xs, .int .i64 3]) (show w.heap.size + 1 ≠ w.heap.size + 1 + 1 + 1 by omega))
      have T7b := Lib.hid (T7a.out.row (cs' := #[.int .i64 hf, .int .i64 hm, .bool xr, .bool xw, .bool xx, .bool xa, .bool xn, .int .i64 xs, .int .i64 3]) (show w.heap.size + 1 + 1 ≠ w.heap.size + 1 + 1 + 1 by omega))
      have H7b := Lib.hid (H7a.out.put (cs' := #[.int .i64 hf, .int .i64 hm, .bool xr, .bool xw, .bool xx, .bool xa, .bool xn, .int .i64 xs, .int .i64 3]))
      have F7b := Lib.hid (F7a.out.row (cs' := #[.int .i64 hf, .int .i64 hm, .bool xr, .bool xw, .bool xx, .bool xa, .bool xn, .int .i64 xs, .int .i64 3]) (show w.heap.size + 1 + 1 + 1 + 1 ≠ w.heap.size + 1 + 1 + 1 by omega))
      have X7b := Lib.hid (X7a.out.row (cs' := #[.int .i64 hf, .int .i64 hm, .bool xr, .bool xw, .bool xx, .bool xa, .bool xn, .int .i64 xs, .int .i64 3]) (show bX ≠ w.heap.size + 1 + 1 + 1 by omega))
      have Y7b := Lib.hid (Y7a.out.row (cs' := #[.int .i64 hf, .int .i64 hm, .bool xr, .bool xw, .bool xx, .bool xa, .bool xn, .int .i64 xs, .int .i64 3]) (show bX + 1 ≠ w.heap.size + 1 + 1 + 1 by omega))
      have O7b := Lib.hid (O7a.out.row (cs := #[.int .i64 hf, .int .i64 hm, .bool xr, .bool xw, .bool xx, .bool xa, .bool xn, .int .i64 xs, .int .i64 3]) (show w.heap.size + 1 + 1 + 1 < _ by omega))
      have B7b := Lib.hid (Below.rowB (g := w.heap.size + 1 + 1 + 1) B7a.out (cs := #[.int .i64 hf, .int .i64 hm, .bool xr, .bool xw, .bool xx, .bool xa, .bool xn, .int .i64 xs, .int .i64 3]) (by omega))
      clear M7a U7a T7a H7a F7a X7a Y7a O7a B7a
      obtain ⟨V7b, hV⟩ : ∃ V7b, V7b = V7a.setRow (w.heap.size + 1 + 1 + 1) #[.int .i64 hf, .int .i64 hm, .bool xr, .bool xw, .bool xx, .bool xa, .bool xn, .int .i64 xs, .int .i64 3] := ⟨_, rfl⟩
      rw [← hV] at M7b U7b T7b H7b F7b X7b Y7b B7b O7b hS ⊢
      clear hV
      refine wpAnyH_ready (rs := [4]) (by kernel_rfl) (by simp) ?_
      refine AllReadyH.cons (o := ⟨none, _, _, _, _, _⟩) rfl (fun K hK => ?_) AllReadyH.nil
      refine step_storeB rfl 38 _ _ rfl _ _ z5 38 rfl rfl (by kernel_rfl) rfl (by simp [Value.oneCell']) F7b.out ?_
      refine hK.out _ _ ?_ (fun hS' => ?_)
      · exact ⟨hS.1.row (by omega), hS.2.row (by omega)⟩
      clear hK K hS
      have hS := hS'
      clear hS'
      try simp only [Act.put]
      have M7c := Lib.hid (M7b.out.row (cs' := #[.int .i64 0, .int .i64 0, .int .i64 0, .bool false, .int .i64 0]) (show w.heap.size ≠ w.heap.size + 1 + 1 + 1 + 1 by omega))
      have U7c := Lib.hid (U7b.out.row (cs' := #[.int .i64 0, .int .i64 0, .int .i64 0, .bool false, .int .i64 0]) (show w.heap.size + 1 ≠ w.heap.size + 1 + 1 + 1 + 1 by omega))
      have T7c := Lib.hid (T7b.out.row (cs' := #[.int .i64 0, .int .i64 0, .int .i64 0, .bool false, .int .i64 0]) (show w.heap.size + 1 + 1 ≠ w.heap.size + 1 + 1 + 1 + 1 by omega))
      have H7c := Lib.hid (H7b.out.row (cs' := #[.int .i64 0, .int .i64 0, .int .i64 0, .bool false, .int .i64 0]) (show w.heap.size + 1 + 1 + 1 ≠ w.heap.size + 1 + 1 + 1 + 1 by omega))
      have F7c := Lib.hid (F7b.out.put (cs' := #[.int .i64 0, .int .i64 0, .int .i64 0, .bool false, .int .i64 0]))
      have X7c := Lib.hid (X7b.out.row (cs' := #[.int .i64 0, .int .i64 0, .int .i64 0, .bool false, .int .i64 0]) (show bX ≠ w.heap.size + 1 + 1 + 1 + 1 by omega))
      have Y7c := Lib.hid (Y7b.out.row (cs' := #[.int .i64 0, .int .i64 0, .int .i64 0, .bool false, .int .i64 0]) (show bX + 1 ≠ w.heap.size + 1 + 1 + 1 + 1 by omega))
      have O7c := Lib.hid (O7b.out.row (cs := #[.int .i64 0, .int .i64 0, .int .i64 0, .bool false, .int .i64 0]) (show w.heap.size + 1 + 1 + 1 + 1 < _ by omega))
      have B7c := Lib.hid (Below.rowB (g := w.heap.size + 1 + 1 + 1 + 1) B7b.out (cs := #[.int .i64 0, .int .i64 0, .int .i64 0, .bool false, .int .i64 0]) (by omega))
      clear M7b U7b T7b H7b F7b X7b Y7b O7b B7b
      obtain ⟨V7c, hV⟩ : ∃ V7c, V7c = V7b.setRow (w.heap.size + 1 + 1 + 1 + 1) #[.int .i64 0, .int .i64 0, .int .i64 0, .bool false, .int .i64 0] := ⟨_, rfl⟩
      rw [← hV] at M7c U7c T7c H7c F7c X7c Y7c B7c O7c hS ⊢
      clear hV
      refine tkR 5 12 rfl hS (fun w' hSw => by obtain ⟨hS0, hS1⟩ := hSw; have c0_0 := hS0.get 0 (.int .i64 hf) rfl; have c0_1 := hS0.get 1 (.int .i64 hm) rfl; have c0_2 := hS0.get 2 (.bool xr) rfl; have c0_3 := hS0.get 3 (.bool xw) rfl; have c0_4 := hS0.get 4 (.bool xx) rfl; have c0_5 := hS0.get 5 (.bool xa) rfl; have c0_6 := hS0.get 6 (.bool xn) rfl; have c0_7 := hS0.get 7 (.int .i64 xs) rfl; have c0_8 := hS0.get 8 (.int .i64 3) rfl; have c1_0 := hS1.get 0 (.int .i64 0) rfl; have c1_1 := hS1.get 1 (.int .i64 0) rfl; have c1_2 := hS1.get 2 (.int .i64 0) rfl; have c1_3 := hS1.get 3 (.bool false) rfl; have c1_4 := hS1.get 4 (.int .i64 0) rfl; clear hS0 hS1; go_simp; try with_reducible rfl) ?_
      simp only [pA, pB, pC]
      refine wpAnyH_done (by kernel_rfl) ?_ _
      try simp only [Act.put, List.setIfInBounds_toArray, List.set_cons_zero, List.set_cons_succ]
      clear hS
      have Hc0 := H7c.out.get 0 (.int .i64 hf) rfl
      have Hc1 := H7c.out.get 1 (.int .i64 hm) rfl
      have Hc2 := H7c.out.get 2 (.bool xr) rfl
      have Hc3 := H7c.out.get 3 (.bool xw) rfl
      have Hc4 := H7c.out.get 4 (.bool xx) rfl
      have Hc5 := H7c.out.get 5 (.bool xa) rfl
      have Hc6 := H7c.out.get 6 (.bool xn) rfl
      have Hc7 := H7c.out.get 7 (.int .i64 xs) rfl
      have Hc8 := H7c.out.get 8 (.int .i64 3) rfl
      have Fc0 := F7c.out.get 0 (.int .i64 0) rfl
      have Fc1 := F7c.out.get 1 (.int .i64 0) rfl
      have Fc2 := F7c.out.get 2 (.int .i64 0) rfl
      have Fc3 := F7c.out.get 3 (.bool false) rfl
      have Fc4 := F7c.out.get 4 (.int .i64 0) rfl
      go_wp2
      refine bodyPost_ret (v := .tuple #[.agg #[.int .i64 hf, .int .i64 hm, .bool xr, .bool xw, .bool xx, .bool xa, .bool xn, .int .i64 xs, .int .i64 3], .agg #[.int .i64 0, .int .i64 0, .int .i64 0, .bool false, .int .i64 0], .slice f' R.length c']) (by simp [results, Tryz.results19, go_sem, Hc0, Hc1, Hc2, Hc3, Hc4, Hc5, Hc6, Hc7, Hc8, Fc0, Fc1, Fc2, Fc3, Fc4]) rfl ?_
      exact WalkEnd.mk' (hh := ⟨hf, hm, ⟨xr, xw, xx, xa, xn, xs⟩, 3⟩) (ff := flt0) (R := R) HQ.out.symm rfl rfl O7c.out (show w.heap.size ≤ w.heap.size + 5 by omega) B7c.out
    · obtain ⟨hk, hh0⟩ := hq
      simp only [hit0, atr0, Hit.mk.injEq, Atr.mk.injEq] at hh0
      obtain ⟨rfl, rfl, ⟨rfl, rfl, rfl, rfl, rfl, rfl⟩, rfl⟩ := hh0
      rw [if_neg hk] at HQ
      have dk : decide (gk = 0) = false := decide_eq_false hk
      have bk : (gk == 0) = false := by rw [beq_int]; exact dk
      go_upto_region 3 with fail
      have M3 := Lib.hid (((M2.out.alloc (.cells z9 36)).alloc (.cells #[.int .i64 gk, .int .i64 gs, .int .i64 gl, .bool gw, .int .i64 gp] 38)))
      have U3 := Lib.hid (((U2.out.alloc (.cells z9 36)).alloc (.cells #[.int .i64 gk, .int .i64 gs, .int .i64 gl, .bool gw, .int .i64 gp] 38)))
      have T3 := Lib.hid (((T2.out.alloc (.cells z9 36)).alloc (.cells #[.int .i64 gk, .int .i64 gs, .int .i64 gl, .bool gw, .int .i64 gp] 38)))
      have H3 := Lib.hid (((H2.out.alloc (.cells z9 36)).alloc (.cells #[.int .i64 gk, .int .i64 gs, .int .i64 gl, .bool gw, .int .i64 gp] 38)))
      have F3 := Lib.hid (((F2.out.alloc (.cells z9 36)).alloc (.cells #[.int .i64 gk, .int .i64 gs, .int .i64 gl, .bool gw, .int .i64 gp] 38)))
      have X3 := Lib.hid (((BoxAt.newAt (w1) z9 36 (w1.heap.size) (by first | rfl | (simp; done) | (simp; omega))).alloc (.cells #[.int .i64 gk, .int .i64 gs, .int .i64 gl, .bool gw, .int .i64 gp] 38)))
      have Y3 := Lib.hid ((BoxAt.newAt ((w1).alloc (.cells z9 36)) #[.int .i64 gk, .int .i64 gs, .int .i64 gl, .bool gw, .int .i64 gp] 38 (w1.heap.size + 1) (by first | rfl | (simp; done) | (simp; omega))))
      have O3 := Lib.hid (((O1.out.alloc (.cells z9 36)).alloc (.cells #[.int .i64 gk, .int .i64 gs, .int .i64 gl, .bool gw, .int .i64 gp] 38)))
      have B3 := Lib.hid ((bel_alloc (bel_alloc B2.out (.cells z9 36)) (.cells #[.int .i64 gk, .int .i64 gs, .int .i64 gl, .bool gw, .int .i64 gp] 38)))
      clear M2 U2 T2 H2 F2 O1 B2
      obtain ⟨bX, hbX⟩ : ∃ bX, bX = w1.heap.size := ⟨_, rfl⟩
      have hgX : w.heap.size + 1 + 1 + 1 + 1 < bX := by rw [hbX]; exact hlF1
      obtain ⟨W8, hWW⟩ : ∃ W8, W8 = (w1.alloc (.cells z9 36)).alloc (.cells #[.int .i64 gk, .int .i64 gs, .int .i64 gl, .bool gw, .int .i64 gp] 38) := ⟨_, rfl⟩
      rw [← hWW] at M3 U3 T3 H3 F3 X3 Y3 B3 O3 ⊢
      clear hWW
      rw [← hbX] at X3 Y3 ⊢
      clear hbX
      have HN0 : Hid ((Value.slice f' R.length c').ownBlock ≠ some bX) := O3.out.ne_box X3.out (by decide)
      have Yc0 := Y3.out.get 0 (.int .i64 gk) rfl
      go_upto_region 5 with fail
      clear Yc0
      refine wp_region_held_drew (S := (fun w' => BoxAt w' (bX) z9 36 ∧ BoxAt w' (bX + 1) #[.int .i64 gk, .int .i64 gs, .int .i64 gl, .bool gw, .int .i64 gp] 38)) (by kernel_rfl) ⟨X3.out.drew, Y3.out.drew⟩ (fun hS => ?_)
      have M4a := Lib.hid (M3.out.drew)
      have U4a := Lib.hid (U3.out.drew)
      have T4a := Lib.hid (T3.out.drew)
      have H4a := Lib.hid (H3.out.drew)
      have F4a := Lib.hid (F3.out.drew)
      have X4a := Lib.hid (X3.out.drew)
      have Y4a := Lib.hid (Y3.out.drew)
      have O4a := Lib.hid (O3.out.drew)
      have B4a := Lib.hid (Below.drew B3.out)
      clear M3 U3 T3 H3 F3 X3 Y3 O3 B3
      obtain ⟨V4a, hV⟩ : ∃ V4a, V4a = W8.drew := ⟨_, rfl⟩
      rw [← hV] at M4a U4a T4a H4a F4a X4a Y4a B4a O4a hS ⊢
      clear hV
      refine tkR 0 44 rfl hS (fun w' hSw => by obtain ⟨hS0, hS1⟩ := hSw; have c0_0 := hS0.get 0 (.int .i64 0) rfl; have c0_1 := hS0.get 1 (.int .i64 0) rfl; have c0_2 := hS0.get 2 (.bool false) rfl; have c0_3 := hS0.get 3 (.bool false) rfl; have c0_4 := hS0.get 4 (.bool false) rfl; have c0_5 := hS0.get 5 (.bool false) rfl; have c0_6 := hS0.get 6 (.bool false) rfl; have c0_7 := hS0.get 7 (.int .i64 0) rfl; have c0_8 := hS0.get 8 (.int .i64 0) rfl; have c1_0 := hS1.get 0 (.int .i64 gk) rfl; have c1_1 := hS1.get 1 (.int .i64 gs) rfl; have c1_2 := hS1.get 2 (.int .i64 gl) rfl; have c1_3 := hS1.get 3 (.bool gw) rfl; have c1_4 := hS1.get 4 (.int .i64 gp) rfl; clear hS0 hS1; go_simp; try with_reducible rfl) ?_
      simp only [pA, pB, pC]
      refine tkR 1 45 rfl hS (fun w' hSw => by obtain ⟨hS0, hS1⟩ := hSw; have c0_0 := hS0.get 0 (.int .i64 0) rfl; have c0_1 := hS0.get 1 (.int .i64 0) rfl; have c0_2 := hS0.get 2 (.bool false) rfl; have c0_3 := hS0.get 3 (.bool false) rfl; have c0_4 := hS0.get 4 (.bool false) rfl; have c0_5 := hS0.get 5 (.bool false) rfl; have c0_6 := hS0.get 6 (.bool false) rfl; have c0_7 := hS0.get 7 (.int .i64 0) rfl; have c0_8 := hS0.get 8 (.int .i64 0) rfl; have c1_0 := hS1.get 0 (.int .i64 gk) rfl; have c1_1 := hS1.get 1 (.int .i64 gs) rfl; have c1_2 := hS1.get 2 (.int .i64 gl) rfl; have c1_3 := hS1.get 3 (.bool gw) rfl; have c1_4 := hS1.get 4 (.int .i64 gp) rfl; clear hS0 hS1; go_simp; try with_reducible rfl) ?_
      simp only [pA, pB, pC]
      refine tkR 2 46 rfl hS (fun w' hSw => by obtain ⟨hS0, hS1⟩ := hSw; have c0_0 := hS0.get 0 (.int .i64 0) rfl; have c0_1 := hS0.get 1 (.int .i64 0) rfl; have c0_2 := hS0.get 2 (.bool false) rfl; have c0_3 := hS0.get 3 (.bool false) rfl; have c0_4 := hS0.get 4 (.bool false) rfl; have c0_5 := hS0.get 5 (.bool false) rfl; have c0_6 := hS0.get 6 (.bool false) rfl; have c0_7 := hS0.get 7 (.int .i64 0) rfl; have c0_8 := hS0.get 8 (.int .i64 0) rfl; have c1_0 := hS1.get 0 (.int .i64 gk) rfl; have c1_1 := hS1.get 1 (.int .i64 gs) rfl; have c1_2 := hS1.get 2 (.int .i64 gl) rfl; have c1_3 := hS1.get 3 (.bool gw) rfl; have c1_4 := hS1.get 4 (.int .i64 gp) rfl; clear hS0 hS1; go_simp; try with_reducible rfl) ?_
      simp only [pA, pB, pC]
      refine wpAnyH_ready (rs := [3]) (by kernel_rfl) (by simp) ?_
      refine AllReadyH.cons (o := ⟨none, _, _, _, _, _⟩) rfl (fun K hK => ?_) AllReadyH.nil
      refine step_storeB rfl 36 _ _ rfl _ _ z9 36 rfl rfl (by kernel_rfl) rfl (by simp [Value.oneCell']) H4a.out ?_
      refine hK.out _ _ ?_ (fun hS' => ?_)
      · exact ⟨hS.1.row (by omega), hS.2.row (by omega)⟩
      clear hK K hS
      have hS := hS'
      clear hS'
      try simp only [Act.put]
      have M4b := Lib.hid (M4a.out.row (cs' := #[.int .i64 0, .int .i64 0, .bool false, .bool false, .bool false, .bool false, .bool false, .int .i64 0, .int .i64 0]) (show w.heap.size ≠ w.heap.size + 1 + 1 + 1 by omega))
      have U4b := Lib.hid (U4a.out.row (cs' := #[.int .i64 0, .int .i64 0, .bool false, .bool false, .bool false, .bool false, .bool false, .int .i64 0, .int .i64 0]) (show w.heap.size + 1 ≠ w.heap.size + 1 + 1 + 1 by omega))
      have T4b := Lib.hid (T4a.out.row (cs' := #[.int .i64 0, .int .i64 0, .bool false, .bool false, .bool false, .bool false, .bool false, .int .i64 0, .int .i64 0]) (show w.heap.size + 1 + 1 ≠ w.heap.size + 1 + 1 + 1 by omega))
      have H4b := Lib.hid (H4a.out.put (cs' := #[.int .i64 0, .int .i64 0, .bool false, .bool false, .bool false, .bool false, .bool false, .int .i64 0, .int .i64 0]))
      have F4b := Lib.hid (F4a.out.row (cs' := #[.int .i64 0, .int .i64 0, .bool false, .bool false, .bool false, .bool false, .bool false, .int .i64 0, .int .i64 0]) (show w.heap.size + 1 + 1 + 1 + 1 ≠ w.heap.size + 1 + 1 + 1 by omega))
      have X4b := Lib.hid (X4a.out.row (cs' := #[.int .i64 0, .int .i64 0, .bool false, .bool false, .bool false, .bool false, .bool false, .int .i64 0, .int .i64 0]) (show bX ≠ w.heap.size + 1 + 1 + 1 by omega))
      have Y4b := Lib.hid (Y4a.out.row (cs' := #[.int .i64 0, .int .i64 0, .bool false, .bool false, .bool false, .bool false, .bool false, .int .i64 0, .int .i64 0]) (show bX + 1 ≠ w.heap.size + 1 + 1 + 1 by omega))
      have O4b := Lib.hid (O4a.out.row (cs := #[.int .i64 0, .int .i64 0, .bool false, .bool false, .bool false, .bool false, .bool false, .int .i64 0, .int .i64 0]) (show w.heap.size + 1 + 1 + 1 < _ by omega))
      have B4b := Lib.hid (Below.rowB (g := w.heap.size + 1 + 1 + 1) B4a.out (cs := #[.int .i64 0, .int .i64 0, .bool false, .bool false, .bool false, .bool false, .bool false, .int .i64 0, .int .i64 0]) (by omega))
      clear M4a U4a T4a H4a F4a X4a Y4a O4a B4a
      obtain ⟨V4b, hV⟩ : ∃ V4b, V4b = V4a.setRow (w.heap.size + 1 + 1 + 1) #[.int .i64 0, .int .i64 0, .bool false, .bool false, .bool false, .bool false, .bool false, .int .i64 0, .int .i64 0] := ⟨_, rfl⟩
      rw [← hV] at M4b U4b T4b H4b F4b X4b Y4b B4b O4b hS ⊢
      clear hV
      refine wpAnyH_ready (rs := [4]) (by kernel_rfl) (by simp) ?_
      refine AllReadyH.cons (o := ⟨none, _, _, _, _, _⟩) rfl (fun K hK => ?_) AllReadyH.nil
      refine step_storeB rfl 38 _ _ rfl _ _ z5 38 rfl rfl (by kernel_rfl) rfl (by simp [Value.oneCell']) F4b.out ?_
      refine hK.out _ _ ?_ (fun hS' => ?_)
      · exact ⟨hS.1.row (by omega), hS.2.row (by omega)⟩
      clear hK K hS
      have hS := hS'
      clear hS'
      try simp only [Act.put]
      have M4c := Lib.hid (M4b.out.row (cs' := #[.int .i64 gk, .int .i64 gs, .int .i64 gl, .bool gw, .int .i64 gp]) (show w.heap.size ≠ w.heap.size + 1 + 1 + 1 + 1 by omega))
      have U4c := Lib.hid (U4b.out.row (cs' := #[.int .i64 gk, .int .i64 gs, .int .i64 gl, .bool gw, .int .i64 gp]) (show w.heap.size + 1 ≠ w.heap.size + 1 + 1 + 1 + 1 by omega))
      have T4c := Lib.hid (T4b.out.row (cs' := #[.int .i64 gk, .int .i64 gs, .int .i64 gl, .bool gw, .int .i64 gp]) (show w.heap.size + 1 + 1 ≠ w.heap.size + 1 + 1 + 1 + 1 by omega))
      have H4c := Lib.hid (H4b.out.row (cs' := #[.int .i64 gk, .int .i64 gs, .int .i64 gl, .bool gw, .int .i64 gp]) (show w.heap.size + 1 + 1 + 1 ≠ w.heap.size + 1 + 1 + 1 + 1 by omega))
      have F4c := Lib.hid (F4b.out.put (cs' := #[.int .i64 gk, .int .i64 gs, .int .i64 gl, .bool gw, .int .i64 gp]))
      have X4c := Lib.hid (X4b.out.row (cs' := #[.int .i64 gk, .int .i64 gs, .int .i64 gl, .bool gw, .int .i64 gp]) (show bX ≠ w.heap.size + 1 + 1 + 1 + 1 by omega))
      have Y4c := Lib.hid (Y4b.out.row (cs' := #[.int .i64 gk, .int .i64 gs, .int .i64 gl, .bool gw, .int .i64 gp]) (show bX + 1 ≠ w.heap.size + 1 + 1 + 1 + 1 by omega))
      have O4c := Lib.hid (O4b.out.row (cs := #[.int .i64 gk, .int .i64 gs, .int .i64 gl, .bool gw, .int .i64 gp]) (show w.heap.size + 1 + 1 + 1 + 1 < _ by omega))
      have B4c := Lib.hid (Below.rowB (g := w.heap.size + 1 + 1 + 1 + 1) B4b.out (cs := #[.int .i64 gk, .int .i64 gs, .int .i64 gl, .bool gw, .int .i64 gp]) (by omega))
      clear M4b U4b T4b H4b F4b X4b Y4b O4b B4b
      obtain ⟨V4c, hV⟩ : ∃ V4c, V4c = V4b.setRow (w.heap.size + 1 + 1 + 1 + 1) #[.int .i64 gk, .int .i64 gs, .int .i64 gl, .bool gw, .int .i64 gp] := ⟨_, rfl⟩
      rw [← hV] at M4c U4c T4c H4c F4c X4c Y4c B4c O4c hS ⊢
      clear hV
      refine tkR 5 12 rfl hS (fun w' hSw => by obtain ⟨hS0, hS1⟩ := hSw; have c0_0 := hS0.get 0 (.int .i64 0) rfl; have c0_1 := hS0.get 1 (.int .i64 0) rfl; have c0_2 := hS0.get 2 (.bool false) rfl; have c0_3 := hS0.get 3 (.bool false) rfl; have c0_4 := hS0.get 4 (.bool false) rfl; have c0_5 := hS0.get 5 (.bool false) rfl; have c0_6 := hS0.get 6 (.bool false) rfl; have c0_7 := hS0.get 7 (.int .i64 0) rfl; have c0_8 := hS0.get 8 (.int .i64 0) rfl; have c1_0 := hS1.get 0 (.int .i64 gk) rfl; have c1_1 := hS1.get 1 (.int .i64 gs) rfl; have c1_2 := hS1.get 2 (.int .i64 gl) rfl; have c1_3 := hS1.get 3 (.bool gw) rfl; have c1_4 := hS1.get 4 (.int .i64 gp) rfl; clear hS0 hS1; go_simp; try with_reducible rfl) ?_
      simp only [pA, pB, pC]
      refine wpAnyH_done (by kernel_rfl) ?_ _
      try simp only [Act.put, List.setIfInBounds_toArray, List.set_cons_zero, List.set_cons_succ]
      clear hS
      have Hc0 := H4c.out.get 0 (.int .i64 0) rfl
      have Hc1 := H4c.out.get 1 (.int .i64 0) rfl
      have Hc2 := H4c.out.get 2 (.bool false) rfl
      have Hc3 := H4c.out.get 3 (.bool false) rfl
      have Hc4 := H4c.out.get 4 (.bool false) rfl
      have Hc5 := H4c.out.get 5 (.bool false) rfl
      have Hc6 := H4c.out.get 6 (.bool false) rfl
      have Hc7 := H4c.out.get 7 (.int .i64 0) rfl
      have Hc8 := H4c.out.get 8 (.int .i64 0) rfl
      have Fc0 := F4c.out.get 0 (.int .i64 gk) rfl
      have Fc1 := F4c.out.get 1 (.int .i64 gs) rfl
      have Fc2 := F4c.out.get 2 (.int .i64 gl) rfl
      have Fc3 := F4c.out.get 3 (.bool gw) rfl
      have Fc4 := F4c.out.get 4 (.int .i64 gp) rfl
      go_wp2
      refine bodyPost_ret (v := .tuple #[.agg #[.int .i64 0, .int .i64 0, .bool false, .bool false, .bool false, .bool false, .bool false, .int .i64 0, .int .i64 0], .agg #[.int .i64 gk, .int .i64 gs, .int .i64 gl, .bool gw, .int .i64 gp], .slice f' R.length c']) (by simp [results, Tryz.results19, go_sem, Hc0, Hc1, Hc2, Hc3, Hc4, Hc5, Hc6, Hc7, Hc8, Fc0, Fc1, Fc2, Fc3, Fc4]) rfl ?_
      exact WalkEnd.mk' (hh := hit0) (ff := ⟨gk, gs, gl, gw, gp⟩) (R := R) HQ.out.symm rfl rfl O4c.out (show w.heap.size ≤ w.heap.size + 5 by omega) B4c.out
  · rw [if_neg (by decide)] at hq0
    obtain ⟨l0, l1, l2⟩ := okM_true hM
    obtain ⟨Mf, hMf⟩ : ∃ Mf : Int → Int → Hit × Flt × List Int, Mf = fun m a => midD l X on2 tf m a := ⟨_, rfl⟩
    obtain ⟨Tf, hTf⟩ : ∃ Tf : Int → Int → Dsc, Tf = fun lv f => tblD X 1 lv f pg := ⟨_, rfl⟩
    have HQ := Lib.hid (show transS Mf Tf pg acc (4 - (0 : Int)).toNat 0 of1 [] = q0 from by rw [hq0, hMf, hTf]; rfl)
    have HMI2 := Lib.hid (show ∀ mid a W, 0 ≤ mid → mid ≤ 4095 → WordsAt W f l X → Calls Tryz.prog 12 #[.agg #[.slice f l c], .agg #[.bool on2, .int .i64 tf, .int .i64 tg], .int .i64 mid, .int .i64 a] W (WalkEnd W (Mf mid a)) from by rw [hMf]; exact fun mid a W m0 m1 hW => HMI.out mid a W m0 m1 hW)
    have HMC2 := Lib.hid (show ∀ mid a, 0 ≤ mid → (Mf mid a).2.2.length ≤ 4 ∧ (∀ x ∈ (Mf mid a).2.2, 0 ≤ x ∧ x < (l : Int) / 8) ∧ (((Mf mid a).2.1 = flt0 ∧ 0 ≤ (Mf mid a).1.f ∧ (Mf mid a).1.f < (l : Int) / 8) ∨ ((Mf mid a).2.1.k ≠ 0 ∧ (Mf mid a).1 = hit0)) from by rw [hMf]; exact fun mid a m0 => HMC.out mid a m0)
    have HTB := Lib.hid (show ∀ lv fr W, 0 ≤ lv → lv ≤ 3 → 0 ≤ fr → fr < (l : Int) / 8 → WordsAt W f l X → Calls Tryz.prog 36 #[.agg #[.slice f l c], .int .i64 1, .int .i64 lv, .int .i64 fr, .int .i64 pg] W (fun e w' => e = .returned (dscV (Tf lv fr)) ∧ Below W.heap.size W w') from by rw [hTf]; exact fun lv fr W h0 h1 f0 f1 hW => tblR_any f l c X 1 lv fr pg W hW (by omega) (placeB_iff.2 ⟨Or.inl rfl, h0, h1⟩) p0 p1 f0 (by omega))
    have HTK := Lib.hid (show ∀ lv f, (Tf lv f).k = 0 ∨ ((Tf lv f).k = 1 ∧ lv ≠ 3) ∨ (Tf lv f).k = 2 from by rw [hTf]; exact fun lv f => tbl_kind X 1 lv f pg)
    have HTF := Lib.hid (show ∀ lv f, 0 ≤ (Tf lv f).f ∧ (Tf lv f).f ≤ 4095 from by rw [hTf]; exact fun lv f => tbl_frame X 1 lv f pg)
    have HTA := Lib.hid (show ∀ lv f, (Tf lv f).k = 2 → (Tf lv f).f + pg % cov lv ≤ 4095 from by rw [hTf]; exact fun lv f h => tbl_in X 1 lv f pg h)
    have hN8 : (l : Int) / 8 ≤ 64 := by omega
    clear hMf hTf hq0 HMI HMC hX hM l0 l1 l2
    have M0 := Lib.hid (((((BoxAt.new w #[.slice f l c] 24).alloc (.cells #[.bool true, .int .i64 of1, .int .i64 og1] 29)).alloc (.cells #[.bool on2, .int .i64 tf, .int .i64 tg] 29)).alloc (.cells z9 36)).alloc (.cells z5 38))
    have U0 := Lib.hid ((((BoxAt.newAt (w.alloc (.cells #[.slice f l c] 24)) #[.bool true, .int .i64 of1, .int .i64 og1] 29 (w.heap.size + 1) (by simp)).alloc (.cells #[.bool on2, .int .i64 tf, .int .i64 tg] 29)).alloc (.cells z9 36)).alloc (.cells z5 38))
    have T0 := Lib.hid (((BoxAt.newAt ((w.alloc (.cells #[.slice f l c] 24)).alloc (.cells #[.bool true, .int .i64 of1, .int .i64 og1] 29)) #[.bool on2, .int .i64 tf, .int .i64 tg] 29 (w.heap.size + 1 + 1) (by simp)).alloc (.cells z9 36)).alloc (.cells z5 38))
    have H0 := Lib.hid ((BoxAt.newAt (((w.alloc (.cells #[.slice f l c] 24)).alloc (.cells #[.bool true, .int .i64 of1, .int .i64 og1] 29)).alloc (.cells #[.bool on2, .int .i64 tf, .int .i64 tg] 29)) z9 36 (w.heap.size + 1 + 1 + 1) (by simp)).alloc (.cells z5 38))
    have F0 := Lib.hid (BoxAt.newAt ((((w.alloc (.cells #[.slice f l c] 24)).alloc (.cells #[.bool true, .int .i64 of1, .int .i64 og1] 29)).alloc (.cells #[.bool on2, .int .i64 tf, .int .i64 tg] 29)).alloc (.cells z9 36)) z5 38 (w.heap.size + 1 + 1 + 1 + 1) (by simp))
    have B0 := Lib.hid (bel_alloc (bel_alloc (bel_alloc (bel_alloc (bel_alloc (Below.refl w.heap.size w) (.cells #[.slice f l c] 24)) (.cells #[.bool true, .int .i64 of1, .int .i64 og1] 29)) (.cells #[.bool on2, .int .i64 tf, .int .i64 tg] 29)) (.cells z9 36)) (.cells z5 38))
    go_enter Tryz.func19, Tryz.ntmps19
    go_upto_region 1 with fail
    obtain ⟨W0, hW0⟩ : ∃ W0, W0 = ((((w.alloc (.cells #[.slice f l c] 24)).alloc (.cells #[.bool true, .int .i64 of1, .int .i64 og1] 29)).alloc (.cells #[.bool on2, .int .i64 tf, .int .i64 tg] 29)).alloc (.cells z9 36)).alloc (.cells z5 38) := ⟨_, rfl⟩
    rw [← hW0] at M0 U0 T0 H0 F0 B0 ⊢
    clear hW0
    have hlF0 := F0.out.lt
    have Uc0 := U0.out.get 0 (.bool true) rfl
    have Uc1 := U0.out.get 1 (.int .i64 of1) rfl
    go_wp2_with fail
    clear Uc0 Uc1
    go_loopw [16, 17, 18] (fun s16 s17 s18 wr => ∃ (lv mid : Int) (R : List Int) (f' : Option Addr) (p c' : Nat), 0 ≤ lv ∧ lv ≤ 3 ∧ 0 ≤ mid ∧ mid ≤ 4095 ∧ s16 = .slice f' p c' ∧ s17 = .int .i64 mid ∧ s18 = .int .i64 lv ∧ p ≤ 100 * lv.toNat ∧ Hid (p = R.length) ∧ Hid (BoxAt wr (w.heap.size) #[.slice f l c] 24) ∧ Hid (BoxAt wr (w.heap.size + 1) #[.bool true, .int .i64 of1, .int .i64 og1] 29) ∧ Hid (BoxAt wr (w.heap.size + 1 + 1) #[.bool on2, .int .i64 tf, .int .i64 tg] 29) ∧ Hid (BoxAt wr (w.heap.size + 1 + 1 + 1) z9 36) ∧ Hid (BoxAt wr (w.heap.size + 1 + 1 + 1 + 1) z5 38) ∧ Hid (OwnI wr (w.heap.size + 5) (.slice f' p c') R) ∧ Hid (Below w.heap.size w wr) ∧ Hid (transS Mf Tf pg acc (4 - lv).toNat lv mid R = q0)) (fun _ _ s18 _ => (4 - intOf s18).toNat)
    case atStart => exact ⟨0, of1, [], none, 0, 0, by decide, by decide, o0, o1, rfl, rfl, rfl, by decide, rfl, M0.out, U0.out, T0.out, H0.out, F0.out, OwnI.nil _ _, B0.out, HQ.out⟩
    case round =>
    clear HQ M0 U0 T0 H0 F0 B0 o0 o1
    obtain ⟨lv, mid, R, f', p, c', v0, v1, m0, m1, rfl, rfl, rfl, hpl, HP, M1, U1, T1, H1, F1, O1, B1, HQ⟩ := hrel
    have d4 : decide (lv < 4) = true := decide_eq_true (by omega)
    have hn : (4 - lv).toNat = (4 - (lv + 1)).toNat + 1 := by omega
    rw [hn] at HQ
    clear hn
    have hp300 : p ≤ 300 := by omega
    have hlF := F1.out.lt
    have Mc0 := M1.out.get 0 (.slice f l c) rfl
    have Tc0 := T1.out.get 0 (.bool on2) rfl
    have Tc1 := T1.out.get 1 (.int .i64 tf) rfl
    have Tc2 := T1.out.get 2 (.int .i64 tg) rfl
    have HW := HX.out.below B1.out
    have hmi := HMI2.out mid 0 wr m0 m1 HW
    have hmc := HMC2.out mid 0 m0
    obtain ⟨qa, hqa⟩ : ∃ qa, Mf mid 0 = qa := ⟨_, rfl⟩
    rw [hqa] at hmi hmc
    have HQA := Lib.hid hqa
    clear hqa HW
    have HMA := Lib.hid hmi
    clear hmi
    obtain ⟨⟨hf, hm, ⟨hr, hw, hx, ha, hn, hs⟩, hl⟩, ⟨gk, gs, gl, gw, gp⟩, R1⟩ := qa
    go_wp2_with fail
    refine HMA.out.mono ?_
    rintro e w2 ⟨f1, c1, rfl, hO2, hb2⟩
    clear HMA
    unfold hitV fltV
    simp only at hO2 hmc ⊢
    have OA2 := Lib.hid hO2
    have hR1 : R1.length ≤ 4 := hmc.1
    obtain ⟨n1, hn1⟩ : ∃ n1, n1 = R1.length := ⟨_, rfl⟩
    have HN1 := Lib.hid hn1
    have hn14 : n1 ≤ 4 := by omega
    rw [← hn1] at OA2 ⊢
    have hs2 := hb2.size
    have hmc2 := hmc.2.2
    clear hmc hn1 hR1 hO2
    have M3 := Lib.hid (M1.out.below hb2)
    have U3 := Lib.hid (U1.out.below hb2)
    have T3 := Lib.hid (T1.out.below hb2)
    have H3 := Lib.hid (H1.out.below hb2)
    have F3 := Lib.hid (F1.out.below hb2)
    have O3 := Lib.hid (O1.out.below hb2)
    have B3 := Lib.hid (bel_trans B1.out hb2)
    clear Mc0 Tc0 Tc1 Tc2
    clear M1 U1 T1 H1 F1 O1 B1 hb2
    have hlF2 := F3.out.lt
    rcases hmc2 with hq | hq
    · obtain ⟨hq1, hf0, hf1⟩ := hq
      simp only [flt0, Flt.mk.injEq] at hq1
      obtain ⟨rfl, rfl, rfl, rfl, rfl⟩ := hq1
      have HKA := Lib.hid (show (⟨0, 0, 0, false, 0⟩ : Flt).k = 0 from rfl)
      go_upto_region 12 with fail
      have M4 := Lib.hid (((M3.out.alloc (.cells #[.int .i64 hf, .int .i64 hm, .bool hr, .bool hw, .bool hx, .bool ha, .bool hn, .int .i64 hs, .int .i64 hl] 36)).alloc (.cells z5 38)))
      have U4 := Lib.hid (((U3.out.alloc (.cells #[.int .i64 hf, .int .i64 hm, .bool hr, .bool hw, .bool hx, .bool ha, .bool hn, .int .i64 hs, .int .i64 hl] 36)).alloc (.cells z5 38)))
      have T4 := Lib.hid (((T3.out.alloc (.cells #[.int .i64 hf, .int .i64 hm, .bool hr, .bool hw, .bool hx, .bool ha, .bool hn, .int .i64 hs, .int .i64 hl] 36)).alloc (.cells z5 38)))
      have H4 := Lib.hid (((H3.out.alloc (.cells #[.int .i64 hf, .int .i64 hm, .bool hr, .bool hw, .bool hx, .bool ha, .bool hn, .int .i64 hs, .int .i64 hl] 36)).alloc (.cells z5 38)))
      have F4 := Lib.hid (((F3.out.alloc (.cells #[.int .i64 hf, .int .i64 hm, .bool hr, .bool hw, .bool hx, .bool ha, .bool hn, .int .i64 hs, .int .i64 hl] 36)).alloc (.cells z5 38)))
      have X4 := Lib.hid (((BoxAt.newAt (w2) #[.int .i64 hf, .int .i64 hm, .bool hr, .bool hw, .bool hx, .bool ha, .bool hn, .int .i64 hs, .int .i64 hl] 36 (w2.heap.size) (by first | rfl | (simp; done) | (simp; omega))).alloc (.cells z5 38)))
      have Y4 := Lib.hid ((BoxAt.newAt ((w2).alloc (.cells #[.int .i64 hf, .int .i64 hm, .bool hr, .bool hw, .bool hx, .bool ha, .bool hn, .int .i64 hs, .int .i64 hl] 36)) z5 38 (w2.heap.size + 1) (by first | rfl | (simp; done) | (simp; omega))))
      have O4 := Lib.hid (((O3.out.alloc (.cells #[.int .i64 hf, .int .i64 hm, .bool hr, .bool hw, .bool hx, .bool ha, .bool hn, .int .i64 hs, .int .i64 hl] 36)).alloc (.cells z5 38)))
      have OA4 := Lib.hid (((OA2.out.alloc (.cells #[.int .i64 hf, .int .i64 hm, .bool hr, .bool hw, .bool hx, .bool ha, .bool hn, .int .i64 hs, .int .i64 hl] 36)).alloc (.cells z5 38)))
      have B4 := Lib.hid ((bel_alloc (bel_alloc B3.out (.cells #[.int .i64 hf, .int .i64 hm, .bool hr, .bool hw, .bool hx, .bool ha, .bool hn, .int .i64 hs, .int .i64 hl] 36)) (.cells z5 38)))
      clear M3 U3 T3 H3 F3 O3 OA2 B3
      obtain ⟨bX, hbX⟩ : ∃ bX, bX = w2.heap.size := ⟨_, rfl⟩
      have hgX : w.heap.size + 1 + 1 + 1 + 1 < bX := by rw [hbX]; exact hlF2
      obtain ⟨W8, hWW⟩ : ∃ W8, W8 = (w2.alloc (.cells #[.int .i64 hf, .int .i64 hm, .bool hr, .bool hw, .bool hx, .bool ha, .bool hn, .int .i64 hs, .int .i64 hl] 36)).alloc (.cells z5 38) := ⟨_, rfl⟩
      rw [← hWW] at M4 U4 T4 H4 F4 X4 Y4 B4 O4 OA4 ⊢
      clear hWW
      rw [← hbX] at X4 Y4 ⊢
      clear hbX
      have HNX5 := Lib.hid (O4.out.ne_box X4.out (by decide))
      have HNY5 := Lib.hid (O4.out.ne_box Y4.out (by decide))
      have hs5 : w.heap.size + 5 ≤ W8.heap.size := by have := F4.out.lt; omega
      go_upto_region 13 with (at_builtin; refine wpList_rowI rfl _ _ rfl (w.heap.size + 5) _ (p) (n1) _ _ (R) R1 rfl O4.out HP.out rfl OA4.out HN1.out (by omega) hs5 ?_; intro f5 c5 W3 hO5 hg5; have hb5 := (Below.refl (w.heap.size + 5) W8).grown hg5 hs5 O4.out.blk; have O5 := Lib.hid hO5; have M5 := Lib.hid (M4.out.under hb5 (by omega)); have U5 := Lib.hid (U4.out.under hb5 (by omega)); have T5 := Lib.hid (T4.out.under hb5 (by omega)); have H5 := Lib.hid (H4.out.under hb5 (by omega)); have F5 := Lib.hid (F4.out.under hb5 (by omega)); have X5 := Lib.hid (X4.out.grown hg5 HNX5.out); have Y5 := Lib.hid (Y4.out.grown hg5 HNY5.out); have B5 := Lib.hid (B4.out.trans (hb5.mono (by omega))); clear M4 U4 T4 H4 F4 X4 Y4 B4 O4 OA4 hO5 hg5 hb5 hs5 HNX5 HNY5)
      have Yc0 := Y5.out.get 0 (.int .i64 0) rfl
      have Xc0 := X5.out.get 0 (.int .i64 hf) rfl
      have HZ6 := Lib.hid (cell_new W3 #[.int .i64 hf] 3 0)
      have M6z := Lib.hid (M5.out.alloc (.cells #[.int .i64 hf] 3))
      have U6z := Lib.hid (U5.out.alloc (.cells #[.int .i64 hf] 3))
      have T6z := Lib.hid (T5.out.alloc (.cells #[.int .i64 hf] 3))
      have H6z := Lib.hid (H5.out.alloc (.cells #[.int .i64 hf] 3))
      have F6z := Lib.hid (F5.out.alloc (.cells #[.int .i64 hf] 3))
      have X6z := Lib.hid (X5.out.alloc (.cells #[.int .i64 hf] 3))
      have Y6z := Lib.hid (Y5.out.alloc (.cells #[.int .i64 hf] 3))
      have O6z := Lib.hid (O5.out.alloc (.cells #[.int .i64 hf] 3))
      have B6z := Lib.hid (bel_alloc B5.out (.cells #[.int .i64 hf] 3))
      have HNX6 := Lib.hid (O6z.out.ne_box X6z.out (by decide))
      have HNY6 := Lib.hid (O6z.out.ne_box Y6z.out (by decide))
      have hs6 : w.heap.size + 5 ≤ (W3.alloc (.cells #[.int .i64 hf] 3)).heap.size := by have := F6z.out.lt; omega
      go_upto_region 17 with (at_builtin; refine wpList_pushIn rfl _ _ rfl (w.heap.size + 5) (p + n1) _ (R ++ R1) rfl O6z.out (by have h1 := HP.out; have h2 := HN1.out; simp; omega) W3.heap.size 1 hf rfl HZ6.out (by omega) hs6 ?_; intro f6 c6 W4 hO6 hg6; have hb6 := (Below.refl (w.heap.size + 5) (W3.alloc (.cells #[.int .i64 hf] 3))).grown hg6 hs6 O6z.out.blk; have O6 := Lib.hid hO6; have M6 := Lib.hid (M6z.out.under hb6 (by omega)); have U6 := Lib.hid (U6z.out.under hb6 (by omega)); have T6 := Lib.hid (T6z.out.under hb6 (by omega)); have H6 := Lib.hid (H6z.out.under hb6 (by omega)); have F6 := Lib.hid (F6z.out.under hb6 (by omega)); have X6 := Lib.hid (X6z.out.grown hg6 HNX6.out); have Y6 := Lib.hid (Y6z.out.grown hg6 HNY6.out); have B6 := Lib.hid (B6z.out.trans (hb6.mono (by omega))); clear M5 U5 T5 H5 F5 X5 Y5 O5 B5 M6z U6z T6z H6z F6z X6z Y6z B6z O6z Yc0 Xc0 hO6 hg6 hb6 hs6 HNX6 HNY6 HZ6)
      have Mc0 := M6.out.get 0 (.slice f l c) rfl
      have Xc0 := X6.out.get 0 (.int .i64 hf) rfl
      go_wp2_with fail
      have HW := HX.out.below B6.out
      refine (HTB.out lv hf _ v0 v1 hf0 hf1 HW).mono ?_
      rintro e w5 ⟨rfl, hb5⟩
      clear HW
      have M7 := Lib.hid (M6.out.below hb5)
      have U7 := Lib.hid (U6.out.below hb5)
      have T7 := Lib.hid (T6.out.below hb5)
      have H7 := Lib.hid (H6.out.below hb5)
      have F7 := Lib.hid (F6.out.below hb5)
      have X7 := Lib.hid (X6.out.below hb5)
      have Y7 := Lib.hid (Y6.out.below hb5)
      have O7 := Lib.hid (O6.out.below hb5)
      have B7 := Lib.hid (bel_trans B6.out hb5)
      clear Mc0 Xc0
      clear M6 U6 T6 H6 F6 X6 Y6 O6 B6 hb5
      obtain ⟨d, hd⟩ : ∃ d, Tf lv hf = d := ⟨_, rfl⟩
      have hkd := HTK.out lv hf
      have hfd := HTF.out lv hf
      have had := HTA.out lv hf
      rw [hd] at hkd hfd had
      rw [hd]
      have HD := Lib.hid hd
      clear hd
      have hlX5 := Y7.out.lt
      rcases hkd with hkd | ⟨hkd, h3⟩ | hkd
      · have HE := Lib.hid ((transS_none HQA.out rfl HD.out hkd).symm.trans HQ.out)
        obtain ⟨dk, df, dr, dw, dx, da, dn, ds, d0⟩ := d
        have hkk : dk = 0 := hkd
        clear hkd
        subst hkk
        unfold dscV
        simp only at hfd had HE ⊢
        go_upto_region 18 with fail
        have M8 := Lib.hid ((M7.out.alloc (.cells #[.int .i64 0, .int .i64 df, .bool dr, .bool dw, .bool dx, .bool da, .bool dn, .int .i64 ds, .int .i64 d0] 73)))
        have U8 := Lib.hid ((U7.out.alloc (.cells #[.int .i64 0, .int .i64 df, .bool dr, .bool dw, .bool dx, .bool da, .bool dn, .int .i64 ds, .int .i64 d0] 73)))
        have T8 := Lib.hid ((T7.out.alloc (.cells #[.int .i64 0, .int .i64 df, .bool dr, .bool dw, .bool dx, .bool da, .bool dn, .int .i64 ds, .int .i64 d0] 73)))
        have H8 := Lib.hid ((H7.out.alloc (.cells #[.int .i64 0, .int .i64 df, .bool dr, .bool dw, .bool dx, .bool da, .bool dn, .int .i64 ds, .int .i64 d0] 73)))
        have F8 := Lib.hid ((F7.out.alloc (.cells #[.int .i64 0, .int .i64 df, .bool dr, .bool dw, .bool dx, .bool da, .bool dn, .int .i64 ds, .int .i64 d0] 73)))
        have X8 := Lib.hid ((X7.out.alloc (.cells #[.int .i64 0, .int .i64 df, .bool dr, .bool dw, .bool dx, .bool da, .bool dn, .int .i64 ds, .int .i64 d0] 73)))
        have Y8 := Lib.hid ((Y7.out.alloc (.cells #[.int .i64 0, .int .i64 df, .bool dr, .bool dw, .bool dx, .bool da, .bool dn, .int .i64 ds, .int .i64 d0] 73)))
        have D8 := Lib.hid ((BoxAt.newAt (w5) #[.int .i64 0, .int .i64 df, .bool dr, .bool dw, .bool dx, .bool da, .bool dn, .int .i64 ds, .int .i64 d0] 73 (w5.heap.size) (by first | rfl | (simp; done) | (simp; omega))))
        have O8 := Lib.hid ((O7.out.alloc (.cells #[.int .i64 0, .int .i64 df, .bool dr, .bool dw, .bool dx, .bool da, .bool dn, .int .i64 ds, .int .i64 d0] 73)))
        have B8 := Lib.hid ((bel_alloc B7.out (.cells #[.int .i64 0, .int .i64 df, .bool dr, .bool dw, .bool dx, .bool da, .bool dn, .int .i64 ds, .int .i64 d0] 73)))
        clear M7 U7 T7 H7 F7 X7 Y7 O7 B7
        obtain ⟨bD, hbD⟩ : ∃ bD, bD = w5.heap.size := ⟨_, rfl⟩
        have hgD : bX + 1 < bD := by rw [hbD]; exact hlX5
        obtain ⟨W6, hWW⟩ : ∃ W6, W6 = w5.alloc (.cells #[.int .i64 0, .int .i64 df, .bool dr, .bool dw, .bool dx, .bool da, .bool dn, .int .i64 ds, .int .i64 d0] 73) := ⟨_, rfl⟩
        rw [← hWW] at M8 U8 T8 H8 F8 X8 Y8 D8 B8 O8 ⊢
        clear hWW
        rw [← hbD] at D8 ⊢
        clear hbD
        have Dc0 := D8.out.get 0 (.int .i64 0) rfl
        have Hc0 := H8.out.get 0 (.int .i64 0) rfl
        have Hc1 := H8.out.get 1 (.int .i64 0) rfl
        have Hc2 := H8.out.get 2 (.bool false) rfl
        have Hc3 := H8.out.get 3 (.bool false) rfl
        have Hc4 := H8.out.get 4 (.bool false) rfl
        have Hc5 := H8.out.get 5 (.bool false) rfl
        have Hc6 := H8.out.get 6 (.bool false) rfl
        have Hc7 := H8.out.get 7 (.int .i64 0) rfl
        have Hc8 := H8.out.get 8 (.int .i64 0) rfl
        have Hz0 := H8.out.free 0
        have Hz1 := H8.out.free 1
        have Hz2 := H8.out.free 2
        have Hz3 := H8.out.free 3
        have Hz4 := H8.out.free 4
        have Hz5 := H8.out.free 5
        have Hz6 := H8.out.free 6
        have Hz7 := H8.out.free 7
        have Hz8 := H8.out.free 8
        have Fc0 := F8.out.get 0 (.int .i64 0) rfl
        have Fc1 := F8.out.get 1 (.int .i64 0) rfl
        have Fc2 := F8.out.get 2 (.int .i64 0) rfl
        have Fc3 := F8.out.get 3 (.bool false) rfl
        have Fc4 := F8.out.get 4 (.int .i64 0) rfl
        have Fz0 := F8.out.free 0
        have Fz1 := F8.out.free 1
        have Fz2 := F8.out.free 2
        have Fz3 := F8.out.free 3
        have Fz4 := F8.out.free 4
        go_wp2
        refine bodyPost_ret (v := .tuple #[.agg #[.int .i64 0, .int .i64 0, .bool false, .bool false, .bool false, .bool false, .bool false, .int .i64 0, .int .i64 0], .agg #[.int .i64 2, .int .i64 1, .int .i64 lv, .bool false, .int .i64 pg], .slice f6 (p + n1 + 1) c6]) (by simp [results, Tryz.results19, go_sem, Hc0, Hc1, Hc2, Hc3, Hc4, Hc5, Hc6, Hc7, Hc8, Fc0, Fc1, Fc2, Fc3, Fc4]) rfl ?_
        refine WalkEnd.mk' (hh := hit0) (ff := ⟨2, 1, lv, false, pg⟩) (R := R ++ R1 ++ [hf]) HE.out rfl (by have h1 := HP.out; have h2 := HN1.out; simp; omega) ?_ (show w.heap.size ≤ w.heap.size + 5 by omega) ?_
        · repeat' (first | with_reducible exact O8.out | with_reducible refine OwnI.other ?_ _ _ (by first | (simp; done) | (simp; omega)))
        · repeat' (first | with_reducible exact B8.out | with_reducible refine Below.setCell ?_ (by first | (simp; done) | (simp; omega)) _)
      · have HE := Lib.hid ((transS_table HQA.out rfl HD.out hkd).symm.trans HQ.out)
        obtain ⟨dk, df, dr, dw, dx, da, dn, ds, d0⟩ := d
        have hkk : dk = 1 := hkd
        clear hkd
        subst hkk
        unfold dscV
        simp only at hfd had HE ⊢
        go_upto_region 18 with fail
        have M8 := Lib.hid ((M7.out.alloc (.cells #[.int .i64 1, .int .i64 df, .bool dr, .bool dw, .bool dx, .bool da, .bool dn, .int .i64 ds, .int .i64 d0] 73)))
        have U8 := Lib.hid ((U7.out.alloc (.cells #[.int .i64 1, .int .i64 df, .bool dr, .bool dw, .bool dx, .bool da, .bool dn, .int .i64 ds, .int .i64 d0] 73)))
        have T8 := Lib.hid ((T7.out.alloc (.cells #[.int .i64 1, .int .i64 df, .bool dr, .bool dw, .bool dx, .bool da, .bool dn, .int .i64 ds, .int .i64 d0] 73)))
        have H8 := Lib.hid ((H7.out.alloc (.cells #[.int .i64 1, .int .i64 df, .bool dr, .bool dw, .bool dx, .bool da, .bool dn, .int .i64 ds, .int .i64 d0] 73)))
        have F8 := Lib.hid ((F7.out.alloc (.cells #[.int .i64 1, .int .i64 df, .bool dr, .bool dw, .bool dx, .bool da, .bool dn, .int .i64 ds, .int .i64 d0] 73)))
        have X8 := Lib.hid ((X7.out.alloc (.cells #[.int .i64 1, .int .i64 df, .bool dr, .bool dw, .bool dx, .bool da, .bool dn, .int .i64 ds, .int .i64 d0] 73)))
        have Y8 := Lib.hid ((Y7.out.alloc (.cells #[.int .i64 1, .int .i64 df, .bool dr, .bool dw, .bool dx, .bool da, .bool dn, .int .i64 ds, .int .i64 d0] 73)))
        have D8 := Lib.hid ((BoxAt.newAt (w5) #[.int .i64 1, .int .i64 df, .bool dr, .bool dw, .bool dx, .bool da, .bool dn, .int .i64 ds, .int .i64 d0] 73 (w5.heap.size) (by first | rfl | (simp; done) | (simp; omega))))
        have O8 := Lib.hid ((O7.out.alloc (.cells #[.int .i64 1, .int .i64 df, .bool dr, .bool dw, .bool dx, .bool da, .bool dn, .int .i64 ds, .int .i64 d0] 73)))
        have B8 := Lib.hid ((bel_alloc B7.out (.cells #[.int .i64 1, .int .i64 df, .bool dr, .bool dw, .bool dx, .bool da, .bool dn, .int .i64 ds, .int .i64 d0] 73)))
        clear M7 U7 T7 H7 F7 X7 Y7 O7 B7
        obtain ⟨bD, hbD⟩ : ∃ bD, bD = w5.heap.size := ⟨_, rfl⟩
        have hgD : bX + 1 < bD := by rw [hbD]; exact hlX5
        obtain ⟨W6, hWW⟩ : ∃ W6, W6 = w5.alloc (.cells #[.int .i64 1, .int .i64 df, .bool dr, .bool dw, .bool dx, .bool da, .bool dn, .int .i64 ds, .int .i64 d0] 73) := ⟨_, rfl⟩
        rw [← hWW] at M8 U8 T8 H8 F8 X8 Y8 D8 B8 O8 ⊢
        clear hWW
        rw [← hbD] at D8 ⊢
        clear hbD
        have Dc0 := D8.out.get 0 (.int .i64 1) rfl
        have Dc1 := D8.out.get 1 (.int .i64 df) rfl
        go_wp2
        go_roundw
        case rel => exact ⟨lv + 1, df, R ++ R1 ++ [hf], f6, p + n1 + 1, c6, by omega, by omega, hfd.1, hfd.2, rfl, rfl, by go_num, by have := hn14; omega, (by show p + n1 + 1 = _; have h1 := HP.out; have h2 := HN1.out; simp; omega), M8.out, U8.out, T8.out, H8.out, F8.out, O8.out, B8.out, HE.out⟩
        case measure => (simp [intOf] <;> omega)
      · obtain ⟨dk, df, dr, dw, dx, da, dn, ds, d0⟩ := d
        have hkk : dk = 2 := hkd
        clear hkd
        subst hkk
        unfold dscV
        simp only at hfd had ⊢
        go_upto_region 18 with fail
        have M8 := Lib.hid ((M7.out.alloc (.cells #[.int .i64 2, .int .i64 df, .bool dr, .bool dw, .bool dx, .bool da, .bool dn, .int .i64 ds, .int .i64 d0] 73)))
        have U8 := Lib.hid ((U7.out.alloc (.cells #[.int .i64 2, .int .i64 df, .bool dr, .bool dw, .bool dx, .bool da, .bool dn, .int .i64 ds, .int .i64 d0] 73)))
        have T8 := Lib.hid ((T7.out.alloc (.cells #[.int .i64 2, .int .i64 df, .bool dr, .bool dw, .bool dx, .bool da, .bool dn, .int .i64 ds, .int .i64 d0] 73)))
        have H8 := Lib.hid ((H7.out.alloc (.cells #[.int .i64 2, .int .i64 df, .bool dr, .bool dw, .bool dx, .bool da, .bool dn, .int .i64 ds, .int .i64 d0] 73)))
        have F8 := Lib.hid ((F7.out.alloc (.cells #[.int .i64 2, .int .i64 df, .bool dr, .bool dw, .bool dx, .bool da, .bool dn, .int .i64 ds, .int .i64 d0] 73)))
        have X8 := Lib.hid ((X7.out.alloc (.cells #[.int .i64 2, .int .i64 df, .bool dr, .bool dw, .bool dx, .bool da, .bool dn, .int .i64 ds, .int .i64 d0] 73)))
        have Y8 := Lib.hid ((Y7.out.alloc (.cells #[.int .i64 2, .int .i64 df, .bool dr, .bool dw, .bool dx, .bool da, .bool dn, .int .i64 ds, .int .i64 d0] 73)))
        have D8 := Lib.hid ((BoxAt.newAt (w5) #[.int .i64 2, .int .i64 df, .bool dr, .bool dw, .bool dx, .bool da, .bool dn, .int .i64 ds, .int .i64 d0] 73 (w5.heap.size) (by first | rfl | (simp; done) | (simp; omega))))
        have O8 := Lib.hid ((O7.out.alloc (.cells #[.int .i64 2, .int .i64 df, .bool dr, .bool dw, .bool dx, .bool da, .bool dn, .int .i64 ds, .int .i64 d0] 73)))
        have B8 := Lib.hid ((bel_alloc B7.out (.cells #[.int .i64 2, .int .i64 df, .bool dr, .bool dw, .bool dx, .bool da, .bool dn, .int .i64 ds, .int .i64 d0] 73)))
        clear M7 U7 T7 H7 F7 X7 Y7 O7 B7
        obtain ⟨bD, hbD⟩ : ∃ bD, bD = w5.heap.size := ⟨_, rfl⟩
        have hgD : bX + 1 < bD := by rw [hbD]; exact hlX5
        obtain ⟨W6, hWW⟩ : ∃ W6, W6 = w5.alloc (.cells #[.int .i64 2, .int .i64 df, .bool dr, .bool dw, .bool dx, .bool da, .bool dn, .int .i64 ds, .int .i64 d0] 73) := ⟨_, rfl⟩
        rw [← hWW] at M8 U8 T8 H8 F8 X8 Y8 D8 B8 O8 ⊢
        clear hWW
        rw [← hbD] at D8 ⊢
        clear hbD
        have Dc0 := D8.out.get 0 (.int .i64 2) rfl
        have Dc2 := D8.out.get 2 (.bool dr) rfl
        have Dc3 := D8.out.get 3 (.bool dw) rfl
        have Dc4 := D8.out.get 4 (.bool dx) rfl
        have Dc5 := D8.out.get 5 (.bool da) rfl
        have Dc6 := D8.out.get 6 (.bool dn) rfl
        have Dc7 := D8.out.get 7 (.int .i64 ds) rfl
        have HG := Lib.hid (fun W => flagA_any ⟨dr, dw, dx, da, dn, ds⟩ acc 1 lv pg W)
        unfold atrV atrC at HG
        simp only at HG
        have hfc := flag_cases ⟨dr, dw, dx, da, dn, ds⟩ acc 1 lv pg
        obtain ⟨g, hg0⟩ : ∃ g, flagA ⟨dr, dw, dx, da, dn, ds⟩ acc 1 lv pg = g := ⟨_, rfl⟩
        rw [hg0] at HG hfc
        have HG0 := Lib.hid hg0
        clear hg0
        go_wp2_with fail
        refine (HG.out _).mono ?_
        rintro e w9 ⟨rfl, hb9⟩
        clear HG
        have M10 := Lib.hid (M8.out.below hb9)
        have U10 := Lib.hid (U8.out.below hb9)
        have T10 := Lib.hid (T8.out.below hb9)
        have H10 := Lib.hid (H8.out.below hb9)
        have F10 := Lib.hid (F8.out.below hb9)
        have X10 := Lib.hid (X8.out.below hb9)
        have Y10 := Lib.hid (Y8.out.below hb9)
        have D10 := Lib.hid (D8.out.below hb9)
        have O10 := Lib.hid (O8.out.below hb9)
        have B10 := Lib.hid (bel_trans B8.out hb9)
        clear Dc0 Dc2 Dc3 Dc4 Dc5 Dc6 Dc7
        clear M8 U8 T8 H8 F8 X8 Y8 D8 O8 B8 hb9
        rcases hfc with hg | hg
        · have HGK := Lib.hid (show (flagA ⟨dr, dw, dx, da, dn, ds⟩ acc 1 lv pg).k = 0 by rw [HG0.out, hg]; rfl)
          subst hg
          unfold fltV flt0
          simp only
          have HNY := Lib.hid (O10.out.ne_box Y10.out (by decide))
          have Yc0 := Y10.out.get 0 (.int .i64 0) rfl
          have Yc1 := Y10.out.get 1 (.int .i64 0) rfl
          have Yc2 := Y10.out.get 2 (.int .i64 0) rfl
          have Yc3 := Y10.out.get 3 (.bool false) rfl
          have Yc4 := Y10.out.get 4 (.int .i64 0) rfl
          have Yz0 := Y10.out.free 0
          have Yz1 := Y10.out.free 1
          have Yz2 := Y10.out.free 2
          have Yz3 := Y10.out.free 3
          have Yz4 := Y10.out.free 4
          go_upto_region 23 with fail
          have M11 := Lib.hid ((((((M10.out.other ⟨bX + 1, 0, none⟩ (.int .i64 0) (by first | with_reducible assumption | (simp; done) | (simp; omega))).other ⟨bX + 1, 1, none⟩ (.int .i64 0) (by first | with_reducible assumption | (simp; done) | (simp; omega))).other ⟨bX + 1, 2, none⟩ (.int .i64 0) (by first | with_reducible assumption | (simp; done) | (simp; omega))).other ⟨bX + 1, 3, none⟩ (.bool false) (by first | with_reducible assumption | (simp; done) | (simp; omega))).other ⟨bX + 1, 4, none⟩ (.int .i64 0) (by first | with_reducible assumption | (simp; done) | (simp; omega))))
          have U11 := Lib.hid ((((((U10.out.other ⟨bX + 1, 0, none⟩ (.int .i64 0) (by first | with_reducible assumption | (simp; done) | (simp; omega))).other ⟨bX + 1, 1, none⟩ (.int .i64 0) (by first | with_reducible assumption | (simp; done) | (simp; omega))).other ⟨bX + 1, 2, none⟩ (.int .i64 0) (by first | with_reducible assumption | (simp; done) | (simp; omega))).other ⟨bX + 1, 3, none⟩ (.bool false) (by first | with_reducible assumption | (simp; done) | (simp; omega))).other ⟨bX + 1, 4, none⟩ (.int .i64 0) (by first | with_reducible assumption | (simp; done) | (simp; omega))))
          have T11 := Lib.hid ((((((T10.out.other ⟨bX + 1, 0, none⟩ (.int .i64 0) (by first | with_reducible assumption | (simp; done) | (simp; omega))).other ⟨bX + 1, 1, none⟩ (.int .i64 0) (by first | with_reducible assumption | (simp; done) | (simp; omega))).other ⟨bX + 1, 2, none⟩ (.int .i64 0) (by first | with_reducible assumption | (simp; done) | (simp; omega))).other ⟨bX + 1, 3, none⟩ (.bool false) (by first | with_reducible assumption | (simp; done) | (simp; omega))).other ⟨bX + 1, 4, none⟩ (.int .i64 0) (by first | with_reducible assumption | (simp; done) | (simp; omega))))
          have H11 := Lib.hid ((((((H10.out.other ⟨bX + 1, 0, none⟩ (.int .i64 0) (by first | with_reducible assumption | (simp; done) | (simp; omega))).other ⟨bX + 1, 1, none⟩ (.int .i64 0) (by first | with_reducible assumption | (simp; done) | (simp; omega))).other ⟨bX + 1, 2, none⟩ (.int .i64 0) (by first | with_reducible assumption | (simp; done) | (simp; omega))).other ⟨bX + 1, 3, none⟩ (.bool false) (by first | with_reducible assumption | (simp; done) | (simp; omega))).other ⟨bX + 1, 4, none⟩ (.int .i64 0) (by first | with_reducible assumption | (simp; done) | (simp; omega))))
          have F11 := Lib.hid ((((((F10.out.other ⟨bX + 1, 0, none⟩ (.int .i64 0) (by first | with_reducible assumption | (simp; done) | (simp; omega))).other ⟨bX + 1, 1, none⟩ (.int .i64 0) (by first | with_reducible assumption | (simp; done) | (simp; omega))).other ⟨bX + 1, 2, none⟩ (.int .i64 0) (by first | with_reducible assumption | (simp; done) | (simp; omega))).other ⟨bX + 1, 3, none⟩ (.bool false) (by first | with_reducible assumption | (simp; done) | (simp; omega))).other ⟨bX + 1, 4, none⟩ (.int .i64 0) (by first | with_reducible assumption | (simp; done) | (simp; omega))))
          have X11 := Lib.hid ((((((X10.out.other ⟨bX + 1, 0, none⟩ (.int .i64 0) (by first | with_reducible assumption | (simp; done) | (simp; omega))).other ⟨bX + 1, 1, none⟩ (.int .i64 0) (by first | with_reducible assumption | (simp; done) | (simp; omega))).other ⟨bX + 1, 2, none⟩ (.int .i64 0) (by first | with_reducible assumption | (simp; done) | (simp; omega))).other ⟨bX + 1, 3, none⟩ (.bool false) (by first | with_reducible assumption | (simp; done) | (simp; omega))).other ⟨bX + 1, 4, none⟩ (.int .i64 0) (by first | with_reducible assumption | (simp; done) | (simp; omega))))
          have Y11 := Lib.hid ((((((Y10.out.set 0 (.int .i64 0) #[.int .i64 0, .int .i64 0, .int .i64 0, .bool false, .int .i64 0] rfl).set 1 (.int .i64 0) #[.int .i64 0, .int .i64 0, .int .i64 0, .bool false, .int .i64 0] rfl).set 2 (.int .i64 0) #[.int .i64 0, .int .i64 0, .int .i64 0, .bool false, .int .i64 0] rfl).set 3 (.bool false) #[.int .i64 0, .int .i64 0, .int .i64 0, .bool false, .int .i64 0] rfl).set 4 (.int .i64 0) #[.int .i64 0, .int .i64 0, .int .i64 0, .bool false, .int .i64 0] rfl))
          have D11 := Lib.hid ((((((D10.out.other ⟨bX + 1, 0, none⟩ (.int .i64 0) (by first | with_reducible assumption | (simp; done) | (simp; omega))).other ⟨bX + 1, 1, none⟩ (.int .i64 0) (by first | with_reducible assumption | (simp; done) | (simp; omega))).other ⟨bX + 1, 2, none⟩ (.int .i64 0) (by first | with_reducible assumption | (simp; done) | (simp; omega))).other ⟨bX + 1, 3, none⟩ (.bool false) (by first | with_reducible assumption | (simp; done) | (simp; omega))).other ⟨bX + 1, 4, none⟩ (.int .i64 0) (by first | with_reducible assumption | (simp; done) | (simp; omega))))
          have O11 := Lib.hid ((((((O10.out.otherN ⟨bX + 1, 0, none⟩ (.int .i64 0) HNY.out).otherN ⟨bX + 1, 1, none⟩ (.int .i64 0) HNY.out).otherN ⟨bX + 1, 2, none⟩ (.int .i64 0) HNY.out).otherN ⟨bX + 1, 3, none⟩ (.bool false) HNY.out).otherN ⟨bX + 1, 4, none⟩ (.int .i64 0) HNY.out))
          have B11 := Lib.hid ((Below.setCell (Below.setCell (Below.setCell (Below.setCell (Below.setCell B10.out (p := ⟨bX + 1, 0, none⟩) (by first | with_reducible assumption | (simp; done) | (simp; omega)) (.int .i64 0)) (p := ⟨bX + 1, 1, none⟩) (by first | with_reducible assumption | (simp; done) | (simp; omega)) (.int .i64 0)) (p := ⟨bX + 1, 2, none⟩) (by first | with_reducible assumption | (simp; done) | (simp; omega)) (.int .i64 0)) (p := ⟨bX + 1, 3, none⟩) (by first | with_reducible assumption | (simp; done) | (simp; omega)) (.bool false)) (p := ⟨bX + 1, 4, none⟩) (by first | with_reducible assumption | (simp; done) | (simp; omega)) (.int .i64 0)))
          clear Yc0 Yc1 Yc2 Yc3 Yc4 Yz0 Yz1 Yz2 Yz3 Yz4
          clear M10 U10 T10 H10 F10 X10 Y10 D10 O10 B10
          obtain ⟨W7, hWW⟩ : ∃ W7, W7 = (((((w9).setCell ⟨bX + 1, 0, none⟩ (.int .i64 0)).setCell ⟨bX + 1, 1, none⟩ (.int .i64 0)).setCell ⟨bX + 1, 2, none⟩ (.int .i64 0)).setCell ⟨bX + 1, 3, none⟩ (.bool false)).setCell ⟨bX + 1, 4, none⟩ (.int .i64 0) := ⟨_, rfl⟩
          rw [← hWW] at M11 U11 T11 H11 F11 X11 Y11 D11 B11 O11 ⊢
          clear hWW
          have Yc0 := Y11.out.get 0 (.int .i64 0) rfl
          go_upto_region 25 with fail
          clear Yc0
          have HC := Lib.hid (fun W => rcovers_any lv W v0 v1)
          have hcv := cov_pos lv
          have pm0 : 0 ≤ pg % cov lv := Int.emod_nonneg _ (by omega)
          have pm1 : df + pg % cov lv ≤ 4095 := by first | exact had | exact had rfl | exact had trivial
          have tm : pg.tmod (cov lv) = pg % cov lv := Int.tmod_eq_emod_of_nonneg p0
          have c0' : cov lv ≠ 0 := by omega
          have wm : IntKind.i64.wrap (df + pg % cov lv) = df + pg % cov lv := IntWalk.i64_in _ (by have := hfd.1; omega)
          have hmb := HMC2.out (df + pg % cov lv) acc (by have := hfd.1; omega)
          have hme := fun W => HMI2.out (df + pg % cov lv) acc W (by have := hfd.1; omega) pm1
          obtain ⟨qb, hqb⟩ : ∃ qb, Mf (df + pg % cov lv) acc = qb := ⟨_, rfl⟩
          simp only [hqb] at hmb hme
          have HQB := Lib.hid hqb
          clear hqb pm1
          obtain ⟨⟨yf, ym, ⟨yr, yw, yx, ya, yn, ys⟩, yl⟩, ⟨jk, js, jl, jw, jp⟩, R2⟩ := qb
          unfold WalkEnd hitV fltV at hme
          simp only at hmb hme
          have HME := Lib.hid hme
          have hR2 : R2.length ≤ 4 := hmb.1
          have hmb2 := hmb.2.2
          clear hmb hme had
          have HMB2 := Lib.hid hmb2
          clear hmb2
          have HCV := Lib.hid (show pg % cov lv = pg % cov lv from rfl)
          obtain ⟨cv, hcv0⟩ : ∃ cv, cov lv = cv := ⟨_, rfl⟩
          simp only [hcv0] at HC tm c0' wm HME pm0 HQB
          have HC0 := Lib.hid hcv0
          clear hcv0 hcv HCV
          obtain ⟨pm, hpm⟩ : ∃ pm, pg % cv = pm := ⟨_, rfl⟩
          rw [hpm] at tm wm pm0 HQB
          simp only [hpm] at HME
          have HPM := Lib.hid hpm
          clear hpm
          have Mk := M11.out
          have Tk := T11.out
          have Dk := D11.out
          have Xk := X11.out
          have Yk := Y11.out
          have Ok := O11.out
          have HNX7 : (.slice f6 (p + n1 + 1) c6 : Value).ownBlock ≠ some bX := Ok.ne_box Xk (by decide)
          have HNY7 : (.slice f6 (p + n1 + 1) c6 : Value).ownBlock ≠ some (bX + 1) := Ok.ne_box Yk (by decide)
          have hlD := Dk.lt
          have hlM := Mk.lt
          have hlT := Tk.lt
          go_cut [21] (fun s21 wx => ∃ (f9 : Option Addr) (c9 : Nat), s21 = .slice f9 R2.length c9 ∧ Hid (Below (w.heap.size + 5) W7 wx) ∧ Hid (BoxAt wx bX #[.int .i64 yf, .int .i64 ym, .bool yr, .bool yw, .bool yx, .bool ya, .bool yn, .int .i64 ys, .int .i64 yl] 36) ∧ Hid (BoxAt wx (bX + 1) #[.int .i64 jk, .int .i64 js, .int .i64 jl, .bool jw, .int .i64 jp] 38) ∧ Hid (BoxAt wx bD #[.int .i64 2, .int .i64 df, .bool dr, .bool dw, .bool dx, .bool da, .bool dn, .int .i64 ds, .int .i64 d0] 73) ∧ Hid (OwnI wx (w.heap.size + 5) (.slice f6 (p + n1 + 1) c6) (R ++ R1 ++ [hf])) ∧ Hid (OwnI wx W7.heap.size (.slice f9 R2.length c9) R2))
          case first =>
            rename_i JJ KK hJJ hKK
            refine wp_region_held_drew (S := (fun w' => BoxAt w' (w.heap.size) #[.slice f l c] 24 ∧ BoxAt w' (w.heap.size + 1 + 1) #[.bool on2, .int .i64 tf, .int .i64 tg] 29 ∧ BoxAt w' bD #[.int .i64 2, .int .i64 df, .bool dr, .bool dw, .bool dx, .bool da, .bool dn, .int .i64 ds, .int .i64 d0] 73)) (by kernel_rfl) ?_ (fun hS => ?_)
            · (exact ⟨(by repeat' (first | with_reducible exact Mk | with_reducible exact hS.1 | with_reducible refine BoxAt.row ?_ (by omega) | with_reducible refine BoxAt.drew ?_ | with_reducible refine BoxAt.below ?_ hb32 | with_reducible refine BoxAt.below ?_ hb31)), (by repeat' (first | with_reducible exact Tk | with_reducible exact hS.2.1 | with_reducible refine BoxAt.row ?_ (by omega) | with_reducible refine BoxAt.drew ?_ | with_reducible refine BoxAt.below ?_ hb32 | with_reducible refine BoxAt.below ?_ hb31)), (by repeat' (first | with_reducible exact Dk | with_reducible exact hS.2.2 | with_reducible refine BoxAt.row ?_ (by omega) | with_reducible refine BoxAt.drew ?_ | with_reducible refine BoxAt.below ?_ hb32 | with_reducible refine BoxAt.below ?_ hb31))⟩)
            refine tkR 0 108 rfl hS (fun w' hSw => by obtain ⟨h1, h2, h3⟩ := hSw; have s0 := h1.get 0 (.slice f l c) rfl; have s1 := h2.get 0 (.bool on2) rfl; have s2 := h2.get 1 (.int .i64 tf) rfl; have s3 := h2.get 2 (.int .i64 tg) rfl; have s4 := h3.get 1 (.int .i64 df) rfl; clear h1 h2 h3; go_simp; try with_reducible rfl) ?_
            simp only [pA, pB, pC]
            refine tkR 1 109 rfl hS (fun w' hSw => by obtain ⟨h1, h2, h3⟩ := hSw; have s0 := h1.get 0 (.slice f l c) rfl; have s1 := h2.get 0 (.bool on2) rfl; have s2 := h2.get 1 (.int .i64 tf) rfl; have s3 := h2.get 2 (.int .i64 tg) rfl; have s4 := h3.get 1 (.int .i64 df) rfl; clear h1 h2 h3; go_simp; try with_reducible rfl) ?_
            simp only [pA, pB, pC]
            refine tkR 2 110 rfl hS (fun w' hSw => by obtain ⟨h1, h2, h3⟩ := hSw; have s0 := h1.get 0 (.slice f l c) rfl; have s1 := h2.get 0 (.bool on2) rfl; have s2 := h2.get 1 (.int .i64 tf) rfl; have s3 := h2.get 2 (.int .i64 tg) rfl; have s4 := h3.get 1 (.int .i64 df) rfl; clear h1 h2 h3; go_simp; try with_reducible rfl) ?_
            simp only [pA, pB, pC]
            refine tkR 3 111 rfl hS (fun w' hSw => by obtain ⟨h1, h2, h3⟩ := hSw; have s0 := h1.get 0 (.slice f l c) rfl; have s1 := h2.get 0 (.bool on2) rfl; have s2 := h2.get 1 (.int .i64 tf) rfl; have s3 := h2.get 2 (.int .i64 tg) rfl; have s4 := h3.get 1 (.int .i64 df) rfl; clear h1 h2 h3; go_simp; try with_reducible rfl) ?_
            simp only [pA, pB, pC]
            refine tkR 4 112 rfl hS (fun w' hSw => by obtain ⟨h1, h2, h3⟩ := hSw; have s0 := h1.get 0 (.slice f l c) rfl; have s1 := h2.get 0 (.bool on2) rfl; have s2 := h2.get 1 (.int .i64 tf) rfl; have s3 := h2.get 2 (.int .i64 tg) rfl; have s4 := h3.get 1 (.int .i64 df) rfl; clear h1 h2 h3; go_simp; try with_reducible rfl) ?_
            simp only [pA, pB, pC]
            refine tkR 5 113 rfl hS (fun w' hSw => by obtain ⟨h1, h2, h3⟩ := hSw; have s0 := h1.get 0 (.slice f l c) rfl; have s1 := h2.get 0 (.bool on2) rfl; have s2 := h2.get 1 (.int .i64 tf) rfl; have s3 := h2.get 2 (.int .i64 tg) rfl; have s4 := h3.get 1 (.int .i64 df) rfl; clear h1 h2 h3; go_simp; try with_reducible rfl) ?_
            simp only [pA, pB, pC]
            refine tkR 9 117 rfl hS (fun w' hSw => by obtain ⟨h1, h2, h3⟩ := hSw; have s0 := h1.get 0 (.slice f l c) rfl; have s1 := h2.get 0 (.bool on2) rfl; have s2 := h2.get 1 (.int .i64 tf) rfl; have s3 := h2.get 2 (.int .i64 tg) rfl; have s4 := h3.get 1 (.int .i64 df) rfl; clear h1 h2 h3; go_simp; try with_reducible rfl) ?_
            simp only [pA, pB, pC]
            refine wpAnyH_ready (rs := [6]) (by kernel_rfl) (by simp) ?_
            refine AllReadyH.cons (o := ⟨some 114, _, _, _, _, _⟩) rfl (fun K hK => ?_) AllReadyH.nil
            go_simp
            refine (HC.out _).mono ?_
            rintro e w31 ⟨rfl, hb31⟩
            have hs31 : W7.heap.size ≤ w31.heap.size := hb31.size
            refine hK.out _ _ ?_ (fun hS' => ?_)
            · (exact ⟨(by repeat' (first | with_reducible exact Mk | with_reducible exact hS.1 | with_reducible refine BoxAt.row ?_ (by omega) | with_reducible refine BoxAt.drew ?_ | with_reducible refine BoxAt.below ?_ hb32 | with_reducible refine BoxAt.below ?_ hb31)), (by repeat' (first | with_reducible exact Tk | with_reducible exact hS.2.1 | with_reducible refine BoxAt.row ?_ (by omega) | with_reducible refine BoxAt.drew ?_ | with_reducible refine BoxAt.below ?_ hb32 | with_reducible refine BoxAt.below ?_ hb31)), (by repeat' (first | with_reducible exact Dk | with_reducible exact hS.2.2 | with_reducible refine BoxAt.row ?_ (by omega) | with_reducible refine BoxAt.drew ?_ | with_reducible refine BoxAt.below ?_ hb32 | with_reducible refine BoxAt.below ?_ hb31))⟩)
            clear hK K hS
            have hS := hS'
            clear hS'
            try simp only [Act.put, List.setIfInBounds_toArray, List.set_cons_zero, List.set_cons_succ]
            refine tkR 7 115 rfl hS (fun w' hSw => by obtain ⟨h1, h2, h3⟩ := hSw; have s0 := h1.get 0 (.slice f l c) rfl; have s1 := h2.get 0 (.bool on2) rfl; have s2 := h2.get 1 (.int .i64 tf) rfl; have s3 := h2.get 2 (.int .i64 tg) rfl; have s4 := h3.get 1 (.int .i64 df) rfl; clear h1 h2 h3; go_simp; try with_reducible rfl) ?_
            simp only [pA, pB, pC]
            refine tkR 8 116 rfl hS (fun w' hSw => by obtain ⟨h1, h2, h3⟩ := hSw; have s0 := h1.get 0 (.slice f l c) rfl; have s1 := h2.get 0 (.bool on2) rfl; have s2 := h2.get 1 (.int .i64 tf) rfl; have s3 := h2.get 2 (.int .i64 tg) rfl; have s4 := h3.get 1 (.int .i64 df) rfl; clear h1 h2 h3; go_simp; try with_reducible rfl) ?_
            simp only [pA, pB, pC]
            refine wpAnyH_ready (rs := [10]) (by kernel_rfl) (by simp) ?_
            refine AllReadyH.cons (o := ⟨some 118, _, _, _, _, _⟩) rfl (fun K hK => ?_) AllReadyH.nil
            go_simp
            refine (HME.out _ (HX.out.below (bel_trans (Below.drew B11.out) hb31))).mono ?_
            rintro e w32 ⟨f9, c9, rfl, hO9, hb32⟩
            refine hK.out _ _ ?_ (fun hS' => ?_)
            · (exact ⟨(by repeat' (first | with_reducible exact Mk | with_reducible exact hS.1 | with_reducible refine BoxAt.row ?_ (by omega) | with_reducible refine BoxAt.drew ?_ | with_reducible refine BoxAt.below ?_ hb32 | with_reducible refine BoxAt.below ?_ hb31)), (by repeat' (first | with_reducible exact Tk | with_reducible exact hS.2.1 | with_reducible refine BoxAt.row ?_ (by omega) | with_reducible refine BoxAt.drew ?_ | with_reducible refine BoxAt.below ?_ hb32 | with_reducible refine BoxAt.below ?_ hb31)), (by repeat' (first | with_reducible exact Dk | with_reducible exact hS.2.2 | with_reducible refine BoxAt.row ?_ (by omega) | with_reducible refine BoxAt.drew ?_ | with_reducible refine BoxAt.below ?_ hb32 | with_reducible refine BoxAt.below ?_ hb31))⟩)
            clear hK K hS
            have hS := hS'
            clear hS'
            try simp only [Act.put, List.setIfInBounds_toArray, List.set_cons_zero, List.set_cons_succ]
            refine tkR 11 107 rfl hS (fun w' hSw => by obtain ⟨h1, h2, h3⟩ := hSw; have s0 := h1.get 0 (.slice f l c) rfl; have s1 := h2.get 0 (.bool on2) rfl; have s2 := h2.get 1 (.int .i64 tf) rfl; have s3 := h2.get 2 (.int .i64 tg) rfl; have s4 := h3.get 1 (.int .i64 df) rfl; clear h1 h2 h3; go_simp; try with_reducible rfl) ?_
            simp only [pA, pB, pC]
            refine tkR 12 119 rfl hS (fun w' hSw => by obtain ⟨h1, h2, h3⟩ := hSw; have s0 := h1.get 0 (.slice f l c) rfl; have s1 := h2.get 0 (.bool on2) rfl; have s2 := h2.get 1 (.int .i64 tf) rfl; have s3 := h2.get 2 (.int .i64 tg) rfl; have s4 := h3.get 1 (.int .i64 df) rfl; clear h1 h2 h3; go_simp; try with_reducible rfl) ?_
            simp only [pA, pB, pC]
            refine tkR 13 120 rfl hS (fun w' hSw => by obtain ⟨h1, h2, h3⟩ := hSw; have s0 := h1.get 0 (.slice f l c) rfl; have s1 := h2.get 0 (.bool on2) rfl; have s2 := h2.get 1 (.int .i64 tf) rfl; have s3 := h2.get 2 (.int .i64 tg) rfl; have s4 := h3.get 1 (.int .i64 df) rfl; clear h1 h2 h3; go_simp; try with_reducible rfl) ?_
            simp only [pA, pB, pC]
            refine tkR 14 121 rfl hS (fun w' hSw => by obtain ⟨h1, h2, h3⟩ := hSw; have s0 := h1.get 0 (.slice f l c) rfl; have s1 := h2.get 0 (.bool on2) rfl; have s2 := h2.get 1 (.int .i64 tf) rfl; have s3 := h2.get 2 (.int .i64 tg) rfl; have s4 := h3.get 1 (.int .i64 df) rfl; clear h1 h2 h3; go_simp; try with_reducible rfl) ?_
            simp only [pA, pB, pC]
            refine wpAnyH_ready (rs := [15]) (by kernel_rfl) (by simp) ?_
            refine AllReadyH.cons (o := ⟨none, _, _, _, _, _⟩) rfl (fun K hK => ?_) AllReadyH.nil
            refine step_storeB rfl 36 _ _ rfl _ _ #[.int .i64 hf, .int .i64 hm, .bool hr, .bool hw, .bool hx, .bool ha, .bool hn, .int .i64 hs, .int .i64 hl] 36 rfl rfl (by kernel_rfl) rfl (by simp [Value.oneCell']) (by repeat' (first | with_reducible exact Xk | (with_reducible refine BoxAt.row ?_ (by omega)) | with_reducible refine BoxAt.drew ?_ | with_reducible refine BoxAt.below ?_ hb32 | with_reducible refine BoxAt.below ?_ hb31)) ?_
            refine hK.out _ _ ?_ (fun hS' => ?_)
            · (exact ⟨(by repeat' (first | with_reducible exact Mk | with_reducible exact hS.1 | with_reducible refine BoxAt.row ?_ (by omega) | with_reducible refine BoxAt.drew ?_ | with_reducible refine BoxAt.below ?_ hb32 | with_reducible refine BoxAt.below ?_ hb31)), (by repeat' (first | with_reducible exact Tk | with_reducible exact hS.2.1 | with_reducible refine BoxAt.row ?_ (by omega) | with_reducible refine BoxAt.drew ?_ | with_reducible refine BoxAt.below ?_ hb32 | with_reducible refine BoxAt.below ?_ hb31)), (by repeat' (first | with_reducible exact Dk | with_reducible exact hS.2.2 | with_reducible refine BoxAt.row ?_ (by omega) | with_reducible refine BoxAt.drew ?_ | with_reducible refine BoxAt.below ?_ hb32 | with_reducible refine BoxAt.below ?_ hb31))⟩)
            clear hK K hS
            have hS := hS'
            clear hS'
            try simp only [Act.put]
            refine wpAnyH_ready (rs := [16]) (by kernel_rfl) (by simp) ?_
            refine AllReadyH.cons (o := ⟨none, _, _, _, _, _⟩) rfl (fun K hK => ?_) AllReadyH.nil
            refine step_storeB rfl 38 _ _ rfl _ _ z5 38 rfl rfl (by kernel_rfl) rfl (by simp [Value.oneCell']) (by repeat' (first | with_reducible exact Yk | (with_reducible refine BoxAt.row ?_ (by omega)) | with_reducible refine BoxAt.drew ?_ | with_reducible refine BoxAt.below ?_ hb32 | with_reducible refine BoxAt.below ?_ hb31)) ?_
            refine hK.out _ _ ?_ (fun hS' => ?_)
            · (exact ⟨(by repeat' (first | with_reducible exact Mk | with_reducible exact hS.1 | with_reducible refine BoxAt.row ?_ (by omega) | with_reducible refine BoxAt.drew ?_ | with_reducible refine BoxAt.below ?_ hb32 | with_reducible refine BoxAt.below ?_ hb31)), (by repeat' (first | with_reducible exact Tk | with_reducible exact hS.2.1 | with_reducible refine BoxAt.row ?_ (by omega) | with_reducible refine BoxAt.drew ?_ | with_reducible refine BoxAt.below ?_ hb32 | with_reducible refine BoxAt.below ?_ hb31)), (by repeat' (first | with_reducible exact Dk | with_reducible exact hS.2.2 | with_reducible refine BoxAt.row ?_ (by omega) | with_reducible refine BoxAt.drew ?_ | with_reducible refine BoxAt.below ?_ hb32 | with_reducible refine BoxAt.below ?_ hb31))⟩)
            clear hK K hS
            have hS := hS'
            clear hS'
            try simp only [Act.put]
            refine tkR 17 21 rfl hS (fun w' hSw => by obtain ⟨h1, h2, h3⟩ := hSw; have s0 := h1.get 0 (.slice f l c) rfl; have s1 := h2.get 0 (.bool on2) rfl; have s2 := h2.get 1 (.int .i64 tf) rfl; have s3 := h2.get 2 (.int .i64 tg) rfl; have s4 := h3.get 1 (.int .i64 df) rfl; clear h1 h2 h3; go_simp; try with_reducible rfl) ?_
            simp only [pA, pB, pC]
            refine wpAnyH_done (by kernel_rfl) ?_ _
            show KK _ _
            refine hKK _ _ (Met.intro (hJJ _ _ ?_))
            (repeat apply Exists.intro)
            refine ⟨?_, rfl⟩
            refine ⟨f9, c9, rfl, ?_, ?_, ?_, ?_, ?_, ?_⟩
            · show Below _ _ _
              have m31 := hb31.mono (show w.heap.size + 5 ≤ W7.drew.heap.size by show w.heap.size + 5 ≤ W7.heap.size; omega)
              have m32 := hb32.mono (show w.heap.size + 5 ≤ w31.heap.size by omega)
              repeat' (first | with_reducible exact Below.refl _ _ | (with_reducible refine Below.rowB ?_ (by omega)) | with_reducible refine Below.drew ?_ | with_reducible refine Below.trans ?_ m32 | with_reducible refine Below.trans ?_ m31)
            · show BoxAt _ _ _ _
              repeat' (first | with_reducible exact Xk | with_reducible refine BoxAt.putAny #[.int .i64 hf, .int .i64 hm, .bool hr, .bool hw, .bool hx, .bool ha, .bool hn, .int .i64 hs, .int .i64 hl] ?_ rfl | (with_reducible refine BoxAt.row ?_ (by omega)) | with_reducible refine BoxAt.drew ?_ | with_reducible refine BoxAt.below ?_ hb32 | with_reducible refine BoxAt.below ?_ hb31)
            · show BoxAt _ _ _ _
              repeat' (first | with_reducible exact Yk | with_reducible refine BoxAt.putAny #[.int .i64 0, .int .i64 0, .int .i64 0, .bool false, .int .i64 0] ?_ rfl | (with_reducible refine BoxAt.row ?_ (by omega)) | with_reducible refine BoxAt.drew ?_ | with_reducible refine BoxAt.below ?_ hb32 | with_reducible refine BoxAt.below ?_ hb31)
            · show BoxAt _ _ _ _
              repeat' (first | with_reducible exact Dk | with_reducible refine BoxAt.putAny #[] ?_ rfl | (with_reducible refine BoxAt.row ?_ (by omega)) | with_reducible refine BoxAt.drew ?_ | with_reducible refine BoxAt.below ?_ hb32 | with_reducible refine BoxAt.below ?_ hb31)
            · show OwnI _ _ _ _
              repeat' (first | with_reducible exact Ok | with_reducible refine OwnI.rowN ?_ HNY7 | with_reducible refine OwnI.rowN ?_ HNX7 | with_reducible refine OwnI.drew ?_ | with_reducible refine OwnI.below ?_ hb32 | with_reducible refine OwnI.below ?_ hb31)
            · show OwnI _ _ _ _
              have hO8 := OwnI.mono hO9 (base' := W7.heap.size) (by omega)
              repeat' (first | with_reducible exact hO8 | (with_reducible refine OwnI.row ?_ (by omega)))
          case rest =>
          obtain ⟨f9, c9, rfl, HB9, X40, Y40, D40, O40, Q40⟩ := hcut
          obtain ⟨w40, rfl⟩ : ∃ w40 : World, w40 = wc := ⟨_, rfl⟩
          have M40 := Lib.hid (M11.out.under HB9.out (by omega))
          have U40 := Lib.hid (U11.out.under HB9.out (by omega))
          have T40 := Lib.hid (T11.out.under HB9.out (by omega))
          have H40 := Lib.hid (H11.out.under HB9.out (by omega))
          have F40 := Lib.hid (F11.out.under HB9.out (by omega))
          have B40 := Lib.hid (B11.out.trans (HB9.out.mono (by omega)))
          clear Mk Tk Dk Xk Yk Ok HNX7 HNY7 HNY HME HB9 tm wm pm0 HC M11 U11 T11 H11 F11 X11 Y11 D11 B11 O11
          have HQB2 := Lib.hid (show Mf (df + pg % cov lv) acc = (⟨yf, ym, ⟨yr, yw, yx, ya, yn, ys⟩, yl⟩, ⟨jk, js, jl, jw, jp⟩, R2) from by rw [HC0.out, HPM.out]; exact HQB.out)
          have hmb := HMB2.out
          clear HMB2 HQB HC0 HPM
          rcases hmb with hq | hq
          · have hq1 := hq.1
            clear hq
            simp only [flt0, Flt.mk.injEq] at hq1
            obtain ⟨rfl, rfl, rfl, rfl, rfl⟩ := hq1
            obtain ⟨x0, hx0⟩ : ∃ x0, bothL [⟨dr, dw, dx, da, dn, ds⟩, ⟨yr, yw, yx, ya, yn, ys⟩] = x0 := ⟨_, rfl⟩
            have HE := Lib.hid (show ((⟨yf, ym, x0, lv⟩ : Hit), flt0, R ++ R1 ++ [hf] ++ R2) = q0 from by rw [← hx0]; exact (transS_hit HQA.out rfl HD.out rfl HGK.out HQB2.out rfl).symm.trans HQ.out)
            have HX0 := Lib.hid hx0
            clear hx0
            have HNX41 := Lib.hid (O40.out.ne_box X40.out (by decide))
            have HNY41 := Lib.hid (O40.out.ne_box Y40.out (by decide))
            have HND41 := Lib.hid (O40.out.ne_box D40.out (by decide))
            have hs41 : w.heap.size + 5 ≤ w40.heap.size := by have := F40.out.lt; omega
            go_upto_region 27 with (at_builtin; refine wpList_rowI rfl _ _ rfl (w.heap.size + 5) _ (p + n1 + 1) (R2.length) _ _ (R ++ R1 ++ [hf]) R2 rfl O40.out (by have h1 := HP.out; have h2 := HN1.out; simp; omega) rfl Q40.out rfl (by omega) hs41 ?_; intro f41 c41 W41 hO41 hg41; have hb41 := (Below.refl (w.heap.size + 5) w40).grown hg41 hs41 O40.out.blk; have O41 := Lib.hid hO41; have M41 := Lib.hid (M40.out.under hb41 (by omega)); have U41 := Lib.hid (U40.out.under hb41 (by omega)); have T41 := Lib.hid (T40.out.under hb41 (by omega)); have H41 := Lib.hid (H40.out.under hb41 (by omega)); have F41 := Lib.hid (F40.out.under hb41 (by omega)); have X41 := Lib.hid (X40.out.grown hg41 HNX41.out); have Y41 := Lib.hid (Y40.out.grown hg41 HNY41.out); have D41 := Lib.hid (D40.out.grown hg41 HND41.out); have B41 := Lib.hid (B40.out.trans (hb41.mono (by omega))); clear M40 U40 T40 H40 F40 X40 Y40 D40 B40 O40 Q40 hO41 hg41 hb41 hs41 HNX41 HNY41 HND41)
            have Yc0 := Y41.out.get 0 (.int .i64 0) rfl
            go_upto_region 29 with fail
            clear Yc0
            have Dc2 := D41.out.get 2 (.bool dr) rfl
            have Dc3 := D41.out.get 3 (.bool dw) rfl
            have Dc4 := D41.out.get 4 (.bool dx) rfl
            have Dc5 := D41.out.get 5 (.bool da) rfl
            have Dc6 := D41.out.get 6 (.bool dn) rfl
            have Dc7 := D41.out.get 7 (.int .i64 ds) rfl
            have Xc2 := X41.out.get 2 (.bool yr) rfl
            have Xc3 := X41.out.get 3 (.bool yw) rfl
            have Xc4 := X41.out.get 4 (.bool yx) rfl
            have Xc5 := X41.out.get 5 (.bool ya) rfl
            have Xc6 := X41.out.get 6 (.bool yn) rfl
            have Xc7 := X41.out.get 7 (.int .i64 ys) rfl
            go_wp2_with fail
            refine (bothA_any (some ⟨W41.heap.size, 0, none⟩) 2 2 [⟨dr, dw, dx, da, dn, ds⟩, ⟨yr, yw, yx, ya, yn, ys⟩] _ (OwnR.made (K := KA) W41 W41.heap.size [⟨dr, dw, dx, da, dn, ds⟩, ⟨yr, yw, yx, ya, yn, ys⟩] #[.bool dr, .bool dw, .bool dx, .bool da, .bool dn, .int .i64 ds, .bool yr, .bool yw, .bool yx, .bool ya, .bool yn, .int .i64 ys] 2 (Nat.le_refl _) rfl (by simp) rfl).rows.2 rfl (by simp)).mono ?_
            rintro e w61 ⟨rfl, hb61⟩
            have M62 := Lib.hid ((M41.out.alloc (.cells #[.bool dr, .bool dw, .bool dx, .bool da, .bool dn, .int .i64 ds, .bool yr, .bool yw, .bool yx, .bool ya, .bool yn, .int .i64 ys] 34)).below hb61)
            have U62 := Lib.hid ((U41.out.alloc (.cells #[.bool dr, .bool dw, .bool dx, .bool da, .bool dn, .int .i64 ds, .bool yr, .bool yw, .bool yx, .bool ya, .bool yn, .int .i64 ys] 34)).below hb61)
            have T62 := Lib.hid ((T41.out.alloc (.cells #[.bool dr, .bool dw, .bool dx, .bool da, .bool dn, .int .i64 ds, .bool yr, .bool yw, .bool yx, .bool ya, .bool yn, .int .i64 ys] 34)).below hb61)
            have H62 := Lib.hid ((H41.out.alloc (.cells #[.bool dr, .bool dw, .bool dx, .bool da, .bool dn, .int .i64 ds, .bool yr, .bool yw, .bool yx, .bool ya, .bool yn, .int .i64 ys] 34)).below hb61)
            have F62 := Lib.hid ((F41.out.alloc (.cells #[.bool dr, .bool dw, .bool dx, .bool da, .bool dn, .int .i64 ds, .bool yr, .bool yw, .bool yx, .bool ya, .bool yn, .int .i64 ys] 34)).below hb61)
            have X62 := Lib.hid ((X41.out.alloc (.cells #[.bool dr, .bool dw, .bool dx, .bool da, .bool dn, .int .i64 ds, .bool yr, .bool yw, .bool yx, .bool ya, .bool yn, .int .i64 ys] 34)).below hb61)
            have Y62 := Lib.hid ((Y41.out.alloc (.cells #[.bool dr, .bool dw, .bool dx, .bool da, .bool dn, .int .i64 ds, .bool yr, .bool yw, .bool yx, .bool ya, .bool yn, .int .i64 ys] 34)).below hb61)
            have D62 := Lib.hid ((D41.out.alloc (.cells #[.bool dr, .bool dw, .bool dx, .bool da, .bool dn, .int .i64 ds, .bool yr, .bool yw, .bool yx, .bool ya, .bool yn, .int .i64 ys] 34)).below hb61)
            have O62 := Lib.hid ((O41.out.alloc (.cells #[.bool dr, .bool dw, .bool dx, .bool da, .bool dn, .int .i64 ds, .bool yr, .bool yw, .bool yx, .bool ya, .bool yn, .int .i64 ys] 34)).below hb61)
            have B62 := Lib.hid (bel_trans (bel_alloc B41.out (.cells #[.bool dr, .bool dw, .bool dx, .bool da, .bool dn, .int .i64 ds, .bool yr, .bool yw, .bool yx, .bool ya, .bool yn, .int .i64 ys] 34)) hb61)
            clear Dc2 Dc3 Dc4 Dc5 Dc6 Dc7 Xc2 Xc3 Xc4 Xc5 Xc6 Xc7
            clear M41 U41 T41 H41 F41 X41 Y41 D41 O41 B41 hb61
            rw [HX0.out]
            clear HX0
            obtain ⟨xr, xw, xx, xa, xn, xs⟩ := x0
            unfold atrV atrC
            simp only
            have HNX := Lib.hid (O62.out.ne_box X62.out (by decide))
            have Xc2 := X62.out.get 2 (.bool yr) rfl
            have Xc3 := X62.out.get 3 (.bool yw) rfl
            have Xc4 := X62.out.get 4 (.bool yx) rfl
            have Xc5 := X62.out.get 5 (.bool ya) rfl
            have Xc6 := X62.out.get 6 (.bool yn) rfl
            have Xc7 := X62.out.get 7 (.int .i64 ys) rfl
            have Xc8 := X62.out.get 8 (.int .i64 yl) rfl
            have Xz2 := X62.out.free 2
            have Xz3 := X62.out.free 3
            have Xz4 := X62.out.free 4
            have Xz5 := X62.out.free 5
            have Xz6 := X62.out.free 6
            have Xz7 := X62.out.free 7
            have Xz8 := X62.out.free 8
            go_upto_region 30 with fail
            have M63 := Lib.hid ((((((((M62.out.other ⟨bX, 2, none⟩ (.bool xr) (by first | with_reducible assumption | (simp; done) | (simp; omega))).other ⟨bX, 3, none⟩ (.bool xw) (by first | with_reducible assumption | (simp; done) | (simp; omega))).other ⟨bX, 4, none⟩ (.bool xx) (by first | with_reducible assumption | (simp; done) | (simp; omega))).other ⟨bX, 5, none⟩ (.bool xa) (by first | with_reducible assumption | (simp; done) | (simp; omega))).other ⟨bX, 6, none⟩ (.bool xn) (by first | with_reducible assumption | (simp; done) | (simp; omega))).other ⟨bX, 7, none⟩ (.int .i64 xs) (by first | with_reducible assumption | (simp; done) | (simp; omega))).other ⟨bX, 8, none⟩ (.int .i64 lv) (by first | with_reducible assumption | (simp; done) | (simp; omega))))
            have U63 := Lib.hid ((((((((U62.out.other ⟨bX, 2, none⟩ (.bool xr) (by first | with_reducible assumption | (simp; done) | (simp; omega))).other ⟨bX, 3, none⟩ (.bool xw) (by first | with_reducible assumption | (simp; done) | (simp; omega))).other ⟨bX, 4, none⟩ (.bool xx) (by first | with_reducible assumption | (simp; done) | (simp; omega))).other ⟨bX, 5, none⟩ (.bool xa) (by first | with_reducible assumption | (simp; done) | (simp; omega))).other ⟨bX, 6, none⟩ (.bool xn) (by first | with_reducible assumption | (simp; done) | (simp; omega))).other ⟨bX, 7, none⟩ (.int .i64 xs) (by first | with_reducible assumption | (simp; done) | (simp; omega))).other ⟨bX, 8, none⟩ (.int .i64 lv) (by first | with_reducible assumption | (simp; done) | (simp; omega))))
            have T63 := Lib.hid ((((((((T62.out.other ⟨bX, 2, none⟩ (.bool xr) (by first | with_reducible assumption | (simp; done) | (simp; omega))).other ⟨bX, 3, none⟩ (.bool xw) (by first | with_reducible assumption | (simp; done) | (simp; omega))).other ⟨bX, 4, none⟩ (.bool xx) (by first | with_reducible assumption | (simp; done) | (simp; omega))).other ⟨bX, 5, none⟩ (.bool xa) (by first | with_reducible assumption | (simp; done) | (simp; omega))).other ⟨bX, 6, none⟩ (.bool xn) (by first | with_reducible assumption | (simp; done) | (simp; omega))).other ⟨bX, 7, none⟩ (.int .i64 xs) (by first | with_reducible assumption | (simp; done) | (simp; omega))).other ⟨bX, 8, none⟩ (.int .i64 lv) (by first | with_reducible assumption | (simp; done) | (simp; omega))))
            have H63 := Lib.hid ((((((((H62.out.other ⟨bX, 2, none⟩ (.bool xr) (by first | with_reducible assumption | (simp; done) | (simp; omega))).other ⟨bX, 3, none⟩ (.bool xw) (by first | with_reducible assumption | (simp; done) | (simp; omega))).other ⟨bX, 4, none⟩ (.bool xx) (by first | with_reducible assumption | (simp; done) | (simp; omega))).other ⟨bX, 5, none⟩ (.bool xa) (by first | with_reducible assumption | (simp; done) | (simp; omega))).other ⟨bX, 6, none⟩ (.bool xn) (by first | with_reducible assumption | (simp; done) | (simp; omega))).other ⟨bX, 7, none⟩ (.int .i64 xs) (by first | with_reducible assumption | (simp; done) | (simp; omega))).other ⟨bX, 8, none⟩ (.int .i64 lv) (by first | with_reducible assumption | (simp; done) | (simp; omega))))
            have F63 := Lib.hid ((((((((F62.out.other ⟨bX, 2, none⟩ (.bool xr) (by first | with_reducible assumption | (simp; done) | (simp; omega))).other ⟨bX, 3, none⟩ (.bool xw) (by first | with_reducible assumption | (simp; done) | (simp; omega))).other ⟨bX, 4, none⟩ (.bool xx) (by first | with_reducible assumption | (simp; done) | (simp; omega))).other ⟨bX, 5, none⟩ (.bool xa) (by first | with_reducible assumption | (simp; done) | (simp; omega))).other ⟨bX, 6, none⟩ (.bool xn) (by first | with_reducible assumption | (simp; done) | (simp; omega))).other ⟨bX, 7, none⟩ (.int .i64 xs) (by first | with_reducible assumption | (simp; done) | (simp; omega))).other ⟨bX, 8, none⟩ (.int .i64 lv) (by first | with_reducible assumption | (simp; done) | (simp; omega))))
            have X63 := Lib.hid ((((((((X62.out.set 2 (.bool xr) #[.int .i64 yf, .int .i64 ym, .bool xr, .bool yw, .bool yx, .bool ya, .bool yn, .int .i64 ys, .int .i64 yl] rfl).set 3 (.bool xw) #[.int .i64 yf, .int .i64 ym, .bool xr, .bool xw, .bool yx, .bool ya, .bool yn, .int .i64 ys, .int .i64 yl] rfl).set 4 (.bool xx) #[.int .i64 yf, .int .i64 ym, .bool xr, .bool xw, .bool xx, .bool ya, .bool yn, .int .i64 ys, .int .i64 yl] rfl).set 5 (.bool xa) #[.int .i64 yf, .int .i64 ym, .bool xr, .bool xw, .bool xx, .bool xa, .bool yn, .int .i64 ys, .int .i64 yl] rfl).set 6 (.bool xn) #[.int .i64 yf, .int .i64 ym, .bool xr, .bool xw, .bool xx, .bool xa, .bool xn, .int .i64 ys, .int .i64 yl] rfl).set 7 (.int .i64 xs) #[.int .i64 yf, .int .i64 ym, .bool xr, .bool xw, .bool xx, .bool xa, .bool xn, .int .i64 xs, .int .i64 yl] rfl).set 8 (.int .i64 lv) #[.int .i64 yf, .int .i64 ym, .bool xr, .bool xw, .bool xx, .bool xa, .bool xn, .int .i64 xs, .int .i64 lv] rfl))
            have Y63 := Lib.hid ((((((((Y62.out.other ⟨bX, 2, none⟩ (.bool xr) (by first | with_reducible assumption | (simp; done) | (simp; omega))).other ⟨bX, 3, none⟩ (.bool xw) (by first | with_reducible assumption | (simp; done) | (simp; omega))).other ⟨bX, 4, none⟩ (.bool xx) (by first | with_reducible assumption | (simp; done) | (simp; omega))).other ⟨bX, 5, none⟩ (.bool xa) (by first | with_reducible assumption | (simp; done) | (simp; omega))).other ⟨bX, 6, none⟩ (.bool xn) (by first | with_reducible assumption | (simp; done) | (simp; omega))).other ⟨bX, 7, none⟩ (.int .i64 xs) (by first | with_reducible assumption | (simp; done) | (simp; omega))).other ⟨bX, 8, none⟩ (.int .i64 lv) (by first | with_reducible assumption | (simp; done) | (simp; omega))))
            have D63 := Lib.hid ((((((((D62.out.other ⟨bX, 2, none⟩ (.bool xr) (by first | with_reducible assumption | (simp; done) | (simp; omega))).other ⟨bX, 3, none⟩ (.bool xw) (by first | with_reducible assumption | (simp; done) | (simp; omega))).other ⟨bX, 4, none⟩ (.bool xx) (by first | with_reducible assumption | (simp; done) | (simp; omega))).other ⟨bX, 5, none⟩ (.bool xa) (by first | with_reducible assumption | (simp; done) | (simp; omega))).other ⟨bX, 6, none⟩ (.bool xn) (by first | with_reducible assumption | (simp; done) | (simp; omega))).other ⟨bX, 7, none⟩ (.int .i64 xs) (by first | with_reducible assumption | (simp; done) | (simp; omega))).other ⟨bX, 8, none⟩ (.int .i64 lv) (by first | with_reducible assumption | (simp; done) | (simp; omega))))
            have O63 := Lib.hid ((((((((O62.out.otherN ⟨bX, 2, none⟩ (.bool xr) HNX.out).otherN ⟨bX, 3, none⟩ (.bool xw) HNX.out).otherN ⟨bX, 4, none⟩ (.bool xx) HNX.out).otherN ⟨bX, 5, none⟩ (.bool xa) HNX.out).otherN ⟨bX, 6, none⟩ (.bool xn) HNX.out).otherN ⟨bX, 7, none⟩ (.int .i64 xs) HNX.out).otherN ⟨bX, 8, none⟩ (.int .i64 lv) HNX.out))
            have B63 := Lib.hid ((Below.setCell (Below.setCell (Below.setCell (Below.setCell (Below.setCell (Below.setCell (Below.setCell B62.out (p := ⟨bX, 2, none⟩) (by first | with_reducible assumption | (simp; done) | (simp; omega)) (.bool xr)) (p := ⟨bX, 3, none⟩) (by first | with_reducible assumption | (simp; done) | (simp; omega)) (.bool xw)) (p := ⟨bX, 4, none⟩) (by first | with_reducible assumption | (simp; done) | (simp; omega)) (.bool xx)) (p := ⟨bX, 5, none⟩) (by first | with_reducible assumption | (simp; done) | (simp; omega)) (.bool xa)) (p := ⟨bX, 6, none⟩) (by first | with_reducible assumption | (simp; done) | (simp; omega)) (.bool xn)) (p := ⟨bX, 7, none⟩) (by first | with_reducible assumption | (simp; done) | (simp; omega)) (.int .i64 xs)) (p := ⟨bX, 8, none⟩) (by first | with_reducible assumption | (simp; done) | (simp; omega)) (.int .i64 lv)))
            clear Xc2 Xc3 Xc4 Xc5 Xc6 Xc7 Xc8 Xz2 Xz3 Xz4 Xz5 Xz6 Xz7 Xz8
            clear M62 U62 T62 H62 F62 X62 Y62 D62 O62 B62
            obtain ⟨W50, hWW⟩ : ∃ W50, W50 = (((((((w61).setCell ⟨bX, 2, none⟩ (.bool xr)).setCell ⟨bX, 3, none⟩ (.bool xw)).setCell ⟨bX, 4, none⟩ (.bool xx)).setCell ⟨bX, 5, none⟩ (.bool xa)).setCell ⟨bX, 6, none⟩ (.bool xn)).setCell ⟨bX, 7, none⟩ (.int .i64 xs)).setCell ⟨bX, 8, none⟩ (.int .i64 lv) := ⟨_, rfl⟩
            rw [← hWW] at M63 U63 T63 H63 F63 X63 Y63 D63 B63 O63 ⊢
            clear hWW
            refine wp_region_held_drew (S := (fun w' => BoxAt w' (bX) #[.int .i64 yf, .int .i64 ym, .bool xr, .bool xw, .bool xx, .bool xa, .bool xn, .int .i64 xs, .int .i64 lv] 36 ∧ BoxAt w' (bX + 1) z5 38)) (by kernel_rfl) ⟨X63.out.drew, Y63.out.drew⟩ (fun hS => ?_)
            have M64a := Lib.hid (M63.out.drew)
            have U64a := Lib.hid (U63.out.drew)
            have T64a := Lib.hid (T63.out.drew)
            have H64a := Lib.hid (H63.out.drew)
            have F64a := Lib.hid (F63.out.drew)
            have X64a := Lib.hid (X63.out.drew)
            have Y64a := Lib.hid (Y63.out.drew)
            have D64a := Lib.hid (D63.out.drew)
            have O64a := Lib.hid (O63.out.drew)
            have B64a := Lib.hid (Below.drew B63.out)
            clear M63 U63 T63 H63 F63 X63 Y63 D63 O63 B63
            obtain ⟨V64a, hV⟩ : ∃ V64a, V64a = W50.drew := ⟨_, rfl⟩
            rw [← hV] at M64a U64a T64a H64a F64a X64a Y64a D64a B64a O64a hS ⊢
            clear hV
            refine tkR 0 140 rfl hS (fun w' hSw => by obtain ⟨hS0, hS1⟩ := hSw; have c0_0 := hS0.get 0 (.int .i64 yf) rfl; have c0_1 := hS0.get 1 (.int .i64 ym) rfl; have c0_2 := hS0.get 2 (.bool xr) rfl; have c0_3 := hS0.get 3 (.bool xw) rfl; have c0_4 := hS0.get 4 (.bool xx) rfl; have c0_5 := hS0.get 5 (.bool xa) rfl; have c0_6 := hS0.get 6 (.bool xn) rfl; have c0_7 := hS0.get 7 (.int .i64 xs) rfl; have c0_8 := hS0.get 8 (.int .i64 lv) rfl; have c1_0 := hS1.get 0 (.int .i64 0) rfl; have c1_1 := hS1.get 1 (.int .i64 0) rfl; have c1_2 := hS1.get 2 (.int .i64 0) rfl; have c1_3 := hS1.get 3 (.bool false) rfl; have c1_4 := hS1.get 4 (.int .i64 0) rfl; clear hS0 hS1; go_simp; try with_reducible rfl) ?_
            simp only [pA, pB, pC]
            refine tkR 1 141 rfl hS (fun w' hSw => by obtain ⟨hS0, hS1⟩ := hSw; have c0_0 := hS0.get 0 (.int .i64 yf) rfl; have c0_1 := hS0.get 1 (.int .i64 ym) rfl; have c0_2 := hS0.get 2 (.bool xr) rfl; have c0_3 := hS0.get 3 (.bool xw) rfl; have c0_4 := hS0.get 4 (.bool xx) rfl; have c0_5 := hS0.get 5 (.bool xa) rfl; have c0_6 := hS0.get 6 (.bool xn) rfl; have c0_7 := hS0.get 7 (.int .i64 xs) rfl; have c0_8 := hS0.get 8 (.int .i64 lv) rfl; have c1_0 := hS1.get 0 (.int .i64 0) rfl; have c1_1 := hS1.get 1 (.int .i64 0) rfl; have c1_2 := hS1.get 2 (.int .i64 0) rfl; have c1_3 := hS1.get 3 (.bool false) rfl; have c1_4 := hS1.get 4 (.int .i64 0) rfl; clear hS0 hS1; go_simp; try with_reducible rfl) ?_
            simp only [pA, pB, pC]
            refine tkR 2 142 rfl hS (fun w' hSw => by obtain ⟨hS0, hS1⟩ := hSw; have c0_0 := hS0.get 0 (.int .i64 yf) rfl; have c0_1 := hS0.get 1 (.int .i64 ym) rfl; have c0_2 := hS0.get 2 (.bool xr) rfl; have c0_3 := hS0.get 3 (.bool xw) rfl; have c0_4 := hS0.get 4 (.bool xx) rfl; have c0_5 := hS0.get 5 (.bool xa) rfl; have c0_6 := hS0.get 6 (.bool xn) rfl; have c0_7 := hS0.get 7 (.int .i64 xs) rfl; have c0_8 := hS0.get 8 (.int .i64 lv) rfl; have c1_0 := hS1.get 0 (.int .i64 0) rfl; have c1_1 := hS1.get 1 (.int .i64 0) rfl; have c1_2 := hS1.get 2 (.int .i64 0) rfl; have c1_3 := hS1.get 3 (.bool false) rfl; have c1_4 := hS1.get 4 (.int .i64 0) rfl; clear hS0 hS1; go_simp; try with_reducible rfl) ?_
            simp only [pA, pB, pC]
            refine wpAnyH_ready (rs := [3]) (by kernel_rfl) (by simp) ?_
            refine AllReadyH.cons (o := ⟨none, _, _, _, _, _⟩) rfl (fun K hK => ?_) AllReadyH.nil
            refine step_storeB rfl 36 _ _ rfl _ _ z9 36 rfl rfl (by kernel_rfl) rfl (by simp [Value.oneCell']) H64a.out ?_
            refine hK.out _ _ ?_ (fun hS' => ?_)
            · exact ⟨hS.1.row (by omega), hS.2.row (by omega)⟩
            clear hK K hS
            have hS := hS'
            clear hS'
            try simp only [Act.put]
            have M64b := Lib.hid (M64a.out.row (cs' := #[.int .i64 yf, .int .i64 ym, .bool xr, .bool xw, .bool xx, .bool xa, .bool xn, .int .i64 xs, .int .i64 lv]) (show w.heap.size ≠ w.heap.size + 1 + 1 + 1 by omega))
            have U64b := Lib.hid (U64a.out.row (cs' := #[.int .i64 yf, .int .i64 ym, .bool xr, .bool xw, .bool xx, .bool xa, .bool xn, .int .i64 xs, .int .i64 lv]) (show w.heap.size + 1 ≠ w.heap.size + 1 + 1 + 1 by omega))
            have T64b := Lib.hid (T64a.out.row (cs' := #[.int .i64 yf, .int .i64 ym, .bool xr, .bool xw, .bool xx, .bool xa, .bool xn, .int .i64 xs, .int .i64 lv]) (show w.heap.size + 1 + 1 ≠ w.heap.size + 1 + 1 + 1 by omega))
            have H64b := Lib.hid (H64a.out.put (cs' := #[.int .i64 yf, .int .i64 ym, .bool xr, .bool xw, .bool xx, .bool xa, .bool xn, .int .i64 xs, .int .i64 lv]))
            have F64b := Lib.hid (F64a.out.row (cs' := #[.int .i64 yf, .int .i64 ym, .bool xr, .bool xw, .bool xx, .bool xa, .bool xn, .int .i64 xs, .int .i64 lv]) (show w.heap.size + 1 + 1 + 1 + 1 ≠ w.heap.size + 1 + 1 + 1 by omega))
            have X64b := Lib.hid (X64a.out.row (cs' := #[.int .i64 yf, .int .i64 ym, .bool xr, .bool xw, .bool xx, .bool xa, .bool xn, .int .i64 xs, .int .i64 lv]) (show bX ≠ w.heap.size + 1 + 1 + 1 by omega))
            have Y64b := Lib.hid (Y64a.out.row (cs' := #[.int .i64 yf, .int .i64 ym, .bool xr, .bool xw, .bool xx, .bool xa, .bool xn, .int .i64 xs, .int .i64 lv]) (show bX + 1 ≠ w.heap.size + 1 + 1 + 1 by omega))
            have D64b := Lib.hid (D64a.out.row (cs' := #[.int .i64 yf, .int .i64 ym, .bool xr, .bool xw, .bool xx, .bool xa, .bool xn, .int .i64 xs, .int .i64 lv]) (show bD ≠ w.heap.size + 1 + 1 + 1 by omega))
            have O64b := Lib.hid (O64a.out.row (cs := #[.int .i64 yf, .int .i64 ym, .bool xr, .bool xw, .bool xx, .bool xa, .bool xn, .int .i64 xs, .int .i64 lv]) (show w.heap.size + 1 + 1 + 1 < _ by omega))
            have B64b := Lib.hid (Below.rowB (g := w.heap.size + 1 + 1 + 1) B64a.out (cs := #[.int .i64 yf, .int .i64 ym, .bool xr, .bool xw, .bool xx, .bool xa, .bool xn, .int .i64 xs, .int .i64 lv]) (by omega))
            clear M64a U64a T64a H64a F64a X64a Y64a D64a O64a B64a
            obtain ⟨V64b, hV⟩ : ∃ V64b, V64b = V64a.setRow (w.heap.size + 1 + 1 + 1) #[.int .i64 yf, .int .i64 ym, .bool xr, .bool xw, .bool xx, .bool xa, .bool xn, .int .i64 xs, .int .i64 lv] := ⟨_, rfl⟩
            rw [← hV] at M64b U64b T64b H64b F64b X64b Y64b D64b B64b O64b hS ⊢
            clear hV
            refine wpAnyH_ready (rs := [4]) (by kernel_rfl) (by simp) ?_
            refine AllReadyH.cons (o := ⟨none, _, _, _, _, _⟩) rfl (fun K hK => ?_) AllReadyH.nil
            refine step_storeB rfl 38 _ _ rfl _ _ z5 38 rfl rfl (by kernel_rfl) rfl (by simp [Value.oneCell']) F64b.out ?_
            refine hK.out _ _ ?_ (fun hS' => ?_)
            · exact ⟨hS.1.row (by omega), hS.2.row (by omega)⟩
            clear hK K hS
            have hS := hS'
            clear hS'
            try simp only [Act.put]
            have M64c := Lib.hid (M64b.out.row (cs' := #[.int .i64 0, .int .i64 0, .int .i64 0, .bool false, .int .i64 0]) (show w.heap.size ≠ w.heap.size + 1 + 1 + 1 + 1 by omega))
            have U64c := Lib.hid (U64b.out.row (cs' := #[.int .i64 0, .int .i64 0, .int .i64 0, .bool false, .int .i64 0]) (show w.heap.size + 1 ≠ w.heap.size + 1 + 1 + 1 + 1 by omega))
            have T64c := Lib.hid (T64b.out.row (cs' := #[.int .i64 0, .int .i64 0, .int .i64 0, .bool false, .int .i64 0]) (show w.heap.size + 1 + 1 ≠ w.heap.size + 1 + 1 + 1 + 1 by omega))
            have H64c := Lib.hid (H64b.out.row (cs' := #[.int .i64 0, .int .i64 0, .int .i64 0, .bool false, .int .i64 0]) (show w.heap.size + 1 + 1 + 1 ≠ w.heap.size + 1 + 1 + 1 + 1 by omega))
            have F64c := Lib.hid (F64b.out.put (cs' := #[.int .i64 0, .int .i64 0, .int .i64 0, .bool false, .int .i64 0]))
            have X64c := Lib.hid (X64b.out.row (cs' := #[.int .i64 0, .int .i64 0, .int .i64 0, .bool false, .int .i64 0]) (show bX ≠ w.heap.size + 1 + 1 + 1 + 1 by omega))
            have Y64c := Lib.hid (Y64b.out.row (cs' := #[.int .i64 0, .int .i64 0, .int .i64 0, .bool false, .int .i64 0]) (show bX + 1 ≠ w.heap.size + 1 + 1 + 1 + 1 by omega))
            have D64c := Lib.hid (D64b.out.row (cs' := #[.int .i64 0, .int .i64 0, .int .i64 0, .bool false, .int .i64 0]) (show bD ≠ w.heap.size + 1 + 1 + 1 + 1 by omega))
            have O64c := Lib.hid (O64b.out.row (cs := #[.int .i64 0, .int .i64 0, .int .i64 0, .bool false, .int .i64 0]) (show w.heap.size + 1 + 1 + 1 + 1 < _ by omega))
            have B64c := Lib.hid (Below.rowB (g := w.heap.size + 1 + 1 + 1 + 1) B64b.out (cs := #[.int .i64 0, .int .i64 0, .int .i64 0, .bool false, .int .i64 0]) (by omega))
            clear M64b U64b T64b H64b F64b X64b Y64b D64b O64b B64b
            obtain ⟨V64c, hV⟩ : ∃ V64c, V64c = V64b.setRow (w.heap.size + 1 + 1 + 1 + 1) #[.int .i64 0, .int .i64 0, .int .i64 0, .bool false, .int .i64 0] := ⟨_, rfl⟩
            rw [← hV] at M64c U64c T64c H64c F64c X64c Y64c D64c B64c O64c hS ⊢
            clear hV
            refine tkR 5 12 rfl hS (fun w' hSw => by obtain ⟨hS0, hS1⟩ := hSw; have c0_0 := hS0.get 0 (.int .i64 yf) rfl; have c0_1 := hS0.get 1 (.int .i64 ym) rfl; have c0_2 := hS0.get 2 (.bool xr) rfl; have c0_3 := hS0.get 3 (.bool xw) rfl; have c0_4 := hS0.get 4 (.bool xx) rfl; have c0_5 := hS0.get 5 (.bool xa) rfl; have c0_6 := hS0.get 6 (.bool xn) rfl; have c0_7 := hS0.get 7 (.int .i64 xs) rfl; have c0_8 := hS0.get 8 (.int .i64 lv) rfl; have c1_0 := hS1.get 0 (.int .i64 0) rfl; have c1_1 := hS1.get 1 (.int .i64 0) rfl; have c1_2 := hS1.get 2 (.int .i64 0) rfl; have c1_3 := hS1.get 3 (.bool false) rfl; have c1_4 := hS1.get 4 (.int .i64 0) rfl; clear hS0 hS1; go_simp; try with_reducible rfl) ?_
            simp only [pA, pB, pC]
            refine wpAnyH_done (by kernel_rfl) ?_ _
            try simp only [Act.put, List.setIfInBounds_toArray, List.set_cons_zero, List.set_cons_succ]
            clear hS
            have Hc0 := H64c.out.get 0 (.int .i64 yf) rfl
            have Hc1 := H64c.out.get 1 (.int .i64 ym) rfl
            have Hc2 := H64c.out.get 2 (.bool xr) rfl
            have Hc3 := H64c.out.get 3 (.bool xw) rfl
            have Hc4 := H64c.out.get 4 (.bool xx) rfl
            have Hc5 := H64c.out.get 5 (.bool xa) rfl
            have Hc6 := H64c.out.get 6 (.bool xn) rfl
            have Hc7 := H64c.out.get 7 (.int .i64 xs) rfl
            have Hc8 := H64c.out.get 8 (.int .i64 lv) rfl
            have Fc0 := F64c.out.get 0 (.int .i64 0) rfl
            have Fc1 := F64c.out.get 1 (.int .i64 0) rfl
            have Fc2 := F64c.out.get 2 (.int .i64 0) rfl
            have Fc3 := F64c.out.get 3 (.bool false) rfl
            have Fc4 := F64c.out.get 4 (.int .i64 0) rfl
            rename_i KK hKK
            refine hKK _ _ ?_
            refine wp_ret ?_
            go_simp
            refine bodyPost_ret (v := .tuple #[.agg #[.int .i64 yf, .int .i64 ym, .bool xr, .bool xw, .bool xx, .bool xa, .bool xn, .int .i64 xs, .int .i64 lv], .agg #[.int .i64 0, .int .i64 0, .int .i64 0, .bool false, .int .i64 0], .slice f41 (p + n1 + 1 + R2.length) c41]) (by simp [results, Tryz.results19, go_sem, Hc0, Hc1, Hc2, Hc3, Hc4, Hc5, Hc6, Hc7, Hc8, Fc0, Fc1, Fc2, Fc3, Fc4]) rfl ?_
            exact WalkEnd.mk' (hh := ⟨yf, ym, ⟨xr, xw, xx, xa, xn, xs⟩, lv⟩) (ff := flt0) (R := R ++ R1 ++ [hf] ++ R2) HE.out rfl (by have h1 := HP.out; have h2 := HN1.out; simp; omega) O64c.out (show w.heap.size ≤ w.heap.size + 5 by omega) B64c.out
          · obtain ⟨hk, hh0⟩ := hq
            have HE := Lib.hid ((transS_far HQA.out rfl HD.out rfl HGK.out HQB2.out hk).symm.trans HQ.out)
            simp only [hit0, atr0, Hit.mk.injEq, Atr.mk.injEq] at hh0
            obtain ⟨rfl, rfl, ⟨rfl, rfl, rfl, rfl, rfl, rfl⟩, rfl⟩ := hh0
            simp only at HE
            have dk : decide (jk = 0) = false := decide_eq_false hk
            have bk : (jk == 0) = false := by rw [beq_int]; exact dk
            have HNX41 := Lib.hid (O40.out.ne_box X40.out (by decide))
            have HNY41 := Lib.hid (O40.out.ne_box Y40.out (by decide))
            have HND41 := Lib.hid (O40.out.ne_box D40.out (by decide))
            have hs41 : w.heap.size + 5 ≤ w40.heap.size := by have := F40.out.lt; omega
            go_upto_region 27 with (at_builtin; refine wpList_rowI rfl _ _ rfl (w.heap.size + 5) _ (p + n1 + 1) (R2.length) _ _ (R ++ R1 ++ [hf]) R2 rfl O40.out (by have h1 := HP.out; have h2 := HN1.out; simp; omega) rfl Q40.out rfl (by omega) hs41 ?_; intro f41 c41 W41 hO41 hg41; have hb41 := (Below.refl (w.heap.size + 5) w40).grown hg41 hs41 O40.out.blk; have O41 := Lib.hid hO41; have M41 := Lib.hid (M40.out.under hb41 (by omega)); have U41 := Lib.hid (U40.out.under hb41 (by omega)); have T41 := Lib.hid (T40.out.under hb41 (by omega)); have H41 := Lib.hid (H40.out.under hb41 (by omega)); have F41 := Lib.hid (F40.out.under hb41 (by omega)); have X41 := Lib.hid (X40.out.grown hg41 HNX41.out); have Y41 := Lib.hid (Y40.out.grown hg41 HNY41.out); have D41 := Lib.hid (D40.out.grown hg41 HND41.out); have B41 := Lib.hid (B40.out.trans (hb41.mono (by omega))); clear M40 U40 T40 H40 F40 X40 Y40 D40 B40 O40 Q40 hO41 hg41 hb41 hs41 HNX41 HNY41 HND41)
            have Yc0 := Y41.out.get 0 (.int .i64 jk) rfl
            go_upto_region 28 with fail
            clear Yc0
            refine wp_region_held_drew (S := (fun w' => BoxAt w' (bX + 1) #[.int .i64 jk, .int .i64 js, .int .i64 jl, .bool jw, .int .i64 jp] 38)) (by kernel_rfl) Y41.out.drew (fun hS => ?_)
            have M42a := Lib.hid (M41.out.drew)
            have U42a := Lib.hid (U41.out.drew)
            have T42a := Lib.hid (T41.out.drew)
            have H42a := Lib.hid (H41.out.drew)
            have F42a := Lib.hid (F41.out.drew)
            have X42a := Lib.hid (X41.out.drew)
            have Y42a := Lib.hid (Y41.out.drew)
            have D42a := Lib.hid (D41.out.drew)
            have O42a := Lib.hid (O41.out.drew)
            have B42a := Lib.hid (Below.drew B41.out)
            clear M41 U41 T41 H41 F41 X41 Y41 D41 O41 B41
            obtain ⟨V42a, hV⟩ : ∃ V42a, V42a = W41.drew := ⟨_, rfl⟩
            rw [← hV] at M42a U42a T42a H42a F42a X42a Y42a D42a B42a O42a hS ⊢
            clear hV
            refine tkR 0 128 rfl hS (fun w' hSw => by have hS0 := hSw; have c0_0 := hS0.get 0 (.int .i64 jk) rfl; have c0_1 := hS0.get 1 (.int .i64 js) rfl; have c0_2 := hS0.get 2 (.int .i64 jl) rfl; have c0_3 := hS0.get 3 (.bool jw) rfl; have c0_4 := hS0.get 4 (.int .i64 jp) rfl; clear hS0 hSw; go_simp; try with_reducible rfl) ?_
            simp only [pA, pB, pC]
            refine tkR 1 129 rfl hS (fun w' hSw => by have hS0 := hSw; have c0_0 := hS0.get 0 (.int .i64 jk) rfl; have c0_1 := hS0.get 1 (.int .i64 js) rfl; have c0_2 := hS0.get 2 (.int .i64 jl) rfl; have c0_3 := hS0.get 3 (.bool jw) rfl; have c0_4 := hS0.get 4 (.int .i64 jp) rfl; clear hS0 hSw; go_simp; try with_reducible rfl) ?_
            simp only [pA, pB, pC]
            refine tkR 2 130 rfl hS (fun w' hSw => by have hS0 := hSw; have c0_0 := hS0.get 0 (.int .i64 jk) rfl; have c0_1 := hS0.get 1 (.int .i64 js) rfl; have c0_2 := hS0.get 2 (.int .i64 jl) rfl; have c0_3 := hS0.get 3 (.bool jw) rfl; have c0_4 := hS0.get 4 (.int .i64 jp) rfl; clear hS0 hSw; go_simp; try with_reducible rfl) ?_
            simp only [pA, pB, pC]
            refine wpAnyH_ready (rs := [3]) (by kernel_rfl) (by simp) ?_
            refine AllReadyH.cons (o := ⟨none, _, _, _, _, _⟩) rfl (fun K hK => ?_) AllReadyH.nil
            refine step_storeB rfl 36 _ _ rfl _ _ z9 36 rfl rfl (by kernel_rfl) rfl (by simp [Value.oneCell']) H42a.out ?_
            refine hK.out _ _ ?_ (fun hS' => ?_)
            · exact hS.row (by omega)
            clear hK K hS
            have hS := hS'
            clear hS'
            try simp only [Act.put]
            have M42b := Lib.hid (M42a.out.row (cs' := #[.int .i64 0, .int .i64 0, .bool false, .bool false, .bool false, .bool false, .bool false, .int .i64 0, .int .i64 0]) (show w.heap.size ≠ w.heap.size + 1 + 1 + 1 by omega))
            have U42b := Lib.hid (U42a.out.row (cs' := #[.int .i64 0, .int .i64 0, .bool false, .bool false, .bool false, .bool false, .bool false, .int .i64 0, .int .i64 0]) (show w.heap.size + 1 ≠ w.heap.size + 1 + 1 + 1 by omega))
            have T42b := Lib.hid (T42a.out.row (cs' := #[.int .i64 0, .int .i64 0, .bool false, .bool false, .bool false, .bool false, .bool false, .int .i64 0, .int .i64 0]) (show w.heap.size + 1 + 1 ≠ w.heap.size + 1 + 1 + 1 by omega))
            have H42b := Lib.hid (H42a.out.put (cs' := #[.int .i64 0, .int .i64 0, .bool false, .bool false, .bool false, .bool false, .bool false, .int .i64 0, .int .i64 0]))
            have F42b := Lib.hid (F42a.out.row (cs' := #[.int .i64 0, .int .i64 0, .bool false, .bool false, .bool false, .bool false, .bool false, .int .i64 0, .int .i64 0]) (show w.heap.size + 1 + 1 + 1 + 1 ≠ w.heap.size + 1 + 1 + 1 by omega))
            have X42b := Lib.hid (X42a.out.row (cs' := #[.int .i64 0, .int .i64 0, .bool false, .bool false, .bool false, .bool false, .bool false, .int .i64 0, .int .i64 0]) (show bX ≠ w.heap.size + 1 + 1 + 1 by omega))
            have Y42b := Lib.hid (Y42a.out.row (cs' := #[.int .i64 0, .int .i64 0, .bool false, .bool false, .bool false, .bool false, .bool false, .int .i64 0, .int .i64 0]) (show bX + 1 ≠ w.heap.size + 1 + 1 + 1 by omega))
            have D42b := Lib.hid (D42a.out.row (cs' := #[.int .i64 0, .int .i64 0, .bool false, .bool false, .bool false, .bool false, .bool false, .int .i64 0, .int .i64 0]) (show bD ≠ w.heap.size + 1 + 1 + 1 by omega))
            have O42b := Lib.hid (O42a.out.row (cs := #[.int .i64 0, .int .i64 0, .bool false, .bool false, .bool false, .bool false, .bool false, .int .i64 0, .int .i64 0]) (show w.heap.size + 1 + 1 + 1 < _ by omega))
            have B42b := Lib.hid (Below.rowB (g := w.heap.size + 1 + 1 + 1) B42a.out (cs := #[.int .i64 0, .int .i64 0, .bool false, .bool false, .bool false, .bool false, .bool false, .int .i64 0, .int .i64 0]) (by omega))
            clear M42a U42a T42a H42a F42a X42a Y42a D42a O42a B42a
            obtain ⟨V42b, hV⟩ : ∃ V42b, V42b = V42a.setRow (w.heap.size + 1 + 1 + 1) #[.int .i64 0, .int .i64 0, .bool false, .bool false, .bool false, .bool false, .bool false, .int .i64 0, .int .i64 0] := ⟨_, rfl⟩
            rw [← hV] at M42b U42b T42b H42b F42b X42b Y42b D42b B42b O42b hS ⊢
            clear hV
            refine wpAnyH_ready (rs := [4]) (by kernel_rfl) (by simp) ?_
            refine AllReadyH.cons (o := ⟨none, _, _, _, _, _⟩) rfl (fun K hK => ?_) AllReadyH.nil
            refine step_storeB rfl 38 _ _ rfl _ _ z5 38 rfl rfl (by kernel_rfl) rfl (by simp [Value.oneCell']) F42b.out ?_
            refine hK.out _ _ ?_ (fun hS' => ?_)
            · exact hS.row (by omega)
            clear hK K hS
            have hS := hS'
            clear hS'
            try simp only [Act.put]
            have M42c := Lib.hid (M42b.out.row (cs' := #[.int .i64 jk, .int .i64 js, .int .i64 jl, .bool jw, .int .i64 jp]) (show w.heap.size ≠ w.heap.size + 1 + 1 + 1 + 1 by omega))
            have U42c := Lib.hid (U42b.out.row (cs' := #[.int .i64 jk, .int .i64 js, .int .i64 jl, .bool jw, .int .i64 jp]) (show w.heap.size + 1 ≠ w.heap.size + 1 + 1 + 1 + 1 by omega))
            have T42c := Lib.hid (T42b.out.row (cs' := #[.int .i64 jk, .int .i64 js, .int .i64 jl, .bool jw, .int .i64 jp]) (show w.heap.size + 1 + 1 ≠ w.heap.size + 1 + 1 + 1 + 1 by omega))
            have H42c := Lib.hid (H42b.out.row (cs' := #[.int .i64 jk, .int .i64 js, .int .i64 jl, .bool jw, .int .i64 jp]) (show w.heap.size + 1 + 1 + 1 ≠ w.heap.size + 1 + 1 + 1 + 1 by omega))
            have F42c := Lib.hid (F42b.out.put (cs' := #[.int .i64 jk, .int .i64 js, .int .i64 jl, .bool jw, .int .i64 jp]))
            have X42c := Lib.hid (X42b.out.row (cs' := #[.int .i64 jk, .int .i64 js, .int .i64 jl, .bool jw, .int .i64 jp]) (show bX ≠ w.heap.size + 1 + 1 + 1 + 1 by omega))
            have Y42c := Lib.hid (Y42b.out.row (cs' := #[.int .i64 jk, .int .i64 js, .int .i64 jl, .bool jw, .int .i64 jp]) (show bX + 1 ≠ w.heap.size + 1 + 1 + 1 + 1 by omega))
            have D42c := Lib.hid (D42b.out.row (cs' := #[.int .i64 jk, .int .i64 js, .int .i64 jl, .bool jw, .int .i64 jp]) (show bD ≠ w.heap.size + 1 + 1 + 1 + 1 by omega))
            have O42c := Lib.hid (O42b.out.row (cs := #[.int .i64 jk, .int .i64 js, .int .i64 jl, .bool jw, .int .i64 jp]) (show w.heap.size + 1 + 1 + 1 + 1 < _ by omega))
            have B42c := Lib.hid (Below.rowB (g := w.heap.size + 1 + 1 + 1 + 1) B42b.out (cs := #[.int .i64 jk, .int .i64 js, .int .i64 jl, .bool jw, .int .i64 jp]) (by omega))
            clear M42b U42b T42b H42b F42b X42b Y42b D42b O42b B42b
            obtain ⟨V42c, hV⟩ : ∃ V42c, V42c = V42b.setRow (w.heap.size + 1 + 1 + 1 + 1) #[.int .i64 jk, .int .i64 js, .int .i64 jl, .bool jw, .int .i64 jp] := ⟨_, rfl⟩
            rw [← hV] at M42c U42c T42c H42c F42c X42c Y42c D42c B42c O42c hS ⊢
            clear hV
            refine tkR 5 12 rfl hS (fun w' hSw => by have hS0 := hSw; have c0_0 := hS0.get 0 (.int .i64 jk) rfl; have c0_1 := hS0.get 1 (.int .i64 js) rfl; have c0_2 := hS0.get 2 (.int .i64 jl) rfl; have c0_3 := hS0.get 3 (.bool jw) rfl; have c0_4 := hS0.get 4 (.int .i64 jp) rfl; clear hS0 hSw; go_simp; try with_reducible rfl) ?_
            simp only [pA, pB, pC]
            refine wpAnyH_done (by kernel_rfl) ?_ _
            try simp only [Act.put, List.setIfInBounds_toArray, List.set_cons_zero, List.set_cons_succ]
            clear hS
            have Hc0 := H42c.out.get 0 (.int .i64 0) rfl
            have Hc1 := H42c.out.get 1 (.int .i64 0) rfl
            have Hc2 := H42c.out.get 2 (.bool false) rfl
            have Hc3 := H42c.out.get 3 (.bool false) rfl
            have Hc4 := H42c.out.get 4 (.bool false) rfl
            have Hc5 := H42c.out.get 5 (.bool false) rfl
            have Hc6 := H42c.out.get 6 (.bool false) rfl
            have Hc7 := H42c.out.get 7 (.int .i64 0) rfl
            have Hc8 := H42c.out.get 8 (.int .i64 0) rfl
            have Fc0 := F42c.out.get 0 (.int .i64 jk) rfl
            have Fc1 := F42c.out.get 1 (.int .i64 js) rfl
            have Fc2 := F42c.out.get 2 (.int .i64 jl) rfl
            have Fc3 := F42c.out.get 3 (.bool jw) rfl
            have Fc4 := F42c.out.get 4 (.int .i64 jp) rfl
            rename_i KK hKK
            refine hKK _ _ ?_
            refine wp_ret ?_
            go_simp
            refine bodyPost_ret (v := .tuple #[.agg #[.int .i64 0, .int .i64 0, .bool false, .bool false, .bool false, .bool false, .bool false, .int .i64 0, .int .i64 0], .agg #[.int .i64 jk, .int .i64 js, .int .i64 jl, .bool jw, .int .i64 jp], .slice f41 (p + n1 + 1 + R2.length) c41]) (by simp [results, Tryz.results19, go_sem, Hc0, Hc1, Hc2, Hc3, Hc4, Hc5, Hc6, Hc7, Hc8, Fc0, Fc1, Fc2, Fc3, Fc4]) rfl ?_
            exact WalkEnd.mk' (hh := hit0) (ff := ⟨jk, js, jl, jw, jp⟩) (R := R ++ R1 ++ [hf] ++ R2) HE.out rfl (by have h1 := HP.out; have h2 := HN1.out; simp; omega) O42c.out (show w.heap.size ≤ w.heap.size + 5 by omega) B42c.out
        · obtain ⟨hk, hg9⟩ := hg
          clear hg9
          have HE := Lib.hid ((transS_flag HQA.out rfl HD.out rfl (by show (flagA ⟨dr, dw, dx, da, dn, ds⟩ acc 1 lv pg).k ≠ 0; rw [HG0.out]; exact hk)).symm.trans HQ.out)
          rw [show flagA (Dsc.at' ⟨2, df, dr, dw, dx, da, dn, ds, d0⟩) acc 1 lv pg = g from HG0.out] at HE
          obtain ⟨gk, gs, gl, gw, gp⟩ := g
          simp only at hk HE ⊢
          unfold fltV
          simp only
          have dk : decide (gk = 0) = false := decide_eq_false hk
          have bk : (gk == 0) = false := by rw [beq_int]; exact dk
          have HNY := Lib.hid (O10.out.ne_box Y10.out (by decide))
          have Yc0 := Y10.out.get 0 (.int .i64 0) rfl
          have Yc1 := Y10.out.get 1 (.int .i64 0) rfl
          have Yc2 := Y10.out.get 2 (.int .i64 0) rfl
          have Yc3 := Y10.out.get 3 (.bool false) rfl
          have Yc4 := Y10.out.get 4 (.int .i64 0) rfl
          have Yz0 := Y10.out.free 0
          have Yz1 := Y10.out.free 1
          have Yz2 := Y10.out.free 2
          have Yz3 := Y10.out.free 3
          have Yz4 := Y10.out.free 4
          go_upto_region 23 with fail
          have M11 := Lib.hid ((((((M10.out.other ⟨bX + 1, 0, none⟩ (.int .i64 gk) (by first | with_reducible assumption | (simp; done) | (simp; omega))).other ⟨bX + 1, 1, none⟩ (.int .i64 gs) (by first | with_reducible assumption | (simp; done) | (simp; omega))).other ⟨bX + 1, 2, none⟩ (.int .i64 gl) (by first | with_reducible assumption | (simp; done) | (simp; omega))).other ⟨bX + 1, 3, none⟩ (.bool gw) (by first | with_reducible assumption | (simp; done) | (simp; omega))).other ⟨bX + 1, 4, none⟩ (.int .i64 gp) (by first | with_reducible assumption | (simp; done) | (simp; omega))))
          have U11 := Lib.hid ((((((U10.out.other ⟨bX + 1, 0, none⟩ (.int .i64 gk) (by first | with_reducible assumption | (simp; done) | (simp; omega))).other ⟨bX + 1, 1, none⟩ (.int .i64 gs) (by first | with_reducible assumption | (simp; done) | (simp; omega))).other ⟨bX + 1, 2, none⟩ (.int .i64 gl) (by first | with_reducible assumption | (simp; done) | (simp; omega))).other ⟨bX + 1, 3, none⟩ (.bool gw) (by first | with_reducible assumption | (simp; done) | (simp; omega))).other ⟨bX + 1, 4, none⟩ (.int .i64 gp) (by first | with_reducible assumption | (simp; done) | (simp; omega))))
          have T11 := Lib.hid ((((((T10.out.other ⟨bX + 1, 0, none⟩ (.int .i64 gk) (by first | with_reducible assumption | (simp; done) | (simp; omega))).other ⟨bX + 1, 1, none⟩ (.int .i64 gs) (by first | with_reducible assumption | (simp; done) | (simp; omega))).other ⟨bX + 1, 2, none⟩ (.int .i64 gl) (by first | with_reducible assumption | (simp; done) | (simp; omega))).other ⟨bX + 1, 3, none⟩ (.bool gw) (by first | with_reducible assumption | (simp; done) | (simp; omega))).other ⟨bX + 1, 4, none⟩ (.int .i64 gp) (by first | with_reducible assumption | (simp; done) | (simp; omega))))
          have H11 := Lib.hid ((((((H10.out.other ⟨bX + 1, 0, none⟩ (.int .i64 gk) (by first | with_reducible assumption | (simp; done) | (simp; omega))).other ⟨bX + 1, 1, none⟩ (.int .i64 gs) (by first | with_reducible assumption | (simp; done) | (simp; omega))).other ⟨bX + 1, 2, none⟩ (.int .i64 gl) (by first | with_reducible assumption | (simp; done) | (simp; omega))).other ⟨bX + 1, 3, none⟩ (.bool gw) (by first | with_reducible assumption | (simp; done) | (simp; omega))).other ⟨bX + 1, 4, none⟩ (.int .i64 gp) (by first | with_reducible assumption | (simp; done) | (simp; omega))))
          have F11 := Lib.hid ((((((F10.out.other ⟨bX + 1, 0, none⟩ (.int .i64 gk) (by first | with_reducible assumption | (simp; done) | (simp; omega))).other ⟨bX + 1, 1, none⟩ (.int .i64 gs) (by first | with_reducible assumption | (simp; done) | (simp; omega))).other ⟨bX + 1, 2, none⟩ (.int .i64 gl) (by first | with_reducible assumption | (simp; done) | (simp; omega))).other ⟨bX + 1, 3, none⟩ (.bool gw) (by first | with_reducible assumption | (simp; done) | (simp; omega))).other ⟨bX + 1, 4, none⟩ (.int .i64 gp) (by first | with_reducible assumption | (simp; done) | (simp; omega))))
          have X11 := Lib.hid ((((((X10.out.other ⟨bX + 1, 0, none⟩ (.int .i64 gk) (by first | with_reducible assumption | (simp; done) | (simp; omega))).other ⟨bX + 1, 1, none⟩ (.int .i64 gs) (by first | with_reducible assumption | (simp; done) | (simp; omega))).other ⟨bX + 1, 2, none⟩ (.int .i64 gl) (by first | with_reducible assumption | (simp; done) | (simp; omega))).other ⟨bX + 1, 3, none⟩ (.bool gw) (by first | with_reducible assumption | (simp; done) | (simp; omega))).other ⟨bX + 1, 4, none⟩ (.int .i64 gp) (by first | with_reducible assumption | (simp; done) | (simp; omega))))
          have Y11 := Lib.hid ((((((Y10.out.set 0 (.int .i64 gk) #[.int .i64 gk, .int .i64 0, .int .i64 0, .bool false, .int .i64 0] rfl).set 1 (.int .i64 gs) #[.int .i64 gk, .int .i64 gs, .int .i64 0, .bool false, .int .i64 0] rfl).set 2 (.int .i64 gl) #[.int .i64 gk, .int .i64 gs, .int .i64 gl, .bool false, .int .i64 0] rfl).set 3 (.bool gw) #[.int .i64 gk, .int .i64 gs, .int .i64 gl, .bool gw, .int .i64 0] rfl).set 4 (.int .i64 gp) #[.int .i64 gk, .int .i64 gs, .int .i64 gl, .bool gw, .int .i64 gp] rfl))
          have D11 := Lib.hid ((((((D10.out.other ⟨bX + 1, 0, none⟩ (.int .i64 gk) (by first | with_reducible assumption | (simp; done) | (simp; omega))).other ⟨bX + 1, 1, none⟩ (.int .i64 gs) (by first | with_reducible assumption | (simp; done) | (simp; omega))).other ⟨bX + 1, 2, none⟩ (.int .i64 gl) (by first | with_reducible assumption | (simp; done) | (simp; omega))).other ⟨bX + 1, 3, none⟩ (.bool gw) (by first | with_reducible assumption | (simp; done) | (simp; omega))).other ⟨bX + 1, 4, none⟩ (.int .i64 gp) (by first | with_reducible assumption | (simp; done) | (simp; omega))))
          have O11 := Lib.hid ((((((O10.out.otherN ⟨bX + 1, 0, none⟩ (.int .i64 gk) HNY.out).otherN ⟨bX + 1, 1, none⟩ (.int .i64 gs) HNY.out).otherN ⟨bX + 1, 2, none⟩ (.int .i64 gl) HNY.out).otherN ⟨bX + 1, 3, none⟩ (.bool gw) HNY.out).otherN ⟨bX + 1, 4, none⟩ (.int .i64 gp) HNY.out))
          have B11 := Lib.hid ((Below.setCell (Below.setCell (Below.setCell (Below.setCell (Below.setCell B10.out (p := ⟨bX + 1, 0, none⟩) (by first | with_reducible assumption | (simp; done) | (simp; omega)) (.int .i64 gk)) (p := ⟨bX + 1, 1, none⟩) (by first | with_reducible assumption | (simp; done) | (simp; omega)) (.int .i64 gs)) (p := ⟨bX + 1, 2, none⟩) (by first | with_reducible assumption | (simp; done) | (simp; omega)) (.int .i64 gl)) (p := ⟨bX + 1, 3, none⟩) (by first | with_reducible assumption | (simp; done) | (simp; omega)) (.bool gw)) (p := ⟨bX + 1, 4, none⟩) (by first | with_reducible assumption | (simp; done) | (simp; omega)) (.int .i64 gp)))
          clear Yc0 Yc1 Yc2 Yc3 Yc4 Yz0 Yz1 Yz2 Yz3 Yz4
          clear M10 U10 T10 H10 F10 X10 Y10 D10 O10 B10
          obtain ⟨W7, hWW⟩ : ∃ W7, W7 = (((((w9).setCell ⟨bX + 1, 0, none⟩ (.int .i64 gk)).setCell ⟨bX + 1, 1, none⟩ (.int .i64 gs)).setCell ⟨bX + 1, 2, none⟩ (.int .i64 gl)).setCell ⟨bX + 1, 3, none⟩ (.bool gw)).setCell ⟨bX + 1, 4, none⟩ (.int .i64 gp) := ⟨_, rfl⟩
          rw [← hWW] at M11 U11 T11 H11 F11 X11 Y11 D11 B11 O11 ⊢
          clear hWW
          have Yc0 := Y11.out.get 0 (.int .i64 gk) rfl
          go_upto_region 24 with fail
          clear Yc0
          refine wp_region_held_drew (S := (fun w' => BoxAt w' (bX + 1) #[.int .i64 gk, .int .i64 gs, .int .i64 gl, .bool gw, .int .i64 gp] 38)) (by kernel_rfl) Y11.out.drew (fun hS => ?_)
          have M12a := Lib.hid (M11.out.drew)
          have U12a := Lib.hid (U11.out.drew)
          have T12a := Lib.hid (T11.out.drew)
          have H12a := Lib.hid (H11.out.drew)
          have F12a := Lib.hid (F11.out.drew)
          have X12a := Lib.hid (X11.out.drew)
          have Y12a := Lib.hid (Y11.out.drew)
          have D12a := Lib.hid (D11.out.drew)
          have O12a := Lib.hid (O11.out.drew)
          have B12a := Lib.hid (Below.drew B11.out)
          clear M11 U11 T11 H11 F11 X11 Y11 D11 O11 B11
          obtain ⟨V12a, hV⟩ : ∃ V12a, V12a = W7.drew := ⟨_, rfl⟩
          rw [← hV] at M12a U12a T12a H12a F12a X12a Y12a D12a B12a O12a hS ⊢
          clear hV
          refine tkR 0 104 rfl hS (fun w' hSw => by have hS0 := hSw; have c0_0 := hS0.get 0 (.int .i64 gk) rfl; have c0_1 := hS0.get 1 (.int .i64 gs) rfl; have c0_2 := hS0.get 2 (.int .i64 gl) rfl; have c0_3 := hS0.get 3 (.bool gw) rfl; have c0_4 := hS0.get 4 (.int .i64 gp) rfl; clear hS0 hSw; go_simp; try with_reducible rfl) ?_
          simp only [pA, pB, pC]
          refine tkR 1 105 rfl hS (fun w' hSw => by have hS0 := hSw; have c0_0 := hS0.get 0 (.int .i64 gk) rfl; have c0_1 := hS0.get 1 (.int .i64 gs) rfl; have c0_2 := hS0.get 2 (.int .i64 gl) rfl; have c0_3 := hS0.get 3 (.bool gw) rfl; have c0_4 := hS0.get 4 (.int .i64 gp) rfl; clear hS0 hSw; go_simp; try with_reducible rfl) ?_
          simp only [pA, pB, pC]
          refine tkR 2 106 rfl hS (fun w' hSw => by have hS0 := hSw; have c0_0 := hS0.get 0 (.int .i64 gk) rfl; have c0_1 := hS0.get 1 (.int .i64 gs) rfl; have c0_2 := hS0.get 2 (.int .i64 gl) rfl; have c0_3 := hS0.get 3 (.bool gw) rfl; have c0_4 := hS0.get 4 (.int .i64 gp) rfl; clear hS0 hSw; go_simp; try with_reducible rfl) ?_
          simp only [pA, pB, pC]
          refine wpAnyH_ready (rs := [3]) (by kernel_rfl) (by simp) ?_
          refine AllReadyH.cons (o := ⟨none, _, _, _, _, _⟩) rfl (fun K hK => ?_) AllReadyH.nil
          refine step_storeB rfl 36 _ _ rfl _ _ z9 36 rfl rfl (by kernel_rfl) rfl (by simp [Value.oneCell']) H12a.out ?_
          refine hK.out _ _ ?_ (fun hS' => ?_)
          · exact hS.row (by omega)
          clear hK K hS
          have hS := hS'
          clear hS'
          try simp only [Act.put]
          have M12b := Lib.hid (M12a.out.row (cs' := #[.int .i64 0, .int .i64 0, .bool false, .bool false, .bool false, .bool false, .bool false, .int .i64 0, .int .i64 0]) (show w.heap.size ≠ w.heap.size + 1 + 1 + 1 by omega))
          have U12b := Lib.hid (U12a.out.row (cs' := #[.int .i64 0, .int .i64 0, .bool false, .bool false, .bool false, .bool false, .bool false, .int .i64 0, .int .i64 0]) (show w.heap.size + 1 ≠ w.heap.size + 1 + 1 + 1 by omega))
          have T12b := Lib.hid (T12a.out.row (cs' := #[.int .i64 0, .int .i64 0, .bool false, .bool false, .bool false, .bool false, .bool false, .int .i64 0, .int .i64 0]) (show w.heap.size + 1 + 1 ≠ w.heap.size + 1 + 1 + 1 by omega))
          have H12b := Lib.hid (H12a.out.put (cs' := #[.int .i64 0, .int .i64 0, .bool false, .bool false, .bool false, .bool false, .bool false, .int .i64 0, .int .i64 0]))
          have F12b := Lib.hid (F12a.out.row (cs' := #[.int .i64 0, .int .i64 0, .bool false, .bool false, .bool false, .bool false, .bool false, .int .i64 0, .int .i64 0]) (show w.heap.size + 1 + 1 + 1 + 1 ≠ w.heap.size + 1 + 1 + 1 by omega))
          have X12b := Lib.hid (X12a.out.row (cs' := #[.int .i64 0, .int .i64 0, .bool false, .bool false, .bool false, .bool false, .bool false, .int .i64 0, .int .i64 0]) (show bX ≠ w.heap.size + 1 + 1 + 1 by omega))
          have Y12b := Lib.hid (Y12a.out.row (cs' := #[.int .i64 0, .int .i64 0, .bool false, .bool false, .bool false, .bool false, .bool false, .int .i64 0, .int .i64 0]) (show bX + 1 ≠ w.heap.size + 1 + 1 + 1 by omega))
          have D12b := Lib.hid (D12a.out.row (cs' := #[.int .i64 0, .int .i64 0, .bool false, .bool false, .bool false, .bool false, .bool false, .int .i64 0, .int .i64 0]) (show bD ≠ w.heap.size + 1 + 1 + 1 by omega))
          have O12b := Lib.hid (O12a.out.row (cs := #[.int .i64 0, .int .i64 0, .bool false, .bool false, .bool false, .bool false, .bool false, .int .i64 0, .int .i64 0]) (show w.heap.size + 1 + 1 + 1 < _ by omega))
          have B12b := Lib.hid (Below.rowB (g := w.heap.size + 1 + 1 + 1) B12a.out (cs := #[.int .i64 0, .int .i64 0, .bool false, .bool false, .bool false, .bool false, .bool false, .int .i64 0, .int .i64 0]) (by omega))
          clear M12a U12a T12a H12a F12a X12a Y12a D12a O12a B12a
          obtain ⟨V12b, hV⟩ : ∃ V12b, V12b = V12a.setRow (w.heap.size + 1 + 1 + 1) #[.int .i64 0, .int .i64 0, .bool false, .bool false, .bool false, .bool false, .bool false, .int .i64 0, .int .i64 0] := ⟨_, rfl⟩
          rw [← hV] at M12b U12b T12b H12b F12b X12b Y12b D12b B12b O12b hS ⊢
          clear hV
          refine wpAnyH_ready (rs := [4]) (by kernel_rfl) (by simp) ?_
          refine AllReadyH.cons (o := ⟨none, _, _, _, _, _⟩) rfl (fun K hK => ?_) AllReadyH.nil
          refine step_storeB rfl 38 _ _ rfl _ _ z5 38 rfl rfl (by kernel_rfl) rfl (by simp [Value.oneCell']) F12b.out ?_
          refine hK.out _ _ ?_ (fun hS' => ?_)
          · exact hS.row (by omega)
          clear hK K hS
          have hS := hS'
          clear hS'
          try simp only [Act.put]
          have M12c := Lib.hid (M12b.out.row (cs' := #[.int .i64 gk, .int .i64 gs, .int .i64 gl, .bool gw, .int .i64 gp]) (show w.heap.size ≠ w.heap.size + 1 + 1 + 1 + 1 by omega))
          have U12c := Lib.hid (U12b.out.row (cs' := #[.int .i64 gk, .int .i64 gs, .int .i64 gl, .bool gw, .int .i64 gp]) (show w.heap.size + 1 ≠ w.heap.size + 1 + 1 + 1 + 1 by omega))
          have T12c := Lib.hid (T12b.out.row (cs' := #[.int .i64 gk, .int .i64 gs, .int .i64 gl, .bool gw, .int .i64 gp]) (show w.heap.size + 1 + 1 ≠ w.heap.size + 1 + 1 + 1 + 1 by omega))
          have H12c := Lib.hid (H12b.out.row (cs' := #[.int .i64 gk, .int .i64 gs, .int .i64 gl, .bool gw, .int .i64 gp]) (show w.heap.size + 1 + 1 + 1 ≠ w.heap.size + 1 + 1 + 1 + 1 by omega))
          have F12c := Lib.hid (F12b.out.put (cs' := #[.int .i64 gk, .int .i64 gs, .int .i64 gl, .bool gw, .int .i64 gp]))
          have X12c := Lib.hid (X12b.out.row (cs' := #[.int .i64 gk, .int .i64 gs, .int .i64 gl, .bool gw, .int .i64 gp]) (show bX ≠ w.heap.size + 1 + 1 + 1 + 1 by omega))
          have Y12c := Lib.hid (Y12b.out.row (cs' := #[.int .i64 gk, .int .i64 gs, .int .i64 gl, .bool gw, .int .i64 gp]) (show bX + 1 ≠ w.heap.size + 1 + 1 + 1 + 1 by omega))
          have D12c := Lib.hid (D12b.out.row (cs' := #[.int .i64 gk, .int .i64 gs, .int .i64 gl, .bool gw, .int .i64 gp]) (show bD ≠ w.heap.size + 1 + 1 + 1 + 1 by omega))
          have O12c := Lib.hid (O12b.out.row (cs := #[.int .i64 gk, .int .i64 gs, .int .i64 gl, .bool gw, .int .i64 gp]) (show w.heap.size + 1 + 1 + 1 + 1 < _ by omega))
          have B12c := Lib.hid (Below.rowB (g := w.heap.size + 1 + 1 + 1 + 1) B12b.out (cs := #[.int .i64 gk, .int .i64 gs, .int .i64 gl, .bool gw, .int .i64 gp]) (by omega))
          clear M12b U12b T12b H12b F12b X12b Y12b D12b O12b B12b
          obtain ⟨V12c, hV⟩ : ∃ V12c, V12c = V12b.setRow (w.heap.size + 1 + 1 + 1 + 1) #[.int .i64 gk, .int .i64 gs, .int .i64 gl, .bool gw, .int .i64 gp] := ⟨_, rfl⟩
          rw [← hV] at M12c U12c T12c H12c F12c X12c Y12c D12c B12c O12c hS ⊢
          clear hV
          refine tkR 5 12 rfl hS (fun w' hSw => by have hS0 := hSw; have c0_0 := hS0.get 0 (.int .i64 gk) rfl; have c0_1 := hS0.get 1 (.int .i64 gs) rfl; have c0_2 := hS0.get 2 (.int .i64 gl) rfl; have c0_3 := hS0.get 3 (.bool gw) rfl; have c0_4 := hS0.get 4 (.int .i64 gp) rfl; clear hS0 hSw; go_simp; try with_reducible rfl) ?_
          simp only [pA, pB, pC]
          refine wpAnyH_done (by kernel_rfl) ?_ _
          try simp only [Act.put, List.setIfInBounds_toArray, List.set_cons_zero, List.set_cons_succ]
          clear hS
          have Hc0 := H12c.out.get 0 (.int .i64 0) rfl
          have Hc1 := H12c.out.get 1 (.int .i64 0) rfl
          have Hc2 := H12c.out.get 2 (.bool false) rfl
          have Hc3 := H12c.out.get 3 (.bool false) rfl
          have Hc4 := H12c.out.get 4 (.bool false) rfl
          have Hc5 := H12c.out.get 5 (.bool false) rfl
          have Hc6 := H12c.out.get 6 (.bool false) rfl
          have Hc7 := H12c.out.get 7 (.int .i64 0) rfl
          have Hc8 := H12c.out.get 8 (.int .i64 0) rfl
          have Fc0 := F12c.out.get 0 (.int .i64 gk) rfl
          have Fc1 := F12c.out.get 1 (.int .i64 gs) rfl
          have Fc2 := F12c.out.get 2 (.int .i64 gl) rfl
          have Fc3 := F12c.out.get 3 (.bool gw) rfl
          have Fc4 := F12c.out.get 4 (.int .i64 gp) rfl
          rename_i KK hKK
          refine hKK _ _ ?_
          refine wp_ret ?_
          go_simp
          refine bodyPost_ret (v := .tuple #[.agg #[.int .i64 0, .int .i64 0, .bool false, .bool false, .bool false, .bool false, .bool false, .int .i64 0, .int .i64 0], .agg #[.int .i64 gk, .int .i64 gs, .int .i64 gl, .bool gw, .int .i64 gp], .slice f6 (p + n1 + 1) c6]) (by simp [results, Tryz.results19, go_sem, Hc0, Hc1, Hc2, Hc3, Hc4, Hc5, Hc6, Hc7, Hc8, Fc0, Fc1, Fc2, Fc3, Fc4]) rfl ?_
          exact WalkEnd.mk' (hh := hit0) (ff := ⟨gk, gs, gl, gw, gp⟩) (R := R ++ R1 ++ [hf]) HE.out rfl (by have h1 := HP.out; have h2 := HN1.out; simp; omega) O12c.out (show w.heap.size ≤ w.heap.size + 5 by omega) B12c.out
    · obtain ⟨hk, hh0⟩ := hq
      have HE := Lib.hid ((transS_walk HQA.out hk).symm.trans HQ.out)
      simp only [hit0, atr0, Hit.mk.injEq, Atr.mk.injEq] at hh0
      obtain ⟨rfl, rfl, ⟨rfl, rfl, rfl, rfl, rfl, rfl⟩, rfl⟩ := hh0
      simp only at HE
      have dk : decide (gk = 0) = false := decide_eq_false hk
      have bk : (gk == 0) = false := by rw [beq_int]; exact dk
      go_upto_region 12 with fail
      have M4 := Lib.hid (((M3.out.alloc (.cells z9 36)).alloc (.cells #[.int .i64 gk, .int .i64 gs, .int .i64 gl, .bool gw, .int .i64 gp] 38)))
      have U4 := Lib.hid (((U3.out.alloc (.cells z9 36)).alloc (.cells #[.int .i64 gk, .int .i64 gs, .int .i64 gl, .bool gw, .int .i64 gp] 38)))
      have T4 := Lib.hid (((T3.out.alloc (.cells z9 36)).alloc (.cells #[.int .i64 gk, .int .i64 gs, .int .i64 gl, .bool gw, .int .i64 gp] 38)))
      have H4 := Lib.hid (((H3.out.alloc (.cells z9 36)).alloc (.cells #[.int .i64 gk, .int .i64 gs, .int .i64 gl, .bool gw, .int .i64 gp] 38)))
      have F4 := Lib.hid (((F3.out.alloc (.cells z9 36)).alloc (.cells #[.int .i64 gk, .int .i64 gs, .int .i64 gl, .bool gw, .int .i64 gp] 38)))
      have X4 := Lib.hid (((BoxAt.newAt (w2) z9 36 (w2.heap.size) (by first | rfl | (simp; done) | (simp; omega))).alloc (.cells #[.int .i64 gk, .int .i64 gs, .int .i64 gl, .bool gw, .int .i64 gp] 38)))
      have Y4 := Lib.hid ((BoxAt.newAt ((w2).alloc (.cells z9 36)) #[.int .i64 gk, .int .i64 gs, .int .i64 gl, .bool gw, .int .i64 gp] 38 (w2.heap.size + 1) (by first | rfl | (simp; done) | (simp; omega))))
      have O4 := Lib.hid (((O3.out.alloc (.cells z9 36)).alloc (.cells #[.int .i64 gk, .int .i64 gs, .int .i64 gl, .bool gw, .int .i64 gp] 38)))
      have OA4 := Lib.hid (((OA2.out.alloc (.cells z9 36)).alloc (.cells #[.int .i64 gk, .int .i64 gs, .int .i64 gl, .bool gw, .int .i64 gp] 38)))
      have B4 := Lib.hid ((bel_alloc (bel_alloc B3.out (.cells z9 36)) (.cells #[.int .i64 gk, .int .i64 gs, .int .i64 gl, .bool gw, .int .i64 gp] 38)))
      clear M3 U3 T3 H3 F3 O3 OA2 B3
      obtain ⟨bX, hbX⟩ : ∃ bX, bX = w2.heap.size := ⟨_, rfl⟩
      have hgX : w.heap.size + 1 + 1 + 1 + 1 < bX := by rw [hbX]; exact hlF2
      obtain ⟨W8, hWW⟩ : ∃ W8, W8 = (w2.alloc (.cells z9 36)).alloc (.cells #[.int .i64 gk, .int .i64 gs, .int .i64 gl, .bool gw, .int .i64 gp] 38) := ⟨_, rfl⟩
      rw [← hWW] at M4 U4 T4 H4 F4 X4 Y4 B4 O4 OA4 ⊢
      clear hWW
      rw [← hbX] at X4 Y4 ⊢
      clear hbX
      have HNX5 := Lib.hid (O4.out.ne_box X4.out (by decide))
      have HNY5 := Lib.hid (O4.out.ne_box Y4.out (by decide))
      have hs5 : w.heap.size + 5 ≤ W8.heap.size := by have := F4.out.lt; omega
      go_upto_region 13 with (at_builtin; refine wpList_rowI rfl _ _ rfl (w.heap.size + 5) _ (p) (n1) _ _ (R) R1 rfl O4.out HP.out rfl OA4.out HN1.out (by omega) hs5 ?_; intro f5 c5 W3 hO5 hg5; have hb5 := (Below.refl (w.heap.size + 5) W8).grown hg5 hs5 O4.out.blk; have O5 := Lib.hid hO5; have M5 := Lib.hid (M4.out.under hb5 (by omega)); have U5 := Lib.hid (U4.out.under hb5 (by omega)); have T5 := Lib.hid (T4.out.under hb5 (by omega)); have H5 := Lib.hid (H4.out.under hb5 (by omega)); have F5 := Lib.hid (F4.out.under hb5 (by omega)); have X5 := Lib.hid (X4.out.grown hg5 HNX5.out); have Y5 := Lib.hid (Y4.out.grown hg5 HNY5.out); have B5 := Lib.hid (B4.out.trans (hb5.mono (by omega))); clear M4 U4 T4 H4 F4 X4 Y4 B4 O4 OA4 hO5 hg5 hb5 hs5 HNX5 HNY5)
      have Yc0 := Y5.out.get 0 (.int .i64 gk) rfl
      have Yc3 := Y5.out.get 3 (.bool gw) rfl
      have Yz3 := Y5.out.free 3
      have HNY := Lib.hid (O5.out.ne_box Y5.out (by decide))
      go_upto_region 15 with fail
      have M6 := Lib.hid ((M5.out.other ⟨bX + 1, 3, none⟩ (.bool true) (by first | with_reducible assumption | (simp; done) | (simp; omega))))
      have U6 := Lib.hid ((U5.out.other ⟨bX + 1, 3, none⟩ (.bool true) (by first | with_reducible assumption | (simp; done) | (simp; omega))))
      have T6 := Lib.hid ((T5.out.other ⟨bX + 1, 3, none⟩ (.bool true) (by first | with_reducible assumption | (simp; done) | (simp; omega))))
      have H6 := Lib.hid ((H5.out.other ⟨bX + 1, 3, none⟩ (.bool true) (by first | with_reducible assumption | (simp; done) | (simp; omega))))
      have F6 := Lib.hid ((F5.out.other ⟨bX + 1, 3, none⟩ (.bool true) (by first | with_reducible assumption | (simp; done) | (simp; omega))))
      have X6 := Lib.hid ((X5.out.other ⟨bX + 1, 3, none⟩ (.bool true) (by first | with_reducible assumption | (simp; done) | (simp; omega))))
      have Y6 := Lib.hid ((Y5.out.set 3 (.bool true) #[.int .i64 gk, .int .i64 gs, .int .i64 gl, .bool true, .int .i64 gp] rfl))
      have O6 := Lib.hid ((O5.out.otherN ⟨bX + 1, 3, none⟩ (.bool true) HNY.out))
      have B6 := Lib.hid ((Below.setCell B5.out (p := ⟨bX + 1, 3, none⟩) (by first | with_reducible assumption | (simp; done) | (simp; omega)) (.bool true)))
      clear Yc0 Yc3 Yz3
      clear M5 U5 T5 H5 F5 X5 Y5 O5 B5
      obtain ⟨W7, hWW⟩ : ∃ W7, W7 = (W3).setCell ⟨bX + 1, 3, none⟩ (.bool true) := ⟨_, rfl⟩
      rw [← hWW] at M6 U6 T6 H6 F6 X6 Y6 B6 O6 ⊢
      clear hWW
      refine wp_region_held_drew (S := (fun w' => BoxAt w' (bX + 1) #[.int .i64 gk, .int .i64 gs, .int .i64 gl, .bool true, .int .i64 gp] 38)) (by kernel_rfl) Y6.out.drew (fun hS => ?_)
      have M7a := Lib.hid (M6.out.drew)
      have U7a := Lib.hid (U6.out.drew)
      have T7a := Lib.hid (T6.out.drew)
      have H7a := Lib.hid (H6.out.drew)
      have F7a := Lib.hid (F6.out.drew)
      have X7a := Lib.hid (X6.out.drew)
      have Y7a := Lib.hid (Y6.out.drew)
      have O7a := Lib.hid (O6.out.drew)
      have B7a := Lib.hid (Below.drew B6.out)
      clear M6 U6 T6 H6 F6 X6 Y6 O6 B6
      obtain ⟨V7a, hV⟩ : ∃ V7a, V7a = W7.drew := ⟨_, rfl⟩
      rw [← hV] at M7a U7a T7a H7a F7a X7a Y7a B7a O7a hS ⊢
      clear hV
      refine tkR 0 68 rfl hS (fun w' hSw => by have hS0 := hSw; have c0_0 := hS0.get 0 (.int .i64 gk) rfl; have c0_1 := hS0.get 1 (.int .i64 gs) rfl; have c0_2 := hS0.get 2 (.int .i64 gl) rfl; have c0_3 := hS0.get 3 (.bool true) rfl; have c0_4 := hS0.get 4 (.int .i64 gp) rfl; clear hS0 hSw; go_simp; try with_reducible rfl) ?_
      simp only [pA, pB, pC]
      refine tkR 1 69 rfl hS (fun w' hSw => by have hS0 := hSw; have c0_0 := hS0.get 0 (.int .i64 gk) rfl; have c0_1 := hS0.get 1 (.int .i64 gs) rfl; have c0_2 := hS0.get 2 (.int .i64 gl) rfl; have c0_3 := hS0.get 3 (.bool true) rfl; have c0_4 := hS0.get 4 (.int .i64 gp) rfl; clear hS0 hSw; go_simp; try with_reducible rfl) ?_
      simp only [pA, pB, pC]
      refine tkR 2 70 rfl hS (fun w' hSw => by have hS0 := hSw; have c0_0 := hS0.get 0 (.int .i64 gk) rfl; have c0_1 := hS0.get 1 (.int .i64 gs) rfl; have c0_2 := hS0.get 2 (.int .i64 gl) rfl; have c0_3 := hS0.get 3 (.bool true) rfl; have c0_4 := hS0.get 4 (.int .i64 gp) rfl; clear hS0 hSw; go_simp; try with_reducible rfl) ?_
      simp only [pA, pB, pC]
      refine wpAnyH_ready (rs := [3]) (by kernel_rfl) (by simp) ?_
      refine AllReadyH.cons (o := ⟨none, _, _, _, _, _⟩) rfl (fun K hK => ?_) AllReadyH.nil
      refine step_storeB rfl 36 _ _ rfl _ _ z9 36 rfl rfl (by kernel_rfl) rfl (by simp [Value.oneCell']) H7a.out ?_
      refine hK.out _ _ ?_ (fun hS' => ?_)
      · exact hS.row (by omega)
      clear hK K hS
      have hS := hS'
      clear hS'
      try simp only [Act.put]
      have M7b := Lib.hid (M7a.out.row (cs' := #[.int .i64 0, .int .i64 0, .bool false, .bool false, .bool false, .bool false, .bool false, .int .i64 0, .int .i64 0]) (show w.heap.size ≠ w.heap.size + 1 + 1 + 1 by omega))
      have U7b := Lib.hid (U7a.out.row (cs' := #[.int .i64 0, .int .i64 0, .bool false, .bool false, .bool false, .bool false, .bool false, .int .i64 0, .int .i64 0]) (show w.heap.size + 1 ≠ w.heap.size + 1 + 1 + 1 by omega))
      have T7b := Lib.hid (T7a.out.row (cs' := #[.int .i64 0, .int .i64 0, .bool false, .bool false, .bool false, .bool false, .bool false, .int .i64 0, .int .i64 0]) (show w.heap.size + 1 + 1 ≠ w.heap.size + 1 + 1 + 1 by omega))
      have H7b := Lib.hid (H7a.out.put (cs' := #[.int .i64 0, .int .i64 0, .bool false, .bool false, .bool false, .bool false, .bool false, .int .i64 0, .int .i64 0]))
      have F7b := Lib.hid (F7a.out.row (cs' := #[.int .i64 0, .int .i64 0, .bool false, .bool false, .bool false, .bool false, .bool false, .int .i64 0, .int .i64 0]) (show w.heap.size + 1 + 1 + 1 + 1 ≠ w.heap.size + 1 + 1 + 1 by omega))
      have X7b := Lib.hid (X7a.out.row (cs' := #[.int .i64 0, .int .i64 0, .bool false, .bool false, .bool false, .bool false, .bool false, .int .i64 0, .int .i64 0]) (show bX ≠ w.heap.size + 1 + 1 + 1 by omega))
      have Y7b := Lib.hid (Y7a.out.row (cs' := #[.int .i64 0, .int .i64 0, .bool false, .bool false, .bool false, .bool false, .bool false, .int .i64 0, .int .i64 0]) (show bX + 1 ≠ w.heap.size + 1 + 1 + 1 by omega))
      have O7b := Lib.hid (O7a.out.row (cs := #[.int .i64 0, .int .i64 0, .bool false, .bool false, .bool false, .bool false, .bool false, .int .i64 0, .int .i64 0]) (show w.heap.size + 1 + 1 + 1 < _ by omega))
      have B7b := Lib.hid (Below.rowB (g := w.heap.size + 1 + 1 + 1) B7a.out (cs := #[.int .i64 0, .int .i64 0, .bool false, .bool false, .bool false, .bool false, .bool false, .int .i64 0, .int .i64 0]) (by omega))
      clear M7a U7a T7a H7a F7a X7a Y7a O7a B7a
      obtain ⟨V7b, hV⟩ : ∃ V7b, V7b = V7a.setRow (w.heap.size + 1 + 1 + 1) #[.int .i64 0, .int .i64 0, .bool false, .bool false, .bool false, .bool false, .bool false, .int .i64 0, .int .i64 0] := ⟨_, rfl⟩
      rw [← hV] at M7b U7b T7b H7b F7b X7b Y7b B7b O7b hS ⊢
      clear hV
      refine wpAnyH_ready (rs := [4]) (by kernel_rfl) (by simp) ?_
      refine AllReadyH.cons (o := ⟨none, _, _, _, _, _⟩) rfl (fun K hK => ?_) AllReadyH.nil
      refine step_storeB rfl 38 _ _ rfl _ _ z5 38 rfl rfl (by kernel_rfl) rfl (by simp [Value.oneCell']) F7b.out ?_
      refine hK.out _ _ ?_ (fun hS' => ?_)
      · exact hS.row (by omega)
      clear hK K hS
      have hS := hS'
      clear hS'
      try simp only [Act.put]
      have M7c := Lib.hid (M7b.out.row (cs' := #[.int .i64 gk, .int .i64 gs, .int .i64 gl, .bool true, .int .i64 gp]) (show w.heap.size ≠ w.heap.size + 1 + 1 + 1 + 1 by omega))
      have U7c := Lib.hid (U7b.out.row (cs' := #[.int .i64 gk, .int .i64 gs, .int .i64 gl, .bool true, .int .i64 gp]) (show w.heap.size + 1 ≠ w.heap.size + 1 + 1 + 1 + 1 by omega))
      have T7c := Lib.hid (T7b.out.row (cs' := #[.int .i64 gk, .int .i64 gs, .int .i64 gl, .bool true, .int .i64 gp]) (show w.heap.size + 1 + 1 ≠ w.heap.size + 1 + 1 + 1 + 1 by omega))
      have H7c := Lib.hid (H7b.out.row (cs' := #[.int .i64 gk, .int .i64 gs, .int .i64 gl, .bool true, .int .i64 gp]) (show w.heap.size + 1 + 1 + 1 ≠ w.heap.size + 1 + 1 + 1 + 1 by omega))
      have F7c := Lib.hid (F7b.out.put (cs' := #[.int .i64 gk, .int .i64 gs, .int .i64 gl, .bool true, .int .i64 gp]))
      have X7c := Lib.hid (X7b.out.row (cs' := #[.int .i64 gk, .int .i64 gs, .int .i64 gl, .bool true, .int .i64 gp]) (show bX ≠ w.heap.size + 1 + 1 + 1 + 1 by omega))
      have Y7c := Lib.hid (Y7b.out.row (cs' := #[.int .i64 gk, .int .i64 gs, .int .i64 gl, .bool true, .int .i64 gp]) (show bX + 1 ≠ w.heap.size + 1 + 1 + 1 + 1 by omega))
      have O7c := Lib.hid (O7b.out.row (cs := #[.int .i64 gk, .int .i64 gs, .int .i64 gl, .bool true, .int .i64 gp]) (show w.heap.size + 1 + 1 + 1 + 1 < _ by omega))
      have B7c := Lib.hid (Below.rowB (g := w.heap.size + 1 + 1 + 1 + 1) B7b.out (cs := #[.int .i64 gk, .int .i64 gs, .int .i64 gl, .bool true, .int .i64 gp]) (by omega))
      clear M7b U7b T7b H7b F7b X7b Y7b O7b B7b
      obtain ⟨V7c, hV⟩ : ∃ V7c, V7c = V7b.setRow (w.heap.size + 1 + 1 + 1 + 1) #[.int .i64 gk, .int .i64 gs, .int .i64 gl, .bool true, .int .i64 gp] := ⟨_, rfl⟩
      rw [← hV] at M7c U7c T7c H7c F7c X7c Y7c B7c O7c hS ⊢
      clear hV
      refine tkR 5 12 rfl hS (fun w' hSw => by have hS0 := hSw; have c0_0 := hS0.get 0 (.int .i64 gk) rfl; have c0_1 := hS0.get 1 (.int .i64 gs) rfl; have c0_2 := hS0.get 2 (.int .i64 gl) rfl; have c0_3 := hS0.get 3 (.bool true) rfl; have c0_4 := hS0.get 4 (.int .i64 gp) rfl; clear hS0 hSw; go_simp; try with_reducible rfl) ?_
      simp only [pA, pB, pC]
      refine wpAnyH_done (by kernel_rfl) ?_ _
      try simp only [Act.put, List.setIfInBounds_toArray, List.set_cons_zero, List.set_cons_succ]
      clear hS
      have Hc0 := H7c.out.get 0 (.int .i64 0) rfl
      have Hc1 := H7c.out.get 1 (.int .i64 0) rfl
      have Hc2 := H7c.out.get 2 (.bool false) rfl
      have Hc3 := H7c.out.get 3 (.bool false) rfl
      have Hc4 := H7c.out.get 4 (.bool false) rfl
      have Hc5 := H7c.out.get 5 (.bool false) rfl
      have Hc6 := H7c.out.get 6 (.bool false) rfl
      have Hc7 := H7c.out.get 7 (.int .i64 0) rfl
      have Hc8 := H7c.out.get 8 (.int .i64 0) rfl
      have Fc0 := F7c.out.get 0 (.int .i64 gk) rfl
      have Fc1 := F7c.out.get 1 (.int .i64 gs) rfl
      have Fc2 := F7c.out.get 2 (.int .i64 gl) rfl
      have Fc3 := F7c.out.get 3 (.bool true) rfl
      have Fc4 := F7c.out.get 4 (.int .i64 gp) rfl
      rename_i KK hKK
      refine hKK _ _ ?_
      refine wp_ret ?_
      go_simp
      refine bodyPost_ret (v := .tuple #[.agg #[.int .i64 0, .int .i64 0, .bool false, .bool false, .bool false, .bool false, .bool false, .int .i64 0, .int .i64 0], .agg #[.int .i64 gk, .int .i64 gs, .int .i64 gl, .bool true, .int .i64 gp], .slice f5 (p + n1) c5]) (by simp [results, Tryz.results19, go_sem, Hc0, Hc1, Hc2, Hc3, Hc4, Hc5, Hc6, Hc7, Hc8, Fc0, Fc1, Fc2, Fc3, Fc4]) rfl ?_
      exact WalkEnd.mk' (hh := hit0) (ff := ⟨gk, gs, gl, true, gp⟩) (R := R ++ R1) HE.out rfl (by have h1 := HP.out; have h2 := HN1.out; simp; omega) O7c.out (show w.heap.size ≤ w.heap.size + 5 by omega) B7c.out
end Go.Proofs.YtpelolokdmfbdaaGreat
