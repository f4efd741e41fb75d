/- Two stages plainly; the reference's Mid: contract. -/
import Derived.Test.YtalbblaicmdhmaaGreatWr
import Derived.Test.YtalbblaicmdhmaaGreatTk
import Derived.Test.YtalbblaicmdhmaaGreatPa
import Derived.Test.YtalbblaicmdhmaaGreatNe
set_option linter.all false
namespace Go.Proofs.YtalbblaicmdhmaaGreat
open Go.ChangeShapes Go.WideShapes Go.ChangeAt Go.RowKit Go.Deep

/-- What stage 2 makes of an intermediate page. -/
def midD (l : Nat) (X : Nat → BitVec 64) (on : Bool) (tf mid acc : Int) : Hit × Flt × List Int :=
  if on = false then (if (l : Int) / 8 ≤ mid then (hit0, ⟨1, 2, 0, false, mid⟩, []) else (⟨mid, mid, both1, 0⟩, flt0, []))
  else if (walkD l X 2 tf mid).2.1.k = 0 then
    (if (flagA (walkD l X 2 tf mid).1.t acc 2 (walkD l X 2 tf mid).1.l mid).k = 0
      then (⟨(walkD l X 2 tf mid).1.f, mid, (walkD l X 2 tf mid).1.t, (walkD l X 2 tf mid).1.l⟩, flt0, (walkD l X 2 tf mid).2.2)
      else (hit0, flagA (walkD l X 2 tf mid).1.t acc 2 (walkD l X 2 tf mid).1.l mid, (walkD l X 2 tf mid).2.2))
  else (hit0, (walkD l X 2 tf mid).2.1, (walkD l X 2 tf mid).2.2)
theorem flag_cases (t : Atr) (acc st lv pg : Int) : flagA t acc st lv pg = flt0 ∨ ((flagA t acc st lv pg).k ≠ 0 ∧ (flagA t acc st lv pg).st = st ∧ (flagA t acc st lv pg).lv = lv ∧ (flagA t acc st lv pg).w = false ∧ (flagA t acc st lv pg).p = pg) := by
  unfold flagA
  split
  · exact .inr ⟨by simp, rfl, rfl, rfl, rfl⟩
  · split
    · exact .inr ⟨by simp, rfl, rfl, rfl, rfl⟩
    · exact .inl rfl
theorem walk_cases (l : Nat) (X : Nat → BitVec 64) (st fr pg : Int) (h0 : 0 ≤ fr) (hp : 0 ≤ pg) : (walkD l X st fr pg).2.2.length ≤ 4 ∧ (∀ x ∈ (walkD l X st fr pg).2.2, 0 ≤ x ∧ x < (l : Int) / 8) ∧
    (((walkD l X st fr pg).2.1 = flt0 ∧ (walkD l X st fr pg).1.l = ((walkD l X st fr pg).2.2.length : Int) - 1 ∧ 0 ≤ (walkD l X st fr pg).1.f ∧ (walkD l X st fr pg).1.f < (l : Int) / 8) ∨
     ((walkD l X st fr pg).2.1.k ≠ 0 ∧ (walkD l X st fr pg).1 = hit0 ∧ (walkD l X st fr pg).2.1.st = st ∧ (walkD l X st fr pg).2.1.p = pg ∧ ((walkD l X st fr pg).2.1.lv = ((walkD l X st fr pg).2.2.length : Int) ∨ (walkD l X st fr pg).2.1.lv = ((walkD l X st fr pg).2.2.length : Int) - 1))) :=
  walkS_read _ _ st pg (fun lv f => tbl_kind X st lv f pg) (fun lv f => (tbl_frame X st lv f pg).1) hp 4 0 fr [] (by decide) (by decide) h0 rfl (by simp)
set_option maxRecDepth 100000 in
set_option maxHeartbeats 3200000 in
theorem midR_any (f : Option Addr) (l c : Nat) (X : Nat → BitVec 64) (on : Bool) (tf tg mid acc : Int) (w : World) (hX : WordsAt w f l X) (hM : okM l = true) (t0 : 0 ≤ tf) (t1 : tf ≤ 4095) (m0 : 0 ≤ mid) (m1 : mid ≤ 4095) :
    Calls Tryz.prog 12 #[.agg #[.slice f l c], .agg #[.bool on, .int .i64 tf, .int .i64 tg], .int .i64 mid, .int .i64 acc] w (WalkEnd w (midD l X on tf mid acc)) := by
  obtain ⟨l0, l1, l2⟩ := okM_true hM
  have HN := Lib.hid (fun W => rframesB f l c W (by omega))
  have HWR := Lib.hid (fun W (hW : WordsAt W f l X) => walkR_any f l c X 2 tf mid W hW hM (Or.inr rfl) m0 m1 t0 t1)
  have HWC := Lib.hid (walk_cases l X 2 tf mid t0 m0)
  have HFA := Lib.hid (fun t lv W => flagA_any t acc 2 lv mid W)
  have HX := Lib.hid hX
  obtain ⟨q0, hq0⟩ : ∃ q0, q0 = midD l X on tf mid acc := ⟨_, rfl⟩
  rw [← hq0]
  unfold midD at hq0
  have hN8 : (l : Int) / 8 ≤ 64 := by omega
  clear hX hM l0 l1 l2 t1
  cases on
  · rw [if_pos rfl] at hq0
    by_cases hA : (l : Int) / 8 ≤ mid
    · have dA : decide ((l : Int) / 8 ≤ mid) = true := decide_eq_true hA
      rw [if_pos hA] at hq0
      have HQ := Lib.hid hq0
      clear hq0
      generalize (l : Int) / 8 = N at *
      have M0 := Lib.hid ((((BoxAt.new w #[.slice f l c] 24).alloc (.cells #[.bool false, .int .i64 tf, .int .i64 tg] 29)).alloc (.cells z9 40)).alloc (.cells z5 42))
      have T0 := Lib.hid (((BoxAt.newAt (w.alloc (.cells #[.slice f l c] 24)) #[.bool false, .int .i64 tf, .int .i64 tg] 29 (w.heap.size + 1) (by simp)).alloc (.cells z9 40)).alloc (.cells z5 42))
      have H0 := Lib.hid ((BoxAt.newAt ((w.alloc (.cells #[.slice f l c] 24)).alloc (.cells #[.bool false, .int .i64 tf, .int .i64 tg] 29)) z9 40 (w.heap.size + 1 + 1) (by simp)).alloc (.cells z5 42))
      have F0 := Lib.hid (BoxAt.newAt (((w.alloc (.cells #[.slice f l c] 24)).alloc (.cells #[.bool false, .int .i64 tf, .int .i64 tg] 29)).alloc (.cells z9 40)) z5 42 (w.heap.size + 1 + 1 + 1) (by simp))
      have B0 := Lib.hid (bel_alloc (bel_alloc (bel_alloc (bel_alloc (Below.refl w.heap.size w) (.cells #[.slice f l c] 24)) (.cells #[.bool false, .int .i64 tf, .int .i64 tg] 29)) (.cells z9 40)) (.cells z5 42))
      go_enter Tryz.func12, Tryz.ntmps12
      go_upto_region 1 with fail
      obtain ⟨W0, hW0⟩ : ∃ W0, W0 = (((w.alloc (.cells #[.slice f l c] 24)).alloc (.cells #[.bool false, .int .i64 tf, .int .i64 tg] 29)).alloc (.cells z9 40)).alloc (.cells z5 42) := ⟨_, rfl⟩
      rw [← hW0] at M0 T0 H0 F0 B0 ⊢
      clear hW0
      have hlF0 := F0.out.lt
      have Tc0 := T0.out.get 0 (.bool false) rfl
      have Mc0 := M0.out.get 0 (.slice f l c) rfl
      go_wp2_with fail
      refine (HN.out _).mono ?_
      rintro e w1 ⟨rfl, hb1⟩
      have M2 := Lib.hid (M0.out.below hb1)
      have T2 := Lib.hid (T0.out.below hb1)
      have H2 := Lib.hid (H0.out.below hb1)
      have F2 := Lib.hid (F0.out.below hb1)
      have B2 := Lib.hid (bel_trans B0.out hb1)
      clear Tc0 Mc0
      clear M0 T0 H0 F0 B0 hb1
      have Hc0 := H2.out.get 0 (.int .i64 0) rfl
      have Hc1 := H2.out.get 1 (.int .i64 0) rfl
      have Hc2 := H2.out.get 2 (.bool false) rfl
      have Hc3 := H2.out.get 3 (.bool false) rfl
      have Hc4 := H2.out.get 4 (.bool false) rfl
      have Hc5 := H2.out.get 5 (.bool false) rfl
      have Hc6 := H2.out.get 6 (.bool false) rfl
      have Hc7 := H2.out.get 7 (.int .i64 0) rfl
      have Hc8 := H2.out.get 8 (.int .i64 0) rfl
      have Hz0 := H2.out.free 0
      have Hz1 := H2.out.free 1
      have Hz2 := H2.out.free 2
      have Hz3 := H2.out.free 3
      have Hz4 := H2.out.free 4
      have Hz5 := H2.out.free 5
      have Hz6 := H2.out.free 6
      have Hz7 := H2.out.free 7
      have Hz8 := H2.out.free 8
      have Fc0 := F2.out.get 0 (.int .i64 0) rfl
      have Fc1 := F2.out.get 1 (.int .i64 0) rfl
      have Fc2 := F2.out.get 2 (.int .i64 0) rfl
      have Fc3 := F2.out.get 3 (.bool false) rfl
      have Fc4 := F2.out.get 4 (.int .i64 0) rfl
      have Fz0 := F2.out.free 0
      have Fz1 := F2.out.free 1
      have Fz2 := F2.out.free 2
      have Fz3 := F2.out.free 3
      have Fz4 := F2.out.free 4
      go_wp2
      refine bodyPost_ret (v := .tuple #[.agg #[.int .i64 0, .int .i64 0, .bool false, .bool false, .bool false, .bool false, .bool false, .int .i64 0, .int .i64 0], .agg #[.int .i64 1, .int .i64 2, .int .i64 0, .bool false, .int .i64 mid], .slice none 0 0]) (by simp [results, Tryz.results12, go_sem, Hc0, Hc1, Hc2, Hc3, Hc4, Hc5, Hc6, Hc7, Hc8, Fc0, Fc1, Fc2, Fc3, Fc4]) rfl ?_
      refine WalkEnd.mk' (hh := hit0) (ff := ⟨1, 2, 0, false, mid⟩) (R := []) HQ.out.symm rfl rfl (OwnI.nil _ w.heap.size) (Nat.le_refl _) ?_
      repeat' (first | with_reducible exact B2.out | with_reducible refine Below.setCell ?_ (by first | (simp; done) | (simp; omega)) _)
    · have dA : decide ((l : Int) / 8 ≤ mid) = false := decide_eq_false hA
      rw [if_neg hA] at hq0
      have HQ := Lib.hid hq0
      clear hq0
      generalize (l : Int) / 8 = N at *
      have M0 := Lib.hid ((((BoxAt.new w #[.slice f l c] 24).alloc (.cells #[.bool false, .int .i64 tf, .int .i64 tg] 29)).alloc (.cells z9 40)).alloc (.cells z5 42))
      have T0 := Lib.hid (((BoxAt.newAt (w.alloc (.cells #[.slice f l c] 24)) #[.bool false, .int .i64 tf, .int .i64 tg] 29 (w.heap.size + 1) (by simp)).alloc (.cells z9 40)).alloc (.cells z5 42))
      have H0 := Lib.hid ((BoxAt.newAt ((w.alloc (.cells #[.slice f l c] 24)).alloc (.cells #[.bool false, .int .i64 tf, .int .i64 tg] 29)) z9 40 (w.heap.size + 1 + 1) (by simp)).alloc (.cells z5 42))
      have F0 := Lib.hid (BoxAt.newAt (((w.alloc (.cells #[.slice f l c] 24)).alloc (.cells #[.bool false, .int .i64 tf, .int .i64 tg] 29)).alloc (.cells z9 40)) z5 42 (w.heap.size + 1 + 1 + 1) (by simp))
      have B0 := Lib.hid (bel_alloc (bel_alloc (bel_alloc (bel_alloc (Below.refl w.heap.size w) (.cells #[.slice f l c] 24)) (.cells #[.bool false, .int .i64 tf, .int .i64 tg] 29)) (.cells z9 40)) (.cells z5 42))
      go_enter Tryz.func12, Tryz.ntmps12
      go_upto_region 1 with fail
      obtain ⟨W0, hW0⟩ : ∃ W0, W0 = (((w.alloc (.cells #[.slice f l c] 24)).alloc (.cells #[.bool false, .int .i64 tf, .int .i64 tg] 29)).alloc (.cells z9 40)).alloc (.cells z5 42) := ⟨_, rfl⟩
      rw [← hW0] at M0 T0 H0 F0 B0 ⊢
      clear hW0
      have hlF0 := F0.out.lt
      have Tc0 := T0.out.get 0 (.bool false) rfl
      have Mc0 := M0.out.get 0 (.slice f l c) rfl
      go_wp2_with fail
      refine (HN.out _).mono ?_
      rintro e w1 ⟨rfl, hb1⟩
      have M2 := Lib.hid (M0.out.below hb1)
      have T2 := Lib.hid (T0.out.below hb1)
      have H2 := Lib.hid (H0.out.below hb1)
      have F2 := Lib.hid (F0.out.below hb1)
      have B2 := Lib.hid (bel_trans B0.out hb1)
      clear Tc0 Mc0
      clear M0 T0 H0 F0 B0 hb1
      have Hc0 := H2.out.get 0 (.int .i64 0) rfl
      have Hc1 := H2.out.get 1 (.int .i64 0) rfl
      have Hc2 := H2.out.get 2 (.bool false) rfl
      have Hc3 := H2.out.get 3 (.bool false) rfl
      have Hc4 := H2.out.get 4 (.bool false) rfl
      have Hc5 := H2.out.get 5 (.bool false) rfl
      have Hc6 := H2.out.get 6 (.bool false) rfl
      have Hc7 := H2.out.get 7 (.int .i64 0) rfl
      have Hc8 := H2.out.get 8 (.int .i64 0) rfl
      have Hz0 := H2.out.free 0
      have Hz1 := H2.out.free 1
      have Hz2 := H2.out.free 2
      have Hz3 := H2.out.free 3
      have Hz4 := H2.out.free 4
      have Hz5 := H2.out.free 5
      have Hz6 := H2.out.free 6
      have Hz7 := H2.out.free 7
      have Hz8 := H2.out.free 8
      have Fc0 := F2.out.get 0 (.int .i64 0) rfl
      have Fc1 := F2.out.get 1 (.int .i64 0) rfl
      have Fc2 := F2.out.get 2 (.int .i64 0) rfl
      have Fc3 := F2.out.get 3 (.bool false) rfl
      have Fc4 := F2.out.get 4 (.int .i64 0) rfl
      have Fz0 := F2.out.free 0
      have Fz1 := F2.out.free 1
      have Fz2 := F2.out.free 2
      have Fz3 := F2.out.free 3
      have Fz4 := F2.out.free 4
      go_wp2
      refine bodyPost_ret (v := .tuple #[.agg #[.int .i64 mid, .int .i64 mid, .bool true, .bool true, .bool true, .bool true, .bool false, .int .i64 0, .int .i64 0], .agg #[.int .i64 0, .int .i64 0, .int .i64 0, .bool false, .int .i64 0], .slice none 0 0]) (by simp [results, Tryz.results12, go_sem, Hc0, Hc1, Hc2, Hc3, Hc4, Hc5, Hc6, Hc7, Hc8, Fc0, Fc1, Fc2, Fc3, Fc4]) rfl ?_
      refine WalkEnd.mk' (hh := ⟨mid, mid, both1, 0⟩) (ff := flt0) (R := []) HQ.out.symm rfl rfl (OwnI.nil _ w.heap.size) (Nat.le_refl _) ?_
      repeat' (first | with_reducible exact B2.out | with_reducible refine Below.setCell ?_ (by first | (simp; done) | (simp; omega)) _)
  · rw [if_neg (by decide)] at hq0
    have HQ := Lib.hid hq0
    clear hq0
    have M0 := Lib.hid ((((BoxAt.new w #[.slice f l c] 24).alloc (.cells #[.bool true, .int .i64 tf, .int .i64 tg] 29)).alloc (.cells z9 40)).alloc (.cells z5 42))
    have T0 := Lib.hid (((BoxAt.newAt (w.alloc (.cells #[.slice f l c] 24)) #[.bool true, .int .i64 tf, .int .i64 tg] 29 (w.heap.size + 1) (by simp)).alloc (.cells z9 40)).alloc (.cells z5 42))
    have H0 := Lib.hid ((BoxAt.newAt ((w.alloc (.cells #[.slice f l c] 24)).alloc (.cells #[.bool true, .int .i64 tf, .int .i64 tg] 29)) z9 40 (w.heap.size + 1 + 1) (by simp)).alloc (.cells z5 42))
    have F0 := Lib.hid (BoxAt.newAt (((w.alloc (.cells #[.slice f l c] 24)).alloc (.cells #[.bool true, .int .i64 tf, .int .i64 tg] 29)).alloc (.cells z9 40)) z5 42 (w.heap.size + 1 + 1 + 1) (by simp))
    have B0 := Lib.hid (bel_alloc (bel_alloc (bel_alloc (bel_alloc (Below.refl w.heap.size w) (.cells #[.slice f l c] 24)) (.cells #[.bool true, .int .i64 tf, .int .i64 tg] 29)) (.cells z9 40)) (.cells z5 42))
    go_enter Tryz.func12, Tryz.ntmps12
    go_upto_region 1 with fail
    obtain ⟨W0, hW0⟩ : ∃ W0, W0 = (((w.alloc (.cells #[.slice f l c] 24)).alloc (.cells #[.bool true, .int .i64 tf, .int .i64 tg] 29)).alloc (.cells z9 40)).alloc (.cells z5 42) := ⟨_, rfl⟩
    rw [← hW0] at M0 T0 H0 F0 B0 ⊢
    clear hW0
    have hlF0 := F0.out.lt
    have Tc0 := T0.out.get 0 (.bool true) rfl
    have Tc1 := T0.out.get 1 (.int .i64 tf) rfl
    have Mc0 := M0.out.get 0 (.slice f l c) rfl
    have HW := HX.out.below B0.out
    go_wp2_with fail
    refine (HWR.out _ HW).mono ?_
    rintro e w1 ⟨f', c', rfl, hO1, hb1⟩
    clear HW HWR HN HX
    have hwc := HWC.out
    clear HWC
    generalize walkD l X 2 tf mid = q at *
    obtain ⟨⟨hf, hm, ⟨hr, hw, hx, ha, hn, hs⟩, hl⟩, ⟨fk, fs, fl, fw, fp⟩, R⟩ := q
    unfold hitV fltV
    simp only at hO1 hwc HQ ⊢
    have O1 := Lib.hid (hO1.mono (show w.heap.size + 4 ≤ W0.heap.size by omega))
    clear hO1
    have M2 := Lib.hid (M0.out.below hb1)
    have T2 := Lib.hid (T0.out.below hb1)
    have H2 := Lib.hid (H0.out.below hb1)
    have F2 := Lib.hid (F0.out.below hb1)
    have B2 := Lib.hid (bel_trans B0.out hb1)
    clear Tc0 Tc1 Mc0
    clear M0 T0 H0 F0 B0 hb1
    have hlF1 := F2.out.lt
    have hwc2 := hwc.2.2
    clear hwc
    rcases hwc2 with hq | hq
    · obtain ⟨hq1, hq9⟩ := hq
      clear hq9
      simp only [flt0, Flt.mk.injEq] at hq1
      obtain ⟨rfl, rfl, rfl, rfl, rfl⟩ := hq1
      rw [if_pos rfl] at HQ
      go_upto_region 6 with fail
      have M3 := Lib.hid (((M2.out.alloc (.cells #[.int .i64 hf, .int .i64 hm, .bool hr, .bool hw, .bool hx, .bool ha, .bool hn, .int .i64 hs, .int .i64 hl] 40)).alloc (.cells z5 42)))
      have T3 := Lib.hid (((T2.out.alloc (.cells #[.int .i64 hf, .int .i64 hm, .bool hr, .bool hw, .bool hx, .bool ha, .bool hn, .int .i64 hs, .int .i64 hl] 40)).alloc (.cells z5 42)))
      have H3 := Lib.hid (((H2.out.alloc (.cells #[.int .i64 hf, .int .i64 hm, .bool hr, .bool hw, .bool hx, .bool ha, .bool hn, .int .i64 hs, .int .i64 hl] 40)).alloc (.cells z5 42)))
      have F3 := Lib.hid (((F2.out.alloc (.cells #[.int .i64 hf, .int .i64 hm, .bool hr, .bool hw, .bool hx, .bool ha, .bool hn, .int .i64 hs, .int .i64 hl] 40)).alloc (.cells z5 42)))
      have X3 := Lib.hid (((BoxAt.newAt (w1) #[.int .i64 hf, .int .i64 hm, .bool hr, .bool hw, .bool hx, .bool ha, .bool hn, .int .i64 hs, .int .i64 hl] 40 (w1.heap.size) (by first | rfl | (simp; done) | (simp; omega))).alloc (.cells z5 42)))
      have Y3 := Lib.hid ((BoxAt.newAt ((w1).alloc (.cells #[.int .i64 hf, .int .i64 hm, .bool hr, .bool hw, .bool hx, .bool ha, .bool hn, .int .i64 hs, .int .i64 hl] 40)) z5 42 (w1.heap.size + 1) (by first | rfl | (simp; done) | (simp; omega))))
      have O3 := Lib.hid (((O1.out.alloc (.cells #[.int .i64 hf, .int .i64 hm, .bool hr, .bool hw, .bool hx, .bool ha, .bool hn, .int .i64 hs, .int .i64 hl] 40)).alloc (.cells z5 42)))
      have B3 := Lib.hid ((bel_alloc (bel_alloc B2.out (.cells #[.int .i64 hf, .int .i64 hm, .bool hr, .bool hw, .bool hx, .bool ha, .bool hn, .int .i64 hs, .int .i64 hl] 40)) (.cells z5 42)))
      clear M2 T2 H2 F2 O1 B2
      obtain ⟨W8, hW8⟩ : ∃ W8, W8 = (w1.alloc (.cells #[.int .i64 hf, .int .i64 hm, .bool hr, .bool hw, .bool hx, .bool ha, .bool hn, .int .i64 hs, .int .i64 hl] 40)).alloc (.cells z5 42) := ⟨_, rfl⟩
      obtain ⟨bX, hbX⟩ : ∃ bX, bX = w1.heap.size := ⟨_, rfl⟩
      have hgX : w.heap.size + 1 + 1 + 1 < bX := by rw [hbX]; exact hlF1
      rw [← hW8] at M3 T3 H3 F3 X3 Y3 B3 O3 ⊢
      rw [← hbX] at X3 Y3 ⊢
      clear hW8 hbX
      have HN0 : Hid ((Value.slice f' R.length c').ownBlock ≠ some bX) := O3.out.ne_box X3.out (by decide)
      have HN1 : Hid ((Value.slice f' R.length c').ownBlock ≠ some (bX + 1)) := O3.out.ne_box Y3.out (by decide)
      have Yc0 := Y3.out.get 0 (.int .i64 0) rfl
      have Xc2 := X3.out.get 2 (.bool hr) rfl
      have Xc3 := X3.out.get 3 (.bool hw) rfl
      have Xc4 := X3.out.get 4 (.bool hx) rfl
      have Xc5 := X3.out.get 5 (.bool ha) rfl
      have Xc6 := X3.out.get 6 (.bool hn) rfl
      have Xc7 := X3.out.get 7 (.int .i64 hs) rfl
      have Xc8 := X3.out.get 8 (.int .i64 hl) rfl
      have HG := Lib.hid (fun W => HFA.out ⟨hr, hw, hx, ha, hn, hs⟩ hl W)
      unfold atrV atrC at HG
      simp only at HG
      have hfc := flag_cases ⟨hr, hw, hx, ha, hn, hs⟩ acc 2 hl mid
      generalize flagA ⟨hr, hw, hx, ha, hn, hs⟩ acc 2 hl mid = g at *
      go_wp2_with fail
      refine (HG.out _).mono ?_
      rintro e w4 ⟨rfl, hb4⟩
      clear HG HFA
      have M5 := Lib.hid (M3.out.below hb4)
      have T5 := Lib.hid (T3.out.below hb4)
      have H5 := Lib.hid (H3.out.below hb4)
      have F5 := Lib.hid (F3.out.below hb4)
      have X5 := Lib.hid (X3.out.below hb4)
      have Y5 := Lib.hid (Y3.out.below hb4)
      have O5 := Lib.hid (O3.out.below hb4)
      have B5 := Lib.hid (bel_trans B3.out hb4)
      clear Yc0 Xc2 Xc3 Xc4 Xc5 Xc6 Xc7 Xc8
      clear M3 T3 H3 F3 X3 Y3 O3 B3 hb4
      rcases hfc with hg | hg
      · subst hg
        rw [if_pos (show flt0.k = 0 from rfl)] at HQ
        unfold fltV flt0
        simp only
        have Yc0 := Y5.out.get 0 (.int .i64 0) rfl
        have Yc1 := Y5.out.get 1 (.int .i64 0) rfl
        have Yc2 := Y5.out.get 2 (.int .i64 0) rfl
        have Yc3 := Y5.out.get 3 (.bool false) rfl
        have Yc4 := Y5.out.get 4 (.int .i64 0) rfl
        have Yz0 := Y5.out.free 0
        have Yz1 := Y5.out.free 1
        have Yz2 := Y5.out.free 2
        have Yz3 := Y5.out.free 3
        have Yz4 := Y5.out.free 4
        go_upto_region 10 with fail
        have M6 := Lib.hid ((((((M5.out.other ⟨bX + 1, 0, none⟩ (.int .i64 0) (by first | with_reducible assumption | (simp; done) | (simp; omega))).other ⟨bX + 1, 1, none⟩ (.int .i64 0) (by first | with_reducible assumption | (simp; done) | (simp; omega))).other ⟨bX + 1, 2, none⟩ (.int .i64 0) (by first | with_reducible assumption | (simp; done) | (simp; omega))).other ⟨bX + 1, 3, none⟩ (.bool false) (by first | with_reducible assumption | (simp; done) | (simp; omega))).other ⟨bX + 1, 4, none⟩ (.int .i64 0) (by first | with_reducible assumption | (simp; done) | (simp; omega))))
        have T6 := Lib.hid ((((((T5.out.other ⟨bX + 1, 0, none⟩ (.int .i64 0) (by first | with_reducible assumption | (simp; done) | (simp; omega))).other ⟨bX + 1, 1, none⟩ (.int .i64 0) (by first | with_reducible assumption | (simp; done) | (simp; omega))).other ⟨bX + 1, 2, none⟩ (.int .i64 0) (by first | with_reducible assumption | (simp; done) | (simp; omega))).other ⟨bX + 1, 3, none⟩ (.bool false) (by first | with_reducible assumption | (simp; done) | (simp; omega))).other ⟨bX + 1, 4, none⟩ (.int .i64 0) (by first | with_reducible assumption | (simp; done) | (simp; omega))))
        have H6 := Lib.hid ((((((H5.out.other ⟨bX + 1, 0, none⟩ (.int .i64 0) (by first | with_reducible assumption | (simp; done) | (simp; omega))).other ⟨bX + 1, 1, none⟩ (.int .i64 0) (by first | with_reducible assumption | (simp; done) | (simp; omega))).other ⟨bX + 1, 2, none⟩ (.int .i64 0) (by first | with_reducible assumption | (simp; done) | (simp; omega))).other ⟨bX + 1, 3, none⟩ (.bool false) (by first | with_reducible assumption | (simp; done) | (simp; omega))).other ⟨bX + 1, 4, none⟩ (.int .i64 0) (by first | with_reducible assumption | (simp; done) | (simp; omega))))
        have F6 := Lib.hid ((((((F5.out.other ⟨bX + 1, 0, none⟩ (.int .i64 0) (by first | with_reducible assumption | (simp; done) | (simp; omega))).other ⟨bX + 1, 1, none⟩ (.int .i64 0) (by first | with_reducible assumption | (simp; done) | (simp; omega))).other ⟨bX + 1, 2, none⟩ (.int .i64 0) (by first | with_reducible assumption | (simp; done) | (simp; omega))).other ⟨bX + 1, 3, none⟩ (.bool false) (by first | with_reducible assumption | (simp; done) | (simp; omega))).other ⟨bX + 1, 4, none⟩ (.int .i64 0) (by first | with_reducible assumption | (simp; done) | (simp; omega))))
        have X6 := Lib.hid ((((((X5.out.other ⟨bX + 1, 0, none⟩ (.int .i64 0) (by first | with_reducible assumption | (simp; done) | (simp; omega))).other ⟨bX + 1, 1, none⟩ (.int .i64 0) (by first | with_reducible assumption | (simp; done) | (simp; omega))).other ⟨bX + 1, 2, none⟩ (.int .i64 0) (by first | with_reducible assumption | (simp; done) | (simp; omega))).other ⟨bX + 1, 3, none⟩ (.bool false) (by first | with_reducible assumption | (simp; done) | (simp; omega))).other ⟨bX + 1, 4, none⟩ (.int .i64 0) (by first | with_reducible assumption | (simp; done) | (simp; omega))))
        have Y6 := Lib.hid ((((((Y5.out.set 0 (.int .i64 0) #[.int .i64 0, .int .i64 0, .int .i64 0, .bool false, .int .i64 0] rfl).set 1 (.int .i64 0) #[.int .i64 0, .int .i64 0, .int .i64 0, .bool false, .int .i64 0] rfl).set 2 (.int .i64 0) #[.int .i64 0, .int .i64 0, .int .i64 0, .bool false, .int .i64 0] rfl).set 3 (.bool false) #[.int .i64 0, .int .i64 0, .int .i64 0, .bool false, .int .i64 0] rfl).set 4 (.int .i64 0) #[.int .i64 0, .int .i64 0, .int .i64 0, .bool false, .int .i64 0] rfl))
        have O6 := Lib.hid ((((((O5.out.otherN ⟨bX + 1, 0, none⟩ (.int .i64 0) HN1.out).otherN ⟨bX + 1, 1, none⟩ (.int .i64 0) HN1.out).otherN ⟨bX + 1, 2, none⟩ (.int .i64 0) HN1.out).otherN ⟨bX + 1, 3, none⟩ (.bool false) HN1.out).otherN ⟨bX + 1, 4, none⟩ (.int .i64 0) HN1.out))
        have B6 := Lib.hid ((Below.setCell (Below.setCell (Below.setCell (Below.setCell (Below.setCell B5.out (p := ⟨bX + 1, 0, none⟩) (by first | with_reducible assumption | (simp; done) | (simp; omega)) (.int .i64 0)) (p := ⟨bX + 1, 1, none⟩) (by first | with_reducible assumption | (simp; done) | (simp; omega)) (.int .i64 0)) (p := ⟨bX + 1, 2, none⟩) (by first | with_reducible assumption | (simp; done) | (simp; omega)) (.int .i64 0)) (p := ⟨bX + 1, 3, none⟩) (by first | with_reducible assumption | (simp; done) | (simp; omega)) (.bool false)) (p := ⟨bX + 1, 4, none⟩) (by first | with_reducible assumption | (simp; done) | (simp; omega)) (.int .i64 0)))
        clear Yc0 Yc1 Yc2 Yc3 Yc4 Yz0 Yz1 Yz2 Yz3 Yz4
        clear M5 T5 H5 F5 X5 Y5 O5 B5
        obtain ⟨W9, hW9⟩ : ∃ W9, W9 = (((((w4).setCell ⟨bX + 1, 0, none⟩ (.int .i64 0)).setCell ⟨bX + 1, 1, none⟩ (.int .i64 0)).setCell ⟨bX + 1, 2, none⟩ (.int .i64 0)).setCell ⟨bX + 1, 3, none⟩ (.bool false)).setCell ⟨bX + 1, 4, none⟩ (.int .i64 0) := ⟨_, rfl⟩
        rw [← hW9] at M6 T6 H6 F6 X6 Y6 B6 O6 ⊢
        clear hW9
        have Xc1 := X6.out.get 1 (.int .i64 hm) rfl
        have Xz1 := X6.out.free 1
        go_upto_region 11 with fail
        have M7 := Lib.hid ((M6.out.other ⟨bX, 1, none⟩ (.int .i64 mid) (by first | with_reducible assumption | (simp; done) | (simp; omega))))
        have T7 := Lib.hid ((T6.out.other ⟨bX, 1, none⟩ (.int .i64 mid) (by first | with_reducible assumption | (simp; done) | (simp; omega))))
        have H7 := Lib.hid ((H6.out.other ⟨bX, 1, none⟩ (.int .i64 mid) (by first | with_reducible assumption | (simp; done) | (simp; omega))))
        have F7 := Lib.hid ((F6.out.other ⟨bX, 1, none⟩ (.int .i64 mid) (by first | with_reducible assumption | (simp; done) | (simp; omega))))
        have X7 := Lib.hid ((X6.out.set 1 (.int .i64 mid) #[.int .i64 hf, .int .i64 mid, .bool hr, .bool hw, .bool hx, .bool ha, .bool hn, .int .i64 hs, .int .i64 hl] rfl))
        have Y7 := Lib.hid ((Y6.out.other ⟨bX, 1, none⟩ (.int .i64 mid) (by first | with_reducible assumption | (simp; done) | (simp; omega))))
        have O7 := Lib.hid ((O6.out.otherN ⟨bX, 1, none⟩ (.int .i64 mid) HN0.out))
        have B7 := Lib.hid ((Below.setCell B6.out (p := ⟨bX, 1, none⟩) (by first | with_reducible assumption | (simp; done) | (simp; omega)) (.int .i64 mid)))
        clear Xc1 Xz1
        clear M6 T6 H6 F6 X6 Y6 O6 B6
        obtain ⟨W7, hW7⟩ : ∃ W7, W7 = W9.setCell ⟨bX, 1, none⟩ (.int .i64 mid) := ⟨_, rfl⟩
        rw [← hW7] at M7 T7 H7 F7 X7 Y7 B7 O7 ⊢
        clear hW7
        refine wp_region_held_drew (S := (fun w' => BoxAt w' (bX) #[.int .i64 hf, .int .i64 mid, .bool hr, .bool hw, .bool hx, .bool ha, .bool hn, .int .i64 hs, .int .i64 hl] 40 ∧ BoxAt w' (bX + 1) z5 42)) (by kernel_rfl) ⟨X7.out.drew, Y7.out.drew⟩ (fun hS => ?_)
        have M8a := Lib.hid (M7.out.drew)
        have T8a := Lib.hid (T7.out.drew)
        have H8a := Lib.hid (H7.out.drew)
        have F8a := Lib.hid (F7.out.drew)
        have X8a := Lib.hid (X7.out.drew)
        have Y8a := Lib.hid (Y7.out.drew)
        have O8a := Lib.hid (O7.out.drew)
        have B8a := Lib.hid (Below.drew B7.out)
        clear M7 T7 H7 F7 X7 Y7 O7 B7
        obtain ⟨V8a, hV⟩ : ∃ V8a, V8a = W7.drew := ⟨_, rfl⟩
        rw [← hV] at M8a T8a H8a F8a X8a Y8a B8a O8a hS ⊢
        clear hV
        refine tkR 0 56 rfl hS (fun w' hSw => by obtain ⟨hS0, hS1⟩ := hSw; have c0_0 := hS0.get 0 (.int .i64 hf) rfl; have c0_1 := hS0.get 1 (.int .i64 mid) rfl; have c0_2 := hS0.get 2 (.bool hr) rfl; have c0_3 := hS0.get 3 (.bool hw) rfl; have c0_4 := hS0.get 4 (.bool hx) rfl; have c0_5 := hS0.get 5 (.bool ha) rfl; have c0_6 := hS0.get 6 (.bool hn) rfl; have c0_7 := hS0.get 7 (.int .i64 hs) rfl; have c0_8 := hS0.get 8 (.int .i64 hl) rfl; have c1_0 := hS1.get 0 (.int .i64 0) rfl; have c1_1 := hS1.get 1 (.int .i64 0) rfl; have c1_2 := hS1.get 2 (.int .i64 0) rfl; have c1_3 := hS1.get 3 (.bool false) rfl; have c1_4 := hS1.get 4 (.int .i64 0) rfl; clear hS0 hS1; go_simp; try with_reducible rfl) ?_
        simp only [pA, pB, pC]
        refine tkR 1 57 rfl hS (fun w' hSw => by obtain ⟨hS0, hS1⟩ := hSw; have c0_0 := hS0.get 0 (.int .i64 hf) rfl; have c0_1 := hS0.get 1 (.int .i64 mid) rfl; have c0_2 := hS0.get 2 (.bool hr) rfl; have c0_3 := hS0.get 3 (.bool hw) rfl; have c0_4 := hS0.get 4 (.bool hx) rfl; have c0_5 := hS0.get 5 (.bool ha) rfl; have c0_6 := hS0.get 6 (.bool hn) rfl; have c0_7 := hS0.get 7 (.int .i64 hs) rfl; have c0_8 := hS0.get 8 (.int .i64 hl) rfl; have c1_0 := hS1.get 0 (.int .i64 0) rfl; have c1_1 := hS1.get 1 (.int .i64 0) rfl; have c1_2 := hS1.get 2 (.int .i64 0) rfl; have c1_3 := hS1.get 3 (.bool false) rfl; have c1_4 := hS1.get 4 (.int .i64 0) rfl; clear hS0 hS1; go_simp; try with_reducible rfl) ?_
        simp only [pA, pB, pC]
        refine tkR 2 58 rfl hS (fun w' hSw => by obtain ⟨hS0, hS1⟩ := hSw; have c0_0 := hS0.get 0 (.int .i64 hf) rfl; have c0_1 := hS0.get 1 (.int .i64 mid) rfl; have c0_2 := hS0.get 2 (.bool hr) rfl; have c0_3 := hS0.get 3 (.bool hw) rfl; have c0_4 := hS0.get 4 (.bool hx) rfl; have c0_5 := hS0.get 5 (.bool ha) rfl; have c0_6 := hS0.get 6 (.bool hn) rfl; have c0_7 := hS0.get 7 (.int .i64 hs) rfl; have c0_8 := hS0.get 8 (.int .i64 hl) rfl; have c1_0 := hS1.get 0 (.int .i64 0) rfl; have c1_1 := hS1.get 1 (.int .i64 0) rfl; have c1_2 := hS1.get 2 (.int .i64 0) rfl; have c1_3 := hS1.get 3 (.bool false) rfl; have c1_4 := hS1.get 4 (.int .i64 0) rfl; clear hS0 hS1; go_simp; try with_reducible rfl) ?_
        simp only [pA, pB, pC]
        refine wpAnyH_ready (rs := [3]) (by kernel_rfl) (by simp) ?_
        refine AllReadyH.cons (o := ⟨none, _, _, _, _, _⟩) rfl (fun K hK => ?_) AllReadyH.nil
        refine step_storeB rfl 40 _ _ rfl _ _ z9 40 rfl rfl (by kernel_rfl) rfl (by simp [Value.oneCell']) H8a.out ?_
        refine hK.out _ _ ?_ (fun hS' => ?_)
        · exact ⟨hS.1.row (by omega), hS.2.row (by omega)⟩
        clear hK K hS
        have hS := hS'
        clear hS'
        try simp only [Act.put]
        have M8b := Lib.hid (M8a.out.row (cs' := #[.int .i64 hf, .int .i64 mid, .bool hr, .bool hw, .bool hx, .bool ha, .bool hn, .int .i64 hs, .int .i64 hl]) (show w.heap.size ≠ w.heap.size + 1 + 1 by omega))
        have T8b := Lib.hid (T8a.out.row (cs' := #[.int .i64 hf, .int .i64 mid, .bool hr, .bool hw, .bool hx, .bool ha, .bool hn, .int .i64 hs, .int .i64 hl]) (show w.heap.size + 1 ≠ w.heap.size + 1 + 1 by omega))
        have H8b := Lib.hid (H8a.out.put (cs' := #[.int .i64 hf, .int .i64 mid, .bool hr, .bool hw, .bool hx, .bool ha, .bool hn, .int .i64 hs, .int .i64 hl]))
        have F8b := Lib.hid (F8a.out.row (cs' := #[.int .i64 hf, .int .i64 mid, .bool hr, .bool hw, .bool hx, .bool ha, .bool hn, .int .i64 hs, .int .i64 hl]) (show w.heap.size + 1 + 1 + 1 ≠ w.heap.size + 1 + 1 by omega))
        have X8b := Lib.hid (X8a.out.row (cs' := #[.int .i64 hf, .int .i64 mid, .bool hr, .bool hw, .bool hx, .bool ha, .bool hn, .int .i64 hs, .int .i64 hl]) (show bX ≠ w.heap.size + 1 + 1 by omega))
        have Y8b := Lib.hid (Y8a.out.row (cs' := #[.int .i64 hf, .int .i64 mid, .bool hr, .bool hw, .bool hx, .bool ha, .bool hn, .int .i64 hs, .int .i64 hl]) (show bX + 1 ≠ w.heap.size + 1 + 1 by omega))
        have O8b := Lib.hid (O8a.out.row (cs := #[.int .i64 hf, .int .i64 mid, .bool hr, .bool hw, .bool hx, .bool ha, .bool hn, .int .i64 hs, .int .i64 hl]) (show w.heap.size + 1 + 1 < _ by omega))
        have B8b := Lib.hid (Below.rowB (g := w.heap.size + 1 + 1) B8a.out (cs := #[.int .i64 hf, .int .i64 mid, .bool hr, .bool hw, .bool hx, .bool ha, .bool hn, .int .i64 hs, .int .i64 hl]) (by omega))
        clear M8a T8a H8a F8a X8a Y8a O8a B8a
        obtain ⟨V8b, hV⟩ : ∃ V8b, V8b = V8a.setRow (w.heap.size + 1 + 1) #[.int .i64 hf, .int .i64 mid, .bool hr, .bool hw, .bool hx, .bool ha, .bool hn, .int .i64 hs, .int .i64 hl] := ⟨_, rfl⟩
        rw [← hV] at M8b T8b H8b F8b X8b Y8b B8b O8b hS ⊢
        clear hV
        refine wpAnyH_ready (rs := [4]) (by kernel_rfl) (by simp) ?_
        refine AllReadyH.cons (o := ⟨none, _, _, _, _, _⟩) rfl (fun K hK => ?_) AllReadyH.nil
        refine step_storeB rfl 42 _ _ rfl _ _ z5 42 rfl rfl (by kernel_rfl) rfl (by simp [Value.oneCell']) F8b.out ?_
        refine hK.out _ _ ?_ (fun hS' => ?_)
        · exact ⟨hS.1.row (by omega), hS.2.row (by omega)⟩
        clear hK K hS
        have hS := hS'
        clear hS'
        try simp only [Act.put]
        have M8c := Lib.hid (M8b.out.row (cs' := #[.int .i64 0, .int .i64 0, .int .i64 0, .bool false, .int .i64 0]) (show w.heap.size ≠ w.heap.size + 1 + 1 + 1 by omega))
        have T8c := Lib.hid (T8b.out.row (cs' := #[.int .i64 0, .int .i64 0, .int .i64 0, .bool false, .int .i64 0]) (show w.heap.size + 1 ≠ w.heap.size + 1 + 1 + 1 by omega))
        have H8c := Lib.hid (H8b.out.row (cs' := #[.int .i64 0, .int .i64 0, .int .i64 0, .bool false, .int .i64 0]) (show w.heap.size + 1 + 1 ≠ w.heap.size + 1 + 1 + 1 by omega))
        have F8c := Lib.hid (F8b.out.put (cs' := #[.int .i64 0, .int .i64 0, .int .i64 0, .bool false, .int .i64 0]))
        have X8c := Lib.hid (X8b.out.row (cs' := #[.int .i64 0, .int .i64 0, .int .i64 0, .bool false, .int .i64 0]) (show bX ≠ w.heap.size + 1 + 1 + 1 by omega))
        have Y8c := Lib.hid (Y8b.out.row (cs' := #[.int .i64 0, .int .i64 0, .int .i64 0, .bool false, .int .i64 0]) (show bX + 1 ≠ w.heap.size + 1 + 1 + 1 by omega))
        have O8c := Lib.hid (O8b.out.row (cs := #[.int .i64 0, .int .i64 0, .int .i64 0, .bool false, .int .i64 0]) (show w.heap.size + 1 + 1 + 1 < _ by omega))
        have B8c := Lib.hid (Below.rowB (g := w.heap.size + 1 + 1 + 1) B8b.out (cs := #[.int .i64 0, .int .i64 0, .int .i64 0, .bool false, .int .i64 0]) (by omega))
        clear M8b T8b H8b F8b X8b Y8b O8b B8b
        obtain ⟨V8c, hV⟩ : ∃ V8c, V8c = V8b.setRow (w.heap.size + 1 + 1 + 1) #[.int .i64 0, .int .i64 0, .int .i64 0, .bool false, .int .i64 0] := ⟨_, rfl⟩
        rw [← hV] at M8c T8c H8c F8c X8c Y8c B8c O8c hS ⊢
        clear hV
        refine tkR 5 10 rfl hS (fun w' hSw => by obtain ⟨hS0, hS1⟩ := hSw; have c0_0 := hS0.get 0 (.int .i64 hf) rfl; have c0_1 := hS0.get 1 (.int .i64 mid) rfl; have c0_2 := hS0.get 2 (.bool hr) rfl; have c0_3 := hS0.get 3 (.bool hw) rfl; have c0_4 := hS0.get 4 (.bool hx) rfl; have c0_5 := hS0.get 5 (.bool ha) rfl; have c0_6 := hS0.get 6 (.bool hn) rfl; have c0_7 := hS0.get 7 (.int .i64 hs) rfl; have c0_8 := hS0.get 8 (.int .i64 hl) rfl; have c1_0 := hS1.get 0 (.int .i64 0) rfl; have c1_1 := hS1.get 1 (.int .i64 0) rfl; have c1_2 := hS1.get 2 (.int .i64 0) rfl; have c1_3 := hS1.get 3 (.bool false) rfl; have c1_4 := hS1.get 4 (.int .i64 0) rfl; clear hS0 hS1; go_simp; try with_reducible rfl) ?_
        simp only [pA, pB, pC]
        refine wpAnyH_done (by kernel_rfl) ?_ _
        try simp only [Act.put, List.setIfInBounds_toArray, List.set_cons_zero, List.set_cons_succ]
        clear hS
        have Hc0 := H8c.out.get 0 (.int .i64 hf) rfl
        have Hc1 := H8c.out.get 1 (.int .i64 mid) rfl
        have Hc2 := H8c.out.get 2 (.bool hr) rfl
        have Hc3 := H8c.out.get 3 (.bool hw) rfl
        have Hc4 := H8c.out.get 4 (.bool hx) rfl
        have Hc5 := H8c.out.get 5 (.bool ha) rfl
        have Hc6 := H8c.out.get 6 (.bool hn) rfl
        have Hc7 := H8c.out.get 7 (.int .i64 hs) rfl
        have Hc8 := H8c.out.get 8 (.int .i64 hl) rfl
        have Fc0 := F8c.out.get 0 (.int .i64 0) rfl
        have Fc1 := F8c.out.get 1 (.int .i64 0) rfl
        have Fc2 := F8c.out.get 2 (.int .i64 0) rfl
        have Fc3 := F8c.out.get 3 (.bool false) rfl
        have Fc4 := F8c.out.get 4 (.int .i64 0) rfl
        go_wp2
        refine bodyPost_ret (v := .tuple #[.agg #[.int .i64 hf, .int .i64 mid, .bool hr, .bool hw, .bool hx, .bool ha, .bool hn, .int .i64 hs, .int .i64 hl], .agg #[.int .i64 0, .int .i64 0, .int .i64 0, .bool false, .int .i64 0], .slice f' R.length c']) (by simp [results, Tryz.results12, go_sem, Hc0, Hc1, Hc2, Hc3, Hc4, Hc5, Hc6, Hc7, Hc8, Fc0, Fc1, Fc2, Fc3, Fc4]) rfl ?_
        exact WalkEnd.mk' (hh := ⟨hf, mid, ⟨hr, hw, hx, ha, hn, hs⟩, hl⟩) (ff := flt0) (R := R) HQ.out.symm rfl (by first | rfl | simp) O8c.out (show w.heap.size ≤ w.heap.size + 4 by omega) B8c.out
      · obtain ⟨hk, hg9⟩ := hg
        clear hg9
        rw [if_neg hk] at HQ
        obtain ⟨gk, gs, gl, gw, gp⟩ := g
        simp only at hk ⊢
        unfold fltV
        simp only
        have dk : decide (gk = 0) = false := decide_eq_false hk
        have bk : (gk == 0) = false := by rw [beq_int]; exact dk
        have Yc0 := Y5.out.get 0 (.int .i64 0) rfl
        have Yc1 := Y5.out.get 1 (.int .i64 0) rfl
        have Yc2 := Y5.out.get 2 (.int .i64 0) rfl
        have Yc3 := Y5.out.get 3 (.bool false) rfl
        have Yc4 := Y5.out.get 4 (.int .i64 0) rfl
        have Yz0 := Y5.out.free 0
        have Yz1 := Y5.out.free 1
        have Yz2 := Y5.out.free 2
        have Yz3 := Y5.out.free 3
        have Yz4 := Y5.out.free 4
        go_upto_region 9 with fail
        have M6 := Lib.hid ((((((M5.out.other ⟨bX + 1, 0, none⟩ (.int .i64 gk) (by first | with_reducible assumption | (simp; done) | (simp; omega))).other ⟨bX + 1, 1, none⟩ (.int .i64 gs) (by first | with_reducible assumption | (simp; done) | (simp; omega))).other ⟨bX + 1, 2, none⟩ (.int .i64 gl) (by first | with_reducible assumption | (simp; done) | (simp; omega))).other ⟨bX + 1, 3, none⟩ (.bool gw) (by first | with_reducible assumption | (simp; done) | (simp; omega))).other ⟨bX + 1, 4, none⟩ (.int .i64 gp) (by first | with_reducible assumption | (simp; done) | (simp; omega))))
        have T6 := Lib.hid ((((((T5.out.other ⟨bX + 1, 0, none⟩ (.int .i64 gk) (by first | with_reducible assumption | (simp; done) | (simp; omega))).other ⟨bX + 1, 1, none⟩ (.int .i64 gs) (by first | with_reducible assumption | (simp; done) | (simp; omega))).other ⟨bX + 1, 2, none⟩ (.int .i64 gl) (by first | with_reducible assumption | (simp; done) | (simp; omega))).other ⟨bX + 1, 3, none⟩ (.bool gw) (by first | with_reducible assumption | (simp; done) | (simp; omega))).other ⟨bX + 1, 4, none⟩ (.int .i64 gp) (by first | with_reducible assumption | (simp; done) | (simp; omega))))
        have H6 := Lib.hid ((((((H5.out.other ⟨bX + 1, 0, none⟩ (.int .i64 gk) (by first | with_reducible assumption | (simp; done) | (simp; omega))).other ⟨bX + 1, 1, none⟩ (.int .i64 gs) (by first | with_reducible assumption | (simp; done) | (simp; omega))).other ⟨bX + 1, 2, none⟩ (.int .i64 gl) (by first | with_reducible assumption | (simp; done) | (simp; omega))).other ⟨bX + 1, 3, none⟩ (.bool gw) (by first | with_reducible assumption | (simp; done) | (simp; omega))).other ⟨bX + 1, 4, none⟩ (.int .i64 gp) (by first | with_reducible assumption | (simp; done) | (simp; omega))))
        have F6 := Lib.hid ((((((F5.out.other ⟨bX + 1, 0, none⟩ (.int .i64 gk) (by first | with_reducible assumption | (simp; done) | (simp; omega))).other ⟨bX + 1, 1, none⟩ (.int .i64 gs) (by first | with_reducible assumption | (simp; done) | (simp; omega))).other ⟨bX + 1, 2, none⟩ (.int .i64 gl) (by first | with_reducible assumption | (simp; done) | (simp; omega))).other ⟨bX + 1, 3, none⟩ (.bool gw) (by first | with_reducible assumption | (simp; done) | (simp; omega))).other ⟨bX + 1, 4, none⟩ (.int .i64 gp) (by first | with_reducible assumption | (simp; done) | (simp; omega))))
        have X6 := Lib.hid ((((((X5.out.other ⟨bX + 1, 0, none⟩ (.int .i64 gk) (by first | with_reducible assumption | (simp; done) | (simp; omega))).other ⟨bX + 1, 1, none⟩ (.int .i64 gs) (by first | with_reducible assumption | (simp; done) | (simp; omega))).other ⟨bX + 1, 2, none⟩ (.int .i64 gl) (by first | with_reducible assumption | (simp; done) | (simp; omega))).other ⟨bX + 1, 3, none⟩ (.bool gw) (by first | with_reducible assumption | (simp; done) | (simp; omega))).other ⟨bX + 1, 4, none⟩ (.int .i64 gp) (by first | with_reducible assumption | (simp; done) | (simp; omega))))
        have Y6 := Lib.hid ((((((Y5.out.set 0 (.int .i64 gk) #[.int .i64 gk, .int .i64 0, .int .i64 0, .bool false, .int .i64 0] rfl).set 1 (.int .i64 gs) #[.int .i64 gk, .int .i64 gs, .int .i64 0, .bool false, .int .i64 0] rfl).set 2 (.int .i64 gl) #[.int .i64 gk, .int .i64 gs, .int .i64 gl, .bool false, .int .i64 0] rfl).set 3 (.bool gw) #[.int .i64 gk, .int .i64 gs, .int .i64 gl, .bool gw, .int .i64 0] rfl).set 4 (.int .i64 gp) #[.int .i64 gk, .int .i64 gs, .int .i64 gl, .bool gw, .int .i64 gp] rfl))
        have O6 := Lib.hid ((((((O5.out.otherN ⟨bX + 1, 0, none⟩ (.int .i64 gk) HN1.out).otherN ⟨bX + 1, 1, none⟩ (.int .i64 gs) HN1.out).otherN ⟨bX + 1, 2, none⟩ (.int .i64 gl) HN1.out).otherN ⟨bX + 1, 3, none⟩ (.bool gw) HN1.out).otherN ⟨bX + 1, 4, none⟩ (.int .i64 gp) HN1.out))
        have B6 := Lib.hid ((Below.setCell (Below.setCell (Below.setCell (Below.setCell (Below.setCell B5.out (p := ⟨bX + 1, 0, none⟩) (by first | with_reducible assumption | (simp; done) | (simp; omega)) (.int .i64 gk)) (p := ⟨bX + 1, 1, none⟩) (by first | with_reducible assumption | (simp; done) | (simp; omega)) (.int .i64 gs)) (p := ⟨bX + 1, 2, none⟩) (by first | with_reducible assumption | (simp; done) | (simp; omega)) (.int .i64 gl)) (p := ⟨bX + 1, 3, none⟩) (by first | with_reducible assumption | (simp; done) | (simp; omega)) (.bool gw)) (p := ⟨bX + 1, 4, none⟩) (by first | with_reducible assumption | (simp; done) | (simp; omega)) (.int .i64 gp)))
        clear Yc0 Yc1 Yc2 Yc3 Yc4 Yz0 Yz1 Yz2 Yz3 Yz4
        clear M5 T5 H5 F5 X5 Y5 O5 B5
        obtain ⟨W9, hW9⟩ : ∃ W9, W9 = (((((w4).setCell ⟨bX + 1, 0, none⟩ (.int .i64 gk)).setCell ⟨bX + 1, 1, none⟩ (.int .i64 gs)).setCell ⟨bX + 1, 2, none⟩ (.int .i64 gl)).setCell ⟨bX + 1, 3, none⟩ (.bool gw)).setCell ⟨bX + 1, 4, none⟩ (.int .i64 gp) := ⟨_, rfl⟩
        rw [← hW9] at M6 T6 H6 F6 X6 Y6 B6 O6 ⊢
        clear hW9
        refine wp_region_held_drew (S := (fun w' => BoxAt w' (bX + 1) #[.int .i64 gk, .int .i64 gs, .int .i64 gl, .bool gw, .int .i64 gp] 42)) (by kernel_rfl) Y6.out.drew (fun hS => ?_)
        have M7a := Lib.hid (M6.out.drew)
        have T7a := Lib.hid (T6.out.drew)
        have H7a := Lib.hid (H6.out.drew)
        have F7a := Lib.hid (F6.out.drew)
        have X7a := Lib.hid (X6.out.drew)
        have Y7a := Lib.hid (Y6.out.drew)
        have O7a := Lib.hid (O6.out.drew)
        have B7a := Lib.hid (Below.drew B6.out)
        clear M6 T6 H6 F6 X6 Y6 O6 B6
        obtain ⟨V7a, hV⟩ : ∃ V7a, V7a = W9.drew := ⟨_, rfl⟩
        rw [← hV] at M7a T7a H7a F7a X7a Y7a B7a O7a hS ⊢
        clear hV
        refine tkR 0 51 rfl hS (fun w' hSw => by have hS0 := hSw; have c0_0 := hS0.get 0 (.int .i64 gk) rfl; have c0_1 := hS0.get 1 (.int .i64 gs) rfl; have c0_2 := hS0.get 2 (.int .i64 gl) rfl; have c0_3 := hS0.get 3 (.bool gw) rfl; have c0_4 := hS0.get 4 (.int .i64 gp) rfl; clear hS0 hSw; go_simp; try with_reducible rfl) ?_
        simp only [pA, pB, pC]
        refine tkR 1 52 rfl hS (fun w' hSw => by have hS0 := hSw; have c0_0 := hS0.get 0 (.int .i64 gk) rfl; have c0_1 := hS0.get 1 (.int .i64 gs) rfl; have c0_2 := hS0.get 2 (.int .i64 gl) rfl; have c0_3 := hS0.get 3 (.bool gw) rfl; have c0_4 := hS0.get 4 (.int .i64 gp) rfl; clear hS0 hSw; go_simp; try with_reducible rfl) ?_
        simp only [pA, pB, pC]
        refine tkR 2 53 rfl hS (fun w' hSw => by have hS0 := hSw; have c0_0 := hS0.get 0 (.int .i64 gk) rfl; have c0_1 := hS0.get 1 (.int .i64 gs) rfl; have c0_2 := hS0.get 2 (.int .i64 gl) rfl; have c0_3 := hS0.get 3 (.bool gw) rfl; have c0_4 := hS0.get 4 (.int .i64 gp) rfl; clear hS0 hSw; go_simp; try with_reducible rfl) ?_
        simp only [pA, pB, pC]
        refine wpAnyH_ready (rs := [3]) (by kernel_rfl) (by simp) ?_
        refine AllReadyH.cons (o := ⟨none, _, _, _, _, _⟩) rfl (fun K hK => ?_) AllReadyH.nil
        refine step_storeB rfl 40 _ _ rfl _ _ z9 40 rfl rfl (by kernel_rfl) rfl (by simp [Value.oneCell']) H7a.out ?_
        refine hK.out _ _ ?_ (fun hS' => ?_)
        · exact hS.row (by omega)
        clear hK K hS
        have hS := hS'
        clear hS'
        try simp only [Act.put]
        have M7b := Lib.hid (M7a.out.row (cs' := #[.int .i64 0, .int .i64 0, .bool false, .bool false, .bool false, .bool false, .bool false, .int .i64 0, .int .i64 0]) (show w.heap.size ≠ w.heap.size + 1 + 1 by omega))
        have T7b := Lib.hid (T7a.out.row (cs' := #[.int .i64 0, .int .i64 0, .bool false, .bool false, .bool false, .bool false, .bool false, .int .i64 0, .int .i64 0]) (show w.heap.size + 1 ≠ w.heap.size + 1 + 1 by omega))
        have H7b := Lib.hid (H7a.out.put (cs' := #[.int .i64 0, .int .i64 0, .bool false, .bool false, .bool false, .bool false, .bool false, .int .i64 0, .int .i64 0]))
        have F7b := Lib.hid (F7a.out.row (cs' := #[.int .i64 0, .int .i64 0, .bool false, .bool false, .bool false, .bool false, .bool false, .int .i64 0, .int .i64 0]) (show w.heap.size + 1 + 1 + 1 ≠ w.heap.size + 1 + 1 by omega))
        have X7b := Lib.hid (X7a.out.row (cs' := #[.int .i64 0, .int .i64 0, .bool false, .bool false, .bool false, .bool false, .bool false, .int .i64 0, .int .i64 0]) (show bX ≠ w.heap.size + 1 + 1 by omega))
        have Y7b := Lib.hid (Y7a.out.row (cs' := #[.int .i64 0, .int .i64 0, .bool false, .bool false, .bool false, .bool false, .bool false, .int .i64 0, .int .i64 0]) (show bX + 1 ≠ w.heap.size + 1 + 1 by omega))
        have O7b := Lib.hid (O7a.out.row (cs := #[.int .i64 0, .int .i64 0, .bool false, .bool false, .bool false, .bool false, .bool false, .int .i64 0, .int .i64 0]) (show w.heap.size + 1 + 1 < _ by omega))
        have B7b := Lib.hid (Below.rowB (g := w.heap.size + 1 + 1) B7a.out (cs := #[.int .i64 0, .int .i64 0, .bool false, .bool false, .bool false, .bool false, .bool false, .int .i64 0, .int .i64 0]) (by omega))
        clear M7a T7a H7a F7a X7a Y7a O7a B7a
        obtain ⟨V7b, hV⟩ : ∃ V7b, V7b = V7a.setRow (w.heap.size + 1 + 1) #[.int .i64 0, .int .i64 0, .bool false, .bool false, .bool false, .bool false, .bool false, .int .i64 0, .int .i64 0] := ⟨_, rfl⟩
        rw [← hV] at M7b T7b H7b F7b X7b Y7b B7b O7b hS ⊢
        clear hV
        refine wpAnyH_ready (rs := [4]) (by kernel_rfl) (by simp) ?_
        refine AllReadyH.cons (o := ⟨none, _, _, _, _, _⟩) rfl (fun K hK => ?_) AllReadyH.nil
        refine step_storeB rfl 42 _ _ rfl _ _ z5 42 rfl rfl (by kernel_rfl) rfl (by simp [Value.oneCell']) F7b.out ?_
        refine hK.out _ _ ?_ (fun hS' => ?_)
        · exact hS.row (by omega)
        clear hK K hS
        have hS := hS'
        clear hS'
        try simp only [Act.put]
        have M7c := Lib.hid (M7b.out.row (cs' := #[.int .i64 gk, .int .i64 gs, .int .i64 gl, .bool gw, .int .i64 gp]) (show w.heap.size ≠ w.heap.size + 1 + 1 + 1 by omega))
        have T7c := Lib.hid (T7b.out.row (cs' := #[.int .i64 gk, .int .i64 gs, .int .i64 gl, .bool gw, .int .i64 gp]) (show w.heap.size + 1 ≠ w.heap.size + 1 + 1 + 1 by omega))
        have H7c := Lib.hid (H7b.out.row (cs' := #[.int .i64 gk, .int .i64 gs, .int .i64 gl, .bool gw, .int .i64 gp]) (show w.heap.size + 1 + 1 ≠ w.heap.size + 1 + 1 + 1 by omega))
        have F7c := Lib.hid (F7b.out.put (cs' := #[.int .i64 gk, .int .i64 gs, .int .i64 gl, .bool gw, .int .i64 gp]))
        have X7c := Lib.hid (X7b.out.row (cs' := #[.int .i64 gk, .int .i64 gs, .int .i64 gl, .bool gw, .int .i64 gp]) (show bX ≠ w.heap.size + 1 + 1 + 1 by omega))
        have Y7c := Lib.hid (Y7b.out.row (cs' := #[.int .i64 gk, .int .i64 gs, .int .i64 gl, .bool gw, .int .i64 gp]) (show bX + 1 ≠ w.heap.size + 1 + 1 + 1 by omega))
        have O7c := Lib.hid (O7b.out.row (cs := #[.int .i64 gk, .int .i64 gs, .int .i64 gl, .bool gw, .int .i64 gp]) (show w.heap.size + 1 + 1 + 1 < _ by omega))
        have B7c := Lib.hid (Below.rowB (g := w.heap.size + 1 + 1 + 1) B7b.out (cs := #[.int .i64 gk, .int .i64 gs, .int .i64 gl, .bool gw, .int .i64 gp]) (by omega))
        clear M7b T7b H7b F7b X7b Y7b O7b B7b
        obtain ⟨V7c, hV⟩ : ∃ V7c, V7c = V7b.setRow (w.heap.size + 1 + 1 + 1) #[.int .i64 gk, .int .i64 gs, .int .i64 gl, .bool gw, .int .i64 gp] := ⟨_, rfl⟩
        rw [← hV] at M7c T7c H7c F7c X7c Y7c B7c O7c hS ⊢
        clear hV
        refine tkR 5 10 rfl hS (fun w' hSw => by have hS0 := hSw; have c0_0 := hS0.get 0 (.int .i64 gk) rfl; have c0_1 := hS0.get 1 (.int .i64 gs) rfl; have c0_2 := hS0.get 2 (.int .i64 gl) rfl; have c0_3 := hS0.get 3 (.bool gw) rfl; have c0_4 := hS0.get 4 (.int .i64 gp) rfl; clear hS0 hSw; go_simp; try with_reducible rfl) ?_
        simp only [pA, pB, pC]
        refine wpAnyH_done (by kernel_rfl) ?_ _
        try simp only [Act.put, List.setIfInBounds_toArray, List.set_cons_zero, List.set_cons_succ]
        clear hS
        have Hc0 := H7c.out.get 0 (.int .i64 0) rfl
        have Hc1 := H7c.out.get 1 (.int .i64 0) rfl
        have Hc2 := H7c.out.get 2 (.bool false) rfl
        have Hc3 := H7c.out.get 3 (.bool false) rfl
        have Hc4 := H7c.out.get 4 (.bool false) rfl
        have Hc5 := H7c.out.get 5 (.bool false) rfl
        have Hc6 := H7c.out.get 6 (.bool false) rfl
        have Hc7 := H7c.out.get 7 (.int .i64 0) rfl
        have Hc8 := H7c.out.get 8 (.int .i64 0) rfl
        have Fc0 := F7c.out.get 0 (.int .i64 gk) rfl
        have Fc1 := F7c.out.get 1 (.int .i64 gs) rfl
        have Fc2 := F7c.out.get 2 (.int .i64 gl) rfl
        have Fc3 := F7c.out.get 3 (.bool gw) rfl
        have Fc4 := F7c.out.get 4 (.int .i64 gp) rfl
        go_wp2
        refine bodyPost_ret (v := .tuple #[.agg #[.int .i64 0, .int .i64 0, .bool false, .bool false, .bool false, .bool false, .bool false, .int .i64 0, .int .i64 0], .agg #[.int .i64 gk, .int .i64 gs, .int .i64 gl, .bool gw, .int .i64 gp], .slice f' R.length c']) (by simp [results, Tryz.results12, go_sem, Hc0, Hc1, Hc2, Hc3, Hc4, Hc5, Hc6, Hc7, Hc8, Fc0, Fc1, Fc2, Fc3, Fc4]) rfl ?_
        exact WalkEnd.mk' (hh := hit0) (ff := ⟨gk, gs, gl, gw, gp⟩) (R := R) HQ.out.symm rfl (by first | rfl | simp) O7c.out (show w.heap.size ≤ w.heap.size + 4 by omega) B7c.out
    · obtain ⟨hk, hq9⟩ := hq
      clear hq9
      rw [if_neg hk] at HQ
      have dk : decide (fk = 0) = false := decide_eq_false hk
      have bk : (fk == 0) = false := by rw [beq_int]; exact dk
      go_upto_region 6 with fail
      have M3 := Lib.hid (((M2.out.alloc (.cells #[.int .i64 hf, .int .i64 hm, .bool hr, .bool hw, .bool hx, .bool ha, .bool hn, .int .i64 hs, .int .i64 hl] 40)).alloc (.cells #[.int .i64 fk, .int .i64 fs, .int .i64 fl, .bool fw, .int .i64 fp] 42)))
      have T3 := Lib.hid (((T2.out.alloc (.cells #[.int .i64 hf, .int .i64 hm, .bool hr, .bool hw, .bool hx, .bool ha, .bool hn, .int .i64 hs, .int .i64 hl] 40)).alloc (.cells #[.int .i64 fk, .int .i64 fs, .int .i64 fl, .bool fw, .int .i64 fp] 42)))
      have H3 := Lib.hid (((H2.out.alloc (.cells #[.int .i64 hf, .int .i64 hm, .bool hr, .bool hw, .bool hx, .bool ha, .bool hn, .int .i64 hs, .int .i64 hl] 40)).alloc (.cells #[.int .i64 fk, .int .i64 fs, .int .i64 fl, .bool fw, .int .i64 fp] 42)))
      have F3 := Lib.hid (((F2.out.alloc (.cells #[.int .i64 hf, .int .i64 hm, .bool hr, .bool hw, .bool hx, .bool ha, .bool hn, .int .i64 hs, .int .i64 hl] 40)).alloc (.cells #[.int .i64 fk, .int .i64 fs, .int .i64 fl, .bool fw, .int .i64 fp] 42)))
      have X3 := Lib.hid (((BoxAt.newAt (w1) #[.int .i64 hf, .int .i64 hm, .bool hr, .bool hw, .bool hx, .bool ha, .bool hn, .int .i64 hs, .int .i64 hl] 40 (w1.heap.size) (by first | rfl | (simp; done) | (simp; omega))).alloc (.cells #[.int .i64 fk, .int .i64 fs, .int .i64 fl, .bool fw, .int .i64 fp] 42)))
      have Y3 := Lib.hid ((BoxAt.newAt ((w1).alloc (.cells #[.int .i64 hf, .int .i64 hm, .bool hr, .bool hw, .bool hx, .bool ha, .bool hn, .int .i64 hs, .int .i64 hl] 40)) #[.int .i64 fk, .int .i64 fs, .int .i64 fl, .bool fw, .int .i64 fp] 42 (w1.heap.size + 1) (by first | rfl | (simp; done) | (simp; omega))))
      have O3 := Lib.hid (((O1.out.alloc (.cells #[.int .i64 hf, .int .i64 hm, .bool hr, .bool hw, .bool hx, .bool ha, .bool hn, .int .i64 hs, .int .i64 hl] 40)).alloc (.cells #[.int .i64 fk, .int .i64 fs, .int .i64 fl, .bool fw, .int .i64 fp] 42)))
      have B3 := Lib.hid ((bel_alloc (bel_alloc B2.out (.cells #[.int .i64 hf, .int .i64 hm, .bool hr, .bool hw, .bool hx, .bool ha, .bool hn, .int .i64 hs, .int .i64 hl] 40)) (.cells #[.int .i64 fk, .int .i64 fs, .int .i64 fl, .bool fw, .int .i64 fp] 42)))
      clear M2 T2 H2 F2 O1 B2
      obtain ⟨W8, hW8⟩ : ∃ W8, W8 = (w1.alloc (.cells #[.int .i64 hf, .int .i64 hm, .bool hr, .bool hw, .bool hx, .bool ha, .bool hn, .int .i64 hs, .int .i64 hl] 40)).alloc (.cells #[.int .i64 fk, .int .i64 fs, .int .i64 fl, .bool fw, .int .i64 fp] 42) := ⟨_, rfl⟩
      obtain ⟨bX, hbX⟩ : ∃ bX, bX = w1.heap.size := ⟨_, rfl⟩
      have hgX : w.heap.size + 1 + 1 + 1 < bX := by rw [hbX]; exact hlF1
      rw [← hW8] at M3 T3 H3 F3 X3 Y3 B3 O3 ⊢
      rw [← hbX] at X3 Y3 ⊢
      clear hW8 hbX
      have HN0 : Hid ((Value.slice f' R.length c').ownBlock ≠ some bX) := O3.out.ne_box X3.out (by decide)
      have HN1 : Hid ((Value.slice f' R.length c').ownBlock ≠ some (bX + 1)) := O3.out.ne_box Y3.out (by decide)
      have Yc0 := Y3.out.get 0 (.int .i64 fk) rfl
      go_upto_region 9 with fail
      clear Yc0
      refine wp_region_held_drew (S := (fun w' => BoxAt w' (bX + 1) #[.int .i64 fk, .int .i64 fs, .int .i64 fl, .bool fw, .int .i64 fp] 42)) (by kernel_rfl) Y3.out.drew (fun hS => ?_)
      have M4a := Lib.hid (M3.out.drew)
      have T4a := Lib.hid (T3.out.drew)
      have H4a := Lib.hid (H3.out.drew)
      have F4a := Lib.hid (F3.out.drew)
      have X4a := Lib.hid (X3.out.drew)
      have Y4a := Lib.hid (Y3.out.drew)
      have O4a := Lib.hid (O3.out.drew)
      have B4a := Lib.hid (Below.drew B3.out)
      clear M3 T3 H3 F3 X3 Y3 O3 B3
      obtain ⟨V4a, hV⟩ : ∃ V4a, V4a = W8.drew := ⟨_, rfl⟩
      rw [← hV] at M4a T4a H4a F4a X4a Y4a B4a O4a hS ⊢
      clear hV
      refine tkR 0 51 rfl hS (fun w' hSw => by have hS0 := hSw; have c0_0 := hS0.get 0 (.int .i64 fk) rfl; have c0_1 := hS0.get 1 (.int .i64 fs) rfl; have c0_2 := hS0.get 2 (.int .i64 fl) rfl; have c0_3 := hS0.get 3 (.bool fw) rfl; have c0_4 := hS0.get 4 (.int .i64 fp) rfl; clear hS0 hSw; go_simp; try with_reducible rfl) ?_
      simp only [pA, pB, pC]
      refine tkR 1 52 rfl hS (fun w' hSw => by have hS0 := hSw; have c0_0 := hS0.get 0 (.int .i64 fk) rfl; have c0_1 := hS0.get 1 (.int .i64 fs) rfl; have c0_2 := hS0.get 2 (.int .i64 fl) rfl; have c0_3 := hS0.get 3 (.bool fw) rfl; have c0_4 := hS0.get 4 (.int .i64 fp) rfl; clear hS0 hSw; go_simp; try with_reducible rfl) ?_
      simp only [pA, pB, pC]
      refine tkR 2 53 rfl hS (fun w' hSw => by have hS0 := hSw; have c0_0 := hS0.get 0 (.int .i64 fk) rfl; have c0_1 := hS0.get 1 (.int .i64 fs) rfl; have c0_2 := hS0.get 2 (.int .i64 fl) rfl; have c0_3 := hS0.get 3 (.bool fw) rfl; have c0_4 := hS0.get 4 (.int .i64 fp) rfl; clear hS0 hSw; go_simp; try with_reducible rfl) ?_
      simp only [pA, pB, pC]
      refine wpAnyH_ready (rs := [3]) (by kernel_rfl) (by simp) ?_
      refine AllReadyH.cons (o := ⟨none, _, _, _, _, _⟩) rfl (fun K hK => ?_) AllReadyH.nil
      refine step_storeB rfl 40 _ _ rfl _ _ z9 40 rfl rfl (by kernel_rfl) rfl (by simp [Value.oneCell']) H4a.out ?_
      refine hK.out _ _ ?_ (fun hS' => ?_)
      · exact hS.row (by omega)
      clear hK K hS
      have hS := hS'
      clear hS'
      try simp only [Act.put]
      have M4b := Lib.hid (M4a.out.row (cs' := #[.int .i64 0, .int .i64 0, .bool false, .bool false, .bool false, .bool false, .bool false, .int .i64 0, .int .i64 0]) (show w.heap.size ≠ w.heap.size + 1 + 1 by omega))
      have T4b := Lib.hid (T4a.out.row (cs' := #[.int .i64 0, .int .i64 0, .bool false, .bool false, .bool false, .bool false, .bool false, .int .i64 0, .int .i64 0]) (show w.heap.size + 1 ≠ w.heap.size + 1 + 1 by omega))
      have H4b := Lib.hid (H4a.out.put (cs' := #[.int .i64 0, .int .i64 0, .bool false, .bool false, .bool false, .bool false, .bool false, .int .i64 0, .int .i64 0]))
      have F4b := Lib.hid (F4a.out.row (cs' := #[.int .i64 0, .int .i64 0, .bool false, .bool false, .bool false, .bool false, .bool false, .int .i64 0, .int .i64 0]) (show w.heap.size + 1 + 1 + 1 ≠ w.heap.size + 1 + 1 by omega))
      have X4b := Lib.hid (X4a.out.row (cs' := #[.int .i64 0, .int .i64 0, .bool false, .bool false, .bool false, .bool false, .bool false, .int .i64 0, .int .i64 0]) (show bX ≠ w.heap.size + 1 + 1 by omega))
      have Y4b := Lib.hid (Y4a.out.row (cs' := #[.int .i64 0, .int .i64 0, .bool false, .bool false, .bool false, .bool false, .bool false, .int .i64 0, .int .i64 0]) (show bX + 1 ≠ w.heap.size + 1 + 1 by omega))
      have O4b := Lib.hid (O4a.out.row (cs := #[.int .i64 0, .int .i64 0, .bool false, .bool false, .bool false, .bool false, .bool false, .int .i64 0, .int .i64 0]) (show w.heap.size + 1 + 1 < _ by omega))
      have B4b := Lib.hid (Below.rowB (g := w.heap.size + 1 + 1) B4a.out (cs := #[.int .i64 0, .int .i64 0, .bool false, .bool false, .bool false, .bool false, .bool false, .int .i64 0, .int .i64 0]) (by omega))
      clear M4a T4a H4a F4a X4a Y4a O4a B4a
      obtain ⟨V4b, hV⟩ : ∃ V4b, V4b = V4a.setRow (w.heap.size + 1 + 1) #[.int .i64 0, .int .i64 0, .bool false, .bool false, .bool false, .bool false, .bool false, .int .i64 0, .int .i64 0] := ⟨_, rfl⟩
      rw [← hV] at M4b T4b H4b F4b X4b Y4b B4b O4b hS ⊢
      clear hV
      refine wpAnyH_ready (rs := [4]) (by kernel_rfl) (by simp) ?_
      refine AllReadyH.cons (o := ⟨none, _, _, _, _, _⟩) rfl (fun K hK => ?_) AllReadyH.nil
      refine step_storeB rfl 42 _ _ rfl _ _ z5 42 rfl rfl (by kernel_rfl) rfl (by simp [Value.oneCell']) F4b.out ?_
      refine hK.out _ _ ?_ (fun hS' => ?_)
      · exact hS.row (by omega)
      clear hK K hS
      have hS := hS'
      clear hS'
      try simp only [Act.put]
      have M4c := Lib.hid (M4b.out.row (cs' := #[.int .i64 fk, .int .i64 fs, .int .i64 fl, .bool fw, .int .i64 fp]) (show w.heap.size ≠ w.heap.size + 1 + 1 + 1 by omega))
      have T4c := Lib.hid (T4b.out.row (cs' := #[.int .i64 fk, .int .i64 fs, .int .i64 fl, .bool fw, .int .i64 fp]) (show w.heap.size + 1 ≠ w.heap.size + 1 + 1 + 1 by omega))
      have H4c := Lib.hid (H4b.out.row (cs' := #[.int .i64 fk, .int .i64 fs, .int .i64 fl, .bool fw, .int .i64 fp]) (show w.heap.size + 1 + 1 ≠ w.heap.size + 1 + 1 + 1 by omega))
      have F4c := Lib.hid (F4b.out.put (cs' := #[.int .i64 fk, .int .i64 fs, .int .i64 fl, .bool fw, .int .i64 fp]))
      have X4c := Lib.hid (X4b.out.row (cs' := #[.int .i64 fk, .int .i64 fs, .int .i64 fl, .bool fw, .int .i64 fp]) (show bX ≠ w.heap.size + 1 + 1 + 1 by omega))
      have Y4c := Lib.hid (Y4b.out.row (cs' := #[.int .i64 fk, .int .i64 fs, .int .i64 fl, .bool fw, .int .i64 fp]) (show bX + 1 ≠ w.heap.size + 1 + 1 + 1 by omega))
      have O4c := Lib.hid (O4b.out.row (cs := #[.int .i64 fk, .int .i64 fs, .int .i64 fl, .bool fw, .int .i64 fp]) (show w.heap.size + 1 + 1 + 1 < _ by omega))
      have B4c := Lib.hid (Below.rowB (g := w.heap.size + 1 + 1 + 1) B4b.out (cs := #[.int .i64 fk, .int .i64 fs, .int .i64 fl, .bool fw, .int .i64 fp]) (by omega))
      clear M4b T4b H4b F4b X4b Y4b O4b B4b
      obtain ⟨V4c, hV⟩ : ∃ V4c, V4c = V4b.setRow (w.heap.size + 1 + 1 + 1) #[.int .i64 fk, .int .i64 fs, .int .i64 fl, .bool fw, .int .i64 fp] := ⟨_, rfl⟩
      rw [← hV] at M4c T4c H4c F4c X4c Y4c B4c O4c hS ⊢
      clear hV
      refine tkR 5 10 rfl hS (fun w' hSw => by have hS0 := hSw; have c0_0 := hS0.get 0 (.int .i64 fk) rfl; have c0_1 := hS0.get 1 (.int .i64 fs) rfl; have c0_2 := hS0.get 2 (.int .i64 fl) rfl; have c0_3 := hS0.get 3 (.bool fw) rfl; have c0_4 := hS0.get 4 (.int .i64 fp) rfl; clear hS0 hSw; go_simp; try with_reducible rfl) ?_
      simp only [pA, pB, pC]
      refine wpAnyH_done (by kernel_rfl) ?_ _
      try simp only [Act.put, List.setIfInBounds_toArray, List.set_cons_zero, List.set_cons_succ]
      clear hS
      have Hc0 := H4c.out.get 0 (.int .i64 0) rfl
      have Hc1 := H4c.out.get 1 (.int .i64 0) rfl
      have Hc2 := H4c.out.get 2 (.bool false) rfl
      have Hc3 := H4c.out.get 3 (.bool false) rfl
      have Hc4 := H4c.out.get 4 (.bool false) rfl
      have Hc5 := H4c.out.get 5 (.bool false) rfl
      have Hc6 := H4c.out.get 6 (.bool false) rfl
      have Hc7 := H4c.out.get 7 (.int .i64 0) rfl
      have Hc8 := H4c.out.get 8 (.int .i64 0) rfl
      have Fc0 := F4c.out.get 0 (.int .i64 fk) rfl
      have Fc1 := F4c.out.get 1 (.int .i64 fs) rfl
      have Fc2 := F4c.out.get 2 (.int .i64 fl) rfl
      have Fc3 := F4c.out.get 3 (.bool fw) rfl
      have Fc4 := F4c.out.get 4 (.int .i64 fp) rfl
      go_wp2
      refine bodyPost_ret (v := .tuple #[.agg #[.int .i64 0, .int .i64 0, .bool false, .bool false, .bool false, .bool false, .bool false, .int .i64 0, .int .i64 0], .agg #[.int .i64 fk, .int .i64 fs, .int .i64 fl, .bool fw, .int .i64 fp], .slice f' R.length c']) (by simp [results, Tryz.results12, go_sem, Hc0, Hc1, Hc2, Hc3, Hc4, Hc5, Hc6, Hc7, Hc8, Fc0, Fc1, Fc2, Fc3, Fc4]) rfl ?_
      exact WalkEnd.mk' (hh := hit0) (ff := ⟨fk, fs, fl, fw, fp⟩) (R := R) HQ.out.symm rfl (by first | rfl | simp) O4c.out (show w.heap.size ≤ w.heap.size + 4 by omega) B4c.out
end Go.Proofs.YtalbblaicmdhmaaGreat
