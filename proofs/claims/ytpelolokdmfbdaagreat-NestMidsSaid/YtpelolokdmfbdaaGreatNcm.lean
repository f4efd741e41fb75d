/- Package nest's floor alone: Mid: contract. -/
import Derived.Test.YtpelolokdmfbdaaGreatNca
namespace Go.Proofs.YtpelolokdmfbdaaGreat
open Go.ChangeShapes Go.WideShapes Go.ChangeAt Go.RowKit Go.Deep

set_option maxRecDepth 100000 in
set_option maxHeartbeats 1600000 in
theorem nplainF_any (f : Option Addr) (l c : Nat) (on : Bool) (tf tg : Int) (rd : Value) (mid : Int) (tb : Nat) (w : World) (hT : BoxAt w tb #[.slice f l c, .bool on, .int .i64 tf, .int .i64 tg, rd] 59) (hM : okM l = true) :
    Calls Tryz.prog 53 #[.pointer (some ⟨tb, 0, none⟩), .int .i64 mid] w fun e w' => e = .returned (.tuple #[hitV (if (l : Int) / 8 ≤ mid then hit0 else ⟨mid, 0, both1, 0⟩), fltV (if (l : Int) / 8 ≤ mid then ⟨1, 2, 0, false, mid⟩ else flt0)]) ∧ Below w.heap.size w w' := by
  have HF := Lib.hid (fun W => frames_any f l c W)
  rw [if_pos hM] at HF
  have HB := Lib.hid (fun W => bothC none 0 0 [] W (RowsAt.nil _ _) rfl (by decide))
  have htl : tb + 1 ≤ w.heap.size := hT.lt
  have htw : w.heap.size ≤ w.heap.size := Nat.le_refl _
  have T0 := Lib.hid hT
  have B0 := Lib.hid (Below.refl w.heap.size w)
  clear hM hT
  generalize (l : Int) / 8 = N at *
  by_cases hA : N ≤ mid
  · rw [if_pos hA, if_pos hA]
    have dA : decide (N ≤ mid) = true := decide_eq_true hA
    unfold hitV fltV hit0 atr0
    simp only
    clear hA
    go_enter Tryz.func53, Tryz.ntmps53
    go_upto_region 1 with fail
    have T1 := Lib.hid (((T0.out.alloc (.cells z9 36)).alloc (.cells z5 38)))
    have H1 := Lib.hid (((BoxAt.newAt (w) z9 36 (w.heap.size) (by first | omega | (simp; done) | (simp; omega))).alloc (.cells z5 38)))
    have F1 := Lib.hid ((BoxAt.newAt ((w).alloc (.cells z9 36)) z5 38 (w.heap.size + 1) (by first | omega | (simp; done) | (simp; omega))))
    have B1 := Lib.hid ((bel_alloc (bel_alloc B0.out (.cells z9 36)) (.cells z5 38)))
    obtain ⟨g1, hg1⟩ : ∃ g1, g1 = w.heap.size := ⟨_, rfl⟩
    obtain ⟨W1, hW1⟩ : ∃ W1, W1 = ((w).alloc (.cells z9 36)).alloc (.cells z5 38) := ⟨_, rfl⟩
    have hs1 : g1 + 1 + 1 ≤ W1.heap.size := by rw [hW1, hg1]; simp
    rw [← hW1] at T1 H1 F1 B1 ⊢
    have hb1 : w.heap.size ≤ g1 := by omega
    rw [← hg1] at H1 F1 ⊢
    clear hg1
    clear hW1 T0 B0
    have Tc0 := T1.out.get 0 (.slice f l c) rfl
    go_wp2_with fail
    refine (HF.out _).mono ?_
    rintro e w2 ⟨rfl, hb2⟩
    have hz2 := hb2.size
    have T2 := Lib.hid (T1.out.below hb2)
    have H2 := Lib.hid (H1.out.below hb2)
    have F2 := Lib.hid (F1.out.below hb2)
    have B2 := Lib.hid (bel_trans B1.out hb2)
    skip
    have hs2 : g1 + 1 + 1 ≤ w2.heap.size := by omega
    clear Tc0
    clear T1 H1 F1 B1 hs1 hb2 hz2
    go_wp2_with (first | (refine wpList_storeB rfl 36 _ _ rfl (g1) #[.int .i64 0, .int .i64 0, .bool false, .bool false, .bool false, .bool false, .bool false, .int .i64 0, .int .i64 0] _ 36 rfl rfl (by kernel_rfl) (by rfl) (by simp [Value.oneCell']) H2.out ?_) | (refine wpList_storeB rfl 38 _ _ rfl (g1 + 1) #[.int .i64 1, .int .i64 2, .int .i64 0, .bool false, .int .i64 mid] _ 38 rfl rfl (by kernel_rfl) (by rfl) (by simp [Value.oneCell']) (F2.out.row (cs' := #[.int .i64 0, .int .i64 0, .bool false, .bool false, .bool false, .bool false, .bool false, .int .i64 0, .int .i64 0]) (show g1 + 1 ≠ g1 by omega)) ?_))
    have RH := ((H2.out.put (cs' := #[.int .i64 0, .int .i64 0, .bool false, .bool false, .bool false, .bool false, .bool false, .int .i64 0, .int .i64 0])).row (cs' := #[.int .i64 1, .int .i64 2, .int .i64 0, .bool false, .int .i64 mid]) (show g1 ≠ g1 + 1 by omega))
    have RF := ((F2.out.row (cs' := #[.int .i64 0, .int .i64 0, .bool false, .bool false, .bool false, .bool false, .bool false, .int .i64 0, .int .i64 0]) (show g1 + 1 ≠ g1 by omega)).put (cs' := #[.int .i64 1, .int .i64 2, .int .i64 0, .bool false, .int .i64 mid]))
    refine bodyPost_ret (v := .tuple #[.agg #[.int .i64 0, .int .i64 0, .bool false, .bool false, .bool false, .bool false, .bool false, .int .i64 0, .int .i64 0], .agg #[.int .i64 1, .int .i64 2, .int .i64 0, .bool false, .int .i64 mid]]) (by simp [results, Tryz.results53, go_sem, RH.get 0 (.int .i64 0) rfl, RH.get 1 (.int .i64 0) rfl, RH.get 2 (.bool false) rfl, RH.get 3 (.bool false) rfl, RH.get 4 (.bool false) rfl, RH.get 5 (.bool false) rfl, RH.get 6 (.bool false) rfl, RH.get 7 (.int .i64 0) rfl, RH.get 8 (.int .i64 0) rfl, RF.get 0 (.int .i64 1) rfl, RF.get 1 (.int .i64 2) rfl, RF.get 2 (.int .i64 0) rfl, RF.get 3 (.bool false) rfl, RF.get 4 (.int .i64 mid) rfl]) rfl ?_
    exact ⟨rfl, (Below.rowB (g := g1 + 1) (Below.rowB (g := g1) B2.out (cs := #[.int .i64 0, .int .i64 0, .bool false, .bool false, .bool false, .bool false, .bool false, .int .i64 0, .int .i64 0]) (show w.heap.size ≤ g1 by omega)) (cs := #[.int .i64 1, .int .i64 2, .int .i64 0, .bool false, .int .i64 mid]) (show w.heap.size ≤ g1 + 1 by omega))⟩
  · rw [if_neg hA, if_neg hA]
    have dA : decide (N ≤ mid) = false := decide_eq_false hA
    unfold hitV fltV flt0
    simp only
    skip
    clear hA
    go_enter Tryz.func53, Tryz.ntmps53
    go_upto_region 1 with fail
    have T1 := Lib.hid (((T0.out.alloc (.cells z9 36)).alloc (.cells z5 38)))
    have H1 := Lib.hid (((BoxAt.newAt (w) z9 36 (w.heap.size) (by first | omega | (simp; done) | (simp; omega))).alloc (.cells z5 38)))
    have F1 := Lib.hid ((BoxAt.newAt ((w).alloc (.cells z9 36)) z5 38 (w.heap.size + 1) (by first | omega | (simp; done) | (simp; omega))))
    have B1 := Lib.hid ((bel_alloc (bel_alloc B0.out (.cells z9 36)) (.cells z5 38)))
    obtain ⟨g1, hg1⟩ : ∃ g1, g1 = w.heap.size := ⟨_, rfl⟩
    obtain ⟨W1, hW1⟩ : ∃ W1, W1 = ((w).alloc (.cells z9 36)).alloc (.cells z5 38) := ⟨_, rfl⟩
    have hs1 : g1 + 1 + 1 ≤ W1.heap.size := by rw [hW1, hg1]; simp
    rw [← hW1] at T1 H1 F1 B1 ⊢
    have hb1 : w.heap.size ≤ g1 := by omega
    rw [← hg1] at H1 F1 ⊢
    clear hg1
    clear hW1 T0 B0
    have Tc0 := T1.out.get 0 (.slice f l c) rfl
    go_wp2_with fail
    refine (HF.out _).mono ?_
    rintro e w2 ⟨rfl, hb2⟩
    have hz2 := hb2.size
    have T2 := Lib.hid (T1.out.below hb2)
    have H2 := Lib.hid (H1.out.below hb2)
    have F2 := Lib.hid (F1.out.below hb2)
    have B2 := Lib.hid (bel_trans B1.out hb2)
    skip
    have hs2 : g1 + 1 + 1 ≤ w2.heap.size := by omega
    clear Tc0
    clear T1 H1 F1 B1 hs1 hb2 hz2
    go_wp2_with fail
    refine (HB.out _).mono ?_
    rintro e w3 ⟨rfl, hb3⟩
    have hz3 := hb3.size
    have T3 := Lib.hid (T2.out.below hb3)
    have H3 := Lib.hid (H2.out.below hb3)
    have F3 := Lib.hid (F2.out.below hb3)
    have B3 := Lib.hid (bel_trans B2.out hb3)
    skip
    have hs3 : g1 + 1 + 1 ≤ w3.heap.size := by omega
    clear T2 H2 F2 B2 hs2 hb3 hz3
    skip
    go_wp2_with (first | (refine wpList_storeB rfl 36 _ _ rfl (g1) #[.int .i64 mid, .int .i64 0, .bool true, .bool true, .bool true, .bool true, .bool false, .int .i64 0, .int .i64 0] _ 36 rfl rfl (by kernel_rfl) (by rfl) (by simp [Value.oneCell']) H3.out ?_) | (refine wpList_storeB rfl 38 _ _ rfl (g1 + 1) #[.int .i64 0, .int .i64 0, .int .i64 0, .bool false, .int .i64 0] _ 38 rfl rfl (by kernel_rfl) (by rfl) (by simp [Value.oneCell']) (F3.out.row (cs' := #[.int .i64 mid, .int .i64 0, .bool true, .bool true, .bool true, .bool true, .bool false, .int .i64 0, .int .i64 0]) (show g1 + 1 ≠ g1 by omega)) ?_))
    have RH := ((H3.out.put (cs' := #[.int .i64 mid, .int .i64 0, .bool true, .bool true, .bool true, .bool true, .bool false, .int .i64 0, .int .i64 0])).row (cs' := #[.int .i64 0, .int .i64 0, .int .i64 0, .bool false, .int .i64 0]) (show g1 ≠ g1 + 1 by omega))
    have RF := ((F3.out.row (cs' := #[.int .i64 mid, .int .i64 0, .bool true, .bool true, .bool true, .bool true, .bool false, .int .i64 0, .int .i64 0]) (show g1 + 1 ≠ g1 by omega)).put (cs' := #[.int .i64 0, .int .i64 0, .int .i64 0, .bool false, .int .i64 0]))
    refine bodyPost_ret (v := .tuple #[.agg #[.int .i64 mid, .int .i64 0, .bool true, .bool true, .bool true, .bool true, .bool false, .int .i64 0, .int .i64 0], .agg #[.int .i64 0, .int .i64 0, .int .i64 0, .bool false, .int .i64 0]]) (by simp [results, Tryz.results53, go_sem, RH.get 0 (.int .i64 mid) rfl, RH.get 1 (.int .i64 0) rfl, RH.get 2 (.bool true) rfl, RH.get 3 (.bool true) rfl, RH.get 4 (.bool true) rfl, RH.get 5 (.bool true) rfl, RH.get 6 (.bool false) rfl, RH.get 7 (.int .i64 0) rfl, RH.get 8 (.int .i64 0) rfl, RF.get 0 (.int .i64 0) rfl, RF.get 1 (.int .i64 0) rfl, RF.get 2 (.int .i64 0) rfl, RF.get 3 (.bool false) rfl, RF.get 4 (.int .i64 0) rfl]) rfl ?_
    exact ⟨rfl, (Below.rowB (g := g1 + 1) (Below.rowB (g := g1) B3.out (cs := #[.int .i64 mid, .int .i64 0, .bool true, .bool true, .bool true, .bool true, .bool false, .int .i64 0, .int .i64 0]) (show w.heap.size ≤ g1 by omega)) (cs := #[.int .i64 0, .int .i64 0, .int .i64 0, .bool false, .int .i64 0]) (show w.heap.size ≤ g1 + 1 by omega))⟩
/-- What stage 2 leaves of a floor: the answer; what was read behind what had been read. -/
def FlEndF (f : Option Addr) (l c : Nat) (on : Bool) (tf tg : Int) (tb B : Nat) (R : List Int) (q : Hit × Flt × List Int) (w : World) (e : Ending) (w' : World) : Prop :=
  ∃ f2 c2, e = .returned (.tuple #[hitV q.1, fltV q.2.1]) ∧ BoxAt w' tb #[.slice f l c, .bool on, .int .i64 tf, .int .i64 tg, .slice f2 (R.length + q.2.2.length) c2] 59 ∧ OwnI w' B (.slice f2 (R.length + q.2.2.length) c2) (R ++ q.2.2) ∧ Kep tb B [3] w w'
set_option maxRecDepth 100000 in
set_option maxHeartbeats 3200000 in
theorem nfindF_any (f : Option Addr) (l c : Nat) (X : Nat → BitVec 64) (on : Bool) (tf tg : Int) (mid : Int) (f' : Option Addr) (c' : Nat) (R : List Int) (tb B : Nat) (w0 w : World) (hX : WordsAt w0 f l X) (hlc : l ≤ c) (hM : okM l = true) (t0 : 0 ≤ tf) (t1 : tf ≤ 4095) (m0 : 0 ≤ mid) (m1 : mid ≤ 4095)
    (hB0 : Below w0.heap.size w0 w) (h0 : w0.heap.size ≤ tb) (hBw : B ≤ w.heap.size) (htB : tb < B) (hO : OwnI w B (.slice f' R.length c') R) (hk : R.length ≤ 100) (hT : BoxAt w tb #[.slice f l c, .bool on, .int .i64 tf, .int .i64 tg, .slice f' R.length c'] 59) :
    Calls Tryz.prog 41 #[.pointer (some ⟨tb, 0, none⟩), .int .i64 mid] w (FlEndF f l c on tf tg tb B R (findD l X on tf mid) w) := by
  have hl := (okM_true hM)
  have HPL := Lib.hid (fun W hW => nplainF_any f l c on tf tg (.slice f' R.length c') mid tb W hW hM)
  have HW := Lib.hid (fun W (hW : WordsAt W f l X) => walkC f l c X 2 tf mid W (by omega) hlc hW)
  have hq : walkA l X 2 tf mid = (walkD l X 2 tf mid, 0) := by
    unfold walkA
    rw [if_pos]
    unfold walkMay
    rw [hM, numB_iff.2 ⟨t0, t1⟩, numB_iff.2 ⟨m0, m1⟩]
    rfl
  rw [hq] at HW
  have hq4 := (walk_cases l X 2 tf mid t0 m0).1
  have T0 := Lib.hid hT
  have O0 := Lib.hid hO
  have HB0 := Lib.hid hB0
  have HX := Lib.hid hX
  have K0 := Lib.hid (Kep.refl (tb := tb) (B := B) (ow := [3]) w)
  clear hX hB0 hT hO
  clear hq hM hl t0 t1 m0 m1 hlc
  unfold findD
  cases on
  · rw [if_pos rfl]
    obtain ⟨q, hq⟩ : ∃ q, q = (if (l : Int) / 8 ≤ mid then (hit0, (⟨1, 2, 0, false, mid⟩ : Flt), ([] : List Int)) else (⟨mid, 0, both1, 0⟩, flt0, [])) := ⟨_, rfl⟩
    rw [← hq]
    have hq1 : (if (l : Int) / 8 ≤ mid then hit0 else ⟨mid, 0, both1, 0⟩) = q.1 := by rw [hq]; split <;> rfl
    have hq2 : (if (l : Int) / 8 ≤ mid then (⟨1, 2, 0, false, mid⟩ : Flt) else flt0) = q.2.1 := by rw [hq]; split <;> rfl
    have hq3 : q.2.2 = [] := by rw [hq]; split <;> rfl
    rw [hq1, hq2] at HPL
    clear hq hq1 hq2 HW hq4
    obtain ⟨⟨hf, hm, ⟨hr, hw, hx, ha, hn, hs⟩, hl⟩, ⟨fk, fs, fl, fw, fp⟩, Q⟩ := q
    simp only at hq3 HPL
    subst hq3
    unfold hitV fltV at HPL
    simp only at HPL
    go_enter Tryz.func41, Tryz.ntmps41
    go_upto_region 1 with fail
    have T1 := Lib.hid (((T0.out.alloc (.cells z9 36)).alloc (.cells z5 38)))
    have H1 := Lib.hid (((BoxAt.newAt (w) z9 36 (w.heap.size) (by first | omega | (simp; done) | (simp; omega))).alloc (.cells z5 38)))
    have F1 := Lib.hid ((BoxAt.newAt ((w).alloc (.cells z9 36)) z5 38 (w.heap.size + 1) (by first | omega | (simp; done) | (simp; omega))))
    have O1 := Lib.hid (((O0.out.alloc (.cells z9 36)).alloc (.cells z5 38)))
    have B1 := Lib.hid ((bel_alloc (bel_alloc HB0.out (.cells z9 36)) (.cells z5 38)))
    have K1 := Lib.hid (((K0.out.alloc (.cells z9 36)).alloc (.cells z5 38)))
    obtain ⟨g1, hg1⟩ : ∃ g1, g1 = w.heap.size := ⟨_, rfl⟩
    obtain ⟨W1, hW1⟩ : ∃ W1, W1 = ((w).alloc (.cells z9 36)).alloc (.cells z5 38) := ⟨_, rfl⟩
    have hs1 : g1 + 1 + 1 ≤ W1.heap.size := by rw [hW1, hg1]; simp
    rw [← hW1] at T1 H1 F1 O1 B1 K1 ⊢
    have hb1 : w.heap.size ≤ g1 := by omega
    rw [← hg1] at H1 F1 ⊢
    clear hg1
    clear hW1 T0 O0 HB0 K0
    have Tc1 := T1.out.get 1 (.bool false) rfl
    go_wp2_with fail
    refine (HPL.out _ T1.out).mono ?_
    rintro e w2 ⟨rfl, hb2⟩
    have hz2 := hb2.size
    have T2 := Lib.hid (T1.out.below hb2)
    have H2 := Lib.hid (H1.out.below hb2)
    have F2 := Lib.hid (F1.out.below hb2)
    have O2 := Lib.hid (O1.out.below hb2)
    have B2 := Lib.hid (bel_trans B1.out hb2)
    have K2 := Lib.hid (K1.out.step hb2)
    skip
    have hs2 : g1 + 1 + 1 ≤ w2.heap.size := by omega
    clear Tc1
    clear T1 H1 F1 O1 B1 K1 hs1 hb2 hz2
    go_wp2_with (first | (refine wpList_storeB rfl 36 _ _ rfl (g1) #[.int .i64 hf, .int .i64 hm, .bool hr, .bool hw, .bool hx, .bool ha, .bool hn, .int .i64 hs, .int .i64 hl] _ 36 rfl rfl (by kernel_rfl) (by rfl) (by simp [Value.oneCell']) H2.out ?_) | (refine wpList_storeB rfl 38 _ _ rfl (g1 + 1) #[.int .i64 fk, .int .i64 fs, .int .i64 fl, .bool fw, .int .i64 fp] _ 38 rfl rfl (by kernel_rfl) (by rfl) (by simp [Value.oneCell']) (F2.out.row (cs' := #[.int .i64 hf, .int .i64 hm, .bool hr, .bool hw, .bool hx, .bool ha, .bool hn, .int .i64 hs, .int .i64 hl]) (show g1 + 1 ≠ g1 by omega)) ?_))
    have RH := ((H2.out.put (cs' := #[.int .i64 hf, .int .i64 hm, .bool hr, .bool hw, .bool hx, .bool ha, .bool hn, .int .i64 hs, .int .i64 hl])).row (cs' := #[.int .i64 fk, .int .i64 fs, .int .i64 fl, .bool fw, .int .i64 fp]) (show g1 ≠ g1 + 1 by omega))
    have RF := ((F2.out.row (cs' := #[.int .i64 hf, .int .i64 hm, .bool hr, .bool hw, .bool hx, .bool ha, .bool hn, .int .i64 hs, .int .i64 hl]) (show g1 + 1 ≠ g1 by omega)).put (cs' := #[.int .i64 fk, .int .i64 fs, .int .i64 fl, .bool fw, .int .i64 fp]))
    refine bodyPost_ret (v := .tuple #[.agg #[.int .i64 hf, .int .i64 hm, .bool hr, .bool hw, .bool hx, .bool ha, .bool hn, .int .i64 hs, .int .i64 hl], .agg #[.int .i64 fk, .int .i64 fs, .int .i64 fl, .bool fw, .int .i64 fp]]) (by simp [results, Tryz.results41, go_sem, RH.get 0 (.int .i64 hf) rfl, RH.get 1 (.int .i64 hm) rfl, RH.get 2 (.bool hr) rfl, RH.get 3 (.bool hw) rfl, RH.get 4 (.bool hx) rfl, RH.get 5 (.bool ha) rfl, RH.get 6 (.bool hn) rfl, RH.get 7 (.int .i64 hs) rfl, RH.get 8 (.int .i64 hl) rfl, RF.get 0 (.int .i64 fk) rfl, RF.get 1 (.int .i64 fs) rfl, RF.get 2 (.int .i64 fl) rfl, RF.get 3 (.bool fw) rfl, RF.get 4 (.int .i64 fp) rfl]) rfl ?_
    exact ⟨f', c', rfl, ((T2.out.row (cs' := #[.int .i64 hf, .int .i64 hm, .bool hr, .bool hw, .bool hx, .bool ha, .bool hn, .int .i64 hs, .int .i64 hl]) (show tb ≠ g1 by omega)).row (cs' := #[.int .i64 fk, .int .i64 fs, .int .i64 fl, .bool fw, .int .i64 fp]) (show tb ≠ g1 + 1 by omega)), by rw [List.append_nil]; exact ((O2.out.rowN (cs := #[.int .i64 hf, .int .i64 hm, .bool hr, .bool hw, .bool hx, .bool ha, .bool hn, .int .i64 hs, .int .i64 hl]) (O2.out.ne_box H2.out (by decide))).rowN (cs := #[.int .i64 fk, .int .i64 fs, .int .i64 fl, .bool fw, .int .i64 fp]) (O2.out.ne_box F2.out (by decide))), ((K2.out.row (g1) #[.int .i64 hf, .int .i64 hm, .bool hr, .bool hw, .bool hx, .bool ha, .bool hn, .int .i64 hs, .int .i64 hl] (show w.heap.size ≤ g1 by omega)).row (g1 + 1) #[.int .i64 fk, .int .i64 fs, .int .i64 fl, .bool fw, .int .i64 fp] (show w.heap.size ≤ g1 + 1 by omega))⟩
  · rw [if_neg (by decide)]
    generalize walkD l X 2 tf mid = q at *
    obtain ⟨⟨hf, hm, ⟨hr, hw, hx, ha, hn, hs⟩, hl⟩, ⟨fk, fs, fl, fw, fp⟩, Q⟩ := q
    unfold Walk4End hitV fltV at HW
    simp only at HW hq4
    clear HPL
    go_enter Tryz.func41, Tryz.ntmps41
    go_upto_region 1 with fail
    have T1 := Lib.hid (((T0.out.alloc (.cells z9 36)).alloc (.cells z5 38)))
    have H1 := Lib.hid (((BoxAt.newAt (w) z9 36 (w.heap.size) (by first | omega | (simp; done) | (simp; omega))).alloc (.cells z5 38)))
    have F1 := Lib.hid ((BoxAt.newAt ((w).alloc (.cells z9 36)) z5 38 (w.heap.size + 1) (by first | omega | (simp; done) | (simp; omega))))
    have O1 := Lib.hid (((O0.out.alloc (.cells z9 36)).alloc (.cells z5 38)))
    have B1 := Lib.hid ((bel_alloc (bel_alloc HB0.out (.cells z9 36)) (.cells z5 38)))
    have K1 := Lib.hid (((K0.out.alloc (.cells z9 36)).alloc (.cells z5 38)))
    obtain ⟨g1, hg1⟩ : ∃ g1, g1 = w.heap.size := ⟨_, rfl⟩
    obtain ⟨W1, hW1⟩ : ∃ W1, W1 = ((w).alloc (.cells z9 36)).alloc (.cells z5 38) := ⟨_, rfl⟩
    have hs1 : g1 + 1 + 1 ≤ W1.heap.size := by rw [hW1, hg1]; simp
    rw [← hW1] at T1 H1 F1 O1 B1 K1 ⊢
    have hb1 : w.heap.size ≤ g1 := by omega
    rw [← hg1] at H1 F1 ⊢
    clear hg1
    clear hW1 T0 O0 HB0 K0
    have Tc1 := T1.out.get 1 (.bool true) rfl
    go_upto_region 3 with fail
    clear Tc1
    have hcs : g1 + 1 + 1 ≤ W1.heap.size := by omega
    refine wp_region_table (X := Option Addr × Nat) (none, 0) (I0 := fun w' => Below W1.heap.size W1 w') (I1 := fun xJ w' => Below W1.heap.size W1 w' ∧ OwnI w' (W1.heap.size) (.slice xJ.1 Q.length xJ.2) (Q)) (lo := W1.heap.size) (c := 10) (U := [⟨(some 22), .con (.pointer (some ⟨tb, 0, none⟩))⟩, ⟨(some 23), .con (.pointer (some ⟨tb, 0, none⟩))⟩, ⟨(some 24), .con (.pointer (some ⟨tb, 0, none⟩))⟩, ⟨(some 25), .ld (.agg #[.slice f l c])⟩, ⟨(some 26), .con (.pointer (some ⟨tb, 0, none⟩))⟩, ⟨(some 27), .con (.pointer (some ⟨tb, 0, none⟩))⟩, ⟨(some 28), .con (.pointer (some ⟨tb, 1, none⟩))⟩, ⟨(some 29), .con (.pointer (some ⟨tb, 2, none⟩))⟩, ⟨(some 30), .ld (.int .i64 tf)⟩, ⟨(some 31), .con (.int .i64 mid)⟩, ⟨(some 32), .cal fun xJ => .tuple #[.agg #[.int .i64 hf, .int .i64 hm, .bool hr, .bool hw, .bool hx, .bool ha, .bool hn, .int .i64 hs, .int .i64 hl], .agg #[.int .i64 fk, .int .i64 fs, .int .i64 fl, .bool fw, .int .i64 fp], .slice xJ.1 Q.length xJ.2, .int .i64 0]⟩, ⟨(some 21), .res fun xJ => .tuple #[.agg #[.int .i64 hf, .int .i64 hm, .bool hr, .bool hw, .bool hx, .bool ha, .bool hn, .int .i64 hs, .int .i64 hl], .agg #[.int .i64 fk, .int .i64 fs, .int .i64 fl, .bool fw, .int .i64 fp], .slice xJ.1 Q.length xJ.2, .int .i64 0]⟩, ⟨(some 33), .res fun xJ => .agg #[.int .i64 hf, .int .i64 hm, .bool hr, .bool hw, .bool hx, .bool ha, .bool hn, .int .i64 hs, .int .i64 hl]⟩, ⟨(some 34), .res fun xJ => .agg #[.int .i64 fk, .int .i64 fs, .int .i64 fl, .bool fw, .int .i64 fp]⟩, ⟨(some 35), .res fun xJ => .slice xJ.1 Q.length xJ.2⟩, ⟨(some 36), .res fun xJ => .int .i64 0⟩, ⟨(some 6), .new 36 #[.int .i64 0, .int .i64 0, .bool false, .bool false, .bool false, .bool false, .bool false, .int .i64 0, .int .i64 0]⟩, ⟨(some 7), .new 38 #[.int .i64 0, .int .i64 0, .int .i64 0, .bool false, .int .i64 0]⟩, ⟨none, .sto 16 fun xJ => #[.int .i64 hf, .int .i64 hm, .bool hr, .bool hw, .bool hx, .bool ha, .bool hn, .int .i64 hs, .int .i64 hl]⟩, ⟨none, .sto 17 fun xJ => #[.int .i64 fk, .int .i64 fs, .int .i64 fl, .bool fw, .int .i64 fp]⟩, ⟨(some 8), .res fun xJ => .slice xJ.1 Q.length xJ.2⟩, ⟨(some 9), .res fun xJ => .int .i64 0⟩])
      (V := fun xJ => .tuple #[.agg #[.int .i64 hf, .int .i64 hm, .bool hr, .bool hw, .bool hx, .bool ha, .bool hn, .int .i64 hs, .int .i64 hl], .agg #[.int .i64 fk, .int .i64 fs, .int .i64 fl, .bool fw, .int .i64 fp], .slice xJ.1 Q.length xJ.2, .int .i64 0]) (f := 54) (args := #[.agg #[.slice f l c], .int .i64 2, .int .i64 tf, .int .i64 mid]) (dc := some 32) (by kernel_rfl) (fun _ _ => rfl) (by kernel_rfl) (by kernel_rfl) rfl
      (AllObl.all ⟨fun _ _ _ => by kernel_rfl, fun _ _ _ => by kernel_rfl, fun _ _ _ => by kernel_rfl, fun _ _ _ hJ => run_ldN 24 (.tmp 24) tb 0 (by kernel_rfl) (by kernel_rfl) Tryz.underlying24 rfl (by kernel_rfl) ((T1.out.below hJ).sub 0 _ rfl), fun _ _ _ => by kernel_rfl, fun _ _ _ => by kernel_rfl, fun _ _ _ => by kernel_rfl, fun _ _ _ => by kernel_rfl, fun _ _ _ hJ => run_ld1 3 (.tmp 29) tb 2 (by kernel_rfl) (by kernel_rfl) Tryz.underlying3 rfl ((T1.out.below hJ).get 2 (.int .i64 tf) rfl), fun _ _ _ => by kernel_rfl, trivial, fun _ _ _ => by kernel_rfl, fun _ _ _ => by kernel_rfl, fun _ _ _ => by kernel_rfl, fun _ _ _ => by kernel_rfl, fun _ _ _ => by kernel_rfl, fun _ _ _ => by kernel_rfl, fun _ _ _ => by kernel_rfl, ⟨_, _, _, rfl, fun _ _ _ hJ => run_stoB 36 (.tmp 6) (.tmp 33) _ (by kernel_rfl) (by kernel_rfl) (by kernel_rfl) (by kernel_rfl) (by rfl) (by simp [Value.oneCell']) hJ⟩, ⟨_, _, _, rfl, fun _ _ _ hJ => run_stoB 38 (.tmp 7) (.tmp 34) _ (by kernel_rfl) (by kernel_rfl) (by kernel_rfl) (by kernel_rfl) (by rfl) (by simp [Value.oneCell']) hJ⟩, fun _ _ _ => by kernel_rfl, fun _ _ _ => by kernel_rfl, trivial⟩)
      (fun _ oJ hJ => bel_alloc hJ oJ) (fun xJ _ oJ hJ => ⟨bel_alloc hJ.1 oJ, hJ.2.alloc oJ⟩) (fun xJ _ bJ csJ dsJ tJ iJ zJ dJ hiJ hbJ hxJ hJ => ⟨Below.rowB (g := bJ) hJ.1 (cs := dsJ) hbJ, hJ.2.rowN (hJ.2.ne_box hxJ (fun eJ => newsOk_spec (bad := [3]) (by kernel_rfl) hiJ (by rw [eJ]; exact List.mem_cons_self ..)))⟩) (fun _ hJ => hJ.size) (fun xJ _ hJ => hJ.1.size) (fun _ _ _ _ => by kernel_rfl)
      (fun wJ hJ => (HW.out _ (HX.out.below (bel_trans B1.out hJ))).mono (by rintro _ w2J ⟨f3, c3, rfl, hN, hb⟩; exact ⟨(f3, c3), rfl, ⟨bel_trans hJ hb, OwnI.mono hN hJ.size⟩, fun bJ csJ tJ iJ zJ dJ hiJ hlJ hxJ => hxJ.below hb⟩)) (Below.drew (Below.refl _ _)) ?_
    rintro ⟨f3, c3⟩ βJ w2c ⟨q2_0, q2_1⟩ hNW
    obtain ⟨hbG2, QG2⟩ := hNW.full 16 18 (by kernel_rfl) rfl rfl
    obtain ⟨hbJ2, QJ2⟩ := hNW.full 17 19 (by kernel_rfl) rfl rfl
    have hn2_01 := hNW.ne 16 17 _ _ _ _ _ _ rfl rfl rfl rfl (by decide)
    clear hNW
    simp only [putU, if_true, Act.put, Knd.val, List.setIfInBounds_toArray, List.set_cons_zero, List.set_cons_succ]
    generalize βJ 16 = bG at *
    generalize βJ 17 = bJ at *
    clear βJ
    have hz2 := q2_0.size
    have T2 := Lib.hid (T1.out.below q2_0)
    have H2 := Lib.hid (H1.out.below q2_0)
    have F2 := Lib.hid (F1.out.below q2_0)
    have O2 := Lib.hid (O1.out.below q2_0)
    have B2 := Lib.hid (bel_trans B1.out q2_0)
    have K2 := Lib.hid (K1.out.step q2_0)
    have Q2 := Lib.hid (q2_1)
    have Gn2 := Lib.hid (QG2)
    have Jn2 := Lib.hid (QJ2)
    obtain ⟨m2, hm2⟩ : ∃ m2, m2 = w2c.heap.size := ⟨_, rfl⟩
    have hbm2 : g1 + 1 + 1 ≤ m2 := by omega
    have hlG2 : bG + 1 ≤ m2 := by rw [hm2]; exact QG2.lt
    have hgG2 : g1 + 1 + 1 ≤ bG := by omega
    have hlJ2 : bJ + 1 ≤ m2 := by rw [hm2]; exact QJ2.lt
    have hgJ2 : g1 + 1 + 1 ≤ bJ := by omega
    have hs2 : m2 ≤ w2c.heap.size := by omega
    clear hm2 hz2 hcs q2_0 q2_1 QG2 hbG2 QJ2 hbJ2 T1 H1 F1 O1 B1 K1 hs1
    have Tc4 := T2.out.get 4 (.slice f' R.length c') rfl
    go_upto_region 5 with (at_builtin; refine wpList_rowI rfl _ _ rfl B (W1.heap.size) R.length Q.length _ _ R Q rfl O2.out rfl rfl Q2.out rfl (by omega) (by first | omega | (simp; omega)) ?_; intro f3a c3a w3 hO3 hg3; clear Tc4; have hz3 := hg3.size; have T3 := Lib.hid (T2.out.grown hg3 (O2.out.ne_box T2.out (by decide))); have H3 := Lib.hid (H2.out.grown hg3 (O2.out.ne_box H2.out (by decide))); have F3 := Lib.hid (F2.out.grown hg3 (O2.out.ne_box F2.out (by decide))); have G3 := Lib.hid (Gn2.out.grown hg3 (O2.out.ne_box Gn2.out (by decide))); have J3 := Lib.hid (Jn2.out.grown hg3 (O2.out.ne_box Jn2.out (by decide))); have O3 := Lib.hid (hO3); have B3 := Lib.hid (B2.out.grown hg3 (show w0.heap.size ≤ _ by first | omega | (simp; omega)) (fun k hk => Nat.le_trans (show w0.heap.size ≤ B by omega) (O2.out.blk k hk))); have K3 := Lib.hid (K2.out.grownI O2.out hg3 (by omega) (by decide)); have hs3 : m2 ≤ w3.heap.size := (by omega); clear T2 H2 F2 Gn2 Jn2 O2 Q2 B2 K2 hg3 hO3 hz3 hs2; have Tc4 := T3.out.get 4 (.slice f' R.length c') rfl; have Tz4 := T3.out.free 4)
    clear Tc4 Tz4
    have T4 := Lib.hid ((T3.out.set 4 (.slice f3a (R.length + Q.length) c3a) #[.slice f l c, .bool true, .int .i64 tf, .int .i64 tg, .slice f3a (R.length + Q.length) c3a] rfl))
    have H4 := Lib.hid ((H3.out.other ⟨tb, 4, none⟩ (.slice f3a (R.length + Q.length) c3a) (show g1 ≠ tb by omega)))
    have F4 := Lib.hid ((F3.out.other ⟨tb, 4, none⟩ (.slice f3a (R.length + Q.length) c3a) (show g1 + 1 ≠ tb by omega)))
    have G4 := Lib.hid ((G3.out.other ⟨tb, 4, none⟩ (.slice f3a (R.length + Q.length) c3a) (show bG ≠ tb by omega)))
    have J4 := Lib.hid ((J3.out.other ⟨tb, 4, none⟩ (.slice f3a (R.length + Q.length) c3a) (show bJ ≠ tb by omega)))
    have O4 := Lib.hid ((O3.out.otherN ⟨tb, 4, none⟩ (.slice f3a (R.length + Q.length) c3a) (O3.out.ne_box T3.out (by decide))))
    have B4 := Lib.hid ((Below.setCell B3.out (p := ⟨tb, 4, none⟩) (show w0.heap.size ≤ tb by omega) (.slice f3a (R.length + Q.length) c3a)))
    have K4 := Lib.hid ((K3.out.set 4 (.slice f3a (R.length + Q.length) c3a)))
    obtain ⟨W4, hW4⟩ : ∃ W4, W4 = (w3).setCell ⟨tb, 4, none⟩ (.slice f3a (R.length + Q.length) c3a) := ⟨_, rfl⟩
    have hs4 : m2 ≤ W4.heap.size := by rw [hW4]; first | (simp [World.setCell]; omega) | (simp [World.setCell, World.setRow]; omega) | exact hs3
    rw [← hW4] at T4 H4 F4 G4 J4 O4 B4 K4 ⊢
    clear hW4 T3 H3 F3 G3 J3 O3 B3 K3 hs3
    refine wp_region_held_drew (S := (fun w' => BoxAt w' (bG) #[.int .i64 hf, .int .i64 hm, .bool hr, .bool hw, .bool hx, .bool ha, .bool hn, .int .i64 hs, .int .i64 hl] 36 ∧ BoxAt w' (bJ) #[.int .i64 fk, .int .i64 fs, .int .i64 fl, .bool fw, .int .i64 fp] 38)) (by kernel_rfl) ⟨G4.out.drew, J4.out.drew⟩ (fun hS => ?_)
    refine tkR 0 46 (v := .agg #[.int .i64 hf, .int .i64 hm, .bool hr, .bool hw, .bool hx, .bool ha, .bool hn, .int .i64 hs, .int .i64 hl]) rfl hS (fun _ h => run_ldN 36 (.tmp 6) bG 0 (by kernel_rfl) (by kernel_rfl) Tryz.underlying36 rfl (by kernel_rfl) ((h.1).sub 0 _ rfl)) ?_
    refine tkR 1 47 (v := .agg #[.int .i64 fk, .int .i64 fs, .int .i64 fl, .bool fw, .int .i64 fp]) rfl hS (fun _ h => run_ldN 38 (.tmp 7) bJ 0 (by kernel_rfl) (by kernel_rfl) Tryz.underlying38 rfl (by kernel_rfl) ((h.2).sub 0 _ rfl)) ?_
    try simp only [Act.put, List.setIfInBounds_toArray, List.set_cons_zero, List.set_cons_succ]
    refine wpAnyH_ready (rs := [2]) (by kernel_rfl) (by simp) ?_
    refine AllReadyH.cons (o := ⟨none, _, _, _, _, _⟩) rfl (fun K hK => ?_) AllReadyH.nil
    refine step_storeB rfl 36 _ _ rfl _ _ _ 36 rfl rfl (by kernel_rfl) (by rfl) (by simp [Value.oneCell']) (H4.out.drew) ?_
    refine hK.out _ _ ?_ (fun hS' => ?_)
    · exact ⟨hS.1.row (show bG ≠ g1 by omega), hS.2.row (show bJ ≠ g1 by omega)⟩
    clear hK K hS
    have hS := hS'
    clear hS'
    try simp only [Act.put]
    try simp only [Act.put, List.setIfInBounds_toArray, List.set_cons_zero, List.set_cons_succ]
    refine wpAnyH_ready (rs := [3]) (by kernel_rfl) (by simp) ?_
    refine AllReadyH.cons (o := ⟨none, _, _, _, _, _⟩) rfl (fun K hK => ?_) AllReadyH.nil
    refine step_storeB rfl 38 _ _ rfl _ _ _ 38 rfl rfl (by kernel_rfl) (by rfl) (by simp [Value.oneCell']) ((F4.out.drew).row (cs' := #[.int .i64 hf, .int .i64 hm, .bool hr, .bool hw, .bool hx, .bool ha, .bool hn, .int .i64 hs, .int .i64 hl]) (show g1 + 1 ≠ g1 by omega)) ?_
    refine hK.out _ _ ?_ (fun hS' => ?_)
    · exact ⟨hS.1.row (show bG ≠ g1 + 1 by omega), hS.2.row (show bJ ≠ g1 + 1 by omega)⟩
    clear hK K hS
    have hS := hS'
    clear hS'
    try simp only [Act.put]
    refine wpAnyH_done (by kernel_rfl) ?_ _
    try simp only [Act.put, List.setIfInBounds_toArray, List.set_cons_zero, List.set_cons_succ]
    have T5 := Lib.hid ((((T4.out.drew).row (cs' := #[.int .i64 hf, .int .i64 hm, .bool hr, .bool hw, .bool hx, .bool ha, .bool hn, .int .i64 hs, .int .i64 hl]) (show tb ≠ g1 by omega)).row (cs' := #[.int .i64 fk, .int .i64 fs, .int .i64 fl, .bool fw, .int .i64 fp]) (show tb ≠ g1 + 1 by omega)))
    have H5 := Lib.hid ((((H4.out.drew).put (cs' := #[.int .i64 hf, .int .i64 hm, .bool hr, .bool hw, .bool hx, .bool ha, .bool hn, .int .i64 hs, .int .i64 hl])).row (cs' := #[.int .i64 fk, .int .i64 fs, .int .i64 fl, .bool fw, .int .i64 fp]) (show g1 ≠ g1 + 1 by omega)))
    have F5 := Lib.hid ((((F4.out.drew).row (cs' := #[.int .i64 hf, .int .i64 hm, .bool hr, .bool hw, .bool hx, .bool ha, .bool hn, .int .i64 hs, .int .i64 hl]) (show g1 + 1 ≠ g1 by omega)).put (cs' := #[.int .i64 fk, .int .i64 fs, .int .i64 fl, .bool fw, .int .i64 fp])))
    have G5 := Lib.hid ((((G4.out.drew).row (cs' := #[.int .i64 hf, .int .i64 hm, .bool hr, .bool hw, .bool hx, .bool ha, .bool hn, .int .i64 hs, .int .i64 hl]) (show bG ≠ g1 by omega)).row (cs' := #[.int .i64 fk, .int .i64 fs, .int .i64 fl, .bool fw, .int .i64 fp]) (show bG ≠ g1 + 1 by omega)))
    have J5 := Lib.hid ((((J4.out.drew).row (cs' := #[.int .i64 hf, .int .i64 hm, .bool hr, .bool hw, .bool hx, .bool ha, .bool hn, .int .i64 hs, .int .i64 hl]) (show bJ ≠ g1 by omega)).row (cs' := #[.int .i64 fk, .int .i64 fs, .int .i64 fl, .bool fw, .int .i64 fp]) (show bJ ≠ g1 + 1 by omega)))
    have O5 := Lib.hid ((((O4.out.drew).rowN (cs := #[.int .i64 hf, .int .i64 hm, .bool hr, .bool hw, .bool hx, .bool ha, .bool hn, .int .i64 hs, .int .i64 hl]) (O4.out.ne_box H4.out (by decide))).rowN (cs := #[.int .i64 fk, .int .i64 fs, .int .i64 fl, .bool fw, .int .i64 fp]) (O4.out.ne_box F4.out (by decide))))
    have B5 := Lib.hid ((Below.rowB (g := g1 + 1) (Below.rowB (g := g1) (Below.drew B4.out) (cs := #[.int .i64 hf, .int .i64 hm, .bool hr, .bool hw, .bool hx, .bool ha, .bool hn, .int .i64 hs, .int .i64 hl]) (show w0.heap.size ≤ g1 by omega)) (cs := #[.int .i64 fk, .int .i64 fs, .int .i64 fl, .bool fw, .int .i64 fp]) (show w0.heap.size ≤ g1 + 1 by omega)))
    have K5 := Lib.hid ((((K4.out.drew).row (g1) #[.int .i64 hf, .int .i64 hm, .bool hr, .bool hw, .bool hx, .bool ha, .bool hn, .int .i64 hs, .int .i64 hl] (show w.heap.size ≤ g1 by omega)).row (g1 + 1) #[.int .i64 fk, .int .i64 fs, .int .i64 fl, .bool fw, .int .i64 fp] (show w.heap.size ≤ g1 + 1 by omega)))
    obtain ⟨W5, hW5⟩ : ∃ W5, W5 = (((W4).drew).setRow (g1) #[.int .i64 hf, .int .i64 hm, .bool hr, .bool hw, .bool hx, .bool ha, .bool hn, .int .i64 hs, .int .i64 hl]).setRow (g1 + 1) #[.int .i64 fk, .int .i64 fs, .int .i64 fl, .bool fw, .int .i64 fp] := ⟨_, rfl⟩
    have hs5 : m2 ≤ W5.heap.size := by rw [hW5]; first | exact hs4 | (simp; omega)
    rw [← hW5] at T5 H5 F5 G5 J5 O5 B5 K5 ⊢
    clear hW5 T4 H4 F4 G4 J4 O4 B4 K4 hs4
    go_wp2
    have RH := H5.out
    have RF := F5.out
    refine bodyPost_ret (v := .tuple #[.agg #[.int .i64 hf, .int .i64 hm, .bool hr, .bool hw, .bool hx, .bool ha, .bool hn, .int .i64 hs, .int .i64 hl], .agg #[.int .i64 fk, .int .i64 fs, .int .i64 fl, .bool fw, .int .i64 fp]]) (by simp [results, Tryz.results41, go_sem, RH.get 0 (.int .i64 hf) rfl, RH.get 1 (.int .i64 hm) rfl, RH.get 2 (.bool hr) rfl, RH.get 3 (.bool hw) rfl, RH.get 4 (.bool hx) rfl, RH.get 5 (.bool ha) rfl, RH.get 6 (.bool hn) rfl, RH.get 7 (.int .i64 hs) rfl, RH.get 8 (.int .i64 hl) rfl, RF.get 0 (.int .i64 fk) rfl, RF.get 1 (.int .i64 fs) rfl, RF.get 2 (.int .i64 fl) rfl, RF.get 3 (.bool fw) rfl, RF.get 4 (.int .i64 fp) rfl]) rfl ?_
    exact ⟨f3a, c3a, rfl, T5.out, O5.out, K5.out⟩
set_option maxRecDepth 100000 in
set_option maxHeartbeats 3200000 in
theorem nreachF_any (f : Option Addr) (l c : Nat) (X : Nat → BitVec 64) (on : Bool) (tf tg : Int) (mid acc : Int) (f' : Option Addr) (c' : Nat) (R : List Int) (tb B : Nat) (w0 w : World) (hac : numB acc 2 = true) (hX : WordsAt w0 f l X) (hlc : l ≤ c) (hM : okM l = true) (t0 : 0 ≤ tf) (t1 : tf ≤ 4095) (m0 : 0 ≤ mid) (m1 : mid ≤ 4095)
    (hB0 : Below w0.heap.size w0 w) (h0 : w0.heap.size ≤ tb) (hBw : B ≤ w.heap.size) (htB : tb < B) (hO : OwnI w B (.slice f' R.length c') R) (hk : R.length ≤ 100) (hT : BoxAt w tb #[.slice f l c, .bool on, .int .i64 tf, .int .i64 tg, .slice f' R.length c'] 59) :
    Calls Tryz.prog 25 #[.pointer (some ⟨tb, 0, none⟩), .int .i64 mid, .int .i64 acc] w (FlEndF f l c on tf tg tb B R (midD l X on tf mid acc) w) := by
  have HFD := Lib.hid (fun W hB0 hBw hO hT => nfindF_any f l c X on tf tg mid f' c' R tb B w0 W hX hlc hM t0 t1 m0 m1 hB0 h0 hBw htB hO hk hT)
  have HIF := Lib.hid (fun fk fs fl fw fp W => nfault_any ⟨fk, fs, fl, fw, fp⟩ W)
  unfold fltV at HIF
  simp only at HIF
  rw [mid_find l X on tf mid acc hac]
  have HG := Lib.hid (fun t lv W => flagC t acc 2 lv mid W)
  simp only [if_pos hac] at HG
  have T0 := Lib.hid hT
  have O0 := Lib.hid hO
  have HB0 := Lib.hid hB0
  have HX := Lib.hid hX
  have K0 := Lib.hid (Kep.refl (tb := tb) (B := B) (ow := [3]) w)
  clear hX hB0 hT hO
  clear t0 t1 m0 m1 hlc hM hac
  generalize findD l X on tf mid = q at *
  obtain ⟨⟨hf, hm, ⟨hr, hw, hx, ha, hn, hs⟩, hl⟩, ⟨fk, fs, fl, fw, fp⟩, Q⟩ := q
  have HG := Lib.hid (HG.out ⟨hr, hw, hx, ha, hn, hs⟩ hl)
  simp only
  by_cases hk0 : fk = 0
  · rw [if_pos hk0]
    have df : (fk != 0) = false := by rw [hk0]; rfl
    generalize flagA ⟨hr, hw, hx, ha, hn, hs⟩ acc 2 hl mid = g at *
    obtain ⟨gk, gs, gl, gw, gp⟩ := g
    unfold atrV atrC fltV at HG
    simp only at HG
    simp only
    clear hk0
    by_cases hg0 : gk = 0
    · rw [if_pos hg0]
      have dg : (gk != 0) = false := by rw [hg0]; rfl
      clear hg0
      go_enter Tryz.func25, Tryz.ntmps25
      go_upto_region 1 with fail
      have T1 := Lib.hid (((T0.out.alloc (.cells z9 36)).alloc (.cells z5 38)))
      have H1 := Lib.hid (((BoxAt.newAt (w) z9 36 (w.heap.size) (by first | omega | (simp; done) | (simp; omega))).alloc (.cells z5 38)))
      have F1 := Lib.hid ((BoxAt.newAt ((w).alloc (.cells z9 36)) z5 38 (w.heap.size + 1) (by first | omega | (simp; done) | (simp; omega))))
      have O1 := Lib.hid (((O0.out.alloc (.cells z9 36)).alloc (.cells z5 38)))
      have B1 := Lib.hid ((bel_alloc (bel_alloc HB0.out (.cells z9 36)) (.cells z5 38)))
      have K1 := Lib.hid (((K0.out.alloc (.cells z9 36)).alloc (.cells z5 38)))
      obtain ⟨g1, hg1⟩ : ∃ g1, g1 = w.heap.size := ⟨_, rfl⟩
      obtain ⟨W1, hW1⟩ : ∃ W1, W1 = ((w).alloc (.cells z9 36)).alloc (.cells z5 38) := ⟨_, rfl⟩
      have hs1 : g1 + 1 + 1 ≤ W1.heap.size := by rw [hW1, hg1]; simp
      rw [← hW1] at T1 H1 F1 O1 B1 K1 ⊢
      have hb1 : w.heap.size ≤ g1 := by omega
      rw [← hg1] at H1 F1 ⊢
      clear hg1
      clear hW1 T0 O0 HB0 K0
      go_wp2_with fail
      refine (HFD.out _ B1.out (by first | omega | (simp; done) | (simp; omega)) O1.out T1.out).mono ?_
      rintro e w2 ⟨f2, c2, rfl, qT2, qO2, qW2⟩
      have hz2 := qW2.size
      have T2 := Lib.hid (show BoxAt w2 (tb) #[.slice f l c, .bool on, .int .i64 tf, .int .i64 tg, .slice f2 (R.length + Q.length) c2] 59 from qT2)
      have H2 := Lib.hid ((qW2.box H1.out (by decide) (show g1 ≠ tb by omega)))
      have F2 := Lib.hid ((qW2.box F1.out (by decide) (show g1 + 1 ≠ tb by omega)))
      have O2 := Lib.hid (show OwnI w2 (B) (.slice f2 (R.length + Q.length) c2) (R ++ Q) from qO2)
      have B2 := Lib.hid ((qW2.under B1.out (by first | omega | (simp; done) | (simp; omega)) (show w0.heap.size ≤ tb by omega) (show w0.heap.size ≤ B by omega)))
      have K2 := Lib.hid ((K1.out.trans qW2))
      skip
      have hs2 : g1 + 1 + 1 ≤ w2.heap.size := by omega
      clear T1 H1 F1 O1 B1 K1 hs1 qT2 qO2 qW2 hz2
      unfold hitV fltV
      simp only
      go_upto_region 2 with fail
      have T3 := Lib.hid (((T2.out.alloc (.cells #[.int .i64 hf, .int .i64 hm, .bool hr, .bool hw, .bool hx, .bool ha, .bool hn, .int .i64 hs, .int .i64 hl] 36)).alloc (.cells #[.int .i64 fk, .int .i64 fs, .int .i64 fl, .bool fw, .int .i64 fp] 38)))
      have H3 := Lib.hid (((H2.out.alloc (.cells #[.int .i64 hf, .int .i64 hm, .bool hr, .bool hw, .bool hx, .bool ha, .bool hn, .int .i64 hs, .int .i64 hl] 36)).alloc (.cells #[.int .i64 fk, .int .i64 fs, .int .i64 fl, .bool fw, .int .i64 fp] 38)))
      have F3 := Lib.hid (((F2.out.alloc (.cells #[.int .i64 hf, .int .i64 hm, .bool hr, .bool hw, .bool hx, .bool ha, .bool hn, .int .i64 hs, .int .i64 hl] 36)).alloc (.cells #[.int .i64 fk, .int .i64 fs, .int .i64 fl, .bool fw, .int .i64 fp] 38)))
      have G3 := Lib.hid (((BoxAt.newAt (w2) #[.int .i64 hf, .int .i64 hm, .bool hr, .bool hw, .bool hx, .bool ha, .bool hn, .int .i64 hs, .int .i64 hl] 36 (w2.heap.size) (by first | omega | (simp; done) | (simp; omega))).alloc (.cells #[.int .i64 fk, .int .i64 fs, .int .i64 fl, .bool fw, .int .i64 fp] 38)))
      have J3 := Lib.hid ((BoxAt.newAt ((w2).alloc (.cells #[.int .i64 hf, .int .i64 hm, .bool hr, .bool hw, .bool hx, .bool ha, .bool hn, .int .i64 hs, .int .i64 hl] 36)) #[.int .i64 fk, .int .i64 fs, .int .i64 fl, .bool fw, .int .i64 fp] 38 (w2.heap.size + 1) (by first | omega | (simp; done) | (simp; omega))))
      have O3 := Lib.hid (((O2.out.alloc (.cells #[.int .i64 hf, .int .i64 hm, .bool hr, .bool hw, .bool hx, .bool ha, .bool hn, .int .i64 hs, .int .i64 hl] 36)).alloc (.cells #[.int .i64 fk, .int .i64 fs, .int .i64 fl, .bool fw, .int .i64 fp] 38)))
      have B3 := Lib.hid ((bel_alloc (bel_alloc B2.out (.cells #[.int .i64 hf, .int .i64 hm, .bool hr, .bool hw, .bool hx, .bool ha, .bool hn, .int .i64 hs, .int .i64 hl] 36)) (.cells #[.int .i64 fk, .int .i64 fs, .int .i64 fl, .bool fw, .int .i64 fp] 38)))
      have K3 := Lib.hid (((K2.out.alloc (.cells #[.int .i64 hf, .int .i64 hm, .bool hr, .bool hw, .bool hx, .bool ha, .bool hn, .int .i64 hs, .int .i64 hl] 36)).alloc (.cells #[.int .i64 fk, .int .i64 fs, .int .i64 fl, .bool fw, .int .i64 fp] 38)))
      obtain ⟨g3, hg3⟩ : ∃ g3, g3 = w2.heap.size := ⟨_, rfl⟩
      obtain ⟨W3, hW3⟩ : ∃ W3, W3 = ((w2).alloc (.cells #[.int .i64 hf, .int .i64 hm, .bool hr, .bool hw, .bool hx, .bool ha, .bool hn, .int .i64 hs, .int .i64 hl] 36)).alloc (.cells #[.int .i64 fk, .int .i64 fs, .int .i64 fl, .bool fw, .int .i64 fp] 38) := ⟨_, rfl⟩
      have hs3 : g3 + 1 + 1 ≤ W3.heap.size := by rw [hW3, hg3]; simp
      rw [← hW3] at T3 H3 F3 G3 J3 O3 B3 K3 ⊢
      have hb3 : g1 + 1 + 1 ≤ g3 := by omega
      rw [← hg3] at G3 J3 ⊢
      clear hg3
      clear hW3 T2 H2 F2 O2 B2 K2 hs2
      have Jc0 := J3.out.get 0 (.int .i64 fk) rfl
      have Jc1 := J3.out.get 1 (.int .i64 fs) rfl
      have Jc2 := J3.out.get 2 (.int .i64 fl) rfl
      have Jc3 := J3.out.get 3 (.bool fw) rfl
      have Jc4 := J3.out.get 4 (.int .i64 fp) rfl
      go_wp2_with fail
      refine (HIF.out _ _ _ _ _ _).mono ?_
      rintro e w4 ⟨rfl, hb4⟩
      have hz4 := hb4.size
      have T4 := Lib.hid (T3.out.below hb4)
      have H4 := Lib.hid (H3.out.below hb4)
      have F4 := Lib.hid (F3.out.below hb4)
      have G4 := Lib.hid (G3.out.below hb4)
      have J4 := Lib.hid (J3.out.below hb4)
      have O4 := Lib.hid (O3.out.below hb4)
      have B4 := Lib.hid (bel_trans B3.out hb4)
      have K4 := Lib.hid (K3.out.step hb4)
      skip
      have hs4 : g3 + 1 + 1 ≤ w4.heap.size := by omega
      clear Jc0 Jc1 Jc2 Jc3 Jc4
      clear T3 H3 F3 G3 J3 O3 B3 K3 hs3 hb4 hz4
      have Gc2 := G4.out.get 2 (.bool hr) rfl
      have Gc3 := G4.out.get 3 (.bool hw) rfl
      have Gc4 := G4.out.get 4 (.bool hx) rfl
      have Gc5 := G4.out.get 5 (.bool ha) rfl
      have Gc6 := G4.out.get 6 (.bool hn) rfl
      have Gc7 := G4.out.get 7 (.int .i64 hs) rfl
      have Gc8 := G4.out.get 8 (.int .i64 hl) rfl
      go_wp2_with fail
      refine (HG.out _).mono ?_
      rintro e w5 ⟨rfl, hb5⟩
      have hz5 := hb5.size
      have T5 := Lib.hid (T4.out.below hb5)
      have H5 := Lib.hid (H4.out.below hb5)
      have F5 := Lib.hid (F4.out.below hb5)
      have G5 := Lib.hid (G4.out.below hb5)
      have J5 := Lib.hid (J4.out.below hb5)
      have O5 := Lib.hid (O4.out.below hb5)
      have B5 := Lib.hid (bel_trans B4.out hb5)
      have K5 := Lib.hid (K4.out.step hb5)
      skip
      have hs5 : g3 + 1 + 1 ≤ w5.heap.size := by omega
      clear Gc2 Gc3 Gc4 Gc5 Gc6 Gc7 Gc8
      clear T4 H4 F4 G4 J4 O4 B4 K4 hs4 hb5 hz5
      go_upto_region 5 with (refine wpList_storeB rfl 38 _ _ rfl (g3 + 1) #[.int .i64 gk, .int .i64 gs, .int .i64 gl, .bool gw, .int .i64 gp] _ 38 rfl rfl (by kernel_rfl) (by rfl) (by simp [Value.oneCell']) J5.out ?_)
      have T6 := Lib.hid ((T5.out.row (cs' := #[.int .i64 gk, .int .i64 gs, .int .i64 gl, .bool gw, .int .i64 gp]) (show tb ≠ g3 + 1 by omega)))
      have H6 := Lib.hid ((H5.out.row (cs' := #[.int .i64 gk, .int .i64 gs, .int .i64 gl, .bool gw, .int .i64 gp]) (show g1 ≠ g3 + 1 by omega)))
      have F6 := Lib.hid ((F5.out.row (cs' := #[.int .i64 gk, .int .i64 gs, .int .i64 gl, .bool gw, .int .i64 gp]) (show g1 + 1 ≠ g3 + 1 by omega)))
      have G6 := Lib.hid ((G5.out.row (cs' := #[.int .i64 gk, .int .i64 gs, .int .i64 gl, .bool gw, .int .i64 gp]) (show g3 ≠ g3 + 1 by omega)))
      have J6 := Lib.hid ((J5.out.put (cs' := #[.int .i64 gk, .int .i64 gs, .int .i64 gl, .bool gw, .int .i64 gp])))
      have O6 := Lib.hid ((O5.out.rowN (cs := #[.int .i64 gk, .int .i64 gs, .int .i64 gl, .bool gw, .int .i64 gp]) (O5.out.ne_box J5.out (by decide))))
      have B6 := Lib.hid ((Below.rowB (g := g3 + 1) B5.out (cs := #[.int .i64 gk, .int .i64 gs, .int .i64 gl, .bool gw, .int .i64 gp]) (show w0.heap.size ≤ g3 + 1 by omega)))
      have K6 := Lib.hid ((K5.out.row (g3 + 1) #[.int .i64 gk, .int .i64 gs, .int .i64 gl, .bool gw, .int .i64 gp] (show w.heap.size ≤ g3 + 1 by omega)))
      obtain ⟨W6, hW6⟩ : ∃ W6, W6 = (w5).setRow (g3 + 1) #[.int .i64 gk, .int .i64 gs, .int .i64 gl, .bool gw, .int .i64 gp] := ⟨_, rfl⟩
      have hs6 : g3 + 1 + 1 ≤ W6.heap.size := by rw [hW6]; first | exact hs5 | (simp; omega)
      rw [← hW6] at T6 H6 F6 G6 J6 O6 B6 K6 ⊢
      clear hW6 T5 H5 F5 G5 J5 O5 B5 K5 hs5
      have Jc0 := J6.out.get 0 (.int .i64 gk) rfl
      have Jc1 := J6.out.get 1 (.int .i64 gs) rfl
      have Jc2 := J6.out.get 2 (.int .i64 gl) rfl
      have Jc3 := J6.out.get 3 (.bool gw) rfl
      have Jc4 := J6.out.get 4 (.int .i64 gp) rfl
      go_wp2_with fail
      refine (HIF.out _ _ _ _ _ _).mono ?_
      rintro e w7 ⟨rfl, hb7⟩
      have hz7 := hb7.size
      have T7 := Lib.hid (T6.out.below hb7)
      have H7 := Lib.hid (H6.out.below hb7)
      have F7 := Lib.hid (F6.out.below hb7)
      have G7 := Lib.hid (G6.out.below hb7)
      have J7 := Lib.hid (J6.out.below hb7)
      have O7 := Lib.hid (O6.out.below hb7)
      have B7 := Lib.hid (bel_trans B6.out hb7)
      have K7 := Lib.hid (K6.out.step hb7)
      skip
      have hs7 : g3 + 1 + 1 ≤ w7.heap.size := by omega
      clear Jc0 Jc1 Jc2 Jc3 Jc4
      clear T6 H6 F6 G6 J6 O6 B6 K6 hs6 hb7 hz7
      have Gc1 := G7.out.get 1 (.int .i64 hm) rfl
      have Gz1 := G7.out.free 1
      go_upto_region 8 with fail
      clear Gc1 Gz1
      have T8 := Lib.hid ((T7.out.other ⟨g3, 1, none⟩ (.int .i64 mid) (show tb ≠ g3 by omega)))
      have H8 := Lib.hid ((H7.out.other ⟨g3, 1, none⟩ (.int .i64 mid) (show g1 ≠ g3 by omega)))
      have F8 := Lib.hid ((F7.out.other ⟨g3, 1, none⟩ (.int .i64 mid) (show g1 + 1 ≠ g3 by omega)))
      have G8 := Lib.hid ((G7.out.set 1 (.int .i64 mid) #[.int .i64 hf, .int .i64 mid, .bool hr, .bool hw, .bool hx, .bool ha, .bool hn, .int .i64 hs, .int .i64 hl] rfl))
      have J8 := Lib.hid ((J7.out.other ⟨g3, 1, none⟩ (.int .i64 mid) (show g3 + 1 ≠ g3 by omega)))
      have O8 := Lib.hid ((O7.out.otherN ⟨g3, 1, none⟩ (.int .i64 mid) (O7.out.ne_box G7.out (by decide))))
      have B8 := Lib.hid ((Below.setCell B7.out (p := ⟨g3, 1, none⟩) (show w0.heap.size ≤ g3 by omega) (.int .i64 mid)))
      have K8 := Lib.hid ((K7.out.high ⟨g3, 1, none⟩ (.int .i64 mid) (show w.heap.size ≤ g3 by omega)))
      obtain ⟨W8, hW8⟩ : ∃ W8, W8 = (w7).setCell ⟨g3, 1, none⟩ (.int .i64 mid) := ⟨_, rfl⟩
      have hs8 : g3 + 1 + 1 ≤ W8.heap.size := by rw [hW8]; first | (simp [World.setCell]; omega) | (simp [World.setCell, World.setRow]; omega) | exact hs7
      rw [← hW8] at T8 H8 F8 G8 J8 O8 B8 K8 ⊢
      clear hW8 T7 H7 F7 G7 J7 O7 B7 K7 hs7
      have Gc0 := G8.out.get 0 (.int .i64 hf) rfl
      have Gc1 := G8.out.get 1 (.int .i64 mid) rfl
      have Gc2 := G8.out.get 2 (.bool hr) rfl
      have Gc3 := G8.out.get 3 (.bool hw) rfl
      have Gc4 := G8.out.get 4 (.bool hx) rfl
      have Gc5 := G8.out.get 5 (.bool ha) rfl
      have Gc6 := G8.out.get 6 (.bool hn) rfl
      have Gc7 := G8.out.get 7 (.int .i64 hs) rfl
      have Gc8 := G8.out.get 8 (.int .i64 hl) rfl
      go_wp2_with (first | (refine wpList_storeB rfl 36 _ _ rfl (g1) #[.int .i64 hf, .int .i64 mid, .bool hr, .bool hw, .bool hx, .bool ha, .bool hn, .int .i64 hs, .int .i64 hl] _ 36 rfl rfl (by kernel_rfl) (by rfl) (by simp [Value.oneCell']) H8.out ?_) | (refine wpList_storeB rfl 38 _ _ rfl (g1 + 1) #[.int .i64 0, .int .i64 0, .int .i64 0, .bool false, .int .i64 0] _ 38 rfl rfl (by kernel_rfl) (by rfl) (by simp [Value.oneCell']) (F8.out.row (cs' := #[.int .i64 hf, .int .i64 mid, .bool hr, .bool hw, .bool hx, .bool ha, .bool hn, .int .i64 hs, .int .i64 hl]) (show g1 + 1 ≠ g1 by omega)) ?_))
      have RH := ((H8.out.put (cs' := #[.int .i64 hf, .int .i64 mid, .bool hr, .bool hw, .bool hx, .bool ha, .bool hn, .int .i64 hs, .int .i64 hl])).row (cs' := #[.int .i64 0, .int .i64 0, .int .i64 0, .bool false, .int .i64 0]) (show g1 ≠ g1 + 1 by omega))
      have RF := ((F8.out.row (cs' := #[.int .i64 hf, .int .i64 mid, .bool hr, .bool hw, .bool hx, .bool ha, .bool hn, .int .i64 hs, .int .i64 hl]) (show g1 + 1 ≠ g1 by omega)).put (cs' := #[.int .i64 0, .int .i64 0, .int .i64 0, .bool false, .int .i64 0]))
      refine bodyPost_ret (v := .tuple #[.agg #[.int .i64 hf, .int .i64 mid, .bool hr, .bool hw, .bool hx, .bool ha, .bool hn, .int .i64 hs, .int .i64 hl], .agg #[.int .i64 0, .int .i64 0, .int .i64 0, .bool false, .int .i64 0]]) (by simp [results, Tryz.results25, go_sem, RH.get 0 (.int .i64 hf) rfl, RH.get 1 (.int .i64 mid) rfl, RH.get 2 (.bool hr) rfl, RH.get 3 (.bool hw) rfl, RH.get 4 (.bool hx) rfl, RH.get 5 (.bool ha) rfl, RH.get 6 (.bool hn) rfl, RH.get 7 (.int .i64 hs) rfl, RH.get 8 (.int .i64 hl) rfl, RF.get 0 (.int .i64 0) rfl, RF.get 1 (.int .i64 0) rfl, RF.get 2 (.int .i64 0) rfl, RF.get 3 (.bool false) rfl, RF.get 4 (.int .i64 0) rfl]) rfl ?_
      exact ⟨f2, c2, rfl, ((T8.out.row (cs' := #[.int .i64 hf, .int .i64 mid, .bool hr, .bool hw, .bool hx, .bool ha, .bool hn, .int .i64 hs, .int .i64 hl]) (show tb ≠ g1 by omega)).row (cs' := #[.int .i64 0, .int .i64 0, .int .i64 0, .bool false, .int .i64 0]) (show tb ≠ g1 + 1 by omega)), ((O8.out.rowN (cs := #[.int .i64 hf, .int .i64 mid, .bool hr, .bool hw, .bool hx, .bool ha, .bool hn, .int .i64 hs, .int .i64 hl]) (O8.out.ne_box H8.out (by decide))).rowN (cs := #[.int .i64 0, .int .i64 0, .int .i64 0, .bool false, .int .i64 0]) (O8.out.ne_box F8.out (by decide))), ((K8.out.row (g1) #[.int .i64 hf, .int .i64 mid, .bool hr, .bool hw, .bool hx, .bool ha, .bool hn, .int .i64 hs, .int .i64 hl] (show w.heap.size ≤ g1 by omega)).row (g1 + 1) #[.int .i64 0, .int .i64 0, .int .i64 0, .bool false, .int .i64 0] (show w.heap.size ≤ g1 + 1 by omega))⟩
    · rw [if_neg hg0]
      have dg : (gk != 0) = true := by simp [hg0]
      clear hg0
      go_enter Tryz.func25, Tryz.ntmps25
      go_upto_region 1 with fail
      have T1 := Lib.hid (((T0.out.alloc (.cells z9 36)).alloc (.cells z5 38)))
      have H1 := Lib.hid (((BoxAt.newAt (w) z9 36 (w.heap.size) (by first | omega | (simp; done) | (simp; omega))).alloc (.cells z5 38)))
      have F1 := Lib.hid ((BoxAt.newAt ((w).alloc (.cells z9 36)) z5 38 (w.heap.size + 1) (by first | omega | (simp; done) | (simp; omega))))
      have O1 := Lib.hid (((O0.out.alloc (.cells z9 36)).alloc (.cells z5 38)))
      have B1 := Lib.hid ((bel_alloc (bel_alloc HB0.out (.cells z9 36)) (.cells z5 38)))
      have K1 := Lib.hid (((K0.out.alloc (.cells z9 36)).alloc (.cells z5 38)))
      obtain ⟨g1, hg1⟩ : ∃ g1, g1 = w.heap.size := ⟨_, rfl⟩
      obtain ⟨W1, hW1⟩ : ∃ W1, W1 = ((w).alloc (.cells z9 36)).alloc (.cells z5 38) := ⟨_, rfl⟩
      have hs1 : g1 + 1 + 1 ≤ W1.heap.size := by rw [hW1, hg1]; simp
      rw [← hW1] at T1 H1 F1 O1 B1 K1 ⊢
      have hb1 : w.heap.size ≤ g1 := by omega
      rw [← hg1] at H1 F1 ⊢
      clear hg1
      clear hW1 T0 O0 HB0 K0
      go_wp2_with fail
      refine (HFD.out _ B1.out (by first | omega | (simp; done) | (simp; omega)) O1.out T1.out).mono ?_
      rintro e w2 ⟨f2, c2, rfl, qT2, qO2, qW2⟩
      have hz2 := qW2.size
      have T2 := Lib.hid (show BoxAt w2 (tb) #[.slice f l c, .bool on, .int .i64 tf, .int .i64 tg, .slice f2 (R.length + Q.length) c2] 59 from qT2)
      have H2 := Lib.hid ((qW2.box H1.out (by decide) (show g1 ≠ tb by omega)))
      have F2 := Lib.hid ((qW2.box F1.out (by decide) (show g1 + 1 ≠ tb by omega)))
      have O2 := Lib.hid (show OwnI w2 (B) (.slice f2 (R.length + Q.length) c2) (R ++ Q) from qO2)
      have B2 := Lib.hid ((qW2.under B1.out (by first | omega | (simp; done) | (simp; omega)) (show w0.heap.size ≤ tb by omega) (show w0.heap.size ≤ B by omega)))
      have K2 := Lib.hid ((K1.out.trans qW2))
      skip
      have hs2 : g1 + 1 + 1 ≤ w2.heap.size := by omega
      clear T1 H1 F1 O1 B1 K1 hs1 qT2 qO2 qW2 hz2
      unfold hitV fltV
      simp only
      go_upto_region 2 with fail
      have T3 := Lib.hid (((T2.out.alloc (.cells #[.int .i64 hf, .int .i64 hm, .bool hr, .bool hw, .bool hx, .bool ha, .bool hn, .int .i64 hs, .int .i64 hl] 36)).alloc (.cells #[.int .i64 fk, .int .i64 fs, .int .i64 fl, .bool fw, .int .i64 fp] 38)))
      have H3 := Lib.hid (((H2.out.alloc (.cells #[.int .i64 hf, .int .i64 hm, .bool hr, .bool hw, .bool hx, .bool ha, .bool hn, .int .i64 hs, .int .i64 hl] 36)).alloc (.cells #[.int .i64 fk, .int .i64 fs, .int .i64 fl, .bool fw, .int .i64 fp] 38)))
      have F3 := Lib.hid (((F2.out.alloc (.cells #[.int .i64 hf, .int .i64 hm, .bool hr, .bool hw, .bool hx, .bool ha, .bool hn, .int .i64 hs, .int .i64 hl] 36)).alloc (.cells #[.int .i64 fk, .int .i64 fs, .int .i64 fl, .bool fw, .int .i64 fp] 38)))
      have G3 := Lib.hid (((BoxAt.newAt (w2) #[.int .i64 hf, .int .i64 hm, .bool hr, .bool hw, .bool hx, .bool ha, .bool hn, .int .i64 hs, .int .i64 hl] 36 (w2.heap.size) (by first | omega | (simp; done) | (simp; omega))).alloc (.cells #[.int .i64 fk, .int .i64 fs, .int .i64 fl, .bool fw, .int .i64 fp] 38)))
      have J3 := Lib.hid ((BoxAt.newAt ((w2).alloc (.cells #[.int .i64 hf, .int .i64 hm, .bool hr, .bool hw, .bool hx, .bool ha, .bool hn, .int .i64 hs, .int .i64 hl] 36)) #[.int .i64 fk, .int .i64 fs, .int .i64 fl, .bool fw, .int .i64 fp] 38 (w2.heap.size + 1) (by first | omega | (simp; done) | (simp; omega))))
      have O3 := Lib.hid (((O2.out.alloc (.cells #[.int .i64 hf, .int .i64 hm, .bool hr, .bool hw, .bool hx, .bool ha, .bool hn, .int .i64 hs, .int .i64 hl] 36)).alloc (.cells #[.int .i64 fk, .int .i64 fs, .int .i64 fl, .bool fw, .int .i64 fp] 38)))
      have B3 := Lib.hid ((bel_alloc (bel_alloc B2.out (.cells #[.int .i64 hf, .int .i64 hm, .bool hr, .bool hw, .bool hx, .bool ha, .bool hn, .int .i64 hs, .int .i64 hl] 36)) (.cells #[.int .i64 fk, .int .i64 fs, .int .i64 fl, .bool fw, .int .i64 fp] 38)))
      have K3 := Lib.hid (((K2.out.alloc (.cells #[.int .i64 hf, .int .i64 hm, .bool hr, .bool hw, .bool hx, .bool ha, .bool hn, .int .i64 hs, .int .i64 hl] 36)).alloc (.cells #[.int .i64 fk, .int .i64 fs, .int .i64 fl, .bool fw, .int .i64 fp] 38)))
      obtain ⟨g3, hg3⟩ : ∃ g3, g3 = w2.heap.size := ⟨_, rfl⟩
      obtain ⟨W3, hW3⟩ : ∃ W3, W3 = ((w2).alloc (.cells #[.int .i64 hf, .int .i64 hm, .bool hr, .bool hw, .bool hx, .bool ha, .bool hn, .int .i64 hs, .int .i64 hl] 36)).alloc (.cells #[.int .i64 fk, .int .i64 fs, .int .i64 fl, .bool fw, .int .i64 fp] 38) := ⟨_, rfl⟩
      have hs3 : g3 + 1 + 1 ≤ W3.heap.size := by rw [hW3, hg3]; simp
      rw [← hW3] at T3 H3 F3 G3 J3 O3 B3 K3 ⊢
      have hb3 : g1 + 1 + 1 ≤ g3 := by omega
      rw [← hg3] at G3 J3 ⊢
      clear hg3
      clear hW3 T2 H2 F2 O2 B2 K2 hs2
      have Jc0 := J3.out.get 0 (.int .i64 fk) rfl
      have Jc1 := J3.out.get 1 (.int .i64 fs) rfl
      have Jc2 := J3.out.get 2 (.int .i64 fl) rfl
      have Jc3 := J3.out.get 3 (.bool fw) rfl
      have Jc4 := J3.out.get 4 (.int .i64 fp) rfl
      go_wp2_with fail
      refine (HIF.out _ _ _ _ _ _).mono ?_
      rintro e w4 ⟨rfl, hb4⟩
      have hz4 := hb4.size
      have T4 := Lib.hid (T3.out.below hb4)
      have H4 := Lib.hid (H3.out.below hb4)
      have F4 := Lib.hid (F3.out.below hb4)
      have G4 := Lib.hid (G3.out.below hb4)
      have J4 := Lib.hid (J3.out.below hb4)
      have O4 := Lib.hid (O3.out.below hb4)
      have B4 := Lib.hid (bel_trans B3.out hb4)
      have K4 := Lib.hid (K3.out.step hb4)
      skip
      have hs4 : g3 + 1 + 1 ≤ w4.heap.size := by omega
      clear Jc0 Jc1 Jc2 Jc3 Jc4
      clear T3 H3 F3 G3 J3 O3 B3 K3 hs3 hb4 hz4
      have Gc2 := G4.out.get 2 (.bool hr) rfl
      have Gc3 := G4.out.get 3 (.bool hw) rfl
      have Gc4 := G4.out.get 4 (.bool hx) rfl
      have Gc5 := G4.out.get 5 (.bool ha) rfl
      have Gc6 := G4.out.get 6 (.bool hn) rfl
      have Gc7 := G4.out.get 7 (.int .i64 hs) rfl
      have Gc8 := G4.out.get 8 (.int .i64 hl) rfl
      go_wp2_with fail
      refine (HG.out _).mono ?_
      rintro e w5 ⟨rfl, hb5⟩
      have hz5 := hb5.size
      have T5 := Lib.hid (T4.out.below hb5)
      have H5 := Lib.hid (H4.out.below hb5)
      have F5 := Lib.hid (F4.out.below hb5)
      have G5 := Lib.hid (G4.out.below hb5)
      have J5 := Lib.hid (J4.out.below hb5)
      have O5 := Lib.hid (O4.out.below hb5)
      have B5 := Lib.hid (bel_trans B4.out hb5)
      have K5 := Lib.hid (K4.out.step hb5)
      skip
      have hs5 : g3 + 1 + 1 ≤ w5.heap.size := by omega
      clear Gc2 Gc3 Gc4 Gc5 Gc6 Gc7 Gc8
      clear T4 H4 F4 G4 J4 O4 B4 K4 hs4 hb5 hz5
      go_upto_region 5 with (refine wpList_storeB rfl 38 _ _ rfl (g3 + 1) #[.int .i64 gk, .int .i64 gs, .int .i64 gl, .bool gw, .int .i64 gp] _ 38 rfl rfl (by kernel_rfl) (by rfl) (by simp [Value.oneCell']) J5.out ?_)
      have T6 := Lib.hid ((T5.out.row (cs' := #[.int .i64 gk, .int .i64 gs, .int .i64 gl, .bool gw, .int .i64 gp]) (show tb ≠ g3 + 1 by omega)))
      have H6 := Lib.hid ((H5.out.row (cs' := #[.int .i64 gk, .int .i64 gs, .int .i64 gl, .bool gw, .int .i64 gp]) (show g1 ≠ g3 + 1 by omega)))
      have F6 := Lib.hid ((F5.out.row (cs' := #[.int .i64 gk, .int .i64 gs, .int .i64 gl, .bool gw, .int .i64 gp]) (show g1 + 1 ≠ g3 + 1 by omega)))
      have G6 := Lib.hid ((G5.out.row (cs' := #[.int .i64 gk, .int .i64 gs, .int .i64 gl, .bool gw, .int .i64 gp]) (show g3 ≠ g3 + 1 by omega)))
      have J6 := Lib.hid ((J5.out.put (cs' := #[.int .i64 gk, .int .i64 gs, .int .i64 gl, .bool gw, .int .i64 gp])))
      have O6 := Lib.hid ((O5.out.rowN (cs := #[.int .i64 gk, .int .i64 gs, .int .i64 gl, .bool gw, .int .i64 gp]) (O5.out.ne_box J5.out (by decide))))
      have B6 := Lib.hid ((Below.rowB (g := g3 + 1) B5.out (cs := #[.int .i64 gk, .int .i64 gs, .int .i64 gl, .bool gw, .int .i64 gp]) (show w0.heap.size ≤ g3 + 1 by omega)))
      have K6 := Lib.hid ((K5.out.row (g3 + 1) #[.int .i64 gk, .int .i64 gs, .int .i64 gl, .bool gw, .int .i64 gp] (show w.heap.size ≤ g3 + 1 by omega)))
      obtain ⟨W6, hW6⟩ : ∃ W6, W6 = (w5).setRow (g3 + 1) #[.int .i64 gk, .int .i64 gs, .int .i64 gl, .bool gw, .int .i64 gp] := ⟨_, rfl⟩
      have hs6 : g3 + 1 + 1 ≤ W6.heap.size := by rw [hW6]; first | exact hs5 | (simp; omega)
      rw [← hW6] at T6 H6 F6 G6 J6 O6 B6 K6 ⊢
      clear hW6 T5 H5 F5 G5 J5 O5 B5 K5 hs5
      have Jc0 := J6.out.get 0 (.int .i64 gk) rfl
      have Jc1 := J6.out.get 1 (.int .i64 gs) rfl
      have Jc2 := J6.out.get 2 (.int .i64 gl) rfl
      have Jc3 := J6.out.get 3 (.bool gw) rfl
      have Jc4 := J6.out.get 4 (.int .i64 gp) rfl
      go_wp2_with fail
      refine (HIF.out _ _ _ _ _ _).mono ?_
      rintro e w7 ⟨rfl, hb7⟩
      have hz7 := hb7.size
      have T7 := Lib.hid (T6.out.below hb7)
      have H7 := Lib.hid (H6.out.below hb7)
      have F7 := Lib.hid (F6.out.below hb7)
      have G7 := Lib.hid (G6.out.below hb7)
      have J7 := Lib.hid (J6.out.below hb7)
      have O7 := Lib.hid (O6.out.below hb7)
      have B7 := Lib.hid (bel_trans B6.out hb7)
      have K7 := Lib.hid (K6.out.step hb7)
      skip
      have hs7 : g3 + 1 + 1 ≤ w7.heap.size := by omega
      clear Jc0 Jc1 Jc2 Jc3 Jc4
      clear T6 H6 F6 G6 J6 O6 B6 K6 hs6 hb7 hz7
      go_upto_region 6 with fail
      refine wp_region_held_drew (S := (fun w' => BoxAt w' (g3 + 1) #[.int .i64 gk, .int .i64 gs, .int .i64 gl, .bool gw, .int .i64 gp] 38)) (by kernel_rfl) (J7.out.drew) (fun hS => ?_)
      refine tkR 0 32 (v := .agg #[.int .i64 0, .int .i64 0, .bool false, .bool false, .bool false, .bool false, .bool false, .int .i64 0, .int .i64 0]) rfl hS (fun _ _ => by kernel_rfl) ?_
      refine tkR 1 33 (v := .agg #[.int .i64 gk, .int .i64 gs, .int .i64 gl, .bool gw, .int .i64 gp]) rfl hS (fun _ h => run_ldN 38 (.tmp 9) (g3 + 1) 0 (by kernel_rfl) (by kernel_rfl) Tryz.underlying38 rfl (by kernel_rfl) ((h).sub 0 _ rfl)) ?_
      try simp only [Act.put, List.setIfInBounds_toArray, List.set_cons_zero, List.set_cons_succ]
      refine wpAnyH_ready (rs := [2]) (by kernel_rfl) (by simp) ?_
      refine AllReadyH.cons (o := ⟨none, _, _, _, _, _⟩) rfl (fun K hK => ?_) AllReadyH.nil
      refine step_storeB rfl 36 _ _ rfl _ _ _ 36 rfl rfl (by kernel_rfl) (by rfl) (by simp [Value.oneCell']) (H7.out.drew) ?_
      refine hK.out _ _ ?_ (fun hS' => ?_)
      · exact (hS.row (show g3 + 1 ≠ g1 by omega))
      clear hK K hS
      have hS := hS'
      clear hS'
      try simp only [Act.put]
      try simp only [Act.put, List.setIfInBounds_toArray, List.set_cons_zero, List.set_cons_succ]
      refine wpAnyH_ready (rs := [3]) (by kernel_rfl) (by simp) ?_
      refine AllReadyH.cons (o := ⟨none, _, _, _, _, _⟩) rfl (fun K hK => ?_) AllReadyH.nil
      refine step_storeB rfl 38 _ _ rfl _ _ _ 38 rfl rfl (by kernel_rfl) (by rfl) (by simp [Value.oneCell']) ((F7.out.drew).row (cs' := #[.int .i64 0, .int .i64 0, .bool false, .bool false, .bool false, .bool false, .bool false, .int .i64 0, .int .i64 0]) (show g1 + 1 ≠ g1 by omega)) ?_
      refine hK.out _ _ ?_ (fun hS' => ?_)
      · exact (hS.row (show g3 + 1 ≠ g1 + 1 by omega))
      clear hK K hS
      have hS := hS'
      clear hS'
      try simp only [Act.put]
      refine wpAnyH_done (by kernel_rfl) ?_ _
      try simp only [Act.put, List.setIfInBounds_toArray, List.set_cons_zero, List.set_cons_succ]
      have T8 := Lib.hid ((((T7.out.drew).row (cs' := #[.int .i64 0, .int .i64 0, .bool false, .bool false, .bool false, .bool false, .bool false, .int .i64 0, .int .i64 0]) (show tb ≠ g1 by omega)).row (cs' := #[.int .i64 gk, .int .i64 gs, .int .i64 gl, .bool gw, .int .i64 gp]) (show tb ≠ g1 + 1 by omega)))
      have H8 := Lib.hid ((((H7.out.drew).put (cs' := #[.int .i64 0, .int .i64 0, .bool false, .bool false, .bool false, .bool false, .bool false, .int .i64 0, .int .i64 0])).row (cs' := #[.int .i64 gk, .int .i64 gs, .int .i64 gl, .bool gw, .int .i64 gp]) (show g1 ≠ g1 + 1 by omega)))
      have F8 := Lib.hid ((((F7.out.drew).row (cs' := #[.int .i64 0, .int .i64 0, .bool false, .bool false, .bool false, .bool false, .bool false, .int .i64 0, .int .i64 0]) (show g1 + 1 ≠ g1 by omega)).put (cs' := #[.int .i64 gk, .int .i64 gs, .int .i64 gl, .bool gw, .int .i64 gp])))
      have G8 := Lib.hid ((((G7.out.drew).row (cs' := #[.int .i64 0, .int .i64 0, .bool false, .bool false, .bool false, .bool false, .bool false, .int .i64 0, .int .i64 0]) (show g3 ≠ g1 by omega)).row (cs' := #[.int .i64 gk, .int .i64 gs, .int .i64 gl, .bool gw, .int .i64 gp]) (show g3 ≠ g1 + 1 by omega)))
      have J8 := Lib.hid ((((J7.out.drew).row (cs' := #[.int .i64 0, .int .i64 0, .bool false, .bool false, .bool false, .bool false, .bool false, .int .i64 0, .int .i64 0]) (show g3 + 1 ≠ g1 by omega)).row (cs' := #[.int .i64 gk, .int .i64 gs, .int .i64 gl, .bool gw, .int .i64 gp]) (show g3 + 1 ≠ g1 + 1 by omega)))
      have O8 := Lib.hid ((((O7.out.drew).rowN (cs := #[.int .i64 0, .int .i64 0, .bool false, .bool false, .bool false, .bool false, .bool false, .int .i64 0, .int .i64 0]) (O7.out.ne_box H7.out (by decide))).rowN (cs := #[.int .i64 gk, .int .i64 gs, .int .i64 gl, .bool gw, .int .i64 gp]) (O7.out.ne_box F7.out (by decide))))
      have B8 := Lib.hid ((Below.rowB (g := g1 + 1) (Below.rowB (g := g1) (Below.drew B7.out) (cs := #[.int .i64 0, .int .i64 0, .bool false, .bool false, .bool false, .bool false, .bool false, .int .i64 0, .int .i64 0]) (show w0.heap.size ≤ g1 by omega)) (cs := #[.int .i64 gk, .int .i64 gs, .int .i64 gl, .bool gw, .int .i64 gp]) (show w0.heap.size ≤ g1 + 1 by omega)))
      have K8 := Lib.hid ((((K7.out.drew).row (g1) #[.int .i64 0, .int .i64 0, .bool false, .bool false, .bool false, .bool false, .bool false, .int .i64 0, .int .i64 0] (show w.heap.size ≤ g1 by omega)).row (g1 + 1) #[.int .i64 gk, .int .i64 gs, .int .i64 gl, .bool gw, .int .i64 gp] (show w.heap.size ≤ g1 + 1 by omega)))
      obtain ⟨W8, hW8⟩ : ∃ W8, W8 = (((w7).drew).setRow (g1) #[.int .i64 0, .int .i64 0, .bool false, .bool false, .bool false, .bool false, .bool false, .int .i64 0, .int .i64 0]).setRow (g1 + 1) #[.int .i64 gk, .int .i64 gs, .int .i64 gl, .bool gw, .int .i64 gp] := ⟨_, rfl⟩
      have hs8 : g3 + 1 + 1 ≤ W8.heap.size := by rw [hW8]; first | exact hs7 | (simp; omega)
      rw [← hW8] at T8 H8 F8 G8 J8 O8 B8 K8 ⊢
      clear hW8 T7 H7 F7 G7 J7 O7 B7 K7 hs7
      go_wp2
      have RH := H8.out
      have RF := F8.out
      refine bodyPost_ret (v := .tuple #[.agg #[.int .i64 0, .int .i64 0, .bool false, .bool false, .bool false, .bool false, .bool false, .int .i64 0, .int .i64 0], .agg #[.int .i64 gk, .int .i64 gs, .int .i64 gl, .bool gw, .int .i64 gp]]) (by simp [results, Tryz.results25, go_sem, RH.get 0 (.int .i64 0) rfl, RH.get 1 (.int .i64 0) rfl, RH.get 2 (.bool false) rfl, RH.get 3 (.bool false) rfl, RH.get 4 (.bool false) rfl, RH.get 5 (.bool false) rfl, RH.get 6 (.bool false) rfl, RH.get 7 (.int .i64 0) rfl, RH.get 8 (.int .i64 0) rfl, RF.get 0 (.int .i64 gk) rfl, RF.get 1 (.int .i64 gs) rfl, RF.get 2 (.int .i64 gl) rfl, RF.get 3 (.bool gw) rfl, RF.get 4 (.int .i64 gp) rfl]) rfl ?_
      exact ⟨f2, c2, rfl, T8.out, O8.out, K8.out⟩
  · rw [if_neg hk0]
    have df : (fk != 0) = true := by simp [hk0]
    clear hk0 HG
    go_enter Tryz.func25, Tryz.ntmps25
    go_upto_region 1 with fail
    have T1 := Lib.hid (((T0.out.alloc (.cells z9 36)).alloc (.cells z5 38)))
    have H1 := Lib.hid (((BoxAt.newAt (w) z9 36 (w.heap.size) (by first | omega | (simp; done) | (simp; omega))).alloc (.cells z5 38)))
    have F1 := Lib.hid ((BoxAt.newAt ((w).alloc (.cells z9 36)) z5 38 (w.heap.size + 1) (by first | omega | (simp; done) | (simp; omega))))
    have O1 := Lib.hid (((O0.out.alloc (.cells z9 36)).alloc (.cells z5 38)))
    have B1 := Lib.hid ((bel_alloc (bel_alloc HB0.out (.cells z9 36)) (.cells z5 38)))
    have K1 := Lib.hid (((K0.out.alloc (.cells z9 36)).alloc (.cells z5 38)))
    obtain ⟨g1, hg1⟩ : ∃ g1, g1 = w.heap.size := ⟨_, rfl⟩
    obtain ⟨W1, hW1⟩ : ∃ W1, W1 = ((w).alloc (.cells z9 36)).alloc (.cells z5 38) := ⟨_, rfl⟩
    have hs1 : g1 + 1 + 1 ≤ W1.heap.size := by rw [hW1, hg1]; simp
    rw [← hW1] at T1 H1 F1 O1 B1 K1 ⊢
    have hb1 : w.heap.size ≤ g1 := by omega
    rw [← hg1] at H1 F1 ⊢
    clear hg1
    clear hW1 T0 O0 HB0 K0
    go_wp2_with fail
    refine (HFD.out _ B1.out (by first | omega | (simp; done) | (simp; omega)) O1.out T1.out).mono ?_
    rintro e w2 ⟨f2, c2, rfl, qT2, qO2, qW2⟩
    have hz2 := qW2.size
    have T2 := Lib.hid (show BoxAt w2 (tb) #[.slice f l c, .bool on, .int .i64 tf, .int .i64 tg, .slice f2 (R.length + Q.length) c2] 59 from qT2)
    have H2 := Lib.hid ((qW2.box H1.out (by decide) (show g1 ≠ tb by omega)))
    have F2 := Lib.hid ((qW2.box F1.out (by decide) (show g1 + 1 ≠ tb by omega)))
    have O2 := Lib.hid (show OwnI w2 (B) (.slice f2 (R.length + Q.length) c2) (R ++ Q) from qO2)
    have B2 := Lib.hid ((qW2.under B1.out (by first | omega | (simp; done) | (simp; omega)) (show w0.heap.size ≤ tb by omega) (show w0.heap.size ≤ B by omega)))
    have K2 := Lib.hid ((K1.out.trans qW2))
    skip
    have hs2 : g1 + 1 + 1 ≤ w2.heap.size := by omega
    clear T1 H1 F1 O1 B1 K1 hs1 qT2 qO2 qW2 hz2
    unfold hitV fltV
    simp only
    go_upto_region 2 with fail
    have T3 := Lib.hid (((T2.out.alloc (.cells #[.int .i64 hf, .int .i64 hm, .bool hr, .bool hw, .bool hx, .bool ha, .bool hn, .int .i64 hs, .int .i64 hl] 36)).alloc (.cells #[.int .i64 fk, .int .i64 fs, .int .i64 fl, .bool fw, .int .i64 fp] 38)))
    have H3 := Lib.hid (((H2.out.alloc (.cells #[.int .i64 hf, .int .i64 hm, .bool hr, .bool hw, .bool hx, .bool ha, .bool hn, .int .i64 hs, .int .i64 hl] 36)).alloc (.cells #[.int .i64 fk, .int .i64 fs, .int .i64 fl, .bool fw, .int .i64 fp] 38)))
    have F3 := Lib.hid (((F2.out.alloc (.cells #[.int .i64 hf, .int .i64 hm, .bool hr, .bool hw, .bool hx, .bool ha, .bool hn, .int .i64 hs, .int .i64 hl] 36)).alloc (.cells #[.int .i64 fk, .int .i64 fs, .int .i64 fl, .bool fw, .int .i64 fp] 38)))
    have G3 := Lib.hid (((BoxAt.newAt (w2) #[.int .i64 hf, .int .i64 hm, .bool hr, .bool hw, .bool hx, .bool ha, .bool hn, .int .i64 hs, .int .i64 hl] 36 (w2.heap.size) (by first | omega | (simp; done) | (simp; omega))).alloc (.cells #[.int .i64 fk, .int .i64 fs, .int .i64 fl, .bool fw, .int .i64 fp] 38)))
    have J3 := Lib.hid ((BoxAt.newAt ((w2).alloc (.cells #[.int .i64 hf, .int .i64 hm, .bool hr, .bool hw, .bool hx, .bool ha, .bool hn, .int .i64 hs, .int .i64 hl] 36)) #[.int .i64 fk, .int .i64 fs, .int .i64 fl, .bool fw, .int .i64 fp] 38 (w2.heap.size + 1) (by first | omega | (simp; done) | (simp; omega))))
    have O3 := Lib.hid (((O2.out.alloc (.cells #[.int .i64 hf, .int .i64 hm, .bool hr, .bool hw, .bool hx, .bool ha, .bool hn, .int .i64 hs, .int .i64 hl] 36)).alloc (.cells #[.int .i64 fk, .int .i64 fs, .int .i64 fl, .bool fw, .int .i64 fp] 38)))
    have B3 := Lib.hid ((bel_alloc (bel_alloc B2.out (.cells #[.int .i64 hf, .int .i64 hm, .bool hr, .bool hw, .bool hx, .bool ha, .bool hn, .int .i64 hs, .int .i64 hl] 36)) (.cells #[.int .i64 fk, .int .i64 fs, .int .i64 fl, .bool fw, .int .i64 fp] 38)))
    have K3 := Lib.hid (((K2.out.alloc (.cells #[.int .i64 hf, .int .i64 hm, .bool hr, .bool hw, .bool hx, .bool ha, .bool hn, .int .i64 hs, .int .i64 hl] 36)).alloc (.cells #[.int .i64 fk, .int .i64 fs, .int .i64 fl, .bool fw, .int .i64 fp] 38)))
    obtain ⟨g3, hg3⟩ : ∃ g3, g3 = w2.heap.size := ⟨_, rfl⟩
    obtain ⟨W3, hW3⟩ : ∃ W3, W3 = ((w2).alloc (.cells #[.int .i64 hf, .int .i64 hm, .bool hr, .bool hw, .bool hx, .bool ha, .bool hn, .int .i64 hs, .int .i64 hl] 36)).alloc (.cells #[.int .i64 fk, .int .i64 fs, .int .i64 fl, .bool fw, .int .i64 fp] 38) := ⟨_, rfl⟩
    have hs3 : g3 + 1 + 1 ≤ W3.heap.size := by rw [hW3, hg3]; simp
    rw [← hW3] at T3 H3 F3 G3 J3 O3 B3 K3 ⊢
    have hb3 : g1 + 1 + 1 ≤ g3 := by omega
    rw [← hg3] at G3 J3 ⊢
    clear hg3
    clear hW3 T2 H2 F2 O2 B2 K2 hs2
    have Jc0 := J3.out.get 0 (.int .i64 fk) rfl
    have Jc1 := J3.out.get 1 (.int .i64 fs) rfl
    have Jc2 := J3.out.get 2 (.int .i64 fl) rfl
    have Jc3 := J3.out.get 3 (.bool fw) rfl
    have Jc4 := J3.out.get 4 (.int .i64 fp) rfl
    go_wp2_with fail
    refine (HIF.out _ _ _ _ _ _).mono ?_
    rintro e w4 ⟨rfl, hb4⟩
    have hz4 := hb4.size
    have T4 := Lib.hid (T3.out.below hb4)
    have H4 := Lib.hid (H3.out.below hb4)
    have F4 := Lib.hid (F3.out.below hb4)
    have G4 := Lib.hid (G3.out.below hb4)
    have J4 := Lib.hid (J3.out.below hb4)
    have O4 := Lib.hid (O3.out.below hb4)
    have B4 := Lib.hid (bel_trans B3.out hb4)
    have K4 := Lib.hid (K3.out.step hb4)
    skip
    have hs4 : g3 + 1 + 1 ≤ w4.heap.size := by omega
    clear Jc0 Jc1 Jc2 Jc3 Jc4
    clear T3 H3 F3 G3 J3 O3 B3 K3 hs3 hb4 hz4
    go_upto_region 3 with fail
    refine wp_region_held_drew (S := (fun w' => BoxAt w' (g3 + 1) #[.int .i64 fk, .int .i64 fs, .int .i64 fl, .bool fw, .int .i64 fp] 38)) (by kernel_rfl) (J4.out.drew) (fun hS => ?_)
    refine tkR 0 18 (v := .agg #[.int .i64 0, .int .i64 0, .bool false, .bool false, .bool false, .bool false, .bool false, .int .i64 0, .int .i64 0]) rfl hS (fun _ _ => by kernel_rfl) ?_
    refine tkR 1 19 (v := .agg #[.int .i64 fk, .int .i64 fs, .int .i64 fl, .bool fw, .int .i64 fp]) rfl hS (fun _ h => run_ldN 38 (.tmp 9) (g3 + 1) 0 (by kernel_rfl) (by kernel_rfl) Tryz.underlying38 rfl (by kernel_rfl) ((h).sub 0 _ rfl)) ?_
    try simp only [Act.put, List.setIfInBounds_toArray, List.set_cons_zero, List.set_cons_succ]
    refine wpAnyH_ready (rs := [2]) (by kernel_rfl) (by simp) ?_
    refine AllReadyH.cons (o := ⟨none, _, _, _, _, _⟩) rfl (fun K hK => ?_) AllReadyH.nil
    refine step_storeB rfl 36 _ _ rfl _ _ _ 36 rfl rfl (by kernel_rfl) (by rfl) (by simp [Value.oneCell']) (H4.out.drew) ?_
    refine hK.out _ _ ?_ (fun hS' => ?_)
    · exact (hS.row (show g3 + 1 ≠ g1 by omega))
    clear hK K hS
    have hS := hS'
    clear hS'
    try simp only [Act.put]
    try simp only [Act.put, List.setIfInBounds_toArray, List.set_cons_zero, List.set_cons_succ]
    refine wpAnyH_ready (rs := [3]) (by kernel_rfl) (by simp) ?_
    refine AllReadyH.cons (o := ⟨none, _, _, _, _, _⟩) rfl (fun K hK => ?_) AllReadyH.nil
    refine step_storeB rfl 38 _ _ rfl _ _ _ 38 rfl rfl (by kernel_rfl) (by rfl) (by simp [Value.oneCell']) ((F4.out.drew).row (cs' := #[.int .i64 0, .int .i64 0, .bool false, .bool false, .bool false, .bool false, .bool false, .int .i64 0, .int .i64 0]) (show g1 + 1 ≠ g1 by omega)) ?_
    refine hK.out _ _ ?_ (fun hS' => ?_)
    · exact (hS.row (show g3 + 1 ≠ g1 + 1 by omega))
    clear hK K hS
    have hS := hS'
    clear hS'
    try simp only [Act.put]
    refine wpAnyH_done (by kernel_rfl) ?_ _
    try simp only [Act.put, List.setIfInBounds_toArray, List.set_cons_zero, List.set_cons_succ]
    have T5 := Lib.hid ((((T4.out.drew).row (cs' := #[.int .i64 0, .int .i64 0, .bool false, .bool false, .bool false, .bool false, .bool false, .int .i64 0, .int .i64 0]) (show tb ≠ g1 by omega)).row (cs' := #[.int .i64 fk, .int .i64 fs, .int .i64 fl, .bool fw, .int .i64 fp]) (show tb ≠ g1 + 1 by omega)))
    have H5 := Lib.hid ((((H4.out.drew).put (cs' := #[.int .i64 0, .int .i64 0, .bool false, .bool false, .bool false, .bool false, .bool false, .int .i64 0, .int .i64 0])).row (cs' := #[.int .i64 fk, .int .i64 fs, .int .i64 fl, .bool fw, .int .i64 fp]) (show g1 ≠ g1 + 1 by omega)))
    have F5 := Lib.hid ((((F4.out.drew).row (cs' := #[.int .i64 0, .int .i64 0, .bool false, .bool false, .bool false, .bool false, .bool false, .int .i64 0, .int .i64 0]) (show g1 + 1 ≠ g1 by omega)).put (cs' := #[.int .i64 fk, .int .i64 fs, .int .i64 fl, .bool fw, .int .i64 fp])))
    have G5 := Lib.hid ((((G4.out.drew).row (cs' := #[.int .i64 0, .int .i64 0, .bool false, .bool false, .bool false, .bool false, .bool false, .int .i64 0, .int .i64 0]) (show g3 ≠ g1 by omega)).row (cs' := #[.int .i64 fk, .int .i64 fs, .int .i64 fl, .bool fw, .int .i64 fp]) (show g3 ≠ g1 + 1 by omega)))
    have J5 := Lib.hid ((((J4.out.drew).row (cs' := #[.int .i64 0, .int .i64 0, .bool false, .bool false, .bool false, .bool false, .bool false, .int .i64 0, .int .i64 0]) (show g3 + 1 ≠ g1 by omega)).row (cs' := #[.int .i64 fk, .int .i64 fs, .int .i64 fl, .bool fw, .int .i64 fp]) (show g3 + 1 ≠ g1 + 1 by omega)))
    have O5 := Lib.hid ((((O4.out.drew).rowN (cs := #[.int .i64 0, .int .i64 0, .bool false, .bool false, .bool false, .bool false, .bool false, .int .i64 0, .int .i64 0]) (O4.out.ne_box H4.out (by decide))).rowN (cs := #[.int .i64 fk, .int .i64 fs, .int .i64 fl, .bool fw, .int .i64 fp]) (O4.out.ne_box F4.out (by decide))))
    have B5 := Lib.hid ((Below.rowB (g := g1 + 1) (Below.rowB (g := g1) (Below.drew B4.out) (cs := #[.int .i64 0, .int .i64 0, .bool false, .bool false, .bool false, .bool false, .bool false, .int .i64 0, .int .i64 0]) (show w0.heap.size ≤ g1 by omega)) (cs := #[.int .i64 fk, .int .i64 fs, .int .i64 fl, .bool fw, .int .i64 fp]) (show w0.heap.size ≤ g1 + 1 by omega)))
    have K5 := Lib.hid ((((K4.out.drew).row (g1) #[.int .i64 0, .int .i64 0, .bool false, .bool false, .bool false, .bool false, .bool false, .int .i64 0, .int .i64 0] (show w.heap.size ≤ g1 by omega)).row (g1 + 1) #[.int .i64 fk, .int .i64 fs, .int .i64 fl, .bool fw, .int .i64 fp] (show w.heap.size ≤ g1 + 1 by omega)))
    obtain ⟨W5, hW5⟩ : ∃ W5, W5 = (((w4).drew).setRow (g1) #[.int .i64 0, .int .i64 0, .bool false, .bool false, .bool false, .bool false, .bool false, .int .i64 0, .int .i64 0]).setRow (g1 + 1) #[.int .i64 fk, .int .i64 fs, .int .i64 fl, .bool fw, .int .i64 fp] := ⟨_, rfl⟩
    have hs5 : g3 + 1 + 1 ≤ W5.heap.size := by rw [hW5]; first | exact hs4 | (simp; omega)
    rw [← hW5] at T5 H5 F5 G5 J5 O5 B5 K5 ⊢
    clear hW5 T4 H4 F4 G4 J4 O4 B4 K4 hs4
    go_wp2
    have RH := H5.out
    have RF := F5.out
    refine bodyPost_ret (v := .tuple #[.agg #[.int .i64 0, .int .i64 0, .bool false, .bool false, .bool false, .bool false, .bool false, .int .i64 0, .int .i64 0], .agg #[.int .i64 fk, .int .i64 fs, .int .i64 fl, .bool fw, .int .i64 fp]]) (by simp [results, Tryz.results25, go_sem, RH.get 0 (.int .i64 0) rfl, RH.get 1 (.int .i64 0) rfl, RH.get 2 (.bool false) rfl, RH.get 3 (.bool false) rfl, RH.get 4 (.bool false) rfl, RH.get 5 (.bool false) rfl, RH.get 6 (.bool false) rfl, RH.get 7 (.int .i64 0) rfl, RH.get 8 (.int .i64 0) rfl, RF.get 0 (.int .i64 fk) rfl, RF.get 1 (.int .i64 fs) rfl, RF.get 2 (.int .i64 fl) rfl, RF.get 3 (.bool fw) rfl, RF.get 4 (.int .i64 fp) rfl]) rfl ?_
    exact ⟨f2, c2, rfl, T5.out, O5.out, K5.out⟩
set_option maxRecDepth 100000 in
set_option maxHeartbeats 3200000 in
theorem midC : MidC := by
  intro f l c X on tf tg mid acc w hl hlc hX
  have htw : w.heap.size ≤ w.heap.size := Nat.le_refl _
  have B0 := Lib.hid (Below.refl w.heap.size w)
  cases hA : mayN l tf mid acc
  · rw [midA_no hA]
    unfold Walk4End
    simp only [hit0, flt0, atr0, List.length_nil]
    unfold hitV fltV
    simp only
    clear hX hl hlc
    go_enter Tryz.func10, Tryz.ntmps10
    go_upto_region 1 with fail
    have M1 := Lib.hid (((((BoxAt.newAt (w) #[.slice f l c] 24 (w.heap.size) (by first | omega | (simp; done) | (simp; omega))).alloc (.cells #[.bool on, .int .i64 tf, .int .i64 tg] 29)).alloc (.cells z9 36)).alloc (.cells z5 38)))
    have U1 := Lib.hid ((((BoxAt.newAt ((w).alloc (.cells #[.slice f l c] 24)) #[.bool on, .int .i64 tf, .int .i64 tg] 29 (w.heap.size + 1) (by first | omega | (simp; done) | (simp; omega))).alloc (.cells z9 36)).alloc (.cells z5 38)))
    have H1 := Lib.hid (((BoxAt.newAt (((w).alloc (.cells #[.slice f l c] 24)).alloc (.cells #[.bool on, .int .i64 tf, .int .i64 tg] 29)) z9 36 (w.heap.size + 1 + 1) (by first | omega | (simp; done) | (simp; omega))).alloc (.cells z5 38)))
    have F1 := Lib.hid ((BoxAt.newAt ((((w).alloc (.cells #[.slice f l c] 24)).alloc (.cells #[.bool on, .int .i64 tf, .int .i64 tg] 29)).alloc (.cells z9 36)) z5 38 (w.heap.size + 1 + 1 + 1) (by first | omega | (simp; done) | (simp; omega))))
    have B1 := Lib.hid ((bel_alloc (bel_alloc (bel_alloc (bel_alloc B0.out (.cells #[.slice f l c] 24)) (.cells #[.bool on, .int .i64 tf, .int .i64 tg] 29)) (.cells z9 36)) (.cells z5 38)))
    obtain ⟨g1, hg1⟩ : ∃ g1, g1 = w.heap.size := ⟨_, rfl⟩
    obtain ⟨W1, hW1⟩ : ∃ W1, W1 = ((((w).alloc (.cells #[.slice f l c] 24)).alloc (.cells #[.bool on, .int .i64 tf, .int .i64 tg] 29)).alloc (.cells z9 36)).alloc (.cells z5 38) := ⟨_, rfl⟩
    have hs1 : g1 + 1 + 1 + 1 + 1 ≤ W1.heap.size := by rw [hW1, hg1]; simp
    rw [← hW1] at M1 U1 H1 F1 B1 ⊢
    have hb1 : w.heap.size ≤ g1 := by omega
    rw [← hg1] at M1 U1 H1 F1 ⊢
    clear hg1
    clear hW1 B0
    have Mc0 := M1.out.get 0 (.slice f l c) rfl
    have Uc0 := U1.out.get 0 (.bool on) rfl
    have Uc1 := U1.out.get 1 (.int .i64 tf) rfl
    have Uc2 := U1.out.get 2 (.int .i64 tg) rfl
    go_upto_region 2 with fail
    clear Mc0 Uc0 Uc1 Uc2
    have M2 := Lib.hid ((M1.out.alloc (.cells #[.slice f l c, .bool on, .int .i64 tf, .int .i64 tg, .slice none 0 0] 59)))
    have U2 := Lib.hid ((U1.out.alloc (.cells #[.slice f l c, .bool on, .int .i64 tf, .int .i64 tg, .slice none 0 0] 59)))
    have H2 := Lib.hid ((H1.out.alloc (.cells #[.slice f l c, .bool on, .int .i64 tf, .int .i64 tg, .slice none 0 0] 59)))
    have F2 := Lib.hid ((F1.out.alloc (.cells #[.slice f l c, .bool on, .int .i64 tf, .int .i64 tg, .slice none 0 0] 59)))
    have T2 := Lib.hid ((BoxAt.newAt (W1) #[.slice f l c, .bool on, .int .i64 tf, .int .i64 tg, .slice none 0 0] 59 (W1.heap.size) (by first | omega | (simp; done) | (simp; omega))))
    have B2 := Lib.hid ((bel_alloc B1.out (.cells #[.slice f l c, .bool on, .int .i64 tf, .int .i64 tg, .slice none 0 0] 59)))
    obtain ⟨g2, hg2⟩ : ∃ g2, g2 = W1.heap.size := ⟨_, rfl⟩
    obtain ⟨W2, hW2⟩ : ∃ W2, W2 = (W1).alloc (.cells #[.slice f l c, .bool on, .int .i64 tf, .int .i64 tg, .slice none 0 0] 59) := ⟨_, rfl⟩
    have hs2 : g2 + 1 ≤ W2.heap.size := by rw [hW2, hg2]; simp
    rw [← hW2] at M2 U2 H2 F2 T2 B2 ⊢
    have hb2 : g1 + 1 + 1 + 1 + 1 ≤ g2 := by omega
    rw [← hg2] at T2 ⊢
    clear hg2
    clear hW2 M1 U1 H1 F1 B1 hs1
    go_wp2_with fail
    refine (ncarry_any f l c tf mid acc (g2) _ T2.out rfl rfl).mono ?_
    rintro e w3 ⟨rfl, hb3⟩
    have hz3 := hb3.size
    have M3 := Lib.hid (M2.out.below hb3)
    have U3 := Lib.hid (U2.out.below hb3)
    have H3 := Lib.hid (H2.out.below hb3)
    have F3 := Lib.hid (F2.out.below hb3)
    have T3 := Lib.hid (T2.out.below hb3)
    have B3 := Lib.hid (bel_trans B2.out hb3)
    skip
    have hs3 : g2 + 1 ≤ w3.heap.size := by omega
    clear M2 U2 H2 F2 T2 B2 hs2 hb3 hz3
    rw [hA]
    go_wp2_with (first | (refine wpList_storeB rfl 36 _ _ rfl (g1 + 1 + 1) #[.int .i64 0, .int .i64 0, .bool false, .bool false, .bool false, .bool false, .bool false, .int .i64 0, .int .i64 0] _ 36 rfl rfl (by kernel_rfl) (by rfl) (by simp [Value.oneCell']) H3.out ?_) | (refine wpList_storeB rfl 38 _ _ rfl (g1 + 1 + 1 + 1) #[.int .i64 0, .int .i64 0, .int .i64 0, .bool false, .int .i64 0] _ 38 rfl rfl (by kernel_rfl) (by rfl) (by simp [Value.oneCell']) (F3.out.row (cs' := #[.int .i64 0, .int .i64 0, .bool false, .bool false, .bool false, .bool false, .bool false, .int .i64 0, .int .i64 0]) (show g1 + 1 + 1 + 1 ≠ g1 + 1 + 1 by omega)) ?_))
    have RH := ((H3.out.put (cs' := #[.int .i64 0, .int .i64 0, .bool false, .bool false, .bool false, .bool false, .bool false, .int .i64 0, .int .i64 0])).row (cs' := #[.int .i64 0, .int .i64 0, .int .i64 0, .bool false, .int .i64 0]) (show g1 + 1 + 1 ≠ g1 + 1 + 1 + 1 by omega))
    have RF := ((F3.out.row (cs' := #[.int .i64 0, .int .i64 0, .bool false, .bool false, .bool false, .bool false, .bool false, .int .i64 0, .int .i64 0]) (show g1 + 1 + 1 + 1 ≠ g1 + 1 + 1 by omega)).put (cs' := #[.int .i64 0, .int .i64 0, .int .i64 0, .bool false, .int .i64 0]))
    refine bodyPost_ret (v := .tuple #[.agg #[.int .i64 0, .int .i64 0, .bool false, .bool false, .bool false, .bool false, .bool false, .int .i64 0, .int .i64 0], .agg #[.int .i64 0, .int .i64 0, .int .i64 0, .bool false, .int .i64 0], .slice none 0 0, .int .i64 1]) (by simp [results, Tryz.results10, go_sem, RH.get 0 (.int .i64 0) rfl, RH.get 1 (.int .i64 0) rfl, RH.get 2 (.bool false) rfl, RH.get 3 (.bool false) rfl, RH.get 4 (.bool false) rfl, RH.get 5 (.bool false) rfl, RH.get 6 (.bool false) rfl, RH.get 7 (.int .i64 0) rfl, RH.get 8 (.int .i64 0) rfl, RF.get 0 (.int .i64 0) rfl, RF.get 1 (.int .i64 0) rfl, RF.get 2 (.int .i64 0) rfl, RF.get 3 (.bool false) rfl, RF.get 4 (.int .i64 0) rfl]) rfl ?_
    exact ⟨none, 0, rfl, OwnI.nil _ _, (Below.rowB (g := g1 + 1 + 1 + 1) (Below.rowB (g := g1 + 1 + 1) B3.out (cs := #[.int .i64 0, .int .i64 0, .bool false, .bool false, .bool false, .bool false, .bool false, .int .i64 0, .int .i64 0]) (show w.heap.size ≤ g1 + 1 + 1 by omega)) (cs := #[.int .i64 0, .int .i64 0, .int .i64 0, .bool false, .int .i64 0]) (show w.heap.size ≤ g1 + 1 + 1 + 1 by omega))⟩
  · rw [midA_yes hA]
    obtain ⟨hM, ⟨t0, t1⟩, ⟨m0, m1⟩, a0, a1⟩ := mayN_iff.1 hA
    have HRC := Lib.hid (fun tb B W hB0 h0 hBw htB hO hT => nreachF_any f l c X on tf tg mid acc none 0 [] tb B w W (numB_iff.2 ⟨a0, a1⟩) hX hlc hM t0 t1 m0 m1 hB0 h0 hBw htB hO (by decide) hT)
    clear hX hl hlc hM t0 t1 m0 m1 a0 a1
    generalize midD l X on tf mid acc = q at *
    obtain ⟨⟨hf, hm, ⟨hr, hw, hx, ha, hn, hs⟩, hl⟩, ⟨fk, fs, fl, fw, fp⟩, Q⟩ := q
    unfold Walk4End hitV fltV
    simp only
    go_enter Tryz.func10, Tryz.ntmps10
    go_upto_region 1 with fail
    have M1 := Lib.hid (((((BoxAt.newAt (w) #[.slice f l c] 24 (w.heap.size) (by first | omega | (simp; done) | (simp; omega))).alloc (.cells #[.bool on, .int .i64 tf, .int .i64 tg] 29)).alloc (.cells z9 36)).alloc (.cells z5 38)))
    have U1 := Lib.hid ((((BoxAt.newAt ((w).alloc (.cells #[.slice f l c] 24)) #[.bool on, .int .i64 tf, .int .i64 tg] 29 (w.heap.size + 1) (by first | omega | (simp; done) | (simp; omega))).alloc (.cells z9 36)).alloc (.cells z5 38)))
    have H1 := Lib.hid (((BoxAt.newAt (((w).alloc (.cells #[.slice f l c] 24)).alloc (.cells #[.bool on, .int .i64 tf, .int .i64 tg] 29)) z9 36 (w.heap.size + 1 + 1) (by first | omega | (simp; done) | (simp; omega))).alloc (.cells z5 38)))
    have F1 := Lib.hid ((BoxAt.newAt ((((w).alloc (.cells #[.slice f l c] 24)).alloc (.cells #[.bool on, .int .i64 tf, .int .i64 tg] 29)).alloc (.cells z9 36)) z5 38 (w.heap.size + 1 + 1 + 1) (by first | omega | (simp; done) | (simp; omega))))
    have B1 := Lib.hid ((bel_alloc (bel_alloc (bel_alloc (bel_alloc B0.out (.cells #[.slice f l c] 24)) (.cells #[.bool on, .int .i64 tf, .int .i64 tg] 29)) (.cells z9 36)) (.cells z5 38)))
    obtain ⟨g1, hg1⟩ : ∃ g1, g1 = w.heap.size := ⟨_, rfl⟩
    obtain ⟨W1, hW1⟩ : ∃ W1, W1 = ((((w).alloc (.cells #[.slice f l c] 24)).alloc (.cells #[.bool on, .int .i64 tf, .int .i64 tg] 29)).alloc (.cells z9 36)).alloc (.cells z5 38) := ⟨_, rfl⟩
    have hs1 : g1 + 1 + 1 + 1 + 1 ≤ W1.heap.size := by rw [hW1, hg1]; simp
    rw [← hW1] at M1 U1 H1 F1 B1 ⊢
    have hb1 : w.heap.size ≤ g1 := by omega
    rw [← hg1] at M1 U1 H1 F1 ⊢
    clear hg1
    clear hW1 B0
    have Mc0 := M1.out.get 0 (.slice f l c) rfl
    have Uc0 := U1.out.get 0 (.bool on) rfl
    have Uc1 := U1.out.get 1 (.int .i64 tf) rfl
    have Uc2 := U1.out.get 2 (.int .i64 tg) rfl
    go_upto_region 2 with fail
    clear Mc0 Uc0 Uc1 Uc2
    have M2 := Lib.hid ((M1.out.alloc (.cells #[.slice f l c, .bool on, .int .i64 tf, .int .i64 tg, .slice none 0 0] 59)))
    have U2 := Lib.hid ((U1.out.alloc (.cells #[.slice f l c, .bool on, .int .i64 tf, .int .i64 tg, .slice none 0 0] 59)))
    have H2 := Lib.hid ((H1.out.alloc (.cells #[.slice f l c, .bool on, .int .i64 tf, .int .i64 tg, .slice none 0 0] 59)))
    have F2 := Lib.hid ((F1.out.alloc (.cells #[.slice f l c, .bool on, .int .i64 tf, .int .i64 tg, .slice none 0 0] 59)))
    have T2 := Lib.hid ((BoxAt.newAt (W1) #[.slice f l c, .bool on, .int .i64 tf, .int .i64 tg, .slice none 0 0] 59 (W1.heap.size) (by first | omega | (simp; done) | (simp; omega))))
    have B2 := Lib.hid ((bel_alloc B1.out (.cells #[.slice f l c, .bool on, .int .i64 tf, .int .i64 tg, .slice none 0 0] 59)))
    obtain ⟨g2, hg2⟩ : ∃ g2, g2 = W1.heap.size := ⟨_, rfl⟩
    obtain ⟨W2, hW2⟩ : ∃ W2, W2 = (W1).alloc (.cells #[.slice f l c, .bool on, .int .i64 tf, .int .i64 tg, .slice none 0 0] 59) := ⟨_, rfl⟩
    have hs2 : g2 + 1 ≤ W2.heap.size := by rw [hW2, hg2]; simp
    rw [← hW2] at M2 U2 H2 F2 T2 B2 ⊢
    have hb2 : g1 + 1 + 1 + 1 + 1 ≤ g2 := by omega
    rw [← hg2] at T2 ⊢
    clear hg2
    clear hW2 M1 U1 H1 F1 B1 hs1
    go_wp2_with fail
    refine (ncarry_any f l c tf mid acc (g2) _ T2.out rfl rfl).mono ?_
    rintro e w3 ⟨rfl, hb3⟩
    have hz3 := hb3.size
    have M3 := Lib.hid (M2.out.below hb3)
    have U3 := Lib.hid (U2.out.below hb3)
    have H3 := Lib.hid (H2.out.below hb3)
    have F3 := Lib.hid (F2.out.below hb3)
    have T3 := Lib.hid (T2.out.below hb3)
    have B3 := Lib.hid (bel_trans B2.out hb3)
    skip
    have hs3 : g2 + 1 ≤ w3.heap.size := by omega
    clear M2 U2 H2 F2 T2 B2 hs2 hb3 hz3
    rw [hA]
    have HR := HRC.out (g2) (g2 + 1) _ B3.out (by first | omega | (simp; done) | (simp; omega)) (by first | omega | (simp; done) | (simp; omega)) (by first | omega | (simp; done) | (simp; omega)) (OwnI.nil _ _) T3.out
    unfold FlEndF hitV fltV at HR
    simp only [List.length_nil, Nat.zero_add, List.nil_append] at HR
    have HR := Lib.hid HR
    have ONIL := Lib.hid (OwnI.nil w3 (g2 + 1))
    go_wp2_with fail
    refine (HR.out).mono ?_
    rintro e w4 ⟨f4, c4, rfl, qT4, qO4, qW4⟩
    have hz4 := qW4.size
    have M4 := Lib.hid ((qW4.box M3.out (by decide) (show g1 ≠ g2 by omega)))
    have U4 := Lib.hid ((qW4.box U3.out (by decide) (show g1 + 1 ≠ g2 by omega)))
    have H4 := Lib.hid ((qW4.box H3.out (by decide) (show g1 + 1 + 1 ≠ g2 by omega)))
    have F4 := Lib.hid ((qW4.box F3.out (by decide) (show g1 + 1 + 1 + 1 ≠ g2 by omega)))
    have T4 := Lib.hid (show BoxAt w4 (g2) #[.slice f l c, .bool on, .int .i64 tf, .int .i64 tg, .slice f4 Q.length c4] 59 from qT4)
    have O4 := Lib.hid (show OwnI w4 (g2 + 1) (.slice f4 Q.length c4) (Q) from qO4)
    have B4 := Lib.hid ((qW4.under B3.out (by first | omega | (simp; done) | (simp; omega)) (show w.heap.size ≤ g2 by omega) (show w.heap.size ≤ g2 + 1 by omega)))
    skip
    have hs4 : g2 + 1 ≤ w4.heap.size := by omega
    clear M3 U3 H3 F3 T3 ONIL B3 hs3 qT4 qO4 qW4 HR hz4
    go_upto_region 5 with (first | (refine wpList_storeB rfl 36 _ _ rfl (g1 + 1 + 1) #[.int .i64 hf, .int .i64 hm, .bool hr, .bool hw, .bool hx, .bool ha, .bool hn, .int .i64 hs, .int .i64 hl] _ 36 rfl rfl (by kernel_rfl) (by rfl) (by simp [Value.oneCell']) H4.out ?_) | (refine wpList_storeB rfl 38 _ _ rfl (g1 + 1 + 1 + 1) #[.int .i64 fk, .int .i64 fs, .int .i64 fl, .bool fw, .int .i64 fp] _ 38 rfl rfl (by kernel_rfl) (by rfl) (by simp [Value.oneCell']) (F4.out.row (cs' := #[.int .i64 hf, .int .i64 hm, .bool hr, .bool hw, .bool hx, .bool ha, .bool hn, .int .i64 hs, .int .i64 hl]) (show g1 + 1 + 1 + 1 ≠ g1 + 1 + 1 by omega)) ?_))
    have M5 := Lib.hid (((M4.out.row (cs' := #[.int .i64 hf, .int .i64 hm, .bool hr, .bool hw, .bool hx, .bool ha, .bool hn, .int .i64 hs, .int .i64 hl]) (show g1 ≠ g1 + 1 + 1 by omega)).row (cs' := #[.int .i64 fk, .int .i64 fs, .int .i64 fl, .bool fw, .int .i64 fp]) (show g1 ≠ g1 + 1 + 1 + 1 by omega)))
    have U5 := Lib.hid (((U4.out.row (cs' := #[.int .i64 hf, .int .i64 hm, .bool hr, .bool hw, .bool hx, .bool ha, .bool hn, .int .i64 hs, .int .i64 hl]) (show g1 + 1 ≠ g1 + 1 + 1 by omega)).row (cs' := #[.int .i64 fk, .int .i64 fs, .int .i64 fl, .bool fw, .int .i64 fp]) (show g1 + 1 ≠ g1 + 1 + 1 + 1 by omega)))
    have H5 := Lib.hid (((H4.out.put (cs' := #[.int .i64 hf, .int .i64 hm, .bool hr, .bool hw, .bool hx, .bool ha, .bool hn, .int .i64 hs, .int .i64 hl])).row (cs' := #[.int .i64 fk, .int .i64 fs, .int .i64 fl, .bool fw, .int .i64 fp]) (show g1 + 1 + 1 ≠ g1 + 1 + 1 + 1 by omega)))
    have F5 := Lib.hid (((F4.out.row (cs' := #[.int .i64 hf, .int .i64 hm, .bool hr, .bool hw, .bool hx, .bool ha, .bool hn, .int .i64 hs, .int .i64 hl]) (show g1 + 1 + 1 + 1 ≠ g1 + 1 + 1 by omega)).put (cs' := #[.int .i64 fk, .int .i64 fs, .int .i64 fl, .bool fw, .int .i64 fp])))
    have T5 := Lib.hid (((T4.out.row (cs' := #[.int .i64 hf, .int .i64 hm, .bool hr, .bool hw, .bool hx, .bool ha, .bool hn, .int .i64 hs, .int .i64 hl]) (show g2 ≠ g1 + 1 + 1 by omega)).row (cs' := #[.int .i64 fk, .int .i64 fs, .int .i64 fl, .bool fw, .int .i64 fp]) (show g2 ≠ g1 + 1 + 1 + 1 by omega)))
    have O5 := Lib.hid (((O4.out.rowN (cs := #[.int .i64 hf, .int .i64 hm, .bool hr, .bool hw, .bool hx, .bool ha, .bool hn, .int .i64 hs, .int .i64 hl]) (O4.out.ne_box H4.out (by decide))).rowN (cs := #[.int .i64 fk, .int .i64 fs, .int .i64 fl, .bool fw, .int .i64 fp]) (O4.out.ne_box F4.out (by decide))))
    have B5 := Lib.hid ((Below.rowB (g := g1 + 1 + 1 + 1) (Below.rowB (g := g1 + 1 + 1) B4.out (cs := #[.int .i64 hf, .int .i64 hm, .bool hr, .bool hw, .bool hx, .bool ha, .bool hn, .int .i64 hs, .int .i64 hl]) (show w.heap.size ≤ g1 + 1 + 1 by omega)) (cs := #[.int .i64 fk, .int .i64 fs, .int .i64 fl, .bool fw, .int .i64 fp]) (show w.heap.size ≤ g1 + 1 + 1 + 1 by omega)))
    obtain ⟨W5, hW5⟩ : ∃ W5, W5 = ((w4).setRow (g1 + 1 + 1) #[.int .i64 hf, .int .i64 hm, .bool hr, .bool hw, .bool hx, .bool ha, .bool hn, .int .i64 hs, .int .i64 hl]).setRow (g1 + 1 + 1 + 1) #[.int .i64 fk, .int .i64 fs, .int .i64 fl, .bool fw, .int .i64 fp] := ⟨_, rfl⟩
    have hs5 : g2 + 1 ≤ W5.heap.size := by rw [hW5]; first | exact hs4 | (simp; omega)
    rw [← hW5] at M5 U5 H5 F5 T5 O5 B5 ⊢
    clear hW5 M4 U4 H4 F4 T4 O4 B4 hs4
    refine wp_region_held_drew (S := (fun w' => BoxAt w' (g1 + 1 + 1) #[.int .i64 hf, .int .i64 hm, .bool hr, .bool hw, .bool hx, .bool ha, .bool hn, .int .i64 hs, .int .i64 hl] 36 ∧ BoxAt w' (g1 + 1 + 1 + 1) #[.int .i64 fk, .int .i64 fs, .int .i64 fl, .bool fw, .int .i64 fp] 38 ∧ BoxAt w' (g2) #[.slice f l c, .bool on, .int .i64 tf, .int .i64 tg, .slice f4 Q.length c4] 59)) (by kernel_rfl) ⟨H5.out.drew, F5.out.drew, T5.out.drew⟩ (fun hS => ?_)
    refine tkR 0 28 (v := .agg #[.int .i64 hf, .int .i64 hm, .bool hr, .bool hw, .bool hx, .bool ha, .bool hn, .int .i64 hs, .int .i64 hl]) rfl hS (fun _ h => run_ldN 36 (.tmp 8) (g1 + 1 + 1) 0 (by kernel_rfl) (by kernel_rfl) Tryz.underlying36 rfl (by kernel_rfl) ((h.1).sub 0 _ rfl)) ?_
    refine tkR 1 29 (v := .agg #[.int .i64 fk, .int .i64 fs, .int .i64 fl, .bool fw, .int .i64 fp]) rfl hS (fun _ h => run_ldN 38 (.tmp 9) (g1 + 1 + 1 + 1) 0 (by kernel_rfl) (by kernel_rfl) Tryz.underlying38 rfl (by kernel_rfl) ((h.2.1).sub 0 _ rfl)) ?_
    refine tkR 2 30 (v := .pointer (some ⟨g2, 4, none⟩)) rfl hS (fun _ _ => by kernel_rfl) ?_
    refine tkR 3 31 (v := .slice f4 Q.length c4) rfl hS (fun _ h => run_ld1 25 (.tmp 30) g2 4 (by kernel_rfl) (by kernel_rfl) Tryz.underlying25 rfl ((h.2.2).get 4 (.slice f4 Q.length c4) rfl)) ?_
    try simp only [Act.put, List.setIfInBounds_toArray, List.set_cons_zero, List.set_cons_succ]
    refine wpAnyH_ready (rs := [4]) (by kernel_rfl) (by simp) ?_
    refine AllReadyH.cons (o := ⟨none, _, _, _, _, _⟩) rfl (fun K hK => ?_) AllReadyH.nil
    refine step_storeB rfl 36 _ _ rfl _ _ _ 36 rfl rfl (by kernel_rfl) (by rfl) (by simp [Value.oneCell']) (H5.out.drew) ?_
    refine hK.out _ _ ?_ (fun hS' => ?_)
    · exact ⟨hS.1.put, hS.2.1.row (show g1 + 1 + 1 + 1 ≠ g1 + 1 + 1 by omega), hS.2.2.row (show g2 ≠ g1 + 1 + 1 by omega)⟩
    clear hK K hS
    have hS := hS'
    clear hS'
    try simp only [Act.put]
    try simp only [Act.put, List.setIfInBounds_toArray, List.set_cons_zero, List.set_cons_succ]
    refine wpAnyH_ready (rs := [5]) (by kernel_rfl) (by simp) ?_
    refine AllReadyH.cons (o := ⟨none, _, _, _, _, _⟩) rfl (fun K hK => ?_) AllReadyH.nil
    refine step_storeB rfl 38 _ _ rfl _ _ _ 38 rfl rfl (by kernel_rfl) (by rfl) (by simp [Value.oneCell']) ((F5.out.drew).row (cs' := #[.int .i64 hf, .int .i64 hm, .bool hr, .bool hw, .bool hx, .bool ha, .bool hn, .int .i64 hs, .int .i64 hl]) (show g1 + 1 + 1 + 1 ≠ g1 + 1 + 1 by omega)) ?_
    refine hK.out _ _ ?_ (fun hS' => ?_)
    · exact ⟨hS.1.row (show g1 + 1 + 1 ≠ g1 + 1 + 1 + 1 by omega), hS.2.1.put, hS.2.2.row (show g2 ≠ g1 + 1 + 1 + 1 by omega)⟩
    clear hK K hS
    have hS := hS'
    clear hS'
    try simp only [Act.put]
    refine tkR 6 10 (v := .slice f4 Q.length c4) rfl hS (fun _ _ => by kernel_rfl) ?_
    refine tkR 7 11 (v := .int .i64 0) rfl hS (fun _ _ => by kernel_rfl) ?_
    refine wpAnyH_done (by kernel_rfl) ?_ _
    try simp only [Act.put, List.setIfInBounds_toArray, List.set_cons_zero, List.set_cons_succ]
    have M6 := Lib.hid ((((M5.out.drew).row (cs' := #[.int .i64 hf, .int .i64 hm, .bool hr, .bool hw, .bool hx, .bool ha, .bool hn, .int .i64 hs, .int .i64 hl]) (show g1 ≠ g1 + 1 + 1 by omega)).row (cs' := #[.int .i64 fk, .int .i64 fs, .int .i64 fl, .bool fw, .int .i64 fp]) (show g1 ≠ g1 + 1 + 1 + 1 by omega)))
    have U6 := Lib.hid ((((U5.out.drew).row (cs' := #[.int .i64 hf, .int .i64 hm, .bool hr, .bool hw, .bool hx, .bool ha, .bool hn, .int .i64 hs, .int .i64 hl]) (show g1 + 1 ≠ g1 + 1 + 1 by omega)).row (cs' := #[.int .i64 fk, .int .i64 fs, .int .i64 fl, .bool fw, .int .i64 fp]) (show g1 + 1 ≠ g1 + 1 + 1 + 1 by omega)))
    have H6 := Lib.hid ((((H5.out.drew).put (cs' := #[.int .i64 hf, .int .i64 hm, .bool hr, .bool hw, .bool hx, .bool ha, .bool hn, .int .i64 hs, .int .i64 hl])).row (cs' := #[.int .i64 fk, .int .i64 fs, .int .i64 fl, .bool fw, .int .i64 fp]) (show g1 + 1 + 1 ≠ g1 + 1 + 1 + 1 by omega)))
    have F6 := Lib.hid ((((F5.out.drew).row (cs' := #[.int .i64 hf, .int .i64 hm, .bool hr, .bool hw, .bool hx, .bool ha, .bool hn, .int .i64 hs, .int .i64 hl]) (show g1 + 1 + 1 + 1 ≠ g1 + 1 + 1 by omega)).put (cs' := #[.int .i64 fk, .int .i64 fs, .int .i64 fl, .bool fw, .int .i64 fp])))
    have T6 := Lib.hid ((((T5.out.drew).row (cs' := #[.int .i64 hf, .int .i64 hm, .bool hr, .bool hw, .bool hx, .bool ha, .bool hn, .int .i64 hs, .int .i64 hl]) (show g2 ≠ g1 + 1 + 1 by omega)).row (cs' := #[.int .i64 fk, .int .i64 fs, .int .i64 fl, .bool fw, .int .i64 fp]) (show g2 ≠ g1 + 1 + 1 + 1 by omega)))
    have O6 := Lib.hid ((((O5.out.drew).rowN (cs := #[.int .i64 hf, .int .i64 hm, .bool hr, .bool hw, .bool hx, .bool ha, .bool hn, .int .i64 hs, .int .i64 hl]) (O5.out.ne_box H5.out (by decide))).rowN (cs := #[.int .i64 fk, .int .i64 fs, .int .i64 fl, .bool fw, .int .i64 fp]) (O5.out.ne_box F5.out (by decide))))
    have B6 := Lib.hid ((Below.rowB (g := g1 + 1 + 1 + 1) (Below.rowB (g := g1 + 1 + 1) (Below.drew B5.out) (cs := #[.int .i64 hf, .int .i64 hm, .bool hr, .bool hw, .bool hx, .bool ha, .bool hn, .int .i64 hs, .int .i64 hl]) (show w.heap.size ≤ g1 + 1 + 1 by omega)) (cs := #[.int .i64 fk, .int .i64 fs, .int .i64 fl, .bool fw, .int .i64 fp]) (show w.heap.size ≤ g1 + 1 + 1 + 1 by omega)))
    obtain ⟨W6, hW6⟩ : ∃ W6, W6 = (((W5).drew).setRow (g1 + 1 + 1) #[.int .i64 hf, .int .i64 hm, .bool hr, .bool hw, .bool hx, .bool ha, .bool hn, .int .i64 hs, .int .i64 hl]).setRow (g1 + 1 + 1 + 1) #[.int .i64 fk, .int .i64 fs, .int .i64 fl, .bool fw, .int .i64 fp] := ⟨_, rfl⟩
    have hs6 : g2 + 1 ≤ W6.heap.size := by rw [hW6]; first | exact hs5 | (simp; omega)
    rw [← hW6] at M6 U6 H6 F6 T6 O6 B6 ⊢
    clear hW6 M5 U5 H5 F5 T5 O5 B5 hs5
    go_wp2
    have RH := H6.out
    have RF := F6.out
    refine bodyPost_ret (v := .tuple #[.agg #[.int .i64 hf, .int .i64 hm, .bool hr, .bool hw, .bool hx, .bool ha, .bool hn, .int .i64 hs, .int .i64 hl], .agg #[.int .i64 fk, .int .i64 fs, .int .i64 fl, .bool fw, .int .i64 fp], .slice f4 Q.length c4, .int .i64 0]) (by simp [results, Tryz.results10, go_sem, RH.get 0 (.int .i64 hf) rfl, RH.get 1 (.int .i64 hm) rfl, RH.get 2 (.bool hr) rfl, RH.get 3 (.bool hw) rfl, RH.get 4 (.bool hx) rfl, RH.get 5 (.bool ha) rfl, RH.get 6 (.bool hn) rfl, RH.get 7 (.int .i64 hs) rfl, RH.get 8 (.int .i64 hl) rfl, RF.get 0 (.int .i64 fk) rfl, RF.get 1 (.int .i64 fs) rfl, RF.get 2 (.int .i64 fl) rfl, RF.get 3 (.bool fw) rfl, RF.get 4 (.int .i64 fp) rfl]) rfl ?_
    exact ⟨f4, c4, rfl, OwnI.mono O6.out (show w.heap.size ≤ g2 + 1 by omega), B6.out⟩
end Go.Proofs.YtpelolokdmfbdaaGreat
