/- Package root's Of and its reference's: contracts. -/
import Derived.Test.YtlflfpohglgopaaRd
set_option linter.all false
namespace Go.Proofs.Ytlflfpohglgopaa
open Go.ChangeShapes Go.WideShapes Go.ChangeAt Go.RowKit Go.Deep

def foundV (o : Bool) (f t : Int) (v : BitVec 64) : Array Value := #[.bool o, .int .i64 f, .int .i64 t, .int .u64 (u v)]
set_option maxHeartbeats 1600000 in
theorem readR_any (v : BitVec 64) (w : World) :
    Calls Try.prog 44 #[.int .u64 (u v)] w fun e w' => e = .returned (.agg #[.bool (readT v).o, .int .i64 (readT v).f, .int .i64 (readT v).t, .int .u64 (u v)]) ∧ Below w.heap.size w w' := by
  have H0 := Lib.hid (fun o f t W => fbitsR_any o f t v 0 1 W (by decide) (by decide))
  have H1 := Lib.hid (fun o f t W => fbitsR_any o f t v 12 12 W (by decide) (by decide))
  have H2 := Lib.hid (fun o f t W => fbitsR_any o f t v 48 4 W (by decide) (by decide))
  have he : readT v = ⟨getN v 0 1 == 1, getN v 12 12, getN v 48 4⟩ := by unfold readT flagW; rw [beq_int]
  rw [he]
  clear he
  simp only
  generalize getN v 0 1 = b0 at *
  generalize getN v 12 12 = f0 at *
  generalize getN v 48 4 = t0 at *
  obtain ⟨W0, hW0⟩ : ∃ W0, W0 = w.alloc (.cells #[.bool false, .int .i64 0, .int .i64 0, .int .u64 0] 92) := ⟨_, rfl⟩
  have HB0 := bel_alloc (Below.refl w.heap.size w) (.cells #[.bool false, .int .i64 0, .int .i64 0, .int .u64 0] 92)
  have A0 := Lib.hid ((BoxAt.new w #[.bool false, .int .i64 0, .int .i64 0, .int .u64 0] 92).alloc (.cells #[.bool false, .int .i64 0, .int .i64 0, .int .u64 (u v)] 92))
  have hsz : W0.heap.size = w.heap.size + 1 := by rw [hW0]; simp
  have R0 := Lib.hid (BoxAt.new W0 #[.bool false, .int .i64 0, .int .i64 0, .int .u64 (u v)] 92)
  rw [hsz, hW0] at R0
  rw [← hW0] at HB0
  have B0 := Lib.hid (bel_alloc HB0 (.cells #[.bool false, .int .i64 0, .int .i64 0, .int .u64 (u v)] 92))
  rw [hW0] at B0
  clear hsz hW0 W0 HB0
  go_enter Try.func44, Try.ntmps44
  go_wp2_with fail
  refine (H0.out _ _ _ _).mono ?_
  rintro e w1 ⟨rfl, hb1⟩
  have A1 := Lib.hid (A0.out.below hb1)
  have R1 := R0.out.below hb1
  have B1 := Lib.hid (bel_trans B0.out hb1)
  clear A0 R0 B0 hb1
  have r0 := R1.get 0 (.bool false) rfl
  have r1 := R1.get 1 (.int .i64 0) rfl
  have r2 := R1.get 2 (.int .i64 0) rfl
  have r3 := R1.get 3 (.int .u64 (u v)) rfl
  have z0 := R1.free 0
  have R2 := Lib.hid (R1.set 0 (.bool (b0 == 1)) #[.bool (b0 == 1), .int .i64 0, .int .i64 0, .int .u64 (u v)] rfl)
  have A2 := Lib.hid (A1.out.other ⟨w.heap.size + 1, 0, none⟩ (.bool (b0 == 1)) (by simp))
  have B2 := Lib.hid (Below.setCell B1.out (p := ⟨w.heap.size + 1, 0, none⟩) (by simp) (.bool (b0 == 1)))
  clear R1 A1 B1
  go_wp2_with fail
  refine (H1.out _ _ _ _).mono ?_
  rintro e w2 ⟨rfl, hb2⟩
  clear r0 r1 r2 r3 z0
  have A3 := Lib.hid (A2.out.below hb2)
  have R3 := R2.out.below hb2
  have B3 := Lib.hid (bel_trans B2.out hb2)
  clear A2 R2 B2 hb2
  have r0 := R3.get 0 (.bool (b0 == 1)) rfl
  have r1 := R3.get 1 (.int .i64 0) rfl
  have r2 := R3.get 2 (.int .i64 0) rfl
  have r3 := R3.get 3 (.int .u64 (u v)) rfl
  have z1 := R3.free 1
  have R4 := Lib.hid (R3.set 1 (.int .i64 f0) #[.bool (b0 == 1), .int .i64 f0, .int .i64 0, .int .u64 (u v)] rfl)
  have A4 := Lib.hid (A3.out.other ⟨w.heap.size + 1, 1, none⟩ (.int .i64 f0) (by simp))
  have B4 := Lib.hid (Below.setCell B3.out (p := ⟨w.heap.size + 1, 1, none⟩) (by simp) (.int .i64 f0))
  clear R3 A3 B3
  go_wp2_with fail
  refine (H2.out _ _ _ _).mono ?_
  rintro e w3 ⟨rfl, hb3⟩
  clear r0 r1 r2 r3 z1
  have A5 := A4.out.below hb3
  have R5 := R4.out.below hb3
  have B5 := Lib.hid (bel_trans B4.out hb3)
  clear A4 R4 B4 hb3
  have r0 := R5.get 0 (.bool (b0 == 1)) rfl
  have r1 := R5.get 1 (.int .i64 f0) rfl
  have r2 := R5.get 2 (.int .i64 0) rfl
  have r3 := R5.get 3 (.int .u64 (u v)) rfl
  have z2 := R5.free 2
  have a0 := A5.get 0 (.bool false) rfl
  have a1 := A5.get 1 (.int .i64 0) rfl
  have a2 := A5.get 2 (.int .i64 0) rfl
  have a3 := A5.get 3 (.int .u64 0) rfl
  have y0 := A5.free 0
  have y1 := A5.free 1
  have y2 := A5.free 2
  have y3 := A5.free 3
  clear A5 R5
  go_wp2
  refine bodyPost_ret (v := .agg #[.bool (b0 == 1), .int .i64 f0, .int .i64 t0, .int .u64 (u v)]) (by simp [results, Try.results44, go_sem, a0, a1, a2, a3]) rfl ⟨rfl, ?_⟩
  repeat' (first | with_reducible exact B5.out | with_reducible refine Below.setCell ?_ (by first | (simp; done) | (simp; omega)) _)

/-- What a word is told to be. -/
def ofT (v : BitVec 64) : Rt := if isT v then readT v else rz
theorem rOf_no (v : BitVec 64) (w : World) (hi : isT v = false) :
    Calls Try.prog 36 #[.int .u64 (u v)] w fun e w' => e = .returned (.tuple #[.agg #[.bool false, .int .i64 0, .int .i64 0], .int .i64 9]) ∧ Below w.heap.size w w' := by
  have HR := Lib.hid (fun W => readR_any v W)
  have HW := Lib.hid (fun W => wholeR_any (readT v).o (readT v).f (readT v).t v W)
  have hw : decide (wordT ⟨(readT v).o, (readT v).f, (readT v).t⟩ = v) = isT v := rfl
  rw [hw, hi] at HW
  clear hw hi
  generalize readT v = r at *
  obtain ⟨o, f, t⟩ := r
  simp only at HR HW
  have A0 := Lib.hid (BoxAt.new w #[.bool false, .int .i64 0, .int .i64 0] 42)
  have B0 := Lib.hid (bel_alloc (Below.refl w.heap.size w) (.cells #[.bool false, .int .i64 0, .int .i64 0] 42))
  go_enter Try.func36, Try.ntmps36
  go_wp2_with fail
  refine (HR.out _).mono ?_
  rintro e w1 ⟨rfl, hb1⟩
  have A1 := A0.out.below hb1
  have A2 := Lib.hid (A1.alloc (.cells #[.bool o, .int .i64 f, .int .i64 t, .int .u64 (u v)] 92))
  have B2 := Lib.hid (bel_alloc (bel_trans B0.out hb1) (.cells #[.bool o, .int .i64 f, .int .i64 t, .int .u64 (u v)] 92))
  clear A0 B0 A1 hb1
  go_wp2_with fail
  refine (HW.out _).mono ?_
  rintro e w2 ⟨rfl, hb2⟩
  have A3 := A2.out.below hb2
  have B3 := Lib.hid (bel_trans B2.out hb2)
  clear A2 B2 hb2
  have a0 := A3.get 0 (.bool false) rfl
  have a1 := A3.get 1 (.int .i64 0) rfl
  have a2 := A3.get 2 (.int .i64 0) rfl
  have y0 := A3.free 0
  have y1 := A3.free 1
  have y2 := A3.free 2
  clear A3
  go_wp2
  refine bodyPost_ret (v := .tuple #[.agg #[.bool false, .int .i64 0, .int .i64 0], .int .i64 9]) (by simp [results, Try.results36, go_sem, a0, a1, a2]) rfl ⟨rfl, ?_⟩
  repeat' (first | with_reducible exact B3.out | with_reducible refine Below.setCell ?_ (by first | (simp; done) | (simp; omega)) _)
theorem rOf_yes (v : BitVec 64) (w : World) (hi : isT v = true) :
    Calls Try.prog 36 #[.int .u64 (u v)] w fun e w' => e = .returned (.tuple #[.agg #[.bool (readT v).o, .int .i64 (readT v).f, .int .i64 (readT v).t], .int .i64 0]) ∧ Below w.heap.size w w' := by
  have HR := Lib.hid (fun W => readR_any v W)
  have HW := Lib.hid (fun W => wholeR_any (readT v).o (readT v).f (readT v).t v W)
  have hw : decide (wordT ⟨(readT v).o, (readT v).f, (readT v).t⟩ = v) = isT v := rfl
  rw [hw, hi] at HW
  clear hw hi
  generalize readT v = r at *
  obtain ⟨o, f, t⟩ := r
  simp only at HR HW
  simp only
  have A0 := Lib.hid (BoxAt.new w #[.bool false, .int .i64 0, .int .i64 0] 42)
  have B0 := Lib.hid (bel_alloc (Below.refl w.heap.size w) (.cells #[.bool false, .int .i64 0, .int .i64 0] 42))
  go_enter Try.func36, Try.ntmps36
  go_wp2_with fail
  refine (HR.out _).mono ?_
  rintro e w1 ⟨rfl, hb1⟩
  have A1 := A0.out.below hb1
  have A2 := Lib.hid (A1.alloc (.cells #[.bool o, .int .i64 f, .int .i64 t, .int .u64 (u v)] 92))
  have F2 := Lib.hid (BoxAt.new w1 #[.bool o, .int .i64 f, .int .i64 t, .int .u64 (u v)] 92)
  have B2 := Lib.hid (bel_alloc (bel_trans B0.out hb1) (.cells #[.bool o, .int .i64 f, .int .i64 t, .int .u64 (u v)] 92))
  clear A0 B0 A1 hb1
  go_wp2_with fail
  refine (HW.out _).mono ?_
  rintro e w2 ⟨rfl, hb2⟩
  have A3 := A2.out.below hb2
  have F3 := F2.out.below hb2
  have B3 := Lib.hid (bel_trans B2.out hb2)
  clear A2 F2 B2 hb2
  have a0 := A3.get 0 (.bool false) rfl
  have a1 := A3.get 1 (.int .i64 0) rfl
  have a2 := A3.get 2 (.int .i64 0) rfl
  have y0 := A3.free 0
  have y1 := A3.free 1
  have y2 := A3.free 2
  have f0 := F3.get 0 (.bool o) rfl
  have f1 := F3.get 1 (.int .i64 f) rfl
  have f2 := F3.get 2 (.int .i64 t) rfl
  clear A3 F3
  go_wp2
  refine bodyPost_ret (v := .tuple #[.agg #[.bool o, .int .i64 f, .int .i64 t], .int .i64 0]) (by simp [results, Try.results36, go_sem, a0, a1, a2]) rfl ⟨rfl, ?_⟩
  repeat' (first | with_reducible exact B3.out | with_reducible refine Below.setCell ?_ (by first | (simp; done) | (simp; omega)) _)
theorem rOf_any (v : BitVec 64) (w : World) (b : Bool) (hi : isT v = b) (r : Rt) (hr : ofT v = r) (z : Int) (hz : (if b then 0 else 9) = z) :
    Calls Try.prog 36 #[.int .u64 (u v)] w fun e w' => e = .returned (.tuple #[.agg #[.bool r.o, .int .i64 r.f, .int .i64 r.t], .int .i64 z]) ∧ Below w.heap.size w w' := by
  subst hr hz
  unfold ofT
  rw [hi]
  cases b
  · exact rOf_no v w hi
  · exact rOf_yes v w hi
theorem rrootOf_no (v : BitVec 64) (w : World) (hi : isT v = false) :
    Calls Try.prog 27 #[.int .u64 (u v)] w fun e w' => e = .returned (.tuple #[.agg #[.bool false, .int .i64 0, .int .i64 0], .bool false]) ∧ Below w.heap.size w w' := by
  have HF := Lib.hid (fun W => set_any v 0 W (by decide) (by decide))
  have HG := Lib.hid (fun W => rnumber_any v 12 12 W (by decide) (by decide) (by decide))
  have HK := Lib.hid (fun W => rnumber_any v 48 4 W (by decide) (by decide) (by decide))
  have hb1 := getN_bd v 12 12 (by decide) (by decide)
  have hb2 := getN_bd v 48 4 (by decide) (by decide)
  have HW := Lib.hid (fun W => rrootWord_any (flagW v 0) (getN v 12 12) (getN v 48 4) W)
  have hw : (u (wordT ⟨flagW v 0, getN v 12 12, getN v 48 4⟩) != u v) = !isT v := by rw [u_bne]; unfold isT readT; simp
  rw [hi] at hw
  clear hi
  generalize flagW v 0 = o at *
  generalize getN v 12 12 = f at *
  generalize getN v 48 4 = t at *
  generalize wordT ⟨o, f, t⟩ = q at *
  obtain ⟨hb1, hc1⟩ := hb1
  obtain ⟨hb2, hc2⟩ := hb2
  have A0 := Lib.hid (BoxAt.new w #[.bool false, .int .i64 0, .int .i64 0] 42)
  have B0 := Lib.hid (bel_alloc (Below.refl w.heap.size w) (.cells #[.bool false, .int .i64 0, .int .i64 0] 42))
  go_enter Try.func27, Try.ntmps27
  go_wp2_with fail
  refine (HF.out _).mono ?_
  rintro e w1 ⟨rfl, rfl⟩
  go_wp2_with fail
  refine (HG.out _).mono ?_
  rintro e w2 ⟨rfl, hq2⟩
  go_wp2_with fail
  refine (HK.out _).mono ?_
  rintro e w3 ⟨rfl, hq3⟩
  have A3 := (A0.out.below hq2).below hq3
  have A4 := Lib.hid (A3.alloc (.cells #[.bool o, .int .i64 f, .int .i64 t] 42))
  have B4 := Lib.hid (bel_alloc (bel_trans (bel_trans B0.out hq2) hq3) (.cells #[.bool o, .int .i64 f, .int .i64 t] 42))
  clear A0 B0 A3 hq2 hq3
  go_wp2_with fail
  refine (HW.out _).mono ?_
  rintro e w5 ⟨rfl, hq5⟩
  have A5 := A4.out.below hq5
  have B5 := Lib.hid (bel_trans B4.out hq5)
  clear A4 B4 hq5
  have a0 := A5.get 0 (.bool false) rfl
  have a1 := A5.get 1 (.int .i64 0) rfl
  have a2 := A5.get 2 (.int .i64 0) rfl
  have y0 := A5.free 0
  have y1 := A5.free 1
  have y2 := A5.free 2
  clear A5
  go_wp2
  refine bodyPost_ret (v := .tuple #[.agg #[.bool false, .int .i64 0, .int .i64 0], .bool false]) (by simp [results, Try.results27, go_sem, a0, a1, a2]) rfl ⟨rfl, ?_⟩
  repeat' (first | with_reducible exact B5.out | with_reducible refine Below.setCell ?_ (by first | (simp; done) | (simp; omega)) _)
theorem rrootOf_yes (v : BitVec 64) (w : World) (hi : isT v = true) :
    Calls Try.prog 27 #[.int .u64 (u v)] w fun e w' => e = .returned (.tuple #[.agg #[.bool (readT v).o, .int .i64 (readT v).f, .int .i64 (readT v).t], .bool true]) ∧ Below w.heap.size w w' := by
  have HF := Lib.hid (fun W => set_any v 0 W (by decide) (by decide))
  have HG := Lib.hid (fun W => rnumber_any v 12 12 W (by decide) (by decide) (by decide))
  have HK := Lib.hid (fun W => rnumber_any v 48 4 W (by decide) (by decide) (by decide))
  have hb1 := getN_bd v 12 12 (by decide) (by decide)
  have hb2 := getN_bd v 48 4 (by decide) (by decide)
  have HW := Lib.hid (fun W => rrootWord_any (flagW v 0) (getN v 12 12) (getN v 48 4) W)
  have hw : (u (wordT ⟨flagW v 0, getN v 12 12, getN v 48 4⟩) != u v) = !isT v := by rw [u_bne]; unfold isT readT; simp
  rw [hi] at hw
  clear hi
  have he : readT v = ⟨flagW v 0, getN v 12 12, getN v 48 4⟩ := rfl
  rw [he]
  clear he
  generalize flagW v 0 = o at *
  generalize getN v 12 12 = f at *
  generalize getN v 48 4 = t at *
  generalize wordT ⟨o, f, t⟩ = q at *
  obtain ⟨hb1, hc1⟩ := hb1
  obtain ⟨hb2, hc2⟩ := hb2
  simp only
  have A0 := Lib.hid (BoxAt.new w #[.bool false, .int .i64 0, .int .i64 0] 42)
  have B0 := Lib.hid (bel_alloc (Below.refl w.heap.size w) (.cells #[.bool false, .int .i64 0, .int .i64 0] 42))
  go_enter Try.func27, Try.ntmps27
  go_wp2_with fail
  refine (HF.out _).mono ?_
  rintro e w1 ⟨rfl, rfl⟩
  go_wp2_with fail
  refine (HG.out _).mono ?_
  rintro e w2 ⟨rfl, hq2⟩
  go_wp2_with fail
  refine (HK.out _).mono ?_
  rintro e w3 ⟨rfl, hq3⟩
  have A3 := (A0.out.below hq2).below hq3
  have A4 := Lib.hid (A3.alloc (.cells #[.bool o, .int .i64 f, .int .i64 t] 42))
  have F4 := Lib.hid (BoxAt.new w3 #[.bool o, .int .i64 f, .int .i64 t] 42)
  have B4 := Lib.hid (bel_alloc (bel_trans (bel_trans B0.out hq2) hq3) (.cells #[.bool o, .int .i64 f, .int .i64 t] 42))
  clear A0 B0 A3 hq2 hq3
  go_wp2_with fail
  refine (HW.out _).mono ?_
  rintro e w5 ⟨rfl, hq5⟩
  have A5 := A4.out.below hq5
  have F5 := F4.out.below hq5
  have B5 := Lib.hid (bel_trans B4.out hq5)
  clear A4 B4 F4 hq5
  have a0 := A5.get 0 (.bool false) rfl
  have a1 := A5.get 1 (.int .i64 0) rfl
  have a2 := A5.get 2 (.int .i64 0) rfl
  have y0 := A5.free 0
  have y1 := A5.free 1
  have y2 := A5.free 2
  have f0 := F5.get 0 (.bool o) rfl
  have f1 := F5.get 1 (.int .i64 f) rfl
  have f2 := F5.get 2 (.int .i64 t) rfl
  clear A5 F5
  go_wp2
  refine bodyPost_ret (v := .tuple #[.agg #[.bool o, .int .i64 f, .int .i64 t], .bool true]) (by simp [results, Try.results27, go_sem, a0, a1, a2]) rfl ⟨rfl, ?_⟩
  repeat' (first | with_reducible exact B5.out | with_reducible refine Below.setCell ?_ (by first | (simp; done) | (simp; omega)) _)
theorem rrootOf_any (v : BitVec 64) (w : World) (b : Bool) (hi : isT v = b) (r : Rt) (hr : ofT v = r) :
    Calls Try.prog 27 #[.int .u64 (u v)] w fun e w' => e = .returned (.tuple #[.agg #[.bool r.o, .int .i64 r.f, .int .i64 r.t], .bool b]) ∧ Below w.heap.size w w' := by
  subst hr
  unfold ofT
  rw [hi]
  cases b
  · exact rrootOf_no v w hi
  · exact rrootOf_yes v w hi
end Go.Proofs.Ytlflfpohglgopaa
