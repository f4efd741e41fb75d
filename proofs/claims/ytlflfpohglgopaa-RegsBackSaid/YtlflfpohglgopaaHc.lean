/- The reference's One, Next. -/
import Derived.Test.YtlflfpohglgopaaHb
import Derived.Test.YtlflfpohglgopaaRe
import Derived.Test.YtlflfpohglgopaaTc
import Derived.Test.YtlflfpohglgopaaRow
set_option linter.all false
namespace Go.Proofs.Ytlflfpohglgopaa
open Go.ChangeShapes Go.WideShapes Go.ChangeAt Go.RowKit Go.Deep

def oneR (r : Rg) : Rt := ⟨flagW r.sc 0, (ofT (r.tt &&& ~~~1#64)).f, (ofT (r.tt &&& ~~~1#64)).t⟩
set_option maxRecDepth 100000 in
set_option maxHeartbeats 3200000 in
theorem roneR_any (r : Rg) (w : World) :
    Calls Try.prog 12 #[regV r] w fun e w' => e = .returned (.agg #[.bool (oneR r).o, .int .i64 (oneR r).f, .int .i64 (oneR r).t]) ∧ Below w.heap.size w w' := by
  obtain ⟨x0, x1, x2, x3, x4, x5, x6, x7, pc, tt, sc, vb, el, es, fa⟩ := r
  unfold regV oneR
  simp only
  have hv : bits .andNot .u64 (u tt) 1 = u (tt &&& ~~~1#64) := by rw [show (1 : Int) = u 1#64 from by decide]; exact u_andNot tt 1#64
  obtain ⟨tv, htv⟩ : ∃ tv, tt &&& ~~~1#64 = tv := ⟨_, rfl⟩
  rw [htv] at hv ⊢
  clear htv
  have HG := Lib.hid (fun W => rnumber_any sc 0 1 W (by decide) (by decide) (by decide))
  obtain ⟨g9, hg9⟩ : ∃ g, getN sc 0 1 = g := ⟨_, rfl⟩
  obtain ⟨on, hon⟩ : ∃ b, (g9 == 1) = b := ⟨_, rfl⟩
  have hfl : flagW sc 0 = on := by unfold flagW; rw [hg9, ← hon, show (g9 == 1) = decide (g9 = 1) from by rw [Bool.eq_iff_iff]; simp]
  rw [hg9] at HG
  rw [hfl]
  clear hfl hg9
  cases hi : isT tv
  · have HO := Lib.hid (fun W => rrootOf_any tv W false hi _ rfl)
    have ho : ofT tv = rz := by unfold ofT; rw [hi]; rfl
    rw [ho] at HO ⊢
    unfold rz at HO
    simp only at HO
    clear hi ho
    show Calls _ _ #[.agg #[.int .u64 (u x0), .int .u64 (u x1), .int .u64 (u x2), .int .u64 (u x3), .int .u64 (u x4), .int .u64 (u x5), .int .u64 (u x6), .int .u64 (u x7), .int .u64 (u pc), .int .u64 (u tt), .int .u64 (u sc), .int .u64 (u vb), .int .u64 (u el), .int .u64 (u es), .int .u64 (u fa)]] _ (fun e w' => e = .returned (.agg #[.bool on, .int .i64 0, .int .i64 0]) ∧ Below w.heap.size w w')
    have htw : w.heap.size ≤ w.heap.size := Nat.le_refl _
    have B0 := Lib.hid (Below.refl w.heap.size w)
    go_enter Try.func12, Try.ntmps12
    go_upto_region 1 with fail
    have P1 := Lib.hid (((BoxAt.newAt (w) #[.int .u64 (u x0), .int .u64 (u x1), .int .u64 (u x2), .int .u64 (u x3), .int .u64 (u x4), .int .u64 (u x5), .int .u64 (u x6), .int .u64 (u x7), .int .u64 (u pc), .int .u64 (u tt), .int .u64 (u sc), .int .u64 (u vb), .int .u64 (u el), .int .u64 (u es), .int .u64 (u fa)] 28 (w.heap.size) (by first | omega | (simp; done) | (simp; omega))).alloc (.cells #[.bool false, .int .i64 0, .int .i64 0] 42)))
    have A1 := Lib.hid ((BoxAt.newAt ((w).alloc (.cells #[.int .u64 (u x0), .int .u64 (u x1), .int .u64 (u x2), .int .u64 (u x3), .int .u64 (u x4), .int .u64 (u x5), .int .u64 (u x6), .int .u64 (u x7), .int .u64 (u pc), .int .u64 (u tt), .int .u64 (u sc), .int .u64 (u vb), .int .u64 (u el), .int .u64 (u es), .int .u64 (u fa)] 28)) #[.bool false, .int .i64 0, .int .i64 0] 42 (w.heap.size + 1) (by first | omega | (simp; done) | (simp; omega))))
    have B1 := Lib.hid ((bel_alloc (bel_alloc B0.out (.cells #[.int .u64 (u x0), .int .u64 (u x1), .int .u64 (u x2), .int .u64 (u x3), .int .u64 (u x4), .int .u64 (u x5), .int .u64 (u x6), .int .u64 (u x7), .int .u64 (u pc), .int .u64 (u tt), .int .u64 (u sc), .int .u64 (u vb), .int .u64 (u el), .int .u64 (u es), .int .u64 (u fa)] 28)) (.cells #[.bool false, .int .i64 0, .int .i64 0] 42)))
    obtain ⟨g1, hg1⟩ : ∃ g1, g1 = w.heap.size := ⟨_, rfl⟩
    obtain ⟨W1, hW1⟩ : ∃ W1, W1 = ((w).alloc (.cells #[.int .u64 (u x0), .int .u64 (u x1), .int .u64 (u x2), .int .u64 (u x3), .int .u64 (u x4), .int .u64 (u x5), .int .u64 (u x6), .int .u64 (u x7), .int .u64 (u pc), .int .u64 (u tt), .int .u64 (u sc), .int .u64 (u vb), .int .u64 (u el), .int .u64 (u es), .int .u64 (u fa)] 28)).alloc (.cells #[.bool false, .int .i64 0, .int .i64 0] 42) := ⟨_, rfl⟩
    have hs1 : g1 + 1 + 1 ≤ W1.heap.size := by rw [hW1, hg1]; simp
    rw [← hW1] at P1 A1 B1 ⊢
    have hb1 : w.heap.size ≤ g1 := by omega
    rw [← hg1] at P1 A1 ⊢
    clear hg1
    clear hW1 B0
    have Pc9 := P1.out.get 9 (.int .u64 (u tt)) rfl
    go_wp2_with fail
    refine (HO.out _).mono ?_
    rintro e w2 ⟨rfl, hb2⟩
    have hz2 := hb2.size
    have P2 := Lib.hid (P1.out.below hb2)
    have A2 := Lib.hid (A1.out.below hb2)
    have B2 := Lib.hid ((bel_trans B1.out hb2))
    skip
    have hs2 : g1 + 1 + 1 ≤ w2.heap.size := by omega
    clear Pc9
    clear P1 A1 B1 hs1 hb2 hz2
    go_upto_region 2 with fail
    have P3 := Lib.hid ((P2.out.alloc (.cells #[.bool false, .int .i64 0, .int .i64 0] 42)))
    have A3 := Lib.hid ((A2.out.alloc (.cells #[.bool false, .int .i64 0, .int .i64 0] 42)))
    have X3 := Lib.hid ((BoxAt.newAt (w2) #[.bool false, .int .i64 0, .int .i64 0] 42 (w2.heap.size) (by first | omega | (simp; done) | (simp; omega))))
    have B3 := Lib.hid ((bel_alloc B2.out (.cells #[.bool false, .int .i64 0, .int .i64 0] 42)))
    obtain ⟨g3, hg3⟩ : ∃ g3, g3 = w2.heap.size := ⟨_, rfl⟩
    obtain ⟨W3, hW3⟩ : ∃ W3, W3 = (w2).alloc (.cells #[.bool false, .int .i64 0, .int .i64 0] 42) := ⟨_, rfl⟩
    have hs3 : g3 + 1 ≤ W3.heap.size := by rw [hW3, hg3]; simp
    rw [← hW3] at P3 A3 X3 B3 ⊢
    have hb3 : g1 + 1 + 1 ≤ g3 := by omega
    rw [← hg3] at X3 ⊢
    clear hg3
    clear hW3 P2 A2 B2 hs2
    go_upto_region 4 with (refine wpList_storeB rfl 42 _ _ rfl (g3) #[.bool false, .int .i64 0, .int .i64 0] _ 42 rfl rfl (by kernel_rfl) (by rfl) (by simp [Value.oneCell']) X3.out ?_)
    have P4 := Lib.hid ((P3.out.row (cs' := #[.bool false, .int .i64 0, .int .i64 0]) (show g1 ≠ g3 by omega)))
    have A4 := Lib.hid ((A3.out.row (cs' := #[.bool false, .int .i64 0, .int .i64 0]) (show g1 + 1 ≠ g3 by omega)))
    have X4 := Lib.hid ((X3.out.put (cs' := #[.bool false, .int .i64 0, .int .i64 0])))
    have B4 := Lib.hid ((Below.rowB (g := g3) B3.out (cs := #[.bool false, .int .i64 0, .int .i64 0]) (show w.heap.size ≤ g3 by omega)))
    obtain ⟨W4, hW4⟩ : ∃ W4, W4 = (W3).setRow (g3) #[.bool false, .int .i64 0, .int .i64 0] := ⟨_, rfl⟩
    have hs4 : g3 + 1 ≤ W4.heap.size := by rw [hW4]; first | exact hs3 | omega | (simp; omega)
    rw [← hW4] at P4 A4 X4 B4 ⊢
    clear hW4 P3 A3 X3 B3 hs3
    have Pc10 := P4.out.get 10 (.int .u64 (u sc)) rfl
    go_wp2_with fail
    refine (HG.out _).mono ?_
    rintro e w5 ⟨rfl, hb5⟩
    have hz5 := hb5.size
    have P5 := Lib.hid (P4.out.below hb5)
    have A5 := Lib.hid (A4.out.below hb5)
    have X5 := Lib.hid (X4.out.below hb5)
    have B5 := Lib.hid ((bel_trans B4.out hb5))
    skip
    have hs5 : g3 + 1 ≤ w5.heap.size := by omega
    clear Pc10
    clear P4 A4 X4 B4 hs4 hb5 hz5
    have Xc0 := X5.out.get 0 (.bool false) rfl
    have Xz0 := X5.out.free 0
    go_upto_region 5 with fail
    clear Xc0 Xz0
    have P6 := Lib.hid ((P5.out.other ⟨g3, 0, none⟩ (.bool on) (show g1 ≠ g3 by omega)))
    have A6 := Lib.hid ((A5.out.other ⟨g3, 0, none⟩ (.bool on) (show g1 + 1 ≠ g3 by omega)))
    have X6 := Lib.hid ((X5.out.set 0 (.bool on) #[.bool on, .int .i64 0, .int .i64 0] rfl))
    have B6 := Lib.hid ((Below.setCell B5.out (p := ⟨g3, 0, none⟩) (show w.heap.size ≤ g3 by omega) (.bool on)))
    obtain ⟨W6, hW6⟩ : ∃ W6, W6 = (w5).setCell ⟨g3, 0, none⟩ (.bool on) := ⟨_, rfl⟩
    have hs6 : g3 + 1 ≤ W6.heap.size := by rw [hW6]; first | (simp [World.setCell]; omega) | (simp [World.setCell, World.setRow]; omega) | exact hs5
    rw [← hW6] at P6 A6 X6 B6 ⊢
    clear hW6 P5 A5 X5 B5 hs5
    have Xc0 := X6.out.get 0 (.bool on) rfl
    have Xc1 := X6.out.get 1 (.int .i64 0) rfl
    have Xc2 := X6.out.get 2 (.int .i64 0) rfl
    go_wp2_with (refine wpList_storeB rfl 42 _ _ rfl (g1 + 1) #[.bool on, .int .i64 0, .int .i64 0] _ 42 rfl rfl (by kernel_rfl) (by rfl) (by simp [Value.oneCell']) A6.out ?_)
    have RA := (A6.out.put (cs' := #[.bool on, .int .i64 0, .int .i64 0]))
    refine bodyPost_ret (v := .agg #[.bool on, .int .i64 0, .int .i64 0]) (by simp [results, Try.results12, go_sem, RA.get 0 (.bool on) rfl, RA.get 1 (.int .i64 0) rfl, RA.get 2 (.int .i64 0) rfl]) rfl ?_
    exact ⟨rfl, (Below.rowB (g := g1 + 1) B6.out (cs := #[.bool on, .int .i64 0, .int .i64 0]) (show w.heap.size ≤ g1 + 1 by omega))⟩
  · have HO := Lib.hid (fun W => rrootOf_any tv W true hi _ rfl)
    generalize ofT tv = q at *
    obtain ⟨o9, f9, t9⟩ := q
    simp only at HO
    clear hi
    show Calls _ _ #[.agg #[.int .u64 (u x0), .int .u64 (u x1), .int .u64 (u x2), .int .u64 (u x3), .int .u64 (u x4), .int .u64 (u x5), .int .u64 (u x6), .int .u64 (u x7), .int .u64 (u pc), .int .u64 (u tt), .int .u64 (u sc), .int .u64 (u vb), .int .u64 (u el), .int .u64 (u es), .int .u64 (u fa)]] _ (fun e w' => e = .returned (.agg #[.bool on, .int .i64 f9, .int .i64 t9]) ∧ Below w.heap.size w w')
    have htw : w.heap.size ≤ w.heap.size := Nat.le_refl _
    have B0 := Lib.hid (Below.refl w.heap.size w)
    go_enter Try.func12, Try.ntmps12
    go_upto_region 1 with fail
    have P1 := Lib.hid (((BoxAt.newAt (w) #[.int .u64 (u x0), .int .u64 (u x1), .int .u64 (u x2), .int .u64 (u x3), .int .u64 (u x4), .int .u64 (u x5), .int .u64 (u x6), .int .u64 (u x7), .int .u64 (u pc), .int .u64 (u tt), .int .u64 (u sc), .int .u64 (u vb), .int .u64 (u el), .int .u64 (u es), .int .u64 (u fa)] 28 (w.heap.size) (by first | omega | (simp; done) | (simp; omega))).alloc (.cells #[.bool false, .int .i64 0, .int .i64 0] 42)))
    have A1 := Lib.hid ((BoxAt.newAt ((w).alloc (.cells #[.int .u64 (u x0), .int .u64 (u x1), .int .u64 (u x2), .int .u64 (u x3), .int .u64 (u x4), .int .u64 (u x5), .int .u64 (u x6), .int .u64 (u x7), .int .u64 (u pc), .int .u64 (u tt), .int .u64 (u sc), .int .u64 (u vb), .int .u64 (u el), .int .u64 (u es), .int .u64 (u fa)] 28)) #[.bool false, .int .i64 0, .int .i64 0] 42 (w.heap.size + 1) (by first | omega | (simp; done) | (simp; omega))))
    have B1 := Lib.hid ((bel_alloc (bel_alloc B0.out (.cells #[.int .u64 (u x0), .int .u64 (u x1), .int .u64 (u x2), .int .u64 (u x3), .int .u64 (u x4), .int .u64 (u x5), .int .u64 (u x6), .int .u64 (u x7), .int .u64 (u pc), .int .u64 (u tt), .int .u64 (u sc), .int .u64 (u vb), .int .u64 (u el), .int .u64 (u es), .int .u64 (u fa)] 28)) (.cells #[.bool false, .int .i64 0, .int .i64 0] 42)))
    obtain ⟨g1, hg1⟩ : ∃ g1, g1 = w.heap.size := ⟨_, rfl⟩
    obtain ⟨W1, hW1⟩ : ∃ W1, W1 = ((w).alloc (.cells #[.int .u64 (u x0), .int .u64 (u x1), .int .u64 (u x2), .int .u64 (u x3), .int .u64 (u x4), .int .u64 (u x5), .int .u64 (u x6), .int .u64 (u x7), .int .u64 (u pc), .int .u64 (u tt), .int .u64 (u sc), .int .u64 (u vb), .int .u64 (u el), .int .u64 (u es), .int .u64 (u fa)] 28)).alloc (.cells #[.bool false, .int .i64 0, .int .i64 0] 42) := ⟨_, rfl⟩
    have hs1 : g1 + 1 + 1 ≤ W1.heap.size := by rw [hW1, hg1]; simp
    rw [← hW1] at P1 A1 B1 ⊢
    have hb1 : w.heap.size ≤ g1 := by omega
    rw [← hg1] at P1 A1 ⊢
    clear hg1
    clear hW1 B0
    have Pc9 := P1.out.get 9 (.int .u64 (u tt)) rfl
    go_wp2_with fail
    refine (HO.out _).mono ?_
    rintro e w2 ⟨rfl, hb2⟩
    have hz2 := hb2.size
    have P2 := Lib.hid (P1.out.below hb2)
    have A2 := Lib.hid (A1.out.below hb2)
    have B2 := Lib.hid ((bel_trans B1.out hb2))
    skip
    have hs2 : g1 + 1 + 1 ≤ w2.heap.size := by omega
    clear Pc9
    clear P1 A1 B1 hs1 hb2 hz2
    go_upto_region 2 with fail
    have P3 := Lib.hid ((P2.out.alloc (.cells #[.bool o9, .int .i64 f9, .int .i64 t9] 42)))
    have A3 := Lib.hid ((A2.out.alloc (.cells #[.bool o9, .int .i64 f9, .int .i64 t9] 42)))
    have X3 := Lib.hid ((BoxAt.newAt (w2) #[.bool o9, .int .i64 f9, .int .i64 t9] 42 (w2.heap.size) (by first | omega | (simp; done) | (simp; omega))))
    have B3 := Lib.hid ((bel_alloc B2.out (.cells #[.bool o9, .int .i64 f9, .int .i64 t9] 42)))
    obtain ⟨g3, hg3⟩ : ∃ g3, g3 = w2.heap.size := ⟨_, rfl⟩
    obtain ⟨W3, hW3⟩ : ∃ W3, W3 = (w2).alloc (.cells #[.bool o9, .int .i64 f9, .int .i64 t9] 42) := ⟨_, rfl⟩
    have hs3 : g3 + 1 ≤ W3.heap.size := by rw [hW3, hg3]; simp
    rw [← hW3] at P3 A3 X3 B3 ⊢
    have hb3 : g1 + 1 + 1 ≤ g3 := by omega
    rw [← hg3] at X3 ⊢
    clear hg3
    clear hW3 P2 A2 B2 hs2
    have Pc10 := P3.out.get 10 (.int .u64 (u sc)) rfl
    go_wp2_with fail
    refine (HG.out _).mono ?_
    rintro e w4 ⟨rfl, hb4⟩
    have hz4 := hb4.size
    have P4 := Lib.hid (P3.out.below hb4)
    have A4 := Lib.hid (A3.out.below hb4)
    have X4 := Lib.hid (X3.out.below hb4)
    have B4 := Lib.hid ((bel_trans B3.out hb4))
    skip
    have hs4 : g3 + 1 ≤ w4.heap.size := by omega
    clear Pc10
    clear P3 A3 X3 B3 hs3 hb4 hz4
    have Xc0 := X4.out.get 0 (.bool o9) rfl
    have Xz0 := X4.out.free 0
    go_upto_region 5 with fail
    clear Xc0 Xz0
    have P5 := Lib.hid ((P4.out.other ⟨g3, 0, none⟩ (.bool on) (show g1 ≠ g3 by omega)))
    have A5 := Lib.hid ((A4.out.other ⟨g3, 0, none⟩ (.bool on) (show g1 + 1 ≠ g3 by omega)))
    have X5 := Lib.hid ((X4.out.set 0 (.bool on) #[.bool on, .int .i64 f9, .int .i64 t9] rfl))
    have B5 := Lib.hid ((Below.setCell B4.out (p := ⟨g3, 0, none⟩) (show w.heap.size ≤ g3 by omega) (.bool on)))
    obtain ⟨W5, hW5⟩ : ∃ W5, W5 = (w4).setCell ⟨g3, 0, none⟩ (.bool on) := ⟨_, rfl⟩
    have hs5 : g3 + 1 ≤ W5.heap.size := by rw [hW5]; first | (simp [World.setCell]; omega) | (simp [World.setCell, World.setRow]; omega) | exact hs4
    rw [← hW5] at P5 A5 X5 B5 ⊢
    clear hW5 P4 A4 X4 B4 hs4
    have Xc0 := X5.out.get 0 (.bool on) rfl
    have Xc1 := X5.out.get 1 (.int .i64 f9) rfl
    have Xc2 := X5.out.get 2 (.int .i64 t9) rfl
    go_wp2_with (refine wpList_storeB rfl 42 _ _ rfl (g1 + 1) #[.bool on, .int .i64 f9, .int .i64 t9] _ 42 rfl rfl (by kernel_rfl) (by rfl) (by simp [Value.oneCell']) A5.out ?_)
    have RA := (A5.out.put (cs' := #[.bool on, .int .i64 f9, .int .i64 t9]))
    refine bodyPost_ret (v := .agg #[.bool on, .int .i64 f9, .int .i64 t9]) (by simp [results, Try.results12, go_sem, RA.get 0 (.bool on) rfl, RA.get 1 (.int .i64 f9) rfl, RA.get 2 (.int .i64 t9) rfl]) rfl ?_
    exact ⟨rfl, (Below.rowB (g := g1 + 1) B5.out (cs := #[.bool on, .int .i64 f9, .int .i64 t9]) (show w.heap.size ≤ g1 + 1 by omega))⟩
theorem row_oneN {w : World} {b o : Nat} {v : Value} (h : w.cell? ⟨b, o, none⟩ = some v) : RowAt w b o 1 #[v] :=
  ⟨cell_block h, fun j hj => by
    obtain rfl : j = 0 := by omega
    exact h⟩
set_option maxRecDepth 100000 in
set_option maxHeartbeats 3200000 in
theorem rnextR_any (r : Rg) (f : Option Addr) (l c : Nat) (X : Nat → Int) (w : World) (hX : NumsAt w f l X) (hl : l ≤ 1000000) :
    Calls Try.prog 18 #[regV r, .slice f l c] w fun e w' => e = .returned (regV (nextR r X l)) ∧ Below w.heap.size w w' := by
  obtain ⟨x0, x1, x2, x3, x4, x5, x6, x7, pc, tt, sc, vb, el, es, fa⟩ := r
  have HX := Lib.hid hX
  clear hX
  have h4 : IntKind.u64.wrap (u pc + 4) = u (farP pc X 0) := by rw [show (4 : Int) = u 4#64 from by decide]; exact u_add pc 4#64
  unfold regV
  show Calls _ _ #[.agg #[.int .u64 (u x0), .int .u64 (u x1), .int .u64 (u x2), .int .u64 (u x3), .int .u64 (u x4), .int .u64 (u x5), .int .u64 (u x6), .int .u64 (u x7), .int .u64 (u pc), .int .u64 (u tt), .int .u64 (u sc), .int .u64 (u vb), .int .u64 (u el), .int .u64 (u es), .int .u64 (u fa)], .slice f l c] _ (fun e w' => e = .returned (.agg #[.int .u64 (u x0), .int .u64 (u x1), .int .u64 (u x2), .int .u64 (u x3), .int .u64 (u x4), .int .u64 (u x5), .int .u64 (u x6), .int .u64 (u x7), .int .u64 (u (farP pc X l)), .int .u64 (u tt), .int .u64 (u sc), .int .u64 (u vb), .int .u64 (u el), .int .u64 (u es), .int .u64 (u fa)]) ∧ Below w.heap.size w w')
  have htw : w.heap.size ≤ w.heap.size := Nat.le_refl _
  have B0 := Lib.hid (Below.refl w.heap.size w)
  go_enter Try.func18, Try.ntmps18
  go_upto_region 1 with fail
  have P1 := Lib.hid (((BoxAt.newAt (w) #[.int .u64 (u x0), .int .u64 (u x1), .int .u64 (u x2), .int .u64 (u x3), .int .u64 (u x4), .int .u64 (u x5), .int .u64 (u x6), .int .u64 (u x7), .int .u64 (u pc), .int .u64 (u tt), .int .u64 (u sc), .int .u64 (u vb), .int .u64 (u el), .int .u64 (u es), .int .u64 (u fa)] 28 (w.heap.size) (by first | omega | (simp; done) | (simp; omega))).alloc (.cells #[.int .u64 0, .int .u64 0, .int .u64 0, .int .u64 0, .int .u64 0, .int .u64 0, .int .u64 0, .int .u64 0, .int .u64 0, .int .u64 0, .int .u64 0, .int .u64 0, .int .u64 0, .int .u64 0, .int .u64 0] 28)))
  have R1 := Lib.hid ((BoxAt.newAt ((w).alloc (.cells #[.int .u64 (u x0), .int .u64 (u x1), .int .u64 (u x2), .int .u64 (u x3), .int .u64 (u x4), .int .u64 (u x5), .int .u64 (u x6), .int .u64 (u x7), .int .u64 (u pc), .int .u64 (u tt), .int .u64 (u sc), .int .u64 (u vb), .int .u64 (u el), .int .u64 (u es), .int .u64 (u fa)] 28)) #[.int .u64 0, .int .u64 0, .int .u64 0, .int .u64 0, .int .u64 0, .int .u64 0, .int .u64 0, .int .u64 0, .int .u64 0, .int .u64 0, .int .u64 0, .int .u64 0, .int .u64 0, .int .u64 0, .int .u64 0] 28 (w.heap.size + 1) (by first | omega | (simp; done) | (simp; omega))))
  have B1 := Lib.hid ((bel_alloc (bel_alloc B0.out (.cells #[.int .u64 (u x0), .int .u64 (u x1), .int .u64 (u x2), .int .u64 (u x3), .int .u64 (u x4), .int .u64 (u x5), .int .u64 (u x6), .int .u64 (u x7), .int .u64 (u pc), .int .u64 (u tt), .int .u64 (u sc), .int .u64 (u vb), .int .u64 (u el), .int .u64 (u es), .int .u64 (u fa)] 28)) (.cells #[.int .u64 0, .int .u64 0, .int .u64 0, .int .u64 0, .int .u64 0, .int .u64 0, .int .u64 0, .int .u64 0, .int .u64 0, .int .u64 0, .int .u64 0, .int .u64 0, .int .u64 0, .int .u64 0, .int .u64 0] 28)))
  obtain ⟨g1, hg1⟩ : ∃ g1, g1 = w.heap.size := ⟨_, rfl⟩
  obtain ⟨W1, hW1⟩ : ∃ W1, W1 = ((w).alloc (.cells #[.int .u64 (u x0), .int .u64 (u x1), .int .u64 (u x2), .int .u64 (u x3), .int .u64 (u x4), .int .u64 (u x5), .int .u64 (u x6), .int .u64 (u x7), .int .u64 (u pc), .int .u64 (u tt), .int .u64 (u sc), .int .u64 (u vb), .int .u64 (u el), .int .u64 (u es), .int .u64 (u fa)] 28)).alloc (.cells #[.int .u64 0, .int .u64 0, .int .u64 0, .int .u64 0, .int .u64 0, .int .u64 0, .int .u64 0, .int .u64 0, .int .u64 0, .int .u64 0, .int .u64 0, .int .u64 0, .int .u64 0, .int .u64 0, .int .u64 0] 28) := ⟨_, rfl⟩
  have hs1 : g1 + 1 + 1 ≤ W1.heap.size := by rw [hW1, hg1]; simp
  rw [← hW1] at P1 R1 B1 ⊢
  have hb1 : w.heap.size ≤ g1 := by omega
  rw [← hg1] at P1 R1 ⊢
  clear hg1
  clear hW1 B0
  have Pc8 := P1.out.get 8 (.int .u64 (u pc)) rfl
  have Pz8 := P1.out.free 8
  go_upto_region 2 with fail
  clear Pc8 Pz8
  have P2 := Lib.hid ((P1.out.set 8 (.int .u64 (u (farP pc X 0))) #[.int .u64 (u x0), .int .u64 (u x1), .int .u64 (u x2), .int .u64 (u x3), .int .u64 (u x4), .int .u64 (u x5), .int .u64 (u x6), .int .u64 (u x7), .int .u64 (u (farP pc X 0)), .int .u64 (u tt), .int .u64 (u sc), .int .u64 (u vb), .int .u64 (u el), .int .u64 (u es), .int .u64 (u fa)] rfl))
  have R2 := Lib.hid ((R1.out.other ⟨g1, 8, none⟩ (.int .u64 (u (farP pc X 0))) (show g1 + 1 ≠ g1 by omega)))
  have B2 := Lib.hid ((Below.setCell B1.out (p := ⟨g1, 8, none⟩) (show w.heap.size ≤ g1 by omega) (.int .u64 (u (farP pc X 0)))))
  obtain ⟨W2, hW2⟩ : ∃ W2, W2 = (W1).setCell ⟨g1, 8, none⟩ (.int .u64 (u (farP pc X 0))) := ⟨_, rfl⟩
  have hs2 : g1 + 1 + 1 ≤ W2.heap.size := by rw [hW2]; first | (simp [World.setCell]; omega) | (simp [World.setCell, World.setRow]; omega) | exact hs1
  rw [← hW2] at P2 R2 B2 ⊢
  clear hW2 P1 R1 B1 hs1
  go_wp2
  go_loopw [5] (fun i wr => ∃ (e : Nat), e ≤ l ∧ i = .int .i64 e ∧ Hid (BoxAt wr (g1) #[.int .u64 (u x0), .int .u64 (u x1), .int .u64 (u x2), .int .u64 (u x3), .int .u64 (u x4), .int .u64 (u x5), .int .u64 (u x6), .int .u64 (u x7), .int .u64 (u (farP pc X e)), .int .u64 (u tt), .int .u64 (u sc), .int .u64 (u vb), .int .u64 (u el), .int .u64 (u es), .int .u64 (u fa)] 28) ∧ Hid (BoxAt wr (g1 + 1) #[.int .u64 0, .int .u64 0, .int .u64 0, .int .u64 0, .int .u64 0, .int .u64 0, .int .u64 0, .int .u64 0, .int .u64 0, .int .u64 0, .int .u64 0, .int .u64 0, .int .u64 0, .int .u64 0, .int .u64 0] 28) ∧ Hid (Below w.heap.size w wr)) (fun i _ => l - (intOf i).toNat)
  case atStart => exact ⟨0, by omega, rfl, P2.out, R2.out, B2.out⟩
  case round =>
    clear P2 R2 B2
    obtain ⟨e, hke, rfl, Pr, Rr, Br⟩ := hrel
    obtain ⟨mr, hmr⟩ : ∃ mr, mr = wr.heap.size := ⟨_, rfl⟩
    have hgPr : g1 + 1 ≤ mr := by rw [hmr]; exact Pr.out.lt
    have hgRr : g1 + 1 + 1 ≤ mr := by rw [hmr]; exact Rr.out.lt
    have hgwr : w.heap.size ≤ mr := by rw [hmr]; exact Br.out.size
    have hsr : mr ≤ wr.heap.size := by omega
    clear hmr
    by_cases hlte : e < l
    · have ik0e : (0 : Int) ≤ (e : Int) := by omega
      have ik1e : (e : Int) < (l : Int) := by omega
      have ikwe : IntKind.i64.wrap ((e : Int) + 1) = (e : Int) + 1 := IntWalk.i64_in _ (by omega)
      obtain ⟨bw, ow, hxf, hw⟩ := HX.out e hlte
      subst hxf
      obtain ⟨we, hwe⟩ : ∃ we, X e = we := ⟨_, rfl⟩
      simp only at hw
      rw [hwe] at hw
      have HRwe := Lib.hid (show RowAt w bw (ow + e) 1 #[.int .i64 we] from row_oneN hw)
      have hbw : bw < w.heap.size := cell_block hw
      have hcw : IntKind.u64.wrap we = u (BitVec.ofInt 64 we) := u_conv we
      obtain ⟨m4, hm4⟩ : ∃ m4, 4#64 * BitVec.ofInt 64 we = m4 := ⟨_, rfl⟩
      have hmw : IntKind.u64.wrap (4 * u (BitVec.ofInt 64 we)) = u m4 := by rw [← hm4, show (4 : Int) = u 4#64 from by decide]; exact u_mul _ _
      have HNE := Lib.hid (show farP pc X (e + 1) = farP pc X e + m4 from by rw [← hm4, ← hwe]; rfl)
      have hfa : IntKind.u64.wrap (u (farP pc X e) + u m4) = u (farP pc X (e + 1)) := by rw [HNE.out]; exact u_add _ _
      clear hw hwe hm4
      go_upto_region 5 with fail
      refine wp_region_tail [10] (fun _ => True) (fun w' => BoxAt w' (g1) #[.int .u64 (u x0), .int .u64 (u x1), .int .u64 (u x2), .int .u64 (u x3), .int .u64 (u x4), .int .u64 (u x5), .int .u64 (u x6), .int .u64 (u x7), .int .u64 (u (farP pc X e)), .int .u64 (u tt), .int .u64 (u sc), .int .u64 (u vb), .int .u64 (u el), .int .u64 (u es), .int .u64 (u fa)] 28 ∧ RowAt w' (bw) (ow + e) 1 #[.int .i64 we]) (by kernel_rfl) ?_
      have hS : (fun w' => BoxAt w' (g1) #[.int .u64 (u x0), .int .u64 (u x1), .int .u64 (u x2), .int .u64 (u x3), .int .u64 (u x4), .int .u64 (u x5), .int .u64 (u x6), .int .u64 (u x7), .int .u64 (u (farP pc X e)), .int .u64 (u tt), .int .u64 (u sc), .int .u64 (u vb), .int .u64 (u el), .int .u64 (u es), .int .u64 (u fa)] 28 ∧ RowAt w' (bw) (ow + e) 1 #[.int .i64 we]) wr.drew := ⟨Pr.out.drew, (HRwe.out.below Br.out).drew⟩
      skip
      have P3 := Lib.hid ((Pr.out.drew))
      have R3 := Lib.hid ((Rr.out.drew))
      have B3 := Lib.hid ((Below.drew Br.out))
      obtain ⟨W3, hW3⟩ : ∃ W3, W3 = (wr).drew := ⟨_, rfl⟩
      have hs3 : mr ≤ W3.heap.size := by rw [hW3]; first | exact hsr | omega | (simp; omega)
      rw [← hW3] at P3 R3 B3 hS ⊢
      clear hW3 Pr Rr Br hsr
      refine tail_read 0 (oi := ⟨some 16, _, _, _, _, _⟩) (v := ?_) rfl (by kernel_rfl) (by kernel_rfl) (by kernel_rfl) (by kernel_rfl) (fun _ _ _ h => h) ⟨trivial, hS⟩ (Or.inl ⟨by rfl, ?_⟩) ?_
      rotate_left
      · (intro w' hSw; clear hSw; go_simp; try with_reducible rfl)
      simp only [Act.put, List.setIfInBounds_toArray, List.set_cons_zero, List.set_cons_succ]
      refine tail_chain 1 [8, 9, 10] (oi := ⟨some 17, _, _, _, _, _⟩) (v := ?_) rfl (by kernel_rfl) (by kernel_rfl) (by kernel_rfl) (by kernel_rfl) (fun _ _ _ h => h) ⟨trivial, hS⟩ (Or.inl ⟨by rfl, ?_⟩) ?_
      rotate_left
      · (intro w' hSw; have c0_8 := (hSw.1).get 8 (.int .u64 (u (farP pc X e))) rfl; clear hSw; go_simp; try with_reducible rfl)
      simp only [Act.put, List.setIfInBounds_toArray, List.set_cons_zero, List.set_cons_succ]
      refine tail_read 2 (oi := ⟨some 18, _, _, _, _, _⟩) (v := ?_) rfl (by kernel_rfl) (by kernel_rfl) (by kernel_rfl) (by kernel_rfl) (fun _ _ _ h => h) ⟨trivial, hS⟩ (Or.inl ⟨by rfl, ?_⟩) ?_
      rotate_left
      · (intro w' hSw; clear hSw; go_simp; try with_reducible rfl)
      simp only [Act.put, List.setIfInBounds_toArray, List.set_cons_zero, List.set_cons_succ]
      refine tail_read 3 (oi := ⟨some 19, _, _, _, _, _⟩) (v := ?_) rfl (by kernel_rfl) (by kernel_rfl) (by kernel_rfl) (by kernel_rfl) (fun _ _ _ h => h) ⟨trivial, hS⟩ (Or.inl ⟨by rfl, ?_⟩) ?_
      rotate_left
      · (intro w' hSw; clear hSw; go_simp; try with_reducible rfl)
      simp only [Act.put, List.setIfInBounds_toArray, List.set_cons_zero, List.set_cons_succ]
      refine tail_read 4 (oi := ⟨some 20, _, _, _, _, _⟩) (v := ?_) rfl (by kernel_rfl) (by kernel_rfl) (by kernel_rfl) (by kernel_rfl) (fun _ _ _ h => h) ⟨trivial, hS⟩ (Or.inl ⟨by rfl, ?_⟩) ?_
      rotate_left
      · (intro w' hSw; clear hSw; go_simp; try with_reducible rfl)
      simp only [Act.put, List.setIfInBounds_toArray, List.set_cons_zero, List.set_cons_succ]
      refine tail_chain 5 [6, 7, 8, 9, 10] (oi := ⟨some 21, _, _, _, _, _⟩) (v := ?_) rfl (by kernel_rfl) (by kernel_rfl) (by kernel_rfl) (by kernel_rfl) (fun _ _ _ h => h) ⟨trivial, hS⟩ (Or.inl ⟨by rfl, ?_⟩) ?_
      rotate_left
      · (intro w' hSw; have c1_0 := (hSw.2).get0 (.int .i64 we) (by decide) rfl; clear hSw; go_simp; try with_reducible rfl)
      simp only [Act.put, List.setIfInBounds_toArray, List.set_cons_zero, List.set_cons_succ]
      refine tail_read 6 (oi := ⟨some 22, _, _, _, _, _⟩) (v := ?_) rfl (by kernel_rfl) (by kernel_rfl) (by kernel_rfl) (by kernel_rfl) (fun _ _ _ h => h) ⟨trivial, hS⟩ (Or.inl ⟨by rfl, ?_⟩) ?_
      rotate_left
      · (intro w' hSw; clear hSw; go_simp; try with_reducible rfl)
      simp only [Act.put, List.setIfInBounds_toArray, List.set_cons_zero, List.set_cons_succ]
      refine tail_read 7 (oi := ⟨some 23, _, _, _, _, _⟩) (v := ?_) rfl (by kernel_rfl) (by kernel_rfl) (by kernel_rfl) (by kernel_rfl) (fun _ _ _ h => h) ⟨trivial, hS⟩ (Or.inl ⟨by rfl, ?_⟩) ?_
      rotate_left
      · (intro w' hSw; clear hSw; go_simp; try with_reducible rfl)
      simp only [Act.put, List.setIfInBounds_toArray, List.set_cons_zero, List.set_cons_succ]
      refine tail_read 8 (oi := ⟨some 24, _, _, _, _, _⟩) (v := ?_) rfl (by kernel_rfl) (by kernel_rfl) (by kernel_rfl) (by kernel_rfl) (fun _ _ _ h => h) ⟨trivial, hS⟩ (Or.inl ⟨by rfl, ?_⟩) ?_
      rotate_left
      · (intro w' hSw; clear hSw; go_simp; try with_reducible rfl)
      simp only [Act.put, List.setIfInBounds_toArray, List.set_cons_zero, List.set_cons_succ]
      refine tail_read 9 (oi := ⟨some 25, _, _, _, _, _⟩) (v := ?_) rfl (by kernel_rfl) (by kernel_rfl) (by kernel_rfl) (by kernel_rfl) (fun _ _ _ h => h) ⟨trivial, hS⟩ (Or.inl ⟨by rfl, ?_⟩) ?_
      rotate_left
      · (intro w' hSw; clear hSw; go_simp; try with_reducible rfl)
      simp only [Act.put, List.setIfInBounds_toArray, List.set_cons_zero, List.set_cons_succ]
      refine tail_last 10 (o := ⟨none, _, _, _, _, _⟩) (by decide) (by kernel_rfl) rfl (fun K hK => ?_)
      have zs0 := P3.out.free 8
      have cs0 := P3.out.get 8 (.int .u64 (u (farP pc X e))) rfl
      go_simp
      clear zs0 cs0
      refine hK.out _ _ trivial ?_
      clear hK K
      try simp only [Act.put, List.setIfInBounds_toArray, List.set_cons_zero, List.set_cons_succ]
      refine tail_done (by kernel_rfl) ?_
      clear hS
      have P4 := Lib.hid ((P3.out.set 8 (.int .u64 (u (farP pc X (e + 1)))) #[.int .u64 (u x0), .int .u64 (u x1), .int .u64 (u x2), .int .u64 (u x3), .int .u64 (u x4), .int .u64 (u x5), .int .u64 (u x6), .int .u64 (u x7), .int .u64 (u (farP pc X (e + 1))), .int .u64 (u tt), .int .u64 (u sc), .int .u64 (u vb), .int .u64 (u el), .int .u64 (u es), .int .u64 (u fa)] rfl))
      have R4 := Lib.hid ((R3.out.other ⟨g1, 8, none⟩ (.int .u64 (u (farP pc X (e + 1)))) (show g1 + 1 ≠ g1 by omega)))
      have B4 := Lib.hid ((Below.setCell B3.out (p := ⟨g1, 8, none⟩) (show w.heap.size ≤ g1 by omega) (.int .u64 (u (farP pc X (e + 1))))))
      obtain ⟨W4, hW4⟩ : ∃ W4, W4 = (W3).setCell ⟨g1, 8, none⟩ (.int .u64 (u (farP pc X (e + 1)))) := ⟨_, rfl⟩
      have hs4 : mr ≤ W4.heap.size := by rw [hW4]; first | (simp [World.setCell]; omega) | (simp [World.setCell, World.setRow]; omega) | exact hs3
      rw [← hW4] at P4 R4 B4 ⊢
      clear hW4 P3 R3 B3 hs3
      go_wp2
      go_roundw
      case rel => exact ⟨e + 1, by omega, by go_num, P4.out, R4.out, B4.out⟩
      case measure => simp [intOf] <;> omega
    · obtain rfl : e = l := by omega
      have Pc0 := Pr.out.get 0 (.int .u64 (u x0)) rfl
      have Pc1 := Pr.out.get 1 (.int .u64 (u x1)) rfl
      have Pc2 := Pr.out.get 2 (.int .u64 (u x2)) rfl
      have Pc3 := Pr.out.get 3 (.int .u64 (u x3)) rfl
      have Pc4 := Pr.out.get 4 (.int .u64 (u x4)) rfl
      have Pc5 := Pr.out.get 5 (.int .u64 (u x5)) rfl
      have Pc6 := Pr.out.get 6 (.int .u64 (u x6)) rfl
      have Pc7 := Pr.out.get 7 (.int .u64 (u x7)) rfl
      have Pc8 := Pr.out.get 8 (.int .u64 (u (farP pc X e))) rfl
      have Pc9 := Pr.out.get 9 (.int .u64 (u tt)) rfl
      have Pc10 := Pr.out.get 10 (.int .u64 (u sc)) rfl
      have Pc11 := Pr.out.get 11 (.int .u64 (u vb)) rfl
      have Pc12 := Pr.out.get 12 (.int .u64 (u el)) rfl
      have Pc13 := Pr.out.get 13 (.int .u64 (u es)) rfl
      have Pc14 := Pr.out.get 14 (.int .u64 (u fa)) rfl
      go_wp2_with (refine wpList_storeB rfl 28 _ _ rfl (g1 + 1) #[.int .u64 (u x0), .int .u64 (u x1), .int .u64 (u x2), .int .u64 (u x3), .int .u64 (u x4), .int .u64 (u x5), .int .u64 (u x6), .int .u64 (u x7), .int .u64 (u (farP pc X e)), .int .u64 (u tt), .int .u64 (u sc), .int .u64 (u vb), .int .u64 (u el), .int .u64 (u es), .int .u64 (u fa)] _ 28 rfl rfl (by kernel_rfl) (by rfl) (by simp [Value.oneCell']) Rr.out ?_)
      have RR := (Rr.out.put (cs' := #[.int .u64 (u x0), .int .u64 (u x1), .int .u64 (u x2), .int .u64 (u x3), .int .u64 (u x4), .int .u64 (u x5), .int .u64 (u x6), .int .u64 (u x7), .int .u64 (u (farP pc X e)), .int .u64 (u tt), .int .u64 (u sc), .int .u64 (u vb), .int .u64 (u el), .int .u64 (u es), .int .u64 (u fa)]))
      refine bodyPost_ret (v := .agg #[.int .u64 (u x0), .int .u64 (u x1), .int .u64 (u x2), .int .u64 (u x3), .int .u64 (u x4), .int .u64 (u x5), .int .u64 (u x6), .int .u64 (u x7), .int .u64 (u (farP pc X e)), .int .u64 (u tt), .int .u64 (u sc), .int .u64 (u vb), .int .u64 (u el), .int .u64 (u es), .int .u64 (u fa)]) (by simp [results, Try.results18, go_sem, RR.get 0 (.int .u64 (u x0)) rfl, RR.get 1 (.int .u64 (u x1)) rfl, RR.get 2 (.int .u64 (u x2)) rfl, RR.get 3 (.int .u64 (u x3)) rfl, RR.get 4 (.int .u64 (u x4)) rfl, RR.get 5 (.int .u64 (u x5)) rfl, RR.get 6 (.int .u64 (u x6)) rfl, RR.get 7 (.int .u64 (u x7)) rfl, RR.get 8 (.int .u64 (u (farP pc X e))) rfl, RR.get 9 (.int .u64 (u tt)) rfl, RR.get 10 (.int .u64 (u sc)) rfl, RR.get 11 (.int .u64 (u vb)) rfl, RR.get 12 (.int .u64 (u el)) rfl, RR.get 13 (.int .u64 (u es)) rfl, RR.get 14 (.int .u64 (u fa)) rfl]) rfl ?_
      exact ⟨rfl, (Below.rowB (g := g1 + 1) Br.out (cs := #[.int .u64 (u x0), .int .u64 (u x1), .int .u64 (u x2), .int .u64 (u x3), .int .u64 (u x4), .int .u64 (u x5), .int .u64 (u x6), .int .u64 (u x7), .int .u64 (u (farP pc X e)), .int .u64 (u tt), .int .u64 (u sc), .int .u64 (u vb), .int .u64 (u el), .int .u64 (u es), .int .u64 (u fa)]) (show w.heap.size ≤ g1 + 1 by omega))⟩
end Go.Proofs.Ytlflfpohglgopaa
