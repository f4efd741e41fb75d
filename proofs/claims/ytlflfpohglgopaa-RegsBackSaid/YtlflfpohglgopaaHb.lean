/- The reference's Sys, Get, Set, Trap, Back, Next. -/
import Derived.Test.YtlflfpohglgopaaHa
import Derived.Test.YtlflfpohglgopaaSq
import Derived.Test.YtlflfpohglgopaaIn
import Derived.Test.YtlflfpohglgopaaRk
import Derived.Deep.CutBlock
set_option linter.all false
namespace Go.Proofs.Ytlflfpohglgopaa
open Go.ChangeShapes Go.WideShapes Go.ChangeAt Go.RowKit Go.Deep

def getR (r : Rg) (k : Int) : BitVec 64 := if k = 0 then r.tt else if k = 1 then r.sc else if k = 2 then r.vb else if k = 3 then r.el else if k = 4 then r.es else r.fa
def setR (r : Rg) (k : Int) (v : BitVec 64) : Rg := if k = 0 then { r with tt := v } else if k = 1 then { r with sc := v } else if k = 2 then { r with vb := v } else if k = 3 then { r with el := v } else if k = 4 then { r with es := v } else { r with fa := v }
def trapR (r : Rg) (e f : BitVec 64) : Rg := { r with el := r.pc, es := e, fa := f, pc := r.vb }
def backR (r : Rg) : Rg := { r with pc := r.el }
/-- A number of instructions further. -/
def farP (p : BitVec 64) (L : Nat → Int) : Nat → BitVec 64
  | 0 => p + 4#64
  | k + 1 => farP p L k + 4#64 * BitVec.ofInt 64 (L k)
def nextR (r : Rg) (L : Nat → Int) (n : Nat) : Rg := { r with pc := farP r.pc L n }
theorem rsys_any (k : Int) (w : World) :
    Calls Try.prog 7 #[.int .i64 k] w fun e w' => e = .returned (.bool (numB k 5)) ∧ w = w' := by
  have H := Lib.hid (fun W => num_any k 5 W)
  go_enter Try.func7, Try.ntmps7
  go_wp2_with fail
  refine (H.out _).mono ?_
  rintro e w1 ⟨rfl, rfl⟩
  go_wp2
  go_ret
  exact ⟨rfl, rfl⟩
theorem six_cases {k : Int} (h : numB k 5 = true) : k = 0 ∨ k = 1 ∨ k = 2 ∨ k = 3 ∨ k = 4 ∨ k = 5 := by
  have := numB_iff.1 h
  omega
set_option maxRecDepth 100000 in
theorem rgetR_any (r : Rg) (k : Int) (h : numB k 5 = true) (w : World) :
    Calls Try.prog 8 #[regV r, .int .i64 k] w fun e w' => e = .returned (.int .u64 (u (getR r k))) ∧ Below w.heap.size w w' := by
  obtain ⟨x0, x1, x2, x3, x4, x5, x6, x7, pc, tt, sc, vb, el, es, fa⟩ := r
  unfold regV
  simp only
  rcases six_cases h with rfl | rfl | rfl | rfl | rfl | rfl
  · go_enter Try.func8, Try.ntmps8
    go_wp2
    go_ret
    exact ⟨rfl, by go_grown⟩
  · go_enter Try.func8, Try.ntmps8
    go_wp2
    go_ret
    exact ⟨rfl, by go_grown⟩
  · go_enter Try.func8, Try.ntmps8
    go_wp2
    go_ret
    exact ⟨rfl, by go_grown⟩
  · go_enter Try.func8, Try.ntmps8
    go_wp2
    go_ret
    exact ⟨rfl, by go_grown⟩
  · go_enter Try.func8, Try.ntmps8
    go_wp2
    go_ret
    exact ⟨rfl, by go_grown⟩
  · go_enter Try.func8, Try.ntmps8
    go_wp2
    go_ret
    exact ⟨rfl, by go_grown⟩
set_option maxRecDepth 100000 in
set_option maxHeartbeats 3200000 in
theorem rset0_any (x0 x1 x2 x3 x4 x5 x6 x7 pc tt sc vb el es fa v : BitVec 64) (w : World) :
    Calls Try.prog 9 #[.agg #[.int .u64 (u x0), .int .u64 (u x1), .int .u64 (u x2), .int .u64 (u x3), .int .u64 (u x4), .int .u64 (u x5), .int .u64 (u x6), .int .u64 (u x7), .int .u64 (u pc), .int .u64 (u tt), .int .u64 (u sc), .int .u64 (u vb), .int .u64 (u el), .int .u64 (u es), .int .u64 (u fa)], .int .i64 0, .int .u64 (u v)] w fun e w' => e = .returned (.agg #[.int .u64 (u x0), .int .u64 (u x1), .int .u64 (u x2), .int .u64 (u x3), .int .u64 (u x4), .int .u64 (u x5), .int .u64 (u x6), .int .u64 (u x7), .int .u64 (u pc), .int .u64 (u v), .int .u64 (u sc), .int .u64 (u vb), .int .u64 (u el), .int .u64 (u es), .int .u64 (u fa)]) ∧ Below w.heap.size w w' := by
  have htw : w.heap.size ≤ w.heap.size := Nat.le_refl _
  have B0 := Lib.hid (Below.refl w.heap.size w)
  go_enter Try.func9, Try.ntmps9
  go_upto_region 1 with fail
  have P1 := Lib.hid (((BoxAt.newAt (w) #[.int .u64 (u x0), .int .u64 (u x1), .int .u64 (u x2), .int .u64 (u x3), .int .u64 (u x4), .int .u64 (u x5), .int .u64 (u x6), .int .u64 (u x7), .int .u64 (u pc), .int .u64 (u tt), .int .u64 (u sc), .int .u64 (u vb), .int .u64 (u el), .int .u64 (u es), .int .u64 (u fa)] 28 (w.heap.size) (by first | omega | (simp; done) | (simp; omega))).alloc (.cells #[.int .u64 0, .int .u64 0, .int .u64 0, .int .u64 0, .int .u64 0, .int .u64 0, .int .u64 0, .int .u64 0, .int .u64 0, .int .u64 0, .int .u64 0, .int .u64 0, .int .u64 0, .int .u64 0, .int .u64 0] 28)))
  have R1 := Lib.hid ((BoxAt.newAt ((w).alloc (.cells #[.int .u64 (u x0), .int .u64 (u x1), .int .u64 (u x2), .int .u64 (u x3), .int .u64 (u x4), .int .u64 (u x5), .int .u64 (u x6), .int .u64 (u x7), .int .u64 (u pc), .int .u64 (u tt), .int .u64 (u sc), .int .u64 (u vb), .int .u64 (u el), .int .u64 (u es), .int .u64 (u fa)] 28)) #[.int .u64 0, .int .u64 0, .int .u64 0, .int .u64 0, .int .u64 0, .int .u64 0, .int .u64 0, .int .u64 0, .int .u64 0, .int .u64 0, .int .u64 0, .int .u64 0, .int .u64 0, .int .u64 0, .int .u64 0] 28 (w.heap.size + 1) (by first | omega | (simp; done) | (simp; omega))))
  have B1 := Lib.hid ((bel_alloc (bel_alloc B0.out (.cells #[.int .u64 (u x0), .int .u64 (u x1), .int .u64 (u x2), .int .u64 (u x3), .int .u64 (u x4), .int .u64 (u x5), .int .u64 (u x6), .int .u64 (u x7), .int .u64 (u pc), .int .u64 (u tt), .int .u64 (u sc), .int .u64 (u vb), .int .u64 (u el), .int .u64 (u es), .int .u64 (u fa)] 28)) (.cells #[.int .u64 0, .int .u64 0, .int .u64 0, .int .u64 0, .int .u64 0, .int .u64 0, .int .u64 0, .int .u64 0, .int .u64 0, .int .u64 0, .int .u64 0, .int .u64 0, .int .u64 0, .int .u64 0, .int .u64 0] 28)))
  obtain ⟨g1, hg1⟩ : ∃ g1, g1 = w.heap.size := ⟨_, rfl⟩
  obtain ⟨W1, hW1⟩ : ∃ W1, W1 = ((w).alloc (.cells #[.int .u64 (u x0), .int .u64 (u x1), .int .u64 (u x2), .int .u64 (u x3), .int .u64 (u x4), .int .u64 (u x5), .int .u64 (u x6), .int .u64 (u x7), .int .u64 (u pc), .int .u64 (u tt), .int .u64 (u sc), .int .u64 (u vb), .int .u64 (u el), .int .u64 (u es), .int .u64 (u fa)] 28)).alloc (.cells #[.int .u64 0, .int .u64 0, .int .u64 0, .int .u64 0, .int .u64 0, .int .u64 0, .int .u64 0, .int .u64 0, .int .u64 0, .int .u64 0, .int .u64 0, .int .u64 0, .int .u64 0, .int .u64 0, .int .u64 0] 28) := ⟨_, rfl⟩
  have hs1 : g1 + 1 + 1 ≤ W1.heap.size := by rw [hW1, hg1]; simp
  rw [← hW1] at P1 R1 B1 ⊢
  have hb1 : w.heap.size ≤ g1 := by omega
  rw [← hg1] at P1 R1 ⊢
  clear hg1
  clear hW1 B0
  have Pc9 := P1.out.get 9 (.int .u64 (u tt)) rfl
  have Pz9 := P1.out.free 9
  go_upto_region 13 with fail
  clear Pc9 Pz9
  have P2 := Lib.hid ((P1.out.set 9 (.int .u64 (u v)) #[.int .u64 (u x0), .int .u64 (u x1), .int .u64 (u x2), .int .u64 (u x3), .int .u64 (u x4), .int .u64 (u x5), .int .u64 (u x6), .int .u64 (u x7), .int .u64 (u pc), .int .u64 (u v), .int .u64 (u sc), .int .u64 (u vb), .int .u64 (u el), .int .u64 (u es), .int .u64 (u fa)] rfl))
  have R2 := Lib.hid ((R1.out.other ⟨g1, 9, none⟩ (.int .u64 (u v)) (show g1 + 1 ≠ g1 by omega)))
  have B2 := Lib.hid ((Below.setCell B1.out (p := ⟨g1, 9, none⟩) (show w.heap.size ≤ g1 by omega) (.int .u64 (u v))))
  obtain ⟨W2, hW2⟩ : ∃ W2, W2 = (W1).setCell ⟨g1, 9, none⟩ (.int .u64 (u v)) := ⟨_, rfl⟩
  have hs2 : g1 + 1 + 1 ≤ W2.heap.size := by rw [hW2]; first | (simp [World.setCell]; omega) | (simp [World.setCell, World.setRow]; omega) | exact hs1
  rw [← hW2] at P2 R2 B2 ⊢
  clear hW2 P1 R1 B1 hs1
  have Pc0 := P2.out.get 0 (.int .u64 (u x0)) rfl
  have Pc1 := P2.out.get 1 (.int .u64 (u x1)) rfl
  have Pc2 := P2.out.get 2 (.int .u64 (u x2)) rfl
  have Pc3 := P2.out.get 3 (.int .u64 (u x3)) rfl
  have Pc4 := P2.out.get 4 (.int .u64 (u x4)) rfl
  have Pc5 := P2.out.get 5 (.int .u64 (u x5)) rfl
  have Pc6 := P2.out.get 6 (.int .u64 (u x6)) rfl
  have Pc7 := P2.out.get 7 (.int .u64 (u x7)) rfl
  have Pc8 := P2.out.get 8 (.int .u64 (u pc)) rfl
  have Pc9 := P2.out.get 9 (.int .u64 (u v)) rfl
  have Pc10 := P2.out.get 10 (.int .u64 (u sc)) rfl
  have Pc11 := P2.out.get 11 (.int .u64 (u vb)) rfl
  have Pc12 := P2.out.get 12 (.int .u64 (u el)) rfl
  have Pc13 := P2.out.get 13 (.int .u64 (u es)) rfl
  have Pc14 := P2.out.get 14 (.int .u64 (u fa)) rfl
  go_wp2_with (refine wpList_storeB rfl 28 _ _ rfl (g1 + 1) #[.int .u64 (u x0), .int .u64 (u x1), .int .u64 (u x2), .int .u64 (u x3), .int .u64 (u x4), .int .u64 (u x5), .int .u64 (u x6), .int .u64 (u x7), .int .u64 (u pc), .int .u64 (u v), .int .u64 (u sc), .int .u64 (u vb), .int .u64 (u el), .int .u64 (u es), .int .u64 (u fa)] _ 28 rfl rfl (by kernel_rfl) (by rfl) (by simp [Value.oneCell']) R2.out ?_)
  have RR := (R2.out.put (cs' := #[.int .u64 (u x0), .int .u64 (u x1), .int .u64 (u x2), .int .u64 (u x3), .int .u64 (u x4), .int .u64 (u x5), .int .u64 (u x6), .int .u64 (u x7), .int .u64 (u pc), .int .u64 (u v), .int .u64 (u sc), .int .u64 (u vb), .int .u64 (u el), .int .u64 (u es), .int .u64 (u fa)]))
  refine bodyPost_ret (v := .agg #[.int .u64 (u x0), .int .u64 (u x1), .int .u64 (u x2), .int .u64 (u x3), .int .u64 (u x4), .int .u64 (u x5), .int .u64 (u x6), .int .u64 (u x7), .int .u64 (u pc), .int .u64 (u v), .int .u64 (u sc), .int .u64 (u vb), .int .u64 (u el), .int .u64 (u es), .int .u64 (u fa)]) (by simp [results, Try.results9, go_sem, RR.get 0 (.int .u64 (u x0)) rfl, RR.get 1 (.int .u64 (u x1)) rfl, RR.get 2 (.int .u64 (u x2)) rfl, RR.get 3 (.int .u64 (u x3)) rfl, RR.get 4 (.int .u64 (u x4)) rfl, RR.get 5 (.int .u64 (u x5)) rfl, RR.get 6 (.int .u64 (u x6)) rfl, RR.get 7 (.int .u64 (u x7)) rfl, RR.get 8 (.int .u64 (u pc)) rfl, RR.get 9 (.int .u64 (u v)) rfl, RR.get 10 (.int .u64 (u sc)) rfl, RR.get 11 (.int .u64 (u vb)) rfl, RR.get 12 (.int .u64 (u el)) rfl, RR.get 13 (.int .u64 (u es)) rfl, RR.get 14 (.int .u64 (u fa)) rfl]) rfl ?_
  exact ⟨rfl, (Below.rowB (g := g1 + 1) B2.out (cs := #[.int .u64 (u x0), .int .u64 (u x1), .int .u64 (u x2), .int .u64 (u x3), .int .u64 (u x4), .int .u64 (u x5), .int .u64 (u x6), .int .u64 (u x7), .int .u64 (u pc), .int .u64 (u v), .int .u64 (u sc), .int .u64 (u vb), .int .u64 (u el), .int .u64 (u es), .int .u64 (u fa)]) (show w.heap.size ≤ g1 + 1 by omega))⟩
set_option maxRecDepth 100000 in
set_option maxHeartbeats 3200000 in
theorem rset1_any (x0 x1 x2 x3 x4 x5 x6 x7 pc tt sc vb el es fa v : BitVec 64) (w : World) :
    Calls Try.prog 9 #[.agg #[.int .u64 (u x0), .int .u64 (u x1), .int .u64 (u x2), .int .u64 (u x3), .int .u64 (u x4), .int .u64 (u x5), .int .u64 (u x6), .int .u64 (u x7), .int .u64 (u pc), .int .u64 (u tt), .int .u64 (u sc), .int .u64 (u vb), .int .u64 (u el), .int .u64 (u es), .int .u64 (u fa)], .int .i64 1, .int .u64 (u v)] w fun e w' => e = .returned (.agg #[.int .u64 (u x0), .int .u64 (u x1), .int .u64 (u x2), .int .u64 (u x3), .int .u64 (u x4), .int .u64 (u x5), .int .u64 (u x6), .int .u64 (u x7), .int .u64 (u pc), .int .u64 (u tt), .int .u64 (u v), .int .u64 (u vb), .int .u64 (u el), .int .u64 (u es), .int .u64 (u fa)]) ∧ Below w.heap.size w w' := by
  have htw : w.heap.size ≤ w.heap.size := Nat.le_refl _
  have B0 := Lib.hid (Below.refl w.heap.size w)
  go_enter Try.func9, Try.ntmps9
  go_upto_region 1 with fail
  have P1 := Lib.hid (((BoxAt.newAt (w) #[.int .u64 (u x0), .int .u64 (u x1), .int .u64 (u x2), .int .u64 (u x3), .int .u64 (u x4), .int .u64 (u x5), .int .u64 (u x6), .int .u64 (u x7), .int .u64 (u pc), .int .u64 (u tt), .int .u64 (u sc), .int .u64 (u vb), .int .u64 (u el), .int .u64 (u es), .int .u64 (u fa)] 28 (w.heap.size) (by first | omega | (simp; done) | (simp; omega))).alloc (.cells #[.int .u64 0, .int .u64 0, .int .u64 0, .int .u64 0, .int .u64 0, .int .u64 0, .int .u64 0, .int .u64 0, .int .u64 0, .int .u64 0, .int .u64 0, .int .u64 0, .int .u64 0, .int .u64 0, .int .u64 0] 28)))
  have R1 := Lib.hid ((BoxAt.newAt ((w).alloc (.cells #[.int .u64 (u x0), .int .u64 (u x1), .int .u64 (u x2), .int .u64 (u x3), .int .u64 (u x4), .int .u64 (u x5), .int .u64 (u x6), .int .u64 (u x7), .int .u64 (u pc), .int .u64 (u tt), .int .u64 (u sc), .int .u64 (u vb), .int .u64 (u el), .int .u64 (u es), .int .u64 (u fa)] 28)) #[.int .u64 0, .int .u64 0, .int .u64 0, .int .u64 0, .int .u64 0, .int .u64 0, .int .u64 0, .int .u64 0, .int .u64 0, .int .u64 0, .int .u64 0, .int .u64 0, .int .u64 0, .int .u64 0, .int .u64 0] 28 (w.heap.size + 1) (by first | omega | (simp; done) | (simp; omega))))
  have B1 := Lib.hid ((bel_alloc (bel_alloc B0.out (.cells #[.int .u64 (u x0), .int .u64 (u x1), .int .u64 (u x2), .int .u64 (u x3), .int .u64 (u x4), .int .u64 (u x5), .int .u64 (u x6), .int .u64 (u x7), .int .u64 (u pc), .int .u64 (u tt), .int .u64 (u sc), .int .u64 (u vb), .int .u64 (u el), .int .u64 (u es), .int .u64 (u fa)] 28)) (.cells #[.int .u64 0, .int .u64 0, .int .u64 0, .int .u64 0, .int .u64 0, .int .u64 0, .int .u64 0, .int .u64 0, .int .u64 0, .int .u64 0, .int .u64 0, .int .u64 0, .int .u64 0, .int .u64 0, .int .u64 0] 28)))
  obtain ⟨g1, hg1⟩ : ∃ g1, g1 = w.heap.size := ⟨_, rfl⟩
  obtain ⟨W1, hW1⟩ : ∃ W1, W1 = ((w).alloc (.cells #[.int .u64 (u x0), .int .u64 (u x1), .int .u64 (u x2), .int .u64 (u x3), .int .u64 (u x4), .int .u64 (u x5), .int .u64 (u x6), .int .u64 (u x7), .int .u64 (u pc), .int .u64 (u tt), .int .u64 (u sc), .int .u64 (u vb), .int .u64 (u el), .int .u64 (u es), .int .u64 (u fa)] 28)).alloc (.cells #[.int .u64 0, .int .u64 0, .int .u64 0, .int .u64 0, .int .u64 0, .int .u64 0, .int .u64 0, .int .u64 0, .int .u64 0, .int .u64 0, .int .u64 0, .int .u64 0, .int .u64 0, .int .u64 0, .int .u64 0] 28) := ⟨_, rfl⟩
  have hs1 : g1 + 1 + 1 ≤ W1.heap.size := by rw [hW1, hg1]; simp
  rw [← hW1] at P1 R1 B1 ⊢
  have hb1 : w.heap.size ≤ g1 := by omega
  rw [← hg1] at P1 R1 ⊢
  clear hg1
  clear hW1 B0
  have Pc10 := P1.out.get 10 (.int .u64 (u sc)) rfl
  have Pz10 := P1.out.free 10
  go_upto_region 13 with fail
  clear Pc10 Pz10
  have P2 := Lib.hid ((P1.out.set 10 (.int .u64 (u v)) #[.int .u64 (u x0), .int .u64 (u x1), .int .u64 (u x2), .int .u64 (u x3), .int .u64 (u x4), .int .u64 (u x5), .int .u64 (u x6), .int .u64 (u x7), .int .u64 (u pc), .int .u64 (u tt), .int .u64 (u v), .int .u64 (u vb), .int .u64 (u el), .int .u64 (u es), .int .u64 (u fa)] rfl))
  have R2 := Lib.hid ((R1.out.other ⟨g1, 10, none⟩ (.int .u64 (u v)) (show g1 + 1 ≠ g1 by omega)))
  have B2 := Lib.hid ((Below.setCell B1.out (p := ⟨g1, 10, none⟩) (show w.heap.size ≤ g1 by omega) (.int .u64 (u v))))
  obtain ⟨W2, hW2⟩ : ∃ W2, W2 = (W1).setCell ⟨g1, 10, none⟩ (.int .u64 (u v)) := ⟨_, rfl⟩
  have hs2 : g1 + 1 + 1 ≤ W2.heap.size := by rw [hW2]; first | (simp [World.setCell]; omega) | (simp [World.setCell, World.setRow]; omega) | exact hs1
  rw [← hW2] at P2 R2 B2 ⊢
  clear hW2 P1 R1 B1 hs1
  have Pc0 := P2.out.get 0 (.int .u64 (u x0)) rfl
  have Pc1 := P2.out.get 1 (.int .u64 (u x1)) rfl
  have Pc2 := P2.out.get 2 (.int .u64 (u x2)) rfl
  have Pc3 := P2.out.get 3 (.int .u64 (u x3)) rfl
  have Pc4 := P2.out.get 4 (.int .u64 (u x4)) rfl
  have Pc5 := P2.out.get 5 (.int .u64 (u x5)) rfl
  have Pc6 := P2.out.get 6 (.int .u64 (u x6)) rfl
  have Pc7 := P2.out.get 7 (.int .u64 (u x7)) rfl
  have Pc8 := P2.out.get 8 (.int .u64 (u pc)) rfl
  have Pc9 := P2.out.get 9 (.int .u64 (u tt)) rfl
  have Pc10 := P2.out.get 10 (.int .u64 (u v)) rfl
  have Pc11 := P2.out.get 11 (.int .u64 (u vb)) rfl
  have Pc12 := P2.out.get 12 (.int .u64 (u el)) rfl
  have Pc13 := P2.out.get 13 (.int .u64 (u es)) rfl
  have Pc14 := P2.out.get 14 (.int .u64 (u fa)) rfl
  go_wp2_with (refine wpList_storeB rfl 28 _ _ rfl (g1 + 1) #[.int .u64 (u x0), .int .u64 (u x1), .int .u64 (u x2), .int .u64 (u x3), .int .u64 (u x4), .int .u64 (u x5), .int .u64 (u x6), .int .u64 (u x7), .int .u64 (u pc), .int .u64 (u tt), .int .u64 (u v), .int .u64 (u vb), .int .u64 (u el), .int .u64 (u es), .int .u64 (u fa)] _ 28 rfl rfl (by kernel_rfl) (by rfl) (by simp [Value.oneCell']) R2.out ?_)
  have RR := (R2.out.put (cs' := #[.int .u64 (u x0), .int .u64 (u x1), .int .u64 (u x2), .int .u64 (u x3), .int .u64 (u x4), .int .u64 (u x5), .int .u64 (u x6), .int .u64 (u x7), .int .u64 (u pc), .int .u64 (u tt), .int .u64 (u v), .int .u64 (u vb), .int .u64 (u el), .int .u64 (u es), .int .u64 (u fa)]))
  refine bodyPost_ret (v := .agg #[.int .u64 (u x0), .int .u64 (u x1), .int .u64 (u x2), .int .u64 (u x3), .int .u64 (u x4), .int .u64 (u x5), .int .u64 (u x6), .int .u64 (u x7), .int .u64 (u pc), .int .u64 (u tt), .int .u64 (u v), .int .u64 (u vb), .int .u64 (u el), .int .u64 (u es), .int .u64 (u fa)]) (by simp [results, Try.results9, go_sem, RR.get 0 (.int .u64 (u x0)) rfl, RR.get 1 (.int .u64 (u x1)) rfl, RR.get 2 (.int .u64 (u x2)) rfl, RR.get 3 (.int .u64 (u x3)) rfl, RR.get 4 (.int .u64 (u x4)) rfl, RR.get 5 (.int .u64 (u x5)) rfl, RR.get 6 (.int .u64 (u x6)) rfl, RR.get 7 (.int .u64 (u x7)) rfl, RR.get 8 (.int .u64 (u pc)) rfl, RR.get 9 (.int .u64 (u tt)) rfl, RR.get 10 (.int .u64 (u v)) rfl, RR.get 11 (.int .u64 (u vb)) rfl, RR.get 12 (.int .u64 (u el)) rfl, RR.get 13 (.int .u64 (u es)) rfl, RR.get 14 (.int .u64 (u fa)) rfl]) rfl ?_
  exact ⟨rfl, (Below.rowB (g := g1 + 1) B2.out (cs := #[.int .u64 (u x0), .int .u64 (u x1), .int .u64 (u x2), .int .u64 (u x3), .int .u64 (u x4), .int .u64 (u x5), .int .u64 (u x6), .int .u64 (u x7), .int .u64 (u pc), .int .u64 (u tt), .int .u64 (u v), .int .u64 (u vb), .int .u64 (u el), .int .u64 (u es), .int .u64 (u fa)]) (show w.heap.size ≤ g1 + 1 by omega))⟩
set_option maxRecDepth 100000 in
set_option maxHeartbeats 3200000 in
theorem rset2_any (x0 x1 x2 x3 x4 x5 x6 x7 pc tt sc vb el es fa v : BitVec 64) (w : World) :
    Calls Try.prog 9 #[.agg #[.int .u64 (u x0), .int .u64 (u x1), .int .u64 (u x2), .int .u64 (u x3), .int .u64 (u x4), .int .u64 (u x5), .int .u64 (u x6), .int .u64 (u x7), .int .u64 (u pc), .int .u64 (u tt), .int .u64 (u sc), .int .u64 (u vb), .int .u64 (u el), .int .u64 (u es), .int .u64 (u fa)], .int .i64 2, .int .u64 (u v)] w fun e w' => e = .returned (.agg #[.int .u64 (u x0), .int .u64 (u x1), .int .u64 (u x2), .int .u64 (u x3), .int .u64 (u x4), .int .u64 (u x5), .int .u64 (u x6), .int .u64 (u x7), .int .u64 (u pc), .int .u64 (u tt), .int .u64 (u sc), .int .u64 (u v), .int .u64 (u el), .int .u64 (u es), .int .u64 (u fa)]) ∧ Below w.heap.size w w' := by
  have htw : w.heap.size ≤ w.heap.size := Nat.le_refl _
  have B0 := Lib.hid (Below.refl w.heap.size w)
  go_enter Try.func9, Try.ntmps9
  go_upto_region 1 with fail
  have P1 := Lib.hid (((BoxAt.newAt (w) #[.int .u64 (u x0), .int .u64 (u x1), .int .u64 (u x2), .int .u64 (u x3), .int .u64 (u x4), .int .u64 (u x5), .int .u64 (u x6), .int .u64 (u x7), .int .u64 (u pc), .int .u64 (u tt), .int .u64 (u sc), .int .u64 (u vb), .int .u64 (u el), .int .u64 (u es), .int .u64 (u fa)] 28 (w.heap.size) (by first | omega | (simp; done) | (simp; omega))).alloc (.cells #[.int .u64 0, .int .u64 0, .int .u64 0, .int .u64 0, .int .u64 0, .int .u64 0, .int .u64 0, .int .u64 0, .int .u64 0, .int .u64 0, .int .u64 0, .int .u64 0, .int .u64 0, .int .u64 0, .int .u64 0] 28)))
  have R1 := Lib.hid ((BoxAt.newAt ((w).alloc (.cells #[.int .u64 (u x0), .int .u64 (u x1), .int .u64 (u x2), .int .u64 (u x3), .int .u64 (u x4), .int .u64 (u x5), .int .u64 (u x6), .int .u64 (u x7), .int .u64 (u pc), .int .u64 (u tt), .int .u64 (u sc), .int .u64 (u vb), .int .u64 (u el), .int .u64 (u es), .int .u64 (u fa)] 28)) #[.int .u64 0, .int .u64 0, .int .u64 0, .int .u64 0, .int .u64 0, .int .u64 0, .int .u64 0, .int .u64 0, .int .u64 0, .int .u64 0, .int .u64 0, .int .u64 0, .int .u64 0, .int .u64 0, .int .u64 0] 28 (w.heap.size + 1) (by first | omega | (simp; done) | (simp; omega))))
  have B1 := Lib.hid ((bel_alloc (bel_alloc B0.out (.cells #[.int .u64 (u x0), .int .u64 (u x1), .int .u64 (u x2), .int .u64 (u x3), .int .u64 (u x4), .int .u64 (u x5), .int .u64 (u x6), .int .u64 (u x7), .int .u64 (u pc), .int .u64 (u tt), .int .u64 (u sc), .int .u64 (u vb), .int .u64 (u el), .int .u64 (u es), .int .u64 (u fa)] 28)) (.cells #[.int .u64 0, .int .u64 0, .int .u64 0, .int .u64 0, .int .u64 0, .int .u64 0, .int .u64 0, .int .u64 0, .int .u64 0, .int .u64 0, .int .u64 0, .int .u64 0, .int .u64 0, .int .u64 0, .int .u64 0] 28)))
  obtain ⟨g1, hg1⟩ : ∃ g1, g1 = w.heap.size := ⟨_, rfl⟩
  obtain ⟨W1, hW1⟩ : ∃ W1, W1 = ((w).alloc (.cells #[.int .u64 (u x0), .int .u64 (u x1), .int .u64 (u x2), .int .u64 (u x3), .int .u64 (u x4), .int .u64 (u x5), .int .u64 (u x6), .int .u64 (u x7), .int .u64 (u pc), .int .u64 (u tt), .int .u64 (u sc), .int .u64 (u vb), .int .u64 (u el), .int .u64 (u es), .int .u64 (u fa)] 28)).alloc (.cells #[.int .u64 0, .int .u64 0, .int .u64 0, .int .u64 0, .int .u64 0, .int .u64 0, .int .u64 0, .int .u64 0, .int .u64 0, .int .u64 0, .int .u64 0, .int .u64 0, .int .u64 0, .int .u64 0, .int .u64 0] 28) := ⟨_, rfl⟩
  have hs1 : g1 + 1 + 1 ≤ W1.heap.size := by rw [hW1, hg1]; simp
  rw [← hW1] at P1 R1 B1 ⊢
  have hb1 : w.heap.size ≤ g1 := by omega
  rw [← hg1] at P1 R1 ⊢
  clear hg1
  clear hW1 B0
  have Pc11 := P1.out.get 11 (.int .u64 (u vb)) rfl
  have Pz11 := P1.out.free 11
  go_upto_region 13 with fail
  clear Pc11 Pz11
  have P2 := Lib.hid ((P1.out.set 11 (.int .u64 (u v)) #[.int .u64 (u x0), .int .u64 (u x1), .int .u64 (u x2), .int .u64 (u x3), .int .u64 (u x4), .int .u64 (u x5), .int .u64 (u x6), .int .u64 (u x7), .int .u64 (u pc), .int .u64 (u tt), .int .u64 (u sc), .int .u64 (u v), .int .u64 (u el), .int .u64 (u es), .int .u64 (u fa)] rfl))
  have R2 := Lib.hid ((R1.out.other ⟨g1, 11, none⟩ (.int .u64 (u v)) (show g1 + 1 ≠ g1 by omega)))
  have B2 := Lib.hid ((Below.setCell B1.out (p := ⟨g1, 11, none⟩) (show w.heap.size ≤ g1 by omega) (.int .u64 (u v))))
  obtain ⟨W2, hW2⟩ : ∃ W2, W2 = (W1).setCell ⟨g1, 11, none⟩ (.int .u64 (u v)) := ⟨_, rfl⟩
  have hs2 : g1 + 1 + 1 ≤ W2.heap.size := by rw [hW2]; first | (simp [World.setCell]; omega) | (simp [World.setCell, World.setRow]; omega) | exact hs1
  rw [← hW2] at P2 R2 B2 ⊢
  clear hW2 P1 R1 B1 hs1
  have Pc0 := P2.out.get 0 (.int .u64 (u x0)) rfl
  have Pc1 := P2.out.get 1 (.int .u64 (u x1)) rfl
  have Pc2 := P2.out.get 2 (.int .u64 (u x2)) rfl
  have Pc3 := P2.out.get 3 (.int .u64 (u x3)) rfl
  have Pc4 := P2.out.get 4 (.int .u64 (u x4)) rfl
  have Pc5 := P2.out.get 5 (.int .u64 (u x5)) rfl
  have Pc6 := P2.out.get 6 (.int .u64 (u x6)) rfl
  have Pc7 := P2.out.get 7 (.int .u64 (u x7)) rfl
  have Pc8 := P2.out.get 8 (.int .u64 (u pc)) rfl
  have Pc9 := P2.out.get 9 (.int .u64 (u tt)) rfl
  have Pc10 := P2.out.get 10 (.int .u64 (u sc)) rfl
  have Pc11 := P2.out.get 11 (.int .u64 (u v)) rfl
  have Pc12 := P2.out.get 12 (.int .u64 (u el)) rfl
  have Pc13 := P2.out.get 13 (.int .u64 (u es)) rfl
  have Pc14 := P2.out.get 14 (.int .u64 (u fa)) rfl
  go_wp2_with (refine wpList_storeB rfl 28 _ _ rfl (g1 + 1) #[.int .u64 (u x0), .int .u64 (u x1), .int .u64 (u x2), .int .u64 (u x3), .int .u64 (u x4), .int .u64 (u x5), .int .u64 (u x6), .int .u64 (u x7), .int .u64 (u pc), .int .u64 (u tt), .int .u64 (u sc), .int .u64 (u v), .int .u64 (u el), .int .u64 (u es), .int .u64 (u fa)] _ 28 rfl rfl (by kernel_rfl) (by rfl) (by simp [Value.oneCell']) R2.out ?_)
  have RR := (R2.out.put (cs' := #[.int .u64 (u x0), .int .u64 (u x1), .int .u64 (u x2), .int .u64 (u x3), .int .u64 (u x4), .int .u64 (u x5), .int .u64 (u x6), .int .u64 (u x7), .int .u64 (u pc), .int .u64 (u tt), .int .u64 (u sc), .int .u64 (u v), .int .u64 (u el), .int .u64 (u es), .int .u64 (u fa)]))
  refine bodyPost_ret (v := .agg #[.int .u64 (u x0), .int .u64 (u x1), .int .u64 (u x2), .int .u64 (u x3), .int .u64 (u x4), .int .u64 (u x5), .int .u64 (u x6), .int .u64 (u x7), .int .u64 (u pc), .int .u64 (u tt), .int .u64 (u sc), .int .u64 (u v), .int .u64 (u el), .int .u64 (u es), .int .u64 (u fa)]) (by simp [results, Try.results9, go_sem, RR.get 0 (.int .u64 (u x0)) rfl, RR.get 1 (.int .u64 (u x1)) rfl, RR.get 2 (.int .u64 (u x2)) rfl, RR.get 3 (.int .u64 (u x3)) rfl, RR.get 4 (.int .u64 (u x4)) rfl, RR.get 5 (.int .u64 (u x5)) rfl, RR.get 6 (.int .u64 (u x6)) rfl, RR.get 7 (.int .u64 (u x7)) rfl, RR.get 8 (.int .u64 (u pc)) rfl, RR.get 9 (.int .u64 (u tt)) rfl, RR.get 10 (.int .u64 (u sc)) rfl, RR.get 11 (.int .u64 (u v)) rfl, RR.get 12 (.int .u64 (u el)) rfl, RR.get 13 (.int .u64 (u es)) rfl, RR.get 14 (.int .u64 (u fa)) rfl]) rfl ?_
  exact ⟨rfl, (Below.rowB (g := g1 + 1) B2.out (cs := #[.int .u64 (u x0), .int .u64 (u x1), .int .u64 (u x2), .int .u64 (u x3), .int .u64 (u x4), .int .u64 (u x5), .int .u64 (u x6), .int .u64 (u x7), .int .u64 (u pc), .int .u64 (u tt), .int .u64 (u sc), .int .u64 (u v), .int .u64 (u el), .int .u64 (u es), .int .u64 (u fa)]) (show w.heap.size ≤ g1 + 1 by omega))⟩
set_option maxRecDepth 100000 in
set_option maxHeartbeats 3200000 in
theorem rset3_any (x0 x1 x2 x3 x4 x5 x6 x7 pc tt sc vb el es fa v : BitVec 64) (w : World) :
    Calls Try.prog 9 #[.agg #[.int .u64 (u x0), .int .u64 (u x1), .int .u64 (u x2), .int .u64 (u x3), .int .u64 (u x4), .int .u64 (u x5), .int .u64 (u x6), .int .u64 (u x7), .int .u64 (u pc), .int .u64 (u tt), .int .u64 (u sc), .int .u64 (u vb), .int .u64 (u el), .int .u64 (u es), .int .u64 (u fa)], .int .i64 3, .int .u64 (u v)] w fun e w' => e = .returned (.agg #[.int .u64 (u x0), .int .u64 (u x1), .int .u64 (u x2), .int .u64 (u x3), .int .u64 (u x4), .int .u64 (u x5), .int .u64 (u x6), .int .u64 (u x7), .int .u64 (u pc), .int .u64 (u tt), .int .u64 (u sc), .int .u64 (u vb), .int .u64 (u v), .int .u64 (u es), .int .u64 (u fa)]) ∧ Below w.heap.size w w' := by
  have htw : w.heap.size ≤ w.heap.size := Nat.le_refl _
  have B0 := Lib.hid (Below.refl w.heap.size w)
  go_enter Try.func9, Try.ntmps9
  go_upto_region 1 with fail
  have P1 := Lib.hid (((BoxAt.newAt (w) #[.int .u64 (u x0), .int .u64 (u x1), .int .u64 (u x2), .int .u64 (u x3), .int .u64 (u x4), .int .u64 (u x5), .int .u64 (u x6), .int .u64 (u x7), .int .u64 (u pc), .int .u64 (u tt), .int .u64 (u sc), .int .u64 (u vb), .int .u64 (u el), .int .u64 (u es), .int .u64 (u fa)] 28 (w.heap.size) (by first | omega | (simp; done) | (simp; omega))).alloc (.cells #[.int .u64 0, .int .u64 0, .int .u64 0, .int .u64 0, .int .u64 0, .int .u64 0, .int .u64 0, .int .u64 0, .int .u64 0, .int .u64 0, .int .u64 0, .int .u64 0, .int .u64 0, .int .u64 0, .int .u64 0] 28)))
  have R1 := Lib.hid ((BoxAt.newAt ((w).alloc (.cells #[.int .u64 (u x0), .int .u64 (u x1), .int .u64 (u x2), .int .u64 (u x3), .int .u64 (u x4), .int .u64 (u x5), .int .u64 (u x6), .int .u64 (u x7), .int .u64 (u pc), .int .u64 (u tt), .int .u64 (u sc), .int .u64 (u vb), .int .u64 (u el), .int .u64 (u es), .int .u64 (u fa)] 28)) #[.int .u64 0, .int .u64 0, .int .u64 0, .int .u64 0, .int .u64 0, .int .u64 0, .int .u64 0, .int .u64 0, .int .u64 0, .int .u64 0, .int .u64 0, .int .u64 0, .int .u64 0, .int .u64 0, .int .u64 0] 28 (w.heap.size + 1) (by first | omega | (simp; done) | (simp; omega))))
  have B1 := Lib.hid ((bel_alloc (bel_alloc B0.out (.cells #[.int .u64 (u x0), .int .u64 (u x1), .int .u64 (u x2), .int .u64 (u x3), .int .u64 (u x4), .int .u64 (u x5), .int .u64 (u x6), .int .u64 (u x7), .int .u64 (u pc), .int .u64 (u tt), .int .u64 (u sc), .int .u64 (u vb), .int .u64 (u el), .int .u64 (u es), .int .u64 (u fa)] 28)) (.cells #[.int .u64 0, .int .u64 0, .int .u64 0, .int .u64 0, .int .u64 0, .int .u64 0, .int .u64 0, .int .u64 0, .int .u64 0, .int .u64 0, .int .u64 0, .int .u64 0, .int .u64 0, .int .u64 0, .int .u64 0] 28)))
  obtain ⟨g1, hg1⟩ : ∃ g1, g1 = w.heap.size := ⟨_, rfl⟩
  obtain ⟨W1, hW1⟩ : ∃ W1, W1 = ((w).alloc (.cells #[.int .u64 (u x0), .int .u64 (u x1), .int .u64 (u x2), .int .u64 (u x3), .int .u64 (u x4), .int .u64 (u x5), .int .u64 (u x6), .int .u64 (u x7), .int .u64 (u pc), .int .u64 (u tt), .int .u64 (u sc), .int .u64 (u vb), .int .u64 (u el), .int .u64 (u es), .int .u64 (u fa)] 28)).alloc (.cells #[.int .u64 0, .int .u64 0, .int .u64 0, .int .u64 0, .int .u64 0, .int .u64 0, .int .u64 0, .int .u64 0, .int .u64 0, .int .u64 0, .int .u64 0, .int .u64 0, .int .u64 0, .int .u64 0, .int .u64 0] 28) := ⟨_, rfl⟩
  have hs1 : g1 + 1 + 1 ≤ W1.heap.size := by rw [hW1, hg1]; simp
  rw [← hW1] at P1 R1 B1 ⊢
  have hb1 : w.heap.size ≤ g1 := by omega
  rw [← hg1] at P1 R1 ⊢
  clear hg1
  clear hW1 B0
  have Pc12 := P1.out.get 12 (.int .u64 (u el)) rfl
  have Pz12 := P1.out.free 12
  go_upto_region 13 with fail
  clear Pc12 Pz12
  have P2 := Lib.hid ((P1.out.set 12 (.int .u64 (u v)) #[.int .u64 (u x0), .int .u64 (u x1), .int .u64 (u x2), .int .u64 (u x3), .int .u64 (u x4), .int .u64 (u x5), .int .u64 (u x6), .int .u64 (u x7), .int .u64 (u pc), .int .u64 (u tt), .int .u64 (u sc), .int .u64 (u vb), .int .u64 (u v), .int .u64 (u es), .int .u64 (u fa)] rfl))
  have R2 := Lib.hid ((R1.out.other ⟨g1, 12, none⟩ (.int .u64 (u v)) (show g1 + 1 ≠ g1 by omega)))
  have B2 := Lib.hid ((Below.setCell B1.out (p := ⟨g1, 12, none⟩) (show w.heap.size ≤ g1 by omega) (.int .u64 (u v))))
  obtain ⟨W2, hW2⟩ : ∃ W2, W2 = (W1).setCell ⟨g1, 12, none⟩ (.int .u64 (u v)) := ⟨_, rfl⟩
  have hs2 : g1 + 1 + 1 ≤ W2.heap.size := by rw [hW2]; first | (simp [World.setCell]; omega) | (simp [World.setCell, World.setRow]; omega) | exact hs1
  rw [← hW2] at P2 R2 B2 ⊢
  clear hW2 P1 R1 B1 hs1
  have Pc0 := P2.out.get 0 (.int .u64 (u x0)) rfl
  have Pc1 := P2.out.get 1 (.int .u64 (u x1)) rfl
  have Pc2 := P2.out.get 2 (.int .u64 (u x2)) rfl
  have Pc3 := P2.out.get 3 (.int .u64 (u x3)) rfl
  have Pc4 := P2.out.get 4 (.int .u64 (u x4)) rfl
  have Pc5 := P2.out.get 5 (.int .u64 (u x5)) rfl
  have Pc6 := P2.out.get 6 (.int .u64 (u x6)) rfl
  have Pc7 := P2.out.get 7 (.int .u64 (u x7)) rfl
  have Pc8 := P2.out.get 8 (.int .u64 (u pc)) rfl
  have Pc9 := P2.out.get 9 (.int .u64 (u tt)) rfl
  have Pc10 := P2.out.get 10 (.int .u64 (u sc)) rfl
  have Pc11 := P2.out.get 11 (.int .u64 (u vb)) rfl
  have Pc12 := P2.out.get 12 (.int .u64 (u v)) rfl
  have Pc13 := P2.out.get 13 (.int .u64 (u es)) rfl
  have Pc14 := P2.out.get 14 (.int .u64 (u fa)) rfl
  go_wp2_with (refine wpList_storeB rfl 28 _ _ rfl (g1 + 1) #[.int .u64 (u x0), .int .u64 (u x1), .int .u64 (u x2), .int .u64 (u x3), .int .u64 (u x4), .int .u64 (u x5), .int .u64 (u x6), .int .u64 (u x7), .int .u64 (u pc), .int .u64 (u tt), .int .u64 (u sc), .int .u64 (u vb), .int .u64 (u v), .int .u64 (u es), .int .u64 (u fa)] _ 28 rfl rfl (by kernel_rfl) (by rfl) (by simp [Value.oneCell']) R2.out ?_)
  have RR := (R2.out.put (cs' := #[.int .u64 (u x0), .int .u64 (u x1), .int .u64 (u x2), .int .u64 (u x3), .int .u64 (u x4), .int .u64 (u x5), .int .u64 (u x6), .int .u64 (u x7), .int .u64 (u pc), .int .u64 (u tt), .int .u64 (u sc), .int .u64 (u vb), .int .u64 (u v), .int .u64 (u es), .int .u64 (u fa)]))
  refine bodyPost_ret (v := .agg #[.int .u64 (u x0), .int .u64 (u x1), .int .u64 (u x2), .int .u64 (u x3), .int .u64 (u x4), .int .u64 (u x5), .int .u64 (u x6), .int .u64 (u x7), .int .u64 (u pc), .int .u64 (u tt), .int .u64 (u sc), .int .u64 (u vb), .int .u64 (u v), .int .u64 (u es), .int .u64 (u fa)]) (by simp [results, Try.results9, go_sem, RR.get 0 (.int .u64 (u x0)) rfl, RR.get 1 (.int .u64 (u x1)) rfl, RR.get 2 (.int .u64 (u x2)) rfl, RR.get 3 (.int .u64 (u x3)) rfl, RR.get 4 (.int .u64 (u x4)) rfl, RR.get 5 (.int .u64 (u x5)) rfl, RR.get 6 (.int .u64 (u x6)) rfl, RR.get 7 (.int .u64 (u x7)) rfl, RR.get 8 (.int .u64 (u pc)) rfl, RR.get 9 (.int .u64 (u tt)) rfl, RR.get 10 (.int .u64 (u sc)) rfl, RR.get 11 (.int .u64 (u vb)) rfl, RR.get 12 (.int .u64 (u v)) rfl, RR.get 13 (.int .u64 (u es)) rfl, RR.get 14 (.int .u64 (u fa)) rfl]) rfl ?_
  exact ⟨rfl, (Below.rowB (g := g1 + 1) B2.out (cs := #[.int .u64 (u x0), .int .u64 (u x1), .int .u64 (u x2), .int .u64 (u x3), .int .u64 (u x4), .int .u64 (u x5), .int .u64 (u x6), .int .u64 (u x7), .int .u64 (u pc), .int .u64 (u tt), .int .u64 (u sc), .int .u64 (u vb), .int .u64 (u v), .int .u64 (u es), .int .u64 (u fa)]) (show w.heap.size ≤ g1 + 1 by omega))⟩
set_option maxRecDepth 100000 in
set_option maxHeartbeats 3200000 in
theorem rset4_any (x0 x1 x2 x3 x4 x5 x6 x7 pc tt sc vb el es fa v : BitVec 64) (w : World) :
    Calls Try.prog 9 #[.agg #[.int .u64 (u x0), .int .u64 (u x1), .int .u64 (u x2), .int .u64 (u x3), .int .u64 (u x4), .int .u64 (u x5), .int .u64 (u x6), .int .u64 (u x7), .int .u64 (u pc), .int .u64 (u tt), .int .u64 (u sc), .int .u64 (u vb), .int .u64 (u el), .int .u64 (u es), .int .u64 (u fa)], .int .i64 4, .int .u64 (u v)] w fun e w' => e = .returned (.agg #[.int .u64 (u x0), .int .u64 (u x1), .int .u64 (u x2), .int .u64 (u x3), .int .u64 (u x4), .int .u64 (u x5), .int .u64 (u x6), .int .u64 (u x7), .int .u64 (u pc), .int .u64 (u tt), .int .u64 (u sc), .int .u64 (u vb), .int .u64 (u el), .int .u64 (u v), .int .u64 (u fa)]) ∧ Below w.heap.size w w' := by
  have htw : w.heap.size ≤ w.heap.size := Nat.le_refl _
  have B0 := Lib.hid (Below.refl w.heap.size w)
  go_enter Try.func9, Try.ntmps9
  go_upto_region 1 with fail
  have P1 := Lib.hid (((BoxAt.newAt (w) #[.int .u64 (u x0), .int .u64 (u x1), .int .u64 (u x2), .int .u64 (u x3), .int .u64 (u x4), .int .u64 (u x5), .int .u64 (u x6), .int .u64 (u x7), .int .u64 (u pc), .int .u64 (u tt), .int .u64 (u sc), .int .u64 (u vb), .int .u64 (u el), .int .u64 (u es), .int .u64 (u fa)] 28 (w.heap.size) (by first | omega | (simp; done) | (simp; omega))).alloc (.cells #[.int .u64 0, .int .u64 0, .int .u64 0, .int .u64 0, .int .u64 0, .int .u64 0, .int .u64 0, .int .u64 0, .int .u64 0, .int .u64 0, .int .u64 0, .int .u64 0, .int .u64 0, .int .u64 0, .int .u64 0] 28)))
  have R1 := Lib.hid ((BoxAt.newAt ((w).alloc (.cells #[.int .u64 (u x0), .int .u64 (u x1), .int .u64 (u x2), .int .u64 (u x3), .int .u64 (u x4), .int .u64 (u x5), .int .u64 (u x6), .int .u64 (u x7), .int .u64 (u pc), .int .u64 (u tt), .int .u64 (u sc), .int .u64 (u vb), .int .u64 (u el), .int .u64 (u es), .int .u64 (u fa)] 28)) #[.int .u64 0, .int .u64 0, .int .u64 0, .int .u64 0, .int .u64 0, .int .u64 0, .int .u64 0, .int .u64 0, .int .u64 0, .int .u64 0, .int .u64 0, .int .u64 0, .int .u64 0, .int .u64 0, .int .u64 0] 28 (w.heap.size + 1) (by first | omega | (simp; done) | (simp; omega))))
  have B1 := Lib.hid ((bel_alloc (bel_alloc B0.out (.cells #[.int .u64 (u x0), .int .u64 (u x1), .int .u64 (u x2), .int .u64 (u x3), .int .u64 (u x4), .int .u64 (u x5), .int .u64 (u x6), .int .u64 (u x7), .int .u64 (u pc), .int .u64 (u tt), .int .u64 (u sc), .int .u64 (u vb), .int .u64 (u el), .int .u64 (u es), .int .u64 (u fa)] 28)) (.cells #[.int .u64 0, .int .u64 0, .int .u64 0, .int .u64 0, .int .u64 0, .int .u64 0, .int .u64 0, .int .u64 0, .int .u64 0, .int .u64 0, .int .u64 0, .int .u64 0, .int .u64 0, .int .u64 0, .int .u64 0] 28)))
  obtain ⟨g1, hg1⟩ : ∃ g1, g1 = w.heap.size := ⟨_, rfl⟩
  obtain ⟨W1, hW1⟩ : ∃ W1, W1 = ((w).alloc (.cells #[.int .u64 (u x0), .int .u64 (u x1), .int .u64 (u x2), .int .u64 (u x3), .int .u64 (u x4), .int .u64 (u x5), .int .u64 (u x6), .int .u64 (u x7), .int .u64 (u pc), .int .u64 (u tt), .int .u64 (u sc), .int .u64 (u vb), .int .u64 (u el), .int .u64 (u es), .int .u64 (u fa)] 28)).alloc (.cells #[.int .u64 0, .int .u64 0, .int .u64 0, .int .u64 0, .int .u64 0, .int .u64 0, .int .u64 0, .int .u64 0, .int .u64 0, .int .u64 0, .int .u64 0, .int .u64 0, .int .u64 0, .int .u64 0, .int .u64 0] 28) := ⟨_, rfl⟩
  have hs1 : g1 + 1 + 1 ≤ W1.heap.size := by rw [hW1, hg1]; simp
  rw [← hW1] at P1 R1 B1 ⊢
  have hb1 : w.heap.size ≤ g1 := by omega
  rw [← hg1] at P1 R1 ⊢
  clear hg1
  clear hW1 B0
  have Pc13 := P1.out.get 13 (.int .u64 (u es)) rfl
  have Pz13 := P1.out.free 13
  go_upto_region 13 with fail
  clear Pc13 Pz13
  have P2 := Lib.hid ((P1.out.set 13 (.int .u64 (u v)) #[.int .u64 (u x0), .int .u64 (u x1), .int .u64 (u x2), .int .u64 (u x3), .int .u64 (u x4), .int .u64 (u x5), .int .u64 (u x6), .int .u64 (u x7), .int .u64 (u pc), .int .u64 (u tt), .int .u64 (u sc), .int .u64 (u vb), .int .u64 (u el), .int .u64 (u v), .int .u64 (u fa)] rfl))
  have R2 := Lib.hid ((R1.out.other ⟨g1, 13, none⟩ (.int .u64 (u v)) (show g1 + 1 ≠ g1 by omega)))
  have B2 := Lib.hid ((Below.setCell B1.out (p := ⟨g1, 13, none⟩) (show w.heap.size ≤ g1 by omega) (.int .u64 (u v))))
  obtain ⟨W2, hW2⟩ : ∃ W2, W2 = (W1).setCell ⟨g1, 13, none⟩ (.int .u64 (u v)) := ⟨_, rfl⟩
  have hs2 : g1 + 1 + 1 ≤ W2.heap.size := by rw [hW2]; first | (simp [World.setCell]; omega) | (simp [World.setCell, World.setRow]; omega) | exact hs1
  rw [← hW2] at P2 R2 B2 ⊢
  clear hW2 P1 R1 B1 hs1
  have Pc0 := P2.out.get 0 (.int .u64 (u x0)) rfl
  have Pc1 := P2.out.get 1 (.int .u64 (u x1)) rfl
  have Pc2 := P2.out.get 2 (.int .u64 (u x2)) rfl
  have Pc3 := P2.out.get 3 (.int .u64 (u x3)) rfl
  have Pc4 := P2.out.get 4 (.int .u64 (u x4)) rfl
  have Pc5 := P2.out.get 5 (.int .u64 (u x5)) rfl
  have Pc6 := P2.out.get 6 (.int .u64 (u x6)) rfl
  have Pc7 := P2.out.get 7 (.int .u64 (u x7)) rfl
  have Pc8 := P2.out.get 8 (.int .u64 (u pc)) rfl
  have Pc9 := P2.out.get 9 (.int .u64 (u tt)) rfl
  have Pc10 := P2.out.get 10 (.int .u64 (u sc)) rfl
  have Pc11 := P2.out.get 11 (.int .u64 (u vb)) rfl
  have Pc12 := P2.out.get 12 (.int .u64 (u el)) rfl
  have Pc13 := P2.out.get 13 (.int .u64 (u v)) rfl
  have Pc14 := P2.out.get 14 (.int .u64 (u fa)) rfl
  go_wp2_with (refine wpList_storeB rfl 28 _ _ rfl (g1 + 1) #[.int .u64 (u x0), .int .u64 (u x1), .int .u64 (u x2), .int .u64 (u x3), .int .u64 (u x4), .int .u64 (u x5), .int .u64 (u x6), .int .u64 (u x7), .int .u64 (u pc), .int .u64 (u tt), .int .u64 (u sc), .int .u64 (u vb), .int .u64 (u el), .int .u64 (u v), .int .u64 (u fa)] _ 28 rfl rfl (by kernel_rfl) (by rfl) (by simp [Value.oneCell']) R2.out ?_)
  have RR := (R2.out.put (cs' := #[.int .u64 (u x0), .int .u64 (u x1), .int .u64 (u x2), .int .u64 (u x3), .int .u64 (u x4), .int .u64 (u x5), .int .u64 (u x6), .int .u64 (u x7), .int .u64 (u pc), .int .u64 (u tt), .int .u64 (u sc), .int .u64 (u vb), .int .u64 (u el), .int .u64 (u v), .int .u64 (u fa)]))
  refine bodyPost_ret (v := .agg #[.int .u64 (u x0), .int .u64 (u x1), .int .u64 (u x2), .int .u64 (u x3), .int .u64 (u x4), .int .u64 (u x5), .int .u64 (u x6), .int .u64 (u x7), .int .u64 (u pc), .int .u64 (u tt), .int .u64 (u sc), .int .u64 (u vb), .int .u64 (u el), .int .u64 (u v), .int .u64 (u fa)]) (by simp [results, Try.results9, go_sem, RR.get 0 (.int .u64 (u x0)) rfl, RR.get 1 (.int .u64 (u x1)) rfl, RR.get 2 (.int .u64 (u x2)) rfl, RR.get 3 (.int .u64 (u x3)) rfl, RR.get 4 (.int .u64 (u x4)) rfl, RR.get 5 (.int .u64 (u x5)) rfl, RR.get 6 (.int .u64 (u x6)) rfl, RR.get 7 (.int .u64 (u x7)) rfl, RR.get 8 (.int .u64 (u pc)) rfl, RR.get 9 (.int .u64 (u tt)) rfl, RR.get 10 (.int .u64 (u sc)) rfl, RR.get 11 (.int .u64 (u vb)) rfl, RR.get 12 (.int .u64 (u el)) rfl, RR.get 13 (.int .u64 (u v)) rfl, RR.get 14 (.int .u64 (u fa)) rfl]) rfl ?_
  exact ⟨rfl, (Below.rowB (g := g1 + 1) B2.out (cs := #[.int .u64 (u x0), .int .u64 (u x1), .int .u64 (u x2), .int .u64 (u x3), .int .u64 (u x4), .int .u64 (u x5), .int .u64 (u x6), .int .u64 (u x7), .int .u64 (u pc), .int .u64 (u tt), .int .u64 (u sc), .int .u64 (u vb), .int .u64 (u el), .int .u64 (u v), .int .u64 (u fa)]) (show w.heap.size ≤ g1 + 1 by omega))⟩
set_option maxRecDepth 100000 in
set_option maxHeartbeats 3200000 in
theorem rset5_any (x0 x1 x2 x3 x4 x5 x6 x7 pc tt sc vb el es fa v : BitVec 64) (w : World) :
    Calls Try.prog 9 #[.agg #[.int .u64 (u x0), .int .u64 (u x1), .int .u64 (u x2), .int .u64 (u x3), .int .u64 (u x4), .int .u64 (u x5), .int .u64 (u x6), .int .u64 (u x7), .int .u64 (u pc), .int .u64 (u tt), .int .u64 (u sc), .int .u64 (u vb), .int .u64 (u el), .int .u64 (u es), .int .u64 (u fa)], .int .i64 5, .int .u64 (u v)] w fun e w' => e = .returned (.agg #[.int .u64 (u x0), .int .u64 (u x1), .int .u64 (u x2), .int .u64 (u x3), .int .u64 (u x4), .int .u64 (u x5), .int .u64 (u x6), .int .u64 (u x7), .int .u64 (u pc), .int .u64 (u tt), .int .u64 (u sc), .int .u64 (u vb), .int .u64 (u el), .int .u64 (u es), .int .u64 (u v)]) ∧ Below w.heap.size w w' := by
  have htw : w.heap.size ≤ w.heap.size := Nat.le_refl _
  have B0 := Lib.hid (Below.refl w.heap.size w)
  go_enter Try.func9, Try.ntmps9
  go_upto_region 1 with fail
  have P1 := Lib.hid (((BoxAt.newAt (w) #[.int .u64 (u x0), .int .u64 (u x1), .int .u64 (u x2), .int .u64 (u x3), .int .u64 (u x4), .int .u64 (u x5), .int .u64 (u x6), .int .u64 (u x7), .int .u64 (u pc), .int .u64 (u tt), .int .u64 (u sc), .int .u64 (u vb), .int .u64 (u el), .int .u64 (u es), .int .u64 (u fa)] 28 (w.heap.size) (by first | omega | (simp; done) | (simp; omega))).alloc (.cells #[.int .u64 0, .int .u64 0, .int .u64 0, .int .u64 0, .int .u64 0, .int .u64 0, .int .u64 0, .int .u64 0, .int .u64 0, .int .u64 0, .int .u64 0, .int .u64 0, .int .u64 0, .int .u64 0, .int .u64 0] 28)))
  have R1 := Lib.hid ((BoxAt.newAt ((w).alloc (.cells #[.int .u64 (u x0), .int .u64 (u x1), .int .u64 (u x2), .int .u64 (u x3), .int .u64 (u x4), .int .u64 (u x5), .int .u64 (u x6), .int .u64 (u x7), .int .u64 (u pc), .int .u64 (u tt), .int .u64 (u sc), .int .u64 (u vb), .int .u64 (u el), .int .u64 (u es), .int .u64 (u fa)] 28)) #[.int .u64 0, .int .u64 0, .int .u64 0, .int .u64 0, .int .u64 0, .int .u64 0, .int .u64 0, .int .u64 0, .int .u64 0, .int .u64 0, .int .u64 0, .int .u64 0, .int .u64 0, .int .u64 0, .int .u64 0] 28 (w.heap.size + 1) (by first | omega | (simp; done) | (simp; omega))))
  have B1 := Lib.hid ((bel_alloc (bel_alloc B0.out (.cells #[.int .u64 (u x0), .int .u64 (u x1), .int .u64 (u x2), .int .u64 (u x3), .int .u64 (u x4), .int .u64 (u x5), .int .u64 (u x6), .int .u64 (u x7), .int .u64 (u pc), .int .u64 (u tt), .int .u64 (u sc), .int .u64 (u vb), .int .u64 (u el), .int .u64 (u es), .int .u64 (u fa)] 28)) (.cells #[.int .u64 0, .int .u64 0, .int .u64 0, .int .u64 0, .int .u64 0, .int .u64 0, .int .u64 0, .int .u64 0, .int .u64 0, .int .u64 0, .int .u64 0, .int .u64 0, .int .u64 0, .int .u64 0, .int .u64 0] 28)))
  obtain ⟨g1, hg1⟩ : ∃ g1, g1 = w.heap.size := ⟨_, rfl⟩
  obtain ⟨W1, hW1⟩ : ∃ W1, W1 = ((w).alloc (.cells #[.int .u64 (u x0), .int .u64 (u x1), .int .u64 (u x2), .int .u64 (u x3), .int .u64 (u x4), .int .u64 (u x5), .int .u64 (u x6), .int .u64 (u x7), .int .u64 (u pc), .int .u64 (u tt), .int .u64 (u sc), .int .u64 (u vb), .int .u64 (u el), .int .u64 (u es), .int .u64 (u fa)] 28)).alloc (.cells #[.int .u64 0, .int .u64 0, .int .u64 0, .int .u64 0, .int .u64 0, .int .u64 0, .int .u64 0, .int .u64 0, .int .u64 0, .int .u64 0, .int .u64 0, .int .u64 0, .int .u64 0, .int .u64 0, .int .u64 0] 28) := ⟨_, rfl⟩
  have hs1 : g1 + 1 + 1 ≤ W1.heap.size := by rw [hW1, hg1]; simp
  rw [← hW1] at P1 R1 B1 ⊢
  have hb1 : w.heap.size ≤ g1 := by omega
  rw [← hg1] at P1 R1 ⊢
  clear hg1
  clear hW1 B0
  have Pc14 := P1.out.get 14 (.int .u64 (u fa)) rfl
  have Pz14 := P1.out.free 14
  go_upto_region 13 with fail
  clear Pc14 Pz14
  have P2 := Lib.hid ((P1.out.set 14 (.int .u64 (u v)) #[.int .u64 (u x0), .int .u64 (u x1), .int .u64 (u x2), .int .u64 (u x3), .int .u64 (u x4), .int .u64 (u x5), .int .u64 (u x6), .int .u64 (u x7), .int .u64 (u pc), .int .u64 (u tt), .int .u64 (u sc), .int .u64 (u vb), .int .u64 (u el), .int .u64 (u es), .int .u64 (u v)] rfl))
  have R2 := Lib.hid ((R1.out.other ⟨g1, 14, none⟩ (.int .u64 (u v)) (show g1 + 1 ≠ g1 by omega)))
  have B2 := Lib.hid ((Below.setCell B1.out (p := ⟨g1, 14, none⟩) (show w.heap.size ≤ g1 by omega) (.int .u64 (u v))))
  obtain ⟨W2, hW2⟩ : ∃ W2, W2 = (W1).setCell ⟨g1, 14, none⟩ (.int .u64 (u v)) := ⟨_, rfl⟩
  have hs2 : g1 + 1 + 1 ≤ W2.heap.size := by rw [hW2]; first | (simp [World.setCell]; omega) | (simp [World.setCell, World.setRow]; omega) | exact hs1
  rw [← hW2] at P2 R2 B2 ⊢
  clear hW2 P1 R1 B1 hs1
  have Pc0 := P2.out.get 0 (.int .u64 (u x0)) rfl
  have Pc1 := P2.out.get 1 (.int .u64 (u x1)) rfl
  have Pc2 := P2.out.get 2 (.int .u64 (u x2)) rfl
  have Pc3 := P2.out.get 3 (.int .u64 (u x3)) rfl
  have Pc4 := P2.out.get 4 (.int .u64 (u x4)) rfl
  have Pc5 := P2.out.get 5 (.int .u64 (u x5)) rfl
  have Pc6 := P2.out.get 6 (.int .u64 (u x6)) rfl
  have Pc7 := P2.out.get 7 (.int .u64 (u x7)) rfl
  have Pc8 := P2.out.get 8 (.int .u64 (u pc)) rfl
  have Pc9 := P2.out.get 9 (.int .u64 (u tt)) rfl
  have Pc10 := P2.out.get 10 (.int .u64 (u sc)) rfl
  have Pc11 := P2.out.get 11 (.int .u64 (u vb)) rfl
  have Pc12 := P2.out.get 12 (.int .u64 (u el)) rfl
  have Pc13 := P2.out.get 13 (.int .u64 (u es)) rfl
  have Pc14 := P2.out.get 14 (.int .u64 (u v)) rfl
  go_wp2_with (refine wpList_storeB rfl 28 _ _ rfl (g1 + 1) #[.int .u64 (u x0), .int .u64 (u x1), .int .u64 (u x2), .int .u64 (u x3), .int .u64 (u x4), .int .u64 (u x5), .int .u64 (u x6), .int .u64 (u x7), .int .u64 (u pc), .int .u64 (u tt), .int .u64 (u sc), .int .u64 (u vb), .int .u64 (u el), .int .u64 (u es), .int .u64 (u v)] _ 28 rfl rfl (by kernel_rfl) (by rfl) (by simp [Value.oneCell']) R2.out ?_)
  have RR := (R2.out.put (cs' := #[.int .u64 (u x0), .int .u64 (u x1), .int .u64 (u x2), .int .u64 (u x3), .int .u64 (u x4), .int .u64 (u x5), .int .u64 (u x6), .int .u64 (u x7), .int .u64 (u pc), .int .u64 (u tt), .int .u64 (u sc), .int .u64 (u vb), .int .u64 (u el), .int .u64 (u es), .int .u64 (u v)]))
  refine bodyPost_ret (v := .agg #[.int .u64 (u x0), .int .u64 (u x1), .int .u64 (u x2), .int .u64 (u x3), .int .u64 (u x4), .int .u64 (u x5), .int .u64 (u x6), .int .u64 (u x7), .int .u64 (u pc), .int .u64 (u tt), .int .u64 (u sc), .int .u64 (u vb), .int .u64 (u el), .int .u64 (u es), .int .u64 (u v)]) (by simp [results, Try.results9, go_sem, RR.get 0 (.int .u64 (u x0)) rfl, RR.get 1 (.int .u64 (u x1)) rfl, RR.get 2 (.int .u64 (u x2)) rfl, RR.get 3 (.int .u64 (u x3)) rfl, RR.get 4 (.int .u64 (u x4)) rfl, RR.get 5 (.int .u64 (u x5)) rfl, RR.get 6 (.int .u64 (u x6)) rfl, RR.get 7 (.int .u64 (u x7)) rfl, RR.get 8 (.int .u64 (u pc)) rfl, RR.get 9 (.int .u64 (u tt)) rfl, RR.get 10 (.int .u64 (u sc)) rfl, RR.get 11 (.int .u64 (u vb)) rfl, RR.get 12 (.int .u64 (u el)) rfl, RR.get 13 (.int .u64 (u es)) rfl, RR.get 14 (.int .u64 (u v)) rfl]) rfl ?_
  exact ⟨rfl, (Below.rowB (g := g1 + 1) B2.out (cs := #[.int .u64 (u x0), .int .u64 (u x1), .int .u64 (u x2), .int .u64 (u x3), .int .u64 (u x4), .int .u64 (u x5), .int .u64 (u x6), .int .u64 (u x7), .int .u64 (u pc), .int .u64 (u tt), .int .u64 (u sc), .int .u64 (u vb), .int .u64 (u el), .int .u64 (u es), .int .u64 (u v)]) (show w.heap.size ≤ g1 + 1 by omega))⟩
theorem rsetR_any (r : Rg) (k : Int) (v : BitVec 64) (h : numB k 5 = true) (w : World) :
    Calls Try.prog 9 #[regV r, .int .i64 k, .int .u64 (u v)] w fun e w' => e = .returned (regV (setR r k v)) ∧ Below w.heap.size w w' := by
  obtain ⟨x0, x1, x2, x3, x4, x5, x6, x7, pc, tt, sc, vb, el, es, fa⟩ := r
  rcases six_cases h with rfl | rfl | rfl | rfl | rfl | rfl
  · exact rset0_any x0 x1 x2 x3 x4 x5 x6 x7 pc tt sc vb el es fa v w
  · exact rset1_any x0 x1 x2 x3 x4 x5 x6 x7 pc tt sc vb el es fa v w
  · exact rset2_any x0 x1 x2 x3 x4 x5 x6 x7 pc tt sc vb el es fa v w
  · exact rset3_any x0 x1 x2 x3 x4 x5 x6 x7 pc tt sc vb el es fa v w
  · exact rset4_any x0 x1 x2 x3 x4 x5 x6 x7 pc tt sc vb el es fa v w
  · exact rset5_any x0 x1 x2 x3 x4 x5 x6 x7 pc tt sc vb el es fa v w
set_option maxRecDepth 100000 in
set_option maxHeartbeats 3200000 in
theorem rtrapR_any (r : Rg) (a b : BitVec 64) (w : World) :
    Calls Try.prog 14 #[regV r, .int .u64 (u a), .int .u64 (u b)] w fun e w' => e = .returned (regV (trapR r a b)) ∧ Below w.heap.size w w' := by
  obtain ⟨x0, x1, x2, x3, x4, x5, x6, x7, pc, tt, sc, vb, el, es, fa⟩ := r
  unfold regV
  show Calls _ _ #[.agg #[.int .u64 (u x0), .int .u64 (u x1), .int .u64 (u x2), .int .u64 (u x3), .int .u64 (u x4), .int .u64 (u x5), .int .u64 (u x6), .int .u64 (u x7), .int .u64 (u pc), .int .u64 (u tt), .int .u64 (u sc), .int .u64 (u vb), .int .u64 (u el), .int .u64 (u es), .int .u64 (u fa)], .int .u64 (u a), .int .u64 (u b)] _ (fun e w' => e = .returned (.agg #[.int .u64 (u x0), .int .u64 (u x1), .int .u64 (u x2), .int .u64 (u x3), .int .u64 (u x4), .int .u64 (u x5), .int .u64 (u x6), .int .u64 (u x7), .int .u64 (u vb), .int .u64 (u tt), .int .u64 (u sc), .int .u64 (u vb), .int .u64 (u pc), .int .u64 (u a), .int .u64 (u b)]) ∧ Below w.heap.size w w')
  have htw : w.heap.size ≤ w.heap.size := Nat.le_refl _
  have B0 := Lib.hid (Below.refl w.heap.size w)
  go_enter Try.func14, Try.ntmps14
  go_upto_region 1 with fail
  have P1 := Lib.hid (((BoxAt.newAt (w) #[.int .u64 (u x0), .int .u64 (u x1), .int .u64 (u x2), .int .u64 (u x3), .int .u64 (u x4), .int .u64 (u x5), .int .u64 (u x6), .int .u64 (u x7), .int .u64 (u pc), .int .u64 (u tt), .int .u64 (u sc), .int .u64 (u vb), .int .u64 (u el), .int .u64 (u es), .int .u64 (u fa)] 28 (w.heap.size) (by first | omega | (simp; done) | (simp; omega))).alloc (.cells #[.int .u64 0, .int .u64 0, .int .u64 0, .int .u64 0, .int .u64 0, .int .u64 0, .int .u64 0, .int .u64 0, .int .u64 0, .int .u64 0, .int .u64 0, .int .u64 0, .int .u64 0, .int .u64 0, .int .u64 0] 28)))
  have R1 := Lib.hid ((BoxAt.newAt ((w).alloc (.cells #[.int .u64 (u x0), .int .u64 (u x1), .int .u64 (u x2), .int .u64 (u x3), .int .u64 (u x4), .int .u64 (u x5), .int .u64 (u x6), .int .u64 (u x7), .int .u64 (u pc), .int .u64 (u tt), .int .u64 (u sc), .int .u64 (u vb), .int .u64 (u el), .int .u64 (u es), .int .u64 (u fa)] 28)) #[.int .u64 0, .int .u64 0, .int .u64 0, .int .u64 0, .int .u64 0, .int .u64 0, .int .u64 0, .int .u64 0, .int .u64 0, .int .u64 0, .int .u64 0, .int .u64 0, .int .u64 0, .int .u64 0, .int .u64 0] 28 (w.heap.size + 1) (by first | omega | (simp; done) | (simp; omega))))
  have B1 := Lib.hid ((bel_alloc (bel_alloc B0.out (.cells #[.int .u64 (u x0), .int .u64 (u x1), .int .u64 (u x2), .int .u64 (u x3), .int .u64 (u x4), .int .u64 (u x5), .int .u64 (u x6), .int .u64 (u x7), .int .u64 (u pc), .int .u64 (u tt), .int .u64 (u sc), .int .u64 (u vb), .int .u64 (u el), .int .u64 (u es), .int .u64 (u fa)] 28)) (.cells #[.int .u64 0, .int .u64 0, .int .u64 0, .int .u64 0, .int .u64 0, .int .u64 0, .int .u64 0, .int .u64 0, .int .u64 0, .int .u64 0, .int .u64 0, .int .u64 0, .int .u64 0, .int .u64 0, .int .u64 0] 28)))
  obtain ⟨g1, hg1⟩ : ∃ g1, g1 = w.heap.size := ⟨_, rfl⟩
  obtain ⟨W1, hW1⟩ : ∃ W1, W1 = ((w).alloc (.cells #[.int .u64 (u x0), .int .u64 (u x1), .int .u64 (u x2), .int .u64 (u x3), .int .u64 (u x4), .int .u64 (u x5), .int .u64 (u x6), .int .u64 (u x7), .int .u64 (u pc), .int .u64 (u tt), .int .u64 (u sc), .int .u64 (u vb), .int .u64 (u el), .int .u64 (u es), .int .u64 (u fa)] 28)).alloc (.cells #[.int .u64 0, .int .u64 0, .int .u64 0, .int .u64 0, .int .u64 0, .int .u64 0, .int .u64 0, .int .u64 0, .int .u64 0, .int .u64 0, .int .u64 0, .int .u64 0, .int .u64 0, .int .u64 0, .int .u64 0] 28) := ⟨_, rfl⟩
  have hs1 : g1 + 1 + 1 ≤ W1.heap.size := by rw [hW1, hg1]; simp
  rw [← hW1] at P1 R1 B1 ⊢
  have hb1 : w.heap.size ≤ g1 := by omega
  rw [← hg1] at P1 R1 ⊢
  clear hg1
  clear hW1 B0
  have Pc8 := P1.out.get 8 (.int .u64 (u pc)) rfl
  have Pc12 := P1.out.get 12 (.int .u64 (u el)) rfl
  have Pz12 := P1.out.free 12
  have Pc13 := (P1.out.set 12 (.int .u64 (u pc)) #[.int .u64 (u x0), .int .u64 (u x1), .int .u64 (u x2), .int .u64 (u x3), .int .u64 (u x4), .int .u64 (u x5), .int .u64 (u x6), .int .u64 (u x7), .int .u64 (u pc), .int .u64 (u tt), .int .u64 (u sc), .int .u64 (u vb), .int .u64 (u pc), .int .u64 (u es), .int .u64 (u fa)] rfl).get 13 (.int .u64 (u es)) rfl
  have Pz13 := (P1.out.set 12 (.int .u64 (u pc)) #[.int .u64 (u x0), .int .u64 (u x1), .int .u64 (u x2), .int .u64 (u x3), .int .u64 (u x4), .int .u64 (u x5), .int .u64 (u x6), .int .u64 (u x7), .int .u64 (u pc), .int .u64 (u tt), .int .u64 (u sc), .int .u64 (u vb), .int .u64 (u pc), .int .u64 (u es), .int .u64 (u fa)] rfl).free 13
  have Pc14 := ((P1.out.set 12 (.int .u64 (u pc)) #[.int .u64 (u x0), .int .u64 (u x1), .int .u64 (u x2), .int .u64 (u x3), .int .u64 (u x4), .int .u64 (u x5), .int .u64 (u x6), .int .u64 (u x7), .int .u64 (u pc), .int .u64 (u tt), .int .u64 (u sc), .int .u64 (u vb), .int .u64 (u pc), .int .u64 (u es), .int .u64 (u fa)] rfl).set 13 (.int .u64 (u a)) #[.int .u64 (u x0), .int .u64 (u x1), .int .u64 (u x2), .int .u64 (u x3), .int .u64 (u x4), .int .u64 (u x5), .int .u64 (u x6), .int .u64 (u x7), .int .u64 (u pc), .int .u64 (u tt), .int .u64 (u sc), .int .u64 (u vb), .int .u64 (u pc), .int .u64 (u a), .int .u64 (u fa)] rfl).get 14 (.int .u64 (u fa)) rfl
  have Pz14 := ((P1.out.set 12 (.int .u64 (u pc)) #[.int .u64 (u x0), .int .u64 (u x1), .int .u64 (u x2), .int .u64 (u x3), .int .u64 (u x4), .int .u64 (u x5), .int .u64 (u x6), .int .u64 (u x7), .int .u64 (u pc), .int .u64 (u tt), .int .u64 (u sc), .int .u64 (u vb), .int .u64 (u pc), .int .u64 (u es), .int .u64 (u fa)] rfl).set 13 (.int .u64 (u a)) #[.int .u64 (u x0), .int .u64 (u x1), .int .u64 (u x2), .int .u64 (u x3), .int .u64 (u x4), .int .u64 (u x5), .int .u64 (u x6), .int .u64 (u x7), .int .u64 (u pc), .int .u64 (u tt), .int .u64 (u sc), .int .u64 (u vb), .int .u64 (u pc), .int .u64 (u a), .int .u64 (u fa)] rfl).free 14
  go_upto_region 2 with fail
  clear Pc8 Pc12 Pz12 Pc13 Pz13 Pc14 Pz14
  have P2 := Lib.hid ((((P1.out.set 12 (.int .u64 (u pc)) #[.int .u64 (u x0), .int .u64 (u x1), .int .u64 (u x2), .int .u64 (u x3), .int .u64 (u x4), .int .u64 (u x5), .int .u64 (u x6), .int .u64 (u x7), .int .u64 (u pc), .int .u64 (u tt), .int .u64 (u sc), .int .u64 (u vb), .int .u64 (u pc), .int .u64 (u es), .int .u64 (u fa)] rfl).set 13 (.int .u64 (u a)) #[.int .u64 (u x0), .int .u64 (u x1), .int .u64 (u x2), .int .u64 (u x3), .int .u64 (u x4), .int .u64 (u x5), .int .u64 (u x6), .int .u64 (u x7), .int .u64 (u pc), .int .u64 (u tt), .int .u64 (u sc), .int .u64 (u vb), .int .u64 (u pc), .int .u64 (u a), .int .u64 (u fa)] rfl).set 14 (.int .u64 (u b)) #[.int .u64 (u x0), .int .u64 (u x1), .int .u64 (u x2), .int .u64 (u x3), .int .u64 (u x4), .int .u64 (u x5), .int .u64 (u x6), .int .u64 (u x7), .int .u64 (u pc), .int .u64 (u tt), .int .u64 (u sc), .int .u64 (u vb), .int .u64 (u pc), .int .u64 (u a), .int .u64 (u b)] rfl))
  have R2 := Lib.hid ((((R1.out.other ⟨g1, 12, none⟩ (.int .u64 (u pc)) (show g1 + 1 ≠ g1 by omega)).other ⟨g1, 13, none⟩ (.int .u64 (u a)) (show g1 + 1 ≠ g1 by omega)).other ⟨g1, 14, none⟩ (.int .u64 (u b)) (show g1 + 1 ≠ g1 by omega)))
  have B2 := Lib.hid ((Below.setCell (Below.setCell (Below.setCell B1.out (p := ⟨g1, 12, none⟩) (show w.heap.size ≤ g1 by omega) (.int .u64 (u pc))) (p := ⟨g1, 13, none⟩) (show w.heap.size ≤ g1 by omega) (.int .u64 (u a))) (p := ⟨g1, 14, none⟩) (show w.heap.size ≤ g1 by omega) (.int .u64 (u b))))
  obtain ⟨W2, hW2⟩ : ∃ W2, W2 = (((W1).setCell ⟨g1, 12, none⟩ (.int .u64 (u pc))).setCell ⟨g1, 13, none⟩ (.int .u64 (u a))).setCell ⟨g1, 14, none⟩ (.int .u64 (u b)) := ⟨_, rfl⟩
  have hs2 : g1 + 1 + 1 ≤ W2.heap.size := by rw [hW2]; first | (simp [World.setCell]; omega) | (simp [World.setCell, World.setRow]; omega) | exact hs1
  rw [← hW2] at P2 R2 B2 ⊢
  clear hW2 P1 R1 B1 hs1
  have Pc11 := P2.out.get 11 (.int .u64 (u vb)) rfl
  have Pc8 := P2.out.get 8 (.int .u64 (u pc)) rfl
  have Pz8 := P2.out.free 8
  go_upto_region 3 with fail
  clear Pc11 Pc8 Pz8
  have P3 := Lib.hid ((P2.out.set 8 (.int .u64 (u vb)) #[.int .u64 (u x0), .int .u64 (u x1), .int .u64 (u x2), .int .u64 (u x3), .int .u64 (u x4), .int .u64 (u x5), .int .u64 (u x6), .int .u64 (u x7), .int .u64 (u vb), .int .u64 (u tt), .int .u64 (u sc), .int .u64 (u vb), .int .u64 (u pc), .int .u64 (u a), .int .u64 (u b)] rfl))
  have R3 := Lib.hid ((R2.out.other ⟨g1, 8, none⟩ (.int .u64 (u vb)) (show g1 + 1 ≠ g1 by omega)))
  have B3 := Lib.hid ((Below.setCell B2.out (p := ⟨g1, 8, none⟩) (show w.heap.size ≤ g1 by omega) (.int .u64 (u vb))))
  obtain ⟨W3, hW3⟩ : ∃ W3, W3 = (W2).setCell ⟨g1, 8, none⟩ (.int .u64 (u vb)) := ⟨_, rfl⟩
  have hs3 : g1 + 1 + 1 ≤ W3.heap.size := by rw [hW3]; first | (simp [World.setCell]; omega) | (simp [World.setCell, World.setRow]; omega) | exact hs2
  rw [← hW3] at P3 R3 B3 ⊢
  clear hW3 P2 R2 B2 hs2
  have Pc0 := P3.out.get 0 (.int .u64 (u x0)) rfl
  have Pc1 := P3.out.get 1 (.int .u64 (u x1)) rfl
  have Pc2 := P3.out.get 2 (.int .u64 (u x2)) rfl
  have Pc3 := P3.out.get 3 (.int .u64 (u x3)) rfl
  have Pc4 := P3.out.get 4 (.int .u64 (u x4)) rfl
  have Pc5 := P3.out.get 5 (.int .u64 (u x5)) rfl
  have Pc6 := P3.out.get 6 (.int .u64 (u x6)) rfl
  have Pc7 := P3.out.get 7 (.int .u64 (u x7)) rfl
  have Pc8 := P3.out.get 8 (.int .u64 (u vb)) rfl
  have Pc9 := P3.out.get 9 (.int .u64 (u tt)) rfl
  have Pc10 := P3.out.get 10 (.int .u64 (u sc)) rfl
  have Pc11 := P3.out.get 11 (.int .u64 (u vb)) rfl
  have Pc12 := P3.out.get 12 (.int .u64 (u pc)) rfl
  have Pc13 := P3.out.get 13 (.int .u64 (u a)) rfl
  have Pc14 := P3.out.get 14 (.int .u64 (u b)) rfl
  go_wp2_with (refine wpList_storeB rfl 28 _ _ rfl (g1 + 1) #[.int .u64 (u x0), .int .u64 (u x1), .int .u64 (u x2), .int .u64 (u x3), .int .u64 (u x4), .int .u64 (u x5), .int .u64 (u x6), .int .u64 (u x7), .int .u64 (u vb), .int .u64 (u tt), .int .u64 (u sc), .int .u64 (u vb), .int .u64 (u pc), .int .u64 (u a), .int .u64 (u b)] _ 28 rfl rfl (by kernel_rfl) (by rfl) (by simp [Value.oneCell']) R3.out ?_)
  have RR := (R3.out.put (cs' := #[.int .u64 (u x0), .int .u64 (u x1), .int .u64 (u x2), .int .u64 (u x3), .int .u64 (u x4), .int .u64 (u x5), .int .u64 (u x6), .int .u64 (u x7), .int .u64 (u vb), .int .u64 (u tt), .int .u64 (u sc), .int .u64 (u vb), .int .u64 (u pc), .int .u64 (u a), .int .u64 (u b)]))
  refine bodyPost_ret (v := .agg #[.int .u64 (u x0), .int .u64 (u x1), .int .u64 (u x2), .int .u64 (u x3), .int .u64 (u x4), .int .u64 (u x5), .int .u64 (u x6), .int .u64 (u x7), .int .u64 (u vb), .int .u64 (u tt), .int .u64 (u sc), .int .u64 (u vb), .int .u64 (u pc), .int .u64 (u a), .int .u64 (u b)]) (by simp [results, Try.results14, go_sem, RR.get 0 (.int .u64 (u x0)) rfl, RR.get 1 (.int .u64 (u x1)) rfl, RR.get 2 (.int .u64 (u x2)) rfl, RR.get 3 (.int .u64 (u x3)) rfl, RR.get 4 (.int .u64 (u x4)) rfl, RR.get 5 (.int .u64 (u x5)) rfl, RR.get 6 (.int .u64 (u x6)) rfl, RR.get 7 (.int .u64 (u x7)) rfl, RR.get 8 (.int .u64 (u vb)) rfl, RR.get 9 (.int .u64 (u tt)) rfl, RR.get 10 (.int .u64 (u sc)) rfl, RR.get 11 (.int .u64 (u vb)) rfl, RR.get 12 (.int .u64 (u pc)) rfl, RR.get 13 (.int .u64 (u a)) rfl, RR.get 14 (.int .u64 (u b)) rfl]) rfl ?_
  exact ⟨rfl, (Below.rowB (g := g1 + 1) B3.out (cs := #[.int .u64 (u x0), .int .u64 (u x1), .int .u64 (u x2), .int .u64 (u x3), .int .u64 (u x4), .int .u64 (u x5), .int .u64 (u x6), .int .u64 (u x7), .int .u64 (u vb), .int .u64 (u tt), .int .u64 (u sc), .int .u64 (u vb), .int .u64 (u pc), .int .u64 (u a), .int .u64 (u b)]) (show w.heap.size ≤ g1 + 1 by omega))⟩
set_option maxRecDepth 100000 in
set_option maxHeartbeats 3200000 in
theorem rbackR_any (r : Rg) (w : World) :
    Calls Try.prog 16 #[regV r] w fun e w' => e = .returned (regV (backR r)) ∧ Below w.heap.size w w' := by
  obtain ⟨x0, x1, x2, x3, x4, x5, x6, x7, pc, tt, sc, vb, el, es, fa⟩ := r
  unfold regV
  show Calls _ _ #[.agg #[.int .u64 (u x0), .int .u64 (u x1), .int .u64 (u x2), .int .u64 (u x3), .int .u64 (u x4), .int .u64 (u x5), .int .u64 (u x6), .int .u64 (u x7), .int .u64 (u pc), .int .u64 (u tt), .int .u64 (u sc), .int .u64 (u vb), .int .u64 (u el), .int .u64 (u es), .int .u64 (u fa)]] _ (fun e w' => e = .returned (.agg #[.int .u64 (u x0), .int .u64 (u x1), .int .u64 (u x2), .int .u64 (u x3), .int .u64 (u x4), .int .u64 (u x5), .int .u64 (u x6), .int .u64 (u x7), .int .u64 (u el), .int .u64 (u tt), .int .u64 (u sc), .int .u64 (u vb), .int .u64 (u el), .int .u64 (u es), .int .u64 (u fa)]) ∧ Below w.heap.size w w')
  have htw : w.heap.size ≤ w.heap.size := Nat.le_refl _
  have B0 := Lib.hid (Below.refl w.heap.size w)
  go_enter Try.func16, Try.ntmps16
  go_upto_region 1 with fail
  have P1 := Lib.hid (((BoxAt.newAt (w) #[.int .u64 (u x0), .int .u64 (u x1), .int .u64 (u x2), .int .u64 (u x3), .int .u64 (u x4), .int .u64 (u x5), .int .u64 (u x6), .int .u64 (u x7), .int .u64 (u pc), .int .u64 (u tt), .int .u64 (u sc), .int .u64 (u vb), .int .u64 (u el), .int .u64 (u es), .int .u64 (u fa)] 28 (w.heap.size) (by first | omega | (simp; done) | (simp; omega))).alloc (.cells #[.int .u64 0, .int .u64 0, .int .u64 0, .int .u64 0, .int .u64 0, .int .u64 0, .int .u64 0, .int .u64 0, .int .u64 0, .int .u64 0, .int .u64 0, .int .u64 0, .int .u64 0, .int .u64 0, .int .u64 0] 28)))
  have R1 := Lib.hid ((BoxAt.newAt ((w).alloc (.cells #[.int .u64 (u x0), .int .u64 (u x1), .int .u64 (u x2), .int .u64 (u x3), .int .u64 (u x4), .int .u64 (u x5), .int .u64 (u x6), .int .u64 (u x7), .int .u64 (u pc), .int .u64 (u tt), .int .u64 (u sc), .int .u64 (u vb), .int .u64 (u el), .int .u64 (u es), .int .u64 (u fa)] 28)) #[.int .u64 0, .int .u64 0, .int .u64 0, .int .u64 0, .int .u64 0, .int .u64 0, .int .u64 0, .int .u64 0, .int .u64 0, .int .u64 0, .int .u64 0, .int .u64 0, .int .u64 0, .int .u64 0, .int .u64 0] 28 (w.heap.size + 1) (by first | omega | (simp; done) | (simp; omega))))
  have B1 := Lib.hid ((bel_alloc (bel_alloc B0.out (.cells #[.int .u64 (u x0), .int .u64 (u x1), .int .u64 (u x2), .int .u64 (u x3), .int .u64 (u x4), .int .u64 (u x5), .int .u64 (u x6), .int .u64 (u x7), .int .u64 (u pc), .int .u64 (u tt), .int .u64 (u sc), .int .u64 (u vb), .int .u64 (u el), .int .u64 (u es), .int .u64 (u fa)] 28)) (.cells #[.int .u64 0, .int .u64 0, .int .u64 0, .int .u64 0, .int .u64 0, .int .u64 0, .int .u64 0, .int .u64 0, .int .u64 0, .int .u64 0, .int .u64 0, .int .u64 0, .int .u64 0, .int .u64 0, .int .u64 0] 28)))
  obtain ⟨g1, hg1⟩ : ∃ g1, g1 = w.heap.size := ⟨_, rfl⟩
  obtain ⟨W1, hW1⟩ : ∃ W1, W1 = ((w).alloc (.cells #[.int .u64 (u x0), .int .u64 (u x1), .int .u64 (u x2), .int .u64 (u x3), .int .u64 (u x4), .int .u64 (u x5), .int .u64 (u x6), .int .u64 (u x7), .int .u64 (u pc), .int .u64 (u tt), .int .u64 (u sc), .int .u64 (u vb), .int .u64 (u el), .int .u64 (u es), .int .u64 (u fa)] 28)).alloc (.cells #[.int .u64 0, .int .u64 0, .int .u64 0, .int .u64 0, .int .u64 0, .int .u64 0, .int .u64 0, .int .u64 0, .int .u64 0, .int .u64 0, .int .u64 0, .int .u64 0, .int .u64 0, .int .u64 0, .int .u64 0] 28) := ⟨_, rfl⟩
  have hs1 : g1 + 1 + 1 ≤ W1.heap.size := by rw [hW1, hg1]; simp
  rw [← hW1] at P1 R1 B1 ⊢
  have hb1 : w.heap.size ≤ g1 := by omega
  rw [← hg1] at P1 R1 ⊢
  clear hg1
  clear hW1 B0
  have Pc12 := P1.out.get 12 (.int .u64 (u el)) rfl
  have Pc8 := P1.out.get 8 (.int .u64 (u pc)) rfl
  have Pz8 := P1.out.free 8
  go_upto_region 2 with fail
  clear Pc12 Pc8 Pz8
  have P2 := Lib.hid ((P1.out.set 8 (.int .u64 (u el)) #[.int .u64 (u x0), .int .u64 (u x1), .int .u64 (u x2), .int .u64 (u x3), .int .u64 (u x4), .int .u64 (u x5), .int .u64 (u x6), .int .u64 (u x7), .int .u64 (u el), .int .u64 (u tt), .int .u64 (u sc), .int .u64 (u vb), .int .u64 (u el), .int .u64 (u es), .int .u64 (u fa)] rfl))
  have R2 := Lib.hid ((R1.out.other ⟨g1, 8, none⟩ (.int .u64 (u el)) (show g1 + 1 ≠ g1 by omega)))
  have B2 := Lib.hid ((Below.setCell B1.out (p := ⟨g1, 8, none⟩) (show w.heap.size ≤ g1 by omega) (.int .u64 (u el))))
  obtain ⟨W2, hW2⟩ : ∃ W2, W2 = (W1).setCell ⟨g1, 8, none⟩ (.int .u64 (u el)) := ⟨_, rfl⟩
  have hs2 : g1 + 1 + 1 ≤ W2.heap.size := by rw [hW2]; first | (simp [World.setCell]; omega) | (simp [World.setCell, World.setRow]; omega) | exact hs1
  rw [← hW2] at P2 R2 B2 ⊢
  clear hW2 P1 R1 B1 hs1
  have Pc0 := P2.out.get 0 (.int .u64 (u x0)) rfl
  have Pc1 := P2.out.get 1 (.int .u64 (u x1)) rfl
  have Pc2 := P2.out.get 2 (.int .u64 (u x2)) rfl
  have Pc3 := P2.out.get 3 (.int .u64 (u x3)) rfl
  have Pc4 := P2.out.get 4 (.int .u64 (u x4)) rfl
  have Pc5 := P2.out.get 5 (.int .u64 (u x5)) rfl
  have Pc6 := P2.out.get 6 (.int .u64 (u x6)) rfl
  have Pc7 := P2.out.get 7 (.int .u64 (u x7)) rfl
  have Pc8 := P2.out.get 8 (.int .u64 (u el)) rfl
  have Pc9 := P2.out.get 9 (.int .u64 (u tt)) rfl
  have Pc10 := P2.out.get 10 (.int .u64 (u sc)) rfl
  have Pc11 := P2.out.get 11 (.int .u64 (u vb)) rfl
  have Pc12 := P2.out.get 12 (.int .u64 (u el)) rfl
  have Pc13 := P2.out.get 13 (.int .u64 (u es)) rfl
  have Pc14 := P2.out.get 14 (.int .u64 (u fa)) rfl
  go_wp2_with (refine wpList_storeB rfl 28 _ _ rfl (g1 + 1) #[.int .u64 (u x0), .int .u64 (u x1), .int .u64 (u x2), .int .u64 (u x3), .int .u64 (u x4), .int .u64 (u x5), .int .u64 (u x6), .int .u64 (u x7), .int .u64 (u el), .int .u64 (u tt), .int .u64 (u sc), .int .u64 (u vb), .int .u64 (u el), .int .u64 (u es), .int .u64 (u fa)] _ 28 rfl rfl (by kernel_rfl) (by rfl) (by simp [Value.oneCell']) R2.out ?_)
  have RR := (R2.out.put (cs' := #[.int .u64 (u x0), .int .u64 (u x1), .int .u64 (u x2), .int .u64 (u x3), .int .u64 (u x4), .int .u64 (u x5), .int .u64 (u x6), .int .u64 (u x7), .int .u64 (u el), .int .u64 (u tt), .int .u64 (u sc), .int .u64 (u vb), .int .u64 (u el), .int .u64 (u es), .int .u64 (u fa)]))
  refine bodyPost_ret (v := .agg #[.int .u64 (u x0), .int .u64 (u x1), .int .u64 (u x2), .int .u64 (u x3), .int .u64 (u x4), .int .u64 (u x5), .int .u64 (u x6), .int .u64 (u x7), .int .u64 (u el), .int .u64 (u tt), .int .u64 (u sc), .int .u64 (u vb), .int .u64 (u el), .int .u64 (u es), .int .u64 (u fa)]) (by simp [results, Try.results16, go_sem, RR.get 0 (.int .u64 (u x0)) rfl, RR.get 1 (.int .u64 (u x1)) rfl, RR.get 2 (.int .u64 (u x2)) rfl, RR.get 3 (.int .u64 (u x3)) rfl, RR.get 4 (.int .u64 (u x4)) rfl, RR.get 5 (.int .u64 (u x5)) rfl, RR.get 6 (.int .u64 (u x6)) rfl, RR.get 7 (.int .u64 (u x7)) rfl, RR.get 8 (.int .u64 (u el)) rfl, RR.get 9 (.int .u64 (u tt)) rfl, RR.get 10 (.int .u64 (u sc)) rfl, RR.get 11 (.int .u64 (u vb)) rfl, RR.get 12 (.int .u64 (u el)) rfl, RR.get 13 (.int .u64 (u es)) rfl, RR.get 14 (.int .u64 (u fa)) rfl]) rfl ?_
  exact ⟨rfl, (Below.rowB (g := g1 + 1) B2.out (cs := #[.int .u64 (u x0), .int .u64 (u x1), .int .u64 (u x2), .int .u64 (u x3), .int .u64 (u x4), .int .u64 (u x5), .int .u64 (u x6), .int .u64 (u x7), .int .u64 (u el), .int .u64 (u tt), .int .u64 (u sc), .int .u64 (u vb), .int .u64 (u el), .int .u64 (u es), .int .u64 (u fa)]) (show w.heap.size ≤ g1 + 1 by omega))⟩
end Go.Proofs.Ytlflfpohglgopaa
