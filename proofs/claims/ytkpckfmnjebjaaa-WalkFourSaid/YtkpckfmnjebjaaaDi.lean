/- The reference's Of, way by way. -/
import Derived.Test.YtkpckfmnjebjaaaDh
namespace Go.Proofs.Ytkpckfmnjebjaaa
open Go.ChangeShapes Go.WideShapes Go.ChangeAt Go.RowKit Go.Deep

set_option maxRecDepth 100000 in
set_option maxHeartbeats 1600000 in
theorem rof_none_bad (st lv : Int) (v : BitVec 64) (nn : Int) (w : World) 
    (F0 : Hid (∀ W, Calls Try.prog 36 #[.int .u64 (u v), .int .i64 0] W fun e w' => e = .returned (.bool false) ∧ W = w'))
    (HN : Hid (∀ W, Calls Try.prog 37 #[.int .u64 (u v), .int .i64 4, .int .i64 4] W fun e w' => e = .returned (.int .u64 nn) ∧ Below W.heap.size W w')) (qHN : 0 ≤ nn ∧ nn ≤ 4095)
    (HM : Hid (∀ W, Calls Try.prog 38 #[.int .i64 st, .int .i64 lv, .agg #[.int .i64 0, .int .i64 0, .bool false, .bool false, .bool false, .bool false, .bool false, .int .i64 0, .int .i64 nn]] W fun e w' => e = .returned (.bool false) ∧ Below W.heap.size W w')) :
    Calls Try.prog 25 #[.int .i64 st, .int .i64 lv, .int .u64 (u v)] w fun e w' => e = .returned (.agg #[.int .i64 0, .int .i64 0, .bool false, .bool false, .bool false, .bool false, .bool false, .int .i64 0, .int .i64 0]) ∧ Below w.heap.size w w' := by
  obtain ⟨qn0, qn1⟩ := qHN
  have R0 := Lib.hid ((BoxAt.new w #[.int .i64 0, .int .i64 0, .bool false, .bool false, .bool false, .bool false, .bool false, .int .i64 0, .int .i64 0] 33).alloc (.cells #[.int .i64 0, .int .i64 0, .bool false, .bool false, .bool false, .bool false, .bool false, .int .i64 0, .int .i64 0] 33))
  have D0 := Lib.hid (BoxAt.new (w.alloc (.cells #[.int .i64 0, .int .i64 0, .bool false, .bool false, .bool false, .bool false, .bool false, .int .i64 0, .int .i64 0] 33)) #[.int .i64 0, .int .i64 0, .bool false, .bool false, .bool false, .bool false, .bool false, .int .i64 0, .int .i64 0] 33)
  rw [show (w.alloc (.cells #[.int .i64 0, .int .i64 0, .bool false, .bool false, .bool false, .bool false, .bool false, .int .i64 0, .int .i64 0] 33)).heap.size = w.heap.size + 1 from by simp] at D0
  have B1 := Lib.hid (bel_alloc (bel_alloc (Below.refl w.heap.size w) (.cells #[.int .i64 0, .int .i64 0, .bool false, .bool false, .bool false, .bool false, .bool false, .int .i64 0, .int .i64 0] 33)) (.cells #[.int .i64 0, .int .i64 0, .bool false, .bool false, .bool false, .bool false, .bool false, .int .i64 0, .int .i64 0] 33))
  go_enter Try.func25, Try.ntmps25
  go_wp2_with (first | (go_at_call 36; refine (F0.out _).mono ?_; rintro e w' ⟨rfl, rfl⟩))
  refine (HN.out _).mono ?_
  rintro e w2 ⟨rfl, hb2⟩
  have R2 := Lib.hid (R0.out.below hb2)
  have D2 := Lib.hid (D0.out.below hb2)
  have B2 := Lib.hid (bel_trans B1.out hb2)
  clear R0 D0 B1 hb2
  have Dc8 := D2.out.get 8 (.int .i64 0) rfl
  have Dz8 := D2.out.free 8
  go_upto_region 11 with fail
  clear Dc8 Dz8
  have R3 := Lib.hid (R2.out.other ⟨w.heap.size + 1, 8, none⟩ (.int .i64 nn) (by first | assumption | (simp; done) | (simp; omega)))
  have D3 := Lib.hid (D2.out.set 8 (.int .i64 nn) #[.int .i64 0, .int .i64 0, .bool false, .bool false, .bool false, .bool false, .bool false, .int .i64 0, .int .i64 nn] rfl)
  have B3 := Lib.hid (Below.setCell B2.out (p := ⟨w.heap.size + 1, 8, none⟩) (by first | assumption | (simp; done) | (simp; omega)) (.int .i64 nn))
  clear R2 D2 B2
  obtain ⟨W7, hW7⟩ : ∃ W7, W7 = (w2.setCell ⟨w.heap.size + 1, 8, none⟩ (.int .i64 nn)) := ⟨_, rfl⟩
  rw [← hW7] at R3 D3 B3 ⊢
  clear hW7
  have Dc0 := D3.out.get 0 (.int .i64 0) rfl
  have Dc1 := D3.out.get 1 (.int .i64 0) rfl
  have Dc2 := D3.out.get 2 (.bool false) rfl
  have Dc3 := D3.out.get 3 (.bool false) rfl
  have Dc4 := D3.out.get 4 (.bool false) rfl
  have Dc5 := D3.out.get 5 (.bool false) rfl
  have Dc6 := D3.out.get 6 (.bool false) rfl
  have Dc7 := D3.out.get 7 (.int .i64 0) rfl
  have Dc8 := D3.out.get 8 (.int .i64 nn) rfl
  go_wp2_with fail
  clear Dc0 Dc1 Dc2 Dc3 Dc4 Dc5 Dc6 Dc7 Dc8
  refine (HM.out _).mono ?_
  rintro e w4 ⟨rfl, hb4⟩
  have R4 := Lib.hid (R3.out.below hb4)
  have D4 := Lib.hid (D3.out.below hb4)
  have B4 := Lib.hid (bel_trans B3.out hb4)
  clear R3 D3 B3 hb4
  have Rc0 := R4.out.get 0 (.int .i64 0) rfl
  have Rc1 := R4.out.get 1 (.int .i64 0) rfl
  have Rc2 := R4.out.get 2 (.bool false) rfl
  have Rc3 := R4.out.get 3 (.bool false) rfl
  have Rc4 := R4.out.get 4 (.bool false) rfl
  have Rc5 := R4.out.get 5 (.bool false) rfl
  have Rc6 := R4.out.get 6 (.bool false) rfl
  have Rc7 := R4.out.get 7 (.int .i64 0) rfl
  have Rc8 := R4.out.get 8 (.int .i64 0) rfl
  have Rz0 := R4.out.free 0
  have Rz1 := R4.out.free 1
  have Rz2 := R4.out.free 2
  have Rz3 := R4.out.free 3
  have Rz4 := R4.out.free 4
  have Rz5 := R4.out.free 5
  have Rz6 := R4.out.free 6
  have Rz7 := R4.out.free 7
  have Rz8 := R4.out.free 8
  go_wp2
  refine bodyPost_ret (v := .agg #[.int .i64 0, .int .i64 0, .bool false, .bool false, .bool false, .bool false, .bool false, .int .i64 0, .int .i64 0]) (by simp [results, Try.results25, go_sem, Rc0, Rc1, Rc2, Rc3, Rc4, Rc5, Rc6, Rc7, Rc8]) rfl ⟨rfl, ?_⟩
  repeat' (first | with_reducible exact B4.out | with_reducible refine Below.setCell ?_ (by first | (simp; done) | (simp; omega)) _)

set_option maxRecDepth 100000 in
set_option maxHeartbeats 1600000 in
theorem rof_none_other (st lv : Int) (v : BitVec 64) (nn : Int) (wd : BitVec 64) (w : World) 
    (F0 : Hid (∀ W, Calls Try.prog 36 #[.int .u64 (u v), .int .i64 0] W fun e w' => e = .returned (.bool false) ∧ W = w'))
    (HN : Hid (∀ W, Calls Try.prog 37 #[.int .u64 (u v), .int .i64 4, .int .i64 4] W fun e w' => e = .returned (.int .u64 nn) ∧ Below W.heap.size W w')) (qHN : 0 ≤ nn ∧ nn ≤ 4095)
    (HM : Hid (∀ W, Calls Try.prog 38 #[.int .i64 st, .int .i64 lv, .agg #[.int .i64 0, .int .i64 0, .bool false, .bool false, .bool false, .bool false, .bool false, .int .i64 0, .int .i64 nn]] W fun e w' => e = .returned (.bool true) ∧ Below W.heap.size W w'))
    (HW : Hid (∀ W, Calls Try.prog 39 #[.int .i64 st, .int .i64 lv, .agg #[.int .i64 0, .int .i64 0, .bool false, .bool false, .bool false, .bool false, .bool false, .int .i64 0, .int .i64 nn]] W fun e w' => e = .returned (.int .u64 (u wd)) ∧ Below W.heap.size W w'))
    (hq : (u wd != u v) = true) :
    Calls Try.prog 25 #[.int .i64 st, .int .i64 lv, .int .u64 (u v)] w fun e w' => e = .returned (.agg #[.int .i64 0, .int .i64 0, .bool false, .bool false, .bool false, .bool false, .bool false, .int .i64 0, .int .i64 0]) ∧ Below w.heap.size w w' := by
  obtain ⟨qn0, qn1⟩ := qHN
  have R0 := Lib.hid ((BoxAt.new w #[.int .i64 0, .int .i64 0, .bool false, .bool false, .bool false, .bool false, .bool false, .int .i64 0, .int .i64 0] 33).alloc (.cells #[.int .i64 0, .int .i64 0, .bool false, .bool false, .bool false, .bool false, .bool false, .int .i64 0, .int .i64 0] 33))
  have D0 := Lib.hid (BoxAt.new (w.alloc (.cells #[.int .i64 0, .int .i64 0, .bool false, .bool false, .bool false, .bool false, .bool false, .int .i64 0, .int .i64 0] 33)) #[.int .i64 0, .int .i64 0, .bool false, .bool false, .bool false, .bool false, .bool false, .int .i64 0, .int .i64 0] 33)
  rw [show (w.alloc (.cells #[.int .i64 0, .int .i64 0, .bool false, .bool false, .bool false, .bool false, .bool false, .int .i64 0, .int .i64 0] 33)).heap.size = w.heap.size + 1 from by simp] at D0
  have B1 := Lib.hid (bel_alloc (bel_alloc (Below.refl w.heap.size w) (.cells #[.int .i64 0, .int .i64 0, .bool false, .bool false, .bool false, .bool false, .bool false, .int .i64 0, .int .i64 0] 33)) (.cells #[.int .i64 0, .int .i64 0, .bool false, .bool false, .bool false, .bool false, .bool false, .int .i64 0, .int .i64 0] 33))
  go_enter Try.func25, Try.ntmps25
  go_wp2_with (first | (go_at_call 36; refine (F0.out _).mono ?_; rintro e w' ⟨rfl, rfl⟩))
  refine (HN.out _).mono ?_
  rintro e w2 ⟨rfl, hb2⟩
  have R2 := Lib.hid (R0.out.below hb2)
  have D2 := Lib.hid (D0.out.below hb2)
  have B2 := Lib.hid (bel_trans B1.out hb2)
  clear R0 D0 B1 hb2
  have Dc8 := D2.out.get 8 (.int .i64 0) rfl
  have Dz8 := D2.out.free 8
  go_upto_region 11 with fail
  clear Dc8 Dz8
  have R3 := Lib.hid (R2.out.other ⟨w.heap.size + 1, 8, none⟩ (.int .i64 nn) (by first | assumption | (simp; done) | (simp; omega)))
  have D3 := Lib.hid (D2.out.set 8 (.int .i64 nn) #[.int .i64 0, .int .i64 0, .bool false, .bool false, .bool false, .bool false, .bool false, .int .i64 0, .int .i64 nn] rfl)
  have B3 := Lib.hid (Below.setCell B2.out (p := ⟨w.heap.size + 1, 8, none⟩) (by first | assumption | (simp; done) | (simp; omega)) (.int .i64 nn))
  clear R2 D2 B2
  obtain ⟨W7, hW7⟩ : ∃ W7, W7 = (w2.setCell ⟨w.heap.size + 1, 8, none⟩ (.int .i64 nn)) := ⟨_, rfl⟩
  rw [← hW7] at R3 D3 B3 ⊢
  clear hW7
  have Dc0 := D3.out.get 0 (.int .i64 0) rfl
  have Dc1 := D3.out.get 1 (.int .i64 0) rfl
  have Dc2 := D3.out.get 2 (.bool false) rfl
  have Dc3 := D3.out.get 3 (.bool false) rfl
  have Dc4 := D3.out.get 4 (.bool false) rfl
  have Dc5 := D3.out.get 5 (.bool false) rfl
  have Dc6 := D3.out.get 6 (.bool false) rfl
  have Dc7 := D3.out.get 7 (.int .i64 0) rfl
  have Dc8 := D3.out.get 8 (.int .i64 nn) rfl
  go_wp2_with fail
  clear Dc0 Dc1 Dc2 Dc3 Dc4 Dc5 Dc6 Dc7 Dc8
  refine (HM.out _).mono ?_
  rintro e w4 ⟨rfl, hb4⟩
  have R4 := Lib.hid (R3.out.below hb4)
  have D4 := Lib.hid (D3.out.below hb4)
  have B4 := Lib.hid (bel_trans B3.out hb4)
  clear R3 D3 B3 hb4
  have Dc0 := D4.out.get 0 (.int .i64 0) rfl
  have Dc1 := D4.out.get 1 (.int .i64 0) rfl
  have Dc2 := D4.out.get 2 (.bool false) rfl
  have Dc3 := D4.out.get 3 (.bool false) rfl
  have Dc4 := D4.out.get 4 (.bool false) rfl
  have Dc5 := D4.out.get 5 (.bool false) rfl
  have Dc6 := D4.out.get 6 (.bool false) rfl
  have Dc7 := D4.out.get 7 (.int .i64 0) rfl
  have Dc8 := D4.out.get 8 (.int .i64 nn) rfl
  go_wp2_with fail
  clear Dc0 Dc1 Dc2 Dc3 Dc4 Dc5 Dc6 Dc7 Dc8
  refine (HW.out _).mono ?_
  rintro e w5 ⟨rfl, hb5⟩
  have R5 := Lib.hid (R4.out.below hb5)
  have D5 := Lib.hid (D4.out.below hb5)
  have B5 := Lib.hid (bel_trans B4.out hb5)
  clear R4 D4 B4 hb5
  have Rc0 := R5.out.get 0 (.int .i64 0) rfl
  have Rc1 := R5.out.get 1 (.int .i64 0) rfl
  have Rc2 := R5.out.get 2 (.bool false) rfl
  have Rc3 := R5.out.get 3 (.bool false) rfl
  have Rc4 := R5.out.get 4 (.bool false) rfl
  have Rc5 := R5.out.get 5 (.bool false) rfl
  have Rc6 := R5.out.get 6 (.bool false) rfl
  have Rc7 := R5.out.get 7 (.int .i64 0) rfl
  have Rc8 := R5.out.get 8 (.int .i64 0) rfl
  have Rz0 := R5.out.free 0
  have Rz1 := R5.out.free 1
  have Rz2 := R5.out.free 2
  have Rz3 := R5.out.free 3
  have Rz4 := R5.out.free 4
  have Rz5 := R5.out.free 5
  have Rz6 := R5.out.free 6
  have Rz7 := R5.out.free 7
  have Rz8 := R5.out.free 8
  go_wp2
  refine bodyPost_ret (v := .agg #[.int .i64 0, .int .i64 0, .bool false, .bool false, .bool false, .bool false, .bool false, .int .i64 0, .int .i64 0]) (by simp [results, Try.results25, go_sem, Rc0, Rc1, Rc2, Rc3, Rc4, Rc5, Rc6, Rc7, Rc8]) rfl ⟨rfl, ?_⟩
  repeat' (first | with_reducible exact B5.out | with_reducible refine Below.setCell ?_ (by first | (simp; done) | (simp; omega)) _)

set_option maxRecDepth 100000 in
set_option maxHeartbeats 1600000 in
theorem rof_none_yes (st lv : Int) (v : BitVec 64) (nn : Int) (wd : BitVec 64) (w : World) 
    (F0 : Hid (∀ W, Calls Try.prog 36 #[.int .u64 (u v), .int .i64 0] W fun e w' => e = .returned (.bool false) ∧ W = w'))
    (HN : Hid (∀ W, Calls Try.prog 37 #[.int .u64 (u v), .int .i64 4, .int .i64 4] W fun e w' => e = .returned (.int .u64 nn) ∧ Below W.heap.size W w')) (qHN : 0 ≤ nn ∧ nn ≤ 4095)
    (HM : Hid (∀ W, Calls Try.prog 38 #[.int .i64 st, .int .i64 lv, .agg #[.int .i64 0, .int .i64 0, .bool false, .bool false, .bool false, .bool false, .bool false, .int .i64 0, .int .i64 nn]] W fun e w' => e = .returned (.bool true) ∧ Below W.heap.size W w'))
    (HW : Hid (∀ W, Calls Try.prog 39 #[.int .i64 st, .int .i64 lv, .agg #[.int .i64 0, .int .i64 0, .bool false, .bool false, .bool false, .bool false, .bool false, .int .i64 0, .int .i64 nn]] W fun e w' => e = .returned (.int .u64 (u wd)) ∧ Below W.heap.size W w'))
    (hq : (u wd != u v) = false) :
    Calls Try.prog 25 #[.int .i64 st, .int .i64 lv, .int .u64 (u v)] w fun e w' => e = .returned (.agg #[.int .i64 0, .int .i64 0, .bool false, .bool false, .bool false, .bool false, .bool false, .int .i64 0, .int .i64 nn]) ∧ Below w.heap.size w w' := by
  obtain ⟨qn0, qn1⟩ := qHN
  have R0 := Lib.hid ((BoxAt.new w #[.int .i64 0, .int .i64 0, .bool false, .bool false, .bool false, .bool false, .bool false, .int .i64 0, .int .i64 0] 33).alloc (.cells #[.int .i64 0, .int .i64 0, .bool false, .bool false, .bool false, .bool false, .bool false, .int .i64 0, .int .i64 0] 33))
  have D0 := Lib.hid (BoxAt.new (w.alloc (.cells #[.int .i64 0, .int .i64 0, .bool false, .bool false, .bool false, .bool false, .bool false, .int .i64 0, .int .i64 0] 33)) #[.int .i64 0, .int .i64 0, .bool false, .bool false, .bool false, .bool false, .bool false, .int .i64 0, .int .i64 0] 33)
  rw [show (w.alloc (.cells #[.int .i64 0, .int .i64 0, .bool false, .bool false, .bool false, .bool false, .bool false, .int .i64 0, .int .i64 0] 33)).heap.size = w.heap.size + 1 from by simp] at D0
  have B1 := Lib.hid (bel_alloc (bel_alloc (Below.refl w.heap.size w) (.cells #[.int .i64 0, .int .i64 0, .bool false, .bool false, .bool false, .bool false, .bool false, .int .i64 0, .int .i64 0] 33)) (.cells #[.int .i64 0, .int .i64 0, .bool false, .bool false, .bool false, .bool false, .bool false, .int .i64 0, .int .i64 0] 33))
  go_enter Try.func25, Try.ntmps25
  go_wp2_with (first | (go_at_call 36; refine (F0.out _).mono ?_; rintro e w' ⟨rfl, rfl⟩))
  refine (HN.out _).mono ?_
  rintro e w2 ⟨rfl, hb2⟩
  have R2 := Lib.hid (R0.out.below hb2)
  have D2 := Lib.hid (D0.out.below hb2)
  have B2 := Lib.hid (bel_trans B1.out hb2)
  clear R0 D0 B1 hb2
  have Dc8 := D2.out.get 8 (.int .i64 0) rfl
  have Dz8 := D2.out.free 8
  go_upto_region 11 with fail
  clear Dc8 Dz8
  have R3 := Lib.hid (R2.out.other ⟨w.heap.size + 1, 8, none⟩ (.int .i64 nn) (by first | assumption | (simp; done) | (simp; omega)))
  have D3 := Lib.hid (D2.out.set 8 (.int .i64 nn) #[.int .i64 0, .int .i64 0, .bool false, .bool false, .bool false, .bool false, .bool false, .int .i64 0, .int .i64 nn] rfl)
  have B3 := Lib.hid (Below.setCell B2.out (p := ⟨w.heap.size + 1, 8, none⟩) (by first | assumption | (simp; done) | (simp; omega)) (.int .i64 nn))
  clear R2 D2 B2
  obtain ⟨W7, hW7⟩ : ∃ W7, W7 = (w2.setCell ⟨w.heap.size + 1, 8, none⟩ (.int .i64 nn)) := ⟨_, rfl⟩
  rw [← hW7] at R3 D3 B3 ⊢
  clear hW7
  have Dc0 := D3.out.get 0 (.int .i64 0) rfl
  have Dc1 := D3.out.get 1 (.int .i64 0) rfl
  have Dc2 := D3.out.get 2 (.bool false) rfl
  have Dc3 := D3.out.get 3 (.bool false) rfl
  have Dc4 := D3.out.get 4 (.bool false) rfl
  have Dc5 := D3.out.get 5 (.bool false) rfl
  have Dc6 := D3.out.get 6 (.bool false) rfl
  have Dc7 := D3.out.get 7 (.int .i64 0) rfl
  have Dc8 := D3.out.get 8 (.int .i64 nn) rfl
  go_wp2_with fail
  clear Dc0 Dc1 Dc2 Dc3 Dc4 Dc5 Dc6 Dc7 Dc8
  refine (HM.out _).mono ?_
  rintro e w4 ⟨rfl, hb4⟩
  have R4 := Lib.hid (R3.out.below hb4)
  have D4 := Lib.hid (D3.out.below hb4)
  have B4 := Lib.hid (bel_trans B3.out hb4)
  clear R3 D3 B3 hb4
  have Dc0 := D4.out.get 0 (.int .i64 0) rfl
  have Dc1 := D4.out.get 1 (.int .i64 0) rfl
  have Dc2 := D4.out.get 2 (.bool false) rfl
  have Dc3 := D4.out.get 3 (.bool false) rfl
  have Dc4 := D4.out.get 4 (.bool false) rfl
  have Dc5 := D4.out.get 5 (.bool false) rfl
  have Dc6 := D4.out.get 6 (.bool false) rfl
  have Dc7 := D4.out.get 7 (.int .i64 0) rfl
  have Dc8 := D4.out.get 8 (.int .i64 nn) rfl
  go_wp2_with fail
  clear Dc0 Dc1 Dc2 Dc3 Dc4 Dc5 Dc6 Dc7 Dc8
  refine (HW.out _).mono ?_
  rintro e w5 ⟨rfl, hb5⟩
  have R5 := Lib.hid (R4.out.below hb5)
  have D5 := Lib.hid (D4.out.below hb5)
  have B5 := Lib.hid (bel_trans B4.out hb5)
  clear R4 D4 B4 hb5
  have Rc0 := R5.out.get 0 (.int .i64 0) rfl
  have Rc1 := R5.out.get 1 (.int .i64 0) rfl
  have Rc2 := R5.out.get 2 (.bool false) rfl
  have Rc3 := R5.out.get 3 (.bool false) rfl
  have Rc4 := R5.out.get 4 (.bool false) rfl
  have Rc5 := R5.out.get 5 (.bool false) rfl
  have Rc6 := R5.out.get 6 (.bool false) rfl
  have Rc7 := R5.out.get 7 (.int .i64 0) rfl
  have Rc8 := R5.out.get 8 (.int .i64 0) rfl
  have Rz0 := R5.out.free 0
  have Rz1 := R5.out.free 1
  have Rz2 := R5.out.free 2
  have Rz3 := R5.out.free 3
  have Rz4 := R5.out.free 4
  have Rz5 := R5.out.free 5
  have Rz6 := R5.out.free 6
  have Rz7 := R5.out.free 7
  have Rz8 := R5.out.free 8
  have Dc0 := D5.out.get 0 (.int .i64 0) rfl
  have Dc1 := D5.out.get 1 (.int .i64 0) rfl
  have Dc2 := D5.out.get 2 (.bool false) rfl
  have Dc3 := D5.out.get 3 (.bool false) rfl
  have Dc4 := D5.out.get 4 (.bool false) rfl
  have Dc5 := D5.out.get 5 (.bool false) rfl
  have Dc6 := D5.out.get 6 (.bool false) rfl
  have Dc7 := D5.out.get 7 (.int .i64 0) rfl
  have Dc8 := D5.out.get 8 (.int .i64 nn) rfl
  go_wp2
  refine bodyPost_ret (v := .agg #[.int .i64 0, .int .i64 0, .bool false, .bool false, .bool false, .bool false, .bool false, .int .i64 0, .int .i64 nn]) (by simp [results, Try.results25, go_sem, Rc0, Rc1, Rc2, Rc3, Rc4, Rc5, Rc6, Rc7, Rc8]) rfl ⟨rfl, ?_⟩
  repeat' (first | with_reducible exact B5.out | with_reducible refine Below.setCell ?_ (by first | (simp; done) | (simp; omega)) _)

set_option maxRecDepth 100000 in
set_option maxHeartbeats 1600000 in
theorem rof_table_bad (st lv : Int) (v : BitVec 64) (nn : Int) (w : World) (hl : lv < 3)
    (F0 : Hid (∀ W, Calls Try.prog 36 #[.int .u64 (u v), .int .i64 0] W fun e w' => e = .returned (.bool true) ∧ W = w'))
    (F1 : Hid (∀ W, Calls Try.prog 36 #[.int .u64 (u v), .int .i64 1] W fun e w' => e = .returned (.bool true) ∧ W = w'))
    (HN : Hid (∀ W, Calls Try.prog 37 #[.int .u64 (u v), .int .i64 12, .int .i64 12] W fun e w' => e = .returned (.int .u64 nn) ∧ Below W.heap.size W w')) (qHN : 0 ≤ nn ∧ nn ≤ 4095)
    (HM : Hid (∀ W, Calls Try.prog 38 #[.int .i64 st, .int .i64 lv, .agg #[.int .i64 1, .int .i64 nn, .bool false, .bool false, .bool false, .bool false, .bool false, .int .i64 0, .int .i64 0]] W fun e w' => e = .returned (.bool false) ∧ Below W.heap.size W w')) :
    Calls Try.prog 25 #[.int .i64 st, .int .i64 lv, .int .u64 (u v)] w fun e w' => e = .returned (.agg #[.int .i64 0, .int .i64 0, .bool false, .bool false, .bool false, .bool false, .bool false, .int .i64 0, .int .i64 0]) ∧ Below w.heap.size w w' := by
  obtain ⟨qn0, qn1⟩ := qHN
  have R0 := Lib.hid ((BoxAt.new w #[.int .i64 0, .int .i64 0, .bool false, .bool false, .bool false, .bool false, .bool false, .int .i64 0, .int .i64 0] 33).alloc (.cells #[.int .i64 0, .int .i64 0, .bool false, .bool false, .bool false, .bool false, .bool false, .int .i64 0, .int .i64 0] 33))
  have D0 := Lib.hid (BoxAt.new (w.alloc (.cells #[.int .i64 0, .int .i64 0, .bool false, .bool false, .bool false, .bool false, .bool false, .int .i64 0, .int .i64 0] 33)) #[.int .i64 0, .int .i64 0, .bool false, .bool false, .bool false, .bool false, .bool false, .int .i64 0, .int .i64 0] 33)
  rw [show (w.alloc (.cells #[.int .i64 0, .int .i64 0, .bool false, .bool false, .bool false, .bool false, .bool false, .int .i64 0, .int .i64 0] 33)).heap.size = w.heap.size + 1 from by simp] at D0
  have B1 := Lib.hid (bel_alloc (bel_alloc (Below.refl w.heap.size w) (.cells #[.int .i64 0, .int .i64 0, .bool false, .bool false, .bool false, .bool false, .bool false, .int .i64 0, .int .i64 0] 33)) (.cells #[.int .i64 0, .int .i64 0, .bool false, .bool false, .bool false, .bool false, .bool false, .int .i64 0, .int .i64 0] 33))
  go_enter Try.func25, Try.ntmps25
  go_wp2_with (first | (go_at_call 36; first | ((with_reducible refine (F0.out _).mono ?_); rintro e w' ⟨rfl, rfl⟩) | ((with_reducible refine (F1.out _).mono ?_); rintro e w' ⟨rfl, rfl⟩)))
  refine (HN.out _).mono ?_
  rintro e w2 ⟨rfl, hb2⟩
  have R2 := Lib.hid (R0.out.below hb2)
  have D2 := Lib.hid (D0.out.below hb2)
  have B2 := Lib.hid (bel_trans B1.out hb2)
  clear R0 D0 B1 hb2
  have Dc0 := D2.out.get 0 (.int .i64 0) rfl
  have Dc1 := D2.out.get 1 (.int .i64 0) rfl
  have Dz0 := D2.out.free 0
  have Dz1 := D2.out.free 1
  go_upto_region 11 with fail
  clear Dc0 Dc1 Dz0 Dz1
  have R3 := Lib.hid (R2.out.other ⟨w.heap.size + 1, 0, none⟩ (.int .i64 1) (by first | assumption | (simp; done) | (simp; omega)))
  have D3 := Lib.hid (D2.out.set 0 (.int .i64 1) #[.int .i64 1, .int .i64 0, .bool false, .bool false, .bool false, .bool false, .bool false, .int .i64 0, .int .i64 0] rfl)
  have B3 := Lib.hid (Below.setCell B2.out (p := ⟨w.heap.size + 1, 0, none⟩) (by first | assumption | (simp; done) | (simp; omega)) (.int .i64 1))
  clear R2 D2 B2
  have R4 := Lib.hid (R3.out.other ⟨w.heap.size + 1, 1, none⟩ (.int .i64 nn) (by first | assumption | (simp; done) | (simp; omega)))
  have D4 := Lib.hid (D3.out.set 1 (.int .i64 nn) #[.int .i64 1, .int .i64 nn, .bool false, .bool false, .bool false, .bool false, .bool false, .int .i64 0, .int .i64 0] rfl)
  have B4 := Lib.hid (Below.setCell B3.out (p := ⟨w.heap.size + 1, 1, none⟩) (by first | assumption | (simp; done) | (simp; omega)) (.int .i64 nn))
  clear R3 D3 B3
  obtain ⟨W7, hW7⟩ : ∃ W7, W7 = ((w2.setCell ⟨w.heap.size + 1, 0, none⟩ (.int .i64 1)).setCell ⟨w.heap.size + 1, 1, none⟩ (.int .i64 nn)) := ⟨_, rfl⟩
  rw [← hW7] at R4 D4 B4 ⊢
  clear hW7
  have Dc0 := D4.out.get 0 (.int .i64 1) rfl
  have Dc1 := D4.out.get 1 (.int .i64 nn) rfl
  have Dc2 := D4.out.get 2 (.bool false) rfl
  have Dc3 := D4.out.get 3 (.bool false) rfl
  have Dc4 := D4.out.get 4 (.bool false) rfl
  have Dc5 := D4.out.get 5 (.bool false) rfl
  have Dc6 := D4.out.get 6 (.bool false) rfl
  have Dc7 := D4.out.get 7 (.int .i64 0) rfl
  have Dc8 := D4.out.get 8 (.int .i64 0) rfl
  go_wp2_with fail
  clear Dc0 Dc1 Dc2 Dc3 Dc4 Dc5 Dc6 Dc7 Dc8
  refine (HM.out _).mono ?_
  rintro e w5 ⟨rfl, hb5⟩
  have R5 := Lib.hid (R4.out.below hb5)
  have D5 := Lib.hid (D4.out.below hb5)
  have B5 := Lib.hid (bel_trans B4.out hb5)
  clear R4 D4 B4 hb5
  have Rc0 := R5.out.get 0 (.int .i64 0) rfl
  have Rc1 := R5.out.get 1 (.int .i64 0) rfl
  have Rc2 := R5.out.get 2 (.bool false) rfl
  have Rc3 := R5.out.get 3 (.bool false) rfl
  have Rc4 := R5.out.get 4 (.bool false) rfl
  have Rc5 := R5.out.get 5 (.bool false) rfl
  have Rc6 := R5.out.get 6 (.bool false) rfl
  have Rc7 := R5.out.get 7 (.int .i64 0) rfl
  have Rc8 := R5.out.get 8 (.int .i64 0) rfl
  have Rz0 := R5.out.free 0
  have Rz1 := R5.out.free 1
  have Rz2 := R5.out.free 2
  have Rz3 := R5.out.free 3
  have Rz4 := R5.out.free 4
  have Rz5 := R5.out.free 5
  have Rz6 := R5.out.free 6
  have Rz7 := R5.out.free 7
  have Rz8 := R5.out.free 8
  go_wp2
  refine bodyPost_ret (v := .agg #[.int .i64 0, .int .i64 0, .bool false, .bool false, .bool false, .bool false, .bool false, .int .i64 0, .int .i64 0]) (by simp [results, Try.results25, go_sem, Rc0, Rc1, Rc2, Rc3, Rc4, Rc5, Rc6, Rc7, Rc8]) rfl ⟨rfl, ?_⟩
  repeat' (first | with_reducible exact B5.out | with_reducible refine Below.setCell ?_ (by first | (simp; done) | (simp; omega)) _)

set_option maxRecDepth 100000 in
set_option maxHeartbeats 1600000 in
theorem rof_table_other (st lv : Int) (v : BitVec 64) (nn : Int) (wd : BitVec 64) (w : World) (hl : lv < 3)
    (F0 : Hid (∀ W, Calls Try.prog 36 #[.int .u64 (u v), .int .i64 0] W fun e w' => e = .returned (.bool true) ∧ W = w'))
    (F1 : Hid (∀ W, Calls Try.prog 36 #[.int .u64 (u v), .int .i64 1] W fun e w' => e = .returned (.bool true) ∧ W = w'))
    (HN : Hid (∀ W, Calls Try.prog 37 #[.int .u64 (u v), .int .i64 12, .int .i64 12] W fun e w' => e = .returned (.int .u64 nn) ∧ Below W.heap.size W w')) (qHN : 0 ≤ nn ∧ nn ≤ 4095)
    (HM : Hid (∀ W, Calls Try.prog 38 #[.int .i64 st, .int .i64 lv, .agg #[.int .i64 1, .int .i64 nn, .bool false, .bool false, .bool false, .bool false, .bool false, .int .i64 0, .int .i64 0]] W fun e w' => e = .returned (.bool true) ∧ Below W.heap.size W w'))
    (HW : Hid (∀ W, Calls Try.prog 39 #[.int .i64 st, .int .i64 lv, .agg #[.int .i64 1, .int .i64 nn, .bool false, .bool false, .bool false, .bool false, .bool false, .int .i64 0, .int .i64 0]] W fun e w' => e = .returned (.int .u64 (u wd)) ∧ Below W.heap.size W w'))
    (hq : (u wd != u v) = true) :
    Calls Try.prog 25 #[.int .i64 st, .int .i64 lv, .int .u64 (u v)] w fun e w' => e = .returned (.agg #[.int .i64 0, .int .i64 0, .bool false, .bool false, .bool false, .bool false, .bool false, .int .i64 0, .int .i64 0]) ∧ Below w.heap.size w w' := by
  obtain ⟨qn0, qn1⟩ := qHN
  have R0 := Lib.hid ((BoxAt.new w #[.int .i64 0, .int .i64 0, .bool false, .bool false, .bool false, .bool false, .bool false, .int .i64 0, .int .i64 0] 33).alloc (.cells #[.int .i64 0, .int .i64 0, .bool false, .bool false, .bool false, .bool false, .bool false, .int .i64 0, .int .i64 0] 33))
  have D0 := Lib.hid (BoxAt.new (w.alloc (.cells #[.int .i64 0, .int .i64 0, .bool false, .bool false, .bool false, .bool false, .bool false, .int .i64 0, .int .i64 0] 33)) #[.int .i64 0, .int .i64 0, .bool false, .bool false, .bool false, .bool false, .bool false, .int .i64 0, .int .i64 0] 33)
  rw [show (w.alloc (.cells #[.int .i64 0, .int .i64 0, .bool false, .bool false, .bool false, .bool false, .bool false, .int .i64 0, .int .i64 0] 33)).heap.size = w.heap.size + 1 from by simp] at D0
  have B1 := Lib.hid (bel_alloc (bel_alloc (Below.refl w.heap.size w) (.cells #[.int .i64 0, .int .i64 0, .bool false, .bool false, .bool false, .bool false, .bool false, .int .i64 0, .int .i64 0] 33)) (.cells #[.int .i64 0, .int .i64 0, .bool false, .bool false, .bool false, .bool false, .bool false, .int .i64 0, .int .i64 0] 33))
  go_enter Try.func25, Try.ntmps25
  go_wp2_with (first | (go_at_call 36; first | ((with_reducible refine (F0.out _).mono ?_); rintro e w' ⟨rfl, rfl⟩) | ((with_reducible refine (F1.out _).mono ?_); rintro e w' ⟨rfl, rfl⟩)))
  refine (HN.out _).mono ?_
  rintro e w2 ⟨rfl, hb2⟩
  have R2 := Lib.hid (R0.out.below hb2)
  have D2 := Lib.hid (D0.out.below hb2)
  have B2 := Lib.hid (bel_trans B1.out hb2)
  clear R0 D0 B1 hb2
  have Dc0 := D2.out.get 0 (.int .i64 0) rfl
  have Dc1 := D2.out.get 1 (.int .i64 0) rfl
  have Dz0 := D2.out.free 0
  have Dz1 := D2.out.free 1
  go_upto_region 11 with fail
  clear Dc0 Dc1 Dz0 Dz1
  have R3 := Lib.hid (R2.out.other ⟨w.heap.size + 1, 0, none⟩ (.int .i64 1) (by first | assumption | (simp; done) | (simp; omega)))
  have D3 := Lib.hid (D2.out.set 0 (.int .i64 1) #[.int .i64 1, .int .i64 0, .bool false, .bool false, .bool false, .bool false, .bool false, .int .i64 0, .int .i64 0] rfl)
  have B3 := Lib.hid (Below.setCell B2.out (p := ⟨w.heap.size + 1, 0, none⟩) (by first | assumption | (simp; done) | (simp; omega)) (.int .i64 1))
  clear R2 D2 B2
  have R4 := Lib.hid (R3.out.other ⟨w.heap.size + 1, 1, none⟩ (.int .i64 nn) (by first | assumption | (simp; done) | (simp; omega)))
  have D4 := Lib.hid (D3.out.set 1 (.int .i64 nn) #[.int .i64 1, .int .i64 nn, .bool false, .bool false, .bool false, .bool false, .bool false, .int .i64 0, .int .i64 0] rfl)
  have B4 := Lib.hid (Below.setCell B3.out (p := ⟨w.heap.size + 1, 1, none⟩) (by first | assumption | (simp; done) | (simp; omega)) (.int .i64 nn))
  clear R3 D3 B3
  obtain ⟨W7, hW7⟩ : ∃ W7, W7 = ((w2.setCell ⟨w.heap.size + 1, 0, none⟩ (.int .i64 1)).setCell ⟨w.heap.size + 1, 1, none⟩ (.int .i64 nn)) := ⟨_, rfl⟩
  rw [← hW7] at R4 D4 B4 ⊢
  clear hW7
  have Dc0 := D4.out.get 0 (.int .i64 1) rfl
  have Dc1 := D4.out.get 1 (.int .i64 nn) rfl
  have Dc2 := D4.out.get 2 (.bool false) rfl
  have Dc3 := D4.out.get 3 (.bool false) rfl
  have Dc4 := D4.out.get 4 (.bool false) rfl
  have Dc5 := D4.out.get 5 (.bool false) rfl
  have Dc6 := D4.out.get 6 (.bool false) rfl
  have Dc7 := D4.out.get 7 (.int .i64 0) rfl
  have Dc8 := D4.out.get 8 (.int .i64 0) rfl
  go_wp2_with fail
  clear Dc0 Dc1 Dc2 Dc3 Dc4 Dc5 Dc6 Dc7 Dc8
  refine (HM.out _).mono ?_
  rintro e w5 ⟨rfl, hb5⟩
  have R5 := Lib.hid (R4.out.below hb5)
  have D5 := Lib.hid (D4.out.below hb5)
  have B5 := Lib.hid (bel_trans B4.out hb5)
  clear R4 D4 B4 hb5
  have Dc0 := D5.out.get 0 (.int .i64 1) rfl
  have Dc1 := D5.out.get 1 (.int .i64 nn) rfl
  have Dc2 := D5.out.get 2 (.bool false) rfl
  have Dc3 := D5.out.get 3 (.bool false) rfl
  have Dc4 := D5.out.get 4 (.bool false) rfl
  have Dc5 := D5.out.get 5 (.bool false) rfl
  have Dc6 := D5.out.get 6 (.bool false) rfl
  have Dc7 := D5.out.get 7 (.int .i64 0) rfl
  have Dc8 := D5.out.get 8 (.int .i64 0) rfl
  go_wp2_with fail
  clear Dc0 Dc1 Dc2 Dc3 Dc4 Dc5 Dc6 Dc7 Dc8
  refine (HW.out _).mono ?_
  rintro e w6 ⟨rfl, hb6⟩
  have R6 := Lib.hid (R5.out.below hb6)
  have D6 := Lib.hid (D5.out.below hb6)
  have B6 := Lib.hid (bel_trans B5.out hb6)
  clear R5 D5 B5 hb6
  have Rc0 := R6.out.get 0 (.int .i64 0) rfl
  have Rc1 := R6.out.get 1 (.int .i64 0) rfl
  have Rc2 := R6.out.get 2 (.bool false) rfl
  have Rc3 := R6.out.get 3 (.bool false) rfl
  have Rc4 := R6.out.get 4 (.bool false) rfl
  have Rc5 := R6.out.get 5 (.bool false) rfl
  have Rc6 := R6.out.get 6 (.bool false) rfl
  have Rc7 := R6.out.get 7 (.int .i64 0) rfl
  have Rc8 := R6.out.get 8 (.int .i64 0) rfl
  have Rz0 := R6.out.free 0
  have Rz1 := R6.out.free 1
  have Rz2 := R6.out.free 2
  have Rz3 := R6.out.free 3
  have Rz4 := R6.out.free 4
  have Rz5 := R6.out.free 5
  have Rz6 := R6.out.free 6
  have Rz7 := R6.out.free 7
  have Rz8 := R6.out.free 8
  go_wp2
  refine bodyPost_ret (v := .agg #[.int .i64 0, .int .i64 0, .bool false, .bool false, .bool false, .bool false, .bool false, .int .i64 0, .int .i64 0]) (by simp [results, Try.results25, go_sem, Rc0, Rc1, Rc2, Rc3, Rc4, Rc5, Rc6, Rc7, Rc8]) rfl ⟨rfl, ?_⟩
  repeat' (first | with_reducible exact B6.out | with_reducible refine Below.setCell ?_ (by first | (simp; done) | (simp; omega)) _)

set_option maxRecDepth 100000 in
set_option maxHeartbeats 1600000 in
theorem rof_table_yes (st lv : Int) (v : BitVec 64) (nn : Int) (wd : BitVec 64) (w : World) (hl : lv < 3)
    (F0 : Hid (∀ W, Calls Try.prog 36 #[.int .u64 (u v), .int .i64 0] W fun e w' => e = .returned (.bool true) ∧ W = w'))
    (F1 : Hid (∀ W, Calls Try.prog 36 #[.int .u64 (u v), .int .i64 1] W fun e w' => e = .returned (.bool true) ∧ W = w'))
    (HN : Hid (∀ W, Calls Try.prog 37 #[.int .u64 (u v), .int .i64 12, .int .i64 12] W fun e w' => e = .returned (.int .u64 nn) ∧ Below W.heap.size W w')) (qHN : 0 ≤ nn ∧ nn ≤ 4095)
    (HM : Hid (∀ W, Calls Try.prog 38 #[.int .i64 st, .int .i64 lv, .agg #[.int .i64 1, .int .i64 nn, .bool false, .bool false, .bool false, .bool false, .bool false, .int .i64 0, .int .i64 0]] W fun e w' => e = .returned (.bool true) ∧ Below W.heap.size W w'))
    (HW : Hid (∀ W, Calls Try.prog 39 #[.int .i64 st, .int .i64 lv, .agg #[.int .i64 1, .int .i64 nn, .bool false, .bool false, .bool false, .bool false, .bool false, .int .i64 0, .int .i64 0]] W fun e w' => e = .returned (.int .u64 (u wd)) ∧ Below W.heap.size W w'))
    (hq : (u wd != u v) = false) :
    Calls Try.prog 25 #[.int .i64 st, .int .i64 lv, .int .u64 (u v)] w fun e w' => e = .returned (.agg #[.int .i64 1, .int .i64 nn, .bool false, .bool false, .bool false, .bool false, .bool false, .int .i64 0, .int .i64 0]) ∧ Below w.heap.size w w' := by
  obtain ⟨qn0, qn1⟩ := qHN
  have R0 := Lib.hid ((BoxAt.new w #[.int .i64 0, .int .i64 0, .bool false, .bool false, .bool false, .bool false, .bool false, .int .i64 0, .int .i64 0] 33).alloc (.cells #[.int .i64 0, .int .i64 0, .bool false, .bool false, .bool false, .bool false, .bool false, .int .i64 0, .int .i64 0] 33))
  have D0 := Lib.hid (BoxAt.new (w.alloc (.cells #[.int .i64 0, .int .i64 0, .bool false, .bool false, .bool false, .bool false, .bool false, .int .i64 0, .int .i64 0] 33)) #[.int .i64 0, .int .i64 0, .bool false, .bool false, .bool false, .bool false, .bool false, .int .i64 0, .int .i64 0] 33)
  rw [show (w.alloc (.cells #[.int .i64 0, .int .i64 0, .bool false, .bool false, .bool false, .bool false, .bool false, .int .i64 0, .int .i64 0] 33)).heap.size = w.heap.size + 1 from by simp] at D0
  have B1 := Lib.hid (bel_alloc (bel_alloc (Below.refl w.heap.size w) (.cells #[.int .i64 0, .int .i64 0, .bool false, .bool false, .bool false, .bool false, .bool false, .int .i64 0, .int .i64 0] 33)) (.cells #[.int .i64 0, .int .i64 0, .bool false, .bool false, .bool false, .bool false, .bool false, .int .i64 0, .int .i64 0] 33))
  go_enter Try.func25, Try.ntmps25
  go_wp2_with (first | (go_at_call 36; first | ((with_reducible refine (F0.out _).mono ?_); rintro e w' ⟨rfl, rfl⟩) | ((with_reducible refine (F1.out _).mono ?_); rintro e w' ⟨rfl, rfl⟩)))
  refine (HN.out _).mono ?_
  rintro e w2 ⟨rfl, hb2⟩
  have R2 := Lib.hid (R0.out.below hb2)
  have D2 := Lib.hid (D0.out.below hb2)
  have B2 := Lib.hid (bel_trans B1.out hb2)
  clear R0 D0 B1 hb2
  have Dc0 := D2.out.get 0 (.int .i64 0) rfl
  have Dc1 := D2.out.get 1 (.int .i64 0) rfl
  have Dz0 := D2.out.free 0
  have Dz1 := D2.out.free 1
  go_upto_region 11 with fail
  clear Dc0 Dc1 Dz0 Dz1
  have R3 := Lib.hid (R2.out.other ⟨w.heap.size + 1, 0, none⟩ (.int .i64 1) (by first | assumption | (simp; done) | (simp; omega)))
  have D3 := Lib.hid (D2.out.set 0 (.int .i64 1) #[.int .i64 1, .int .i64 0, .bool false, .bool false, .bool false, .bool false, .bool false, .int .i64 0, .int .i64 0] rfl)
  have B3 := Lib.hid (Below.setCell B2.out (p := ⟨w.heap.size + 1, 0, none⟩) (by first | assumption | (simp; done) | (simp; omega)) (.int .i64 1))
  clear R2 D2 B2
  have R4 := Lib.hid (R3.out.other ⟨w.heap.size + 1, 1, none⟩ (.int .i64 nn) (by first | assumption | (simp; done) | (simp; omega)))
  have D4 := Lib.hid (D3.out.set 1 (.int .i64 nn) #[.int .i64 1, .int .i64 nn, .bool false, .bool false, .bool false, .bool false, .bool false, .int .i64 0, .int .i64 0] rfl)
  have B4 := Lib.hid (Below.setCell B3.out (p := ⟨w.heap.size + 1, 1, none⟩) (by first | assumption | (simp; done) | (simp; omega)) (.int .i64 nn))
  clear R3 D3 B3
  obtain ⟨W7, hW7⟩ : ∃ W7, W7 = ((w2.setCell ⟨w.heap.size + 1, 0, none⟩ (.int .i64 1)).setCell ⟨w.heap.size + 1, 1, none⟩ (.int .i64 nn)) := ⟨_, rfl⟩
  rw [← hW7] at R4 D4 B4 ⊢
  clear hW7
  have Dc0 := D4.out.get 0 (.int .i64 1) rfl
  have Dc1 := D4.out.get 1 (.int .i64 nn) rfl
  have Dc2 := D4.out.get 2 (.bool false) rfl
  have Dc3 := D4.out.get 3 (.bool false) rfl
  have Dc4 := D4.out.get 4 (.bool false) rfl
  have Dc5 := D4.out.get 5 (.bool false) rfl
  have Dc6 := D4.out.get 6 (.bool false) rfl
  have Dc7 := D4.out.get 7 (.int .i64 0) rfl
  have Dc8 := D4.out.get 8 (.int .i64 0) rfl
  go_wp2_with fail
  clear Dc0 Dc1 Dc2 Dc3 Dc4 Dc5 Dc6 Dc7 Dc8
  refine (HM.out _).mono ?_
  rintro e w5 ⟨rfl, hb5⟩
  have R5 := Lib.hid (R4.out.below hb5)
  have D5 := Lib.hid (D4.out.below hb5)
  have B5 := Lib.hid (bel_trans B4.out hb5)
  clear R4 D4 B4 hb5
  have Dc0 := D5.out.get 0 (.int .i64 1) rfl
  have Dc1 := D5.out.get 1 (.int .i64 nn) rfl
  have Dc2 := D5.out.get 2 (.bool false) rfl
  have Dc3 := D5.out.get 3 (.bool false) rfl
  have Dc4 := D5.out.get 4 (.bool false) rfl
  have Dc5 := D5.out.get 5 (.bool false) rfl
  have Dc6 := D5.out.get 6 (.bool false) rfl
  have Dc7 := D5.out.get 7 (.int .i64 0) rfl
  have Dc8 := D5.out.get 8 (.int .i64 0) rfl
  go_wp2_with fail
  clear Dc0 Dc1 Dc2 Dc3 Dc4 Dc5 Dc6 Dc7 Dc8
  refine (HW.out _).mono ?_
  rintro e w6 ⟨rfl, hb6⟩
  have R6 := Lib.hid (R5.out.below hb6)
  have D6 := Lib.hid (D5.out.below hb6)
  have B6 := Lib.hid (bel_trans B5.out hb6)
  clear R5 D5 B5 hb6
  have Rc0 := R6.out.get 0 (.int .i64 0) rfl
  have Rc1 := R6.out.get 1 (.int .i64 0) rfl
  have Rc2 := R6.out.get 2 (.bool false) rfl
  have Rc3 := R6.out.get 3 (.bool false) rfl
  have Rc4 := R6.out.get 4 (.bool false) rfl
  have Rc5 := R6.out.get 5 (.bool false) rfl
  have Rc6 := R6.out.get 6 (.bool false) rfl
  have Rc7 := R6.out.get 7 (.int .i64 0) rfl
  have Rc8 := R6.out.get 8 (.int .i64 0) rfl
  have Rz0 := R6.out.free 0
  have Rz1 := R6.out.free 1
  have Rz2 := R6.out.free 2
  have Rz3 := R6.out.free 3
  have Rz4 := R6.out.free 4
  have Rz5 := R6.out.free 5
  have Rz6 := R6.out.free 6
  have Rz7 := R6.out.free 7
  have Rz8 := R6.out.free 8
  have Dc0 := D6.out.get 0 (.int .i64 1) rfl
  have Dc1 := D6.out.get 1 (.int .i64 nn) rfl
  have Dc2 := D6.out.get 2 (.bool false) rfl
  have Dc3 := D6.out.get 3 (.bool false) rfl
  have Dc4 := D6.out.get 4 (.bool false) rfl
  have Dc5 := D6.out.get 5 (.bool false) rfl
  have Dc6 := D6.out.get 6 (.bool false) rfl
  have Dc7 := D6.out.get 7 (.int .i64 0) rfl
  have Dc8 := D6.out.get 8 (.int .i64 0) rfl
  go_wp2
  refine bodyPost_ret (v := .agg #[.int .i64 1, .int .i64 nn, .bool false, .bool false, .bool false, .bool false, .bool false, .int .i64 0, .int .i64 0]) (by simp [results, Try.results25, go_sem, Rc0, Rc1, Rc2, Rc3, Rc4, Rc5, Rc6, Rc7, Rc8]) rfl ⟨rfl, ?_⟩
  repeat' (first | with_reducible exact B6.out | with_reducible refine Below.setCell ?_ (by first | (simp; done) | (simp; omega)) _)

set_option maxRecDepth 100000 in
set_option maxHeartbeats 1600000 in
theorem rof_leaff1_bad (lv : Int) (v : BitVec 64) (nn : Int) (b10 b54 b7 b11 : Bool) (w : World) 
    (F0 : Hid (∀ W, Calls Try.prog 36 #[.int .u64 (u v), .int .i64 0] W fun e w' => e = .returned (.bool true) ∧ W = w'))
    (F1 : Hid (∀ W, Calls Try.prog 36 #[.int .u64 (u v), .int .i64 1] W fun e w' => e = .returned (.bool false) ∧ W = w'))
    (HN : Hid (∀ W, Calls Try.prog 37 #[.int .u64 (u v), .int .i64 12, .int .i64 12] W fun e w' => e = .returned (.int .u64 nn) ∧ Below W.heap.size W w')) (qHN : 0 ≤ nn ∧ nn ≤ 4095)
    (F10 : Hid (∀ W, Calls Try.prog 36 #[.int .u64 (u v), .int .i64 10] W fun e w' => e = .returned (.bool b10) ∧ W = w'))
    (F54 : Hid (∀ W, Calls Try.prog 36 #[.int .u64 (u v), .int .i64 54] W fun e w' => e = .returned (.bool b54) ∧ W = w'))
    (F7 : Hid (∀ W, Calls Try.prog 36 #[.int .u64 (u v), .int .i64 7] W fun e w' => e = .returned (.bool b7) ∧ W = w'))
    (F11 : Hid (∀ W, Calls Try.prog 36 #[.int .u64 (u v), .int .i64 11] W fun e w' => e = .returned (.bool b11) ∧ W = w'))
    (HM : Hid (∀ W, Calls Try.prog 38 #[.int .i64 1, .int .i64 lv, .agg #[.int .i64 2, .int .i64 nn, .bool true, .bool (!b7), .bool (!b54), .bool b10, .bool b11, .int .i64 0, .int .i64 0]] W fun e w' => e = .returned (.bool false) ∧ Below W.heap.size W w')) :
    Calls Try.prog 25 #[.int .i64 1, .int .i64 lv, .int .u64 (u v)] w fun e w' => e = .returned (.agg #[.int .i64 0, .int .i64 0, .bool false, .bool false, .bool false, .bool false, .bool false, .int .i64 0, .int .i64 0]) ∧ Below w.heap.size w w' := by
  obtain ⟨qn0, qn1⟩ := qHN
  have R0 := Lib.hid ((BoxAt.new w #[.int .i64 0, .int .i64 0, .bool false, .bool false, .bool false, .bool false, .bool false, .int .i64 0, .int .i64 0] 33).alloc (.cells #[.int .i64 0, .int .i64 0, .bool false, .bool false, .bool false, .bool false, .bool false, .int .i64 0, .int .i64 0] 33))
  have D0 := Lib.hid (BoxAt.new (w.alloc (.cells #[.int .i64 0, .int .i64 0, .bool false, .bool false, .bool false, .bool false, .bool false, .int .i64 0, .int .i64 0] 33)) #[.int .i64 0, .int .i64 0, .bool false, .bool false, .bool false, .bool false, .bool false, .int .i64 0, .int .i64 0] 33)
  rw [show (w.alloc (.cells #[.int .i64 0, .int .i64 0, .bool false, .bool false, .bool false, .bool false, .bool false, .int .i64 0, .int .i64 0] 33)).heap.size = w.heap.size + 1 from by simp] at D0
  have B1 := Lib.hid (bel_alloc (bel_alloc (Below.refl w.heap.size w) (.cells #[.int .i64 0, .int .i64 0, .bool false, .bool false, .bool false, .bool false, .bool false, .int .i64 0, .int .i64 0] 33)) (.cells #[.int .i64 0, .int .i64 0, .bool false, .bool false, .bool false, .bool false, .bool false, .int .i64 0, .int .i64 0] 33))
  go_enter Try.func25, Try.ntmps25
  go_wp2_with (first | (go_at_call 36; first | ((with_reducible refine (F0.out _).mono ?_); rintro e w' ⟨rfl, rfl⟩) | ((with_reducible refine (F1.out _).mono ?_); rintro e w' ⟨rfl, rfl⟩)))
  refine (HN.out _).mono ?_
  rintro e w2 ⟨rfl, hb2⟩
  have R2 := Lib.hid (R0.out.below hb2)
  have D2 := Lib.hid (D0.out.below hb2)
  have B2 := Lib.hid (bel_trans B1.out hb2)
  clear R0 D0 B1 hb2
  have Dc0 := D2.out.get 0 (.int .i64 0) rfl
  have Dc1 := D2.out.get 1 (.int .i64 0) rfl
  have Dc2 := D2.out.get 2 (.bool false) rfl
  have Dc3 := D2.out.get 3 (.bool false) rfl
  have Dc4 := D2.out.get 4 (.bool false) rfl
  have Dc5 := D2.out.get 5 (.bool false) rfl
  have Dc6 := D2.out.get 6 (.bool false) rfl
  have Dc7 := D2.out.get 7 (.int .i64 0) rfl
  have Dc8 := D2.out.get 8 (.int .i64 0) rfl
  have Dz0 := D2.out.free 0
  have Dz1 := D2.out.free 1
  have Dz2 := D2.out.free 2
  have Dz3 := D2.out.free 3
  have Dz4 := D2.out.free 4
  have Dz5 := D2.out.free 5
  have Dz6 := D2.out.free 6
  have Dz7 := D2.out.free 7
  have Dz8 := D2.out.free 8
  go_upto_region 11 with (first | (go_at_call 36; first | ((with_reducible refine (F10.out _).mono ?_); rintro e w' ⟨rfl, rfl⟩) | ((with_reducible refine (F54.out _).mono ?_); rintro e w' ⟨rfl, rfl⟩) | ((with_reducible refine (F7.out _).mono ?_); rintro e w' ⟨rfl, rfl⟩) | ((with_reducible refine (F11.out _).mono ?_); rintro e w' ⟨rfl, rfl⟩)))
  clear Dc0 Dc1 Dc2 Dc3 Dc4 Dc5 Dc6 Dc7 Dc8 Dz0 Dz1 Dz2 Dz3 Dz4 Dz5 Dz6 Dz7 Dz8
  have R3 := Lib.hid (R2.out.other ⟨w.heap.size + 1, 0, none⟩ (.int .i64 2) (by first | assumption | (simp; done) | (simp; omega)))
  have D3 := Lib.hid (D2.out.set 0 (.int .i64 2) #[.int .i64 2, .int .i64 0, .bool false, .bool false, .bool false, .bool false, .bool false, .int .i64 0, .int .i64 0] rfl)
  have B3 := Lib.hid (Below.setCell B2.out (p := ⟨w.heap.size + 1, 0, none⟩) (by first | assumption | (simp; done) | (simp; omega)) (.int .i64 2))
  clear R2 D2 B2
  have R4 := Lib.hid (R3.out.other ⟨w.heap.size + 1, 1, none⟩ (.int .i64 nn) (by first | assumption | (simp; done) | (simp; omega)))
  have D4 := Lib.hid (D3.out.set 1 (.int .i64 nn) #[.int .i64 2, .int .i64 nn, .bool false, .bool false, .bool false, .bool false, .bool false, .int .i64 0, .int .i64 0] rfl)
  have B4 := Lib.hid (Below.setCell B3.out (p := ⟨w.heap.size + 1, 1, none⟩) (by first | assumption | (simp; done) | (simp; omega)) (.int .i64 nn))
  clear R3 D3 B3
  have R5 := Lib.hid (R4.out.other ⟨w.heap.size + 1, 5, none⟩ (.bool b10) (by first | assumption | (simp; done) | (simp; omega)))
  have D5 := Lib.hid (D4.out.set 5 (.bool b10) #[.int .i64 2, .int .i64 nn, .bool false, .bool false, .bool false, .bool b10, .bool false, .int .i64 0, .int .i64 0] rfl)
  have B5 := Lib.hid (Below.setCell B4.out (p := ⟨w.heap.size + 1, 5, none⟩) (by first | assumption | (simp; done) | (simp; omega)) (.bool b10))
  clear R4 D4 B4
  have R6 := Lib.hid (R5.out.other ⟨w.heap.size + 1, 4, none⟩ (.bool (!b54)) (by first | assumption | (simp; done) | (simp; omega)))
  have D6 := Lib.hid (D5.out.set 4 (.bool (!b54)) #[.int .i64 2, .int .i64 nn, .bool false, .bool false, .bool (!b54), .bool b10, .bool false, .int .i64 0, .int .i64 0] rfl)
  have B6 := Lib.hid (Below.setCell B5.out (p := ⟨w.heap.size + 1, 4, none⟩) (by first | assumption | (simp; done) | (simp; omega)) (.bool (!b54)))
  clear R5 D5 B5
  have R7 := Lib.hid (R6.out.other ⟨w.heap.size + 1, 2, none⟩ (.bool true) (by first | assumption | (simp; done) | (simp; omega)))
  have D7 := Lib.hid (D6.out.set 2 (.bool true) #[.int .i64 2, .int .i64 nn, .bool true, .bool false, .bool (!b54), .bool b10, .bool false, .int .i64 0, .int .i64 0] rfl)
  have B7 := Lib.hid (Below.setCell B6.out (p := ⟨w.heap.size + 1, 2, none⟩) (by first | assumption | (simp; done) | (simp; omega)) (.bool true))
  clear R6 D6 B6
  have R8 := Lib.hid (R7.out.other ⟨w.heap.size + 1, 3, none⟩ (.bool (!b7)) (by first | assumption | (simp; done) | (simp; omega)))
  have D8 := Lib.hid (D7.out.set 3 (.bool (!b7)) #[.int .i64 2, .int .i64 nn, .bool true, .bool (!b7), .bool (!b54), .bool b10, .bool false, .int .i64 0, .int .i64 0] rfl)
  have B8 := Lib.hid (Below.setCell B7.out (p := ⟨w.heap.size + 1, 3, none⟩) (by first | assumption | (simp; done) | (simp; omega)) (.bool (!b7)))
  clear R7 D7 B7
  have R9 := Lib.hid (R8.out.other ⟨w.heap.size + 1, 6, none⟩ (.bool b11) (by first | assumption | (simp; done) | (simp; omega)))
  have D9 := Lib.hid (D8.out.set 6 (.bool b11) #[.int .i64 2, .int .i64 nn, .bool true, .bool (!b7), .bool (!b54), .bool b10, .bool b11, .int .i64 0, .int .i64 0] rfl)
  have B9 := Lib.hid (Below.setCell B8.out (p := ⟨w.heap.size + 1, 6, none⟩) (by first | assumption | (simp; done) | (simp; omega)) (.bool b11))
  clear R8 D8 B8
  obtain ⟨W7, hW7⟩ : ∃ W7, W7 = (((((((w2.setCell ⟨w.heap.size + 1, 0, none⟩ (.int .i64 2)).setCell ⟨w.heap.size + 1, 1, none⟩ (.int .i64 nn)).setCell ⟨w.heap.size + 1, 5, none⟩ (.bool b10)).setCell ⟨w.heap.size + 1, 4, none⟩ (.bool (!b54))).setCell ⟨w.heap.size + 1, 2, none⟩ (.bool true)).setCell ⟨w.heap.size + 1, 3, none⟩ (.bool (!b7))).setCell ⟨w.heap.size + 1, 6, none⟩ (.bool b11)) := ⟨_, rfl⟩
  rw [← hW7] at R9 D9 B9 ⊢
  clear hW7
  have Dc0 := D9.out.get 0 (.int .i64 2) rfl
  have Dc1 := D9.out.get 1 (.int .i64 nn) rfl
  have Dc2 := D9.out.get 2 (.bool true) rfl
  have Dc3 := D9.out.get 3 (.bool (!b7)) rfl
  have Dc4 := D9.out.get 4 (.bool (!b54)) rfl
  have Dc5 := D9.out.get 5 (.bool b10) rfl
  have Dc6 := D9.out.get 6 (.bool b11) rfl
  have Dc7 := D9.out.get 7 (.int .i64 0) rfl
  have Dc8 := D9.out.get 8 (.int .i64 0) rfl
  go_wp2_with fail
  clear Dc0 Dc1 Dc2 Dc3 Dc4 Dc5 Dc6 Dc7 Dc8
  refine (HM.out _).mono ?_
  rintro e w10 ⟨rfl, hb10⟩
  have R10 := Lib.hid (R9.out.below hb10)
  have D10 := Lib.hid (D9.out.below hb10)
  have B10 := Lib.hid (bel_trans B9.out hb10)
  clear R9 D9 B9 hb10
  have Rc0 := R10.out.get 0 (.int .i64 0) rfl
  have Rc1 := R10.out.get 1 (.int .i64 0) rfl
  have Rc2 := R10.out.get 2 (.bool false) rfl
  have Rc3 := R10.out.get 3 (.bool false) rfl
  have Rc4 := R10.out.get 4 (.bool false) rfl
  have Rc5 := R10.out.get 5 (.bool false) rfl
  have Rc6 := R10.out.get 6 (.bool false) rfl
  have Rc7 := R10.out.get 7 (.int .i64 0) rfl
  have Rc8 := R10.out.get 8 (.int .i64 0) rfl
  have Rz0 := R10.out.free 0
  have Rz1 := R10.out.free 1
  have Rz2 := R10.out.free 2
  have Rz3 := R10.out.free 3
  have Rz4 := R10.out.free 4
  have Rz5 := R10.out.free 5
  have Rz6 := R10.out.free 6
  have Rz7 := R10.out.free 7
  have Rz8 := R10.out.free 8
  go_wp2
  refine bodyPost_ret (v := .agg #[.int .i64 0, .int .i64 0, .bool false, .bool false, .bool false, .bool false, .bool false, .int .i64 0, .int .i64 0]) (by simp [results, Try.results25, go_sem, Rc0, Rc1, Rc2, Rc3, Rc4, Rc5, Rc6, Rc7, Rc8]) rfl ⟨rfl, ?_⟩
  repeat' (first | with_reducible exact B10.out | with_reducible refine Below.setCell ?_ (by first | (simp; done) | (simp; omega)) _)

set_option maxRecDepth 100000 in
set_option maxHeartbeats 1600000 in
theorem rof_leaff1_other (lv : Int) (v : BitVec 64) (nn : Int) (b10 b54 b7 b11 : Bool) (wd : BitVec 64) (w : World) 
    (F0 : Hid (∀ W, Calls Try.prog 36 #[.int .u64 (u v), .int .i64 0] W fun e w' => e = .returned (.bool true) ∧ W = w'))
    (F1 : Hid (∀ W, Calls Try.prog 36 #[.int .u64 (u v), .int .i64 1] W fun e w' => e = .returned (.bool false) ∧ W = w'))
    (HN : Hid (∀ W, Calls Try.prog 37 #[.int .u64 (u v), .int .i64 12, .int .i64 12] W fun e w' => e = .returned (.int .u64 nn) ∧ Below W.heap.size W w')) (qHN : 0 ≤ nn ∧ nn ≤ 4095)
    (F10 : Hid (∀ W, Calls Try.prog 36 #[.int .u64 (u v), .int .i64 10] W fun e w' => e = .returned (.bool b10) ∧ W = w'))
    (F54 : Hid (∀ W, Calls Try.prog 36 #[.int .u64 (u v), .int .i64 54] W fun e w' => e = .returned (.bool b54) ∧ W = w'))
    (F7 : Hid (∀ W, Calls Try.prog 36 #[.int .u64 (u v), .int .i64 7] W fun e w' => e = .returned (.bool b7) ∧ W = w'))
    (F11 : Hid (∀ W, Calls Try.prog 36 #[.int .u64 (u v), .int .i64 11] W fun e w' => e = .returned (.bool b11) ∧ W = w'))
    (HM : Hid (∀ W, Calls Try.prog 38 #[.int .i64 1, .int .i64 lv, .agg #[.int .i64 2, .int .i64 nn, .bool true, .bool (!b7), .bool (!b54), .bool b10, .bool b11, .int .i64 0, .int .i64 0]] W fun e w' => e = .returned (.bool true) ∧ Below W.heap.size W w'))
    (HW : Hid (∀ W, Calls Try.prog 39 #[.int .i64 1, .int .i64 lv, .agg #[.int .i64 2, .int .i64 nn, .bool true, .bool (!b7), .bool (!b54), .bool b10, .bool b11, .int .i64 0, .int .i64 0]] W fun e w' => e = .returned (.int .u64 (u wd)) ∧ Below W.heap.size W w'))
    (hq : (u wd != u v) = true) :
    Calls Try.prog 25 #[.int .i64 1, .int .i64 lv, .int .u64 (u v)] w fun e w' => e = .returned (.agg #[.int .i64 0, .int .i64 0, .bool false, .bool false, .bool false, .bool false, .bool false, .int .i64 0, .int .i64 0]) ∧ Below w.heap.size w w' := by
  obtain ⟨qn0, qn1⟩ := qHN
  have R0 := Lib.hid ((BoxAt.new w #[.int .i64 0, .int .i64 0, .bool false, .bool false, .bool false, .bool false, .bool false, .int .i64 0, .int .i64 0] 33).alloc (.cells #[.int .i64 0, .int .i64 0, .bool false, .bool false, .bool false, .bool false, .bool false, .int .i64 0, .int .i64 0] 33))
  have D0 := Lib.hid (BoxAt.new (w.alloc (.cells #[.int .i64 0, .int .i64 0, .bool false, .bool false, .bool false, .bool false, .bool false, .int .i64 0, .int .i64 0] 33)) #[.int .i64 0, .int .i64 0, .bool false, .bool false, .bool false, .bool false, .bool false, .int .i64 0, .int .i64 0] 33)
  rw [show (w.alloc (.cells #[.int .i64 0, .int .i64 0, .bool false, .bool false, .bool false, .bool false, .bool false, .int .i64 0, .int .i64 0] 33)).heap.size = w.heap.size + 1 from by simp] at D0
  have B1 := Lib.hid (bel_alloc (bel_alloc (Below.refl w.heap.size w) (.cells #[.int .i64 0, .int .i64 0, .bool false, .bool false, .bool false, .bool false, .bool false, .int .i64 0, .int .i64 0] 33)) (.cells #[.int .i64 0, .int .i64 0, .bool false, .bool false, .bool false, .bool false, .bool false, .int .i64 0, .int .i64 0] 33))
  go_enter Try.func25, Try.ntmps25
  go_wp2_with (first | (go_at_call 36; first | ((with_reducible refine (F0.out _).mono ?_); rintro e w' ⟨rfl, rfl⟩) | ((with_reducible refine (F1.out _).mono ?_); rintro e w' ⟨rfl, rfl⟩)))
  refine (HN.out _).mono ?_
  rintro e w2 ⟨rfl, hb2⟩
  have R2 := Lib.hid (R0.out.below hb2)
  have D2 := Lib.hid (D0.out.below hb2)
  have B2 := Lib.hid (bel_trans B1.out hb2)
  clear R0 D0 B1 hb2
  have Dc0 := D2.out.get 0 (.int .i64 0) rfl
  have Dc1 := D2.out.get 1 (.int .i64 0) rfl
  have Dc2 := D2.out.get 2 (.bool false) rfl
  have Dc3 := D2.out.get 3 (.bool false) rfl
  have Dc4 := D2.out.get 4 (.bool false) rfl
  have Dc5 := D2.out.get 5 (.bool false) rfl
  have Dc6 := D2.out.get 6 (.bool false) rfl
  have Dc7 := D2.out.get 7 (.int .i64 0) rfl
  have Dc8 := D2.out.get 8 (.int .i64 0) rfl
  have Dz0 := D2.out.free 0
  have Dz1 := D2.out.free 1
  have Dz2 := D2.out.free 2
  have Dz3 := D2.out.free 3
  have Dz4 := D2.out.free 4
  have Dz5 := D2.out.free 5
  have Dz6 := D2.out.free 6
  have Dz7 := D2.out.free 7
  have Dz8 := D2.out.free 8
  go_upto_region 11 with (first | (go_at_call 36; first | ((with_reducible refine (F10.out _).mono ?_); rintro e w' ⟨rfl, rfl⟩) | ((with_reducible refine (F54.out _).mono ?_); rintro e w' ⟨rfl, rfl⟩) | ((with_reducible refine (F7.out _).mono ?_); rintro e w' ⟨rfl, rfl⟩) | ((with_reducible refine (F11.out _).mono ?_); rintro e w' ⟨rfl, rfl⟩)))
  clear Dc0 Dc1 Dc2 Dc3 Dc4 Dc5 Dc6 Dc7 Dc8 Dz0 Dz1 Dz2 Dz3 Dz4 Dz5 Dz6 Dz7 Dz8
  have R3 := Lib.hid (R2.out.other ⟨w.heap.size + 1, 0, none⟩ (.int .i64 2) (by first | assumption | (simp; done) | (simp; omega)))
  have D3 := Lib.hid (D2.out.set 0 (.int .i64 2) #[.int .i64 2, .int .i64 0, .bool false, .bool false, .bool false, .bool false, .bool false, .int .i64 0, .int .i64 0] rfl)
  have B3 := Lib.hid (Below.setCell B2.out (p := ⟨w.heap.size + 1, 0, none⟩) (by first | assumption | (simp; done) | (simp; omega)) (.int .i64 2))
  clear R2 D2 B2
  have R4 := Lib.hid (R3.out.other ⟨w.heap.size + 1, 1, none⟩ (.int .i64 nn) (by first | assumption | (simp; done) | (simp; omega)))
  have D4 := Lib.hid (D3.out.set 1 (.int .i64 nn) #[.int .i64 2, .int .i64 nn, .bool false, .bool false, .bool false, .bool false, .bool false, .int .i64 0, .int .i64 0] rfl)
  have B4 := Lib.hid (Below.setCell B3.out (p := ⟨w.heap.size + 1, 1, none⟩) (by first | assumption | (simp; done) | (simp; omega)) (.int .i64 nn))
  clear R3 D3 B3
  have R5 := Lib.hid (R4.out.other ⟨w.heap.size + 1, 5, none⟩ (.bool b10) (by first | assumption | (simp; done) | (simp; omega)))
  have D5 := Lib.hid (D4.out.set 5 (.bool b10) #[.int .i64 2, .int .i64 nn, .bool false, .bool false, .bool false, .bool b10, .bool false, .int .i64 0, .int .i64 0] rfl)
  have B5 := Lib.hid (Below.setCell B4.out (p := ⟨w.heap.size + 1, 5, none⟩) (by first | assumption | (simp; done) | (simp; omega)) (.bool b10))
  clear R4 D4 B4
  have R6 := Lib.hid (R5.out.other ⟨w.heap.size + 1, 4, none⟩ (.bool (!b54)) (by first | assumption | (simp; done) | (simp; omega)))
  have D6 := Lib.hid (D5.out.set 4 (.bool (!b54)) #[.int .i64 2, .int .i64 nn, .bool false, .bool false, .bool (!b54), .bool b10, .bool false, .int .i64 0, .int .i64 0] rfl)
  have B6 := Lib.hid (Below.setCell B5.out (p := ⟨w.heap.size + 1, 4, none⟩) (by first | assumption | (simp; done) | (simp; omega)) (.bool (!b54)))
  clear R5 D5 B5
  have R7 := Lib.hid (R6.out.other ⟨w.heap.size + 1, 2, none⟩ (.bool true) (by first | assumption | (simp; done) | (simp; omega)))
  have D7 := Lib.hid (D6.out.set 2 (.bool true) #[.int .i64 2, .int .i64 nn, .bool true, .bool false, .bool (!b54), .bool b10, .bool false, .int .i64 0, .int .i64 0] rfl)
  have B7 := Lib.hid (Below.setCell B6.out (p := ⟨w.heap.size + 1, 2, none⟩) (by first | assumption | (simp; done) | (simp; omega)) (.bool true))
  clear R6 D6 B6
  have R8 := Lib.hid (R7.out.other ⟨w.heap.size + 1, 3, none⟩ (.bool (!b7)) (by first | assumption | (simp; done) | (simp; omega)))
  have D8 := Lib.hid (D7.out.set 3 (.bool (!b7)) #[.int .i64 2, .int .i64 nn, .bool true, .bool (!b7), .bool (!b54), .bool b10, .bool false, .int .i64 0, .int .i64 0] rfl)
  have B8 := Lib.hid (Below.setCell B7.out (p := ⟨w.heap.size + 1, 3, none⟩) (by first | assumption | (simp; done) | (simp; omega)) (.bool (!b7)))
  clear R7 D7 B7
  have R9 := Lib.hid (R8.out.other ⟨w.heap.size + 1, 6, none⟩ (.bool b11) (by first | assumption | (simp; done) | (simp; omega)))
  have D9 := Lib.hid (D8.out.set 6 (.bool b11) #[.int .i64 2, .int .i64 nn, .bool true, .bool (!b7), .bool (!b54), .bool b10, .bool b11, .int .i64 0, .int .i64 0] rfl)
  have B9 := Lib.hid (Below.setCell B8.out (p := ⟨w.heap.size + 1, 6, none⟩) (by first | assumption | (simp; done) | (simp; omega)) (.bool b11))
  clear R8 D8 B8
  obtain ⟨W7, hW7⟩ : ∃ W7, W7 = (((((((w2.setCell ⟨w.heap.size + 1, 0, none⟩ (.int .i64 2)).setCell ⟨w.heap.size + 1, 1, none⟩ (.int .i64 nn)).setCell ⟨w.heap.size + 1, 5, none⟩ (.bool b10)).setCell ⟨w.heap.size + 1, 4, none⟩ (.bool (!b54))).setCell ⟨w.heap.size + 1, 2, none⟩ (.bool true)).setCell ⟨w.heap.size + 1, 3, none⟩ (.bool (!b7))).setCell ⟨w.heap.size + 1, 6, none⟩ (.bool b11)) := ⟨_, rfl⟩
  rw [← hW7] at R9 D9 B9 ⊢
  clear hW7
  have Dc0 := D9.out.get 0 (.int .i64 2) rfl
  have Dc1 := D9.out.get 1 (.int .i64 nn) rfl
  have Dc2 := D9.out.get 2 (.bool true) rfl
  have Dc3 := D9.out.get 3 (.bool (!b7)) rfl
  have Dc4 := D9.out.get 4 (.bool (!b54)) rfl
  have Dc5 := D9.out.get 5 (.bool b10) rfl
  have Dc6 := D9.out.get 6 (.bool b11) rfl
  have Dc7 := D9.out.get 7 (.int .i64 0) rfl
  have Dc8 := D9.out.get 8 (.int .i64 0) rfl
  go_wp2_with fail
  clear Dc0 Dc1 Dc2 Dc3 Dc4 Dc5 Dc6 Dc7 Dc8
  refine (HM.out _).mono ?_
  rintro e w10 ⟨rfl, hb10⟩
  have R10 := Lib.hid (R9.out.below hb10)
  have D10 := Lib.hid (D9.out.below hb10)
  have B10 := Lib.hid (bel_trans B9.out hb10)
  clear R9 D9 B9 hb10
  have Dc0 := D10.out.get 0 (.int .i64 2) rfl
  have Dc1 := D10.out.get 1 (.int .i64 nn) rfl
  have Dc2 := D10.out.get 2 (.bool true) rfl
  have Dc3 := D10.out.get 3 (.bool (!b7)) rfl
  have Dc4 := D10.out.get 4 (.bool (!b54)) rfl
  have Dc5 := D10.out.get 5 (.bool b10) rfl
  have Dc6 := D10.out.get 6 (.bool b11) rfl
  have Dc7 := D10.out.get 7 (.int .i64 0) rfl
  have Dc8 := D10.out.get 8 (.int .i64 0) rfl
  go_wp2_with fail
  clear Dc0 Dc1 Dc2 Dc3 Dc4 Dc5 Dc6 Dc7 Dc8
  refine (HW.out _).mono ?_
  rintro e w11 ⟨rfl, hb11⟩
  have R11 := Lib.hid (R10.out.below hb11)
  have D11 := Lib.hid (D10.out.below hb11)
  have B11 := Lib.hid (bel_trans B10.out hb11)
  clear R10 D10 B10 hb11
  have Rc0 := R11.out.get 0 (.int .i64 0) rfl
  have Rc1 := R11.out.get 1 (.int .i64 0) rfl
  have Rc2 := R11.out.get 2 (.bool false) rfl
  have Rc3 := R11.out.get 3 (.bool false) rfl
  have Rc4 := R11.out.get 4 (.bool false) rfl
  have Rc5 := R11.out.get 5 (.bool false) rfl
  have Rc6 := R11.out.get 6 (.bool false) rfl
  have Rc7 := R11.out.get 7 (.int .i64 0) rfl
  have Rc8 := R11.out.get 8 (.int .i64 0) rfl
  have Rz0 := R11.out.free 0
  have Rz1 := R11.out.free 1
  have Rz2 := R11.out.free 2
  have Rz3 := R11.out.free 3
  have Rz4 := R11.out.free 4
  have Rz5 := R11.out.free 5
  have Rz6 := R11.out.free 6
  have Rz7 := R11.out.free 7
  have Rz8 := R11.out.free 8
  go_wp2
  refine bodyPost_ret (v := .agg #[.int .i64 0, .int .i64 0, .bool false, .bool false, .bool false, .bool false, .bool false, .int .i64 0, .int .i64 0]) (by simp [results, Try.results25, go_sem, Rc0, Rc1, Rc2, Rc3, Rc4, Rc5, Rc6, Rc7, Rc8]) rfl ⟨rfl, ?_⟩
  repeat' (first | with_reducible exact B11.out | with_reducible refine Below.setCell ?_ (by first | (simp; done) | (simp; omega)) _)

set_option maxRecDepth 100000 in
set_option maxHeartbeats 1600000 in
theorem rof_leaff1_yes (lv : Int) (v : BitVec 64) (nn : Int) (b10 b54 b7 b11 : Bool) (wd : BitVec 64) (w : World) 
    (F0 : Hid (∀ W, Calls Try.prog 36 #[.int .u64 (u v), .int .i64 0] W fun e w' => e = .returned (.bool true) ∧ W = w'))
    (F1 : Hid (∀ W, Calls Try.prog 36 #[.int .u64 (u v), .int .i64 1] W fun e w' => e = .returned (.bool false) ∧ W = w'))
    (HN : Hid (∀ W, Calls Try.prog 37 #[.int .u64 (u v), .int .i64 12, .int .i64 12] W fun e w' => e = .returned (.int .u64 nn) ∧ Below W.heap.size W w')) (qHN : 0 ≤ nn ∧ nn ≤ 4095)
    (F10 : Hid (∀ W, Calls Try.prog 36 #[.int .u64 (u v), .int .i64 10] W fun e w' => e = .returned (.bool b10) ∧ W = w'))
    (F54 : Hid (∀ W, Calls Try.prog 36 #[.int .u64 (u v), .int .i64 54] W fun e w' => e = .returned (.bool b54) ∧ W = w'))
    (F7 : Hid (∀ W, Calls Try.prog 36 #[.int .u64 (u v), .int .i64 7] W fun e w' => e = .returned (.bool b7) ∧ W = w'))
    (F11 : Hid (∀ W, Calls Try.prog 36 #[.int .u64 (u v), .int .i64 11] W fun e w' => e = .returned (.bool b11) ∧ W = w'))
    (HM : Hid (∀ W, Calls Try.prog 38 #[.int .i64 1, .int .i64 lv, .agg #[.int .i64 2, .int .i64 nn, .bool true, .bool (!b7), .bool (!b54), .bool b10, .bool b11, .int .i64 0, .int .i64 0]] W fun e w' => e = .returned (.bool true) ∧ Below W.heap.size W w'))
    (HW : Hid (∀ W, Calls Try.prog 39 #[.int .i64 1, .int .i64 lv, .agg #[.int .i64 2, .int .i64 nn, .bool true, .bool (!b7), .bool (!b54), .bool b10, .bool b11, .int .i64 0, .int .i64 0]] W fun e w' => e = .returned (.int .u64 (u wd)) ∧ Below W.heap.size W w'))
    (hq : (u wd != u v) = false) :
    Calls Try.prog 25 #[.int .i64 1, .int .i64 lv, .int .u64 (u v)] w fun e w' => e = .returned (.agg #[.int .i64 2, .int .i64 nn, .bool true, .bool (!b7), .bool (!b54), .bool b10, .bool b11, .int .i64 0, .int .i64 0]) ∧ Below w.heap.size w w' := by
  obtain ⟨qn0, qn1⟩ := qHN
  have R0 := Lib.hid ((BoxAt.new w #[.int .i64 0, .int .i64 0, .bool false, .bool false, .bool false, .bool false, .bool false, .int .i64 0, .int .i64 0] 33).alloc (.cells #[.int .i64 0, .int .i64 0, .bool false, .bool false, .bool false, .bool false, .bool false, .int .i64 0, .int .i64 0] 33))
  have D0 := Lib.hid (BoxAt.new (w.alloc (.cells #[.int .i64 0, .int .i64 0, .bool false, .bool false, .bool false, .bool false, .bool false, .int .i64 0, .int .i64 0] 33)) #[.int .i64 0, .int .i64 0, .bool false, .bool false, .bool false, .bool false, .bool false, .int .i64 0, .int .i64 0] 33)
  rw [show (w.alloc (.cells #[.int .i64 0, .int .i64 0, .bool false, .bool false, .bool false, .bool false, .bool false, .int .i64 0, .int .i64 0] 33)).heap.size = w.heap.size + 1 from by simp] at D0
  have B1 := Lib.hid (bel_alloc (bel_alloc (Below.refl w.heap.size w) (.cells #[.int .i64 0, .int .i64 0, .bool false, .bool false, .bool false, .bool false, .bool false, .int .i64 0, .int .i64 0] 33)) (.cells #[.int .i64 0, .int .i64 0, .bool false, .bool false, .bool false, .bool false, .bool false, .int .i64 0, .int .i64 0] 33))
  go_enter Try.func25, Try.ntmps25
  go_wp2_with (first | (go_at_call 36; first | ((with_reducible refine (F0.out _).mono ?_); rintro e w' ⟨rfl, rfl⟩) | ((with_reducible refine (F1.out _).mono ?_); rintro e w' ⟨rfl, rfl⟩)))
  refine (HN.out _).mono ?_
  rintro e w2 ⟨rfl, hb2⟩
  have R2 := Lib.hid (R0.out.below hb2)
  have D2 := Lib.hid (D0.out.below hb2)
  have B2 := Lib.hid (bel_trans B1.out hb2)
  clear R0 D0 B1 hb2
  have Dc0 := D2.out.get 0 (.int .i64 0) rfl
  have Dc1 := D2.out.get 1 (.int .i64 0) rfl
  have Dc2 := D2.out.get 2 (.bool false) rfl
  have Dc3 := D2.out.get 3 (.bool false) rfl
  have Dc4 := D2.out.get 4 (.bool false) rfl
  have Dc5 := D2.out.get 5 (.bool false) rfl
  have Dc6 := D2.out.get 6 (.bool false) rfl
  have Dc7 := D2.out.get 7 (.int .i64 0) rfl
  have Dc8 := D2.out.get 8 (.int .i64 0) rfl
  have Dz0 := D2.out.free 0
  have Dz1 := D2.out.free 1
  have Dz2 := D2.out.free 2
  have Dz3 := D2.out.free 3
  have Dz4 := D2.out.free 4
  have Dz5 := D2.out.free 5
  have Dz6 := D2.out.free 6
  have Dz7 := D2.out.free 7
  have Dz8 := D2.out.free 8
  go_upto_region 11 with (first | (go_at_call 36; first | ((with_reducible refine (F10.out _).mono ?_); rintro e w' ⟨rfl, rfl⟩) | ((with_reducible refine (F54.out _).mono ?_); rintro e w' ⟨rfl, rfl⟩) | ((with_reducible refine (F7.out _).mono ?_); rintro e w' ⟨rfl, rfl⟩) | ((with_reducible refine (F11.out _).mono ?_); rintro e w' ⟨rfl, rfl⟩)))
  clear Dc0 Dc1 Dc2 Dc3 Dc4 Dc5 Dc6 Dc7 Dc8 Dz0 Dz1 Dz2 Dz3 Dz4 Dz5 Dz6 Dz7 Dz8
  have R3 := Lib.hid (R2.out.other ⟨w.heap.size + 1, 0, none⟩ (.int .i64 2) (by first | assumption | (simp; done) | (simp; omega)))
  have D3 := Lib.hid (D2.out.set 0 (.int .i64 2) #[.int .i64 2, .int .i64 0, .bool false, .bool false, .bool false, .bool false, .bool false, .int .i64 0, .int .i64 0] rfl)
  have B3 := Lib.hid (Below.setCell B2.out (p := ⟨w.heap.size + 1, 0, none⟩) (by first | assumption | (simp; done) | (simp; omega)) (.int .i64 2))
  clear R2 D2 B2
  have R4 := Lib.hid (R3.out.other ⟨w.heap.size + 1, 1, none⟩ (.int .i64 nn) (by first | assumption | (simp; done) | (simp; omega)))
  have D4 := Lib.hid (D3.out.set 1 (.int .i64 nn) #[.int .i64 2, .int .i64 nn, .bool false, .bool false, .bool false, .bool false, .bool false, .int .i64 0, .int .i64 0] rfl)
  have B4 := Lib.hid (Below.setCell B3.out (p := ⟨w.heap.size + 1, 1, none⟩) (by first | assumption | (simp; done) | (simp; omega)) (.int .i64 nn))
  clear R3 D3 B3
  have R5 := Lib.hid (R4.out.other ⟨w.heap.size + 1, 5, none⟩ (.bool b10) (by first | assumption | (simp; done) | (simp; omega)))
  have D5 := Lib.hid (D4.out.set 5 (.bool b10) #[.int .i64 2, .int .i64 nn, .bool false, .bool false, .bool false, .bool b10, .bool false, .int .i64 0, .int .i64 0] rfl)
  have B5 := Lib.hid (Below.setCell B4.out (p := ⟨w.heap.size + 1, 5, none⟩) (by first | assumption | (simp; done) | (simp; omega)) (.bool b10))
  clear R4 D4 B4
  have R6 := Lib.hid (R5.out.other ⟨w.heap.size + 1, 4, none⟩ (.bool (!b54)) (by first | assumption | (simp; done) | (simp; omega)))
  have D6 := Lib.hid (D5.out.set 4 (.bool (!b54)) #[.int .i64 2, .int .i64 nn, .bool false, .bool false, .bool (!b54), .bool b10, .bool false, .int .i64 0, .int .i64 0] rfl)
  have B6 := Lib.hid (Below.setCell B5.out (p := ⟨w.heap.size + 1, 4, none⟩) (by first | assumption | (simp; done) | (simp; omega)) (.bool (!b54)))
  clear R5 D5 B5
  have R7 := Lib.hid (R6.out.other ⟨w.heap.size + 1, 2, none⟩ (.bool true) (by first | assumption | (simp; done) | (simp; omega)))
  have D7 := Lib.hid (D6.out.set 2 (.bool true) #[.int .i64 2, .int .i64 nn, .bool true, .bool false, .bool (!b54), .bool b10, .bool false, .int .i64 0, .int .i64 0] rfl)
  have B7 := Lib.hid (Below.setCell B6.out (p := ⟨w.heap.size + 1, 2, none⟩) (by first | assumption | (simp; done) | (simp; omega)) (.bool true))
  clear R6 D6 B6
  have R8 := Lib.hid (R7.out.other ⟨w.heap.size + 1, 3, none⟩ (.bool (!b7)) (by first | assumption | (simp; done) | (simp; omega)))
  have D8 := Lib.hid (D7.out.set 3 (.bool (!b7)) #[.int .i64 2, .int .i64 nn, .bool true, .bool (!b7), .bool (!b54), .bool b10, .bool false, .int .i64 0, .int .i64 0] rfl)
  have B8 := Lib.hid (Below.setCell B7.out (p := ⟨w.heap.size + 1, 3, none⟩) (by first | assumption | (simp; done) | (simp; omega)) (.bool (!b7)))
  clear R7 D7 B7
  have R9 := Lib.hid (R8.out.other ⟨w.heap.size + 1, 6, none⟩ (.bool b11) (by first | assumption | (simp; done) | (simp; omega)))
  have D9 := Lib.hid (D8.out.set 6 (.bool b11) #[.int .i64 2, .int .i64 nn, .bool true, .bool (!b7), .bool (!b54), .bool b10, .bool b11, .int .i64 0, .int .i64 0] rfl)
  have B9 := Lib.hid (Below.setCell B8.out (p := ⟨w.heap.size + 1, 6, none⟩) (by first | assumption | (simp; done) | (simp; omega)) (.bool b11))
  clear R8 D8 B8
  obtain ⟨W7, hW7⟩ : ∃ W7, W7 = (((((((w2.setCell ⟨w.heap.size + 1, 0, none⟩ (.int .i64 2)).setCell ⟨w.heap.size + 1, 1, none⟩ (.int .i64 nn)).setCell ⟨w.heap.size + 1, 5, none⟩ (.bool b10)).setCell ⟨w.heap.size + 1, 4, none⟩ (.bool (!b54))).setCell ⟨w.heap.size + 1, 2, none⟩ (.bool true)).setCell ⟨w.heap.size + 1, 3, none⟩ (.bool (!b7))).setCell ⟨w.heap.size + 1, 6, none⟩ (.bool b11)) := ⟨_, rfl⟩
  rw [← hW7] at R9 D9 B9 ⊢
  clear hW7
  have Dc0 := D9.out.get 0 (.int .i64 2) rfl
  have Dc1 := D9.out.get 1 (.int .i64 nn) rfl
  have Dc2 := D9.out.get 2 (.bool true) rfl
  have Dc3 := D9.out.get 3 (.bool (!b7)) rfl
  have Dc4 := D9.out.get 4 (.bool (!b54)) rfl
  have Dc5 := D9.out.get 5 (.bool b10) rfl
  have Dc6 := D9.out.get 6 (.bool b11) rfl
  have Dc7 := D9.out.get 7 (.int .i64 0) rfl
  have Dc8 := D9.out.get 8 (.int .i64 0) rfl
  go_wp2_with fail
  clear Dc0 Dc1 Dc2 Dc3 Dc4 Dc5 Dc6 Dc7 Dc8
  refine (HM.out _).mono ?_
  rintro e w10 ⟨rfl, hb10⟩
  have R10 := Lib.hid (R9.out.below hb10)
  have D10 := Lib.hid (D9.out.below hb10)
  have B10 := Lib.hid (bel_trans B9.out hb10)
  clear R9 D9 B9 hb10
  have Dc0 := D10.out.get 0 (.int .i64 2) rfl
  have Dc1 := D10.out.get 1 (.int .i64 nn) rfl
  have Dc2 := D10.out.get 2 (.bool true) rfl
  have Dc3 := D10.out.get 3 (.bool (!b7)) rfl
  have Dc4 := D10.out.get 4 (.bool (!b54)) rfl
  have Dc5 := D10.out.get 5 (.bool b10) rfl
  have Dc6 := D10.out.get 6 (.bool b11) rfl
  have Dc7 := D10.out.get 7 (.int .i64 0) rfl
  have Dc8 := D10.out.get 8 (.int .i64 0) rfl
  go_wp2_with fail
  clear Dc0 Dc1 Dc2 Dc3 Dc4 Dc5 Dc6 Dc7 Dc8
  refine (HW.out _).mono ?_
  rintro e w11 ⟨rfl, hb11⟩
  have R11 := Lib.hid (R10.out.below hb11)
  have D11 := Lib.hid (D10.out.below hb11)
  have B11 := Lib.hid (bel_trans B10.out hb11)
  clear R10 D10 B10 hb11
  have Rc0 := R11.out.get 0 (.int .i64 0) rfl
  have Rc1 := R11.out.get 1 (.int .i64 0) rfl
  have Rc2 := R11.out.get 2 (.bool false) rfl
  have Rc3 := R11.out.get 3 (.bool false) rfl
  have Rc4 := R11.out.get 4 (.bool false) rfl
  have Rc5 := R11.out.get 5 (.bool false) rfl
  have Rc6 := R11.out.get 6 (.bool false) rfl
  have Rc7 := R11.out.get 7 (.int .i64 0) rfl
  have Rc8 := R11.out.get 8 (.int .i64 0) rfl
  have Rz0 := R11.out.free 0
  have Rz1 := R11.out.free 1
  have Rz2 := R11.out.free 2
  have Rz3 := R11.out.free 3
  have Rz4 := R11.out.free 4
  have Rz5 := R11.out.free 5
  have Rz6 := R11.out.free 6
  have Rz7 := R11.out.free 7
  have Rz8 := R11.out.free 8
  have Dc0 := D11.out.get 0 (.int .i64 2) rfl
  have Dc1 := D11.out.get 1 (.int .i64 nn) rfl
  have Dc2 := D11.out.get 2 (.bool true) rfl
  have Dc3 := D11.out.get 3 (.bool (!b7)) rfl
  have Dc4 := D11.out.get 4 (.bool (!b54)) rfl
  have Dc5 := D11.out.get 5 (.bool b10) rfl
  have Dc6 := D11.out.get 6 (.bool b11) rfl
  have Dc7 := D11.out.get 7 (.int .i64 0) rfl
  have Dc8 := D11.out.get 8 (.int .i64 0) rfl
  go_wp2
  refine bodyPost_ret (v := .agg #[.int .i64 2, .int .i64 nn, .bool true, .bool (!b7), .bool (!b54), .bool b10, .bool b11, .int .i64 0, .int .i64 0]) (by simp [results, Try.results25, go_sem, Rc0, Rc1, Rc2, Rc3, Rc4, Rc5, Rc6, Rc7, Rc8]) rfl ⟨rfl, ?_⟩
  repeat' (first | with_reducible exact B11.out | with_reducible refine Below.setCell ?_ (by first | (simp; done) | (simp; omega)) _)

set_option maxRecDepth 100000 in
set_option maxHeartbeats 1600000 in
theorem rof_leaff2_bad (st lv : Int) (v : BitVec 64) (nn : Int) (b10 b54 b7 b6 : Bool) (sf : Int) (w : World) (t1 : (st == 1) = false)
    (F0 : Hid (∀ W, Calls Try.prog 36 #[.int .u64 (u v), .int .i64 0] W fun e w' => e = .returned (.bool true) ∧ W = w'))
    (F1 : Hid (∀ W, Calls Try.prog 36 #[.int .u64 (u v), .int .i64 1] W fun e w' => e = .returned (.bool false) ∧ W = w'))
    (HN : Hid (∀ W, Calls Try.prog 37 #[.int .u64 (u v), .int .i64 12, .int .i64 12] W fun e w' => e = .returned (.int .u64 nn) ∧ Below W.heap.size W w')) (qHN : 0 ≤ nn ∧ nn ≤ 4095)
    (F10 : Hid (∀ W, Calls Try.prog 36 #[.int .u64 (u v), .int .i64 10] W fun e w' => e = .returned (.bool b10) ∧ W = w'))
    (F54 : Hid (∀ W, Calls Try.prog 36 #[.int .u64 (u v), .int .i64 54] W fun e w' => e = .returned (.bool b54) ∧ W = w'))
    (F7 : Hid (∀ W, Calls Try.prog 36 #[.int .u64 (u v), .int .i64 7] W fun e w' => e = .returned (.bool b7) ∧ W = w'))
    (F6 : Hid (∀ W, Calls Try.prog 36 #[.int .u64 (u v), .int .i64 6] W fun e w' => e = .returned (.bool b6) ∧ W = w'))
    (HF : Hid (∀ W, Calls Try.prog 37 #[.int .u64 (u v), .int .i64 55, .int .i64 4] W fun e w' => e = .returned (.int .u64 sf) ∧ Below W.heap.size W w')) (qHF : 0 ≤ sf ∧ sf ≤ 4095)
    (HM : Hid (∀ W, Calls Try.prog 38 #[.int .i64 st, .int .i64 lv, .agg #[.int .i64 2, .int .i64 nn, .bool b6, .bool b7, .bool (!b54), .bool b10, .bool false, .int .i64 sf, .int .i64 0]] W fun e w' => e = .returned (.bool false) ∧ Below W.heap.size W w')) :
    Calls Try.prog 25 #[.int .i64 st, .int .i64 lv, .int .u64 (u v)] w fun e w' => e = .returned (.agg #[.int .i64 0, .int .i64 0, .bool false, .bool false, .bool false, .bool false, .bool false, .int .i64 0, .int .i64 0]) ∧ Below w.heap.size w w' := by
  obtain ⟨qn0, qn1⟩ := qHN
  obtain ⟨qf0, qf1⟩ := qHF
  have R0 := Lib.hid ((BoxAt.new w #[.int .i64 0, .int .i64 0, .bool false, .bool false, .bool false, .bool false, .bool false, .int .i64 0, .int .i64 0] 33).alloc (.cells #[.int .i64 0, .int .i64 0, .bool false, .bool false, .bool false, .bool false, .bool false, .int .i64 0, .int .i64 0] 33))
  have D0 := Lib.hid (BoxAt.new (w.alloc (.cells #[.int .i64 0, .int .i64 0, .bool false, .bool false, .bool false, .bool false, .bool false, .int .i64 0, .int .i64 0] 33)) #[.int .i64 0, .int .i64 0, .bool false, .bool false, .bool false, .bool false, .bool false, .int .i64 0, .int .i64 0] 33)
  rw [show (w.alloc (.cells #[.int .i64 0, .int .i64 0, .bool false, .bool false, .bool false, .bool false, .bool false, .int .i64 0, .int .i64 0] 33)).heap.size = w.heap.size + 1 from by simp] at D0
  have B1 := Lib.hid (bel_alloc (bel_alloc (Below.refl w.heap.size w) (.cells #[.int .i64 0, .int .i64 0, .bool false, .bool false, .bool false, .bool false, .bool false, .int .i64 0, .int .i64 0] 33)) (.cells #[.int .i64 0, .int .i64 0, .bool false, .bool false, .bool false, .bool false, .bool false, .int .i64 0, .int .i64 0] 33))
  go_enter Try.func25, Try.ntmps25
  go_wp2_with (first | (go_at_call 36; first | ((with_reducible refine (F0.out _).mono ?_); rintro e w' ⟨rfl, rfl⟩) | ((with_reducible refine (F1.out _).mono ?_); rintro e w' ⟨rfl, rfl⟩)))
  refine (HN.out _).mono ?_
  rintro e w2 ⟨rfl, hb2⟩
  have R2 := Lib.hid (R0.out.below hb2)
  have D2 := Lib.hid (D0.out.below hb2)
  have B2 := Lib.hid (bel_trans B1.out hb2)
  clear R0 D0 B1 hb2
  have Dc0 := D2.out.get 0 (.int .i64 0) rfl
  have Dc1 := D2.out.get 1 (.int .i64 0) rfl
  have Dc2 := D2.out.get 2 (.bool false) rfl
  have Dc3 := D2.out.get 3 (.bool false) rfl
  have Dc4 := D2.out.get 4 (.bool false) rfl
  have Dc5 := D2.out.get 5 (.bool false) rfl
  have Dc6 := D2.out.get 6 (.bool false) rfl
  have Dc7 := D2.out.get 7 (.int .i64 0) rfl
  have Dc8 := D2.out.get 8 (.int .i64 0) rfl
  have Dz0 := D2.out.free 0
  have Dz1 := D2.out.free 1
  have Dz2 := D2.out.free 2
  have Dz3 := D2.out.free 3
  have Dz4 := D2.out.free 4
  have Dz5 := D2.out.free 5
  have Dz6 := D2.out.free 6
  have Dz7 := D2.out.free 7
  have Dz8 := D2.out.free 8
  go_wp2_with (first | (go_at_call 36; first | ((with_reducible refine (F10.out _).mono ?_); rintro e w' ⟨rfl, rfl⟩) | ((with_reducible refine (F54.out _).mono ?_); rintro e w' ⟨rfl, rfl⟩) | ((with_reducible refine (F6.out _).mono ?_); rintro e w' ⟨rfl, rfl⟩) | ((with_reducible refine (F7.out _).mono ?_); rintro e w' ⟨rfl, rfl⟩)))
  clear Dc0 Dc1 Dc2 Dc3 Dc4 Dc5 Dc6 Dc7 Dc8 Dz0 Dz1 Dz2 Dz3 Dz4 Dz5 Dz6 Dz7 Dz8
  have R3 := Lib.hid (R2.out.other ⟨w.heap.size + 1, 0, none⟩ (.int .i64 2) (by first | assumption | (simp; done) | (simp; omega)))
  have D3 := Lib.hid (D2.out.set 0 (.int .i64 2) #[.int .i64 2, .int .i64 0, .bool false, .bool false, .bool false, .bool false, .bool false, .int .i64 0, .int .i64 0] rfl)
  have B3 := Lib.hid (Below.setCell B2.out (p := ⟨w.heap.size + 1, 0, none⟩) (by first | assumption | (simp; done) | (simp; omega)) (.int .i64 2))
  clear R2 D2 B2
  have R4 := Lib.hid (R3.out.other ⟨w.heap.size + 1, 1, none⟩ (.int .i64 nn) (by first | assumption | (simp; done) | (simp; omega)))
  have D4 := Lib.hid (D3.out.set 1 (.int .i64 nn) #[.int .i64 2, .int .i64 nn, .bool false, .bool false, .bool false, .bool false, .bool false, .int .i64 0, .int .i64 0] rfl)
  have B4 := Lib.hid (Below.setCell B3.out (p := ⟨w.heap.size + 1, 1, none⟩) (by first | assumption | (simp; done) | (simp; omega)) (.int .i64 nn))
  clear R3 D3 B3
  have R5 := Lib.hid (R4.out.other ⟨w.heap.size + 1, 5, none⟩ (.bool b10) (by first | assumption | (simp; done) | (simp; omega)))
  have D5 := Lib.hid (D4.out.set 5 (.bool b10) #[.int .i64 2, .int .i64 nn, .bool false, .bool false, .bool false, .bool b10, .bool false, .int .i64 0, .int .i64 0] rfl)
  have B5 := Lib.hid (Below.setCell B4.out (p := ⟨w.heap.size + 1, 5, none⟩) (by first | assumption | (simp; done) | (simp; omega)) (.bool b10))
  clear R4 D4 B4
  have R6 := Lib.hid (R5.out.other ⟨w.heap.size + 1, 4, none⟩ (.bool (!b54)) (by first | assumption | (simp; done) | (simp; omega)))
  have D6 := Lib.hid (D5.out.set 4 (.bool (!b54)) #[.int .i64 2, .int .i64 nn, .bool false, .bool false, .bool (!b54), .bool b10, .bool false, .int .i64 0, .int .i64 0] rfl)
  have B6 := Lib.hid (Below.setCell B5.out (p := ⟨w.heap.size + 1, 4, none⟩) (by first | assumption | (simp; done) | (simp; omega)) (.bool (!b54)))
  clear R5 D5 B5
  obtain ⟨W6, hW6⟩ : ∃ W6, W6 = ((((w2.setCell ⟨w.heap.size + 1, 0, none⟩ (.int .i64 2)).setCell ⟨w.heap.size + 1, 1, none⟩ (.int .i64 nn)).setCell ⟨w.heap.size + 1, 5, none⟩ (.bool b10)).setCell ⟨w.heap.size + 1, 4, none⟩ (.bool (!b54))) := ⟨_, rfl⟩
  rw [← hW6] at R6 D6 B6 ⊢
  clear hW6
  refine (HF.out _).mono ?_
  rintro e w7 ⟨rfl, hb7⟩
  have R7 := Lib.hid (R6.out.below hb7)
  have D7 := Lib.hid (D6.out.below hb7)
  have B7 := Lib.hid (bel_trans B6.out hb7)
  clear R6 D6 B6 hb7
  have Dc0 := D7.out.get 0 (.int .i64 2) rfl
  have Dc1 := D7.out.get 1 (.int .i64 nn) rfl
  have Dc2 := D7.out.get 2 (.bool false) rfl
  have Dc3 := D7.out.get 3 (.bool false) rfl
  have Dc4 := D7.out.get 4 (.bool (!b54)) rfl
  have Dc5 := D7.out.get 5 (.bool b10) rfl
  have Dc6 := D7.out.get 6 (.bool false) rfl
  have Dc7 := D7.out.get 7 (.int .i64 0) rfl
  have Dc8 := D7.out.get 8 (.int .i64 0) rfl
  have Dz0 := D7.out.free 0
  have Dz1 := D7.out.free 1
  have Dz2 := D7.out.free 2
  have Dz3 := D7.out.free 3
  have Dz4 := D7.out.free 4
  have Dz5 := D7.out.free 5
  have Dz6 := D7.out.free 6
  have Dz7 := D7.out.free 7
  have Dz8 := D7.out.free 8
  go_upto_region 11 with fail
  clear Dc0 Dc1 Dc2 Dc3 Dc4 Dc5 Dc6 Dc7 Dc8 Dz0 Dz1 Dz2 Dz3 Dz4 Dz5 Dz6 Dz7 Dz8
  have R8 := Lib.hid (R7.out.other ⟨w.heap.size + 1, 2, none⟩ (.bool b6) (by first | assumption | (simp; done) | (simp; omega)))
  have D8 := Lib.hid (D7.out.set 2 (.bool b6) #[.int .i64 2, .int .i64 nn, .bool b6, .bool false, .bool (!b54), .bool b10, .bool false, .int .i64 0, .int .i64 0] rfl)
  have B8 := Lib.hid (Below.setCell B7.out (p := ⟨w.heap.size + 1, 2, none⟩) (by first | assumption | (simp; done) | (simp; omega)) (.bool b6))
  clear R7 D7 B7
  have R9 := Lib.hid (R8.out.other ⟨w.heap.size + 1, 3, none⟩ (.bool b7) (by first | assumption | (simp; done) | (simp; omega)))
  have D9 := Lib.hid (D8.out.set 3 (.bool b7) #[.int .i64 2, .int .i64 nn, .bool b6, .bool b7, .bool (!b54), .bool b10, .bool false, .int .i64 0, .int .i64 0] rfl)
  have B9 := Lib.hid (Below.setCell B8.out (p := ⟨w.heap.size + 1, 3, none⟩) (by first | assumption | (simp; done) | (simp; omega)) (.bool b7))
  clear R8 D8 B8
  have R10 := Lib.hid (R9.out.other ⟨w.heap.size + 1, 7, none⟩ (.int .i64 sf) (by first | assumption | (simp; done) | (simp; omega)))
  have D10 := Lib.hid (D9.out.set 7 (.int .i64 sf) #[.int .i64 2, .int .i64 nn, .bool b6, .bool b7, .bool (!b54), .bool b10, .bool false, .int .i64 sf, .int .i64 0] rfl)
  have B10 := Lib.hid (Below.setCell B9.out (p := ⟨w.heap.size + 1, 7, none⟩) (by first | assumption | (simp; done) | (simp; omega)) (.int .i64 sf))
  clear R9 D9 B9
  obtain ⟨W7, hW7⟩ : ∃ W7, W7 = (((w7.setCell ⟨w.heap.size + 1, 2, none⟩ (.bool b6)).setCell ⟨w.heap.size + 1, 3, none⟩ (.bool b7)).setCell ⟨w.heap.size + 1, 7, none⟩ (.int .i64 sf)) := ⟨_, rfl⟩
  rw [← hW7] at R10 D10 B10 ⊢
  clear hW7
  have Dc0 := D10.out.get 0 (.int .i64 2) rfl
  have Dc1 := D10.out.get 1 (.int .i64 nn) rfl
  have Dc2 := D10.out.get 2 (.bool b6) rfl
  have Dc3 := D10.out.get 3 (.bool b7) rfl
  have Dc4 := D10.out.get 4 (.bool (!b54)) rfl
  have Dc5 := D10.out.get 5 (.bool b10) rfl
  have Dc6 := D10.out.get 6 (.bool false) rfl
  have Dc7 := D10.out.get 7 (.int .i64 sf) rfl
  have Dc8 := D10.out.get 8 (.int .i64 0) rfl
  go_wp2_with fail
  clear Dc0 Dc1 Dc2 Dc3 Dc4 Dc5 Dc6 Dc7 Dc8
  refine (HM.out _).mono ?_
  rintro e w11 ⟨rfl, hb11⟩
  have R11 := Lib.hid (R10.out.below hb11)
  have D11 := Lib.hid (D10.out.below hb11)
  have B11 := Lib.hid (bel_trans B10.out hb11)
  clear R10 D10 B10 hb11
  have Rc0 := R11.out.get 0 (.int .i64 0) rfl
  have Rc1 := R11.out.get 1 (.int .i64 0) rfl
  have Rc2 := R11.out.get 2 (.bool false) rfl
  have Rc3 := R11.out.get 3 (.bool false) rfl
  have Rc4 := R11.out.get 4 (.bool false) rfl
  have Rc5 := R11.out.get 5 (.bool false) rfl
  have Rc6 := R11.out.get 6 (.bool false) rfl
  have Rc7 := R11.out.get 7 (.int .i64 0) rfl
  have Rc8 := R11.out.get 8 (.int .i64 0) rfl
  have Rz0 := R11.out.free 0
  have Rz1 := R11.out.free 1
  have Rz2 := R11.out.free 2
  have Rz3 := R11.out.free 3
  have Rz4 := R11.out.free 4
  have Rz5 := R11.out.free 5
  have Rz6 := R11.out.free 6
  have Rz7 := R11.out.free 7
  have Rz8 := R11.out.free 8
  go_wp2
  refine bodyPost_ret (v := .agg #[.int .i64 0, .int .i64 0, .bool false, .bool false, .bool false, .bool false, .bool false, .int .i64 0, .int .i64 0]) (by simp [results, Try.results25, go_sem, Rc0, Rc1, Rc2, Rc3, Rc4, Rc5, Rc6, Rc7, Rc8]) rfl ⟨rfl, ?_⟩
  repeat' (first | with_reducible exact B11.out | with_reducible refine Below.setCell ?_ (by first | (simp; done) | (simp; omega)) _)

set_option maxRecDepth 100000 in
set_option maxHeartbeats 1600000 in
theorem rof_leaff2_other (st lv : Int) (v : BitVec 64) (nn : Int) (b10 b54 b7 b6 : Bool) (sf : Int) (wd : BitVec 64) (w : World) (t1 : (st == 1) = false)
    (F0 : Hid (∀ W, Calls Try.prog 36 #[.int .u64 (u v), .int .i64 0] W fun e w' => e = .returned (.bool true) ∧ W = w'))
    (F1 : Hid (∀ W, Calls Try.prog 36 #[.int .u64 (u v), .int .i64 1] W fun e w' => e = .returned (.bool false) ∧ W = w'))
    (HN : Hid (∀ W, Calls Try.prog 37 #[.int .u64 (u v), .int .i64 12, .int .i64 12] W fun e w' => e = .returned (.int .u64 nn) ∧ Below W.heap.size W w')) (qHN : 0 ≤ nn ∧ nn ≤ 4095)
    (F10 : Hid (∀ W, Calls Try.prog 36 #[.int .u64 (u v), .int .i64 10] W fun e w' => e = .returned (.bool b10) ∧ W = w'))
    (F54 : Hid (∀ W, Calls Try.prog 36 #[.int .u64 (u v), .int .i64 54] W fun e w' => e = .returned (.bool b54) ∧ W = w'))
    (F7 : Hid (∀ W, Calls Try.prog 36 #[.int .u64 (u v), .int .i64 7] W fun e w' => e = .returned (.bool b7) ∧ W = w'))
    (F6 : Hid (∀ W, Calls Try.prog 36 #[.int .u64 (u v), .int .i64 6] W fun e w' => e = .returned (.bool b6) ∧ W = w'))
    (HF : Hid (∀ W, Calls Try.prog 37 #[.int .u64 (u v), .int .i64 55, .int .i64 4] W fun e w' => e = .returned (.int .u64 sf) ∧ Below W.heap.size W w')) (qHF : 0 ≤ sf ∧ sf ≤ 4095)
    (HM : Hid (∀ W, Calls Try.prog 38 #[.int .i64 st, .int .i64 lv, .agg #[.int .i64 2, .int .i64 nn, .bool b6, .bool b7, .bool (!b54), .bool b10, .bool false, .int .i64 sf, .int .i64 0]] W fun e w' => e = .returned (.bool true) ∧ Below W.heap.size W w'))
    (HW : Hid (∀ W, Calls Try.prog 39 #[.int .i64 st, .int .i64 lv, .agg #[.int .i64 2, .int .i64 nn, .bool b6, .bool b7, .bool (!b54), .bool b10, .bool false, .int .i64 sf, .int .i64 0]] W fun e w' => e = .returned (.int .u64 (u wd)) ∧ Below W.heap.size W w'))
    (hq : (u wd != u v) = true) :
    Calls Try.prog 25 #[.int .i64 st, .int .i64 lv, .int .u64 (u v)] w fun e w' => e = .returned (.agg #[.int .i64 0, .int .i64 0, .bool false, .bool false, .bool false, .bool false, .bool false, .int .i64 0, .int .i64 0]) ∧ Below w.heap.size w w' := by
  obtain ⟨qn0, qn1⟩ := qHN
  obtain ⟨qf0, qf1⟩ := qHF
  have R0 := Lib.hid ((BoxAt.new w #[.int .i64 0, .int .i64 0, .bool false, .bool false, .bool false, .bool false, .bool false, .int .i64 0, .int .i64 0] 33).alloc (.cells #[.int .i64 0, .int .i64 0, .bool false, .bool false, .bool false, .bool false, .bool false, .int .i64 0, .int .i64 0] 33))
  have D0 := Lib.hid (BoxAt.new (w.alloc (.cells #[.int .i64 0, .int .i64 0, .bool false, .bool false, .bool false, .bool false, .bool false, .int .i64 0, .int .i64 0] 33)) #[.int .i64 0, .int .i64 0, .bool false, .bool false, .bool false, .bool false, .bool false, .int .i64 0, .int .i64 0] 33)
  rw [show (w.alloc (.cells #[.int .i64 0, .int .i64 0, .bool false, .bool false, .bool false, .bool false, .bool false, .int .i64 0, .int .i64 0] 33)).heap.size = w.heap.size + 1 from by simp] at D0
  have B1 := Lib.hid (bel_alloc (bel_alloc (Below.refl w.heap.size w) (.cells #[.int .i64 0, .int .i64 0, .bool false, .bool false, .bool false, .bool false, .bool false, .int .i64 0, .int .i64 0] 33)) (.cells #[.int .i64 0, .int .i64 0, .bool false, .bool false, .bool false, .bool false, .bool false, .int .i64 0, .int .i64 0] 33))
  go_enter Try.func25, Try.ntmps25
  go_wp2_with (first | (go_at_call 36; first | ((with_reducible refine (F0.out _).mono ?_); rintro e w' ⟨rfl, rfl⟩) | ((with_reducible refine (F1.out _).mono ?_); rintro e w' ⟨rfl, rfl⟩)))
  refine (HN.out _).mono ?_
  rintro e w2 ⟨rfl, hb2⟩
  have R2 := Lib.hid (R0.out.below hb2)
  have D2 := Lib.hid (D0.out.below hb2)
  have B2 := Lib.hid (bel_trans B1.out hb2)
  clear R0 D0 B1 hb2
  have Dc0 := D2.out.get 0 (.int .i64 0) rfl
  have Dc1 := D2.out.get 1 (.int .i64 0) rfl
  have Dc2 := D2.out.get 2 (.bool false) rfl
  have Dc3 := D2.out.get 3 (.bool false) rfl
  have Dc4 := D2.out.get 4 (.bool false) rfl
  have Dc5 := D2.out.get 5 (.bool false) rfl
  have Dc6 := D2.out.get 6 (.bool false) rfl
  have Dc7 := D2.out.get 7 (.int .i64 0) rfl
  have Dc8 := D2.out.get 8 (.int .i64 0) rfl
  have Dz0 := D2.out.free 0
  have Dz1 := D2.out.free 1
  have Dz2 := D2.out.free 2
  have Dz3 := D2.out.free 3
  have Dz4 := D2.out.free 4
  have Dz5 := D2.out.free 5
  have Dz6 := D2.out.free 6
  have Dz7 := D2.out.free 7
  have Dz8 := D2.out.free 8
  go_wp2_with (first | (go_at_call 36; first | ((with_reducible refine (F10.out _).mono ?_); rintro e w' ⟨rfl, rfl⟩) | ((with_reducible refine (F54.out _).mono ?_); rintro e w' ⟨rfl, rfl⟩) | ((with_reducible refine (F6.out _).mono ?_); rintro e w' ⟨rfl, rfl⟩) | ((with_reducible refine (F7.out _).mono ?_); rintro e w' ⟨rfl, rfl⟩)))
  clear Dc0 Dc1 Dc2 Dc3 Dc4 Dc5 Dc6 Dc7 Dc8 Dz0 Dz1 Dz2 Dz3 Dz4 Dz5 Dz6 Dz7 Dz8
  have R3 := Lib.hid (R2.out.other ⟨w.heap.size + 1, 0, none⟩ (.int .i64 2) (by first | assumption | (simp; done) | (simp; omega)))
  have D3 := Lib.hid (D2.out.set 0 (.int .i64 2) #[.int .i64 2, .int .i64 0, .bool false, .bool false, .bool false, .bool false, .bool false, .int .i64 0, .int .i64 0] rfl)
  have B3 := Lib.hid (Below.setCell B2.out (p := ⟨w.heap.size + 1, 0, none⟩) (by first | assumption | (simp; done) | (simp; omega)) (.int .i64 2))
  clear R2 D2 B2
  have R4 := Lib.hid (R3.out.other ⟨w.heap.size + 1, 1, none⟩ (.int .i64 nn) (by first | assumption | (simp; done) | (simp; omega)))
  have D4 := Lib.hid (D3.out.set 1 (.int .i64 nn) #[.int .i64 2, .int .i64 nn, .bool false, .bool false, .bool false, .bool false, .bool false, .int .i64 0, .int .i64 0] rfl)
  have B4 := Lib.hid (Below.setCell B3.out (p := ⟨w.heap.size + 1, 1, none⟩) (by first | assumption | (simp; done) | (simp; omega)) (.int .i64 nn))
  clear R3 D3 B3
  have R5 := Lib.hid (R4.out.other ⟨w.heap.size + 1, 5, none⟩ (.bool b10) (by first | assumption | (simp; done) | (simp; omega)))
  have D5 := Lib.hid (D4.out.set 5 (.bool b10) #[.int .i64 2, .int .i64 nn, .bool false, .bool false, .bool false, .bool b10, .bool false, .int .i64 0, .int .i64 0] rfl)
  have B5 := Lib.hid (Below.setCell B4.out (p := ⟨w.heap.size + 1, 5, none⟩) (by first | assumption | (simp; done) | (simp; omega)) (.bool b10))
  clear R4 D4 B4
  have R6 := Lib.hid (R5.out.other ⟨w.heap.size + 1, 4, none⟩ (.bool (!b54)) (by first | assumption | (simp; done) | (simp; omega)))
  have D6 := Lib.hid (D5.out.set 4 (.bool (!b54)) #[.int .i64 2, .int .i64 nn, .bool false, .bool false, .bool (!b54), .bool b10, .bool false, .int .i64 0, .int .i64 0] rfl)
  have B6 := Lib.hid (Below.setCell B5.out (p := ⟨w.heap.size + 1, 4, none⟩) (by first | assumption | (simp; done) | (simp; omega)) (.bool (!b54)))
  clear R5 D5 B5
  obtain ⟨W6, hW6⟩ : ∃ W6, W6 = ((((w2.setCell ⟨w.heap.size + 1, 0, none⟩ (.int .i64 2)).setCell ⟨w.heap.size + 1, 1, none⟩ (.int .i64 nn)).setCell ⟨w.heap.size + 1, 5, none⟩ (.bool b10)).setCell ⟨w.heap.size + 1, 4, none⟩ (.bool (!b54))) := ⟨_, rfl⟩
  rw [← hW6] at R6 D6 B6 ⊢
  clear hW6
  refine (HF.out _).mono ?_
  rintro e w7 ⟨rfl, hb7⟩
  have R7 := Lib.hid (R6.out.below hb7)
  have D7 := Lib.hid (D6.out.below hb7)
  have B7 := Lib.hid (bel_trans B6.out hb7)
  clear R6 D6 B6 hb7
  have Dc0 := D7.out.get 0 (.int .i64 2) rfl
  have Dc1 := D7.out.get 1 (.int .i64 nn) rfl
  have Dc2 := D7.out.get 2 (.bool false) rfl
  have Dc3 := D7.out.get 3 (.bool false) rfl
  have Dc4 := D7.out.get 4 (.bool (!b54)) rfl
  have Dc5 := D7.out.get 5 (.bool b10) rfl
  have Dc6 := D7.out.get 6 (.bool false) rfl
  have Dc7 := D7.out.get 7 (.int .i64 0) rfl
  have Dc8 := D7.out.get 8 (.int .i64 0) rfl
  have Dz0 := D7.out.free 0
  have Dz1 := D7.out.free 1
  have Dz2 := D7.out.free 2
  have Dz3 := D7.out.free 3
  have Dz4 := D7.out.free 4
  have Dz5 := D7.out.free 5
  have Dz6 := D7.out.free 6
  have Dz7 := D7.out.free 7
  have Dz8 := D7.out.free 8
  go_upto_region 11 with fail
  clear Dc0 Dc1 Dc2 Dc3 Dc4 Dc5 Dc6 Dc7 Dc8 Dz0 Dz1 Dz2 Dz3 Dz4 Dz5 Dz6 Dz7 Dz8
  have R8 := Lib.hid (R7.out.other ⟨w.heap.size + 1, 2, none⟩ (.bool b6) (by first | assumption | (simp; done) | (simp; omega)))
  have D8 := Lib.hid (D7.out.set 2 (.bool b6) #[.int .i64 2, .int .i64 nn, .bool b6, .bool false, .bool (!b54), .bool b10, .bool false, .int .i64 0, .int .i64 0] rfl)
  have B8 := Lib.hid (Below.setCell B7.out (p := ⟨w.heap.size + 1, 2, none⟩) (by first | assumption | (simp; done) | (simp; omega)) (.bool b6))
  clear R7 D7 B7
  have R9 := Lib.hid (R8.out.other ⟨w.heap.size + 1, 3, none⟩ (.bool b7) (by first | assumption | (simp; done) | (simp; omega)))
  have D9 := Lib.hid (D8.out.set 3 (.bool b7) #[.int .i64 2, .int .i64 nn, .bool b6, .bool b7, .bool (!b54), .bool b10, .bool false, .int .i64 0, .int .i64 0] rfl)
  have B9 := Lib.hid (Below.setCell B8.out (p := ⟨w.heap.size + 1, 3, none⟩) (by first | assumption | (simp; done) | (simp; omega)) (.bool b7))
  clear R8 D8 B8
  have R10 := Lib.hid (R9.out.other ⟨w.heap.size + 1, 7, none⟩ (.int .i64 sf) (by first | assumption | (simp; done) | (simp; omega)))
  have D10 := Lib.hid (D9.out.set 7 (.int .i64 sf) #[.int .i64 2, .int .i64 nn, .bool b6, .bool b7, .bool (!b54), .bool b10, .bool false, .int .i64 sf, .int .i64 0] rfl)
  have B10 := Lib.hid (Below.setCell B9.out (p := ⟨w.heap.size + 1, 7, none⟩) (by first | assumption | (simp; done) | (simp; omega)) (.int .i64 sf))
  clear R9 D9 B9
  obtain ⟨W7, hW7⟩ : ∃ W7, W7 = (((w7.setCell ⟨w.heap.size + 1, 2, none⟩ (.bool b6)).setCell ⟨w.heap.size + 1, 3, none⟩ (.bool b7)).setCell ⟨w.heap.size + 1, 7, none⟩ (.int .i64 sf)) := ⟨_, rfl⟩
  rw [← hW7] at R10 D10 B10 ⊢
  clear hW7
  have Dc0 := D10.out.get 0 (.int .i64 2) rfl
  have Dc1 := D10.out.get 1 (.int .i64 nn) rfl
  have Dc2 := D10.out.get 2 (.bool b6) rfl
  have Dc3 := D10.out.get 3 (.bool b7) rfl
  have Dc4 := D10.out.get 4 (.bool (!b54)) rfl
  have Dc5 := D10.out.get 5 (.bool b10) rfl
  have Dc6 := D10.out.get 6 (.bool false) rfl
  have Dc7 := D10.out.get 7 (.int .i64 sf) rfl
  have Dc8 := D10.out.get 8 (.int .i64 0) rfl
  go_wp2_with fail
  clear Dc0 Dc1 Dc2 Dc3 Dc4 Dc5 Dc6 Dc7 Dc8
  refine (HM.out _).mono ?_
  rintro e w11 ⟨rfl, hb11⟩
  have R11 := Lib.hid (R10.out.below hb11)
  have D11 := Lib.hid (D10.out.below hb11)
  have B11 := Lib.hid (bel_trans B10.out hb11)
  clear R10 D10 B10 hb11
  have Dc0 := D11.out.get 0 (.int .i64 2) rfl
  have Dc1 := D11.out.get 1 (.int .i64 nn) rfl
  have Dc2 := D11.out.get 2 (.bool b6) rfl
  have Dc3 := D11.out.get 3 (.bool b7) rfl
  have Dc4 := D11.out.get 4 (.bool (!b54)) rfl
  have Dc5 := D11.out.get 5 (.bool b10) rfl
  have Dc6 := D11.out.get 6 (.bool false) rfl
  have Dc7 := D11.out.get 7 (.int .i64 sf) rfl
  have Dc8 := D11.out.get 8 (.int .i64 0) rfl
  go_wp2_with fail
  clear Dc0 Dc1 Dc2 Dc3 Dc4 Dc5 Dc6 Dc7 Dc8
  refine (HW.out _).mono ?_
  rintro e w12 ⟨rfl, hb12⟩
  have R12 := Lib.hid (R11.out.below hb12)
  have D12 := Lib.hid (D11.out.below hb12)
  have B12 := Lib.hid (bel_trans B11.out hb12)
  clear R11 D11 B11 hb12
  have Rc0 := R12.out.get 0 (.int .i64 0) rfl
  have Rc1 := R12.out.get 1 (.int .i64 0) rfl
  have Rc2 := R12.out.get 2 (.bool false) rfl
  have Rc3 := R12.out.get 3 (.bool false) rfl
  have Rc4 := R12.out.get 4 (.bool false) rfl
  have Rc5 := R12.out.get 5 (.bool false) rfl
  have Rc6 := R12.out.get 6 (.bool false) rfl
  have Rc7 := R12.out.get 7 (.int .i64 0) rfl
  have Rc8 := R12.out.get 8 (.int .i64 0) rfl
  have Rz0 := R12.out.free 0
  have Rz1 := R12.out.free 1
  have Rz2 := R12.out.free 2
  have Rz3 := R12.out.free 3
  have Rz4 := R12.out.free 4
  have Rz5 := R12.out.free 5
  have Rz6 := R12.out.free 6
  have Rz7 := R12.out.free 7
  have Rz8 := R12.out.free 8
  go_wp2
  refine bodyPost_ret (v := .agg #[.int .i64 0, .int .i64 0, .bool false, .bool false, .bool false, .bool false, .bool false, .int .i64 0, .int .i64 0]) (by simp [results, Try.results25, go_sem, Rc0, Rc1, Rc2, Rc3, Rc4, Rc5, Rc6, Rc7, Rc8]) rfl ⟨rfl, ?_⟩
  repeat' (first | with_reducible exact B12.out | with_reducible refine Below.setCell ?_ (by first | (simp; done) | (simp; omega)) _)

set_option maxRecDepth 100000 in
set_option maxHeartbeats 1600000 in
theorem rof_leaff2_yes (st lv : Int) (v : BitVec 64) (nn : Int) (b10 b54 b7 b6 : Bool) (sf : Int) (wd : BitVec 64) (w : World) (t1 : (st == 1) = false)
    (F0 : Hid (∀ W, Calls Try.prog 36 #[.int .u64 (u v), .int .i64 0] W fun e w' => e = .returned (.bool true) ∧ W = w'))
    (F1 : Hid (∀ W, Calls Try.prog 36 #[.int .u64 (u v), .int .i64 1] W fun e w' => e = .returned (.bool false) ∧ W = w'))
    (HN : Hid (∀ W, Calls Try.prog 37 #[.int .u64 (u v), .int .i64 12, .int .i64 12] W fun e w' => e = .returned (.int .u64 nn) ∧ Below W.heap.size W w')) (qHN : 0 ≤ nn ∧ nn ≤ 4095)
    (F10 : Hid (∀ W, Calls Try.prog 36 #[.int .u64 (u v), .int .i64 10] W fun e w' => e = .returned (.bool b10) ∧ W = w'))
    (F54 : Hid (∀ W, Calls Try.prog 36 #[.int .u64 (u v), .int .i64 54] W fun e w' => e = .returned (.bool b54) ∧ W = w'))
    (F7 : Hid (∀ W, Calls Try.prog 36 #[.int .u64 (u v), .int .i64 7] W fun e w' => e = .returned (.bool b7) ∧ W = w'))
    (F6 : Hid (∀ W, Calls Try.prog 36 #[.int .u64 (u v), .int .i64 6] W fun e w' => e = .returned (.bool b6) ∧ W = w'))
    (HF : Hid (∀ W, Calls Try.prog 37 #[.int .u64 (u v), .int .i64 55, .int .i64 4] W fun e w' => e = .returned (.int .u64 sf) ∧ Below W.heap.size W w')) (qHF : 0 ≤ sf ∧ sf ≤ 4095)
    (HM : Hid (∀ W, Calls Try.prog 38 #[.int .i64 st, .int .i64 lv, .agg #[.int .i64 2, .int .i64 nn, .bool b6, .bool b7, .bool (!b54), .bool b10, .bool false, .int .i64 sf, .int .i64 0]] W fun e w' => e = .returned (.bool true) ∧ Below W.heap.size W w'))
    (HW : Hid (∀ W, Calls Try.prog 39 #[.int .i64 st, .int .i64 lv, .agg #[.int .i64 2, .int .i64 nn, .bool b6, .bool b7, .bool (!b54), .bool b10, .bool false, .int .i64 sf, .int .i64 0]] W fun e w' => e = .returned (.int .u64 (u wd)) ∧ Below W.heap.size W w'))
    (hq : (u wd != u v) = false) :
    Calls Try.prog 25 #[.int .i64 st, .int .i64 lv, .int .u64 (u v)] w fun e w' => e = .returned (.agg #[.int .i64 2, .int .i64 nn, .bool b6, .bool b7, .bool (!b54), .bool b10, .bool false, .int .i64 sf, .int .i64 0]) ∧ Below w.heap.size w w' := by
  obtain ⟨qn0, qn1⟩ := qHN
  obtain ⟨qf0, qf1⟩ := qHF
  have R0 := Lib.hid ((BoxAt.new w #[.int .i64 0, .int .i64 0, .bool false, .bool false, .bool false, .bool false, .bool false, .int .i64 0, .int .i64 0] 33).alloc (.cells #[.int .i64 0, .int .i64 0, .bool false, .bool false, .bool false, .bool false, .bool false, .int .i64 0, .int .i64 0] 33))
  have D0 := Lib.hid (BoxAt.new (w.alloc (.cells #[.int .i64 0, .int .i64 0, .bool false, .bool false, .bool false, .bool false, .bool false, .int .i64 0, .int .i64 0] 33)) #[.int .i64 0, .int .i64 0, .bool false, .bool false, .bool false, .bool false, .bool false, .int .i64 0, .int .i64 0] 33)
  rw [show (w.alloc (.cells #[.int .i64 0, .int .i64 0, .bool false, .bool false, .bool false, .bool false, .bool false, .int .i64 0, .int .i64 0] 33)).heap.size = w.heap.size + 1 from by simp] at D0
  have B1 := Lib.hid (bel_alloc (bel_alloc (Below.refl w.heap.size w) (.cells #[.int .i64 0, .int .i64 0, .bool false, .bool false, .bool false, .bool false, .bool false, .int .i64 0, .int .i64 0] 33)) (.cells #[.int .i64 0, .int .i64 0, .bool false, .bool false, .bool false, .bool false, .bool false, .int .i64 0, .int .i64 0] 33))
  go_enter Try.func25, Try.ntmps25
  go_wp2_with (first | (go_at_call 36; first | ((with_reducible refine (F0.out _).mono ?_); rintro e w' ⟨rfl, rfl⟩) | ((with_reducible refine (F1.out _).mono ?_); rintro e w' ⟨rfl, rfl⟩)))
  refine (HN.out _).mono ?_
  rintro e w2 ⟨rfl, hb2⟩
  have R2 := Lib.hid (R0.out.below hb2)
  have D2 := Lib.hid (D0.out.below hb2)
  have B2 := Lib.hid (bel_trans B1.out hb2)
  clear R0 D0 B1 hb2
  have Dc0 := D2.out.get 0 (.int .i64 0) rfl
  have Dc1 := D2.out.get 1 (.int .i64 0) rfl
  have Dc2 := D2.out.get 2 (.bool false) rfl
  have Dc3 := D2.out.get 3 (.bool false) rfl
  have Dc4 := D2.out.get 4 (.bool false) rfl
  have Dc5 := D2.out.get 5 (.bool false) rfl
  have Dc6 := D2.out.get 6 (.bool false) rfl
  have Dc7 := D2.out.get 7 (.int .i64 0) rfl
  have Dc8 := D2.out.get 8 (.int .i64 0) rfl
  have Dz0 := D2.out.free 0
  have Dz1 := D2.out.free 1
  have Dz2 := D2.out.free 2
  have Dz3 := D2.out.free 3
  have Dz4 := D2.out.free 4
  have Dz5 := D2.out.free 5
  have Dz6 := D2.out.free 6
  have Dz7 := D2.out.free 7
  have Dz8 := D2.out.free 8
  go_wp2_with (first | (go_at_call 36; first | ((with_reducible refine (F10.out _).mono ?_); rintro e w' ⟨rfl, rfl⟩) | ((with_reducible refine (F54.out _).mono ?_); rintro e w' ⟨rfl, rfl⟩) | ((with_reducible refine (F6.out _).mono ?_); rintro e w' ⟨rfl, rfl⟩) | ((with_reducible refine (F7.out _).mono ?_); rintro e w' ⟨rfl, rfl⟩)))
  clear Dc0 Dc1 Dc2 Dc3 Dc4 Dc5 Dc6 Dc7 Dc8 Dz0 Dz1 Dz2 Dz3 Dz4 Dz5 Dz6 Dz7 Dz8
  have R3 := Lib.hid (R2.out.other ⟨w.heap.size + 1, 0, none⟩ (.int .i64 2) (by first | assumption | (simp; done) | (simp; omega)))
  have D3 := Lib.hid (D2.out.set 0 (.int .i64 2) #[.int .i64 2, .int .i64 0, .bool false, .bool false, .bool false, .bool false, .bool false, .int .i64 0, .int .i64 0] rfl)
  have B3 := Lib.hid (Below.setCell B2.out (p := ⟨w.heap.size + 1, 0, none⟩) (by first | assumption | (simp; done) | (simp; omega)) (.int .i64 2))
  clear R2 D2 B2
  have R4 := Lib.hid (R3.out.other ⟨w.heap.size + 1, 1, none⟩ (.int .i64 nn) (by first | assumption | (simp; done) | (simp; omega)))
  have D4 := Lib.hid (D3.out.set 1 (.int .i64 nn) #[.int .i64 2, .int .i64 nn, .bool false, .bool false, .bool false, .bool false, .bool false, .int .i64 0, .int .i64 0] rfl)
  have B4 := Lib.hid (Below.setCell B3.out (p := ⟨w.heap.size + 1, 1, none⟩) (by first | assumption | (simp; done) | (simp; omega)) (.int .i64 nn))
  clear R3 D3 B3
  have R5 := Lib.hid (R4.out.other ⟨w.heap.size + 1, 5, none⟩ (.bool b10) (by first | assumption | (simp; done) | (simp; omega)))
  have D5 := Lib.hid (D4.out.set 5 (.bool b10) #[.int .i64 2, .int .i64 nn, .bool false, .bool false, .bool false, .bool b10, .bool false, .int .i64 0, .int .i64 0] rfl)
  have B5 := Lib.hid (Below.setCell B4.out (p := ⟨w.heap.size + 1, 5, none⟩) (by first | assumption | (simp; done) | (simp; omega)) (.bool b10))
  clear R4 D4 B4
  have R6 := Lib.hid (R5.out.other ⟨w.heap.size + 1, 4, none⟩ (.bool (!b54)) (by first | assumption | (simp; done) | (simp; omega)))
  have D6 := Lib.hid (D5.out.set 4 (.bool (!b54)) #[.int .i64 2, .int .i64 nn, .bool false, .bool false, .bool (!b54), .bool b10, .bool false, .int .i64 0, .int .i64 0] rfl)
  have B6 := Lib.hid (Below.setCell B5.out (p := ⟨w.heap.size + 1, 4, none⟩) (by first | assumption | (simp; done) | (simp; omega)) (.bool (!b54)))
  clear R5 D5 B5
  obtain ⟨W6, hW6⟩ : ∃ W6, W6 = ((((w2.setCell ⟨w.heap.size + 1, 0, none⟩ (.int .i64 2)).setCell ⟨w.heap.size + 1, 1, none⟩ (.int .i64 nn)).setCell ⟨w.heap.size + 1, 5, none⟩ (.bool b10)).setCell ⟨w.heap.size + 1, 4, none⟩ (.bool (!b54))) := ⟨_, rfl⟩
  rw [← hW6] at R6 D6 B6 ⊢
  clear hW6
  refine (HF.out _).mono ?_
  rintro e w7 ⟨rfl, hb7⟩
  have R7 := Lib.hid (R6.out.below hb7)
  have D7 := Lib.hid (D6.out.below hb7)
  have B7 := Lib.hid (bel_trans B6.out hb7)
  clear R6 D6 B6 hb7
  have Dc0 := D7.out.get 0 (.int .i64 2) rfl
  have Dc1 := D7.out.get 1 (.int .i64 nn) rfl
  have Dc2 := D7.out.get 2 (.bool false) rfl
  have Dc3 := D7.out.get 3 (.bool false) rfl
  have Dc4 := D7.out.get 4 (.bool (!b54)) rfl
  have Dc5 := D7.out.get 5 (.bool b10) rfl
  have Dc6 := D7.out.get 6 (.bool false) rfl
  have Dc7 := D7.out.get 7 (.int .i64 0) rfl
  have Dc8 := D7.out.get 8 (.int .i64 0) rfl
  have Dz0 := D7.out.free 0
  have Dz1 := D7.out.free 1
  have Dz2 := D7.out.free 2
  have Dz3 := D7.out.free 3
  have Dz4 := D7.out.free 4
  have Dz5 := D7.out.free 5
  have Dz6 := D7.out.free 6
  have Dz7 := D7.out.free 7
  have Dz8 := D7.out.free 8
  go_upto_region 11 with fail
  clear Dc0 Dc1 Dc2 Dc3 Dc4 Dc5 Dc6 Dc7 Dc8 Dz0 Dz1 Dz2 Dz3 Dz4 Dz5 Dz6 Dz7 Dz8
  have R8 := Lib.hid (R7.out.other ⟨w.heap.size + 1, 2, none⟩ (.bool b6) (by first | assumption | (simp; done) | (simp; omega)))
  have D8 := Lib.hid (D7.out.set 2 (.bool b6) #[.int .i64 2, .int .i64 nn, .bool b6, .bool false, .bool (!b54), .bool b10, .bool false, .int .i64 0, .int .i64 0] rfl)
  have B8 := Lib.hid (Below.setCell B7.out (p := ⟨w.heap.size + 1, 2, none⟩) (by first | assumption | (simp; done) | (simp; omega)) (.bool b6))
  clear R7 D7 B7
  have R9 := Lib.hid (R8.out.other ⟨w.heap.size + 1, 3, none⟩ (.bool b7) (by first | assumption | (simp; done) | (simp; omega)))
  have D9 := Lib.hid (D8.out.set 3 (.bool b7) #[.int .i64 2, .int .i64 nn, .bool b6, .bool b7, .bool (!b54), .bool b10, .bool false, .int .i64 0, .int .i64 0] rfl)
  have B9 := Lib.hid (Below.setCell B8.out (p := ⟨w.heap.size + 1, 3, none⟩) (by first | assumption | (simp; done) | (simp; omega)) (.bool b7))
  clear R8 D8 B8
  have R10 := Lib.hid (R9.out.other ⟨w.heap.size + 1, 7, none⟩ (.int .i64 sf) (by first | assumption | (simp; done) | (simp; omega)))
  have D10 := Lib.hid (D9.out.set 7 (.int .i64 sf) #[.int .i64 2, .int .i64 nn, .bool b6, .bool b7, .bool (!b54), .bool b10, .bool false, .int .i64 sf, .int .i64 0] rfl)
  have B10 := Lib.hid (Below.setCell B9.out (p := ⟨w.heap.size + 1, 7, none⟩) (by first | assumption | (simp; done) | (simp; omega)) (.int .i64 sf))
  clear R9 D9 B9
  obtain ⟨W7, hW7⟩ : ∃ W7, W7 = (((w7.setCell ⟨w.heap.size + 1, 2, none⟩ (.bool b6)).setCell ⟨w.heap.size + 1, 3, none⟩ (.bool b7)).setCell ⟨w.heap.size + 1, 7, none⟩ (.int .i64 sf)) := ⟨_, rfl⟩
  rw [← hW7] at R10 D10 B10 ⊢
  clear hW7
  have Dc0 := D10.out.get 0 (.int .i64 2) rfl
  have Dc1 := D10.out.get 1 (.int .i64 nn) rfl
  have Dc2 := D10.out.get 2 (.bool b6) rfl
  have Dc3 := D10.out.get 3 (.bool b7) rfl
  have Dc4 := D10.out.get 4 (.bool (!b54)) rfl
  have Dc5 := D10.out.get 5 (.bool b10) rfl
  have Dc6 := D10.out.get 6 (.bool false) rfl
  have Dc7 := D10.out.get 7 (.int .i64 sf) rfl
  have Dc8 := D10.out.get 8 (.int .i64 0) rfl
  go_wp2_with fail
  clear Dc0 Dc1 Dc2 Dc3 Dc4 Dc5 Dc6 Dc7 Dc8
  refine (HM.out _).mono ?_
  rintro e w11 ⟨rfl, hb11⟩
  have R11 := Lib.hid (R10.out.below hb11)
  have D11 := Lib.hid (D10.out.below hb11)
  have B11 := Lib.hid (bel_trans B10.out hb11)
  clear R10 D10 B10 hb11
  have Dc0 := D11.out.get 0 (.int .i64 2) rfl
  have Dc1 := D11.out.get 1 (.int .i64 nn) rfl
  have Dc2 := D11.out.get 2 (.bool b6) rfl
  have Dc3 := D11.out.get 3 (.bool b7) rfl
  have Dc4 := D11.out.get 4 (.bool (!b54)) rfl
  have Dc5 := D11.out.get 5 (.bool b10) rfl
  have Dc6 := D11.out.get 6 (.bool false) rfl
  have Dc7 := D11.out.get 7 (.int .i64 sf) rfl
  have Dc8 := D11.out.get 8 (.int .i64 0) rfl
  go_wp2_with fail
  clear Dc0 Dc1 Dc2 Dc3 Dc4 Dc5 Dc6 Dc7 Dc8
  refine (HW.out _).mono ?_
  rintro e w12 ⟨rfl, hb12⟩
  have R12 := Lib.hid (R11.out.below hb12)
  have D12 := Lib.hid (D11.out.below hb12)
  have B12 := Lib.hid (bel_trans B11.out hb12)
  clear R11 D11 B11 hb12
  have Rc0 := R12.out.get 0 (.int .i64 0) rfl
  have Rc1 := R12.out.get 1 (.int .i64 0) rfl
  have Rc2 := R12.out.get 2 (.bool false) rfl
  have Rc3 := R12.out.get 3 (.bool false) rfl
  have Rc4 := R12.out.get 4 (.bool false) rfl
  have Rc5 := R12.out.get 5 (.bool false) rfl
  have Rc6 := R12.out.get 6 (.bool false) rfl
  have Rc7 := R12.out.get 7 (.int .i64 0) rfl
  have Rc8 := R12.out.get 8 (.int .i64 0) rfl
  have Rz0 := R12.out.free 0
  have Rz1 := R12.out.free 1
  have Rz2 := R12.out.free 2
  have Rz3 := R12.out.free 3
  have Rz4 := R12.out.free 4
  have Rz5 := R12.out.free 5
  have Rz6 := R12.out.free 6
  have Rz7 := R12.out.free 7
  have Rz8 := R12.out.free 8
  have Dc0 := D12.out.get 0 (.int .i64 2) rfl
  have Dc1 := D12.out.get 1 (.int .i64 nn) rfl
  have Dc2 := D12.out.get 2 (.bool b6) rfl
  have Dc3 := D12.out.get 3 (.bool b7) rfl
  have Dc4 := D12.out.get 4 (.bool (!b54)) rfl
  have Dc5 := D12.out.get 5 (.bool b10) rfl
  have Dc6 := D12.out.get 6 (.bool false) rfl
  have Dc7 := D12.out.get 7 (.int .i64 sf) rfl
  have Dc8 := D12.out.get 8 (.int .i64 0) rfl
  go_wp2
  refine bodyPost_ret (v := .agg #[.int .i64 2, .int .i64 nn, .bool b6, .bool b7, .bool (!b54), .bool b10, .bool false, .int .i64 sf, .int .i64 0]) (by simp [results, Try.results25, go_sem, Rc0, Rc1, Rc2, Rc3, Rc4, Rc5, Rc6, Rc7, Rc8]) rfl ⟨rfl, ?_⟩
  repeat' (first | with_reducible exact B12.out | with_reducible refine Below.setCell ?_ (by first | (simp; done) | (simp; omega)) _)

set_option maxRecDepth 100000 in
set_option maxHeartbeats 1600000 in
theorem rof_leaft1_bad  (v : BitVec 64) (nn : Int) (b10 b54 b7 b11 : Bool) (w : World) 
    (F0 : Hid (∀ W, Calls Try.prog 36 #[.int .u64 (u v), .int .i64 0] W fun e w' => e = .returned (.bool true) ∧ W = w'))
    (F1 : Hid (∀ W, Calls Try.prog 36 #[.int .u64 (u v), .int .i64 1] W fun e w' => e = .returned (.bool true) ∧ W = w'))
    (HN : Hid (∀ W, Calls Try.prog 37 #[.int .u64 (u v), .int .i64 12, .int .i64 12] W fun e w' => e = .returned (.int .u64 nn) ∧ Below W.heap.size W w')) (qHN : 0 ≤ nn ∧ nn ≤ 4095)
    (F10 : Hid (∀ W, Calls Try.prog 36 #[.int .u64 (u v), .int .i64 10] W fun e w' => e = .returned (.bool b10) ∧ W = w'))
    (F54 : Hid (∀ W, Calls Try.prog 36 #[.int .u64 (u v), .int .i64 54] W fun e w' => e = .returned (.bool b54) ∧ W = w'))
    (F7 : Hid (∀ W, Calls Try.prog 36 #[.int .u64 (u v), .int .i64 7] W fun e w' => e = .returned (.bool b7) ∧ W = w'))
    (F11 : Hid (∀ W, Calls Try.prog 36 #[.int .u64 (u v), .int .i64 11] W fun e w' => e = .returned (.bool b11) ∧ W = w'))
    (HM : Hid (∀ W, Calls Try.prog 38 #[.int .i64 1, .int .i64 3, .agg #[.int .i64 2, .int .i64 nn, .bool true, .bool (!b7), .bool (!b54), .bool b10, .bool b11, .int .i64 0, .int .i64 0]] W fun e w' => e = .returned (.bool false) ∧ Below W.heap.size W w')) :
    Calls Try.prog 25 #[.int .i64 1, .int .i64 3, .int .u64 (u v)] w fun e w' => e = .returned (.agg #[.int .i64 0, .int .i64 0, .bool false, .bool false, .bool false, .bool false, .bool false, .int .i64 0, .int .i64 0]) ∧ Below w.heap.size w w' := by
  obtain ⟨qn0, qn1⟩ := qHN
  have R0 := Lib.hid ((BoxAt.new w #[.int .i64 0, .int .i64 0, .bool false, .bool false, .bool false, .bool false, .bool false, .int .i64 0, .int .i64 0] 33).alloc (.cells #[.int .i64 0, .int .i64 0, .bool false, .bool false, .bool false, .bool false, .bool false, .int .i64 0, .int .i64 0] 33))
  have D0 := Lib.hid (BoxAt.new (w.alloc (.cells #[.int .i64 0, .int .i64 0, .bool false, .bool false, .bool false, .bool false, .bool false, .int .i64 0, .int .i64 0] 33)) #[.int .i64 0, .int .i64 0, .bool false, .bool false, .bool false, .bool false, .bool false, .int .i64 0, .int .i64 0] 33)
  rw [show (w.alloc (.cells #[.int .i64 0, .int .i64 0, .bool false, .bool false, .bool false, .bool false, .bool false, .int .i64 0, .int .i64 0] 33)).heap.size = w.heap.size + 1 from by simp] at D0
  have B1 := Lib.hid (bel_alloc (bel_alloc (Below.refl w.heap.size w) (.cells #[.int .i64 0, .int .i64 0, .bool false, .bool false, .bool false, .bool false, .bool false, .int .i64 0, .int .i64 0] 33)) (.cells #[.int .i64 0, .int .i64 0, .bool false, .bool false, .bool false, .bool false, .bool false, .int .i64 0, .int .i64 0] 33))
  go_enter Try.func25, Try.ntmps25
  go_wp2_with (first | (go_at_call 36; first | ((with_reducible refine (F0.out _).mono ?_); rintro e w' ⟨rfl, rfl⟩) | ((with_reducible refine (F1.out _).mono ?_); rintro e w' ⟨rfl, rfl⟩)))
  refine (HN.out _).mono ?_
  rintro e w2 ⟨rfl, hb2⟩
  have R2 := Lib.hid (R0.out.below hb2)
  have D2 := Lib.hid (D0.out.below hb2)
  have B2 := Lib.hid (bel_trans B1.out hb2)
  clear R0 D0 B1 hb2
  have Dc0 := D2.out.get 0 (.int .i64 0) rfl
  have Dc1 := D2.out.get 1 (.int .i64 0) rfl
  have Dc2 := D2.out.get 2 (.bool false) rfl
  have Dc3 := D2.out.get 3 (.bool false) rfl
  have Dc4 := D2.out.get 4 (.bool false) rfl
  have Dc5 := D2.out.get 5 (.bool false) rfl
  have Dc6 := D2.out.get 6 (.bool false) rfl
  have Dc7 := D2.out.get 7 (.int .i64 0) rfl
  have Dc8 := D2.out.get 8 (.int .i64 0) rfl
  have Dz0 := D2.out.free 0
  have Dz1 := D2.out.free 1
  have Dz2 := D2.out.free 2
  have Dz3 := D2.out.free 3
  have Dz4 := D2.out.free 4
  have Dz5 := D2.out.free 5
  have Dz6 := D2.out.free 6
  have Dz7 := D2.out.free 7
  have Dz8 := D2.out.free 8
  go_upto_region 11 with (first | (go_at_call 36; first | ((with_reducible refine (F10.out _).mono ?_); rintro e w' ⟨rfl, rfl⟩) | ((with_reducible refine (F54.out _).mono ?_); rintro e w' ⟨rfl, rfl⟩) | ((with_reducible refine (F7.out _).mono ?_); rintro e w' ⟨rfl, rfl⟩) | ((with_reducible refine (F11.out _).mono ?_); rintro e w' ⟨rfl, rfl⟩)))
  clear Dc0 Dc1 Dc2 Dc3 Dc4 Dc5 Dc6 Dc7 Dc8 Dz0 Dz1 Dz2 Dz3 Dz4 Dz5 Dz6 Dz7 Dz8
  have R3 := Lib.hid (R2.out.other ⟨w.heap.size + 1, 0, none⟩ (.int .i64 2) (by first | assumption | (simp; done) | (simp; omega)))
  have D3 := Lib.hid (D2.out.set 0 (.int .i64 2) #[.int .i64 2, .int .i64 0, .bool false, .bool false, .bool false, .bool false, .bool false, .int .i64 0, .int .i64 0] rfl)
  have B3 := Lib.hid (Below.setCell B2.out (p := ⟨w.heap.size + 1, 0, none⟩) (by first | assumption | (simp; done) | (simp; omega)) (.int .i64 2))
  clear R2 D2 B2
  have R4 := Lib.hid (R3.out.other ⟨w.heap.size + 1, 1, none⟩ (.int .i64 nn) (by first | assumption | (simp; done) | (simp; omega)))
  have D4 := Lib.hid (D3.out.set 1 (.int .i64 nn) #[.int .i64 2, .int .i64 nn, .bool false, .bool false, .bool false, .bool false, .bool false, .int .i64 0, .int .i64 0] rfl)
  have B4 := Lib.hid (Below.setCell B3.out (p := ⟨w.heap.size + 1, 1, none⟩) (by first | assumption | (simp; done) | (simp; omega)) (.int .i64 nn))
  clear R3 D3 B3
  have R5 := Lib.hid (R4.out.other ⟨w.heap.size + 1, 5, none⟩ (.bool b10) (by first | assumption | (simp; done) | (simp; omega)))
  have D5 := Lib.hid (D4.out.set 5 (.bool b10) #[.int .i64 2, .int .i64 nn, .bool false, .bool false, .bool false, .bool b10, .bool false, .int .i64 0, .int .i64 0] rfl)
  have B5 := Lib.hid (Below.setCell B4.out (p := ⟨w.heap.size + 1, 5, none⟩) (by first | assumption | (simp; done) | (simp; omega)) (.bool b10))
  clear R4 D4 B4
  have R6 := Lib.hid (R5.out.other ⟨w.heap.size + 1, 4, none⟩ (.bool (!b54)) (by first | assumption | (simp; done) | (simp; omega)))
  have D6 := Lib.hid (D5.out.set 4 (.bool (!b54)) #[.int .i64 2, .int .i64 nn, .bool false, .bool false, .bool (!b54), .bool b10, .bool false, .int .i64 0, .int .i64 0] rfl)
  have B6 := Lib.hid (Below.setCell B5.out (p := ⟨w.heap.size + 1, 4, none⟩) (by first | assumption | (simp; done) | (simp; omega)) (.bool (!b54)))
  clear R5 D5 B5
  have R7 := Lib.hid (R6.out.other ⟨w.heap.size + 1, 2, none⟩ (.bool true) (by first | assumption | (simp; done) | (simp; omega)))
  have D7 := Lib.hid (D6.out.set 2 (.bool true) #[.int .i64 2, .int .i64 nn, .bool true, .bool false, .bool (!b54), .bool b10, .bool false, .int .i64 0, .int .i64 0] rfl)
  have B7 := Lib.hid (Below.setCell B6.out (p := ⟨w.heap.size + 1, 2, none⟩) (by first | assumption | (simp; done) | (simp; omega)) (.bool true))
  clear R6 D6 B6
  have R8 := Lib.hid (R7.out.other ⟨w.heap.size + 1, 3, none⟩ (.bool (!b7)) (by first | assumption | (simp; done) | (simp; omega)))
  have D8 := Lib.hid (D7.out.set 3 (.bool (!b7)) #[.int .i64 2, .int .i64 nn, .bool true, .bool (!b7), .bool (!b54), .bool b10, .bool false, .int .i64 0, .int .i64 0] rfl)
  have B8 := Lib.hid (Below.setCell B7.out (p := ⟨w.heap.size + 1, 3, none⟩) (by first | assumption | (simp; done) | (simp; omega)) (.bool (!b7)))
  clear R7 D7 B7
  have R9 := Lib.hid (R8.out.other ⟨w.heap.size + 1, 6, none⟩ (.bool b11) (by first | assumption | (simp; done) | (simp; omega)))
  have D9 := Lib.hid (D8.out.set 6 (.bool b11) #[.int .i64 2, .int .i64 nn, .bool true, .bool (!b7), .bool (!b54), .bool b10, .bool b11, .int .i64 0, .int .i64 0] rfl)
  have B9 := Lib.hid (Below.setCell B8.out (p := ⟨w.heap.size + 1, 6, none⟩) (by first | assumption | (simp; done) | (simp; omega)) (.bool b11))
  clear R8 D8 B8
  obtain ⟨W7, hW7⟩ : ∃ W7, W7 = (((((((w2.setCell ⟨w.heap.size + 1, 0, none⟩ (.int .i64 2)).setCell ⟨w.heap.size + 1, 1, none⟩ (.int .i64 nn)).setCell ⟨w.heap.size + 1, 5, none⟩ (.bool b10)).setCell ⟨w.heap.size + 1, 4, none⟩ (.bool (!b54))).setCell ⟨w.heap.size + 1, 2, none⟩ (.bool true)).setCell ⟨w.heap.size + 1, 3, none⟩ (.bool (!b7))).setCell ⟨w.heap.size + 1, 6, none⟩ (.bool b11)) := ⟨_, rfl⟩
  rw [← hW7] at R9 D9 B9 ⊢
  clear hW7
  have Dc0 := D9.out.get 0 (.int .i64 2) rfl
  have Dc1 := D9.out.get 1 (.int .i64 nn) rfl
  have Dc2 := D9.out.get 2 (.bool true) rfl
  have Dc3 := D9.out.get 3 (.bool (!b7)) rfl
  have Dc4 := D9.out.get 4 (.bool (!b54)) rfl
  have Dc5 := D9.out.get 5 (.bool b10) rfl
  have Dc6 := D9.out.get 6 (.bool b11) rfl
  have Dc7 := D9.out.get 7 (.int .i64 0) rfl
  have Dc8 := D9.out.get 8 (.int .i64 0) rfl
  go_wp2_with fail
  clear Dc0 Dc1 Dc2 Dc3 Dc4 Dc5 Dc6 Dc7 Dc8
  refine (HM.out _).mono ?_
  rintro e w10 ⟨rfl, hb10⟩
  have R10 := Lib.hid (R9.out.below hb10)
  have D10 := Lib.hid (D9.out.below hb10)
  have B10 := Lib.hid (bel_trans B9.out hb10)
  clear R9 D9 B9 hb10
  have Rc0 := R10.out.get 0 (.int .i64 0) rfl
  have Rc1 := R10.out.get 1 (.int .i64 0) rfl
  have Rc2 := R10.out.get 2 (.bool false) rfl
  have Rc3 := R10.out.get 3 (.bool false) rfl
  have Rc4 := R10.out.get 4 (.bool false) rfl
  have Rc5 := R10.out.get 5 (.bool false) rfl
  have Rc6 := R10.out.get 6 (.bool false) rfl
  have Rc7 := R10.out.get 7 (.int .i64 0) rfl
  have Rc8 := R10.out.get 8 (.int .i64 0) rfl
  have Rz0 := R10.out.free 0
  have Rz1 := R10.out.free 1
  have Rz2 := R10.out.free 2
  have Rz3 := R10.out.free 3
  have Rz4 := R10.out.free 4
  have Rz5 := R10.out.free 5
  have Rz6 := R10.out.free 6
  have Rz7 := R10.out.free 7
  have Rz8 := R10.out.free 8
  go_wp2
  refine bodyPost_ret (v := .agg #[.int .i64 0, .int .i64 0, .bool false, .bool false, .bool false, .bool false, .bool false, .int .i64 0, .int .i64 0]) (by simp [results, Try.results25, go_sem, Rc0, Rc1, Rc2, Rc3, Rc4, Rc5, Rc6, Rc7, Rc8]) rfl ⟨rfl, ?_⟩
  repeat' (first | with_reducible exact B10.out | with_reducible refine Below.setCell ?_ (by first | (simp; done) | (simp; omega)) _)

set_option maxRecDepth 100000 in
set_option maxHeartbeats 1600000 in
theorem rof_leaft1_other  (v : BitVec 64) (nn : Int) (b10 b54 b7 b11 : Bool) (wd : BitVec 64) (w : World) 
    (F0 : Hid (∀ W, Calls Try.prog 36 #[.int .u64 (u v), .int .i64 0] W fun e w' => e = .returned (.bool true) ∧ W = w'))
    (F1 : Hid (∀ W, Calls Try.prog 36 #[.int .u64 (u v), .int .i64 1] W fun e w' => e = .returned (.bool true) ∧ W = w'))
    (HN : Hid (∀ W, Calls Try.prog 37 #[.int .u64 (u v), .int .i64 12, .int .i64 12] W fun e w' => e = .returned (.int .u64 nn) ∧ Below W.heap.size W w')) (qHN : 0 ≤ nn ∧ nn ≤ 4095)
    (F10 : Hid (∀ W, Calls Try.prog 36 #[.int .u64 (u v), .int .i64 10] W fun e w' => e = .returned (.bool b10) ∧ W = w'))
    (F54 : Hid (∀ W, Calls Try.prog 36 #[.int .u64 (u v), .int .i64 54] W fun e w' => e = .returned (.bool b54) ∧ W = w'))
    (F7 : Hid (∀ W, Calls Try.prog 36 #[.int .u64 (u v), .int .i64 7] W fun e w' => e = .returned (.bool b7) ∧ W = w'))
    (F11 : Hid (∀ W, Calls Try.prog 36 #[.int .u64 (u v), .int .i64 11] W fun e w' => e = .returned (.bool b11) ∧ W = w'))
    (HM : Hid (∀ W, Calls Try.prog 38 #[.int .i64 1, .int .i64 3, .agg #[.int .i64 2, .int .i64 nn, .bool true, .bool (!b7), .bool (!b54), .bool b10, .bool b11, .int .i64 0, .int .i64 0]] W fun e w' => e = .returned (.bool true) ∧ Below W.heap.size W w'))
    (HW : Hid (∀ W, Calls Try.prog 39 #[.int .i64 1, .int .i64 3, .agg #[.int .i64 2, .int .i64 nn, .bool true, .bool (!b7), .bool (!b54), .bool b10, .bool b11, .int .i64 0, .int .i64 0]] W fun e w' => e = .returned (.int .u64 (u wd)) ∧ Below W.heap.size W w'))
    (hq : (u wd != u v) = true) :
    Calls Try.prog 25 #[.int .i64 1, .int .i64 3, .int .u64 (u v)] w fun e w' => e = .returned (.agg #[.int .i64 0, .int .i64 0, .bool false, .bool false, .bool false, .bool false, .bool false, .int .i64 0, .int .i64 0]) ∧ Below w.heap.size w w' := by
  obtain ⟨qn0, qn1⟩ := qHN
  have R0 := Lib.hid ((BoxAt.new w #[.int .i64 0, .int .i64 0, .bool false, .bool false, .bool false, .bool false, .bool false, .int .i64 0, .int .i64 0] 33).alloc (.cells #[.int .i64 0, .int .i64 0, .bool false, .bool false, .bool false, .bool false, .bool false, .int .i64 0, .int .i64 0] 33))
  have D0 := Lib.hid (BoxAt.new (w.alloc (.cells #[.int .i64 0, .int .i64 0, .bool false, .bool false, .bool false, .bool false, .bool false, .int .i64 0, .int .i64 0] 33)) #[.int .i64 0, .int .i64 0, .bool false, .bool false, .bool false, .bool false, .bool false, .int .i64 0, .int .i64 0] 33)
  rw [show (w.alloc (.cells #[.int .i64 0, .int .i64 0, .bool false, .bool false, .bool false, .bool false, .bool false, .int .i64 0, .int .i64 0] 33)).heap.size = w.heap.size + 1 from by simp] at D0
  have B1 := Lib.hid (bel_alloc (bel_alloc (Below.refl w.heap.size w) (.cells #[.int .i64 0, .int .i64 0, .bool false, .bool false, .bool false, .bool false, .bool false, .int .i64 0, .int .i64 0] 33)) (.cells #[.int .i64 0, .int .i64 0, .bool false, .bool false, .bool false, .bool false, .bool false, .int .i64 0, .int .i64 0] 33))
  go_enter Try.func25, Try.ntmps25
  go_wp2_with (first | (go_at_call 36; first | ((with_reducible refine (F0.out _).mono ?_); rintro e w' ⟨rfl, rfl⟩) | ((with_reducible refine (F1.out _).mono ?_); rintro e w' ⟨rfl, rfl⟩)))
  refine (HN.out _).mono ?_
  rintro e w2 ⟨rfl, hb2⟩
  have R2 := Lib.hid (R0.out.below hb2)
  have D2 := Lib.hid (D0.out.below hb2)
  have B2 := Lib.hid (bel_trans B1.out hb2)
  clear R0 D0 B1 hb2
  have Dc0 := D2.out.get 0 (.int .i64 0) rfl
  have Dc1 := D2.out.get 1 (.int .i64 0) rfl
  have Dc2 := D2.out.get 2 (.bool false) rfl
  have Dc3 := D2.out.get 3 (.bool false) rfl
  have Dc4 := D2.out.get 4 (.bool false) rfl
  have Dc5 := D2.out.get 5 (.bool false) rfl
  have Dc6 := D2.out.get 6 (.bool false) rfl
  have Dc7 := D2.out.get 7 (.int .i64 0) rfl
  have Dc8 := D2.out.get 8 (.int .i64 0) rfl
  have Dz0 := D2.out.free 0
  have Dz1 := D2.out.free 1
  have Dz2 := D2.out.free 2
  have Dz3 := D2.out.free 3
  have Dz4 := D2.out.free 4
  have Dz5 := D2.out.free 5
  have Dz6 := D2.out.free 6
  have Dz7 := D2.out.free 7
  have Dz8 := D2.out.free 8
  go_upto_region 11 with (first | (go_at_call 36; first | ((with_reducible refine (F10.out _).mono ?_); rintro e w' ⟨rfl, rfl⟩) | ((with_reducible refine (F54.out _).mono ?_); rintro e w' ⟨rfl, rfl⟩) | ((with_reducible refine (F7.out _).mono ?_); rintro e w' ⟨rfl, rfl⟩) | ((with_reducible refine (F11.out _).mono ?_); rintro e w' ⟨rfl, rfl⟩)))
  clear Dc0 Dc1 Dc2 Dc3 Dc4 Dc5 Dc6 Dc7 Dc8 Dz0 Dz1 Dz2 Dz3 Dz4 Dz5 Dz6 Dz7 Dz8
  have R3 := Lib.hid (R2.out.other ⟨w.heap.size + 1, 0, none⟩ (.int .i64 2) (by first | assumption | (simp; done) | (simp; omega)))
  have D3 := Lib.hid (D2.out.set 0 (.int .i64 2) #[.int .i64 2, .int .i64 0, .bool false, .bool false, .bool false, .bool false, .bool false, .int .i64 0, .int .i64 0] rfl)
  have B3 := Lib.hid (Below.setCell B2.out (p := ⟨w.heap.size + 1, 0, none⟩) (by first | assumption | (simp; done) | (simp; omega)) (.int .i64 2))
  clear R2 D2 B2
  have R4 := Lib.hid (R3.out.other ⟨w.heap.size + 1, 1, none⟩ (.int .i64 nn) (by first | assumption | (simp; done) | (simp; omega)))
  have D4 := Lib.hid (D3.out.set 1 (.int .i64 nn) #[.int .i64 2, .int .i64 nn, .bool false, .bool false, .bool false, .bool false, .bool false, .int .i64 0, .int .i64 0] rfl)
  have B4 := Lib.hid (Below.setCell B3.out (p := ⟨w.heap.size + 1, 1, none⟩) (by first | assumption | (simp; done) | (simp; omega)) (.int .i64 nn))
  clear R3 D3 B3
  have R5 := Lib.hid (R4.out.other ⟨w.heap.size + 1, 5, none⟩ (.bool b10) (by first | assumption | (simp; done) | (simp; omega)))
  have D5 := Lib.hid (D4.out.set 5 (.bool b10) #[.int .i64 2, .int .i64 nn, .bool false, .bool false, .bool false, .bool b10, .bool false, .int .i64 0, .int .i64 0] rfl)
  have B5 := Lib.hid (Below.setCell B4.out (p := ⟨w.heap.size + 1, 5, none⟩) (by first | assumption | (simp; done) | (simp; omega)) (.bool b10))
  clear R4 D4 B4
  have R6 := Lib.hid (R5.out.other ⟨w.heap.size + 1, 4, none⟩ (.bool (!b54)) (by first | assumption | (simp; done) | (simp; omega)))
  have D6 := Lib.hid (D5.out.set 4 (.bool (!b54)) #[.int .i64 2, .int .i64 nn, .bool false, .bool false, .bool (!b54), .bool b10, .bool false, .int .i64 0, .int .i64 0] rfl)
  have B6 := Lib.hid (Below.setCell B5.out (p := ⟨w.heap.size + 1, 4, none⟩) (by first | assumption | (simp; done) | (simp; omega)) (.bool (!b54)))
  clear R5 D5 B5
  have R7 := Lib.hid (R6.out.other ⟨w.heap.size + 1, 2, none⟩ (.bool true) (by first | assumption | (simp; done) | (simp; omega)))
  have D7 := Lib.hid (D6.out.set 2 (.bool true) #[.int .i64 2, .int .i64 nn, .bool true, .bool false, .bool (!b54), .bool b10, .bool false, .int .i64 0, .int .i64 0] rfl)
  have B7 := Lib.hid (Below.setCell B6.out (p := ⟨w.heap.size + 1, 2, none⟩) (by first | assumption | (simp; done) | (simp; omega)) (.bool true))
  clear R6 D6 B6
  have R8 := Lib.hid (R7.out.other ⟨w.heap.size + 1, 3, none⟩ (.bool (!b7)) (by first | assumption | (simp; done) | (simp; omega)))
  have D8 := Lib.hid (D7.out.set 3 (.bool (!b7)) #[.int .i64 2, .int .i64 nn, .bool true, .bool (!b7), .bool (!b54), .bool b10, .bool false, .int .i64 0, .int .i64 0] rfl)
  have B8 := Lib.hid (Below.setCell B7.out (p := ⟨w.heap.size + 1, 3, none⟩) (by first | assumption | (simp; done) | (simp; omega)) (.bool (!b7)))
  clear R7 D7 B7
  have R9 := Lib.hid (R8.out.other ⟨w.heap.size + 1, 6, none⟩ (.bool b11) (by first | assumption | (simp; done) | (simp; omega)))
  have D9 := Lib.hid (D8.out.set 6 (.bool b11) #[.int .i64 2, .int .i64 nn, .bool true, .bool (!b7), .bool (!b54), .bool b10, .bool b11, .int .i64 0, .int .i64 0] rfl)
  have B9 := Lib.hid (Below.setCell B8.out (p := ⟨w.heap.size + 1, 6, none⟩) (by first | assumption | (simp; done) | (simp; omega)) (.bool b11))
  clear R8 D8 B8
  obtain ⟨W7, hW7⟩ : ∃ W7, W7 = (((((((w2.setCell ⟨w.heap.size + 1, 0, none⟩ (.int .i64 2)).setCell ⟨w.heap.size + 1, 1, none⟩ (.int .i64 nn)).setCell ⟨w.heap.size + 1, 5, none⟩ (.bool b10)).setCell ⟨w.heap.size + 1, 4, none⟩ (.bool (!b54))).setCell ⟨w.heap.size + 1, 2, none⟩ (.bool true)).setCell ⟨w.heap.size + 1, 3, none⟩ (.bool (!b7))).setCell ⟨w.heap.size + 1, 6, none⟩ (.bool b11)) := ⟨_, rfl⟩
  rw [← hW7] at R9 D9 B9 ⊢
  clear hW7
  have Dc0 := D9.out.get 0 (.int .i64 2) rfl
  have Dc1 := D9.out.get 1 (.int .i64 nn) rfl
  have Dc2 := D9.out.get 2 (.bool true) rfl
  have Dc3 := D9.out.get 3 (.bool (!b7)) rfl
  have Dc4 := D9.out.get 4 (.bool (!b54)) rfl
  have Dc5 := D9.out.get 5 (.bool b10) rfl
  have Dc6 := D9.out.get 6 (.bool b11) rfl
  have Dc7 := D9.out.get 7 (.int .i64 0) rfl
  have Dc8 := D9.out.get 8 (.int .i64 0) rfl
  go_wp2_with fail
  clear Dc0 Dc1 Dc2 Dc3 Dc4 Dc5 Dc6 Dc7 Dc8
  refine (HM.out _).mono ?_
  rintro e w10 ⟨rfl, hb10⟩
  have R10 := Lib.hid (R9.out.below hb10)
  have D10 := Lib.hid (D9.out.below hb10)
  have B10 := Lib.hid (bel_trans B9.out hb10)
  clear R9 D9 B9 hb10
  have Dc0 := D10.out.get 0 (.int .i64 2) rfl
  have Dc1 := D10.out.get 1 (.int .i64 nn) rfl
  have Dc2 := D10.out.get 2 (.bool true) rfl
  have Dc3 := D10.out.get 3 (.bool (!b7)) rfl
  have Dc4 := D10.out.get 4 (.bool (!b54)) rfl
  have Dc5 := D10.out.get 5 (.bool b10) rfl
  have Dc6 := D10.out.get 6 (.bool b11) rfl
  have Dc7 := D10.out.get 7 (.int .i64 0) rfl
  have Dc8 := D10.out.get 8 (.int .i64 0) rfl
  go_wp2_with fail
  clear Dc0 Dc1 Dc2 Dc3 Dc4 Dc5 Dc6 Dc7 Dc8
  refine (HW.out _).mono ?_
  rintro e w11 ⟨rfl, hb11⟩
  have R11 := Lib.hid (R10.out.below hb11)
  have D11 := Lib.hid (D10.out.below hb11)
  have B11 := Lib.hid (bel_trans B10.out hb11)
  clear R10 D10 B10 hb11
  have Rc0 := R11.out.get 0 (.int .i64 0) rfl
  have Rc1 := R11.out.get 1 (.int .i64 0) rfl
  have Rc2 := R11.out.get 2 (.bool false) rfl
  have Rc3 := R11.out.get 3 (.bool false) rfl
  have Rc4 := R11.out.get 4 (.bool false) rfl
  have Rc5 := R11.out.get 5 (.bool false) rfl
  have Rc6 := R11.out.get 6 (.bool false) rfl
  have Rc7 := R11.out.get 7 (.int .i64 0) rfl
  have Rc8 := R11.out.get 8 (.int .i64 0) rfl
  have Rz0 := R11.out.free 0
  have Rz1 := R11.out.free 1
  have Rz2 := R11.out.free 2
  have Rz3 := R11.out.free 3
  have Rz4 := R11.out.free 4
  have Rz5 := R11.out.free 5
  have Rz6 := R11.out.free 6
  have Rz7 := R11.out.free 7
  have Rz8 := R11.out.free 8
  go_wp2
  refine bodyPost_ret (v := .agg #[.int .i64 0, .int .i64 0, .bool false, .bool false, .bool false, .bool false, .bool false, .int .i64 0, .int .i64 0]) (by simp [results, Try.results25, go_sem, Rc0, Rc1, Rc2, Rc3, Rc4, Rc5, Rc6, Rc7, Rc8]) rfl ⟨rfl, ?_⟩
  repeat' (first | with_reducible exact B11.out | with_reducible refine Below.setCell ?_ (by first | (simp; done) | (simp; omega)) _)

set_option maxRecDepth 100000 in
set_option maxHeartbeats 1600000 in
theorem rof_leaft1_yes  (v : BitVec 64) (nn : Int) (b10 b54 b7 b11 : Bool) (wd : BitVec 64) (w : World) 
    (F0 : Hid (∀ W, Calls Try.prog 36 #[.int .u64 (u v), .int .i64 0] W fun e w' => e = .returned (.bool true) ∧ W = w'))
    (F1 : Hid (∀ W, Calls Try.prog 36 #[.int .u64 (u v), .int .i64 1] W fun e w' => e = .returned (.bool true) ∧ W = w'))
    (HN : Hid (∀ W, Calls Try.prog 37 #[.int .u64 (u v), .int .i64 12, .int .i64 12] W fun e w' => e = .returned (.int .u64 nn) ∧ Below W.heap.size W w')) (qHN : 0 ≤ nn ∧ nn ≤ 4095)
    (F10 : Hid (∀ W, Calls Try.prog 36 #[.int .u64 (u v), .int .i64 10] W fun e w' => e = .returned (.bool b10) ∧ W = w'))
    (F54 : Hid (∀ W, Calls Try.prog 36 #[.int .u64 (u v), .int .i64 54] W fun e w' => e = .returned (.bool b54) ∧ W = w'))
    (F7 : Hid (∀ W, Calls Try.prog 36 #[.int .u64 (u v), .int .i64 7] W fun e w' => e = .returned (.bool b7) ∧ W = w'))
    (F11 : Hid (∀ W, Calls Try.prog 36 #[.int .u64 (u v), .int .i64 11] W fun e w' => e = .returned (.bool b11) ∧ W = w'))
    (HM : Hid (∀ W, Calls Try.prog 38 #[.int .i64 1, .int .i64 3, .agg #[.int .i64 2, .int .i64 nn, .bool true, .bool (!b7), .bool (!b54), .bool b10, .bool b11, .int .i64 0, .int .i64 0]] W fun e w' => e = .returned (.bool true) ∧ Below W.heap.size W w'))
    (HW : Hid (∀ W, Calls Try.prog 39 #[.int .i64 1, .int .i64 3, .agg #[.int .i64 2, .int .i64 nn, .bool true, .bool (!b7), .bool (!b54), .bool b10, .bool b11, .int .i64 0, .int .i64 0]] W fun e w' => e = .returned (.int .u64 (u wd)) ∧ Below W.heap.size W w'))
    (hq : (u wd != u v) = false) :
    Calls Try.prog 25 #[.int .i64 1, .int .i64 3, .int .u64 (u v)] w fun e w' => e = .returned (.agg #[.int .i64 2, .int .i64 nn, .bool true, .bool (!b7), .bool (!b54), .bool b10, .bool b11, .int .i64 0, .int .i64 0]) ∧ Below w.heap.size w w' := by
  obtain ⟨qn0, qn1⟩ := qHN
  have R0 := Lib.hid ((BoxAt.new w #[.int .i64 0, .int .i64 0, .bool false, .bool false, .bool false, .bool false, .bool false, .int .i64 0, .int .i64 0] 33).alloc (.cells #[.int .i64 0, .int .i64 0, .bool false, .bool false, .bool false, .bool false, .bool false, .int .i64 0, .int .i64 0] 33))
  have D0 := Lib.hid (BoxAt.new (w.alloc (.cells #[.int .i64 0, .int .i64 0, .bool false, .bool false, .bool false, .bool false, .bool false, .int .i64 0, .int .i64 0] 33)) #[.int .i64 0, .int .i64 0, .bool false, .bool false, .bool false, .bool false, .bool false, .int .i64 0, .int .i64 0] 33)
  rw [show (w.alloc (.cells #[.int .i64 0, .int .i64 0, .bool false, .bool false, .bool false, .bool false, .bool false, .int .i64 0, .int .i64 0] 33)).heap.size = w.heap.size + 1 from by simp] at D0
  have B1 := Lib.hid (bel_alloc (bel_alloc (Below.refl w.heap.size w) (.cells #[.int .i64 0, .int .i64 0, .bool false, .bool false, .bool false, .bool false, .bool false, .int .i64 0, .int .i64 0] 33)) (.cells #[.int .i64 0, .int .i64 0, .bool false, .bool false, .bool false, .bool false, .bool false, .int .i64 0, .int .i64 0] 33))
  go_enter Try.func25, Try.ntmps25
  go_wp2_with (first | (go_at_call 36; first | ((with_reducible refine (F0.out _).mono ?_); rintro e w' ⟨rfl, rfl⟩) | ((with_reducible refine (F1.out _).mono ?_); rintro e w' ⟨rfl, rfl⟩)))
  refine (HN.out _).mono ?_
  rintro e w2 ⟨rfl, hb2⟩
  have R2 := Lib.hid (R0.out.below hb2)
  have D2 := Lib.hid (D0.out.below hb2)
  have B2 := Lib.hid (bel_trans B1.out hb2)
  clear R0 D0 B1 hb2
  have Dc0 := D2.out.get 0 (.int .i64 0) rfl
  have Dc1 := D2.out.get 1 (.int .i64 0) rfl
  have Dc2 := D2.out.get 2 (.bool false) rfl
  have Dc3 := D2.out.get 3 (.bool false) rfl
  have Dc4 := D2.out.get 4 (.bool false) rfl
  have Dc5 := D2.out.get 5 (.bool false) rfl
  have Dc6 := D2.out.get 6 (.bool false) rfl
  have Dc7 := D2.out.get 7 (.int .i64 0) rfl
  have Dc8 := D2.out.get 8 (.int .i64 0) rfl
  have Dz0 := D2.out.free 0
  have Dz1 := D2.out.free 1
  have Dz2 := D2.out.free 2
  have Dz3 := D2.out.free 3
  have Dz4 := D2.out.free 4
  have Dz5 := D2.out.free 5
  have Dz6 := D2.out.free 6
  have Dz7 := D2.out.free 7
  have Dz8 := D2.out.free 8
  go_upto_region 11 with (first | (go_at_call 36; first | ((with_reducible refine (F10.out _).mono ?_); rintro e w' ⟨rfl, rfl⟩) | ((with_reducible refine (F54.out _).mono ?_); rintro e w' ⟨rfl, rfl⟩) | ((with_reducible refine (F7.out _).mono ?_); rintro e w' ⟨rfl, rfl⟩) | ((with_reducible refine (F11.out _).mono ?_); rintro e w' ⟨rfl, rfl⟩)))
  clear Dc0 Dc1 Dc2 Dc3 Dc4 Dc5 Dc6 Dc7 Dc8 Dz0 Dz1 Dz2 Dz3 Dz4 Dz5 Dz6 Dz7 Dz8
  have R3 := Lib.hid (R2.out.other ⟨w.heap.size + 1, 0, none⟩ (.int .i64 2) (by first | assumption | (simp; done) | (simp; omega)))
  have D3 := Lib.hid (D2.out.set 0 (.int .i64 2) #[.int .i64 2, .int .i64 0, .bool false, .bool false, .bool false, .bool false, .bool false, .int .i64 0, .int .i64 0] rfl)
  have B3 := Lib.hid (Below.setCell B2.out (p := ⟨w.heap.size + 1, 0, none⟩) (by first | assumption | (simp; done) | (simp; omega)) (.int .i64 2))
  clear R2 D2 B2
  have R4 := Lib.hid (R3.out.other ⟨w.heap.size + 1, 1, none⟩ (.int .i64 nn) (by first | assumption | (simp; done) | (simp; omega)))
  have D4 := Lib.hid (D3.out.set 1 (.int .i64 nn) #[.int .i64 2, .int .i64 nn, .bool false, .bool false, .bool false, .bool false, .bool false, .int .i64 0, .int .i64 0] rfl)
  have B4 := Lib.hid (Below.setCell B3.out (p := ⟨w.heap.size + 1, 1, none⟩) (by first | assumption | (simp; done) | (simp; omega)) (.int .i64 nn))
  clear R3 D3 B3
  have R5 := Lib.hid (R4.out.other ⟨w.heap.size + 1, 5, none⟩ (.bool b10) (by first | assumption | (simp; done) | (simp; omega)))
  have D5 := Lib.hid (D4.out.set 5 (.bool b10) #[.int .i64 2, .int .i64 nn, .bool false, .bool false, .bool false, .bool b10, .bool false, .int .i64 0, .int .i64 0] rfl)
  have B5 := Lib.hid (Below.setCell B4.out (p := ⟨w.heap.size + 1, 5, none⟩) (by first | assumption | (simp; done) | (simp; omega)) (.bool b10))
  clear R4 D4 B4
  have R6 := Lib.hid (R5.out.other ⟨w.heap.size + 1, 4, none⟩ (.bool (!b54)) (by first | assumption | (simp; done) | (simp; omega)))
  have D6 := Lib.hid (D5.out.set 4 (.bool (!b54)) #[.int .i64 2, .int .i64 nn, .bool false, .bool false, .bool (!b54), .bool b10, .bool false, .int .i64 0, .int .i64 0] rfl)
  have B6 := Lib.hid (Below.setCell B5.out (p := ⟨w.heap.size + 1, 4, none⟩) (by first | assumption | (simp; done) | (simp; omega)) (.bool (!b54)))
  clear R5 D5 B5
  have R7 := Lib.hid (R6.out.other ⟨w.heap.size + 1, 2, none⟩ (.bool true) (by first | assumption | (simp; done) | (simp; omega)))
  have D7 := Lib.hid (D6.out.set 2 (.bool true) #[.int .i64 2, .int .i64 nn, .bool true, .bool false, .bool (!b54), .bool b10, .bool false, .int .i64 0, .int .i64 0] rfl)
  have B7 := Lib.hid (Below.setCell B6.out (p := ⟨w.heap.size + 1, 2, none⟩) (by first | assumption | (simp; done) | (simp; omega)) (.bool true))
  clear R6 D6 B6
  have R8 := Lib.hid (R7.out.other ⟨w.heap.size + 1, 3, none⟩ (.bool (!b7)) (by first | assumption | (simp; done) | (simp; omega)))
  have D8 := Lib.hid (D7.out.set 3 (.bool (!b7)) #[.int .i64 2, .int .i64 nn, .bool true, .bool (!b7), .bool (!b54), .bool b10, .bool false, .int .i64 0, .int .i64 0] rfl)
  have B8 := Lib.hid (Below.setCell B7.out (p := ⟨w.heap.size + 1, 3, none⟩) (by first | assumption | (simp; done) | (simp; omega)) (.bool (!b7)))
  clear R7 D7 B7
  have R9 := Lib.hid (R8.out.other ⟨w.heap.size + 1, 6, none⟩ (.bool b11) (by first | assumption | (simp; done) | (simp; omega)))
  have D9 := Lib.hid (D8.out.set 6 (.bool b11) #[.int .i64 2, .int .i64 nn, .bool true, .bool (!b7), .bool (!b54), .bool b10, .bool b11, .int .i64 0, .int .i64 0] rfl)
  have B9 := Lib.hid (Below.setCell B8.out (p := ⟨w.heap.size + 1, 6, none⟩) (by first | assumption | (simp; done) | (simp; omega)) (.bool b11))
  clear R8 D8 B8
  obtain ⟨W7, hW7⟩ : ∃ W7, W7 = (((((((w2.setCell ⟨w.heap.size + 1, 0, none⟩ (.int .i64 2)).setCell ⟨w.heap.size + 1, 1, none⟩ (.int .i64 nn)).setCell ⟨w.heap.size + 1, 5, none⟩ (.bool b10)).setCell ⟨w.heap.size + 1, 4, none⟩ (.bool (!b54))).setCell ⟨w.heap.size + 1, 2, none⟩ (.bool true)).setCell ⟨w.heap.size + 1, 3, none⟩ (.bool (!b7))).setCell ⟨w.heap.size + 1, 6, none⟩ (.bool b11)) := ⟨_, rfl⟩
  rw [← hW7] at R9 D9 B9 ⊢
  clear hW7
  have Dc0 := D9.out.get 0 (.int .i64 2) rfl
  have Dc1 := D9.out.get 1 (.int .i64 nn) rfl
  have Dc2 := D9.out.get 2 (.bool true) rfl
  have Dc3 := D9.out.get 3 (.bool (!b7)) rfl
  have Dc4 := D9.out.get 4 (.bool (!b54)) rfl
  have Dc5 := D9.out.get 5 (.bool b10) rfl
  have Dc6 := D9.out.get 6 (.bool b11) rfl
  have Dc7 := D9.out.get 7 (.int .i64 0) rfl
  have Dc8 := D9.out.get 8 (.int .i64 0) rfl
  go_wp2_with fail
  clear Dc0 Dc1 Dc2 Dc3 Dc4 Dc5 Dc6 Dc7 Dc8
  refine (HM.out _).mono ?_
  rintro e w10 ⟨rfl, hb10⟩
  have R10 := Lib.hid (R9.out.below hb10)
  have D10 := Lib.hid (D9.out.below hb10)
  have B10 := Lib.hid (bel_trans B9.out hb10)
  clear R9 D9 B9 hb10
  have Dc0 := D10.out.get 0 (.int .i64 2) rfl
  have Dc1 := D10.out.get 1 (.int .i64 nn) rfl
  have Dc2 := D10.out.get 2 (.bool true) rfl
  have Dc3 := D10.out.get 3 (.bool (!b7)) rfl
  have Dc4 := D10.out.get 4 (.bool (!b54)) rfl
  have Dc5 := D10.out.get 5 (.bool b10) rfl
  have Dc6 := D10.out.get 6 (.bool b11) rfl
  have Dc7 := D10.out.get 7 (.int .i64 0) rfl
  have Dc8 := D10.out.get 8 (.int .i64 0) rfl
  go_wp2_with fail
  clear Dc0 Dc1 Dc2 Dc3 Dc4 Dc5 Dc6 Dc7 Dc8
  refine (HW.out _).mono ?_
  rintro e w11 ⟨rfl, hb11⟩
  have R11 := Lib.hid (R10.out.below hb11)
  have D11 := Lib.hid (D10.out.below hb11)
  have B11 := Lib.hid (bel_trans B10.out hb11)
  clear R10 D10 B10 hb11
  have Rc0 := R11.out.get 0 (.int .i64 0) rfl
  have Rc1 := R11.out.get 1 (.int .i64 0) rfl
  have Rc2 := R11.out.get 2 (.bool false) rfl
  have Rc3 := R11.out.get 3 (.bool false) rfl
  have Rc4 := R11.out.get 4 (.bool false) rfl
  have Rc5 := R11.out.get 5 (.bool false) rfl
  have Rc6 := R11.out.get 6 (.bool false) rfl
  have Rc7 := R11.out.get 7 (.int .i64 0) rfl
  have Rc8 := R11.out.get 8 (.int .i64 0) rfl
  have Rz0 := R11.out.free 0
  have Rz1 := R11.out.free 1
  have Rz2 := R11.out.free 2
  have Rz3 := R11.out.free 3
  have Rz4 := R11.out.free 4
  have Rz5 := R11.out.free 5
  have Rz6 := R11.out.free 6
  have Rz7 := R11.out.free 7
  have Rz8 := R11.out.free 8
  have Dc0 := D11.out.get 0 (.int .i64 2) rfl
  have Dc1 := D11.out.get 1 (.int .i64 nn) rfl
  have Dc2 := D11.out.get 2 (.bool true) rfl
  have Dc3 := D11.out.get 3 (.bool (!b7)) rfl
  have Dc4 := D11.out.get 4 (.bool (!b54)) rfl
  have Dc5 := D11.out.get 5 (.bool b10) rfl
  have Dc6 := D11.out.get 6 (.bool b11) rfl
  have Dc7 := D11.out.get 7 (.int .i64 0) rfl
  have Dc8 := D11.out.get 8 (.int .i64 0) rfl
  go_wp2
  refine bodyPost_ret (v := .agg #[.int .i64 2, .int .i64 nn, .bool true, .bool (!b7), .bool (!b54), .bool b10, .bool b11, .int .i64 0, .int .i64 0]) (by simp [results, Try.results25, go_sem, Rc0, Rc1, Rc2, Rc3, Rc4, Rc5, Rc6, Rc7, Rc8]) rfl ⟨rfl, ?_⟩
  repeat' (first | with_reducible exact B11.out | with_reducible refine Below.setCell ?_ (by first | (simp; done) | (simp; omega)) _)

set_option maxRecDepth 100000 in
set_option maxHeartbeats 1600000 in
theorem rof_leaft2_bad (st : Int) (v : BitVec 64) (nn : Int) (b10 b54 b7 b6 : Bool) (sf : Int) (w : World) (t1 : (st == 1) = false)
    (F0 : Hid (∀ W, Calls Try.prog 36 #[.int .u64 (u v), .int .i64 0] W fun e w' => e = .returned (.bool true) ∧ W = w'))
    (F1 : Hid (∀ W, Calls Try.prog 36 #[.int .u64 (u v), .int .i64 1] W fun e w' => e = .returned (.bool true) ∧ W = w'))
    (HN : Hid (∀ W, Calls Try.prog 37 #[.int .u64 (u v), .int .i64 12, .int .i64 12] W fun e w' => e = .returned (.int .u64 nn) ∧ Below W.heap.size W w')) (qHN : 0 ≤ nn ∧ nn ≤ 4095)
    (F10 : Hid (∀ W, Calls Try.prog 36 #[.int .u64 (u v), .int .i64 10] W fun e w' => e = .returned (.bool b10) ∧ W = w'))
    (F54 : Hid (∀ W, Calls Try.prog 36 #[.int .u64 (u v), .int .i64 54] W fun e w' => e = .returned (.bool b54) ∧ W = w'))
    (F7 : Hid (∀ W, Calls Try.prog 36 #[.int .u64 (u v), .int .i64 7] W fun e w' => e = .returned (.bool b7) ∧ W = w'))
    (F6 : Hid (∀ W, Calls Try.prog 36 #[.int .u64 (u v), .int .i64 6] W fun e w' => e = .returned (.bool b6) ∧ W = w'))
    (HF : Hid (∀ W, Calls Try.prog 37 #[.int .u64 (u v), .int .i64 55, .int .i64 4] W fun e w' => e = .returned (.int .u64 sf) ∧ Below W.heap.size W w')) (qHF : 0 ≤ sf ∧ sf ≤ 4095)
    (HM : Hid (∀ W, Calls Try.prog 38 #[.int .i64 st, .int .i64 3, .agg #[.int .i64 2, .int .i64 nn, .bool b6, .bool b7, .bool (!b54), .bool b10, .bool false, .int .i64 sf, .int .i64 0]] W fun e w' => e = .returned (.bool false) ∧ Below W.heap.size W w')) :
    Calls Try.prog 25 #[.int .i64 st, .int .i64 3, .int .u64 (u v)] w fun e w' => e = .returned (.agg #[.int .i64 0, .int .i64 0, .bool false, .bool false, .bool false, .bool false, .bool false, .int .i64 0, .int .i64 0]) ∧ Below w.heap.size w w' := by
  obtain ⟨qn0, qn1⟩ := qHN
  obtain ⟨qf0, qf1⟩ := qHF
  have R0 := Lib.hid ((BoxAt.new w #[.int .i64 0, .int .i64 0, .bool false, .bool false, .bool false, .bool false, .bool false, .int .i64 0, .int .i64 0] 33).alloc (.cells #[.int .i64 0, .int .i64 0, .bool false, .bool false, .bool false, .bool false, .bool false, .int .i64 0, .int .i64 0] 33))
  have D0 := Lib.hid (BoxAt.new (w.alloc (.cells #[.int .i64 0, .int .i64 0, .bool false, .bool false, .bool false, .bool false, .bool false, .int .i64 0, .int .i64 0] 33)) #[.int .i64 0, .int .i64 0, .bool false, .bool false, .bool false, .bool false, .bool false, .int .i64 0, .int .i64 0] 33)
  rw [show (w.alloc (.cells #[.int .i64 0, .int .i64 0, .bool false, .bool false, .bool false, .bool false, .bool false, .int .i64 0, .int .i64 0] 33)).heap.size = w.heap.size + 1 from by simp] at D0
  have B1 := Lib.hid (bel_alloc (bel_alloc (Below.refl w.heap.size w) (.cells #[.int .i64 0, .int .i64 0, .bool false, .bool false, .bool false, .bool false, .bool false, .int .i64 0, .int .i64 0] 33)) (.cells #[.int .i64 0, .int .i64 0, .bool false, .bool false, .bool false, .bool false, .bool false, .int .i64 0, .int .i64 0] 33))
  go_enter Try.func25, Try.ntmps25
  go_wp2_with (first | (go_at_call 36; first | ((with_reducible refine (F0.out _).mono ?_); rintro e w' ⟨rfl, rfl⟩) | ((with_reducible refine (F1.out _).mono ?_); rintro e w' ⟨rfl, rfl⟩)))
  refine (HN.out _).mono ?_
  rintro e w2 ⟨rfl, hb2⟩
  have R2 := Lib.hid (R0.out.below hb2)
  have D2 := Lib.hid (D0.out.below hb2)
  have B2 := Lib.hid (bel_trans B1.out hb2)
  clear R0 D0 B1 hb2
  have Dc0 := D2.out.get 0 (.int .i64 0) rfl
  have Dc1 := D2.out.get 1 (.int .i64 0) rfl
  have Dc2 := D2.out.get 2 (.bool false) rfl
  have Dc3 := D2.out.get 3 (.bool false) rfl
  have Dc4 := D2.out.get 4 (.bool false) rfl
  have Dc5 := D2.out.get 5 (.bool false) rfl
  have Dc6 := D2.out.get 6 (.bool false) rfl
  have Dc7 := D2.out.get 7 (.int .i64 0) rfl
  have Dc8 := D2.out.get 8 (.int .i64 0) rfl
  have Dz0 := D2.out.free 0
  have Dz1 := D2.out.free 1
  have Dz2 := D2.out.free 2
  have Dz3 := D2.out.free 3
  have Dz4 := D2.out.free 4
  have Dz5 := D2.out.free 5
  have Dz6 := D2.out.free 6
  have Dz7 := D2.out.free 7
  have Dz8 := D2.out.free 8
  go_wp2_with (first | (go_at_call 36; first | ((with_reducible refine (F10.out _).mono ?_); rintro e w' ⟨rfl, rfl⟩) | ((with_reducible refine (F54.out _).mono ?_); rintro e w' ⟨rfl, rfl⟩) | ((with_reducible refine (F6.out _).mono ?_); rintro e w' ⟨rfl, rfl⟩) | ((with_reducible refine (F7.out _).mono ?_); rintro e w' ⟨rfl, rfl⟩)))
  clear Dc0 Dc1 Dc2 Dc3 Dc4 Dc5 Dc6 Dc7 Dc8 Dz0 Dz1 Dz2 Dz3 Dz4 Dz5 Dz6 Dz7 Dz8
  have R3 := Lib.hid (R2.out.other ⟨w.heap.size + 1, 0, none⟩ (.int .i64 2) (by first | assumption | (simp; done) | (simp; omega)))
  have D3 := Lib.hid (D2.out.set 0 (.int .i64 2) #[.int .i64 2, .int .i64 0, .bool false, .bool false, .bool false, .bool false, .bool false, .int .i64 0, .int .i64 0] rfl)
  have B3 := Lib.hid (Below.setCell B2.out (p := ⟨w.heap.size + 1, 0, none⟩) (by first | assumption | (simp; done) | (simp; omega)) (.int .i64 2))
  clear R2 D2 B2
  have R4 := Lib.hid (R3.out.other ⟨w.heap.size + 1, 1, none⟩ (.int .i64 nn) (by first | assumption | (simp; done) | (simp; omega)))
  have D4 := Lib.hid (D3.out.set 1 (.int .i64 nn) #[.int .i64 2, .int .i64 nn, .bool false, .bool false, .bool false, .bool false, .bool false, .int .i64 0, .int .i64 0] rfl)
  have B4 := Lib.hid (Below.setCell B3.out (p := ⟨w.heap.size + 1, 1, none⟩) (by first | assumption | (simp; done) | (simp; omega)) (.int .i64 nn))
  clear R3 D3 B3
  have R5 := Lib.hid (R4.out.other ⟨w.heap.size + 1, 5, none⟩ (.bool b10) (by first | assumption | (simp; done) | (simp; omega)))
  have D5 := Lib.hid (D4.out.set 5 (.bool b10) #[.int .i64 2, .int .i64 nn, .bool false, .bool false, .bool false, .bool b10, .bool false, .int .i64 0, .int .i64 0] rfl)
  have B5 := Lib.hid (Below.setCell B4.out (p := ⟨w.heap.size + 1, 5, none⟩) (by first | assumption | (simp; done) | (simp; omega)) (.bool b10))
  clear R4 D4 B4
  have R6 := Lib.hid (R5.out.other ⟨w.heap.size + 1, 4, none⟩ (.bool (!b54)) (by first | assumption | (simp; done) | (simp; omega)))
  have D6 := Lib.hid (D5.out.set 4 (.bool (!b54)) #[.int .i64 2, .int .i64 nn, .bool false, .bool false, .bool (!b54), .bool b10, .bool false, .int .i64 0, .int .i64 0] rfl)
  have B6 := Lib.hid (Below.setCell B5.out (p := ⟨w.heap.size + 1, 4, none⟩) (by first | assumption | (simp; done) | (simp; omega)) (.bool (!b54)))
  clear R5 D5 B5
  obtain ⟨W6, hW6⟩ : ∃ W6, W6 = ((((w2.setCell ⟨w.heap.size + 1, 0, none⟩ (.int .i64 2)).setCell ⟨w.heap.size + 1, 1, none⟩ (.int .i64 nn)).setCell ⟨w.heap.size + 1, 5, none⟩ (.bool b10)).setCell ⟨w.heap.size + 1, 4, none⟩ (.bool (!b54))) := ⟨_, rfl⟩
  rw [← hW6] at R6 D6 B6 ⊢
  clear hW6
  refine (HF.out _).mono ?_
  rintro e w7 ⟨rfl, hb7⟩
  have R7 := Lib.hid (R6.out.below hb7)
  have D7 := Lib.hid (D6.out.below hb7)
  have B7 := Lib.hid (bel_trans B6.out hb7)
  clear R6 D6 B6 hb7
  have Dc0 := D7.out.get 0 (.int .i64 2) rfl
  have Dc1 := D7.out.get 1 (.int .i64 nn) rfl
  have Dc2 := D7.out.get 2 (.bool false) rfl
  have Dc3 := D7.out.get 3 (.bool false) rfl
  have Dc4 := D7.out.get 4 (.bool (!b54)) rfl
  have Dc5 := D7.out.get 5 (.bool b10) rfl
  have Dc6 := D7.out.get 6 (.bool false) rfl
  have Dc7 := D7.out.get 7 (.int .i64 0) rfl
  have Dc8 := D7.out.get 8 (.int .i64 0) rfl
  have Dz0 := D7.out.free 0
  have Dz1 := D7.out.free 1
  have Dz2 := D7.out.free 2
  have Dz3 := D7.out.free 3
  have Dz4 := D7.out.free 4
  have Dz5 := D7.out.free 5
  have Dz6 := D7.out.free 6
  have Dz7 := D7.out.free 7
  have Dz8 := D7.out.free 8
  go_upto_region 11 with fail
  clear Dc0 Dc1 Dc2 Dc3 Dc4 Dc5 Dc6 Dc7 Dc8 Dz0 Dz1 Dz2 Dz3 Dz4 Dz5 Dz6 Dz7 Dz8
  have R8 := Lib.hid (R7.out.other ⟨w.heap.size + 1, 2, none⟩ (.bool b6) (by first | assumption | (simp; done) | (simp; omega)))
  have D8 := Lib.hid (D7.out.set 2 (.bool b6) #[.int .i64 2, .int .i64 nn, .bool b6, .bool false, .bool (!b54), .bool b10, .bool false, .int .i64 0, .int .i64 0] rfl)
  have B8 := Lib.hid (Below.setCell B7.out (p := ⟨w.heap.size + 1, 2, none⟩) (by first | assumption | (simp; done) | (simp; omega)) (.bool b6))
  clear R7 D7 B7
  have R9 := Lib.hid (R8.out.other ⟨w.heap.size + 1, 3, none⟩ (.bool b7) (by first | assumption | (simp; done) | (simp; omega)))
  have D9 := Lib.hid (D8.out.set 3 (.bool b7) #[.int .i64 2, .int .i64 nn, .bool b6, .bool b7, .bool (!b54), .bool b10, .bool false, .int .i64 0, .int .i64 0] rfl)
  have B9 := Lib.hid (Below.setCell B8.out (p := ⟨w.heap.size + 1, 3, none⟩) (by first | assumption | (simp; done) | (simp; omega)) (.bool b7))
  clear R8 D8 B8
  have R10 := Lib.hid (R9.out.other ⟨w.heap.size + 1, 7, none⟩ (.int .i64 sf) (by first | assumption | (simp; done) | (simp; omega)))
  have D10 := Lib.hid (D9.out.set 7 (.int .i64 sf) #[.int .i64 2, .int .i64 nn, .bool b6, .bool b7, .bool (!b54), .bool b10, .bool false, .int .i64 sf, .int .i64 0] rfl)
  have B10 := Lib.hid (Below.setCell B9.out (p := ⟨w.heap.size + 1, 7, none⟩) (by first | assumption | (simp; done) | (simp; omega)) (.int .i64 sf))
  clear R9 D9 B9
  obtain ⟨W7, hW7⟩ : ∃ W7, W7 = (((w7.setCell ⟨w.heap.size + 1, 2, none⟩ (.bool b6)).setCell ⟨w.heap.size + 1, 3, none⟩ (.bool b7)).setCell ⟨w.heap.size + 1, 7, none⟩ (.int .i64 sf)) := ⟨_, rfl⟩
  rw [← hW7] at R10 D10 B10 ⊢
  clear hW7
  have Dc0 := D10.out.get 0 (.int .i64 2) rfl
  have Dc1 := D10.out.get 1 (.int .i64 nn) rfl
  have Dc2 := D10.out.get 2 (.bool b6) rfl
  have Dc3 := D10.out.get 3 (.bool b7) rfl
  have Dc4 := D10.out.get 4 (.bool (!b54)) rfl
  have Dc5 := D10.out.get 5 (.bool b10) rfl
  have Dc6 := D10.out.get 6 (.bool false) rfl
  have Dc7 := D10.out.get 7 (.int .i64 sf) rfl
  have Dc8 := D10.out.get 8 (.int .i64 0) rfl
  go_wp2_with fail
  clear Dc0 Dc1 Dc2 Dc3 Dc4 Dc5 Dc6 Dc7 Dc8
  refine (HM.out _).mono ?_
  rintro e w11 ⟨rfl, hb11⟩
  have R11 := Lib.hid (R10.out.below hb11)
  have D11 := Lib.hid (D10.out.below hb11)
  have B11 := Lib.hid (bel_trans B10.out hb11)
  clear R10 D10 B10 hb11
  have Rc0 := R11.out.get 0 (.int .i64 0) rfl
  have Rc1 := R11.out.get 1 (.int .i64 0) rfl
  have Rc2 := R11.out.get 2 (.bool false) rfl
  have Rc3 := R11.out.get 3 (.bool false) rfl
  have Rc4 := R11.out.get 4 (.bool false) rfl
  have Rc5 := R11.out.get 5 (.bool false) rfl
  have Rc6 := R11.out.get 6 (.bool false) rfl
  have Rc7 := R11.out.get 7 (.int .i64 0) rfl
  have Rc8 := R11.out.get 8 (.int .i64 0) rfl
  have Rz0 := R11.out.free 0
  have Rz1 := R11.out.free 1
  have Rz2 := R11.out.free 2
  have Rz3 := R11.out.free 3
  have Rz4 := R11.out.free 4
  have Rz5 := R11.out.free 5
  have Rz6 := R11.out.free 6
  have Rz7 := R11.out.free 7
  have Rz8 := R11.out.free 8
  go_wp2
  refine bodyPost_ret (v := .agg #[.int .i64 0, .int .i64 0, .bool false, .bool false, .bool false, .bool false, .bool false, .int .i64 0, .int .i64 0]) (by simp [results, Try.results25, go_sem, Rc0, Rc1, Rc2, Rc3, Rc4, Rc5, Rc6, Rc7, Rc8]) rfl ⟨rfl, ?_⟩
  repeat' (first | with_reducible exact B11.out | with_reducible refine Below.setCell ?_ (by first | (simp; done) | (simp; omega)) _)

set_option maxRecDepth 100000 in
set_option maxHeartbeats 1600000 in
theorem rof_leaft2_other (st : Int) (v : BitVec 64) (nn : Int) (b10 b54 b7 b6 : Bool) (sf : Int) (wd : BitVec 64) (w : World) (t1 : (st == 1) = false)
    (F0 : Hid (∀ W, Calls Try.prog 36 #[.int .u64 (u v), .int .i64 0] W fun e w' => e = .returned (.bool true) ∧ W = w'))
    (F1 : Hid (∀ W, Calls Try.prog 36 #[.int .u64 (u v), .int .i64 1] W fun e w' => e = .returned (.bool true) ∧ W = w'))
    (HN : Hid (∀ W, Calls Try.prog 37 #[.int .u64 (u v), .int .i64 12, .int .i64 12] W fun e w' => e = .returned (.int .u64 nn) ∧ Below W.heap.size W w')) (qHN : 0 ≤ nn ∧ nn ≤ 4095)
    (F10 : Hid (∀ W, Calls Try.prog 36 #[.int .u64 (u v), .int .i64 10] W fun e w' => e = .returned (.bool b10) ∧ W = w'))
    (F54 : Hid (∀ W, Calls Try.prog 36 #[.int .u64 (u v), .int .i64 54] W fun e w' => e = .returned (.bool b54) ∧ W = w'))
    (F7 : Hid (∀ W, Calls Try.prog 36 #[.int .u64 (u v), .int .i64 7] W fun e w' => e = .returned (.bool b7) ∧ W = w'))
    (F6 : Hid (∀ W, Calls Try.prog 36 #[.int .u64 (u v), .int .i64 6] W fun e w' => e = .returned (.bool b6) ∧ W = w'))
    (HF : Hid (∀ W, Calls Try.prog 37 #[.int .u64 (u v), .int .i64 55, .int .i64 4] W fun e w' => e = .returned (.int .u64 sf) ∧ Below W.heap.size W w')) (qHF : 0 ≤ sf ∧ sf ≤ 4095)
    (HM : Hid (∀ W, Calls Try.prog 38 #[.int .i64 st, .int .i64 3, .agg #[.int .i64 2, .int .i64 nn, .bool b6, .bool b7, .bool (!b54), .bool b10, .bool false, .int .i64 sf, .int .i64 0]] W fun e w' => e = .returned (.bool true) ∧ Below W.heap.size W w'))
    (HW : Hid (∀ W, Calls Try.prog 39 #[.int .i64 st, .int .i64 3, .agg #[.int .i64 2, .int .i64 nn, .bool b6, .bool b7, .bool (!b54), .bool b10, .bool false, .int .i64 sf, .int .i64 0]] W fun e w' => e = .returned (.int .u64 (u wd)) ∧ Below W.heap.size W w'))
    (hq : (u wd != u v) = true) :
    Calls Try.prog 25 #[.int .i64 st, .int .i64 3, .int .u64 (u v)] w fun e w' => e = .returned (.agg #[.int .i64 0, .int .i64 0, .bool false, .bool false, .bool false, .bool false, .bool false, .int .i64 0, .int .i64 0]) ∧ Below w.heap.size w w' := by
  obtain ⟨qn0, qn1⟩ := qHN
  obtain ⟨qf0, qf1⟩ := qHF
  have R0 := Lib.hid ((BoxAt.new w #[.int .i64 0, .int .i64 0, .bool false, .bool false, .bool false, .bool false, .bool false, .int .i64 0, .int .i64 0] 33).alloc (.cells #[.int .i64 0, .int .i64 0, .bool false, .bool false, .bool false, .bool false, .bool false, .int .i64 0, .int .i64 0] 33))
  have D0 := Lib.hid (BoxAt.new (w.alloc (.cells #[.int .i64 0, .int .i64 0, .bool false, .bool false, .bool false, .bool false, .bool false, .int .i64 0, .int .i64 0] 33)) #[.int .i64 0, .int .i64 0, .bool false, .bool false, .bool false, .bool false, .bool false, .int .i64 0, .int .i64 0] 33)
  rw [show (w.alloc (.cells #[.int .i64 0, .int .i64 0, .bool false, .bool false, .bool false, .bool false, .bool false, .int .i64 0, .int .i64 0] 33)).heap.size = w.heap.size + 1 from by simp] at D0
  have B1 := Lib.hid (bel_alloc (bel_alloc (Below.refl w.heap.size w) (.cells #[.int .i64 0, .int .i64 0, .bool false, .bool false, .bool false, .bool false, .bool false, .int .i64 0, .int .i64 0] 33)) (.cells #[.int .i64 0, .int .i64 0, .bool false, .bool false, .bool false, .bool false, .bool false, .int .i64 0, .int .i64 0] 33))
  go_enter Try.func25, Try.ntmps25
  go_wp2_with (first | (go_at_call 36; first | ((with_reducible refine (F0.out _).mono ?_); rintro e w' ⟨rfl, rfl⟩) | ((with_reducible refine (F1.out _).mono ?_); rintro e w' ⟨rfl, rfl⟩)))
  refine (HN.out _).mono ?_
  rintro e w2 ⟨rfl, hb2⟩
  have R2 := Lib.hid (R0.out.below hb2)
  have D2 := Lib.hid (D0.out.below hb2)
  have B2 := Lib.hid (bel_trans B1.out hb2)
  clear R0 D0 B1 hb2
  have Dc0 := D2.out.get 0 (.int .i64 0) rfl
  have Dc1 := D2.out.get 1 (.int .i64 0) rfl
  have Dc2 := D2.out.get 2 (.bool false) rfl
  have Dc3 := D2.out.get 3 (.bool false) rfl
  have Dc4 := D2.out.get 4 (.bool false) rfl
  have Dc5 := D2.out.get 5 (.bool false) rfl
  have Dc6 := D2.out.get 6 (.bool false) rfl
  have Dc7 := D2.out.get 7 (.int .i64 0) rfl
  have Dc8 := D2.out.get 8 (.int .i64 0) rfl
  have Dz0 := D2.out.free 0
  have Dz1 := D2.out.free 1
  have Dz2 := D2.out.free 2
  have Dz3 := D2.out.free 3
  have Dz4 := D2.out.free 4
  have Dz5 := D2.out.free 5
  have Dz6 := D2.out.free 6
  have Dz7 := D2.out.free 7
  have Dz8 := D2.out.free 8
  go_wp2_with (first | (go_at_call 36; first | ((with_reducible refine (F10.out _).mono ?_); rintro e w' ⟨rfl, rfl⟩) | ((with_reducible refine (F54.out _).mono ?_); rintro e w' ⟨rfl, rfl⟩) | ((with_reducible refine (F6.out _).mono ?_); rintro e w' ⟨rfl, rfl⟩) | ((with_reducible refine (F7.out _).mono ?_); rintro e w' ⟨rfl, rfl⟩)))
  clear Dc0 Dc1 Dc2 Dc3 Dc4 Dc5 Dc6 Dc7 Dc8 Dz0 Dz1 Dz2 Dz3 Dz4 Dz5 Dz6 Dz7 Dz8
  have R3 := Lib.hid (R2.out.other ⟨w.heap.size + 1, 0, none⟩ (.int .i64 2) (by first | assumption | (simp; done) | (simp; omega)))
  have D3 := Lib.hid (D2.out.set 0 (.int .i64 2) #[.int .i64 2, .int .i64 0, .bool false, .bool false, .bool false, .bool false, .bool false, .int .i64 0, .int .i64 0] rfl)
  have B3 := Lib.hid (Below.setCell B2.out (p := ⟨w.heap.size + 1, 0, none⟩) (by first | assumption | (simp; done) | (simp; omega)) (.int .i64 2))
  clear R2 D2 B2
  have R4 := Lib.hid (R3.out.other ⟨w.heap.size + 1, 1, none⟩ (.int .i64 nn) (by first | assumption | (simp; done) | (simp; omega)))
  have D4 := Lib.hid (D3.out.set 1 (.int .i64 nn) #[.int .i64 2, .int .i64 nn, .bool false, .bool false, .bool false, .bool false, .bool false, .int .i64 0, .int .i64 0] rfl)
  have B4 := Lib.hid (Below.setCell B3.out (p := ⟨w.heap.size + 1, 1, none⟩) (by first | assumption | (simp; done) | (simp; omega)) (.int .i64 nn))
  clear R3 D3 B3
  have R5 := Lib.hid (R4.out.other ⟨w.heap.size + 1, 5, none⟩ (.bool b10) (by first | assumption | (simp; done) | (simp; omega)))
  have D5 := Lib.hid (D4.out.set 5 (.bool b10) #[.int .i64 2, .int .i64 nn, .bool false, .bool false, .bool false, .bool b10, .bool false, .int .i64 0, .int .i64 0] rfl)
  have B5 := Lib.hid (Below.setCell B4.out (p := ⟨w.heap.size + 1, 5, none⟩) (by first | assumption | (simp; done) | (simp; omega)) (.bool b10))
  clear R4 D4 B4
  have R6 := Lib.hid (R5.out.other ⟨w.heap.size + 1, 4, none⟩ (.bool (!b54)) (by first | assumption | (simp; done) | (simp; omega)))
  have D6 := Lib.hid (D5.out.set 4 (.bool (!b54)) #[.int .i64 2, .int .i64 nn, .bool false, .bool false, .bool (!b54), .bool b10, .bool false, .int .i64 0, .int .i64 0] rfl)
  have B6 := Lib.hid (Below.setCell B5.out (p := ⟨w.heap.size + 1, 4, none⟩) (by first | assumption | (simp; done) | (simp; omega)) (.bool (!b54)))
  clear R5 D5 B5
  obtain ⟨W6, hW6⟩ : ∃ W6, W6 = ((((w2.setCell ⟨w.heap.size + 1, 0, none⟩ (.int .i64 2)).setCell ⟨w.heap.size + 1, 1, none⟩ (.int .i64 nn)).setCell ⟨w.heap.size + 1, 5, none⟩ (.bool b10)).setCell ⟨w.heap.size + 1, 4, none⟩ (.bool (!b54))) := ⟨_, rfl⟩
  rw [← hW6] at R6 D6 B6 ⊢
  clear hW6
  refine (HF.out _).mono ?_
  rintro e w7 ⟨rfl, hb7⟩
  have R7 := Lib.hid (R6.out.below hb7)
  have D7 := Lib.hid (D6.out.below hb7)
  have B7 := Lib.hid (bel_trans B6.out hb7)
  clear R6 D6 B6 hb7
  have Dc0 := D7.out.get 0 (.int .i64 2) rfl
  have Dc1 := D7.out.get 1 (.int .i64 nn) rfl
  have Dc2 := D7.out.get 2 (.bool false) rfl
  have Dc3 := D7.out.get 3 (.bool false) rfl
  have Dc4 := D7.out.get 4 (.bool (!b54)) rfl
  have Dc5 := D7.out.get 5 (.bool b10) rfl
  have Dc6 := D7.out.get 6 (.bool false) rfl
  have Dc7 := D7.out.get 7 (.int .i64 0) rfl
  have Dc8 := D7.out.get 8 (.int .i64 0) rfl
  have Dz0 := D7.out.free 0
  have Dz1 := D7.out.free 1
  have Dz2 := D7.out.free 2
  have Dz3 := D7.out.free 3
  have Dz4 := D7.out.free 4
  have Dz5 := D7.out.free 5
  have Dz6 := D7.out.free 6
  have Dz7 := D7.out.free 7
  have Dz8 := D7.out.free 8
  go_upto_region 11 with fail
  clear Dc0 Dc1 Dc2 Dc3 Dc4 Dc5 Dc6 Dc7 Dc8 Dz0 Dz1 Dz2 Dz3 Dz4 Dz5 Dz6 Dz7 Dz8
  have R8 := Lib.hid (R7.out.other ⟨w.heap.size + 1, 2, none⟩ (.bool b6) (by first | assumption | (simp; done) | (simp; omega)))
  have D8 := Lib.hid (D7.out.set 2 (.bool b6) #[.int .i64 2, .int .i64 nn, .bool b6, .bool false, .bool (!b54), .bool b10, .bool false, .int .i64 0, .int .i64 0] rfl)
  have B8 := Lib.hid (Below.setCell B7.out (p := ⟨w.heap.size + 1, 2, none⟩) (by first | assumption | (simp; done) | (simp; omega)) (.bool b6))
  clear R7 D7 B7
  have R9 := Lib.hid (R8.out.other ⟨w.heap.size + 1, 3, none⟩ (.bool b7) (by first | assumption | (simp; done) | (simp; omega)))
  have D9 := Lib.hid (D8.out.set 3 (.bool b7) #[.int .i64 2, .int .i64 nn, .bool b6, .bool b7, .bool (!b54), .bool b10, .bool false, .int .i64 0, .int .i64 0] rfl)
  have B9 := Lib.hid (Below.setCell B8.out (p := ⟨w.heap.size + 1, 3, none⟩) (by first | assumption | (simp; done) | (simp; omega)) (.bool b7))
  clear R8 D8 B8
  have R10 := Lib.hid (R9.out.other ⟨w.heap.size + 1, 7, none⟩ (.int .i64 sf) (by first | assumption | (simp; done) | (simp; omega)))
  have D10 := Lib.hid (D9.out.set 7 (.int .i64 sf) #[.int .i64 2, .int .i64 nn, .bool b6, .bool b7, .bool (!b54), .bool b10, .bool false, .int .i64 sf, .int .i64 0] rfl)
  have B10 := Lib.hid (Below.setCell B9.out (p := ⟨w.heap.size + 1, 7, none⟩) (by first | assumption | (simp; done) | (simp; omega)) (.int .i64 sf))
  clear R9 D9 B9
  obtain ⟨W7, hW7⟩ : ∃ W7, W7 = (((w7.setCell ⟨w.heap.size + 1, 2, none⟩ (.bool b6)).setCell ⟨w.heap.size + 1, 3, none⟩ (.bool b7)).setCell ⟨w.heap.size + 1, 7, none⟩ (.int .i64 sf)) := ⟨_, rfl⟩
  rw [← hW7] at R10 D10 B10 ⊢
  clear hW7
  have Dc0 := D10.out.get 0 (.int .i64 2) rfl
  have Dc1 := D10.out.get 1 (.int .i64 nn) rfl
  have Dc2 := D10.out.get 2 (.bool b6) rfl
  have Dc3 := D10.out.get 3 (.bool b7) rfl
  have Dc4 := D10.out.get 4 (.bool (!b54)) rfl
  have Dc5 := D10.out.get 5 (.bool b10) rfl
  have Dc6 := D10.out.get 6 (.bool false) rfl
  have Dc7 := D10.out.get 7 (.int .i64 sf) rfl
  have Dc8 := D10.out.get 8 (.int .i64 0) rfl
  go_wp2_with fail
  clear Dc0 Dc1 Dc2 Dc3 Dc4 Dc5 Dc6 Dc7 Dc8
  refine (HM.out _).mono ?_
  rintro e w11 ⟨rfl, hb11⟩
  have R11 := Lib.hid (R10.out.below hb11)
  have D11 := Lib.hid (D10.out.below hb11)
  have B11 := Lib.hid (bel_trans B10.out hb11)
  clear R10 D10 B10 hb11
  have Dc0 := D11.out.get 0 (.int .i64 2) rfl
  have Dc1 := D11.out.get 1 (.int .i64 nn) rfl
  have Dc2 := D11.out.get 2 (.bool b6) rfl
  have Dc3 := D11.out.get 3 (.bool b7) rfl
  have Dc4 := D11.out.get 4 (.bool (!b54)) rfl
  have Dc5 := D11.out.get 5 (.bool b10) rfl
  have Dc6 := D11.out.get 6 (.bool false) rfl
  have Dc7 := D11.out.get 7 (.int .i64 sf) rfl
  have Dc8 := D11.out.get 8 (.int .i64 0) rfl
  go_wp2_with fail
  clear Dc0 Dc1 Dc2 Dc3 Dc4 Dc5 Dc6 Dc7 Dc8
  refine (HW.out _).mono ?_
  rintro e w12 ⟨rfl, hb12⟩
  have R12 := Lib.hid (R11.out.below hb12)
  have D12 := Lib.hid (D11.out.below hb12)
  have B12 := Lib.hid (bel_trans B11.out hb12)
  clear R11 D11 B11 hb12
  have Rc0 := R12.out.get 0 (.int .i64 0) rfl
  have Rc1 := R12.out.get 1 (.int .i64 0) rfl
  have Rc2 := R12.out.get 2 (.bool false) rfl
  have Rc3 := R12.out.get 3 (.bool false) rfl
  have Rc4 := R12.out.get 4 (.bool false) rfl
  have Rc5 := R12.out.get 5 (.bool false) rfl
  have Rc6 := R12.out.get 6 (.bool false) rfl
  have Rc7 := R12.out.get 7 (.int .i64 0) rfl
  have Rc8 := R12.out.get 8 (.int .i64 0) rfl
  have Rz0 := R12.out.free 0
  have Rz1 := R12.out.free 1
  have Rz2 := R12.out.free 2
  have Rz3 := R12.out.free 3
  have Rz4 := R12.out.free 4
  have Rz5 := R12.out.free 5
  have Rz6 := R12.out.free 6
  have Rz7 := R12.out.free 7
  have Rz8 := R12.out.free 8
  go_wp2
  refine bodyPost_ret (v := .agg #[.int .i64 0, .int .i64 0, .bool false, .bool false, .bool false, .bool false, .bool false, .int .i64 0, .int .i64 0]) (by simp [results, Try.results25, go_sem, Rc0, Rc1, Rc2, Rc3, Rc4, Rc5, Rc6, Rc7, Rc8]) rfl ⟨rfl, ?_⟩
  repeat' (first | with_reducible exact B12.out | with_reducible refine Below.setCell ?_ (by first | (simp; done) | (simp; omega)) _)

set_option maxRecDepth 100000 in
set_option maxHeartbeats 1600000 in
theorem rof_leaft2_yes (st : Int) (v : BitVec 64) (nn : Int) (b10 b54 b7 b6 : Bool) (sf : Int) (wd : BitVec 64) (w : World) (t1 : (st == 1) = false)
    (F0 : Hid (∀ W, Calls Try.prog 36 #[.int .u64 (u v), .int .i64 0] W fun e w' => e = .returned (.bool true) ∧ W = w'))
    (F1 : Hid (∀ W, Calls Try.prog 36 #[.int .u64 (u v), .int .i64 1] W fun e w' => e = .returned (.bool true) ∧ W = w'))
    (HN : Hid (∀ W, Calls Try.prog 37 #[.int .u64 (u v), .int .i64 12, .int .i64 12] W fun e w' => e = .returned (.int .u64 nn) ∧ Below W.heap.size W w')) (qHN : 0 ≤ nn ∧ nn ≤ 4095)
    (F10 : Hid (∀ W, Calls Try.prog 36 #[.int .u64 (u v), .int .i64 10] W fun e w' => e = .returned (.bool b10) ∧ W = w'))
    (F54 : Hid (∀ W, Calls Try.prog 36 #[.int .u64 (u v), .int .i64 54] W fun e w' => e = .returned (.bool b54) ∧ W = w'))
    (F7 : Hid (∀ W, Calls Try.prog 36 #[.int .u64 (u v), .int .i64 7] W fun e w' => e = .returned (.bool b7) ∧ W = w'))
    (F6 : Hid (∀ W, Calls Try.prog 36 #[.int .u64 (u v), .int .i64 6] W fun e w' => e = .returned (.bool b6) ∧ W = w'))
    (HF : Hid (∀ W, Calls Try.prog 37 #[.int .u64 (u v), .int .i64 55, .int .i64 4] W fun e w' => e = .returned (.int .u64 sf) ∧ Below W.heap.size W w')) (qHF : 0 ≤ sf ∧ sf ≤ 4095)
    (HM : Hid (∀ W, Calls Try.prog 38 #[.int .i64 st, .int .i64 3, .agg #[.int .i64 2, .int .i64 nn, .bool b6, .bool b7, .bool (!b54), .bool b10, .bool false, .int .i64 sf, .int .i64 0]] W fun e w' => e = .returned (.bool true) ∧ Below W.heap.size W w'))
    (HW : Hid (∀ W, Calls Try.prog 39 #[.int .i64 st, .int .i64 3, .agg #[.int .i64 2, .int .i64 nn, .bool b6, .bool b7, .bool (!b54), .bool b10, .bool false, .int .i64 sf, .int .i64 0]] W fun e w' => e = .returned (.int .u64 (u wd)) ∧ Below W.heap.size W w'))
    (hq : (u wd != u v) = false) :
    Calls Try.prog 25 #[.int .i64 st, .int .i64 3, .int .u64 (u v)] w fun e w' => e = .returned (.agg #[.int .i64 2, .int .i64 nn, .bool b6, .bool b7, .bool (!b54), .bool b10, .bool false, .int .i64 sf, .int .i64 0]) ∧ Below w.heap.size w w' := by
  obtain ⟨qn0, qn1⟩ := qHN
  obtain ⟨qf0, qf1⟩ := qHF
  have R0 := Lib.hid ((BoxAt.new w #[.int .i64 0, .int .i64 0, .bool false, .bool false, .bool false, .bool false, .bool false, .int .i64 0, .int .i64 0] 33).alloc (.cells #[.int .i64 0, .int .i64 0, .bool false, .bool false, .bool false, .bool false, .bool false, .int .i64 0, .int .i64 0] 33))
  have D0 := Lib.hid (BoxAt.new (w.alloc (.cells #[.int .i64 0, .int .i64 0, .bool false, .bool false, .bool false, .bool false, .bool false, .int .i64 0, .int .i64 0] 33)) #[.int .i64 0, .int .i64 0, .bool false, .bool false, .bool false, .bool false, .bool false, .int .i64 0, .int .i64 0] 33)
  rw [show (w.alloc (.cells #[.int .i64 0, .int .i64 0, .bool false, .bool false, .bool false, .bool false, .bool false, .int .i64 0, .int .i64 0] 33)).heap.size = w.heap.size + 1 from by simp] at D0
  have B1 := Lib.hid (bel_alloc (bel_alloc (Below.refl w.heap.size w) (.cells #[.int .i64 0, .int .i64 0, .bool false, .bool false, .bool false, .bool false, .bool false, .int .i64 0, .int .i64 0] 33)) (.cells #[.int .i64 0, .int .i64 0, .bool false, .bool false, .bool false, .bool false, .bool false, .int .i64 0, .int .i64 0] 33))
  go_enter Try.func25, Try.ntmps25
  go_wp2_with (first | (go_at_call 36; first | ((with_reducible refine (F0.out _).mono ?_); rintro e w' ⟨rfl, rfl⟩) | ((with_reducible refine (F1.out _).mono ?_); rintro e w' ⟨rfl, rfl⟩)))
  refine (HN.out _).mono ?_
  rintro e w2 ⟨rfl, hb2⟩
  have R2 := Lib.hid (R0.out.below hb2)
  have D2 := Lib.hid (D0.out.below hb2)
  have B2 := Lib.hid (bel_trans B1.out hb2)
  clear R0 D0 B1 hb2
  have Dc0 := D2.out.get 0 (.int .i64 0) rfl
  have Dc1 := D2.out.get 1 (.int .i64 0) rfl
  have Dc2 := D2.out.get 2 (.bool false) rfl
  have Dc3 := D2.out.get 3 (.bool false) rfl
  have Dc4 := D2.out.get 4 (.bool false) rfl
  have Dc5 := D2.out.get 5 (.bool false) rfl
  have Dc6 := D2.out.get 6 (.bool false) rfl
  have Dc7 := D2.out.get 7 (.int .i64 0) rfl
  have Dc8 := D2.out.get 8 (.int .i64 0) rfl
  have Dz0 := D2.out.free 0
  have Dz1 := D2.out.free 1
  have Dz2 := D2.out.free 2
  have Dz3 := D2.out.free 3
  have Dz4 := D2.out.free 4
  have Dz5 := D2.out.free 5
  have Dz6 := D2.out.free 6
  have Dz7 := D2.out.free 7
  have Dz8 := D2.out.free 8
  go_wp2_with (first | (go_at_call 36; first | ((with_reducible refine (F10.out _).mono ?_); rintro e w' ⟨rfl, rfl⟩) | ((with_reducible refine (F54.out _).mono ?_); rintro e w' ⟨rfl, rfl⟩) | ((with_reducible refine (F6.out _).mono ?_); rintro e w' ⟨rfl, rfl⟩) | ((with_reducible refine (F7.out _).mono ?_); rintro e w' ⟨rfl, rfl⟩)))
  clear Dc0 Dc1 Dc2 Dc3 Dc4 Dc5 Dc6 Dc7 Dc8 Dz0 Dz1 Dz2 Dz3 Dz4 Dz5 Dz6 Dz7 Dz8
  have R3 := Lib.hid (R2.out.other ⟨w.heap.size + 1, 0, none⟩ (.int .i64 2) (by first | assumption | (simp; done) | (simp; omega)))
  have D3 := Lib.hid (D2.out.set 0 (.int .i64 2) #[.int .i64 2, .int .i64 0, .bool false, .bool false, .bool false, .bool false, .bool false, .int .i64 0, .int .i64 0] rfl)
  have B3 := Lib.hid (Below.setCell B2.out (p := ⟨w.heap.size + 1, 0, none⟩) (by first | assumption | (simp; done) | (simp; omega)) (.int .i64 2))
  clear R2 D2 B2
  have R4 := Lib.hid (R3.out.other ⟨w.heap.size + 1, 1, none⟩ (.int .i64 nn) (by first | assumption | (simp; done) | (simp; omega)))
  have D4 := Lib.hid (D3.out.set 1 (.int .i64 nn) #[.int .i64 2, .int .i64 nn, .bool false, .bool false, .bool false, .bool false, .bool false, .int .i64 0, .int .i64 0] rfl)
  have B4 := Lib.hid (Below.setCell B3.out (p := ⟨w.heap.size + 1, 1, none⟩) (by first | assumption | (simp; done) | (simp; omega)) (.int .i64 nn))
  clear R3 D3 B3
  have R5 := Lib.hid (R4.out.other ⟨w.heap.size + 1, 5, none⟩ (.bool b10) (by first | assumption | (simp; done) | (simp; omega)))
  have D5 := Lib.hid (D4.out.set 5 (.bool b10) #[.int .i64 2, .int .i64 nn, .bool false, .bool false, .bool false, .bool b10, .bool false, .int .i64 0, .int .i64 0] rfl)
  have B5 := Lib.hid (Below.setCell B4.out (p := ⟨w.heap.size + 1, 5, none⟩) (by first | assumption | (simp; done) | (simp; omega)) (.bool b10))
  clear R4 D4 B4
  have R6 := Lib.hid (R5.out.other ⟨w.heap.size + 1, 4, none⟩ (.bool (!b54)) (by first | assumption | (simp; done) | (simp; omega)))
  have D6 := Lib.hid (D5.out.set 4 (.bool (!b54)) #[.int .i64 2, .int .i64 nn, .bool false, .bool false, .bool (!b54), .bool b10, .bool false, .int .i64 0, .int .i64 0] rfl)
  have B6 := Lib.hid (Below.setCell B5.out (p := ⟨w.heap.size + 1, 4, none⟩) (by first | assumption | (simp; done) | (simp; omega)) (.bool (!b54)))
  clear R5 D5 B5
  obtain ⟨W6, hW6⟩ : ∃ W6, W6 = ((((w2.setCell ⟨w.heap.size + 1, 0, none⟩ (.int .i64 2)).setCell ⟨w.heap.size + 1, 1, none⟩ (.int .i64 nn)).setCell ⟨w.heap.size + 1, 5, none⟩ (.bool b10)).setCell ⟨w.heap.size + 1, 4, none⟩ (.bool (!b54))) := ⟨_, rfl⟩
  rw [← hW6] at R6 D6 B6 ⊢
  clear hW6
  refine (HF.out _).mono ?_
  rintro e w7 ⟨rfl, hb7⟩
  have R7 := Lib.hid (R6.out.below hb7)
  have D7 := Lib.hid (D6.out.below hb7)
  have B7 := Lib.hid (bel_trans B6.out hb7)
  clear R6 D6 B6 hb7
  have Dc0 := D7.out.get 0 (.int .i64 2) rfl
  have Dc1 := D7.out.get 1 (.int .i64 nn) rfl
  have Dc2 := D7.out.get 2 (.bool false) rfl
  have Dc3 := D7.out.get 3 (.bool false) rfl
  have Dc4 := D7.out.get 4 (.bool (!b54)) rfl
  have Dc5 := D7.out.get 5 (.bool b10) rfl
  have Dc6 := D7.out.get 6 (.bool false) rfl
  have Dc7 := D7.out.get 7 (.int .i64 0) rfl
  have Dc8 := D7.out.get 8 (.int .i64 0) rfl
  have Dz0 := D7.out.free 0
  have Dz1 := D7.out.free 1
  have Dz2 := D7.out.free 2
  have Dz3 := D7.out.free 3
  have Dz4 := D7.out.free 4
  have Dz5 := D7.out.free 5
  have Dz6 := D7.out.free 6
  have Dz7 := D7.out.free 7
  have Dz8 := D7.out.free 8
  go_upto_region 11 with fail
  clear Dc0 Dc1 Dc2 Dc3 Dc4 Dc5 Dc6 Dc7 Dc8 Dz0 Dz1 Dz2 Dz3 Dz4 Dz5 Dz6 Dz7 Dz8
  have R8 := Lib.hid (R7.out.other ⟨w.heap.size + 1, 2, none⟩ (.bool b6) (by first | assumption | (simp; done) | (simp; omega)))
  have D8 := Lib.hid (D7.out.set 2 (.bool b6) #[.int .i64 2, .int .i64 nn, .bool b6, .bool false, .bool (!b54), .bool b10, .bool false, .int .i64 0, .int .i64 0] rfl)
  have B8 := Lib.hid (Below.setCell B7.out (p := ⟨w.heap.size + 1, 2, none⟩) (by first | assumption | (simp; done) | (simp; omega)) (.bool b6))
  clear R7 D7 B7
  have R9 := Lib.hid (R8.out.other ⟨w.heap.size + 1, 3, none⟩ (.bool b7) (by first | assumption | (simp; done) | (simp; omega)))
  have D9 := Lib.hid (D8.out.set 3 (.bool b7) #[.int .i64 2, .int .i64 nn, .bool b6, .bool b7, .bool (!b54), .bool b10, .bool false, .int .i64 0, .int .i64 0] rfl)
  have B9 := Lib.hid (Below.setCell B8.out (p := ⟨w.heap.size + 1, 3, none⟩) (by first | assumption | (simp; done) | (simp; omega)) (.bool b7))
  clear R8 D8 B8
  have R10 := Lib.hid (R9.out.other ⟨w.heap.size + 1, 7, none⟩ (.int .i64 sf) (by first | assumption | (simp; done) | (simp; omega)))
  have D10 := Lib.hid (D9.out.set 7 (.int .i64 sf) #[.int .i64 2, .int .i64 nn, .bool b6, .bool b7, .bool (!b54), .bool b10, .bool false, .int .i64 sf, .int .i64 0] rfl)
  have B10 := Lib.hid (Below.setCell B9.out (p := ⟨w.heap.size + 1, 7, none⟩) (by first | assumption | (simp; done) | (simp; omega)) (.int .i64 sf))
  clear R9 D9 B9
  obtain ⟨W7, hW7⟩ : ∃ W7, W7 = (((w7.setCell ⟨w.heap.size + 1, 2, none⟩ (.bool b6)).setCell ⟨w.heap.size + 1, 3, none⟩ (.bool b7)).setCell ⟨w.heap.size + 1, 7, none⟩ (.int .i64 sf)) := ⟨_, rfl⟩
  rw [← hW7] at R10 D10 B10 ⊢
  clear hW7
  have Dc0 := D10.out.get 0 (.int .i64 2) rfl
  have Dc1 := D10.out.get 1 (.int .i64 nn) rfl
  have Dc2 := D10.out.get 2 (.bool b6) rfl
  have Dc3 := D10.out.get 3 (.bool b7) rfl
  have Dc4 := D10.out.get 4 (.bool (!b54)) rfl
  have Dc5 := D10.out.get 5 (.bool b10) rfl
  have Dc6 := D10.out.get 6 (.bool false) rfl
  have Dc7 := D10.out.get 7 (.int .i64 sf) rfl
  have Dc8 := D10.out.get 8 (.int .i64 0) rfl
  go_wp2_with fail
  clear Dc0 Dc1 Dc2 Dc3 Dc4 Dc5 Dc6 Dc7 Dc8
  refine (HM.out _).mono ?_
  rintro e w11 ⟨rfl, hb11⟩
  have R11 := Lib.hid (R10.out.below hb11)
  have D11 := Lib.hid (D10.out.below hb11)
  have B11 := Lib.hid (bel_trans B10.out hb11)
  clear R10 D10 B10 hb11
  have Dc0 := D11.out.get 0 (.int .i64 2) rfl
  have Dc1 := D11.out.get 1 (.int .i64 nn) rfl
  have Dc2 := D11.out.get 2 (.bool b6) rfl
  have Dc3 := D11.out.get 3 (.bool b7) rfl
  have Dc4 := D11.out.get 4 (.bool (!b54)) rfl
  have Dc5 := D11.out.get 5 (.bool b10) rfl
  have Dc6 := D11.out.get 6 (.bool false) rfl
  have Dc7 := D11.out.get 7 (.int .i64 sf) rfl
  have Dc8 := D11.out.get 8 (.int .i64 0) rfl
  go_wp2_with fail
  clear Dc0 Dc1 Dc2 Dc3 Dc4 Dc5 Dc6 Dc7 Dc8
  refine (HW.out _).mono ?_
  rintro e w12 ⟨rfl, hb12⟩
  have R12 := Lib.hid (R11.out.below hb12)
  have D12 := Lib.hid (D11.out.below hb12)
  have B12 := Lib.hid (bel_trans B11.out hb12)
  clear R11 D11 B11 hb12
  have Rc0 := R12.out.get 0 (.int .i64 0) rfl
  have Rc1 := R12.out.get 1 (.int .i64 0) rfl
  have Rc2 := R12.out.get 2 (.bool false) rfl
  have Rc3 := R12.out.get 3 (.bool false) rfl
  have Rc4 := R12.out.get 4 (.bool false) rfl
  have Rc5 := R12.out.get 5 (.bool false) rfl
  have Rc6 := R12.out.get 6 (.bool false) rfl
  have Rc7 := R12.out.get 7 (.int .i64 0) rfl
  have Rc8 := R12.out.get 8 (.int .i64 0) rfl
  have Rz0 := R12.out.free 0
  have Rz1 := R12.out.free 1
  have Rz2 := R12.out.free 2
  have Rz3 := R12.out.free 3
  have Rz4 := R12.out.free 4
  have Rz5 := R12.out.free 5
  have Rz6 := R12.out.free 6
  have Rz7 := R12.out.free 7
  have Rz8 := R12.out.free 8
  have Dc0 := D12.out.get 0 (.int .i64 2) rfl
  have Dc1 := D12.out.get 1 (.int .i64 nn) rfl
  have Dc2 := D12.out.get 2 (.bool b6) rfl
  have Dc3 := D12.out.get 3 (.bool b7) rfl
  have Dc4 := D12.out.get 4 (.bool (!b54)) rfl
  have Dc5 := D12.out.get 5 (.bool b10) rfl
  have Dc6 := D12.out.get 6 (.bool false) rfl
  have Dc7 := D12.out.get 7 (.int .i64 sf) rfl
  have Dc8 := D12.out.get 8 (.int .i64 0) rfl
  go_wp2
  refine bodyPost_ret (v := .agg #[.int .i64 2, .int .i64 nn, .bool b6, .bool b7, .bool (!b54), .bool b10, .bool false, .int .i64 sf, .int .i64 0]) (by simp [results, Try.results25, go_sem, Rc0, Rc1, Rc2, Rc3, Rc4, Rc5, Rc6, Rc7, Rc8]) rfl ⟨rfl, ?_⟩
  repeat' (first | with_reducible exact B12.out | with_reducible refine Below.setCell ?_ (by first | (simp; done) | (simp; omega)) _)
end Go.Proofs.Ytkpckfmnjebjaaa
