/- Permissions plainly; the reference's May, Both, Flag: contracts. -/
import Derived.Test.YtalbblaicmdhmaaGreatRow
import Derived.Test.YtalbblaicmdhmaaGreatEq
import Derived.Test.YtalbblaicmdhmaaGreatRb
import Derived.Test.YtalbblaicmdhmaaGreatTl
import Derived.Deep.CutBlock
set_option linter.all false
namespace Go.Proofs.YtalbblaicmdhmaaGreat
open Go.ChangeShapes Go.WideShapes Go.ChangeAt Go.RowKit Go.Deep

def mayA (t : Atr) (acc : Int) : Bool := ((decide (acc = 0) && t.r) || (decide (acc = 1) && t.w)) || (decide (acc = 2) && t.x)
def flagA (t : Atr) (acc st lv pg : Int) : Flt := if t.a = false then ⟨3, st, lv, false, pg⟩ else if mayA t acc = false then ⟨4, st, lv, false, pg⟩ else flt0
def bothS (x a : Atr) : Atr := ⟨x.r && a.r, x.w && a.w, x.x && a.x, x.a && a.a, x.n || a.n, x.s⟩
def both1 : Atr := ⟨true, true, true, true, false, 0⟩
def bothL (L : List Atr) : Atr := L.foldl bothS both1
/-- Attributes, as rows of cells. -/
def KA : RowK Atr where
  ts := 77
  t := 38
  N := 6
  B := 16
  z := .agg #[.bool false, .bool false, .bool false, .bool false, .bool false, .int .i64 0]
  V := atrC
  pos := by decide
  small := by decide
  size := fun _ => rfl
  one := fun q v hv => by
    simp only [atrC, List.mem_cons, List.not_mem_nil, or_false] at hv
    rcases hv with rfl | rfl | rfl | rfl | rfl | rfl <;> rfl
  under := Tryz.underlying77
  info := by kernel_rfl
  zs := rfl
theorem acc_any (acc : Int) (w : World) :
    Calls Tryz.prog 15 #[.int .i64 acc] w fun e w' => e = .returned (.bool (numB acc 2)) ∧ w = w' := by
  go_enter Tryz.func15, Tryz.ntmps15
  go_wp2_with fail
  refine (num_any _ _ _).mono ?_
  rintro e w1 ⟨rfl, rfl⟩
  go_wp2
  go_ret
  exact ⟨rfl, rfl⟩
theorem mayA_any (t : Atr) (acc : Int) (w : World) :
    Calls Tryz.prog 30 #[atrV t, .int .i64 acc] w fun e w' => e = .returned (.bool (mayA t acc)) ∧ Below w.heap.size w w' := by
  obtain ⟨r, wr, x, a, n, s⟩ := t
  unfold atrV atrC
  unfold mayA
  simp only
  by_cases h0 : acc = 0
  · subst h0
    cases r
    all_goals
      go_enter Tryz.func30, Tryz.ntmps30
      go_wp2
      go_ret
      exact ⟨rfl, by go_grown⟩
  by_cases h1 : acc = 1
  · subst h1
    cases wr
    all_goals
      go_enter Tryz.func30, Tryz.ntmps30
      go_wp2
      go_ret
      exact ⟨rfl, by go_grown⟩
  by_cases h2 : acc = 2
  · subst h2
    cases x
    all_goals
      go_enter Tryz.func30, Tryz.ntmps30
      go_wp2
      go_ret
      exact ⟨rfl, by go_grown⟩
  · rw [decide_eq_false h0, decide_eq_false h1, decide_eq_false h2]
    go_enter Tryz.func30, Tryz.ntmps30
    go_wp2
    go_ret
    exact ⟨rfl, by go_grown⟩
theorem flagA_any (t : Atr) (acc st lv pg : Int) (w : World) :
    Calls Tryz.prog 22 #[atrV t, .int .i64 acc, .int .i64 st, .int .i64 lv, .int .i64 pg] w fun e w' => e = .returned (fltV (flagA t acc st lv pg)) ∧ Below w.heap.size w w' := by
  have HM := Lib.hid (fun W => mayA_any t acc W)
  unfold flagA
  generalize mayA t acc = m at *
  obtain ⟨r, wr, x, a, n, s⟩ := t
  unfold atrV atrC at *
  simp only at *
  have M0 := Lib.hid (((BoxAt.new w #[.bool r, .bool wr, .bool x, .bool a, .bool n, .int .i64 s] 38).alloc (.cells z5 42)).alloc (.cells #[.int .i64 0, .int .i64 st, .int .i64 lv, .bool false, .int .i64 pg] 42))
  have R0 := Lib.hid ((BoxAt.newAt (w.alloc (.cells #[.bool r, .bool wr, .bool x, .bool a, .bool n, .int .i64 s] 38)) z5 42 (w.heap.size + 1) (by simp)).alloc (.cells #[.int .i64 0, .int .i64 st, .int .i64 lv, .bool false, .int .i64 pg] 42))
  have L0 := Lib.hid (BoxAt.newAt ((w.alloc (.cells #[.bool r, .bool wr, .bool x, .bool a, .bool n, .int .i64 s] 38)).alloc (.cells z5 42)) #[.int .i64 0, .int .i64 st, .int .i64 lv, .bool false, .int .i64 pg] 42 (w.heap.size + 1 + 1) (by simp))
  have B0 := Lib.hid (bel_alloc (bel_alloc (bel_alloc (Below.refl w.heap.size w) (.cells #[.bool r, .bool wr, .bool x, .bool a, .bool n, .int .i64 s] 38)) (.cells z5 42)) (.cells #[.int .i64 0, .int .i64 st, .int .i64 lv, .bool false, .int .i64 pg] 42))
  cases a
  · go_enter Tryz.func22, Tryz.ntmps22
    go_upto_region 2 with fail
    obtain ⟨W0, hW0⟩ : ∃ W0, W0 = ((w.alloc (.cells #[.bool r, .bool wr, .bool x, .bool false, .bool n, .int .i64 s] 38)).alloc (.cells z5 42)).alloc (.cells #[.int .i64 0, .int .i64 st, .int .i64 lv, .bool false, .int .i64 pg] 42) := ⟨_, rfl⟩
    rw [← hW0] at M0 R0 L0 B0 ⊢
    clear hW0
    have Mc0 := M0.out.get 0 (.bool r) rfl
    have Mc1 := M0.out.get 1 (.bool wr) rfl
    have Mc2 := M0.out.get 2 (.bool x) rfl
    have Mc3 := M0.out.get 3 (.bool false) rfl
    have Mc4 := M0.out.get 4 (.bool n) rfl
    have Mc5 := M0.out.get 5 (.int .i64 s) rfl
    have Lc0 := L0.out.get 0 (.int .i64 0) rfl
    have Lz0 := L0.out.free 0
    go_upto_region 4 with fail
    have M1 := Lib.hid ((M0.out.other ⟨w.heap.size + 1 + 1, 0, none⟩ (.int .i64 3) (by first | with_reducible assumption | (simp; done) | (simp; omega))))
    have R1 := Lib.hid ((R0.out.other ⟨w.heap.size + 1 + 1, 0, none⟩ (.int .i64 3) (by first | with_reducible assumption | (simp; done) | (simp; omega))))
    have L1 := Lib.hid ((L0.out.set 0 (.int .i64 3) #[.int .i64 3, .int .i64 st, .int .i64 lv, .bool false, .int .i64 pg] rfl))
    have B1 := Lib.hid ((Below.setCell B0.out (p := ⟨w.heap.size + 1 + 1, 0, none⟩) (by first | with_reducible assumption | (simp; done) | (simp; omega)) (.int .i64 3)))
    clear Mc0 Mc1 Mc2 Mc3 Mc4 Mc5 Lc0 Lz0
    clear M0 R0 L0 B0
    obtain ⟨W9, hW9⟩ : ∃ W9, W9 = W0.setCell ⟨w.heap.size + 1 + 1, 0, none⟩ (.int .i64 3) := ⟨_, rfl⟩
    rw [← hW9] at M1 R1 L1 B1 ⊢
    clear hW9
    have Lc0 := L1.out.get 0 (.int .i64 3) rfl
    have Lc1 := L1.out.get 1 (.int .i64 st) rfl
    have Lc2 := L1.out.get 2 (.int .i64 lv) rfl
    have Lc3 := L1.out.get 3 (.bool false) rfl
    have Lc4 := L1.out.get 4 (.int .i64 pg) rfl
    have Rc0 := R1.out.get 0 (.int .i64 0) rfl
    have Rc1 := R1.out.get 1 (.int .i64 0) rfl
    have Rc2 := R1.out.get 2 (.int .i64 0) rfl
    have Rc3 := R1.out.get 3 (.bool false) rfl
    have Rc4 := R1.out.get 4 (.int .i64 0) rfl
    have Rz0 := R1.out.free 0
    have Rz1 := R1.out.free 1
    have Rz2 := R1.out.free 2
    have Rz3 := R1.out.free 3
    have Rz4 := R1.out.free 4
    go_wp2
    refine bodyPost_ret (v := .agg #[.int .i64 3, .int .i64 st, .int .i64 lv, .bool false, .int .i64 pg]) (by simp [results, Tryz.results22, go_sem, Rc0, Rc1, Rc2, Rc3, Rc4]) rfl ⟨rfl, ?_⟩
    repeat' (first | with_reducible exact B1.out | with_reducible refine Below.setCell ?_ (by first | (simp; done) | (simp; omega)) _)
  · cases m
    · go_enter Tryz.func22, Tryz.ntmps22
      go_upto_region 2 with fail
      obtain ⟨W0, hW0⟩ : ∃ W0, W0 = ((w.alloc (.cells #[.bool r, .bool wr, .bool x, .bool true, .bool n, .int .i64 s] 38)).alloc (.cells z5 42)).alloc (.cells #[.int .i64 0, .int .i64 st, .int .i64 lv, .bool false, .int .i64 pg] 42) := ⟨_, rfl⟩
      rw [← hW0] at M0 R0 L0 B0 ⊢
      clear hW0
      have Mc0 := M0.out.get 0 (.bool r) rfl
      have Mc1 := M0.out.get 1 (.bool wr) rfl
      have Mc2 := M0.out.get 2 (.bool x) rfl
      have Mc3 := M0.out.get 3 (.bool true) rfl
      have Mc4 := M0.out.get 4 (.bool n) rfl
      have Mc5 := M0.out.get 5 (.int .i64 s) rfl
      go_wp2_with fail
      refine (HM.out _).mono ?_
      rintro e w1 ⟨rfl, hb1⟩
      have M2 := Lib.hid (M0.out.below hb1)
      have R2 := Lib.hid (R0.out.below hb1)
      have L2 := Lib.hid (L0.out.below hb1)
      have B2 := Lib.hid (bel_trans B0.out hb1)
      clear Mc0 Mc1 Mc2 Mc3 Mc4 Mc5
      clear M0 R0 L0 B0 hb1
      have Lc0 := L2.out.get 0 (.int .i64 0) rfl
      have Lz0 := L2.out.free 0
      go_upto_region 7 with fail
      have M3 := Lib.hid ((M2.out.other ⟨w.heap.size + 1 + 1, 0, none⟩ (.int .i64 4) (by first | with_reducible assumption | (simp; done) | (simp; omega))))
      have R3 := Lib.hid ((R2.out.other ⟨w.heap.size + 1 + 1, 0, none⟩ (.int .i64 4) (by first | with_reducible assumption | (simp; done) | (simp; omega))))
      have L3 := Lib.hid ((L2.out.set 0 (.int .i64 4) #[.int .i64 4, .int .i64 st, .int .i64 lv, .bool false, .int .i64 pg] rfl))
      have B3 := Lib.hid ((Below.setCell B2.out (p := ⟨w.heap.size + 1 + 1, 0, none⟩) (by first | with_reducible assumption | (simp; done) | (simp; omega)) (.int .i64 4)))
      clear Lc0 Lz0
      clear M2 R2 L2 B2
      obtain ⟨W9, hW9⟩ : ∃ W9, W9 = w1.setCell ⟨w.heap.size + 1 + 1, 0, none⟩ (.int .i64 4) := ⟨_, rfl⟩
      rw [← hW9] at M3 R3 L3 B3 ⊢
      clear hW9
      have Lc0 := L3.out.get 0 (.int .i64 4) rfl
      have Lc1 := L3.out.get 1 (.int .i64 st) rfl
      have Lc2 := L3.out.get 2 (.int .i64 lv) rfl
      have Lc3 := L3.out.get 3 (.bool false) rfl
      have Lc4 := L3.out.get 4 (.int .i64 pg) rfl
      have Rc0 := R3.out.get 0 (.int .i64 0) rfl
      have Rc1 := R3.out.get 1 (.int .i64 0) rfl
      have Rc2 := R3.out.get 2 (.int .i64 0) rfl
      have Rc3 := R3.out.get 3 (.bool false) rfl
      have Rc4 := R3.out.get 4 (.int .i64 0) rfl
      have Rz0 := R3.out.free 0
      have Rz1 := R3.out.free 1
      have Rz2 := R3.out.free 2
      have Rz3 := R3.out.free 3
      have Rz4 := R3.out.free 4
      go_wp2
      refine bodyPost_ret (v := .agg #[.int .i64 4, .int .i64 st, .int .i64 lv, .bool false, .int .i64 pg]) (by simp [results, Tryz.results22, go_sem, Rc0, Rc1, Rc2, Rc3, Rc4]) rfl ⟨rfl, ?_⟩
      repeat' (first | with_reducible exact B3.out | with_reducible refine Below.setCell ?_ (by first | (simp; done) | (simp; omega)) _)
    · go_enter Tryz.func22, Tryz.ntmps22
      go_upto_region 2 with fail
      obtain ⟨W0, hW0⟩ : ∃ W0, W0 = ((w.alloc (.cells #[.bool r, .bool wr, .bool x, .bool true, .bool n, .int .i64 s] 38)).alloc (.cells z5 42)).alloc (.cells #[.int .i64 0, .int .i64 st, .int .i64 lv, .bool false, .int .i64 pg] 42) := ⟨_, rfl⟩
      rw [← hW0] at M0 R0 L0 B0 ⊢
      clear hW0
      have Mc0 := M0.out.get 0 (.bool r) rfl
      have Mc1 := M0.out.get 1 (.bool wr) rfl
      have Mc2 := M0.out.get 2 (.bool x) rfl
      have Mc3 := M0.out.get 3 (.bool true) rfl
      have Mc4 := M0.out.get 4 (.bool n) rfl
      have Mc5 := M0.out.get 5 (.int .i64 s) rfl
      go_wp2_with fail
      refine (HM.out _).mono ?_
      rintro e w1 ⟨rfl, hb1⟩
      have M2 := Lib.hid (M0.out.below hb1)
      have R2 := Lib.hid (R0.out.below hb1)
      have L2 := Lib.hid (L0.out.below hb1)
      have B2 := Lib.hid (bel_trans B0.out hb1)
      clear Mc0 Mc1 Mc2 Mc3 Mc4 Mc5
      clear M0 R0 L0 B0 hb1
      have Rc0 := R2.out.get 0 (.int .i64 0) rfl
      have Rc1 := R2.out.get 1 (.int .i64 0) rfl
      have Rc2 := R2.out.get 2 (.int .i64 0) rfl
      have Rc3 := R2.out.get 3 (.bool false) rfl
      have Rc4 := R2.out.get 4 (.int .i64 0) rfl
      have Rz0 := R2.out.free 0
      have Rz1 := R2.out.free 1
      have Rz2 := R2.out.free 2
      have Rz3 := R2.out.free 3
      have Rz4 := R2.out.free 4
      go_wp2
      refine bodyPost_ret (v := .agg #[.int .i64 0, .int .i64 0, .int .i64 0, .bool false, .int .i64 0]) (by simp [results, Tryz.results22, go_sem, Rc0, Rc1, Rc2, Rc3, Rc4]) rfl ⟨rfl, ?_⟩
      repeat' (first | with_reducible exact B2.out | with_reducible refine Below.setCell ?_ (by first | (simp; done) | (simp; omega)) _)
theorem both_take (L : List Atr) (k : Nat) (t : Atr) (h : L[k]? = some t) : bothL (L.take (k + 1)) = bothS (bothL (L.take k)) t := by
  unfold bothL
  rw [List.take_add_one, h, List.foldl_append]
  rfl
end Go.Proofs.YtalbblaicmdhmaaGreat
