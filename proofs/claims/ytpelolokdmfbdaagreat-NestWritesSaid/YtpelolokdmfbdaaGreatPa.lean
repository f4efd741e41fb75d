/- Permissions plainly; the reference's May, Both, Flag: contracts. -/
import Derived.Test.YtpelolokdmfbdaaGreatRow
import Derived.Test.YtpelolokdmfbdaaGreatEq
import Derived.Test.YtpelolokdmfbdaaGreatRb
import Derived.Test.YtpelolokdmfbdaaGreatTl
import Derived.Deep.CutBlock
namespace Go.Proofs.YtpelolokdmfbdaaGreat
open Go.ChangeShapes Go.WideShapes Go.ChangeAt Go.RowKit Go.Deep

def mayA (t : Atr) (acc : Int) : Bool := ((decide (acc = 0) && t.r) || (decide (acc = 1) && t.w)) || (decide (acc = 2) && t.x)
def flagA (t : Atr) (acc st lv pg : Int) : Flt := if t.a = false then ⟨3, st, lv, false, pg⟩ else if mayA t acc = false then ⟨4, st, lv, false, pg⟩ else flt0
def bothS (x a : Atr) : Atr := ⟨x.r && a.r, x.w && a.w, x.x && a.x, x.a && a.a, x.n || a.n, x.s⟩
def both1 : Atr := ⟨true, true, true, true, false, 0⟩
def bothL (L : List Atr) : Atr := L.foldl bothS both1
/-- Attributes, as rows of cells. -/
def KA : RowK Atr where
  ts := 86
  t := 34
  N := 6
  B := 16
  z := .agg #[.bool false, .bool false, .bool false, .bool false, .bool false, .int .i64 0]
  V := atrC
  pos := by decide
  small := by decide
  size := fun _ => rfl
  one := fun q v hv => by
    simp only [atrC, List.mem_cons, List.not_mem_nil, or_false] at hv
    rcases hv with rfl | rfl | rfl | rfl | rfl | rfl <;> rfl
  under := Tryz.underlying86
  info := by kernel_rfl
  zs := rfl
theorem acc_any (acc : Int) (w : World) :
    Calls Tryz.prog 27 #[.int .i64 acc] w fun e w' => e = .returned (.bool (numB acc 2)) ∧ w = w' := by
  go_enter Tryz.func27, Tryz.ntmps27
  go_wp2_with fail
  refine (num_any _ _ _).mono ?_
  rintro e w1 ⟨rfl, rfl⟩
  go_wp2
  go_ret
  exact ⟨rfl, rfl⟩
theorem mayA_any (t : Atr) (acc : Int) (w : World) :
    Calls Tryz.prog 44 #[atrV t, .int .i64 acc] w fun e w' => e = .returned (.bool (mayA t acc)) ∧ Below w.heap.size w w' := by
  obtain ⟨r, wr, x, a, n, s⟩ := t
  unfold atrV atrC
  unfold mayA
  simp only
  by_cases h0 : acc = 0
  · subst h0
    cases r
    all_goals
      go_enter Tryz.func44, Tryz.ntmps44
      go_wp2
      go_ret
      exact ⟨rfl, by go_grown⟩
  by_cases h1 : acc = 1
  · subst h1
    cases wr
    all_goals
      go_enter Tryz.func44, Tryz.ntmps44
      go_wp2
      go_ret
      exact ⟨rfl, by go_grown⟩
  by_cases h2 : acc = 2
  · subst h2
    cases x
    all_goals
      go_enter Tryz.func44, Tryz.ntmps44
      go_wp2
      go_ret
      exact ⟨rfl, by go_grown⟩
  · rw [decide_eq_false h0, decide_eq_false h1, decide_eq_false h2]
    go_enter Tryz.func44, Tryz.ntmps44
    go_wp2
    go_ret
    exact ⟨rfl, by go_grown⟩
theorem flagA_any (t : Atr) (acc st lv pg : Int) (w : World) :
    Calls Tryz.prog 30 #[atrV t, .int .i64 acc, .int .i64 st, .int .i64 lv, .int .i64 pg] w fun e w' => e = .returned (fltV (flagA t acc st lv pg)) ∧ Below w.heap.size w w' := by
  have HM := Lib.hid (fun W => mayA_any t acc W)
  unfold flagA
  generalize mayA t acc = m at *
  obtain ⟨r, wr, x, a, n, s⟩ := t
  unfold atrV atrC at *
  simp only at *
  have M0 := Lib.hid (((BoxAt.new w #[.bool r, .bool wr, .bool x, .bool a, .bool n, .int .i64 s] 34).alloc (.cells z5 38)).alloc (.cells #[.int .i64 0, .int .i64 st, .int .i64 lv, .bool false, .int .i64 pg] 38))
  have R0 := Lib.hid ((BoxAt.newAt (w.alloc (.cells #[.bool r, .bool wr, .bool x, .bool a, .bool n, .int .i64 s] 34)) z5 38 (w.heap.size + 1) (by simp)).alloc (.cells #[.int .i64 0, .int .i64 st, .int .i64 lv, .bool false, .int .i64 pg] 38))
  have L0 := Lib.hid (BoxAt.newAt ((w.alloc (.cells #[.bool r, .bool wr, .bool x, .bool a, .bool n, .int .i64 s] 34)).alloc (.cells z5 38)) #[.int .i64 0, .int .i64 st, .int .i64 lv, .bool false, .int .i64 pg] 38 (w.heap.size + 1 + 1) (by simp))
  have B0 := Lib.hid (bel_alloc (bel_alloc (bel_alloc (Below.refl w.heap.size w) (.cells #[.bool r, .bool wr, .bool x, .bool a, .bool n, .int .i64 s] 34)) (.cells z5 38)) (.cells #[.int .i64 0, .int .i64 st, .int .i64 lv, .bool false, .int .i64 pg] 38))
  cases a
  · go_enter Tryz.func30, Tryz.ntmps30
    go_upto_region 2 with fail
    obtain ⟨W0, hW0⟩ : ∃ W0, W0 = ((w.alloc (.cells #[.bool r, .bool wr, .bool x, .bool false, .bool n, .int .i64 s] 34)).alloc (.cells z5 38)).alloc (.cells #[.int .i64 0, .int .i64 st, .int .i64 lv, .bool false, .int .i64 pg] 38) := ⟨_, rfl⟩
    rw [← hW0] at M0 R0 L0 B0 ⊢
    clear hW0
    have Mc0 := M0.out.get 0 (.bool r) rfl
    have Mc1 := M0.out.get 1 (.bool wr) rfl
    have Mc2 := M0.out.get 2 (.bool x) rfl
    have Mc3 := M0.out.get 3 (.bool false) rfl
    have Mc4 := M0.out.get 4 (.bool n) rfl
    have Mc5 := M0.out.get 5 (.int .i64 s) rfl
    have Lc0 := L0.out.get 0 (.int .i64 0) rfl
    have Lz0 := L0.out.free 0
    go_upto_region 4 with fail
    have M1 := Lib.hid ((M0.out.other ⟨w.heap.size + 1 + 1, 0, none⟩ (.int .i64 3) (by first | with_reducible assumption | (simp; done) | (simp; omega))))
    have R1 := Lib.hid ((R0.out.other ⟨w.heap.size + 1 + 1, 0, none⟩ (.int .i64 3) (by first | with_reducible assumption | (simp; done) | (simp; omega))))
    have L1 := Lib.hid ((L0.out.set 0 (.int .i64 3) #[.int .i64 3, .int .i64 st, .int .i64 lv, .bool false, .int .i64 pg] rfl))
    have B1 := Lib.hid ((Below.setCell B0.out (p := ⟨w.heap.size + 1 + 1, 0, none⟩) (by first | with_reducible assumption | (simp; done) | (simp; omega)) (.int .i64 3)))
    clear Mc0 Mc1 Mc2 Mc3 Mc4 Mc5 Lc0 Lz0
    clear M0 R0 L0 B0
    obtain ⟨W9, hW9⟩ : ∃ W9, W9 = W0.setCell ⟨w.heap.size + 1 + 1, 0, none⟩ (.int .i64 3) := ⟨_, rfl⟩
    rw [← hW9] at M1 R1 L1 B1 ⊢
    clear hW9
    have Lc0 := L1.out.get 0 (.int .i64 3) rfl
    have Lc1 := L1.out.get 1 (.int .i64 st) rfl
    have Lc2 := L1.out.get 2 (.int .i64 lv) rfl
    have Lc3 := L1.out.get 3 (.bool false) rfl
    have Lc4 := L1.out.get 4 (.int .i64 pg) rfl
    have Rc0 := R1.out.get 0 (.int .i64 0) rfl
    have Rc1 := R1.out.get 1 (.int .i64 0) rfl
    have Rc2 := R1.out.get 2 (.int .i64 0) rfl
    have Rc3 := R1.out.get 3 (.bool false) rfl
    have Rc4 := R1.out.get 4 (.int .i64 0) rfl
    have Rz0 := R1.out.free 0
    have Rz1 := R1.out.free 1
    have Rz2 := R1.out.free 2
    have Rz3 := R1.out.free 3
    have Rz4 := R1.out.free 4
    go_wp2
    refine bodyPost_ret (v := .agg #[.int .i64 3, .int .i64 st, .int .i64 lv, .bool false, .int .i64 pg]) (by simp [results, Tryz.results30, go_sem, Rc0, Rc1, Rc2, Rc3, Rc4]) rfl ⟨rfl, ?_⟩
    repeat' (first | with_reducible exact B1.out | with_reducible refine Below.setCell ?_ (by first | (simp; done) | (simp; omega)) _)
  · cases m
    · go_enter Tryz.func30, Tryz.ntmps30
      go_upto_region 2 with fail
      obtain ⟨W0, hW0⟩ : ∃ W0, W0 = ((w.alloc (.cells #[.bool r, .bool wr, .bool x, .bool true, .bool n, .int .i64 s] 34)).alloc (.cells z5 38)).alloc (.cells #[.int .i64 0, .int .i64 st, .int .i64 lv, .bool false, .int .i64 pg] 38) := ⟨_, rfl⟩
      rw [← hW0] at M0 R0 L0 B0 ⊢
      clear hW0
      have Mc0 := M0.out.get 0 (.bool r) rfl
      have Mc1 := M0.out.get 1 (.bool wr) rfl
      have Mc2 := M0.out.get 2 (.bool x) rfl
      have Mc3 := M0.out.get 3 (.bool true) rfl
      have Mc4 := M0.out.get 4 (.bool n) rfl
      have Mc5 := M0.out.get 5 (.int .i64 s) rfl
      go_wp2_with fail
      refine (HM.out _).mono ?_
      rintro e w1 ⟨rfl, hb1⟩
      have M2 := Lib.hid (M0.out.below hb1)
      have R2 := Lib.hid (R0.out.below hb1)
      have L2 := Lib.hid (L0.out.below hb1)
      have B2 := Lib.hid (bel_trans B0.out hb1)
      clear Mc0 Mc1 Mc2 Mc3 Mc4 Mc5
      clear M0 R0 L0 B0 hb1
      have Lc0 := L2.out.get 0 (.int .i64 0) rfl
      have Lz0 := L2.out.free 0
      go_upto_region 7 with fail
      have M3 := Lib.hid ((M2.out.other ⟨w.heap.size + 1 + 1, 0, none⟩ (.int .i64 4) (by first | with_reducible assumption | (simp; done) | (simp; omega))))
      have R3 := Lib.hid ((R2.out.other ⟨w.heap.size + 1 + 1, 0, none⟩ (.int .i64 4) (by first | with_reducible assumption | (simp; done) | (simp; omega))))
      have L3 := Lib.hid ((L2.out.set 0 (.int .i64 4) #[.int .i64 4, .int .i64 st, .int .i64 lv, .bool false, .int .i64 pg] rfl))
      have B3 := Lib.hid ((Below.setCell B2.out (p := ⟨w.heap.size + 1 + 1, 0, none⟩) (by first | with_reducible assumption | (simp; done) | (simp; omega)) (.int .i64 4)))
      clear Lc0 Lz0
      clear M2 R2 L2 B2
      obtain ⟨W9, hW9⟩ : ∃ W9, W9 = w1.setCell ⟨w.heap.size + 1 + 1, 0, none⟩ (.int .i64 4) := ⟨_, rfl⟩
      rw [← hW9] at M3 R3 L3 B3 ⊢
      clear hW9
      have Lc0 := L3.out.get 0 (.int .i64 4) rfl
      have Lc1 := L3.out.get 1 (.int .i64 st) rfl
      have Lc2 := L3.out.get 2 (.int .i64 lv) rfl
      have Lc3 := L3.out.get 3 (.bool false) rfl
      have Lc4 := L3.out.get 4 (.int .i64 pg) rfl
      have Rc0 := R3.out.get 0 (.int .i64 0) rfl
      have Rc1 := R3.out.get 1 (.int .i64 0) rfl
      have Rc2 := R3.out.get 2 (.int .i64 0) rfl
      have Rc3 := R3.out.get 3 (.bool false) rfl
      have Rc4 := R3.out.get 4 (.int .i64 0) rfl
      have Rz0 := R3.out.free 0
      have Rz1 := R3.out.free 1
      have Rz2 := R3.out.free 2
      have Rz3 := R3.out.free 3
      have Rz4 := R3.out.free 4
      go_wp2
      refine bodyPost_ret (v := .agg #[.int .i64 4, .int .i64 st, .int .i64 lv, .bool false, .int .i64 pg]) (by simp [results, Tryz.results30, go_sem, Rc0, Rc1, Rc2, Rc3, Rc4]) rfl ⟨rfl, ?_⟩
      repeat' (first | with_reducible exact B3.out | with_reducible refine Below.setCell ?_ (by first | (simp; done) | (simp; omega)) _)
    · go_enter Tryz.func30, Tryz.ntmps30
      go_upto_region 2 with fail
      obtain ⟨W0, hW0⟩ : ∃ W0, W0 = ((w.alloc (.cells #[.bool r, .bool wr, .bool x, .bool true, .bool n, .int .i64 s] 34)).alloc (.cells z5 38)).alloc (.cells #[.int .i64 0, .int .i64 st, .int .i64 lv, .bool false, .int .i64 pg] 38) := ⟨_, rfl⟩
      rw [← hW0] at M0 R0 L0 B0 ⊢
      clear hW0
      have Mc0 := M0.out.get 0 (.bool r) rfl
      have Mc1 := M0.out.get 1 (.bool wr) rfl
      have Mc2 := M0.out.get 2 (.bool x) rfl
      have Mc3 := M0.out.get 3 (.bool true) rfl
      have Mc4 := M0.out.get 4 (.bool n) rfl
      have Mc5 := M0.out.get 5 (.int .i64 s) rfl
      go_wp2_with fail
      refine (HM.out _).mono ?_
      rintro e w1 ⟨rfl, hb1⟩
      have M2 := Lib.hid (M0.out.below hb1)
      have R2 := Lib.hid (R0.out.below hb1)
      have L2 := Lib.hid (L0.out.below hb1)
      have B2 := Lib.hid (bel_trans B0.out hb1)
      clear Mc0 Mc1 Mc2 Mc3 Mc4 Mc5
      clear M0 R0 L0 B0 hb1
      have Rc0 := R2.out.get 0 (.int .i64 0) rfl
      have Rc1 := R2.out.get 1 (.int .i64 0) rfl
      have Rc2 := R2.out.get 2 (.int .i64 0) rfl
      have Rc3 := R2.out.get 3 (.bool false) rfl
      have Rc4 := R2.out.get 4 (.int .i64 0) rfl
      have Rz0 := R2.out.free 0
      have Rz1 := R2.out.free 1
      have Rz2 := R2.out.free 2
      have Rz3 := R2.out.free 3
      have Rz4 := R2.out.free 4
      go_wp2
      refine bodyPost_ret (v := .agg #[.int .i64 0, .int .i64 0, .int .i64 0, .bool false, .int .i64 0]) (by simp [results, Tryz.results30, go_sem, Rc0, Rc1, Rc2, Rc3, Rc4]) rfl ⟨rfl, ?_⟩
      repeat' (first | with_reducible exact B2.out | with_reducible refine Below.setCell ?_ (by first | (simp; done) | (simp; omega)) _)
theorem both_take (L : List Atr) (k : Nat) (t : Atr) (h : L[k]? = some t) : bothL (L.take (k + 1)) = bothS (bothL (L.take k)) t := by
  unfold bothL
  rw [List.take_add_one, h, List.foldl_append]
  rfl
set_option maxRecDepth 100000 in
set_option maxHeartbeats 3200000 in
theorem bothA_any (f : Option Addr) (n c : Nat) (L : List Atr) (w : World) (hL : RowsAt KA w f L) (hn : n = L.length) (hl : L.length ≤ 100000) :
    Calls Tryz.prog 35 #[.slice f n c] w fun e w' => e = .returned (atrV (bothL L)) ∧ Below w.heap.size w w' := by
  have R0 := Lib.hid ((BoxAt.new w #[.bool false, .bool false, .bool false, .bool false, .bool false, .int .i64 0] 34).alloc (.cells #[.bool true, .bool true, .bool true, .bool true, .bool false, .int .i64 0] 34))
  have X0 := Lib.hid (BoxAt.newAt (w.alloc (.cells #[.bool false, .bool false, .bool false, .bool false, .bool false, .int .i64 0] 34)) #[.bool true, .bool true, .bool true, .bool true, .bool false, .int .i64 0] 34 (w.heap.size + 1) (by simp))
  have B0 := Lib.hid (bel_alloc (bel_alloc (Below.refl w.heap.size w) (.cells #[.bool false, .bool false, .bool false, .bool false, .bool false, .int .i64 0] 34)) (.cells #[.bool true, .bool true, .bool true, .bool true, .bool false, .int .i64 0] 34))
  have HL := Lib.hid hL
  have HN := Lib.hid hn
  have hn1 : n ≤ 100000 := by omega
  clear hL hn hl
  go_enter Tryz.func35, Tryz.ntmps35
  go_wp2
  obtain ⟨W0, hW0⟩ : ∃ W0, W0 = (w.alloc (.cells #[.bool false, .bool false, .bool false, .bool false, .bool false, .int .i64 0] 34)).alloc (.cells #[.bool true, .bool true, .bool true, .bool true, .bool false, .int .i64 0] 34) := ⟨_, rfl⟩
  rw [← hW0] at R0 X0 B0 ⊢
  clear hW0
  go_loopw [4] (fun i wr => ∃ k : Nat, k ≤ n ∧ i = .int .i64 k ∧ Hid (BoxAt wr (w.heap.size) #[.bool false, .bool false, .bool false, .bool false, .bool false, .int .i64 0] 34) ∧ Hid (BoxAt wr (w.heap.size + 1) (atrC (bothL (L.take k))) 34) ∧ Hid (Below w.heap.size w wr)) (fun i _ => n - (intOf i).toNat)
  case atStart => exact ⟨0, Nat.zero_le _, rfl, R0.out, X0.out, B0.out⟩
  case round =>
    obtain ⟨k, hk, rfl, R1, X1, B1⟩ := hrel
    clear R0 X0 B0
    by_cases hlt : k < n
    · have hq : ∃ t, L[k]? = some t := ⟨_, List.getElem?_eq_getElem (by rw [← HN.out]; exact hlt)⟩
      obtain ⟨t, ht⟩ := hq
      obtain ⟨b, o, rfl, hr⟩ := HL.out k t ht
      have hr := hr.below B1.out
      have hnx := both_take L k t ht
      have HNX := Lib.hid hnx
      clear hnx
      generalize bothL (L.take k) = x0 at *
      obtain ⟨xr, xw, xx, xa, xn, xs⟩ := x0
      obtain ⟨ar, aw, ax, aa, an, as'⟩ := t
      have y0 := hr.get0 (.bool ar) (by decide) rfl
      have y1 := hr.get 1 (.bool aw) (by decide) rfl
      have y2 := hr.get 2 (.bool ax) (by decide) rfl
      have y3 := hr.get 3 (.bool aa) (by decide) rfl
      have y4 := hr.get 4 (.bool an) (by decide) rfl
      have y5 := hr.get 5 (.int .i64 as') (by decide) rfl
      simp only [show KA.N = 6 from rfl] at y0 y1 y2 y3 y4 y5
      clear hr
      have i1 : (0 : Int) ≤ (k : Int) := by omega
      have i2 : (k : Int) < (n : Int) := by omega
      have X1 : Hid (BoxAt wr (w.heap.size + 1) #[.bool xr, .bool xw, .bool xx, .bool xa, .bool xn, .int .i64 xs] 34) := X1
      have hxl : w.heap.size + 1 < wr.heap.size := X1.out.lt
      go_upto_region 6 with fail
      have R2 := Lib.hid (R1.out.alloc (.cells #[.bool ar, .bool aw, .bool ax, .bool aa, .bool an, .int .i64 as'] 34))
      have X2 := Lib.hid (X1.out.alloc (.cells #[.bool ar, .bool aw, .bool ax, .bool aa, .bool an, .int .i64 as'] 34))
      have Y2 := Lib.hid (BoxAt.new wr #[.bool ar, .bool aw, .bool ax, .bool aa, .bool an, .int .i64 as'] 34)
      have B2 := Lib.hid (bel_alloc B1.out (.cells #[.bool ar, .bool aw, .bool ax, .bool aa, .bool an, .int .i64 as'] 34))
      obtain ⟨W2, hW2⟩ : ∃ W2, W2 = wr.alloc (.cells #[.bool ar, .bool aw, .bool ax, .bool aa, .bool an, .int .i64 as'] 34) := ⟨_, rfl⟩
      obtain ⟨G, hG⟩ : ∃ G, G = wr.heap.size := ⟨_, rfl⟩
      rw [← hW2] at R2 X2 Y2 B2 ⊢
      rw [← hG] at Y2 hxl ⊢
      clear hW2 hG R1 X1 B1 y0 y1 y2 y3 y4 y5
      refine wp_region_tail [31, 33, 35, 37, 39] (fun w' => BoxAt w' G #[.bool ar, .bool aw, .bool ax, .bool aa, .bool an, .int .i64 as'] 34) (fun w' => BoxAt w' (w.heap.size + 1) #[.bool xr, .bool xw, .bool xx, .bool xa, .bool xn, .int .i64 xs] 34) (by kernel_rfl) ?_
      have hS : BoxAt W2.drew G #[.bool ar, .bool aw, .bool ax, .bool aa, .bool an, .int .i64 as'] 34 ∧ BoxAt W2.drew (w.heap.size + 1) #[.bool xr, .bool xw, .bool xx, .bool xa, .bool xn, .int .i64 xs] 34 := ⟨Y2.out.drew, X2.out.drew⟩
      refine tail_read 0 (oi := ⟨some 17, _, _, _, _, _⟩) (v := ?_) rfl (by kernel_rfl) (by kernel_rfl) (by kernel_rfl) (by kernel_rfl) (fun _ _ _ h => h) hS (Or.inl ⟨by rfl, ?_⟩) ?_
      rotate_left
      · (intro w' hSw; clear hSw; go_simp; try with_reducible rfl)
      simp only [Act.put, List.setIfInBounds_toArray, List.set_cons_zero, List.set_cons_succ]
      refine tail_take 1 (oi := ⟨some 18, _, _, _, _, _⟩) (v := .bool xr) rfl (by kernel_rfl) (by kernel_rfl) (by kernel_rfl) (by kernel_rfl) (fun _ _ _ h => h) hS (Or.inl ⟨by rfl, ?_⟩) ?_
      · (intro w' hSw; have s0 := hSw.get 0 (.bool xr) rfl; clear hSw; go_simp; try with_reducible rfl)
      simp only [Act.put, List.setIfInBounds_toArray, List.set_cons_zero, List.set_cons_succ]
      refine tail_read 2 (oi := ⟨some 19, _, _, _, _, _⟩) (v := ?_) rfl (by kernel_rfl) (by kernel_rfl) (by kernel_rfl) (by kernel_rfl) (fun _ _ _ h => h) hS (Or.inl ⟨by rfl, ?_⟩) ?_
      rotate_left
      · (intro w' hSw; clear hSw; go_simp; try with_reducible rfl)
      simp only [Act.put, List.setIfInBounds_toArray, List.set_cons_zero, List.set_cons_succ]
      refine tail_read 3 (oi := ⟨some 20, _, _, _, _, _⟩) (v := bif xr then .pointer (some ⟨G, 0, none⟩) else undef) rfl (by kernel_rfl) (by kernel_rfl) (by kernel_rfl) (by kernel_rfl) (fun _ _ _ h => h) hS ?_ ?_
      · cases xr
        · exact Or.inr ⟨by rfl, rfl⟩
        · (refine Or.inl ⟨by rfl, ?_⟩; intro w' hSw; have s0 := hSw.get 0 (.bool ar) rfl; clear hSw; simp only [cond_true]; go_simp; try with_reducible rfl)
      simp only [Act.put, List.setIfInBounds_toArray, List.set_cons_zero, List.set_cons_succ]
      refine tail_read 4 (oi := ⟨some 21, _, _, _, _, _⟩) (v := bif xr then .bool ar else undef) rfl (by kernel_rfl) (by kernel_rfl) (by kernel_rfl) (by kernel_rfl) (fun _ _ _ h => h) hS ?_ ?_
      · cases xr
        · exact Or.inr ⟨by rfl, rfl⟩
        · (refine Or.inl ⟨by rfl, ?_⟩; intro w' hSw; have s0 := hSw.get 0 (.bool ar) rfl; clear hSw; simp only [cond_true]; go_simp; try with_reducible rfl)
      simp only [Act.put, List.setIfInBounds_toArray, List.set_cons_zero, List.set_cons_succ]
      refine tail_read 5 (oi := ⟨some 22, _, _, _, _, _⟩) (v := .bool (xr && ar)) rfl (by kernel_rfl) (by kernel_rfl) (by kernel_rfl) (by kernel_rfl) (fun _ _ _ h => h) hS ?_ ?_
      · (cases xr <;> (refine Or.inl ⟨by rfl, ?_⟩; intro w' hSw; clear hSw; rfl))
      simp only [Act.put, List.setIfInBounds_toArray, List.set_cons_zero, List.set_cons_succ]
      refine tail_read 6 (oi := ⟨some 23, _, _, _, _, _⟩) (v := ?_) rfl (by kernel_rfl) (by kernel_rfl) (by kernel_rfl) (by kernel_rfl) (fun _ _ _ h => h) hS (Or.inl ⟨by rfl, ?_⟩) ?_
      rotate_left
      · (intro w' hSw; clear hSw; go_simp; try with_reducible rfl)
      simp only [Act.put, List.setIfInBounds_toArray, List.set_cons_zero, List.set_cons_succ]
      refine tail_take 7 (oi := ⟨some 24, _, _, _, _, _⟩) (v := .bool xw) rfl (by kernel_rfl) (by kernel_rfl) (by kernel_rfl) (by kernel_rfl) (fun _ _ _ h => h) hS (Or.inl ⟨by rfl, ?_⟩) ?_
      · (intro w' hSw; have s1 := hSw.get 1 (.bool xw) rfl; clear hSw; go_simp; try with_reducible rfl)
      simp only [Act.put, List.setIfInBounds_toArray, List.set_cons_zero, List.set_cons_succ]
      refine tail_read 8 (oi := ⟨some 25, _, _, _, _, _⟩) (v := ?_) rfl (by kernel_rfl) (by kernel_rfl) (by kernel_rfl) (by kernel_rfl) (fun _ _ _ h => h) hS (Or.inl ⟨by rfl, ?_⟩) ?_
      rotate_left
      · (intro w' hSw; clear hSw; go_simp; try with_reducible rfl)
      simp only [Act.put, List.setIfInBounds_toArray, List.set_cons_zero, List.set_cons_succ]
      refine tail_read 9 (oi := ⟨some 26, _, _, _, _, _⟩) (v := bif xw then .pointer (some ⟨G, 1, none⟩) else undef) rfl (by kernel_rfl) (by kernel_rfl) (by kernel_rfl) (by kernel_rfl) (fun _ _ _ h => h) hS ?_ ?_
      · cases xw
        · exact Or.inr ⟨by rfl, rfl⟩
        · (refine Or.inl ⟨by rfl, ?_⟩; intro w' hSw; have s1 := hSw.get 1 (.bool aw) rfl; clear hSw; simp only [cond_true]; go_simp; try with_reducible rfl)
      simp only [Act.put, List.setIfInBounds_toArray, List.set_cons_zero, List.set_cons_succ]
      refine tail_read 10 (oi := ⟨some 27, _, _, _, _, _⟩) (v := bif xw then .bool aw else undef) rfl (by kernel_rfl) (by kernel_rfl) (by kernel_rfl) (by kernel_rfl) (fun _ _ _ h => h) hS ?_ ?_
      · cases xw
        · exact Or.inr ⟨by rfl, rfl⟩
        · (refine Or.inl ⟨by rfl, ?_⟩; intro w' hSw; have s1 := hSw.get 1 (.bool aw) rfl; clear hSw; simp only [cond_true]; go_simp; try with_reducible rfl)
      simp only [Act.put, List.setIfInBounds_toArray, List.set_cons_zero, List.set_cons_succ]
      refine tail_read 11 (oi := ⟨some 28, _, _, _, _, _⟩) (v := .bool (xw && aw)) rfl (by kernel_rfl) (by kernel_rfl) (by kernel_rfl) (by kernel_rfl) (fun _ _ _ h => h) hS ?_ ?_
      · (cases xw <;> (refine Or.inl ⟨by rfl, ?_⟩; intro w' hSw; clear hSw; rfl))
      simp only [Act.put, List.setIfInBounds_toArray, List.set_cons_zero, List.set_cons_succ]
      refine tail_read 12 (oi := ⟨some 29, _, _, _, _, _⟩) (v := ?_) rfl (by kernel_rfl) (by kernel_rfl) (by kernel_rfl) (by kernel_rfl) (fun _ _ _ h => h) hS (Or.inl ⟨by rfl, ?_⟩) ?_
      rotate_left
      · (intro w' hSw; clear hSw; go_simp; try with_reducible rfl)
      simp only [Act.put, List.setIfInBounds_toArray, List.set_cons_zero, List.set_cons_succ]
      refine tail_take 13 (oi := ⟨some 30, _, _, _, _, _⟩) (v := .bool xx) rfl (by kernel_rfl) (by kernel_rfl) (by kernel_rfl) (by kernel_rfl) (fun _ _ _ h => h) hS (Or.inl ⟨by rfl, ?_⟩) ?_
      · (intro w' hSw; have s2 := hSw.get 2 (.bool xx) rfl; clear hSw; go_simp; try with_reducible rfl)
      simp only [Act.put, List.setIfInBounds_toArray, List.set_cons_zero, List.set_cons_succ]
      refine tail_read 14 (oi := ⟨some 31, _, _, _, _, _⟩) (v := ?_) rfl (by kernel_rfl) (by kernel_rfl) (by kernel_rfl) (by kernel_rfl) (fun _ _ _ h => h) hS (Or.inl ⟨by rfl, ?_⟩) ?_
      rotate_left
      · (intro w' hSw; clear hSw; go_simp; try with_reducible rfl)
      simp only [Act.put, List.setIfInBounds_toArray, List.set_cons_zero, List.set_cons_succ]
      refine tail_read 15 (oi := ⟨some 32, _, _, _, _, _⟩) (v := bif xx then .pointer (some ⟨G, 2, none⟩) else undef) rfl (by kernel_rfl) (by kernel_rfl) (by kernel_rfl) (by kernel_rfl) (fun _ _ _ h => h) hS ?_ ?_
      · cases xx
        · exact Or.inr ⟨by rfl, rfl⟩
        · (refine Or.inl ⟨by rfl, ?_⟩; intro w' hSw; have s2 := hSw.get 2 (.bool ax) rfl; clear hSw; simp only [cond_true]; go_simp; try with_reducible rfl)
      simp only [Act.put, List.setIfInBounds_toArray, List.set_cons_zero, List.set_cons_succ]
      refine tail_read 16 (oi := ⟨some 33, _, _, _, _, _⟩) (v := bif xx then .bool ax else undef) rfl (by kernel_rfl) (by kernel_rfl) (by kernel_rfl) (by kernel_rfl) (fun _ _ _ h => h) hS ?_ ?_
      · cases xx
        · exact Or.inr ⟨by rfl, rfl⟩
        · (refine Or.inl ⟨by rfl, ?_⟩; intro w' hSw; have s2 := hSw.get 2 (.bool ax) rfl; clear hSw; simp only [cond_true]; go_simp; try with_reducible rfl)
      simp only [Act.put, List.setIfInBounds_toArray, List.set_cons_zero, List.set_cons_succ]
      refine tail_read 17 (oi := ⟨some 34, _, _, _, _, _⟩) (v := .bool (xx && ax)) rfl (by kernel_rfl) (by kernel_rfl) (by kernel_rfl) (by kernel_rfl) (fun _ _ _ h => h) hS ?_ ?_
      · (cases xx <;> (refine Or.inl ⟨by rfl, ?_⟩; intro w' hSw; clear hSw; rfl))
      simp only [Act.put, List.setIfInBounds_toArray, List.set_cons_zero, List.set_cons_succ]
      refine tail_read 18 (oi := ⟨some 35, _, _, _, _, _⟩) (v := ?_) rfl (by kernel_rfl) (by kernel_rfl) (by kernel_rfl) (by kernel_rfl) (fun _ _ _ h => h) hS (Or.inl ⟨by rfl, ?_⟩) ?_
      rotate_left
      · (intro w' hSw; clear hSw; go_simp; try with_reducible rfl)
      simp only [Act.put, List.setIfInBounds_toArray, List.set_cons_zero, List.set_cons_succ]
      refine tail_take 19 (oi := ⟨some 36, _, _, _, _, _⟩) (v := .bool xa) rfl (by kernel_rfl) (by kernel_rfl) (by kernel_rfl) (by kernel_rfl) (fun _ _ _ h => h) hS (Or.inl ⟨by rfl, ?_⟩) ?_
      · (intro w' hSw; have s3 := hSw.get 3 (.bool xa) rfl; clear hSw; go_simp; try with_reducible rfl)
      simp only [Act.put, List.setIfInBounds_toArray, List.set_cons_zero, List.set_cons_succ]
      refine tail_read 20 (oi := ⟨some 37, _, _, _, _, _⟩) (v := ?_) rfl (by kernel_rfl) (by kernel_rfl) (by kernel_rfl) (by kernel_rfl) (fun _ _ _ h => h) hS (Or.inl ⟨by rfl, ?_⟩) ?_
      rotate_left
      · (intro w' hSw; clear hSw; go_simp; try with_reducible rfl)
      simp only [Act.put, List.setIfInBounds_toArray, List.set_cons_zero, List.set_cons_succ]
      refine tail_read 21 (oi := ⟨some 38, _, _, _, _, _⟩) (v := bif xa then .pointer (some ⟨G, 3, none⟩) else undef) rfl (by kernel_rfl) (by kernel_rfl) (by kernel_rfl) (by kernel_rfl) (fun _ _ _ h => h) hS ?_ ?_
      · cases xa
        · exact Or.inr ⟨by rfl, rfl⟩
        · (refine Or.inl ⟨by rfl, ?_⟩; intro w' hSw; have s3 := hSw.get 3 (.bool aa) rfl; clear hSw; simp only [cond_true]; go_simp; try with_reducible rfl)
      simp only [Act.put, List.setIfInBounds_toArray, List.set_cons_zero, List.set_cons_succ]
      refine tail_read 22 (oi := ⟨some 39, _, _, _, _, _⟩) (v := bif xa then .bool aa else undef) rfl (by kernel_rfl) (by kernel_rfl) (by kernel_rfl) (by kernel_rfl) (fun _ _ _ h => h) hS ?_ ?_
      · cases xa
        · exact Or.inr ⟨by rfl, rfl⟩
        · (refine Or.inl ⟨by rfl, ?_⟩; intro w' hSw; have s3 := hSw.get 3 (.bool aa) rfl; clear hSw; simp only [cond_true]; go_simp; try with_reducible rfl)
      simp only [Act.put, List.setIfInBounds_toArray, List.set_cons_zero, List.set_cons_succ]
      refine tail_read 23 (oi := ⟨some 40, _, _, _, _, _⟩) (v := .bool (xa && aa)) rfl (by kernel_rfl) (by kernel_rfl) (by kernel_rfl) (by kernel_rfl) (fun _ _ _ h => h) hS ?_ ?_
      · (cases xa <;> (refine Or.inl ⟨by rfl, ?_⟩; intro w' hSw; clear hSw; rfl))
      simp only [Act.put, List.setIfInBounds_toArray, List.set_cons_zero, List.set_cons_succ]
      refine tail_read 24 (oi := ⟨some 41, _, _, _, _, _⟩) (v := ?_) rfl (by kernel_rfl) (by kernel_rfl) (by kernel_rfl) (by kernel_rfl) (fun _ _ _ h => h) hS (Or.inl ⟨by rfl, ?_⟩) ?_
      rotate_left
      · (intro w' hSw; clear hSw; go_simp; try with_reducible rfl)
      simp only [Act.put, List.setIfInBounds_toArray, List.set_cons_zero, List.set_cons_succ]
      refine tail_take 25 (oi := ⟨some 42, _, _, _, _, _⟩) (v := .bool xn) rfl (by kernel_rfl) (by kernel_rfl) (by kernel_rfl) (by kernel_rfl) (fun _ _ _ h => h) hS (Or.inl ⟨by rfl, ?_⟩) ?_
      · (intro w' hSw; have s4 := hSw.get 4 (.bool xn) rfl; clear hSw; go_simp; try with_reducible rfl)
      simp only [Act.put, List.setIfInBounds_toArray, List.set_cons_zero, List.set_cons_succ]
      refine tail_read 26 (oi := ⟨some 43, _, _, _, _, _⟩) (v := ?_) rfl (by kernel_rfl) (by kernel_rfl) (by kernel_rfl) (by kernel_rfl) (fun _ _ _ h => h) hS (Or.inl ⟨by rfl, ?_⟩) ?_
      rotate_left
      · (intro w' hSw; clear hSw; go_simp; try with_reducible rfl)
      simp only [Act.put, List.setIfInBounds_toArray, List.set_cons_zero, List.set_cons_succ]
      refine tail_read 27 (oi := ⟨some 44, _, _, _, _, _⟩) (v := bif xn then undef else .pointer (some ⟨G, 4, none⟩)) rfl (by kernel_rfl) (by kernel_rfl) (by kernel_rfl) (by kernel_rfl) (fun _ _ _ h => h) hS ?_ ?_
      · cases xn
        · (refine Or.inl ⟨by rfl, ?_⟩; intro w' hSw; have s4 := hSw.get 4 (.bool an) rfl; clear hSw; simp only [cond_false]; go_simp; try with_reducible rfl)
        · exact Or.inr ⟨by rfl, rfl⟩
      simp only [Act.put, List.setIfInBounds_toArray, List.set_cons_zero, List.set_cons_succ]
      refine tail_read 28 (oi := ⟨some 45, _, _, _, _, _⟩) (v := bif xn then undef else .bool an) rfl (by kernel_rfl) (by kernel_rfl) (by kernel_rfl) (by kernel_rfl) (fun _ _ _ h => h) hS ?_ ?_
      · cases xn
        · (refine Or.inl ⟨by rfl, ?_⟩; intro w' hSw; have s4 := hSw.get 4 (.bool an) rfl; clear hSw; simp only [cond_false]; go_simp; try with_reducible rfl)
        · exact Or.inr ⟨by rfl, rfl⟩
      simp only [Act.put, List.setIfInBounds_toArray, List.set_cons_zero, List.set_cons_succ]
      refine tail_read 29 (oi := ⟨some 46, _, _, _, _, _⟩) (v := .bool (xn || an)) rfl (by kernel_rfl) (by kernel_rfl) (by kernel_rfl) (by kernel_rfl) (fun _ _ _ h => h) hS ?_ ?_
      · (cases xn <;> (refine Or.inl ⟨by rfl, ?_⟩; intro w' hSw; clear hSw; rfl))
      simp only [Act.put, List.setIfInBounds_toArray, List.set_cons_zero, List.set_cons_succ]
      refine tail_read 30 (oi := ⟨some 47, _, _, _, _, _⟩) (v := ?_) rfl (by kernel_rfl) (by kernel_rfl) (by kernel_rfl) (by kernel_rfl) (fun _ _ _ h => h) hS (Or.inl ⟨by rfl, ?_⟩) ?_
      rotate_left
      · (intro w' hSw; clear hSw; go_simp; try with_reducible rfl)
      simp only [Act.put, List.setIfInBounds_toArray, List.set_cons_zero, List.set_cons_succ]
      have c0 := hS.2
      have e0 := hS.1
      have r0 := R2.out.drew
      have b0 := Below.drew B2.out
      obtain ⟨V0, hV0⟩ : ∃ V0, V0 = W2.drew := ⟨_, rfl⟩
      rw [← hV0] at c0 e0 r0 b0 ⊢
      clear hV0 hS R2 X2 Y2 B2
      refine tail_last 31 (by decide) (by kernel_rfl) rfl (fun K hK => ?_)
      have z := c0.free 0
      have q := c0.get 0 (.bool xr) rfl
      go_simp
      have c1 := c0.set 0 (.bool (xr && ar)) #[.bool (xr && ar), .bool xw, .bool xx, .bool xa, .bool xn, .int .i64 xs] rfl
      have e1 := e0.other ⟨w.heap.size + 1, 0, none⟩ (.bool (xr && ar)) (by show G ≠ w.heap.size + 1; omega)
      have r1 := r0.other ⟨w.heap.size + 1, 0, none⟩ (.bool (xr && ar)) (by show w.heap.size ≠ w.heap.size + 1; omega)
      have b1 := Below.setCell b0 (p := ⟨w.heap.size + 1, 0, none⟩) (by show w.heap.size ≤ w.heap.size + 1; omega) (.bool (xr && ar))
      refine hK.out _ _ e1 ?_
      clear hK K z q c0 e0 r0 b0
      try simp only [Act.put, List.setIfInBounds_toArray, List.set_cons_zero, List.set_cons_succ]
      obtain ⟨V1, hV⟩ : ∃ V1, V1 = V0.setCell ⟨w.heap.size + 1, 0, none⟩ (.bool (xr && ar)) := ⟨_, rfl⟩
      rw [← hV] at c1 e1 r1 b1 ⊢
      clear hV
      refine tail_after 32 (by kernel_rfl) (by kernel_rfl) rfl (fun K hK => ?_)
      go_simp
      refine hK.out _ _ e1 ?_
      clear hK K
      try simp only [Act.put, List.setIfInBounds_toArray, List.set_cons_zero, List.set_cons_succ]
      refine tail_last 33 (by decide) (by kernel_rfl) rfl (fun K hK => ?_)
      have z := c1.free 1
      have q := c1.get 1 (.bool xw) rfl
      go_simp
      have c2 := c1.set 1 (.bool (xw && aw)) #[.bool (xr && ar), .bool (xw && aw), .bool xx, .bool xa, .bool xn, .int .i64 xs] rfl
      have e2 := e1.other ⟨w.heap.size + 1, 1, none⟩ (.bool (xw && aw)) (by show G ≠ w.heap.size + 1; omega)
      have r2 := r1.other ⟨w.heap.size + 1, 1, none⟩ (.bool (xw && aw)) (by show w.heap.size ≠ w.heap.size + 1; omega)
      have b2 := Below.setCell b1 (p := ⟨w.heap.size + 1, 1, none⟩) (by show w.heap.size ≤ w.heap.size + 1; omega) (.bool (xw && aw))
      refine hK.out _ _ e2 ?_
      clear hK K z q c1 e1 r1 b1
      try simp only [Act.put, List.setIfInBounds_toArray, List.set_cons_zero, List.set_cons_succ]
      obtain ⟨V2, hV⟩ : ∃ V2, V2 = V1.setCell ⟨w.heap.size + 1, 1, none⟩ (.bool (xw && aw)) := ⟨_, rfl⟩
      rw [← hV] at c2 e2 r2 b2 ⊢
      clear hV
      refine tail_after 34 (by kernel_rfl) (by kernel_rfl) rfl (fun K hK => ?_)
      go_simp
      refine hK.out _ _ e2 ?_
      clear hK K
      try simp only [Act.put, List.setIfInBounds_toArray, List.set_cons_zero, List.set_cons_succ]
      refine tail_last 35 (by decide) (by kernel_rfl) rfl (fun K hK => ?_)
      have z := c2.free 2
      have q := c2.get 2 (.bool xx) rfl
      go_simp
      have c3 := c2.set 2 (.bool (xx && ax)) #[.bool (xr && ar), .bool (xw && aw), .bool (xx && ax), .bool xa, .bool xn, .int .i64 xs] rfl
      have e3 := e2.other ⟨w.heap.size + 1, 2, none⟩ (.bool (xx && ax)) (by show G ≠ w.heap.size + 1; omega)
      have r3 := r2.other ⟨w.heap.size + 1, 2, none⟩ (.bool (xx && ax)) (by show w.heap.size ≠ w.heap.size + 1; omega)
      have b3 := Below.setCell b2 (p := ⟨w.heap.size + 1, 2, none⟩) (by show w.heap.size ≤ w.heap.size + 1; omega) (.bool (xx && ax))
      refine hK.out _ _ e3 ?_
      clear hK K z q c2 e2 r2 b2
      try simp only [Act.put, List.setIfInBounds_toArray, List.set_cons_zero, List.set_cons_succ]
      obtain ⟨V3, hV⟩ : ∃ V3, V3 = V2.setCell ⟨w.heap.size + 1, 2, none⟩ (.bool (xx && ax)) := ⟨_, rfl⟩
      rw [← hV] at c3 e3 r3 b3 ⊢
      clear hV
      refine tail_after 36 (by kernel_rfl) (by kernel_rfl) rfl (fun K hK => ?_)
      go_simp
      refine hK.out _ _ e3 ?_
      clear hK K
      try simp only [Act.put, List.setIfInBounds_toArray, List.set_cons_zero, List.set_cons_succ]
      refine tail_last 37 (by decide) (by kernel_rfl) rfl (fun K hK => ?_)
      have z := c3.free 3
      have q := c3.get 3 (.bool xa) rfl
      go_simp
      have c4 := c3.set 3 (.bool (xa && aa)) #[.bool (xr && ar), .bool (xw && aw), .bool (xx && ax), .bool (xa && aa), .bool xn, .int .i64 xs] rfl
      have e4 := e3.other ⟨w.heap.size + 1, 3, none⟩ (.bool (xa && aa)) (by show G ≠ w.heap.size + 1; omega)
      have r4 := r3.other ⟨w.heap.size + 1, 3, none⟩ (.bool (xa && aa)) (by show w.heap.size ≠ w.heap.size + 1; omega)
      have b4 := Below.setCell b3 (p := ⟨w.heap.size + 1, 3, none⟩) (by show w.heap.size ≤ w.heap.size + 1; omega) (.bool (xa && aa))
      refine hK.out _ _ e4 ?_
      clear hK K z q c3 e3 r3 b3
      try simp only [Act.put, List.setIfInBounds_toArray, List.set_cons_zero, List.set_cons_succ]
      obtain ⟨V4, hV⟩ : ∃ V4, V4 = V3.setCell ⟨w.heap.size + 1, 3, none⟩ (.bool (xa && aa)) := ⟨_, rfl⟩
      rw [← hV] at c4 e4 r4 b4 ⊢
      clear hV
      refine tail_after 38 (by kernel_rfl) (by kernel_rfl) rfl (fun K hK => ?_)
      go_simp
      refine hK.out _ _ e4 ?_
      clear hK K
      try simp only [Act.put, List.setIfInBounds_toArray, List.set_cons_zero, List.set_cons_succ]
      refine tail_last 39 (by decide) (by kernel_rfl) rfl (fun K hK => ?_)
      have z := c4.free 4
      have q := c4.get 4 (.bool xn) rfl
      go_simp
      have c5 := c4.set 4 (.bool (xn || an)) #[.bool (xr && ar), .bool (xw && aw), .bool (xx && ax), .bool (xa && aa), .bool (xn || an), .int .i64 xs] rfl
      have e5 := e4.other ⟨w.heap.size + 1, 4, none⟩ (.bool (xn || an)) (by show G ≠ w.heap.size + 1; omega)
      have r5 := r4.other ⟨w.heap.size + 1, 4, none⟩ (.bool (xn || an)) (by show w.heap.size ≠ w.heap.size + 1; omega)
      have b5 := Below.setCell b4 (p := ⟨w.heap.size + 1, 4, none⟩) (by show w.heap.size ≤ w.heap.size + 1; omega) (.bool (xn || an))
      refine hK.out _ _ e5 ?_
      clear hK K z q c4 e4 r4 b4
      try simp only [Act.put, List.setIfInBounds_toArray, List.set_cons_zero, List.set_cons_succ]
      obtain ⟨V5, hV⟩ : ∃ V5, V5 = V4.setCell ⟨w.heap.size + 1, 4, none⟩ (.bool (xn || an)) := ⟨_, rfl⟩
      rw [← hV] at c5 e5 r5 b5 ⊢
      clear hV
      refine tail_done (by kernel_rfl) ?_
      clear e5
      have C5 := Lib.hid c5
      have R5 := Lib.hid r5
      have B5 := Lib.hid b5
      clear c5 r5 b5
      go_wp2
      go_roundw
      case rel =>
        refine ⟨k + 1, by omega, by go_num, ?_, by rw [HNX.out]; exact C5.out, ?_⟩
        · show BoxAt _ _ _ _
          repeat' (first | with_reducible exact R5.out | with_reducible refine BoxAt.other ?_ _ _ (by show w.heap.size ≠ w.heap.size + 1; omega) | with_reducible refine BoxAt.drew ?_)
        · show Below _ _ _
          repeat' (first | with_reducible exact B5.out | with_reducible refine Below.setCell ?_ (by show w.heap.size ≤ w.heap.size + 1; omega) _ | with_reducible refine Below.drew ?_)
      case measure => simp [intOf]; omega
    · have hk2 : k = n := by omega
      subst hk2
      rw [HN.out, List.take_length] at X1
      obtain ⟨x0, hx0⟩ : ∃ x0, bothL L = x0 := ⟨_, rfl⟩
      rw [hx0] at X1
      have HX0 := Lib.hid hx0
      clear hx0
      obtain ⟨xr, xw, xx, xa, xn, xs⟩ := x0
      have X1 : Hid (BoxAt wr (w.heap.size + 1) #[.bool xr, .bool xw, .bool xx, .bool xa, .bool xn, .int .i64 xs] 34) := X1
      have Xc0 := X1.out.get 0 (.bool xr) rfl
      have Rc0 := R1.out.get 0 (.bool false) rfl
      have Rz0 := R1.out.free 0
      have Xc1 := X1.out.get 1 (.bool xw) rfl
      have Rc1 := R1.out.get 1 (.bool false) rfl
      have Rz1 := R1.out.free 1
      have Xc2 := X1.out.get 2 (.bool xx) rfl
      have Rc2 := R1.out.get 2 (.bool false) rfl
      have Rz2 := R1.out.free 2
      have Xc3 := X1.out.get 3 (.bool xa) rfl
      have Rc3 := R1.out.get 3 (.bool false) rfl
      have Rz3 := R1.out.free 3
      have Xc4 := X1.out.get 4 (.bool xn) rfl
      have Rc4 := R1.out.get 4 (.bool false) rfl
      have Rz4 := R1.out.free 4
      have Xc5 := X1.out.get 5 (.int .i64 xs) rfl
      have Rc5 := R1.out.get 5 (.int .i64 0) rfl
      have Rz5 := R1.out.free 5
      go_wp2
      refine bodyPost_ret (v := .agg #[.bool xr, .bool xw, .bool xx, .bool xa, .bool xn, .int .i64 xs]) (by simp [results, Tryz.results35, go_sem, Rc0, Rc1, Rc2, Rc3, Rc4, Rc5]) rfl ⟨by rw [HX0.out]; rfl, ?_⟩
      repeat' (first | with_reducible exact B1.out | with_reducible refine Below.setCell ?_ (by first | (simp; done) | (simp; omega)) _)
end Go.Proofs.YtpelolokdmfbdaaGreat
