/- The reference's Fault, Syn, SynOf; what the program's calls are held against; the argument, opened; wakes. -/
import Derived.Test.YtpelolokdmfbdaaYa
import Derived.Test.YtpelolokdmfbdaaSl
import Derived.Test.YtpelolokdmfbdaaIn
import Derived.Deep.CutBlock
namespace Go.Proofs.Ytpelolokdmfbdaa
open Go.ChangeShapes Go.WideShapes Go.ChangeAt Go.RowKit Go.Deep

theorem rfault_any (k st lv : Int) (wk : Bool) (p : Int) (w : World) :
    Calls Try.prog 6 #[.agg #[.int .i64 k, .int .i64 st, .int .i64 lv, .bool wk, .int .i64 p]] w fun e w' => e = .returned (.bool (maySy ⟨k, st, lv, wk, p⟩)) ∧ Below w.heap.size w w' := by
  have H1 := Lib.hid (fun W => num_any k 4 W)
  have H2 := Lib.hid (fun W => num_any st 2 W)
  have H3 := Lib.hid (fun W => num_any lv 3 W)
  have H4 := Lib.hid (fun W => page_any p W)
  unfold maySy
  simp only
  generalize numB k 4 = a at *
  generalize numB st 2 = b at *
  generalize numB lv 3 = c at *
  generalize numB p 4095 = d at *
  cases a
  · go_enter Try.func6, Try.ntmps6
    go_wp2_with fail
    refine (H1.out _).mono ?_
    rintro e w1 ⟨rfl, rfl⟩
    go_wp2
    go_ret
    exact ⟨rfl, by go_grown⟩
  · skip
    cases b
    · go_enter Try.func6, Try.ntmps6
      go_wp2_with fail
      refine (H1.out _).mono ?_
      rintro e w1 ⟨rfl, rfl⟩
      go_wp2_with fail
      refine (H2.out _).mono ?_
      rintro e w2 ⟨rfl, rfl⟩
      go_wp2
      go_ret
      exact ⟨rfl, by go_grown⟩
    · skip
      cases c
      · go_enter Try.func6, Try.ntmps6
        go_wp2_with fail
        refine (H1.out _).mono ?_
        rintro e w1 ⟨rfl, rfl⟩
        go_wp2_with fail
        refine (H2.out _).mono ?_
        rintro e w2 ⟨rfl, rfl⟩
        go_wp2_with fail
        refine (H3.out _).mono ?_
        rintro e w3 ⟨rfl, rfl⟩
        go_wp2
        go_ret
        exact ⟨rfl, by go_grown⟩
      · go_enter Try.func6, Try.ntmps6
        go_wp2_with fail
        refine (H1.out _).mono ?_
        rintro e w1 ⟨rfl, rfl⟩
        go_wp2_with fail
        refine (H2.out _).mono ?_
        rintro e w2 ⟨rfl, rfl⟩
        go_wp2_with fail
        refine (H3.out _).mono ?_
        rintro e w3 ⟨rfl, rfl⟩
        go_wp2_with fail
        refine (H4.out _).mono ?_
        rintro e w4 ⟨rfl, rfl⟩
        go_wp2
        go_ret
        exact ⟨rfl, by go_grown⟩
theorem rjoin_newS (L : List Fld) (n : Nat) (cs : Array Value) (W : World) (hn : L.length = n) (hl : n ≤ 100) (hc : cs.toList = cellsL L) (hs : SmallL L) (q : BitVec 64 × BitVec 64 × Int) (hq : joinL L = q) :
    Calls Try.prog 17 #[.slice (some ⟨W.heap.size, 0, none⟩) n n] (W.alloc (.cells cs 50)) fun e w' => e = .returned (.tuple #[.int .u64 (u q.2.1), .int .u64 (u q.1), .int .i64 q.2.2]) ∧ Below W.heap.size W w' := by
  subst hq hn
  refine (rjoin_any (some ⟨W.heap.size, 0, none⟩) L.length L.length (nth L) _ (by omega) ((OwnL.made W W.heap.size L.length L cs (Nat.le_refl _) rfl hl hc).flds hs)).mono ?_
  rintro e w' ⟨rfl, hb⟩
  exact ⟨rfl, bel_trans (bel_alloc (Below.refl _ _) _) hb⟩
theorem kcS_below {w w' : World} (hb : Below w.heap.size w w') {b o : Nat} {x : Value} (hc : w.cell? ⟨b, o, none⟩ = some x) : w'.cell? ⟨b, o, none⟩ = some x :=
  (hb.cell (p := ⟨b, o, none⟩) (cell_block hc)).trans hc
theorem kcS_alloc {w : World} {b o : Nat} {x : Value} (h : w.cell? ⟨b, o, none⟩ = some x) (ob : Obj) : (w.alloc ob).cell? ⟨b, o, none⟩ = some x := kcS_below (bel_alloc (Below.refl _ _) ob) h
theorem kcS_drew {w : World} {b o : Nat} {x : Value} (h : w.cell? ⟨b, o, none⟩ = some x) : w.drew.cell? ⟨b, o, none⟩ = some x := h
set_option maxRecDepth 100000 in
set_option maxHeartbeats 3200000 in
theorem rsyn_any (k st lv : Int) (wk : Bool) (p : Int) (w : World) :
    Calls Try.prog 7 #[.agg #[.int .i64 k, .int .i64 st, .int .i64 lv, .bool wk, .int .i64 p]] w fun e w' => e = .returned (.int .u64 (u (wordSy ⟨k, st, lv, wk, p⟩))) ∧ Below w.heap.size w w' := by
  have HS := Lib.hid (synL_small ⟨k, st, lv, wk, p⟩)
  have hq : (joinL (synL ⟨k, st, lv, wk, p⟩)).2.1 = wordSy ⟨k, st, lv, wk, p⟩ := rfl
  rw [← hq]
  clear hq
  obtain ⟨q, hq⟩ : ∃ q, joinL (synL ⟨k, st, lv, wk, p⟩) = q := ⟨_, rfl⟩
  rw [hq]
  have HQ := Lib.hid hq
  clear hq
  have hv0 : IntKind.u64.wrap k = u (numFl 0 3 k).v := u_conv k
  have hv1 : IntKind.u64.wrap st = u (numFl 3 2 st).v := u_conv st
  have hv2 : IntKind.u64.wrap lv = u (numFl 5 2 lv).v := u_conv lv
  have hv3 : IntKind.u64.wrap p = u (numFl 8 12 p).v := u_conv p
  have X0 := BoxAt.new w #[.int .i64 k, .int .i64 st, .int .i64 lv, .bool wk, .int .i64 p] 28
  have x0 := X0.get 0 (.int .i64 k) rfl
  have x1 := X0.get 1 (.int .i64 st) rfl
  have x2 := X0.get 2 (.int .i64 lv) rfl
  have x3 := X0.get 3 (.bool wk) rfl
  have x4 := X0.get 4 (.int .i64 p) rfl
  clear X0
  go_enter Try.func7, Try.ntmps7
  go_wp2
  go_region_held3 (fun w' => w'.cell? ⟨w.heap.size, 0, none⟩ = some (.int .i64 k) ∧ w'.cell? ⟨w.heap.size, 1, none⟩ = some (.int .i64 st) ∧ w'.cell? ⟨w.heap.size, 2, none⟩ = some (.int .i64 lv) ∧ w'.cell? ⟨w.heap.size, 3, none⟩ = some (.bool wk) ∧ w'.cell? ⟨w.heap.size, 4, none⟩ = some (.int .i64 p))
    (first | go_keep | (refine ⟨?_, ?_, ?_, ?_, ?_⟩ <;> (repeat (first | with_reducible assumption | with_reducible refine kcS_alloc ?_ _ | with_reducible refine kcS_drew ?_ | (refine kcS_below (by assumption) ?_)))))
    (first
      | (go_at_call 18; refine (bit_any _ wk _).mono ?_; rintro e w1 ⟨rfl, hb1⟩)
      | (go_at_call 17; refine (rjoin_newS (synL ⟨k, st, lv, wk, p⟩) 5 _ _ rfl (by decide) rfl HS.out q HQ.out).mono ?_; rintro e w2 ⟨rfl, hb2⟩))
  go_wp2
  go_ret
  exact ⟨rfl, bel_trans (bel_trans (Below.drew (bel_alloc (Below.refl w.heap.size w) _)) hb1) hb2⟩
set_option maxHeartbeats 3200000 in
theorem rsynOf_no (v : BitVec 64) (w : World) (hi : maySy (readSy v) = false) :
    Calls Try.prog 9 #[.int .u64 (u v)] w fun e w' => e = .returned (.tuple #[fltV flt0, .bool false]) ∧ Below w.heap.size w w' := by
  have H0 := Lib.hid (fun W => rnumber_any v 0 3 W (by decide) (by decide) (by decide))
  have hb0 := getN_bd v 0 3 (by decide) (by decide)
  have H1 := Lib.hid (fun W => rnumber_any v 3 2 W (by decide) (by decide) (by decide))
  have hb1 := getN_bd v 3 2 (by decide) (by decide)
  have H2 := Lib.hid (fun W => rnumber_any v 5 2 W (by decide) (by decide) (by decide))
  have hb2 := getN_bd v 5 2 (by decide) (by decide)
  have H4 := Lib.hid (fun W => rnumber_any v 8 12 W (by decide) (by decide) (by decide))
  have hb4 := getN_bd v 8 12 (by decide) (by decide)
  have H3 := Lib.hid (fun W => set_any v 7 W (by decide) (by decide))
  have hr : readSy v = ⟨getN v 0 3, getN v 3 2, getN v 5 2, flagW v 7, getN v 8 12⟩ := rfl
  have HM := Lib.hid (fun W => rfault_any (getN v 0 3) (getN v 3 2) (getN v 5 2) (flagW v 7) (getN v 8 12) W)
  rw [← hr, hi] at HM
  clear hr hi
  generalize getN v 0 3 = g0 at *
  obtain ⟨hb0, hc0⟩ := hb0
  generalize getN v 3 2 = g1 at *
  obtain ⟨hb1, hc1⟩ := hb1
  generalize getN v 5 2 = g2 at *
  obtain ⟨hb2, hc2⟩ := hb2
  generalize getN v 8 12 = g4 at *
  obtain ⟨hb4, hc4⟩ := hb4
  generalize flagW v 7 = g3 at *
  unfold fltV flt0
  simp only
  have A0 := Lib.hid (BoxAt.new w z5 28)
  have B0 := Lib.hid (bel_alloc (Below.refl w.heap.size w) (.cells z5 28))
  go_enter Try.func9, Try.ntmps9
  go_wp2_with fail
  refine (H0.out _).mono ?_
  rintro e w1 ⟨rfl, hb1⟩
  have A2 := Lib.hid (A0.out.below hb1)
  have B2 := Lib.hid (bel_trans B0.out hb1)
  clear A0 B0 hb1
  go_wp2_with fail
  refine (H1.out _).mono ?_
  rintro e w3 ⟨rfl, hb3⟩
  have A4 := Lib.hid (A2.out.below hb3)
  have B4 := Lib.hid (bel_trans B2.out hb3)
  clear A2 B2 hb3
  go_wp2_with fail
  refine (H2.out _).mono ?_
  rintro e w5 ⟨rfl, hb5⟩
  have A6 := Lib.hid (A4.out.below hb5)
  have B6 := Lib.hid (bel_trans B4.out hb5)
  clear A4 B4 hb5
  go_wp2_with fail
  refine (H3.out _).mono ?_
  rintro e w7 ⟨rfl, rfl⟩
  go_wp2_with fail
  refine (H4.out _).mono ?_
  rintro e w8 ⟨rfl, hb8⟩
  have A9 := Lib.hid (A6.out.below hb8)
  have B9 := Lib.hid (bel_trans B6.out hb8)
  clear A6 B6 hb8
  go_upto_region 2 with fail
  have A10 := Lib.hid ((A9.out.alloc (.cells #[.int .i64 g0, .int .i64 g1, .int .i64 g2, .bool g3, .int .i64 g4] 28)))
  have F10 := Lib.hid ((BoxAt.newAt (w8) #[.int .i64 g0, .int .i64 g1, .int .i64 g2, .bool g3, .int .i64 g4] 28 (w8.heap.size) (by first | rfl | (simp; done) | (simp; omega))))
  have B10 := Lib.hid ((bel_alloc B9.out (.cells #[.int .i64 g0, .int .i64 g1, .int .i64 g2, .bool g3, .int .i64 g4] 28)))
  clear A9 B9
  obtain ⟨W2, hW2⟩ : ∃ W2, W2 = w8.alloc (.cells #[.int .i64 g0, .int .i64 g1, .int .i64 g2, .bool g3, .int .i64 g4] 28) := ⟨_, rfl⟩
  obtain ⟨bF, hbF⟩ : ∃ bF, bF = w8.heap.size := ⟨_, rfl⟩
  rw [← hW2] at A10 F10 B10 ⊢
  rw [← hbF] at F10 ⊢
  clear hW2 hbF
  have Fc0 := F10.out.get 0 (.int .i64 g0) rfl
  have Fc1 := F10.out.get 1 (.int .i64 g1) rfl
  have Fc2 := F10.out.get 2 (.int .i64 g2) rfl
  have Fc3 := F10.out.get 3 (.bool g3) rfl
  have Fc4 := F10.out.get 4 (.int .i64 g4) rfl
  go_wp2_with fail
  refine (HM.out _).mono ?_
  rintro e w11 ⟨rfl, hb11⟩
  have A12 := Lib.hid (A10.out.below hb11)
  have F12 := Lib.hid (F10.out.below hb11)
  have B12 := Lib.hid (bel_trans B10.out hb11)
  clear Fc0 Fc1 Fc2 Fc3 Fc4
  clear A10 F10 B10 hb11
  have Ac0 := A12.out.get 0 (.int .i64 0) rfl
  have Ac1 := A12.out.get 1 (.int .i64 0) rfl
  have Ac2 := A12.out.get 2 (.int .i64 0) rfl
  have Ac3 := A12.out.get 3 (.bool false) rfl
  have Ac4 := A12.out.get 4 (.int .i64 0) rfl
  have Az0 := A12.out.free 0
  have Az1 := A12.out.free 1
  have Az2 := A12.out.free 2
  have Az3 := A12.out.free 3
  have Az4 := A12.out.free 4
  have Fc0 := F12.out.get 0 (.int .i64 g0) rfl
  have Fc1 := F12.out.get 1 (.int .i64 g1) rfl
  have Fc2 := F12.out.get 2 (.int .i64 g2) rfl
  have Fc3 := F12.out.get 3 (.bool g3) rfl
  have Fc4 := F12.out.get 4 (.int .i64 g4) rfl
  go_wp2
  refine bodyPost_ret (v := .tuple #[.agg #[.int .i64 0, .int .i64 0, .int .i64 0, .bool false, .int .i64 0], .bool false]) (by simp [results, Try.results9, go_sem, Ac0, Ac1, Ac2, Ac3, Ac4]) rfl ⟨rfl, ?_⟩
  repeat' (first | with_reducible exact B12.out | with_reducible refine Below.setCell ?_ (by first | (simp; done) | (simp; omega)) _)
set_option maxHeartbeats 3200000 in
theorem rsynOf_other (v : BitVec 64) (w : World) (hi : maySy (readSy v) = true) (hw : wordSy (readSy v) ≠ v) :
    Calls Try.prog 9 #[.int .u64 (u v)] w fun e w' => e = .returned (.tuple #[fltV flt0, .bool false]) ∧ Below w.heap.size w w' := by
  have H0 := Lib.hid (fun W => rnumber_any v 0 3 W (by decide) (by decide) (by decide))
  have hb0 := getN_bd v 0 3 (by decide) (by decide)
  have H1 := Lib.hid (fun W => rnumber_any v 3 2 W (by decide) (by decide) (by decide))
  have hb1 := getN_bd v 3 2 (by decide) (by decide)
  have H2 := Lib.hid (fun W => rnumber_any v 5 2 W (by decide) (by decide) (by decide))
  have hb2 := getN_bd v 5 2 (by decide) (by decide)
  have H4 := Lib.hid (fun W => rnumber_any v 8 12 W (by decide) (by decide) (by decide))
  have hb4 := getN_bd v 8 12 (by decide) (by decide)
  have H3 := Lib.hid (fun W => set_any v 7 W (by decide) (by decide))
  have hr : readSy v = ⟨getN v 0 3, getN v 3 2, getN v 5 2, flagW v 7, getN v 8 12⟩ := rfl
  have HM := Lib.hid (fun W => rfault_any (getN v 0 3) (getN v 3 2) (getN v 5 2) (flagW v 7) (getN v 8 12) W)
  rw [← hr, hi] at HM
  have HW := Lib.hid (fun W => rsyn_any (getN v 0 3) (getN v 3 2) (getN v 5 2) (flagW v 7) (getN v 8 12) W)
  rw [← hr] at HW
  have hn : (u (wordSy (readSy v)) != u v) = true := by rw [u_bne]; simp [hw]
  generalize wordSy (readSy v) = q at *
  clear hr hi hw
  generalize getN v 0 3 = g0 at *
  obtain ⟨hb0, hc0⟩ := hb0
  generalize getN v 3 2 = g1 at *
  obtain ⟨hb1, hc1⟩ := hb1
  generalize getN v 5 2 = g2 at *
  obtain ⟨hb2, hc2⟩ := hb2
  generalize getN v 8 12 = g4 at *
  obtain ⟨hb4, hc4⟩ := hb4
  generalize flagW v 7 = g3 at *
  unfold fltV flt0
  simp only
  have A0 := Lib.hid (BoxAt.new w z5 28)
  have B0 := Lib.hid (bel_alloc (Below.refl w.heap.size w) (.cells z5 28))
  go_enter Try.func9, Try.ntmps9
  go_wp2_with fail
  refine (H0.out _).mono ?_
  rintro e w1 ⟨rfl, hb1⟩
  have A2 := Lib.hid (A0.out.below hb1)
  have B2 := Lib.hid (bel_trans B0.out hb1)
  clear A0 B0 hb1
  go_wp2_with fail
  refine (H1.out _).mono ?_
  rintro e w3 ⟨rfl, hb3⟩
  have A4 := Lib.hid (A2.out.below hb3)
  have B4 := Lib.hid (bel_trans B2.out hb3)
  clear A2 B2 hb3
  go_wp2_with fail
  refine (H2.out _).mono ?_
  rintro e w5 ⟨rfl, hb5⟩
  have A6 := Lib.hid (A4.out.below hb5)
  have B6 := Lib.hid (bel_trans B4.out hb5)
  clear A4 B4 hb5
  go_wp2_with fail
  refine (H3.out _).mono ?_
  rintro e w7 ⟨rfl, rfl⟩
  go_wp2_with fail
  refine (H4.out _).mono ?_
  rintro e w8 ⟨rfl, hb8⟩
  have A9 := Lib.hid (A6.out.below hb8)
  have B9 := Lib.hid (bel_trans B6.out hb8)
  clear A6 B6 hb8
  go_upto_region 2 with fail
  have A10 := Lib.hid ((A9.out.alloc (.cells #[.int .i64 g0, .int .i64 g1, .int .i64 g2, .bool g3, .int .i64 g4] 28)))
  have F10 := Lib.hid ((BoxAt.newAt (w8) #[.int .i64 g0, .int .i64 g1, .int .i64 g2, .bool g3, .int .i64 g4] 28 (w8.heap.size) (by first | rfl | (simp; done) | (simp; omega))))
  have B10 := Lib.hid ((bel_alloc B9.out (.cells #[.int .i64 g0, .int .i64 g1, .int .i64 g2, .bool g3, .int .i64 g4] 28)))
  clear A9 B9
  obtain ⟨W2, hW2⟩ : ∃ W2, W2 = w8.alloc (.cells #[.int .i64 g0, .int .i64 g1, .int .i64 g2, .bool g3, .int .i64 g4] 28) := ⟨_, rfl⟩
  obtain ⟨bF, hbF⟩ : ∃ bF, bF = w8.heap.size := ⟨_, rfl⟩
  rw [← hW2] at A10 F10 B10 ⊢
  rw [← hbF] at F10 ⊢
  clear hW2 hbF
  have Fc0 := F10.out.get 0 (.int .i64 g0) rfl
  have Fc1 := F10.out.get 1 (.int .i64 g1) rfl
  have Fc2 := F10.out.get 2 (.int .i64 g2) rfl
  have Fc3 := F10.out.get 3 (.bool g3) rfl
  have Fc4 := F10.out.get 4 (.int .i64 g4) rfl
  go_wp2_with fail
  refine (HM.out _).mono ?_
  rintro e w11 ⟨rfl, hb11⟩
  have A12 := Lib.hid (A10.out.below hb11)
  have F12 := Lib.hid (F10.out.below hb11)
  have B12 := Lib.hid (bel_trans B10.out hb11)
  clear Fc0 Fc1 Fc2 Fc3 Fc4
  clear A10 F10 B10 hb11
  have Fc0 := F12.out.get 0 (.int .i64 g0) rfl
  have Fc1 := F12.out.get 1 (.int .i64 g1) rfl
  have Fc2 := F12.out.get 2 (.int .i64 g2) rfl
  have Fc3 := F12.out.get 3 (.bool g3) rfl
  have Fc4 := F12.out.get 4 (.int .i64 g4) rfl
  go_wp2_with fail
  refine (HW.out _).mono ?_
  rintro e w13 ⟨rfl, hb13⟩
  have A14 := Lib.hid (A12.out.below hb13)
  have F14 := Lib.hid (F12.out.below hb13)
  have B14 := Lib.hid (bel_trans B12.out hb13)
  clear Fc0 Fc1 Fc2 Fc3 Fc4
  clear A12 F12 B12 hb13
  have Ac0 := A14.out.get 0 (.int .i64 0) rfl
  have Ac1 := A14.out.get 1 (.int .i64 0) rfl
  have Ac2 := A14.out.get 2 (.int .i64 0) rfl
  have Ac3 := A14.out.get 3 (.bool false) rfl
  have Ac4 := A14.out.get 4 (.int .i64 0) rfl
  have Az0 := A14.out.free 0
  have Az1 := A14.out.free 1
  have Az2 := A14.out.free 2
  have Az3 := A14.out.free 3
  have Az4 := A14.out.free 4
  have Fc0 := F14.out.get 0 (.int .i64 g0) rfl
  have Fc1 := F14.out.get 1 (.int .i64 g1) rfl
  have Fc2 := F14.out.get 2 (.int .i64 g2) rfl
  have Fc3 := F14.out.get 3 (.bool g3) rfl
  have Fc4 := F14.out.get 4 (.int .i64 g4) rfl
  go_wp2
  refine bodyPost_ret (v := .tuple #[.agg #[.int .i64 0, .int .i64 0, .int .i64 0, .bool false, .int .i64 0], .bool false]) (by simp [results, Try.results9, go_sem, Ac0, Ac1, Ac2, Ac3, Ac4]) rfl ⟨rfl, ?_⟩
  repeat' (first | with_reducible exact B14.out | with_reducible refine Below.setCell ?_ (by first | (simp; done) | (simp; omega)) _)
set_option maxHeartbeats 3200000 in
theorem rsynOf_yes (v : BitVec 64) (w : World) (hi : maySy (readSy v) = true) (hw : wordSy (readSy v) = v) :
    Calls Try.prog 9 #[.int .u64 (u v)] w fun e w' => e = .returned (.tuple #[fltV (readSy v), .bool true]) ∧ Below w.heap.size w w' := by
  have H0 := Lib.hid (fun W => rnumber_any v 0 3 W (by decide) (by decide) (by decide))
  have hb0 := getN_bd v 0 3 (by decide) (by decide)
  have H1 := Lib.hid (fun W => rnumber_any v 3 2 W (by decide) (by decide) (by decide))
  have hb1 := getN_bd v 3 2 (by decide) (by decide)
  have H2 := Lib.hid (fun W => rnumber_any v 5 2 W (by decide) (by decide) (by decide))
  have hb2 := getN_bd v 5 2 (by decide) (by decide)
  have H4 := Lib.hid (fun W => rnumber_any v 8 12 W (by decide) (by decide) (by decide))
  have hb4 := getN_bd v 8 12 (by decide) (by decide)
  have H3 := Lib.hid (fun W => set_any v 7 W (by decide) (by decide))
  have hr : readSy v = ⟨getN v 0 3, getN v 3 2, getN v 5 2, flagW v 7, getN v 8 12⟩ := rfl
  have HM := Lib.hid (fun W => rfault_any (getN v 0 3) (getN v 3 2) (getN v 5 2) (flagW v 7) (getN v 8 12) W)
  rw [← hr, hi] at HM
  have HW := Lib.hid (fun W => rsyn_any (getN v 0 3) (getN v 3 2) (getN v 5 2) (flagW v 7) (getN v 8 12) W)
  rw [← hr] at HW
  have hn : (u (wordSy (readSy v)) != u v) = false := by rw [u_bne]; simp [hw]
  generalize wordSy (readSy v) = q at *
  rw [hr]
  clear hr hi hw
  generalize getN v 0 3 = g0 at *
  obtain ⟨hb0, hc0⟩ := hb0
  generalize getN v 3 2 = g1 at *
  obtain ⟨hb1, hc1⟩ := hb1
  generalize getN v 5 2 = g2 at *
  obtain ⟨hb2, hc2⟩ := hb2
  generalize getN v 8 12 = g4 at *
  obtain ⟨hb4, hc4⟩ := hb4
  generalize flagW v 7 = g3 at *
  unfold fltV
  simp only
  have A0 := Lib.hid (BoxAt.new w z5 28)
  have B0 := Lib.hid (bel_alloc (Below.refl w.heap.size w) (.cells z5 28))
  go_enter Try.func9, Try.ntmps9
  go_wp2_with fail
  refine (H0.out _).mono ?_
  rintro e w1 ⟨rfl, hb1⟩
  have A2 := Lib.hid (A0.out.below hb1)
  have B2 := Lib.hid (bel_trans B0.out hb1)
  clear A0 B0 hb1
  go_wp2_with fail
  refine (H1.out _).mono ?_
  rintro e w3 ⟨rfl, hb3⟩
  have A4 := Lib.hid (A2.out.below hb3)
  have B4 := Lib.hid (bel_trans B2.out hb3)
  clear A2 B2 hb3
  go_wp2_with fail
  refine (H2.out _).mono ?_
  rintro e w5 ⟨rfl, hb5⟩
  have A6 := Lib.hid (A4.out.below hb5)
  have B6 := Lib.hid (bel_trans B4.out hb5)
  clear A4 B4 hb5
  go_wp2_with fail
  refine (H3.out _).mono ?_
  rintro e w7 ⟨rfl, rfl⟩
  go_wp2_with fail
  refine (H4.out _).mono ?_
  rintro e w8 ⟨rfl, hb8⟩
  have A9 := Lib.hid (A6.out.below hb8)
  have B9 := Lib.hid (bel_trans B6.out hb8)
  clear A6 B6 hb8
  go_upto_region 2 with fail
  have A10 := Lib.hid ((A9.out.alloc (.cells #[.int .i64 g0, .int .i64 g1, .int .i64 g2, .bool g3, .int .i64 g4] 28)))
  have F10 := Lib.hid ((BoxAt.newAt (w8) #[.int .i64 g0, .int .i64 g1, .int .i64 g2, .bool g3, .int .i64 g4] 28 (w8.heap.size) (by first | rfl | (simp; done) | (simp; omega))))
  have B10 := Lib.hid ((bel_alloc B9.out (.cells #[.int .i64 g0, .int .i64 g1, .int .i64 g2, .bool g3, .int .i64 g4] 28)))
  clear A9 B9
  obtain ⟨W2, hW2⟩ : ∃ W2, W2 = w8.alloc (.cells #[.int .i64 g0, .int .i64 g1, .int .i64 g2, .bool g3, .int .i64 g4] 28) := ⟨_, rfl⟩
  obtain ⟨bF, hbF⟩ : ∃ bF, bF = w8.heap.size := ⟨_, rfl⟩
  rw [← hW2] at A10 F10 B10 ⊢
  rw [← hbF] at F10 ⊢
  clear hW2 hbF
  have Fc0 := F10.out.get 0 (.int .i64 g0) rfl
  have Fc1 := F10.out.get 1 (.int .i64 g1) rfl
  have Fc2 := F10.out.get 2 (.int .i64 g2) rfl
  have Fc3 := F10.out.get 3 (.bool g3) rfl
  have Fc4 := F10.out.get 4 (.int .i64 g4) rfl
  go_wp2_with fail
  refine (HM.out _).mono ?_
  rintro e w11 ⟨rfl, hb11⟩
  have A12 := Lib.hid (A10.out.below hb11)
  have F12 := Lib.hid (F10.out.below hb11)
  have B12 := Lib.hid (bel_trans B10.out hb11)
  clear Fc0 Fc1 Fc2 Fc3 Fc4
  clear A10 F10 B10 hb11
  have Fc0 := F12.out.get 0 (.int .i64 g0) rfl
  have Fc1 := F12.out.get 1 (.int .i64 g1) rfl
  have Fc2 := F12.out.get 2 (.int .i64 g2) rfl
  have Fc3 := F12.out.get 3 (.bool g3) rfl
  have Fc4 := F12.out.get 4 (.int .i64 g4) rfl
  go_wp2_with fail
  refine (HW.out _).mono ?_
  rintro e w13 ⟨rfl, hb13⟩
  have A14 := Lib.hid (A12.out.below hb13)
  have F14 := Lib.hid (F12.out.below hb13)
  have B14 := Lib.hid (bel_trans B12.out hb13)
  clear Fc0 Fc1 Fc2 Fc3 Fc4
  clear A12 F12 B12 hb13
  have Ac0 := A14.out.get 0 (.int .i64 0) rfl
  have Ac1 := A14.out.get 1 (.int .i64 0) rfl
  have Ac2 := A14.out.get 2 (.int .i64 0) rfl
  have Ac3 := A14.out.get 3 (.bool false) rfl
  have Ac4 := A14.out.get 4 (.int .i64 0) rfl
  have Az0 := A14.out.free 0
  have Az1 := A14.out.free 1
  have Az2 := A14.out.free 2
  have Az3 := A14.out.free 3
  have Az4 := A14.out.free 4
  have Fc0 := F14.out.get 0 (.int .i64 g0) rfl
  have Fc1 := F14.out.get 1 (.int .i64 g1) rfl
  have Fc2 := F14.out.get 2 (.int .i64 g2) rfl
  have Fc3 := F14.out.get 3 (.bool g3) rfl
  have Fc4 := F14.out.get 4 (.int .i64 g4) rfl
  go_wp2
  refine bodyPost_ret (v := .tuple #[.agg #[.int .i64 g0, .int .i64 g1, .int .i64 g2, .bool g3, .int .i64 g4], .bool true]) (by simp [results, Try.results9, go_sem, Ac0, Ac1, Ac2, Ac3, Ac4]) rfl ⟨rfl, ?_⟩
  repeat' (first | with_reducible exact B14.out | with_reducible refine Below.setCell ?_ (by first | (simp; done) | (simp; omega)) _)
theorem rsynOf_any (v : BitVec 64) (w : World) (b : Bool) (hi : isSy v = b) (f : Flt) (hf : ofSy v = f) :
    Calls Try.prog 9 #[.int .u64 (u v)] w fun e w' => e = .returned (.tuple #[fltV f, .bool b]) ∧ Below w.heap.size w w' := by
  subst hi hf
  unfold ofSy isSy
  cases h1 : maySy (readSy v)
  · exact rsynOf_no v w h1
  · by_cases h2 : wordSy (readSy v) = v
    · rw [decide_eq_true h2]
      exact rsynOf_yes v w h1 h2
    · rw [decide_eq_false h2]
      exact rsynOf_other v w h1 h2
/-- What the program's calls are held against. -/
def SyWordC : Prop := ∀ (t : Flt) (w : World),
  Calls Try.prog 5 #[fltV t] w fun e w' => e = .returned (.tuple #[.int .u64 (u (if maySy t = true then wordSy t else 0#64)), .int .i64 (if maySy t = true then 0 else 1)]) ∧ Below w.heap.size w w'
def SyOfC : Prop := ∀ (v : BitVec 64) (w : World),
  Calls Try.prog 8 #[.int .u64 (u v)] w fun e w' => e = .returned (.tuple #[fltV (ofSy v), .int .i64 (if isSy v = true then 0 else 9)]) ∧ Below w.heap.size w w'
theorem lnum8_any (n : Int) (w : World) :
    Calls Try.prog 10 #[.int .i64 n] w fun e w' => e = .returned (.int .i64 n) ∧ w = w' := by
  go_enter Try.func10, Try.ntmps10
  go_wp2
  go_ret
  exact ⟨rfl, rfl⟩
theorem wakes8_any (PW : SyWordC) (w : World) :
    Calls Try.prog 11 #[] w fun e w' => e = .returned (.bool true) ∧ Below w.heap.size w w' := by
  have H := Lib.hid (fun W => PW ⟨4, 1, 0, false, 0⟩ W)
  rw [show (if maySy ⟨4, 1, 0, false, 0⟩ = true then wordSy ⟨4, 1, 0, false, 0⟩ else 0#64) = 12#64 from by decide +kernel, show (if maySy ⟨4, 1, 0, false, 0⟩ = true then (0 : Int) else 1) = 0 from by decide +kernel] at H
  unfold fltV at H
  simp only at H
  have hu : u 12#64 = 12 := by decide
  go_enter Try.func11, Try.ntmps11
  go_wp2_with (first | (go_at_call 5; refine (H.out _).mono ?_; rintro e w1 ⟨rfl, hb1⟩) | (go_at_call 10; refine (lnum8_any _ _).mono ?_; rintro e w2 ⟨rfl, rfl⟩))
  go_ret
  exact ⟨rfl, hb1⟩
/-- What a question is. -/
structure Q8 where
  f : Flt
  w : BitVec 64
def ask8V (q : Q8) : Array Value := #[.int .i64 q.f.k, .int .i64 q.f.st, .int .i64 q.f.lv, .bool q.f.w, .int .i64 q.f.p, .int .u64 (u q.w)]
section
variable {H : Type} {enc : TypeId × Value → H} {w : World} {base : Nat} {held : Bool}
theorem c_flt8 : Try.prog.cellsOf 28 = 5 := by kernel_rfl
theorem c_ask8 : Try.prog.cellsOf 30 = 6 := by kernel_rfl
theorem flt_cells8 {n : Nat} {cs : List Value} {y : DataW H × List MemPlace} (hlen : cs.length = 5) (h : DataW.trod enc Try.prog w base (fun _ => true) held n 28 cs = some y) :
    ∃ f : Flt, cs = [.int .i64 f.k, .int .i64 f.st, .int .i64 f.lv, .bool f.w, .int .i64 f.p] := by
  match cs, hlen with
  | [v0, v1, v2, v3, v4], _ =>
    obtain ⟨_, _, t0⟩ := part_of Try.underlying28 h 0 0 1 3 ⟨_, rfl, rfl, rfl⟩ c_int
    obtain ⟨_, _, t1⟩ := part_of Try.underlying28 h 1 1 1 3 ⟨_, rfl, rfl, rfl⟩ c_int
    obtain ⟨_, _, t2⟩ := part_of Try.underlying28 h 2 2 1 3 ⟨_, rfl, rfl, rfl⟩ c_int
    obtain ⟨_, _, t3⟩ := part_of Try.underlying28 h 3 3 1 4 ⟨_, rfl, rfl, rfl⟩ c_bool
    obtain ⟨_, _, t4⟩ := part_of Try.underlying28 h 4 4 1 3 ⟨_, rfl, rfl, rfl⟩ c_int
    obtain ⟨a0, h0, _⟩ := int_cellI t0
    obtain ⟨a1, h1, _⟩ := int_cellI t1
    obtain ⟨a2, h2, _⟩ := int_cellI t2
    obtain ⟨a3, h3⟩ := bool_cells t3
    obtain ⟨a4, h4, _⟩ := int_cellI t4
    simp at h0 h1 h2 h3 h4
    exact ⟨⟨a0, a1, a2, a3, a4⟩, by rw [h0, h1, h2, h3, h4]⟩
theorem ask8_cells {n : Nat} {cs : List Value} {y : DataW H × List MemPlace} (hlen : cs.length = 6) (h : DataW.trod enc Try.prog w base (fun _ => true) held n 30 cs = some y) :
    ∃ q : Q8, cs = (ask8V q).toList ∧ True := by
  match cs, hlen with
  | [v0, v1, v2, v3, v4, v5], _ =>
    obtain ⟨_, _, t0⟩ := part_of Try.underlying30 h 0 0 5 28 ⟨_, rfl, rfl, rfl⟩ c_flt8
    obtain ⟨_, _, t1⟩ := part_of Try.underlying30 h 1 5 1 23 ⟨_, rfl, rfl, rfl⟩ c_word
    obtain ⟨f, h0⟩ := flt_cells8 rfl t0
    obtain ⟨x, h1⟩ := word_cells t1
    simp at h0 h1
    obtain ⟨e0, e1, e2, e3, e4⟩ := h0
    exact ⟨⟨f, x⟩, by rw [h1, e0, e1, e2, e3, e4]; rfl, trivial⟩
theorem asks8 {n : Nat} {c : Value} {y : DataW H × List MemPlace} (h : DataW.trod enc Try.prog w base (fun _ => true) held n 22 [c] = some y) :
    (∃ (a : Option Addr) (cap : Nat), c = .slice a 0 cap) ∨
    ∃ (b o len cap : Nat) (q : Nat → Q8), c = .slice (some ⟨b, o, none⟩) len cap ∧ len ≤ 9223372036854775807 ∧ ∀ i, i < len → RowAt w b (o + i * 6) 6 (ask8V (q i)) ∧ True :=
  rows_of ask8V (fun _ => True) Try.underlying22 c_ask8 (by decide) (fun hl ht => ask8_cells hl ht) h
end
end Go.Proofs.Ytpelolokdmfbdaa
