/- The landed package syn: contracts. -/
import Derived.Test.YtpelolokdmfbdaaYb
import Derived.Test.YtpelolokdmfbdaaRd
import Derived.Test.YtpelolokdmfbdaaRh
namespace Go.Proofs.Ytpelolokdmfbdaa
open Go.ChangeShapes Go.WideShapes Go.ChangeAt Go.RowKit Go.Deep

theorem yupTo_any (p m : Int) (w : World) :
    Calls Try.prog 23 #[.int .i64 p, .int .i64 m] w fun e w' => e = .returned (.bool (numB p m)) ∧ w = w' := by
  go_enter Try.func23, Try.ntmps23
  go_wp2
  all_goals
    go_ret
    refine ⟨ret_bool ?_, rfl⟩
    unfold numB
    rw [Bool.eq_iff_iff]
    simp
    omega
theorem ymayBe_any (k st lv : Int) (wk : Bool) (p : Int) (w : World) :
    Calls Try.prog 13 #[.agg #[.int .i64 k, .int .i64 st, .int .i64 lv, .bool wk, .int .i64 p]] w fun e w' => e = .returned (.bool (maySy ⟨k, st, lv, wk, p⟩)) ∧ Below w.heap.size w w' := by
  have H1 := Lib.hid (fun W => yupTo_any k 4 W)
  have H2 := Lib.hid (fun W => yupTo_any st 2 W)
  have H3 := Lib.hid (fun W => yupTo_any lv 3 W)
  have H4 := Lib.hid (fun W => yupTo_any p 4095 W)
  unfold maySy
  simp only
  generalize numB k 4 = a at *
  generalize numB st 2 = b at *
  generalize numB lv 3 = c at *
  generalize numB p 4095 = d at *
  cases a
  · go_enter Try.func13, Try.ntmps13
    go_wp2_with fail
    refine (H1.out _).mono ?_
    rintro e w1 ⟨rfl, rfl⟩
    go_wp2
    go_ret
    exact ⟨rfl, by go_grown⟩
  · skip
    cases b
    · go_enter Try.func13, Try.ntmps13
      go_wp2_with fail
      refine (H1.out _).mono ?_
      rintro e w1 ⟨rfl, rfl⟩
      go_wp2_with fail
      refine (H2.out _).mono ?_
      rintro e w2 ⟨rfl, rfl⟩
      go_wp2
      go_ret
      exact ⟨rfl, by go_grown⟩
    · skip
      cases c
      · go_enter Try.func13, Try.ntmps13
        go_wp2_with fail
        refine (H1.out _).mono ?_
        rintro e w1 ⟨rfl, rfl⟩
        go_wp2_with fail
        refine (H2.out _).mono ?_
        rintro e w2 ⟨rfl, rfl⟩
        go_wp2_with fail
        refine (H3.out _).mono ?_
        rintro e w3 ⟨rfl, rfl⟩
        go_wp2
        go_ret
        exact ⟨rfl, by go_grown⟩
      · skip
        go_enter Try.func13, Try.ntmps13
        go_wp2_with fail
        refine (H1.out _).mono ?_
        rintro e w1 ⟨rfl, rfl⟩
        go_wp2_with fail
        refine (H2.out _).mono ?_
        rintro e w2 ⟨rfl, rfl⟩
        go_wp2_with fail
        refine (H3.out _).mono ?_
        rintro e w3 ⟨rfl, rfl⟩
        go_wp2_with fail
        refine (H4.out _).mono ?_
        rintro e w4 ⟨rfl, rfl⟩
        go_wp2
        go_ret
        exact ⟨rfl, by go_grown⟩
theorem ywalk_any (k st lv : Int) (wk : Bool) (p : Int) (w : World) :
    Calls Try.prog 30 #[.agg #[.int .i64 k, .int .i64 st, .int .i64 lv, .bool wk, .int .i64 p]] w fun e w' => e = .returned (.int .u64 (u (bitFl 7 wk).v)) ∧ Below w.heap.size w w' := by
  have h1 : u (bitFl 7 true).v = 1 := by show u 1#64 = 1; decide
  have h0 : u (bitFl 7 false).v = 0 := by show u 0#64 = 0; decide
  cases wk
  · rw [h0]
    clear h1 h0
    go_enter Try.func30, Try.ntmps30
    go_wp2
    go_ret
    exact ⟨rfl, by go_grown⟩
  · rw [h1]
    clear h1 h0
    go_enter Try.func30, Try.ntmps30
    go_wp2
    go_ret
    exact ⟨rfl, by go_grown⟩
theorem ybits_any (k st lv : Int) (wk : Bool) (p : Int) (v : BitVec 64) (o m : Int) (w : World) (h : okB o m = true) (hm : m ≤ 12) :
    Calls Try.prog 28 #[.agg #[.int .i64 k, .int .i64 st, .int .i64 lv, .bool wk, .int .i64 p, .int .u64 (u v)], .int .i64 o, .int .i64 m] w fun e w' => e = .returned (.int .i64 (getN v o m)) ∧ Below w.heap.size w w' := by
  obtain ⟨h0, h1, h2⟩ := okB_true h
  have hb := getN_bd v o m (by omega) hm
  have HG := Lib.hid (fun W => get_yes v o m W h)
  have he : u (v >>> o.toNat &&& msk m) = getN v o m := rfl
  rw [he] at HG
  clear he h h0 h1 h2
  generalize getN v o m = g at *
  obtain ⟨hb0, hb1⟩ := hb
  go_enter Try.func28, Try.ntmps28
  go_wp2_with fail
  refine (HG.out _).mono ?_
  rintro e w' ⟨rfl, rfl⟩
  go_wp2
  go_ret
  exact ⟨rfl, by go_grown⟩
set_option maxRecDepth 100000 in
set_option maxHeartbeats 1600000 in
theorem yfields_any (k st lv : Int) (wk : Bool) (p : Int) (w : World) :
    Calls Try.prog 25 #[.agg #[.int .i64 k, .int .i64 st, .int .i64 lv, .bool wk, .int .i64 p]] w (EndL w (synL ⟨k, st, lv, wk, p⟩)) := by
  have HK := Lib.hid (fun W => ywalk_any k st lv wk p W)
  have hv0 : IntKind.u64.wrap k = u (numFl 0 3 k).v := u_conv k
  have hv1 : IntKind.u64.wrap st = u (numFl 3 2 st).v := u_conv st
  have hv2 : IntKind.u64.wrap lv = u (numFl 5 2 lv).v := u_conv lv
  have hv3 : IntKind.u64.wrap p = u (numFl 8 12 p).v := u_conv p
  have X0 := BoxAt.new w #[.int .i64 k, .int .i64 st, .int .i64 lv, .bool wk, .int .i64 p] 43
  have x0 := X0.get 0 (.int .i64 k) rfl
  have x1 := X0.get 1 (.int .i64 st) rfl
  have x2 := X0.get 2 (.int .i64 lv) rfl
  have x3 := X0.get 3 (.bool wk) rfl
  have x4 := X0.get 4 (.int .i64 p) rfl
  clear X0
  go_enter Try.func25, Try.ntmps25
  go_wp2
  go_region_held3 (fun w' => w'.cell? ⟨w.heap.size, 0, none⟩ = some (.int .i64 k) ∧ w'.cell? ⟨w.heap.size, 1, none⟩ = some (.int .i64 st) ∧ w'.cell? ⟨w.heap.size, 2, none⟩ = some (.int .i64 lv) ∧ w'.cell? ⟨w.heap.size, 3, none⟩ = some (.bool wk) ∧ w'.cell? ⟨w.heap.size, 4, none⟩ = some (.int .i64 p))
    (first | go_keep | (refine ⟨?_, ?_, ?_, ?_, ?_⟩ <;> (repeat (first | with_reducible assumption | with_reducible refine kc_alloc ?_ _ | with_reducible refine kc_drew ?_ | (refine kc_below (by assumption) ?_)))))
    ((go_at_call 30; refine (HK.out _).mono ?_; rintro e w1 ⟨rfl, hb1⟩))
  go_wp2
  refine bodyPost_ret (v := .slice (some ⟨w1.heap.size, 0, none⟩) 5 5) (by simp [results, Try.results25, go_sem]) rfl ?_
  have HB1 := bel_trans (Below.drew (bel_alloc (Below.refl w.heap.size w) (.cells #[.int .i64 k, .int .i64 st, .int .i64 lv, .bool wk, .int .i64 p] 43))) hb1
  exact ⟨w1.heap.size, 5, rfl, OwnL.made w1 w.heap.size 5 (synL ⟨k, st, lv, wk, p⟩) #[.int .i64 0, .int .i64 3, .int .u64 (u (numFl 0 3 k).v), .int .i64 3, .int .i64 2, .int .u64 (u (numFl 3 2 st).v), .int .i64 5, .int .i64 2, .int .u64 (u (numFl 5 2 lv).v), .int .i64 7, .int .i64 1, .int .u64 (u (bitFl 7 wk).v), .int .i64 8, .int .i64 12, .int .u64 (u (numFl 8 12 p).v)] HB1.size rfl (by decide) rfl, bel_alloc HB1 _⟩
theorem yword_any (k st lv : Int) (wk : Bool) (p : Int) (w : World) :
    Calls Try.prog 14 #[.agg #[.int .i64 k, .int .i64 st, .int .i64 lv, .bool wk, .int .i64 p]] w fun e w' => e = .returned (.int .u64 (u (wordSy ⟨k, st, lv, wk, p⟩))) ∧ Below w.heap.size w w' := by
  have HF := Lib.hid (fun W => yfields_any k st lv wk p W)
  have HS := Lib.hid (synL_small ⟨k, st, lv, wk, p⟩)
  have hl : (synL ⟨k, st, lv, wk, p⟩).length = 5 := rfl
  have hw : wordSy ⟨k, st, lv, wk, p⟩ = (layR (nth (synL ⟨k, st, lv, wk, p⟩)) (synL ⟨k, st, lv, wk, p⟩).length).2.1 := rfl
  rw [hw]
  clear hw
  generalize synL ⟨k, st, lv, wk, p⟩ = L at *
  have HJ := Lib.hid (fun g c W (h : FldsAt W (some ⟨g, 0, none⟩) L.length (nth L)) => join_any (some ⟨g, 0, none⟩) L.length c (nth L) W (by omega) h)
  clear hl
  generalize layR (nth L) L.length = q at HJ ⊢
  obtain ⟨q0, q1, q2⟩ := q
  simp only at HJ ⊢
  go_enter Try.func14, Try.ntmps14
  go_wp2_with fail
  refine (HF.out _).mono ?_
  rintro e w1 ⟨g, c, rfl, hO, hb⟩
  have HB := Lib.hid hb
  have HX := Lib.hid (hO.flds HS.out)
  clear hb hO HF
  go_wp2_with fail
  refine (HJ.out _ _ _ HX.out).mono ?_
  rintro e w2 ⟨rfl, hb2⟩
  go_wp2
  go_ret
  exact ⟨rfl, bel_trans (bel_trans (bel_alloc (Below.refl _ _) _) HB.out) hb2⟩
set_option maxRecDepth 100000 in
theorem ywhole_any (k st lv : Int) (wk : Bool) (p : Int) (v : BitVec 64) (w : World) :
    Calls Try.prog 20 #[.agg #[.int .i64 k, .int .i64 st, .int .i64 lv, .bool wk, .int .i64 p, .int .u64 (u v)]] w fun e w' => e = .returned (.bool (maySy ⟨k, st, lv, wk, p⟩ && decide (wordSy ⟨k, st, lv, wk, p⟩ = v))) ∧ Below w.heap.size w w' := by
  have HM := Lib.hid (fun W => ymayBe_any k st lv wk p W)
  have HW := Lib.hid (fun W => yword_any k st lv wk p W)
  generalize wordSy ⟨k, st, lv, wk, p⟩ = q at *
  rw [← u_beq]
  have X0 := Lib.hid (BoxAt.new w #[.int .i64 k, .int .i64 st, .int .i64 lv, .bool wk, .int .i64 p, .int .u64 (u v)] 54)
  generalize maySy ⟨k, st, lv, wk, p⟩ = m at *
  have X1 := X0.out
  have x0 := X1.get 0 (.int .i64 k) rfl
  have x1 := X1.get 1 (.int .i64 st) rfl
  have x2 := X1.get 2 (.int .i64 lv) rfl
  have x3 := X1.get 3 (.bool wk) rfl
  have x4 := X1.get 4 (.int .i64 p) rfl
  have x5 := X1.get 5 (.int .u64 (u v)) rfl
  clear X0 X1
  cases m
  · have htw : w.heap.size ≤ w.heap.size := Nat.le_refl _
    have B0 := Lib.hid (Below.refl w.heap.size w)
    clear x0 x1 x2 x3 x4 x5 HW
    go_enter Try.func20, Try.ntmps20
    go_upto_region 1 with fail
    have X1 := Lib.hid ((BoxAt.newAt (w) #[.int .i64 k, .int .i64 st, .int .i64 lv, .bool wk, .int .i64 p, .int .u64 (u v)] 54 (w.heap.size) (by first | omega | (simp; done) | (simp; omega))))
    have B1 := Lib.hid ((bel_alloc B0.out (.cells #[.int .i64 k, .int .i64 st, .int .i64 lv, .bool wk, .int .i64 p, .int .u64 (u v)] 54)))
    obtain ⟨g1, hg1⟩ : ∃ g1, g1 = w.heap.size := ⟨_, rfl⟩
    obtain ⟨W1, hW1⟩ : ∃ W1, W1 = (w).alloc (.cells #[.int .i64 k, .int .i64 st, .int .i64 lv, .bool wk, .int .i64 p, .int .u64 (u v)] 54) := ⟨_, rfl⟩
    have hs1 : g1 + 1 ≤ W1.heap.size := by rw [hW1, hg1]; simp
    rw [← hW1] at X1 B1 ⊢
    have hb1 : w.heap.size ≤ g1 := by omega
    rw [← hg1] at X1 ⊢
    clear hg1
    clear hW1 B0
    refine wp_region_held_drew (S := (fun w' => BoxAt w' (g1) #[.int .i64 k, .int .i64 st, .int .i64 lv, .bool wk, .int .i64 p, .int .u64 (u v)] 54)) (by kernel_rfl) (X1.out.drew) (fun hS => ?_)
    refine tkR 0 3 (v := .pointer (some ⟨g1, 0, none⟩)) rfl hS (fun _ _ => by kernel_rfl) ?_
    refine tkR 1 4 (v := .agg #[.int .i64 k, .int .i64 st, .int .i64 lv, .bool wk, .int .i64 p]) rfl hS (fun _ h => run_ldN 43 (.tmp 3) g1 0 (by kernel_rfl) (by kernel_rfl) Try.underlying43 rfl (by kernel_rfl) ((h).sub 0 _ rfl)) ?_
    try simp only [Act.put, List.setIfInBounds_toArray, List.set_cons_zero, List.set_cons_succ]
    refine wpAnyH_ready (rs := [2]) (by kernel_rfl) (by simp) ?_
    refine AllReadyH.cons (o := ⟨some 5, _, _, _, _, _⟩) rfl (fun K hK => ?_) AllReadyH.nil
    go_simp
    refine (HM.out _).mono ?_
    rintro e w2 ⟨rfl, hb2⟩
    have hz2 := hb2.size
    simp at hz2
    refine hK.out _ _ ?_ (fun hS' => ?_)
    · exact (hS.below hb2)
    clear hK K hS
    have hS := hS'
    clear hS'
    try simp only [Act.put, List.setIfInBounds_toArray, List.set_cons_zero, List.set_cons_succ]
    refine tkR 3 6 (v := .bool false) rfl hS (fun _ _ => by kernel_rfl) ?_
    refine wpAnyH_take (i := 4) (oi := ⟨some 7, _, _, _, _, _⟩) (v := undef) rfl (by kernel_rfl) (by kernel_rfl) (by kernel_rfl) (fun _ _ _ h => h) (Or.inr ⟨by rfl, rfl⟩) hS ?_
    simp only [Act.put, List.setIfInBounds_toArray, List.set_cons_zero, List.set_cons_succ]
    refine wpAnyH_take (i := 5) (oi := ⟨some 8, _, _, _, _, _⟩) (v := undef) rfl (by kernel_rfl) (by kernel_rfl) (by kernel_rfl) (fun _ _ _ h => h) (Or.inr ⟨by rfl, rfl⟩) hS ?_
    simp only [Act.put, List.setIfInBounds_toArray, List.set_cons_zero, List.set_cons_succ]
    refine wpAnyH_take (i := 6) (oi := ⟨some 9, _, _, _, _, _⟩) (v := undef) rfl (by kernel_rfl) (by kernel_rfl) (by kernel_rfl) (fun _ _ _ h => h) (Or.inr ⟨by rfl, rfl⟩) hS ?_
    simp only [Act.put, List.setIfInBounds_toArray, List.set_cons_zero, List.set_cons_succ]
    refine wpAnyH_take (i := 7) (oi := ⟨some 10, _, _, _, _, _⟩) (v := undef) rfl (by kernel_rfl) (by kernel_rfl) (by kernel_rfl) (fun _ _ _ h => h) (Or.inr ⟨by rfl, rfl⟩) hS ?_
    simp only [Act.put, List.setIfInBounds_toArray, List.set_cons_zero, List.set_cons_succ]
    refine wpAnyH_take (i := 8) (oi := ⟨some 11, _, _, _, _, _⟩) (v := undef) rfl (by kernel_rfl) (by kernel_rfl) (by kernel_rfl) (fun _ _ _ h => h) (Or.inr ⟨by rfl, rfl⟩) hS ?_
    simp only [Act.put, List.setIfInBounds_toArray, List.set_cons_zero, List.set_cons_succ]
    refine wpAnyH_take (i := 9) (oi := ⟨some 12, _, _, _, _, _⟩) (v := undef) rfl (by kernel_rfl) (by kernel_rfl) (by kernel_rfl) (fun _ _ _ h => h) (Or.inr ⟨by rfl, rfl⟩) hS ?_
    simp only [Act.put, List.setIfInBounds_toArray, List.set_cons_zero, List.set_cons_succ]
    try simp only [Act.put, List.setIfInBounds_toArray, List.set_cons_zero, List.set_cons_succ]
    refine wpAnyH_take (i := 10) (oi := ⟨some 13, _, _, _, _, _⟩) (v := ?_) rfl (by kernel_rfl) (by kernel_rfl) (by kernel_rfl) (fun _ _ _ h => h) (Or.inl ⟨by rfl, ?_⟩) hS ?_
    rotate_left
    · (intro w' hSw; clear hSw; go_simp; try with_reducible rfl)
    simp only [Act.put, List.setIfInBounds_toArray, List.set_cons_zero, List.set_cons_succ]
    refine tkR 11 2 (v := .bool false) rfl hS (fun _ _ => by kernel_rfl) ?_
    refine wpAnyH_done (by kernel_rfl) ?_ _
    try simp only [Act.put, List.setIfInBounds_toArray, List.set_cons_zero, List.set_cons_succ]
    go_wp2
    go_ret
    exact ⟨rfl, (bel_trans (Below.drew B1.out) hb2)⟩
  · go_enter Try.func20, Try.ntmps20
    go_wp2
    go_region_held3 (fun w' => w'.cell? ⟨w.heap.size, 0, none⟩ = some (.int .i64 k) ∧ w'.cell? ⟨w.heap.size, 1, none⟩ = some (.int .i64 st) ∧ w'.cell? ⟨w.heap.size, 2, none⟩ = some (.int .i64 lv) ∧ w'.cell? ⟨w.heap.size, 3, none⟩ = some (.bool wk) ∧ w'.cell? ⟨w.heap.size, 4, none⟩ = some (.int .i64 p) ∧ w'.cell? ⟨w.heap.size, 5, none⟩ = some (.int .u64 (u v)))
      (first | go_keep | (refine ⟨?_, ?_, ?_, ?_, ?_, ?_⟩ <;> (repeat (first | with_reducible assumption | with_reducible refine kc_alloc ?_ _ | with_reducible refine kc_drew ?_ | (refine kc_below (by assumption) ?_)))))
      (first
        | (go_at_call 13; refine (HM.out _).mono ?_; rintro e w1 ⟨rfl, hb1⟩)
        | (go_at_call 14; refine (HW.out _).mono ?_; rintro e w2 ⟨rfl, hb2⟩))
    go_wp2
    go_ret
    exact ⟨rfl, bel_trans (bel_trans (Below.drew (bel_alloc (Below.refl w.heap.size w) _)) hb1) hb2⟩
theorem syWordC : SyWordC := by
  intro t w
  obtain ⟨k, st, lv, wk, p⟩ := t
  unfold fltV
  simp only
  have HM := Lib.hid (fun W => ymayBe_any k st lv wk p W)
  have HW := Lib.hid (fun W => yword_any k st lv wk p W)
  generalize wordSy ⟨k, st, lv, wk, p⟩ = wt at *
  generalize maySy ⟨k, st, lv, wk, p⟩ = m at *
  cases m
  · rw [if_neg (by decide), if_neg (by decide)]
    have h0 : u 0#64 = 0 := by decide
    rw [h0]
    clear h0
    go_enter Try.func5, Try.ntmps5
    go_wp2_with (go_at_call 13; refine (HM.out _).mono ?_; rintro e w1 ⟨rfl, hb1⟩)
    go_ret2
    exact ⟨rfl, bel_trans (by repeat' (first | exact Below.refl _ _ | refine bel_alloc ?_ _)) hb1⟩
  · rw [if_pos rfl, if_pos rfl]
    have X0 := BoxAt.new (w.alloc (.cells #[.int .i64 k, .int .i64 st, .int .i64 lv, .bool wk, .int .i64 p] 28)) #[.int .i64 k, .int .i64 st, .int .i64 lv, .bool wk, .int .i64 p] 43
    rw [show (w.alloc (.cells #[.int .i64 k, .int .i64 st, .int .i64 lv, .bool wk, .int .i64 p] 28)).heap.size = w.heap.size + 1 from by simp] at X0
    have HX := Lib.hid X0
    clear X0
    go_enter Try.func5, Try.ntmps5
    go_wp2_with fail
    refine (HM.out _).mono ?_
    rintro e w1 ⟨rfl, hb1⟩
    have X1 := HX.out.below hb1
    have x0 := X1.get 0 (.int .i64 k) rfl
    have x1 := X1.get 1 (.int .i64 st) rfl
    have x2 := X1.get 2 (.int .i64 lv) rfl
    have x3 := X1.get 3 (.bool wk) rfl
    have x4 := X1.get 4 (.int .i64 p) rfl
    have HB1 := Lib.hid hb1
    clear X1 hb1
    go_wp2_with (go_at_call 14; refine (HW.out _).mono ?_; rintro e w2 ⟨rfl, hb2⟩)
    go_ret2
    exact ⟨rfl, bel_trans (bel_trans (by repeat' (first | exact Below.refl _ _ | refine bel_alloc ?_ _)) HB1.out) hb2⟩
set_option maxHeartbeats 3200000 in
theorem yread_any (v : BitVec 64) (w : World) :
    Calls Try.prog 19 #[.int .u64 (u v)] w fun e w' => e = .returned (.agg #[.int .i64 (readSy v).k, .int .i64 (readSy v).st, .int .i64 (readSy v).lv, .bool (readSy v).w, .int .i64 (readSy v).p, .int .u64 (u v)]) ∧ Below w.heap.size w w' := by
  have H0 := Lib.hid (fun k st lv wk p W => ybits_any k st lv wk p v 0 3 W (by decide) (by decide))
  have H1 := Lib.hid (fun k st lv wk p W => ybits_any k st lv wk p v 3 2 W (by decide) (by decide))
  have H2 := Lib.hid (fun k st lv wk p W => ybits_any k st lv wk p v 5 2 W (by decide) (by decide))
  have H3 := Lib.hid (fun k st lv wk p W => ybits_any k st lv wk p v 7 1 W (by decide) (by decide))
  have H4 := Lib.hid (fun k st lv wk p W => ybits_any k st lv wk p v 8 12 W (by decide) (by decide))
  have he : readSy v = ⟨getN v 0 3, getN v 3 2, getN v 5 2, getN v 7 1 == 1, getN v 8 12⟩ := by unfold readSy flagW; rw [beq_int]
  rw [he]
  clear he
  simp only
  generalize getN v 0 3 = g0 at *
  generalize getN v 3 2 = g1 at *
  generalize getN v 5 2 = g2 at *
  generalize getN v 7 1 = g3 at *
  generalize getN v 8 12 = g4 at *
  obtain ⟨W0, hW0⟩ : ∃ W0, W0 = w.alloc (.cells #[.int .i64 0, .int .i64 0, .int .i64 0, .bool false, .int .i64 0, .int .u64 0] 54) := ⟨_, rfl⟩
  have HB0 := bel_alloc (Below.refl w.heap.size w) (.cells #[.int .i64 0, .int .i64 0, .int .i64 0, .bool false, .int .i64 0, .int .u64 0] 54)
  have A0 := Lib.hid ((BoxAt.new w #[.int .i64 0, .int .i64 0, .int .i64 0, .bool false, .int .i64 0, .int .u64 0] 54).alloc (.cells #[.int .i64 0, .int .i64 0, .int .i64 0, .bool false, .int .i64 0, .int .u64 (u v)] 54))
  have hsz : W0.heap.size = w.heap.size + 1 := by rw [hW0]; simp
  have R0 := Lib.hid (BoxAt.new W0 #[.int .i64 0, .int .i64 0, .int .i64 0, .bool false, .int .i64 0, .int .u64 (u v)] 54)
  rw [hsz, hW0] at R0
  rw [← hW0] at HB0
  have B0 := Lib.hid (bel_alloc HB0 (.cells #[.int .i64 0, .int .i64 0, .int .i64 0, .bool false, .int .i64 0, .int .u64 (u v)] 54))
  rw [hW0] at B0
  clear hsz hW0 W0 HB0
  go_enter Try.func19, Try.ntmps19
  go_wp2_with fail
  refine (H0.out _ _ _ _ _ _).mono ?_
  rintro e w1 ⟨rfl, hb1⟩
  have A1 := Lib.hid (A0.out.below hb1)
  have R1 := R0.out.below hb1
  have B1 := Lib.hid (bel_trans B0.out hb1)
  clear A0 R0 B0 hb1
  have r0 := R1.get 0 (.int .i64 0) rfl
  have r1 := R1.get 1 (.int .i64 0) rfl
  have r2 := R1.get 2 (.int .i64 0) rfl
  have r3 := R1.get 3 (.bool false) rfl
  have r4 := R1.get 4 (.int .i64 0) rfl
  have r5 := R1.get 5 (.int .u64 (u v)) rfl
  have z0 := R1.free 0
  have R2 := Lib.hid (R1.set 0 (.int .i64 g0) #[.int .i64 g0, .int .i64 0, .int .i64 0, .bool false, .int .i64 0, .int .u64 (u v)] rfl)
  have A2 := Lib.hid (A1.out.other ⟨w.heap.size + 1, 0, none⟩ (.int .i64 g0) (by simp))
  have B2 := Lib.hid (Below.setCell B1.out (p := ⟨w.heap.size + 1, 0, none⟩) (by simp) (.int .i64 g0))
  clear R1 A1 B1
  go_wp2_with fail
  refine (H1.out _ _ _ _ _ _).mono ?_
  rintro e w2 ⟨rfl, hb2⟩
  clear r0 r1 r2 r3 r4 r5 z0
  have A3 := Lib.hid (A2.out.below hb2)
  have R3 := R2.out.below hb2
  have B3 := Lib.hid (bel_trans B2.out hb2)
  clear A2 R2 B2 hb2
  have r0 := R3.get 0 (.int .i64 g0) rfl
  have r1 := R3.get 1 (.int .i64 0) rfl
  have r2 := R3.get 2 (.int .i64 0) rfl
  have r3 := R3.get 3 (.bool false) rfl
  have r4 := R3.get 4 (.int .i64 0) rfl
  have r5 := R3.get 5 (.int .u64 (u v)) rfl
  have z1 := R3.free 1
  have R4 := Lib.hid (R3.set 1 (.int .i64 g1) #[.int .i64 g0, .int .i64 g1, .int .i64 0, .bool false, .int .i64 0, .int .u64 (u v)] rfl)
  have A4 := Lib.hid (A3.out.other ⟨w.heap.size + 1, 1, none⟩ (.int .i64 g1) (by simp))
  have B4 := Lib.hid (Below.setCell B3.out (p := ⟨w.heap.size + 1, 1, none⟩) (by simp) (.int .i64 g1))
  clear R3 A3 B3
  go_wp2_with fail
  refine (H2.out _ _ _ _ _ _).mono ?_
  rintro e w3 ⟨rfl, hb3⟩
  clear r0 r1 r2 r3 r4 r5 z1
  have A5 := Lib.hid (A4.out.below hb3)
  have R5 := R4.out.below hb3
  have B5 := Lib.hid (bel_trans B4.out hb3)
  clear A4 R4 B4 hb3
  have r0 := R5.get 0 (.int .i64 g0) rfl
  have r1 := R5.get 1 (.int .i64 g1) rfl
  have r2 := R5.get 2 (.int .i64 0) rfl
  have r3 := R5.get 3 (.bool false) rfl
  have r4 := R5.get 4 (.int .i64 0) rfl
  have r5 := R5.get 5 (.int .u64 (u v)) rfl
  have z2 := R5.free 2
  have R6 := Lib.hid (R5.set 2 (.int .i64 g2) #[.int .i64 g0, .int .i64 g1, .int .i64 g2, .bool false, .int .i64 0, .int .u64 (u v)] rfl)
  have A6 := Lib.hid (A5.out.other ⟨w.heap.size + 1, 2, none⟩ (.int .i64 g2) (by simp))
  have B6 := Lib.hid (Below.setCell B5.out (p := ⟨w.heap.size + 1, 2, none⟩) (by simp) (.int .i64 g2))
  clear R5 A5 B5
  go_wp2_with fail
  refine (H3.out _ _ _ _ _ _).mono ?_
  rintro e w4 ⟨rfl, hb4⟩
  clear r0 r1 r2 r3 r4 r5 z2
  have A7 := Lib.hid (A6.out.below hb4)
  have R7 := R6.out.below hb4
  have B7 := Lib.hid (bel_trans B6.out hb4)
  clear A6 R6 B6 hb4
  have r0 := R7.get 0 (.int .i64 g0) rfl
  have r1 := R7.get 1 (.int .i64 g1) rfl
  have r2 := R7.get 2 (.int .i64 g2) rfl
  have r3 := R7.get 3 (.bool false) rfl
  have r4 := R7.get 4 (.int .i64 0) rfl
  have r5 := R7.get 5 (.int .u64 (u v)) rfl
  have z3 := R7.free 3
  have R8 := Lib.hid (R7.set 3 (.bool (g3 == 1)) #[.int .i64 g0, .int .i64 g1, .int .i64 g2, .bool (g3 == 1), .int .i64 0, .int .u64 (u v)] rfl)
  have A8 := Lib.hid (A7.out.other ⟨w.heap.size + 1, 3, none⟩ (.bool (g3 == 1)) (by simp))
  have B8 := Lib.hid (Below.setCell B7.out (p := ⟨w.heap.size + 1, 3, none⟩) (by simp) (.bool (g3 == 1)))
  clear R7 A7 B7
  go_wp2_with fail
  refine (H4.out _ _ _ _ _ _).mono ?_
  rintro e w5 ⟨rfl, hb5⟩
  clear r0 r1 r2 r3 r4 r5 z3
  have A9 := Lib.hid (A8.out.below hb5)
  have R9 := R8.out.below hb5
  have B9 := Lib.hid (bel_trans B8.out hb5)
  clear A8 R8 B8 hb5
  have r0 := R9.get 0 (.int .i64 g0) rfl
  have r1 := R9.get 1 (.int .i64 g1) rfl
  have r2 := R9.get 2 (.int .i64 g2) rfl
  have r3 := R9.get 3 (.bool (g3 == 1)) rfl
  have r4 := R9.get 4 (.int .i64 0) rfl
  have r5 := R9.get 5 (.int .u64 (u v)) rfl
  have z4 := R9.free 4
  have a0 := A9.out.get 0 (.int .i64 0) rfl
  have y0 := A9.out.free 0
  have a1 := A9.out.get 1 (.int .i64 0) rfl
  have y1 := A9.out.free 1
  have a2 := A9.out.get 2 (.int .i64 0) rfl
  have y2 := A9.out.free 2
  have a3 := A9.out.get 3 (.bool false) rfl
  have y3 := A9.out.free 3
  have a4 := A9.out.get 4 (.int .i64 0) rfl
  have y4 := A9.out.free 4
  have a5 := A9.out.get 5 (.int .u64 0) rfl
  have y5 := A9.out.free 5
  clear A9 R9
  go_wp2
  refine bodyPost_ret (v := .agg #[.int .i64 g0, .int .i64 g1, .int .i64 g2, .bool (g3 == 1), .int .i64 g4, .int .u64 (u v)]) (by simp [results, Try.results19, go_sem, a0, a1, a2, a3, a4, a5]) rfl ⟨rfl, ?_⟩
  repeat' (first | with_reducible exact B9.out | with_reducible refine Below.setCell ?_ (by first | (simp; done) | (simp; omega)) _)
theorem syOfC : SyOfC := by
  intro v w
  have HR := Lib.hid (fun W => yread_any v W)
  have HW := Lib.hid (fun W => ywhole_any (readSy v).k (readSy v).st (readSy v).lv (readSy v).w (readSy v).p v W)
  have hw : (maySy ⟨(readSy v).k, (readSy v).st, (readSy v).lv, (readSy v).w, (readSy v).p⟩ && decide (wordSy ⟨(readSy v).k, (readSy v).st, (readSy v).lv, (readSy v).w, (readSy v).p⟩ = v)) = isSy v := rfl
  rw [hw] at HW
  clear hw
  unfold ofSy
  generalize readSy v = r at *
  obtain ⟨k, st, lv, wk, p⟩ := r
  simp only at HR HW
  have A0 := Lib.hid (BoxAt.new w z5 28)
  have B0 := Lib.hid (bel_alloc (Below.refl w.heap.size w) (.cells z5 28))
  cases hi : isSy v
  · rw [hi] at HW
    rw [if_neg (by decide), if_neg (by decide)]
    clear hi
    unfold fltV flt0
    simp only
    go_enter Try.func8, Try.ntmps8
    go_wp2_with fail
    refine (HR.out _).mono ?_
    rintro e w1 ⟨rfl, hb1⟩
    have A1 := A0.out.below hb1
    have A2 := Lib.hid (A1.alloc (.cells #[.int .i64 k, .int .i64 st, .int .i64 lv, .bool wk, .int .i64 p, .int .u64 (u v)] 54))
    have B2 := Lib.hid (bel_alloc (bel_trans B0.out hb1) (.cells #[.int .i64 k, .int .i64 st, .int .i64 lv, .bool wk, .int .i64 p, .int .u64 (u v)] 54))
    clear A0 B0 A1 hb1
    go_wp2_with fail
    refine (HW.out _).mono ?_
    rintro e w2 ⟨rfl, hb2⟩
    have A3 := A2.out.below hb2
    have B3 := Lib.hid (bel_trans B2.out hb2)
    clear A2 B2 hb2
    have a0 := A3.get 0 (.int .i64 0) rfl
    have y0 := A3.free 0
    have a1 := A3.get 1 (.int .i64 0) rfl
    have y1 := A3.free 1
    have a2 := A3.get 2 (.int .i64 0) rfl
    have y2 := A3.free 2
    have a3 := A3.get 3 (.bool false) rfl
    have y3 := A3.free 3
    have a4 := A3.get 4 (.int .i64 0) rfl
    have y4 := A3.free 4
    clear A3
    go_wp2
    refine bodyPost_ret (v := .tuple #[.agg #[.int .i64 0, .int .i64 0, .int .i64 0, .bool false, .int .i64 0], .int .i64 9]) (by simp [results, Try.results8, go_sem, a0, a1, a2, a3, a4]) rfl ⟨rfl, ?_⟩
    repeat' (first | with_reducible exact B3.out | with_reducible refine Below.setCell ?_ (by first | (simp; done) | (simp; omega)) _)
  · rw [hi] at HW
    rw [if_pos rfl, if_pos rfl]
    clear hi
    unfold fltV
    simp only
    go_enter Try.func8, Try.ntmps8
    go_wp2_with fail
    refine (HR.out _).mono ?_
    rintro e w1 ⟨rfl, hb1⟩
    have A1 := A0.out.below hb1
    have A2 := Lib.hid (A1.alloc (.cells #[.int .i64 k, .int .i64 st, .int .i64 lv, .bool wk, .int .i64 p, .int .u64 (u v)] 54))
    have F2 := Lib.hid (BoxAt.new w1 #[.int .i64 k, .int .i64 st, .int .i64 lv, .bool wk, .int .i64 p, .int .u64 (u v)] 54)
    have B2 := Lib.hid (bel_alloc (bel_trans B0.out hb1) (.cells #[.int .i64 k, .int .i64 st, .int .i64 lv, .bool wk, .int .i64 p, .int .u64 (u v)] 54))
    clear A0 B0 A1 hb1
    go_wp2_with fail
    refine (HW.out _).mono ?_
    rintro e w2 ⟨rfl, hb2⟩
    have A3 := A2.out.below hb2
    have F3 := F2.out.below hb2
    have B3 := Lib.hid (bel_trans B2.out hb2)
    clear A2 B2 hb2 F2
    have a0 := A3.get 0 (.int .i64 0) rfl
    have y0 := A3.free 0
    have a1 := A3.get 1 (.int .i64 0) rfl
    have y1 := A3.free 1
    have a2 := A3.get 2 (.int .i64 0) rfl
    have y2 := A3.free 2
    have a3 := A3.get 3 (.bool false) rfl
    have y3 := A3.free 3
    have a4 := A3.get 4 (.int .i64 0) rfl
    have y4 := A3.free 4
    have f0 := F3.get 0 (.int .i64 k) rfl
    have f1 := F3.get 1 (.int .i64 st) rfl
    have f2 := F3.get 2 (.int .i64 lv) rfl
    have f3 := F3.get 3 (.bool wk) rfl
    have f4 := F3.get 4 (.int .i64 p) rfl
    clear A3 F3
    go_wp2
    refine bodyPost_ret (v := .tuple #[.agg #[.int .i64 k, .int .i64 st, .int .i64 lv, .bool wk, .int .i64 p], .int .i64 0]) (by simp [results, Try.results8, go_sem, a0, a1, a2, a3, a4]) rfl ⟨rfl, ?_⟩
    repeat' (first | with_reducible exact B3.out | with_reducible refine Below.setCell ?_ (by first | (simp; done) | (simp; omega)) _)
end Go.Proofs.Ytpelolokdmfbdaa
