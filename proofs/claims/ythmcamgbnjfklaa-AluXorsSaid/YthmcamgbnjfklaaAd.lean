/- Stage 12: the walks of its laws. -/
import Derived.Test.YthmcamgbnjfklaaAc
import Derived.Test.YthmcamgbnjfklaaRow
import Derived.Test.YthmcamgbnjfklaaRh
import Derived.Test.YthmcamgbnjfklaaRk
import Derived.Deep.CutBlock
set_option linter.all false
namespace Go.Proofs.Ythmcamgbnjfklaa
open Go.ChangeShapes Go.WideShapes Go.ChangeAt Go.RowKit Go.Deep

theorem mayDo_of {op i : Int} (h1 : 1 ≤ op) (h6 : op ≤ 6) (i0 : -2048 ≤ i) (i1 : i ≤ 2047) : mayDo ⟨op, 0, 0, 0, i⟩ = true := by
  have hs : suitB ⟨op, 0, 0, 0, i⟩ = true := by
    unfold suitB
    simp only
    rw [if_neg (by omega), if_neg (by omega), if_neg (by omega)]
  unfold mayDo
  rw [mayI_iff.2 ⟨⟨h1, by show op ≤ 16; omega⟩, ⟨show (0 : Int) ≤ 0 by decide, show (0 : Int) ≤ 7 by decide⟩, ⟨show (0 : Int) ≤ 0 by decide, show (0 : Int) ≤ 7 by decide⟩, ⟨show (0 : Int) ≤ 0 by decide, show (0 : Int) ≤ 7 by decide⟩, ⟨i0, i1⟩, hs⟩]
  simp
  exact h6
set_option maxRecDepth 100000 in
set_option maxHeartbeats 3200000 in
theorem each12_walk (PD : AluDoC) (f : Option Addr) (l c : Nat) (w : World) (q : Nat → Q12) (hl : l ≤ 1000000000000000) (hq : SeqAt 8 ask12V Ok12 w f l q) (k : Int) (k1 : 1 ≤ k) (k6 : k ≤ 6) :
    Calls Try.prog 17 #[.slice f l c, .int .i64 k] w fun e w' => e = .returned (.bool true) ∧ Below w.heap.size w w' := by
  have HQ := Lib.hid hq
  have HWK := Lib.hid (fun W => wakes12_any PD W)
  have PD := Lib.hid PD
  clear hq
  have htw : w.heap.size ≤ w.heap.size := Nat.le_refl _
  have B0 := Lib.hid (Below.refl w.heap.size w)
  go_enter Try.func17, Try.ntmps17
  go_wp2
  go_loopw [5] (fun i wr => ∃ (j : Nat), j ≤ l ∧ i = .int .i64 j ∧ Hid (Below w.heap.size w wr)) (fun i _ => l - (intOf i).toNat)
  case atStart => exact ⟨0, by omega, rfl, B0.out⟩
  case round =>
    clear B0
    obtain ⟨j, hkj, rfl, Br⟩ := hrel
    obtain ⟨mr, hmr⟩ : ∃ mr, mr = wr.heap.size := ⟨_, rfl⟩
    have hgwr : w.heap.size ≤ mr := by rw [hmr]; exact Br.out.size
    have hsr : mr ≤ wr.heap.size := by omega
    clear hmr
    by_cases hltj : j < l
    · have ik0j : (0 : Int) ≤ (j : Int) := by omega
      have ik1j : (j : Int) < (l : Int) := by omega
      have ikwj : IntKind.i64.wrap ((j : Int) + 1) = (j : Int) + 1 := IntWalk.i64_in _ (by omega)
      by_cases hlij : j < 15
      rotate_left
      · have dlj : decide ((j : Int) < 15) = false := decide_eq_false (by omega)
        go_wp2_with fail
        refine (HWK.out _).mono ?_
        rintro e w1 ⟨rfl, hb1⟩
        have hz1 := hb1.size
        have B1 := Lib.hid ((bel_trans Br.out hb1))
        skip
        have hs1 : mr ≤ w1.heap.size := by omega
        clear Br hsr hb1 hz1
        go_wp2
        go_ret
        exact ⟨rfl, B1.out⟩
      have dlj : decide ((j : Int) < 15) = true := decide_eq_true (by omega)
      obtain ⟨b, o, rfl, hr, hok⟩ := HQ.out j hltj
      have HRq := Lib.hid (show RowAt w b (o + j * 8) 8 (ask12V (q j)) from hr)
      have HOK := Lib.hid hok
      have hbq : b < w.heap.size := hr.lt
      clear hr hok
      generalize q j = qj at *
      obtain ⟨⟨xo, xd, xn, xm, xi⟩, xa, xb, xf, xl, xc, xX⟩ := qj
      unfold ask12V at HRq
      simp only at HRq
      by_cases hi1 : xi < -2048
      · have d1 : decide (xi < -2048) = true := decide_eq_true hi1
        have HD := Lib.hid (fun W => PD.out ⟨k, 0, 0, 0, (-5)⟩ xa xb W)
        rw [if_pos (mayDo_of k1 k6 (show -2048 ≤ -5 by omega) (show -5 ≤ 2047 by omega)), if_pos (mayDo_of k1 k6 (show -2048 ≤ -5 by omega) (show -5 ≤ 2047 by omega))] at HD
        unfold insV at HD
        simp only at HD
        have HK := Lib.hid (fun W => reck12 k xa xb (-5) k1 k6 W)
        generalize doI k (-5) xa xb = rr at *
        have yq := (HRq.out.below Br.out)
        have yq4 := yq.get 4 (.int .i64 xi) (by decide) rfl
        clear yq
        go_upto_region 7 with fail
        clear yq4
        refine wp_region_held_drew (S := (fun w' => RowAt w' (b) (o + j * 8) 8 #[.int .i64 xo, .int .i64 xd, .int .i64 xn, .int .i64 xm, .int .i64 xi, .int .u64 (u xa), .int .u64 (u xb), .slice xf xl xc])) (by kernel_rfl) ((HRq.out.below Br.out).drew) (fun hS => ?_)
        refine tkR 0 32 (v := .int .i64 k) rfl hS (fun _ _ => by kernel_rfl) ?_
        refine tkR 1 33 (v := .int .i64 (-5)) rfl hS (fun _ _ => by kernel_rfl) ?_
        refine tkR 2 34 (v := .agg #[.int .i64 k, .int .i64 0, .int .i64 0, .int .i64 0, .int .i64 (-5)]) rfl hS (fun _ _ => by kernel_rfl) ?_
        refine tkR 3 35 (v := .slice (some ⟨b, o, none⟩) l c) rfl hS (fun _ _ => by kernel_rfl) ?_
        refine tkR 4 36 (v := .int .i64 j) rfl hS (fun _ _ => by kernel_rfl) ?_
        refine tkR 5 37 (v := .pointer (some ⟨b, o + j * 8, none⟩)) rfl hS (fun _ _ => run_ixN 22 28 (.tmp 35) (.tmp 36) b o l c j 8 (by kernel_rfl) (by kernel_rfl) (by kernel_rfl) Try.underlying22 (by kernel_rfl) hltj) ?_
        refine tkR 6 38 (v := .pointer (some ⟨b, o + j * 8 + 5, none⟩)) rfl hS (fun _ _ => by kernel_rfl) ?_
        refine tkR 7 39 (v := .int .u64 (u xa)) rfl hS (fun _ h => run_ld1 25 (.tmp 38) b (o + j * 8 + 5) (by kernel_rfl) (by kernel_rfl) Try.underlying25 rfl ((h).get 5 (.int .u64 (u xa)) (by decide) rfl)) ?_
        refine tkR 8 40 (v := .slice (some ⟨b, o, none⟩) l c) rfl hS (fun _ _ => by kernel_rfl) ?_
        refine tkR 9 41 (v := .int .i64 j) rfl hS (fun _ _ => by kernel_rfl) ?_
        refine tkR 10 42 (v := .pointer (some ⟨b, o + j * 8, none⟩)) rfl hS (fun _ _ => run_ixN 22 28 (.tmp 40) (.tmp 41) b o l c j 8 (by kernel_rfl) (by kernel_rfl) (by kernel_rfl) Try.underlying22 (by kernel_rfl) hltj) ?_
        refine tkR 11 43 (v := .pointer (some ⟨b, o + j * 8 + 6, none⟩)) rfl hS (fun _ _ => by kernel_rfl) ?_
        refine tkR 12 44 (v := .int .u64 (u xb)) rfl hS (fun _ h => run_ld1 25 (.tmp 43) b (o + j * 8 + 6) (by kernel_rfl) (by kernel_rfl) Try.underlying25 rfl ((h).get 6 (.int .u64 (u xb)) (by decide) rfl)) ?_
        try simp only [Act.put, List.setIfInBounds_toArray, List.set_cons_zero, List.set_cons_succ]
        refine wpAnyH_ready (rs := [13]) (by kernel_rfl) (by simp) ?_
        refine AllReadyH.cons (o := ⟨some 45, _, _, _, _, _⟩) rfl (fun K hK => ?_) AllReadyH.nil
        go_simp
        refine (HD.out _).mono ?_
        rintro e w1 ⟨rfl, hb1⟩
        have hz1 := hb1.size
        try simp at hz1
        refine hK.out _ _ ?_ (fun hS' => ?_)
        · exact (hS.below hb1)
        clear hK K hS
        have hS := hS'
        clear hS'
        try simp only [Act.put, List.setIfInBounds_toArray, List.set_cons_zero, List.set_cons_succ]
        refine tkR 14 31 (v := .tuple #[.int .u64 (u rr), .int .i64 0]) rfl hS (fun _ _ => by kernel_rfl) ?_
        refine tkR 15 46 (v := .int .u64 (u rr)) rfl hS (fun _ _ => by kernel_rfl) ?_
        refine tkR 16 47 (v := .int .i64 0) rfl hS (fun _ _ => by kernel_rfl) ?_
        refine tkR 17 7 (v := .int .u64 (u rr)) rfl hS (fun _ _ => by kernel_rfl) ?_
        refine tkR 18 8 (v := .int .i64 0) rfl hS (fun _ _ => by kernel_rfl) ?_
        refine wpAnyH_done (by kernel_rfl) ?_ _
        try simp only [Act.put, List.setIfInBounds_toArray, List.set_cons_zero, List.set_cons_succ]
        have B2 := Lib.hid ((bel_trans (Below.drew Br.out) hb1))
        obtain ⟨W2, hW2⟩ : ∃ W2, W2 = w1 := ⟨_, rfl⟩
        have hs2 : mr ≤ W2.heap.size := by rw [hW2]; first | exact hsr | omega | (simp; omega)
        rw [← hW2] at B2 ⊢
        clear hW2 Br hsr
        go_upto_region 8 with fail
        refine wp_region_held_drew (S := (fun w' => RowAt w' (b) (o + j * 8) 8 #[.int .i64 xo, .int .i64 xd, .int .i64 xn, .int .i64 xm, .int .i64 xi, .int .u64 (u xa), .int .u64 (u xb), .slice xf xl xc])) (by kernel_rfl) ((HRq.out.below B2.out).drew) (fun hS => ?_)
        refine tkR 0 48 (v := .int .i64 0) rfl hS (fun _ _ => by kernel_rfl) ?_
        try simp only [Act.put, List.setIfInBounds_toArray, List.set_cons_zero, List.set_cons_succ]
        refine wpAnyH_ready (rs := [1]) (by kernel_rfl) (by simp) ?_
        refine AllReadyH.cons (o := ⟨some 49, _, _, _, _, _⟩) rfl (fun K hK => ?_) AllReadyH.nil
        go_simp
        refine (lnum12_any _ _).mono ?_
        rintro e w3 ⟨rfl, rfl⟩
        refine hK.out _ _ ?_ (fun hS' => ?_)
        · exact hS
        clear hK K hS
        have hS := hS'
        clear hS'
        try simp only [Act.put, List.setIfInBounds_toArray, List.set_cons_zero, List.set_cons_succ]
        try simp only [Act.put, List.setIfInBounds_toArray, List.set_cons_zero, List.set_cons_succ]
        refine wpAnyH_take (i := 2) (oi := ⟨some 50, _, _, _, _, _⟩) (v := ?_) rfl (by kernel_rfl) (by kernel_rfl) (by kernel_rfl) (fun _ _ _ h => h) (Or.inl ⟨by rfl, ?_⟩) hS ?_
        rotate_left
        · (intro w' hSw; clear hSw; go_simp; try with_reducible rfl)
        simp only [Act.put, List.setIfInBounds_toArray, List.set_cons_zero, List.set_cons_succ]
        refine tkR 3 51 (v := .bool false) rfl hS (fun _ _ => by kernel_rfl) ?_
        try simp only [Act.put, List.setIfInBounds_toArray, List.set_cons_zero, List.set_cons_succ]
        refine wpAnyH_take (i := 4) (oi := ⟨some 52, _, _, _, _, _⟩) (v := ?_) rfl (by kernel_rfl) (by kernel_rfl) (by kernel_rfl) (fun _ _ _ h => h) (Or.inl ⟨by rfl, ?_⟩) hS ?_
        rotate_left
        · (intro w' hSw; clear hSw; go_simp; try with_reducible rfl)
        simp only [Act.put, List.setIfInBounds_toArray, List.set_cons_zero, List.set_cons_succ]
        try simp only [Act.put, List.setIfInBounds_toArray, List.set_cons_zero, List.set_cons_succ]
        refine wpAnyH_take (i := 5) (oi := ⟨some 53, _, _, _, _, _⟩) (v := ?_) rfl (by kernel_rfl) (by kernel_rfl) (by kernel_rfl) (fun _ _ _ h => h) (Or.inl ⟨by rfl, ?_⟩) hS ?_
        rotate_left
        · (intro w' hSw; clear hSw; go_simp; try with_reducible rfl)
        simp only [Act.put, List.setIfInBounds_toArray, List.set_cons_zero, List.set_cons_succ]
        try simp only [Act.put, List.setIfInBounds_toArray, List.set_cons_zero, List.set_cons_succ]
        refine wpAnyH_take (i := 6) (oi := ⟨some 54, _, _, _, _, _⟩) (v := ?_) rfl (by kernel_rfl) (by kernel_rfl) (by kernel_rfl) (fun _ _ _ h => h) (Or.inl ⟨by rfl, ?_⟩) hS ?_
        rotate_left
        · (intro w' hSw; clear hSw; go_simp; try with_reducible rfl)
        simp only [Act.put, List.setIfInBounds_toArray, List.set_cons_zero, List.set_cons_succ]
        try simp only [Act.put, List.setIfInBounds_toArray, List.set_cons_zero, List.set_cons_succ]
        refine wpAnyH_take (i := 7) (oi := ⟨some 55, _, _, _, _, _⟩) (v := ?_) rfl (by kernel_rfl) (by kernel_rfl) (by kernel_rfl) (fun _ _ _ h => h) (Or.inl ⟨by rfl, ?_⟩) hS ?_
        rotate_left
        · (intro w' hSw; clear hSw; go_simp; try with_reducible rfl)
        simp only [Act.put, List.setIfInBounds_toArray, List.set_cons_zero, List.set_cons_succ]
        try simp only [Act.put, List.setIfInBounds_toArray, List.set_cons_zero, List.set_cons_succ]
        refine wpAnyH_take (i := 8) (oi := ⟨some 56, _, _, _, _, _⟩) (v := ?_) rfl (by kernel_rfl) (by kernel_rfl) (by kernel_rfl) (fun _ _ _ h => h) (Or.inl ⟨by rfl, ?_⟩) hS ?_
        rotate_left
        · (intro w' hSw; clear hSw; go_simp; try with_reducible rfl)
        simp only [Act.put, List.setIfInBounds_toArray, List.set_cons_zero, List.set_cons_succ]
        try simp only [Act.put, List.setIfInBounds_toArray, List.set_cons_zero, List.set_cons_succ]
        refine wpAnyH_take (i := 9) (oi := ⟨some 57, _, _, _, _, _⟩) (v := ?_) rfl (by kernel_rfl) (by kernel_rfl) (by kernel_rfl) (fun _ _ _ h => h) (Or.inl ⟨by rfl, ?_⟩) hS ?_
        rotate_left
        · (intro w' hSw; clear hSw; go_simp; try with_reducible rfl)
        simp only [Act.put, List.setIfInBounds_toArray, List.set_cons_zero, List.set_cons_succ]
        try simp only [Act.put, List.setIfInBounds_toArray, List.set_cons_zero, List.set_cons_succ]
        refine wpAnyH_take (i := 10) (oi := ⟨some 58, _, _, _, _, _⟩) (v := ?_) rfl (by kernel_rfl) (by kernel_rfl) (by kernel_rfl) (fun _ _ _ h => h) (Or.inl ⟨by rfl, ?_⟩) hS ?_
        rotate_left
        · (intro w' hSw; have c0_5 := (hSw).get 5 (.int .u64 (u xa)) (by decide) rfl; clear hSw; go_simp; try with_reducible rfl)
        simp only [Act.put, List.setIfInBounds_toArray, List.set_cons_zero, List.set_cons_succ]
        try simp only [Act.put, List.setIfInBounds_toArray, List.set_cons_zero, List.set_cons_succ]
        refine wpAnyH_take (i := 11) (oi := ⟨some 59, _, _, _, _, _⟩) (v := ?_) rfl (by kernel_rfl) (by kernel_rfl) (by kernel_rfl) (fun _ _ _ h => h) (Or.inl ⟨by rfl, ?_⟩) hS ?_
        rotate_left
        · (intro w' hSw; clear hSw; go_simp; try with_reducible rfl)
        simp only [Act.put, List.setIfInBounds_toArray, List.set_cons_zero, List.set_cons_succ]
        try simp only [Act.put, List.setIfInBounds_toArray, List.set_cons_zero, List.set_cons_succ]
        refine wpAnyH_take (i := 12) (oi := ⟨some 60, _, _, _, _, _⟩) (v := ?_) rfl (by kernel_rfl) (by kernel_rfl) (by kernel_rfl) (fun _ _ _ h => h) (Or.inl ⟨by rfl, ?_⟩) hS ?_
        rotate_left
        · (intro w' hSw; clear hSw; go_simp; try with_reducible rfl)
        simp only [Act.put, List.setIfInBounds_toArray, List.set_cons_zero, List.set_cons_succ]
        try simp only [Act.put, List.setIfInBounds_toArray, List.set_cons_zero, List.set_cons_succ]
        refine wpAnyH_take (i := 13) (oi := ⟨some 61, _, _, _, _, _⟩) (v := ?_) rfl (by kernel_rfl) (by kernel_rfl) (by kernel_rfl) (fun _ _ _ h => h) (Or.inl ⟨by rfl, ?_⟩) hS ?_
        rotate_left
        · (intro w' hSw; clear hSw; go_simp; try with_reducible rfl)
        simp only [Act.put, List.setIfInBounds_toArray, List.set_cons_zero, List.set_cons_succ]
        try simp only [Act.put, List.setIfInBounds_toArray, List.set_cons_zero, List.set_cons_succ]
        refine wpAnyH_take (i := 14) (oi := ⟨some 62, _, _, _, _, _⟩) (v := ?_) rfl (by kernel_rfl) (by kernel_rfl) (by kernel_rfl) (fun _ _ _ h => h) (Or.inl ⟨by rfl, ?_⟩) hS ?_
        rotate_left
        · (intro w' hSw; clear hSw; go_simp; try with_reducible rfl)
        simp only [Act.put, List.setIfInBounds_toArray, List.set_cons_zero, List.set_cons_succ]
        try simp only [Act.put, List.setIfInBounds_toArray, List.set_cons_zero, List.set_cons_succ]
        refine wpAnyH_take (i := 15) (oi := ⟨some 63, _, _, _, _, _⟩) (v := ?_) rfl (by kernel_rfl) (by kernel_rfl) (by kernel_rfl) (fun _ _ _ h => h) (Or.inl ⟨by rfl, ?_⟩) hS ?_
        rotate_left
        · (intro w' hSw; have c0_6 := (hSw).get 6 (.int .u64 (u xb)) (by decide) rfl; clear hSw; go_simp; try with_reducible rfl)
        simp only [Act.put, List.setIfInBounds_toArray, List.set_cons_zero, List.set_cons_succ]
        try simp only [Act.put, List.setIfInBounds_toArray, List.set_cons_zero, List.set_cons_succ]
        refine wpAnyH_take (i := 16) (oi := ⟨some 64, _, _, _, _, _⟩) (v := ?_) rfl (by kernel_rfl) (by kernel_rfl) (by kernel_rfl) (fun _ _ _ h => h) (Or.inl ⟨by rfl, ?_⟩) hS ?_
        rotate_left
        · (intro w' hSw; clear hSw; go_simp; try with_reducible rfl)
        simp only [Act.put, List.setIfInBounds_toArray, List.set_cons_zero, List.set_cons_succ]
        try simp only [Act.put, List.setIfInBounds_toArray, List.set_cons_zero, List.set_cons_succ]
        refine wpAnyH_ready (rs := [17]) (by kernel_rfl) (by simp) ?_
        refine AllReadyH.cons (o := ⟨some 65, _, _, _, _, _⟩) rfl (fun K hK => ?_) AllReadyH.nil
        go_simp
        refine (HK.out _).mono ?_
        rintro e w4 ⟨rfl, hb4⟩
        have hz4 := hb4.size
        try simp at hz4
        refine hK.out _ _ ?_ (fun hS' => ?_)
        · exact (hS.below hb4)
        clear hK K hS
        have hS := hS'
        clear hS'
        try simp only [Act.put, List.setIfInBounds_toArray, List.set_cons_zero, List.set_cons_succ]
        try simp only [Act.put, List.setIfInBounds_toArray, List.set_cons_zero, List.set_cons_succ]
        refine wpAnyH_take (i := 18) (oi := ⟨some 66, _, _, _, _, _⟩) (v := ?_) rfl (by kernel_rfl) (by kernel_rfl) (by kernel_rfl) (fun _ _ _ h => h) (Or.inl ⟨by rfl, ?_⟩) hS ?_
        rotate_left
        · (intro w' hSw; clear hSw; go_simp; try with_reducible rfl)
        simp only [Act.put, List.setIfInBounds_toArray, List.set_cons_zero, List.set_cons_succ]
        try simp only [Act.put, List.setIfInBounds_toArray, List.set_cons_zero, List.set_cons_succ]
        refine wpAnyH_take (i := 19) (oi := ⟨some 67, _, _, _, _, _⟩) (v := ?_) rfl (by kernel_rfl) (by kernel_rfl) (by kernel_rfl) (fun _ _ _ h => h) (Or.inl ⟨by rfl, ?_⟩) hS ?_
        rotate_left
        · (intro w' hSw; clear hSw; go_simp; try with_reducible rfl)
        simp only [Act.put, List.setIfInBounds_toArray, List.set_cons_zero, List.set_cons_succ]
        refine wpAnyH_done (by kernel_rfl) ?_ _
        try simp only [Act.put, List.setIfInBounds_toArray, List.set_cons_zero, List.set_cons_succ]
        have B5 := Lib.hid ((bel_trans (Below.drew B2.out) hb4))
        obtain ⟨W5, hW5⟩ : ∃ W5, W5 = w4 := ⟨_, rfl⟩
        have hs5 : mr ≤ W5.heap.size := by rw [hW5]; first | exact hs2 | omega | (simp; omega)
        rw [← hW5] at B5 ⊢
        clear hW5 B2 hs2
        go_wp2
        go_roundw
        case rel => exact ⟨j + 1, by omega, by go_num, B5.out⟩
        case measure => simp [intOf] <;> omega
      · have d1 : decide (xi < -2048) = false := decide_eq_false hi1
        by_cases hi2 : 2047 < xi
        · have d2 : decide (2047 < xi) = true := decide_eq_true hi2
          have HD := Lib.hid (fun W => PD.out ⟨k, 0, 0, 0, (-5)⟩ xa xb W)
          rw [if_pos (mayDo_of k1 k6 (show -2048 ≤ -5 by omega) (show -5 ≤ 2047 by omega)), if_pos (mayDo_of k1 k6 (show -2048 ≤ -5 by omega) (show -5 ≤ 2047 by omega))] at HD
          unfold insV at HD
          simp only at HD
          have HK := Lib.hid (fun W => reck12 k xa xb (-5) k1 k6 W)
          generalize doI k (-5) xa xb = rr at *
          have yq := (HRq.out.below Br.out)
          have yq4 := yq.get 4 (.int .i64 xi) (by decide) rfl
          clear yq
          go_upto_region 7 with fail
          clear yq4
          refine wp_region_held_drew (S := (fun w' => RowAt w' (b) (o + j * 8) 8 #[.int .i64 xo, .int .i64 xd, .int .i64 xn, .int .i64 xm, .int .i64 xi, .int .u64 (u xa), .int .u64 (u xb), .slice xf xl xc])) (by kernel_rfl) ((HRq.out.below Br.out).drew) (fun hS => ?_)
          refine tkR 0 32 (v := .int .i64 k) rfl hS (fun _ _ => by kernel_rfl) ?_
          refine tkR 1 33 (v := .int .i64 (-5)) rfl hS (fun _ _ => by kernel_rfl) ?_
          refine tkR 2 34 (v := .agg #[.int .i64 k, .int .i64 0, .int .i64 0, .int .i64 0, .int .i64 (-5)]) rfl hS (fun _ _ => by kernel_rfl) ?_
          refine tkR 3 35 (v := .slice (some ⟨b, o, none⟩) l c) rfl hS (fun _ _ => by kernel_rfl) ?_
          refine tkR 4 36 (v := .int .i64 j) rfl hS (fun _ _ => by kernel_rfl) ?_
          refine tkR 5 37 (v := .pointer (some ⟨b, o + j * 8, none⟩)) rfl hS (fun _ _ => run_ixN 22 28 (.tmp 35) (.tmp 36) b o l c j 8 (by kernel_rfl) (by kernel_rfl) (by kernel_rfl) Try.underlying22 (by kernel_rfl) hltj) ?_
          refine tkR 6 38 (v := .pointer (some ⟨b, o + j * 8 + 5, none⟩)) rfl hS (fun _ _ => by kernel_rfl) ?_
          refine tkR 7 39 (v := .int .u64 (u xa)) rfl hS (fun _ h => run_ld1 25 (.tmp 38) b (o + j * 8 + 5) (by kernel_rfl) (by kernel_rfl) Try.underlying25 rfl ((h).get 5 (.int .u64 (u xa)) (by decide) rfl)) ?_
          refine tkR 8 40 (v := .slice (some ⟨b, o, none⟩) l c) rfl hS (fun _ _ => by kernel_rfl) ?_
          refine tkR 9 41 (v := .int .i64 j) rfl hS (fun _ _ => by kernel_rfl) ?_
          refine tkR 10 42 (v := .pointer (some ⟨b, o + j * 8, none⟩)) rfl hS (fun _ _ => run_ixN 22 28 (.tmp 40) (.tmp 41) b o l c j 8 (by kernel_rfl) (by kernel_rfl) (by kernel_rfl) Try.underlying22 (by kernel_rfl) hltj) ?_
          refine tkR 11 43 (v := .pointer (some ⟨b, o + j * 8 + 6, none⟩)) rfl hS (fun _ _ => by kernel_rfl) ?_
          refine tkR 12 44 (v := .int .u64 (u xb)) rfl hS (fun _ h => run_ld1 25 (.tmp 43) b (o + j * 8 + 6) (by kernel_rfl) (by kernel_rfl) Try.underlying25 rfl ((h).get 6 (.int .u64 (u xb)) (by decide) rfl)) ?_
          try simp only [Act.put, List.setIfInBounds_toArray, List.set_cons_zero, List.set_cons_succ]
          refine wpAnyH_ready (rs := [13]) (by kernel_rfl) (by simp) ?_
          refine AllReadyH.cons (o := ⟨some 45, _, _, _, _, _⟩) rfl (fun K hK => ?_) AllReadyH.nil
          go_simp
          refine (HD.out _).mono ?_
          rintro e w1 ⟨rfl, hb1⟩
          have hz1 := hb1.size
          try simp at hz1
          refine hK.out _ _ ?_ (fun hS' => ?_)
          · exact (hS.below hb1)
          clear hK K hS
          have hS := hS'
          clear hS'
          try simp only [Act.put, List.setIfInBounds_toArray, List.set_cons_zero, List.set_cons_succ]
          refine tkR 14 31 (v := .tuple #[.int .u64 (u rr), .int .i64 0]) rfl hS (fun _ _ => by kernel_rfl) ?_
          refine tkR 15 46 (v := .int .u64 (u rr)) rfl hS (fun _ _ => by kernel_rfl) ?_
          refine tkR 16 47 (v := .int .i64 0) rfl hS (fun _ _ => by kernel_rfl) ?_
          refine tkR 17 7 (v := .int .u64 (u rr)) rfl hS (fun _ _ => by kernel_rfl) ?_
          refine tkR 18 8 (v := .int .i64 0) rfl hS (fun _ _ => by kernel_rfl) ?_
          refine wpAnyH_done (by kernel_rfl) ?_ _
          try simp only [Act.put, List.setIfInBounds_toArray, List.set_cons_zero, List.set_cons_succ]
          have B2 := Lib.hid ((bel_trans (Below.drew Br.out) hb1))
          obtain ⟨W2, hW2⟩ : ∃ W2, W2 = w1 := ⟨_, rfl⟩
          have hs2 : mr ≤ W2.heap.size := by rw [hW2]; first | exact hsr | omega | (simp; omega)
          rw [← hW2] at B2 ⊢
          clear hW2 Br hsr
          go_upto_region 8 with fail
          refine wp_region_held_drew (S := (fun w' => RowAt w' (b) (o + j * 8) 8 #[.int .i64 xo, .int .i64 xd, .int .i64 xn, .int .i64 xm, .int .i64 xi, .int .u64 (u xa), .int .u64 (u xb), .slice xf xl xc])) (by kernel_rfl) ((HRq.out.below B2.out).drew) (fun hS => ?_)
          refine tkR 0 48 (v := .int .i64 0) rfl hS (fun _ _ => by kernel_rfl) ?_
          try simp only [Act.put, List.setIfInBounds_toArray, List.set_cons_zero, List.set_cons_succ]
          refine wpAnyH_ready (rs := [1]) (by kernel_rfl) (by simp) ?_
          refine AllReadyH.cons (o := ⟨some 49, _, _, _, _, _⟩) rfl (fun K hK => ?_) AllReadyH.nil
          go_simp
          refine (lnum12_any _ _).mono ?_
          rintro e w3 ⟨rfl, rfl⟩
          refine hK.out _ _ ?_ (fun hS' => ?_)
          · exact hS
          clear hK K hS
          have hS := hS'
          clear hS'
          try simp only [Act.put, List.setIfInBounds_toArray, List.set_cons_zero, List.set_cons_succ]
          try simp only [Act.put, List.setIfInBounds_toArray, List.set_cons_zero, List.set_cons_succ]
          refine wpAnyH_take (i := 2) (oi := ⟨some 50, _, _, _, _, _⟩) (v := ?_) rfl (by kernel_rfl) (by kernel_rfl) (by kernel_rfl) (fun _ _ _ h => h) (Or.inl ⟨by rfl, ?_⟩) hS ?_
          rotate_left
          · (intro w' hSw; clear hSw; go_simp; try with_reducible rfl)
          simp only [Act.put, List.setIfInBounds_toArray, List.set_cons_zero, List.set_cons_succ]
          refine tkR 3 51 (v := .bool false) rfl hS (fun _ _ => by kernel_rfl) ?_
          try simp only [Act.put, List.setIfInBounds_toArray, List.set_cons_zero, List.set_cons_succ]
          refine wpAnyH_take (i := 4) (oi := ⟨some 52, _, _, _, _, _⟩) (v := ?_) rfl (by kernel_rfl) (by kernel_rfl) (by kernel_rfl) (fun _ _ _ h => h) (Or.inl ⟨by rfl, ?_⟩) hS ?_
          rotate_left
          · (intro w' hSw; clear hSw; go_simp; try with_reducible rfl)
          simp only [Act.put, List.setIfInBounds_toArray, List.set_cons_zero, List.set_cons_succ]
          try simp only [Act.put, List.setIfInBounds_toArray, List.set_cons_zero, List.set_cons_succ]
          refine wpAnyH_take (i := 5) (oi := ⟨some 53, _, _, _, _, _⟩) (v := ?_) rfl (by kernel_rfl) (by kernel_rfl) (by kernel_rfl) (fun _ _ _ h => h) (Or.inl ⟨by rfl, ?_⟩) hS ?_
          rotate_left
          · (intro w' hSw; clear hSw; go_simp; try with_reducible rfl)
          simp only [Act.put, List.setIfInBounds_toArray, List.set_cons_zero, List.set_cons_succ]
          try simp only [Act.put, List.setIfInBounds_toArray, List.set_cons_zero, List.set_cons_succ]
          refine wpAnyH_take (i := 6) (oi := ⟨some 54, _, _, _, _, _⟩) (v := ?_) rfl (by kernel_rfl) (by kernel_rfl) (by kernel_rfl) (fun _ _ _ h => h) (Or.inl ⟨by rfl, ?_⟩) hS ?_
          rotate_left
          · (intro w' hSw; clear hSw; go_simp; try with_reducible rfl)
          simp only [Act.put, List.setIfInBounds_toArray, List.set_cons_zero, List.set_cons_succ]
          try simp only [Act.put, List.setIfInBounds_toArray, List.set_cons_zero, List.set_cons_succ]
          refine wpAnyH_take (i := 7) (oi := ⟨some 55, _, _, _, _, _⟩) (v := ?_) rfl (by kernel_rfl) (by kernel_rfl) (by kernel_rfl) (fun _ _ _ h => h) (Or.inl ⟨by rfl, ?_⟩) hS ?_
          rotate_left
          · (intro w' hSw; clear hSw; go_simp; try with_reducible rfl)
          simp only [Act.put, List.setIfInBounds_toArray, List.set_cons_zero, List.set_cons_succ]
          try simp only [Act.put, List.setIfInBounds_toArray, List.set_cons_zero, List.set_cons_succ]
          refine wpAnyH_take (i := 8) (oi := ⟨some 56, _, _, _, _, _⟩) (v := ?_) rfl (by kernel_rfl) (by kernel_rfl) (by kernel_rfl) (fun _ _ _ h => h) (Or.inl ⟨by rfl, ?_⟩) hS ?_
          rotate_left
          · (intro w' hSw; clear hSw; go_simp; try with_reducible rfl)
          simp only [Act.put, List.setIfInBounds_toArray, List.set_cons_zero, List.set_cons_succ]
          try simp only [Act.put, List.setIfInBounds_toArray, List.set_cons_zero, List.set_cons_succ]
          refine wpAnyH_take (i := 9) (oi := ⟨some 57, _, _, _, _, _⟩) (v := ?_) rfl (by kernel_rfl) (by kernel_rfl) (by kernel_rfl) (fun _ _ _ h => h) (Or.inl ⟨by rfl, ?_⟩) hS ?_
          rotate_left
          · (intro w' hSw; clear hSw; go_simp; try with_reducible rfl)
          simp only [Act.put, List.setIfInBounds_toArray, List.set_cons_zero, List.set_cons_succ]
          try simp only [Act.put, List.setIfInBounds_toArray, List.set_cons_zero, List.set_cons_succ]
          refine wpAnyH_take (i := 10) (oi := ⟨some 58, _, _, _, _, _⟩) (v := ?_) rfl (by kernel_rfl) (by kernel_rfl) (by kernel_rfl) (fun _ _ _ h => h) (Or.inl ⟨by rfl, ?_⟩) hS ?_
          rotate_left
          · (intro w' hSw; have c0_5 := (hSw).get 5 (.int .u64 (u xa)) (by decide) rfl; clear hSw; go_simp; try with_reducible rfl)
          simp only [Act.put, List.setIfInBounds_toArray, List.set_cons_zero, List.set_cons_succ]
          try simp only [Act.put, List.setIfInBounds_toArray, List.set_cons_zero, List.set_cons_succ]
          refine wpAnyH_take (i := 11) (oi := ⟨some 59, _, _, _, _, _⟩) (v := ?_) rfl (by kernel_rfl) (by kernel_rfl) (by kernel_rfl) (fun _ _ _ h => h) (Or.inl ⟨by rfl, ?_⟩) hS ?_
          rotate_left
          · (intro w' hSw; clear hSw; go_simp; try with_reducible rfl)
          simp only [Act.put, List.setIfInBounds_toArray, List.set_cons_zero, List.set_cons_succ]
          try simp only [Act.put, List.setIfInBounds_toArray, List.set_cons_zero, List.set_cons_succ]
          refine wpAnyH_take (i := 12) (oi := ⟨some 60, _, _, _, _, _⟩) (v := ?_) rfl (by kernel_rfl) (by kernel_rfl) (by kernel_rfl) (fun _ _ _ h => h) (Or.inl ⟨by rfl, ?_⟩) hS ?_
          rotate_left
          · (intro w' hSw; clear hSw; go_simp; try with_reducible rfl)
          simp only [Act.put, List.setIfInBounds_toArray, List.set_cons_zero, List.set_cons_succ]
          try simp only [Act.put, List.setIfInBounds_toArray, List.set_cons_zero, List.set_cons_succ]
          refine wpAnyH_take (i := 13) (oi := ⟨some 61, _, _, _, _, _⟩) (v := ?_) rfl (by kernel_rfl) (by kernel_rfl) (by kernel_rfl) (fun _ _ _ h => h) (Or.inl ⟨by rfl, ?_⟩) hS ?_
          rotate_left
          · (intro w' hSw; clear hSw; go_simp; try with_reducible rfl)
          simp only [Act.put, List.setIfInBounds_toArray, List.set_cons_zero, List.set_cons_succ]
          try simp only [Act.put, List.setIfInBounds_toArray, List.set_cons_zero, List.set_cons_succ]
          refine wpAnyH_take (i := 14) (oi := ⟨some 62, _, _, _, _, _⟩) (v := ?_) rfl (by kernel_rfl) (by kernel_rfl) (by kernel_rfl) (fun _ _ _ h => h) (Or.inl ⟨by rfl, ?_⟩) hS ?_
          rotate_left
          · (intro w' hSw; clear hSw; go_simp; try with_reducible rfl)
          simp only [Act.put, List.setIfInBounds_toArray, List.set_cons_zero, List.set_cons_succ]
          try simp only [Act.put, List.setIfInBounds_toArray, List.set_cons_zero, List.set_cons_succ]
          refine wpAnyH_take (i := 15) (oi := ⟨some 63, _, _, _, _, _⟩) (v := ?_) rfl (by kernel_rfl) (by kernel_rfl) (by kernel_rfl) (fun _ _ _ h => h) (Or.inl ⟨by rfl, ?_⟩) hS ?_
          rotate_left
          · (intro w' hSw; have c0_6 := (hSw).get 6 (.int .u64 (u xb)) (by decide) rfl; clear hSw; go_simp; try with_reducible rfl)
          simp only [Act.put, List.setIfInBounds_toArray, List.set_cons_zero, List.set_cons_succ]
          try simp only [Act.put, List.setIfInBounds_toArray, List.set_cons_zero, List.set_cons_succ]
          refine wpAnyH_take (i := 16) (oi := ⟨some 64, _, _, _, _, _⟩) (v := ?_) rfl (by kernel_rfl) (by kernel_rfl) (by kernel_rfl) (fun _ _ _ h => h) (Or.inl ⟨by rfl, ?_⟩) hS ?_
          rotate_left
          · (intro w' hSw; clear hSw; go_simp; try with_reducible rfl)
          simp only [Act.put, List.setIfInBounds_toArray, List.set_cons_zero, List.set_cons_succ]
          try simp only [Act.put, List.setIfInBounds_toArray, List.set_cons_zero, List.set_cons_succ]
          refine wpAnyH_ready (rs := [17]) (by kernel_rfl) (by simp) ?_
          refine AllReadyH.cons (o := ⟨some 65, _, _, _, _, _⟩) rfl (fun K hK => ?_) AllReadyH.nil
          go_simp
          refine (HK.out _).mono ?_
          rintro e w4 ⟨rfl, hb4⟩
          have hz4 := hb4.size
          try simp at hz4
          refine hK.out _ _ ?_ (fun hS' => ?_)
          · exact (hS.below hb4)
          clear hK K hS
          have hS := hS'
          clear hS'
          try simp only [Act.put, List.setIfInBounds_toArray, List.set_cons_zero, List.set_cons_succ]
          try simp only [Act.put, List.setIfInBounds_toArray, List.set_cons_zero, List.set_cons_succ]
          refine wpAnyH_take (i := 18) (oi := ⟨some 66, _, _, _, _, _⟩) (v := ?_) rfl (by kernel_rfl) (by kernel_rfl) (by kernel_rfl) (fun _ _ _ h => h) (Or.inl ⟨by rfl, ?_⟩) hS ?_
          rotate_left
          · (intro w' hSw; clear hSw; go_simp; try with_reducible rfl)
          simp only [Act.put, List.setIfInBounds_toArray, List.set_cons_zero, List.set_cons_succ]
          try simp only [Act.put, List.setIfInBounds_toArray, List.set_cons_zero, List.set_cons_succ]
          refine wpAnyH_take (i := 19) (oi := ⟨some 67, _, _, _, _, _⟩) (v := ?_) rfl (by kernel_rfl) (by kernel_rfl) (by kernel_rfl) (fun _ _ _ h => h) (Or.inl ⟨by rfl, ?_⟩) hS ?_
          rotate_left
          · (intro w' hSw; clear hSw; go_simp; try with_reducible rfl)
          simp only [Act.put, List.setIfInBounds_toArray, List.set_cons_zero, List.set_cons_succ]
          refine wpAnyH_done (by kernel_rfl) ?_ _
          try simp only [Act.put, List.setIfInBounds_toArray, List.set_cons_zero, List.set_cons_succ]
          have B5 := Lib.hid ((bel_trans (Below.drew B2.out) hb4))
          obtain ⟨W5, hW5⟩ : ∃ W5, W5 = w4 := ⟨_, rfl⟩
          have hs5 : mr ≤ W5.heap.size := by rw [hW5]; first | exact hs2 | omega | (simp; omega)
          rw [← hW5] at B5 ⊢
          clear hW5 B2 hs2
          go_wp2
          go_roundw
          case rel => exact ⟨j + 1, by omega, by go_num, B5.out⟩
          case measure => simp [intOf] <;> omega
        · have d2 : decide (2047 < xi) = false := decide_eq_false hi2
          have HD := Lib.hid (fun W => PD.out ⟨k, 0, 0, 0, xi⟩ xa xb W)
          rw [if_pos (mayDo_of k1 k6 (show -2048 ≤ xi by omega) (show xi ≤ 2047 by omega)), if_pos (mayDo_of k1 k6 (show -2048 ≤ xi by omega) (show xi ≤ 2047 by omega))] at HD
          unfold insV at HD
          simp only at HD
          have HK := Lib.hid (fun W => reck12 k xa xb xi k1 k6 W)
          generalize doI k xi xa xb = rr at *
          have yq := (HRq.out.below Br.out)
          have yq4 := yq.get 4 (.int .i64 xi) (by decide) rfl
          clear yq
          go_upto_region 7 with fail
          clear yq4
          refine wp_region_held_drew (S := (fun w' => RowAt w' (b) (o + j * 8) 8 #[.int .i64 xo, .int .i64 xd, .int .i64 xn, .int .i64 xm, .int .i64 xi, .int .u64 (u xa), .int .u64 (u xb), .slice xf xl xc])) (by kernel_rfl) ((HRq.out.below Br.out).drew) (fun hS => ?_)
          refine tkR 0 32 (v := .int .i64 k) rfl hS (fun _ _ => by kernel_rfl) ?_
          refine tkR 1 33 (v := .int .i64 xi) rfl hS (fun _ _ => by kernel_rfl) ?_
          refine tkR 2 34 (v := .agg #[.int .i64 k, .int .i64 0, .int .i64 0, .int .i64 0, .int .i64 xi]) rfl hS (fun _ _ => by kernel_rfl) ?_
          refine tkR 3 35 (v := .slice (some ⟨b, o, none⟩) l c) rfl hS (fun _ _ => by kernel_rfl) ?_
          refine tkR 4 36 (v := .int .i64 j) rfl hS (fun _ _ => by kernel_rfl) ?_
          refine tkR 5 37 (v := .pointer (some ⟨b, o + j * 8, none⟩)) rfl hS (fun _ _ => run_ixN 22 28 (.tmp 35) (.tmp 36) b o l c j 8 (by kernel_rfl) (by kernel_rfl) (by kernel_rfl) Try.underlying22 (by kernel_rfl) hltj) ?_
          refine tkR 6 38 (v := .pointer (some ⟨b, o + j * 8 + 5, none⟩)) rfl hS (fun _ _ => by kernel_rfl) ?_
          refine tkR 7 39 (v := .int .u64 (u xa)) rfl hS (fun _ h => run_ld1 25 (.tmp 38) b (o + j * 8 + 5) (by kernel_rfl) (by kernel_rfl) Try.underlying25 rfl ((h).get 5 (.int .u64 (u xa)) (by decide) rfl)) ?_
          refine tkR 8 40 (v := .slice (some ⟨b, o, none⟩) l c) rfl hS (fun _ _ => by kernel_rfl) ?_
          refine tkR 9 41 (v := .int .i64 j) rfl hS (fun _ _ => by kernel_rfl) ?_
          refine tkR 10 42 (v := .pointer (some ⟨b, o + j * 8, none⟩)) rfl hS (fun _ _ => run_ixN 22 28 (.tmp 40) (.tmp 41) b o l c j 8 (by kernel_rfl) (by kernel_rfl) (by kernel_rfl) Try.underlying22 (by kernel_rfl) hltj) ?_
          refine tkR 11 43 (v := .pointer (some ⟨b, o + j * 8 + 6, none⟩)) rfl hS (fun _ _ => by kernel_rfl) ?_
          refine tkR 12 44 (v := .int .u64 (u xb)) rfl hS (fun _ h => run_ld1 25 (.tmp 43) b (o + j * 8 + 6) (by kernel_rfl) (by kernel_rfl) Try.underlying25 rfl ((h).get 6 (.int .u64 (u xb)) (by decide) rfl)) ?_
          try simp only [Act.put, List.setIfInBounds_toArray, List.set_cons_zero, List.set_cons_succ]
          refine wpAnyH_ready (rs := [13]) (by kernel_rfl) (by simp) ?_
          refine AllReadyH.cons (o := ⟨some 45, _, _, _, _, _⟩) rfl (fun K hK => ?_) AllReadyH.nil
          go_simp
          refine (HD.out _).mono ?_
          rintro e w1 ⟨rfl, hb1⟩
          have hz1 := hb1.size
          try simp at hz1
          refine hK.out _ _ ?_ (fun hS' => ?_)
          · exact (hS.below hb1)
          clear hK K hS
          have hS := hS'
          clear hS'
          try simp only [Act.put, List.setIfInBounds_toArray, List.set_cons_zero, List.set_cons_succ]
          refine tkR 14 31 (v := .tuple #[.int .u64 (u rr), .int .i64 0]) rfl hS (fun _ _ => by kernel_rfl) ?_
          refine tkR 15 46 (v := .int .u64 (u rr)) rfl hS (fun _ _ => by kernel_rfl) ?_
          refine tkR 16 47 (v := .int .i64 0) rfl hS (fun _ _ => by kernel_rfl) ?_
          refine tkR 17 7 (v := .int .u64 (u rr)) rfl hS (fun _ _ => by kernel_rfl) ?_
          refine tkR 18 8 (v := .int .i64 0) rfl hS (fun _ _ => by kernel_rfl) ?_
          refine wpAnyH_done (by kernel_rfl) ?_ _
          try simp only [Act.put, List.setIfInBounds_toArray, List.set_cons_zero, List.set_cons_succ]
          have B2 := Lib.hid ((bel_trans (Below.drew Br.out) hb1))
          obtain ⟨W2, hW2⟩ : ∃ W2, W2 = w1 := ⟨_, rfl⟩
          have hs2 : mr ≤ W2.heap.size := by rw [hW2]; first | exact hsr | omega | (simp; omega)
          rw [← hW2] at B2 ⊢
          clear hW2 Br hsr
          go_upto_region 8 with fail
          refine wp_region_held_drew (S := (fun w' => RowAt w' (b) (o + j * 8) 8 #[.int .i64 xo, .int .i64 xd, .int .i64 xn, .int .i64 xm, .int .i64 xi, .int .u64 (u xa), .int .u64 (u xb), .slice xf xl xc])) (by kernel_rfl) ((HRq.out.below B2.out).drew) (fun hS => ?_)
          refine tkR 0 48 (v := .int .i64 0) rfl hS (fun _ _ => by kernel_rfl) ?_
          try simp only [Act.put, List.setIfInBounds_toArray, List.set_cons_zero, List.set_cons_succ]
          refine wpAnyH_ready (rs := [1]) (by kernel_rfl) (by simp) ?_
          refine AllReadyH.cons (o := ⟨some 49, _, _, _, _, _⟩) rfl (fun K hK => ?_) AllReadyH.nil
          go_simp
          refine (lnum12_any _ _).mono ?_
          rintro e w3 ⟨rfl, rfl⟩
          refine hK.out _ _ ?_ (fun hS' => ?_)
          · exact hS
          clear hK K hS
          have hS := hS'
          clear hS'
          try simp only [Act.put, List.setIfInBounds_toArray, List.set_cons_zero, List.set_cons_succ]
          try simp only [Act.put, List.setIfInBounds_toArray, List.set_cons_zero, List.set_cons_succ]
          refine wpAnyH_take (i := 2) (oi := ⟨some 50, _, _, _, _, _⟩) (v := ?_) rfl (by kernel_rfl) (by kernel_rfl) (by kernel_rfl) (fun _ _ _ h => h) (Or.inl ⟨by rfl, ?_⟩) hS ?_
          rotate_left
          · (intro w' hSw; clear hSw; go_simp; try with_reducible rfl)
          simp only [Act.put, List.setIfInBounds_toArray, List.set_cons_zero, List.set_cons_succ]
          refine tkR 3 51 (v := .bool false) rfl hS (fun _ _ => by kernel_rfl) ?_
          try simp only [Act.put, List.setIfInBounds_toArray, List.set_cons_zero, List.set_cons_succ]
          refine wpAnyH_take (i := 4) (oi := ⟨some 52, _, _, _, _, _⟩) (v := ?_) rfl (by kernel_rfl) (by kernel_rfl) (by kernel_rfl) (fun _ _ _ h => h) (Or.inl ⟨by rfl, ?_⟩) hS ?_
          rotate_left
          · (intro w' hSw; clear hSw; go_simp; try with_reducible rfl)
          simp only [Act.put, List.setIfInBounds_toArray, List.set_cons_zero, List.set_cons_succ]
          try simp only [Act.put, List.setIfInBounds_toArray, List.set_cons_zero, List.set_cons_succ]
          refine wpAnyH_take (i := 5) (oi := ⟨some 53, _, _, _, _, _⟩) (v := ?_) rfl (by kernel_rfl) (by kernel_rfl) (by kernel_rfl) (fun _ _ _ h => h) (Or.inl ⟨by rfl, ?_⟩) hS ?_
          rotate_left
          · (intro w' hSw; clear hSw; go_simp; try with_reducible rfl)
          simp only [Act.put, List.setIfInBounds_toArray, List.set_cons_zero, List.set_cons_succ]
          try simp only [Act.put, List.setIfInBounds_toArray, List.set_cons_zero, List.set_cons_succ]
          refine wpAnyH_take (i := 6) (oi := ⟨some 54, _, _, _, _, _⟩) (v := ?_) rfl (by kernel_rfl) (by kernel_rfl) (by kernel_rfl) (fun _ _ _ h => h) (Or.inl ⟨by rfl, ?_⟩) hS ?_
          rotate_left
          · (intro w' hSw; clear hSw; go_simp; try with_reducible rfl)
          simp only [Act.put, List.setIfInBounds_toArray, List.set_cons_zero, List.set_cons_succ]
          try simp only [Act.put, List.setIfInBounds_toArray, List.set_cons_zero, List.set_cons_succ]
          refine wpAnyH_take (i := 7) (oi := ⟨some 55, _, _, _, _, _⟩) (v := ?_) rfl (by kernel_rfl) (by kernel_rfl) (by kernel_rfl) (fun _ _ _ h => h) (Or.inl ⟨by rfl, ?_⟩) hS ?_
          rotate_left
          · (intro w' hSw; clear hSw; go_simp; try with_reducible rfl)
          simp only [Act.put, List.setIfInBounds_toArray, List.set_cons_zero, List.set_cons_succ]
          try simp only [Act.put, List.setIfInBounds_toArray, List.set_cons_zero, List.set_cons_succ]
          refine wpAnyH_take (i := 8) (oi := ⟨some 56, _, _, _, _, _⟩) (v := ?_) rfl (by kernel_rfl) (by kernel_rfl) (by kernel_rfl) (fun _ _ _ h => h) (Or.inl ⟨by rfl, ?_⟩) hS ?_
          rotate_left
          · (intro w' hSw; clear hSw; go_simp; try with_reducible rfl)
          simp only [Act.put, List.setIfInBounds_toArray, List.set_cons_zero, List.set_cons_succ]
          try simp only [Act.put, List.setIfInBounds_toArray, List.set_cons_zero, List.set_cons_succ]
          refine wpAnyH_take (i := 9) (oi := ⟨some 57, _, _, _, _, _⟩) (v := ?_) rfl (by kernel_rfl) (by kernel_rfl) (by kernel_rfl) (fun _ _ _ h => h) (Or.inl ⟨by rfl, ?_⟩) hS ?_
          rotate_left
          · (intro w' hSw; clear hSw; go_simp; try with_reducible rfl)
          simp only [Act.put, List.setIfInBounds_toArray, List.set_cons_zero, List.set_cons_succ]
          try simp only [Act.put, List.setIfInBounds_toArray, List.set_cons_zero, List.set_cons_succ]
          refine wpAnyH_take (i := 10) (oi := ⟨some 58, _, _, _, _, _⟩) (v := ?_) rfl (by kernel_rfl) (by kernel_rfl) (by kernel_rfl) (fun _ _ _ h => h) (Or.inl ⟨by rfl, ?_⟩) hS ?_
          rotate_left
          · (intro w' hSw; have c0_5 := (hSw).get 5 (.int .u64 (u xa)) (by decide) rfl; clear hSw; go_simp; try with_reducible rfl)
          simp only [Act.put, List.setIfInBounds_toArray, List.set_cons_zero, List.set_cons_succ]
          try simp only [Act.put, List.setIfInBounds_toArray, List.set_cons_zero, List.set_cons_succ]
          refine wpAnyH_take (i := 11) (oi := ⟨some 59, _, _, _, _, _⟩) (v := ?_) rfl (by kernel_rfl) (by kernel_rfl) (by kernel_rfl) (fun _ _ _ h => h) (Or.inl ⟨by rfl, ?_⟩) hS ?_
          rotate_left
          · (intro w' hSw; clear hSw; go_simp; try with_reducible rfl)
          simp only [Act.put, List.setIfInBounds_toArray, List.set_cons_zero, List.set_cons_succ]
          try simp only [Act.put, List.setIfInBounds_toArray, List.set_cons_zero, List.set_cons_succ]
          refine wpAnyH_take (i := 12) (oi := ⟨some 60, _, _, _, _, _⟩) (v := ?_) rfl (by kernel_rfl) (by kernel_rfl) (by kernel_rfl) (fun _ _ _ h => h) (Or.inl ⟨by rfl, ?_⟩) hS ?_
          rotate_left
          · (intro w' hSw; clear hSw; go_simp; try with_reducible rfl)
          simp only [Act.put, List.setIfInBounds_toArray, List.set_cons_zero, List.set_cons_succ]
          try simp only [Act.put, List.setIfInBounds_toArray, List.set_cons_zero, List.set_cons_succ]
          refine wpAnyH_take (i := 13) (oi := ⟨some 61, _, _, _, _, _⟩) (v := ?_) rfl (by kernel_rfl) (by kernel_rfl) (by kernel_rfl) (fun _ _ _ h => h) (Or.inl ⟨by rfl, ?_⟩) hS ?_
          rotate_left
          · (intro w' hSw; clear hSw; go_simp; try with_reducible rfl)
          simp only [Act.put, List.setIfInBounds_toArray, List.set_cons_zero, List.set_cons_succ]
          try simp only [Act.put, List.setIfInBounds_toArray, List.set_cons_zero, List.set_cons_succ]
          refine wpAnyH_take (i := 14) (oi := ⟨some 62, _, _, _, _, _⟩) (v := ?_) rfl (by kernel_rfl) (by kernel_rfl) (by kernel_rfl) (fun _ _ _ h => h) (Or.inl ⟨by rfl, ?_⟩) hS ?_
          rotate_left
          · (intro w' hSw; clear hSw; go_simp; try with_reducible rfl)
          simp only [Act.put, List.setIfInBounds_toArray, List.set_cons_zero, List.set_cons_succ]
          try simp only [Act.put, List.setIfInBounds_toArray, List.set_cons_zero, List.set_cons_succ]
          refine wpAnyH_take (i := 15) (oi := ⟨some 63, _, _, _, _, _⟩) (v := ?_) rfl (by kernel_rfl) (by kernel_rfl) (by kernel_rfl) (fun _ _ _ h => h) (Or.inl ⟨by rfl, ?_⟩) hS ?_
          rotate_left
          · (intro w' hSw; have c0_6 := (hSw).get 6 (.int .u64 (u xb)) (by decide) rfl; clear hSw; go_simp; try with_reducible rfl)
          simp only [Act.put, List.setIfInBounds_toArray, List.set_cons_zero, List.set_cons_succ]
          try simp only [Act.put, List.setIfInBounds_toArray, List.set_cons_zero, List.set_cons_succ]
          refine wpAnyH_take (i := 16) (oi := ⟨some 64, _, _, _, _, _⟩) (v := ?_) rfl (by kernel_rfl) (by kernel_rfl) (by kernel_rfl) (fun _ _ _ h => h) (Or.inl ⟨by rfl, ?_⟩) hS ?_
          rotate_left
          · (intro w' hSw; clear hSw; go_simp; try with_reducible rfl)
          simp only [Act.put, List.setIfInBounds_toArray, List.set_cons_zero, List.set_cons_succ]
          try simp only [Act.put, List.setIfInBounds_toArray, List.set_cons_zero, List.set_cons_succ]
          refine wpAnyH_ready (rs := [17]) (by kernel_rfl) (by simp) ?_
          refine AllReadyH.cons (o := ⟨some 65, _, _, _, _, _⟩) rfl (fun K hK => ?_) AllReadyH.nil
          go_simp
          refine (HK.out _).mono ?_
          rintro e w4 ⟨rfl, hb4⟩
          have hz4 := hb4.size
          try simp at hz4
          refine hK.out _ _ ?_ (fun hS' => ?_)
          · exact (hS.below hb4)
          clear hK K hS
          have hS := hS'
          clear hS'
          try simp only [Act.put, List.setIfInBounds_toArray, List.set_cons_zero, List.set_cons_succ]
          try simp only [Act.put, List.setIfInBounds_toArray, List.set_cons_zero, List.set_cons_succ]
          refine wpAnyH_take (i := 18) (oi := ⟨some 66, _, _, _, _, _⟩) (v := ?_) rfl (by kernel_rfl) (by kernel_rfl) (by kernel_rfl) (fun _ _ _ h => h) (Or.inl ⟨by rfl, ?_⟩) hS ?_
          rotate_left
          · (intro w' hSw; clear hSw; go_simp; try with_reducible rfl)
          simp only [Act.put, List.setIfInBounds_toArray, List.set_cons_zero, List.set_cons_succ]
          try simp only [Act.put, List.setIfInBounds_toArray, List.set_cons_zero, List.set_cons_succ]
          refine wpAnyH_take (i := 19) (oi := ⟨some 67, _, _, _, _, _⟩) (v := ?_) rfl (by kernel_rfl) (by kernel_rfl) (by kernel_rfl) (fun _ _ _ h => h) (Or.inl ⟨by rfl, ?_⟩) hS ?_
          rotate_left
          · (intro w' hSw; clear hSw; go_simp; try with_reducible rfl)
          simp only [Act.put, List.setIfInBounds_toArray, List.set_cons_zero, List.set_cons_succ]
          refine wpAnyH_done (by kernel_rfl) ?_ _
          try simp only [Act.put, List.setIfInBounds_toArray, List.set_cons_zero, List.set_cons_succ]
          have B5 := Lib.hid ((bel_trans (Below.drew B2.out) hb4))
          obtain ⟨W5, hW5⟩ : ∃ W5, W5 = w4 := ⟨_, rfl⟩
          have hs5 : mr ≤ W5.heap.size := by rw [hW5]; first | exact hs2 | omega | (simp; omega)
          rw [← hW5] at B5 ⊢
          clear hW5 B2 hs2
          go_wp2
          go_roundw
          case rel => exact ⟨j + 1, by omega, by go_num, B5.out⟩
          case measure => simp [intOf] <;> omega
    · go_wp2_with fail
      refine (HWK.out _).mono ?_
      rintro e w1 ⟨rfl, hb1⟩
      have hz1 := hb1.size
      have B1 := Lib.hid ((bel_trans Br.out hb1))
      skip
      have hs1 : mr ≤ w1.heap.size := by omega
      clear Br hsr hb1 hz1
      go_wp2
      go_ret
      exact ⟨rfl, B1.out⟩
theorem moves12_walk (PD : AluDoC) (f : Option Addr) (l c : Nat) (w : World) (q : Nat → Q12) (hl : l ≤ 1000000000000000) (hq : SeqAt 8 ask12V Ok12 w f l q) :
    Calls Try.prog 5 #[.slice f l c] w fun e w' => e = .returned (.bool true) ∧ Below w.heap.size w w' := by
  have H := Lib.hid (each12_walk PD f l c w q hl hq 1 (by decide) (by decide))
  go_enter Try.func5, Try.ntmps5
  go_wp2_with fail
  refine H.out.mono ?_
  rintro e w1 ⟨rfl, hb⟩
  go_wp2
  go_ret
  exact ⟨rfl, hb⟩
theorem adds12_walk (PD : AluDoC) (f : Option Addr) (l c : Nat) (w : World) (q : Nat → Q12) (hl : l ≤ 1000000000000000) (hq : SeqAt 8 ask12V Ok12 w f l q) :
    Calls Try.prog 6 #[.slice f l c] w fun e w' => e = .returned (.bool true) ∧ Below w.heap.size w w' := by
  have H := Lib.hid (each12_walk PD f l c w q hl hq 2 (by decide) (by decide))
  go_enter Try.func6, Try.ntmps6
  go_wp2_with fail
  refine H.out.mono ?_
  rintro e w1 ⟨rfl, hb⟩
  go_wp2
  go_ret
  exact ⟨rfl, hb⟩
theorem subs12_walk (PD : AluDoC) (f : Option Addr) (l c : Nat) (w : World) (q : Nat → Q12) (hl : l ≤ 1000000000000000) (hq : SeqAt 8 ask12V Ok12 w f l q) :
    Calls Try.prog 7 #[.slice f l c] w fun e w' => e = .returned (.bool true) ∧ Below w.heap.size w w' := by
  have H := Lib.hid (each12_walk PD f l c w q hl hq 3 (by decide) (by decide))
  go_enter Try.func7, Try.ntmps7
  go_wp2_with fail
  refine H.out.mono ?_
  rintro e w1 ⟨rfl, hb⟩
  go_wp2
  go_ret
  exact ⟨rfl, hb⟩
theorem ands12_walk (PD : AluDoC) (f : Option Addr) (l c : Nat) (w : World) (q : Nat → Q12) (hl : l ≤ 1000000000000000) (hq : SeqAt 8 ask12V Ok12 w f l q) :
    Calls Try.prog 8 #[.slice f l c] w fun e w' => e = .returned (.bool true) ∧ Below w.heap.size w w' := by
  have H := Lib.hid (each12_walk PD f l c w q hl hq 4 (by decide) (by decide))
  go_enter Try.func8, Try.ntmps8
  go_wp2_with fail
  refine H.out.mono ?_
  rintro e w1 ⟨rfl, hb⟩
  go_wp2
  go_ret
  exact ⟨rfl, hb⟩
theorem ors12_walk (PD : AluDoC) (f : Option Addr) (l c : Nat) (w : World) (q : Nat → Q12) (hl : l ≤ 1000000000000000) (hq : SeqAt 8 ask12V Ok12 w f l q) :
    Calls Try.prog 9 #[.slice f l c] w fun e w' => e = .returned (.bool true) ∧ Below w.heap.size w w' := by
  have H := Lib.hid (each12_walk PD f l c w q hl hq 5 (by decide) (by decide))
  go_enter Try.func9, Try.ntmps9
  go_wp2_with fail
  refine H.out.mono ?_
  rintro e w1 ⟨rfl, hb⟩
  go_wp2
  go_ret
  exact ⟨rfl, hb⟩
theorem xors12_walk (PD : AluDoC) (f : Option Addr) (l c : Nat) (w : World) (q : Nat → Q12) (hl : l ≤ 1000000000000000) (hq : SeqAt 8 ask12V Ok12 w f l q) :
    Calls Try.prog 10 #[.slice f l c] w fun e w' => e = .returned (.bool true) ∧ Below w.heap.size w w' := by
  have H := Lib.hid (each12_walk PD f l c w q hl hq 6 (by decide) (by decide))
  go_enter Try.func10, Try.ntmps10
  go_wp2_with fail
  refine H.out.mono ?_
  rintro e w1 ⟨rfl, hb⟩
  go_wp2
  go_ret
  exact ⟨rfl, hb⟩
set_option maxRecDepth 100000 in
set_option maxHeartbeats 3200000 in
theorem back12_walk (PD : AluDoC) (f : Option Addr) (l c : Nat) (w : World) (q : Nat → Q12) (hl : l ≤ 1000000000000000) (hq : SeqAt 8 ask12V Ok12 w f l q) :
    Calls Try.prog 4 #[.slice f l c] w fun e w' => e = .returned (.bool true) ∧ Below w.heap.size w w' := by
  have HQ := Lib.hid hq
  have HWK := Lib.hid (fun W => wakes12_any PD W)
  have PD := Lib.hid PD
  clear hq
  have htw : w.heap.size ≤ w.heap.size := Nat.le_refl _
  have B0 := Lib.hid (Below.refl w.heap.size w)
  go_enter Try.func4, Try.ntmps4
  go_wp2
  go_loopw [3] (fun i wr => ∃ (j : Nat), j ≤ l ∧ i = .int .i64 j ∧ Hid (Below w.heap.size w wr)) (fun i _ => l - (intOf i).toNat)
  case atStart => exact ⟨0, by omega, rfl, B0.out⟩
  case round =>
    clear B0
    obtain ⟨j, hkj, rfl, Br⟩ := hrel
    obtain ⟨mr, hmr⟩ : ∃ mr, mr = wr.heap.size := ⟨_, rfl⟩
    have hgwr : w.heap.size ≤ mr := by rw [hmr]; exact Br.out.size
    have hsr : mr ≤ wr.heap.size := by omega
    clear hmr
    by_cases hltj : j < l
    · have ik0j : (0 : Int) ≤ (j : Int) := by omega
      have ik1j : (j : Int) < (l : Int) := by omega
      have ikwj : IntKind.i64.wrap ((j : Int) + 1) = (j : Int) + 1 := IntWalk.i64_in _ (by omega)
      by_cases hlij : j < 15
      rotate_left
      · have dlj : decide ((j : Int) < 15) = false := decide_eq_false (by omega)
        go_wp2_with fail
        refine (HWK.out _).mono ?_
        rintro e w1 ⟨rfl, hb1⟩
        have hz1 := hb1.size
        have B1 := Lib.hid ((bel_trans Br.out hb1))
        skip
        have hs1 : mr ≤ w1.heap.size := by omega
        clear Br hsr hb1 hz1
        go_wp2
        go_ret
        exact ⟨rfl, B1.out⟩
      have dlj : decide ((j : Int) < 15) = true := decide_eq_true (by omega)
      obtain ⟨b, o, rfl, hr, hok⟩ := HQ.out j hltj
      have HRq := Lib.hid (show RowAt w b (o + j * 8) 8 (ask12V (q j)) from hr)
      have HOK := Lib.hid hok
      have hbq : b < w.heap.size := hr.lt
      clear hr hok
      generalize q j = qj at *
      obtain ⟨⟨xo, xd, xn, xm, xi⟩, xa, xb, xf, xl, xc, xX⟩ := qj
      unfold ask12V at HRq
      simp only at HRq
      by_cases hi1 : xi < -2048
      · have d1 : decide (xi < -2048) = true := decide_eq_true hi1
        obtain ⟨r1, hr1⟩ : ∃ r1, doI 2 7 xa xb = r1 := ⟨_, rfl⟩
        obtain ⟨r3, hr3⟩ : ∃ r3, xa ^^^ xb = r3 := ⟨_, rfl⟩
        obtain ⟨r5, hr5⟩ : ∃ r5, xa &&& xb = r5 := ⟨_, rfl⟩
        obtain ⟨r6, hr6⟩ : ∃ r6, xa ||| xb = r6 := ⟨_, rfl⟩
        obtain ⟨sm, hs2⟩ : ∃ sm, xa + xb = sm := ⟨_, rfl⟩
        have e3 : doI 3 7 r1 xb = xa := by rw [← hr1]; exact add_back xa xb (immW 7)
        have e6 : doI 6 0 r3 xb = xa := by rw [← hr3]; exact xor_twice xa xb
        have hs1 : r5 + r6 = sm := by rw [← hr5, ← hr6, ← hs2]; exact and_or_sum xa xb
        have hs3 : r6 - r5 = r3 := by rw [← hr5, ← hr6, ← hr3]; exact or_sub_and xa xb
        have e5 : doI 6 0 xa xb = r3 := hr3
        have e4 : doI 4 0 xa xb = r5 := hr5
        have e7 : doI 5 0 xa xb = r6 := hr6
        have H1 := Lib.hid (fun W => PD.out ⟨2, 0, 0, 0, 7⟩ xa xb W)
        rw [if_pos (mayDo_of (show (1 : Int) ≤ 2 by decide) (show (2 : Int) ≤ 6 by decide) (show (-2048 : Int) ≤ 7 by omega) (show (7 : Int) ≤ 2047 by omega)), if_pos (mayDo_of (show (1 : Int) ≤ 2 by decide) (show (2 : Int) ≤ 6 by decide) (show (-2048 : Int) ≤ 7 by omega) (show (7 : Int) ≤ 2047 by omega))] at H1
        unfold insV at H1
        simp only at H1
        rw [hr1] at H1
        have H2 := Lib.hid (fun W => PD.out ⟨3, 0, 0, 0, 7⟩ r1 xb W)
        rw [if_pos (mayDo_of (show (1 : Int) ≤ 3 by decide) (show (3 : Int) ≤ 6 by decide) (show (-2048 : Int) ≤ 7 by omega) (show (7 : Int) ≤ 2047 by omega)), if_pos (mayDo_of (show (1 : Int) ≤ 3 by decide) (show (3 : Int) ≤ 6 by decide) (show (-2048 : Int) ≤ 7 by omega) (show (7 : Int) ≤ 2047 by omega))] at H2
        unfold insV at H2
        simp only at H2
        rw [e3] at H2
        have H3 := Lib.hid (fun W => PD.out ⟨6, 0, 0, 0, 0⟩ xa xb W)
        rw [if_pos (mayDo_of (show (1 : Int) ≤ 6 by decide) (show (6 : Int) ≤ 6 by decide) (show (-2048 : Int) ≤ 0 by omega) (show (0 : Int) ≤ 2047 by omega)), if_pos (mayDo_of (show (1 : Int) ≤ 6 by decide) (show (6 : Int) ≤ 6 by decide) (show (-2048 : Int) ≤ 0 by omega) (show (0 : Int) ≤ 2047 by omega))] at H3
        unfold insV at H3
        simp only at H3
        rw [e5] at H3
        have H4 := Lib.hid (fun W => PD.out ⟨6, 0, 0, 0, 0⟩ r3 xb W)
        rw [if_pos (mayDo_of (show (1 : Int) ≤ 6 by decide) (show (6 : Int) ≤ 6 by decide) (show (-2048 : Int) ≤ 0 by omega) (show (0 : Int) ≤ 2047 by omega)), if_pos (mayDo_of (show (1 : Int) ≤ 6 by decide) (show (6 : Int) ≤ 6 by decide) (show (-2048 : Int) ≤ 0 by omega) (show (0 : Int) ≤ 2047 by omega))] at H4
        unfold insV at H4
        simp only at H4
        rw [e6] at H4
        have H5 := Lib.hid (fun W => PD.out ⟨4, 0, 0, 0, 0⟩ xa xb W)
        rw [if_pos (mayDo_of (show (1 : Int) ≤ 4 by decide) (show (4 : Int) ≤ 6 by decide) (show (-2048 : Int) ≤ 0 by omega) (show (0 : Int) ≤ 2047 by omega)), if_pos (mayDo_of (show (1 : Int) ≤ 4 by decide) (show (4 : Int) ≤ 6 by decide) (show (-2048 : Int) ≤ 0 by omega) (show (0 : Int) ≤ 2047 by omega))] at H5
        unfold insV at H5
        simp only at H5
        rw [e4] at H5
        have H6 := Lib.hid (fun W => PD.out ⟨5, 0, 0, 0, 0⟩ xa xb W)
        rw [if_pos (mayDo_of (show (1 : Int) ≤ 5 by decide) (show (5 : Int) ≤ 6 by decide) (show (-2048 : Int) ≤ 0 by omega) (show (0 : Int) ≤ 2047 by omega)), if_pos (mayDo_of (show (1 : Int) ≤ 5 by decide) (show (5 : Int) ≤ 6 by decide) (show (-2048 : Int) ≤ 0 by omega) (show (0 : Int) ≤ 2047 by omega))] at H6
        unfold insV at H6
        simp only at H6
        rw [e7] at H6
        clear hr1 hr3 hr5 hr6 e3 e4 e5 e6 e7
        go_upto_region 4 with fail
        refine wp_region_held_drew (S := (fun w' => RowAt w' (b) (o + j * 8) 8 #[.int .i64 xo, .int .i64 xd, .int .i64 xn, .int .i64 xm, .int .i64 xi, .int .u64 (u xa), .int .u64 (u xb), .slice xf xl xc])) (by kernel_rfl) ((HRq.out.below Br.out).drew) (fun hS => ?_)
        refine tkR 0 29 (v := .slice (some ⟨b, o, none⟩) l c) rfl hS (fun _ _ => by kernel_rfl) ?_
        refine tkR 1 30 (v := .int .i64 j) rfl hS (fun _ _ => by kernel_rfl) ?_
        refine tkR 2 31 (v := .pointer (some ⟨b, o + j * 8, none⟩)) rfl hS (fun _ _ => run_ixN 22 28 (.tmp 29) (.tmp 30) b o l c j 8 (by kernel_rfl) (by kernel_rfl) (by kernel_rfl) Try.underlying22 (by kernel_rfl) hltj) ?_
        refine tkR 3 32 (v := .pointer (some ⟨b, o + j * 8 + 5, none⟩)) rfl hS (fun _ _ => by kernel_rfl) ?_
        refine tkR 4 33 (v := .int .u64 (u xa)) rfl hS (fun _ h => run_ld1 25 (.tmp 32) b (o + j * 8 + 5) (by kernel_rfl) (by kernel_rfl) Try.underlying25 rfl ((h).get 5 (.int .u64 (u xa)) (by decide) rfl)) ?_
        refine tkR 5 34 (v := .slice (some ⟨b, o, none⟩) l c) rfl hS (fun _ _ => by kernel_rfl) ?_
        refine tkR 6 35 (v := .int .i64 j) rfl hS (fun _ _ => by kernel_rfl) ?_
        refine tkR 7 36 (v := .pointer (some ⟨b, o + j * 8, none⟩)) rfl hS (fun _ _ => run_ixN 22 28 (.tmp 34) (.tmp 35) b o l c j 8 (by kernel_rfl) (by kernel_rfl) (by kernel_rfl) Try.underlying22 (by kernel_rfl) hltj) ?_
        refine tkR 8 37 (v := .pointer (some ⟨b, o + j * 8 + 6, none⟩)) rfl hS (fun _ _ => by kernel_rfl) ?_
        refine tkR 9 38 (v := .int .u64 (u xb)) rfl hS (fun _ h => run_ld1 25 (.tmp 37) b (o + j * 8 + 6) (by kernel_rfl) (by kernel_rfl) Try.underlying25 rfl ((h).get 6 (.int .u64 (u xb)) (by decide) rfl)) ?_
        refine tkR 10 4 (v := .int .u64 (u xa)) rfl hS (fun _ _ => by kernel_rfl) ?_
        refine tkR 11 5 (v := .int .u64 (u xb)) rfl hS (fun _ _ => by kernel_rfl) ?_
        refine wpAnyH_done (by kernel_rfl) ?_ _
        try simp only [Act.put, List.setIfInBounds_toArray, List.set_cons_zero, List.set_cons_succ]
        have B1 := Lib.hid ((Below.drew Br.out))
        obtain ⟨W1, hW1⟩ : ∃ W1, W1 = (wr).drew := ⟨_, rfl⟩
        have hs1 : mr ≤ W1.heap.size := by rw [hW1]; first | exact hsr | omega | (simp; omega)
        rw [← hW1] at B1 ⊢
        clear hW1 Br hsr
        have yq := (HRq.out.below B1.out)
        have yq4 := yq.get 4 (.int .i64 xi) (by decide) rfl
        clear yq
        go_wp2_with fail
        refine (H1.out _).mono ?_
        rintro e w2 ⟨rfl, hb2⟩
        have hz2 := hb2.size
        have B2 := Lib.hid ((bel_trans B1.out hb2))
        skip
        have hs2 : mr ≤ w2.heap.size := by omega
        clear yq4
        clear B1 hs1 hb2 hz2
        go_wp2_with fail
        refine (H2.out _).mono ?_
        rintro e w3 ⟨rfl, hb3⟩
        have hz3 := hb3.size
        have B3 := Lib.hid ((bel_trans B2.out hb3))
        skip
        have hs3 : mr ≤ w3.heap.size := by omega
        clear B2 hs2 hb3 hz3
        go_wp2_with fail
        refine (H3.out _).mono ?_
        rintro e w4 ⟨rfl, hb4⟩
        have hz4 := hb4.size
        have B4 := Lib.hid ((bel_trans B3.out hb4))
        skip
        have hs4 : mr ≤ w4.heap.size := by omega
        clear B3 hs3 hb4 hz4
        go_wp2_with fail
        refine (H4.out _).mono ?_
        rintro e w5 ⟨rfl, hb5⟩
        have hz5 := hb5.size
        have B5 := Lib.hid ((bel_trans B4.out hb5))
        skip
        have hs5 : mr ≤ w5.heap.size := by omega
        clear B4 hs4 hb5 hz5
        go_wp2_with fail
        refine (H5.out _).mono ?_
        rintro e w6 ⟨rfl, hb6⟩
        have hz6 := hb6.size
        have B6 := Lib.hid ((bel_trans B5.out hb6))
        skip
        have hs6 : mr ≤ w6.heap.size := by omega
        clear B5 hs5 hb6 hz6
        go_wp2_with fail
        refine (H6.out _).mono ?_
        rintro e w7 ⟨rfl, hb7⟩
        have hz7 := hb7.size
        have B7 := Lib.hid ((bel_trans B6.out hb7))
        skip
        have hs7 : mr ≤ w7.heap.size := by omega
        clear B6 hs6 hb7 hz7
        go_wp2_with fail
        refine (lnum12_any _ _).mono ?_
        rintro e w8 ⟨rfl, rfl⟩
        go_wp2_with fail
        refine (lnum12_any _ _).mono ?_
        rintro e w9 ⟨rfl, rfl⟩
        go_wp2_with fail
        refine (lnum12_any _ _).mono ?_
        rintro e w10 ⟨rfl, rfl⟩
        go_wp2_with fail
        refine (lnum12_any _ _).mono ?_
        rintro e w11 ⟨rfl, rfl⟩
        go_wp2_with fail
        refine (lnum12_any _ _).mono ?_
        rintro e w12 ⟨rfl, rfl⟩
        go_wp2_with fail
        refine (lnum12_any _ _).mono ?_
        rintro e w13 ⟨rfl, rfl⟩
        go_wp2
        go_roundw
        case rel => exact ⟨j + 1, by omega, by go_num, B7.out⟩
        case measure => simp [intOf] <;> omega
      · have d1 : decide (xi < -2048) = false := decide_eq_false hi1
        by_cases hi2 : 2047 < xi
        · have d2 : decide (2047 < xi) = true := decide_eq_true hi2
          obtain ⟨r1, hr1⟩ : ∃ r1, doI 2 7 xa xb = r1 := ⟨_, rfl⟩
          obtain ⟨r3, hr3⟩ : ∃ r3, xa ^^^ xb = r3 := ⟨_, rfl⟩
          obtain ⟨r5, hr5⟩ : ∃ r5, xa &&& xb = r5 := ⟨_, rfl⟩
          obtain ⟨r6, hr6⟩ : ∃ r6, xa ||| xb = r6 := ⟨_, rfl⟩
          obtain ⟨sm, hs2⟩ : ∃ sm, xa + xb = sm := ⟨_, rfl⟩
          have e3 : doI 3 7 r1 xb = xa := by rw [← hr1]; exact add_back xa xb (immW 7)
          have e6 : doI 6 0 r3 xb = xa := by rw [← hr3]; exact xor_twice xa xb
          have hs1 : r5 + r6 = sm := by rw [← hr5, ← hr6, ← hs2]; exact and_or_sum xa xb
          have hs3 : r6 - r5 = r3 := by rw [← hr5, ← hr6, ← hr3]; exact or_sub_and xa xb
          have e5 : doI 6 0 xa xb = r3 := hr3
          have e4 : doI 4 0 xa xb = r5 := hr5
          have e7 : doI 5 0 xa xb = r6 := hr6
          have H1 := Lib.hid (fun W => PD.out ⟨2, 0, 0, 0, 7⟩ xa xb W)
          rw [if_pos (mayDo_of (show (1 : Int) ≤ 2 by decide) (show (2 : Int) ≤ 6 by decide) (show (-2048 : Int) ≤ 7 by omega) (show (7 : Int) ≤ 2047 by omega)), if_pos (mayDo_of (show (1 : Int) ≤ 2 by decide) (show (2 : Int) ≤ 6 by decide) (show (-2048 : Int) ≤ 7 by omega) (show (7 : Int) ≤ 2047 by omega))] at H1
          unfold insV at H1
          simp only at H1
          rw [hr1] at H1
          have H2 := Lib.hid (fun W => PD.out ⟨3, 0, 0, 0, 7⟩ r1 xb W)
          rw [if_pos (mayDo_of (show (1 : Int) ≤ 3 by decide) (show (3 : Int) ≤ 6 by decide) (show (-2048 : Int) ≤ 7 by omega) (show (7 : Int) ≤ 2047 by omega)), if_pos (mayDo_of (show (1 : Int) ≤ 3 by decide) (show (3 : Int) ≤ 6 by decide) (show (-2048 : Int) ≤ 7 by omega) (show (7 : Int) ≤ 2047 by omega))] at H2
          unfold insV at H2
          simp only at H2
          rw [e3] at H2
          have H3 := Lib.hid (fun W => PD.out ⟨6, 0, 0, 0, 0⟩ xa xb W)
          rw [if_pos (mayDo_of (show (1 : Int) ≤ 6 by decide) (show (6 : Int) ≤ 6 by decide) (show (-2048 : Int) ≤ 0 by omega) (show (0 : Int) ≤ 2047 by omega)), if_pos (mayDo_of (show (1 : Int) ≤ 6 by decide) (show (6 : Int) ≤ 6 by decide) (show (-2048 : Int) ≤ 0 by omega) (show (0 : Int) ≤ 2047 by omega))] at H3
          unfold insV at H3
          simp only at H3
          rw [e5] at H3
          have H4 := Lib.hid (fun W => PD.out ⟨6, 0, 0, 0, 0⟩ r3 xb W)
          rw [if_pos (mayDo_of (show (1 : Int) ≤ 6 by decide) (show (6 : Int) ≤ 6 by decide) (show (-2048 : Int) ≤ 0 by omega) (show (0 : Int) ≤ 2047 by omega)), if_pos (mayDo_of (show (1 : Int) ≤ 6 by decide) (show (6 : Int) ≤ 6 by decide) (show (-2048 : Int) ≤ 0 by omega) (show (0 : Int) ≤ 2047 by omega))] at H4
          unfold insV at H4
          simp only at H4
          rw [e6] at H4
          have H5 := Lib.hid (fun W => PD.out ⟨4, 0, 0, 0, 0⟩ xa xb W)
          rw [if_pos (mayDo_of (show (1 : Int) ≤ 4 by decide) (show (4 : Int) ≤ 6 by decide) (show (-2048 : Int) ≤ 0 by omega) (show (0 : Int) ≤ 2047 by omega)), if_pos (mayDo_of (show (1 : Int) ≤ 4 by decide) (show (4 : Int) ≤ 6 by decide) (show (-2048 : Int) ≤ 0 by omega) (show (0 : Int) ≤ 2047 by omega))] at H5
          unfold insV at H5
          simp only at H5
          rw [e4] at H5
          have H6 := Lib.hid (fun W => PD.out ⟨5, 0, 0, 0, 0⟩ xa xb W)
          rw [if_pos (mayDo_of (show (1 : Int) ≤ 5 by decide) (show (5 : Int) ≤ 6 by decide) (show (-2048 : Int) ≤ 0 by omega) (show (0 : Int) ≤ 2047 by omega)), if_pos (mayDo_of (show (1 : Int) ≤ 5 by decide) (show (5 : Int) ≤ 6 by decide) (show (-2048 : Int) ≤ 0 by omega) (show (0 : Int) ≤ 2047 by omega))] at H6
          unfold insV at H6
          simp only at H6
          rw [e7] at H6
          clear hr1 hr3 hr5 hr6 e3 e4 e5 e6 e7
          go_upto_region 4 with fail
          refine wp_region_held_drew (S := (fun w' => RowAt w' (b) (o + j * 8) 8 #[.int .i64 xo, .int .i64 xd, .int .i64 xn, .int .i64 xm, .int .i64 xi, .int .u64 (u xa), .int .u64 (u xb), .slice xf xl xc])) (by kernel_rfl) ((HRq.out.below Br.out).drew) (fun hS => ?_)
          refine tkR 0 29 (v := .slice (some ⟨b, o, none⟩) l c) rfl hS (fun _ _ => by kernel_rfl) ?_
          refine tkR 1 30 (v := .int .i64 j) rfl hS (fun _ _ => by kernel_rfl) ?_
          refine tkR 2 31 (v := .pointer (some ⟨b, o + j * 8, none⟩)) rfl hS (fun _ _ => run_ixN 22 28 (.tmp 29) (.tmp 30) b o l c j 8 (by kernel_rfl) (by kernel_rfl) (by kernel_rfl) Try.underlying22 (by kernel_rfl) hltj) ?_
          refine tkR 3 32 (v := .pointer (some ⟨b, o + j * 8 + 5, none⟩)) rfl hS (fun _ _ => by kernel_rfl) ?_
          refine tkR 4 33 (v := .int .u64 (u xa)) rfl hS (fun _ h => run_ld1 25 (.tmp 32) b (o + j * 8 + 5) (by kernel_rfl) (by kernel_rfl) Try.underlying25 rfl ((h).get 5 (.int .u64 (u xa)) (by decide) rfl)) ?_
          refine tkR 5 34 (v := .slice (some ⟨b, o, none⟩) l c) rfl hS (fun _ _ => by kernel_rfl) ?_
          refine tkR 6 35 (v := .int .i64 j) rfl hS (fun _ _ => by kernel_rfl) ?_
          refine tkR 7 36 (v := .pointer (some ⟨b, o + j * 8, none⟩)) rfl hS (fun _ _ => run_ixN 22 28 (.tmp 34) (.tmp 35) b o l c j 8 (by kernel_rfl) (by kernel_rfl) (by kernel_rfl) Try.underlying22 (by kernel_rfl) hltj) ?_
          refine tkR 8 37 (v := .pointer (some ⟨b, o + j * 8 + 6, none⟩)) rfl hS (fun _ _ => by kernel_rfl) ?_
          refine tkR 9 38 (v := .int .u64 (u xb)) rfl hS (fun _ h => run_ld1 25 (.tmp 37) b (o + j * 8 + 6) (by kernel_rfl) (by kernel_rfl) Try.underlying25 rfl ((h).get 6 (.int .u64 (u xb)) (by decide) rfl)) ?_
          refine tkR 10 4 (v := .int .u64 (u xa)) rfl hS (fun _ _ => by kernel_rfl) ?_
          refine tkR 11 5 (v := .int .u64 (u xb)) rfl hS (fun _ _ => by kernel_rfl) ?_
          refine wpAnyH_done (by kernel_rfl) ?_ _
          try simp only [Act.put, List.setIfInBounds_toArray, List.set_cons_zero, List.set_cons_succ]
          have B1 := Lib.hid ((Below.drew Br.out))
          obtain ⟨W1, hW1⟩ : ∃ W1, W1 = (wr).drew := ⟨_, rfl⟩
          have hs1 : mr ≤ W1.heap.size := by rw [hW1]; first | exact hsr | omega | (simp; omega)
          rw [← hW1] at B1 ⊢
          clear hW1 Br hsr
          have yq := (HRq.out.below B1.out)
          have yq4 := yq.get 4 (.int .i64 xi) (by decide) rfl
          clear yq
          go_wp2_with fail
          refine (H1.out _).mono ?_
          rintro e w2 ⟨rfl, hb2⟩
          have hz2 := hb2.size
          have B2 := Lib.hid ((bel_trans B1.out hb2))
          skip
          have hs2 : mr ≤ w2.heap.size := by omega
          clear yq4
          clear B1 hs1 hb2 hz2
          go_wp2_with fail
          refine (H2.out _).mono ?_
          rintro e w3 ⟨rfl, hb3⟩
          have hz3 := hb3.size
          have B3 := Lib.hid ((bel_trans B2.out hb3))
          skip
          have hs3 : mr ≤ w3.heap.size := by omega
          clear B2 hs2 hb3 hz3
          go_wp2_with fail
          refine (H3.out _).mono ?_
          rintro e w4 ⟨rfl, hb4⟩
          have hz4 := hb4.size
          have B4 := Lib.hid ((bel_trans B3.out hb4))
          skip
          have hs4 : mr ≤ w4.heap.size := by omega
          clear B3 hs3 hb4 hz4
          go_wp2_with fail
          refine (H4.out _).mono ?_
          rintro e w5 ⟨rfl, hb5⟩
          have hz5 := hb5.size
          have B5 := Lib.hid ((bel_trans B4.out hb5))
          skip
          have hs5 : mr ≤ w5.heap.size := by omega
          clear B4 hs4 hb5 hz5
          go_wp2_with fail
          refine (H5.out _).mono ?_
          rintro e w6 ⟨rfl, hb6⟩
          have hz6 := hb6.size
          have B6 := Lib.hid ((bel_trans B5.out hb6))
          skip
          have hs6 : mr ≤ w6.heap.size := by omega
          clear B5 hs5 hb6 hz6
          go_wp2_with fail
          refine (H6.out _).mono ?_
          rintro e w7 ⟨rfl, hb7⟩
          have hz7 := hb7.size
          have B7 := Lib.hid ((bel_trans B6.out hb7))
          skip
          have hs7 : mr ≤ w7.heap.size := by omega
          clear B6 hs6 hb7 hz7
          go_wp2_with fail
          refine (lnum12_any _ _).mono ?_
          rintro e w8 ⟨rfl, rfl⟩
          go_wp2_with fail
          refine (lnum12_any _ _).mono ?_
          rintro e w9 ⟨rfl, rfl⟩
          go_wp2_with fail
          refine (lnum12_any _ _).mono ?_
          rintro e w10 ⟨rfl, rfl⟩
          go_wp2_with fail
          refine (lnum12_any _ _).mono ?_
          rintro e w11 ⟨rfl, rfl⟩
          go_wp2_with fail
          refine (lnum12_any _ _).mono ?_
          rintro e w12 ⟨rfl, rfl⟩
          go_wp2_with fail
          refine (lnum12_any _ _).mono ?_
          rintro e w13 ⟨rfl, rfl⟩
          go_wp2
          go_roundw
          case rel => exact ⟨j + 1, by omega, by go_num, B7.out⟩
          case measure => simp [intOf] <;> omega
        · have d2 : decide (2047 < xi) = false := decide_eq_false hi2
          obtain ⟨r1, hr1⟩ : ∃ r1, doI 2 xi xa xb = r1 := ⟨_, rfl⟩
          obtain ⟨r3, hr3⟩ : ∃ r3, xa ^^^ xb = r3 := ⟨_, rfl⟩
          obtain ⟨r5, hr5⟩ : ∃ r5, xa &&& xb = r5 := ⟨_, rfl⟩
          obtain ⟨r6, hr6⟩ : ∃ r6, xa ||| xb = r6 := ⟨_, rfl⟩
          obtain ⟨sm, hs2⟩ : ∃ sm, xa + xb = sm := ⟨_, rfl⟩
          have e3 : doI 3 xi r1 xb = xa := by rw [← hr1]; exact add_back xa xb (immW xi)
          have e6 : doI 6 0 r3 xb = xa := by rw [← hr3]; exact xor_twice xa xb
          have hs1 : r5 + r6 = sm := by rw [← hr5, ← hr6, ← hs2]; exact and_or_sum xa xb
          have hs3 : r6 - r5 = r3 := by rw [← hr5, ← hr6, ← hr3]; exact or_sub_and xa xb
          have e5 : doI 6 0 xa xb = r3 := hr3
          have e4 : doI 4 0 xa xb = r5 := hr5
          have e7 : doI 5 0 xa xb = r6 := hr6
          have H1 := Lib.hid (fun W => PD.out ⟨2, 0, 0, 0, xi⟩ xa xb W)
          rw [if_pos (mayDo_of (show (1 : Int) ≤ 2 by decide) (show (2 : Int) ≤ 6 by decide) (show (-2048 : Int) ≤ xi by omega) (show (xi : Int) ≤ 2047 by omega)), if_pos (mayDo_of (show (1 : Int) ≤ 2 by decide) (show (2 : Int) ≤ 6 by decide) (show (-2048 : Int) ≤ xi by omega) (show (xi : Int) ≤ 2047 by omega))] at H1
          unfold insV at H1
          simp only at H1
          rw [hr1] at H1
          have H2 := Lib.hid (fun W => PD.out ⟨3, 0, 0, 0, xi⟩ r1 xb W)
          rw [if_pos (mayDo_of (show (1 : Int) ≤ 3 by decide) (show (3 : Int) ≤ 6 by decide) (show (-2048 : Int) ≤ xi by omega) (show (xi : Int) ≤ 2047 by omega)), if_pos (mayDo_of (show (1 : Int) ≤ 3 by decide) (show (3 : Int) ≤ 6 by decide) (show (-2048 : Int) ≤ xi by omega) (show (xi : Int) ≤ 2047 by omega))] at H2
          unfold insV at H2
          simp only at H2
          rw [e3] at H2
          have H3 := Lib.hid (fun W => PD.out ⟨6, 0, 0, 0, 0⟩ xa xb W)
          rw [if_pos (mayDo_of (show (1 : Int) ≤ 6 by decide) (show (6 : Int) ≤ 6 by decide) (show (-2048 : Int) ≤ 0 by omega) (show (0 : Int) ≤ 2047 by omega)), if_pos (mayDo_of (show (1 : Int) ≤ 6 by decide) (show (6 : Int) ≤ 6 by decide) (show (-2048 : Int) ≤ 0 by omega) (show (0 : Int) ≤ 2047 by omega))] at H3
          unfold insV at H3
          simp only at H3
          rw [e5] at H3
          have H4 := Lib.hid (fun W => PD.out ⟨6, 0, 0, 0, 0⟩ r3 xb W)
          rw [if_pos (mayDo_of (show (1 : Int) ≤ 6 by decide) (show (6 : Int) ≤ 6 by decide) (show (-2048 : Int) ≤ 0 by omega) (show (0 : Int) ≤ 2047 by omega)), if_pos (mayDo_of (show (1 : Int) ≤ 6 by decide) (show (6 : Int) ≤ 6 by decide) (show (-2048 : Int) ≤ 0 by omega) (show (0 : Int) ≤ 2047 by omega))] at H4
          unfold insV at H4
          simp only at H4
          rw [e6] at H4
          have H5 := Lib.hid (fun W => PD.out ⟨4, 0, 0, 0, 0⟩ xa xb W)
          rw [if_pos (mayDo_of (show (1 : Int) ≤ 4 by decide) (show (4 : Int) ≤ 6 by decide) (show (-2048 : Int) ≤ 0 by omega) (show (0 : Int) ≤ 2047 by omega)), if_pos (mayDo_of (show (1 : Int) ≤ 4 by decide) (show (4 : Int) ≤ 6 by decide) (show (-2048 : Int) ≤ 0 by omega) (show (0 : Int) ≤ 2047 by omega))] at H5
          unfold insV at H5
          simp only at H5
          rw [e4] at H5
          have H6 := Lib.hid (fun W => PD.out ⟨5, 0, 0, 0, 0⟩ xa xb W)
          rw [if_pos (mayDo_of (show (1 : Int) ≤ 5 by decide) (show (5 : Int) ≤ 6 by decide) (show (-2048 : Int) ≤ 0 by omega) (show (0 : Int) ≤ 2047 by omega)), if_pos (mayDo_of (show (1 : Int) ≤ 5 by decide) (show (5 : Int) ≤ 6 by decide) (show (-2048 : Int) ≤ 0 by omega) (show (0 : Int) ≤ 2047 by omega))] at H6
          unfold insV at H6
          simp only at H6
          rw [e7] at H6
          clear hr1 hr3 hr5 hr6 e3 e4 e5 e6 e7
          go_upto_region 4 with fail
          refine wp_region_held_drew (S := (fun w' => RowAt w' (b) (o + j * 8) 8 #[.int .i64 xo, .int .i64 xd, .int .i64 xn, .int .i64 xm, .int .i64 xi, .int .u64 (u xa), .int .u64 (u xb), .slice xf xl xc])) (by kernel_rfl) ((HRq.out.below Br.out).drew) (fun hS => ?_)
          refine tkR 0 29 (v := .slice (some ⟨b, o, none⟩) l c) rfl hS (fun _ _ => by kernel_rfl) ?_
          refine tkR 1 30 (v := .int .i64 j) rfl hS (fun _ _ => by kernel_rfl) ?_
          refine tkR 2 31 (v := .pointer (some ⟨b, o + j * 8, none⟩)) rfl hS (fun _ _ => run_ixN 22 28 (.tmp 29) (.tmp 30) b o l c j 8 (by kernel_rfl) (by kernel_rfl) (by kernel_rfl) Try.underlying22 (by kernel_rfl) hltj) ?_
          refine tkR 3 32 (v := .pointer (some ⟨b, o + j * 8 + 5, none⟩)) rfl hS (fun _ _ => by kernel_rfl) ?_
          refine tkR 4 33 (v := .int .u64 (u xa)) rfl hS (fun _ h => run_ld1 25 (.tmp 32) b (o + j * 8 + 5) (by kernel_rfl) (by kernel_rfl) Try.underlying25 rfl ((h).get 5 (.int .u64 (u xa)) (by decide) rfl)) ?_
          refine tkR 5 34 (v := .slice (some ⟨b, o, none⟩) l c) rfl hS (fun _ _ => by kernel_rfl) ?_
          refine tkR 6 35 (v := .int .i64 j) rfl hS (fun _ _ => by kernel_rfl) ?_
          refine tkR 7 36 (v := .pointer (some ⟨b, o + j * 8, none⟩)) rfl hS (fun _ _ => run_ixN 22 28 (.tmp 34) (.tmp 35) b o l c j 8 (by kernel_rfl) (by kernel_rfl) (by kernel_rfl) Try.underlying22 (by kernel_rfl) hltj) ?_
          refine tkR 8 37 (v := .pointer (some ⟨b, o + j * 8 + 6, none⟩)) rfl hS (fun _ _ => by kernel_rfl) ?_
          refine tkR 9 38 (v := .int .u64 (u xb)) rfl hS (fun _ h => run_ld1 25 (.tmp 37) b (o + j * 8 + 6) (by kernel_rfl) (by kernel_rfl) Try.underlying25 rfl ((h).get 6 (.int .u64 (u xb)) (by decide) rfl)) ?_
          refine tkR 10 4 (v := .int .u64 (u xa)) rfl hS (fun _ _ => by kernel_rfl) ?_
          refine tkR 11 5 (v := .int .u64 (u xb)) rfl hS (fun _ _ => by kernel_rfl) ?_
          refine wpAnyH_done (by kernel_rfl) ?_ _
          try simp only [Act.put, List.setIfInBounds_toArray, List.set_cons_zero, List.set_cons_succ]
          have B1 := Lib.hid ((Below.drew Br.out))
          obtain ⟨W1, hW1⟩ : ∃ W1, W1 = (wr).drew := ⟨_, rfl⟩
          have hs1 : mr ≤ W1.heap.size := by rw [hW1]; first | exact hsr | omega | (simp; omega)
          rw [← hW1] at B1 ⊢
          clear hW1 Br hsr
          have yq := (HRq.out.below B1.out)
          have yq4 := yq.get 4 (.int .i64 xi) (by decide) rfl
          clear yq
          go_wp2_with fail
          refine (H1.out _).mono ?_
          rintro e w2 ⟨rfl, hb2⟩
          have hz2 := hb2.size
          have B2 := Lib.hid ((bel_trans B1.out hb2))
          skip
          have hs2 : mr ≤ w2.heap.size := by omega
          clear yq4
          clear B1 hs1 hb2 hz2
          go_wp2_with fail
          refine (H2.out _).mono ?_
          rintro e w3 ⟨rfl, hb3⟩
          have hz3 := hb3.size
          have B3 := Lib.hid ((bel_trans B2.out hb3))
          skip
          have hs3 : mr ≤ w3.heap.size := by omega
          clear B2 hs2 hb3 hz3
          go_wp2_with fail
          refine (H3.out _).mono ?_
          rintro e w4 ⟨rfl, hb4⟩
          have hz4 := hb4.size
          have B4 := Lib.hid ((bel_trans B3.out hb4))
          skip
          have hs4 : mr ≤ w4.heap.size := by omega
          clear B3 hs3 hb4 hz4
          go_wp2_with fail
          refine (H4.out _).mono ?_
          rintro e w5 ⟨rfl, hb5⟩
          have hz5 := hb5.size
          have B5 := Lib.hid ((bel_trans B4.out hb5))
          skip
          have hs5 : mr ≤ w5.heap.size := by omega
          clear B4 hs4 hb5 hz5
          go_wp2_with fail
          refine (H5.out _).mono ?_
          rintro e w6 ⟨rfl, hb6⟩
          have hz6 := hb6.size
          have B6 := Lib.hid ((bel_trans B5.out hb6))
          skip
          have hs6 : mr ≤ w6.heap.size := by omega
          clear B5 hs5 hb6 hz6
          go_wp2_with fail
          refine (H6.out _).mono ?_
          rintro e w7 ⟨rfl, hb7⟩
          have hz7 := hb7.size
          have B7 := Lib.hid ((bel_trans B6.out hb7))
          skip
          have hs7 : mr ≤ w7.heap.size := by omega
          clear B6 hs6 hb7 hz7
          go_wp2_with fail
          refine (lnum12_any _ _).mono ?_
          rintro e w8 ⟨rfl, rfl⟩
          go_wp2_with fail
          refine (lnum12_any _ _).mono ?_
          rintro e w9 ⟨rfl, rfl⟩
          go_wp2_with fail
          refine (lnum12_any _ _).mono ?_
          rintro e w10 ⟨rfl, rfl⟩
          go_wp2_with fail
          refine (lnum12_any _ _).mono ?_
          rintro e w11 ⟨rfl, rfl⟩
          go_wp2_with fail
          refine (lnum12_any _ _).mono ?_
          rintro e w12 ⟨rfl, rfl⟩
          go_wp2_with fail
          refine (lnum12_any _ _).mono ?_
          rintro e w13 ⟨rfl, rfl⟩
          go_wp2
          go_roundw
          case rel => exact ⟨j + 1, by omega, by go_num, B7.out⟩
          case measure => simp [intOf] <;> omega
    · go_wp2_with fail
      refine (HWK.out _).mono ?_
      rintro e w1 ⟨rfl, hb1⟩
      have hz1 := hb1.size
      have B1 := Lib.hid ((bel_trans Br.out hb1))
      skip
      have hs1 : mr ≤ w1.heap.size := by omega
      clear Br hsr hb1 hz1
      go_wp2
      go_ret
      exact ⟨rfl, B1.out⟩
end Go.Proofs.Ythmcamgbnjfklaa
