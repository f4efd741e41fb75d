/- The walk of PermMays. -/
import Derived.Test.YtnklpfnmpnaegaaPb
import Derived.Deep.CutBlock
import Derived.Deep.DeepCutAuto
namespace Go.Proofs.Ytnklpfnmpnaegaa
open Go.ChangeShapes Go.WideShapes Go.ChangeAt Go.RowKit Go.Deep

set_option maxRecDepth 100000 in
set_option maxHeartbeats 12800000 in
theorem mays_walk (PM : MayC) (PF : FlagC) (PB : BothC) (f : Option Addr) (len cap : Nat) (q : Nat → Q6) (w : World) (hQ : SeqAt 5 ask6V Ok6 w f len q) :
    Calls Try.prog 3 #[.slice f len cap] w fun e w' => e = .returned (.bool true) ∧ Below w.heap.size w w' := by
  have HW6 := Lib.hid (fun W => wakes6_any PB W)
  have HQ := Lib.hid hQ
  have HPM := Lib.hid PM
  have HPF := Lib.hid PF
  clear hQ PM PF PB
  go_enter Try.func3, Try.ntmps3
  go_wp2
  go_loopw [3] (fun i wr => ∃ k : Nat, k ≤ len ∧ i = .int .i64 k ∧ Below w.heap.size w wr) (fun i _ => len - (intOf i).toNat)
  case atStart => exact ⟨0, Nat.zero_le _, rfl, Below.refl _ _⟩
  case round =>
    obtain ⟨k, hk, rfl, hb⟩ := hrel
    by_cases hlt : k < len ∧ k < 15
    · obtain ⟨hlt, hlt'⟩ := hlt
      obtain ⟨b, o, rfl, hr, hok⟩ := HQ.out k hlt
      generalize q k = qk at *
      obtain ⟨f1, n1, c1, L1, acc1, st, lv, pg⟩ := qk
      have hr := hr.below hb
      have y0 := hr.get0 (.slice f1 n1 c1) (by decide) rfl
      have y1 := hr.get 1 (.int .i64 acc1) (by decide) rfl
      have y2 := hr.get 2 (.int .i64 st) (by decide) rfl
      have y3 := hr.get 3 (.int .i64 lv) (by decide) rfl
      have y4 := hr.get 4 (.int .i64 pg) (by decide) rfl
      clear hr
      have i1 : (0 : Int) ≤ (k : Int) := by omega
      have i2 : (k : Int) < (len : Int) := by omega
      have d15 : decide ((k : Int) < 15) = true := decide_eq_true (by omega)
      have hn1 : Hid (n1 = L1.length) := hok.len
      have hn2 : n1 ≤ 1000000000000000 := hok.n1
      have RL := Lib.hid (hok.rows.below (bel_alloc hb (.cells #[.slice f1 n1 c1, .int .i64 acc1, .int .i64 st, .int .i64 lv, .int .i64 pg] 25)))
      have P0 := Lib.hid (BoxAt.new wr #[.slice f1 n1 c1, .int .i64 acc1, .int .i64 st, .int .i64 lv, .int .i64 pg] 25)
      have B0 := Lib.hid (bel_alloc hb (.cells #[.slice f1 n1 c1, .int .i64 acc1, .int .i64 st, .int .i64 lv, .int .i64 pg] 25))
      clear hok hb
      go_upto_region 5 with fail
      clear y0 y1 y2 y3 y4
      obtain ⟨W1, hW1⟩ : ∃ W1, W1 = wr.alloc (.cells #[.slice f1 n1 c1, .int .i64 acc1, .int .i64 st, .int .i64 lv, .int .i64 pg] 25) := ⟨_, rfl⟩
      obtain ⟨pb, hpb⟩ : ∃ pb, pb = wr.heap.size := ⟨_, rfl⟩
      rw [← hW1] at RL P0 B0 ⊢
      rw [← hpb] at P0 ⊢
      have RL : Hid (RowsAt KA W1 f1 L1) := RL
      clear hW1 hpb
      go_wp2_with fail
      obtain ⟨wa, rfl⟩ : ∃ wa : World, wa = wr := ⟨_, rfl⟩
      go_loopw [5] (fun i wi => ∃ j : Nat, j ≤ n1 ∧ i = .int .i64 j ∧ Below W1.heap.size W1 wi) (fun i _ => n1 - (intOf i).toNat)
      case atStart => exact ⟨0, Nat.zero_le _, rfl, Below.refl _ _⟩
      case round =>
        obtain ⟨j, hj, rfl, hb⟩ := hrel
        have pc0 := (P0.out.below hb).get 0 (.slice f1 n1 c1) rfl
        by_cases hjl : j < n1 ∧ j < 10
        · obtain ⟨hjl, hjl'⟩ := hjl
          have hq : ∃ t, L1[j]? = some t := ⟨_, List.getElem?_eq_getElem (by rw [← hn1.out]; exact hjl)⟩
          obtain ⟨t, ht⟩ := hq
          obtain ⟨ab, ao, rfl, hrow⟩ := RL.out j t ht
          obtain ⟨r, wr', x, a, n, s⟩ := t
          have HRow : Hid (RowAt W1 ab (ao + j * 6) 6 #[.bool r, .bool wr', .bool x, .bool a, .bool n, .int .i64 s]) := Lib.hid hrow
          have HB0 := Lib.hid hb
          have i3 : (0 : Int) ≤ (j : Int) := by omega
          have i4 : (j : Int) < (n1 : Int) := by omega
          have d10 : decide ((j : Int) < 10) = true := decide_eq_true (by omega)
          clear hrow ht hb
          go_wp2_with fail
          clear pc0
          obtain ⟨wb, rfl⟩ : ∃ wb : World, wb = wr := ⟨_, rfl⟩
          go_loopw [6] (fun i wi => ∃ acc : Int, -1 ≤ acc ∧ acc ≤ 4 ∧ i = .int .i64 acc ∧ Below W1.heap.size W1 wi) (fun i _ => (4 - intOf i).toNat)
          case atStart => exact ⟨-1, by decide, by decide, rfl, HB0.out⟩
          case round =>
            obtain ⟨acc, ha0, ha1, rfl, hb⟩ := hrel
            by_cases hacc : acc ≤ 3
            · have e3 : decide (acc ≤ 3) = true := decide_eq_true hacc
              have HM := Lib.hid (fun W => HPM.out ⟨r, wr', x, a, n, s⟩ acc W)
              have HFL := Lib.hid (fun W => HPF.out ⟨r, wr', x, a, n, s⟩ acc st lv pg W)
              have HRM := Lib.hid (fun W => mayA_any ⟨r, wr', x, a, n, s⟩ acc W)
              have HRF := Lib.hid (fun W => flagA_any ⟨r, wr', x, a, n, s⟩ acc st lv pg W)
              have HAC := Lib.hid (fun W => acc_any acc W)
              unfold atrV atrC at HM HFL HRM HRF
              simp only at HM HFL HRM HRF
              generalize mayA ⟨r, wr', x, a, n, s⟩ acc = mm at *
              generalize flagA ⟨r, wr', x, a, n, s⟩ acc st lv pg = ff at *
              obtain ⟨fk, fs, fl, fw, fp⟩ := ff
              have HB := Lib.hid hb
              have P2 := Lib.hid (P0.out.below hb)
              have A2 := Lib.hid (HRow.out.below hb)
              have hsW : W1.heap.size ≤ wr.heap.size := hb.size
              clear hb
              cases hac : numB acc 2
              · rw [hac, if_neg (by decide), Bool.false_and] at HM
                rw [hac, if_neg (by decide), if_neg (by decide)] at HFL
                rw [hac] at HAC
                unfold fltV at HFL HRF
                simp only [flt0] at HFL
                clear hac
                have Pc0 := P2.out.get 0 (.slice (some ⟨ab, ao, none⟩) n1 c1) rfl
                have a0 := A2.out.get0 (.bool r) (by decide) rfl
                have a1 := A2.out.get 1 (.bool wr') (by decide) rfl
                have a2 := A2.out.get 2 (.bool x) (by decide) rfl
                have a3 := A2.out.get 3 (.bool a) (by decide) rfl
                have a4 := A2.out.get 4 (.bool n) (by decide) rfl
                have a5 := A2.out.get 5 (.int .i64 s) (by decide) rfl
                go_wp2_with fail
                refine (HM.out _).mono ?_
                rintro e w11 ⟨rfl, hb11⟩
                have P12 := Lib.hid (P2.out.below hb11)
                have A12 := Lib.hid (A2.out.below hb11)
                have B12 := Lib.hid (bel_trans HB.out hb11)
                clear Pc0 a0 a1 a2 a3 a4 a5
                clear P2 A2 HB hb11
                have Pk := P12.out
                have Ak := A12.out
                have hlP := P12.out.lt
                have hlA := A12.out.lt
                go_upto_region 12 with fail
                go_cut [9, 10] (fun s9 s10 wx => ∃ (bF : Nat), s9 = .pointer (some ⟨bF, 0, none⟩) ∧ s10 = .int .i64 1 ∧ w11.heap.size ≤ bF ∧ Hid (Below w11.heap.size w11 wx) ∧ Hid (BoxAt wx bF #[.int .i64 0, .int .i64 0, .int .i64 0, .bool false, .int .i64 0] 32))
                case first =>
                  rename_i JJ KK hJJ hKK
                  refine wp_region_held_drew (S := (fun w' => BoxAt w' pb #[.slice (some ⟨ab, ao, none⟩) n1 c1, .int .i64 acc1, .int .i64 st, .int .i64 lv, .int .i64 pg] 25 ∧ RowAt w' ab (ao + j * 6) 6 #[.bool r, .bool wr', .bool x, .bool a, .bool n, .int .i64 s])) (by kernel_rfl) ?_ (fun hS => ?_)
                  · (exact ⟨(by repeat' (first | with_reducible exact Pk | with_reducible exact hS.1 | with_reducible refine BoxAt.row ?_ (by first | omega | (simp; done) | (simp; omega)) | with_reducible refine BoxAt.alloc ?_ _ | with_reducible refine BoxAt.drew ?_ | with_reducible refine BoxAt.below ?_ hb20)), (by repeat' (first | with_reducible exact Ak | with_reducible exact hS.2 | with_reducible refine RowAt.row ?_ (by first | omega | (simp; done) | (simp; omega)) | with_reducible refine RowAt.alloc ?_ _ | with_reducible refine RowAt.drew ?_ | with_reducible refine RowAt.below ?_ hb20))⟩)
                  refine wpAnyH_take (i := 0) (oi := ⟨some 54, _, _, _, _, _⟩) (v := ?_) rfl (by kernel_rfl) (by kernel_rfl) (by kernel_rfl) (fun _ _ _ h => h) (Or.inl ⟨by rfl, ?_⟩) hS ?_
                  rotate_left
                  · (intro w' hSw; obtain ⟨h1, h2⟩ := hSw; have s0 := h1.get 0 (.slice (some ⟨ab, ao, none⟩) n1 c1) rfl; have s2 := h1.get 2 (.int .i64 st) rfl; have s3 := h1.get 3 (.int .i64 lv) rfl; have s4 := h1.get 4 (.int .i64 pg) rfl; have a0 := h2.get0 (.bool r) (by decide) rfl; have a1 := h2.get 1 (.bool wr') (by decide) rfl; have a2 := h2.get 2 (.bool x) (by decide) rfl; have a3 := h2.get 3 (.bool a) (by decide) rfl; have a4 := h2.get 4 (.bool n) (by decide) rfl; have a5 := h2.get 5 (.int .i64 s) (by decide) rfl; clear h1 h2; go_simp; try with_reducible rfl)
                  simp only [Act.put, List.setIfInBounds_toArray, List.set_cons_zero, List.set_cons_succ]
                  refine wpAnyH_take (i := 1) (oi := ⟨some 55, _, _, _, _, _⟩) (v := ?_) rfl (by kernel_rfl) (by kernel_rfl) (by kernel_rfl) (fun _ _ _ h => h) (Or.inl ⟨by rfl, ?_⟩) hS ?_
                  rotate_left
                  · (intro w' hSw; obtain ⟨h1, h2⟩ := hSw; have s0 := h1.get 0 (.slice (some ⟨ab, ao, none⟩) n1 c1) rfl; have s2 := h1.get 2 (.int .i64 st) rfl; have s3 := h1.get 3 (.int .i64 lv) rfl; have s4 := h1.get 4 (.int .i64 pg) rfl; have a0 := h2.get0 (.bool r) (by decide) rfl; have a1 := h2.get 1 (.bool wr') (by decide) rfl; have a2 := h2.get 2 (.bool x) (by decide) rfl; have a3 := h2.get 3 (.bool a) (by decide) rfl; have a4 := h2.get 4 (.bool n) (by decide) rfl; have a5 := h2.get 5 (.int .i64 s) (by decide) rfl; clear h1 h2; go_simp; try with_reducible rfl)
                  simp only [Act.put, List.setIfInBounds_toArray, List.set_cons_zero, List.set_cons_succ]
                  refine wpAnyH_take (i := 2) (oi := ⟨some 56, _, _, _, _, _⟩) (v := ?_) rfl (by kernel_rfl) (by kernel_rfl) (by kernel_rfl) (fun _ _ _ h => h) (Or.inl ⟨by rfl, ?_⟩) hS ?_
                  rotate_left
                  · (intro w' hSw; obtain ⟨h1, h2⟩ := hSw; have s0 := h1.get 0 (.slice (some ⟨ab, ao, none⟩) n1 c1) rfl; have s2 := h1.get 2 (.int .i64 st) rfl; have s3 := h1.get 3 (.int .i64 lv) rfl; have s4 := h1.get 4 (.int .i64 pg) rfl; have a0 := h2.get0 (.bool r) (by decide) rfl; have a1 := h2.get 1 (.bool wr') (by decide) rfl; have a2 := h2.get 2 (.bool x) (by decide) rfl; have a3 := h2.get 3 (.bool a) (by decide) rfl; have a4 := h2.get 4 (.bool n) (by decide) rfl; have a5 := h2.get 5 (.int .i64 s) (by decide) rfl; clear h1 h2; go_simp; try with_reducible rfl)
                  simp only [Act.put, List.setIfInBounds_toArray, List.set_cons_zero, List.set_cons_succ]
                  refine wpAnyH_take (i := 3) (oi := ⟨some 57, _, _, _, _, _⟩) (v := ?_) rfl (by kernel_rfl) (by kernel_rfl) (by kernel_rfl) (fun _ _ _ h => h) (Or.inl ⟨by rfl, ?_⟩) hS ?_
                  rotate_left
                  · (intro w' hSw; obtain ⟨h1, h2⟩ := hSw; have s0 := h1.get 0 (.slice (some ⟨ab, ao, none⟩) n1 c1) rfl; have s2 := h1.get 2 (.int .i64 st) rfl; have s3 := h1.get 3 (.int .i64 lv) rfl; have s4 := h1.get 4 (.int .i64 pg) rfl; have a0 := h2.get0 (.bool r) (by decide) rfl; have a1 := h2.get 1 (.bool wr') (by decide) rfl; have a2 := h2.get 2 (.bool x) (by decide) rfl; have a3 := h2.get 3 (.bool a) (by decide) rfl; have a4 := h2.get 4 (.bool n) (by decide) rfl; have a5 := h2.get 5 (.int .i64 s) (by decide) rfl; clear h1 h2; go_simp; try with_reducible rfl)
                  simp only [Act.put, List.setIfInBounds_toArray, List.set_cons_zero, List.set_cons_succ]
                  refine wpAnyH_take (i := 4) (oi := ⟨some 58, _, _, _, _, _⟩) (v := ?_) rfl (by kernel_rfl) (by kernel_rfl) (by kernel_rfl) (fun _ _ _ h => h) (Or.inl ⟨by rfl, ?_⟩) hS ?_
                  rotate_left
                  · (intro w' hSw; obtain ⟨h1, h2⟩ := hSw; have s0 := h1.get 0 (.slice (some ⟨ab, ao, none⟩) n1 c1) rfl; have s2 := h1.get 2 (.int .i64 st) rfl; have s3 := h1.get 3 (.int .i64 lv) rfl; have s4 := h1.get 4 (.int .i64 pg) rfl; have a0 := h2.get0 (.bool r) (by decide) rfl; have a1 := h2.get 1 (.bool wr') (by decide) rfl; have a2 := h2.get 2 (.bool x) (by decide) rfl; have a3 := h2.get 3 (.bool a) (by decide) rfl; have a4 := h2.get 4 (.bool n) (by decide) rfl; have a5 := h2.get 5 (.int .i64 s) (by decide) rfl; clear h1 h2; go_simp; try with_reducible rfl)
                  simp only [Act.put, List.setIfInBounds_toArray, List.set_cons_zero, List.set_cons_succ]
                  refine wpAnyH_take (i := 5) (oi := ⟨some 59, _, _, _, _, _⟩) (v := ?_) rfl (by kernel_rfl) (by kernel_rfl) (by kernel_rfl) (fun _ _ _ h => h) (Or.inl ⟨by rfl, ?_⟩) hS ?_
                  rotate_left
                  · (intro w' hSw; obtain ⟨h1, h2⟩ := hSw; have s0 := h1.get 0 (.slice (some ⟨ab, ao, none⟩) n1 c1) rfl; have s2 := h1.get 2 (.int .i64 st) rfl; have s3 := h1.get 3 (.int .i64 lv) rfl; have s4 := h1.get 4 (.int .i64 pg) rfl; have a0 := h2.get0 (.bool r) (by decide) rfl; have a1 := h2.get 1 (.bool wr') (by decide) rfl; have a2 := h2.get 2 (.bool x) (by decide) rfl; have a3 := h2.get 3 (.bool a) (by decide) rfl; have a4 := h2.get 4 (.bool n) (by decide) rfl; have a5 := h2.get 5 (.int .i64 s) (by decide) rfl; clear h1 h2; go_simp; try with_reducible rfl)
                  simp only [Act.put, List.setIfInBounds_toArray, List.set_cons_zero, List.set_cons_succ]
                  refine wpAnyH_take (i := 6) (oi := ⟨some 60, _, _, _, _, _⟩) (v := ?_) rfl (by kernel_rfl) (by kernel_rfl) (by kernel_rfl) (fun _ _ _ h => h) (Or.inl ⟨by rfl, ?_⟩) hS ?_
                  rotate_left
                  · (intro w' hSw; obtain ⟨h1, h2⟩ := hSw; have s0 := h1.get 0 (.slice (some ⟨ab, ao, none⟩) n1 c1) rfl; have s2 := h1.get 2 (.int .i64 st) rfl; have s3 := h1.get 3 (.int .i64 lv) rfl; have s4 := h1.get 4 (.int .i64 pg) rfl; have a0 := h2.get0 (.bool r) (by decide) rfl; have a1 := h2.get 1 (.bool wr') (by decide) rfl; have a2 := h2.get 2 (.bool x) (by decide) rfl; have a3 := h2.get 3 (.bool a) (by decide) rfl; have a4 := h2.get 4 (.bool n) (by decide) rfl; have a5 := h2.get 5 (.int .i64 s) (by decide) rfl; clear h1 h2; go_simp; try with_reducible rfl)
                  simp only [Act.put, List.setIfInBounds_toArray, List.set_cons_zero, List.set_cons_succ]
                  refine wpAnyH_take (i := 7) (oi := ⟨some 61, _, _, _, _, _⟩) (v := ?_) rfl (by kernel_rfl) (by kernel_rfl) (by kernel_rfl) (fun _ _ _ h => h) (Or.inl ⟨by rfl, ?_⟩) hS ?_
                  rotate_left
                  · (intro w' hSw; obtain ⟨h1, h2⟩ := hSw; have s0 := h1.get 0 (.slice (some ⟨ab, ao, none⟩) n1 c1) rfl; have s2 := h1.get 2 (.int .i64 st) rfl; have s3 := h1.get 3 (.int .i64 lv) rfl; have s4 := h1.get 4 (.int .i64 pg) rfl; have a0 := h2.get0 (.bool r) (by decide) rfl; have a1 := h2.get 1 (.bool wr') (by decide) rfl; have a2 := h2.get 2 (.bool x) (by decide) rfl; have a3 := h2.get 3 (.bool a) (by decide) rfl; have a4 := h2.get 4 (.bool n) (by decide) rfl; have a5 := h2.get 5 (.int .i64 s) (by decide) rfl; clear h1 h2; go_simp; try with_reducible rfl)
                  simp only [Act.put, List.setIfInBounds_toArray, List.set_cons_zero, List.set_cons_succ]
                  refine wpAnyH_take (i := 8) (oi := ⟨some 62, _, _, _, _, _⟩) (v := ?_) rfl (by kernel_rfl) (by kernel_rfl) (by kernel_rfl) (fun _ _ _ h => h) (Or.inl ⟨by rfl, ?_⟩) hS ?_
                  rotate_left
                  · (intro w' hSw; obtain ⟨h1, h2⟩ := hSw; have s0 := h1.get 0 (.slice (some ⟨ab, ao, none⟩) n1 c1) rfl; have s2 := h1.get 2 (.int .i64 st) rfl; have s3 := h1.get 3 (.int .i64 lv) rfl; have s4 := h1.get 4 (.int .i64 pg) rfl; have a0 := h2.get0 (.bool r) (by decide) rfl; have a1 := h2.get 1 (.bool wr') (by decide) rfl; have a2 := h2.get 2 (.bool x) (by decide) rfl; have a3 := h2.get 3 (.bool a) (by decide) rfl; have a4 := h2.get 4 (.bool n) (by decide) rfl; have a5 := h2.get 5 (.int .i64 s) (by decide) rfl; clear h1 h2; go_simp; try with_reducible rfl)
                  simp only [Act.put, List.setIfInBounds_toArray, List.set_cons_zero, List.set_cons_succ]
                  refine wpAnyH_take (i := 9) (oi := ⟨some 63, _, _, _, _, _⟩) (v := ?_) rfl (by kernel_rfl) (by kernel_rfl) (by kernel_rfl) (fun _ _ _ h => h) (Or.inl ⟨by rfl, ?_⟩) hS ?_
                  rotate_left
                  · (intro w' hSw; obtain ⟨h1, h2⟩ := hSw; have s0 := h1.get 0 (.slice (some ⟨ab, ao, none⟩) n1 c1) rfl; have s2 := h1.get 2 (.int .i64 st) rfl; have s3 := h1.get 3 (.int .i64 lv) rfl; have s4 := h1.get 4 (.int .i64 pg) rfl; have a0 := h2.get0 (.bool r) (by decide) rfl; have a1 := h2.get 1 (.bool wr') (by decide) rfl; have a2 := h2.get 2 (.bool x) (by decide) rfl; have a3 := h2.get 3 (.bool a) (by decide) rfl; have a4 := h2.get 4 (.bool n) (by decide) rfl; have a5 := h2.get 5 (.int .i64 s) (by decide) rfl; clear h1 h2; go_simp; try with_reducible rfl)
                  simp only [Act.put, List.setIfInBounds_toArray, List.set_cons_zero, List.set_cons_succ]
                  refine wpAnyH_take (i := 10) (oi := ⟨some 64, _, _, _, _, _⟩) (v := ?_) rfl (by kernel_rfl) (by kernel_rfl) (by kernel_rfl) (fun _ _ _ h => h) (Or.inl ⟨by rfl, ?_⟩) hS ?_
                  rotate_left
                  · (intro w' hSw; obtain ⟨h1, h2⟩ := hSw; have s0 := h1.get 0 (.slice (some ⟨ab, ao, none⟩) n1 c1) rfl; have s2 := h1.get 2 (.int .i64 st) rfl; have s3 := h1.get 3 (.int .i64 lv) rfl; have s4 := h1.get 4 (.int .i64 pg) rfl; have a0 := h2.get0 (.bool r) (by decide) rfl; have a1 := h2.get 1 (.bool wr') (by decide) rfl; have a2 := h2.get 2 (.bool x) (by decide) rfl; have a3 := h2.get 3 (.bool a) (by decide) rfl; have a4 := h2.get 4 (.bool n) (by decide) rfl; have a5 := h2.get 5 (.int .i64 s) (by decide) rfl; clear h1 h2; go_simp; try with_reducible rfl)
                  simp only [Act.put, List.setIfInBounds_toArray, List.set_cons_zero, List.set_cons_succ]
                  refine wpAnyH_take (i := 11) (oi := ⟨some 65, _, _, _, _, _⟩) (v := ?_) rfl (by kernel_rfl) (by kernel_rfl) (by kernel_rfl) (fun _ _ _ h => h) (Or.inl ⟨by rfl, ?_⟩) hS ?_
                  rotate_left
                  · (intro w' hSw; obtain ⟨h1, h2⟩ := hSw; have s0 := h1.get 0 (.slice (some ⟨ab, ao, none⟩) n1 c1) rfl; have s2 := h1.get 2 (.int .i64 st) rfl; have s3 := h1.get 3 (.int .i64 lv) rfl; have s4 := h1.get 4 (.int .i64 pg) rfl; have a0 := h2.get0 (.bool r) (by decide) rfl; have a1 := h2.get 1 (.bool wr') (by decide) rfl; have a2 := h2.get 2 (.bool x) (by decide) rfl; have a3 := h2.get 3 (.bool a) (by decide) rfl; have a4 := h2.get 4 (.bool n) (by decide) rfl; have a5 := h2.get 5 (.int .i64 s) (by decide) rfl; clear h1 h2; go_simp; try with_reducible rfl)
                  simp only [Act.put, List.setIfInBounds_toArray, List.set_cons_zero, List.set_cons_succ]
                  refine wpAnyH_ready (rs := [12, 16]) (by kernel_rfl) (by simp) ?_
                  refine AllReadyH.cons (o := ⟨some 66, _, _, _, _, _⟩) rfl (fun K hK => ?_) ?_
                  · go_simp
                    refine (HFL.out _).mono ?_
                    rintro e w20 ⟨rfl, hb20⟩
                    have hsz20 := hb20.size
                    simp at hsz20
                    refine hK.out _ _ ?_ (fun hS' => ?_)
                    · (exact ⟨(by repeat' (first | with_reducible exact Pk | with_reducible exact hS.1 | with_reducible refine BoxAt.row ?_ (by first | omega | (simp; done) | (simp; omega)) | with_reducible refine BoxAt.alloc ?_ _ | with_reducible refine BoxAt.drew ?_ | with_reducible refine BoxAt.below ?_ hb20)), (by repeat' (first | with_reducible exact Ak | with_reducible exact hS.2 | with_reducible refine RowAt.row ?_ (by first | omega | (simp; done) | (simp; omega)) | with_reducible refine RowAt.alloc ?_ _ | with_reducible refine RowAt.drew ?_ | with_reducible refine RowAt.below ?_ hb20))⟩)
                    clear hK K hS
                    have hS := hS'
                    clear hS'
                    try simp only [Act.put, List.setIfInBounds_toArray, List.set_cons_zero, List.set_cons_succ]
                    refine wpAnyH_take (i := 13) (oi := ⟨some 53, _, _, _, _, _⟩) (v := ?_) rfl (by kernel_rfl) (by kernel_rfl) (by kernel_rfl) (fun _ _ _ h => h) (Or.inl ⟨by rfl, ?_⟩) hS ?_
                    rotate_left
                    · (intro w' hSw; obtain ⟨h1, h2⟩ := hSw; have s0 := h1.get 0 (.slice (some ⟨ab, ao, none⟩) n1 c1) rfl; have s2 := h1.get 2 (.int .i64 st) rfl; have s3 := h1.get 3 (.int .i64 lv) rfl; have s4 := h1.get 4 (.int .i64 pg) rfl; have a0 := h2.get0 (.bool r) (by decide) rfl; have a1 := h2.get 1 (.bool wr') (by decide) rfl; have a2 := h2.get 2 (.bool x) (by decide) rfl; have a3 := h2.get 3 (.bool a) (by decide) rfl; have a4 := h2.get 4 (.bool n) (by decide) rfl; have a5 := h2.get 5 (.int .i64 s) (by decide) rfl; clear h1 h2; go_simp; try with_reducible rfl)
                    simp only [Act.put, List.setIfInBounds_toArray, List.set_cons_zero, List.set_cons_succ]
                    refine wpAnyH_take (i := 14) (oi := ⟨some 67, _, _, _, _, _⟩) (v := ?_) rfl (by kernel_rfl) (by kernel_rfl) (by kernel_rfl) (fun _ _ _ h => h) (Or.inl ⟨by rfl, ?_⟩) hS ?_
                    rotate_left
                    · (intro w' hSw; obtain ⟨h1, h2⟩ := hSw; have s0 := h1.get 0 (.slice (some ⟨ab, ao, none⟩) n1 c1) rfl; have s2 := h1.get 2 (.int .i64 st) rfl; have s3 := h1.get 3 (.int .i64 lv) rfl; have s4 := h1.get 4 (.int .i64 pg) rfl; have a0 := h2.get0 (.bool r) (by decide) rfl; have a1 := h2.get 1 (.bool wr') (by decide) rfl; have a2 := h2.get 2 (.bool x) (by decide) rfl; have a3 := h2.get 3 (.bool a) (by decide) rfl; have a4 := h2.get 4 (.bool n) (by decide) rfl; have a5 := h2.get 5 (.int .i64 s) (by decide) rfl; clear h1 h2; go_simp; try with_reducible rfl)
                    simp only [Act.put, List.setIfInBounds_toArray, List.set_cons_zero, List.set_cons_succ]
                    refine wpAnyH_take (i := 15) (oi := ⟨some 68, _, _, _, _, _⟩) (v := ?_) rfl (by kernel_rfl) (by kernel_rfl) (by kernel_rfl) (fun _ _ _ h => h) (Or.inl ⟨by rfl, ?_⟩) hS ?_
                    rotate_left
                    · (intro w' hSw; obtain ⟨h1, h2⟩ := hSw; have s0 := h1.get 0 (.slice (some ⟨ab, ao, none⟩) n1 c1) rfl; have s2 := h1.get 2 (.int .i64 st) rfl; have s3 := h1.get 3 (.int .i64 lv) rfl; have s4 := h1.get 4 (.int .i64 pg) rfl; have a0 := h2.get0 (.bool r) (by decide) rfl; have a1 := h2.get 1 (.bool wr') (by decide) rfl; have a2 := h2.get 2 (.bool x) (by decide) rfl; have a3 := h2.get 3 (.bool a) (by decide) rfl; have a4 := h2.get 4 (.bool n) (by decide) rfl; have a5 := h2.get 5 (.int .i64 s) (by decide) rfl; clear h1 h2; go_simp; try with_reducible rfl)
                    simp only [Act.put, List.setIfInBounds_toArray, List.set_cons_zero, List.set_cons_succ]
                    refine wpAnyH_ready (rs := [16]) (by kernel_rfl) (by simp) ?_
                    refine AllReadyH.cons (o := ⟨some 9, _, _, _, _, _⟩) rfl (fun K hK => ?_) AllReadyH.nil
                    go_simp
                    refine hK.out _ _ ?_ (fun hS' => ?_)
                    · (exact ⟨(by repeat' (first | with_reducible exact Pk | with_reducible exact hS.1 | with_reducible refine BoxAt.row ?_ (by first | omega | (simp; done) | (simp; omega)) | with_reducible refine BoxAt.alloc ?_ _ | with_reducible refine BoxAt.drew ?_ | with_reducible refine BoxAt.below ?_ hb20)), (by repeat' (first | with_reducible exact Ak | with_reducible exact hS.2 | with_reducible refine RowAt.row ?_ (by first | omega | (simp; done) | (simp; omega)) | with_reducible refine RowAt.alloc ?_ _ | with_reducible refine RowAt.drew ?_ | with_reducible refine RowAt.below ?_ hb20))⟩)
                    clear hK K hS
                    have hS := hS'
                    clear hS'
                    try simp only [Act.put, List.setIfInBounds_toArray, List.set_cons_zero, List.set_cons_succ]
                    refine wpAnyH_ready (rs := [17]) (by kernel_rfl) (by simp) ?_
                    refine AllReadyH.cons (o := ⟨none, _, _, _, _, _⟩) rfl (fun K hK => ?_) AllReadyH.nil
                    refine step_storeB rfl 32 _ _ rfl _ _ #[.int .i64 0, .int .i64 0, .int .i64 0, .bool false, .int .i64 0] 32 rfl rfl (by kernel_rfl) rfl (by simp [Value.oneCell']) (by repeat' (first | (with_reducible refine BoxAt.newAt _ _ _ _ (by (simp; done))) | with_reducible refine BoxAt.putAny #[] ?_ rfl | (with_reducible refine BoxAt.row ?_ (by first | with_reducible assumption | omega | (simp; done) | (simp; omega))) | with_reducible refine BoxAt.alloc ?_ _ | with_reducible refine BoxAt.drew ?_ | with_reducible refine BoxAt.below ?_ hb20)) ?_
                    refine hK.out _ _ ?_ (fun hS' => ?_)
                    · (exact ⟨(by repeat' (first | with_reducible exact Pk | with_reducible exact hS.1 | with_reducible refine BoxAt.row ?_ (by first | omega | (simp; done) | (simp; omega)) | with_reducible refine BoxAt.alloc ?_ _ | with_reducible refine BoxAt.drew ?_ | with_reducible refine BoxAt.below ?_ hb20)), (by repeat' (first | with_reducible exact Ak | with_reducible exact hS.2 | with_reducible refine RowAt.row ?_ (by first | omega | (simp; done) | (simp; omega)) | with_reducible refine RowAt.alloc ?_ _ | with_reducible refine RowAt.drew ?_ | with_reducible refine RowAt.below ?_ hb20))⟩)
                    clear hK K hS
                    have hS := hS'
                    clear hS'
                    try simp only [Act.put]
                    refine wpAnyH_take (i := 18) (oi := ⟨some 10, _, _, _, _, _⟩) (v := ?_) rfl (by kernel_rfl) (by kernel_rfl) (by kernel_rfl) (fun _ _ _ h => h) (Or.inl ⟨by rfl, ?_⟩) hS ?_
                    rotate_left
                    · (intro w' hSw; obtain ⟨h1, h2⟩ := hSw; have s0 := h1.get 0 (.slice (some ⟨ab, ao, none⟩) n1 c1) rfl; have s2 := h1.get 2 (.int .i64 st) rfl; have s3 := h1.get 3 (.int .i64 lv) rfl; have s4 := h1.get 4 (.int .i64 pg) rfl; have a0 := h2.get0 (.bool r) (by decide) rfl; have a1 := h2.get 1 (.bool wr') (by decide) rfl; have a2 := h2.get 2 (.bool x) (by decide) rfl; have a3 := h2.get 3 (.bool a) (by decide) rfl; have a4 := h2.get 4 (.bool n) (by decide) rfl; have a5 := h2.get 5 (.int .i64 s) (by decide) rfl; clear h1 h2; go_simp; try with_reducible rfl)
                    simp only [Act.put, List.setIfInBounds_toArray, List.set_cons_zero, List.set_cons_succ]
                    refine wpAnyH_done (by kernel_rfl) ?_ _
                    show KK _ _
                    refine hKK _ _ (Met.intro (hJJ _ _ ?_))
                    (repeat apply Exists.intro)
                    refine ⟨?_, rfl⟩
                    refine ⟨w20.heap.size, rfl, rfl, (by omega), ?_, ?_⟩
                    · show Below _ _ _
                      repeat' (first | with_reducible exact Below.refl w11.heap.size w11 | (with_reducible refine Below.rowB ?_ (by first | omega | (simp; done) | (simp; omega))) | with_reducible refine Below.setCell ?_ (by first | omega | (simp; done) | (simp; omega)) _ | with_reducible refine bel_alloc ?_ _ | with_reducible refine Below.drew ?_ | with_reducible refine bel_trans ?_ hb20)
                    · show BoxAt _ _ _ _
                      repeat' (first | (with_reducible refine BoxAt.newAt _ _ _ _ (by (simp; done))) | with_reducible refine BoxAt.putAny #[.int .i64 0, .int .i64 0, .int .i64 0, .bool false, .int .i64 0] ?_ rfl | (with_reducible refine BoxAt.row ?_ (by first | with_reducible assumption | omega | (simp; done) | (simp; omega))) | with_reducible refine BoxAt.alloc ?_ _ | with_reducible refine BoxAt.drew ?_ | with_reducible refine BoxAt.below ?_ hb20)
                  refine AllReadyH.cons (o := ⟨some 9, _, _, _, _, _⟩) rfl (fun K hK => ?_) AllReadyH.nil
                  go_simp
                  refine hK.out _ _ ?_ (fun hS' => ?_)
                  · (exact ⟨(by repeat' (first | with_reducible exact Pk | with_reducible exact hS.1 | with_reducible refine BoxAt.row ?_ (by first | omega | (simp; done) | (simp; omega)) | with_reducible refine BoxAt.alloc ?_ _ | with_reducible refine BoxAt.drew ?_ | with_reducible refine BoxAt.below ?_ hb20)), (by repeat' (first | with_reducible exact Ak | with_reducible exact hS.2 | with_reducible refine RowAt.row ?_ (by first | omega | (simp; done) | (simp; omega)) | with_reducible refine RowAt.alloc ?_ _ | with_reducible refine RowAt.drew ?_ | with_reducible refine RowAt.below ?_ hb20))⟩)
                  clear hK K hS
                  have hS := hS'
                  clear hS'
                  try simp only [Act.put, List.setIfInBounds_toArray, List.set_cons_zero, List.set_cons_succ]
                  refine wpAnyH_ready (rs := [12]) (by kernel_rfl) (by simp) ?_
                  refine AllReadyH.cons (o := ⟨some 66, _, _, _, _, _⟩) rfl (fun K hK => ?_) AllReadyH.nil
                  go_simp
                  refine (HFL.out _).mono ?_
                  rintro e w20 ⟨rfl, hb20⟩
                  have hsz20 := hb20.size
                  simp at hsz20
                  refine hK.out _ _ ?_ (fun hS' => ?_)
                  · (exact ⟨(by repeat' (first | with_reducible exact Pk | with_reducible exact hS.1 | with_reducible refine BoxAt.row ?_ (by first | omega | (simp; done) | (simp; omega)) | with_reducible refine BoxAt.alloc ?_ _ | with_reducible refine BoxAt.drew ?_ | with_reducible refine BoxAt.below ?_ hb20)), (by repeat' (first | with_reducible exact Ak | with_reducible exact hS.2 | with_reducible refine RowAt.row ?_ (by first | omega | (simp; done) | (simp; omega)) | with_reducible refine RowAt.alloc ?_ _ | with_reducible refine RowAt.drew ?_ | with_reducible refine RowAt.below ?_ hb20))⟩)
                  clear hK K hS
                  have hS := hS'
                  clear hS'
                  try simp only [Act.put, List.setIfInBounds_toArray, List.set_cons_zero, List.set_cons_succ]
                  refine wpAnyH_take (i := 13) (oi := ⟨some 53, _, _, _, _, _⟩) (v := ?_) rfl (by kernel_rfl) (by kernel_rfl) (by kernel_rfl) (fun _ _ _ h => h) (Or.inl ⟨by rfl, ?_⟩) hS ?_
                  rotate_left
                  · (intro w' hSw; obtain ⟨h1, h2⟩ := hSw; have s0 := h1.get 0 (.slice (some ⟨ab, ao, none⟩) n1 c1) rfl; have s2 := h1.get 2 (.int .i64 st) rfl; have s3 := h1.get 3 (.int .i64 lv) rfl; have s4 := h1.get 4 (.int .i64 pg) rfl; have a0 := h2.get0 (.bool r) (by decide) rfl; have a1 := h2.get 1 (.bool wr') (by decide) rfl; have a2 := h2.get 2 (.bool x) (by decide) rfl; have a3 := h2.get 3 (.bool a) (by decide) rfl; have a4 := h2.get 4 (.bool n) (by decide) rfl; have a5 := h2.get 5 (.int .i64 s) (by decide) rfl; clear h1 h2; go_simp; try with_reducible rfl)
                  simp only [Act.put, List.setIfInBounds_toArray, List.set_cons_zero, List.set_cons_succ]
                  refine wpAnyH_take (i := 14) (oi := ⟨some 67, _, _, _, _, _⟩) (v := ?_) rfl (by kernel_rfl) (by kernel_rfl) (by kernel_rfl) (fun _ _ _ h => h) (Or.inl ⟨by rfl, ?_⟩) hS ?_
                  rotate_left
                  · (intro w' hSw; obtain ⟨h1, h2⟩ := hSw; have s0 := h1.get 0 (.slice (some ⟨ab, ao, none⟩) n1 c1) rfl; have s2 := h1.get 2 (.int .i64 st) rfl; have s3 := h1.get 3 (.int .i64 lv) rfl; have s4 := h1.get 4 (.int .i64 pg) rfl; have a0 := h2.get0 (.bool r) (by decide) rfl; have a1 := h2.get 1 (.bool wr') (by decide) rfl; have a2 := h2.get 2 (.bool x) (by decide) rfl; have a3 := h2.get 3 (.bool a) (by decide) rfl; have a4 := h2.get 4 (.bool n) (by decide) rfl; have a5 := h2.get 5 (.int .i64 s) (by decide) rfl; clear h1 h2; go_simp; try with_reducible rfl)
                  simp only [Act.put, List.setIfInBounds_toArray, List.set_cons_zero, List.set_cons_succ]
                  refine wpAnyH_take (i := 15) (oi := ⟨some 68, _, _, _, _, _⟩) (v := ?_) rfl (by kernel_rfl) (by kernel_rfl) (by kernel_rfl) (fun _ _ _ h => h) (Or.inl ⟨by rfl, ?_⟩) hS ?_
                  rotate_left
                  · (intro w' hSw; obtain ⟨h1, h2⟩ := hSw; have s0 := h1.get 0 (.slice (some ⟨ab, ao, none⟩) n1 c1) rfl; have s2 := h1.get 2 (.int .i64 st) rfl; have s3 := h1.get 3 (.int .i64 lv) rfl; have s4 := h1.get 4 (.int .i64 pg) rfl; have a0 := h2.get0 (.bool r) (by decide) rfl; have a1 := h2.get 1 (.bool wr') (by decide) rfl; have a2 := h2.get 2 (.bool x) (by decide) rfl; have a3 := h2.get 3 (.bool a) (by decide) rfl; have a4 := h2.get 4 (.bool n) (by decide) rfl; have a5 := h2.get 5 (.int .i64 s) (by decide) rfl; clear h1 h2; go_simp; try with_reducible rfl)
                  simp only [Act.put, List.setIfInBounds_toArray, List.set_cons_zero, List.set_cons_succ]
                  refine wpAnyH_ready (rs := [17]) (by kernel_rfl) (by simp) ?_
                  refine AllReadyH.cons (o := ⟨none, _, _, _, _, _⟩) rfl (fun K hK => ?_) AllReadyH.nil
                  refine step_storeB rfl 32 _ _ rfl _ _ #[.int .i64 0, .int .i64 0, .int .i64 0, .bool false, .int .i64 0] 32 rfl rfl (by kernel_rfl) rfl (by simp [Value.oneCell']) (by repeat' (first | (with_reducible refine BoxAt.newAt _ _ _ _ (by (simp; done))) | with_reducible refine BoxAt.putAny #[] ?_ rfl | (with_reducible refine BoxAt.row ?_ (by first | with_reducible assumption | omega | (simp; done) | (simp; omega))) | with_reducible refine BoxAt.alloc ?_ _ | with_reducible refine BoxAt.drew ?_ | with_reducible refine BoxAt.below ?_ hb20)) ?_
                  refine hK.out _ _ ?_ (fun hS' => ?_)
                  · (exact ⟨(by repeat' (first | with_reducible exact Pk | with_reducible exact hS.1 | with_reducible refine BoxAt.row ?_ (by first | omega | (simp; done) | (simp; omega)) | with_reducible refine BoxAt.alloc ?_ _ | with_reducible refine BoxAt.drew ?_ | with_reducible refine BoxAt.below ?_ hb20)), (by repeat' (first | with_reducible exact Ak | with_reducible exact hS.2 | with_reducible refine RowAt.row ?_ (by first | omega | (simp; done) | (simp; omega)) | with_reducible refine RowAt.alloc ?_ _ | with_reducible refine RowAt.drew ?_ | with_reducible refine RowAt.below ?_ hb20))⟩)
                  clear hK K hS
                  have hS := hS'
                  clear hS'
                  try simp only [Act.put]
                  refine wpAnyH_take (i := 18) (oi := ⟨some 10, _, _, _, _, _⟩) (v := ?_) rfl (by kernel_rfl) (by kernel_rfl) (by kernel_rfl) (fun _ _ _ h => h) (Or.inl ⟨by rfl, ?_⟩) hS ?_
                  rotate_left
                  · (intro w' hSw; obtain ⟨h1, h2⟩ := hSw; have s0 := h1.get 0 (.slice (some ⟨ab, ao, none⟩) n1 c1) rfl; have s2 := h1.get 2 (.int .i64 st) rfl; have s3 := h1.get 3 (.int .i64 lv) rfl; have s4 := h1.get 4 (.int .i64 pg) rfl; have a0 := h2.get0 (.bool r) (by decide) rfl; have a1 := h2.get 1 (.bool wr') (by decide) rfl; have a2 := h2.get 2 (.bool x) (by decide) rfl; have a3 := h2.get 3 (.bool a) (by decide) rfl; have a4 := h2.get 4 (.bool n) (by decide) rfl; have a5 := h2.get 5 (.int .i64 s) (by decide) rfl; clear h1 h2; go_simp; try with_reducible rfl)
                  simp only [Act.put, List.setIfInBounds_toArray, List.set_cons_zero, List.set_cons_succ]
                  refine wpAnyH_done (by kernel_rfl) ?_ _
                  show KK _ _
                  refine hKK _ _ (Met.intro (hJJ _ _ ?_))
                  (repeat apply Exists.intro)
                  refine ⟨?_, rfl⟩
                  refine ⟨w11.heap.size, rfl, rfl, (by omega), ?_, ?_⟩
                  · show Below _ _ _
                    repeat' (first | with_reducible exact Below.refl w11.heap.size w11 | (with_reducible refine Below.rowB ?_ (by first | omega | (simp; done) | (simp; omega))) | with_reducible refine Below.setCell ?_ (by first | omega | (simp; done) | (simp; omega)) _ | with_reducible refine bel_alloc ?_ _ | with_reducible refine Below.drew ?_ | with_reducible refine bel_trans ?_ hb20)
                  · show BoxAt _ _ _ _
                    repeat' (first | (with_reducible refine BoxAt.newAt _ _ _ _ (by (simp; done))) | with_reducible refine BoxAt.putAny #[.int .i64 0, .int .i64 0, .int .i64 0, .bool false, .int .i64 0] ?_ rfl | (with_reducible refine BoxAt.row ?_ (by first | with_reducible assumption | omega | (simp; done) | (simp; omega))) | with_reducible refine BoxAt.alloc ?_ _ | with_reducible refine BoxAt.drew ?_ | with_reducible refine BoxAt.below ?_ hb20)
                case rest =>
                  obtain ⟨bF, rfl, rfl, hbF, HBx, F20⟩ := hcut
                  obtain ⟨w20, rfl⟩ : ∃ w20 : World, w20 = wc := ⟨_, rfl⟩
                  have P20 := Lib.hid (Pk.below HBx.out)
                  have A20 := Lib.hid (Ak.below HBx.out)
                  have B20 := Lib.hid (bel_trans B12.out HBx.out)
                  have hs20 : w11.heap.size ≤ w20.heap.size := HBx.out.size
                  have hs1 : W1.heap.size ≤ w11.heap.size := B12.out.size
                  have hlF := F20.out.lt
                  clear Pk Ak HBx P12 A12 B12
                  go_upto_region 15 with fail
                  have P21 := Lib.hid ((P20.out.alloc (.cells #[.int .i64 0, .int .i64 0, .int .i64 0, .bool false, .int .i64 0] 32)))
                  have F21 := Lib.hid ((F20.out.alloc (.cells #[.int .i64 0, .int .i64 0, .int .i64 0, .bool false, .int .i64 0] 32)))
                  have Z21 := Lib.hid ((BoxAt.newAt (w20) #[.int .i64 0, .int .i64 0, .int .i64 0, .bool false, .int .i64 0] 32 (w20.heap.size) (by first | rfl | (simp; done) | (simp; omega))))
                  have A21 := Lib.hid ((A20.out.alloc (.cells #[.int .i64 0, .int .i64 0, .int .i64 0, .bool false, .int .i64 0] 32)))
                  have B21 := Lib.hid ((bel_alloc B20.out (.cells #[.int .i64 0, .int .i64 0, .int .i64 0, .bool false, .int .i64 0] 32)))
                  clear P20 F20 A20 B20
                  obtain ⟨W8, hW8⟩ : ∃ W8, W8 = w20.alloc (.cells #[.int .i64 0, .int .i64 0, .int .i64 0, .bool false, .int .i64 0] 32) := ⟨_, rfl⟩
                  obtain ⟨bZ, hbZ⟩ : ∃ bZ, bZ = w20.heap.size := ⟨_, rfl⟩
                  rw [← hW8] at P21 F21 Z21 B21 A21 ⊢
                  rw [← hbZ] at Z21 hlF hs20 ⊢
                  clear hW8 hbZ
                  go_wp2_with fail
                  refine (HAC.out _).mono ?_
                  rintro e w22 ⟨rfl, rfl⟩
                  have hqf := eqF_self ⟨0, 0, 0, false, 0⟩
                  have Fc0 := F21.out.get 0 (.int .i64 0) rfl
                  have Fc1 := F21.out.get 1 (.int .i64 0) rfl
                  have Fc2 := F21.out.get 2 (.int .i64 0) rfl
                  have Fc3 := F21.out.get 3 (.bool false) rfl
                  have Fc4 := F21.out.get 4 (.int .i64 0) rfl
                  have Zc0 := Z21.out.get 0 (.int .i64 0) rfl
                  have Zc1 := Z21.out.get 1 (.int .i64 0) rfl
                  have Zc2 := Z21.out.get 2 (.int .i64 0) rfl
                  have Zc3 := Z21.out.get 3 (.bool false) rfl
                  have Zc4 := Z21.out.get 4 (.int .i64 0) rfl
                  go_wp2_with fail
                  refine (lnum6_any _ _).mono ?_
                  rintro e w41 ⟨rfl, rfl⟩
                  go_wp2_with fail
                  refine (lnum6_any _ _).mono ?_
                  rintro e w42 ⟨rfl, rfl⟩
                  go_wp2
                  go_roundw
                  case rel => exact ⟨acc + 1, by omega, by omega, rfl, B21.out⟩
                  case measure => (simp [intOf] <;> omega)
              · rw [hac, if_pos rfl, Bool.true_and] at HM
                rw [hac, if_pos rfl, if_pos rfl] at HFL
                rw [hac] at HAC
                unfold fltV at HFL HRF
                simp only at HFL HRF
                clear hac
                have Pc0 := P2.out.get 0 (.slice (some ⟨ab, ao, none⟩) n1 c1) rfl
                have a0 := A2.out.get0 (.bool r) (by decide) rfl
                have a1 := A2.out.get 1 (.bool wr') (by decide) rfl
                have a2 := A2.out.get 2 (.bool x) (by decide) rfl
                have a3 := A2.out.get 3 (.bool a) (by decide) rfl
                have a4 := A2.out.get 4 (.bool n) (by decide) rfl
                have a5 := A2.out.get 5 (.int .i64 s) (by decide) rfl
                go_wp2_with fail
                refine (HM.out _).mono ?_
                rintro e w11 ⟨rfl, hb11⟩
                have P12 := Lib.hid (P2.out.below hb11)
                have A12 := Lib.hid (A2.out.below hb11)
                have B12 := Lib.hid (bel_trans HB.out hb11)
                clear Pc0 a0 a1 a2 a3 a4 a5
                clear P2 A2 HB hb11
                have Pk := P12.out
                have Ak := A12.out
                have hlP := P12.out.lt
                have hlA := A12.out.lt
                go_upto_region 12 with fail
                go_cut [9, 10] (fun s9 s10 wx => ∃ (bF : Nat), s9 = .pointer (some ⟨bF, 0, none⟩) ∧ s10 = .int .i64 0 ∧ w11.heap.size ≤ bF ∧ Hid (Below w11.heap.size w11 wx) ∧ Hid (BoxAt wx bF #[.int .i64 fk, .int .i64 fs, .int .i64 fl, .bool fw, .int .i64 fp] 32))
                case first =>
                  rename_i JJ KK hJJ hKK
                  refine wp_region_held_drew (S := (fun w' => BoxAt w' pb #[.slice (some ⟨ab, ao, none⟩) n1 c1, .int .i64 acc1, .int .i64 st, .int .i64 lv, .int .i64 pg] 25 ∧ RowAt w' ab (ao + j * 6) 6 #[.bool r, .bool wr', .bool x, .bool a, .bool n, .int .i64 s])) (by kernel_rfl) ?_ (fun hS => ?_)
                  · (exact ⟨(by repeat' (first | with_reducible exact Pk | with_reducible exact hS.1 | with_reducible refine BoxAt.row ?_ (by first | omega | (simp; done) | (simp; omega)) | with_reducible refine BoxAt.alloc ?_ _ | with_reducible refine BoxAt.drew ?_ | with_reducible refine BoxAt.below ?_ hb20)), (by repeat' (first | with_reducible exact Ak | with_reducible exact hS.2 | with_reducible refine RowAt.row ?_ (by first | omega | (simp; done) | (simp; omega)) | with_reducible refine RowAt.alloc ?_ _ | with_reducible refine RowAt.drew ?_ | with_reducible refine RowAt.below ?_ hb20))⟩)
                  refine wpAnyH_take (i := 0) (oi := ⟨some 54, _, _, _, _, _⟩) (v := ?_) rfl (by kernel_rfl) (by kernel_rfl) (by kernel_rfl) (fun _ _ _ h => h) (Or.inl ⟨by rfl, ?_⟩) hS ?_
                  rotate_left
                  · (intro w' hSw; obtain ⟨h1, h2⟩ := hSw; have s0 := h1.get 0 (.slice (some ⟨ab, ao, none⟩) n1 c1) rfl; have s2 := h1.get 2 (.int .i64 st) rfl; have s3 := h1.get 3 (.int .i64 lv) rfl; have s4 := h1.get 4 (.int .i64 pg) rfl; have a0 := h2.get0 (.bool r) (by decide) rfl; have a1 := h2.get 1 (.bool wr') (by decide) rfl; have a2 := h2.get 2 (.bool x) (by decide) rfl; have a3 := h2.get 3 (.bool a) (by decide) rfl; have a4 := h2.get 4 (.bool n) (by decide) rfl; have a5 := h2.get 5 (.int .i64 s) (by decide) rfl; clear h1 h2; go_simp; try with_reducible rfl)
                  simp only [Act.put, List.setIfInBounds_toArray, List.set_cons_zero, List.set_cons_succ]
                  refine wpAnyH_take (i := 1) (oi := ⟨some 55, _, _, _, _, _⟩) (v := ?_) rfl (by kernel_rfl) (by kernel_rfl) (by kernel_rfl) (fun _ _ _ h => h) (Or.inl ⟨by rfl, ?_⟩) hS ?_
                  rotate_left
                  · (intro w' hSw; obtain ⟨h1, h2⟩ := hSw; have s0 := h1.get 0 (.slice (some ⟨ab, ao, none⟩) n1 c1) rfl; have s2 := h1.get 2 (.int .i64 st) rfl; have s3 := h1.get 3 (.int .i64 lv) rfl; have s4 := h1.get 4 (.int .i64 pg) rfl; have a0 := h2.get0 (.bool r) (by decide) rfl; have a1 := h2.get 1 (.bool wr') (by decide) rfl; have a2 := h2.get 2 (.bool x) (by decide) rfl; have a3 := h2.get 3 (.bool a) (by decide) rfl; have a4 := h2.get 4 (.bool n) (by decide) rfl; have a5 := h2.get 5 (.int .i64 s) (by decide) rfl; clear h1 h2; go_simp; try with_reducible rfl)
                  simp only [Act.put, List.setIfInBounds_toArray, List.set_cons_zero, List.set_cons_succ]
                  refine wpAnyH_take (i := 2) (oi := ⟨some 56, _, _, _, _, _⟩) (v := ?_) rfl (by kernel_rfl) (by kernel_rfl) (by kernel_rfl) (fun _ _ _ h => h) (Or.inl ⟨by rfl, ?_⟩) hS ?_
                  rotate_left
                  · (intro w' hSw; obtain ⟨h1, h2⟩ := hSw; have s0 := h1.get 0 (.slice (some ⟨ab, ao, none⟩) n1 c1) rfl; have s2 := h1.get 2 (.int .i64 st) rfl; have s3 := h1.get 3 (.int .i64 lv) rfl; have s4 := h1.get 4 (.int .i64 pg) rfl; have a0 := h2.get0 (.bool r) (by decide) rfl; have a1 := h2.get 1 (.bool wr') (by decide) rfl; have a2 := h2.get 2 (.bool x) (by decide) rfl; have a3 := h2.get 3 (.bool a) (by decide) rfl; have a4 := h2.get 4 (.bool n) (by decide) rfl; have a5 := h2.get 5 (.int .i64 s) (by decide) rfl; clear h1 h2; go_simp; try with_reducible rfl)
                  simp only [Act.put, List.setIfInBounds_toArray, List.set_cons_zero, List.set_cons_succ]
                  refine wpAnyH_take (i := 3) (oi := ⟨some 57, _, _, _, _, _⟩) (v := ?_) rfl (by kernel_rfl) (by kernel_rfl) (by kernel_rfl) (fun _ _ _ h => h) (Or.inl ⟨by rfl, ?_⟩) hS ?_
                  rotate_left
                  · (intro w' hSw; obtain ⟨h1, h2⟩ := hSw; have s0 := h1.get 0 (.slice (some ⟨ab, ao, none⟩) n1 c1) rfl; have s2 := h1.get 2 (.int .i64 st) rfl; have s3 := h1.get 3 (.int .i64 lv) rfl; have s4 := h1.get 4 (.int .i64 pg) rfl; have a0 := h2.get0 (.bool r) (by decide) rfl; have a1 := h2.get 1 (.bool wr') (by decide) rfl; have a2 := h2.get 2 (.bool x) (by decide) rfl; have a3 := h2.get 3 (.bool a) (by decide) rfl; have a4 := h2.get 4 (.bool n) (by decide) rfl; have a5 := h2.get 5 (.int .i64 s) (by decide) rfl; clear h1 h2; go_simp; try with_reducible rfl)
                  simp only [Act.put, List.setIfInBounds_toArray, List.set_cons_zero, List.set_cons_succ]
                  refine wpAnyH_take (i := 4) (oi := ⟨some 58, _, _, _, _, _⟩) (v := ?_) rfl (by kernel_rfl) (by kernel_rfl) (by kernel_rfl) (fun _ _ _ h => h) (Or.inl ⟨by rfl, ?_⟩) hS ?_
                  rotate_left
                  · (intro w' hSw; obtain ⟨h1, h2⟩ := hSw; have s0 := h1.get 0 (.slice (some ⟨ab, ao, none⟩) n1 c1) rfl; have s2 := h1.get 2 (.int .i64 st) rfl; have s3 := h1.get 3 (.int .i64 lv) rfl; have s4 := h1.get 4 (.int .i64 pg) rfl; have a0 := h2.get0 (.bool r) (by decide) rfl; have a1 := h2.get 1 (.bool wr') (by decide) rfl; have a2 := h2.get 2 (.bool x) (by decide) rfl; have a3 := h2.get 3 (.bool a) (by decide) rfl; have a4 := h2.get 4 (.bool n) (by decide) rfl; have a5 := h2.get 5 (.int .i64 s) (by decide) rfl; clear h1 h2; go_simp; try with_reducible rfl)
                  simp only [Act.put, List.setIfInBounds_toArray, List.set_cons_zero, List.set_cons_succ]
                  refine wpAnyH_take (i := 5) (oi := ⟨some 59, _, _, _, _, _⟩) (v := ?_) rfl (by kernel_rfl) (by kernel_rfl) (by kernel_rfl) (fun _ _ _ h => h) (Or.inl ⟨by rfl, ?_⟩) hS ?_
                  rotate_left
                  · (intro w' hSw; obtain ⟨h1, h2⟩ := hSw; have s0 := h1.get 0 (.slice (some ⟨ab, ao, none⟩) n1 c1) rfl; have s2 := h1.get 2 (.int .i64 st) rfl; have s3 := h1.get 3 (.int .i64 lv) rfl; have s4 := h1.get 4 (.int .i64 pg) rfl; have a0 := h2.get0 (.bool r) (by decide) rfl; have a1 := h2.get 1 (.bool wr') (by decide) rfl; have a2 := h2.get 2 (.bool x) (by decide) rfl; have a3 := h2.get 3 (.bool a) (by decide) rfl; have a4 := h2.get 4 (.bool n) (by decide) rfl; have a5 := h2.get 5 (.int .i64 s) (by decide) rfl; clear h1 h2; go_simp; try with_reducible rfl)
                  simp only [Act.put, List.setIfInBounds_toArray, List.set_cons_zero, List.set_cons_succ]
                  refine wpAnyH_take (i := 6) (oi := ⟨some 60, _, _, _, _, _⟩) (v := ?_) rfl (by kernel_rfl) (by kernel_rfl) (by kernel_rfl) (fun _ _ _ h => h) (Or.inl ⟨by rfl, ?_⟩) hS ?_
                  rotate_left
                  · (intro w' hSw; obtain ⟨h1, h2⟩ := hSw; have s0 := h1.get 0 (.slice (some ⟨ab, ao, none⟩) n1 c1) rfl; have s2 := h1.get 2 (.int .i64 st) rfl; have s3 := h1.get 3 (.int .i64 lv) rfl; have s4 := h1.get 4 (.int .i64 pg) rfl; have a0 := h2.get0 (.bool r) (by decide) rfl; have a1 := h2.get 1 (.bool wr') (by decide) rfl; have a2 := h2.get 2 (.bool x) (by decide) rfl; have a3 := h2.get 3 (.bool a) (by decide) rfl; have a4 := h2.get 4 (.bool n) (by decide) rfl; have a5 := h2.get 5 (.int .i64 s) (by decide) rfl; clear h1 h2; go_simp; try with_reducible rfl)
                  simp only [Act.put, List.setIfInBounds_toArray, List.set_cons_zero, List.set_cons_succ]
                  refine wpAnyH_take (i := 7) (oi := ⟨some 61, _, _, _, _, _⟩) (v := ?_) rfl (by kernel_rfl) (by kernel_rfl) (by kernel_rfl) (fun _ _ _ h => h) (Or.inl ⟨by rfl, ?_⟩) hS ?_
                  rotate_left
                  · (intro w' hSw; obtain ⟨h1, h2⟩ := hSw; have s0 := h1.get 0 (.slice (some ⟨ab, ao, none⟩) n1 c1) rfl; have s2 := h1.get 2 (.int .i64 st) rfl; have s3 := h1.get 3 (.int .i64 lv) rfl; have s4 := h1.get 4 (.int .i64 pg) rfl; have a0 := h2.get0 (.bool r) (by decide) rfl; have a1 := h2.get 1 (.bool wr') (by decide) rfl; have a2 := h2.get 2 (.bool x) (by decide) rfl; have a3 := h2.get 3 (.bool a) (by decide) rfl; have a4 := h2.get 4 (.bool n) (by decide) rfl; have a5 := h2.get 5 (.int .i64 s) (by decide) rfl; clear h1 h2; go_simp; try with_reducible rfl)
                  simp only [Act.put, List.setIfInBounds_toArray, List.set_cons_zero, List.set_cons_succ]
                  refine wpAnyH_take (i := 8) (oi := ⟨some 62, _, _, _, _, _⟩) (v := ?_) rfl (by kernel_rfl) (by kernel_rfl) (by kernel_rfl) (fun _ _ _ h => h) (Or.inl ⟨by rfl, ?_⟩) hS ?_
                  rotate_left
                  · (intro w' hSw; obtain ⟨h1, h2⟩ := hSw; have s0 := h1.get 0 (.slice (some ⟨ab, ao, none⟩) n1 c1) rfl; have s2 := h1.get 2 (.int .i64 st) rfl; have s3 := h1.get 3 (.int .i64 lv) rfl; have s4 := h1.get 4 (.int .i64 pg) rfl; have a0 := h2.get0 (.bool r) (by decide) rfl; have a1 := h2.get 1 (.bool wr') (by decide) rfl; have a2 := h2.get 2 (.bool x) (by decide) rfl; have a3 := h2.get 3 (.bool a) (by decide) rfl; have a4 := h2.get 4 (.bool n) (by decide) rfl; have a5 := h2.get 5 (.int .i64 s) (by decide) rfl; clear h1 h2; go_simp; try with_reducible rfl)
                  simp only [Act.put, List.setIfInBounds_toArray, List.set_cons_zero, List.set_cons_succ]
                  refine wpAnyH_take (i := 9) (oi := ⟨some 63, _, _, _, _, _⟩) (v := ?_) rfl (by kernel_rfl) (by kernel_rfl) (by kernel_rfl) (fun _ _ _ h => h) (Or.inl ⟨by rfl, ?_⟩) hS ?_
                  rotate_left
                  · (intro w' hSw; obtain ⟨h1, h2⟩ := hSw; have s0 := h1.get 0 (.slice (some ⟨ab, ao, none⟩) n1 c1) rfl; have s2 := h1.get 2 (.int .i64 st) rfl; have s3 := h1.get 3 (.int .i64 lv) rfl; have s4 := h1.get 4 (.int .i64 pg) rfl; have a0 := h2.get0 (.bool r) (by decide) rfl; have a1 := h2.get 1 (.bool wr') (by decide) rfl; have a2 := h2.get 2 (.bool x) (by decide) rfl; have a3 := h2.get 3 (.bool a) (by decide) rfl; have a4 := h2.get 4 (.bool n) (by decide) rfl; have a5 := h2.get 5 (.int .i64 s) (by decide) rfl; clear h1 h2; go_simp; try with_reducible rfl)
                  simp only [Act.put, List.setIfInBounds_toArray, List.set_cons_zero, List.set_cons_succ]
                  refine wpAnyH_take (i := 10) (oi := ⟨some 64, _, _, _, _, _⟩) (v := ?_) rfl (by kernel_rfl) (by kernel_rfl) (by kernel_rfl) (fun _ _ _ h => h) (Or.inl ⟨by rfl, ?_⟩) hS ?_
                  rotate_left
                  · (intro w' hSw; obtain ⟨h1, h2⟩ := hSw; have s0 := h1.get 0 (.slice (some ⟨ab, ao, none⟩) n1 c1) rfl; have s2 := h1.get 2 (.int .i64 st) rfl; have s3 := h1.get 3 (.int .i64 lv) rfl; have s4 := h1.get 4 (.int .i64 pg) rfl; have a0 := h2.get0 (.bool r) (by decide) rfl; have a1 := h2.get 1 (.bool wr') (by decide) rfl; have a2 := h2.get 2 (.bool x) (by decide) rfl; have a3 := h2.get 3 (.bool a) (by decide) rfl; have a4 := h2.get 4 (.bool n) (by decide) rfl; have a5 := h2.get 5 (.int .i64 s) (by decide) rfl; clear h1 h2; go_simp; try with_reducible rfl)
                  simp only [Act.put, List.setIfInBounds_toArray, List.set_cons_zero, List.set_cons_succ]
                  refine wpAnyH_take (i := 11) (oi := ⟨some 65, _, _, _, _, _⟩) (v := ?_) rfl (by kernel_rfl) (by kernel_rfl) (by kernel_rfl) (fun _ _ _ h => h) (Or.inl ⟨by rfl, ?_⟩) hS ?_
                  rotate_left
                  · (intro w' hSw; obtain ⟨h1, h2⟩ := hSw; have s0 := h1.get 0 (.slice (some ⟨ab, ao, none⟩) n1 c1) rfl; have s2 := h1.get 2 (.int .i64 st) rfl; have s3 := h1.get 3 (.int .i64 lv) rfl; have s4 := h1.get 4 (.int .i64 pg) rfl; have a0 := h2.get0 (.bool r) (by decide) rfl; have a1 := h2.get 1 (.bool wr') (by decide) rfl; have a2 := h2.get 2 (.bool x) (by decide) rfl; have a3 := h2.get 3 (.bool a) (by decide) rfl; have a4 := h2.get 4 (.bool n) (by decide) rfl; have a5 := h2.get 5 (.int .i64 s) (by decide) rfl; clear h1 h2; go_simp; try with_reducible rfl)
                  simp only [Act.put, List.setIfInBounds_toArray, List.set_cons_zero, List.set_cons_succ]
                  refine wpAnyH_ready (rs := [12, 16]) (by kernel_rfl) (by simp) ?_
                  refine AllReadyH.cons (o := ⟨some 66, _, _, _, _, _⟩) rfl (fun K hK => ?_) ?_
                  · go_simp
                    refine (HFL.out _).mono ?_
                    rintro e w20 ⟨rfl, hb20⟩
                    have hsz20 := hb20.size
                    simp at hsz20
                    refine hK.out _ _ ?_ (fun hS' => ?_)
                    · (exact ⟨(by repeat' (first | with_reducible exact Pk | with_reducible exact hS.1 | with_reducible refine BoxAt.row ?_ (by first | omega | (simp; done) | (simp; omega)) | with_reducible refine BoxAt.alloc ?_ _ | with_reducible refine BoxAt.drew ?_ | with_reducible refine BoxAt.below ?_ hb20)), (by repeat' (first | with_reducible exact Ak | with_reducible exact hS.2 | with_reducible refine RowAt.row ?_ (by first | omega | (simp; done) | (simp; omega)) | with_reducible refine RowAt.alloc ?_ _ | with_reducible refine RowAt.drew ?_ | with_reducible refine RowAt.below ?_ hb20))⟩)
                    clear hK K hS
                    have hS := hS'
                    clear hS'
                    try simp only [Act.put, List.setIfInBounds_toArray, List.set_cons_zero, List.set_cons_succ]
                    refine wpAnyH_take (i := 13) (oi := ⟨some 53, _, _, _, _, _⟩) (v := ?_) rfl (by kernel_rfl) (by kernel_rfl) (by kernel_rfl) (fun _ _ _ h => h) (Or.inl ⟨by rfl, ?_⟩) hS ?_
                    rotate_left
                    · (intro w' hSw; obtain ⟨h1, h2⟩ := hSw; have s0 := h1.get 0 (.slice (some ⟨ab, ao, none⟩) n1 c1) rfl; have s2 := h1.get 2 (.int .i64 st) rfl; have s3 := h1.get 3 (.int .i64 lv) rfl; have s4 := h1.get 4 (.int .i64 pg) rfl; have a0 := h2.get0 (.bool r) (by decide) rfl; have a1 := h2.get 1 (.bool wr') (by decide) rfl; have a2 := h2.get 2 (.bool x) (by decide) rfl; have a3 := h2.get 3 (.bool a) (by decide) rfl; have a4 := h2.get 4 (.bool n) (by decide) rfl; have a5 := h2.get 5 (.int .i64 s) (by decide) rfl; clear h1 h2; go_simp; try with_reducible rfl)
                    simp only [Act.put, List.setIfInBounds_toArray, List.set_cons_zero, List.set_cons_succ]
                    refine wpAnyH_take (i := 14) (oi := ⟨some 67, _, _, _, _, _⟩) (v := ?_) rfl (by kernel_rfl) (by kernel_rfl) (by kernel_rfl) (fun _ _ _ h => h) (Or.inl ⟨by rfl, ?_⟩) hS ?_
                    rotate_left
                    · (intro w' hSw; obtain ⟨h1, h2⟩ := hSw; have s0 := h1.get 0 (.slice (some ⟨ab, ao, none⟩) n1 c1) rfl; have s2 := h1.get 2 (.int .i64 st) rfl; have s3 := h1.get 3 (.int .i64 lv) rfl; have s4 := h1.get 4 (.int .i64 pg) rfl; have a0 := h2.get0 (.bool r) (by decide) rfl; have a1 := h2.get 1 (.bool wr') (by decide) rfl; have a2 := h2.get 2 (.bool x) (by decide) rfl; have a3 := h2.get 3 (.bool a) (by decide) rfl; have a4 := h2.get 4 (.bool n) (by decide) rfl; have a5 := h2.get 5 (.int .i64 s) (by decide) rfl; clear h1 h2; go_simp; try with_reducible rfl)
                    simp only [Act.put, List.setIfInBounds_toArray, List.set_cons_zero, List.set_cons_succ]
                    refine wpAnyH_take (i := 15) (oi := ⟨some 68, _, _, _, _, _⟩) (v := ?_) rfl (by kernel_rfl) (by kernel_rfl) (by kernel_rfl) (fun _ _ _ h => h) (Or.inl ⟨by rfl, ?_⟩) hS ?_
                    rotate_left
                    · (intro w' hSw; obtain ⟨h1, h2⟩ := hSw; have s0 := h1.get 0 (.slice (some ⟨ab, ao, none⟩) n1 c1) rfl; have s2 := h1.get 2 (.int .i64 st) rfl; have s3 := h1.get 3 (.int .i64 lv) rfl; have s4 := h1.get 4 (.int .i64 pg) rfl; have a0 := h2.get0 (.bool r) (by decide) rfl; have a1 := h2.get 1 (.bool wr') (by decide) rfl; have a2 := h2.get 2 (.bool x) (by decide) rfl; have a3 := h2.get 3 (.bool a) (by decide) rfl; have a4 := h2.get 4 (.bool n) (by decide) rfl; have a5 := h2.get 5 (.int .i64 s) (by decide) rfl; clear h1 h2; go_simp; try with_reducible rfl)
                    simp only [Act.put, List.setIfInBounds_toArray, List.set_cons_zero, List.set_cons_succ]
                    refine wpAnyH_ready (rs := [16]) (by kernel_rfl) (by simp) ?_
                    refine AllReadyH.cons (o := ⟨some 9, _, _, _, _, _⟩) rfl (fun K hK => ?_) AllReadyH.nil
                    go_simp
                    refine hK.out _ _ ?_ (fun hS' => ?_)
                    · (exact ⟨(by repeat' (first | with_reducible exact Pk | with_reducible exact hS.1 | with_reducible refine BoxAt.row ?_ (by first | omega | (simp; done) | (simp; omega)) | with_reducible refine BoxAt.alloc ?_ _ | with_reducible refine BoxAt.drew ?_ | with_reducible refine BoxAt.below ?_ hb20)), (by repeat' (first | with_reducible exact Ak | with_reducible exact hS.2 | with_reducible refine RowAt.row ?_ (by first | omega | (simp; done) | (simp; omega)) | with_reducible refine RowAt.alloc ?_ _ | with_reducible refine RowAt.drew ?_ | with_reducible refine RowAt.below ?_ hb20))⟩)
                    clear hK K hS
                    have hS := hS'
                    clear hS'
                    try simp only [Act.put, List.setIfInBounds_toArray, List.set_cons_zero, List.set_cons_succ]
                    refine wpAnyH_ready (rs := [17]) (by kernel_rfl) (by simp) ?_
                    refine AllReadyH.cons (o := ⟨none, _, _, _, _, _⟩) rfl (fun K hK => ?_) AllReadyH.nil
                    refine step_storeB rfl 32 _ _ rfl _ _ #[.int .i64 0, .int .i64 0, .int .i64 0, .bool false, .int .i64 0] 32 rfl rfl (by kernel_rfl) rfl (by simp [Value.oneCell']) (by repeat' (first | (with_reducible refine BoxAt.newAt _ _ _ _ (by (simp; done))) | with_reducible refine BoxAt.putAny #[] ?_ rfl | (with_reducible refine BoxAt.row ?_ (by first | with_reducible assumption | omega | (simp; done) | (simp; omega))) | with_reducible refine BoxAt.alloc ?_ _ | with_reducible refine BoxAt.drew ?_ | with_reducible refine BoxAt.below ?_ hb20)) ?_
                    refine hK.out _ _ ?_ (fun hS' => ?_)
                    · (exact ⟨(by repeat' (first | with_reducible exact Pk | with_reducible exact hS.1 | with_reducible refine BoxAt.row ?_ (by first | omega | (simp; done) | (simp; omega)) | with_reducible refine BoxAt.alloc ?_ _ | with_reducible refine BoxAt.drew ?_ | with_reducible refine BoxAt.below ?_ hb20)), (by repeat' (first | with_reducible exact Ak | with_reducible exact hS.2 | with_reducible refine RowAt.row ?_ (by first | omega | (simp; done) | (simp; omega)) | with_reducible refine RowAt.alloc ?_ _ | with_reducible refine RowAt.drew ?_ | with_reducible refine RowAt.below ?_ hb20))⟩)
                    clear hK K hS
                    have hS := hS'
                    clear hS'
                    try simp only [Act.put]
                    refine wpAnyH_take (i := 18) (oi := ⟨some 10, _, _, _, _, _⟩) (v := ?_) rfl (by kernel_rfl) (by kernel_rfl) (by kernel_rfl) (fun _ _ _ h => h) (Or.inl ⟨by rfl, ?_⟩) hS ?_
                    rotate_left
                    · (intro w' hSw; obtain ⟨h1, h2⟩ := hSw; have s0 := h1.get 0 (.slice (some ⟨ab, ao, none⟩) n1 c1) rfl; have s2 := h1.get 2 (.int .i64 st) rfl; have s3 := h1.get 3 (.int .i64 lv) rfl; have s4 := h1.get 4 (.int .i64 pg) rfl; have a0 := h2.get0 (.bool r) (by decide) rfl; have a1 := h2.get 1 (.bool wr') (by decide) rfl; have a2 := h2.get 2 (.bool x) (by decide) rfl; have a3 := h2.get 3 (.bool a) (by decide) rfl; have a4 := h2.get 4 (.bool n) (by decide) rfl; have a5 := h2.get 5 (.int .i64 s) (by decide) rfl; clear h1 h2; go_simp; try with_reducible rfl)
                    simp only [Act.put, List.setIfInBounds_toArray, List.set_cons_zero, List.set_cons_succ]
                    refine wpAnyH_done (by kernel_rfl) ?_ _
                    show KK _ _
                    refine hKK _ _ (Met.intro (hJJ _ _ ?_))
                    (repeat apply Exists.intro)
                    refine ⟨?_, rfl⟩
                    refine ⟨w20.heap.size, rfl, rfl, (by omega), ?_, ?_⟩
                    · show Below _ _ _
                      repeat' (first | with_reducible exact Below.refl w11.heap.size w11 | (with_reducible refine Below.rowB ?_ (by first | omega | (simp; done) | (simp; omega))) | with_reducible refine Below.setCell ?_ (by first | omega | (simp; done) | (simp; omega)) _ | with_reducible refine bel_alloc ?_ _ | with_reducible refine Below.drew ?_ | with_reducible refine bel_trans ?_ hb20)
                    · show BoxAt _ _ _ _
                      repeat' (first | (with_reducible refine BoxAt.newAt _ _ _ _ (by (simp; done))) | with_reducible refine BoxAt.putAny #[.int .i64 0, .int .i64 0, .int .i64 0, .bool false, .int .i64 0] ?_ rfl | (with_reducible refine BoxAt.row ?_ (by first | with_reducible assumption | omega | (simp; done) | (simp; omega))) | with_reducible refine BoxAt.alloc ?_ _ | with_reducible refine BoxAt.drew ?_ | with_reducible refine BoxAt.below ?_ hb20)
                  refine AllReadyH.cons (o := ⟨some 9, _, _, _, _, _⟩) rfl (fun K hK => ?_) AllReadyH.nil
                  go_simp
                  refine hK.out _ _ ?_ (fun hS' => ?_)
                  · (exact ⟨(by repeat' (first | with_reducible exact Pk | with_reducible exact hS.1 | with_reducible refine BoxAt.row ?_ (by first | omega | (simp; done) | (simp; omega)) | with_reducible refine BoxAt.alloc ?_ _ | with_reducible refine BoxAt.drew ?_ | with_reducible refine BoxAt.below ?_ hb20)), (by repeat' (first | with_reducible exact Ak | with_reducible exact hS.2 | with_reducible refine RowAt.row ?_ (by first | omega | (simp; done) | (simp; omega)) | with_reducible refine RowAt.alloc ?_ _ | with_reducible refine RowAt.drew ?_ | with_reducible refine RowAt.below ?_ hb20))⟩)
                  clear hK K hS
                  have hS := hS'
                  clear hS'
                  try simp only [Act.put, List.setIfInBounds_toArray, List.set_cons_zero, List.set_cons_succ]
                  refine wpAnyH_ready (rs := [12]) (by kernel_rfl) (by simp) ?_
                  refine AllReadyH.cons (o := ⟨some 66, _, _, _, _, _⟩) rfl (fun K hK => ?_) AllReadyH.nil
                  go_simp
                  refine (HFL.out _).mono ?_
                  rintro e w20 ⟨rfl, hb20⟩
                  have hsz20 := hb20.size
                  simp at hsz20
                  refine hK.out _ _ ?_ (fun hS' => ?_)
                  · (exact ⟨(by repeat' (first | with_reducible exact Pk | with_reducible exact hS.1 | with_reducible refine BoxAt.row ?_ (by first | omega | (simp; done) | (simp; omega)) | with_reducible refine BoxAt.alloc ?_ _ | with_reducible refine BoxAt.drew ?_ | with_reducible refine BoxAt.below ?_ hb20)), (by repeat' (first | with_reducible exact Ak | with_reducible exact hS.2 | with_reducible refine RowAt.row ?_ (by first | omega | (simp; done) | (simp; omega)) | with_reducible refine RowAt.alloc ?_ _ | with_reducible refine RowAt.drew ?_ | with_reducible refine RowAt.below ?_ hb20))⟩)
                  clear hK K hS
                  have hS := hS'
                  clear hS'
                  try simp only [Act.put, List.setIfInBounds_toArray, List.set_cons_zero, List.set_cons_succ]
                  refine wpAnyH_take (i := 13) (oi := ⟨some 53, _, _, _, _, _⟩) (v := ?_) rfl (by kernel_rfl) (by kernel_rfl) (by kernel_rfl) (fun _ _ _ h => h) (Or.inl ⟨by rfl, ?_⟩) hS ?_
                  rotate_left
                  · (intro w' hSw; obtain ⟨h1, h2⟩ := hSw; have s0 := h1.get 0 (.slice (some ⟨ab, ao, none⟩) n1 c1) rfl; have s2 := h1.get 2 (.int .i64 st) rfl; have s3 := h1.get 3 (.int .i64 lv) rfl; have s4 := h1.get 4 (.int .i64 pg) rfl; have a0 := h2.get0 (.bool r) (by decide) rfl; have a1 := h2.get 1 (.bool wr') (by decide) rfl; have a2 := h2.get 2 (.bool x) (by decide) rfl; have a3 := h2.get 3 (.bool a) (by decide) rfl; have a4 := h2.get 4 (.bool n) (by decide) rfl; have a5 := h2.get 5 (.int .i64 s) (by decide) rfl; clear h1 h2; go_simp; try with_reducible rfl)
                  simp only [Act.put, List.setIfInBounds_toArray, List.set_cons_zero, List.set_cons_succ]
                  refine wpAnyH_take (i := 14) (oi := ⟨some 67, _, _, _, _, _⟩) (v := ?_) rfl (by kernel_rfl) (by kernel_rfl) (by kernel_rfl) (fun _ _ _ h => h) (Or.inl ⟨by rfl, ?_⟩) hS ?_
                  rotate_left
                  · (intro w' hSw; obtain ⟨h1, h2⟩ := hSw; have s0 := h1.get 0 (.slice (some ⟨ab, ao, none⟩) n1 c1) rfl; have s2 := h1.get 2 (.int .i64 st) rfl; have s3 := h1.get 3 (.int .i64 lv) rfl; have s4 := h1.get 4 (.int .i64 pg) rfl; have a0 := h2.get0 (.bool r) (by decide) rfl; have a1 := h2.get 1 (.bool wr') (by decide) rfl; have a2 := h2.get 2 (.bool x) (by decide) rfl; have a3 := h2.get 3 (.bool a) (by decide) rfl; have a4 := h2.get 4 (.bool n) (by decide) rfl; have a5 := h2.get 5 (.int .i64 s) (by decide) rfl; clear h1 h2; go_simp; try with_reducible rfl)
                  simp only [Act.put, List.setIfInBounds_toArray, List.set_cons_zero, List.set_cons_succ]
                  refine wpAnyH_take (i := 15) (oi := ⟨some 68, _, _, _, _, _⟩) (v := ?_) rfl (by kernel_rfl) (by kernel_rfl) (by kernel_rfl) (fun _ _ _ h => h) (Or.inl ⟨by rfl, ?_⟩) hS ?_
                  rotate_left
                  · (intro w' hSw; obtain ⟨h1, h2⟩ := hSw; have s0 := h1.get 0 (.slice (some ⟨ab, ao, none⟩) n1 c1) rfl; have s2 := h1.get 2 (.int .i64 st) rfl; have s3 := h1.get 3 (.int .i64 lv) rfl; have s4 := h1.get 4 (.int .i64 pg) rfl; have a0 := h2.get0 (.bool r) (by decide) rfl; have a1 := h2.get 1 (.bool wr') (by decide) rfl; have a2 := h2.get 2 (.bool x) (by decide) rfl; have a3 := h2.get 3 (.bool a) (by decide) rfl; have a4 := h2.get 4 (.bool n) (by decide) rfl; have a5 := h2.get 5 (.int .i64 s) (by decide) rfl; clear h1 h2; go_simp; try with_reducible rfl)
                  simp only [Act.put, List.setIfInBounds_toArray, List.set_cons_zero, List.set_cons_succ]
                  refine wpAnyH_ready (rs := [17]) (by kernel_rfl) (by simp) ?_
                  refine AllReadyH.cons (o := ⟨none, _, _, _, _, _⟩) rfl (fun K hK => ?_) AllReadyH.nil
                  refine step_storeB rfl 32 _ _ rfl _ _ #[.int .i64 0, .int .i64 0, .int .i64 0, .bool false, .int .i64 0] 32 rfl rfl (by kernel_rfl) rfl (by simp [Value.oneCell']) (by repeat' (first | (with_reducible refine BoxAt.newAt _ _ _ _ (by (simp; done))) | with_reducible refine BoxAt.putAny #[] ?_ rfl | (with_reducible refine BoxAt.row ?_ (by first | with_reducible assumption | omega | (simp; done) | (simp; omega))) | with_reducible refine BoxAt.alloc ?_ _ | with_reducible refine BoxAt.drew ?_ | with_reducible refine BoxAt.below ?_ hb20)) ?_
                  refine hK.out _ _ ?_ (fun hS' => ?_)
                  · (exact ⟨(by repeat' (first | with_reducible exact Pk | with_reducible exact hS.1 | with_reducible refine BoxAt.row ?_ (by first | omega | (simp; done) | (simp; omega)) | with_reducible refine BoxAt.alloc ?_ _ | with_reducible refine BoxAt.drew ?_ | with_reducible refine BoxAt.below ?_ hb20)), (by repeat' (first | with_reducible exact Ak | with_reducible exact hS.2 | with_reducible refine RowAt.row ?_ (by first | omega | (simp; done) | (simp; omega)) | with_reducible refine RowAt.alloc ?_ _ | with_reducible refine RowAt.drew ?_ | with_reducible refine RowAt.below ?_ hb20))⟩)
                  clear hK K hS
                  have hS := hS'
                  clear hS'
                  try simp only [Act.put]
                  refine wpAnyH_take (i := 18) (oi := ⟨some 10, _, _, _, _, _⟩) (v := ?_) rfl (by kernel_rfl) (by kernel_rfl) (by kernel_rfl) (fun _ _ _ h => h) (Or.inl ⟨by rfl, ?_⟩) hS ?_
                  rotate_left
                  · (intro w' hSw; obtain ⟨h1, h2⟩ := hSw; have s0 := h1.get 0 (.slice (some ⟨ab, ao, none⟩) n1 c1) rfl; have s2 := h1.get 2 (.int .i64 st) rfl; have s3 := h1.get 3 (.int .i64 lv) rfl; have s4 := h1.get 4 (.int .i64 pg) rfl; have a0 := h2.get0 (.bool r) (by decide) rfl; have a1 := h2.get 1 (.bool wr') (by decide) rfl; have a2 := h2.get 2 (.bool x) (by decide) rfl; have a3 := h2.get 3 (.bool a) (by decide) rfl; have a4 := h2.get 4 (.bool n) (by decide) rfl; have a5 := h2.get 5 (.int .i64 s) (by decide) rfl; clear h1 h2; go_simp; try with_reducible rfl)
                  simp only [Act.put, List.setIfInBounds_toArray, List.set_cons_zero, List.set_cons_succ]
                  refine wpAnyH_done (by kernel_rfl) ?_ _
                  show KK _ _
                  refine hKK _ _ (Met.intro (hJJ _ _ ?_))
                  (repeat apply Exists.intro)
                  refine ⟨?_, rfl⟩
                  refine ⟨w11.heap.size, rfl, rfl, (by omega), ?_, ?_⟩
                  · show Below _ _ _
                    repeat' (first | with_reducible exact Below.refl w11.heap.size w11 | (with_reducible refine Below.rowB ?_ (by first | omega | (simp; done) | (simp; omega))) | with_reducible refine Below.setCell ?_ (by first | omega | (simp; done) | (simp; omega)) _ | with_reducible refine bel_alloc ?_ _ | with_reducible refine Below.drew ?_ | with_reducible refine bel_trans ?_ hb20)
                  · show BoxAt _ _ _ _
                    repeat' (first | (with_reducible refine BoxAt.newAt _ _ _ _ (by (simp; done))) | with_reducible refine BoxAt.putAny #[.int .i64 0, .int .i64 0, .int .i64 0, .bool false, .int .i64 0] ?_ rfl | (with_reducible refine BoxAt.row ?_ (by first | with_reducible assumption | omega | (simp; done) | (simp; omega))) | with_reducible refine BoxAt.alloc ?_ _ | with_reducible refine BoxAt.drew ?_ | with_reducible refine BoxAt.below ?_ hb20)
                case rest =>
                  obtain ⟨bF, rfl, rfl, hbF, HBx, F20⟩ := hcut
                  obtain ⟨w20, rfl⟩ : ∃ w20 : World, w20 = wc := ⟨_, rfl⟩
                  have P20 := Lib.hid (Pk.below HBx.out)
                  have A20 := Lib.hid (Ak.below HBx.out)
                  have B20 := Lib.hid (bel_trans B12.out HBx.out)
                  have hs20 : w11.heap.size ≤ w20.heap.size := HBx.out.size
                  have hs1 : W1.heap.size ≤ w11.heap.size := B12.out.size
                  have hlF := F20.out.lt
                  clear Pk Ak HBx P12 A12 B12
                  go_upto_region 15 with fail
                  have P21 := Lib.hid ((P20.out.alloc (.cells #[.int .i64 0, .int .i64 0, .int .i64 0, .bool false, .int .i64 0] 32)))
                  have F21 := Lib.hid ((F20.out.alloc (.cells #[.int .i64 0, .int .i64 0, .int .i64 0, .bool false, .int .i64 0] 32)))
                  have Z21 := Lib.hid ((BoxAt.newAt (w20) #[.int .i64 0, .int .i64 0, .int .i64 0, .bool false, .int .i64 0] 32 (w20.heap.size) (by first | rfl | (simp; done) | (simp; omega))))
                  have A21 := Lib.hid ((A20.out.alloc (.cells #[.int .i64 0, .int .i64 0, .int .i64 0, .bool false, .int .i64 0] 32)))
                  have B21 := Lib.hid ((bel_alloc B20.out (.cells #[.int .i64 0, .int .i64 0, .int .i64 0, .bool false, .int .i64 0] 32)))
                  clear P20 F20 A20 B20
                  obtain ⟨W8, hW8⟩ : ∃ W8, W8 = w20.alloc (.cells #[.int .i64 0, .int .i64 0, .int .i64 0, .bool false, .int .i64 0] 32) := ⟨_, rfl⟩
                  obtain ⟨bZ, hbZ⟩ : ∃ bZ, bZ = w20.heap.size := ⟨_, rfl⟩
                  rw [← hW8] at P21 F21 Z21 B21 A21 ⊢
                  rw [← hbZ] at Z21 hlF hs20 ⊢
                  clear hW8 hbZ
                  go_wp2_with fail
                  refine (HAC.out _).mono ?_
                  rintro e w22 ⟨rfl, rfl⟩
                  go_upto_region 17 with fail
                  have Pk := P21.out
                  have Ak := A21.out
                  have Zk := Z21.out
                  have hlZ := Zk.lt
                  go_cut [12] (fun s12 wx => s12 = .bool mm ∧ Hid (Below bZ W8 wx) ∧ Hid (BoxAt wx bZ #[.int .i64 fk, .int .i64 fs, .int .i64 fl, .bool fw, .int .i64 fp] 32))
                  case first =>
                    rename_i JJ KK hJJ hKK
                    refine wp_region_held_drew (S := (fun w' => BoxAt w' pb #[.slice (some ⟨ab, ao, none⟩) n1 c1, .int .i64 acc1, .int .i64 st, .int .i64 lv, .int .i64 pg] 25 ∧ RowAt w' ab (ao + j * 6) 6 #[.bool r, .bool wr', .bool x, .bool a, .bool n, .int .i64 s])) (by kernel_rfl) ?_ (fun hS => ?_)
                    · (exact ⟨(by repeat' (first | with_reducible exact Pk | with_reducible exact hS.1 | with_reducible refine BoxAt.row ?_ (by first | omega | (simp; done) | (simp; omega)) | with_reducible refine BoxAt.alloc ?_ _ | with_reducible refine BoxAt.drew ?_ | with_reducible refine BoxAt.below ?_ hb32 | with_reducible refine BoxAt.below ?_ hb31)), (by repeat' (first | with_reducible exact Ak | with_reducible exact hS.2 | with_reducible refine RowAt.row ?_ (by first | omega | (simp; done) | (simp; omega)) | with_reducible refine RowAt.alloc ?_ _ | with_reducible refine RowAt.drew ?_ | with_reducible refine RowAt.below ?_ hb32 | with_reducible refine RowAt.below ?_ hb31))⟩)
                    refine wpAnyH_take (i := 0) (oi := ⟨some 72, _, _, _, _, _⟩) (v := ?_) rfl (by kernel_rfl) (by kernel_rfl) (by kernel_rfl) (fun _ _ _ h => h) (Or.inl ⟨by rfl, ?_⟩) hS ?_
                    rotate_left
                    · (intro w' hSw; obtain ⟨h1, h2⟩ := hSw; have s0 := h1.get 0 (.slice (some ⟨ab, ao, none⟩) n1 c1) rfl; have s2 := h1.get 2 (.int .i64 st) rfl; have s3 := h1.get 3 (.int .i64 lv) rfl; have s4 := h1.get 4 (.int .i64 pg) rfl; have a0 := h2.get0 (.bool r) (by decide) rfl; have a1 := h2.get 1 (.bool wr') (by decide) rfl; have a2 := h2.get 2 (.bool x) (by decide) rfl; have a3 := h2.get 3 (.bool a) (by decide) rfl; have a4 := h2.get 4 (.bool n) (by decide) rfl; have a5 := h2.get 5 (.int .i64 s) (by decide) rfl; clear h1 h2; go_simp; try with_reducible rfl)
                    simp only [Act.put, List.setIfInBounds_toArray, List.set_cons_zero, List.set_cons_succ]
                    refine wpAnyH_take (i := 1) (oi := ⟨some 73, _, _, _, _, _⟩) (v := ?_) rfl (by kernel_rfl) (by kernel_rfl) (by kernel_rfl) (fun _ _ _ h => h) (Or.inl ⟨by rfl, ?_⟩) hS ?_
                    rotate_left
                    · (intro w' hSw; obtain ⟨h1, h2⟩ := hSw; have s0 := h1.get 0 (.slice (some ⟨ab, ao, none⟩) n1 c1) rfl; have s2 := h1.get 2 (.int .i64 st) rfl; have s3 := h1.get 3 (.int .i64 lv) rfl; have s4 := h1.get 4 (.int .i64 pg) rfl; have a0 := h2.get0 (.bool r) (by decide) rfl; have a1 := h2.get 1 (.bool wr') (by decide) rfl; have a2 := h2.get 2 (.bool x) (by decide) rfl; have a3 := h2.get 3 (.bool a) (by decide) rfl; have a4 := h2.get 4 (.bool n) (by decide) rfl; have a5 := h2.get 5 (.int .i64 s) (by decide) rfl; clear h1 h2; go_simp; try with_reducible rfl)
                    simp only [Act.put, List.setIfInBounds_toArray, List.set_cons_zero, List.set_cons_succ]
                    refine wpAnyH_take (i := 2) (oi := ⟨some 74, _, _, _, _, _⟩) (v := ?_) rfl (by kernel_rfl) (by kernel_rfl) (by kernel_rfl) (fun _ _ _ h => h) (Or.inl ⟨by rfl, ?_⟩) hS ?_
                    rotate_left
                    · (intro w' hSw; obtain ⟨h1, h2⟩ := hSw; have s0 := h1.get 0 (.slice (some ⟨ab, ao, none⟩) n1 c1) rfl; have s2 := h1.get 2 (.int .i64 st) rfl; have s3 := h1.get 3 (.int .i64 lv) rfl; have s4 := h1.get 4 (.int .i64 pg) rfl; have a0 := h2.get0 (.bool r) (by decide) rfl; have a1 := h2.get 1 (.bool wr') (by decide) rfl; have a2 := h2.get 2 (.bool x) (by decide) rfl; have a3 := h2.get 3 (.bool a) (by decide) rfl; have a4 := h2.get 4 (.bool n) (by decide) rfl; have a5 := h2.get 5 (.int .i64 s) (by decide) rfl; clear h1 h2; go_simp; try with_reducible rfl)
                    simp only [Act.put, List.setIfInBounds_toArray, List.set_cons_zero, List.set_cons_succ]
                    refine wpAnyH_take (i := 3) (oi := ⟨some 75, _, _, _, _, _⟩) (v := ?_) rfl (by kernel_rfl) (by kernel_rfl) (by kernel_rfl) (fun _ _ _ h => h) (Or.inl ⟨by rfl, ?_⟩) hS ?_
                    rotate_left
                    · (intro w' hSw; obtain ⟨h1, h2⟩ := hSw; have s0 := h1.get 0 (.slice (some ⟨ab, ao, none⟩) n1 c1) rfl; have s2 := h1.get 2 (.int .i64 st) rfl; have s3 := h1.get 3 (.int .i64 lv) rfl; have s4 := h1.get 4 (.int .i64 pg) rfl; have a0 := h2.get0 (.bool r) (by decide) rfl; have a1 := h2.get 1 (.bool wr') (by decide) rfl; have a2 := h2.get 2 (.bool x) (by decide) rfl; have a3 := h2.get 3 (.bool a) (by decide) rfl; have a4 := h2.get 4 (.bool n) (by decide) rfl; have a5 := h2.get 5 (.int .i64 s) (by decide) rfl; clear h1 h2; go_simp; try with_reducible rfl)
                    simp only [Act.put, List.setIfInBounds_toArray, List.set_cons_zero, List.set_cons_succ]
                    refine wpAnyH_take (i := 4) (oi := ⟨some 76, _, _, _, _, _⟩) (v := ?_) rfl (by kernel_rfl) (by kernel_rfl) (by kernel_rfl) (fun _ _ _ h => h) (Or.inl ⟨by rfl, ?_⟩) hS ?_
                    rotate_left
                    · (intro w' hSw; obtain ⟨h1, h2⟩ := hSw; have s0 := h1.get 0 (.slice (some ⟨ab, ao, none⟩) n1 c1) rfl; have s2 := h1.get 2 (.int .i64 st) rfl; have s3 := h1.get 3 (.int .i64 lv) rfl; have s4 := h1.get 4 (.int .i64 pg) rfl; have a0 := h2.get0 (.bool r) (by decide) rfl; have a1 := h2.get 1 (.bool wr') (by decide) rfl; have a2 := h2.get 2 (.bool x) (by decide) rfl; have a3 := h2.get 3 (.bool a) (by decide) rfl; have a4 := h2.get 4 (.bool n) (by decide) rfl; have a5 := h2.get 5 (.int .i64 s) (by decide) rfl; clear h1 h2; go_simp; try with_reducible rfl)
                    simp only [Act.put, List.setIfInBounds_toArray, List.set_cons_zero, List.set_cons_succ]
                    refine wpAnyH_take (i := 5) (oi := ⟨some 77, _, _, _, _, _⟩) (v := ?_) rfl (by kernel_rfl) (by kernel_rfl) (by kernel_rfl) (fun _ _ _ h => h) (Or.inl ⟨by rfl, ?_⟩) hS ?_
                    rotate_left
                    · (intro w' hSw; obtain ⟨h1, h2⟩ := hSw; have s0 := h1.get 0 (.slice (some ⟨ab, ao, none⟩) n1 c1) rfl; have s2 := h1.get 2 (.int .i64 st) rfl; have s3 := h1.get 3 (.int .i64 lv) rfl; have s4 := h1.get 4 (.int .i64 pg) rfl; have a0 := h2.get0 (.bool r) (by decide) rfl; have a1 := h2.get 1 (.bool wr') (by decide) rfl; have a2 := h2.get 2 (.bool x) (by decide) rfl; have a3 := h2.get 3 (.bool a) (by decide) rfl; have a4 := h2.get 4 (.bool n) (by decide) rfl; have a5 := h2.get 5 (.int .i64 s) (by decide) rfl; clear h1 h2; go_simp; try with_reducible rfl)
                    simp only [Act.put, List.setIfInBounds_toArray, List.set_cons_zero, List.set_cons_succ]
                    refine wpAnyH_take (i := 7) (oi := ⟨some 79, _, _, _, _, _⟩) (v := ?_) rfl (by kernel_rfl) (by kernel_rfl) (by kernel_rfl) (fun _ _ _ h => h) (Or.inl ⟨by rfl, ?_⟩) hS ?_
                    rotate_left
                    · (intro w' hSw; obtain ⟨h1, h2⟩ := hSw; have s0 := h1.get 0 (.slice (some ⟨ab, ao, none⟩) n1 c1) rfl; have s2 := h1.get 2 (.int .i64 st) rfl; have s3 := h1.get 3 (.int .i64 lv) rfl; have s4 := h1.get 4 (.int .i64 pg) rfl; have a0 := h2.get0 (.bool r) (by decide) rfl; have a1 := h2.get 1 (.bool wr') (by decide) rfl; have a2 := h2.get 2 (.bool x) (by decide) rfl; have a3 := h2.get 3 (.bool a) (by decide) rfl; have a4 := h2.get 4 (.bool n) (by decide) rfl; have a5 := h2.get 5 (.int .i64 s) (by decide) rfl; clear h1 h2; go_simp; try with_reducible rfl)
                    simp only [Act.put, List.setIfInBounds_toArray, List.set_cons_zero, List.set_cons_succ]
                    refine wpAnyH_take (i := 8) (oi := ⟨some 80, _, _, _, _, _⟩) (v := ?_) rfl (by kernel_rfl) (by kernel_rfl) (by kernel_rfl) (fun _ _ _ h => h) (Or.inl ⟨by rfl, ?_⟩) hS ?_
                    rotate_left
                    · (intro w' hSw; obtain ⟨h1, h2⟩ := hSw; have s0 := h1.get 0 (.slice (some ⟨ab, ao, none⟩) n1 c1) rfl; have s2 := h1.get 2 (.int .i64 st) rfl; have s3 := h1.get 3 (.int .i64 lv) rfl; have s4 := h1.get 4 (.int .i64 pg) rfl; have a0 := h2.get0 (.bool r) (by decide) rfl; have a1 := h2.get 1 (.bool wr') (by decide) rfl; have a2 := h2.get 2 (.bool x) (by decide) rfl; have a3 := h2.get 3 (.bool a) (by decide) rfl; have a4 := h2.get 4 (.bool n) (by decide) rfl; have a5 := h2.get 5 (.int .i64 s) (by decide) rfl; clear h1 h2; go_simp; try with_reducible rfl)
                    simp only [Act.put, List.setIfInBounds_toArray, List.set_cons_zero, List.set_cons_succ]
                    refine wpAnyH_take (i := 9) (oi := ⟨some 81, _, _, _, _, _⟩) (v := ?_) rfl (by kernel_rfl) (by kernel_rfl) (by kernel_rfl) (fun _ _ _ h => h) (Or.inl ⟨by rfl, ?_⟩) hS ?_
                    rotate_left
                    · (intro w' hSw; obtain ⟨h1, h2⟩ := hSw; have s0 := h1.get 0 (.slice (some ⟨ab, ao, none⟩) n1 c1) rfl; have s2 := h1.get 2 (.int .i64 st) rfl; have s3 := h1.get 3 (.int .i64 lv) rfl; have s4 := h1.get 4 (.int .i64 pg) rfl; have a0 := h2.get0 (.bool r) (by decide) rfl; have a1 := h2.get 1 (.bool wr') (by decide) rfl; have a2 := h2.get 2 (.bool x) (by decide) rfl; have a3 := h2.get 3 (.bool a) (by decide) rfl; have a4 := h2.get 4 (.bool n) (by decide) rfl; have a5 := h2.get 5 (.int .i64 s) (by decide) rfl; clear h1 h2; go_simp; try with_reducible rfl)
                    simp only [Act.put, List.setIfInBounds_toArray, List.set_cons_zero, List.set_cons_succ]
                    refine wpAnyH_take (i := 10) (oi := ⟨some 82, _, _, _, _, _⟩) (v := ?_) rfl (by kernel_rfl) (by kernel_rfl) (by kernel_rfl) (fun _ _ _ h => h) (Or.inl ⟨by rfl, ?_⟩) hS ?_
                    rotate_left
                    · (intro w' hSw; obtain ⟨h1, h2⟩ := hSw; have s0 := h1.get 0 (.slice (some ⟨ab, ao, none⟩) n1 c1) rfl; have s2 := h1.get 2 (.int .i64 st) rfl; have s3 := h1.get 3 (.int .i64 lv) rfl; have s4 := h1.get 4 (.int .i64 pg) rfl; have a0 := h2.get0 (.bool r) (by decide) rfl; have a1 := h2.get 1 (.bool wr') (by decide) rfl; have a2 := h2.get 2 (.bool x) (by decide) rfl; have a3 := h2.get 3 (.bool a) (by decide) rfl; have a4 := h2.get 4 (.bool n) (by decide) rfl; have a5 := h2.get 5 (.int .i64 s) (by decide) rfl; clear h1 h2; go_simp; try with_reducible rfl)
                    simp only [Act.put, List.setIfInBounds_toArray, List.set_cons_zero, List.set_cons_succ]
                    refine wpAnyH_take (i := 11) (oi := ⟨some 83, _, _, _, _, _⟩) (v := ?_) rfl (by kernel_rfl) (by kernel_rfl) (by kernel_rfl) (fun _ _ _ h => h) (Or.inl ⟨by rfl, ?_⟩) hS ?_
                    rotate_left
                    · (intro w' hSw; obtain ⟨h1, h2⟩ := hSw; have s0 := h1.get 0 (.slice (some ⟨ab, ao, none⟩) n1 c1) rfl; have s2 := h1.get 2 (.int .i64 st) rfl; have s3 := h1.get 3 (.int .i64 lv) rfl; have s4 := h1.get 4 (.int .i64 pg) rfl; have a0 := h2.get0 (.bool r) (by decide) rfl; have a1 := h2.get 1 (.bool wr') (by decide) rfl; have a2 := h2.get 2 (.bool x) (by decide) rfl; have a3 := h2.get 3 (.bool a) (by decide) rfl; have a4 := h2.get 4 (.bool n) (by decide) rfl; have a5 := h2.get 5 (.int .i64 s) (by decide) rfl; clear h1 h2; go_simp; try with_reducible rfl)
                    simp only [Act.put, List.setIfInBounds_toArray, List.set_cons_zero, List.set_cons_succ]
                    refine wpAnyH_take (i := 12) (oi := ⟨some 84, _, _, _, _, _⟩) (v := ?_) rfl (by kernel_rfl) (by kernel_rfl) (by kernel_rfl) (fun _ _ _ h => h) (Or.inl ⟨by rfl, ?_⟩) hS ?_
                    rotate_left
                    · (intro w' hSw; obtain ⟨h1, h2⟩ := hSw; have s0 := h1.get 0 (.slice (some ⟨ab, ao, none⟩) n1 c1) rfl; have s2 := h1.get 2 (.int .i64 st) rfl; have s3 := h1.get 3 (.int .i64 lv) rfl; have s4 := h1.get 4 (.int .i64 pg) rfl; have a0 := h2.get0 (.bool r) (by decide) rfl; have a1 := h2.get 1 (.bool wr') (by decide) rfl; have a2 := h2.get 2 (.bool x) (by decide) rfl; have a3 := h2.get 3 (.bool a) (by decide) rfl; have a4 := h2.get 4 (.bool n) (by decide) rfl; have a5 := h2.get 5 (.int .i64 s) (by decide) rfl; clear h1 h2; go_simp; try with_reducible rfl)
                    simp only [Act.put, List.setIfInBounds_toArray, List.set_cons_zero, List.set_cons_succ]
                    refine wpAnyH_take (i := 13) (oi := ⟨some 85, _, _, _, _, _⟩) (v := ?_) rfl (by kernel_rfl) (by kernel_rfl) (by kernel_rfl) (fun _ _ _ h => h) (Or.inl ⟨by rfl, ?_⟩) hS ?_
                    rotate_left
                    · (intro w' hSw; obtain ⟨h1, h2⟩ := hSw; have s0 := h1.get 0 (.slice (some ⟨ab, ao, none⟩) n1 c1) rfl; have s2 := h1.get 2 (.int .i64 st) rfl; have s3 := h1.get 3 (.int .i64 lv) rfl; have s4 := h1.get 4 (.int .i64 pg) rfl; have a0 := h2.get0 (.bool r) (by decide) rfl; have a1 := h2.get 1 (.bool wr') (by decide) rfl; have a2 := h2.get 2 (.bool x) (by decide) rfl; have a3 := h2.get 3 (.bool a) (by decide) rfl; have a4 := h2.get 4 (.bool n) (by decide) rfl; have a5 := h2.get 5 (.int .i64 s) (by decide) rfl; clear h1 h2; go_simp; try with_reducible rfl)
                    simp only [Act.put, List.setIfInBounds_toArray, List.set_cons_zero, List.set_cons_succ]
                    refine wpAnyH_take (i := 14) (oi := ⟨some 86, _, _, _, _, _⟩) (v := ?_) rfl (by kernel_rfl) (by kernel_rfl) (by kernel_rfl) (fun _ _ _ h => h) (Or.inl ⟨by rfl, ?_⟩) hS ?_
                    rotate_left
                    · (intro w' hSw; obtain ⟨h1, h2⟩ := hSw; have s0 := h1.get 0 (.slice (some ⟨ab, ao, none⟩) n1 c1) rfl; have s2 := h1.get 2 (.int .i64 st) rfl; have s3 := h1.get 3 (.int .i64 lv) rfl; have s4 := h1.get 4 (.int .i64 pg) rfl; have a0 := h2.get0 (.bool r) (by decide) rfl; have a1 := h2.get 1 (.bool wr') (by decide) rfl; have a2 := h2.get 2 (.bool x) (by decide) rfl; have a3 := h2.get 3 (.bool a) (by decide) rfl; have a4 := h2.get 4 (.bool n) (by decide) rfl; have a5 := h2.get 5 (.int .i64 s) (by decide) rfl; clear h1 h2; go_simp; try with_reducible rfl)
                    simp only [Act.put, List.setIfInBounds_toArray, List.set_cons_zero, List.set_cons_succ]
                    refine wpAnyH_take (i := 15) (oi := ⟨some 87, _, _, _, _, _⟩) (v := ?_) rfl (by kernel_rfl) (by kernel_rfl) (by kernel_rfl) (fun _ _ _ h => h) (Or.inl ⟨by rfl, ?_⟩) hS ?_
                    rotate_left
                    · (intro w' hSw; obtain ⟨h1, h2⟩ := hSw; have s0 := h1.get 0 (.slice (some ⟨ab, ao, none⟩) n1 c1) rfl; have s2 := h1.get 2 (.int .i64 st) rfl; have s3 := h1.get 3 (.int .i64 lv) rfl; have s4 := h1.get 4 (.int .i64 pg) rfl; have a0 := h2.get0 (.bool r) (by decide) rfl; have a1 := h2.get 1 (.bool wr') (by decide) rfl; have a2 := h2.get 2 (.bool x) (by decide) rfl; have a3 := h2.get 3 (.bool a) (by decide) rfl; have a4 := h2.get 4 (.bool n) (by decide) rfl; have a5 := h2.get 5 (.int .i64 s) (by decide) rfl; clear h1 h2; go_simp; try with_reducible rfl)
                    simp only [Act.put, List.setIfInBounds_toArray, List.set_cons_zero, List.set_cons_succ]
                    refine wpAnyH_take (i := 16) (oi := ⟨some 88, _, _, _, _, _⟩) (v := ?_) rfl (by kernel_rfl) (by kernel_rfl) (by kernel_rfl) (fun _ _ _ h => h) (Or.inl ⟨by rfl, ?_⟩) hS ?_
                    rotate_left
                    · (intro w' hSw; obtain ⟨h1, h2⟩ := hSw; have s0 := h1.get 0 (.slice (some ⟨ab, ao, none⟩) n1 c1) rfl; have s2 := h1.get 2 (.int .i64 st) rfl; have s3 := h1.get 3 (.int .i64 lv) rfl; have s4 := h1.get 4 (.int .i64 pg) rfl; have a0 := h2.get0 (.bool r) (by decide) rfl; have a1 := h2.get 1 (.bool wr') (by decide) rfl; have a2 := h2.get 2 (.bool x) (by decide) rfl; have a3 := h2.get 3 (.bool a) (by decide) rfl; have a4 := h2.get 4 (.bool n) (by decide) rfl; have a5 := h2.get 5 (.int .i64 s) (by decide) rfl; clear h1 h2; go_simp; try with_reducible rfl)
                    simp only [Act.put, List.setIfInBounds_toArray, List.set_cons_zero, List.set_cons_succ]
                    refine wpAnyH_take (i := 17) (oi := ⟨some 89, _, _, _, _, _⟩) (v := ?_) rfl (by kernel_rfl) (by kernel_rfl) (by kernel_rfl) (fun _ _ _ h => h) (Or.inl ⟨by rfl, ?_⟩) hS ?_
                    rotate_left
                    · (intro w' hSw; obtain ⟨h1, h2⟩ := hSw; have s0 := h1.get 0 (.slice (some ⟨ab, ao, none⟩) n1 c1) rfl; have s2 := h1.get 2 (.int .i64 st) rfl; have s3 := h1.get 3 (.int .i64 lv) rfl; have s4 := h1.get 4 (.int .i64 pg) rfl; have a0 := h2.get0 (.bool r) (by decide) rfl; have a1 := h2.get 1 (.bool wr') (by decide) rfl; have a2 := h2.get 2 (.bool x) (by decide) rfl; have a3 := h2.get 3 (.bool a) (by decide) rfl; have a4 := h2.get 4 (.bool n) (by decide) rfl; have a5 := h2.get 5 (.int .i64 s) (by decide) rfl; clear h1 h2; go_simp; try with_reducible rfl)
                    simp only [Act.put, List.setIfInBounds_toArray, List.set_cons_zero, List.set_cons_succ]
                    refine wpAnyH_take (i := 18) (oi := ⟨some 90, _, _, _, _, _⟩) (v := ?_) rfl (by kernel_rfl) (by kernel_rfl) (by kernel_rfl) (fun _ _ _ h => h) (Or.inl ⟨by rfl, ?_⟩) hS ?_
                    rotate_left
                    · (intro w' hSw; obtain ⟨h1, h2⟩ := hSw; have s0 := h1.get 0 (.slice (some ⟨ab, ao, none⟩) n1 c1) rfl; have s2 := h1.get 2 (.int .i64 st) rfl; have s3 := h1.get 3 (.int .i64 lv) rfl; have s4 := h1.get 4 (.int .i64 pg) rfl; have a0 := h2.get0 (.bool r) (by decide) rfl; have a1 := h2.get 1 (.bool wr') (by decide) rfl; have a2 := h2.get 2 (.bool x) (by decide) rfl; have a3 := h2.get 3 (.bool a) (by decide) rfl; have a4 := h2.get 4 (.bool n) (by decide) rfl; have a5 := h2.get 5 (.int .i64 s) (by decide) rfl; clear h1 h2; go_simp; try with_reducible rfl)
                    simp only [Act.put, List.setIfInBounds_toArray, List.set_cons_zero, List.set_cons_succ]
                    refine wpAnyH_ready (rs := [6]) (by kernel_rfl) (by simp) ?_
                    refine AllReadyH.cons (o := ⟨some 78, _, _, _, _, _⟩) rfl (fun K hK => ?_) AllReadyH.nil
                    go_simp
                    refine (HRM.out _).mono ?_
                    rintro e w31 ⟨rfl, hb31⟩
                    refine hK.out _ _ ?_ (fun hS' => ?_)
                    · (exact ⟨(by repeat' (first | with_reducible exact Pk | with_reducible exact hS.1 | with_reducible refine BoxAt.row ?_ (by first | omega | (simp; done) | (simp; omega)) | with_reducible refine BoxAt.alloc ?_ _ | with_reducible refine BoxAt.drew ?_ | with_reducible refine BoxAt.below ?_ hb32 | with_reducible refine BoxAt.below ?_ hb31)), (by repeat' (first | with_reducible exact Ak | with_reducible exact hS.2 | with_reducible refine RowAt.row ?_ (by first | omega | (simp; done) | (simp; omega)) | with_reducible refine RowAt.alloc ?_ _ | with_reducible refine RowAt.drew ?_ | with_reducible refine RowAt.below ?_ hb32 | with_reducible refine RowAt.below ?_ hb31))⟩)
                    clear hK K hS
                    have hS := hS'
                    clear hS'
                    try simp only [Act.put, List.setIfInBounds_toArray, List.set_cons_zero, List.set_cons_succ]
                    refine wpAnyH_ready (rs := [19]) (by kernel_rfl) (by simp) ?_
                    refine AllReadyH.cons (o := ⟨some 91, _, _, _, _, _⟩) rfl (fun K hK => ?_) AllReadyH.nil
                    go_simp
                    refine (HRF.out _).mono ?_
                    rintro e w32 ⟨rfl, hb32⟩
                    refine hK.out _ _ ?_ (fun hS' => ?_)
                    · (exact ⟨(by repeat' (first | with_reducible exact Pk | with_reducible exact hS.1 | with_reducible refine BoxAt.row ?_ (by first | omega | (simp; done) | (simp; omega)) | with_reducible refine BoxAt.alloc ?_ _ | with_reducible refine BoxAt.drew ?_ | with_reducible refine BoxAt.below ?_ hb32 | with_reducible refine BoxAt.below ?_ hb31)), (by repeat' (first | with_reducible exact Ak | with_reducible exact hS.2 | with_reducible refine RowAt.row ?_ (by first | omega | (simp; done) | (simp; omega)) | with_reducible refine RowAt.alloc ?_ _ | with_reducible refine RowAt.drew ?_ | with_reducible refine RowAt.below ?_ hb32 | with_reducible refine RowAt.below ?_ hb31))⟩)
                    clear hK K hS
                    have hS := hS'
                    clear hS'
                    try simp only [Act.put, List.setIfInBounds_toArray, List.set_cons_zero, List.set_cons_succ]
                    refine wpAnyH_take (i := 20) (oi := ⟨some 12, _, _, _, _, _⟩) (v := ?_) rfl (by kernel_rfl) (by kernel_rfl) (by kernel_rfl) (fun _ _ _ h => h) (Or.inl ⟨by rfl, ?_⟩) hS ?_
                    rotate_left
                    · (intro w' hSw; obtain ⟨h1, h2⟩ := hSw; have s0 := h1.get 0 (.slice (some ⟨ab, ao, none⟩) n1 c1) rfl; have s2 := h1.get 2 (.int .i64 st) rfl; have s3 := h1.get 3 (.int .i64 lv) rfl; have s4 := h1.get 4 (.int .i64 pg) rfl; have a0 := h2.get0 (.bool r) (by decide) rfl; have a1 := h2.get 1 (.bool wr') (by decide) rfl; have a2 := h2.get 2 (.bool x) (by decide) rfl; have a3 := h2.get 3 (.bool a) (by decide) rfl; have a4 := h2.get 4 (.bool n) (by decide) rfl; have a5 := h2.get 5 (.int .i64 s) (by decide) rfl; clear h1 h2; go_simp; try with_reducible rfl)
                    simp only [Act.put, List.setIfInBounds_toArray, List.set_cons_zero, List.set_cons_succ]
                    refine wpAnyH_ready (rs := [21]) (by kernel_rfl) (by simp) ?_
                    refine AllReadyH.cons (o := ⟨none, _, _, _, _, _⟩) rfl (fun K hK => ?_) AllReadyH.nil
                    refine step_storeB rfl 32 _ _ rfl _ _ #[.int .i64 0, .int .i64 0, .int .i64 0, .bool false, .int .i64 0] 32 rfl rfl (by kernel_rfl) rfl (by simp [Value.oneCell']) (by repeat' (first | with_reducible exact Zk | with_reducible refine BoxAt.drew ?_ | with_reducible refine BoxAt.below ?_ hb32 | with_reducible refine BoxAt.below ?_ hb31)) ?_
                    refine hK.out _ _ ?_ (fun hS' => ?_)
                    · (exact ⟨(by repeat' (first | with_reducible exact Pk | with_reducible exact hS.1 | with_reducible refine BoxAt.row ?_ (by first | omega | (simp; done) | (simp; omega)) | with_reducible refine BoxAt.alloc ?_ _ | with_reducible refine BoxAt.drew ?_ | with_reducible refine BoxAt.below ?_ hb32 | with_reducible refine BoxAt.below ?_ hb31)), (by repeat' (first | with_reducible exact Ak | with_reducible exact hS.2 | with_reducible refine RowAt.row ?_ (by first | omega | (simp; done) | (simp; omega)) | with_reducible refine RowAt.alloc ?_ _ | with_reducible refine RowAt.drew ?_ | with_reducible refine RowAt.below ?_ hb32 | with_reducible refine RowAt.below ?_ hb31))⟩)
                    clear hK K hS
                    have hS := hS'
                    clear hS'
                    try simp only [Act.put]
                    refine wpAnyH_done (by kernel_rfl) ?_ _
                    show KK _ _
                    refine hKK _ _ (Met.intro (hJJ _ _ ?_))
                    (repeat apply Exists.intro)
                    refine ⟨?_, rfl⟩
                    refine ⟨rfl, ?_, ?_⟩
                    · show Below _ _ _
                      have m31 := hb31.mono (show bZ ≤ W8.drew.heap.size by show bZ ≤ W8.heap.size; omega)
                      have m32 := hb32.mono (show bZ ≤ w31.heap.size by have := hb31.size; have : W8.drew.heap.size = W8.heap.size := rfl; omega)
                      repeat' (first | with_reducible exact Below.refl _ _ | (with_reducible refine Below.rowB ?_ (Nat.le_refl _)) | with_reducible refine Below.drew ?_ | with_reducible refine Below.trans ?_ m32 | with_reducible refine Below.trans ?_ m31)
                    · show BoxAt _ _ _ _
                      repeat' (first | with_reducible refine BoxAt.putAny #[.int .i64 0, .int .i64 0, .int .i64 0, .bool false, .int .i64 0] ?_ rfl | with_reducible exact Zk | with_reducible refine BoxAt.drew ?_ | with_reducible refine BoxAt.below ?_ hb32 | with_reducible refine BoxAt.below ?_ hb31)
                  case rest =>
                    obtain ⟨rfl, HBz, Z40⟩ := hcut
                    obtain ⟨w40, rfl⟩ : ∃ w40 : World, w40 = wc := ⟨_, rfl⟩
                    have F40 := Lib.hid (F21.out.under HBz.out (by omega))
                    have B40 := Lib.hid (B21.out.trans (HBz.out.mono (show W1.heap.size ≤ bZ by omega)))
                    clear HBz Pk Ak Zk P21 A21 F21 Z21 B21
                    have hqf := eqF_self ⟨fk, fs, fl, fw, fp⟩
                    have Fc0 := F40.out.get 0 (.int .i64 fk) rfl
                    have Fc1 := F40.out.get 1 (.int .i64 fs) rfl
                    have Fc2 := F40.out.get 2 (.int .i64 fl) rfl
                    have Fc3 := F40.out.get 3 (.bool fw) rfl
                    have Fc4 := F40.out.get 4 (.int .i64 fp) rfl
                    have Zc0 := Z40.out.get 0 (.int .i64 fk) rfl
                    have Zc1 := Z40.out.get 1 (.int .i64 fs) rfl
                    have Zc2 := Z40.out.get 2 (.int .i64 fl) rfl
                    have Zc3 := Z40.out.get 3 (.bool fw) rfl
                    have Zc4 := Z40.out.get 4 (.int .i64 fp) rfl
                    go_wp2_with fail
                    refine (lnum6_any _ _).mono ?_
                    rintro e w41 ⟨rfl, rfl⟩
                    go_wp2_with fail
                    refine (lnum6_any _ _).mono ?_
                    rintro e w42 ⟨rfl, rfl⟩
                    go_wp2
                    go_roundw
                    case rel => exact ⟨acc + 1, by omega, by omega, rfl, B40.out⟩
                    case measure => (simp [intOf] <;> omega)
            · have e3 : decide (acc ≤ 3) = false := decide_eq_false hacc
              have HB := Lib.hid hb
              clear hb
              go_wp2
              go_roundw
              case rel => exact ⟨j + 1, by omega, by go_num, HB.out⟩
              case measure => simp [intOf]; omega
        · by_cases hq : j < n1
          · have hq' : decide ((j : Int) < 10) = false := decide_eq_false (by omega)
            have HB := Lib.hid hb
            clear hb
            go_wp2
            go_roundw
            case rel => exact ⟨k + 1, by omega, by go_num, bel_trans B0.out HB.out⟩
            case measure => simp [intOf]; omega
          · have HB := Lib.hid hb
            clear hb
            go_wp2
            go_roundw
            case rel => exact ⟨k + 1, by omega, by go_num, bel_trans B0.out HB.out⟩
            case measure => simp [intOf]; omega
    · by_cases hq : k < len
      · have hq' : decide ((k : Int) < 15) = false := decide_eq_false (by omega)
        have HB := Lib.hid hb
        clear hb
        go_wp2_with (go_at_call 12; refine (HW6.out _).mono ?_; rintro e w2 ⟨rfl, hb2⟩)
        go_ret
        exact ⟨rfl, bel_trans HB.out hb2⟩
      · have HB := Lib.hid hb
        clear hb
        go_wp2_with (go_at_call 12; refine (HW6.out _).mono ?_; rintro e w2 ⟨rfl, hb2⟩)
        go_ret
        exact ⟨rfl, bel_trans HB.out hb2⟩
end Go.Proofs.Ytnklpfnmpnaegaa
