/- The walk of DescBack. -/
import Derived.Test.YtpjnanplliinpaaDq
namespace Go.Proofs.Ytpjnanplliinpaa
open Go.ChangeShapes Go.WideShapes Go.ChangeAt Go.RowKit Go.Deep

/-- A number within a bound, out of any. -/
def withinV (x n : Int) : Int := x % 18446744073709551616 % n
theorem within_lo (x n : Int) (h : 1 ≤ n) : 0 ≤ withinV x n := Int.emod_nonneg _ (by omega)
theorem within_hi (x n : Int) (h : 1 ≤ n) : withinV x n < n := Int.emod_lt_of_pos _ (by omega)
theorem within_any (x n : Int) (w : World) (h0 : 1 ≤ n) (h1 : n ≤ 9223372036854775807) :
    Calls Try.prog 29 #[.int .i64 x, .int .i64 n] w fun e w' => e = .returned (.int .i64 (withinV x n)) ∧ w = w' := by
  go_enter Try.func29, Try.ntmps29
  go_wp2
  go_ret
  refine ⟨ret_int ?_, rfl⟩
  have e : (IntKind.u64.wrap x).tmod n = withinV x n := by
    rw [IntKind.wrap_u64]
    exact Int.tmod_eq_emod_of_nonneg (Int.emod_nonneg _ (by omega))
  have l := within_lo x n h0
  have k := within_hi x n h0
  rw [e]
  exact IntWalk.wrap64_in _ ⟨by omega, by omega⟩

theorem bitK_ne (v : BitVec 64) (j : Int) (h0 : 0 ≤ j) (h1 : j < 64) : bitK v j ≠ v := by
  intro h
  have hb := bits_of _ _ j.toNat h
  unfold bitK at hb
  have hlt : j.toNat < 64 := by omega
  simp [hlt] at hb

/-- What a turned word is: nothing, or another descriptor, which has that word. -/
theorem turned (st lv : Int) (d : Dsc) (j : Int) (h0 : 0 ≤ j) (h1 : j < 64) :
    ofD st lv (bitK (wordD st lv d) j) = dz ∨ (mayD st lv (ofD st lv (bitK (wordD st lv d) j)) = true ∧ wordD st lv (ofD st lv (bitK (wordD st lv d) j)) = bitK (wordD st lv d) j ∧ ofD st lv (bitK (wordD st lv d) j) ≠ d) := by
  rcases of_cases st lv (bitK (wordD st lv d) j) with h | ⟨h, h'⟩
  · exact .inl h
  · refine .inr ⟨h, h', fun e => bitK_ne (wordD st lv d) j h0 h1 ?_⟩
    rw [e] at h'
    exact h'.symm

theorem back_empty (a : Option Addr) (cap : Nat) (w : World) :
    Calls Try.prog 5 #[.slice a 0 cap] w fun e w' => e = .returned (.bool true) ∧ Below w.heap.size w w' := by
  go_enter Try.func5, Try.ntmps5
  go_wp2
  refine wp_loop_rounds 1 ?_
  rw [rounds_succ]
  go_wp2_with (go_at_call 26; refine (wakes_any _).mono ?_; rintro e w' ⟨rfl, hb⟩)
  go_ret
  exact ⟨rfl, hb⟩

set_option maxRecDepth 100000 in
set_option maxHeartbeats 12800000 in
theorem back_walk (b off len cap : Nat) (w : World) (q : Nat → Q3) (hc : ∀ i, i < len → Ask3 w b (off + i * 13) (q i)) :
    Calls Try.prog 5 #[.slice (some ⟨b, off, none⟩) len cap] w fun e w' => e = .returned (.bool true) ∧ Below w.heap.size w w' := by
  have HC := Lib.hid hc
  clear hc
  go_enter Try.func5, Try.ntmps5
  go_wp2
  go_loopw [3] (fun i wr => ∃ k : Nat, k ≤ len ∧ i = .int .i64 k ∧ Below w.heap.size w wr) (fun i _ => len - (intOf i).toNat)
  case atStart => exact ⟨0, Nat.zero_le _, rfl, Below.refl _ _⟩
  case round =>
    obtain ⟨k, hk, rfl, hb⟩ := hrel
    by_cases hlt : k < len ∧ k < 12
    · obtain ⟨hlt, hlt'⟩ := hlt
      have i1 : (0 : Int) ≤ (k : Int) := by omega
      have i2 : (k : Int) < (len : Int) := by omega
      have d12 : decide ((k : Int) < 12) = true := decide_eq_true (by omega)
      have HQ := Lib.hid (HC.out k hlt)
      generalize q k = qk at *
      obtain ⟨qs, ql, qp, ⟨dk, df, dr, dw, dx, da, dn, ds, d0⟩, qw⟩ := qk
      have HB0 := Lib.hid hb
      clear hb
      go_upto_region 4 with fail
      go_cut [4, 5] (fun s4 s5 wx => ∃ st lv : Int, s4 = .int .i64 st ∧ s5 = .int .i64 lv ∧ Hid (placeB st lv = true) ∧ Hid (Below w.heap.size w wx))
      case first =>
        have HA := Lib.hid (HQ.out.below HB0.out)
        have c0 : wr.cell? ⟨b, off + k * 13, none⟩ = some (.int .i64 qs) := HA.out.c 0 (by decide)
        have c1 : wr.cell? ⟨b, off + k * 13 + 1, none⟩ = some (.int .i64 ql) := HA.out.c 1 (by decide)
        have a0 := within_lo qs 2 (by decide)
        have a1 := within_hi qs 2 (by decide)
        have b0 := within_lo ql 4 (by decide)
        have b1 := within_hi ql 4 (by decide)
        have H2 := Lib.hid (fun W => same (within_any qs 2 W (by decide) (by decide)))
        have H4 := Lib.hid (fun W => same (within_any ql 4 W (by decide) (by decide)))
        generalize withinV qs 2 = e2 at *
        generalize withinV ql 4 = e4 at *
        have m1 : IntKind.i64.wrap (1 + e2) = 1 + e2 := IntWalk.i64_in _ (by omega)
        go_quiet (first | (go_at_call 29; with_reducible exact Calls.quiet_of_same (H2.out _)) | (go_at_call 29; with_reducible exact Calls.quiet_of_same (H4.out _)))
        go_wp2_with fail
        go_meet
        exact ⟨1 + e2, e4, rfl, rfl, placeB_iff.2 (by omega), below_drewN HB0.out _⟩
      case rest =>
        obtain ⟨st, lv, rfl, rfl, HPL, HB1⟩ := hcut
        clear HB0
        have HA := Lib.hid (HQ.out.below HB1.out)
        have c3 := HA.out.c 3 (by decide)
        have c4 := HA.out.c 4 (by decide)
        have c5 := HA.out.c 5 (by decide)
        have c6 := HA.out.c 6 (by decide)
        have c7 := HA.out.c 7 (by decide)
        have c8 := HA.out.c 8 (by decide)
        have c9 := HA.out.c 9 (by decide)
        have c10 := HA.out.c 10 (by decide)
        have c11 := HA.out.c 11 (by decide)
        simp only [askV, List.getElem?_toArray, List.getElem?_cons_zero, List.getElem?_cons_succ] at c3 c4 c5 c6 c7 c8 c9 c10 c11
        cases hm : mayD st lv (Dsc.mk dk df dr dw dx da dn ds d0)
        · have hE : mayE st lv (Dsc.mk dk df dr dw dx da dn ds d0) = false := by (unfold mayE; rw [HPL.out, hm]; rfl)
          have HW := Lib.hid (fun W => dword_no st lv dk df dr dw dx da dn ds d0 W hE)
          clear hm hE
          go_wp2_with (first | (go_at_call 14; refine (HW.out _).mono ?_; rintro e w1 ⟨rfl, hb1⟩) | (go_at_call 18; refine (lnum_any _ _).mono ?_; rintro e w3 ⟨rfl, rfl⟩))
          go_roundw
          case rel => exact ⟨k + 1, by omega, by go_num, bel_trans HB1.out hb1⟩
          case measure => simp [intOf]; omega
        · have hE : mayE st lv (Dsc.mk dk df dr dw dx da dn ds d0) = true := by (unfold mayE; rw [HPL.out, hm]; rfl)
          have HW := Lib.hid (fun W => dword_yes st lv dk df dr dw dx da dn ds d0 W hE)
          have HO := Lib.hid (fun W => of_any st lv (wordD st lv (Dsc.mk dk df dr dw dx da dn ds d0)) W HPL.out)
          rw [of_word st lv (Dsc.mk dk df dr dw dx da dn ds d0) HPL.out hm] at HO
          unfold dscV at HO
          simp only at HO
          have HT := Lib.hid (fun j h0 h1 => turned st lv (Dsc.mk dk df dr dw dx da dn ds d0) j h0 h1)
          have HM := Lib.hid hm
          clear hm hE
          generalize wordD st lv (Dsc.mk dk df dr dw dx da dn ds d0) = wd at *
          go_wp2_with fail
          refine (HW.out _).mono ?_
          rintro e w1 ⟨rfl, hb1⟩
          have B1 := Lib.hid (bel_trans HB1.out hb1)
          clear hb1 HA c3 c4 c5 c6 c7 c8 c9 c10 c11
          go_wp2_with (first | (go_at_call 18; refine (lnum_any _ _).mono ?_; rintro e w3 ⟨rfl, rfl⟩))
          refine (HO.out _).mono ?_
          rintro e w2 ⟨rfl, hb2⟩
          have B2 := Lib.hid (bel_alloc (bel_trans B1.out hb2) (.cells #[.int .i64 dk, .int .i64 df, .bool dr, .bool dw, .bool dx, .bool da, .bool dn, .int .i64 ds, .int .i64 d0] 26))
          have X2 := Lib.hid (BoxAt.new w2 #[.int .i64 dk, .int .i64 df, .bool dr, .bool dw, .bool dx, .bool da, .bool dn, .int .i64 ds, .int .i64 d0] 26)
          have hG0 : w.heap.size ≤ w2.heap.size := (bel_trans B1.out hb2).size
          clear hb2 B1 HB1
          go_wp2_with fail
          obtain ⟨w0, hw0⟩ : ∃ w0, w0 = w2.alloc (.cells #[.int .i64 dk, .int .i64 df, .bool dr, .bool dw, .bool dx, .bool da, .bool dn, .int .i64 ds, .int .i64 d0] 26) := ⟨_, rfl⟩
          rw [← hw0] at B2 X2 ⊢
          obtain ⟨G, hG⟩ : ∃ G, G = w2.heap.size := ⟨_, rfl⟩
          rw [← hG] at X2 hG0 ⊢
          clear hw0 hG HW HO
          have HA := Lib.hid (HQ.out.below B2.out)
          have c3 : w0.cell? ⟨b, off + k * 13 + 3, none⟩ = some (.int .i64 dk) := HA.out.c 3 (by decide)
          have c4 : w0.cell? ⟨b, off + k * 13 + 4, none⟩ = some (.int .i64 df) := HA.out.c 4 (by decide)
          have c5 : w0.cell? ⟨b, off + k * 13 + 5, none⟩ = some (.bool dr) := HA.out.c 5 (by decide)
          have c6 : w0.cell? ⟨b, off + k * 13 + 6, none⟩ = some (.bool dw) := HA.out.c 6 (by decide)
          have c7 : w0.cell? ⟨b, off + k * 13 + 7, none⟩ = some (.bool dx) := HA.out.c 7 (by decide)
          have c8 : w0.cell? ⟨b, off + k * 13 + 8, none⟩ = some (.bool da) := HA.out.c 8 (by decide)
          have c9 : w0.cell? ⟨b, off + k * 13 + 9, none⟩ = some (.bool dn) := HA.out.c 9 (by decide)
          have c10 : w0.cell? ⟨b, off + k * 13 + 10, none⟩ = some (.int .i64 ds) := HA.out.c 10 (by decide)
          have c11 : w0.cell? ⟨b, off + k * 13 + 11, none⟩ = some (.int .i64 d0) := HA.out.c 11 (by decide)
          have x0' := X2.out.get 0 (.int .i64 dk) rfl
          have x1' := X2.out.get 1 (.int .i64 df) rfl
          have x2' := X2.out.get 2 (.bool dr) rfl
          have x3' := X2.out.get 3 (.bool dw) rfl
          have x4' := X2.out.get 4 (.bool dx) rfl
          have x5' := X2.out.get 5 (.bool da) rfl
          have x6' := X2.out.get 6 (.bool dn) rfl
          have x7' := X2.out.get 7 (.int .i64 ds) rfl
          have x8' := X2.out.get 8 (.int .i64 d0) rfl
          have ez := eqD_self (Dsc.mk dk df dr dw dx da dn ds d0)
          have HN0 := Lib.hid (fun W => same (lnum_any 0 W))
          go_quiet ((go_at_call 18; exact Calls.quiet_of_same (HN0.out _)))
          clear c3 c4 c5 c6 c7 c8 c9 c10 c11 x0' x1' x2' x3' x4' x5' x6' x7' x8' HA ez
          go_wp2_with fail
          go_loopw [10] (fun t wi => ∃ j : Int, 0 ≤ j ∧ j ≤ 64 ∧ t = .int .i64 j ∧ Below w.heap.size w wi ∧ Hid (BoxAt wi G #[.int .i64 dk, .int .i64 df, .bool dr, .bool dw, .bool dx, .bool da, .bool dn, .int .i64 ds, .int .i64 d0] 26)) (fun t _ => (64 - intOf t).toNat)
          case atStart => exact ⟨0, by decide, by decide, rfl, below_drewN B2.out _, ⟨X2.out.h⟩⟩
          case round =>
            obtain ⟨j, hj0, hj64, rfl, hb, D0⟩ := hrel
            by_cases hjl : j < 64
            · have B0 := Lib.hid hb
              clear hb
              have HO := Lib.hid (fun W => of_any st lv (bitK wd j) W HPL.out)
              have hx := bitK_eq wd j
              rcases HT.out j hj0 hjl with hz | ⟨hm2, hw2, hne⟩
              · rw [hz] at HO
                unfold dscV dz at HO
                simp only at HO
                have HW2 := Lib.hid (fun W => dword_yes st lv 0 0 false false false false false 0 0 W (by unfold mayE; rw [HPL.out, show mayD st lv (Dsc.mk 0 0 false false false false false 0 0) = true from may_dz st lv]; rfl))
                have ezz := eqZ
                clear hz
                generalize wordD st lv (Dsc.mk 0 0 false false false false false 0 0) = wz at *
                generalize bitK wd j = wk at *
                cases hb1 : eqD (Dsc.mk 0 0 false false false false false 0 0) (Dsc.mk dk df dr dw dx da dn ds d0)
                · cases hb2 : (u wz != u wk)
                  · go_wp2_with fail
                    refine (HO.out _).mono ?_
                    rintro e w11 ⟨rfl, hb11⟩
                    have D11 := Lib.hid (D0.out.below hb11)
                    have B11 := Lib.hid (bel_trans B0.out hb11)
                    clear D0 B0 hb11
                    have Da := Lib.hid (D11.out.alloc (.cells #[.int .i64 0, .int .i64 0, .bool false, .bool false, .bool false, .bool false, .bool false, .int .i64 0, .int .i64 0] 26))
                    have Pa := Lib.hid (BoxAt.new w11 #[.int .i64 0, .int .i64 0, .bool false, .bool false, .bool false, .bool false, .bool false, .int .i64 0, .int .i64 0] 26)
                    have Ba := Lib.hid (bel_alloc B11.out (.cells #[.int .i64 0, .int .i64 0, .bool false, .bool false, .bool false, .bool false, .bool false, .int .i64 0, .int .i64 0] 26))
                    clear D11 B11
                    have Dc0 := Da.out.get 0 (.int .i64 dk) rfl
                    have Dc1 := Da.out.get 1 (.int .i64 df) rfl
                    have Dc2 := Da.out.get 2 (.bool dr) rfl
                    have Dc3 := Da.out.get 3 (.bool dw) rfl
                    have Dc4 := Da.out.get 4 (.bool dx) rfl
                    have Dc5 := Da.out.get 5 (.bool da) rfl
                    have Dc6 := Da.out.get 6 (.bool dn) rfl
                    have Dc7 := Da.out.get 7 (.int .i64 ds) rfl
                    have Dc8 := Da.out.get 8 (.int .i64 d0) rfl
                    go_wp2_with (first | (go_at_call 18; refine (lnum_any _ _).mono ?_; rintro e w3 ⟨rfl, rfl⟩))
                    clear Dc0 Dc1 Dc2 Dc3 Dc4 Dc5 Dc6 Dc7 Dc8
                    obtain ⟨W3, hW3⟩ : ∃ W3, W3 = w11.alloc (.cells #[.int .i64 0, .int .i64 0, .bool false, .bool false, .bool false, .bool false, .bool false, .int .i64 0, .int .i64 0] 26) := ⟨_, rfl⟩
                    rw [← hW3] at Da Pa Ba ⊢
                    obtain ⟨G2, hG2⟩ : ∃ G2, G2 = w11.heap.size := ⟨_, rfl⟩
                    rw [← hG2] at Pa ⊢
                    clear hW3 hG2
                    refine (HW2.out _).mono ?_
                    rintro e w12 ⟨rfl, hb12⟩
                    have D12 := Lib.hid (Da.out.below hb12)
                    have P12 := Lib.hid (Pa.out.below hb12)
                    have B12 := Lib.hid (bel_trans Ba.out hb12)
                    clear Da Pa Ba hb12
                    have Pc0 := P12.out.get 0 (.int .i64 0) rfl
                    have Pc1 := P12.out.get 1 (.int .i64 0) rfl
                    have Pc2 := P12.out.get 2 (.bool false) rfl
                    have Pc3 := P12.out.get 3 (.bool false) rfl
                    have Pc4 := P12.out.get 4 (.bool false) rfl
                    have Pc5 := P12.out.get 5 (.bool false) rfl
                    have Pc6 := P12.out.get 6 (.bool false) rfl
                    have Pc7 := P12.out.get 7 (.int .i64 0) rfl
                    have Pc8 := P12.out.get 8 (.int .i64 0) rfl
                    go_wp2_with (first | (go_at_call 18; refine (lnum_any _ _).mono ?_; rintro e w3 ⟨rfl, rfl⟩))
                    go_roundw
                    case rel => exact ⟨j + 1, by omega, by omega, by go_num, B12.out, D12⟩
                    case measure => simp [intOf]; omega
                  · go_wp2_with fail
                    refine (HO.out _).mono ?_
                    rintro e w11 ⟨rfl, hb11⟩
                    have D11 := Lib.hid (D0.out.below hb11)
                    have B11 := Lib.hid (bel_trans B0.out hb11)
                    clear D0 B0 hb11
                    have Da := Lib.hid (D11.out.alloc (.cells #[.int .i64 0, .int .i64 0, .bool false, .bool false, .bool false, .bool false, .bool false, .int .i64 0, .int .i64 0] 26))
                    have Pa := Lib.hid (BoxAt.new w11 #[.int .i64 0, .int .i64 0, .bool false, .bool false, .bool false, .bool false, .bool false, .int .i64 0, .int .i64 0] 26)
                    have Ba := Lib.hid (bel_alloc B11.out (.cells #[.int .i64 0, .int .i64 0, .bool false, .bool false, .bool false, .bool false, .bool false, .int .i64 0, .int .i64 0] 26))
                    clear D11 B11
                    have Dc0 := Da.out.get 0 (.int .i64 dk) rfl
                    have Dc1 := Da.out.get 1 (.int .i64 df) rfl
                    have Dc2 := Da.out.get 2 (.bool dr) rfl
                    have Dc3 := Da.out.get 3 (.bool dw) rfl
                    have Dc4 := Da.out.get 4 (.bool dx) rfl
                    have Dc5 := Da.out.get 5 (.bool da) rfl
                    have Dc6 := Da.out.get 6 (.bool dn) rfl
                    have Dc7 := Da.out.get 7 (.int .i64 ds) rfl
                    have Dc8 := Da.out.get 8 (.int .i64 d0) rfl
                    go_wp2_with (first | (go_at_call 18; refine (lnum_any _ _).mono ?_; rintro e w3 ⟨rfl, rfl⟩))
                    clear Dc0 Dc1 Dc2 Dc3 Dc4 Dc5 Dc6 Dc7 Dc8
                    obtain ⟨W3, hW3⟩ : ∃ W3, W3 = w11.alloc (.cells #[.int .i64 0, .int .i64 0, .bool false, .bool false, .bool false, .bool false, .bool false, .int .i64 0, .int .i64 0] 26) := ⟨_, rfl⟩
                    rw [← hW3] at Da Pa Ba ⊢
                    obtain ⟨G2, hG2⟩ : ∃ G2, G2 = w11.heap.size := ⟨_, rfl⟩
                    rw [← hG2] at Pa ⊢
                    clear hW3 hG2
                    refine (HW2.out _).mono ?_
                    rintro e w12 ⟨rfl, hb12⟩
                    have D12 := Lib.hid (Da.out.below hb12)
                    have P12 := Lib.hid (Pa.out.below hb12)
                    have B12 := Lib.hid (bel_trans Ba.out hb12)
                    clear Da Pa Ba hb12
                    have Pc0 := P12.out.get 0 (.int .i64 0) rfl
                    have Pc1 := P12.out.get 1 (.int .i64 0) rfl
                    have Pc2 := P12.out.get 2 (.bool false) rfl
                    have Pc3 := P12.out.get 3 (.bool false) rfl
                    have Pc4 := P12.out.get 4 (.bool false) rfl
                    have Pc5 := P12.out.get 5 (.bool false) rfl
                    have Pc6 := P12.out.get 6 (.bool false) rfl
                    have Pc7 := P12.out.get 7 (.int .i64 0) rfl
                    have Pc8 := P12.out.get 8 (.int .i64 0) rfl
                    go_wp2_with (first | (go_at_call 18; refine (lnum_any _ _).mono ?_; rintro e w3 ⟨rfl, rfl⟩))
                    go_roundw
                    case rel => exact ⟨j + 1, by omega, by omega, by go_num, B12.out, D12⟩
                    case measure => simp [intOf]; omega
                · cases hb2 : (u wz != u wk)
                  · go_wp2_with fail
                    refine (HO.out _).mono ?_
                    rintro e w11 ⟨rfl, hb11⟩
                    have D11 := Lib.hid (D0.out.below hb11)
                    have B11 := Lib.hid (bel_trans B0.out hb11)
                    clear D0 B0 hb11
                    have Da := Lib.hid (D11.out.alloc (.cells #[.int .i64 0, .int .i64 0, .bool false, .bool false, .bool false, .bool false, .bool false, .int .i64 0, .int .i64 0] 26))
                    have Pa := Lib.hid (BoxAt.new w11 #[.int .i64 0, .int .i64 0, .bool false, .bool false, .bool false, .bool false, .bool false, .int .i64 0, .int .i64 0] 26)
                    have Ba := Lib.hid (bel_alloc B11.out (.cells #[.int .i64 0, .int .i64 0, .bool false, .bool false, .bool false, .bool false, .bool false, .int .i64 0, .int .i64 0] 26))
                    clear D11 B11
                    have Dc0 := Da.out.get 0 (.int .i64 dk) rfl
                    have Dc1 := Da.out.get 1 (.int .i64 df) rfl
                    have Dc2 := Da.out.get 2 (.bool dr) rfl
                    have Dc3 := Da.out.get 3 (.bool dw) rfl
                    have Dc4 := Da.out.get 4 (.bool dx) rfl
                    have Dc5 := Da.out.get 5 (.bool da) rfl
                    have Dc6 := Da.out.get 6 (.bool dn) rfl
                    have Dc7 := Da.out.get 7 (.int .i64 ds) rfl
                    have Dc8 := Da.out.get 8 (.int .i64 d0) rfl
                    go_wp2_with (first | (go_at_call 18; refine (lnum_any _ _).mono ?_; rintro e w3 ⟨rfl, rfl⟩))
                    clear Dc0 Dc1 Dc2 Dc3 Dc4 Dc5 Dc6 Dc7 Dc8
                    obtain ⟨W3, hW3⟩ : ∃ W3, W3 = w11.alloc (.cells #[.int .i64 0, .int .i64 0, .bool false, .bool false, .bool false, .bool false, .bool false, .int .i64 0, .int .i64 0] 26) := ⟨_, rfl⟩
                    rw [← hW3] at Da Pa Ba ⊢
                    obtain ⟨G2, hG2⟩ : ∃ G2, G2 = w11.heap.size := ⟨_, rfl⟩
                    rw [← hG2] at Pa ⊢
                    clear hW3 hG2
                    refine (HW2.out _).mono ?_
                    rintro e w12 ⟨rfl, hb12⟩
                    have D12 := Lib.hid (Da.out.below hb12)
                    have P12 := Lib.hid (Pa.out.below hb12)
                    have B12 := Lib.hid (bel_trans Ba.out hb12)
                    clear Da Pa Ba hb12
                    have Pc0 := P12.out.get 0 (.int .i64 0) rfl
                    have Pc1 := P12.out.get 1 (.int .i64 0) rfl
                    have Pc2 := P12.out.get 2 (.bool false) rfl
                    have Pc3 := P12.out.get 3 (.bool false) rfl
                    have Pc4 := P12.out.get 4 (.bool false) rfl
                    have Pc5 := P12.out.get 5 (.bool false) rfl
                    have Pc6 := P12.out.get 6 (.bool false) rfl
                    have Pc7 := P12.out.get 7 (.int .i64 0) rfl
                    have Pc8 := P12.out.get 8 (.int .i64 0) rfl
                    go_wp2_with (first | (go_at_call 18; refine (lnum_any _ _).mono ?_; rintro e w3 ⟨rfl, rfl⟩))
                    go_roundw
                    case rel => exact ⟨j + 1, by omega, by omega, by go_num, B12.out, D12⟩
                    case measure => simp [intOf]; omega
                  · go_wp2_with fail
                    refine (HO.out _).mono ?_
                    rintro e w11 ⟨rfl, hb11⟩
                    have D11 := Lib.hid (D0.out.below hb11)
                    have B11 := Lib.hid (bel_trans B0.out hb11)
                    clear D0 B0 hb11
                    have Da := Lib.hid (D11.out.alloc (.cells #[.int .i64 0, .int .i64 0, .bool false, .bool false, .bool false, .bool false, .bool false, .int .i64 0, .int .i64 0] 26))
                    have Pa := Lib.hid (BoxAt.new w11 #[.int .i64 0, .int .i64 0, .bool false, .bool false, .bool false, .bool false, .bool false, .int .i64 0, .int .i64 0] 26)
                    have Ba := Lib.hid (bel_alloc B11.out (.cells #[.int .i64 0, .int .i64 0, .bool false, .bool false, .bool false, .bool false, .bool false, .int .i64 0, .int .i64 0] 26))
                    clear D11 B11
                    have Dc0 := Da.out.get 0 (.int .i64 dk) rfl
                    have Dc1 := Da.out.get 1 (.int .i64 df) rfl
                    have Dc2 := Da.out.get 2 (.bool dr) rfl
                    have Dc3 := Da.out.get 3 (.bool dw) rfl
                    have Dc4 := Da.out.get 4 (.bool dx) rfl
                    have Dc5 := Da.out.get 5 (.bool da) rfl
                    have Dc6 := Da.out.get 6 (.bool dn) rfl
                    have Dc7 := Da.out.get 7 (.int .i64 ds) rfl
                    have Dc8 := Da.out.get 8 (.int .i64 d0) rfl
                    go_wp2_with (first | (go_at_call 18; refine (lnum_any _ _).mono ?_; rintro e w3 ⟨rfl, rfl⟩))
                    clear Dc0 Dc1 Dc2 Dc3 Dc4 Dc5 Dc6 Dc7 Dc8
                    obtain ⟨W3, hW3⟩ : ∃ W3, W3 = w11.alloc (.cells #[.int .i64 0, .int .i64 0, .bool false, .bool false, .bool false, .bool false, .bool false, .int .i64 0, .int .i64 0] 26) := ⟨_, rfl⟩
                    rw [← hW3] at Da Pa Ba ⊢
                    obtain ⟨G2, hG2⟩ : ∃ G2, G2 = w11.heap.size := ⟨_, rfl⟩
                    rw [← hG2] at Pa ⊢
                    clear hW3 hG2
                    refine (HW2.out _).mono ?_
                    rintro e w12 ⟨rfl, hb12⟩
                    have D12 := Lib.hid (Da.out.below hb12)
                    have P12 := Lib.hid (Pa.out.below hb12)
                    have B12 := Lib.hid (bel_trans Ba.out hb12)
                    clear Da Pa Ba hb12
                    have Pc0 := P12.out.get 0 (.int .i64 0) rfl
                    have Pc1 := P12.out.get 1 (.int .i64 0) rfl
                    have Pc2 := P12.out.get 2 (.bool false) rfl
                    have Pc3 := P12.out.get 3 (.bool false) rfl
                    have Pc4 := P12.out.get 4 (.bool false) rfl
                    have Pc5 := P12.out.get 5 (.bool false) rfl
                    have Pc6 := P12.out.get 6 (.bool false) rfl
                    have Pc7 := P12.out.get 7 (.int .i64 0) rfl
                    have Pc8 := P12.out.get 8 (.int .i64 0) rfl
                    go_wp2_with (first | (go_at_call 18; refine (lnum_any _ _).mono ?_; rintro e w3 ⟨rfl, rfl⟩))
                    go_roundw
                    case rel => exact ⟨j + 1, by omega, by omega, by go_num, B12.out, D12⟩
                    case measure => simp [intOf]; omega
              · generalize ofD st lv (bitK wd j) = dd at *
                obtain ⟨xk, xf, xr, xw, xx, xa, xn, xs, x0⟩ := dd
                unfold dscV at HO
                simp only at HO
                have HW2 := Lib.hid (fun W => dword_yes st lv xk xf xr xw xx xa xn xs x0 W (by unfold mayE; rw [HPL.out, hm2]; rfl))
                rw [hw2] at HW2
                have hb1 : eqD (Dsc.mk xk xf xr xw xx xa xn xs x0) (Dsc.mk dk df dr dw dx da dn ds d0) = false := eqD_no.2 hne
                clear hm2 hw2 hne
                generalize bitK wd j = wk at *
                have hb2 : (u wk != u wk) = false := by simp
                go_wp2_with fail
                refine (HO.out _).mono ?_
                rintro e w11 ⟨rfl, hb11⟩
                have D11 := Lib.hid (D0.out.below hb11)
                have B11 := Lib.hid (bel_trans B0.out hb11)
                clear D0 B0 hb11
                have Da := Lib.hid (D11.out.alloc (.cells #[.int .i64 xk, .int .i64 xf, .bool xr, .bool xw, .bool xx, .bool xa, .bool xn, .int .i64 xs, .int .i64 x0] 26))
                have Pa := Lib.hid (BoxAt.new w11 #[.int .i64 xk, .int .i64 xf, .bool xr, .bool xw, .bool xx, .bool xa, .bool xn, .int .i64 xs, .int .i64 x0] 26)
                have Ba := Lib.hid (bel_alloc B11.out (.cells #[.int .i64 xk, .int .i64 xf, .bool xr, .bool xw, .bool xx, .bool xa, .bool xn, .int .i64 xs, .int .i64 x0] 26))
                clear D11 B11
                have Dc0 := Da.out.get 0 (.int .i64 dk) rfl
                have Dc1 := Da.out.get 1 (.int .i64 df) rfl
                have Dc2 := Da.out.get 2 (.bool dr) rfl
                have Dc3 := Da.out.get 3 (.bool dw) rfl
                have Dc4 := Da.out.get 4 (.bool dx) rfl
                have Dc5 := Da.out.get 5 (.bool da) rfl
                have Dc6 := Da.out.get 6 (.bool dn) rfl
                have Dc7 := Da.out.get 7 (.int .i64 ds) rfl
                have Dc8 := Da.out.get 8 (.int .i64 d0) rfl
                go_wp2_with (first | (go_at_call 18; refine (lnum_any _ _).mono ?_; rintro e w3 ⟨rfl, rfl⟩))
                clear Dc0 Dc1 Dc2 Dc3 Dc4 Dc5 Dc6 Dc7 Dc8
                obtain ⟨W3, hW3⟩ : ∃ W3, W3 = w11.alloc (.cells #[.int .i64 xk, .int .i64 xf, .bool xr, .bool xw, .bool xx, .bool xa, .bool xn, .int .i64 xs, .int .i64 x0] 26) := ⟨_, rfl⟩
                rw [← hW3] at Da Pa Ba ⊢
                obtain ⟨G2, hG2⟩ : ∃ G2, G2 = w11.heap.size := ⟨_, rfl⟩
                rw [← hG2] at Pa ⊢
                clear hW3 hG2
                refine (HW2.out _).mono ?_
                rintro e w12 ⟨rfl, hb12⟩
                have D12 := Lib.hid (Da.out.below hb12)
                have P12 := Lib.hid (Pa.out.below hb12)
                have B12 := Lib.hid (bel_trans Ba.out hb12)
                clear Da Pa Ba hb12
                have Pc0 := P12.out.get 0 (.int .i64 xk) rfl
                have Pc1 := P12.out.get 1 (.int .i64 xf) rfl
                have Pc2 := P12.out.get 2 (.bool xr) rfl
                have Pc3 := P12.out.get 3 (.bool xw) rfl
                have Pc4 := P12.out.get 4 (.bool xx) rfl
                have Pc5 := P12.out.get 5 (.bool xa) rfl
                have Pc6 := P12.out.get 6 (.bool xn) rfl
                have Pc7 := P12.out.get 7 (.int .i64 xs) rfl
                have Pc8 := P12.out.get 8 (.int .i64 x0) rfl
                go_wp2_with (first | (go_at_call 18; refine (lnum_any _ _).mono ?_; rintro e w3 ⟨rfl, rfl⟩))
                go_roundw
                case rel => exact ⟨j + 1, by omega, by omega, by go_num, B12.out, D12⟩
                case measure => simp [intOf]; omega
            · go_wp2
              go_roundw
              case rel => exact ⟨k + 1, by omega, by go_num, hb⟩
              case measure => simp [intOf]; omega
    · by_cases hq : k < len
      · have hq' : ¬ (k < 12) := by omega
        go_wp2_with (go_at_call 26; refine (wakes_any _).mono ?_; rintro e w1 ⟨rfl, hb1⟩)
        go_ret
        exact ⟨rfl, bel_trans hb hb1⟩
      · go_wp2_with (go_at_call 26; refine (wakes_any _).mono ?_; rintro e w1 ⟨rfl, hb1⟩)
        go_ret
        exact ⟨rfl, bel_trans hb hb1⟩
end Go.Proofs.Ytpjnanplliinpaa
