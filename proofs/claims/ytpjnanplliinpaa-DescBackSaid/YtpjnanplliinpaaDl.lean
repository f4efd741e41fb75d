/- The walk of DescOfs. -/
import Derived.Test.YtpjnanplliinpaaDj
import Derived.Test.YtpjnanplliinpaaDk
namespace Go.Proofs.Ytpjnanplliinpaa
open Go.ChangeShapes Go.WideShapes Go.ChangeAt Go.RowKit Go.Deep

theorem wakes_any (w : World) :
    Calls Try.prog 26 #[] w fun e w' => e = .returned (.bool true) ∧ Below w.heap.size w w' := by
  have H := Lib.hid (dword_yes 2 0 1 5 false false false false false 0 0 w (by decide))
  rw [show u (wordD 2 0 (Dsc.mk 1 5 false false false false false 0 0)) = 20483 from by decide +kernel] at H
  go_enter Try.func26, Try.ntmps26
  go_wp2_with fail
  refine H.out.mono ?_
  rintro e w' ⟨rfl, hb⟩
  go_wp2_with (go_at_call 18; refine (lnum_any _ _).mono ?_; rintro e w2 ⟨rfl, rfl⟩)
  go_ret
  exact ⟨rfl, hb⟩

theorem eqZ : eqD (Dsc.mk 0 0 false false false false false 0 0) (Dsc.mk 0 0 false false false false false 0 0) = true := eqD_self _

theorem of_no' (st lv : Int) (v : BitVec 64) (w : World) (hp : placeB st lv = false) :
    Calls Try.prog 27 #[.int .i64 st, .int .i64 lv, .int .u64 (u v)] w fun e w' => e = .returned (.tuple #[.agg #[.int .i64 0, .int .i64 0, .bool false, .bool false, .bool false, .bool false, .bool false, .int .i64 0, .int .i64 0], .int .i64 1]) ∧ Below w.heap.size w w' := of_no st lv v w hp

theorem ofs_empty (a : Option Addr) (cap : Nat) (w : World) :
    Calls Try.prog 4 #[.slice a 0 cap] w fun e w' => e = .returned (.bool true) ∧ Below w.heap.size w w' := by
  go_enter Try.func4, Try.ntmps4
  go_wp2
  refine wp_loop_rounds 1 ?_
  rw [rounds_succ]
  go_wp2_with (go_at_call 26; refine (wakes_any _).mono ?_; rintro e w' ⟨rfl, hb⟩)
  go_ret
  exact ⟨rfl, hb⟩

set_option maxRecDepth 100000 in
set_option maxHeartbeats 3200000 in
theorem ofs_walk (b off len cap : Nat) (w : World) (q : Nat → Q3) (hc : ∀ i, i < len → Ask3 w b (off + i * 13) (q i)) :
    Calls Try.prog 4 #[.slice (some ⟨b, off, none⟩) len cap] w fun e w' => e = .returned (.bool true) ∧ Below w.heap.size w w' := by
  have HC := Lib.hid hc
  clear hc
  go_enter Try.func4, Try.ntmps4
  go_wp2
  go_loopw [3] (fun i wr => ∃ k : Nat, k ≤ len ∧ i = .int .i64 k ∧ Below w.heap.size w wr) (fun i _ => len - (intOf i).toNat)
  case atStart => exact ⟨0, Nat.zero_le _, rfl, Below.refl _ _⟩
  case round =>
    obtain ⟨k, hk, rfl, hb⟩ := hrel
    by_cases hlt : k < len ∧ k < 12
    · obtain ⟨hlt, hlt'⟩ := hlt
      have i1 : (0 : Int) ≤ (k : Int) := by omega
      have i2 : (k : Int) < (len : Int) := by omega
      have d12 : decide ((k : Int) < 12) = true := decide_eq_true (by omega)
      have HA := Lib.hid (HC.out k hlt)
      generalize q k = qk at *
      obtain ⟨qs, ql, qp, qd, qw⟩ := qk
      have HB0 := Lib.hid hb
      clear hb
      go_wp2_with fail
      obtain ⟨w0, rfl⟩ : ∃ w0 : World, w0 = wr := ⟨_, rfl⟩
      go_loopw [4] (fun t wi => ∃ st : Int, 0 ≤ st ∧ st ≤ 4 ∧ t = .int .i64 st ∧ Below w.heap.size w wi) (fun t _ => (4 - intOf t).toNat)
      case atStart => exact ⟨0, by decide, by decide, rfl, HB0.out⟩
      case round =>
        obtain ⟨st, hs0, hs4, rfl, hb⟩ := hrel
        by_cases hst : st ≤ 3
        · have HB1 := Lib.hid hb
          clear hb
          go_wp2_with fail
          obtain ⟨wz, rfl⟩ : ∃ wz : World, wz = wr := ⟨_, rfl⟩
          go_loopw [5] (fun t wi => ∃ lv : Int, -1 ≤ lv ∧ lv ≤ 5 ∧ t = .int .i64 lv ∧ Below w.heap.size w wi) (fun t _ => (5 - intOf t).toNat)
          case atStart => exact ⟨-1, by decide, by decide, rfl, HB1.out⟩
          case round =>
            obtain ⟨lv, hv0, hv4, rfl, hb⟩ := hrel
            by_cases hlv : lv ≤ 4
            · have HB := Lib.hid hb
              have HA2 := Lib.hid (HA.out.below hb)
              clear hb
              have c12 : wr.cell? ⟨b, off + k * 13 + 12, none⟩ = some (.int .u64 (u qw)) := HA2.out.c 12 (by decide)
              have HP := Lib.hid (fun W => place_any st lv W)
              cases hp : placeB st lv
              · rw [hp] at HP
                have HO := Lib.hid (fun W => of_no' st lv qw W hp)
                clear hp
                have ez := eqZ
                go_wp2_with (first | (go_at_call 27; refine (HO.out _).mono ?_; rintro e w1 ⟨rfl, hb1⟩) | (go_at_call 15; refine (HP.out _).mono ?_; rintro e w2 ⟨rfl, rfl⟩) | (go_at_call 18; refine (lnum_any _ _).mono ?_; rintro e w3 ⟨rfl, rfl⟩))
                go_roundw
                case rel => exact ⟨lv + 1, by omega, by omega, by go_num, by repeat' (first | with_reducible exact bel_trans HB.out hb1 | with_reducible refine bel_alloc ?_ _)⟩
                case measure => simp [intOf]; omega
              · rw [hp] at HP
                have HO := Lib.hid (fun W => of_any st lv qw W hp)
                have HR := Lib.hid (fun W => rof_any st lv qw W hp)
                clear hp
                generalize ofD st lv qw = d at *
                obtain ⟨dk, df, dr, dw, dx, da, dn, ds, d0⟩ := d
                have ez := eqD_self (Dsc.mk dk df dr dw dx da dn ds d0)
                go_wp2_with fail
                refine (HO.out _).mono ?_
                rintro e w1 ⟨rfl, hb1⟩
                have P0 := Lib.hid ((BoxAt.new w1 #[.int .i64 dk, .int .i64 df, .bool dr, .bool dw, .bool dx, .bool da, .bool dn, .int .i64 ds, .int .i64 d0] 26).alloc (.cells #[.int .i64 0, .int .i64 0, .bool false, .bool false, .bool false, .bool false, .bool false, .int .i64 0, .int .i64 0] 26))
                have Z0 := Lib.hid (BoxAt.new (w1.alloc (.cells #[.int .i64 dk, .int .i64 df, .bool dr, .bool dw, .bool dx, .bool da, .bool dn, .int .i64 ds, .int .i64 d0] 26)) #[.int .i64 0, .int .i64 0, .bool false, .bool false, .bool false, .bool false, .bool false, .int .i64 0, .int .i64 0] 26)
                rw [show (w1.alloc (.cells #[.int .i64 dk, .int .i64 df, .bool dr, .bool dw, .bool dx, .bool da, .bool dn, .int .i64 ds, .int .i64 d0] 26)).heap.size = w1.heap.size + 1 from by simp] at Z0
                have B0 := Lib.hid (bel_alloc (bel_alloc (bel_trans HB.out hb1) (.cells #[.int .i64 dk, .int .i64 df, .bool dr, .bool dw, .bool dx, .bool da, .bool dn, .int .i64 ds, .int .i64 d0] 26)) (.cells #[.int .i64 0, .int .i64 0, .bool false, .bool false, .bool false, .bool false, .bool false, .int .i64 0, .int .i64 0] 26))
                have HA3 := Lib.hid ((HA2.out.below hb1).below (bel_alloc (bel_alloc (Below.refl _ _) (.cells #[.int .i64 dk, .int .i64 df, .bool dr, .bool dw, .bool dx, .bool da, .bool dn, .int .i64 ds, .int .i64 d0] 26)) (.cells #[.int .i64 0, .int .i64 0, .bool false, .bool false, .bool false, .bool false, .bool false, .int .i64 0, .int .i64 0] 26)))
                have hg := bel_trans HB.out hb1
                have hG0 : w.heap.size ≤ w1.heap.size := hg.size
                clear hb1 hg c12
                have c12 : ((w1.alloc (.cells #[.int .i64 dk, .int .i64 df, .bool dr, .bool dw, .bool dx, .bool da, .bool dn, .int .i64 ds, .int .i64 d0] 26)).alloc (.cells #[.int .i64 0, .int .i64 0, .bool false, .bool false, .bool false, .bool false, .bool false, .int .i64 0, .int .i64 0] 26)).cell? ⟨b, off + k * 13 + 12, none⟩ = some (.int .u64 (u qw)) := HA3.out.c 12 (by decide)
                unfold dscV
                go_wp2_with (first | (go_at_call 15; refine (HP.out _).mono ?_; rintro e w2 ⟨rfl, rfl⟩))
                clear c12
                obtain ⟨W3, hW3⟩ : ∃ W3, W3 = (w1.alloc (.cells #[.int .i64 dk, .int .i64 df, .bool dr, .bool dw, .bool dx, .bool da, .bool dn, .int .i64 ds, .int .i64 d0] 26)).alloc (.cells #[.int .i64 0, .int .i64 0, .bool false, .bool false, .bool false, .bool false, .bool false, .int .i64 0, .int .i64 0] 26) := ⟨_, rfl⟩
                rw [← hW3] at P0 Z0 B0 ⊢
                obtain ⟨G, hG⟩ : ∃ G, G = w1.heap.size := ⟨_, rfl⟩
                rw [← hG] at P0 Z0 hG0 ⊢
                clear hW3 hG
                have g1 : G ≠ G + 1 := by omega
                have g2 : G + 1 ≠ G := by omega
                have g3 : w.heap.size ≤ G + 1 := by omega
                refine (HR.out _).mono ?_
                rintro e w11 ⟨rfl, hb11⟩
                have P11 := Lib.hid (P0.out.below hb11)
                have Z11 := Lib.hid (Z0.out.below hb11)
                have B11 := Lib.hid (bel_trans B0.out hb11)
                clear P0 Z0 B0 hb11
                unfold dscV
                have Pc0 := P11.out.get 0 (.int .i64 dk) rfl
                have Pc1 := P11.out.get 1 (.int .i64 df) rfl
                have Pc2 := P11.out.get 2 (.bool dr) rfl
                have Pc3 := P11.out.get 3 (.bool dw) rfl
                have Pc4 := P11.out.get 4 (.bool dx) rfl
                have Pc5 := P11.out.get 5 (.bool da) rfl
                have Pc6 := P11.out.get 6 (.bool dn) rfl
                have Pc7 := P11.out.get 7 (.int .i64 ds) rfl
                have Pc8 := P11.out.get 8 (.int .i64 d0) rfl
                have Zc0 := Z11.out.get 0 (.int .i64 0) rfl
                have Zc1 := Z11.out.get 1 (.int .i64 0) rfl
                have Zc2 := Z11.out.get 2 (.bool false) rfl
                have Zc3 := Z11.out.get 3 (.bool false) rfl
                have Zc4 := Z11.out.get 4 (.bool false) rfl
                have Zc5 := Z11.out.get 5 (.bool false) rfl
                have Zc6 := Z11.out.get 6 (.bool false) rfl
                have Zc7 := Z11.out.get 7 (.int .i64 0) rfl
                have Zc8 := Z11.out.get 8 (.int .i64 0) rfl
                have Zz0 := Z11.out.free 0
                have Zz1 := Z11.out.free 1
                have Zz2 := Z11.out.free 2
                have Zz3 := Z11.out.free 3
                have Zz4 := Z11.out.free 4
                have Zz5 := Z11.out.free 5
                have Zz6 := Z11.out.free 6
                have Zz7 := Z11.out.free 7
                have Zz8 := Z11.out.free 8
                go_wp2_with (first | (go_at_call 18; refine (lnum_any _ _).mono ?_; rintro e w5 ⟨rfl, rfl⟩))
                go_roundw
                case rel => exact ⟨lv + 1, by omega, by omega, by go_num, by repeat' (first | with_reducible exact B11.out | with_reducible refine Below.setCell ?_ (by first | exact g3 | (simp; omega)) _)⟩
                case measure => simp [intOf]; omega
            · go_wp2
              go_roundw
              case rel => exact ⟨st + 1, by omega, by omega, by go_num, hb⟩
              case measure => simp [intOf]; omega
        · go_wp2
          go_roundw
          case rel => exact ⟨k + 1, by omega, by go_num, hb⟩
          case measure => simp [intOf]; omega
    · by_cases hq : k < len
      · have hq' : ¬ (k < 12) := by omega
        go_wp2_with (go_at_call 26; refine (wakes_any _).mono ?_; rintro e w1 ⟨rfl, hb1⟩)
        go_ret
        exact ⟨rfl, bel_trans hb hb1⟩
      · go_wp2_with (go_at_call 26; refine (wakes_any _).mono ?_; rintro e w1 ⟨rfl, hb1⟩)
        go_ret
        exact ⟨rfl, bel_trans hb hb1⟩
end Go.Proofs.Ytpjnanplliinpaa
