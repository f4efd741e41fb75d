/- The walk of DescWords. -/
import Derived.Test.YtpjnanplliinpaaDl
namespace Go.Proofs.Ytpjnanplliinpaa
open Go.ChangeShapes Go.WideShapes Go.ChangeAt Go.RowKit Go.Deep

theorem check_no (st lv : Int) (k f : Int) (r wr x a n : Bool) (s o : Int) (w : World) (hb : mayE st lv (Dsc.mk k f r wr x a n s o) = false) :
    Calls Try.prog 19 #[.int .i64 st, .int .i64 lv, .agg #[.int .i64 k, .int .i64 f, .bool r, .bool wr, .bool x, .bool a, .bool n, .int .i64 s, .int .i64 o]] w fun e w' => e = .returned (.int .i64 1) ∧ Below w.heap.size w w' := check_any st lv k f r wr x a n s o w false hb
theorem check_yes (st lv : Int) (k f : Int) (r wr x a n : Bool) (s o : Int) (w : World) (hb : mayE st lv (Dsc.mk k f r wr x a n s o) = true) :
    Calls Try.prog 19 #[.int .i64 st, .int .i64 lv, .agg #[.int .i64 k, .int .i64 f, .bool r, .bool wr, .bool x, .bool a, .bool n, .int .i64 s, .int .i64 o]] w fun e w' => e = .returned (.int .i64 0) ∧ Below w.heap.size w w' := check_any st lv k f r wr x a n s o w true hb

theorem words_empty (a : Option Addr) (cap : Nat) (w : World) :
    Calls Try.prog 3 #[.slice a 0 cap] w fun e w' => e = .returned (.bool true) ∧ Below w.heap.size w w' := by
  go_enter Try.func3, Try.ntmps3
  go_wp2
  refine wp_loop_rounds 1 ?_
  rw [rounds_succ]
  go_wp2_with (go_at_call 26; refine (wakes_any _).mono ?_; rintro e w' ⟨rfl, hb⟩)
  go_ret
  exact ⟨rfl, hb⟩

set_option maxRecDepth 100000 in
set_option maxHeartbeats 6400000 in
theorem words_walk (b off len cap : Nat) (w : World) (q : Nat → Q3) (hc : ∀ i, i < len → Ask3 w b (off + i * 13) (q i)) :
    Calls Try.prog 3 #[.slice (some ⟨b, off, none⟩) len cap] w fun e w' => e = .returned (.bool true) ∧ Below w.heap.size w w' := by
  have HC := Lib.hid hc
  clear hc
  go_enter Try.func3, Try.ntmps3
  go_wp2
  go_loopw [3] (fun i wr => ∃ k : Nat, k ≤ len ∧ i = .int .i64 k ∧ Below w.heap.size w wr) (fun i _ => len - (intOf i).toNat)
  case atStart => exact ⟨0, Nat.zero_le _, rfl, Below.refl _ _⟩
  case round =>
    obtain ⟨k, hk, rfl, hb⟩ := hrel
    by_cases hlt : k < len ∧ k < 12
    · obtain ⟨hlt, hlt'⟩ := hlt
      have i1 : (0 : Int) ≤ (k : Int) := by omega
      have i2 : (k : Int) < (len : Int) := by omega
      have d12 : decide ((k : Int) < 12) = true := decide_eq_true (by omega)
      have HA := Lib.hid ((HC.out k hlt).below hb)
      generalize q k = qk at *
      obtain ⟨qs, ql, qp, ⟨dk, df, dr, dw, dx, da, dn, ds, d0⟩, qw⟩ := qk
      have c0 : wr.cell? ⟨b, off + k * 13, none⟩ = some (.int .i64 qs) := HA.out.c 0 (by decide)
      have c1 : wr.cell? ⟨b, off + k * 13 + 1, none⟩ = some (.int .i64 ql) := HA.out.c 1 (by decide)
      have c2 : wr.cell? ⟨b, off + k * 13 + 2, none⟩ = some (.int .i64 qp) := HA.out.c 2 (by decide)
      have c3 : wr.cell? ⟨b, off + k * 13 + 3, none⟩ = some (.int .i64 dk) := HA.out.c 3 (by decide)
      have c4 : wr.cell? ⟨b, off + k * 13 + 4, none⟩ = some (.int .i64 df) := HA.out.c 4 (by decide)
      have c5 : wr.cell? ⟨b, off + k * 13 + 5, none⟩ = some (.bool dr) := HA.out.c 5 (by decide)
      have c6 : wr.cell? ⟨b, off + k * 13 + 6, none⟩ = some (.bool dw) := HA.out.c 6 (by decide)
      have c7 : wr.cell? ⟨b, off + k * 13 + 7, none⟩ = some (.bool dx) := HA.out.c 7 (by decide)
      have c8 : wr.cell? ⟨b, off + k * 13 + 8, none⟩ = some (.bool da) := HA.out.c 8 (by decide)
      have c9 : wr.cell? ⟨b, off + k * 13 + 9, none⟩ = some (.bool dn) := HA.out.c 9 (by decide)
      have c10 : wr.cell? ⟨b, off + k * 13 + 10, none⟩ = some (.int .i64 ds) := HA.out.c 10 (by decide)
      have c11 : wr.cell? ⟨b, off + k * 13 + 11, none⟩ = some (.int .i64 d0) := HA.out.c 11 (by decide)
      have c12 : wr.cell? ⟨b, off + k * 13 + 12, none⟩ = some (.int .u64 (u qw)) := HA.out.c 12 (by decide)
      have HBX := Lib.hid (BoxAt.new wr #[.int .i64 qs, .int .i64 ql, .int .i64 qp, .int .i64 dk, .int .i64 df, .bool dr, .bool dw, .bool dx, .bool da, .bool dn, .int .i64 ds, .int .i64 d0, .int .u64 (u qw)] 29)
      have HB0 := Lib.hid (bel_alloc hb (.cells #[.int .i64 qs, .int .i64 ql, .int .i64 qp, .int .i64 dk, .int .i64 df, .bool dr, .bool dw, .bool dx, .bool da, .bool dn, .int .i64 ds, .int .i64 d0, .int .u64 (u qw)] 29))
      have hG0 : w.heap.size ≤ wr.heap.size := hb.size
      clear hb
      go_wp2_with fail
      clear c0 c1 c2 c3 c4 c5 c6 c7 c8 c9 c10 c11 c12
      obtain ⟨w0, hw0⟩ : ∃ w0, w0 = wr.alloc (.cells #[.int .i64 qs, .int .i64 ql, .int .i64 qp, .int .i64 dk, .int .i64 df, .bool dr, .bool dw, .bool dx, .bool da, .bool dn, .int .i64 ds, .int .i64 d0, .int .u64 (u qw)] 29) := ⟨_, rfl⟩
      rw [← hw0] at HBX HB0 ⊢
      obtain ⟨G, hG⟩ : ∃ G, G = wr.heap.size := ⟨_, rfl⟩
      rw [← hG] at HBX hG0 ⊢
      clear hw0 hG HA
      go_loopw [5] (fun t wi => ∃ st : Int, 0 ≤ st ∧ st ≤ 4 ∧ t = .int .i64 st ∧ Below w.heap.size w wi ∧ Hid (BoxAt wi G #[.int .i64 qs, .int .i64 ql, .int .i64 qp, .int .i64 dk, .int .i64 df, .bool dr, .bool dw, .bool dx, .bool da, .bool dn, .int .i64 ds, .int .i64 d0, .int .u64 (u qw)] 29)) (fun t _ => (4 - intOf t).toNat)
      case atStart => exact ⟨0, by decide, by decide, rfl, HB0.out, HBX⟩
      case round =>
        obtain ⟨st, hs0, hs4, rfl, hb, HX⟩ := hrel
        by_cases hst : st ≤ 3
        · have HB1 := Lib.hid hb
          clear hb
          go_wp2_with fail
          obtain ⟨wz, rfl⟩ : ∃ wz : World, wz = wr := ⟨_, rfl⟩
          go_loopw [6] (fun t wi => ∃ lv : Int, -1 ≤ lv ∧ lv ≤ 5 ∧ t = .int .i64 lv ∧ Below w.heap.size w wi ∧ Hid (BoxAt wi G #[.int .i64 qs, .int .i64 ql, .int .i64 qp, .int .i64 dk, .int .i64 df, .bool dr, .bool dw, .bool dx, .bool da, .bool dn, .int .i64 ds, .int .i64 d0, .int .u64 (u qw)] 29)) (fun t _ => (5 - intOf t).toNat)
          case atStart => exact ⟨-1, by decide, by decide, rfl, HB1.out, HX⟩
          case round =>
            obtain ⟨lv, hv0, hv4, rfl, hb, X0⟩ := hrel
            by_cases hlv : lv ≤ 4
            · have B0 := Lib.hid hb
              clear hb
              have HP := Lib.hid (fun W => place_any st lv W)
              cases hp : placeB st lv
              · rw [hp] at HP
                have hm : mayE st lv (Dsc.mk dk df dr dw dx da dn ds d0) = false := by (unfold mayE; rw [hp]; rfl)
                have HW := Lib.hid (fun W => dword_no st lv dk df dr dw dx da dn ds d0 W hm)
                have HK := Lib.hid (fun W => check_no st lv dk df dr dw dx da dn ds d0 W hm)
                clear hp hm
                have Xc3 := X0.out.get 3 (.int .i64 dk) rfl
                have Xc4 := X0.out.get 4 (.int .i64 df) rfl
                have Xc5 := X0.out.get 5 (.bool dr) rfl
                have Xc6 := X0.out.get 6 (.bool dw) rfl
                have Xc7 := X0.out.get 7 (.bool dx) rfl
                have Xc8 := X0.out.get 8 (.bool da) rfl
                have Xc9 := X0.out.get 9 (.bool dn) rfl
                have Xc10 := X0.out.get 10 (.int .i64 ds) rfl
                have Xc11 := X0.out.get 11 (.int .i64 d0) rfl
                go_wp2_with fail
                clear Xc3 Xc4 Xc5 Xc6 Xc7 Xc8 Xc9 Xc10 Xc11
                refine (HW.out _).mono ?_
                rintro e w11 ⟨rfl, hb11⟩
                have X11 := Lib.hid (X0.out.below hb11)
                have B11 := Lib.hid (bel_trans B0.out hb11)
                clear X0 B0 hb11
                have Xc3 := X11.out.get 3 (.int .i64 dk) rfl
                have Xc4 := X11.out.get 4 (.int .i64 df) rfl
                have Xc5 := X11.out.get 5 (.bool dr) rfl
                have Xc6 := X11.out.get 6 (.bool dw) rfl
                have Xc7 := X11.out.get 7 (.bool dx) rfl
                have Xc8 := X11.out.get 8 (.bool da) rfl
                have Xc9 := X11.out.get 9 (.bool dn) rfl
                have Xc10 := X11.out.get 10 (.int .i64 ds) rfl
                have Xc11 := X11.out.get 11 (.int .i64 d0) rfl
                go_wp2_with (first | (go_at_call 15; refine (HP.out _).mono ?_; rintro e w2 ⟨rfl, rfl⟩))
                clear Xc3 Xc4 Xc5 Xc6 Xc7 Xc8 Xc9 Xc10 Xc11
                refine (HK.out _).mono ?_
                rintro e w12 ⟨rfl, hb12⟩
                have X12 := Lib.hid (X11.out.below hb12)
                have B12 := Lib.hid (bel_trans B11.out hb12)
                clear X11 B11 hb12
                go_wp2_with (first | (go_at_call 18; refine (lnum_any _ _).mono ?_; rintro e w3 ⟨rfl, rfl⟩))
                go_roundw
                case rel => exact ⟨lv + 1, by omega, by omega, by go_num, B12.out, X12⟩
                case measure => simp [intOf]; omega
              · cases hd : mayD st lv (Dsc.mk dk df dr dw dx da dn ds d0)
                · have hm : mayE st lv (Dsc.mk dk df dr dw dx da dn ds d0) = false := by (unfold mayE; rw [hp, hd]; rfl)
                  have HW := Lib.hid (fun W => dword_no st lv dk df dr dw dx da dn ds d0 W hm)
                  have HK := Lib.hid (fun W => check_no st lv dk df dr dw dx da dn ds d0 W hm)
                  have HD := Lib.hid (fun W => rdesc_any st lv dk df dr dw dx da dn ds d0 W hp)
                  rw [hd] at HD
                  rw [hp] at HP
                  clear hp hm hd
                  have Xc3 := X0.out.get 3 (.int .i64 dk) rfl
                  have Xc4 := X0.out.get 4 (.int .i64 df) rfl
                  have Xc5 := X0.out.get 5 (.bool dr) rfl
                  have Xc6 := X0.out.get 6 (.bool dw) rfl
                  have Xc7 := X0.out.get 7 (.bool dx) rfl
                  have Xc8 := X0.out.get 8 (.bool da) rfl
                  have Xc9 := X0.out.get 9 (.bool dn) rfl
                  have Xc10 := X0.out.get 10 (.int .i64 ds) rfl
                  have Xc11 := X0.out.get 11 (.int .i64 d0) rfl
                  go_wp2_with fail
                  clear Xc3 Xc4 Xc5 Xc6 Xc7 Xc8 Xc9 Xc10 Xc11
                  refine (HW.out _).mono ?_
                  rintro e w11 ⟨rfl, hb11⟩
                  have X11 := Lib.hid (X0.out.below hb11)
                  have B11 := Lib.hid (bel_trans B0.out hb11)
                  clear X0 B0 hb11
                  have Xc3 := X11.out.get 3 (.int .i64 dk) rfl
                  have Xc4 := X11.out.get 4 (.int .i64 df) rfl
                  have Xc5 := X11.out.get 5 (.bool dr) rfl
                  have Xc6 := X11.out.get 6 (.bool dw) rfl
                  have Xc7 := X11.out.get 7 (.bool dx) rfl
                  have Xc8 := X11.out.get 8 (.bool da) rfl
                  have Xc9 := X11.out.get 9 (.bool dn) rfl
                  have Xc10 := X11.out.get 10 (.int .i64 ds) rfl
                  have Xc11 := X11.out.get 11 (.int .i64 d0) rfl
                  go_wp2_with (first | (go_at_call 15; refine (HP.out _).mono ?_; rintro e w2 ⟨rfl, rfl⟩))
                  clear Xc3 Xc4 Xc5 Xc6 Xc7 Xc8 Xc9 Xc10 Xc11
                  refine (HD.out _).mono ?_
                  rintro e w12 ⟨rfl, hb12⟩
                  have X12 := Lib.hid (X11.out.below hb12)
                  have B12 := Lib.hid (bel_trans B11.out hb12)
                  clear X11 B11 hb12
                  have Xc3 := X12.out.get 3 (.int .i64 dk) rfl
                  have Xc4 := X12.out.get 4 (.int .i64 df) rfl
                  have Xc5 := X12.out.get 5 (.bool dr) rfl
                  have Xc6 := X12.out.get 6 (.bool dw) rfl
                  have Xc7 := X12.out.get 7 (.bool dx) rfl
                  have Xc8 := X12.out.get 8 (.bool da) rfl
                  have Xc9 := X12.out.get 9 (.bool dn) rfl
                  have Xc10 := X12.out.get 10 (.int .i64 ds) rfl
                  have Xc11 := X12.out.get 11 (.int .i64 d0) rfl
                  go_wp2_with fail
                  clear Xc3 Xc4 Xc5 Xc6 Xc7 Xc8 Xc9 Xc10 Xc11
                  refine (HK.out _).mono ?_
                  rintro e w13 ⟨rfl, hb13⟩
                  have X13 := Lib.hid (X12.out.below hb13)
                  have B13 := Lib.hid (bel_trans B12.out hb13)
                  clear X12 B12 hb13
                  go_wp2_with (first | (go_at_call 18; refine (lnum_any _ _).mono ?_; rintro e w3 ⟨rfl, rfl⟩))
                  go_roundw
                  case rel => exact ⟨lv + 1, by omega, by omega, by go_num, B13.out, X13⟩
                  case measure => simp [intOf]; omega
                · have hm : mayE st lv (Dsc.mk dk df dr dw dx da dn ds d0) = true := by (unfold mayE; rw [hp, hd]; rfl)
                  have HW := Lib.hid (fun W => dword_yes st lv dk df dr dw dx da dn ds d0 W hm)
                  have HK := Lib.hid (fun W => check_yes st lv dk df dr dw dx da dn ds d0 W hm)
                  have HD := Lib.hid (fun W => rdesc_any st lv dk df dr dw dx da dn ds d0 W hp)
                  rw [hd] at HD
                  have HR := Lib.hid (fun W => rword_any st lv dk df dr dw dx da dn ds d0 W hd)
                  rw [hp] at HP
                  clear hp hm hd
                  generalize wordD st lv (Dsc.mk dk df dr dw dx da dn ds d0) = wd at *
                  have hq : (u wd != u wd) = false := by simp
                  have Xc3 := X0.out.get 3 (.int .i64 dk) rfl
                  have Xc4 := X0.out.get 4 (.int .i64 df) rfl
                  have Xc5 := X0.out.get 5 (.bool dr) rfl
                  have Xc6 := X0.out.get 6 (.bool dw) rfl
                  have Xc7 := X0.out.get 7 (.bool dx) rfl
                  have Xc8 := X0.out.get 8 (.bool da) rfl
                  have Xc9 := X0.out.get 9 (.bool dn) rfl
                  have Xc10 := X0.out.get 10 (.int .i64 ds) rfl
                  have Xc11 := X0.out.get 11 (.int .i64 d0) rfl
                  go_wp2_with fail
                  clear Xc3 Xc4 Xc5 Xc6 Xc7 Xc8 Xc9 Xc10 Xc11
                  refine (HW.out _).mono ?_
                  rintro e w11 ⟨rfl, hb11⟩
                  have X11 := Lib.hid (X0.out.below hb11)
                  have B11 := Lib.hid (bel_trans B0.out hb11)
                  clear X0 B0 hb11
                  have Xc3 := X11.out.get 3 (.int .i64 dk) rfl
                  have Xc4 := X11.out.get 4 (.int .i64 df) rfl
                  have Xc5 := X11.out.get 5 (.bool dr) rfl
                  have Xc6 := X11.out.get 6 (.bool dw) rfl
                  have Xc7 := X11.out.get 7 (.bool dx) rfl
                  have Xc8 := X11.out.get 8 (.bool da) rfl
                  have Xc9 := X11.out.get 9 (.bool dn) rfl
                  have Xc10 := X11.out.get 10 (.int .i64 ds) rfl
                  have Xc11 := X11.out.get 11 (.int .i64 d0) rfl
                  go_wp2_with (first | (go_at_call 15; refine (HP.out _).mono ?_; rintro e w2 ⟨rfl, rfl⟩))
                  clear Xc3 Xc4 Xc5 Xc6 Xc7 Xc8 Xc9 Xc10 Xc11
                  refine (HD.out _).mono ?_
                  rintro e w12 ⟨rfl, hb12⟩
                  have X12 := Lib.hid (X11.out.below hb12)
                  have B12 := Lib.hid (bel_trans B11.out hb12)
                  clear X11 B11 hb12
                  have Xc3 := X12.out.get 3 (.int .i64 dk) rfl
                  have Xc4 := X12.out.get 4 (.int .i64 df) rfl
                  have Xc5 := X12.out.get 5 (.bool dr) rfl
                  have Xc6 := X12.out.get 6 (.bool dw) rfl
                  have Xc7 := X12.out.get 7 (.bool dx) rfl
                  have Xc8 := X12.out.get 8 (.bool da) rfl
                  have Xc9 := X12.out.get 9 (.bool dn) rfl
                  have Xc10 := X12.out.get 10 (.int .i64 ds) rfl
                  have Xc11 := X12.out.get 11 (.int .i64 d0) rfl
                  go_wp2_with fail
                  clear Xc3 Xc4 Xc5 Xc6 Xc7 Xc8 Xc9 Xc10 Xc11
                  refine (HR.out _).mono ?_
                  rintro e w13 ⟨rfl, hb13⟩
                  have X13 := Lib.hid (X12.out.below hb13)
                  have B13 := Lib.hid (bel_trans B12.out hb13)
                  clear X12 B12 hb13
                  have Xc3 := X13.out.get 3 (.int .i64 dk) rfl
                  have Xc4 := X13.out.get 4 (.int .i64 df) rfl
                  have Xc5 := X13.out.get 5 (.bool dr) rfl
                  have Xc6 := X13.out.get 6 (.bool dw) rfl
                  have Xc7 := X13.out.get 7 (.bool dx) rfl
                  have Xc8 := X13.out.get 8 (.bool da) rfl
                  have Xc9 := X13.out.get 9 (.bool dn) rfl
                  have Xc10 := X13.out.get 10 (.int .i64 ds) rfl
                  have Xc11 := X13.out.get 11 (.int .i64 d0) rfl
                  go_wp2_with fail
                  clear Xc3 Xc4 Xc5 Xc6 Xc7 Xc8 Xc9 Xc10 Xc11
                  refine (HK.out _).mono ?_
                  rintro e w14 ⟨rfl, hb14⟩
                  have X14 := Lib.hid (X13.out.below hb14)
                  have B14 := Lib.hid (bel_trans B13.out hb14)
                  clear X13 B13 hb14
                  go_wp2_with (first | (go_at_call 18; refine (lnum_any _ _).mono ?_; rintro e w3 ⟨rfl, rfl⟩))
                  go_roundw
                  case rel => exact ⟨lv + 1, by omega, by omega, by go_num, B14.out, X14⟩
                  case measure => simp [intOf]; omega
            · go_wp2
              go_roundw
              case rel => exact ⟨st + 1, by omega, by omega, by go_num, hb, X0⟩
              case measure => simp [intOf]; omega
        · have HB1 := Lib.hid hb
          clear hb
          go_wp2_with fail
          obtain ⟨wz, rfl⟩ : ∃ wz : World, wz = wr := ⟨_, rfl⟩
          go_loopw [11] (fun t wi => ∃ lv : Int, -1 ≤ lv ∧ lv ≤ 5 ∧ t = .int .i64 lv ∧ Below w.heap.size w wi ∧ Hid (BoxAt wi G #[.int .i64 qs, .int .i64 ql, .int .i64 qp, .int .i64 dk, .int .i64 df, .bool dr, .bool dw, .bool dx, .bool da, .bool dn, .int .i64 ds, .int .i64 d0, .int .u64 (u qw)] 29)) (fun t _ => (5 - intOf t).toNat)
          case atStart => exact ⟨-1, by decide, by decide, rfl, HB1.out, HX⟩
          case round =>
            obtain ⟨lv, hv0, hv4, rfl, hb, X0⟩ := hrel
            by_cases hlv : lv ≤ 4
            · have B0 := Lib.hid hb
              clear hb
              have HN := Lib.hid (fun W => num_any lv 3 W)
              have HPG := Lib.hid (fun W => page_any qp W)
              cases hn : numB lv 3
              · have HCV := Lib.hid (fun W => dcovers_no lv W hn)
                have HI := Lib.hid (fun W => dindex_no lv qp W (by rw [hn]; rfl))
                rw [hn] at HN
                clear hn
                have Xc2 := X0.out.get 2 (.int .i64 qp) rfl
                go_wp2_with (first | (go_at_call 20; refine (HCV.out _).mono ?_; rintro e w2 ⟨rfl, rfl⟩) | (go_at_call 21; refine (HI.out _).mono ?_; rintro e w2 ⟨rfl, rfl⟩) | (go_at_call 22; refine (HN.out _).mono ?_; rintro e w2 ⟨rfl, rfl⟩) | (go_at_call 18; refine (lnum_any _ _).mono ?_; rintro e w3 ⟨rfl, rfl⟩) | (go_at_call 24; refine (HPG.out _).mono ?_; rintro e w2 ⟨rfl, rfl⟩))
                go_roundw
                case rel => exact ⟨lv + 1, by omega, by omega, by go_num, B0.out, X0⟩
                case measure => simp [intOf]; omega
              · cases hpg : numB qp 4095
                · have hl := numB_iff.1 hn
                  have HCV := Lib.hid (fun W => dcovers_yes lv W hn)
                  have HI := Lib.hid (fun W => dindex_no lv qp W (by rw [hn, hpg]; rfl))
                  have HRC := Lib.hid (fun W => rcovers_any lv W hl.1 hl.2)
                  rw [hn] at HN
                  rw [hpg] at HPG
                  clear hn hpg
                  generalize cov lv = cv at *
                  have hcc : (cv != cv) = false := by simp
                  clear hl
                  have Xc2 := X0.out.get 2 (.int .i64 qp) rfl
                  go_wp2_with (first | (go_at_call 20; refine (HCV.out _).mono ?_; rintro e w2 ⟨rfl, rfl⟩) | (go_at_call 21; refine (HI.out _).mono ?_; rintro e w2 ⟨rfl, rfl⟩) | (go_at_call 22; refine (HN.out _).mono ?_; rintro e w2 ⟨rfl, rfl⟩) | (go_at_call 18; refine (lnum_any _ _).mono ?_; rintro e w3 ⟨rfl, rfl⟩) | (go_at_call 24; refine (HPG.out _).mono ?_; rintro e w2 ⟨rfl, rfl⟩))
                  clear Xc2
                  refine (HRC.out _).mono ?_
                  rintro e w11 ⟨rfl, hb11⟩
                  have X11 := Lib.hid (X0.out.below hb11)
                  have B11 := Lib.hid (bel_trans B0.out hb11)
                  clear X0 B0 hb11
                  have Xc2 := X11.out.get 2 (.int .i64 qp) rfl
                  go_wp2_with (first | (go_at_call 18; refine (lnum_any _ _).mono ?_; rintro e w3 ⟨rfl, rfl⟩) | (go_at_call 24; refine (HPG.out _).mono ?_; rintro e w2 ⟨rfl, rfl⟩))
                  go_roundw
                  case rel => exact ⟨lv + 1, by omega, by omega, by go_num, B11.out, X11⟩
                  case measure => simp [intOf]; omega
                · have hl := numB_iff.1 hn
                  have hpp := numB_iff.1 hpg
                  have HCV := Lib.hid (fun W => dcovers_yes lv W hn)
                  have HI := Lib.hid (fun W => dindex_yes lv qp W hn hpg)
                  have HRC := Lib.hid (fun W => rcovers_any lv W hl.1 hl.2)
                  have HRI := Lib.hid (fun W => rindex_any lv qp W hl.1 hl.2 hpp.1 hpp.2)
                  rw [hn] at HN
                  rw [hpg] at HPG
                  clear hn hpg
                  generalize cov lv = cv at *
                  generalize idx lv qp = ix at *
                  have hcc : (cv != cv) = false := by simp
                  have hii : (ix != ix) = false := by simp
                  clear hl hpp
                  have Xc2 := X0.out.get 2 (.int .i64 qp) rfl
                  go_wp2_with (first | (go_at_call 20; refine (HCV.out _).mono ?_; rintro e w2 ⟨rfl, rfl⟩))
                  clear Xc2
                  refine (HI.out _).mono ?_
                  rintro e w11 ⟨rfl, hb11⟩
                  have X11 := Lib.hid (X0.out.below hb11)
                  have B11 := Lib.hid (bel_trans B0.out hb11)
                  clear X0 B0 hb11
                  have Xc2 := X11.out.get 2 (.int .i64 qp) rfl
                  go_wp2_with (first | (go_at_call 22; refine (HN.out _).mono ?_; rintro e w2 ⟨rfl, rfl⟩) | (go_at_call 18; refine (lnum_any _ _).mono ?_; rintro e w3 ⟨rfl, rfl⟩) | (go_at_call 24; refine (HPG.out _).mono ?_; rintro e w2 ⟨rfl, rfl⟩))
                  clear Xc2
                  refine (HRC.out _).mono ?_
                  rintro e w12 ⟨rfl, hb12⟩
                  have X12 := Lib.hid (X11.out.below hb12)
                  have B12 := Lib.hid (bel_trans B11.out hb12)
                  clear X11 B11 hb12
                  have Xc2 := X12.out.get 2 (.int .i64 qp) rfl
                  go_wp2_with (first | (go_at_call 18; refine (lnum_any _ _).mono ?_; rintro e w3 ⟨rfl, rfl⟩) | (go_at_call 24; refine (HPG.out _).mono ?_; rintro e w2 ⟨rfl, rfl⟩))
                  clear Xc2
                  refine (HRI.out _).mono ?_
                  rintro e w13 ⟨rfl, hb13⟩
                  have X13 := Lib.hid (X12.out.below hb13)
                  have B13 := Lib.hid (bel_trans B12.out hb13)
                  clear X12 B12 hb13
                  go_wp2_with (first | (go_at_call 18; refine (lnum_any _ _).mono ?_; rintro e w3 ⟨rfl, rfl⟩))
                  go_roundw
                  case rel => exact ⟨lv + 1, by omega, by omega, by go_num, B13.out, X13⟩
                  case measure => simp [intOf]; omega
            · go_wp2
              go_roundw
              case rel => exact ⟨k + 1, by omega, by go_num, hb⟩
              case measure => simp [intOf]; omega
    · by_cases hq : k < len
      · have hq' : ¬ (k < 12) := by omega
        go_wp2_with (go_at_call 26; refine (wakes_any _).mono ?_; rintro e w1 ⟨rfl, hb1⟩)
        go_ret
        exact ⟨rfl, bel_trans hb hb1⟩
      · go_wp2_with (go_at_call 26; refine (wakes_any _).mono ?_; rintro e w1 ⟨rfl, hb1⟩)
        go_ret
        exact ⟨rfl, bel_trans hb hb1⟩
end Go.Proofs.Ytpjnanplliinpaa
