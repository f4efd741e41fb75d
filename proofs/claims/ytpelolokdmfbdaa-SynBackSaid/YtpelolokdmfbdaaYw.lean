/- The walks of SynWords and SynBack. -/
import Derived.Test.YtpelolokdmfbdaaYb
import Derived.Test.YtpelolokdmfbdaaRefs
import Derived.Deep.CutBlock
namespace Go.Proofs.Ytpelolokdmfbdaa
open Go.ChangeShapes Go.WideShapes Go.ChangeAt Go.RowKit Go.Deep

theorem synw_empty (PW : SyWordC) (a : Option Addr) (cap : Nat) (w : World) :
    Calls Try.prog 3 #[.slice a 0 cap] w fun e w' => e = .returned (.bool true) ∧ Below w.heap.size w w' := by
  have HK := Lib.hid (fun W => wakes8_any PW W)
  go_enter Try.func3, Try.ntmps3
  go_wp2
  refine wp_loop_rounds 1 ?_
  rw [rounds_succ]
  go_wp2_with (go_at_call 11; refine (HK.out _).mono ?_; rintro e w' ⟨rfl, hb⟩)
  go_ret
  exact ⟨rfl, hb⟩
set_option maxRecDepth 100000 in
set_option maxHeartbeats 3200000 in
theorem synw_walk (PW : SyWordC) (PO : SyOfC) (b off len cap : Nat) (w : World) (q : Nat → Q8) (hc : ∀ i, i < len → RowAt w b (off + i * 6) 6 (ask8V (q i))) :
    Calls Try.prog 3 #[.slice (some ⟨b, off, none⟩) len cap] w fun e w' => e = .returned (.bool true) ∧ Below w.heap.size w w' := by
  have HC := Lib.hid hc
  have HK := Lib.hid (fun W => wakes8_any PW W)
  have PW := Lib.hid PW
  have PO := Lib.hid PO
  clear hc
  go_enter Try.func3, Try.ntmps3
  go_wp2
  go_loopw [3] (fun i wr => ∃ k : Nat, k ≤ len ∧ i = .int .i64 k ∧ Below w.heap.size w wr) (fun i _ => len - (intOf i).toNat)
  case atStart => exact ⟨0, Nat.zero_le _, rfl, Below.refl _ _⟩
  case round =>
    obtain ⟨k, hk, rfl, hb⟩ := hrel
    by_cases hlt : k < len ∧ k < 20
    · obtain ⟨hlt, hlt'⟩ := hlt
      have i1 : (0 : Int) ≤ (k : Int) := by omega
      have i2 : (k : Int) < (len : Int) := by omega
      have d20 : decide ((k : Int) < 20) = true := decide_eq_true (by omega)
      have HA := Lib.hid ((HC.out k hlt).below hb)
      generalize q k = qk at *
      obtain ⟨⟨fk, fs, fl, fw, fp⟩, qw⟩ := qk
      have PW := PW.out
      have PO := PO.out
      have HB0 := Lib.hid hb
      clear hb
      cases hm : maySy ⟨fk, fs, fl, fw, fp⟩
      · cases hi : isSy qw
        · have HW := Lib.hid (fun W => PW ⟨fk, fs, fl, fw, fp⟩ W)
          have HR := Lib.hid (fun W => rfault_any fk fs fl fw fp W)
          rw [hm] at HW HR
          rw [if_neg (by decide), if_neg (by decide)] at HW
          have hWq : u 0#64 = 0 := by decide
          unfold fltV at HW
          simp only at HW
          clear hm
          have HO := Lib.hid (fun W => PO qw W)
          have HP := Lib.hid (fun W => rsynOf_any qw W false hi _ rfl)
          clear PW PO
          rw [hi] at HO
          rw [if_neg (by decide)] at HO
          clear hi
          generalize ofSy qw = t at *
          obtain ⟨xk, xs, xl, xw, xp⟩ := t
          unfold fltV at HO HP
          simp only at HO HP
          have heq : eqF ⟨xk, xs, xl, xw, xp⟩ ⟨xk, xs, xl, xw, xp⟩ = true := eqF_self _
          have c0 := HA.out.get0 (.int .i64 fk) (by decide) rfl
          have c1 := HA.out.get 1 (.int .i64 fs) (by decide) rfl
          have c2 := HA.out.get 2 (.int .i64 fl) (by decide) rfl
          have c3 := HA.out.get 3 (.bool fw) (by decide) rfl
          have c4 := HA.out.get 4 (.int .i64 fp) (by decide) rfl
          go_wp2_with fail
          refine (HW.out _).mono ?_
          rintro e w1 ⟨rfl, hb1⟩
          have HA1 := Lib.hid (HA.out.below hb1)
          have B1 := Lib.hid (bel_trans HB0.out hb1)
          clear HA HB0 hb1 c0 c1 c2 c3 c4
          have c0 := HA1.out.get0 (.int .i64 fk) (by decide) rfl
          have c1 := HA1.out.get 1 (.int .i64 fs) (by decide) rfl
          have c2 := HA1.out.get 2 (.int .i64 fl) (by decide) rfl
          have c3 := HA1.out.get 3 (.bool fw) (by decide) rfl
          have c4 := HA1.out.get 4 (.int .i64 fp) (by decide) rfl
          go_wp2_with fail
          refine (HR.out _).mono ?_
          rintro e w2 ⟨rfl, hb2⟩
          have HA2 := Lib.hid (HA1.out.below hb2)
          have B2 := Lib.hid (bel_trans B1.out hb2)
          clear HA1 B1 hb2 c0 c1 c2 c3 c4
          have c5 := HA2.out.get 5 (.int .u64 (u qw)) (by decide) rfl
          go_wp2_with fail
          refine (HO.out _).mono ?_
          rintro e w5 ⟨rfl, hb5⟩
          have HA5 := Lib.hid ((HA2.out.below hb5).below (bel_alloc (Below.refl _ _) (.cells #[.int .i64 xk, .int .i64 xs, .int .i64 xl, .bool xw, .int .i64 xp] 28)))
          have B5 := Lib.hid (bel_alloc (bel_trans B2.out hb5) (.cells #[.int .i64 xk, .int .i64 xs, .int .i64 xl, .bool xw, .int .i64 xp] 28))
          have X5 := Lib.hid (BoxAt.new w5 #[.int .i64 xk, .int .i64 xs, .int .i64 xl, .bool xw, .int .i64 xp] 28)
          clear HA2 B2 hb5 c5
          have c5 := HA5.out.get 5 (.int .u64 (u qw)) (by decide) rfl
          go_wp2_with fail
          refine (HP.out _).mono ?_
          rintro e w6 ⟨rfl, hb6⟩
          have X6 := X5.out.below hb6
          have X7 := X6.alloc (.cells #[.int .i64 xk, .int .i64 xs, .int .i64 xl, .bool xw, .int .i64 xp] 28)
          have Y7 := BoxAt.new w6 #[.int .i64 xk, .int .i64 xs, .int .i64 xl, .bool xw, .int .i64 xp] 28
          have B7 := Lib.hid (bel_alloc (bel_trans B5.out hb6) (.cells #[.int .i64 xk, .int .i64 xs, .int .i64 xl, .bool xw, .int .i64 xp] 28))
          clear X5 X6 HA5 B5 hb6 c5
          have x0 := X7.get 0 (.int .i64 xk) rfl
          have x1 := X7.get 1 (.int .i64 xs) rfl
          have x2 := X7.get 2 (.int .i64 xl) rfl
          have x3 := X7.get 3 (.bool xw) rfl
          have x4 := X7.get 4 (.int .i64 xp) rfl
          have y0 := Y7.get 0 (.int .i64 xk) rfl
          have y1 := Y7.get 1 (.int .i64 xs) rfl
          have y2 := Y7.get 2 (.int .i64 xl) rfl
          have y3 := Y7.get 3 (.bool xw) rfl
          have y4 := Y7.get 4 (.int .i64 xp) rfl
          clear X7 Y7
          go_wp2_with (first | (go_at_call 10; refine (lnum8_any _ _).mono ?_; rintro e w8 ⟨rfl, rfl⟩))
          go_roundw
          case rel => exact ⟨k + 1, by omega, by go_num, B7.out⟩
          case measure => simp [intOf]; omega
        · have HW := Lib.hid (fun W => PW ⟨fk, fs, fl, fw, fp⟩ W)
          have HR := Lib.hid (fun W => rfault_any fk fs fl fw fp W)
          rw [hm] at HW HR
          rw [if_neg (by decide), if_neg (by decide)] at HW
          have hWq : u 0#64 = 0 := by decide
          unfold fltV at HW
          simp only at HW
          clear hm
          have HO := Lib.hid (fun W => PO qw W)
          have HP := Lib.hid (fun W => rsynOf_any qw W true hi _ rfl)
          clear PW PO
          rw [hi] at HO
          rw [if_pos rfl] at HO
          clear hi
          generalize ofSy qw = t at *
          obtain ⟨xk, xs, xl, xw, xp⟩ := t
          unfold fltV at HO HP
          simp only at HO HP
          have heq : eqF ⟨xk, xs, xl, xw, xp⟩ ⟨xk, xs, xl, xw, xp⟩ = true := eqF_self _
          have c0 := HA.out.get0 (.int .i64 fk) (by decide) rfl
          have c1 := HA.out.get 1 (.int .i64 fs) (by decide) rfl
          have c2 := HA.out.get 2 (.int .i64 fl) (by decide) rfl
          have c3 := HA.out.get 3 (.bool fw) (by decide) rfl
          have c4 := HA.out.get 4 (.int .i64 fp) (by decide) rfl
          go_wp2_with fail
          refine (HW.out _).mono ?_
          rintro e w1 ⟨rfl, hb1⟩
          have HA1 := Lib.hid (HA.out.below hb1)
          have B1 := Lib.hid (bel_trans HB0.out hb1)
          clear HA HB0 hb1 c0 c1 c2 c3 c4
          have c0 := HA1.out.get0 (.int .i64 fk) (by decide) rfl
          have c1 := HA1.out.get 1 (.int .i64 fs) (by decide) rfl
          have c2 := HA1.out.get 2 (.int .i64 fl) (by decide) rfl
          have c3 := HA1.out.get 3 (.bool fw) (by decide) rfl
          have c4 := HA1.out.get 4 (.int .i64 fp) (by decide) rfl
          go_wp2_with fail
          refine (HR.out _).mono ?_
          rintro e w2 ⟨rfl, hb2⟩
          have HA2 := Lib.hid (HA1.out.below hb2)
          have B2 := Lib.hid (bel_trans B1.out hb2)
          clear HA1 B1 hb2 c0 c1 c2 c3 c4
          have c5 := HA2.out.get 5 (.int .u64 (u qw)) (by decide) rfl
          go_wp2_with fail
          refine (HO.out _).mono ?_
          rintro e w5 ⟨rfl, hb5⟩
          have HA5 := Lib.hid ((HA2.out.below hb5).below (bel_alloc (Below.refl _ _) (.cells #[.int .i64 xk, .int .i64 xs, .int .i64 xl, .bool xw, .int .i64 xp] 28)))
          have B5 := Lib.hid (bel_alloc (bel_trans B2.out hb5) (.cells #[.int .i64 xk, .int .i64 xs, .int .i64 xl, .bool xw, .int .i64 xp] 28))
          have X5 := Lib.hid (BoxAt.new w5 #[.int .i64 xk, .int .i64 xs, .int .i64 xl, .bool xw, .int .i64 xp] 28)
          clear HA2 B2 hb5 c5
          have c5 := HA5.out.get 5 (.int .u64 (u qw)) (by decide) rfl
          go_wp2_with fail
          refine (HP.out _).mono ?_
          rintro e w6 ⟨rfl, hb6⟩
          have X6 := X5.out.below hb6
          have X7 := X6.alloc (.cells #[.int .i64 xk, .int .i64 xs, .int .i64 xl, .bool xw, .int .i64 xp] 28)
          have Y7 := BoxAt.new w6 #[.int .i64 xk, .int .i64 xs, .int .i64 xl, .bool xw, .int .i64 xp] 28
          have B7 := Lib.hid (bel_alloc (bel_trans B5.out hb6) (.cells #[.int .i64 xk, .int .i64 xs, .int .i64 xl, .bool xw, .int .i64 xp] 28))
          clear X5 X6 HA5 B5 hb6 c5
          have x0 := X7.get 0 (.int .i64 xk) rfl
          have x1 := X7.get 1 (.int .i64 xs) rfl
          have x2 := X7.get 2 (.int .i64 xl) rfl
          have x3 := X7.get 3 (.bool xw) rfl
          have x4 := X7.get 4 (.int .i64 xp) rfl
          have y0 := Y7.get 0 (.int .i64 xk) rfl
          have y1 := Y7.get 1 (.int .i64 xs) rfl
          have y2 := Y7.get 2 (.int .i64 xl) rfl
          have y3 := Y7.get 3 (.bool xw) rfl
          have y4 := Y7.get 4 (.int .i64 xp) rfl
          clear X7 Y7
          go_wp2_with (first | (go_at_call 10; refine (lnum8_any _ _).mono ?_; rintro e w8 ⟨rfl, rfl⟩))
          go_roundw
          case rel => exact ⟨k + 1, by omega, by go_num, B7.out⟩
          case measure => simp [intOf]; omega
      · cases hi : isSy qw
        · have HW := Lib.hid (fun W => PW ⟨fk, fs, fl, fw, fp⟩ W)
          have HR := Lib.hid (fun W => rfault_any fk fs fl fw fp W)
          rw [hm] at HW HR
          rw [if_pos rfl, if_pos rfl] at HW
          have HV := Lib.hid (fun W => rsyn_any fk fs fl fw fp W)
          generalize wordSy ⟨fk, fs, fl, fw, fp⟩ = wt at *
          unfold fltV at HW
          simp only at HW
          clear hm
          have HO := Lib.hid (fun W => PO qw W)
          have HP := Lib.hid (fun W => rsynOf_any qw W false hi _ rfl)
          clear PW PO
          rw [hi] at HO
          rw [if_neg (by decide)] at HO
          clear hi
          generalize ofSy qw = t at *
          obtain ⟨xk, xs, xl, xw, xp⟩ := t
          unfold fltV at HO HP
          simp only at HO HP
          have heq : eqF ⟨xk, xs, xl, xw, xp⟩ ⟨xk, xs, xl, xw, xp⟩ = true := eqF_self _
          have c0 := HA.out.get0 (.int .i64 fk) (by decide) rfl
          have c1 := HA.out.get 1 (.int .i64 fs) (by decide) rfl
          have c2 := HA.out.get 2 (.int .i64 fl) (by decide) rfl
          have c3 := HA.out.get 3 (.bool fw) (by decide) rfl
          have c4 := HA.out.get 4 (.int .i64 fp) (by decide) rfl
          go_wp2_with fail
          refine (HW.out _).mono ?_
          rintro e w1 ⟨rfl, hb1⟩
          have HA1 := Lib.hid (HA.out.below hb1)
          have B1 := Lib.hid (bel_trans HB0.out hb1)
          clear HA HB0 hb1 c0 c1 c2 c3 c4
          have c0 := HA1.out.get0 (.int .i64 fk) (by decide) rfl
          have c1 := HA1.out.get 1 (.int .i64 fs) (by decide) rfl
          have c2 := HA1.out.get 2 (.int .i64 fl) (by decide) rfl
          have c3 := HA1.out.get 3 (.bool fw) (by decide) rfl
          have c4 := HA1.out.get 4 (.int .i64 fp) (by decide) rfl
          go_wp2_with fail
          refine (HR.out _).mono ?_
          rintro e w2 ⟨rfl, hb2⟩
          have HA2 := Lib.hid (HA1.out.below hb2)
          have B2 := Lib.hid (bel_trans B1.out hb2)
          clear HA1 B1 hb2 c0 c1 c2 c3 c4
          have c0 := HA2.out.get0 (.int .i64 fk) (by decide) rfl
          have c1 := HA2.out.get 1 (.int .i64 fs) (by decide) rfl
          have c2 := HA2.out.get 2 (.int .i64 fl) (by decide) rfl
          have c3 := HA2.out.get 3 (.bool fw) (by decide) rfl
          have c4 := HA2.out.get 4 (.int .i64 fp) (by decide) rfl
          go_wp2_with fail
          refine (HV.out _).mono ?_
          rintro e w3 ⟨rfl, hb3⟩
          have HA3 := Lib.hid (HA2.out.below hb3)
          have B3 := Lib.hid (bel_trans B2.out hb3)
          clear HA2 B2 hb3 c0 c1 c2 c3 c4
          have c5 := HA3.out.get 5 (.int .u64 (u qw)) (by decide) rfl
          go_wp2_with fail
          refine (HO.out _).mono ?_
          rintro e w5 ⟨rfl, hb5⟩
          have HA5 := Lib.hid ((HA3.out.below hb5).below (bel_alloc (Below.refl _ _) (.cells #[.int .i64 xk, .int .i64 xs, .int .i64 xl, .bool xw, .int .i64 xp] 28)))
          have B5 := Lib.hid (bel_alloc (bel_trans B3.out hb5) (.cells #[.int .i64 xk, .int .i64 xs, .int .i64 xl, .bool xw, .int .i64 xp] 28))
          have X5 := Lib.hid (BoxAt.new w5 #[.int .i64 xk, .int .i64 xs, .int .i64 xl, .bool xw, .int .i64 xp] 28)
          clear HA3 B3 hb5 c5
          have c5 := HA5.out.get 5 (.int .u64 (u qw)) (by decide) rfl
          go_wp2_with fail
          refine (HP.out _).mono ?_
          rintro e w6 ⟨rfl, hb6⟩
          have X6 := X5.out.below hb6
          have X7 := X6.alloc (.cells #[.int .i64 xk, .int .i64 xs, .int .i64 xl, .bool xw, .int .i64 xp] 28)
          have Y7 := BoxAt.new w6 #[.int .i64 xk, .int .i64 xs, .int .i64 xl, .bool xw, .int .i64 xp] 28
          have B7 := Lib.hid (bel_alloc (bel_trans B5.out hb6) (.cells #[.int .i64 xk, .int .i64 xs, .int .i64 xl, .bool xw, .int .i64 xp] 28))
          clear X5 X6 HA5 B5 hb6 c5
          have x0 := X7.get 0 (.int .i64 xk) rfl
          have x1 := X7.get 1 (.int .i64 xs) rfl
          have x2 := X7.get 2 (.int .i64 xl) rfl
          have x3 := X7.get 3 (.bool xw) rfl
          have x4 := X7.get 4 (.int .i64 xp) rfl
          have y0 := Y7.get 0 (.int .i64 xk) rfl
          have y1 := Y7.get 1 (.int .i64 xs) rfl
          have y2 := Y7.get 2 (.int .i64 xl) rfl
          have y3 := Y7.get 3 (.bool xw) rfl
          have y4 := Y7.get 4 (.int .i64 xp) rfl
          clear X7 Y7
          go_wp2_with (first | (go_at_call 10; refine (lnum8_any _ _).mono ?_; rintro e w8 ⟨rfl, rfl⟩))
          go_roundw
          case rel => exact ⟨k + 1, by omega, by go_num, B7.out⟩
          case measure => simp [intOf]; omega
        · have HW := Lib.hid (fun W => PW ⟨fk, fs, fl, fw, fp⟩ W)
          have HR := Lib.hid (fun W => rfault_any fk fs fl fw fp W)
          rw [hm] at HW HR
          rw [if_pos rfl, if_pos rfl] at HW
          have HV := Lib.hid (fun W => rsyn_any fk fs fl fw fp W)
          generalize wordSy ⟨fk, fs, fl, fw, fp⟩ = wt at *
          unfold fltV at HW
          simp only at HW
          clear hm
          have HO := Lib.hid (fun W => PO qw W)
          have HP := Lib.hid (fun W => rsynOf_any qw W true hi _ rfl)
          clear PW PO
          rw [hi] at HO
          rw [if_pos rfl] at HO
          clear hi
          generalize ofSy qw = t at *
          obtain ⟨xk, xs, xl, xw, xp⟩ := t
          unfold fltV at HO HP
          simp only at HO HP
          have heq : eqF ⟨xk, xs, xl, xw, xp⟩ ⟨xk, xs, xl, xw, xp⟩ = true := eqF_self _
          have c0 := HA.out.get0 (.int .i64 fk) (by decide) rfl
          have c1 := HA.out.get 1 (.int .i64 fs) (by decide) rfl
          have c2 := HA.out.get 2 (.int .i64 fl) (by decide) rfl
          have c3 := HA.out.get 3 (.bool fw) (by decide) rfl
          have c4 := HA.out.get 4 (.int .i64 fp) (by decide) rfl
          go_wp2_with fail
          refine (HW.out _).mono ?_
          rintro e w1 ⟨rfl, hb1⟩
          have HA1 := Lib.hid (HA.out.below hb1)
          have B1 := Lib.hid (bel_trans HB0.out hb1)
          clear HA HB0 hb1 c0 c1 c2 c3 c4
          have c0 := HA1.out.get0 (.int .i64 fk) (by decide) rfl
          have c1 := HA1.out.get 1 (.int .i64 fs) (by decide) rfl
          have c2 := HA1.out.get 2 (.int .i64 fl) (by decide) rfl
          have c3 := HA1.out.get 3 (.bool fw) (by decide) rfl
          have c4 := HA1.out.get 4 (.int .i64 fp) (by decide) rfl
          go_wp2_with fail
          refine (HR.out _).mono ?_
          rintro e w2 ⟨rfl, hb2⟩
          have HA2 := Lib.hid (HA1.out.below hb2)
          have B2 := Lib.hid (bel_trans B1.out hb2)
          clear HA1 B1 hb2 c0 c1 c2 c3 c4
          have c0 := HA2.out.get0 (.int .i64 fk) (by decide) rfl
          have c1 := HA2.out.get 1 (.int .i64 fs) (by decide) rfl
          have c2 := HA2.out.get 2 (.int .i64 fl) (by decide) rfl
          have c3 := HA2.out.get 3 (.bool fw) (by decide) rfl
          have c4 := HA2.out.get 4 (.int .i64 fp) (by decide) rfl
          go_wp2_with fail
          refine (HV.out _).mono ?_
          rintro e w3 ⟨rfl, hb3⟩
          have HA3 := Lib.hid (HA2.out.below hb3)
          have B3 := Lib.hid (bel_trans B2.out hb3)
          clear HA2 B2 hb3 c0 c1 c2 c3 c4
          have c5 := HA3.out.get 5 (.int .u64 (u qw)) (by decide) rfl
          go_wp2_with fail
          refine (HO.out _).mono ?_
          rintro e w5 ⟨rfl, hb5⟩
          have HA5 := Lib.hid ((HA3.out.below hb5).below (bel_alloc (Below.refl _ _) (.cells #[.int .i64 xk, .int .i64 xs, .int .i64 xl, .bool xw, .int .i64 xp] 28)))
          have B5 := Lib.hid (bel_alloc (bel_trans B3.out hb5) (.cells #[.int .i64 xk, .int .i64 xs, .int .i64 xl, .bool xw, .int .i64 xp] 28))
          have X5 := Lib.hid (BoxAt.new w5 #[.int .i64 xk, .int .i64 xs, .int .i64 xl, .bool xw, .int .i64 xp] 28)
          clear HA3 B3 hb5 c5
          have c5 := HA5.out.get 5 (.int .u64 (u qw)) (by decide) rfl
          go_wp2_with fail
          refine (HP.out _).mono ?_
          rintro e w6 ⟨rfl, hb6⟩
          have X6 := X5.out.below hb6
          have X7 := X6.alloc (.cells #[.int .i64 xk, .int .i64 xs, .int .i64 xl, .bool xw, .int .i64 xp] 28)
          have Y7 := BoxAt.new w6 #[.int .i64 xk, .int .i64 xs, .int .i64 xl, .bool xw, .int .i64 xp] 28
          have B7 := Lib.hid (bel_alloc (bel_trans B5.out hb6) (.cells #[.int .i64 xk, .int .i64 xs, .int .i64 xl, .bool xw, .int .i64 xp] 28))
          clear X5 X6 HA5 B5 hb6 c5
          have x0 := X7.get 0 (.int .i64 xk) rfl
          have x1 := X7.get 1 (.int .i64 xs) rfl
          have x2 := X7.get 2 (.int .i64 xl) rfl
          have x3 := X7.get 3 (.bool xw) rfl
          have x4 := X7.get 4 (.int .i64 xp) rfl
          have y0 := Y7.get 0 (.int .i64 xk) rfl
          have y1 := Y7.get 1 (.int .i64 xs) rfl
          have y2 := Y7.get 2 (.int .i64 xl) rfl
          have y3 := Y7.get 3 (.bool xw) rfl
          have y4 := Y7.get 4 (.int .i64 xp) rfl
          clear X7 Y7
          go_wp2_with (first | (go_at_call 10; refine (lnum8_any _ _).mono ?_; rintro e w8 ⟨rfl, rfl⟩))
          go_roundw
          case rel => exact ⟨k + 1, by omega, by go_num, B7.out⟩
          case measure => simp [intOf]; omega
    · by_cases hq : k < len
      · have hq' : ¬ (k < 20) := by omega
        go_wp2_with (go_at_call 11; refine (HK.out _).mono ?_; rintro e w1 ⟨rfl, hb1⟩)
        go_ret
        exact ⟨rfl, bel_trans hb hb1⟩
      · go_wp2_with (go_at_call 11; refine (HK.out _).mono ?_; rintro e w1 ⟨rfl, hb1⟩)
        go_ret
        exact ⟨rfl, bel_trans hb hb1⟩
set_option maxRecDepth 100000 in
set_option maxHeartbeats 3200000 in
theorem synb_walk (PW : SyWordC) (PO : SyOfC) (a : Option Addr) (len cap : Nat) (w : World) :
    Calls Try.prog 4 #[.slice a len cap] w fun e w' => e = .returned (.bool true) ∧ Below w.heap.size w w' := by
  have HK := Lib.hid (fun W => wakes8_any PW W)
  have PW := Lib.hid PW
  have PO := Lib.hid PO
  obtain ⟨g, hg⟩ : ∃ g : Int → Int, g = fun k => withinV (wrap64 (wrap64 ((len : Int) * 37) + k)) 4096 := ⟨_, rfl⟩
  have hgb : ∀ k, 0 ≤ g k ∧ g k ≤ 4095 := by
    intro k
    rw [hg]
    have h1 := within_lo (wrap64 (wrap64 ((len : Int) * 37) + k)) 4096 (by decide)
    have h2 := within_hi (wrap64 (wrap64 ((len : Int) * 37) + k)) 4096 (by decide)
    exact ⟨h1, by show withinV _ _ ≤ _; omega⟩
  have HG := Lib.hid hg
  have HGB := Lib.hid hgb
  clear hg hgb
  have hl0 : 1099511627776 = u (lastSy g 0) := by show _ = u 1099511627776#64; decide
  go_enter Try.func4, Try.ntmps4
  go_wp2
  go_loopw [3, 4] (fun s i wr => ∃ k : Int, 0 ≤ k ∧ k ≤ 160 ∧ i = .int .i64 k ∧ s = .int .u64 (u (lastSy g k)) ∧ Below w.heap.size w wr) (fun _ i _ => 160 - (intOf i).toNat)
  case atStart => exact ⟨0, by decide, by decide, rfl, by rw [← hl0], Below.refl _ _⟩
  case round =>
    obtain ⟨k, k0, k1, rfl, rfl, hb⟩ := hrel
    clear hl0
    have HB0 := Lib.hid hb
    clear hb
    by_cases hlt : k < 160
    · have d160 : decide (k < 160) = true := decide_eq_true hlt
      have hgk : withinV (wrap64 (wrap64 ((len : Int) * 37) + k)) 4096 = g k := by rw [HG.out]
      have hm := backF_may HGB.out k
      have hn : (u (wordSy (backF g k)) == u (lastSy g k)) = false := by
        rw [beq_eq_false_iff_ne]
        exact fun h => lastSy_ne HGB.out k (u_inj.1 h)
      have hsh : (u (wordSy (backF g k)) / 1048576 != 0) = false := by rw [wordSy_div _ hm]; decide
      have HNX := Lib.hid (lastSy_next g k k0)
      have HW := Lib.hid (fun W => PW.out (backF g k) W)
      have HO := Lib.hid (fun W => PO.out (wordSy (backF g k)) W)
      rw [hm, if_pos rfl, if_pos rfl] at HW
      rw [isSy_word _ hm, if_pos rfl, ofSy_word _ hm] at HO
      have HF := Lib.hid (show backF g k = ⟨k % 5, k / 5 % 3, k / 15 % 4, k / 60 % 2 == 1, g k⟩ from rfl)
      clear hm
      generalize wordSy (backF g k) = wt at *
      generalize lastSy g k = ls at *
      go_wp2_with fail
      refine (within_any _ 4096 _ (by decide) (by decide)).mono ?_
      rintro e w1 ⟨rfl, rfl⟩
      rw [hgk]
      clear hgk
      go_upto_region 6 with fail
      rw [HF.out] at HW HO
      clear HF
      unfold fltV at HW HO
      simp only at HW HO
      generalize k % 5 = fk at *
      generalize k / 5 % 3 = fs at *
      generalize k / 15 % 4 = fl at *
      generalize (k / 60 % 2 == 1) = fw at *
      generalize g k = fp at *
      have heq : eqF ⟨fk, fs, fl, fw, fp⟩ ⟨fk, fs, fl, fw, fp⟩ = true := eqF_self _
      have X0 := Lib.hid (BoxAt.new wr #[.int .i64 fk, .int .i64 fs, .int .i64 fl, .bool fw, .int .i64 fp] 28)
      have B0 := Lib.hid (bel_alloc HB0.out (.cells #[.int .i64 fk, .int .i64 fs, .int .i64 fl, .bool fw, .int .i64 fp] 28))
      obtain ⟨W1, hW1⟩ : ∃ W1, W1 = wr.alloc (.cells #[.int .i64 fk, .int .i64 fs, .int .i64 fl, .bool fw, .int .i64 fp] 28) := ⟨_, rfl⟩
      obtain ⟨bX, hbX⟩ : ∃ bX, bX = wr.heap.size := ⟨_, rfl⟩
      rw [← hW1] at X0 B0 ⊢
      rw [← hbX] at X0 ⊢
      clear hW1 hbX HB0
      have x0 := X0.out.get 0 (.int .i64 fk) rfl
      have x1 := X0.out.get 1 (.int .i64 fs) rfl
      have x2 := X0.out.get 2 (.int .i64 fl) rfl
      have x3 := X0.out.get 3 (.bool fw) rfl
      have x4 := X0.out.get 4 (.int .i64 fp) rfl
      go_wp2_with fail
      refine (HW.out _).mono ?_
      rintro e w2 ⟨rfl, hb2⟩
      have X2 := Lib.hid (X0.out.below hb2)
      have B2 := Lib.hid (bel_trans B0.out hb2)
      clear X0 B0 hb2 x0 x1 x2 x3 x4
      go_wp2_with fail
      refine (HO.out _).mono ?_
      rintro e w3 ⟨rfl, hb3⟩
      have X3 := Lib.hid ((X2.out.below hb3).alloc (.cells #[.int .i64 fk, .int .i64 fs, .int .i64 fl, .bool fw, .int .i64 fp] 28))
      have Y3 := Lib.hid (BoxAt.new w3 #[.int .i64 fk, .int .i64 fs, .int .i64 fl, .bool fw, .int .i64 fp] 28)
      have B3 := Lib.hid (bel_alloc (bel_trans B2.out hb3) (.cells #[.int .i64 fk, .int .i64 fs, .int .i64 fl, .bool fw, .int .i64 fp] 28))
      clear X2 B2 hb3
      have x0 := X3.out.get 0 (.int .i64 fk) rfl
      have x1 := X3.out.get 1 (.int .i64 fs) rfl
      have x2 := X3.out.get 2 (.int .i64 fl) rfl
      have x3 := X3.out.get 3 (.bool fw) rfl
      have x4 := X3.out.get 4 (.int .i64 fp) rfl
      have y0 := Y3.out.get 0 (.int .i64 fk) rfl
      have y1 := Y3.out.get 1 (.int .i64 fs) rfl
      have y2 := Y3.out.get 2 (.int .i64 fl) rfl
      have y3 := Y3.out.get 3 (.bool fw) rfl
      have y4 := Y3.out.get 4 (.int .i64 fp) rfl
      go_wp2_with (first | (go_at_call 10; refine (lnum8_any _ _).mono ?_; rintro e w8 ⟨rfl, rfl⟩))
      go_roundw
      case rel => exact ⟨k + 1, by omega, by omega, by go_num, by rw [HNX.out], B3.out⟩
      case measure => simp [intOf]; omega
    · have d160 : decide (k < 160) = false := decide_eq_false hlt
      go_wp2_with (go_at_call 11; refine (HK.out _).mono ?_; rintro e w1 ⟨rfl, hb1⟩)
      go_ret
      exact ⟨rfl, bel_trans HB0.out hb1⟩
end Go.Proofs.Ytpelolokdmfbdaa
