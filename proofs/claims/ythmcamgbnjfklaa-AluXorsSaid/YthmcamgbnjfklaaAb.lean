/- Stage 12: what is reckoned bit by bit is what is reckoned at once. -/
import Derived.Test.YthmcamgbnjfklaaAa
import Derived.Test.YthmcamgbnjfklaaIn
set_option linter.all false
namespace Go.Proofs.Ythmcamgbnjfklaa
open Go.ChangeShapes Go.WideShapes Go.ChangeAt Go.RowKit Go.Deep

def cN (b : Bool) : Int := if b then 1 else 0
theorem drewN_more (w : World) (m n : Nat) : (w.drewN m).drewN n = w.drewN (m + n) := by
  unfold World.drewN
  simp [Nat.add_assoc]
theorem or_zero64 (x : BitVec 64) : bits .or .u64 (u x) 0 = u x := by
  have h : (0 : Int) = u 0#64 := by decide
  rw [h, u_or, BitVec.or_zero]
theorem one_shl (k : Nat) : IntKind.u64.wrap (2 ^ k) = u (1#64 <<< k) := by
  have h := u_shl 1#64 k
  rw [show u 1#64 = 1 from by decide, Int.one_mul] at h
  exact h
set_option maxRecDepth 100000 in
set_option maxHeartbeats 3200000 in
theorem reck4_core (n m : BitVec 64) (i : Int) (w : World) :
    Calls Try.prog 22 #[.int .i64 4, .int .u64 (u n), .int .u64 (u m), .int .i64 i] w fun e w' => e = .returned (.int .u64 (u (n &&& m))) ∧ ∃ j, w' = w.drewN j := by
  obtain ⟨R, hR⟩ : ∃ R : BitVec 64, R = n &&& m := ⟨_, rfl⟩
  have HB := Lib.hid hR
  rw [← hR]
  clear hR
  have h0 : (0 : Int) = u (lowB R 0) := by rw [lowB_zero]; decide
  have HZ := Lib.hid h0
  clear h0
  go_enter Try.func22, Try.ntmps22
  go_wp2
  go_loopw [9, 10, 13] (fun s c i wr => ∃ (k j : Nat), k ≤ 64 ∧ s = .int .u64 (u (lowB R k)) ∧ c = .int .u64 (0) ∧ i = .int .i64 k ∧ wr = w.drewN j) (fun _ _ i _ => 64 - (intOf i).toNat)
  case atStart => exact ⟨0, 0, by decide, by rw [← HZ.out], by rfl, rfl, rfl⟩
  case round =>
    obtain ⟨k, j, hk, rfl, rfl, rfl, rfl⟩ := hrel
    by_cases hlt : k < 64
    · have i0 : (0 : Int) ≤ (k : Int) := by omega
      have i1 : decide ((k : Int) < 64) = true := decide_eq_true (by omega)
      have hs := one_shl k
      have hz := or_zero64 (lowB R k)
      cases hx : n.getLsbD k
      · cases hy : m.getLsbD k
        · have HN := Lib.hid (show lowB R (k + 1) = lowB R k ||| (if false then 1#64 else 0#64) <<< k from lowB_next R k hlt false (by rw [HB.out, BitVec.getLsbD_and, hx, hy]; rfl))
          have hxx := one_bit n k _ hx
          have hyy := one_bit m k _ hy
          simp only [if_true, if_false, Bool.false_eq_true] at hxx hyy
          clear hx hy
          go_wp2_with fail
          go_quiet (fail)
          go_wp2
          go_roundw
          case rel => exact ⟨k + 1, j + _, by omega, by first | (rw [HN.out]; simp) | (rw [HN.out]; rfl), by rfl, by go_num, by first | rfl | rw [drewN_more]⟩
          case measure => simp [intOf]; omega
        · have HN := Lib.hid (show lowB R (k + 1) = lowB R k ||| (if false then 1#64 else 0#64) <<< k from lowB_next R k hlt false (by rw [HB.out, BitVec.getLsbD_and, hx, hy]; rfl))
          have hxx := one_bit n k _ hx
          have hyy := one_bit m k _ hy
          simp only [if_true, if_false, Bool.false_eq_true] at hxx hyy
          clear hx hy
          go_wp2_with fail
          go_quiet (fail)
          go_wp2
          go_roundw
          case rel => exact ⟨k + 1, j + _, by omega, by first | (rw [HN.out]; simp) | (rw [HN.out]; rfl), by rfl, by go_num, by first | rfl | rw [drewN_more]⟩
          case measure => simp [intOf]; omega
      · cases hy : m.getLsbD k
        · have HN := Lib.hid (show lowB R (k + 1) = lowB R k ||| (if false then 1#64 else 0#64) <<< k from lowB_next R k hlt false (by rw [HB.out, BitVec.getLsbD_and, hx, hy]; rfl))
          have hxx := one_bit n k _ hx
          have hyy := one_bit m k _ hy
          simp only [if_true, if_false, Bool.false_eq_true] at hxx hyy
          clear hx hy
          go_wp2_with fail
          go_quiet (fail)
          go_wp2
          go_roundw
          case rel => exact ⟨k + 1, j + _, by omega, by first | (rw [HN.out]; simp) | (rw [HN.out]; rfl), by rfl, by go_num, by first | rfl | rw [drewN_more]⟩
          case measure => simp [intOf]; omega
        · have HN := Lib.hid (show lowB R (k + 1) = lowB R k ||| (if true then 1#64 else 0#64) <<< k from lowB_next R k hlt true (by rw [HB.out, BitVec.getLsbD_and, hx, hy]; rfl))
          have hxx := one_bit n k _ hx
          have hyy := one_bit m k _ hy
          simp only [if_true, if_false, Bool.false_eq_true] at hxx hyy
          clear hx hy
          go_wp2_with fail
          go_quiet (fail)
          go_wp2
          go_roundw
          case rel => exact ⟨k + 1, j + _, by omega, by first | (rw [HN.out]; simp) | (rw [HN.out]; rfl), by rfl, by go_num, by first | rfl | rw [drewN_more]⟩
          case measure => simp [intOf]; omega
    · obtain rfl : k = 64 := by omega
      have i1 : decide ((((64 : Nat) : Int)) < 64) = false := by decide
      rw [lowB_full]
      go_wp2
      go_ret
      exact ⟨rfl, j, rfl⟩
set_option maxRecDepth 100000 in
set_option maxHeartbeats 3200000 in
theorem reck5_core (n m : BitVec 64) (i : Int) (w : World) :
    Calls Try.prog 22 #[.int .i64 5, .int .u64 (u n), .int .u64 (u m), .int .i64 i] w fun e w' => e = .returned (.int .u64 (u (n ||| m))) ∧ ∃ j, w' = w.drewN j := by
  obtain ⟨R, hR⟩ : ∃ R : BitVec 64, R = n ||| m := ⟨_, rfl⟩
  have HB := Lib.hid hR
  rw [← hR]
  clear hR
  have h0 : (0 : Int) = u (lowB R 0) := by rw [lowB_zero]; decide
  have HZ := Lib.hid h0
  clear h0
  go_enter Try.func22, Try.ntmps22
  go_wp2
  go_loopw [9, 10, 13] (fun s c i wr => ∃ (k j : Nat), k ≤ 64 ∧ s = .int .u64 (u (lowB R k)) ∧ c = .int .u64 (0) ∧ i = .int .i64 k ∧ wr = w.drewN j) (fun _ _ i _ => 64 - (intOf i).toNat)
  case atStart => exact ⟨0, 0, by decide, by rw [← HZ.out], by rfl, rfl, rfl⟩
  case round =>
    obtain ⟨k, j, hk, rfl, rfl, rfl, rfl⟩ := hrel
    by_cases hlt : k < 64
    · have i0 : (0 : Int) ≤ (k : Int) := by omega
      have i1 : decide ((k : Int) < 64) = true := decide_eq_true (by omega)
      have hs := one_shl k
      have hz := or_zero64 (lowB R k)
      cases hx : n.getLsbD k
      · cases hy : m.getLsbD k
        · have HN := Lib.hid (show lowB R (k + 1) = lowB R k ||| (if false then 1#64 else 0#64) <<< k from lowB_next R k hlt false (by rw [HB.out, BitVec.getLsbD_or, hx, hy]; rfl))
          have hxx := one_bit n k _ hx
          have hyy := one_bit m k _ hy
          simp only [if_true, if_false, Bool.false_eq_true] at hxx hyy
          clear hx hy
          go_wp2_with fail
          go_quiet (fail)
          go_wp2
          go_roundw
          case rel => exact ⟨k + 1, j + _, by omega, by first | (rw [HN.out]; simp) | (rw [HN.out]; rfl), by rfl, by go_num, by first | rfl | rw [drewN_more]⟩
          case measure => simp [intOf]; omega
        · have HN := Lib.hid (show lowB R (k + 1) = lowB R k ||| (if true then 1#64 else 0#64) <<< k from lowB_next R k hlt true (by rw [HB.out, BitVec.getLsbD_or, hx, hy]; rfl))
          have hxx := one_bit n k _ hx
          have hyy := one_bit m k _ hy
          simp only [if_true, if_false, Bool.false_eq_true] at hxx hyy
          clear hx hy
          go_wp2_with fail
          go_quiet (fail)
          go_wp2
          go_roundw
          case rel => exact ⟨k + 1, j + _, by omega, by first | (rw [HN.out]; simp) | (rw [HN.out]; rfl), by rfl, by go_num, by first | rfl | rw [drewN_more]⟩
          case measure => simp [intOf]; omega
      · cases hy : m.getLsbD k
        · have HN := Lib.hid (show lowB R (k + 1) = lowB R k ||| (if true then 1#64 else 0#64) <<< k from lowB_next R k hlt true (by rw [HB.out, BitVec.getLsbD_or, hx, hy]; rfl))
          have hxx := one_bit n k _ hx
          have hyy := one_bit m k _ hy
          simp only [if_true, if_false, Bool.false_eq_true] at hxx hyy
          clear hx hy
          go_wp2_with fail
          go_quiet (fail)
          go_wp2
          go_roundw
          case rel => exact ⟨k + 1, j + _, by omega, by first | (rw [HN.out]; simp) | (rw [HN.out]; rfl), by rfl, by go_num, by first | rfl | rw [drewN_more]⟩
          case measure => simp [intOf]; omega
        · have HN := Lib.hid (show lowB R (k + 1) = lowB R k ||| (if true then 1#64 else 0#64) <<< k from lowB_next R k hlt true (by rw [HB.out, BitVec.getLsbD_or, hx, hy]; rfl))
          have hxx := one_bit n k _ hx
          have hyy := one_bit m k _ hy
          simp only [if_true, if_false, Bool.false_eq_true] at hxx hyy
          clear hx hy
          go_wp2_with fail
          go_quiet (fail)
          go_wp2
          go_roundw
          case rel => exact ⟨k + 1, j + _, by omega, by first | (rw [HN.out]; simp) | (rw [HN.out]; rfl), by rfl, by go_num, by first | rfl | rw [drewN_more]⟩
          case measure => simp [intOf]; omega
    · obtain rfl : k = 64 := by omega
      have i1 : decide ((((64 : Nat) : Int)) < 64) = false := by decide
      rw [lowB_full]
      go_wp2
      go_ret
      exact ⟨rfl, j, rfl⟩
set_option maxRecDepth 100000 in
set_option maxHeartbeats 3200000 in
theorem reck6_core (n m : BitVec 64) (i : Int) (w : World) :
    Calls Try.prog 22 #[.int .i64 6, .int .u64 (u n), .int .u64 (u m), .int .i64 i] w fun e w' => e = .returned (.int .u64 (u (n ^^^ m))) ∧ ∃ j, w' = w.drewN j := by
  obtain ⟨R, hR⟩ : ∃ R : BitVec 64, R = n ^^^ m := ⟨_, rfl⟩
  have HB := Lib.hid hR
  rw [← hR]
  clear hR
  have h0 : (0 : Int) = u (lowB R 0) := by rw [lowB_zero]; decide
  have HZ := Lib.hid h0
  clear h0
  go_enter Try.func22, Try.ntmps22
  go_wp2
  go_loopw [9, 10, 13] (fun s c i wr => ∃ (k j : Nat), k ≤ 64 ∧ s = .int .u64 (u (lowB R k)) ∧ c = .int .u64 (0) ∧ i = .int .i64 k ∧ wr = w.drewN j) (fun _ _ i _ => 64 - (intOf i).toNat)
  case atStart => exact ⟨0, 0, by decide, by rw [← HZ.out], by rfl, rfl, rfl⟩
  case round =>
    obtain ⟨k, j, hk, rfl, rfl, rfl, rfl⟩ := hrel
    by_cases hlt : k < 64
    · have i0 : (0 : Int) ≤ (k : Int) := by omega
      have i1 : decide ((k : Int) < 64) = true := decide_eq_true (by omega)
      have hs := one_shl k
      have hz := or_zero64 (lowB R k)
      cases hx : n.getLsbD k
      · cases hy : m.getLsbD k
        · have HN := Lib.hid (show lowB R (k + 1) = lowB R k ||| (if false then 1#64 else 0#64) <<< k from lowB_next R k hlt false (by rw [HB.out, BitVec.getLsbD_xor, hx, hy]; rfl))
          have hxx := one_bit n k _ hx
          have hyy := one_bit m k _ hy
          simp only [if_true, if_false, Bool.false_eq_true] at hxx hyy
          clear hx hy
          go_wp2_with fail
          go_quiet (fail)
          go_wp2
          go_roundw
          case rel => exact ⟨k + 1, j + _, by omega, by first | (rw [HN.out]; simp) | (rw [HN.out]; rfl), by rfl, by go_num, by first | rfl | rw [drewN_more]⟩
          case measure => simp [intOf]; omega
        · have HN := Lib.hid (show lowB R (k + 1) = lowB R k ||| (if true then 1#64 else 0#64) <<< k from lowB_next R k hlt true (by rw [HB.out, BitVec.getLsbD_xor, hx, hy]; rfl))
          have hxx := one_bit n k _ hx
          have hyy := one_bit m k _ hy
          simp only [if_true, if_false, Bool.false_eq_true] at hxx hyy
          clear hx hy
          go_wp2_with fail
          go_quiet (fail)
          go_wp2
          go_roundw
          case rel => exact ⟨k + 1, j + _, by omega, by first | (rw [HN.out]; simp) | (rw [HN.out]; rfl), by rfl, by go_num, by first | rfl | rw [drewN_more]⟩
          case measure => simp [intOf]; omega
      · cases hy : m.getLsbD k
        · have HN := Lib.hid (show lowB R (k + 1) = lowB R k ||| (if true then 1#64 else 0#64) <<< k from lowB_next R k hlt true (by rw [HB.out, BitVec.getLsbD_xor, hx, hy]; rfl))
          have hxx := one_bit n k _ hx
          have hyy := one_bit m k _ hy
          simp only [if_true, if_false, Bool.false_eq_true] at hxx hyy
          clear hx hy
          go_wp2_with fail
          go_quiet (fail)
          go_wp2
          go_roundw
          case rel => exact ⟨k + 1, j + _, by omega, by first | (rw [HN.out]; simp) | (rw [HN.out]; rfl), by rfl, by go_num, by first | rfl | rw [drewN_more]⟩
          case measure => simp [intOf]; omega
        · have HN := Lib.hid (show lowB R (k + 1) = lowB R k ||| (if false then 1#64 else 0#64) <<< k from lowB_next R k hlt false (by rw [HB.out, BitVec.getLsbD_xor, hx, hy]; rfl))
          have hxx := one_bit n k _ hx
          have hyy := one_bit m k _ hy
          simp only [if_true, if_false, Bool.false_eq_true] at hxx hyy
          clear hx hy
          go_wp2_with fail
          go_quiet (fail)
          go_wp2
          go_roundw
          case rel => exact ⟨k + 1, j + _, by omega, by first | (rw [HN.out]; simp) | (rw [HN.out]; rfl), by rfl, by go_num, by first | rfl | rw [drewN_more]⟩
          case measure => simp [intOf]; omega
    · obtain rfl : k = 64 := by omega
      have i1 : decide ((((64 : Nat) : Int)) < 64) = false := by decide
      rw [lowB_full]
      go_wp2
      go_ret
      exact ⟨rfl, j, rfl⟩
set_option maxRecDepth 100000 in
set_option maxHeartbeats 3200000 in
theorem reck2_core (n m : BitVec 64) (i : Int) (hrec : i ≠ 0 → ∀ W, Calls Try.prog 22 #[.int .i64 2, .int .u64 (u (n + m)), .int .u64 (u (immW i)), .int .i64 0] W fun e w' => e = .returned (.int .u64 (u (n + m + immW i))) ∧ ∃ j, w' = W.drewN j) (w : World) :
    Calls Try.prog 22 #[.int .i64 2, .int .u64 (u n), .int .u64 (u m), .int .i64 i] w fun e w' => e = .returned (.int .u64 (u (n + m + immW i))) ∧ ∃ j, w' = w.drewN j := by
  have HR := Lib.hid hrec
  clear hrec
  obtain ⟨R, hR⟩ : ∃ R : BitVec 64, R = sumB n m false := ⟨_, rfl⟩
  have HB := Lib.hid hR
  have HQ := Lib.hid (show R = n + m from by rw [hR]; exact sumB_add n m)
  clear hR
  have h0 : (0 : Int) = u (lowB R 0) := by rw [lowB_zero]; decide
  have HZ := Lib.hid h0
  clear h0
  go_enter Try.func22, Try.ntmps22
  go_wp2
  go_loopw [9, 10, 13] (fun s c i wr => ∃ (k j : Nat), k ≤ 64 ∧ s = .int .u64 (u (lowB R k)) ∧ c = .int .u64 (cN (cyB n m false k)) ∧ i = .int .i64 k ∧ wr = w.drewN j) (fun _ _ i _ => 64 - (intOf i).toNat)
  case atStart => exact ⟨0, 0, by decide, by rw [← HZ.out], by rw [cyB_zero]; rfl, rfl, rfl⟩
  case round =>
    obtain ⟨k, j, hk, rfl, rfl, rfl, rfl⟩ := hrel
    by_cases hlt : k < 64
    · have i0 : (0 : Int) ≤ (k : Int) := by omega
      have i1 : decide ((k : Int) < 64) = true := decide_eq_true (by omega)
      have hs := one_shl k
      have hz := or_zero64 (lowB R k)
      cases hx : n.getLsbD k
      · cases hy : m.getLsbD k
        · cases hc : cyB n m false k
          · have HN := Lib.hid (show lowB R (k + 1) = lowB R k ||| (if false then 1#64 else 0#64) <<< k from lowB_next R k hlt false (by rw [HB.out, sumB_bit _ _ _ k hlt, hx, hy, hc]; rfl))
            have HC := Lib.hid (show cyB n m false (k + 1) = false from by rw [cyB_next, hx, hy, hc]; rfl)
            rw [show cN false = 0 from rfl]
            have hxx := one_bit n k _ hx
            have hyy := one_bit m k _ hy
            simp only [if_true, if_false, Bool.false_eq_true] at hxx hyy
            clear hx hy hc
            go_wp2_with fail
            go_quiet (fail)
            go_wp2
            go_roundw
            case rel => exact ⟨k + 1, j + _, by omega, by first | (rw [HN.out]; simp) | (rw [HN.out]; rfl), by rw [HC.out]; rfl, by go_num, by first | rfl | rw [drewN_more]⟩
            case measure => simp [intOf]; omega
          · have HN := Lib.hid (show lowB R (k + 1) = lowB R k ||| (if true then 1#64 else 0#64) <<< k from lowB_next R k hlt true (by rw [HB.out, sumB_bit _ _ _ k hlt, hx, hy, hc]; rfl))
            have HC := Lib.hid (show cyB n m false (k + 1) = false from by rw [cyB_next, hx, hy, hc]; rfl)
            rw [show cN true = 1 from rfl]
            have hxx := one_bit n k _ hx
            have hyy := one_bit m k _ hy
            simp only [if_true, if_false, Bool.false_eq_true] at hxx hyy
            clear hx hy hc
            go_wp2_with fail
            go_quiet (fail)
            go_wp2
            go_roundw
            case rel => exact ⟨k + 1, j + _, by omega, by first | (rw [HN.out]; simp) | (rw [HN.out]; rfl), by rw [HC.out]; rfl, by go_num, by first | rfl | rw [drewN_more]⟩
            case measure => simp [intOf]; omega
        · cases hc : cyB n m false k
          · have HN := Lib.hid (show lowB R (k + 1) = lowB R k ||| (if true then 1#64 else 0#64) <<< k from lowB_next R k hlt true (by rw [HB.out, sumB_bit _ _ _ k hlt, hx, hy, hc]; rfl))
            have HC := Lib.hid (show cyB n m false (k + 1) = false from by rw [cyB_next, hx, hy, hc]; rfl)
            rw [show cN false = 0 from rfl]
            have hxx := one_bit n k _ hx
            have hyy := one_bit m k _ hy
            simp only [if_true, if_false, Bool.false_eq_true] at hxx hyy
            clear hx hy hc
            go_wp2_with fail
            go_quiet (fail)
            go_wp2
            go_roundw
            case rel => exact ⟨k + 1, j + _, by omega, by first | (rw [HN.out]; simp) | (rw [HN.out]; rfl), by rw [HC.out]; rfl, by go_num, by first | rfl | rw [drewN_more]⟩
            case measure => simp [intOf]; omega
          · have HN := Lib.hid (show lowB R (k + 1) = lowB R k ||| (if false then 1#64 else 0#64) <<< k from lowB_next R k hlt false (by rw [HB.out, sumB_bit _ _ _ k hlt, hx, hy, hc]; rfl))
            have HC := Lib.hid (show cyB n m false (k + 1) = true from by rw [cyB_next, hx, hy, hc]; rfl)
            rw [show cN true = 1 from rfl]
            have hxx := one_bit n k _ hx
            have hyy := one_bit m k _ hy
            simp only [if_true, if_false, Bool.false_eq_true] at hxx hyy
            clear hx hy hc
            go_wp2_with fail
            go_quiet (fail)
            go_wp2
            go_roundw
            case rel => exact ⟨k + 1, j + _, by omega, by first | (rw [HN.out]; simp) | (rw [HN.out]; rfl), by rw [HC.out]; rfl, by go_num, by first | rfl | rw [drewN_more]⟩
            case measure => simp [intOf]; omega
      · cases hy : m.getLsbD k
        · cases hc : cyB n m false k
          · have HN := Lib.hid (show lowB R (k + 1) = lowB R k ||| (if true then 1#64 else 0#64) <<< k from lowB_next R k hlt true (by rw [HB.out, sumB_bit _ _ _ k hlt, hx, hy, hc]; rfl))
            have HC := Lib.hid (show cyB n m false (k + 1) = false from by rw [cyB_next, hx, hy, hc]; rfl)
            rw [show cN false = 0 from rfl]
            have hxx := one_bit n k _ hx
            have hyy := one_bit m k _ hy
            simp only [if_true, if_false, Bool.false_eq_true] at hxx hyy
            clear hx hy hc
            go_wp2_with fail
            go_quiet (fail)
            go_wp2
            go_roundw
            case rel => exact ⟨k + 1, j + _, by omega, by first | (rw [HN.out]; simp) | (rw [HN.out]; rfl), by rw [HC.out]; rfl, by go_num, by first | rfl | rw [drewN_more]⟩
            case measure => simp [intOf]; omega
          · have HN := Lib.hid (show lowB R (k + 1) = lowB R k ||| (if false then 1#64 else 0#64) <<< k from lowB_next R k hlt false (by rw [HB.out, sumB_bit _ _ _ k hlt, hx, hy, hc]; rfl))
            have HC := Lib.hid (show cyB n m false (k + 1) = true from by rw [cyB_next, hx, hy, hc]; rfl)
            rw [show cN true = 1 from rfl]
            have hxx := one_bit n k _ hx
            have hyy := one_bit m k _ hy
            simp only [if_true, if_false, Bool.false_eq_true] at hxx hyy
            clear hx hy hc
            go_wp2_with fail
            go_quiet (fail)
            go_wp2
            go_roundw
            case rel => exact ⟨k + 1, j + _, by omega, by first | (rw [HN.out]; simp) | (rw [HN.out]; rfl), by rw [HC.out]; rfl, by go_num, by first | rfl | rw [drewN_more]⟩
            case measure => simp [intOf]; omega
        · cases hc : cyB n m false k
          · have HN := Lib.hid (show lowB R (k + 1) = lowB R k ||| (if false then 1#64 else 0#64) <<< k from lowB_next R k hlt false (by rw [HB.out, sumB_bit _ _ _ k hlt, hx, hy, hc]; rfl))
            have HC := Lib.hid (show cyB n m false (k + 1) = true from by rw [cyB_next, hx, hy, hc]; rfl)
            rw [show cN false = 0 from rfl]
            have hxx := one_bit n k _ hx
            have hyy := one_bit m k _ hy
            simp only [if_true, if_false, Bool.false_eq_true] at hxx hyy
            clear hx hy hc
            go_wp2_with fail
            go_quiet (fail)
            go_wp2
            go_roundw
            case rel => exact ⟨k + 1, j + _, by omega, by first | (rw [HN.out]; simp) | (rw [HN.out]; rfl), by rw [HC.out]; rfl, by go_num, by first | rfl | rw [drewN_more]⟩
            case measure => simp [intOf]; omega
          · have HN := Lib.hid (show lowB R (k + 1) = lowB R k ||| (if true then 1#64 else 0#64) <<< k from lowB_next R k hlt true (by rw [HB.out, sumB_bit _ _ _ k hlt, hx, hy, hc]; rfl))
            have HC := Lib.hid (show cyB n m false (k + 1) = true from by rw [cyB_next, hx, hy, hc]; rfl)
            rw [show cN true = 1 from rfl]
            have hxx := one_bit n k _ hx
            have hyy := one_bit m k _ hy
            simp only [if_true, if_false, Bool.false_eq_true] at hxx hyy
            clear hx hy hc
            go_wp2_with fail
            go_quiet (fail)
            go_wp2
            go_roundw
            case rel => exact ⟨k + 1, j + _, by omega, by first | (rw [HN.out]; simp) | (rw [HN.out]; rfl), by rw [HC.out]; rfl, by go_num, by first | rfl | rw [drewN_more]⟩
            case measure => simp [intOf]; omega
    · obtain rfl : k = 64 := by omega
      have i1 : decide ((((64 : Nat) : Int)) < 64) = false := by decide
      rw [lowB_full]
      have HQ := HQ.out
      subst HQ
      by_cases hi : i = 0
      · subst hi
        have hq : n + m + immW 0 = n + m := by unfold immW; simp
        have HE := Lib.hid hq
        clear hq
        go_wp2
        go_ret
        exact ⟨ret_int (by rw [HE.out]), j, rfl⟩
      · have H := Lib.hid (HR.out hi)
        have hne : (i != 0) = true := by simp [hi]
        have hcv : IntKind.u64.wrap i = u (immW i) := by unfold immW u; rw [BitVec.toNat_ofInt, IntKind.wrap_u64]; have := Int.emod_nonneg i (show (18446744073709551616 : Int) ≠ 0 from by decide); show i % 18446744073709551616 = ((i % 18446744073709551616).toNat : Int); omega
        go_wp2_with fail
        refine (H.out _).mono ?_
        rintro e w' ⟨rfl, j2, rfl⟩
        go_wp2
        go_ret
        exact ⟨rfl, _, by first | rfl | rw [drewN_more]⟩
set_option maxRecDepth 100000 in
set_option maxHeartbeats 3200000 in
theorem reck3_core (n m : BitVec 64) (i : Int) (hrec : i ≠ 0 → ∀ W, Calls Try.prog 22 #[.int .i64 3, .int .u64 (u (n - m)), .int .u64 (u (immW i)), .int .i64 0] W fun e w' => e = .returned (.int .u64 (u (n - m - immW i))) ∧ ∃ j, w' = W.drewN j) (w : World) :
    Calls Try.prog 22 #[.int .i64 3, .int .u64 (u n), .int .u64 (u m), .int .i64 i] w fun e w' => e = .returned (.int .u64 (u (n - m - immW i))) ∧ ∃ j, w' = w.drewN j := by
  have HR := Lib.hid hrec
  clear hrec
  obtain ⟨R, hR⟩ : ∃ R : BitVec 64, R = sumB n (~~~m) true := ⟨_, rfl⟩
  have HB := Lib.hid hR
  have HQ := Lib.hid (show R = n - m from by rw [hR]; exact sumB_sub n m)
  clear hR
  have h0 : (0 : Int) = u (lowB R 0) := by rw [lowB_zero]; decide
  have HZ := Lib.hid h0
  clear h0
  go_enter Try.func22, Try.ntmps22
  go_wp2
  go_loopw [9, 10, 13] (fun s c i wr => ∃ (k j : Nat), k ≤ 64 ∧ s = .int .u64 (u (lowB R k)) ∧ c = .int .u64 (cN (cyB n (~~~m) true k)) ∧ i = .int .i64 k ∧ wr = w.drewN j) (fun _ _ i _ => 64 - (intOf i).toNat)
  case atStart => exact ⟨0, 0, by decide, by rw [← HZ.out], by rw [cyB_zero]; rfl, rfl, rfl⟩
  case round =>
    obtain ⟨k, j, hk, rfl, rfl, rfl, rfl⟩ := hrel
    by_cases hlt : k < 64
    · have i0 : (0 : Int) ≤ (k : Int) := by omega
      have i1 : decide ((k : Int) < 64) = true := decide_eq_true (by omega)
      have hs := one_shl k
      have hz := or_zero64 (lowB R k)
      cases hx : n.getLsbD k
      · cases hy : ((~~~m)).getLsbD k
        · cases hc : cyB n (~~~m) true k
          · have HN := Lib.hid (show lowB R (k + 1) = lowB R k ||| (if false then 1#64 else 0#64) <<< k from lowB_next R k hlt false (by rw [HB.out, sumB_bit _ _ _ k hlt, hx, hy, hc]; rfl))
            have HC := Lib.hid (show cyB n (~~~m) true (k + 1) = false from by rw [cyB_next, hx, hy, hc]; rfl)
            rw [show cN false = 0 from rfl]
            have hxx := one_bit n k _ hx
            have hyy := one_bit (~~~m) k _ hy
            simp only [if_true, if_false, Bool.false_eq_true] at hxx hyy
            clear hx hy hc
            go_wp2_with fail
            go_quiet (fail)
            go_wp2
            go_roundw
            case rel => exact ⟨k + 1, j + _, by omega, by first | (rw [HN.out]; simp) | (rw [HN.out]; rfl), by rw [HC.out]; rfl, by go_num, by first | rfl | rw [drewN_more]⟩
            case measure => simp [intOf]; omega
          · have HN := Lib.hid (show lowB R (k + 1) = lowB R k ||| (if true then 1#64 else 0#64) <<< k from lowB_next R k hlt true (by rw [HB.out, sumB_bit _ _ _ k hlt, hx, hy, hc]; rfl))
            have HC := Lib.hid (show cyB n (~~~m) true (k + 1) = false from by rw [cyB_next, hx, hy, hc]; rfl)
            rw [show cN true = 1 from rfl]
            have hxx := one_bit n k _ hx
            have hyy := one_bit (~~~m) k _ hy
            simp only [if_true, if_false, Bool.false_eq_true] at hxx hyy
            clear hx hy hc
            go_wp2_with fail
            go_quiet (fail)
            go_wp2
            go_roundw
            case rel => exact ⟨k + 1, j + _, by omega, by first | (rw [HN.out]; simp) | (rw [HN.out]; rfl), by rw [HC.out]; rfl, by go_num, by first | rfl | rw [drewN_more]⟩
            case measure => simp [intOf]; omega
        · cases hc : cyB n (~~~m) true k
          · have HN := Lib.hid (show lowB R (k + 1) = lowB R k ||| (if true then 1#64 else 0#64) <<< k from lowB_next R k hlt true (by rw [HB.out, sumB_bit _ _ _ k hlt, hx, hy, hc]; rfl))
            have HC := Lib.hid (show cyB n (~~~m) true (k + 1) = false from by rw [cyB_next, hx, hy, hc]; rfl)
            rw [show cN false = 0 from rfl]
            have hxx := one_bit n k _ hx
            have hyy := one_bit (~~~m) k _ hy
            simp only [if_true, if_false, Bool.false_eq_true] at hxx hyy
            clear hx hy hc
            go_wp2_with fail
            go_quiet (fail)
            go_wp2
            go_roundw
            case rel => exact ⟨k + 1, j + _, by omega, by first | (rw [HN.out]; simp) | (rw [HN.out]; rfl), by rw [HC.out]; rfl, by go_num, by first | rfl | rw [drewN_more]⟩
            case measure => simp [intOf]; omega
          · have HN := Lib.hid (show lowB R (k + 1) = lowB R k ||| (if false then 1#64 else 0#64) <<< k from lowB_next R k hlt false (by rw [HB.out, sumB_bit _ _ _ k hlt, hx, hy, hc]; rfl))
            have HC := Lib.hid (show cyB n (~~~m) true (k + 1) = true from by rw [cyB_next, hx, hy, hc]; rfl)
            rw [show cN true = 1 from rfl]
            have hxx := one_bit n k _ hx
            have hyy := one_bit (~~~m) k _ hy
            simp only [if_true, if_false, Bool.false_eq_true] at hxx hyy
            clear hx hy hc
            go_wp2_with fail
            go_quiet (fail)
            go_wp2
            go_roundw
            case rel => exact ⟨k + 1, j + _, by omega, by first | (rw [HN.out]; simp) | (rw [HN.out]; rfl), by rw [HC.out]; rfl, by go_num, by first | rfl | rw [drewN_more]⟩
            case measure => simp [intOf]; omega
      · cases hy : ((~~~m)).getLsbD k
        · cases hc : cyB n (~~~m) true k
          · have HN := Lib.hid (show lowB R (k + 1) = lowB R k ||| (if true then 1#64 else 0#64) <<< k from lowB_next R k hlt true (by rw [HB.out, sumB_bit _ _ _ k hlt, hx, hy, hc]; rfl))
            have HC := Lib.hid (show cyB n (~~~m) true (k + 1) = false from by rw [cyB_next, hx, hy, hc]; rfl)
            rw [show cN false = 0 from rfl]
            have hxx := one_bit n k _ hx
            have hyy := one_bit (~~~m) k _ hy
            simp only [if_true, if_false, Bool.false_eq_true] at hxx hyy
            clear hx hy hc
            go_wp2_with fail
            go_quiet (fail)
            go_wp2
            go_roundw
            case rel => exact ⟨k + 1, j + _, by omega, by first | (rw [HN.out]; simp) | (rw [HN.out]; rfl), by rw [HC.out]; rfl, by go_num, by first | rfl | rw [drewN_more]⟩
            case measure => simp [intOf]; omega
          · have HN := Lib.hid (show lowB R (k + 1) = lowB R k ||| (if false then 1#64 else 0#64) <<< k from lowB_next R k hlt false (by rw [HB.out, sumB_bit _ _ _ k hlt, hx, hy, hc]; rfl))
            have HC := Lib.hid (show cyB n (~~~m) true (k + 1) = true from by rw [cyB_next, hx, hy, hc]; rfl)
            rw [show cN true = 1 from rfl]
            have hxx := one_bit n k _ hx
            have hyy := one_bit (~~~m) k _ hy
            simp only [if_true, if_false, Bool.false_eq_true] at hxx hyy
            clear hx hy hc
            go_wp2_with fail
            go_quiet (fail)
            go_wp2
            go_roundw
            case rel => exact ⟨k + 1, j + _, by omega, by first | (rw [HN.out]; simp) | (rw [HN.out]; rfl), by rw [HC.out]; rfl, by go_num, by first | rfl | rw [drewN_more]⟩
            case measure => simp [intOf]; omega
        · cases hc : cyB n (~~~m) true k
          · have HN := Lib.hid (show lowB R (k + 1) = lowB R k ||| (if false then 1#64 else 0#64) <<< k from lowB_next R k hlt false (by rw [HB.out, sumB_bit _ _ _ k hlt, hx, hy, hc]; rfl))
            have HC := Lib.hid (show cyB n (~~~m) true (k + 1) = true from by rw [cyB_next, hx, hy, hc]; rfl)
            rw [show cN false = 0 from rfl]
            have hxx := one_bit n k _ hx
            have hyy := one_bit (~~~m) k _ hy
            simp only [if_true, if_false, Bool.false_eq_true] at hxx hyy
            clear hx hy hc
            go_wp2_with fail
            go_quiet (fail)
            go_wp2
            go_roundw
            case rel => exact ⟨k + 1, j + _, by omega, by first | (rw [HN.out]; simp) | (rw [HN.out]; rfl), by rw [HC.out]; rfl, by go_num, by first | rfl | rw [drewN_more]⟩
            case measure => simp [intOf]; omega
          · have HN := Lib.hid (show lowB R (k + 1) = lowB R k ||| (if true then 1#64 else 0#64) <<< k from lowB_next R k hlt true (by rw [HB.out, sumB_bit _ _ _ k hlt, hx, hy, hc]; rfl))
            have HC := Lib.hid (show cyB n (~~~m) true (k + 1) = true from by rw [cyB_next, hx, hy, hc]; rfl)
            rw [show cN true = 1 from rfl]
            have hxx := one_bit n k _ hx
            have hyy := one_bit (~~~m) k _ hy
            simp only [if_true, if_false, Bool.false_eq_true] at hxx hyy
            clear hx hy hc
            go_wp2_with fail
            go_quiet (fail)
            go_wp2
            go_roundw
            case rel => exact ⟨k + 1, j + _, by omega, by first | (rw [HN.out]; simp) | (rw [HN.out]; rfl), by rw [HC.out]; rfl, by go_num, by first | rfl | rw [drewN_more]⟩
            case measure => simp [intOf]; omega
    · obtain rfl : k = 64 := by omega
      have i1 : decide ((((64 : Nat) : Int)) < 64) = false := by decide
      rw [lowB_full]
      have HQ := HQ.out
      subst HQ
      by_cases hi : i = 0
      · subst hi
        have hq : n - m - immW 0 = n - m := by unfold immW; simp
        have HE := Lib.hid hq
        clear hq
        go_wp2
        go_ret
        exact ⟨ret_int (by rw [HE.out]), j, rfl⟩
      · have H := Lib.hid (HR.out hi)
        have hne : (i != 0) = true := by simp [hi]
        have hcv : IntKind.u64.wrap i = u (immW i) := by unfold immW u; rw [BitVec.toNat_ofInt, IntKind.wrap_u64]; have := Int.emod_nonneg i (show (18446744073709551616 : Int) ≠ 0 from by decide); show i % 18446744073709551616 = ((i % 18446744073709551616).toNat : Int); omega
        go_wp2_with fail
        refine (H.out _).mono ?_
        rintro e w' ⟨rfl, j2, rfl⟩
        go_wp2
        go_ret
        exact ⟨rfl, _, by first | rfl | rw [drewN_more]⟩
theorem reck_move (n m : BitVec 64) (i : Int) (w : World) :
    Calls Try.prog 22 #[.int .i64 1, .int .u64 (u n), .int .u64 (u m), .int .i64 i] w fun e w' => e = .returned (.int .u64 (u (immW i))) ∧ ∃ j, w' = w.drewN j := by
  have hcv : IntKind.u64.wrap i = u (immW i) := u_conv i
  go_enter Try.func22, Try.ntmps22
  go_wp2
  go_ret
  exact ⟨rfl, 0, rfl⟩
theorem reck_any (op : Int) (n m : BitVec 64) (i : Int) (h1 : 1 ≤ op) (h6 : op ≤ 6) (w : World) :
    Calls Try.prog 22 #[.int .i64 op, .int .u64 (u n), .int .u64 (u m), .int .i64 i] w fun e w' => e = .returned (.int .u64 (u (doI op i n m))) ∧ ∃ j, w' = w.drewN j := by
  have hop : op = 1 ∨ op = 2 ∨ op = 3 ∨ op = 4 ∨ op = 5 ∨ op = 6 := by omega
  rcases hop with rfl | rfl | rfl | rfl | rfl | rfl
  · exact reck_move n m i w
  · refine reck2_core n m i (fun _ W => ?_) w
    have h := reck2_core (n + m) (immW i) 0 (fun h => absurd rfl h) W
    rwa [show n + m + immW i + immW 0 = n + m + immW i from by unfold immW; simp] at h
  · refine reck3_core n m i (fun _ W => ?_) w
    have h := reck3_core (n - m) (immW i) 0 (fun h => absurd rfl h) W
    rwa [show n - m - immW i - immW 0 = n - m - immW i from by unfold immW; simp] at h
  · exact reck4_core n m i w
  · exact reck5_core n m i w
  · exact reck6_core n m i w
end Go.Proofs.Ythmcamgbnjfklaa
