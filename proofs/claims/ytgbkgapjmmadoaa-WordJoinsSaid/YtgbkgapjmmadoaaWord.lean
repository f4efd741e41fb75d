/- Contracts of the small functions of package word and of its reference. -/
import Derived.Test.YtgbkgapjmmadoaaBits
import Derived.ProofKit
import Derived.OpenShut
import Derived.Outline
import Derived.Handy
import Derived.Deep.QuietTactic
import Derived.BigQuiet
import Derived.Deep.RegionHeld3
import Derived.Lib.Hide
import Derived.WalkLawsBesides
import Derived.WalkSpells
namespace Go.Proofs.Ytgbkgapjmmadoaa
open Go.ChangeShapes Go.WideShapes Go.ChangeAt Go.RowKit

/-- May a place be? -/
def okB (a n : Int) : Bool := decide (0 ≤ a ∧ 1 ≤ n ∧ a + n ≤ 64)
theorem okB_true {a n : Int} (h : okB a n = true) : 0 ≤ a ∧ 1 ≤ n ∧ a + n ≤ 64 := of_decide_eq_true h
theorem okB_false {a n : Int} (h : okB a n = false) : ¬ (0 ≤ a ∧ 1 ≤ n ∧ a + n ≤ 64) := of_decide_eq_false h
theorem ret_bool {a b : Bool} (h : a = b) : Ending.returned (.bool a) = .returned (.bool b) := by rw [h]
theorem ret_int {k : IntKind} {a b : Int} (h : a = b) : Ending.returned (.int k a) = .returned (.int k b) := by rw [h]

theorem mask_any (n : Int) (w : World) (h0 : 0 ≤ n) :
    Calls Try.prog 22 #[.int .i64 n] w fun e w' => e = .returned (.int .u64 (u (msk n))) ∧ w = w' := by
  by_cases h : 64 ≤ n
  · go_enter Try.func22, Try.ntmps22
    go_wp2
    go_ret
    refine ⟨ret_int ?_, rfl⟩
    rw [msk_all n h]; decide
  · go_enter Try.func22, Try.ntmps22
    go_wp2
    go_ret
    exact ⟨ret_int (msk_ref n h0 (by omega)), rfl⟩

theorem fits_any (a n : Int) (w : World) :
    Calls Try.prog 25 #[.int .i64 a, .int .i64 n] w fun e w' => e = .returned (.bool (okB a n)) ∧ w = w' := by
  go_enter Try.func25, Try.ntmps25
  go_wp2
  all_goals
    go_ret
    refine ⟨ret_bool ?_, rfl⟩
    unfold okB
    rw [Bool.eq_iff_iff]
    simp
    omega

theorem mayBe_any (a n : Int) (w : World) (hn : n ≤ 9223372036854775807) :
    Calls Try.prog 23 #[.agg #[.int .i64 a, .int .i64 n]] w fun e w' => e = .returned (.bool (okB a n)) ∧ w' = w.alloc (.cells #[.int .i64 a, .int .i64 n] 49) := by
  go_enter Try.func23, Try.ntmps23
  go_wp2
  all_goals
    go_ret
    refine ⟨ret_bool ?_, rfl⟩
    unfold okB
    rw [Bool.eq_iff_iff]
    simp
    omega

theorem ones_any (a n : Int) (w : World) (h0 : 1 ≤ n) (h1 : n ≤ 64) :
    Calls Try.prog 24 #[.agg #[.int .i64 a, .int .i64 n]] w fun e w' => e = .returned (.int .u64 (u (msk n))) ∧ w' = w.alloc (.cells #[.int .i64 a, .int .i64 n] 49) := by
  go_enter Try.func24, Try.ntmps24
  go_wp2
  go_ret
  exact ⟨ret_int (msk_ones n), rfl⟩

theorem below_drewN {B : Nat} {a w : World} (h : Below B a w) (n : Nat) : Below B a (w.drewN n) := ⟨h.os, h.tape, h.output, h.size, h.block⟩

theorem bel_alloc {a w : World} (h : Below a.heap.size a w) (o : Obj) : Below a.heap.size a (w.alloc o) := h.alloc h.size o
theorem bel_trans {a w w' : World} (h : Below a.heap.size a w) (k : Below w.heap.size w w') : Below a.heap.size a w' := h.trans (k.mono h.size)

theorem get_yes (v : BitVec 64) (a n : Int) (w : World) (h : okB a n = true) :
    Calls Try.prog 7 #[.int .u64 (u v), .int .i64 a, .int .i64 n] w fun e w' => e = .returned (.tuple #[.int .u64 (u (v >>> a.toNat &&& msk n)), .int .i64 0]) ∧ w' = (((w.alloc (.cells #[.int .i64 a, .int .i64 n] 49)).alloc (.cells #[.int .i64 a, .int .i64 n] 49)).alloc (.cells #[.int .i64 a, .int .i64 n] 49)).drew := by
  obtain ⟨h0, h1, h2⟩ := okB_true h
  go_enter Try.func7, Try.ntmps7
  go_wp2_with (go_at_call 23; refine (mayBe_any _ _ _ (by omega)).mono ?_; rintro e w' ⟨rfl, rfl⟩)
  go_region_held3 (fun w' => w'.cell? ⟨w.heap.size, 0, none⟩ = some (.int .i64 a) ∧ w'.cell? ⟨w.heap.size, 1, none⟩ = some (.int .i64 n)) (go_keep)
    (first | (go_at_call 24; refine (ones_any _ _ _ h1 (by omega)).mono ?_; rintro e w' ⟨rfl, rfl⟩))
  go_wp2
  go_ret2
  exact ⟨rfl, rfl⟩

theorem get_no (v : BitVec 64) (a n : Int) (w : World) (hn : n ≤ 9223372036854775807) (h : okB a n = false) :
    Calls Try.prog 7 #[.int .u64 (u v), .int .i64 a, .int .i64 n] w fun e w' => e = .returned (.tuple #[.int .u64 0, .int .i64 1]) ∧ w' = (w.alloc (.cells #[.int .i64 a, .int .i64 n] 49)).alloc (.cells #[.int .i64 a, .int .i64 n] 49) := by
  go_enter Try.func7, Try.ntmps7
  go_wp2_with (go_at_call 23; refine (mayBe_any _ _ _ hn).mono ?_; rintro e w' ⟨rfl, rfl⟩)
  go_ret2
  exact ⟨rfl, rfl⟩

theorem rget_any (v : BitVec 64) (a n : Int) (w : World) (h0 : 0 ≤ a) (h2 : a ≤ 64) (h1 : 0 ≤ n) :
    Calls Try.prog 9 #[.int .u64 (u v), .int .i64 a, .int .i64 n] w fun e w' => e = .returned (.int .u64 (u (v >>> a.toNat &&& msk n))) ∧ ∃ m, w' = w.drewN m := by
  go_enter Try.func9, Try.ntmps9
  go_wp2
  go_quiet ((go_at_call 22; exact Calls.quiet_of_same ((mask_any _ _ h1).mono fun _ _ ⟨a, b⟩ => ⟨a, b.symm⟩)))
  go_wp2
  go_ret
  exact ⟨rfl, _, rfl⟩

theorem num_any (n : Int) (w : World) :
    Calls Try.prog 10 #[.int .i64 n] w fun e w' => e = .returned (.int .i64 n) ∧ w = w' := by
  go_enter Try.func10, Try.ntmps10
  go_wp2
  go_ret
  exact ⟨rfl, rfl⟩

theorem fairly_any (a n : Int) (w : World) :
    Calls Try.prog 8 #[.int .i64 a, .int .i64 n] w fun e w' => e = .returned (.bool (okB a n)) ∧ w = w' := by
  go_enter Try.func8, Try.ntmps8
  go_wp2_with (go_at_call 25; refine (fits_any _ _ _).mono ?_; rintro e w' ⟨rfl, rfl⟩)
  go_ret
  exact ⟨rfl, rfl⟩

/-- The number that the lowest n bits are, with a sign. -/
def sgn (v : BitVec 64) (n : Int) : BitVec 64 := (v <<< (64 - n).toNat).sshiftRight (64 - n).toNat

theorem sign_yes (v : BitVec 64) (n : Int) (w : World) (h : okB 0 n = true) :
    Calls Try.prog 11 #[.int .u64 (u v), .int .i64 n] w fun e w' => e = .returned (.tuple #[.int .u64 (u (sgn v n)), .int .i64 0]) ∧ w' = (w.alloc (.cells #[.int .i64 0, .int .i64 n] 49)).alloc (.cells #[.int .i64 0, .int .i64 n] 49) := by
  obtain ⟨h0, h1, h2⟩ := okB_true h
  go_enter Try.func11, Try.ntmps11
  go_wp2_with (go_at_call 23; refine (mayBe_any _ _ _ (by omega)).mono ?_; rintro e w' ⟨rfl, rfl⟩)
  go_ret2
  refine ⟨?_, rfl⟩
  have e : IntKind.u64.wrap (wrap64 (u (v <<< (64 - n).toNat)) / 2 ^ (64 - n).toNat) = u (sgn v n) := u_sar _ _
  rw [← e]
  rfl

theorem sign_no (v : BitVec 64) (n : Int) (w : World) (hn : n ≤ 9223372036854775807) (h : okB 0 n = false) :
    Calls Try.prog 11 #[.int .u64 (u v), .int .i64 n] w fun e w' => e = .returned (.tuple #[.int .u64 0, .int .i64 1]) ∧ w' = (w.alloc (.cells #[.int .i64 0, .int .i64 n] 49)).alloc (.cells #[.int .i64 0, .int .i64 n] 49) := by
  go_enter Try.func11, Try.ntmps11
  go_wp2_with (go_at_call 23; refine (mayBe_any _ _ _ hn).mono ?_; rintro e w' ⟨rfl, rfl⟩)
  go_ret2
  exact ⟨rfl, rfl⟩

theorem shr_one (v : BitVec 64) (n : Int) (h1 : 1 ≤ n) (h2 : n ≤ 64) : ((v &&& msk n) >>> (n.toNat - 1) = 1#64) ↔ v.getLsbD (n.toNat - 1) = true := by
  constructor
  · intro h
    have := congrArg (fun x : BitVec 64 => x.getLsbD 0) h
    simp only [BitVec.getLsbD_ushiftRight, BitVec.getLsbD_and] at this
    rw [msk_bit n _ (by omega) h2] at this
    simp at this
    exact this.1
  · intro h
    apply BitVec.eq_of_getLsbD_eq
    intro i hi
    rw [BitVec.getLsbD_ushiftRight, BitVec.getLsbD_and, msk_bit n _ (by omega) h2]
    by_cases h0 : i = 0
    · subst h0; simp [h]; omega
    · have : ¬ (n.toNat - 1 + i < n.toNat) := by omega
      simp [this, h0]

theorem sgn_bit (v : BitVec 64) (n : Int) (h1 : 1 ≤ n) (h2 : n ≤ 64) (i : Nat) (hi : i < 64) :
    (sgn v n).getLsbD i = if i < n.toNat then v.getLsbD i else v.getLsbD (n.toNat - 1) := by
  unfold sgn
  rw [BitVec.getLsbD_sshiftRight, BitVec.msb_eq_getLsbD_last, BitVec.getLsbD_shiftLeft, BitVec.getLsbD_shiftLeft]
  have e1 : (64 - n).toNat = 64 - n.toNat := by omega
  have e2 : 1 ≤ n.toNat ∧ n.toNat ≤ 64 := by omega
  rw [e1]
  generalize n.toNat = m at e2 ⊢
  obtain ⟨e2, e3⟩ := e2
  by_cases h : i < m
  · rw [if_pos (by omega), if_pos h, show 64 - m + i - (64 - m) = i from by omega, decide_eq_true (show 64 - m + i < 64 from by omega), decide_eq_false (show ¬ 64 - m + i < 64 - m from by omega), decide_eq_false (show ¬ 64 ≤ i from by omega)]
    simp
  · rw [if_neg (by omega), if_neg h, show 64 - 1 - (64 - m) = m - 1 from by omega, decide_eq_true (show 64 - 1 < 64 from by omega), decide_eq_false (show ¬ 64 - 1 < 64 - m from by omega), decide_eq_false (show ¬ 64 ≤ i from by omega)]
    simp

theorem sgn_yes (v : BitVec 64) (n : Int) (h1 : 1 ≤ n) (h2 : n ≤ 64) (h : v.getLsbD (n.toNat - 1) = true) : sgn v n = (v &&& msk n) ||| ~~~ (msk n) := by
  apply BitVec.eq_of_getLsbD_eq
  intro i hi
  rw [sgn_bit v n h1 h2 i hi, BitVec.getLsbD_or, BitVec.getLsbD_and, BitVec.getLsbD_not, msk_bit n _ (by omega) h2]
  by_cases k : i < n.toNat <;> simp [k, h, hi]

theorem sgn_no (v : BitVec 64) (n : Int) (h1 : 1 ≤ n) (h2 : n ≤ 64) (h : v.getLsbD (n.toNat - 1) = false) : sgn v n = v &&& msk n := by
  apply BitVec.eq_of_getLsbD_eq
  intro i hi
  rw [sgn_bit v n h1 h2 i hi, BitVec.getLsbD_and, msk_bit n _ (by omega) h2]
  by_cases k : i < n.toNat <;> simp [k, h]

theorem rsign_any (v : BitVec 64) (n : Int) (w : World) (h : okB 0 n = true) :
    Calls Try.prog 12 #[.int .u64 (u v), .int .i64 n] w fun e w' => e = .returned (.int .u64 (u (sgn v n))) ∧ w = w' := by
  obtain ⟨h0, h1, h2⟩ := okB_true h
  by_cases hb : v.getLsbD (n.toNat - 1) = true
  · have ht : (u ((v &&& msk n) >>> (n.toNat - 1)) == 1) = true := by
      rw [(shr_one v n h1 (by omega)).2 hb]; decide
    go_enter Try.func12, Try.ntmps12
    go_wp2_with (go_at_call 22; refine (mask_any _ _ (by omega)).mono ?_; rintro e w' ⟨rfl, rfl⟩)
    go_ret
    rw [sgn_yes v n h1 (by omega) hb]
    exact ⟨rfl, rfl⟩
  · have ht : (u ((v &&& msk n) >>> (n.toNat - 1)) == 1) = false := by
      have := mt (shr_one v n h1 (by omega)).1 hb
      rw [show (1 : Int) = u 1#64 from by decide, u_beq]
      simpa using this
    go_enter Try.func12, Try.ntmps12
    go_wp2_with (go_at_call 22; refine (mask_any _ _ (by omega)).mono ?_; rintro e w' ⟨rfl, rfl⟩)
    go_ret
    rw [sgn_no v n h1 (by omega) (by simpa using hb)]
    exact ⟨rfl, rfl⟩

theorem wakes_any (w : World) :
    Calls Try.prog 13 #[] w fun e w' => e = .returned (.bool true) ∧ Below w.heap.size w w' := by
  have hg := get_yes 240#64 4 4 w (by decide)
  rw [show u (240#64 >>> (4 : Int).toNat &&& msk 4) = 15 from by decide, show u 240#64 = 240 from by decide] at hg
  have H := Lib.hid hg
  clear hg
  go_enter Try.func13, Try.ntmps13
  go_wp2_with fail
  refine H.out.mono ?_
  rintro e w' ⟨rfl, rfl⟩
  go_wp2
  go_ret
  exact ⟨rfl, by go_grown⟩
end Go.Proofs.Ytgbkgapjmmadoaa
