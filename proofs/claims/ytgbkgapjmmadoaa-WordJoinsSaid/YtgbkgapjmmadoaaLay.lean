/- Contracts of the functions of package word that lay fields. -/
import Derived.Test.YtgbkgapjmmadoaaAsks
import Derived.LoopTactic
import Derived.Deep.RegionWith
namespace Go.Proofs.Ytgbkgapjmmadoaa
open Go.ChangeShapes Go.WideShapes Go.ChangeAt Go.RowKit

/-- A field. -/
structure Fld where
  a : Int
  n : Int
  v : BitVec 64
deriving Inhabited

def okF (x : Fld) : Bool := okB x.a x.n && decide (u x.v ≤ u (msk x.n))
def mskF (x : Fld) : BitVec 64 := msk x.n <<< x.a.toNat
def bitF (x : Fld) : BitVec 64 := x.v <<< x.a.toNat

theorem msk_nat (n : Int) (h0 : 0 ≤ n) (h1 : n ≤ 64) : (msk n).toNat = 2 ^ n.toNat - 1 := by
  have : ∀ k : Fin 65, (BitVec.allOnes 64 >>> (64 - (k : Nat))).toNat = 2 ^ (k : Nat) - 1 := by decide +kernel
  have := this ⟨n.toNat, by omega⟩
  simp only at this
  unfold msk
  rw [show (64 - n).toNat = 64 - n.toNat from by omega]
  exact this

/-- A number that has room. -/
theorem room_iff (v : BitVec 64) (n : Int) (h0 : 0 ≤ n) (h1 : n ≤ 64) : (v &&& ~~~ (msk n) = 0#64) ↔ u v ≤ u (msk n) := by
  have hp : 0 < 2 ^ n.toNat := Nat.pow_pos (by omega)
  have e : (u v ≤ u (msk n)) ↔ v.toNat < 2 ^ n.toNat := by
    unfold u
    rw [msk_nat n h0 h1]
    omega
  rw [e]
  constructor
  · intro h
    apply Nat.lt_pow_two_of_testBit
    intro i hi
    by_cases hi64 : i < 64
    · have hb := congrArg (fun x : BitVec 64 => x.getLsbD i) h
      simp only [BitVec.getLsbD_and, BitVec.getLsbD_not, BitVec.getLsbD_zero] at hb
      rw [msk_bit n i h0 h1, decide_eq_false (show ¬ i < n.toNat from by omega), decide_eq_true hi64] at hb
      have hb' : v.getLsbD i = false := by simpa using hb
      exact hb'
    · exact BitVec.getLsbD_of_ge v i (by omega)
  · intro h
    apply BitVec.eq_of_getLsbD_eq
    intro i hi
    rw [BitVec.getLsbD_and, BitVec.getLsbD_not, msk_bit n i h0 h1, BitVec.getLsbD_zero]
    by_cases hk : i < n.toNat
    · simp [hk]
    · have : v.getLsbD i = false := Nat.testBit_lt_two_pow (Nat.lt_of_lt_of_le h (Nat.pow_le_pow_right (by omega) (by omega)))
      rw [this]; rfl

theorem room_beq (v : BitVec 64) (n : Int) (h0 : 0 ≤ n) (h1 : n ≤ 64) : (u (v &&& ~~~ (msk n)) == 0) = decide (u v ≤ u (msk n)) := by
  rw [show (0 : Int) = u 0#64 from by decide, u_beq]
  exact decide_eq_decide.2 (room_iff v n h0 h1)

theorem fieldOf_any (a n : Int) (v : BitVec 64) (w : World) :
    Calls Try.prog 27 #[.agg #[.int .i64 a, .int .i64 n, .int .u64 (u v)]] w fun e w' => e = .returned (.agg #[.int .i64 a, .int .i64 n, .int .u64 (u v)]) ∧
      w' = (w.alloc (.cells #[.int .i64 a, .int .i64 n, .int .u64 (u v)] 39)).alloc (.cells #[.int .i64 a, .int .i64 n, .int .u64 (u v)] 55) := by
  go_enter Try.func27, Try.ntmps27
  go_wp2
  go_returns
  exact ⟨rfl, rfl⟩

theorem smask_any (a n : Int) (w : World) (h0 : 0 ≤ a) (h1 : 1 ≤ n) (h2 : a + n ≤ 64) :
    Calls Try.prog 29 #[.agg #[.int .i64 a, .int .i64 n]] w fun e w' => e = .returned (.int .u64 (u (msk n <<< a.toNat))) ∧
      w' = ((w.alloc (.cells #[.int .i64 a, .int .i64 n] 49)).alloc (.cells #[.int .i64 a, .int .i64 n] 49)).drew := by
  go_enter Try.func29, Try.ntmps29
  go_wp2
  go_region_held3 (fun w' => w'.cell? ⟨w.heap.size, 0, none⟩ = some (.int .i64 a) ∧ w'.cell? ⟨w.heap.size, 1, none⟩ = some (.int .i64 n)) (go_keep)
    (first | (go_at_call 24; refine (ones_any _ _ _ h1 (by omega)).mono ?_; rintro e w' ⟨rfl, rfl⟩))
  go_wp2
  go_ret
  exact ⟨rfl, rfl⟩

theorem fbits_any (a n : Int) (v : BitVec 64) (w : World) (h0 : 0 ≤ a) (h2 : a ≤ 63) :
    Calls Try.prog 30 #[.agg #[.int .i64 a, .int .i64 n, .int .u64 (u v)]] w fun e w' => e = .returned (.int .u64 (u (v <<< a.toNat))) ∧
      w' = w.alloc (.cells #[.int .i64 a, .int .i64 n, .int .u64 (u v)] 55) := by
  go_enter Try.func30, Try.ntmps30
  go_wp2
  go_ret
  exact ⟨rfl, rfl⟩

theorem fmayBe_yes (a n : Int) (v : BitVec 64) (w : World) (h : okB a n = true) :
    Calls Try.prog 28 #[.agg #[.int .i64 a, .int .i64 n, .int .u64 (u v)]] w fun e w' => e = .returned (.bool (okF ⟨a, n, v⟩)) ∧ Below w.heap.size w w' := by
  obtain ⟨h0, h1, h2⟩ := okB_true h
  go_enter Try.func28, Try.ntmps28
  go_wp2
  go_region_held3 (fun w' => w'.cell? ⟨w.heap.size, 0, none⟩ = some (.int .i64 a) ∧ w'.cell? ⟨w.heap.size, 1, none⟩ = some (.int .i64 n) ∧ w'.cell? ⟨w.heap.size, 2, none⟩ = some (.int .u64 (u v))) (go_keep)
    (first | (go_at_call 24; refine (ones_any _ _ _ h1 (by omega)).mono ?_; rintro e w' ⟨rfl, rfl⟩) | (go_at_call 23; refine (mayBe_any _ _ _ (by omega)).mono ?_; rintro e w' ⟨rfl, rfl⟩))
  go_wp2
  go_ret
  refine ⟨ret_bool ?_, by go_grown⟩
  unfold okF
  rw [h]; rfl

theorem fmayBe_no (a n : Int) (v : BitVec 64) (w : World) (hn : n ≤ 9223372036854775807) (h : okB a n = false) :
    Calls Try.prog 28 #[.agg #[.int .i64 a, .int .i64 n, .int .u64 (u v)]] w fun e w' => e = .returned (.bool (okF ⟨a, n, v⟩)) ∧ Below w.heap.size w w' := by
  go_enter Try.func28, Try.ntmps28
  go_wp2
  first | (go_region_with (first
      | (go_at_call 23; refine (mayBe_any _ _ _ hn).mono ?_; rintro e w' ⟨rfl, rfl⟩))) | skip
  all_goals
    go_wp2
    go_ret
    refine ⟨ret_bool ?_, by go_grown⟩
    unfold okF
    rw [h]; rfl
end Go.Proofs.Ytgbkgapjmmadoaa
