/- Plain arithmetic: a uint64 as a bit vector; the operations of the walk on it. -/
import Derived.Test.YtbhnjaajkolklaaRows
import Derived.WalkKit
import Derived.Laws.BitsAllLaws
set_option linter.all false
namespace Go.Proofs.Ytbhnjaajkolklaa
open Go.RowKit

/-- A word as the number that the walk has. -/
def u (x : BitVec 64) : Int := (x.toNat : Int)

theorem u_lo (x : BitVec 64) : 0 ≤ u x := by unfold u; omega
theorem u_hi (x : BitVec 64) : u x < 18446744073709551616 := by unfold u; have := x.isLt; omega
theorem u_inj {x y : BitVec 64} : u x = u y ↔ x = y := by
  unfold u
  constructor
  · intro h; exact BitVec.eq_of_toNat_eq (by omega)
  · rintro rfl; rfl
theorem u_of (n : Int) (h0 : 0 ≤ n) (h1 : n < 18446744073709551616) : ∃ x : BitVec 64, n = u x := by
  refine ⟨BitVec.ofNat 64 n.toNat, ?_⟩
  unfold u
  rw [BitVec.toNat_ofNat, Nat.mod_eq_of_lt (by omega)]
  omega
@[go_sem] theorem u_and (x y : BitVec 64) : bits .and .u64 (u x) (u y) = u (x &&& y) := by
  unfold u; rw [u64_and_nat _ _ (by have := x.isLt; omega) (by have := y.isLt; omega)]; simp
@[go_sem] theorem u_or (x y : BitVec 64) : bits .or .u64 (u x) (u y) = u (x ||| y) := by
  unfold u; rw [u64_or_nat _ _ (by have := x.isLt; omega) (by have := y.isLt; omega)]; simp
@[go_sem] theorem u_xor (x y : BitVec 64) : bits .xor .u64 (u x) (u y) = u (x ^^^ y) := by
  unfold u; rw [u64_xor_nat _ _ (by have := x.isLt; omega) (by have := y.isLt; omega)]; simp
@[go_sem] theorem u_andNot (x y : BitVec 64) : bits .andNot .u64 (u x) (u y) = u (x &&& ~~~y) := by
  unfold u; rw [u64_andNot_nat _ _ (by have := x.isLt; omega) (by have := y.isLt; omega)]; simp
@[go_sem] theorem u_not (x : BitVec 64) : bits .xor .u64 (IntKind.u64.max) (u x) = u (~~~x) := by
  have : IntKind.u64.max = u (BitVec.allOnes 64) := by decide
  rw [this, u_xor, BitVec.allOnes_xor]
@[go_sem] theorem u_not' (x : BitVec 64) : bits .xor .u64 18446744073709551615 (u x) = u (~~~x) := by
  have : (18446744073709551615 : Int) = u (BitVec.allOnes 64) := by decide
  rw [this, u_xor, BitVec.allOnes_xor]
@[go_sem] theorem u_shl (x : BitVec 64) (k : Nat) : IntKind.u64.wrap (u x * 2 ^ k) = u (x <<< k) := by
  unfold u
  rw [IntKind.wrap_u64, BitVec.toNat_shiftLeft, Nat.shiftLeft_eq]
  have : (x.toNat : Int) * 2 ^ k = ((x.toNat * 2 ^ k : Nat) : Int) := by simp
  rw [this]
  generalize x.toNat * 2 ^ k = m
  omega
@[go_sem] theorem u_shr (x : BitVec 64) (k : Nat) : u x / 2 ^ k = u (x >>> k) := by
  unfold u
  rw [BitVec.toNat_ushiftRight, Nat.shiftRight_eq_div_pow]
  norm_cast
@[go_sem] theorem u_add (x y : BitVec 64) : IntKind.u64.wrap (u x + u y) = u (x + y) := by
  unfold u; rw [IntKind.wrap_u64, BitVec.toNat_add]; omega
@[go_sem] theorem u_mul (x y : BitVec 64) : IntKind.u64.wrap (u x * u y) = u (x * y) := by
  unfold u; rw [IntKind.wrap_u64, BitVec.toNat_mul]
  have : (x.toNat : Int) * y.toNat = ((x.toNat * y.toNat : Nat) : Int) := by simp
  rw [this]
  generalize x.toNat * y.toNat = m
  omega
@[go_sem] theorem u_sub (x y : BitVec 64) : IntKind.u64.wrap (u x - u y) = u (x - y) := by
  unfold u; rw [IntKind.wrap_u64, BitVec.toNat_sub]; have := x.isLt; have := y.isLt; omega
@[go_sem] theorem u_wrap (x : BitVec 64) : IntKind.u64.wrap (u x) = u x := by
  rw [IntKind.wrap_u64]; exact Int.emod_eq_of_lt (u_lo x) (u_hi x)
theorem u_beq (x y : BitVec 64) : (u x == u y) = decide (x = y) := by
  rw [Bool.eq_iff_iff]; simp [u_inj]
theorem u_bne (x y : BitVec 64) : (u x != u y) = decide (x ≠ y) := by
  rw [bne, u_beq]; simp
/-- The lowest n bits. -/
def msk (n : Int) : BitVec 64 := BitVec.allOnes 64 >>> (64 - n).toNat
theorem msk_ones (n : Int) : (18446744073709551615 : Int) / 2 ^ (64 - n).toNat = u (msk n) := by
  have : (18446744073709551615 : Int) = u (BitVec.allOnes 64) := by decide
  rw [this, u_shr]; rfl
end Go.Proofs.Ytbhnjaajkolklaa
