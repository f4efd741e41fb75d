/- Contracts of the references' small functions on words (bulwarkref1) that later stages use too. -/
import Derived.Test.YtpnkhijbfnnggaaBits
import Derived.Test.YtpnkhijbfnnggaaOpen
import Derived.ProofKit
import Derived.OpenShut
import Derived.Outline
import Derived.Handy
import Derived.Deep.QuietTactic
import Derived.BigQuiet
import Derived.Deep.RegionHeld3
import Derived.Lib.Hide
import Derived.WalkLawsBesides
import Derived.WalkSpells
namespace Go.Proofs.Ytpnkhijbfnnggaa
open Go.ChangeShapes Go.WideShapes Go.ChangeAt Go.RowKit

theorem ret_bool {a b : Bool} (h : a = b) : Ending.returned (.bool a) = .returned (.bool b) := by rw [h]
theorem ret_int {k : IntKind} {a b : Int} (h : a = b) : Ending.returned (.int k a) = .returned (.int k b) := by rw [h]
theorem below_drewN {B : Nat} {a w : World} (h : Below B a w) (n : Nat) : Below B a (w.drewN n) := ⟨h.os, h.tape, h.output, h.size, h.block⟩
theorem bel_alloc {a w : World} (h : Below a.heap.size a w) (o : Obj) : Below a.heap.size a (w.alloc o) := h.alloc h.size o
theorem bel_trans {a w w' : World} (h : Below a.heap.size a w) (k : Below w.heap.size w w') : Below a.heap.size a w' := h.trans (k.mono h.size)
theorem keepc {w w' : World} (hb : Below w.heap.size w w') {b o : Nat} {x : Value} (hc : w.cell? ⟨b, o, none⟩ = some x) : w'.cell? ⟨b, o, none⟩ = some x :=
  (hb.cell (p := ⟨b, o, none⟩) (cell_block hc)).trans hc

theorem mask_any (n : Int) (w : World) (h0 : 0 ≤ n) :
    Calls Try.prog 49 #[.int .i64 n] w fun e w' => e = .returned (.int .u64 (u (msk n))) ∧ w = w' := by
  by_cases h : 64 ≤ n
  · go_enter Try.func49, Try.ntmps49
    go_wp2
    go_ret
    refine ⟨ret_int ?_, rfl⟩
    rw [msk_all n h]; decide
  · go_enter Try.func49, Try.ntmps49
    go_wp2
    go_ret
    exact ⟨ret_int (msk_ref n h0 (by omega)), rfl⟩
theorem mask_same (n : Int) (w : World) (h0 : 0 ≤ n) :
    Calls Try.prog 49 #[.int .i64 n] w fun e w' => e = .returned (.int .u64 (u (msk n))) ∧ w' = w :=
  (mask_any n w h0).mono fun _ _ ⟨a, b⟩ => ⟨a, b.symm⟩

theorem rget_any (v : BitVec 64) (a n : Int) (w : World) (h0 : 0 ≤ a) (h2 : a ≤ 64) (h1 : 0 ≤ n) :
    Calls Try.prog 42 #[.int .u64 (u v), .int .i64 a, .int .i64 n] w fun e w' => e = .returned (.int .u64 (u (v >>> a.toNat &&& msk n))) ∧ ∃ m, w' = w.drewN m := by
  go_enter Try.func42, Try.ntmps42
  go_wp2
  go_quiet ((go_at_call 49; exact Calls.quiet_of_same (mask_same _ _ h1)))
  go_wp2
  go_ret
  exact ⟨rfl, _, rfl⟩

/-- A number within a bound, out of any. -/
def withinV (x n : Int) : Int := x % 18446744073709551616 % n
theorem within_lo (x n : Int) (h : 1 ≤ n) : 0 ≤ withinV x n := Int.emod_nonneg _ (by omega)
theorem within_hi (x n : Int) (h : 1 ≤ n) : withinV x n < n := Int.emod_lt_of_pos _ (by omega)
theorem within_any (x n : Int) (w : World) (h0 : 1 ≤ n) (h1 : n ≤ 9223372036854775807) :
    Calls Try.prog 17 #[.int .i64 x, .int .i64 n] w fun e w' => e = .returned (.int .i64 (withinV x n)) ∧ w = w' := by
  go_enter Try.func17, Try.ntmps17
  go_wp2
  go_ret
  refine ⟨ret_int ?_, rfl⟩
  have e : (IntKind.u64.wrap x).tmod n = withinV x n := by
    rw [IntKind.wrap_u64]
    exact Int.tmod_eq_emod_of_nonneg (Int.emod_nonneg _ (by omega))
  have l := within_lo x n h0
  have k := within_hi x n h0
  rw [e]
  exact IntWalk.wrap64_in _ ⟨by omega, by omega⟩
end Go.Proofs.Ytpnkhijbfnnggaa
