/- The reference's small functions that several layers use: Num, Page, bit, set, Get. -/
import Derived.Test.YtlflfpohglgopaaBx
set_option linter.all false
namespace Go.Proofs.Ytlflfpohglgopaa
open Go.ChangeShapes Go.WideShapes Go.ChangeAt Go.RowKit Go.Deep

theorem bit_any (p : Int) (b : Bool) (w : World) :
    Calls Try.prog 33 #[.int .i64 p, .bool b] w fun e w' => e = .returned (.agg #[.int .i64 p, .int .i64 1, .int .u64 (u (bitFl p b).v)]) ∧ Below w.heap.size w w' := by
  have h1 : u (bitFl p true).v = 1 := by show u 1#64 = 1; decide
  have h0 : u (bitFl p false).v = 0 := by show u 0#64 = 0; decide
  cases b
  · rw [h0]
    clear h1 h0
    go_enter Try.func33, Try.ntmps33
    go_wp2
    go_returns
    exact ⟨rfl, by go_grown⟩
  · rw [h1]
    clear h1 h0
    go_enter Try.func33, Try.ntmps33
    go_wp2
    go_returns
    exact ⟨rfl, by go_grown⟩
theorem set_any (v : BitVec 64) (p : Int) (w : World) (h0 : 0 ≤ p) (h1 : p ≤ 63) :
    Calls Try.prog 37 #[.int .u64 (u v), .int .i64 p] w fun e w' => e = .returned (.bool (flagW v p)) ∧ w = w' := by
  have hf : flagW v p = (u (v >>> p.toNat &&& 1#64) == 1) := (beq_int _ _).symm
  have hb : bits .and .u64 (u (v >>> p.toNat)) 1 = u (v >>> p.toNat &&& 1#64) := by rw [show (1 : Int) = u 1#64 from by decide, u_and]
  rw [hf]
  clear hf
  go_enter Try.func37, Try.ntmps37
  go_wp2
  go_ret
  exact ⟨rfl, rfl⟩
theorem rnumber_any (v : BitVec 64) (p m : Int) (w : World) (h0 : 0 ≤ p) (h2 : p ≤ 64) (h1 : 0 ≤ m) :
    Calls Try.prog 28 #[.int .u64 (u v), .int .i64 p, .int .i64 m] w fun e w' => e = .returned (.int .u64 (getN v p m)) ∧ Below w.heap.size w w' := by
  refine (rget_any v p m w h0 h2 h1).mono fun e w' h => ?_
  obtain ⟨he, j, hj⟩ := h
  exact ⟨he, by rw [hj]; exact below_drewN (Below.refl _ _) j⟩
theorem num_any (p m : Int) (w : World) :
    Calls Try.prog 25 #[.int .i64 p, .int .i64 m] w fun e w' => e = .returned (.bool (numB p m)) ∧ w = w' := by
  go_enter Try.func25, Try.ntmps25
  go_wp2
  all_goals
    go_ret
    refine ⟨ret_bool ?_, rfl⟩
    unfold numB
    rw [Bool.eq_iff_iff]
    simp
    omega
end Go.Proofs.Ytlflfpohglgopaa
