/- '==' of hits, faults and attributes. -/
import Derived.Test.YtpelolokdmfbdaaWs
import Derived.Test.YtpelolokdmfbdaaOpen
import Derived.Laws.StructEq
namespace Go.Proofs.Ytpelolokdmfbdaa
open Go.ChangeShapes Go.WideShapes Go.ChangeAt Go.RowKit Go.Deep

theorem eq_flt (k st lv : Int) (wk : Bool) (p : Int) (k' st' lv' : Int) (wk' : Bool) (p' : Int) (w : World) :
    (Op.equalIn 10000 28 (.agg #[.int .i64 k, .int .i64 st, .int .i64 lv, .bool wk, .int .i64 p]) (.agg #[.int .i64 k', .int .i64 st', .int .i64 lv', .bool wk', .int .i64 p'])).run Try.prog w = .ok (eqF ⟨k, st, lv, wk, p⟩ ⟨k', st', lv', wk', p'⟩) w := by
  rw [run_equalIn_agg w 9999 _ _ _ (by kernel_rfl) (by kernel_rfl)]
  simp only [Program.fieldsOf, Try.underlying28]
  simp [go_sem, eqF]
  by_cases h0 : k = k'
  rotate_left
  · simp [h0]
  by_cases h1 : st = st'
  rotate_left
  · simp [h0, h1]
  by_cases h2 : lv = lv'
  rotate_left
  · simp [h0, h1, h2]
  by_cases h3 : wk = wk'
  rotate_left
  · simp [h0, h1, h2, h3]
  by_cases h4 : p = p'
  rotate_left
  · simp [h0, h1, h2, h3, h4]
  simp [h0, h1, h2, h3, h4]
@[go_sem high] theorem eql_flt (k st lv : Int) (wk : Bool) (p : Int) (k' st' lv' : Int) (wk' : Bool) (p' : Int) (w : World) :
    (binOp .eql 28 (.agg #[.int .i64 k, .int .i64 st, .int .i64 lv, .bool wk, .int .i64 p]) (.agg #[.int .i64 k', .int .i64 st', .int .i64 lv', .bool wk', .int .i64 p'])).run Try.prog w = .ok (.bool (eqF ⟨k, st, lv, wk, p⟩ ⟨k', st', lv', wk', p'⟩)) w := by
  rw [run_eql_struct, eq_flt]; rfl
@[go_sem high] theorem neq_flt (k st lv : Int) (wk : Bool) (p : Int) (k' st' lv' : Int) (wk' : Bool) (p' : Int) (w : World) :
    (binOp .neq 28 (.agg #[.int .i64 k, .int .i64 st, .int .i64 lv, .bool wk, .int .i64 p]) (.agg #[.int .i64 k', .int .i64 st', .int .i64 lv', .bool wk', .int .i64 p'])).run Try.prog w = .ok (.bool (!eqF ⟨k, st, lv, wk, p⟩ ⟨k', st', lv', wk', p'⟩)) w := by
  rw [run_neq_struct, eq_flt]; rfl
end Go.Proofs.Ytpelolokdmfbdaa
