/- '==' of hits, faults and attributes. -/
import Derived.Test.YtjohnpbfdpmajaaWs
import Derived.Test.YtjohnpbfdpmajaaOpen
import Derived.Laws.StructEq
set_option linter.all false
namespace Go.Proofs.Ytjohnpbfdpmajaa
open Go.ChangeShapes Go.WideShapes Go.ChangeAt Go.RowKit Go.Deep

theorem eq_atr (r wr x a n : Bool) (s : Int) (r' wr' x' a' n' : Bool) (s' : Int) (w : World) :
    (Op.equalIn 10000 34 (.agg #[.bool r, .bool wr, .bool x, .bool a, .bool n, .int .i64 s]) (.agg #[.bool r', .bool wr', .bool x', .bool a', .bool n', .int .i64 s'])).run Try.prog w = .ok (eqA ⟨r, wr, x, a, n, s⟩ ⟨r', wr', x', a', n', s'⟩) w := by
  rw [run_equalIn_agg w 9999 _ _ _ (by kernel_rfl) (by kernel_rfl)]
  simp only [Program.fieldsOf, Try.underlying34]
  simp [go_sem, eqA]
  by_cases h0 : r = r'
  rotate_left
  · simp [h0]
  by_cases h1 : wr = wr'
  rotate_left
  · simp [h0, h1]
  by_cases h2 : x = x'
  rotate_left
  · simp [h0, h1, h2]
  by_cases h3 : a = a'
  rotate_left
  · simp [h0, h1, h2, h3]
  by_cases h4 : n = n'
  rotate_left
  · simp [h0, h1, h2, h3, h4]
  by_cases h5 : s = s'
  rotate_left
  · simp [h0, h1, h2, h3, h4, h5]
  simp [h0, h1, h2, h3, h4, h5]
@[go_sem high] theorem eql_atr (r wr x a n : Bool) (s : Int) (r' wr' x' a' n' : Bool) (s' : Int) (w : World) :
    (binOp .eql 34 (.agg #[.bool r, .bool wr, .bool x, .bool a, .bool n, .int .i64 s]) (.agg #[.bool r', .bool wr', .bool x', .bool a', .bool n', .int .i64 s'])).run Try.prog w = .ok (.bool (eqA ⟨r, wr, x, a, n, s⟩ ⟨r', wr', x', a', n', s'⟩)) w := by
  rw [run_eql_struct, eq_atr]; rfl
@[go_sem high] theorem neq_atr (r wr x a n : Bool) (s : Int) (r' wr' x' a' n' : Bool) (s' : Int) (w : World) :
    (binOp .neq 34 (.agg #[.bool r, .bool wr, .bool x, .bool a, .bool n, .int .i64 s]) (.agg #[.bool r', .bool wr', .bool x', .bool a', .bool n', .int .i64 s'])).run Try.prog w = .ok (.bool (!eqA ⟨r, wr, x, a, n, s⟩ ⟨r', wr', x', a', n', s'⟩)) w := by
  rw [run_neq_struct, eq_atr]; rfl
end Go.Proofs.Ytjohnpbfdpmajaa
