/- '==' of hits, faults and attributes. -/
import Derived.Test.YtalbblaicmdhmaaGreatWs
import Derived.Test.YtalbblaicmdhmaaGreatOpen
import Derived.Laws.StructEq
set_option linter.all false
namespace Go.Proofs.YtalbblaicmdhmaaGreat
open Go.ChangeShapes Go.WideShapes Go.ChangeAt Go.RowKit Go.Deep

theorem eq_hit (f m : Int) (r wr x a n : Bool) (s l : Int) (f' m' : Int) (r' wr' x' a' n' : Bool) (s' l' : Int) (w : World) :
    (Op.equalIn 10000 40 (.agg #[.int .i64 f, .int .i64 m, .bool r, .bool wr, .bool x, .bool a, .bool n, .int .i64 s, .int .i64 l]) (.agg #[.int .i64 f', .int .i64 m', .bool r', .bool wr', .bool x', .bool a', .bool n', .int .i64 s', .int .i64 l'])).run Tryz.prog w = .ok (eqH ⟨f, m, ⟨r, wr, x, a, n, s⟩, l⟩ ⟨f', m', ⟨r', wr', x', a', n', s'⟩, l'⟩) w := by
  rw [run_equalIn_agg w 9999 _ _ _ (by kernel_rfl) (by kernel_rfl)]
  simp only [Program.fieldsOf, Tryz.underlying40]
  simp [go_sem, eqH]
  by_cases h0 : f = f'
  rotate_left
  · simp [h0]
  by_cases h1 : m = m'
  rotate_left
  · simp [h0, h1]
  by_cases h2 : r = r'
  rotate_left
  · simp [h0, h1, h2]
  by_cases h3 : wr = wr'
  rotate_left
  · simp [h0, h1, h2, h3]
  by_cases h4 : x = x'
  rotate_left
  · simp [h0, h1, h2, h3, h4]
  by_cases h5 : a = a'
  rotate_left
  · simp [h0, h1, h2, h3, h4, h5]
  by_cases h6 : n = n'
  rotate_left
  · simp [h0, h1, h2, h3, h4, h5, h6]
  by_cases h7 : s = s'
  rotate_left
  · simp [h0, h1, h2, h3, h4, h5, h6, h7]
  by_cases h8 : l = l'
  rotate_left
  · simp [h0, h1, h2, h3, h4, h5, h6, h7, h8]
  simp [h0, h1, h2, h3, h4, h5, h6, h7, h8]
@[go_sem high] theorem eql_hit (f m : Int) (r wr x a n : Bool) (s l : Int) (f' m' : Int) (r' wr' x' a' n' : Bool) (s' l' : Int) (w : World) :
    (binOp .eql 40 (.agg #[.int .i64 f, .int .i64 m, .bool r, .bool wr, .bool x, .bool a, .bool n, .int .i64 s, .int .i64 l]) (.agg #[.int .i64 f', .int .i64 m', .bool r', .bool wr', .bool x', .bool a', .bool n', .int .i64 s', .int .i64 l'])).run Tryz.prog w = .ok (.bool (eqH ⟨f, m, ⟨r, wr, x, a, n, s⟩, l⟩ ⟨f', m', ⟨r', wr', x', a', n', s'⟩, l'⟩)) w := by
  rw [run_eql_struct, eq_hit]; rfl
@[go_sem high] theorem neq_hit (f m : Int) (r wr x a n : Bool) (s l : Int) (f' m' : Int) (r' wr' x' a' n' : Bool) (s' l' : Int) (w : World) :
    (binOp .neq 40 (.agg #[.int .i64 f, .int .i64 m, .bool r, .bool wr, .bool x, .bool a, .bool n, .int .i64 s, .int .i64 l]) (.agg #[.int .i64 f', .int .i64 m', .bool r', .bool wr', .bool x', .bool a', .bool n', .int .i64 s', .int .i64 l'])).run Tryz.prog w = .ok (.bool (!eqH ⟨f, m, ⟨r, wr, x, a, n, s⟩, l⟩ ⟨f', m', ⟨r', wr', x', a', n', s'⟩, l'⟩)) w := by
  rw [run_neq_struct, eq_hit]; rfl
theorem eq_flt (k st lv : Int) (wk : Bool) (p : Int) (k' st' lv' : Int) (wk' : Bool) (p' : Int) (w : World) :
    (Op.equalIn 10000 42 (.agg #[.int .i64 k, .int .i64 st, .int .i64 lv, .bool wk, .int .i64 p]) (.agg #[.int .i64 k', .int .i64 st', .int .i64 lv', .bool wk', .int .i64 p'])).run Tryz.prog w = .ok (eqF ⟨k, st, lv, wk, p⟩ ⟨k', st', lv', wk', p'⟩) w := by
  rw [run_equalIn_agg w 9999 _ _ _ (by kernel_rfl) (by kernel_rfl)]
  simp only [Program.fieldsOf, Tryz.underlying42]
  simp [go_sem, eqF]
  by_cases h0 : k = k'
  rotate_left
  · simp [h0]
  by_cases h1 : st = st'
  rotate_left
  · simp [h0, h1]
  by_cases h2 : lv = lv'
  rotate_left
  · simp [h0, h1, h2]
  by_cases h3 : wk = wk'
  rotate_left
  · simp [h0, h1, h2, h3]
  by_cases h4 : p = p'
  rotate_left
  · simp [h0, h1, h2, h3, h4]
  simp [h0, h1, h2, h3, h4]
@[go_sem high] theorem eql_flt (k st lv : Int) (wk : Bool) (p : Int) (k' st' lv' : Int) (wk' : Bool) (p' : Int) (w : World) :
    (binOp .eql 42 (.agg #[.int .i64 k, .int .i64 st, .int .i64 lv, .bool wk, .int .i64 p]) (.agg #[.int .i64 k', .int .i64 st', .int .i64 lv', .bool wk', .int .i64 p'])).run Tryz.prog w = .ok (.bool (eqF ⟨k, st, lv, wk, p⟩ ⟨k', st', lv', wk', p'⟩)) w := by
  rw [run_eql_struct, eq_flt]; rfl
@[go_sem high] theorem neq_flt (k st lv : Int) (wk : Bool) (p : Int) (k' st' lv' : Int) (wk' : Bool) (p' : Int) (w : World) :
    (binOp .neq 42 (.agg #[.int .i64 k, .int .i64 st, .int .i64 lv, .bool wk, .int .i64 p]) (.agg #[.int .i64 k', .int .i64 st', .int .i64 lv', .bool wk', .int .i64 p'])).run Tryz.prog w = .ok (.bool (!eqF ⟨k, st, lv, wk, p⟩ ⟨k', st', lv', wk', p'⟩)) w := by
  rw [run_neq_struct, eq_flt]; rfl
theorem eq_atr (r wr x a n : Bool) (s : Int) (r' wr' x' a' n' : Bool) (s' : Int) (w : World) :
    (Op.equalIn 10000 38 (.agg #[.bool r, .bool wr, .bool x, .bool a, .bool n, .int .i64 s]) (.agg #[.bool r', .bool wr', .bool x', .bool a', .bool n', .int .i64 s'])).run Tryz.prog w = .ok (eqA ⟨r, wr, x, a, n, s⟩ ⟨r', wr', x', a', n', s'⟩) w := by
  rw [run_equalIn_agg w 9999 _ _ _ (by kernel_rfl) (by kernel_rfl)]
  simp only [Program.fieldsOf, Tryz.underlying38]
  simp [go_sem, eqA]
  by_cases h0 : r = r'
  rotate_left
  · simp [h0]
  by_cases h1 : wr = wr'
  rotate_left
  · simp [h0, h1]
  by_cases h2 : x = x'
  rotate_left
  · simp [h0, h1, h2]
  by_cases h3 : a = a'
  rotate_left
  · simp [h0, h1, h2, h3]
  by_cases h4 : n = n'
  rotate_left
  · simp [h0, h1, h2, h3, h4]
  by_cases h5 : s = s'
  rotate_left
  · simp [h0, h1, h2, h3, h4, h5]
  simp [h0, h1, h2, h3, h4, h5]
@[go_sem high] theorem eql_atr (r wr x a n : Bool) (s : Int) (r' wr' x' a' n' : Bool) (s' : Int) (w : World) :
    (binOp .eql 38 (.agg #[.bool r, .bool wr, .bool x, .bool a, .bool n, .int .i64 s]) (.agg #[.bool r', .bool wr', .bool x', .bool a', .bool n', .int .i64 s'])).run Tryz.prog w = .ok (.bool (eqA ⟨r, wr, x, a, n, s⟩ ⟨r', wr', x', a', n', s'⟩)) w := by
  rw [run_eql_struct, eq_atr]; rfl
@[go_sem high] theorem neq_atr (r wr x a n : Bool) (s : Int) (r' wr' x' a' n' : Bool) (s' : Int) (w : World) :
    (binOp .neq 38 (.agg #[.bool r, .bool wr, .bool x, .bool a, .bool n, .int .i64 s]) (.agg #[.bool r', .bool wr', .bool x', .bool a', .bool n', .int .i64 s'])).run Tryz.prog w = .ok (.bool (!eqA ⟨r, wr, x, a, n, s⟩ ⟨r', wr', x', a', n', s'⟩)) w := by
  rw [run_neq_struct, eq_atr]; rfl
end Go.Proofs.YtalbblaicmdhmaaGreat
