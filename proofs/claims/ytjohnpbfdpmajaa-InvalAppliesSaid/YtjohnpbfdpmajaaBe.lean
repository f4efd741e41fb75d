/- '==' of entries and of what takes them away. -/
import Derived.Test.YtjohnpbfdpmajaaBa
import Derived.Test.YtjohnpbfdpmajaaOpen
import Derived.Laws.StructEq
set_option linter.all false
namespace Go.Proofs.Ytjohnpbfdpmajaa
open Go.ChangeShapes Go.WideShapes Go.ChangeAt Go.RowKit Go.Deep

theorem eq_ent (k vm sp : Int) (al : Bool) (pg lv fr mi : Int) (r wr x a n : Bool) (s : Int) (k' vm' sp' : Int) (al' : Bool) (pg' lv' fr' mi' : Int) (r' wr' x' a' n' : Bool) (s' : Int) (w : World) :
    (Op.equalIn 10000 36 (.agg #[.int .i64 k, .int .i64 vm, .int .i64 sp, .bool al, .int .i64 pg, .int .i64 lv, .int .i64 fr, .int .i64 mi, .bool r, .bool wr, .bool x, .bool a, .bool n, .int .i64 s]) (.agg #[.int .i64 k', .int .i64 vm', .int .i64 sp', .bool al', .int .i64 pg', .int .i64 lv', .int .i64 fr', .int .i64 mi', .bool r', .bool wr', .bool x', .bool a', .bool n', .int .i64 s'])).run Try.prog w = .ok (eqE ⟨k, vm, sp, al, pg, lv, fr, mi, ⟨r, wr, x, a, n, s⟩⟩ ⟨k', vm', sp', al', pg', lv', fr', mi', ⟨r', wr', x', a', n', s'⟩⟩) w := by
  rw [run_equalIn_agg w 9999 _ _ _ (by kernel_rfl) (by kernel_rfl)]
  simp only [Program.fieldsOf, Try.underlying36]
  simp [go_sem, eqE]
  by_cases h0 : k = k'
  rotate_left
  · simp [h0]
  by_cases h1 : vm = vm'
  rotate_left
  · simp [h0, h1]
  by_cases h2 : sp = sp'
  rotate_left
  · simp [h0, h1, h2]
  by_cases h3 : al = al'
  rotate_left
  · simp [h0, h1, h2, h3]
  by_cases h4 : pg = pg'
  rotate_left
  · simp [h0, h1, h2, h3, h4]
  by_cases h5 : lv = lv'
  rotate_left
  · simp [h0, h1, h2, h3, h4, h5]
  by_cases h6 : fr = fr'
  rotate_left
  · simp [h0, h1, h2, h3, h4, h5, h6]
  by_cases h7 : mi = mi'
  rotate_left
  · simp [h0, h1, h2, h3, h4, h5, h6, h7]
  by_cases h8 : r = r'
  rotate_left
  · simp [h0, h1, h2, h3, h4, h5, h6, h7, h8]
  by_cases h9 : wr = wr'
  rotate_left
  · simp [h0, h1, h2, h3, h4, h5, h6, h7, h8, h9]
  by_cases h10 : x = x'
  rotate_left
  · simp [h0, h1, h2, h3, h4, h5, h6, h7, h8, h9, h10]
  by_cases h11 : a = a'
  rotate_left
  · simp [h0, h1, h2, h3, h4, h5, h6, h7, h8, h9, h10, h11]
  by_cases h12 : n = n'
  rotate_left
  · simp [h0, h1, h2, h3, h4, h5, h6, h7, h8, h9, h10, h11, h12]
  by_cases h13 : s = s'
  rotate_left
  · simp [h0, h1, h2, h3, h4, h5, h6, h7, h8, h9, h10, h11, h12, h13]
  simp [h0, h1, h2, h3, h4, h5, h6, h7, h8, h9, h10, h11, h12, h13]
@[go_sem high] theorem eql_ent (k vm sp : Int) (al : Bool) (pg lv fr mi : Int) (r wr x a n : Bool) (s : Int) (k' vm' sp' : Int) (al' : Bool) (pg' lv' fr' mi' : Int) (r' wr' x' a' n' : Bool) (s' : Int) (w : World) :
    (binOp .eql 36 (.agg #[.int .i64 k, .int .i64 vm, .int .i64 sp, .bool al, .int .i64 pg, .int .i64 lv, .int .i64 fr, .int .i64 mi, .bool r, .bool wr, .bool x, .bool a, .bool n, .int .i64 s]) (.agg #[.int .i64 k', .int .i64 vm', .int .i64 sp', .bool al', .int .i64 pg', .int .i64 lv', .int .i64 fr', .int .i64 mi', .bool r', .bool wr', .bool x', .bool a', .bool n', .int .i64 s'])).run Try.prog w = .ok (.bool (eqE ⟨k, vm, sp, al, pg, lv, fr, mi, ⟨r, wr, x, a, n, s⟩⟩ ⟨k', vm', sp', al', pg', lv', fr', mi', ⟨r', wr', x', a', n', s'⟩⟩)) w := by
  rw [run_eql_struct, eq_ent]; rfl
@[go_sem high] theorem neq_ent (k vm sp : Int) (al : Bool) (pg lv fr mi : Int) (r wr x a n : Bool) (s : Int) (k' vm' sp' : Int) (al' : Bool) (pg' lv' fr' mi' : Int) (r' wr' x' a' n' : Bool) (s' : Int) (w : World) :
    (binOp .neq 36 (.agg #[.int .i64 k, .int .i64 vm, .int .i64 sp, .bool al, .int .i64 pg, .int .i64 lv, .int .i64 fr, .int .i64 mi, .bool r, .bool wr, .bool x, .bool a, .bool n, .int .i64 s]) (.agg #[.int .i64 k', .int .i64 vm', .int .i64 sp', .bool al', .int .i64 pg', .int .i64 lv', .int .i64 fr', .int .i64 mi', .bool r', .bool wr', .bool x', .bool a', .bool n', .int .i64 s'])).run Try.prog w = .ok (.bool (!eqE ⟨k, vm, sp, al, pg, lv, fr, mi, ⟨r, wr, x, a, n, s⟩⟩ ⟨k', vm', sp', al', pg', lv', fr', mi', ⟨r', wr', x', a', n', s'⟩⟩)) w := by
  rw [run_neq_struct, eq_ent]; rfl
theorem eq_inv (k vm sp pg : Int) (k' vm' sp' pg' : Int) (w : World) :
    (Op.equalIn 10000 32 (.agg #[.int .i64 k, .int .i64 vm, .int .i64 sp, .int .i64 pg]) (.agg #[.int .i64 k', .int .i64 vm', .int .i64 sp', .int .i64 pg'])).run Try.prog w = .ok (eqI ⟨k, vm, sp, pg⟩ ⟨k', vm', sp', pg'⟩) w := by
  rw [run_equalIn_agg w 9999 _ _ _ (by kernel_rfl) (by kernel_rfl)]
  simp only [Program.fieldsOf, Try.underlying32]
  simp [go_sem, eqI]
  by_cases h0 : k = k'
  rotate_left
  · simp [h0]
  by_cases h1 : vm = vm'
  rotate_left
  · simp [h0, h1]
  by_cases h2 : sp = sp'
  rotate_left
  · simp [h0, h1, h2]
  by_cases h3 : pg = pg'
  rotate_left
  · simp [h0, h1, h2, h3]
  simp [h0, h1, h2, h3]
@[go_sem high] theorem eql_inv (k vm sp pg : Int) (k' vm' sp' pg' : Int) (w : World) :
    (binOp .eql 32 (.agg #[.int .i64 k, .int .i64 vm, .int .i64 sp, .int .i64 pg]) (.agg #[.int .i64 k', .int .i64 vm', .int .i64 sp', .int .i64 pg'])).run Try.prog w = .ok (.bool (eqI ⟨k, vm, sp, pg⟩ ⟨k', vm', sp', pg'⟩)) w := by
  rw [run_eql_struct, eq_inv]; rfl
@[go_sem high] theorem neq_inv (k vm sp pg : Int) (k' vm' sp' pg' : Int) (w : World) :
    (binOp .neq 32 (.agg #[.int .i64 k, .int .i64 vm, .int .i64 sp, .int .i64 pg]) (.agg #[.int .i64 k', .int .i64 vm', .int .i64 sp', .int .i64 pg'])).run Try.prog w = .ok (.bool (!eqI ⟨k, vm, sp, pg⟩ ⟨k', vm', sp', pg'⟩)) w := by
  rw [run_neq_struct, eq_inv]; rfl
end Go.Proofs.Ytjohnpbfdpmajaa
