/- Registers, plainly; '==' of them. -/
import Derived.Test.YtlflfpohglgopaaRb
import Derived.Test.YtlflfpohglgopaaOpen
import Derived.Laws.StructEq
set_option linter.all false
namespace Go.Proofs.Ytlflfpohglgopaa
open Go.ChangeShapes Go.WideShapes Go.ChangeAt Go.RowKit Go.Deep

/-- What a processor has for one who runs. -/
structure Rg where
  x0 : BitVec 64
  x1 : BitVec 64
  x2 : BitVec 64
  x3 : BitVec 64
  x4 : BitVec 64
  x5 : BitVec 64
  x6 : BitVec 64
  x7 : BitVec 64
  pc : BitVec 64
  tt : BitVec 64
  sc : BitVec 64
  vb : BitVec 64
  el : BitVec 64
  es : BitVec 64
  fa : BitVec 64
deriving DecidableEq
def regV (r : Rg) : Value := .agg #[.int .u64 (u r.x0), .int .u64 (u r.x1), .int .u64 (u r.x2), .int .u64 (u r.x3), .int .u64 (u r.x4), .int .u64 (u r.x5), .int .u64 (u r.x6), .int .u64 (u r.x7), .int .u64 (u r.pc), .int .u64 (u r.tt), .int .u64 (u r.sc), .int .u64 (u r.vb), .int .u64 (u r.el), .int .u64 (u r.es), .int .u64 (u r.fa)]
def rg0 : Rg := ⟨0, 0, 0, 0, 0, 0, 0, 0, 0, 0, 0, 0, 0, 0, 0⟩
def eqRg (a b : Rg) : Bool := decide (a = b)
@[go_sem] theorem eqRg_self (a : Rg) : eqRg a a = true := by simp [eqRg]
set_option maxRecDepth 100000 in
@[go_sem high] theorem eq_arr8 (a0 a1 a2 a3 a4 a5 a6 a7 b0 b1 b2 b3 b4 b5 b6 b7 : BitVec 64) (d : Nat) (w : World) :
    (Op.equalIn (d + 2) 24 (.agg #[.int .u64 (u a0), .int .u64 (u a1), .int .u64 (u a2), .int .u64 (u a3), .int .u64 (u a4), .int .u64 (u a5), .int .u64 (u a6), .int .u64 (u a7)]) (.agg #[.int .u64 (u b0), .int .u64 (u b1), .int .u64 (u b2), .int .u64 (u b3), .int .u64 (u b4), .int .u64 (u b5), .int .u64 (u b6), .int .u64 (u b7)])).run Try.prog w = .ok (decide (a0 = b0 ∧ a1 = b1 ∧ a2 = b2 ∧ a3 = b3 ∧ a4 = b4 ∧ a5 = b5 ∧ a6 = b6 ∧ a7 = b7)) w := by
  rw [Op.equalIn]
  simp only [Sem.run_bind, run_underlying Try.underlying24, Result.andThen_ok]
  simp [go_sem, List.range']
  simp only [u_inj]
  by_cases h0 : a0 = b0
  rotate_left
  · simp [h0]
  by_cases h1 : a1 = b1
  rotate_left
  · simp [h0, h1]
  by_cases h2 : a2 = b2
  rotate_left
  · simp [h0, h1, h2]
  by_cases h3 : a3 = b3
  rotate_left
  · simp [h0, h1, h2, h3]
  by_cases h4 : a4 = b4
  rotate_left
  · simp [h0, h1, h2, h3, h4]
  by_cases h5 : a5 = b5
  rotate_left
  · simp [h0, h1, h2, h3, h4, h5]
  by_cases h6 : a6 = b6
  rotate_left
  · simp [h0, h1, h2, h3, h4, h5, h6]
  by_cases h7 : a7 = b7
  rotate_left
  · simp [h0, h1, h2, h3, h4, h5, h6, h7]
  simp [h0, h1, h2, h3, h4, h5, h6, h7]
set_option maxHeartbeats 3200000 in
set_option maxRecDepth 100000 in
theorem eq_regs (x0 x1 x2 x3 x4 x5 x6 x7 pc tt sc vb el es fa : BitVec 64) (x0' x1' x2' x3' x4' x5' x6' x7' pc' tt' sc' vb' el' es' fa' : BitVec 64) (w : World) :
    (Op.equalIn 10000 28 (.agg #[.int .u64 (u x0), .int .u64 (u x1), .int .u64 (u x2), .int .u64 (u x3), .int .u64 (u x4), .int .u64 (u x5), .int .u64 (u x6), .int .u64 (u x7), .int .u64 (u pc), .int .u64 (u tt), .int .u64 (u sc), .int .u64 (u vb), .int .u64 (u el), .int .u64 (u es), .int .u64 (u fa)]) (.agg #[.int .u64 (u x0'), .int .u64 (u x1'), .int .u64 (u x2'), .int .u64 (u x3'), .int .u64 (u x4'), .int .u64 (u x5'), .int .u64 (u x6'), .int .u64 (u x7'), .int .u64 (u pc'), .int .u64 (u tt'), .int .u64 (u sc'), .int .u64 (u vb'), .int .u64 (u el'), .int .u64 (u es'), .int .u64 (u fa')])).run Try.prog w = .ok (eqRg (⟨x0, x1, x2, x3, x4, x5, x6, x7, pc, tt, sc, vb, el, es, fa⟩ : Rg) (⟨x0', x1', x2', x3', x4', x5', x6', x7', pc', tt', sc', vb', el', es', fa'⟩ : Rg)) w := by
  rw [run_equalIn_agg w 9999 _ _ _ (by kernel_rfl) (by kernel_rfl)]
  simp only [Program.fieldsOf, Try.underlying28]
  simp [go_sem, eqRg]
  by_cases h0 : x0 = x0'
  rotate_left
  · simp [h0, u_inj]
  by_cases h1 : x1 = x1'
  rotate_left
  · simp [h0, h1, u_inj]
  by_cases h2 : x2 = x2'
  rotate_left
  · simp [h0, h1, h2, u_inj]
  by_cases h3 : x3 = x3'
  rotate_left
  · simp [h0, h1, h2, h3, u_inj]
  by_cases h4 : x4 = x4'
  rotate_left
  · simp [h0, h1, h2, h3, h4, u_inj]
  by_cases h5 : x5 = x5'
  rotate_left
  · simp [h0, h1, h2, h3, h4, h5, u_inj]
  by_cases h6 : x6 = x6'
  rotate_left
  · simp [h0, h1, h2, h3, h4, h5, h6, u_inj]
  by_cases h7 : x7 = x7'
  rotate_left
  · simp [h0, h1, h2, h3, h4, h5, h6, h7, u_inj]
  by_cases h8 : pc = pc'
  rotate_left
  · simp [h0, h1, h2, h3, h4, h5, h6, h7, h8, u_inj]
  by_cases h9 : tt = tt'
  rotate_left
  · simp [h0, h1, h2, h3, h4, h5, h6, h7, h8, h9, u_inj]
  by_cases h10 : sc = sc'
  rotate_left
  · simp [h0, h1, h2, h3, h4, h5, h6, h7, h8, h9, h10, u_inj]
  by_cases h11 : vb = vb'
  rotate_left
  · simp [h0, h1, h2, h3, h4, h5, h6, h7, h8, h9, h10, h11, u_inj]
  by_cases h12 : el = el'
  rotate_left
  · simp [h0, h1, h2, h3, h4, h5, h6, h7, h8, h9, h10, h11, h12, u_inj]
  by_cases h13 : es = es'
  rotate_left
  · simp [h0, h1, h2, h3, h4, h5, h6, h7, h8, h9, h10, h11, h12, h13, u_inj]
  by_cases h14 : fa = fa'
  rotate_left
  · simp [h0, h1, h2, h3, h4, h5, h6, h7, h8, h9, h10, h11, h12, h13, h14, u_inj]
  simp [h0, h1, h2, h3, h4, h5, h6, h7, h8, h9, h10, h11, h12, h13, h14, u_inj]
@[go_sem high] theorem eql_regs (x0 x1 x2 x3 x4 x5 x6 x7 pc tt sc vb el es fa : BitVec 64) (x0' x1' x2' x3' x4' x5' x6' x7' pc' tt' sc' vb' el' es' fa' : BitVec 64) (w : World) :
    (binOp .eql 28 (.agg #[.int .u64 (u x0), .int .u64 (u x1), .int .u64 (u x2), .int .u64 (u x3), .int .u64 (u x4), .int .u64 (u x5), .int .u64 (u x6), .int .u64 (u x7), .int .u64 (u pc), .int .u64 (u tt), .int .u64 (u sc), .int .u64 (u vb), .int .u64 (u el), .int .u64 (u es), .int .u64 (u fa)]) (.agg #[.int .u64 (u x0'), .int .u64 (u x1'), .int .u64 (u x2'), .int .u64 (u x3'), .int .u64 (u x4'), .int .u64 (u x5'), .int .u64 (u x6'), .int .u64 (u x7'), .int .u64 (u pc'), .int .u64 (u tt'), .int .u64 (u sc'), .int .u64 (u vb'), .int .u64 (u el'), .int .u64 (u es'), .int .u64 (u fa')])).run Try.prog w = .ok (.bool (eqRg (⟨x0, x1, x2, x3, x4, x5, x6, x7, pc, tt, sc, vb, el, es, fa⟩ : Rg) (⟨x0', x1', x2', x3', x4', x5', x6', x7', pc', tt', sc', vb', el', es', fa'⟩ : Rg))) w := by
  rw [run_eql_struct, eq_regs]; rfl
@[go_sem high] theorem neq_regs (x0 x1 x2 x3 x4 x5 x6 x7 pc tt sc vb el es fa : BitVec 64) (x0' x1' x2' x3' x4' x5' x6' x7' pc' tt' sc' vb' el' es' fa' : BitVec 64) (w : World) :
    (binOp .neq 28 (.agg #[.int .u64 (u x0), .int .u64 (u x1), .int .u64 (u x2), .int .u64 (u x3), .int .u64 (u x4), .int .u64 (u x5), .int .u64 (u x6), .int .u64 (u x7), .int .u64 (u pc), .int .u64 (u tt), .int .u64 (u sc), .int .u64 (u vb), .int .u64 (u el), .int .u64 (u es), .int .u64 (u fa)]) (.agg #[.int .u64 (u x0'), .int .u64 (u x1'), .int .u64 (u x2'), .int .u64 (u x3'), .int .u64 (u x4'), .int .u64 (u x5'), .int .u64 (u x6'), .int .u64 (u x7'), .int .u64 (u pc'), .int .u64 (u tt'), .int .u64 (u sc'), .int .u64 (u vb'), .int .u64 (u el'), .int .u64 (u es'), .int .u64 (u fa')])).run Try.prog w = .ok (.bool (!eqRg (⟨x0, x1, x2, x3, x4, x5, x6, x7, pc, tt, sc, vb, el, es, fa⟩ : Rg) (⟨x0', x1', x2', x3', x4', x5', x6', x7', pc', tt', sc', vb', el', es', fa'⟩ : Rg))) w := by
  rw [run_neq_struct, eq_regs]; rfl
end Go.Proofs.Ytlflfpohglgopaa
