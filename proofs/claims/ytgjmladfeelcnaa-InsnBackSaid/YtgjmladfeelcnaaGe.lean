/- Stage 11: '==' of instructions; the argument, opened; num, wakes. -/
import Derived.Test.YtgjmladfeelcnaaGc
import Derived.Test.YtgjmladfeelcnaaSl
import Derived.Test.YtgjmladfeelcnaaOpen
import Derived.Laws.StructEq
set_option linter.all false
namespace Go.Proofs.Ytgjmladfeelcnaa
open Go.ChangeShapes Go.WideShapes Go.ChangeAt Go.RowKit Go.Deep

def eqIn (a b : Ins) : Bool := decide (a = b)
theorem eqIn_self (a : Ins) : eqIn a a = true := by simp [eqIn]
theorem eqIn_no {a b : Ins} (h : a ≠ b) : eqIn a b = false := by simp [eqIn, h]
theorem eq_ins (op d n m im : Int) (op' d' n' m' im' : Int) (w : World) :
    (Op.equalIn 10000 28 (.agg #[.int .i64 op, .int .i64 d, .int .i64 n, .int .i64 m, .int .i64 im]) (.agg #[.int .i64 op', .int .i64 d', .int .i64 n', .int .i64 m', .int .i64 im'])).run Try.prog w = .ok (eqIn (⟨op, d, n, m, im⟩ : Ins) (⟨op', d', n', m', im'⟩ : Ins)) w := by
  rw [run_equalIn_agg w 9999 _ _ _ (by kernel_rfl) (by kernel_rfl)]
  simp only [Program.fieldsOf, Try.underlying28]
  simp [go_sem, eqIn]
  by_cases h0 : op = op'
  rotate_left
  · simp [h0]
  by_cases h1 : d = d'
  rotate_left
  · simp [h0, h1]
  by_cases h2 : n = n'
  rotate_left
  · simp [h0, h1, h2]
  by_cases h3 : m = m'
  rotate_left
  · simp [h0, h1, h2, h3]
  by_cases h4 : im = im'
  rotate_left
  · simp [h0, h1, h2, h3, h4]
  simp [h0, h1, h2, h3, h4]
@[go_sem high] theorem eql_ins (op d n m im : Int) (op' d' n' m' im' : Int) (w : World) :
    (binOp .eql 28 (.agg #[.int .i64 op, .int .i64 d, .int .i64 n, .int .i64 m, .int .i64 im]) (.agg #[.int .i64 op', .int .i64 d', .int .i64 n', .int .i64 m', .int .i64 im'])).run Try.prog w = .ok (.bool (eqIn (⟨op, d, n, m, im⟩ : Ins) (⟨op', d', n', m', im'⟩ : Ins))) w := by
  rw [run_eql_struct, eq_ins]; rfl
@[go_sem high] theorem neq_ins (op d n m im : Int) (op' d' n' m' im' : Int) (w : World) :
    (binOp .neq 28 (.agg #[.int .i64 op, .int .i64 d, .int .i64 n, .int .i64 m, .int .i64 im]) (.agg #[.int .i64 op', .int .i64 d', .int .i64 n', .int .i64 m', .int .i64 im'])).run Try.prog w = .ok (.bool (!eqIn (⟨op, d, n, m, im⟩ : Ins) (⟨op', d', n', m', im'⟩ : Ins))) w := by
  rw [run_neq_struct, eq_ins]; rfl
theorem lnum11_any (n : Int) (w : World) :
    Calls Try.prog 26 #[.int .i64 n] w fun e w' => e = .returned (.int .i64 n) ∧ w = w' := by
  go_enter Try.func26, Try.ntmps26
  go_wp2
  go_ret
  exact ⟨rfl, rfl⟩
theorem wakes11_any (w : World) :
    Calls Try.prog 28 #[] w fun e w' => e = .returned (.bool true) ∧ Below w.heap.size w w' := by
  have H := Lib.hid (fun W => inWordC ⟨1, 0, 0, 0, 1⟩ W)
  rw [show (if mayI ⟨1, 0, 0, 0, 1⟩ = true then wordI ⟨1, 0, 0, 0, 1⟩ else 0) = 134217729 from by decide +kernel, show (if mayI ⟨1, 0, 0, 0, 1⟩ = true then (0 : Int) else 1) = 0 from by decide +kernel] at H
  unfold insV at H
  simp only at H
  go_enter Try.func28, Try.ntmps28
  go_wp2_with fail
  refine (H.out _).mono ?_
  rintro e w1 ⟨rfl, hb1⟩
  go_wp2_with fail
  refine (lnum11_any _ _).mono ?_
  rintro e w2 ⟨rfl, rfl⟩
  go_wp2
  go_ret
  exact ⟨rfl, hb1⟩
/-- What a question is. -/
structure Q11 where
  x : Ins
  w : Int
def ask11V (q : Q11) : Array Value := #[.int .i64 q.x.op, .int .i64 q.x.d, .int .i64 q.x.n, .int .i64 q.x.m, .int .i64 q.x.i, .int .u32 q.w]
section
variable {H : Type} {enc : TypeId × Value → H} {w : World} {base : Nat} {held : Bool}
theorem c_ins11 : Try.prog.cellsOf 28 = 5 := by kernel_rfl
theorem c_ask11 : Try.prog.cellsOf 30 = 6 := by kernel_rfl
theorem c_u32 : Try.prog.cellsOf 23 = 1 := by kernel_rfl
theorem c_int11 : Try.prog.cellsOf 3 = 1 := by kernel_rfl
theorem u32_cells {n : Nat} {cs : List Value} {y : DataW H × List MemPlace} (h : DataW.trod enc Try.prog w base (fun _ => true) held n 23 cs = some y) :
    ∃ a : Int, cs = [.int .u32 a] ∧ 0 ≤ a ∧ a ≤ 4294967295 := by
  obtain ⟨a, hc, _, hw⟩ := DataW.trod_int Try.underlying23 h
  have h1 : IntKind.u32.min = 0 := rfl
  have h2 : IntKind.u32.max = 4294967295 := rfl
  simp only [Lit.wf, Bool.and_eq_true, decide_eq_true_eq] at hw
  exact ⟨a, hc, by omega, by omega⟩
theorem ins_cells11 {n : Nat} {cs : List Value} {y : DataW H × List MemPlace} (hlen : cs.length = 5) (h : DataW.trod enc Try.prog w base (fun _ => true) held n 28 cs = some y) :
    ∃ f : Ins, cs = [.int .i64 f.op, .int .i64 f.d, .int .i64 f.n, .int .i64 f.m, .int .i64 f.i] := by
  match cs, hlen with
  | [v0, v1, v2, v3, v4], _ =>
    obtain ⟨_, _, t0⟩ := part_of Try.underlying28 h 0 0 1 3 ⟨_, rfl, rfl, rfl⟩ c_int11
    obtain ⟨_, _, t1⟩ := part_of Try.underlying28 h 1 1 1 3 ⟨_, rfl, rfl, rfl⟩ c_int11
    obtain ⟨_, _, t2⟩ := part_of Try.underlying28 h 2 2 1 3 ⟨_, rfl, rfl, rfl⟩ c_int11
    obtain ⟨_, _, t3⟩ := part_of Try.underlying28 h 3 3 1 3 ⟨_, rfl, rfl, rfl⟩ c_int11
    obtain ⟨_, _, t4⟩ := part_of Try.underlying28 h 4 4 1 3 ⟨_, rfl, rfl, rfl⟩ c_int11
    obtain ⟨a0, h0, _⟩ := int_cellI t0
    obtain ⟨a1, h1, _⟩ := int_cellI t1
    obtain ⟨a2, h2, _⟩ := int_cellI t2
    obtain ⟨a3, h3, _⟩ := int_cellI t3
    obtain ⟨a4, h4, _⟩ := int_cellI t4
    simp at h0 h1 h2 h3 h4
    exact ⟨⟨a0, a1, a2, a3, a4⟩, by rw [h0, h1, h2, h3, h4]⟩
theorem ask11_cells {n : Nat} {cs : List Value} {y : DataW H × List MemPlace} (hlen : cs.length = 6) (h : DataW.trod enc Try.prog w base (fun _ => true) held n 30 cs = some y) :
    ∃ q : Q11, cs = (ask11V q).toList ∧ (0 ≤ q.w ∧ q.w ≤ 4294967295) := by
  match cs, hlen with
  | [v0, v1, v2, v3, v4, v5], _ =>
    obtain ⟨_, _, t0⟩ := part_of Try.underlying30 h 0 0 5 28 ⟨_, rfl, rfl, rfl⟩ c_ins11
    obtain ⟨_, _, t1⟩ := part_of Try.underlying30 h 1 5 1 23 ⟨_, rfl, rfl, rfl⟩ c_u32
    obtain ⟨f, h0⟩ := ins_cells11 rfl t0
    obtain ⟨a, h1, hb⟩ := u32_cells t1
    simp at h0 h1
    obtain ⟨e0, e1, e2, e3, e4⟩ := h0
    exact ⟨⟨f, a⟩, by rw [h1, e0, e1, e2, e3, e4]; rfl, hb⟩
theorem asks11 {n : Nat} {c : Value} {y : DataW H × List MemPlace} (h : DataW.trod enc Try.prog w base (fun _ => true) held n 22 [c] = some y) :
    (∃ (a : Option Addr) (cap : Nat), c = .slice a 0 cap) ∨
    ∃ (b o len cap : Nat) (q : Nat → Q11), c = .slice (some ⟨b, o, none⟩) len cap ∧ len ≤ 9223372036854775807 ∧ ∀ i, i < len → RowAt w b (o + i * 6) 6 (ask11V (q i)) ∧ (0 ≤ (q i).w ∧ (q i).w ≤ 4294967295) :=
  rows_of ask11V (fun q => 0 ≤ q.w ∧ q.w ≤ 4294967295) Try.underlying22 c_ask11 (by decide) (fun hl ht => ask11_cells hl ht) h
end
end Go.Proofs.Ytgjmladfeelcnaa
