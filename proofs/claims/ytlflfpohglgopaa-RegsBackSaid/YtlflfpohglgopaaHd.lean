/- Stage 13: what the program's calls are held against; the argument, opened; num, wakes. -/
import Derived.Test.YtlflfpohglgopaaHc
set_option linter.all false
namespace Go.Proofs.Ytlflfpohglgopaa
open Go.ChangeShapes Go.WideShapes Go.ChangeAt Go.RowKit Go.Deep

def rtV (r : Rt) : Value := .agg #[.bool r.o, .int .i64 r.f, .int .i64 r.t]
/-- What the program's calls are held against. -/
def RgGetC : Prop := ∀ (r : Rg) (k : Int) (w : World),
  Calls Try.prog 5 #[regV r, .int .i64 k] w fun e w' => e = .returned (.tuple #[.int .u64 (if numB k 5 = true then u (getR r k) else 0), .int .i64 (if numB k 5 = true then 0 else 1)]) ∧ Below w.heap.size w w'
def RgSetC : Prop := ∀ (r : Rg) (k : Int) (v : BitVec 64) (w : World),
  Calls Try.prog 6 #[regV r, .int .i64 k, .int .u64 (u v)] w fun e w' => e = .returned (.tuple #[regV (if numB k 5 = true then setR r k v else rg0), .int .i64 (if numB k 5 = true then 0 else 1)]) ∧ Below w.heap.size w w'
def RgOneC : Prop := ∀ (r : Rg) (w : World), Calls Try.prog 11 #[regV r] w fun e w' => e = .returned (rtV (oneR r)) ∧ Below w.heap.size w w'
def RgTrapC : Prop := ∀ (r : Rg) (a b : BitVec 64) (w : World), Calls Try.prog 13 #[regV r, .int .u64 (u a), .int .u64 (u b)] w fun e w' => e = .returned (regV (trapR r a b)) ∧ Below w.heap.size w w'
def RgBackC : Prop := ∀ (r : Rg) (w : World), Calls Try.prog 15 #[regV r] w fun e w' => e = .returned (regV (backR r)) ∧ Below w.heap.size w w'
def RgNextC : Prop := ∀ (r : Rg) (f : Option Addr) (l c : Nat) (X : Nat → Int) (w : World), NumsAt w f l X → l ≤ 1000000 →
  Calls Try.prog 17 #[regV r, .slice f l c] w fun e w' => e = .returned (regV (nextR r X l)) ∧ Below w.heap.size w w'
theorem lnum13_any (n : Int) (w : World) :
    Calls Try.prog 10 #[.int .i64 n] w fun e w' => e = .returned (.int .i64 n) ∧ w = w' := by
  go_enter Try.func10, Try.ntmps10
  go_wp2
  go_ret
  exact ⟨rfl, rfl⟩
theorem wakes13_any (PN : RgNextC) (w : World) :
    Calls Try.prog 19 #[] w fun e w' => e = .returned (.bool true) ∧ Below w.heap.size w w' := by
  have H := Lib.hid (fun W => PN rg0 none 0 0 (fun _ => 0) W (fun j hj => absurd hj (by omega)) (by decide))
  have h0 : regV rg0 = .agg #[.int .u64 0, .int .u64 0, .int .u64 0, .int .u64 0, .int .u64 0, .int .u64 0, .int .u64 0, .int .u64 0, .int .u64 0, .int .u64 0, .int .u64 0, .int .u64 0, .int .u64 0, .int .u64 0, .int .u64 0] := by unfold regV rg0; simp; decide
  have h1 : regV (nextR rg0 (fun _ => 0) 0) = .agg #[.int .u64 0, .int .u64 0, .int .u64 0, .int .u64 0, .int .u64 0, .int .u64 0, .int .u64 0, .int .u64 0, .int .u64 4, .int .u64 0, .int .u64 0, .int .u64 0, .int .u64 0, .int .u64 0, .int .u64 0] := by unfold regV rg0 nextR farP; simp; decide
  rw [h0, h1] at H
  clear h0 h1
  have hf : ∀ W, (Instr.field 28 (.agg #[.int .u64 0, .int .u64 0, .int .u64 0, .int .u64 0, .int .u64 0, .int .u64 0, .int .u64 0, .int .u64 0, .int .u64 4, .int .u64 0, .int .u64 0, .int .u64 0, .int .u64 0, .int .u64 0, .int .u64 0]) 1).run Try.prog W = .ok (.int .u64 4) W := fun W => by kernel_rfl
  go_enter Try.func19, Try.ntmps19
  go_wp2_with fail
  refine (H.out _).mono ?_
  rintro e w1 ⟨rfl, hb1⟩
  go_wp2
  go_ret
  exact ⟨rfl, hb1⟩
/-- What a question is. -/
structure Q13 where
  r : Rg
  k : Int
  v : BitVec 64
  f : Option Addr
  l : Nat
  c : Nat
  X : Nat → Int
def ask13V (q : Q13) : Array Value := #[.int .u64 (u q.r.x0), .int .u64 (u q.r.x1), .int .u64 (u q.r.x2), .int .u64 (u q.r.x3), .int .u64 (u q.r.x4), .int .u64 (u q.r.x5), .int .u64 (u q.r.x6), .int .u64 (u q.r.x7), .int .u64 (u q.r.pc), .int .u64 (u q.r.tt), .int .u64 (u q.r.sc), .int .u64 (u q.r.vb), .int .u64 (u q.r.el), .int .u64 (u q.r.es), .int .u64 (u q.r.fa), .int .i64 q.k, .int .u64 (u q.v), .slice q.f q.l q.c]
structure Ok13 (W : World) (q : Q13) : Prop where
  nums : NumsAt W q.f q.l q.X
  n1 : q.l ≤ 1000000000000000
theorem Ok13.below {W w : World} {q : Q13} (h : Ok13 W q) (hb : Below W.heap.size W w) : Ok13 w q := ⟨h.nums.below hb, h.n1⟩
section
variable {H : Type} {enc : TypeId × Value → H} {w : World} {base : Nat} {held : Bool}
theorem c_regs13 : Try.prog.cellsOf 28 = 15 := by kernel_rfl
theorem c_sys13 : Try.prog.cellsOf 26 = 6 := by kernel_rfl
theorem c_arr13 : Try.prog.cellsOf 24 = 8 := by kernel_rfl
theorem c_ask13 : Try.prog.cellsOf 31 = 18 := by kernel_rfl
theorem b_ask13 : Try.prog.bytesOf 31 = 160 := by kernel_rfl
theorem c_u6413 : Try.prog.cellsOf 23 = 1 := by kernel_rfl
theorem c_ints13 : Try.prog.cellsOf 29 = 1 := by kernel_rfl
theorem c_int13 : Try.prog.cellsOf 3 = 1 := by kernel_rfl
theorem arr_cells13 {n : Nat} {cs : List Value} {y : DataW H × List MemPlace} (hlen : cs.length = 8) (h : DataW.trod enc Try.prog w base (fun _ => true) held n 24 cs = some y) :
    ∃ x0 x1 x2 x3 x4 x5 x6 x7 : BitVec 64, cs = [.int .u64 (u x0), .int .u64 (u x1), .int .u64 (u x2), .int .u64 (u x3), .int .u64 (u x4), .int .u64 (u x5), .int .u64 (u x6), .int .u64 (u x7)] := by
  obtain ⟨xs, m, _, _, _, hx, hi⟩ := DataW.trod_array Try.underlying24 h
  rw [c_u6413] at hi
  match cs, hlen with
  | [v0, v1, v2, v3, v4, v5, v6, v7], _ =>
    have el : ∀ i (hi8 : i < 8), ∃ q, xs[i]? = some q := fun i hi8 => ⟨_, List.getElem?_eq_getElem (by omega)⟩
    obtain ⟨q0, hq0⟩ := el 0 (by decide)
    obtain ⟨x0, hx0⟩ := word_cells ((hi 0 (by decide)).trans hq0)
    obtain ⟨q1, hq1⟩ := el 1 (by decide)
    obtain ⟨x1, hx1⟩ := word_cells ((hi 1 (by decide)).trans hq1)
    obtain ⟨q2, hq2⟩ := el 2 (by decide)
    obtain ⟨x2, hx2⟩ := word_cells ((hi 2 (by decide)).trans hq2)
    obtain ⟨q3, hq3⟩ := el 3 (by decide)
    obtain ⟨x3, hx3⟩ := word_cells ((hi 3 (by decide)).trans hq3)
    obtain ⟨q4, hq4⟩ := el 4 (by decide)
    obtain ⟨x4, hx4⟩ := word_cells ((hi 4 (by decide)).trans hq4)
    obtain ⟨q5, hq5⟩ := el 5 (by decide)
    obtain ⟨x5, hx5⟩ := word_cells ((hi 5 (by decide)).trans hq5)
    obtain ⟨q6, hq6⟩ := el 6 (by decide)
    obtain ⟨x6, hx6⟩ := word_cells ((hi 6 (by decide)).trans hq6)
    obtain ⟨q7, hq7⟩ := el 7 (by decide)
    obtain ⟨x7, hx7⟩ := word_cells ((hi 7 (by decide)).trans hq7)
    simp at hx0 hx1 hx2 hx3 hx4 hx5 hx6 hx7
    exact ⟨x0, x1, x2, x3, x4, x5, x6, x7, by rw [hx0, hx1, hx2, hx3, hx4, hx5, hx6, hx7]⟩
theorem sys_cells13 {n : Nat} {cs : List Value} {y : DataW H × List MemPlace} (hlen : cs.length = 6) (h : DataW.trod enc Try.prog w base (fun _ => true) held n 26 cs = some y) :
    ∃ x0 x1 x2 x3 x4 x5 : BitVec 64, cs = [.int .u64 (u x0), .int .u64 (u x1), .int .u64 (u x2), .int .u64 (u x3), .int .u64 (u x4), .int .u64 (u x5)] := by
  match cs, hlen with
  | [v0, v1, v2, v3, v4, v5], _ =>
    obtain ⟨_, _, t0⟩ := part_of Try.underlying26 h 0 0 1 23 ⟨_, rfl, rfl, rfl⟩ c_u6413
    obtain ⟨x0, hx0⟩ := word_cells t0
    obtain ⟨_, _, t1⟩ := part_of Try.underlying26 h 1 1 1 23 ⟨_, rfl, rfl, rfl⟩ c_u6413
    obtain ⟨x1, hx1⟩ := word_cells t1
    obtain ⟨_, _, t2⟩ := part_of Try.underlying26 h 2 2 1 23 ⟨_, rfl, rfl, rfl⟩ c_u6413
    obtain ⟨x2, hx2⟩ := word_cells t2
    obtain ⟨_, _, t3⟩ := part_of Try.underlying26 h 3 3 1 23 ⟨_, rfl, rfl, rfl⟩ c_u6413
    obtain ⟨x3, hx3⟩ := word_cells t3
    obtain ⟨_, _, t4⟩ := part_of Try.underlying26 h 4 4 1 23 ⟨_, rfl, rfl, rfl⟩ c_u6413
    obtain ⟨x4, hx4⟩ := word_cells t4
    obtain ⟨_, _, t5⟩ := part_of Try.underlying26 h 5 5 1 23 ⟨_, rfl, rfl, rfl⟩ c_u6413
    obtain ⟨x5, hx5⟩ := word_cells t5
    simp at hx0 hx1 hx2 hx3 hx4 hx5
    exact ⟨x0, x1, x2, x3, x4, x5, by rw [hx0, hx1, hx2, hx3, hx4, hx5]⟩
theorem regs_cells13 {n : Nat} {cs : List Value} {y : DataW H × List MemPlace} (hlen : cs.length = 15) (h : DataW.trod enc Try.prog w base (fun _ => true) held n 28 cs = some y) :
    ∃ r : Rg, cs = [.int .u64 (u r.x0), .int .u64 (u r.x1), .int .u64 (u r.x2), .int .u64 (u r.x3), .int .u64 (u r.x4), .int .u64 (u r.x5), .int .u64 (u r.x6), .int .u64 (u r.x7), .int .u64 (u r.pc), .int .u64 (u r.tt), .int .u64 (u r.sc), .int .u64 (u r.vb), .int .u64 (u r.el), .int .u64 (u r.es), .int .u64 (u r.fa)] := by
  match cs, hlen with
  | [v0, v1, v2, v3, v4, v5, v6, v7, v8, v9, v10, v11, v12, v13, v14], _ =>
    obtain ⟨_, _, t0⟩ := part_of Try.underlying28 h 0 0 8 24 ⟨_, rfl, rfl, rfl⟩ c_arr13
    obtain ⟨_, _, t1⟩ := part_of Try.underlying28 h 1 8 1 23 ⟨_, rfl, rfl, rfl⟩ c_u6413
    obtain ⟨_, _, t2⟩ := part_of Try.underlying28 h 2 9 6 26 ⟨_, rfl, rfl, rfl⟩ c_sys13
    obtain ⟨x0, x1, x2, x3, x4, x5, x6, x7, h0⟩ := arr_cells13 rfl t0
    obtain ⟨pc, h1⟩ := word_cells t1
    obtain ⟨s0, s1, s2, s3, s4, s5, h2⟩ := sys_cells13 rfl t2
    simp at h0 h1 h2
    obtain ⟨a0, a1, a2, a3, a4, a5, a6, a7⟩ := h0
    obtain ⟨b0, b1, b2, b3, b4, b5⟩ := h2
    exact ⟨⟨x0, x1, x2, x3, x4, x5, x6, x7, pc, s0, s1, s2, s3, s4, s5⟩, by rw [a0, a1, a2, a3, a4, a5, a6, a7, h1, b0, b1, b2, b3, b4, b5]⟩
theorem ask13_lite {n : Nat} {cs : List Value} {y : DataW H × List MemPlace} (hlen : cs.length = 18) (h : DataW.trod enc Try.prog w base (fun _ => true) held n 31 cs = some y) (hz : Lite Try.prog 31 y.1) :
    ∃ q : Q13, cs = (ask13V q).toList ∧ Ok13 w q := by
  match cs, hlen with
  | [v0, v1, v2, v3, v4, v5, v6, v7, v8, v9, v10, v11, v12, v13, v14, v15, v16, v17], _ =>
    obtain ⟨_, _, t0, _⟩ := part_lite Try.underlying31 h hz 0 0 15 28 ⟨_, rfl, rfl, rfl⟩ c_regs13
    obtain ⟨_, _, t1, _⟩ := part_lite Try.underlying31 h hz 1 15 1 3 ⟨_, rfl, rfl, rfl⟩ c_int13
    obtain ⟨_, _, t2, _⟩ := part_lite Try.underlying31 h hz 2 16 1 23 ⟨_, rfl, rfl, rfl⟩ c_u6413
    obtain ⟨_, _, t3, z3⟩ := part_lite Try.underlying31 h hz 3 17 1 29 ⟨_, rfl, rfl, rfl⟩ c_ints13
    obtain ⟨r, h0⟩ := regs_cells13 rfl t0
    obtain ⟨k, h1, _⟩ := int_cellI t1
    obtain ⟨v, h2⟩ := word_cells t2
    obtain ⟨f, l, c, X, h3, a1, a2, a3⟩ := nums_cap t3 z3
    simp at h0 h1 h2
    obtain ⟨e0, e1, e2, e3, e4, e5, e6, e7, e8, e9, e10, e11, e12, e13, e14⟩ := h0
    exact ⟨⟨r, k, v, f, l, c, X⟩, by rw [e0, e1, e2, e3, e4, e5, e6, e7, e8, e9, e10, e11, e12, e13, e14, h1, h2, h3]; rfl, a3, a1⟩
theorem asks13 {n : Nat} {c : Value} {y : DataW H × List MemPlace} (h : DataW.trod enc Try.prog w base (fun _ => true) held n 22 [c] = some y) (hz : Lite Try.prog 22 y.1) :
    ∃ (f : Option Addr) (l cap : Nat) (q : Nat → Q13), c = .slice f l cap ∧ l ≤ 1000000000000000 ∧ SeqAt 18 ask13V Ok13 w f l q := by
  obtain ⟨f, l, cap, q, rfl, hc, hl, hq⟩ := seq_of ask13V Ok13 ⟨rg0, 0, 0, none, 0, 0, fun _ => 0⟩ Try.underlying22 c_ask13 (by decide) b_ask13 (by decide) (fun hl ht hz => ask13_lite hl ht hz) h hz
  have := reach_small
  exact ⟨f, l, cap, q, rfl, by omega, hq⟩
end
end Go.Proofs.Ytlflfpohglgopaa
