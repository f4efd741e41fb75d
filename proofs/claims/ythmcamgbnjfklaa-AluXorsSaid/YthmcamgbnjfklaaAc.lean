/- Stage 12: the reference's MayDo, Do; what the program's calls are held against; the argument, opened. -/
import Derived.Test.YthmcamgbnjfklaaAb
import Derived.Test.YthmcamgbnjfklaaGd
import Derived.Test.YthmcamgbnjfklaaSq
set_option linter.all false
namespace Go.Proofs.Ythmcamgbnjfklaa
open Go.ChangeShapes Go.WideShapes Go.ChangeAt Go.RowKit Go.Deep

theorem rmaydo_any (x : Ins) (w : World) :
    Calls Try.prog 12 #[insV x] w fun e w' => e = .returned (.bool (mayDo x)) ∧ Below w.heap.size w w' := by
  have HM := Lib.hid (fun W => rinsn_any x W)
  unfold mayDo
  generalize mayI x = mb at *
  obtain ⟨op, d, n, m, i⟩ := x
  unfold insV at *
  simp only at *
  cases mb
  · go_enter Try.func12, Try.ntmps12
    go_wp2_with fail
    refine (HM.out _).mono ?_
    rintro e w1 ⟨rfl, hb1⟩
    go_wp2
    go_ret
    exact ⟨rfl, bel_trans (bel_alloc (Below.refl _ _) _) hb1⟩
  · have X0 := Lib.hid (BoxAt.new w #[.int .i64 op, .int .i64 d, .int .i64 n, .int .i64 m, .int .i64 i] 24)
    go_enter Try.func12, Try.ntmps12
    go_wp2_with fail
    refine (HM.out _).mono ?_
    rintro e w1 ⟨rfl, hb1⟩
    have x0 := (X0.out.below hb1).get 0 (.int .i64 op) rfl
    have HB := Lib.hid hb1
    clear hb1
    go_wp2
    go_ret
    exact ⟨ret_bool (by simp), bel_trans (bel_alloc (Below.refl _ _) _) HB.out⟩
set_option maxRecDepth 100000 in
theorem rdo_any (x : Ins) (a b : BitVec 64) (w : World) :
    Calls Try.prog 13 #[insV x, .int .u64 (u a), .int .u64 (u b)] w fun e w' => e = .returned (.int .u64 (u (doI x.op x.i a b))) ∧ Below w.heap.size w w' := by
  obtain ⟨op, d, n, m, i⟩ := x
  have hcv : IntKind.u64.wrap i = u (immW i) := u_conv i
  unfold insV doI
  simp only
  by_cases e1 : op = 1
  · subst e1
    go_enter Try.func13, Try.ntmps13
    go_wp2
    go_ret
    exact ⟨ret_int (by simp), by go_grown⟩
  · skip
    by_cases e2 : op = 2
    · subst e2
      go_enter Try.func13, Try.ntmps13
      go_wp2
      go_ret
      exact ⟨ret_int (by simp), by go_grown⟩
    · skip
      by_cases e3 : op = 3
      · subst e3
        go_enter Try.func13, Try.ntmps13
        go_wp2
        go_ret
        exact ⟨ret_int (by simp), by go_grown⟩
      · skip
        by_cases e4 : op = 4
        · subst e4
          go_enter Try.func13, Try.ntmps13
          go_wp2
          go_ret
          exact ⟨ret_int (by simp), by go_grown⟩
        · skip
          by_cases e5 : op = 5
          · subst e5
            go_enter Try.func13, Try.ntmps13
            go_wp2
            go_ret
            exact ⟨ret_int (by simp), by go_grown⟩
          · skip
            have q1 : (op == 1) = false := by rw [int_beq]; exact decide_eq_false e1
            have q2 : (op == 2) = false := by rw [int_beq]; exact decide_eq_false e2
            have q3 : (op == 3) = false := by rw [int_beq]; exact decide_eq_false e3
            have q4 : (op == 4) = false := by rw [int_beq]; exact decide_eq_false e4
            have q5 : (op == 5) = false := by rw [int_beq]; exact decide_eq_false e5
            go_enter Try.func13, Try.ntmps13
            go_wp2
            go_ret
            exact ⟨ret_int (by simp [e1, e2, e3, e4, e5]), by go_grown⟩
/-- What the program's calls are held against. -/
def AluDoC : Prop := ∀ (x : Ins) (a b : BitVec 64) (w : World),
  Calls Try.prog 11 #[insV x, .int .u64 (u a), .int .u64 (u b)] w fun e w' => e = .returned (.tuple #[.int .u64 (if mayDo x = true then u (doI x.op x.i a b) else 0), .int .i64 (if mayDo x = true then 0 else 1)]) ∧ Below w.heap.size w w'
/-- All together. -/
def sumX (X : Nat → BitVec 64) : Nat → BitVec 64
  | 0 => 0#64
  | k + 1 => sumX X k + X k
def AluSumC : Prop := ∀ (f : Option Addr) (l c : Nat) (X : Nat → BitVec 64) (w : World), WordsAt w f l X → l ≤ 1000000 →
  Calls Try.prog 15 #[.slice f l c] w fun e w' => e = .returned (.int .u64 (u (sumX X l))) ∧ Below w.heap.size w w'
theorem lnum12_any (n : Int) (w : World) :
    Calls Try.prog 14 #[.int .i64 n] w fun e w' => e = .returned (.int .i64 n) ∧ w = w' := by
  go_enter Try.func14, Try.ntmps14
  go_wp2
  go_ret
  exact ⟨rfl, rfl⟩
theorem reck12 (op : Int) (n m : BitVec 64) (i : Int) (h1 : 1 ≤ op) (h6 : op ≤ 6) (w : World) :
    Calls Try.prog 22 #[.int .i64 op, .int .u64 (u n), .int .u64 (u m), .int .i64 i] w fun e w' => e = .returned (.int .u64 (u (doI op i n m))) ∧ Below w.heap.size w w' :=
  (reck_any op n m i h1 h6 w).mono fun e w' h => by
    obtain ⟨he, j, rfl⟩ := h
    exact ⟨he, below_drewN (Below.refl _ _) j⟩
theorem wakes12_any (PD : AluDoC) (w : World) :
    Calls Try.prog 16 #[] w fun e w' => e = .returned (.bool true) ∧ Below w.heap.size w w' := by
  have H := Lib.hid (fun W => PD ⟨1, 0, 0, 0, -1⟩ 0#64 0#64 W)
  rw [if_pos (show mayDo ⟨1, 0, 0, 0, -1⟩ = true from by decide +kernel), if_pos (show mayDo ⟨1, 0, 0, 0, -1⟩ = true from by decide +kernel), show u (doI 1 (-1) 0#64 0#64) = 18446744073709551615 from by decide +kernel, show u 0#64 = 0 from by decide] at H
  unfold insV at H
  simp only at H
  go_enter Try.func16, Try.ntmps16
  go_wp2_with fail
  refine (H.out _).mono ?_
  rintro e w1 ⟨rfl, hb1⟩
  go_wp2_with fail
  refine (lnum12_any _ _).mono ?_
  rintro e w2 ⟨rfl, rfl⟩
  go_wp2
  go_ret
  exact ⟨rfl, hb1⟩
/-- What a question is. -/
structure Q12 where
  x : Ins
  a : BitVec 64
  b : BitVec 64
  f : Option Addr
  l : Nat
  c : Nat
  X : Nat → BitVec 64
def ask12V (q : Q12) : Array Value := #[.int .i64 q.x.op, .int .i64 q.x.d, .int .i64 q.x.n, .int .i64 q.x.m, .int .i64 q.x.i, .int .u64 (u q.a), .int .u64 (u q.b), .slice q.f q.l q.c]
structure Ok12 (W : World) (q : Q12) : Prop where
  words : WordsAt W q.f q.l q.X
  n1 : q.l ≤ 1000000000000000
theorem Ok12.below {W w : World} {q : Q12} (h : Ok12 W q) (hb : Below W.heap.size W w) : Ok12 w q := ⟨h.words.below hb, h.n1⟩
section
variable {H : Type} {enc : TypeId × Value → H} {w : World} {base : Nat} {held : Bool}
theorem c_ins12 : Try.prog.cellsOf 24 = 5 := by kernel_rfl
theorem c_ask12 : Try.prog.cellsOf 28 = 8 := by kernel_rfl
theorem b_ask12 : Try.prog.bytesOf 28 = 80 := by kernel_rfl
theorem c_u64x : Try.prog.cellsOf 25 = 1 := by kernel_rfl
theorem c_u64s : Try.prog.cellsOf 26 = 1 := by kernel_rfl
theorem c_int12 : Try.prog.cellsOf 3 = 1 := by kernel_rfl
theorem ins_cells12 {n : Nat} {cs : List Value} {y : DataW H × List MemPlace} (hlen : cs.length = 5) (h : DataW.trod enc Try.prog w base (fun _ => true) held n 24 cs = some y) :
    ∃ f : Ins, cs = [.int .i64 f.op, .int .i64 f.d, .int .i64 f.n, .int .i64 f.m, .int .i64 f.i] := by
  match cs, hlen with
  | [v0, v1, v2, v3, v4], _ =>
    obtain ⟨_, _, t0⟩ := part_of Try.underlying24 h 0 0 1 3 ⟨_, rfl, rfl, rfl⟩ c_int12
    obtain ⟨_, _, t1⟩ := part_of Try.underlying24 h 1 1 1 3 ⟨_, rfl, rfl, rfl⟩ c_int12
    obtain ⟨_, _, t2⟩ := part_of Try.underlying24 h 2 2 1 3 ⟨_, rfl, rfl, rfl⟩ c_int12
    obtain ⟨_, _, t3⟩ := part_of Try.underlying24 h 3 3 1 3 ⟨_, rfl, rfl, rfl⟩ c_int12
    obtain ⟨_, _, t4⟩ := part_of Try.underlying24 h 4 4 1 3 ⟨_, rfl, rfl, rfl⟩ c_int12
    obtain ⟨a0, h0, _⟩ := int_cellI t0
    obtain ⟨a1, h1, _⟩ := int_cellI t1
    obtain ⟨a2, h2, _⟩ := int_cellI t2
    obtain ⟨a3, h3, _⟩ := int_cellI t3
    obtain ⟨a4, h4, _⟩ := int_cellI t4
    simp at h0 h1 h2 h3 h4
    exact ⟨⟨a0, a1, a2, a3, a4⟩, by rw [h0, h1, h2, h3, h4]⟩
theorem ask12_lite {n : Nat} {cs : List Value} {y : DataW H × List MemPlace} (hlen : cs.length = 8) (h : DataW.trod enc Try.prog w base (fun _ => true) held n 28 cs = some y) (hz : Lite Try.prog 28 y.1) :
    ∃ q : Q12, cs = (ask12V q).toList ∧ Ok12 w q := by
  match cs, hlen with
  | [v0, v1, v2, v3, v4, v5, v6, v7], _ =>
    obtain ⟨_, _, t0, _⟩ := part_lite Try.underlying28 h hz 0 0 5 24 ⟨_, rfl, rfl, rfl⟩ c_ins12
    obtain ⟨_, _, t1, _⟩ := part_lite Try.underlying28 h hz 1 5 1 25 ⟨_, rfl, rfl, rfl⟩ c_u64x
    obtain ⟨_, _, t2, _⟩ := part_lite Try.underlying28 h hz 2 6 1 25 ⟨_, rfl, rfl, rfl⟩ c_u64x
    obtain ⟨_, _, t3, z3⟩ := part_lite Try.underlying28 h hz 3 7 1 26 ⟨_, rfl, rfl, rfl⟩ c_u64s
    obtain ⟨x, h0⟩ := ins_cells12 rfl t0
    obtain ⟨a, h1⟩ := word_cells t1
    obtain ⟨b, h2⟩ := word_cells t2
    obtain ⟨f, l, c, X, h3, a1, a2, a3⟩ := words_cap t3 z3
    simp at h0 h1 h2
    obtain ⟨e0, e1, e2, e3, e4⟩ := h0
    exact ⟨⟨x, a, b, f, l, c, X⟩, by rw [e0, e1, e2, e3, e4, h1, h2, h3]; rfl, a3, a1⟩
theorem asks12 {n : Nat} {c : Value} {y : DataW H × List MemPlace} (h : DataW.trod enc Try.prog w base (fun _ => true) held n 22 [c] = some y) (hz : Lite Try.prog 22 y.1) :
    ∃ (f : Option Addr) (l cap : Nat) (q : Nat → Q12), c = .slice f l cap ∧ l ≤ 1000000000000000 ∧ SeqAt 8 ask12V Ok12 w f l q := by
  obtain ⟨f, l, cap, q, rfl, hc, hl, hq⟩ := seq_of ask12V Ok12 ⟨ins0, 0, 0, none, 0, 0, fun _ => 0⟩ Try.underlying22 c_ask12 (by decide) b_ask12 (by decide) (fun hl ht hz => ask12_lite hl ht hz) h hz
  have := reach_small
  exact ⟨f, l, cap, q, rfl, by omega, hq⟩
end
end Go.Proofs.Ythmcamgbnjfklaa
