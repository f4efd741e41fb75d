/- Stage 6: what the program's calls are held against; the argument, opened; wakes. -/
import Derived.Test.YtnklpfnmpnaegaaPa
namespace Go.Proofs.Ytnklpfnmpnaegaa
open Go.ChangeShapes Go.WideShapes Go.ChangeAt Go.RowKit Go.Deep

def MayC : Prop := ∀ (t : Atr) (acc : Int) (w : World),
  Calls Try.prog 6 #[atrV t, .int .i64 acc] w fun e w' => e = .returned (.tuple #[.bool (numB acc 2 && mayA t acc), .int .i64 (if numB acc 2 = true then 0 else 1)]) ∧ Below w.heap.size w w'
def FlagC : Prop := ∀ (t : Atr) (acc st lv pg : Int) (w : World),
  Calls Try.prog 7 #[atrV t, .int .i64 acc, .int .i64 st, .int .i64 lv, .int .i64 pg] w fun e w' => e = .returned (.tuple #[fltV (if numB acc 2 = true then flagA t acc st lv pg else flt0), .int .i64 (if numB acc 2 = true then 0 else 1)]) ∧ Below w.heap.size w w'
def BothC : Prop := ∀ (f : Option Addr) (n c : Nat) (L : List Atr) (w : World), RowsAt KA w f L → n = L.length → L.length ≤ 100000 →
  Calls Try.prog 13 #[.slice f n c] w fun e w' => e = .returned (atrV (bothL L)) ∧ Below w.heap.size w w'

theorem lnum6_any (n : Int) (w : World) :
    Calls Try.prog 11 #[.int .i64 n] w fun e w' => e = .returned (.int .i64 n) ∧ w = w' := by
  go_enter Try.func11, Try.ntmps11
  go_wp2
  go_ret
  exact ⟨rfl, rfl⟩
theorem wakes6_any (PB : BothC) (w : World) :
    Calls Try.prog 12 #[] w fun e w' => e = .returned (.bool true) ∧ Below w.heap.size w w' := by
  have HB := Lib.hid (fun W => PB none 0 0 [] W (RowsAt.nil _ _) rfl (by decide))
  have hq := eqA_self both1
  go_enter Try.func12, Try.ntmps12
  go_wp2_with fail
  refine (HB.out _).mono ?_
  rintro e w1 ⟨rfl, hb1⟩
  unfold atrV atrC bothL
  simp only [List.foldl_nil, both1]
  go_wp2
  go_ret
  exact ⟨rfl, hb1⟩
structure Q6 where
  f : Option Addr
  n : Nat
  c : Nat
  L : List Atr
  acc : Int
  st : Int
  lv : Int
  pg : Int
def ask6V (q : Q6) : Array Value := #[.slice q.f q.n q.c, .int .i64 q.acc, .int .i64 q.st, .int .i64 q.lv, .int .i64 q.pg]
structure Ok6 (W : World) (q : Q6) : Prop where
  rows : RowsAt KA W q.f q.L
  len : q.n = q.L.length
  n1 : q.n ≤ 1000000000000000
  nil : q.f = none → q.c = 0
theorem Ok6.below {W w : World} {q : Q6} (h : Ok6 W q) (hb : Below W.heap.size W w) : Ok6 w q := ⟨h.rows.below hb, h.len, h.n1, h.nil⟩
section
variable {H : Type} {enc : TypeId × Value → H} {w : World} {base : Nat} {held : Bool}
theorem c_atr6 : Try.prog.cellsOf 30 = 6 := by kernel_rfl
theorem b_atr6 : Try.prog.bytesOf 30 = 16 := by kernel_rfl
theorem c_atrs6 : Try.prog.cellsOf 23 = 1 := by kernel_rfl
theorem atr_cells6 {n : Nat} {cs : List Value} {y : DataW H × List MemPlace} (hlen : cs.length = 6) (h : DataW.trod enc Try.prog w base (fun _ => true) held n 30 cs = some y) :
    ∃ t : Atr, cs = (atrC t).toList := by
  match cs, hlen with
  | [v0, v1, v2, v3, v4, v5], _ =>
    obtain ⟨_, _, t0⟩ := part_of Try.underlying30 h 0 0 1 4 ⟨_, rfl, rfl, rfl⟩ c_bool
    obtain ⟨_, _, t1⟩ := part_of Try.underlying30 h 1 1 1 4 ⟨_, rfl, rfl, rfl⟩ c_bool
    obtain ⟨_, _, t2⟩ := part_of Try.underlying30 h 2 2 1 4 ⟨_, rfl, rfl, rfl⟩ c_bool
    obtain ⟨_, _, t3⟩ := part_of Try.underlying30 h 3 3 1 4 ⟨_, rfl, rfl, rfl⟩ c_bool
    obtain ⟨_, _, t4⟩ := part_of Try.underlying30 h 4 4 1 4 ⟨_, rfl, rfl, rfl⟩ c_bool
    obtain ⟨_, _, t5⟩ := part_of Try.underlying30 h 5 5 1 3 ⟨_, rfl, rfl, rfl⟩ c_int
    obtain ⟨r, h0⟩ := bool_cells t0
    obtain ⟨x1, h1⟩ := bool_cells t1
    obtain ⟨x2, h2⟩ := bool_cells t2
    obtain ⟨x3, h3⟩ := bool_cells t3
    obtain ⟨x4, h4⟩ := bool_cells t4
    obtain ⟨s, h5, _⟩ := int_cells t5
    simp at h0 h1 h2 h3 h4 h5
    exact ⟨⟨r, x1, x2, x3, x4, s⟩, by rw [h0, h1, h2, h3, h4, h5]; rfl⟩
/-- A slice of attributes of an argument. -/
theorem atrs_cap {n : Nat} {c : Value} {y : DataW H × List MemPlace} (h : DataW.trod enc Try.prog w base (fun _ => true) held n 23 [c] = some y) (hz : Lite Try.prog 23 y.1) :
    ∃ (f : Option Addr) (l cap : Nat) (L : List Atr), c = .slice f l cap ∧ l = L.length ∧ l ≤ 1000000000000000 ∧ RowsAt KA w f L ∧ (f = none → cap = 0) := by
  obtain ⟨f, l, cap, q, rfl, hc, hl, hq, hn⟩ := seq_nil atrC (fun _ _ => True) atr0 Try.underlying23 c_atr6 (by decide) b_atr6 (by decide) (fun hl ht _ => by
    obtain ⟨a, rfl⟩ := atr_cells6 hl ht
    exact ⟨a, rfl, trivial⟩) h hz
  have := reach_small
  exact ⟨f, l, cap, (List.range l).map q, rfl, by simp, by omega, RowsAt.of_seq (K := KA) hq, hn⟩
theorem c_ask6 : Try.prog.cellsOf 25 = 5 := by kernel_rfl
theorem b_ask6 : Try.prog.bytesOf 25 = 56 := by kernel_rfl
theorem ask6_lite {n : Nat} {cs : List Value} {y : DataW H × List MemPlace} (hlen : cs.length = 5) (h : DataW.trod enc Try.prog w base (fun _ => true) held n 25 cs = some y) (hz : Lite Try.prog 25 y.1) :
    ∃ q : Q6, cs = (ask6V q).toList ∧ Ok6 w q := by
  match cs, hlen with
  | [v0, v1, v2, v3, v4], _ =>
    obtain ⟨_, _, t0, z0⟩ := part_lite Try.underlying25 h hz 0 0 1 23 ⟨_, rfl, rfl, rfl⟩ c_atrs6
    obtain ⟨_, _, t1, _⟩ := part_lite Try.underlying25 h hz 1 1 1 3 ⟨_, rfl, rfl, rfl⟩ c_int
    obtain ⟨_, _, t2, _⟩ := part_lite Try.underlying25 h hz 2 2 1 3 ⟨_, rfl, rfl, rfl⟩ c_int
    obtain ⟨_, _, t3, _⟩ := part_lite Try.underlying25 h hz 3 3 1 3 ⟨_, rfl, rfl, rfl⟩ c_int
    obtain ⟨_, _, t4, _⟩ := part_lite Try.underlying25 h hz 4 4 1 3 ⟨_, rfl, rfl, rfl⟩ c_int
    obtain ⟨f, l, c, L, h0, a1, a2, a3, a4⟩ := atrs_cap t0 z0
    obtain ⟨x1, h1, _⟩ := int_cellI t1
    obtain ⟨x2, h2, _⟩ := int_cellI t2
    obtain ⟨x3, h3, _⟩ := int_cellI t3
    obtain ⟨x4, h4, _⟩ := int_cellI t4
    simp at h0 h1 h2 h3 h4
    exact ⟨⟨f, l, c, L, x1, x2, x3, x4⟩, by rw [h0, h1, h2, h3, h4]; rfl, a3, a1, a2, a4⟩
/-- The argument of stage 6's laws. -/
theorem asks6 {n : Nat} {c : Value} {y : DataW H × List MemPlace} (h : DataW.trod enc Try.prog w base (fun _ => true) held n 22 [c] = some y) (hz : Lite Try.prog 22 y.1) :
    ∃ (f : Option Addr) (l cap : Nat) (q : Nat → Q6), c = .slice f l cap ∧ l ≤ 1000000000000000 ∧ SeqAt 5 ask6V Ok6 w f l q := by
  obtain ⟨f, l, cap, q, rfl, hc, hl, hq⟩ := seq_of ask6V Ok6 ⟨none, 0, 0, [], 0, 0, 0, 0⟩ Try.underlying22 c_ask6 (by decide) b_ask6 (by decide) (fun hl ht hz => ask6_lite hl ht hz) h hz
  have := reach_small
  exact ⟨f, l, cap, q, rfl, by omega, hq⟩
end
end Go.Proofs.Ytnklpfnmpnaegaa
