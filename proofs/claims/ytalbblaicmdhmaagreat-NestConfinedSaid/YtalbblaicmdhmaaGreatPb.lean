/- Stage 6: what the program's calls are held against; the argument, opened; wakes. -/
import Derived.Test.YtalbblaicmdhmaaGreatPa
set_option linter.all false
namespace Go.Proofs.YtalbblaicmdhmaaGreat
open Go.ChangeShapes Go.WideShapes Go.ChangeAt Go.RowKit Go.Deep

def MayC : Prop := ∀ (t : Atr) (acc : Int) (w : World),
  Calls Tryz.prog 42 #[atrV t, .int .i64 acc] w fun e w' => e = .returned (.tuple #[.bool (numB acc 2 && mayA t acc), .int .i64 (if numB acc 2 = true then 0 else 1)]) ∧ Below w.heap.size w w'
def FlagC : Prop := ∀ (t : Atr) (acc st lv pg : Int) (w : World),
  Calls Tryz.prog 48 #[atrV t, .int .i64 acc, .int .i64 st, .int .i64 lv, .int .i64 pg] w fun e w' => e = .returned (.tuple #[fltV (if numB acc 2 = true then flagA t acc st lv pg else flt0), .int .i64 (if numB acc 2 = true then 0 else 1)]) ∧ Below w.heap.size w w'
def BothC : Prop := ∀ (f : Option Addr) (n c : Nat) (L : List Atr) (w : World), RowsAt KA w f L → n = L.length → L.length ≤ 100000 →
  Calls Tryz.prog 36 #[.slice f n c] w fun e w' => e = .returned (atrV (bothL L)) ∧ Below w.heap.size w w'

structure Q6 where
  f : Option Addr
  n : Nat
  c : Nat
  L : List Atr
  acc : Int
  st : Int
  lv : Int
  pg : Int
def ask6V (q : Q6) : Array Value := #[.slice q.f q.n q.c, .int .i64 q.acc, .int .i64 q.st, .int .i64 q.lv, .int .i64 q.pg]
structure Ok6 (W : World) (q : Q6) : Prop where
  rows : RowsAt KA W q.f q.L
  len : q.n = q.L.length
  n1 : q.n ≤ 1000000000000000
  nil : q.f = none → q.c = 0
theorem Ok6.below {W w : World} {q : Q6} (h : Ok6 W q) (hb : Below W.heap.size W w) : Ok6 w q := ⟨h.rows.below hb, h.len, h.n1, h.nil⟩
section
variable {H : Type} {enc : TypeId × Value → H} {w : World} {base : Nat} {held : Bool}
theorem c_atr6 : Tryz.prog.cellsOf 38 = 6 := by kernel_rfl
theorem b_atr6 : Tryz.prog.bytesOf 38 = 16 := by kernel_rfl
theorem c_atrs6 : Tryz.prog.cellsOf 77 = 1 := by kernel_rfl
theorem atr_cells6 {n : Nat} {cs : List Value} {y : DataW H × List MemPlace} (hlen : cs.length = 6) (h : DataW.trod enc Tryz.prog w base (fun _ => true) held n 38 cs = some y) :
    ∃ t : Atr, cs = (atrC t).toList := by
  match cs, hlen with
  | [v0, v1, v2, v3, v4, v5], _ =>
    obtain ⟨_, _, t0⟩ := part_of Tryz.underlying38 h 0 0 1 4 ⟨_, rfl, rfl, rfl⟩ c_bool
    obtain ⟨_, _, t1⟩ := part_of Tryz.underlying38 h 1 1 1 4 ⟨_, rfl, rfl, rfl⟩ c_bool
    obtain ⟨_, _, t2⟩ := part_of Tryz.underlying38 h 2 2 1 4 ⟨_, rfl, rfl, rfl⟩ c_bool
    obtain ⟨_, _, t3⟩ := part_of Tryz.underlying38 h 3 3 1 4 ⟨_, rfl, rfl, rfl⟩ c_bool
    obtain ⟨_, _, t4⟩ := part_of Tryz.underlying38 h 4 4 1 4 ⟨_, rfl, rfl, rfl⟩ c_bool
    obtain ⟨_, _, t5⟩ := part_of Tryz.underlying38 h 5 5 1 3 ⟨_, rfl, rfl, rfl⟩ c_int
    obtain ⟨r, h0⟩ := bool_cells t0
    obtain ⟨x1, h1⟩ := bool_cells t1
    obtain ⟨x2, h2⟩ := bool_cells t2
    obtain ⟨x3, h3⟩ := bool_cells t3
    obtain ⟨x4, h4⟩ := bool_cells t4
    obtain ⟨s, h5, _⟩ := int_cells t5
    simp at h0 h1 h2 h3 h4 h5
    exact ⟨⟨r, x1, x2, x3, x4, s⟩, by rw [h0, h1, h2, h3, h4, h5]; rfl⟩
/-- A slice of attributes of an argument. -/
theorem atrs_cap {n : Nat} {c : Value} {y : DataW H × List MemPlace} (h : DataW.trod enc Tryz.prog w base (fun _ => true) held n 77 [c] = some y) (hz : Lite Tryz.prog 77 y.1) :
    ∃ (f : Option Addr) (l cap : Nat) (L : List Atr), c = .slice f l cap ∧ l = L.length ∧ l ≤ 1000000000000000 ∧ RowsAt KA w f L ∧ (f = none → cap = 0) := by
  obtain ⟨f, l, cap, q, rfl, hc, hl, hq, hn⟩ := seq_nil atrC (fun _ _ => True) atr0 Tryz.underlying77 c_atr6 (by decide) b_atr6 (by decide) (fun hl ht _ => by
    obtain ⟨a, rfl⟩ := atr_cells6 hl ht
    exact ⟨a, rfl, trivial⟩) h hz
  have := reach_small
  exact ⟨f, l, cap, (List.range l).map q, rfl, by simp, by omega, RowsAt.of_seq (K := KA) hq, hn⟩
end
end Go.Proofs.YtalbblaicmdhmaaGreat
