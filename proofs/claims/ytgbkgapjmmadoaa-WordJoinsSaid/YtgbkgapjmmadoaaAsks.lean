/- A slice of bulwarklaw1.Ask, opened. -/
import Derived.Test.YtgbkgapjmmadoaaOpen
import Derived.Test.YtgbkgapjmmadoaaWord
namespace Go.Proofs.Ytgbkgapjmmadoaa
open Go.ChangeShapes Go.WideShapes Go.ChangeAt Go.RowKit Go.Deep

/-- An Ask's four cells, at an address. -/
structure AskAt (W : World) (b o : Nat) (v : BitVec 64) (f : Option Addr) (l c : Nat) (a n : Int) : Prop where
  lt : b < W.heap.size
  c0 : W.cell? ⟨b, o, none⟩ = some (.int .u64 (u v))
  c1 : W.cell? ⟨b, o + 1, none⟩ = some (.slice f l c)
  c2 : W.cell? ⟨b, o + 2, none⟩ = some (.int .i64 a)
  c3 : W.cell? ⟨b, o + 3, none⟩ = some (.int .i64 n)
  n1 : n ≤ 9223372036854775807
  n0 : -9223372036854775808 ≤ n
  a1 : a ≤ 9223372036854775807
  a0 : -9223372036854775808 ≤ a

theorem AskAt.below {W w : World} {b o : Nat} {v : BitVec 64} {f : Option Addr} {l c : Nat} {a n : Int} (h : AskAt W b o v f l c a n) (hb : Below W.heap.size W w) : AskAt w b o v f l c a n :=
  ⟨Nat.lt_of_lt_of_le h.lt hb.size, (hb.cell (p := ⟨b, o, none⟩) h.lt).trans h.c0, (hb.cell (p := ⟨b, o + 1, none⟩) h.lt).trans h.c1, (hb.cell (p := ⟨b, o + 2, none⟩) h.lt).trans h.c2, (hb.cell (p := ⟨b, o + 3, none⟩) h.lt).trans h.c3, h.n1, h.n0, h.a1, h.a0⟩

/-- A field's three cells, at an address. -/
structure FieldAt (W : World) (b o : Nat) (a n : Int) (v : BitVec 64) : Prop where
  lt : b < W.heap.size
  c0 : W.cell? ⟨b, o, none⟩ = some (.int .i64 a)
  c1 : W.cell? ⟨b, o + 1, none⟩ = some (.int .i64 n)
  c2 : W.cell? ⟨b, o + 2, none⟩ = some (.int .u64 (u v))
  n1 : n ≤ 9223372036854775807
  n0 : -9223372036854775808 ≤ n
  a1 : a ≤ 9223372036854775807
  a0 : -9223372036854775808 ≤ a

theorem FieldAt.below {W w : World} {b o : Nat} {v : BitVec 64} {a n : Int} (h : FieldAt W b o a n v) (hb : Below W.heap.size W w) : FieldAt w b o a n v :=
  ⟨Nat.lt_of_lt_of_le h.lt hb.size, (hb.cell (p := ⟨b, o, none⟩) h.lt).trans h.c0, (hb.cell (p := ⟨b, o + 1, none⟩) h.lt).trans h.c1, (hb.cell (p := ⟨b, o + 2, none⟩) h.lt).trans h.c2, h.n1, h.n0, h.a1, h.a0⟩

/-- A slice of fields: it has none, or each has its cells. -/
def FieldsAt (W : World) (f : Option Addr) (l : Nat) : Prop :=
  l = 0 ∨ ∃ (b o : Nat) (A N : Nat → Int) (V : Nat → BitVec 64), f = some ⟨b, o, none⟩ ∧ 0 < l ∧ b < W.heap.size ∧ ∀ j, j < l → FieldAt W b (o + j * 3) (A j) (N j) (V j)

theorem FieldsAt.below {W w : World} {f : Option Addr} {l : Nat} (h : FieldsAt W f l) (hb : Below W.heap.size W w) : FieldsAt w f l := by
  rcases h with h | ⟨b, o, A, N, V, hf, hl, hlt, h⟩
  · exact .inl h
  · exact .inr ⟨b, o, A, N, V, hf, hl, Nat.lt_of_lt_of_le hlt hb.size, fun j hj => (h j hj).below hb⟩

theorem i64_bounds {n : Int} (h : (Lit.int .i64 n).wf = true) : n ≤ 9223372036854775807 ∧ -9223372036854775808 ≤ n := by
  have h1 : IntKind.i64.min = -9223372036854775808 := rfl
  have h2 : IntKind.i64.max = 9223372036854775807 := rfl
  simp only [Lit.wf, Bool.and_eq_true, decide_eq_true_eq] at h
  omega
theorem u64_word {n : Int} (h : (Lit.int .u64 n).wf = true) : ∃ x : BitVec 64, n = u x := by
  have h1 : IntKind.u64.min = 0 := rfl
  have h2 : IntKind.u64.max = 18446744073709551615 := rfl
  simp only [Lit.wf, Bool.and_eq_true, decide_eq_true_eq] at h
  exact u_of n (by omega) (by omega)

theorem cells_ask : Try.prog.cellsOf 26 = 4 := by kernel_rfl
theorem cells_field : Try.prog.cellsOf 39 = 3 := by kernel_rfl

section
variable {H : Type} {enc : TypeId × Value → H} {w : World} {base : Nat} {held : Bool}

theorem int_cell {n : Nat} {c : Value} {y : DataW H × List MemPlace} (h : DataW.trod enc Try.prog w base (fun _ => true) held n 3 [c] = some y) :
    ∃ a : Int, c = .int .i64 a ∧ a ≤ 9223372036854775807 ∧ -9223372036854775808 ≤ a := by
  obtain ⟨a, hc, _, hw⟩ := DataW.trod_int Try.underlying3 h
  simp at hc
  exact ⟨a, hc, i64_bounds hw⟩
theorem word_cell {n : Nat} {c : Value} {y : DataW H × List MemPlace} (h : DataW.trod enc Try.prog w base (fun _ => true) held n 23 [c] = some y) :
    ∃ x : BitVec 64, c = .int .u64 (u x) := by
  obtain ⟨a, hc, _, hw⟩ := DataW.trod_int Try.underlying23 h
  obtain ⟨x, rfl⟩ := u64_word hw
  simp at hc
  exact ⟨x, hc⟩

theorem fields_cells {n : Nat} {c : Value} {y : DataW H × List MemPlace} (h : DataW.trod enc Try.prog w base (fun _ => true) held n 24 [c] = some y) :
    ∃ (f : Option Addr) (l cap : Nat), c = .slice f l cap ∧ FieldsAt w f l := by
  rcases slice_cells Try.underlying24 Try.underlying39 (by kernel_rfl) cells_field (by decide) h with ⟨a, cap, hv, _⟩ | ⟨b, o, len, cap, hv, hl, _, _, hb, hi⟩
  · exact ⟨a, 0, cap, hv, .inl rfl⟩
  · refine ⟨_, len, cap, hv, .inr ?_⟩
    have : ∀ j, j < len → ∃ x : Int × Int × BitVec 64, FieldAt w b (o + j * 3) x.1 x.2.1 x.2.2 := by
      intro j hj
      obtain ⟨c0, _, _, h0, t0⟩ := hi j hj 0 _ rfl
      obtain ⟨c1, _, _, h1, t1⟩ := hi j hj 1 _ rfl
      obtain ⟨c2, _, _, h2, t2⟩ := hi j hj 2 _ rfl
      obtain ⟨a, rfl, a1, a0⟩ := int_cell t0
      obtain ⟨n, rfl, n1, n0⟩ := int_cell t1
      obtain ⟨x, rfl⟩ := word_cell t2
      exact ⟨(a, n, x), hb, h0, h1, h2, n1, n0, a1, a0⟩
    obtain ⟨g, hg⟩ := choose_lt this
    exact ⟨b, o, fun j => (g j).1, fun j => (g j).2.1, fun j => (g j).2.2, rfl, hl, hb, hg⟩

/-- The argument of a law of stage 1. -/
theorem asks_cells {n : Nat} {c : Value} {y : DataW H × List MemPlace} (h : DataW.trod enc Try.prog w base (fun _ => true) held n 22 [c] = some y) :
    (∃ (a : Option Addr) (cap : Nat), c = .slice a 0 cap) ∨
    ∃ (b o len cap : Nat) (V : Nat → BitVec 64) (F : Nat → Option Addr) (L C : Nat → Nat) (A N : Nat → Int), c = .slice (some ⟨b, o, none⟩) len cap ∧ len ≤ 9223372036854775807 ∧
      ∀ i, i < len → AskAt w b (o + i * 4) (V i) (F i) (L i) (C i) (A i) (N i) ∧ FieldsAt w (F i) (L i) := by
  rcases slice_cells Try.underlying22 Try.underlying26 (by kernel_rfl) cells_ask (by decide) h with ⟨a, cap, hv, _⟩ | ⟨b, o, len, cap, hv, hl, hle, hm, hb, hi⟩
  · exact .inl ⟨a, cap, hv⟩
  · refine .inr ⟨b, o, len, cap, ?_⟩
    have : ∀ i, i < len → ∃ x : BitVec 64 × Option Addr × Nat × Nat × Int × Int, AskAt w b (o + i * 4) x.1 x.2.1 x.2.2.1 x.2.2.2.1 x.2.2.2.2.1 x.2.2.2.2.2 ∧ FieldsAt w x.2.1 x.2.2.1 := by
      intro i hlt
      obtain ⟨c0, _, _, h0, t0⟩ := hi i hlt 0 _ rfl
      obtain ⟨c1, _, _, h1, t1⟩ := hi i hlt 1 _ rfl
      obtain ⟨c2, _, _, h2, t2⟩ := hi i hlt 2 _ rfl
      obtain ⟨c3, _, _, h3, t3⟩ := hi i hlt 3 _ rfl
      obtain ⟨x, rfl⟩ := word_cell t0
      obtain ⟨f, l, cp, rfl, hf⟩ := fields_cells t1
      obtain ⟨a, rfl, a1, a0⟩ := int_cell t2
      obtain ⟨n, rfl, n1, n0⟩ := int_cell t3
      exact ⟨(x, f, l, cp, a, n), ⟨hb, h0, h1, h2, h3, n1, n0, a1, a0⟩, hf⟩
    obtain ⟨g, hg⟩ := choose_lt this
    unfold maxLen at hm
    exact ⟨fun i => (g i).1, fun i => (g i).2.1, fun i => (g i).2.2.1, fun i => (g i).2.2.2.1, fun i => (g i).2.2.2.2.1, fun i => (g i).2.2.2.2.2, hv, by omega, hg⟩
end
end Go.Proofs.Ytgbkgapjmmadoaa
