/- An argument that is a slice of structs, opened: rows of cells, whatever the struct. -/
import Derived.Test.YtlflfpohglgopaaBx
set_option linter.all false
namespace Go.Proofs.Ytlflfpohglgopaa
open Go.ChangeShapes Go.WideShapes Go.ChangeAt Go.RowKit Go.Deep

/-- A number that an int has. -/
def InI (a : Int) : Prop := a ≤ 9223372036854775807 ∧ -9223372036854775808 ≤ a

/-- A row of N cells in memory. -/
structure RowAt (W : World) (b o N : Nat) (cs : Array Value) : Prop where
  lt : b < W.heap.size
  c : ∀ j, j < N → W.cell? ⟨b, o + j, none⟩ = cs[j]?
theorem RowAt.below {W w : World} {b o N : Nat} {cs : Array Value} (h : RowAt W b o N cs) (hb : Below W.heap.size W w) : RowAt w b o N cs :=
  ⟨Nat.lt_of_lt_of_le h.lt hb.size, fun j hj => (hb.cell (p := ⟨b, o + j, none⟩) h.lt).trans (h.c j hj)⟩
theorem RowAt.get {W : World} {b o N : Nat} {cs : Array Value} (h : RowAt W b o N cs) (j : Nat) (v : Value) (hj : j < N) (hv : cs[j]? = some v) : W.cell? ⟨b, o + j, none⟩ = some v := (h.c j hj).trans hv
theorem RowAt.get0 {W : World} {b o N : Nat} {cs : Array Value} (h : RowAt W b o N cs) (v : Value) (hj : 0 < N) (hv : cs[0]? = some v) : W.cell? ⟨b, o, none⟩ = some v := (h.c 0 hj).trans hv

section
variable {H : Type} {enc : TypeId × Value → H} {w : World} {base : Nat} {held : Bool}
theorem int_cellI {n : Nat} {cs : List Value} {y : DataW H × List MemPlace} (h : DataW.trod enc Try.prog w base (fun _ => true) held n 3 cs = some y) :
    ∃ a : Int, cs = [.int .i64 a] ∧ InI a := by
  obtain ⟨a, hc, h0, h1⟩ := int_cells h
  exact ⟨a, hc, h0, h1⟩
theorem rows_of {t e : TypeId} {N n : Nat} {c : Value} {y : DataW H × List MemPlace} {Q : Type} (V : Q → Array Value) (Ok : Q → Prop) (ht : Try.prog.underlying t = some (.slice e)) (hC : Try.prog.cellsOf e = N) (hN : 0 < N)
    (hcell : ∀ {n : Nat} {cs : List Value} {y : DataW H × List MemPlace}, cs.length = N → DataW.trod enc Try.prog w base (fun _ => true) held n e cs = some y → ∃ q, cs = (V q).toList ∧ Ok q)
    (h : DataW.trod enc Try.prog w base (fun _ => true) held n t [c] = some y) :
    (∃ (a : Option Addr) (cap : Nat), c = .slice a 0 cap) ∨
    ∃ (b o len cap : Nat) (q : Nat → Q), c = .slice (some ⟨b, o, none⟩) len cap ∧ len ≤ 9223372036854775807 ∧ ∀ i, i < len → RowAt w b (o + i * N) N (V (q i)) ∧ Ok (q i) := by
  rcases open_slice ht h with ⟨hcs, _⟩ | ⟨a, len, cap, m, n, D, Pl, hcs, _, hl, hm, hmm, _, hi⟩
  · exact .inl ⟨none, 0, by simpa using hcs⟩
  · simp at hcs
    subst hcs
    simp only [if_true] at hmm
    rw [hmm] at hi
    clear hmm
    by_cases hz : len = 0
    · subst hz; exact .inl ⟨_, _, rfl⟩
    · have hel : ∀ i, i < len → ∃ q : Q, (∀ j, j < N → w.cell? ((a.add (i * N)).add j) = (V q)[j]?) ∧ Ok q ∧ (V q).size = N := by
        intro i hil
        obtain ⟨cs, hc, htr⟩ := hi i (by omega)
        rw [hC] at hc
        obtain ⟨_, hlen, hat⟩ := World.cells?_some hc
        obtain ⟨q, hq, hb⟩ := hcell hlen htr
        exact ⟨q, fun j hj => by rw [hat j hj, hq, Array.getElem?_toList], hb, by rw [← hlen, hq, Array.length_toList]⟩
      obtain ⟨q0, hq0, _, hs0⟩ := hel 0 (by omega)
      have hc0 := hq0 0 hN
      have ha : (a.add (0 * N)).add 0 = a := by simp [Addr.add]
      rw [ha, Array.getElem?_eq_getElem (by omega)] at hc0
      have hsp := World.cell?_spot hc0
      obtain ⟨b, o, sp⟩ := a
      simp only at hsp
      subst hsp
      have : ∀ i, i < len → ∃ q : Q, RowAt w b (o + i * N) N (V q) ∧ Ok q := by
        intro i hil
        obtain ⟨q, hq, hb, _⟩ := hel i hil
        refine ⟨q, ⟨cell_block hc0, fun j hj => ?_⟩, hb⟩
        have := hq j hj
        rw [add_none, add_none] at this
        exact this
      have : Nonempty Q := ⟨q0⟩
      have : Inhabited Q := ⟨q0⟩
      obtain ⟨g, hg⟩ := choose_lt ‹∀ i, i < len → ∃ q : Q, RowAt w b (o + i * N) N (V q) ∧ Ok q›
      unfold maxLen at hm
      exact .inr ⟨b, o, len, cap, g, rfl, by omega, hg⟩
end
end Go.Proofs.Ytlflfpohglgopaa
